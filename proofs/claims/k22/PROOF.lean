import PyProof.Rows.All
import Wide.All
import OpenK.AllK
import Wide.FinOn
import Lean
import PyProof.EqAt
import PyProof.EqKinds
import PyProof.TupleCall
import KE.KRevSl
import PyProof.MeetsStr
import PyProof.Rows.MinMaxN
import KE.KTryOn
import PyProof.ExcInit
import PyProof.ExcClass3
import PyProof.ExcBaseAll.ValueError
import PyProof.InstStoreFacts
import ObjForm.Fk.InstStore
import PyProof.ExcArgsOwn
import PyProof.ExcAttrAll.ValueError
import PyProof.PureStr
import PyProof.FString2
import PyProof.Rows.FactsFmt
import PyProof.FactsAll.NoneType_2
import PyProof.NsDelKeeps
import PyProof.IsiBase
import PyProof.DictWalks
import PyProof.AutoListH
import PyProof.AutoSeq1
import KE.KEqDict
import KE.KTab
import PyProof.NeKinds
import PySem.Challenge.RW_bestcalls_k22_sorts_and_kinds_to_come
set_option genSizeOf false
set_option Elab.async false
set_option linter.all false
set_option maxRecDepth 100000
noncomputable section
open Option renaming bind_eq_some_iff→qA,bind_some→qF,map_eq_some_iff→qI,getD_some→qBZ,map_some→qBg,isSome_some→qCn,isSome_map→qCv
open PySem renaming wpAny_bind→qB,wpAny_pure→qH,Expr→qP,mainGlobals→qU,sizeLine→qY,Pos→qe,wpAny_loadPart'→qr,FuncData→qAA,wpAny_truthy_bool→qAC,call_meets→qAD,starEach→qAE,mem_of_lookup→qAF,wpAny_holding→qAI,wpAny_dictEntries→qAj,wpAny_newObj_type→qAn,wpAny_ite_split→qAo,wpAny_callSpecial?_slot→qAt,wpAny_call_entry→qAw,wpAny_of_eq→qA0,wpAny_isInstance→qA2,wpAny_getItem_str_slice→qA9,wpAny_Call_Name_kw→qBA,wpAny_field→qBH,codeAny_mono→qBJ,wpAny_passesOwn→qBT,wpAny_pyIter_tuple→qBa,wpAny_pyIter_list→qBh,wpAny_mono→qBi,typeIs_str→qBj,wpAny_standAt→qBn,post_val_or_str→qBw,tupleKind_room_in1→qB8,wpAny_typeOf→qCL,wpAny_richCompare_same_room→qCZ,wpAny_execs_nil→qCa,wpAny_dictEpoch→qCb,sizeLine_eq→qCc,codeAny_builtin→qCd,wpAny_rule→qCt,wpAny_load→qCu
open PySem.W renaming Frag→qC,nsIn→qW,keepIn→qc,codeIn→qf,fnOf→qi,mg_of→qj,mg_none_of→qz,kia_one→qAU,cellsFrom_some→qCM,kitx_list→qCl,kitx_dict→qCm
open List renaming getElem?_eq_getElem→qD,length_map→qE,size_toArray→qG,all_eq_true→qK,mem_cons_of_mem→qM,getD_eq_getElem?_getD→qQ,length_append→qR,getElem?_eq_some_iff→qT,mem_cons_self→qV,mem_cons→qa,getElem?_set_ne→qb,getElem?_map→qh,mem_append_right→ql,map_cons→qp,getElem?_append_left→qq,getElem?_append_right→qt,lookup_cons→qu,length_cons→qv,length_set→qw,mem_append_left→qy,mem_append→q9,getElem?_set_self→qAH,drop_eq_getElem_cons→qAJ,mem_singleton→qAM,map_append→qAO,nodup_cons→qAQ,getElem_mem→qAR,append_nil→qAV,pairwise_iff_getElem→qAZ,mem_take_iff_getElem→qAa,mem_range→qAb,any_cons→qAc,any_eq_true→qAe,mem_map→qAh,getElem_of_mem→qAi,all_cons→qAm,take_append_of_le_length→qAp,length_take→qAq,drop_length→qAr,length_replicate→qAx,mem_of_mem_take→qAz,length_eq_zero_iff→qA3,find?_cons→qA4,take_of_length_le→qA6,length_range→qA8,map_map→qBD,any_map→qBE,not_mem_nil→qBF,filter_cons→qBG,mem_of_getElem?→qBI,mem_filter→qBK,map_congr_left→qBL,filterMap_cons→qBM,nodup_iff_pairwise_ne→qBQ,pairwise_cons→qBR,nodup_append→qBU,flatMap_cons→qBV,append_assoc→qBW,any_eq_false→qBX,getElem?_replicate→qBb,getElem?_cons_zero→qBc,getElem?_cons_succ→qBd,length_drop→qBe,getElem_map→qBf,map_nil→qBk,getElem?_eq_none→qBl,all_map→qBm,mem_filterMap→qBy,filter_congr→qB1,take_length→qB6,mem_flatMap→qB7,mem_zipIdx_iff_getElem?→qB9,dropLast_concat_getLast→qCA,of_mem_zip→qCD,map_id→qCE,length_filter_le→qCg,dropLast_eq_take→qCh,length_dropLast→qCo,idxOf_cons_self→qCp,getElem?_range→qCw
open Bool renaming false_ne_true→qJ,and_eq_true→qZ,eq_iff_iff→qx,false_eq_true→qAu,false_and→qBS,not_eq_true'→qBY,and_false→qBt,eq_false_iff→qB2,true_and→qCW,not_true→qCX,false_or→qCY,or_eq_true_iff→qCx
open PySem.Heap renaming get?_push_of_some→qL,lt_size→qX,get?_push_size→qk,get?_none_of_le→qBq,size_push→qBr,get?_update_other→qCe,get?_update_self→qCi
open Nat renaming le_refl→qN,lt_of_lt_of_le→qg,ne_of_lt→qAB,le_trans→qAd,zero_le→qAf,lt_irrefl→qAk,le_of_lt→qBp,le_of_succ_le→qB4
open Option.some renaming inj→qS
open PySem.Str renaming ofString→qd
open PySem.F renaming plainAttrs_list→qm,slot_dict_eq_refl→qAG,type_list_append→qAK,slot_list_append→qAL,args_dict_eq_2→qAP,entry_dict_eq→qAS,slot_dict_eq→qAW,slot_tuple_iterator_next→qA1,called_set→qA5,args_int_eq_2→qBs,entry_int_eq→qBz,args_tuple_add_2→qCC,type_list_index→qCH,slot_list_index→qCI,entry_tuple_add→qCJ,slot_tuple_add→qCN,args_tuple_iterator_next_1→qCO,sub_dict_dict→qCR,entry_tuple_iterator_next→qCS,slot_dict_ne→qCT,slot_dict_eq→qCU,slot_NoneType_eq_refl→qCs
open PySem.PassesOwn renaming never→qo
open PyProof.Rows renaming slot_tuple_getitem→qAN,callWith_type1→qA7
open PySem.Builtin.SmallTypes renaming nextOf→qAT
open PySem.PyData renaming eqv→qAX,canLayAll0→qAY,depthAll→qAv,strOk→qBP
open PySem.SeqAt renaming shaped→qAg,canLay_of_shaped→qAs
open Int renaming emod_lt_of_pos→qAl,emod_nonneg→qAy,toNat_natCast→qBB,lt_trans→qCq,ediv_one→qCr
open Ne renaming symm→qBC
open Std.Legacy.Range renaming forIn_eq_forIn_range'→qBN
open PySem.PyData.tuple renaming inj→qBO
open Sum.inr renaming inj→qBo
open Array renaming length_toList→qBu,toList_inj→qB5,getElem?_eq_getElem→qCK
open PySem.Paired renaming length→qBv
open PySem.Calls renaming spliced_cons→qBx,spliced_nil→qB0,Name_function_global→qCG,callWith_builtin→qCV
open PySem.Around renaming in1_units→qB3,under_plainId→qCf
open List.cons renaming inj→qCB
open PySem.Heap.SameBut renaming update→qCF
open PySem.SeqAt.EqAt renaming str_int→qCP,int_str→qCQ
open Function renaming comp_def→qCj
open PySem.Value renaming isStrOf_shape→qCk
namespace L2
open PySem PySem.Spec PyProof.Rows
noncomputable abbrev Key:=Sum Int Str
noncomputable def zti:Key->Value->Bool
 | .inl k,v=>Value.isInt k v
 | .inr x,v=>Value.isStrOf x v
noncomputable def keyH(w:World):Key->Int
 | .inl k=>hashInt k
 | .inr x=>hashStr w x
theorem zdd:∀{k:Key}{v:Value},zti k v=true->(∃i t,k=Sum.inl i/\v=Value.int i t)\/(∃x t,k=Sum.inr x/\v=Value.str x t)
 | .inl i,v,h=>by
  obtain⟨t,e⟩:=Value.isInt_shape (k:=i) (v:=v) h
  exact .inl ⟨i,t,rfl,e⟩
 | .inr x,v,h=>by
  obtain⟨t,e⟩:=qCk (x:=x) (v:=v) h
  exact .inr ⟨x,t,rfl,e⟩
theorem zacs(i:Int)(t:Tok):zti (.inl i) (.int i t)=true:=by simp[zti,Value.isInt]
theorem zact(x:Str)(t:Tok):zti (.inr x) (.str x t)=true:=by simp[zti,Value.isStrOf]
theorem zanj(a b:Int):decide ((Sum.inl a:Key)=Sum.inl b)=(a==b):=by
 by_cases e:a=b
 ·subst e;simp
 ·have h:¬(Sum.inl a:Key)=Sum.inl b:=λq=>e (Sum.inl.inj q)
  rw[decide_eq_false h]
  exact(beq_eq_false_iff_ne.mpr e).symm
theorem zank(a b:Str):decide ((Sum.inr a:Key)=Sum.inr b)=decide (a=b):=by
 by_cases e:a=b
 ·subst e;simp
 ·have h:¬(Sum.inr a:Key)=Sum.inr b:=λq=>e (qBo q)
  rw[decide_eq_false h,decide_eq_false e]
theorem zanl(a:Int)(b:Str):decide ((Sum.inl a:Key)=Sum.inr b)=false:=decide_eq_false (λq=>nomatch q)
theorem zanm(a:Str)(b:Int):decide ((Sum.inr a:Key)=Sum.inl b)=false:=decide_eq_false (λq=>nomatch q)
noncomputable def zbs(prog:Program)(w:World):PySem.KeyKind prog w Key where
 is:=zti
 hash:=keyH w
 inj:=λv a b ha hb=>by
  rcases zdd ha with⟨i,t,rfl,rfl⟩|⟨x,t,rfl,rfl⟩
  ·rcases zdd hb with⟨j,u,rfl,e⟩|⟨y,u,rfl,e⟩
   ·injection e with e1 _;rw[e1]
   ·exact nomatch e
  ·rcases zdd hb with⟨j,u,rfl,e⟩|⟨y,u,rfl,e⟩
   ·exact nomatch e
   ·injection e with e1 _;rw[e1]
 byValue:=λk v h=>by
  rcases zdd h with⟨i,t,rfl,rfl⟩|⟨x,t,rfl,rfl⟩<;>rfl
 pyHash:=λhv h=>by
  rcases zdd hv with⟨i,t,rfl,rfl⟩|⟨x,t,rfl,rfl⟩
  ·exact wpAny_pyHash_int h
  ·exact wpAny_pyHash_str h
 eqBool:=λhu hv h=>by
  rcases zdd hu with⟨i,t,rfl,rfl⟩|⟨x,t,rfl,rfl⟩
  ·rcases zdd hv with⟨j,u,rfl,rfl⟩|⟨y,u,rfl,rfl⟩
   ·rw[zanj]at h;exact wpAny_eqBool_int h
   ·rw[zanl]at h;exact qCQ i t y u _ _ _ _ h
  ·rcases zdd hv with⟨j,u,rfl,rfl⟩|⟨y,u,rfl,rfl⟩
   ·rw[zanm]at h;exact qCP x t j u _ _ _ _ h
   ·rw[zank]at h;exact wpAny_eqBool_str h
 «strs»:=λk x t v h=>by
  rcases zdd h with⟨i,u,rfl,e⟩|⟨y,u,rfl,e⟩
  ·exact nomatch e
  ·injection e with e1 _
   subst e1
   cases v<;>rfl
theorem zya(prog:Program)(w:World)(i:Int)(t:Tok):(zbs prog w).is (.inl i) (.int i t)=true:=zacs i t
theorem zyb(prog:Program)(w:World)(x:Str)(t:Tok):(zbs prog w).is (.inr x) (.str x t)=true:=zact x t
inductive V where
 | non|bl (b:Bool)|int (i:Int)|str (x:Str)|byt (b:Array UInt8)|flt (b:UInt64)|ref (a:Addr)|ty (n:String)
 deriving DecidableEq
noncomputable def RelV:V->Value->Prop
 | .non,u=>u=Value.none
 | .bl b,u=>u=Value.bool b
 | .int i,u=>∃t,u=Value.int i t
 | .str x,u=>∃t,u=Value.str x t
 | .byt b,u=>∃t,u=Value.bytes b t
 | .flt b,u=>∃t,u=Value.float b t
 | .ref a,u=>u=Value.ref a
 | .ty n,u=>u=Value.type n
noncomputable abbrev Vals:List V->List Value->Prop:=Paired RelV
theorem Vals.length{xs:List V}{us:List Value}(r:Vals xs us):xs.length=us.length:=qBv r
theorem Vals.get:∀{xs:List V}{us:List Value}{i:Nat}{x:V},Vals xs us->xs[i]?=some x->∃u,us[i]?=some u/\RelV x u
 | _,_,_,_,.nil,e=>by simp at e
 | _,_,0,_,.cons r _,e=>by simp at e;subst e;exact⟨_,rfl,r⟩
 | _,_,i+1,x,.cons _ t,e=>by
  obtain⟨u,h1,h2⟩:=Vals.get (i:=i) (x:=x) t (by simpa using e)
  exact⟨u,by simpa using h1,h2⟩
theorem Vals.set{x:V}{u:Value}(r:RelV x u):∀{xs:List V}{us:List Value}(i:Nat),Vals xs us->Vals (xs.set i x) (us.set i u)
 | _,_,_,.nil=>.nil
 | _,_,0,.cons _ t=>.cons r t
 | _,_,i+1,.cons q t=>.cons q (Vals.set r i t)
theorem Vals.append:∀{xs ys:List V}{us ws:List Value},Vals xs us->Vals ys ws->Vals (xs++ys) (us++ws)
 | _,_,_,_,.nil,s=>s
 | _,_,_,_,.cons r t,s=>.cons r (Vals.append t s)
theorem Vals.take:∀{xs:List V}{us:List Value}(n:Nat),Vals xs us->Vals (xs.take n) (us.take n)
 | _,_,0,_=>.nil
 | _,_,_+1,.nil=>.nil
 | _,_,n+1,.cons r t=>.cons r (Vals.take n t)
theorem Vals.drop:∀{xs:List V}{us:List Value}(n:Nat),Vals xs us->Vals (xs.drop n) (us.drop n)
 | _,_,0,r=>r
 | _,_,_+1,.nil=>.nil
 | _,_,n+1,.cons _ t=>Vals.drop n t
noncomputable def RelO:Option V->Option Value->Prop
 | some v,some u=>RelV v u
 | none,none=>True
 | _,_=>False
noncomputable def KV{κ:Type}:List (κ×V)->List (κ×Value)->Prop:=Paired λ(p:κ×V)(q:κ×Value)=>p.1=q.1/\RelV p.2 q.2
noncomputable def kV:Key->V
 | .inl i=>.int i
 | .inr x=>.str x
inductive HO where
  | lst (xs:List V)
  | tup (xs:List V)
  | dK (kvs:List (Key×V))|dT (kvs:List (List Key×V))
  | set (S:Int->Bool) (n:Nat)
  | ins (C dx:Addr) (fs:List (Str×V))
  | own (x:Addr)
  | xd (fs:List (Str×V))
  | met (f x:Addr)
  | rng (lo hi:Int)
  | frz (o:Obj) (u:HO)
  | tbl (ps:Array Value)
  | ext (φ:Heap->Prop)
noncomputable abbrev Hp:=Addr->Option HO
noncomputable def upd(H:Hp)(a:Addr)(o:HO):Hp:=λb=>if b=a then some o else H b
theorem zbh{H:Hp}{a:Addr}{o:HO}:upd H a o a=some o:=by unfold upd;rw[if_pos rfl]
theorem zbn{H:Hp}{a b:Addr}{o:HO}(h:b≠a):upd H a o b=H b:=by unfold upd;rw[if_neg h]
theorem zarb{H:Hp}{a b:Addr}{o u:HO}(h:H a=some o)(h':H b=some u)(d:o≠u):a≠b:=by
 intro e;subst e;rw[h]at h';exact d (qS h')
theorem zby{H:Hp}{a b:Addr}{o:HO}(h:H a=some o)(h':H b=none):a≠b:=by
 intro e;subst e;rw[h]at h';cases h'
section
variable(P:Program)(w:World)
noncomputable def zfb(H:Hp)(h:Heap)(a:Addr):HO->Prop
 | .lst xs=>xs.length<=qY/\∃(its:List Value)(n:Nat),Vals xs its/\h.get? a=some {cls:=.type "list",data:=.seq its.toArray n}
 | .tup xs=>xs.length<=qY/\∃its:List Value,Vals xs its/\IsTup h a its.toArray
 | .dK kvs=>kvs.length<=qY/\(a==sysModules)=false/\∃vs,KV kvs vs/\h.DictOf (zbs P w) a vs
 | .dT kvs=>kvs.length<=qY/\(a==sysModules)=false/\∃xs:List (List Key×Addr×Value),
   Paired (λ(p:List Key×V)(q:List Key×Addr×Value)=>p.1=q.1/\H q.2.1=some (.tup (p.1.map kV))/\RelV p.2 q.2.2) kvs xs/\
   ∃o es ep,h.get? a=some o/\o.ExactDict/\o.data=.dict es ep/\es.toList=xs.map (entryOfKey (tupleKind (zbs P w)))/\(xs.map (·.1)).Nodup
 | .set S n=>h.SetOf (intKind P w) a S n
 | .ins C dx fs=>H dx=some (.own a)/\fs.length<=1000/\dx≠a/\h.get? a=some (PySem.W.instObj C dx)/\
   ∃mA,h.Ns1 dx mA/\(∀f,RelO (fs.lookup f) (mA f))/\PySem.Within mA (fs.map (·.1))
 | .own _=>∃o,h.get? a=some o
 | .xd fs=>∃mA,h.Ns1 a mA/\∀f,RelO (fs.lookup f) (mA f)
 | .rng lo hi=>∃t u v,h.get? a=some {cls:=.type "range",data:=.fields #[.int lo t,.int hi u,.int 1 v]}
 | .frz o u=>h.get? a=some o/\zfb H h a u
 | .tbl ps=>h.get? a=some {cls:=.none,data:=.fields ps}
 | .met f x=>h.get? a=some (PySem.W.methodObj (.ref f) (.ref x))
 | .ext φ=>φ h/\(∃o,h.get? a=some o)/\∀h1 h2:Heap,φ h1->(∀o,h1.get? a=some o->h2.get? a=some o)->φ h2
noncomputable def HOk(H:Hp)(h:Heap):Prop:=∀a o,H a=some o->zfb P w H h a o
end
section
variable{P:Program}{w:World}{H H':Hp}{h h':Heap}{a:Addr}{o:HO}
theorem zfb.lt(x:zfb P w H h a o):a<h.objs.size:=by
 cases o with
 | lst xs=>obtain⟨_,_,_,_,e⟩:=x;exact qX e
 | tup xs=>obtain⟨_,_,_,p⟩:=x;exact p.lt
 | dK kvs=>obtain⟨_,_,_,_,o,_,_,e,_⟩:=x;exact qX e
 | dT kvs=>obtain⟨_,_,_,_,o,_,_,e,_⟩:=x;exact qX e
 | set S n=>obtain⟨o,_,_,_,e,_⟩:=x;exact qX e
 | ins C dx fs=>obtain⟨_,_,_,e,_⟩:=x;exact qX e
 | own y=>obtain⟨_,e⟩:=x;exact qX e
 | xd fs=>obtain⟨_,⟨_,_,_,e,_⟩,_⟩:=x;exact qX e
 | rng lo hi=>obtain⟨_,_,_,e⟩:=x;exact qX e
 | frz ob u=>obtain⟨e,_⟩:=x;exact qX e
 | tbl ps=>exact qX (show h.get? a=some _ from x)
 | met f y=>exact qX (show h.get? a=some _ from x)
 | ext φ=>obtain⟨_,⟨_,e⟩,_⟩:=x;exact qX e
theorem Paired.mapP{α β:Type}{F G:α->β->Prop}:∀{l₁:List α}{l₂:List β},Paired F l₁ l₂->(∀a b,F a b->G a b)->Paired G l₁ l₂
 | _,_,.nil,_=>.nil
 | _,_,.cons r t,f=>.cons (f _ _ r) (Paired.mapP t f)
theorem zfb.stay(x:zfb P w H h a o)(k:∀b u,(b=a\/H b=some (.own a))->h.get? b=some u->h'.get? b=some u)
  (ho:∀b,H b=some (.own a)->H' b=some (.own a))(ht:∀b xs,H b=some (.tup xs)->H' b=some (.tup xs)):zfb P w H' h' a o:=by
 induction o with
 | lst xs=>obtain⟨z,its,n,r,e⟩:=x;exact⟨z,its,n,r,k _ _ (.inl rfl) e⟩
 | tup xs=>obtain⟨z,its,r,ob,e,c⟩:=x;exact⟨z,its,r,ob,k _ _ (.inl rfl) e,c⟩
 | dK kvs=>obtain⟨z,y,vs,r,ob,es,ep,e,c⟩:=x;exact⟨z,y,vs,r,ob,es,ep,k _ _ (.inl rfl) e,c⟩
 | dT kvs=>
  obtain⟨z,y,xs,r,ob,es,ep,e,c⟩:=x
  exact⟨z,y,xs,Paired.mapP r λp q z=>⟨z.1,ht _ _ z.2.1,z.2.2⟩,ob,es,ep,k _ _ (.inl rfl) e,c⟩
 | set S n=>obtain⟨ob,es,ep,t,e,c⟩:=x;exact⟨ob,es,ep,t,k _ _ (.inl rfl) e,c⟩
 | ins C dx fs=>
  obtain⟨d,z,ne,e,mA,⟨od,es,ep,e2,c⟩,r⟩:=x
  exact⟨ho _ d,z,ne,k _ _ (.inl rfl) e,mA,⟨od,es,ep,k _ _ (.inr d) e2,c⟩,r⟩
 | own y=>obtain⟨ob,e⟩:=x;exact⟨ob,k _ _ (.inl rfl) e⟩
 | xd fs=>obtain⟨mA,⟨od,es,ep,e,c⟩,r⟩:=x;exact⟨mA,⟨od,es,ep,k _ _ (.inl rfl) e,c⟩,r⟩
 | rng lo hi=>obtain⟨t,u,v,e⟩:=x;exact⟨t,u,v,k _ _ (.inl rfl) e⟩
 | frz ob u ih=>obtain⟨e,q⟩:=x;exact⟨k _ _ (.inl rfl) e,ih q⟩
 | tbl ps=>
  have e:h.get? a=some {cls:=.none,data:=.fields ps}:=x
  show h'.get? a=some {cls:=.none,data:=.fields ps}
  exact k a _ (.inl rfl) e
 | met f y=>
  have e:h.get? a=some (PySem.W.methodObj (.ref f) (.ref y)):=x
  show h'.get? a=some (PySem.W.methodObj (.ref f) (.ref y))
  exact k a _ (.inl rfl) e
 | ext φ=>obtain⟨p,⟨o,e⟩,st⟩:=x;exact⟨st _ _ p λo q=>k _ _ (.inl rfl) q,⟨o,k _ _ (.inl rfl) e⟩,st⟩
theorem HOk.lt(x:HOk P w H h)(e:H a=some o):a<h.objs.size:=(x a o e).lt
theorem HOk.fresh(x:HOk P w H h)(e:h.objs.size<=a):H a=none:=by
 cases q:H a with
 | none=>rfl
 | some u=>exact absurd (qg (x.lt q) e) (qAk _)
theorem HOk.kept(x:HOk P w H h)(k:∀b u,h.get? b=some u->h'.get? b=some u):HOk P w H h':=λa o e=>
 (x a o e).stay (λb u _ q=>k b u q) (λ_ q=>q) λ_ _ q=>q
theorem HOk.laid(x:HOk P w H h)(k:∀b u,h.get? b=some u->h'.get? b=some u)(hp:h.objs.size<=a)(new:zfb P w (upd H a o) h' a o):HOk P w (upd H a o) h':=λb u e=>by
 have hn:=x.fresh hp
 by_cases hb:b=a
 ·subst hb;rw[zbh]at e;cases e;exact new
 ·rw[zbn hb]at e
  exact(x b u e).stay (λc v _ q=>k c v q) (λc q=>by rw[zbn (zby q hn)];exact q) λc xs q=>by rw[zbn (zby q hn)];exact q
end
noncomputable def Rd(H:Hp)(a:Addr)(u:HO):Prop:=H a=some u\/∃o,H a=some (.frz o u)
theorem Rd.ok{P:Program}{w:World}{H:Hp}{h:Heap}{a:Addr}{u:HO}(r:Rd H a u)(x:HOk P w H h):zfb P w H h a u:=by
 rcases r with r|⟨o,r⟩
 ·exact x a u r
 ·obtain⟨_,q⟩:=x a _ r
  exact q
noncomputable def Mut:Option HO->Prop
 | some (.lst _)=>True
 | some (.dK _)=>True
 | some (.dT _)=>True
 | some (.set _ _)=>True
 | some (.ins _ _ _)=>True
 | some (.ext _)=>True
 | _=>False
section
variable{P:Program}{w:World}{H:Hp}{h h':Heap}{x e:Addr}{o':HO}
theorem HOk.write(ok:HOk P w H h)(mu:Mut (H x))(he:e=x\/H e=some (.own x))(k:∀b u,b≠e->h.get? b=some u->h'.get? b=some u)(heo:∃u,h'.get? e=some u)
  (new:zfb P w (upd H x o') h' x o'):HOk P w (upd H x o') h':=λb u q=>by
 have nown:∀c y,H c=some (.own y)->c≠x:=λc y r z=>by subst z;rw[r]at mu;exact mu
 have ntup:∀c xs,H c=some (.tup xs)->c≠x:=λc xs r z=>by subst z;rw[r]at mu;exact mu
 by_cases hb:b=x
 ·subst hb;rw[zbh]at q;cases q;exact new
 ·rw[zbn hb]at q
  by_cases hbe:b=e
  ·have q':H b=some (.own x):=by
    rcases he with z|z
    ·exact absurd (hbe.trans z) hb
    ·rw[hbe];exact z
   rw[q]at q';cases q'
   obtain⟨v,hv⟩:=heo
   exact⟨v,by rw[hbe];exact hv⟩
  ·refine(ok b u q).stay (λc v hc r=>k c v ?_ r) (λc r=>by rw[zbn (nown c b r)];exact r) λc xs r=>by rw[zbn (ntup c xs r)];exact r
   rcases hc with rfl|hc
   ·exact hbe
   ·rintro rfl
    rcases he with z|z
    ·exact nown c b hc z
    ·rw[hc]at z;cases z;exact hb rfl
end
set_option genInjectivity false in
structure Un(fs ex:List Addr)(H H':Hp)(h h':Heap):Prop where
 keep:∀b o,h.get? b=some o->H b=none->b∉fs->b∉ex->h'.get? b=some o
 slot:∀b o,h.get? b=some o->H b=none->b∈fs->b∉ex->∃sl,h'.get? b=some {o with slots:=sl}
 free:∀b o,h.get? b=some o->H b=none->b∉ex->H' b=none
 there:∀b o,h.get? b=some o->b∉ex->∃o',h'.get? b=some o'
 tups:∀b xs,H b=some (.tup xs)->H' b=some (.tup xs)
 frzs:∀b o u,H b=some (.frz o u)->H' b=some (.frz o u)
 tbls:∀b ps,H b=some (.tbl ps)->∃more,H' b=some (.tbl (ps++more))
section
variable{fs fs' ex ex':List Addr}{H H1 H2:Hp}{h h1 h2 h':Heap}{a x e:Addr}{o:HO}
theorem Un.any(u:Un fs ex H H1 h h1){b:Addr}{ob:Obj}(q:h.get? b=some ob)(n:H b=none)(hx:b∉ex):∃sl,h1.get? b=some {ob with slots:=sl}:=by
 by_cases hb:b∈fs
 ·exact u.slot b ob q n hb hx
 ·exact⟨ob.slots,u.keep b ob q n hb hx⟩
theorem Un.kept(k:∀b u,h.get? b=some u->h'.get? b=some u):Un fs ex H H h h':=
 ⟨λb ob q _ _ _=>k b ob q,λb ob q _ _ _=>⟨ob.slots,k b ob q⟩,λ_ _ _ n _=>n,λb ob q _=>⟨ob,k b ob q⟩,λ_ _ q=>q,λ_ _ _ q=>q,λ_ ps q=>⟨#[],by rw[q];simp⟩⟩
theorem Un.refl:Un fs ex H H h h:=Un.kept λ_ _ q=>q
theorem Un.laid(k:∀b u,h.get? b=some u->h'.get? b=some u)(hp:h.objs.size<=a)(hn:H a=none):Un fs ex H (upd H a o) h h' where
 keep:=λb u q _ _ _=>k b u q
 slot:=λb u q _ _ _=>⟨u.slots,k b u q⟩
 free:=λb u q n _=>by rw[zbn (qAB (qg (qX q) hp))];exact n
 there:=λb u q _=>⟨u,k b u q⟩
 tups:=λb xs q=>by rw[zbn (zby q hn)];exact q
 frzs:=λb u xs q=>by rw[zbn (zby q hn)];exact q
 tbls:=λb ps q=>⟨#[],by rw[zbn (zby q hn),q];simp⟩
theorem Un.write(mu:Mut (H x))(he:e=x\/H e=some (.own x))(k:∀b u,b≠e->h.get? b=some u->h'.get? b=some u)(heo:∃u,h'.get? e=some u):Un fs ex H (upd H x o) h h':=by
 have hx:∀b,H b=none->b≠x:=λb n z=>by subst z;rw[n]at mu;exact mu
 have hb:∀b,H b=none->b≠e:=λb n z=>by
  subst z
  rcases he with r|r
  ·exact hx b n r
  ·rw[n]at r;cases r
 have hm:∀b u,H b=some u->¬Mut (some u)->b≠x:=λb u q nm z=>by subst z;rw[q]at mu;exact nm mu
 refine⟨λb u q n _ _=>k b u (hb b n) q,λb u q n _ _=>⟨u.slots,k b u (hb b n) q⟩,λb u q n _=>by rw[zbn (hx b n)];exact n,λb u q _=>?_,
  λb xs q=>by rw[zbn (hm b _ q λz=>z)];exact q,λb u xs q=>by rw[zbn (hm b _ q λz=>z)];exact q,λb ps q=>⟨#[],by rw[zbn (hm b _ q λz=>z),q];simp⟩⟩
 by_cases hbe:b=e
 ·subst hbe;exact heo
 ·exact⟨u,k b u hbe q⟩
end
noncomputable def trk(h:Heap)(H:Hp):List Addr:=(List.range h.objs.size).filter λa=>(H a).isSome
noncomputable def hidT(h:Heap)(H:Hp):Heap:=PySem.W.hideAll h (trk h H)
theorem zacu(h:Heap)(H:Hp):(hidT h H).objs.size=h.objs.size:=PySem.W.hideAll_size _ _
theorem zago{h:Heap}{H:Hp}{b:Addr}{o:Obj}(e:h.get? b=some o)(n:H b=none):(hidT h H).get? b=some o:=
 PySem.W.hideAll_get _ e λhm=>by
  have q:(H b).isSome=true:=(qBK.mp hm).2
  rw[n]at q;simp at q
theorem zakk{h:Heap}{H:Hp}{b:Addr}{o:Obj}(e:(hidT h H).get? b=some o):h.get? b=some o/\H b=none:=by
 have e':h.get? b=some o:=PySem.W.of_hideAll (trk h H) e
 refine⟨e',?_⟩
 cases q:H b with
 | none=>rfl
 | some x=>
  have hm:b∈trk h H:=qBK.mpr ⟨qAb.mpr (qX e'),by simp[q]⟩
  have z:(hidT h H).get? b=none:=PySem.W.hideAll_none (trk h H) hm
  rw[z]at e;cases e
set_option genInjectivity false in
structure Mod(K:qC)(mg:Str->Option Value)(base:Heap):Prop where
 kin:K.In base
 glob:base.Ns qU mg
 blt:∃mb,base.Ns builtinsNs mb/\∀x:Str,x≠"__name__"->mb x=bootBuiltins x
 nolimit:base.NoLimit
set_option genInjectivity false in
structure Cx where
 prog:Program
 w:World
 K:qC
 mg:Str->Option Value
 base:Heap
 A:Around
 N:List Str
 s₀:Shared
 H₀:Hp
 env:Env
 outer:List Env
 stack:List Env
 ex:List Addr
 fn:Str->Bool
 calm:Bool
 pn:List (Addr×Obj)
 xe:Value->Shared->Prop
noncomputable def frs(l:List Env):List Addr:=l.filterMap (·.frame)
noncomputable abbrev Cx.fs(X:Cx):List Addr:=frs X.outer
noncomputable def Vis(sc:Scope)(x:Str):Prop:=sc.names.lookup x=some .local\/sc.names.lookup x=some .cell\/sc.names.lookup x=some .free
noncomputable def visB(sc:Scope)(x:Str):Bool:=match sc.names.lookup x with
 | some .local=>true
 | some .cell=>true
 | some .free=>true
 | _=>false
theorem visB.of{sc:Scope}{x:Str}(h:visB sc x=true):Vis sc x:=by
 unfold visB at h
 cases e:sc.names.lookup x with
 | none=>rw[e]at h;cases h
 | some k=>rw[e]at h;cases k<;>first|exact .inl e|exact .inr (.inl e)|exact .inr (.inr e)|cases h
noncomputable def Loc(sc:Scope)(x:Str):Prop:=sc.names.lookup x=some .local\/sc.names.lookup x=some .cell
noncomputable def Look(env:Env)(h:Heap)(m:Str->Option Value)(x:Str)(u:Value):Prop:=
 (env.kindOf x=some .local/\m x=some u)\/((env.kindOf x=some .cell\/env.kindOf x=some .free)/\∃c,env.cells.lookup x=some c/\h.IsCell c (some u))
set_option genInjectivity false in
structure Cx.Ok(X:Cx):Prop where
 mod:Mod X.K X.mg X.base
 kind:X.env.scope.kind=.function
 glob:X.env.globals=qU
 blt:X.env.builtins=builtinsNs
 above:X.s₀.heap.objs.size<=X.env.locals
 inj:∀x y c,X.env.cells.lookup x=some c->X.env.cells.lookup y=some c->x=y
 has:∀x,(X.env.kindOf x=some .cell\/X.env.kindOf x=some .free)->∃c,X.env.cells.lookup x=some c
 cab:∀x c,X.fn x=true->X.env.cells.lookup x=some c->X.s₀.heap.objs.size<=c
 hd:X.calm=true->X.A.handled=none
 frames:X.A.frames=some X.stack
 stk:X.stack=X.outer\/(X.stack=X.env::X.outer/\X.env.frame=some X.env.locals)
 exf:∀b∈X.ex,b≠X.env.locals/\∀x c,X.env.cells.lookup x=some c->c≠b
 bs:∀b o,X.base.get? b=some o->X.s₀.heap.get? b=some o/\X.H₀ b=none
 bsz:X.base.objs.size<=X.s₀.heap.objs.size
 noex:∀b o,X.base.get? b=some o->b∉X.ex
 exfs:∀b∈X.ex,b∉X.fs
 funs:X.s₀.heap.FunFrames X.base X.outer
 frf:∀b∈X.fs,X.H₀ b=none
set_option genInjectivity false in
structure Inv(X:Cx)(pins:List (Addr×Obj))(σ:List (Option V))(H:Hp)(s:Shared):Prop where
 ok:X.Ok
 os:s.os=X.s₀.os
 bare:AllBare s.gens
 base:Un X.fs X.ex X.H₀ H X.s₀.heap s.heap
 loc:∃m,s.heap.Ns X.env.locals m/\∀(i:Nat)(x:Str)(v:V),X.N[i]?=some x->σ[i]?=some (some v)->Vis X.env.scope x->∃u,RelV v u/\Look X.env s.heap m x u
 cell:∀x c,X.env.cells.lookup x=some c->∃v,s.heap.IsCell c v
 free:H X.env.locals=none
 freeC:∀x c,X.env.cells.lookup x=some c->H c=none
 pin:∀p∈X.pn++pins,s.heap.get? p.1=some p.2/\H p.1=none/\p.1≠X.env.locals/\p.1∉X.fs/\∀v,p.2.data≠.cell v
 hok:HOk X.prog X.w H s.heap
 len:σ.length=X.N.length
section
variable{X:Cx}{pins:List (Addr×Obj)}{σ:List (Option V)}{H H':Hp}{s:Shared}{h':Heap}
theorem Cx.Ok.nofr(ok:X.Ok){b:Addr}{o:Obj}(e:X.base.get? b=some o):b∉X.fs:=λhb=>by
 have:=(ok.funs.mem hb).1
 rw[e]at this;cases this
theorem Inv.bs(I:Inv X pins σ H s):∀b o,X.base.get? b=some o->s.heap.get? b=some o/\H b=none:=λb o e=>
 ⟨I.base.keep b o (I.ok.bs b o e).1 (I.ok.bs b o e).2 (I.ok.nofr e) (I.ok.noex b o e),I.base.free b o (I.ok.bs b o e).1 (I.ok.bs b o e).2 (I.ok.noex b o e)⟩
theorem Inv.bk(I:Inv X pins σ H s):∀b o,X.base.get? b=some o->s.heap.get? b=some o:=λb o e=>(I.bs b o e).1
theorem Inv.mod(I:Inv X pins σ H s):Mod X.K X.mg X.base:=I.ok.mod
theorem Inv.kIn(I:Inv X pins σ H s):X.K.In s.heap:=I.ok.mod.kin.keeps I.bk
theorem Inv.lt(I:Inv X pins σ H s):X.env.locals<s.heap.objs.size:=let⟨_,hn,_⟩:=I.loc;hn.lt
theorem Inv.sz(I:Inv X pins σ H s):X.s₀.heap.objs.size<=s.heap.objs.size:=qAd I.ok.above (qBp I.lt)
theorem Inv.nofs(I:Inv X pins σ H s){a:Addr}(h:s.heap.objs.size<=a):a∉X.fs:=λhb=>by
 obtain⟨_,o,ho,_⟩:=I.ok.funs.mem hb
 exact absurd (qg (qX ho) (qAd I.sz h)) (qAk _)
theorem Inv.cne(I:Inv X pins σ H s):∀x c,X.env.cells.lookup x=some c->c≠X.env.locals:=λx c e z=>by
 obtain⟨v,o,ho,hd⟩:=I.cell x c e
 obtain⟨m,⟨o',es,ep,ho',hd',_⟩,_⟩:=I.loc
 rw[z,ho']at ho;cases ho;rw[hd']at hd;cases hd
theorem Inv.funs(I:Inv X pins σ H s):s.heap.FunFrames X.base X.outer:=by
 have all:∀(l:List Env),(∀b∈frs l,b∈X.fs)->X.s₀.heap.FunFrames X.base l->s.heap.FunFrames X.base l:=by
  intro l
  induction l with
  | nil=>intro _ _;trivial
  | cons env r ih=>
   intro hs hl
   obtain⟨hk,⟨L,o,hf,hn,ho,hd⟩,hr⟩:=hl
   have hL:L∈X.fs:=hs L (by unfold frs;rw[qBM,hf];exact qV)
   obtain⟨sl,e⟩:=I.base.slot L o ho (I.ok.frf L hL) hL λz=>I.ok.exfs L z hL
   exact⟨hk,⟨L,_,hf,hn,e,hd⟩,ih (λb hb=>hs b (by unfold frs;rw[qBM,hf];exact qM _ hb)) hr⟩
 exact all X.outer (λ_ hb=>hb) I.ok.funs
theorem Inv.stack(I:Inv X pins σ H s):s.heap.FunFrames X.base X.stack:=by
 rcases I.ok.stk with e|⟨e,hf⟩
 ·rw[e];exact I.funs
 ·rw[e]
  obtain⟨m,hn,_⟩:=I.loc
  refine .cons (by rw[I.ok.kind];decide) hf hn ?_ I.funs
  exact qBq (qAd I.ok.bsz I.ok.above)
theorem Inv.stkSub(I:Inv X pins σ H s):∀b∈frs X.stack,b∈X.env.locals::X.fs:=λb hb=>by
 rcases I.ok.stk with e|⟨e,hf⟩
 ·rw[e]at hb;exact qM _ hb
 ·rw[e]at hb
  unfold frs at hb
  rw[qBM,hf]at hb
  exact hb
theorem Inv.stkFree(I:Inv X pins σ H s):∀b∈frs X.stack,H b=none:=λb hb=>by
 rcases qa.mp (I.stkSub b hb)with e|hb
 ·rw[e];exact I.free
 ·obtain⟨_,o,ho,_⟩:=I.ok.funs.mem hb
  exact I.base.free b o ho (I.ok.frf b hb) λz=>I.ok.exfs b z hb
theorem Inv.step{g':Array GenState}{t':Nat}{d':Drawn}{ch:List Addr}(I:Inv X pins σ H s)
  (hch:∀b∈ch,(b∈X.ex\/X.s₀.heap.objs.size<=b)/\b≠X.env.locals/\(∀x c,X.env.cells.lookup x=some c->c≠b)/\∀p∈X.pn++pins,p.1≠b)
  (keep:∀b o,b≠X.env.locals->b∉X.fs->b∉ch->s.heap.get? b=some o->H b=none->h'.get? b=some o)
  (slot:∀b o,b≠X.env.locals->b∈X.fs->b∉ch->s.heap.get? b=some o->H b=none->∃sl,h'.get? b=some {o with slots:=sl}) (free:∀b o,b∉ch->s.heap.get? b=some o->H b=none->H' b=none)
  (there:∀b o,b∉ch->s.heap.get? b=some o->∃o',h'.get? b=some o')
  (tups:∀b xs,H b=some (.tup xs)->H' b=some (.tup xs))(frzs:∀b o u,H b=some (.frz o u)->H' b=some (.frz o u))(tbls:∀b ps,H b=some (.tbl ps)->∃more,H' b=some (.tbl (ps++more)))
  (ns:∀m,s.heap.Ns X.env.locals m->h'.Ns X.env.locals m)(hok:HOk X.prog X.w H' h')(hg:AllBare g') :
  Inv X pins σ H' {s with heap:=h',gens:=g',drawn:=d',toks:=t'}:=by
 have neL:∀b o,X.s₀.heap.get? b=some o->b≠X.env.locals:=λb o e=>qAB (qg (qX e) I.ok.above)
 have neC:∀b o,X.s₀.heap.get? b=some o->b∉X.ex->b∉ch:=λb o e hx hb=>by
  rcases(hch b hb).1 with z|z
  ·exact hx z
  ·exact absurd (qg (qX e) z) (qAk _)
 have cellK:∀x c,X.env.cells.lookup x=some c->∀v,s.heap.IsCell c v->h'.IsCell c v:=λx c e v ⟨o,ho,hd⟩=>by
  have nch:c∉ch:=λz=>(hch c z).2.2.1 x c e rfl
  by_cases hc:c∈X.fs
  ·obtain⟨sl,q⟩:=slot c o (I.cne x c e) hc nch ho (I.freeC x c e)
   exact⟨_,q,hd⟩
  ·exact⟨o,keep c o (I.cne x c e) hc nch ho (I.freeC x c e),hd⟩
 refine⟨I.ok,I.os,hg,⟨λb o e n hb hx=>?_,λb o e n hb hx=>?_,λb o e n hx=>?_,λb o e hx=>?_,λb xs e=>tups b xs (I.base.tups b xs e),λb o xs e=>frzs b o xs (I.base.frzs b o xs e),λb ps e=>?_⟩,?_,λx c e=>?_,?_,λx c e=>?_,λp hp=>?_,hok,I.len⟩
 ·exact keep b o (neL b o e) hb (neC b o e hx) (I.base.keep b o e n hb hx) (I.base.free b o e n hx)
 ·obtain⟨sl,e1⟩:=I.base.slot b o e n hb hx
  obtain⟨sl',e2⟩:=slot b _ (neL b o e) hb (neC b o e hx) e1 (I.base.free b o e n hx)
  exact⟨sl',e2⟩
 ·obtain⟨o',e1⟩:=I.base.there b o e hx
  exact free b o' (neC b o e hx) e1 (I.base.free b o e n hx)
 ·obtain⟨o',e1⟩:=I.base.there b o e hx
  exact there b o' (neC b o e hx) e1
 ·obtain⟨m1,e1⟩:=I.base.tbls b ps e
  obtain⟨m2,e2⟩:=tbls b _ e1
  exact⟨m1++m2,by rw[e2,Array.append_assoc]⟩
 ·obtain⟨m,hn,hl⟩:=I.loc
  refine⟨m,ns m hn,λi x v e1 e2 e3=>?_⟩
  obtain⟨u,r,l⟩:=hl i x v e1 e2 e3
  refine⟨u,r,?_⟩
  rcases l with l|⟨k,c,e,z⟩
  ·exact .inl l
  ·exact .inr ⟨k,c,e,cellK x c e _ z⟩
 ·obtain⟨v,z⟩:=I.cell x c e
  exact⟨v,cellK x c e v z⟩
 ·obtain⟨m,⟨o,_,_,ho,_⟩,_⟩:=I.loc
  exact free _ o (λz=>(hch _ z).2.1 rfl) ho I.free
 ·obtain⟨v,o,ho,hd⟩:=I.cell x c e
  exact free c o (λz=>(hch c z).2.2.1 x c e rfl) ho (I.freeC x c e)
 ·obtain⟨e,n,ne,nf,d⟩:=I.pin p hp
  have nch:p.1∉ch:=λz=>(hch p.1 z).2.2.2 p hp rfl
  exact⟨keep p.1 p.2 ne nf nch e n,free p.1 p.2 nch e n,ne,nf,d⟩
theorem Inv.un{t':Nat}(I:Inv X pins σ H s)(u:Un X.fs [] H H' s.heap h')(hok:HOk X.prog X.w H' h'):Inv X pins σ H' {s with heap:=h',toks:=t'}:=by
 obtain⟨m,⟨o,es,ep,ho,r⟩,_⟩:=id I.loc
 obtain⟨sl,hL⟩:=u.any ho I.free (by simp)
 exact I.step (g':=s.gens) (d':=s.drawn) (ch:=[]) (λ_ z=>nomatch z) (λb o _ hb _ e n=>u.keep b o e n hb (by simp)) (λb o _ hb _ e n=>u.slot b o e n hb (by simp)) (λb o _ e n=>u.free b o e n (by simp)) (λb o _ e=>u.there b o e (by simp)) u.tups u.frzs u.tbls (λm' hm=>by
  obtain⟨o',es',ep',ho',r'⟩:=hm
  rw[ho]at ho';cases ho'
  exact⟨_,es',ep',hL,r'⟩) hok I.bare
theorem Inv.call{g':Array GenState}{t':Nat}{d':Drawn}{ch:List Addr}(I:Inv X pins σ H s)(u:Un (frs X.stack) ch H H' s.heap h')(hok:HOk X.prog X.w H' h')(hg:AllBare g')
  (hch:∀b∈ch,(b∈X.ex\/X.s₀.heap.objs.size<=b)/\b≠X.env.locals/\(∀x c,X.env.cells.lookup x=some c->c≠b)/\∀p∈X.pn++pins,p.1≠b) :
  Inv X pins σ H' {s with heap:=h',gens:=g',drawn:=d',toks:=t'}:=by
 obtain⟨m,⟨o,es,ep,ho,r⟩,_⟩:=id I.loc
 obtain⟨sl,hL⟩:=u.any ho I.free λz=>(hch _ z).2.1 rfl
 exact I.step (ch:=ch) hch (λb o hL hb hc e n=>u.keep b o e n (λz=>(qa.mp (I.stkSub b z)).elim hL hb) hc) (λb o _ _ hc e n=>u.any e n hc) (λb o hc e n=>u.free b o e n hc) (λb o hc e=>u.there b o e hc) u.tups u.frzs u.tbls (λm' hm=>by
  obtain⟨o',es',ep',ho',r'⟩:=hm
  rw[ho]at ho';cases ho'
  exact⟨_,es',ep',hL,r'⟩) hok hg
theorem Inv.turned{t':Nat}{it:Addr}(I:Inv X pins σ H s)(k:∀b o,b≠it->s.heap.get? b=some o->h'.get? b=some o)(hn:H it=none)(hL:it≠X.env.locals)
  (h1:it∈X.ex\/X.s₀.heap.objs.size<=it) (h2:∀x c,X.env.cells.lookup x=some c->c≠it) (h3:∀p∈X.pn++pins,p.1≠it):Inv X pins σ H {s with heap:=h',toks:=t'}:=by
 have nit:∀b u,H b=some u->b≠it:=λb u e z=>by rw[z,hn]at e;cases e
 refine I.step (g':=s.gens) (d':=s.drawn) (ch:=[it]) (λb hb=>?_) (λb o _ _ hc e _=>k b o (λz=>hc (by simp[z])) e) (λb o _ _ hc e _=>⟨o.slots,k b o (λz=>hc (by simp[z])) e⟩) (λ_ _ _ _ n=>n)
  (λb o hc e=>⟨o,k b o (λz=>hc (by simp[z])) e⟩) (λ_ _ e=>e) (λ_ _ _ e=>e) (λb ps e=>⟨#[],by rw[e];simp⟩) (λm hm=>?_) (λb u e=>?_) I.bare
 ·have e:b=it:=by simpa using hb
  subst e
  exact⟨h1,hL,h2,h3⟩
 ·obtain⟨o,es,ep,ho,r⟩:=hm
  exact⟨o,es,ep,k _ o (qBC hL) ho,r⟩
 ·refine(I.hok b u e).stay (λc v hc q=>k c v ?_ q) (λ_ q=>q) λ_ _ q=>q
  rcases hc with z|z
  ·rw[z];exact nit b u e
  ·exact nit c _ z
theorem Inv.tok(I:Inv X pins σ H s)(t:Nat):Inv X pins σ H {s with toks:=t}:=I.un (h':=s.heap) (t':=t) Un.refl I.hok
theorem Inv.kept{t':Nat}(I:Inv X pins σ H s)(k:∀b u,s.heap.get? b=some u->h'.get? b=some u):Inv X pins σ H {s with heap:=h',toks:=t'}:=I.un (Un.kept k) (I.hok.kept k)
theorem Inv.laid{a:Addr}{o:HO}{t':Nat}(I:Inv X pins σ H s)(k:∀b u,s.heap.get? b=some u->h'.get? b=some u)(hp:s.heap.objs.size<=a)(new:zfb X.prog X.w (upd H a o) h' a o) :
  Inv X pins σ (upd H a o) {s with heap:=h',toks:=t'}:=I.un (Un.laid k hp (I.hok.fresh hp)) (I.hok.laid k hp new)
theorem Inv.write{x e:Addr}{o:HO}{t':Nat}(I:Inv X pins σ H s)(mu:Mut (H x))(he:e=x\/H e=some (.own x))(k:∀b u,b≠e->s.heap.get? b=some u->h'.get? b=some u)(heo:∃u,h'.get? e=some u)
  (new:zfb X.prog X.w (upd H x o) h' x o):Inv X pins σ (upd H x o) {s with heap:=h',toks:=t'}:=I.un (Un.write mu he k heo) (I.hok.write mu he k heo new)
theorem Inv.pins_of{pins':List (Addr×Obj)}(I:Inv X pins σ H s)(h:∀p∈pins',s.heap.get? p.1=some p.2/\H p.1=none/\p.1≠X.env.locals/\p.1∉X.fs/\∀v,p.2.data≠.cell v):Inv X pins' σ H s:=
 ⟨I.ok,I.os,I.bare,I.base,I.loc,I.cell,I.free,I.freeC,λp hp=>(q9.mp hp).elim (λz=>I.pin p (qy _ z)) (h p),I.hok,I.len⟩
theorem zzx{N:List Str}(hN:N.Nodup){i j:Nat}{x:Str}(a:N[i]?=some x)(b:N[j]?=some x):i=j:=by
 obtain⟨h1,e1⟩:=qT.mp a
 obtain⟨h2,e2⟩:=qT.mp b
 exact(List.getElem_inj hN).mp (e1.trans e2.symm)
theorem zacv{M:Model}{A:Around}{E:Value->Shared->Prop}{i:Nat}{x:Str}{v:V}{u:Value}{Q:Unit->Shared->Prop}(I:Inv X pins σ H s)(hN:X.N.Nodup)(hi:X.N[i]?=some x)(hx:Loc X.env.scope x)(r:RelV v u)
  (h:∀s',Inv X pins (σ.set i (some v)) H s'->(∃a,Heap.SameBut a s.heap s'.heap/\(a=X.env.locals\/X.env.cells.lookup x=some a))->Q () s') (hf:X.fn x=true\/X.env.scope.names.lookup x=some .local:=by assumption):wpAny M A (storeName X.env x u) Q E s:=by
 obtain⟨m,hn,hl⟩:=id I.loc
 have hcls:(X.env.scope.kind==.class||(X.env.scope.kind==.module&&X.env.locals != X.env.globals))=false:=by rw[I.ok.kind];rfl
 have hiσ:i<σ.length:=by rw[I.len];exact(qT.mp hi).1
 have cne:=I.cne
 have tracked:∀{a:Addr}{h':Heap},(∃o,s.heap.get? a=some o/\H a=none)->Heap.SameBut a s.heap h'->HOk X.prog X.w H h':=λ{a h'} ha hs b ob e=>by
  obtain⟨_,_,hfree⟩:=ha
  refine(I.hok b ob e).stay (λc w' hc q=>(hs.2 c ?_).trans q) (λ_ q=>q) λ_ _ q=>q
  rintro rfl
  rcases hc with rfl|hc
  ·rw[hfree]at e;cases e
  ·rw[hfree]at hc;cases hc
 rcases hx with hk|hk
 ·refine wpAny_storeName_local hk hn (λh' hn' hs=>?_) hcls
  obtain⟨oL,_,_,hoL,_⟩:=id hn
  refine h _ ⟨I.ok,I.os,I.bare,⟨λb o e n hb hx=>?_,λb o e n hb hx=>?_,I.base.free,λb o e hx=>?_,I.base.tups,I.base.frzs,I.base.tbls⟩,⟨_,hn',λj y v' e1 e2 e3=>?_⟩,λy c e=>?_,I.free,I.freeC,λp hp=>?_,tracked ⟨oL,hoL,I.free⟩ hs,by simpa using I.len⟩ ⟨_,hs,.inl rfl⟩
  ·exact(hs.2 b (qAB (qg (qX e) I.ok.above))).trans (I.base.keep b o e n hb hx)
  ·obtain⟨sl,e1⟩:=I.base.slot b o e n hb hx
   exact⟨sl,(hs.2 b (qAB (qg (qX e) I.ok.above))).trans e1⟩
  ·obtain⟨o',e1⟩:=I.base.there b o e hx
   exact⟨o',(hs.2 b (qAB (qg (qX e) I.ok.above))).trans e1⟩
  ·by_cases hj:j=i
   ·subst hj
    rw[hi]at e1;cases e1
    rw[qAH hiσ]at e2
    cases e2
    exact⟨u,r,.inl ⟨hk,by simp⟩⟩
   ·rw[qb (qBC hj)]at e2
    obtain⟨u',r',q⟩:=hl j y v' e1 e2 e3
    refine⟨u',r',?_⟩
    rcases q with⟨k,e⟩|⟨k,c,e,z⟩
    ·refine .inl ⟨k,?_⟩
     have:y≠x:=λe=>hj (zzx hN e1 (e▸hi))
     simp[this,e]
    ·exact .inr ⟨k,c,e,z.sameBut hs (cne y c e)⟩
  ·obtain⟨w',z⟩:=I.cell y c e
   exact⟨w',z.sameBut hs (cne y c e)⟩
  ·obtain⟨e,n,ne,nf,d⟩:=I.pin p hp
   exact⟨(hs.2 p.1 ne).trans e,n,ne,nf,d⟩
 ·have hfn:X.fn x=true:=by
   rcases hf with z|z
   ·exact z
   ·rw[z]at hk;cases hk
  obtain⟨c,hc⟩:=I.ok.has x (.inl hk)
  obtain⟨w',z⟩:=I.cell x c hc
  refine wpAny_storeName_cell I.ok.kind hk hc z (λh' hc' hs=>?_)
  obtain⟨oc,hoc,hocd⟩:=id z
  refine h {s with heap:=h'} ⟨I.ok,I.os,I.bare,⟨λb o e n hb hx=>?_,λb o e n hb hx=>?_,I.base.free,λb o e hx=>?_,I.base.tups,I.base.frzs,I.base.tbls⟩,⟨m,hn.sameBut hs (qBC (cne x c hc)),λj y v' e1 e2 e3=>?_⟩,λy c' e=>?_,I.free,I.freeC,λp hp=>?_,tracked ⟨oc,hoc,I.freeC x c hc⟩ hs,by simpa using I.len⟩ ⟨c,hs,.inr hc⟩
  ·exact(hs.2 b (qAB (qg (qX e) (I.ok.cab x c hfn hc)))).trans (I.base.keep b o e n hb hx)
  ·obtain⟨sl,e1⟩:=I.base.slot b o e n hb hx
   exact⟨sl,(hs.2 b (qAB (qg (qX e) (I.ok.cab x c hfn hc)))).trans e1⟩
  ·obtain⟨o',e1⟩:=I.base.there b o e hx
   exact⟨o',(hs.2 b (qAB (qg (qX e) (I.ok.cab x c hfn hc)))).trans e1⟩
  ·by_cases hj:j=i
   ·subst hj
    rw[hi]at e1;cases e1
    rw[qAH hiσ]at e2
    cases e2
    exact⟨u,r,.inr ⟨.inl hk,c,hc,hc'⟩⟩
   ·rw[qb (qBC hj)]at e2
    obtain⟨u',r',q⟩:=hl j y v' e1 e2 e3
    refine⟨u',r',?_⟩
    rcases q with q|⟨k,c',e,z'⟩
    ·exact .inl q
    ·refine .inr ⟨k,c',e,z'.sameBut hs ?_⟩
     rintro rfl
     exact hj (zzx hN e1 (I.ok.inj _ _ _ e hc▸hi))
  ·by_cases hcc:c'=c
   ·subst hcc;exact⟨_,hc'⟩
   ·obtain⟨w2,z2⟩:=I.cell y c' e
    exact⟨w2,z2.sameBut hs hcc⟩
  ·obtain⟨e,n,ne,nf,d⟩:=I.pin p hp
   refine⟨(hs.2 p.1 ?_).trans e,n,ne,nf,d⟩
   intro q
   rw[q,hoc]at e
   have q':oc=p.2:=qS e
   exact d w' (by rw[<- q'];exact hocd)
theorem zzy{M:Model}{A:Around}{E:Value->Shared->Prop}{i:Nat}{x:Str}{v:V}{u:Value}{Q:Unit->Shared->Prop}(I:Inv X pins σ H s)(hN:X.N.Nodup)(hi:X.N[i]?=some x)(hx:Loc X.env.scope x)(r:RelV v u)
  (h:∀s',Inv X pins (σ.set i (some v)) H s'->Q () s') (hf:X.fn x=true\/X.env.scope.names.lookup x=some .local:=by assumption):wpAny M A (storeName X.env x u) Q E s:=
 zacv I hN hi hx r (λs' I' _=>h s' I') hf
end
noncomputable abbrev XK:=Value->Option Addr->Hp->Prop
noncomputable abbrev St:=List (Option V)
noncomputable abbrev VK:=V->Hp->Prop
noncomputable abbrev TE:=St->Hp->VK->Prop
noncomputable abbrev TT:=St->Hp->(Bool->Hp->Prop)->Prop
noncomputable abbrev TA:=St->Hp->(List V->Hp->Prop)->Prop
set_option genInjectivity false in
structure Ends where
 nx:St->Hp->Prop
 rt:VK
 bk:St->Hp->Prop:=λ_ _=>False
 ct:St->Hp->Prop:=λ_ _=>False
noncomputable abbrev TS:=Ends->St->Hp->Prop
noncomputable def EP(X:Cx)(pins:List (Addr×Obj))(σ:St)(Q:VK)(u:Value)(s':Shared):Prop:=∃v H',Inv X pins σ H' s'/\RelV v u/\Q v H'
noncomputable def TP(X:Cx)(pins:List (Addr×Obj))(σ:St)(Q:Bool->Hp->Prop)(b:Bool)(s':Shared):Prop:=∃H',Inv X pins σ H' s'/\Q b H'
noncomputable def AP(X:Cx)(pins:List (Addr×Obj))(σ:St)(Q:List V->Hp->Prop)(us:List Value)(s':Shared):Prop:=∃vs H',Inv X pins σ H' s'/\Vals vs us/\Q vs H'
noncomputable def SP(X:Cx)(pins:List (Addr×Obj))(D:Ends)(f:Flow)(s':Shared):Prop:=
 match f with
 | .next=>∃σ' H',Inv X pins σ' H' s'/\D.nx σ' H'
 | .brk=>∃σ' H',Inv X pins σ' H' s'/\D.bk σ' H'
 | .cont=>∃σ' H',Inv X pins σ' H' s'/\D.ct σ' H'
 | .ret u=>∃v σ' H',Inv X pins σ' H' s'/\RelV v u/\D.rt v H'
noncomputable def PE(X:Cx)(e:Expr)(t:TE):Prop:=
 ∀(pins:List (Addr×Obj))(s:Shared)(σ:St)(H:Hp)(Q:VK),Inv X pins σ H s->t σ H Q->wpAny (model X.prog X.w) X.A (eval e X.env) (EP X pins σ Q) X.xe s
noncomputable def PT(X:Cx)(e:Expr)(t:TT):Prop:=
 ∀(pins:List (Addr×Obj))(s:Shared)(σ:St)(H:Hp)(Q:Bool->Hp->Prop),Inv X pins σ H s->t σ H Q->wpAny (model X.prog X.w) X.A (isTrue e X.env (eval e X.env)) (TP X pins σ Q) X.xe s
noncomputable def PW(X:Cx)(e:Expr)(t:TT):Prop:=
 ∀(whole:Sem Value)(pins:List (Addr×Obj))(s:Shared)(σ:St)(H:Hp)(Q:Bool->Hp->Prop),Inv X pins σ H s->t σ H Q->wpAny (model X.prog X.w) X.A (isTrue e X.env whole) (TP X pins σ Q) X.xe s
theorem PW.pt{X:Cx}{e:Expr}{t:TT}(h:PW X e t):PT X e t:=h _
noncomputable def PA(X:Cx)(es:List Expr)(t:TA):Prop:=
 ∀(pos:Pos)(pins:List (Addr×Obj))(s:Shared)(σ:St)(H:Hp)(Q:List V->Hp->Prop),Inv X pins σ H s->t σ H Q->wpAny (model X.prog X.w) X.A (spliced (backTo pos (starEach es X.env))) (AP X pins σ Q) X.xe s
noncomputable def PS(X:Cx)(st:Stmt)(t:TS):Prop:=
 ∀(pins:List (Addr×Obj))(s:Shared)(σ:St)(H:Hp)(D:Ends),Inv X pins σ H s->t D σ H->wpAny (model X.prog X.w) X.A (exec st X.env) (SP X pins D) X.xe s
noncomputable def PSs(X:Cx)(st:List Stmt)(t:TS):Prop:=
 ∀(pins:List (Addr×Obj))(s:Shared)(σ:St)(H:Hp)(D:Ends),Inv X pins σ H s->t D σ H->wpAny (model X.prog X.w) X.A (execs st X.env) (SP X pins D) X.xe s
theorem thn{α:Type}{t:Sem α}{Q Q':α->Shared->Prop}{M:Model}{A:Around}{E:Value->Shared->Prop}{s:Shared}(h:wpAny M A t Q E s)(hQ:∀a s,Q a s->Q' a s):wpAny M A t Q' E s:=qBi h hQ λ_ _ x=>x
section
variable{X:Cx}
theorem bin{a b:Expr}{ta tb:TE}(ha:PE X a ta)(hb:PE X b tb){pins:List (Addr×Obj)}{s:Shared}{σ:St}{H:Hp}{R:V->V->Hp->Prop}(I:Inv X pins σ H s)(h:ta σ H λx H1=>tb σ H1 λy H2=>R x y H2)
  {α:Type}{Q:α->Shared->Prop}{f:Value->Value->Sem α}
  (hf:∀v u s2 x y H2,Inv X pins σ H2 s2->RelV x v->RelV y u->R x y H2->wpAny (model X.prog X.w) X.A (f v u) Q X.xe s2) :
  wpAny (model X.prog X.w) X.A (eval a X.env) (λv s₁=>wpAny (model X.prog X.w) X.A (eval b X.env) (λu s₂=>wpAny (model X.prog X.w) X.A (f v u) Q X.xe s₂) X.xe s₁) X.xe s:=by
 refine thn (ha pins s σ H _ I h) λv s1 ⟨x,H1,I1,r1,q1⟩=>?_
 refine thn (hb pins s1 σ H1 _ I1 q1) λu s2 ⟨y,H2,I2,r2,q2⟩=>?_
 exact hf v u s2 x y H2 I2 r1 r2 q2
noncomputable def tVar(i:Nat):TE:=λσ H Q=>∃v,σ[i]?=some (some v)/\Q v H
noncomputable def tC(v:V):TE:=λ_ H Q=>Q v H
theorem zann{i:Nat}{x:Str}{pos:Pos}(hN:X.N[i]?=some x)(hv:Vis X.env.scope x)(hd:(x==("__debug__":Str))=false:=by decide)(hcd:(x==("__classdict__":Str))=false:=by decide):PE X (.Name x pos) (tVar i):=by
 intro pins s σ H Q I h
 obtain⟨v,e,h⟩:=h
 obtain⟨m,hn,hl⟩:=I.loc
 obtain⟨u,r,l⟩:=hl i x v hN e hv
 have fin:EP X pins σ Q u s:=⟨v,H,I,r,h⟩
 rcases l with⟨hk,hm⟩|⟨hk,c,hc,hcell⟩
 ·exact wpAny_Name (wpAny_loadName_local I.ok.kind hk hn hm fin) hd
 ·rcases hk with hk|hk
  ·exact wpAny_Name (wpAny_loadName_cell I.ok.kind hk hc hcell fin) hd
  ·exact wpAny_Name (wpAny_loadName_free I.ok.kind hk hc hcell fin hcd) hd
theorem zano{i j pos}:PE X (.Constant (.int i) j pos) (tC (.int i)):=λ_ _ _ H _ I h=>wpAny_Constant_int ⟨.int i,H,I.tok _,⟨_,rfl⟩,h⟩
theorem zarc{b j pos}:PE X (.Constant (.bool b) j pos) (tC (.bl b)):=λ_ _ _ H _ I h=>Constant_bool ⟨.bl b,H,I,rfl,h⟩
theorem zanp{j pos}:PE X (.Constant .none j pos) (tC .non):=λ_ _ _ H _ I h=>Constant_none ⟨.non,H,I,rfl,h⟩
theorem zanq{x j pos}:PE X (.Constant (.str x) j pos) (tC (.str x)):=λ_ _ _ H _ I h=>Calls.Constant_str ⟨.str x,H,I.tok _,⟨_,rfl⟩,h⟩
noncomputable def Gl(X:Cx)(x:Str):Prop:=X.env.kindOf x=some .globalImplicit
theorem zacw{E:Value->Shared->Prop}{pins:List (Addr×Obj)}{s:Shared}{σ:St}{H:Hp}{x:Str}{u:Value}{pos:Pos}{Q:Value->Shared->Prop}(I:Inv X pins σ H s)(hg:Gl X x)(hm:X.mg x=some u)(h:Q u s)
  (hd:(x==("__debug__":Str))=false:=by decide):wpAny (model X.prog X.w) X.A (eval (.Name x pos) X.env) Q E s:=
 qCG I.ok.kind hg (Calls.loadGlobal_global (by rw[I.ok.glob];exact I.mod.glob.keeps I.bk) hm h) hd
theorem zqb{E:Value->Shared->Prop}{pins:List (Addr×Obj)}{s:Shared}{σ:St}{H:Hp}{x:Str}{u:Value}{pos:Pos}{Q:Value->Shared->Prop}(I:Inv X pins σ H s)(hg:Gl X x)(hm:X.mg x=none)(hv:bootBuiltins x=some u)(h:Q u s)
  (hn:x≠"__name__":=by decide) (hd:(x==("__debug__":Str))=false:=by decide):wpAny (model X.prog X.w) X.A (eval (.Name x pos) X.env) Q E s:=by
 obtain⟨mb,h1,h2⟩:=I.mod.blt
 exact qCG I.ok.kind hg (Calls.loadGlobal_builtin (by rw[I.ok.glob];exact I.mod.glob.keeps I.bk) hm (by rw[I.ok.blt];exact h1.keeps I.bk) ((h2 x hn).trans hv) h) hd
theorem zakl{x:Str}{v:V}{u:Value}{pos:Pos}(hg:Gl X x)(hm:X.mg x=some u)(r:RelV v u)(hd:(x==("__debug__":Str))=false:=by decide):PE X (.Name x pos) (tC v):=
 λ_ _ _ H _ I h=>zacw I hg hm ⟨v,H,I,r,h⟩ hd
theorem zakm{x:Str}{v:V}{u:Value}{pos:Pos}(hg:Gl X x)(hm:X.mg x=none)(hv:bootBuiltins x=some u)(r:RelV v u)(hn:x≠"__name__":=by decide)(hd:(x==("__debug__":Str))=false:=by decide):PE X (.Name x pos) (tC v):=
 λ_ _ _ H _ I h=>zqb I hg hm hv ⟨v,H,I,r,h⟩ hn hd
variable{a b:Expr}{ta tb:TE}{pos:Pos}
noncomputable def PC(X:Cx)(op:CmpOp)(a b:Expr)(t:TE):Prop:=
 ∀(pins:List (Addr×Obj))(s:Shared)(σ:St)(H:Hp)(Q:VK),Inv X pins σ H s->t σ H Q->
  wpAny (model X.prog X.w) X.A (eval a X.env) (λv s₁=>wpAny (model X.prog X.w) X.A (eval b X.env) (λu s₂=>wpAny (model X.prog X.w) X.A (compareOp op v u) (EP X pins σ Q) X.xe s₂) X.xe s₁) X.xe s
noncomputable def tB(t:TE):TT:=λσ H Q=>t σ H λx H1=>∃c,x=.bl c/\Q c H1
theorem zanr{op:CmpOp}{t:TE}(h:PC X op a b t)(h1:behindInMarks op b=false:=by rfl):PE X (.Compare a [op] [b] pos) t:=λpins s σ H Q I hw=>wpAny_Compare1 (h pins s σ H Q I hw) h1
variable{tA tB':TT}{rest:List Expr}
noncomputable def tAnd(t u:TT):TT:=λσ H Q=>t σ H λc H1=>if c=true then u σ H1 Q else Q false H1
noncomputable def tOr(t u:TT):TT:=λσ H Q=>t σ H λc H1=>if c=true then Q true H1 else u σ H1 Q
noncomputable def tNot(t:TT):TT:=λσ H Q=>t σ H λc H1=>Q (!c) H1
theorem zakn(ha:PT X a tA):PW X (.BoolOp .And [a] pos) tA:=by
 intro wh pins s σ H Q I h
 refine isTrue_and (thn (ha pins s σ H Q I h) λc s1 e=>?_)
 cases c with
 | true=>exact isTrue_and_nil e
 | false=>exact e
theorem zans(ha:PT X a tA):PW X (.BoolOp .Or [a] pos) tA:=by
 intro wh pins s σ H Q I h
 refine isTrue_or (thn (ha pins s σ H Q I h) λc s1 e=>?_)
 cases c with
 | false=>exact isTrue_or_nil e
 | true=>exact e
theorem zant(ha:PT X a tA)(hb:PW X (.BoolOp .And (b::rest) pos) tB'):PW X (.BoolOp .And (a::b::rest) pos) (tAnd tA tB'):=by
 intro wh pins s σ H Q I h
 refine isTrue_and (thn (ha pins s σ H _ I h) λc s1 ⟨H1,I1,q1⟩=>?_)
 cases c with
 | true=>exact hb wh pins s1 σ H1 Q I1 q1
 | false=>exact⟨H1,I1,q1⟩
theorem zard(ha:PT X a tA)(hb:PW X (.BoolOp .Or (b::rest) pos) tB'):PW X (.BoolOp .Or (a::b::rest) pos) (tOr tA tB'):=by
 intro wh pins s σ H Q I h
 refine isTrue_or (thn (ha pins s σ H _ I h) λc s1 ⟨H1,I1,q1⟩=>?_)
 cases c with
 | true=>exact⟨H1,I1,q1⟩
 | false=>exact hb wh pins s1 σ H1 Q I1 q1
theorem zanu(ha:PT X a tA):PT X (.UnaryOp .Not a pos) (tNot tA):=by
 intro pins s σ H Q I h
 exact isTrue_not (ha pins s σ H (λc H1=>Q (!c) H1) I h)
noncomputable def tAndV(ta tb:TE):TE:=λσ H Q=>ta σ H λx H1=>∃c,x=.bl c/\if c=true then tb σ H1 Q else Q (.bl false) H1
noncomputable def tNotV(ta:TE):TE:=λσ H Q=>ta σ H λx H1=>∃c,x=.bl c/\Q (.bl (!c)) H1
theorem zanv{op}{t:TE}(h:PE X a t):PE X (.BoolOp op [a] pos) t:=λpins s σ H Q I hw=>BoolOp_one (h pins s σ H Q I hw)
theorem zanw(ha:PE X a ta)(hb:PE X (.BoolOp .And (b::rest) pos) tb):PE X (.BoolOp .And (a::b::rest) pos) (tAndV ta tb):=by
 intro pins s σ H Q I h
 refine BoolOp_and (thn (ha pins s σ H _ I h) λv s1 ⟨x,H1,I1,r1,q1⟩=>?_)
 obtain⟨c,rfl,q1⟩:=q1
 cases r1
 refine qAC ?_
 cases c with
 | true=>exact hb pins s1 σ H1 Q I1 q1
 | false=>exact⟨.bl false,H1,I1,rfl,q1⟩
theorem zanx(ha:PE X a ta):PE X (.UnaryOp .Not a pos) (tNotV ta):=by
 intro pins s σ H Q I h
 refine UnaryOp_ (thn (ha pins s σ H _ I h) λv s1 ⟨x,H1,I1,r1,q1⟩=>?_)
 obtain⟨c,rfl,q1⟩:=q1
 cases r1
 exact not_of (qAC ⟨.bl (!c),H1,I1,rfl,q1⟩)
end
noncomputable def SqL(K:qC)(H:Hp)(a:Addr)(xs:List V):Prop:=
 Rd H a (.lst xs)\/
  ∃(o:Obj)(its:Array Value)(n:Nat),K.lookup a=some o/\o.cls=.type "list"/\o.dict=none/\o.data=.seq its n/\its.size<=qY/\Vals xs its.toList
noncomputable def SqT(K:qC)(H:Hp)(a:Addr)(xs:List V):Prop:=
 Rd H a (.tup xs)\/
  ∃(o:Obj)(its:Array Value)(n:Nat),K.lookup a=some o/\o.cls=.type "tuple"/\o.data=.seq its n/\its.size<=qY/\Vals xs its.toList
noncomputable def absV:Value->Option V
 | .none=>some .non
 | .bool b=>some (.bl b)
 | .int i _=>some (.int i)
 | .str x _=>some (.str x)
 | .bytes b _=>some (.byt b)
 | .float b _=>some (.flt b)
 | .ref a=>some (.ref a)
 | .type n=>some (.ty n)
 | _=>none
theorem RelV.abs{x:V}{u:Value}(r:RelV x u):absV u=some x:=by
 cases x with
 | non=>cases r;rfl
 | bl _=>cases r;rfl
 | int _=>obtain⟨t,rfl⟩:=r;rfl
 | str _=>obtain⟨t,rfl⟩:=r;rfl
 | byt _=>obtain⟨t,rfl⟩:=r;rfl
 | flt _=>obtain⟨t,rfl⟩:=r;rfl
 | ref _=>cases r;rfl
 | ty _=>cases r;rfl
theorem RelV.inj{x y:V}{u:Value}(r:RelV x u)(q:RelV y u):x=y:=qS (r.abs.symm.trans q.abs)
theorem Vals.inj:∀{xs ys:List V}{us:List Value},Vals xs us->Vals ys us->xs=ys
 | _,_,_,.nil,.nil=>rfl
 | _,_,_,.cons r t,.cons r' t'=>by rw[r.inj r',Vals.inj t t']
section
variable{X:Cx}{pins:List (Addr×Obj)}{σ:St}{H:Hp}{s:Shared}{a:Addr}{xs ys:List V}
theorem SqL.of{K:qC}(h:H a=some (.lst xs)):SqL K H a xs:=.inl (.inl h)
theorem SqT.of{K:qC}(h:H a=some (.tup xs)):SqT K H a xs:=.inl (.inl h)
theorem Inv.list(I:Inv X pins σ H s)(h:SqL X.K H a xs):∃its:List Value,Vals xs its/\PlainL s.heap a its.toArray/\xs.length<=qY:=by
 rcases h with h|⟨o,its,n,hk,hc,hd,hs,hz,r⟩
 ·obtain⟨z,its,n,r,e⟩:=h.ok I.hok
  exact⟨its,r,⟨_,n,e,rfl,rfl,rfl⟩,z⟩
 ·refine⟨its.toList,r,⟨o,n,I.kIn a o hk,hc,hd,by simpa using hs⟩,?_⟩
  have e:=r.length
  simp only[qBu]at e
  omega
theorem Inv.tuple(I:Inv X pins σ H s)(h:SqT X.K H a xs):∃its:List Value,Vals xs its/\IsTup s.heap a its.toArray/\xs.length<=qY:=by
 rcases h with h|⟨o,its,n,hk,hc,hs,hz,r⟩
 ·obtain⟨z,its,r,p⟩:=h.ok I.hok
  exact⟨its,r,p,z⟩
 ·refine⟨its.toList,r,⟨o,I.kIn a o hk,hc,n,by simpa using hs⟩,?_⟩
  have e:=r.length
  simp only[qBu]at e
  omega
theorem Inv.list_inj(I:Inv X pins σ H s)(h:SqL X.K H a xs)(h':SqL X.K H a ys):xs=ys:=by
 obtain⟨its,r,⟨o,n,e,_,_,d⟩,_⟩:=I.list h
 obtain⟨its',r',⟨o',n',e',_,_,d'⟩,_⟩:=I.list h'
 rw[e]at e';cases e'
 rw[d]at d'
 injection d' with d1 _
 have:its=its':=by simpa using congrArg Array.toList d1
 subst this
 exact r.inj r'
theorem Inv.tuple_inj(I:Inv X pins σ H s)(h:SqT X.K H a xs)(h':SqT X.K H a ys):xs=ys:=by
 obtain⟨its,r,⟨o,e,_,n,d⟩,_⟩:=I.tuple h
 obtain⟨its',r',⟨o',e',_,n',d'⟩,_⟩:=I.tuple h'
 rw[e]at e';cases e'
 rw[d]at d'
 injection d' with d1 _
 have:its=its':=by simpa using congrArg Array.toList d1
 subst this
 exact r.inj r'
end
noncomputable abbrev Cx.wish(X:Cx)(E:Value->Shared->Prop):Cx:={X with xe:=E}
noncomputable abbrev Cx.nox(X:Cx):Cx:=X.wish λ_ _=>False
theorem Cx.Ok.wish{X:Cx}(ok:X.Ok)(E:Value->Shared->Prop):(X.wish E).Ok:=
 ⟨ok.mod,ok.kind,ok.glob,ok.blt,ok.above,ok.inj,ok.has,ok.cab,ok.hd,ok.frames,ok.stk,ok.exf,ok.bs,ok.bsz,ok.noex,ok.exfs,ok.funs,ok.frf⟩
theorem Cx.Ok.unwish{X:Cx}{E:Value->Shared->Prop}(ok:(X.wish E).Ok):X.Ok:=
 ⟨ok.mod,ok.kind,ok.glob,ok.blt,ok.above,ok.inj,ok.has,ok.cab,ok.hd,ok.frames,ok.stk,ok.exf,ok.bs,ok.bsz,ok.noex,ok.exfs,ok.funs,ok.frf⟩
section
variable{X:Cx}{pins:List (Addr×Obj)}{σ:St}{H:Hp}{s:Shared}{E:Value->Shared->Prop}
theorem Inv.wish(I:Inv X pins σ H s)(E:Value->Shared->Prop):Inv (X.wish E) pins σ H s:=⟨I.ok.wish E,I.os,I.bare,I.base,I.loc,I.cell,I.free,I.freeC,I.pin,I.hok,I.len⟩
theorem Inv.unwish(I:Inv (X.wish E) pins σ H s):Inv X pins σ H s:=⟨I.ok.unwish,I.os,I.bare,I.base,I.loc,I.cell,I.free,I.freeC,I.pin,I.hok,I.len⟩
theorem SP.unwish{D:Ends}{f:Flow}{s':Shared}(h:SP (X.wish E) pins D f s'):SP X pins D f s':=by
 cases f with
 | next=>obtain⟨σ',H',I,q⟩:=h;exact⟨σ',H',I.unwish,q⟩
 | brk=>obtain⟨σ',H',I,q⟩:=h;exact⟨σ',H',I.unwish,q⟩
 | cont=>obtain⟨σ',H',I,q⟩:=h;exact⟨σ',H',I.unwish,q⟩
 | ret u=>obtain⟨v,σ',H',I,r,q⟩:=h;exact⟨v,σ',H',I.unwish,r,q⟩
theorem PSs.nox{st:List Stmt}{t:TS}(h:PSs X.nox st t):PSs X st t:=λpins s σ H D I hw=>
 qBi (h pins s σ H D (I.wish _) hw) (λ_ _ q=>q.unwish) λ_ _ z=>False.elim z
end
section
variable{X:Cx}{st:Stmt}{rest:List Stmt}{t u:TS}{e:Expr}{te:TE}{pos:Pos}
noncomputable def tNext:TS:=λD σ H=>D.nx σ H
noncomputable def tSeq(t u:TS):TS:=λD σ H=>t {D with nx:=u D} σ H
theorem zako:PSs X [] tNext:=λ_ _ σ H _ I h=>qCa ⟨σ,H,I,h⟩
theorem zagp(h1:PS X st t)(h2:PSs X rest u):PSs X (st::rest) (tSeq t u):=by
 intro pins s σ H D I h
 refine wpAny_execs_cons (thn (h1 pins s σ H {D with nx:=u D} I h) λf s1 q=>?_)
 cases f with
 | next=>
  obtain⟨σ',H',I',q⟩:=q
  exact h2 pins s1 σ' H' D I' q
 | ret v=>exact q
 | brk=>exact q
 | cont=>exact q
theorem zakp(h1:PS X st t):PSs X [st] t:=by
 intro pins s σ H D I h
 refine wpAny_execs_cons (thn (h1 pins s σ H D I h) λf s1 q=>?_)
 cases f with
 | next=>exact qCa q
 | ret v=>exact q
 | brk=>exact q
 | cont=>exact q
theorem Inv.quiet{pins:List (Addr×Obj)}{σ:St}{H:Hp}{s:Shared}(I:Inv X pins σ H s):interactive X.env=false:=by simp[interactive,I.ok.kind]
noncomputable def tDrop(te:TE):TS:=λD σ H=>te σ H λ_ H1=>D.nx σ H1
theorem zakq(he:PE X e te)(hs:swapsWith e none pos.line X.env=pure false:=by rfl):PS X (.Expr e pos) (tDrop te):=by
 intro pins s σ H D I h
 exact wpAny_Expr_any (thn (he pins s σ H _ I h) λv s1 ⟨x,H1,I1,r1,q1⟩=>⟨σ,H1,I1,q1⟩) I.quiet hs
noncomputable def tRet(te:TE):TS:=λD σ H=>te σ H D.rt
theorem zany(he:PE X e te):PS X (.Return (some e) pos) (tRet te):=by
 intro pins s σ H D I h
 exact wpAny_Return_some (thn (he pins s σ H _ I h) λv s1 ⟨x,H1,I1,r1,q1⟩=>⟨x,σ,H1,I1,r1,q1⟩)
noncomputable def tIfS(c:TT)(t u:TS):TS:=λD σ H=>c σ H λb H1=>if b=true then t D σ H1 else u D σ H1
theorem zare{c:Expr}{a b:List Stmt}{tc:TT}(hc:PT X c tc)(ha:PSs X a t)(hb:PSs X b u):PS X (.If c a b pos) (tIfS tc t u):=by
 intro pins s σ H D I h
 refine wpAny_If (thn (hc pins s σ H _ I h) λd s1 ⟨H1,I1,q1⟩=>?_)
 cases d with
 | true=>exact ha pins s1 σ H1 D I1 q1
 | false=>exact hb pins s1 σ H1 D I1 q1
end
noncomputable abbrev TG:=V->St->Hp->(St->Hp->Prop)->Prop
noncomputable abbrev TGs:=List V->St->Hp->(St->Hp->Prop)->Prop
noncomputable def PG(X:Cx)(target:Expr)(t:TG):Prop:=
 ∀(pins:List (Addr×Obj))(s:Shared)(σ:St)(H:Hp)(v:V)(u:Value)(Q:St->Hp->Prop),Inv X pins σ H s->RelV v u->t v σ H Q->
  wpAny (model X.prog X.w) X.A (assign target X.env u) (λ_ s'=>∃σ' H',Inv X pins σ' H' s'/\Q σ' H') X.xe s
noncomputable def PGs(X:Cx)(ts:List Expr)(t:TGs):Prop:=
 ∀(pins:List (Addr×Obj))(s:Shared)(σ:St)(H:Hp)(vs:List V)(us:List Value)(Q:St->Hp->Prop),Inv X pins σ H s->Vals vs us->t vs σ H Q->
  wpAny (model X.prog X.w) X.A (assignInOrder ((assignEach ts X.env).map (·.2)) us) (λ_ s'=>∃σ' H',Inv X pins σ' H' s'/\Q σ' H') X.xe s
noncomputable abbrev TSet:=V->V->V->Hp->(Hp->Prop)->Prop
noncomputable def PSet(X:Cx)(t:TSet):Prop:=
 ∀(pins:List (Addr×Obj))(s:Shared)(σ:St)(H:Hp)(o i v:V)(ov iv u:Value)(Q:Hp->Prop),Inv X pins σ H s->RelV o ov->RelV i iv->RelV v u->t o i v H Q->
  wpAny (model X.prog X.w) X.A (setItem ov iv u) (λ_ s'=>∃H',Inv X pins σ H' s'/\Q H') X.xe s
section
variable{X:Cx}{pos:Pos}
noncomputable def gName(i:Nat):TG:=λv σ H Q=>Q (σ.set i (some v)) H
theorem zakr{i:Nat}{x:Str}(hN:X.N.Nodup)(hi:X.N[i]?=some x)(hx:Loc X.env.scope x)(hf:X.fn x=true\/X.env.scope.names.lookup x=some .local:=by assumption):PG X (.Name x pos) (gName i):=by
 intro pins s σ H v u Q I r h
 exact wpAny_assign_Name (zzy I hN hi hx r (λs' I'=>⟨_,H,I',h⟩) hf)
noncomputable def gNil:TGs:=λvs σ H Q=>vs=[]/\Q σ H
noncomputable def gCons(t:TG)(u:TGs):TGs:=λvs σ H Q=>∃v r,vs=v::r/\t v σ H λσ' H'=>u r σ' H' Q
theorem zaks:PGs X [] gNil:=by
 intro pins s σ H vs us Q I r h
 obtain⟨e,h⟩:=h
 subst e
 cases r
 exact assignInOrder_nil ⟨σ,H,I,h⟩
theorem zagq{e:Expr}{es:List Expr}{t:TG}{u:TGs}(h1:PG X e t)(h2:PGs X es u)
  (hs:(assignEach (e::es) X.env).map (·.2)=assign e X.env::(assignEach es X.env).map (·.2):=by rfl):PGs X (e::es) (gCons t u):=by
 intro pins s σ H vs us Q I r h
 obtain⟨v,vr,e1,h⟩:=h
 subst e1
 cases r with
 | cons r rr=>
  rw[hs]
  refine assignInOrder_cons (thn (h1 pins s σ H _ _ _ I r h) λ_ s1 ⟨σ1,H1,I1,q1⟩=>?_)
  exact h2 pins s1 σ1 H1 _ _ Q I1 rr q1
noncomputable def gTup(K:qC)(n:Nat)(t:TGs):TG:=λv σ H Q=>∃a xs,v=.ref a/\SqT K H a xs/\xs.length=n/\t xs σ H Q
theorem zanz{es:List Expr}{k:Nat}{t:TGs}{n:Nat}(hc:X.calm=true)(h:PGs X es t)
  (hn:(assignEach es X.env).length=n:=by rfl) (hst:(assignEach es X.env).findIdx? (·.1)=none:=by rfl):PG X (.Tuple es k pos) (gTup X.K n t):=by
 intro pins s σ H v u Q I r hw
 obtain⟨a,xs,e1,hq,hl,hw⟩:=hw
 subst e1
 cases r
 obtain⟨its,rv,ht,hz⟩:=I.tuple hq
 refine assign_Tuple_tuple (I.ok.hd hc) ht (by simp[hn,<- hl,rv.length]) hst λh' hx=>?_
 have I1:Inv X pins σ H {s with heap:=h'}:=I.kept (t':=s.toks) λb o e=>hx b o (qAB (qX e)) e
 exact h pins _ σ H xs _ Q I1 (by simpa using rv) hw
noncomputable def gSub(to ti:TE)(t:TSet):TG:=λv σ H Q=>to σ H λo H1=>ti σ H1 λi H2=>t o i v H2 λH3=>Q σ H3
theorem zaoa{o i:Expr}{to ti:TE}{t:TSet}(ho:PE X o to)(hi:PE X i ti)(hs:PSet X t)
  (ha:∀v,assign (.Subscript o i pos) X.env v=(do
   let ov <- holding [v] (eval o X.env)
   let iv <- holding [v,ov] (eval i X.env)
   standAt pos
   holding [v,ov,iv] (setItem ov iv v)
   release [v,ov,iv] []):=by intro _;rfl):PG X (.Subscript o i pos) (gSub to ti t):=by
 intro pins s σ H v u Q I r h
 rw[ha]
 refine qB (qAI (thn (ho pins s σ H _ I h) λov s1 ⟨x,H1,I1,r1,q1⟩=>?_))
 refine qB (qAI (thn (hi pins s1 σ H1 _ I1 q1) λiv s2 ⟨y,H2,I2,r2,q2⟩=>?_))
 refine qB (qBn (qB (qAI (thn (hs pins s2 σ H2 x y v ov iv u _ I2 r1 r2 r q2) λ_ s3 ⟨H3,I3,q3⟩=>?_))))
 exact wpAny_release ⟨σ,H3,I3,q3⟩
noncomputable def tAsg(te:TE)(g:TG):TS:=λD σ H=>te σ H λx H1=>g x σ H1 D.nx
theorem zaob{tg e:Expr}{te:TE}{g:TG}(he:PE X e te)(hg:PG X tg g)(hs:swapsWithSole [tg] e pos.line X.env=pure false:=by rfl)(hw:swappedStores [tg] e X.env=pure none:=by rfl)
  (h1:(assignEach [tg] X.env).map (·.2)=[assign tg X.env]:=by rfl):PS X (.Assign [tg] e pos) (tAsg te g):=by
 intro pins s σ H D I h
 refine wpAny_Assign_stores (thn (he pins s σ H _ I h) λv s1 ⟨x,H1,I1,r1,q1⟩=>?_) hs hw
 rw[h1]
 exact thn (hg pins s1 σ H1 x v _ I1 r1 q1) λ_ s2 q=>q
theorem zaoc{i:Nat}{x:Str}{e:Expr}{te:TE}{pos':Pos}(hN:X.N.Nodup)(hi:X.N[i]?=some x)(hx:Loc X.env.scope x)(he:PE X e te)(hs:swapsWith e (some (.Name x pos')) pos.line X.env=pure false:=by rfl)(hf:X.fn x=true\/X.env.scope.names.lookup x=some .local:=by assumption) :
  PS X (.Assign [.Name x pos'] e pos) (tAsg te (gName i)):=by
 intro pins s σ H D I h
 refine wpAny_Assign_Name (thn (he pins s σ H _ I h) λv s1 ⟨y,H1,I1,r1,q1⟩=>?_) hs
 exact zzy I1 hN hi hx r1 (λs2 I2=>⟨_,H1,I2,q1⟩) hf
end
set_option genInjectivity false in
structure It where
 go:Nat->Hp->Prop
 yld:Nat->Hp->V->Hp->Prop
 stop:Nat->Hp->Prop
noncomputable def FpOk(X:Cx)(pins:List (Addr×Obj))(H:Hp)(b:Addr):Prop:=
 H b=none/\b≠X.env.locals/\b∉X.fs/\(b∈X.ex\/X.s₀.heap.objs.size<=b)/\(∀x c,X.env.cells.lookup x=some c->c≠b)/\∀p∈X.pn++pins,p.1≠b
theorem Inv.fpOk{X:Cx}{pins:List (Addr×Obj)}{σ:St}{H H':Hp}{s:Shared}{b:Addr}(I:Inv X pins σ H s)(hb:s.heap.objs.size<=b)(hn:H' b=none):FpOk X pins H' b:=by
 refine⟨hn,Nat.ne_of_gt (qg I.lt hb),I.nofs hb,.inr (qAd I.sz hb),λx c e z=>?_,λp hp z=>?_⟩
 ·obtain⟨v,q⟩:=I.cell x c e
  exact absurd (qg q.lt (by rw[z];exact hb)) (qAk _)
 ·exact absurd (qg (qX (I.pin p hp).1) (by rw[z];exact hb)) (qAk _)
set_option genInjectivity false in
structure Turn(P:Program)(w:World)(K:qC)(tg:Expr)(J:It)(fp:List Addr)(it:Addr)(tn:Nat->Heap->Prop):Prop where
 mem:it∈fp
 obj:∀i h,tn i h->∀b∈fp,∃o,h.get? b=some o/\∀v,o.data≠.cell v
 keep:∀i h h',tn i h->(∀b∈fp,∀o,h.get? b=some o->h'.get? b=some o)->tn i h'
 item:∀(X:Cx),X.prog=P->X.w=w->X.K=K->X.calm=true->∀(i:Nat)(pins:List (Addr×Obj))(s:Shared)(σ:St)(H:Hp)(E:Value->Shared->Prop),Inv X pins σ H s->(∀b∈fp,FpOk X pins H b)->tn i s.heap->J.go i H->
  wpAny (model P w) X.A (pyNext (.ref it)) (λr s1=>∃u,r=some u/\
   wpAny (model P w) X.A (letOwnedTupleGo tg (.ref it) u) (λ_ s2=>∃x H',Inv X pins σ H' s2/\RelV x u/\J.yld i H x H'/\tn (i+1) s2.heap/\∀b∈fp,H' b=none) E s1) E s
 done:∀(X:Cx),X.prog=P->X.w=w->X.K=K->X.calm=true->∀(i:Nat)(pins:List (Addr×Obj))(s:Shared)(σ:St)(H:Hp)(E:Value->Shared->Prop),Inv X pins σ H s->(∀b∈fp,FpOk X pins H b)->tn i s.heap->J.stop i H->
  wpAny (model P w) X.A (pyNext (.ref it)) (λr s1=>r=none/\Inv X pins σ H s1) E s
 self:∀(A:Around)(i:Nat)(s:Shared)(Q:Value->Shared->Prop)(E:Value->Shared->Prop),tn i s.heap->Q (.ref it) s->wpAny (model P w) A (pyIter (.ref it)) Q E s
noncomputable abbrev TI:=St->Hp->(It->Hp->Prop)->Prop
noncomputable def PIE(X:Cx)(pins:List (Addr×Obj))(σ:St)(tg:Expr)(R:It->Hp->Prop)(itv:Value)(s2:Shared):Prop:=
 ∃(it:Addr)(fp:List Addr)(tn:Nat->Heap->Prop)(J:It)(H':Hp),itv=.ref it/\Inv X pins σ H' s2/\Turn X.prog X.w X.K tg J fp it tn/\tn 0 s2.heap/\(∀b∈fp,FpOk X pins H' b)/\R J H'
noncomputable def PI(X:Cx)(tg iter:Expr)(wi:TI):Prop:=
 ∀(pins:List (Addr×Obj))(s:Shared)(σ:St)(H:Hp)(R:It->Hp->Prop),Inv X pins σ H s->wi σ H R->
  wpAny (model X.prog X.w) X.A (eval iter X.env) (λv s1=>wpAny (model X.prog X.w) X.A (pyIter v) (PIE X pins σ tg R) X.xe s1) X.xe s
theorem zakt{M:Model}{A:Around}{E:Value->Shared->Prop}{s:Shared}{tg:Expr}{it:Addr}{u:Value}{o:Obj}{n:String}{vs:Array Value}{Q:Unit->Shared->Prop}(ho:s.heap.get? it=some o)(hc:o.cls=.type n)(hd:o.data=.fields vs)
  (hn:["enumerate","zip","dict_itemiterator","dict_reverseitemiterator","odict_iterator","itertools.zip_longest","itertools.pairwise"].contains n=false) (hQ:Q () s):wpAny M A (letOwnedTupleGo tg (.ref it) u) Q E s:=by
 unfold letOwnedTupleGo
 cases tg<;>first
  | exact qH hQ
  | (cases u<;>first
    | exact qH hQ
    | (refine qB (qCu ho ?_)
       rw[hc,hd]
       show wpAny M A (if(["enumerate","zip","dict_itemiterator","dict_reverseitemiterator","odict_iterator","itertools.zip_longest","itertools.pairwise"].contains n&&vs[0]?==some (rawInt _))=true then _ else _) Q E s
       rw[if_neg (by intro h;rw[hn,qBS]at h;cases h)]
       exact qH hQ))
noncomputable def Itl(K:qC)(a:Addr):It:=
 ⟨λi H=>∃xs x,SqL K H a xs/\xs[i]?=some x,λi H x H'=>H'=H/\∀xs,SqL K H a xs->xs[i]?=some x,λi H=>∃xs,SqL K H a xs/\xs.length<=i⟩
noncomputable def Itt(K:qC)(a:Addr):It:=
 ⟨λi H=>∃xs x,SqT K H a xs/\xs[i]?=some x,λi H x H'=>H'=H/\∀xs,SqT K H a xs->xs[i]?=some x,λi H=>∃xs,SqT K H a xs/\xs.length<=i⟩
noncomputable def Itr(lo:Int)(n:Nat):It:=⟨λi _=>i<n,λi H x H'=>H'=H/\x=.int (lo+i),λi _=>n<=i⟩
theorem zacx{P:Program}{w:World}{K:qC}{tg:Expr}(a it:Addr):Turn P w K tg (Itl K a) [it] it (λi h=>h.IsListIter it a i) where
 mem:=by simp
 obj:=λi h st b hb=>by
  have e:b=it:=by simpa using hb
  subst e
  obtain⟨o,e,c,d⟩:=st
  exact⟨o,e,λv z=>by rw[d]at z;cases z⟩
 keep:=λi h h' st k=>st.at λo e=>k it (by simp) o e
 item:=by
  intro X hP hw hK hc i pins s σ H E I hf st hg
  subst hP hw hK
  obtain⟨xs,x,hq,hx⟩:=hg
  obtain⟨its,rv,p,hz⟩:=I.list hq
  obtain⟨u,hu,ru⟩:=rv.get hx
  obtain⟨f0,f1,f2,f3,f4,f5⟩:=hf it (by simp)
  refine wpAny_pyNext_list_item st p.isList (x:=u) (by simpa using hu) λh' st' sb=>?_
  have I1:Inv X pins σ H {s with heap:=h'}:=I.turned (t':=s.toks) (λb o hb e=>(sb.2 b hb).trans e) f0 f1 f3 f4 f5
  obtain⟨o,e,c,d⟩:=id st'
  exact⟨u,rfl,zakt (s:={s with heap:=h'}) e c d (by decide) ⟨x,H,I1,ru,⟨rfl,λys hy=>by rw[I.list_inj hy hq];exact hx⟩,st',λb hb=>(hf b hb).1⟩⟩
 done:=by
  intro X hP hw hK hc i pins s σ H E I hf st hg
  subst hP hw hK
  obtain⟨xs,hq,hx⟩:=hg
  obtain⟨its,rv,p,hz⟩:=I.list hq
  obtain⟨f0,f1,f2,f3,f4,f5⟩:=hf it (by simp)
  have hl:=rv.length
  exact wpAny_pyNext_list_end (I.ok.hd hc) st p.isList (by simp;omega) λh' eb=>⟨rfl,I.turned (t':=s.toks) (λb o hb e=>eb b o hb e) f0 f1 f3 f4 f5⟩
 self:=λ_ _ _ _ _ st h=>wpAny_pyIter_listiter st h
theorem zabb{P:Program}{w:World}{K:qC}{tg:Expr}(a it:Addr):Turn P w K tg (Itt K a) [it] it (λi h=>h.IsTupleIter it a i) where
 mem:=by simp
 obj:=λi h st b hb=>by
  have e:b=it:=by simpa using hb
  subst e
  obtain⟨o,e,c,d⟩:=st
  exact⟨o,e,λv z=>by rw[d]at z;cases z⟩
 keep:=λi h h' st k=>st.at λo e=>k it (by simp) o e
 item:=by
  intro X hP hw hK hc i pins s σ H E I hf st hg
  subst hP hw hK
  obtain⟨xs,x,hq,hx⟩:=hg
  obtain⟨its,rv,p,hz⟩:=I.tuple hq
  obtain⟨u,hu,ru⟩:=rv.get hx
  obtain⟨f0,f1,f2,f3,f4,f5⟩:=hf it (by simp)
  refine wpAny_pyNext_tuple_item st (show s.heap.IsTuple a its.toArray from p) (x:=u) (by simpa using hu) λh' st' sb=>?_
  have I1:Inv X pins σ H {s with heap:=h'}:=I.turned (t':=s.toks) (λb o hb e=>(sb.2 b hb).trans e) f0 f1 f3 f4 f5
  obtain⟨o,e,c,d⟩:=id st'
  exact⟨u,rfl,zakt (s:={s with heap:=h'}) e c d (by decide) ⟨x,H,I1,ru,⟨rfl,λys hy=>by rw[I.tuple_inj hy hq];exact hx⟩,st',λb hb=>(hf b hb).1⟩⟩
 done:=by
  intro X hP hw hK hc i pins s σ H E I hf st hg
  subst hP hw hK
  obtain⟨xs,hq,hx⟩:=hg
  obtain⟨its,rv,p,hz⟩:=I.tuple hq
  obtain⟨f0,f1,f2,f3,f4,f5⟩:=hf it (by simp)
  have hl:=rv.length
  exact wpAny_pyNext_tuple_end (I.ok.hd hc) st (show s.heap.IsTuple a its.toArray from p) (by simp;omega) λh' eb=>⟨rfl,I.turned (t':=s.toks) (λb o hb e=>eb b o hb e) f0 f1 f3 f4 f5⟩
 self:=λ_ _ _ _ _ st h=>wpAny_pyIter_tupleiter st h
theorem zabc{P:Program}{w:World}{K:qC}{tg:Expr}(it:Addr)(lo:Int)(n:Nat):Turn P w K tg (Itr lo n) [it] it (λi h=>IsRangeIter h it (lo+(i:Nat) * 1) ((n:Int) - (i:Nat)) 1) where
 mem:=by simp
 obj:=λi h st b hb=>by
  have e:b=it:=by simpa using hb
  subst e
  exact⟨_,st,λv z=>by
   have z':Data.fields _=Data.cell v:=z
   cases z'⟩
 keep:=λi h h' st k=>k it (by simp) _ st
 item:=by
  intro X hP hw hK hc i pins s σ H E I hf st hg
  subst hP hw hK
  obtain⟨f0,f1,f2,f3,f4,f5⟩:=hf it (by simp)
  have W:=Walks.range (prog:=X.prog) (w:=X.w) (I.ok.hd hc) it lo 1 n
  refine W.item i s _ _ hg st λv h' tk hv st' kk=>?_
  obtain⟨t,rfl⟩:=hv
  have I1:Inv X pins σ H {s with heap:=h',toks:=tk}:=I.turned (λb o hb e=>kk b o (by simpa using hb) e) f0 f1 f3 f4 f5
  refine⟨_,rfl,zakt (s:={s with heap:=h',toks:=tk}) (n:="range_iterator") st' rfl rfl (by decide) ⟨.int (lo+i),H,I1,⟨t,?_⟩,⟨rfl,rfl⟩,st',λb hb=>(hf b hb).1⟩⟩
  rw[Int.mul_one]
 done:=by
  intro X hP hw hK hc i pins s σ H E I hf st hg
  subst hP hw hK
  obtain⟨f0,f1,f2,f3,f4,f5⟩:=hf it (by simp)
  exact wpAny_pyNext_range_end (I.ok.hd hc) st (by have:n<=i:=hg;omega) λh' eb=>⟨rfl,I.turned (t':=s.toks) (λb o hb e=>eb b o hb e) f0 f1 f3 f4 f5⟩
 self:=λ_ _ _ _ _ st h=>wpAny_pyIter_rangeiter st h
section
variable{X:Cx}{tg:Expr}
theorem zagr{pins:List (Addr×Obj)}{σ:St}{H:Hp}{s:Shared}{R:It->Hp->Prop}{E:Value->Shared->Prop}{lo hi:Int}{t u v:Tok}{tk:Nat}(I:Inv X pins σ H s)(h1:-(2 ^ 62)<=lo)(h2:lo<2 ^ 62)(h3:-(2 ^ 62)<=hi)(h4:hi<2 ^ 62)
  (q:R (Itr lo (hi - lo).toNat) H):wpAny (model X.prog X.w) X.A (pyIter (.ref s.heap.objs.size)) (PIE X pins σ tg R) E {s with heap:=s.heap.push {cls:=.type "range",data:=.fields #[.int lo t,.int hi u,.int 1 v]},toks:=tk}:=by
 refine wpAny_pyIter_range (IsRange.new ..) (small_one h1 h2 h3 h4) ?_
 have I1:Inv X pins σ H {s with heap:=s.heap.push {cls:=.type "range",data:=.fields #[.int lo t,.int hi u,.int 1 v]},toks:=tk}:=I.kept λb o e=>qL _ e
 refine⟨(s.heap.push {cls:=.type "range",data:=.fields #[.int lo t,.int hi u,.int 1 v]}).objs.size,[(s.heap.push {cls:=.type "range",data:=.fields #[.int lo t,.int hi u,.int 1 v]}).objs.size],_,_,H,rfl,
  I1.kept (t':=tk) λb o e=>qL _ e,zabc _ lo (hi - lo).toNat,?_,λb hb=>?_,q⟩
 ·have e1:lo+((0:Nat):Int) * 1=lo:=by simp
  have e2:(((hi - lo).toNat:Nat):Int) - ((0:Nat):Int)=Builtin.Range.rangeSize lo hi 1:=by rw[rangeSize_one];split<;>omega
  show IsRangeIter _ _ (lo+((0:Nat):Int) * 1) ((((hi - lo).toNat:Nat):Int) - ((0:Nat):Int)) 1
  rw[e1,e2]
  exact qk _ rfl
 ·have e:b=(s.heap.push {cls:=.type "range",data:=.fields #[.int lo t,.int hi u,.int 1 v]}).objs.size:=by simpa using hb
  subst e
  exact I1.fpOk (qN _) (I1.hok.fresh (qN _))
noncomputable def iRng1(ta:TA):TI:=λσ H R=>ta σ H λvs H1=>∃j:Int,vs=[.int j]/\-(2 ^ 62)<=j/\j<2 ^ 62/\R (Itr 0 j.toNat) H1
theorem zacy{a:Expr}{ta:TA}{p pos:Pos}(hg:Gl X "range")(hm:X.mg "range"=none)(ha:PA X [a] ta)(hs:starEach [a] X.env=[(false,eval a X.env)]:=by rfl):PI X tg (.Call (.Name "range" p) [a] [] pos) (iRng1 ta):=by
 intro pins s σ H R I h
 refine Call_ (zqb I hg hm boot_range (qA7 (thn (ha pos pins s σ H _ I h) λus s1 ⟨vs,H1,I1,r1,q1⟩=>?_) hs rfl))
 obtain⟨j,e,q1,q2,q⟩:=q1
 subst e
 cases r1 with
 | cons r rr=>
  cases rr
  obtain⟨t,rfl⟩:=r
  exact call_range_1 (zagr I1 (by omega) (by omega) q1 q2 (by simpa using q))
noncomputable def tFor(wi:TI)(g:TG)(tb:TS):TS:=λD σ H=>wi σ H λJ H1=>∃W:Nat->Nat->St->Hp->Prop,(∃m,W 0 m σ H1)/\∀i m σ H,W i m σ H->
 (J.stop i H/\D.nx σ H)\/(J.go i H/\∃N:St->Hp->Prop,(∀σ' H',N σ' H'->∃m',m'<m/\W (i+1) m' σ' H')/\∀x H',J.yld i H x H'->g x σ H' λσ2 H2=>tb {D with nx:=N,ct:=N,bk:=D.nx} σ2 H2)
noncomputable def zvg(fp:List Addr)(h:Heap):List (Addr×Obj):=fp.filterMap λb=>(h.get? b).map λo=>(b,o)
theorem zkz{fp:List Addr}{h:Heap}{b:Addr}{o:Obj}(hb:b∈fp)(e:h.get? b=some o):(b,o)∈zvg fp h:=qBy.mpr ⟨b,hb,by rw[e];rfl⟩
theorem zacz{fp:List Addr}{h:Heap}{p:Addr×Obj}(hp:p∈zvg fp h):p.1∈fp/\h.get? p.1=some p.2:=by
 obtain⟨b,hb,e⟩:=qBy.mp hp
 cases q:h.get? b with
 | none=>rw[q]at e;cases e
 | some o=>
  rw[q]at e
  have e':(b,o)=p:=qS e
  subst e'
  exact⟨hb,q⟩
theorem Inv.pinned{pins:List (Addr×Obj)}{σ:St}{H:Hp}{s:Shared}{fp:List Addr}(I:Inv X pins σ H s)(hf:∀b∈fp,FpOk X pins H b)(ho:∀b∈fp,∃o,s.heap.get? b=some o/\∀v,o.data≠.cell v):Inv X (pins++zvg fp s.heap) σ H s:=
 I.pins_of λp hp=>(q9.mp hp).elim (λz=>I.pin p (ql _ z)) λz=>by
  obtain⟨hb,e⟩:=zacz z
  obtain⟨f0,f1,f2,_⟩:=hf p.1 hb
  obtain⟨o,e',d⟩:=ho p.1 hb
  rw[e]at e';cases e'
  exact⟨e,f0,f1,f2,d⟩
theorem Inv.unpinned{pins pl:List (Addr×Obj)}{σ:St}{H:Hp}{s:Shared}(I:Inv X (pins++pl) σ H s):Inv X pins σ H s:=I.pins_of λp hp=>I.pin p (ql _ (qy _ hp))
theorem zaod{iter:Expr}{body:List Stmt}{wi:TI}{g:TG}{tb:TS}{pos:Pos}(hp:PassesOwn (model X.prog X.w) X.A X.env X.xe)(hc:X.calm=true)(hi:PI X tg iter wi)(hg:PG X tg g)(hb:PSs X body tb)
  (hs:∀x,foldedSetIterable iter X.env x=pure x:=by intro _;rfl):PS X (.For tg iter body [] pos) (tFor wi g tb):=by
 intro pins s σ H D I h
 refine wpAny_For (thn (hi pins s σ H _ I h) λv s1 h1=>thn h1 λitv s2 h2=>?_) hs
 obtain⟨it,fp,tn,J,H2,e,I2,T,st2,f2,W,⟨m0,w0⟩,turn⟩:=h2
 subst e
 have stat:∀{H':Hp},(∀b∈fp,H' b=none)->∀b∈fp,FpOk X pins H' b:=λhn b hb=>⟨hn b hb,(f2 b hb).2⟩
 refine codeAny_forLoop_any (λn s'=>∃i σ' H',Inv X pins σ' H' s'/\tn i s'.heap/\(∀b∈fp,H' b=none)/\W i n σ' H') ?_ m0 ⟨0,σ,H2,I2,st2,λb hb=>(f2 b hb).1,w0⟩
 rintro n s3 ⟨i,σ3,H3,I3,st3,fr3,w3⟩
 rcases turn i n σ3 H3 w3 with⟨stop,qn⟩|⟨go,N,hN,step⟩
 ·refine qBT hp (thn (T.done X rfl rfl rfl hc i pins s3 σ3 H3 X.xe I3 (stat fr3) st3 stop) λr s4 ⟨hr,I4⟩=>?_)
  subst hr
  exact qCa ⟨σ3,H3,I4,qn⟩
 ·refine qBT hp (thn (T.item X rfl rfl rfl hc i pins s3 σ3 H3 X.xe I3 (stat fr3) st3 go) λr s4 ⟨u,hr,h4⟩=>?_)
  subst hr
  refine qBT hp (thn h4 λ_ s5 ⟨x,H5,I5,r5,y5,st5,fr5⟩=>?_)
  have I5':=I5.pinned (stat fr5) (T.obj _ _ st5)
  refine qBT hp (thn (hg _ s5 σ3 H5 x u _ I5' r5 (step x H5 y5)) λ_ s6 ⟨σ6,H6,I6,q6⟩=>?_)
  refine qBT hp (thn (hb _ s6 σ6 H6 _ I6 q6) λf s7 q7=>?_)
  have again:∀{σ7:St}{H7:Hp},Inv X (pins++zvg fp s5.heap) σ7 H7 s7->N σ7 H7->∃m,m<n/\∃i σ' H',Inv X pins σ' H' s7/\tn i s7.heap/\(∀b∈fp,H' b=none)/\W i m σ' H':=λ{σ7 H7} I7 n7=>by
   obtain⟨m',hm,w7⟩:=hN σ7 H7 n7
   refine⟨m',hm,i+1,σ7,H7,I7.unpinned,T.keep _ _ _ st5 λb hb o e=>(I7.pin (b,o) (ql _ (ql _ (zkz hb e)))).1,λb hb=>?_,w7⟩
   obtain⟨o,e,d⟩:=T.obj _ _ st5 b hb
   exact(I7.pin (b,o) (ql _ (ql _ (zkz hb e)))).2.1
  cases f with
  | next=>obtain⟨σ7,H7,I7,n7⟩:=q7;exact again I7 n7
  | cont=>obtain⟨σ7,H7,I7,n7⟩:=q7;exact again I7 n7
  | brk=>obtain⟨σ7,H7,I7,q7⟩:=q7;exact⟨σ7,H7,I7.unpinned,q7⟩
  | ret v=>obtain⟨x7,σ7,H7,I7,r7,q7⟩:=q7;exact⟨x7,σ7,H7,I7.unpinned,r7,q7⟩
end
noncomputable abbrev R2:=V->V->Hp->VK->Prop
noncomputable def OpR(X:Cx)(f:Value->Value->Sem Value)(r:R2):Prop:=
 ∀(pins:List (Addr×Obj))(s:Shared)(σ:St)(H:Hp)(x y:V)(v u:Value)(Q:VK),Inv X pins σ H s->RelV x v->RelV y u->r x y H Q->
  wpAny (model X.prog X.w) X.A (f v u) (EP X pins σ Q) X.xe s
noncomputable def UnR(X:Cx)(f:Value->Sem Value)(r:V->Hp->VK->Prop):Prop:=
 ∀(pins:List (Addr×Obj))(s:Shared)(σ:St)(H:Hp)(x:V)(v:Value)(Q:VK),Inv X pins σ H s->RelV x v->r x H Q->
  wpAny (model X.prog X.w) X.A (f v) (EP X pins σ Q) X.xe s
noncomputable def CallR(X:Cx)(f:Value)(r:List V->Hp->VK->Prop):Prop:=
 ∀(pins:List (Addr×Obj))(s:Shared)(σ:St)(H:Hp)(xs:List V)(us:List Value)(Q:VK),Inv X pins σ H s->Vals xs us->r xs H Q->
  wpAny (model X.prog X.w) X.A (call f us) (EP X pins σ Q) X.xe s
noncomputable def TruR(X:Cx)(r:V->Hp->(Bool->Hp->Prop)->Prop):Prop:=
 ∀(pins:List (Addr×Obj))(s:Shared)(σ:St)(H:Hp)(x:V)(v:Value)(Q:Bool->Hp->Prop),Inv X pins σ H s->RelV x v->r x H Q->
  wpAny (model X.prog X.w) X.A (truthy v) (TP X pins σ Q) X.xe s
noncomputable def tOp(r:R2)(ta tb:TE):TE:=λσ H Q=>ta σ H λx H1=>tb σ H1 λy H2=>r x y H2 Q
noncomputable def tUn(r:V->Hp->VK->Prop)(ta:TE):TE:=λσ H Q=>ta σ H λx H1=>r x H1 Q
noncomputable def rI(C:Int->Int->Prop)(g:Int->Int->V):R2:=λx y H Q=>∃i j,x=.int i/\y=.int j/\C i j/\Q (g i j) H
noncomputable def rI0(g:Int->Int->V):R2:=λx y H Q=>∃i j,x=.int i/\y=.int j/\Q (g i j) H
noncomputable def rU(g:Int->V):V->Hp->VK->Prop:=λx H Q=>∃i,x=.int i/\Q (g i) H
section
variable{X:Cx}{a b c:Expr}{ta tb tc:TE}{pos:Pos}
theorem binT(ha:PE X a ta)(hb:PE X b tb){pins:List (Addr×Obj)}{s:Shared}{σ:St}{H:Hp}{R:V->V->Hp->Prop}(I:Inv X pins σ H s)
  (h:ta σ H λx H1=>tb σ H1 λy H2=>R x y H2){Q:Value->Shared->Prop}{f:Value->Value->Sem Value}
  (hf:∀v u s2 x y H2,Inv X pins σ H2 s2->RelV x v->RelV y u->R x y H2->wpAny (model X.prog X.w) X.A (f v u) Q X.xe s2) :
  wpAny (model X.prog X.w) X.A (eval a X.env) (λv s₁=>wpAny (model X.prog X.w) X.A (eval b X.env) (λu s₂=>wpAny (model X.prog X.w) X.A (f v u) Q X.xe s₂) X.xe s₁) X.xe s:=by
 refine thn (ha pins s σ H _ I h) λv s1 ⟨x,H1,I1,r1,q1⟩=>?_
 refine thn (hb pins s1 σ H1 _ I1 q1) λu s2 ⟨y,H2,I2,r2,q2⟩=>?_
 exact hf v u s2 x y H2 I2 r1 r2 q2
theorem zarf{op:Operator}{r:R2}(ho:OpR X (binaryOp op) r)(ha:PE X a ta)(hb:PE X b tb):PE X (.BinOp a op b pos) (tOp r ta tb):=by
 intro pins s σ H Q I h
 exact wpAny_BinOp (binT ha hb I h λv u s2 x y H2 I2 rx ry q=>ho pins s2 σ H2 x y v u Q I2 rx ry q)
theorem zarg{op:UnaryOp}{r:V->Hp->VK->Prop}(ho:UnR X (unaryOp op) r)(ha:PE X a ta):PE X (.UnaryOp op a pos) (tUn r ta):=by
 intro pins s σ H Q I h
 exact UnaryOp_ (thn (ha pins s σ H _ I h) λv s1 ⟨x,H1,I1,r1,q1⟩=>ho pins s1 σ H1 x v Q I1 r1 q1)
theorem opI{f:Value->Value->Sem Value}{C:Int->Int->Prop}{g:Int->Int->Int}
  (rule:∀(i j:Int)(t u:Tok)(s:Shared)(Q:Value->Shared->Prop)(E:Value->Shared->Prop),C i j->Q (.int (g i j) s.toks) {s with toks:=s.toks+1}->wpAny (model X.prog X.w) X.A (f (.int i t) (.int j u)) Q E s) :
  OpR X f (rI C λi j=>.int (g i j)):=by
 intro pins s σ H x y v u Q I rx ry h
 obtain⟨i,j,rfl,rfl,hc,q⟩:=h
 obtain⟨t,rfl⟩:=rx
 obtain⟨t',rfl⟩:=ry
 exact rule i j t t' s _ _ hc ⟨.int (g i j),H,I.tok _,⟨_,rfl⟩,q⟩
theorem opI0{f:Value->Value->Sem Value}{g:Int->Int->Int}
  (rule:∀(i j:Int)(t u:Tok)(s:Shared)(Q:Value->Shared->Prop)(E:Value->Shared->Prop),Q (.int (g i j) s.toks) {s with toks:=s.toks+1}->wpAny (model X.prog X.w) X.A (f (.int i t) (.int j u)) Q E s) :
  OpR X f (rI0 λi j=>.int (g i j)):=by
 intro pins s σ H x y v u Q I rx ry h
 obtain⟨i,j,rfl,rfl,q⟩:=h
 obtain⟨t,rfl⟩:=rx
 obtain⟨t',rfl⟩:=ry
 exact rule i j t t' s _ _ ⟨.int (g i j),H,I.tok _,⟨_,rfl⟩,q⟩
theorem opB0{f:Value->Value->Sem Value}{g:Int->Int->Bool}
  (rule:∀(i j:Int) (t u:Tok) (s:Shared) (Q:Value->Shared->Prop) (E:Value->Shared->Prop),Q (.bool (g i j)) s->wpAny (model X.prog X.w) X.A (f (.int i t) (.int j u)) Q E s) :
  OpR X f (rI0 λi j=>.bl (g i j)):=by
 intro pins s σ H x y v u Q I rx ry h
 obtain⟨i,j,rfl,rfl,q⟩:=h
 obtain⟨t,rfl⟩:=rx
 obtain⟨t',rfl⟩:=ry
 exact rule i j t t' s _ _ ⟨.bl (g i j),H,I,rfl,q⟩
noncomputable def CDiv(i j:Int):Prop:=0<j/\j<1073741824
noncomputable def CPow(i j:Int):Prop:=0<=j/\j<=1000000/\i.natAbs<2 ^ 64
noncomputable def CMul(i j:Int):Prop:=(-(2 ^ 64)<i/\i<2 ^ 64)\/(-(2 ^ 64)<j/\j<2 ^ 64)
theorem CMul.ok{i j:Int}(h:CMul i j):IntMulOk i j:=by
 rcases h with⟨h1,h2⟩|⟨h1,h2⟩
 ·exact .of_left (intBits_le_64 h1 h2)
 ·exact .of_right (intBits_le_64 h1 h2)
theorem zaoe:OpR X (binaryOp .Add) (rI0 λi j=>.int (i+j)):=opI0 λ_ _ _ _ _ _ _ q=>add_int q
theorem zaof:OpR X (binaryOp .Mult) (rI CMul λi j=>.int (i * j)):=opI λ_ _ _ _ _ _ _ hc q=>mul_int q hc.ok
theorem zada:OpR X (binaryOp .FloorDiv) (rI CDiv λi j=>.int (i / j)):=opI λi j _ _ _ _ _ hc q=>by
 have h1:(0:Int)<j:=hc.1
 have h2:j<1073741824:=hc.2
 exact floordiv_int (by omega) (by rw[Int.fdiv_eq_ediv_of_nonneg i (by omega)];exact q) (.inl (PyProof.noPylong_small (by omega)))
theorem zoq:OpR X (binaryOp .Mod) (rI (λ_ j=>0<j) λi j=>.int (i % j)):=opI λi j _ _ _ _ _ hc q=>by
 have h1:(0:Int)<j:=hc
 exact mod_int' (by omega) (by rw[Int.fmod_eq_emod_of_nonneg i (by omega)];exact q)
theorem zaog:OpR X (binaryOp .Pow) (rI CPow λi j=>.int (i ^ j.toNat)):=opI λ_ _ _ _ _ _ _ hc q=>pow_int_small hc.1 hc.2.1 hc.2.2 q
theorem unI{f:Value->Sem Value}{g:Int->Int}
  (rule:∀(i:Int)(t:Tok)(s:Shared)(Q:Value->Shared->Prop)(E:Value->Shared->Prop),Q (.int (g i) s.toks) {s with toks:=s.toks+1}->wpAny (model X.prog X.w) X.A (f (.int i t)) Q E s) :
  UnR X f (rU λi=>.int (g i)):=by
 intro pins s σ H x v Q I rx h
 obtain⟨i,rfl,q⟩:=h
 obtain⟨t,rfl⟩:=rx
 exact rule i t s _ _ ⟨.int (g i),H,I.tok _,⟨_,rfl⟩,q⟩
theorem zadb:UnR X (unaryOp .USub) (rU λi=>.int (-i)):=unI λ_ _ _ _ _ q=>neg_int q
end
noncomputable def scal:V->V->Bool
 | .non,.non=>true|.non,.int _=>true|.int _,.non=>true|.non,.bl _=>true|.bl _,.non=>true|.non,.str _=>true|.str _,.non=>true
 | .int _,.int _=>true|.bl _,.bl _=>true|.str _,.str _=>true|.byt _,.byt _=>true
 | .int _,.str _=>true|.str _,.int _=>true|.bl _,.str _=>true|.str _,.bl _=>true
 | _,_=>false
noncomputable def rEq:R2:=λx y H Q=>scal x y=true/\Q (.bl (decide (x=y))) H
noncomputable def rNe:R2:=λx y H Q=>scal x y=true/\Q (.bl (!decide (x=y))) H
theorem zyc{i j:Int}:decide (V.int i=V.int j)=(i==j):=by
 rw[qx]
 simp
theorem zzz{i j:Bool}:decide (V.bl i=V.bl j)=(i==j):=by
 rw[qx]
 simp
theorem zyd{i j:Str}:decide (V.str i=V.str j)=(i==j):=by
 rw[qx]
 simp
theorem zadc{i j:Array UInt8}:decide (V.byt i=V.byt j)=(i.toList==j.toList):=by
 rw[qx]
 cases i
 cases j
 simp
section
variable{X:Cx}{a b c:Expr}{ta tb tc:TE}{pos:Pos}
theorem zcn{pins:List (Addr×Obj)}{σ:St}{H:Hp}{s:Shared}{Q:VK}{k k':Bool}(I:Inv X pins σ H s)(q:Q (.bl k) H)(e:k=k'):EP X pins σ Q (.bool k') s:=by
 subst e
 exact⟨.bl k,H,I,rfl,q⟩
theorem zarh:OpR X (compareOp .Eq) rEq:=by
 intro pins s σ H x y v u Q I rx ry h
 obtain⟨hs,q⟩:=h
 cases x with
 | non=>
  cases rx
  cases y with
  | non=>cases ry;exact PySem.EqNone.eq_none_none (zcn I q (by simp))
  | bl j=>cases ry;exact PySem.EqNone.eq_none_bool (zcn I q (by simp))
  | int j=>obtain⟨t',rfl⟩:=ry;exact PySem.EqNone.eq_none_int (zcn I q (by simp))
  | str j=>obtain⟨t',rfl⟩:=ry;exact PySem.EqNone.eq_none_str (zcn I q (by simp))
  | _=>exact absurd (show false=true from hs) qJ
 | bl i=>
  cases rx
  cases y with
  | non=>cases ry;exact PySem.EqNone.eq_bool_none (zcn I q (by simp))
  | bl j=>cases ry;exact eq_bool (zcn I q zzz)
  | str j=>obtain⟨t',rfl⟩:=ry;exact PySem.EqMixed.eq_bool_str (zcn I q (by simp))
  | _=>exact absurd (show false=true from hs) qJ
 | int i=>
  obtain⟨t,rfl⟩:=rx
  cases y with
  | non=>cases ry;exact PySem.EqNone.eq_int_none (zcn I q (by simp))
  | int j=>obtain⟨t',rfl⟩:=ry;exact eq_int (zcn I q zyc)
  | str j=>obtain⟨t',rfl⟩:=ry;exact PySem.EqMixed.eq_int_str (zcn I q (by simp))
  | _=>exact absurd (show false=true from hs) qJ
 | str i=>
  obtain⟨t,rfl⟩:=rx
  cases y with
  | non=>cases ry;exact PySem.EqNone.eq_str_none (zcn I q (by simp))
  | bl j=>cases ry;exact PySem.EqMixed.eq_str_bool (zcn I q (by simp))
  | int j=>obtain⟨t',rfl⟩:=ry;exact PySem.EqMixed.eq_str_int (zcn I q (by simp))
  | str j=>obtain⟨t',rfl⟩:=ry;exact eq_str (zcn I q zyd)
  | _=>exact absurd (show false=true from hs) qJ
 | byt i=>
  obtain⟨t,rfl⟩:=rx
  cases y with
  | byt j=>obtain⟨t',rfl⟩:=ry;exact PySem.W.eq_bytes (zcn I q zadc)
  | _=>exact absurd (show false=true from hs) qJ
 | _=>cases y<;>exact absurd (show false=true from hs) qJ
theorem zari:OpR X (compareOp .NotEq) rNe:=by
 intro pins s σ H x y v u Q I rx ry h
 obtain⟨hs,q⟩:=h
 cases x with
 | non=>
  cases rx
  cases y with
  | non=>cases ry;exact PySem.EqNone.ne_none_none (zcn I q (by simp))
  | bl j=>cases ry;exact PySem.EqNone.ne_none_bool (zcn I q (by simp))
  | int j=>obtain⟨t',rfl⟩:=ry;exact PySem.EqNone.ne_none_int (zcn I q (by simp))
  | str j=>obtain⟨t',rfl⟩:=ry;exact PySem.EqNone.ne_none_str (zcn I q (by simp))
  | _=>exact absurd (show false=true from hs) qJ
 | bl i=>
  cases rx
  cases y with
  | non=>cases ry;exact PySem.EqNone.ne_bool_none (zcn I q (by simp))
  | bl j=>cases ry;exact ne_bool (zcn I q (congrArg not zzz))
  | str j=>obtain⟨t',rfl⟩:=ry;exact PySem.EqMixed.ne_bool_str (zcn I q (by simp))
  | _=>exact absurd (show false=true from hs) qJ
 | int i=>
  obtain⟨t,rfl⟩:=rx
  cases y with
  | non=>cases ry;exact PySem.EqNone.ne_int_none (zcn I q (by simp))
  | int j=>obtain⟨t',rfl⟩:=ry;exact ne_int (zcn I q (congrArg not zyc))
  | str j=>obtain⟨t',rfl⟩:=ry;exact PySem.EqMixed.ne_int_str (zcn I q (by simp))
  | _=>exact absurd (show false=true from hs) qJ
 | str i=>
  obtain⟨t,rfl⟩:=rx
  cases y with
  | non=>cases ry;exact PySem.EqNone.ne_str_none (zcn I q (by simp))
  | bl j=>cases ry;exact PySem.EqMixed.ne_str_bool (zcn I q (by simp))
  | int j=>obtain⟨t',rfl⟩:=ry;exact PySem.EqMixed.ne_str_int (zcn I q (by simp))
  | str j=>obtain⟨t',rfl⟩:=ry;exact ne_str (zcn I q (congrArg not zyd))
  | _=>exact absurd (show false=true from hs) qJ
 | byt i=>
  obtain⟨t,rfl⟩:=rx
  cases y with
  | byt j=>obtain⟨t',rfl⟩:=ry;exact PySem.W.ne_bytes (zcn I q (congrArg not zadc))
  | _=>exact absurd (show false=true from hs) qJ
 | _=>cases y<;>exact absurd (show false=true from hs) qJ
theorem zags:OpR X (compareOp .Lt) (rI0 λi j=>.bl (decide (i<j))):=opB0 λ_ _ _ _ _ _ _ q=>lt_int q
theorem zaoh:OpR X (compareOp .LtE) (rI0 λi j=>.bl (decide (i<=j))):=opB0 λ_ _ _ _ _ _ _ q=>le_int q
theorem zabd:OpR X (compareOp .Gt) (rI0 λi j=>.bl (decide (j<i))):=opB0 λ_ _ _ _ _ _ _ q=>gt_int q
theorem OpR.or{f:Value->Value->Sem Value}{r r':R2}(h:OpR X f r)(h':OpR X f r'):OpR X f (λx y H Q=>r x y H Q\/r' x y H Q):=by
 intro pins s σ H x y v u Q I rx ry q
 rcases q with q|q
 ·exact h pins s σ H x y v u Q I rx ry q
 ·exact h' pins s σ H x y v u Q I rx ry q
theorem zbt(b:Expr){op:CmpOp}(h:op≠.In:=by decide)(h2:op≠.NotIn:=by decide):behindInMarks op b=false:=by
 have e1:(op==CmpOp.In)=false:=by cases op<;>first|rfl|exact absurd rfl h
 have e2:(op==CmpOp.NotIn)=false:=by cases op<;>first|rfl|exact absurd rfl h2
 cases b<;>simp[behindInMarks,e1,e2]
theorem zaku{op:CmpOp}{r:R2}(ho:OpR X (compareOp op) r)(ha:PE X a ta)(hb:PE X b tb)(hm:behindInMarks op b=false):PE X (.Compare a [op] [b] pos) (tOp r ta tb):=by
 intro pins s σ H Q I h
 exact wpAny_Compare1 (binT ha hb I h λv u s2 x y H2 I2 rx ry q=>ho pins s2 σ H2 x y v u Q I2 rx ry q) hm
noncomputable def tTest(t:TE):TT:=λσ H Q=>t σ H λx H'=>∃k,x=.bl k/\Q k H'
theorem zakv{op:CmpOp}{r:R2}(ho:OpR X (compareOp op) r)(ha:PE X a ta)(hb:PE X b tb)(hm:behindInMarks op b=false):PT X (.Compare a [op] [b] pos) (tTest (tOp r ta tb)):=by
 intro pins s σ H Q I h
 refine wpAny_isTrue_Compare1 (thn (ha pins s σ H _ I h) λv s1 ⟨x,H1,I1,r1,q1⟩=>thn (hb pins s1 σ H1 _ I1 q1) λu s2 ⟨y,H2,I2,r2,q2⟩=>
  thn (ho pins s2 σ H2 x y v u _ I2 r1 r2 q2) λc s3 ⟨z,H3,I3,r3,k,e,q3⟩=>?_) hm
 subst e
 cases r3
 exact qAC ⟨H3,I3,q3⟩
noncomputable def TruV(K:qC)(x:V)(H:Hp)(k:Bool):Prop:=
 match x with
 | .non=>k=false
 | .bl b=>k=b
 | .int i=>k=(i != 0)
 | .str y=>y.length<=qY/\k=((y.length:Int) != 0)
 | .byt y=>y.size<=qY/\k=((y.size:Int) != 0)
 | .ref p=>(∃xs,SqL K H p xs/\k=!xs.isEmpty)\/(∃xs,SqT K H p xs/\k=!xs.isEmpty)\/∃kvs,H p=some (.dK kvs)/\k=!kvs.isEmpty
 | _=>False
theorem zabe{κ:Type}{kvs:List (κ×V)}{vs:List (κ×Value)}(r:KV kvs vs):(!vs.isEmpty)=!kvs.isEmpty:=by
 cases r<;>rfl
theorem zsk{xs:List V}{its:List Value}(r:Vals xs its):(!its.toArray.isEmpty)=!xs.isEmpty:=by
 cases r<;>simp
theorem zsl:(qY:Nat)<2 ^ 63:=by rw[qCc];decide
theorem zaoi:TruR X (λx H Q=>∃k,TruV X.K x H k/\Q k H):=by
 intro pins s σ H x v Q I rx h
 obtain⟨k,e,q⟩:=h
 have hl:=zsl
 have hs:qY=16777216:=qCc
 cases x with
 | non=>
  cases rx
  have e':k=false:=e
  subst e'
  exact truthy_none ⟨H,I,q⟩
 | bl b=>
  cases rx
  have e':k=b:=e
  subst e'
  exact qAC ⟨H,I,q⟩
 | int i=>
  obtain⟨t,rfl⟩:=rx
  have e':k=(i != 0):=e
  subst e'
  exact PySem.P.truthy_int ⟨H,I,q⟩
 | str y=>
  obtain⟨t,rfl⟩:=rx
  obtain⟨hy,e'⟩:y.length<=qY/\k=((y.length:Int) != 0):=e
  subst e'
  exact PySem.P.truthy_str (by omega) ⟨H,I.tok _,q⟩
 | byt y=>
  obtain⟨t,rfl⟩:=rx
  obtain⟨hy,e'⟩:y.size<=qY/\k=((y.size:Int) != 0):=e
  subst e'
  exact PySem.W.truthy_bytes (by omega) ⟨H,I.tok _,q⟩
 | ref p=>
  cases rx
  have e':(∃xs,SqL X.K H p xs/\k=!xs.isEmpty)\/(∃xs,SqT X.K H p xs/\k=!xs.isEmpty)\/∃kvs,H p=some (.dK kvs)/\k=!kvs.isEmpty:=e
  rcases e' with⟨xs,hx,e'⟩|⟨xs,hx,e'⟩|⟨kvs,hx,e'⟩
  ·subst e'
   obtain⟨its,r,pl,hz⟩:=I.list hx
   have hlen:=r.length
   exact wpAny_truthy_list pl.isList (by simp only[qG];omega) ⟨H,I.tok _,by rw[zsk r];exact q⟩
  ·subst e'
   obtain⟨its,r,pl,hz⟩:=I.tuple hx
   have hlen:=r.length
   exact truthy_tuple pl (by simp only[qG];omega) ⟨H,I.tok _,by rw[zsk r];exact q⟩
  ·subst e'
   obtain⟨hz,hS,vs,r,m⟩:kvs.length<=qY/\(p==sysModules)=false/\∃vs,KV kvs vs/\s.heap.DictOf (zbs X.prog X.w) p vs:=I.hok p _ hx
   have hlen:kvs.length=vs.length:=qBv r
   exact wpAny_truthy_dict hS m (by omega) ⟨H,I.tok _,by rw[zabe r];exact q⟩
 | _=>exact(show False from e).elim
theorem zagt(ha:PE X a ta)(he:∀whole,isTrue a X.env whole=(do let v <- whole;standAt a.pos;holding [v] (truthy v))) :
  PT X a (λσ H Q=>ta σ H λx H'=>∃k,TruV X.K x H' k/\Q k H'):=by
 intro pins s σ H Q I h
 exact isTrue_plain (thn (ha pins s σ H _ I h) λv s1 ⟨x,H1,I1,r1,q1⟩=>zaoi pins s1 σ H1 x v Q I1 r1 q1) (he _)
theorem zabf:OpR X (binaryOp .Add) (λx y H Q=>∃i j,x=.str i/\y=.str j/\i.length+j.length<=qY/\Q (.str (i++j)) H):=by
 intro pins s σ H x y v u Q I rx ry h
 obtain⟨i,j,rfl,rfl,hz,q⟩:=h
 obtain⟨t,rfl⟩:=rx
 obtain⟨t',rfl⟩:=ry
 exact add_str (λt' tk=>⟨.str (i++j),H,I.tok _,⟨_,rfl⟩,q⟩) hz
theorem zabg{x:V}{us:List Value}(r:Vals [x] us):∃u,us=[u]/\RelV x u:=by
 cases r with
 | cons r1 r2=>cases r2;exact⟨_,rfl,r1⟩
theorem zakw{x y:V}{us:List Value}(r:Vals [x,y] us):∃u w',us=[u,w']/\RelV x u/\RelV y w':=by
 cases r with
 | cons r1 r2=>
  cases r2 with
  | cons r3 r4=>cases r4;exact⟨_,_,rfl,r1,r3⟩
theorem zagu:CallR X (.builtin "abs") (λxs H Q=>∃i,xs=[.int i]/\Q (.int (if i<0 then -i else i)) H):=by
 intro pins s σ H xs us Q I r h
 obtain⟨i,rfl,q⟩:=h
 obtain⟨u,rfl,t,rfl⟩:=zabg r
 exact call_abs_int λu tk=>⟨.int (if i<0 then -i else i),H,I.tok _,⟨_,rfl⟩,q⟩
theorem zvh(hc:X.calm=true):CallR X (.builtin "min") (λxs H Q=>∃i j,xs=[.int i,.int j]/\Q (.int (if j<i then j else i)) H):=by
 intro pins s σ H xs us Q I r h
 obtain⟨i,j,rfl,q⟩:=h
 obtain⟨u,w',rfl,⟨t,rfl⟩,⟨t',rfl⟩⟩:=zakw r
 refine min_two_ints (I.ok.hd hc) λh' tk k=>⟨_,H,I.kept k,?_,q⟩
 by_cases hj:j<i
 ·rw[if_pos hj,if_pos hj];exact⟨_,rfl⟩
 ·rw[if_neg hj,if_neg hj];exact⟨_,rfl⟩
noncomputable def LenV(K:qC)(x:V)(H:Hp)(n:Nat):Prop:=
 match x with
 | .str y=>y.length<=qY/\n=y.length
 | .byt y=>y.size<=qY/\n=y.size
 | .ref p=>(∃xs,SqL K H p xs/\n=xs.length)\/∃xs,SqT K H p xs/\n=xs.length
 | _=>False
theorem zagv:CallR X (.builtin "len") (λxs H Q=>∃x n,xs=[x]/\LenV X.K x H n/\Q (.int n) H):=by
 intro pins s σ H xs us Q I r h
 obtain⟨x,n,rfl,e,q⟩:=h
 obtain⟨u,rfl,rx⟩:=zabg r
 have hl:=zsl
 have hs:qY=16777216:=qCc
 cases x with
 | str y=>
  obtain⟨t,rfl⟩:=rx
  obtain⟨hy,e'⟩:y.length<=qY/\n=y.length:=e
  subst e'
  exact len_str (by omega) ⟨.int _,H,I.tok _,⟨_,rfl⟩,q⟩
 | byt y=>
  obtain⟨t,rfl⟩:=rx
  obtain⟨hy,e'⟩:y.size<=qY/\n=y.size:=e
  subst e'
  exact PySem.W.len_bytes (by omega) ⟨.int _,H,I.tok _,⟨_,rfl⟩,q⟩
 | ref p=>
  cases rx
  have e':(∃xs,SqL X.K H p xs/\n=xs.length)\/∃xs,SqT X.K H p xs/\n=xs.length:=e
  rcases e' with⟨xs,hx,e'⟩|⟨xs,hx,e'⟩
  ·subst e'
   obtain⟨its,r',pl,hz⟩:=I.list hx
   have hlen:=r'.length
   exact Calls.call_len_list pl.isList (by simp only[qG];omega) ⟨.int xs.length,H,I.tok _,⟨_,by simp only[qG];rw[hlen]⟩,q⟩
  ·subst e'
   obtain⟨its,r',pl,hz⟩:=I.tuple hx
   have hlen:=r'.length
   exact len_tuple pl (by simp only[qG];omega) ⟨.int xs.length,H,I.tok _,⟨_,by simp only[qG];rw[hlen]⟩,q⟩
 | _=>exact(show False from e).elim
end
set_option genInjectivity false in
structure ObjM(h:Heap)(x dx C:Addr)(mA:Str->Option Value):Prop where
 obj:h.get? x=some (PySem.W.instObj C dx)
 ns:h.Ns1 dx mA
 ne:dx≠x
theorem zadd{h:Heap}{dx:Addr}{mA:Str->Option Value}(n:h.Ns1 dx mA):∃od,h.get? dx=some od/\∀name,PySem.W.lookIn name od=some (mA name):=by
 obtain⟨o,es,ep,ho,hd,hk,_,hm⟩:=n
 refine⟨o,ho,λname=>?_⟩
 have e:=hm name
 unfold nsFind findBy at e
 rw[<- Array.find?_toList]at e
 unfold PySem.W.lookIn
 rw[hd]
 dsimp only
 split
 ·rename_i y q
  rw[q]at e
  exact congrArg some e
 ·rename_i q
  rw[q]at e
  have a:es.toList.any (·.refKey)=false:=by
   rw[qBX]
   intro y hy
   obtain⟨z,t,hkey⟩:=hk y (Array.mem_toList_iff.mp hy)
   simp[DictEntry.refKey,hkey]
  have a':¬es.toList.any (·.refKey)=true:=by rw[a];exact qJ
  rw[if_neg a']
  exact congrArg some e
theorem ObjM.look{h:Heap}{x dx C:Addr}{mA:Str->Option Value}(I:ObjM h x dx C mA):∃od,PySem.W.InstAt h x (PySem.W.instObj C dx) C (some od)/\∀name,PySem.W.lookIn name od=some (mA name):=
 let⟨od,ho,hl⟩:=zadd I.ns
 ⟨od,⟨I.obj,rfl,rfl,ho⟩,hl⟩
theorem RelO.some_of{v:V}{o:Option Value}(r:RelO (some v) o):∃u,o=some u/\RelV v u:=by
 cases o with
 | none=>exact(show False from r).elim
 | some u=>exact⟨u,rfl,r⟩
section
variable{P:Program}{w:World}{H H':Hp}{h h':Heap}{a C dx:Addr}{fs fs':List (Str×V)}
theorem zakx(hok:HOk P w H h)(e:H a=some (.ins C dx fs)):∃mA,ObjM h a dx C mA/\(∀f,RelO (fs.lookup f) (mA f))/\PySem.Within mA (fs.map (·.1))/\fs.length<=1000/\H dx=some (.own a):=by
 obtain⟨d,z,ne,ob,mA,n,r,q⟩:=(show zfb P w H h a (.ins C dx fs)from hok a _ e)
 exact⟨mA,⟨ob,n,ne⟩,r,q,z,d⟩
end
set_option genInjectivity false in
structure Cls(K:qC)(C:Addr):Prop where
 pg:PySem.W.plainGet K C Str.empty=true
 hd:PySem.W.hasDictIn K C=true
 po:PySem.W.plainOver K C=true
 sa:PySem.W.findIn K (.ref C) "__setattr__"=some (some (.builtin "object.__setattr__"))
theorem Cls.get{K:qC}{C:Addr}(c:Cls K C)(f:Str):PySem.W.plainGet K C f=true:=c.pg
set_option genInjectivity false in
set_option genInjectivity false in
section
variable{X:Cx}{pins:List (Addr×Obj)}{σ:St}{H:Hp}{s:Shared}{a C dx:Addr}{fs:List (Str×V)}{f:Str}{v:V}{A:Around}{E:Value->Shared->Prop}
end
section
variable{X:Cx}{pins:List (Addr×Obj)}{σ:St}{H:Hp}{s:Shared}{A:Around}{E:Value->Shared->Prop}{Q:Value->Shared->Prop}{c:Value}{b:Bool}
inductive TyOf(K:qC)(H:Hp):V->Value->Prop where
 | non:TyOf K H .non (.type "NoneType")
 | bl (x:Bool):TyOf K H (.bl x) (.type "bool")
 | int (i:Int):TyOf K H (.int i) (.type "int")
 | str (x:Str):TyOf K H (.str x) (.type "str")
 | flt (x:UInt64):TyOf K H (.flt x) (.type "float")
 | lst {a:Addr} {xs:List V} (e:H a=some (.lst xs)):TyOf K H (.ref a) (.type "list")
 | frz {a:Addr} {o:Obj} {xs:List V} (e:H a=some (.frz o (.lst xs))):TyOf K H (.ref a) (.type "list")
 | tup {a:Addr} {xs:List V} (e:H a=some (.tup xs)):TyOf K H (.ref a) (.type "tuple")
 | dK {a:Addr} {kvs:List (Key×V)} (e:H a=some (.dK kvs)):TyOf K H (.ref a) (.type "dict")
 | dT {a:Addr} {kvs:List (List Key×V)} (e:H a=some (.dT kvs)):TyOf K H (.ref a) (.type "dict")
 | ins {a C dx:Addr} {fs:List (Str×V)} (e:H a=some (.ins C dx fs)) (cl:Cls K C) (ha:PySem.W.findIn K (.ref C) "__class__"=some (some (.builtin "object.__class__")))
   (hn:PySem.W.specialIn K (.builtin "object.__class__") "__get__"=some (some (.builtin "getset_descriptor.__get__")))(htk:PySem.W.takesIn K (.builtin "object.__class__")=some true)
   (hm:PySem.W.mroIn K C (.type "object")=some true):TyOf K H (.ref a) (.ref C)
theorem zade {x:V} {u t:Value} (I:Inv X pins σ H s) (rx:RelV x u) (ty:TyOf X.K H x t) (e:PySem.W.kitOne X.K t c=some b) (h:∀tk,Q (.bool b) {s with toks:=tk}) :
  wpAny (model X.prog X.w) A (call (.builtin "isinstance") [u,c]) Q E s:=by
 cases ty with
 | non=>cases(show u=Value.none from rx);exact qAU PySem.W.kitx_none I.kIn True.intro e (λz=>nomatch z) h
 | bl y=>cases(show u=Value.bool y from rx);exact qAU PySem.W.kitx_bool I.kIn True.intro e (λz=>nomatch z) h
 | int i=>obtain⟨t,q⟩:=(show ∃t,u=Value.int i t from rx);cases q;exact qAU PySem.W.kitx_int I.kIn True.intro e (λz=>nomatch z) h
 | str y=>obtain⟨t,q⟩:=(show ∃t,u=Value.str y t from rx);cases q;exact qAU PySem.W.kitx_str I.kIn True.intro e (λz=>nomatch z) h
 | flt y=>obtain⟨t,q⟩:=(show ∃t,u=Value.float y t from rx);cases q;exact qAU PySem.W.kitx_float I.kIn True.intro e (λz=>nomatch z) h
 | @lst a xs ea=>
  cases(show u=Value.ref a from rx)
  obtain⟨_,_,n,_,h1⟩:=(show zfb X.prog X.w H s.heap a (.lst xs)from I.hok a _ ea)
  exact qAU qCl I.kIn ⟨_,h1,rfl⟩ e (λz=>nomatch z) h
 | @frz a ob xs ea=>
  cases(show u=Value.ref a from rx)
  obtain⟨_,_,_,n,_,h1⟩:=(show zfb X.prog X.w H s.heap a (.frz ob (.lst xs))from I.hok a _ ea)
  exact qAU qCl I.kIn ⟨_,h1,rfl⟩ e (λz=>nomatch z) h
 | @tup a xs ea=>
  cases(show u=Value.ref a from rx)
  obtain⟨_,_,_,p⟩:=(show zfb X.prog X.w H s.heap a (.tup xs)from I.hok a _ ea)
  obtain⟨o,h1,h2,_⟩:=p
  exact qAU PySem.W.kitx_tuple I.kIn ⟨o,h1,h2⟩ e (λz=>nomatch z) h
 | @dK a kvs ea=>
  cases(show u=Value.ref a from rx)
  obtain⟨_,_,vs,_,p⟩:=(show zfb X.prog X.w H s.heap a (.dK kvs)from I.hok a _ ea)
  obtain⟨o,es,ep,h1,h2,_⟩:=p
  exact qAU qCm I.kIn ⟨o,h1,h2.1⟩ e (λz=>nomatch z) h
 | @dT a kvs ea=>
  cases(show u=Value.ref a from rx)
  obtain⟨_,_,xs,_,o,es,ep,h1,h2,_⟩:=(show zfb X.prog X.w H s.heap a (.dT kvs)from I.hok a _ ea)
  exact qAU qCm I.kIn ⟨o,h1,h2.1⟩ e (λz=>nomatch z) h
 | @ins a C dx fs ea cl ha hn htk hm=>
  cases(show u=Value.ref a from rx)
  obtain⟨mA,O,_⟩:=zakx I.hok ea
  obtain⟨od,J,_⟩:=O.look
  exact qAU (PySem.W.kitx_own (cl.get _) cl.hd ha hn htk hm) I.kIn J e (λz=>nomatch z) h
end
set_option genInjectivity false in
structure Room(k:Nat)(A:Around):Prop where
 hd:A.handled=none
 dp:A.depth+3 * k+5<recursionLimit
 un:A.units+16 * k+200<cLine
theorem Room.mono{j k:Nat}{A:Around}(r:Room k A)(h:j<=k):Room j A:=⟨r.hd,by have:=r.dp;omega,by have:=r.un;omega⟩
theorem Room.deeper{k:Nat}{A:Around}(r:Room (k+1) A)(env:Env):Room k (A.deeper env):=
 ⟨r.hd,by have:=r.dp;show A.depth+1+3 * k+5<_;omega,by have:=r.un;show A.units+3+16 * k+200<_;omega⟩
theorem Room.depth{k:Nat}{A:Around}(r:Room k A):A.depth<recursionLimit:=by have:=r.dp;omega
theorem Room.units{k:Nat}{A:Around}(r:Room k A):A.units+64<cLine:=by have:=r.un;omega
noncomputable def tNil:TA:=λ_ H Q=>Q [] H
noncomputable def tCons(ta:TE)(tr:TA):TA:=λσ H Q=>ta σ H λx H1=>tr σ H1 λxs H2=>Q (x::xs) H2
section
variable{X:Cx}{e:Expr}{es:List Expr}{te:TE}{t:TA}{pos:Pos}
theorem zaoj:PA X [] tNil:=λ_ _ _ _ H Q I h=>qB0 ⟨[],H,I,.nil,h⟩
theorem zaky(ha:PE X e te)(hr:PA X es t)(hs:starEach (e::es) X.env=(false,eval e X.env)::starEach es X.env:=by rfl):PA X (e::es) (tCons te t):=by
 intro pos pins s σ H Q I h
 rw[hs]
 show wpAny _ _ (spliced ((false,eval e X.env)::backTo pos (starEach es X.env))) _ _ s
 refine qBx (thn (ha pins s σ H _ I h) λu s1 ⟨x,H1,I1,r1,q1⟩=>?_)
 exact thn (hr pos pins s1 σ H1 _ I1 q1) λus s2 ⟨xs,H2,I2,r2,q2⟩=>⟨x::xs,H2,I2,.cons r1 r2,q2⟩
noncomputable def tTup(t:TA):TE:=λσ H Q=>t σ H λxs H1=>xs.length<=qY/\∀p,H1 p=none->Q (.ref p) (upd H1 p (.tup xs))
noncomputable def tLst(t:TA):TE:=λσ H Q=>t σ H λxs H1=>xs.length<=qY/\∀p,H1 p=none->Q (.ref p) (upd H1 p (.lst xs))
theorem zaok{x1}(h:PA X es t):PE X (.Tuple es x1 pos) (tTup t):=by
 intro pins s σ H Q I hq
 refine wpAny_Tuple_spliced (thn (h pos pins s σ H _ I hq) λus s1 ⟨xs,H1,I1,r,z,q⟩=>⟨by rw[<- r.length];exact z,?_⟩)
 have hf:H1 s1.heap.objs.size=none:=I1.hok.fresh (qN _)
 refine⟨.ref s1.heap.objs.size,upd H1 s1.heap.objs.size (.tup xs),I1.laid (t':=s1.toks) (λb u e=>qL _ e) (qN _) ?_,rfl,q _ hf⟩
 exact⟨z,us,r,⟨_,qk _ rfl,rfl,_,rfl⟩⟩
theorem zaol(h:PA X es t):PE X (.List es pos) (tLst t):=by
 intro pins s σ H Q I hq
 refine wpAny_List_spliced (thn (h pos pins s σ H _ I hq) λus s1 ⟨xs,H1,I1,r,z,q⟩=>⟨by rw[<- r.length];exact z,?_⟩)
 have hf:H1 s1.heap.objs.size=none:=I1.hok.fresh (qN _)
 refine⟨.ref s1.heap.objs.size,upd H1 s1.heap.objs.size (.lst xs),I1.laid (t':=s1.toks) (λb u e=>qL _ e) (qN _) ?_,rfl,q _ hf⟩
 exact⟨z,us,0,r,qk _ rfl⟩
end
noncomputable abbrev Sp:=List V->Hp->VK->XK->Prop
noncomputable abbrev CXT:=List Env->Hp->Shared->XK->Value->Shared->Prop
set_option genInjectivity false in
structure Env0(P:Program)(w:World)(K:qC)(mg:Str->Option Value)(base:Heap)(A:Around)(outer:List Env)(s:Shared)(H:Hp):Prop where
 frames:A.frames=some outer
 mod:Mod K mg base
 bs:∀b o,base.get? b=some o->s.heap.get? b=some o/\H b=none
 bsz:base.objs.size<=s.heap.objs.size
 funs:s.heap.FunFrames base outer
 frf:∀b∈frs outer,H b=none
 hok:HOk P w H s.heap
 bare:AllBare s.gens
noncomputable def CE(outer:List Env)(P:Program)(w:World)(H:Hp)(s:Shared)(Q:VK)(u:Value)(s':Shared):Prop:=
 ∃v H',s'.os=s.os/\AllBare s'.gens/\Un (frs outer) [] H H' s.heap s'.heap/\HOk P w H' s'.heap/\RelV v u/\Q v H'
noncomputable def CR(CX:CXT)(outer:List Env)(P:Program)(w:World)(H:Hp)(s:Shared)(Q:VK)(E:XK)(r:Result)(s':Shared):Prop:=
 match r with
 | .ok (.ret u)=>CE outer P w H s Q u s'
 | .ok _=>False
 | .error e=>CX outer H s E e s'
set_option genInjectivity false in
structure FnOk(P:Program)(w:World)(K:qC)(mg:Str->Option Value)(base:Heap)(CX:CXT)(k:Nat)(f:Addr)(fd:qAA)(ps:List Str)(sp:Sp):Prop where
 len:∀vs H Q E,sp vs H Q E->vs.length=ps.length
 run:∀(A:Around)(outer:List Env)(s:Shared)(H:Hp)(args:Args)(us:List Value)(vs:List V)(Q:VK)(E:XK),Room k A->Env0 P w K mg base A outer s H->BindsTo s fd args (ps.zip us)->Vals vs us->sp vs H Q E->
  codeAny (model P w) A (.call (.ref f) args) (CR CX outer P w H s Q E) s
section
variable{X:Cx}{pins:List (Addr×Obj)}{σ:St}{H:Hp}{s s':Shared}
theorem Inv.env0(I:Inv X pins σ H s):Env0 X.prog X.w X.K X.mg X.base X.A X.stack s H:=
 ⟨I.ok.frames,I.ok.mod,I.bs,qAd I.ok.bsz I.sz,I.stack,I.stkFree,I.hok,I.bare⟩
theorem Inv.after{Q:VK}{u:Value}(I:Inv X pins σ H s)(h:CE X.stack X.prog X.w H s Q u s'):EP X pins σ Q u s':=by
 obtain⟨v,H',os,bare,un,hok,r,q⟩:=h
 obtain⟨hh,g,d,t,os'⟩:=s'
 obtain rfl:os'=s.os:=os
 exact⟨v,H',I.call (h':=hh) (g':=g) (d':=d) (t':=t) (ch:=[]) un hok bare (λb z=>absurd z (by simp)),r,q⟩
end
noncomputable def tCall(sp:Sp)(dvs:List V)(E:XK)(t:TA):TE:=λσ H Q=>t σ H λvs H1=>sp (vs++dvs) H1 Q E
noncomputable def zye(K:qC)(fd:qAA)(ps:List Str)(ds:List Value):Prop:=
 ∀(s:Shared)(us:List Value),K.In s.heap->(us++ds).length=ps.length->BindsTo s fd ⟨us,[]⟩ (ps.zip (us++ds))
theorem zye.all{K:qC}{fd:qAA}{ps:List Str}(h:∀us:List Value,us.length=ps.length->bindArgs fd ⟨us,[]⟩=pure (ps.zip us)):zye K fd ps []:=λs us _ hl=>by
 rw[qAV]at hl ⊢
 exact .of_eq (h us hl)
noncomputable def zadf(CX:CXT)(X:Cx)(E:XK):Prop:=∀(pins:List (Addr×Obj))(σ:St)(H:Hp)(s:Shared)(e:Value)(s':Shared),Inv X pins σ H s->CX X.stack H s E e s'->X.xe e s'
section
variable{X:Cx}{CX:CXT}{k:Nat}{f C:Addr}{fd:qAA}{ps:List Str}{sp:Sp}{dvs:List V}{ds:List Value}{E:XK}{x m:Str}{p pos apos:Pos}{e o:Expr}{es:List Expr}{ta:TE}{t:TA}
theorem zaom{pins:List (Addr×Obj)}{σ:St}{H:Hp}{s:Shared}{Q:VK}{us:List Value}{vs:List V}(F:FnOk X.prog X.w X.K X.mg X.base CX k f fd ps sp)(hr:Room k X.A)(hb:zye X.K fd ps ds)(hd:Vals dvs ds)(hx:zadf CX X E)
  (I:Inv X pins σ H s) (r:Vals vs us) (h:sp (vs++dvs) H Q E):wpAny (model X.prog X.w) X.A (call (.ref f) us) (EP X pins σ Q) X.xe s:=by
 have r2:Vals (vs++dvs) (us++ds):=r.append hd
 have hl:(us++ds).length=ps.length:=by rw[<- r2.length];exact F.len _ _ _ _ h
 refine wpAny_call (qBJ (F.run X.A X.stack s H ⟨us,[]⟩ (us++ds) (vs++dvs) Q E hr I.env0 (hb s us I.kIn hl) r2 h) λr s' hq=>?_)
 cases r with
 | error e=>exact hx pins σ H s e s' I hq
 | ok fl=>
  cases fl with
  | ret u=>exact I.after hq
  | next=>exact False.elim hq
  | brk=>exact False.elim hq
  | cont=>exact False.elim hq
theorem zakz(F:FnOk X.prog X.w X.K X.mg X.base CX k f fd ps sp)(hr:Room k X.A)(hg:Gl X x)(hm:X.mg x=some (.ref f))(hk:qc X.K (.ref f)=true)(hb:zye X.K fd ps ds)(hd:Vals dvs ds)(hx:zadf CX X E)
  (ha:PA X (e::es) t)(hdb:(x==("__debug__":Str))=false:=by decide)(he:starEach (e::es) X.env=(false,eval e X.env)::starEach es X.env:=by rfl)(hpl:(backTo pos (starEach es X.env)).any (·.1)=false:=by rfl) :
  PE X (.Call (.Name x p) (e::es) [] pos) (tCall sp dvs E t):=by
 intro pins s σ H Q I h
 refine qBA (zacw I hg hm ?_ hdb)
 refine PySem.W.callWith_K (h₀:=X.base) I.ok.mod.kin hk (thn (ha pos pins s σ H _ I h) λus s1 ⟨vs,H1,I1,r,q⟩=>⟨I1.kIn,?_⟩) he hpl
 exact zaom F hr hb hd hx I1 r q
set_option genInjectivity false in
end
section
variable{X:Cx}{CX:CXT}{k:Nat}{f C:Addr}{fd:qAA}{ps ks:List Str}{sp:Sp}{E:XK}{x m:Str}{p pos apos kpos:Pos}{e o:Expr}{es:List Expr}{kws:List Keyword}{te ta:TE}{t tk:TA}{nm:Option Str}
set_option genInjectivity false in
variable{g:List Value->List Value->List Value}{gV:List V->List V->List V}
end
set_option genInjectivity false in
structure FnScope(N P:List Str)(sc:Scope):Prop where
 kind:sc.kind=.function
 co:sc.isCoroutine=false
 gen:sc.isGenerator=false
 nd:N.Nodup
 pre:N.take P.length=P
 par:∀x∈P,sc.names.lookup x=some .local\/sc.names.lookup x=some .cell
 nofree:∀y∈sc.names,y.2≠.free
theorem zvi{kindOf:Str->Option NameKind}{x:Str}:∀{binds:List (Str×Value)}{m:Str->Option Value},(∀v,(x,v)∉binds)->bindL kindOf binds m x=m x
 | [],_,_=>rfl
 | (n,v)::r,m,h=>by
  unfold bindL
  rw[zvi λw hw=>h w (qM _ hw)]
  split
  ·have:x≠n:=by rintro rfl;exact h v qV
   simp[this]
  ·rfl
theorem zvj{kindOf:Str->Option NameKind}{x:Str}:∀{binds:List (Str×Value)}{m:Str->Option Value},(∀v,(x,v)∉binds)->bindC kindOf binds m x=m x
 | [],_,_=>rfl
 | (n,v)::r,m,h=>by
  unfold bindC
  rw[zvj λw hw=>h w (qM _ hw)]
  split
  ·rfl
  ·have:x≠n:=by rintro rfl;exact h v qV
   simp[this]
theorem zvk{kindOf:Str->Option NameKind}{x:Str}{v:Value}:∀{P:List Str}{vs:List Value}{i:Nat}{m:Str->Option Value},P.Nodup->P[i]?=some x->vs[i]?=some v->kindOf x=some .local->
  bindL kindOf (P.zip vs) m x=some v
 | [],_,_,_,_,h,_,_=>by simp at h
 | _::_,[],_,_,_,_,h,_=>by simp at h
 | p::P,w::vs,0,m,nd,h1,h2,hk=>by
  simp at h1 h2;subst h1;subst h2
  show bindL kindOf ((p,w)::P.zip vs) m p=_
  unfold bindL
  rw[zvi λv hv=>(qAQ.mp nd).1 (qCD hv).1,if_pos hk]
  simp
 | p::P,w::vs,i+1,m,nd,h1,h2,hk=>by
  show bindL kindOf ((p,w)::P.zip vs) m x=_
  unfold bindL
  exact zvk (i:=i) (qAQ.mp nd).2 (by simpa using h1) (by simpa using h2) hk
theorem zvl{kindOf:Str->Option NameKind}{x:Str}{v:Value}:∀{P:List Str}{vs:List Value}{i:Nat}{m:Str->Option Value},P.Nodup->P[i]?=some x->vs[i]?=some v->kindOf x≠some .local->
  bindC kindOf (P.zip vs) m x=some v
 | [],_,_,_,_,h,_,_=>by simp at h
 | _::_,[],_,_,_,_,h,_=>by simp at h
 | p::P,w::vs,0,m,nd,h1,h2,hk=>by
  simp at h1 h2;subst h1;subst h2
  show bindC kindOf ((p,w)::P.zip vs) m p=_
  unfold bindC
  rw[zvj λv hv=>(qAQ.mp nd).1 (qCD hv).1,if_neg hk]
  simp
 | p::P,w::vs,i+1,m,nd,h1,h2,hk=>by
  show bindC kindOf ((p,w)::P.zip vs) m x=_
  unfold bindC
  exact zvl (i:=i) (qAQ.mp nd).2 (by simpa using h1) (by simpa using h2) hk
noncomputable def zhl(N:List Str)(vs:List V):St:=vs.map some++List.replicate (N.length - vs.length) none
noncomputable def cxOf(CX:CXT)(P:Program)(w:World)(K:qC)(mg:Str->Option Value)(base:Heap)(N:List Str)(qual:Str)(scope:Scope)(f:Addr)(cd:Value)(A:Around)(outer:List Env)(s:Shared)(H:Hp)(E:XK):Cx where
 prog:=P
 w:=w
 K:=K
 mg:=mg
 base:=base
 A:=A.deeper (envOfC qual scope s.heap.objs.size f cd)
 N:=N
 s₀:=s
 H₀:=H
 env:=envOfC qual scope s.heap.objs.size f cd
 outer:=outer
 stack:=envOfC qual scope s.heap.objs.size f cd::outer
 ex:=[]
 calm:=true
 fn:=λ_=>true
 pn:=[]
 xe:=λe s'=>wpAny (model P w) (A.deeper (envOfC qual scope s.heap.objs.size f cd)) (leaving (envOfC qual scope s.heap.objs.size f cd) e) (λ_ s''=>CX outer H s E e s'') (λe' s''=>CX outer H s E e' s'') s'
theorem ztj{sc:Scope}{n:Nat}{x:Str}(h:sc.names.lookup x=some .cell):∃c,(cellsFrom n sc.names []).lookup x=some c:=by
 have q:=qCM sc.names n [] (.inl h)
 exact Option.isSome_iff_exists.mp q
theorem zadg{CX:CXT}{P:Program}{w:World}{K:qC}{mg:Str->Option Value}{base:Heap}{N ps:List Str}{qual:Str}{scope:Scope}{f:Addr}{cd:Value}{A:Around}{outer:List Env}{s s1:Shared}{H:Hp}{E:XK}{us:List Value}{vs:List V}
  (S:FnScope N ps scope)(hd:A.handled=none)(e0:Env0 P w K mg base A outer s H)(hl:vs.length=ps.length)(r:Vals vs us)
  (x:InCallC s s.heap.objs.size (bindL (envOfC qual scope s.heap.objs.size f cd).kindOf (ps.zip us) λ_=>none) (cellsFrom (s.heap.objs.size+1) scope.names []) (bindC (envOfC qual scope s.heap.objs.size f cd).kindOf (ps.zip us) λ_=>none) s1) :
  Inv (cxOf CX P w K mg base N qual scope f cd A outer s H E) [] (zhl N vs) H s1:=by
 have hpl:ps.length<=N.length:=by have:=congrArg List.length S.pre;rw[qAq]at this;omega
 obtain⟨h1,tk,rfl,hk⟩:=x.done
 have noA:∀b:Addr,b∉(cxOf CX P w K mg base N qual scope f cd A outer s H E).ex:=λb z=>absurd (show b∈([]:List Addr)from z) (by simp)
 refine⟨⟨e0.mod,S.kind,rfl,rfl,qN _,λy z c h1 h2=>?_,λy hy=>?_,λy c _ h=>?_,λ_=>hd,Around.frames_deeper e0.frames,.inr ⟨rfl,rfl⟩,λb z=>absurd z (noA b),e0.bs,e0.bsz,λb _ _=>noA b,λb z=>absurd z (noA b),e0.funs,e0.frf⟩,
  rfl,e0.bare,Un.kept hk,⟨_,x.toInCall.ns,λi y v h1 h2 h3=>?_⟩,λy c h=>⟨_,x.cell y c h⟩,e0.hok.fresh (qN _),λy c h=>?_,λp hp=>absurd (show p∈([]:List (Addr×Obj))from hp) (by simp),e0.hok.kept hk,?_⟩
 ·exact name_of_addr x.apart (qAF h1) (qAF h2)
 ·have hy:scope.names.lookup y=some .cell\/scope.names.lookup y=some .free:=hy
  rcases hy with hy|hy
  ·exact ztj hy
  ·exact absurd rfl (S.nofree _ (qAF hy))
 ·exact qBp (x.above y c (qAF h))
 ·have hi:i<vs.length:=by
   unfold zhl at h2
   by_cases hi:i<vs.length
   ·exact hi
   ·rw[qt (by simpa using hi)]at h2
    rw[qBb]at h2
    split at h2<;>cases h2
  have ha:vs[i]?=some v:=by
   unfold zhl at h2
   rw[qq (by simpa using hi),qh]at h2
   cases e:vs[i]? with
   | none=>rw[e]at h2;cases h2
   | some a=>rw[e]at h2;cases h2;rfl
  obtain⟨u,hu,rv⟩:=r.get ha
  have hp:ps[i]?=some y:=by
   rw[<- S.pre,List.getElem?_take_of_lt (by omega)];exact h1
  have ndP:ps.Nodup:=by rw[<- S.pre];exact S.nd.sublist (List.take_sublist _ _)
  refine⟨u,rv,?_⟩
  rcases S.par y (qBI hp)with k|k
  ·exact .inl ⟨k,zvk ndP hp hu k⟩
  ·obtain⟨c,e⟩:=ztj (n:=s.heap.objs.size+1) k
   refine .inr ⟨.inl k,c,e,?_⟩
   have q:=x.cell y c e
   rw[zvl ndP hp hu (by show scope.names.lookup y≠_;rw[k];decide)]at q
   exact q
 ·exact e0.hok.fresh (qBp (x.above y c (qAF h)))
 ·unfold zhl
  show _=N.length
  rw[qR,qE,qAx]
  omega
theorem zarj{CX:CXT}{P:Program}{w:World}{K:qC}{mg:Str->Option Value}{base:Heap}{k:Nat}{f:Addr}{name qual:Str}{params:Arguments}{body:List Stmt}{scope:Scope}{dV kV doc pm cdv ct oc:Value}{an od:Option Addr}
  {osl:Array (Option Value)}{N ps:List Str}{sp:Sp}(lk:K.lookup f=some ⟨oc,od,.func (qi name qual params body scope dV kV doc pm an cdv ct),osl⟩)(hcd:qf K cdv qual=true)(S:FnScope N ps scope)
  (len:∀vs H Q E,sp vs H Q E->vs.length=ps.length)
  (hbody:∀(A:Around)(outer:List Env)(s:Shared)(H:Hp)(vs:List V)(Q:VK)(E:XK),Room k (A.deeper (envOfC qual scope s.heap.objs.size f cdv))->sp vs H Q E->
   ∃t,PSs (cxOf CX P w K mg base N qual scope f cdv A outer s H E) body t/\t {nx:=λ_ H'=>Q .non H',rt:=Q} (zhl N vs) H) :
  FnOk P w K mg base CX (k+1) f (qi name qual params body scope dV kV doc pm an cdv ct) ps sp:=by
 refine⟨len,λA outer s H args us vs Q E hr e0 hb r hsp=>?_⟩
 have hl:=len _ _ _ _ hsp
 have KX:K.In s.heap:=e0.mod.kin.keeps λb o e=>(e0.bs b o e).1
 have lim:s.heap.NoLimit:=e0.mod.nolimit.keeps λb o e=>(e0.bs b o e).1
 have hkind:∀y∈ps.zip us,scope.names.lookup y.1=some .local\/(scope.names.lookup y.1=some .cell/\((cellsFrom (s.heap.objs.size+1) scope.names []).lookup y.1).isSome=true):=λ⟨n,v⟩ hy=>by
  rcases S.par n (qCD hy).1 with q|q
  ·exact .inl q
  ·exact .inr ⟨q,qCM _ _ _ (.inl q)⟩
 refine codeAny_call_function hr.depth (KX _ _ lk) rfl S.co S.gen rfl (PySem.W.codeRec_of KX hcd) (hb _ _ _ _ ?_)
 refine wpAny_newFunctionEnv_cells S.kind hkind λenv he s1 x=>?_
 subst he
 refine⟨lim.keeps x.toInCall.keep,codeAny_func ?_⟩
 obtain⟨t,ht,hq⟩:=hbody A outer s H vs Q E (hr.deeper _) hsp
 have I:Inv (cxOf CX P w K mg base N qual scope f cdv A outer s H E) [] (zhl N vs) H s1:=zadg S hr.hd e0 hl r x
 refine qBi (ht [] s1 (zhl N vs) H _ I hq) (λfl s' hs=>?_) λe s' hs=>hs
 have fin:∀{σ':St}{H':Hp}{v:V}{u:Value},Inv (cxOf CX P w K mg base N qual scope f cdv A outer s H E) [] σ' H' s'->RelV v u->Q v H'->CE outer P w H s Q u s':=
  λ{σ' H' v u} J rv q=>⟨v,H',J.os,J.bare,J.base,J.hok,rv,q⟩
 cases fl with
 | ret u=>
  obtain⟨v,σ',H',J,rv,q⟩:=hs
  exact fin J rv q
 | next=>
  obtain⟨σ',H',J,q⟩:=hs
  exact fin (v:=V.non) (u:=Value.none) J rfl q
 | brk=>
  obtain⟨_,_,_,q⟩:=hs
  exact False.elim q
 | cont=>
  obtain⟨_,_,_,q⟩:=hs
  exact False.elim q
section
variable{X:Cx}{x:Str}{p pos:Pos}{e:Expr}{es:List Expr}{t:TA}{id T:String}{r:List V->Hp->VK->Prop}
noncomputable def tCB(r:List V->Hp->VK->Prop)(t:TA):TE:=λσ H Q=>t σ H λvs H1=>r vs H1 Q
theorem zagw(hc:CallR X (.builtin id) r)(hg:Gl X x)(hm:X.mg x=none)(hv:bootBuiltins x=some (.builtin id))(ha:PA X (e::es) t)(hn:x≠"__name__":=by decide)(hdb:(x==("__debug__":Str))=false:=by decide)
  (he:starEach (e::es) X.env=(false,eval e X.env)::starEach es X.env:=by rfl) (hpl:(backTo pos (starEach es X.env)).any (·.1)=false:=by rfl):PE X (.Call (.Name x p) (e::es) [] pos) (tCB r t):=by
 intro pins s σ H Q I h
 refine qBA (zqb I hg hm hv ?_ hn hdb)
 exact PyProof.Rows.callWith_builtin1 (thn (ha pos pins s σ H _ I h) λus s1 ⟨vs,H1,I1,r1,q1⟩=>hc pins s1 σ H1 vs us Q I1 r1 q1) he hpl
theorem zadh(hc:CallR X (.type T) r)(hg:Gl X x)(hm:X.mg x=none)(hv:bootBuiltins x=some (.type T))(ha:PA X (e::es) t)(hn:x≠"__name__":=by decide)(hdb:(x==("__debug__":Str))=false:=by decide)
  (he:starEach (e::es) X.env=(false,eval e X.env)::starEach es X.env:=by rfl) (hpl:(backTo pos (starEach es X.env)).any (·.1)=false:=by rfl):PE X (.Call (.Name x p) (e::es) [] pos) (tCB r t):=by
 intro pins s σ H Q I h
 refine qBA (zqb I hg hm hv ?_ hn hdb)
 exact qA7 (thn (ha pos pins s σ H _ I h) λus s1 ⟨vs,H1,I1,r1,q1⟩=>hc pins s1 σ H1 vs us Q I1 r1 q1) he hpl
end
end L2
namespace HT
open PySem PyProof.Rows
section
open PySem.SeqAt
open PySem.AutoSeq1 (wpAny_loadPart')
open PySem.MeetsSeq PySem.MeetsSeq2 PySem.MeetsSeq3
end
section
variable{prog:Program}{w:World}{A:Around}{E:Value->Shared->Prop}{s:Shared}
theorem cat_tup{t b:Addr}{vs ws:List Value}{Q:Value->Shared->Prop}(ht:IsTup s.heap t vs.toArray)(hb:IsTup s.heap b ws.toArray)(hv:vs≠[])
  (h1:ws=[]->Q (.ref t) s) (h2:ws≠[]->Q (.ref s.heap.objs.size) {s with heap:=s.heap.push {cls:=.type "tuple",data:=.seq (vs++ws).toArray}})
  (hsz:vs.length+ws.length<=qY):wpAny (model prog w) A (binaryOp .Add (.ref t) (.ref b)) Q E s:=by
 obtain⟨⟨cls,dd,data,sl⟩,ho,hc,n,hd⟩:=id ht
 obtain⟨⟨cls2,dd2,data2,sl2⟩,ho2,hc2,n2,hd2⟩:=id hb
 simp only at hc hd hc2 hd2
 subst hc hd hc2 hd2
 have e:vs.toArray++ws.toArray=(vs++ws).toArray:=by simp
 by_cases hw:ws=[]
 ·exact concat_meets ⟨_,ho,rfl⟩ ⟨_,ho2,rfl⟩ noFill_tuple_add seq_tuple_add qCN qCJ (qCC _ _)
   (tuple_addW1 t b vs.toArray ws.toArray n n2 dd dd2 sl sl2 (by simpa using hv) (by simp[hw])) ⟨ho,ho2,h1 hw⟩
 ·refine concat_meets ⟨_,ho,rfl⟩ ⟨_,ho2,rfl⟩ noFill_tuple_add seq_tuple_add qCN qCJ (qCC _ _)
   (tuple_addW2 t b vs.toArray ws.toArray n n2 dd dd2 sl sl2 (by simpa using hv) (by simpa using hw) (by rw[qG,qG];exact hsz)) ⟨ho,ho2,?_⟩
  rw[e]
  exact h2 hw
noncomputable def sIx(n d:Nat):Option Int->Nat
 | none=>d
 | some v=>if v<0 then(v+(n:Int)).toNat else min v.toNat n
theorem sIx_nat(n d k:Nat):sIx n d (some (k:Int))=min k n:=by
 show(if(k:Int)<0 then((k:Int)+(n:Int)).toNat else min (k:Int).toNat n)=min k n
 rw[if_neg (by omega),qBB]
theorem zaon(n d:Nat)(hd:d<=n)(o:Option Int):sIx n d o<=n:=by
 cases o with
 | none=>exact hd
 | some v=>
  show(if v<0 then(v+(n:Int)).toNat else min v.toNat n)<=n
  by_cases hv:v<0
  ·rw[if_pos hv];omega
  ·rw[if_neg hv];exact Nat.min_le_right _ _
theorem zadi(v:Int)(n d:Nat):(if v<0 then max (v+(n:Int)) 0 else min v (n:Int))=((sIx n d (some v):Nat):Int):=by
 show(if v<0 then max (v+(n:Int)) 0 else min v (n:Int))=(((if v<0 then(v+(n:Int)).toNat else min v.toNat n):Nat):Int)
 by_cases hv:v<0
 ·simp only[if_pos hv];omega
 ·simp only[if_neg hv];omega
theorem zabh(lo hi:Option Int)(n:Nat):Builtin.Slice.sliceAdjust lo hi 1 (n:Int)=(((sIx n 0 lo:Nat):Int),((sIx n n hi:Nat):Int)):=by
 have h1:¬((1:Int)<0):=by omega
 unfold Builtin.Slice.sliceAdjust
 simp only[h1,if_false]
 refine Prod.ext ?_ ?_
 ·cases lo with
  | none=>rfl
  | some v=>exact zadi v n 0
 ·cases hi with
  | none=>rfl
  | some v=>exact zadi v n n
theorem zabi(i j:Nat):Builtin.Slice.slicePlaces (i:Int) (j:Int) 1=j - i:=by
 unfold Builtin.Slice.slicePlaces
 have h1:(1:Int) > 0:=by omega
 simp only[h1,if_true,qCr]
 split<;>omega
theorem zsm{v:Value}{o:Option Int}{Q:Option Int->Shared->Prop}(p:IsPart v o)(h:Q o s):wpAny (model prog w) A (Builtin.Slice.slicePartIndex v) Q E s:=by
 cases p with
 | none=>exact slicePart_none h
 | int i t=>exact slicePart_int h
theorem zjn{sl:Addr}{vl vu:Value}{lo hi:Option Int}{n:Nat}{Q:Int×Int×Nat->Shared->Prop}(hs:s.heap.IsSliceOf sl vl vu .none)(pl:IsPart vl lo)(pu:IsPart vu hi)
  (h:Q (((sIx n 0 lo:Nat):Int),1,sIx n n hi - sIx n 0 lo) s):wpAny (model prog w) A (Builtin.Slice.sliceApplied (.ref sl) (pure (n:Int))) Q E s:=by
 obtain⟨os,hos,hcs,hds⟩:=id hs
 unfold Builtin.Slice.sliceApplied Builtin.Slice.sliceFields
 refine qB (qB (qBH hos hds (x:=vl) rfl (qB (qBH hos hds (x:=vu) rfl (qB (qBH hos hds (x:=.none) rfl (qH ?_)))))))
 refine qB (slicePart_none ?_)
 show wpAny _ _ (if((1:Int)==0)=true then _ else _) _ _ s
 rw[if_neg (by decide)]
 refine qB (zsm pl (qB (zsm pu (qB (qH ?_)))))
 show wpAny _ _ (match Builtin.Slice.sliceAdjust lo hi 1 (n:Int)with|(lo,hi)=>pure (lo,(1:Int),Builtin.Slice.slicePlaces lo hi 1)) _ _ s
 rw[zabh lo hi n]
 show wpAny _ _ (pure (((sIx n 0 lo:Nat):Int),(1:Int),Builtin.Slice.slicePlaces ((sIx n 0 lo:Nat):Int) ((sIx n n hi:Nat):Int) 1)) _ _ s
 rw[zabi]
 exact qH h
theorem zagx(xs:Array Value)(i k:Nat):((List.range k).filterMap λ(m:Nat)=>xs[((i:Int)+(m:Int) * 1).toNat]?).toArray=((xs.toList.drop i).take k).toArray:=by
 have e:(λ(m:Nat)=>xs[((i:Int)+(m:Int) * 1).toNat]?)=λm=>xs[i+m]?:=by
  funext m
  have:((i:Int)+(m:Int) * 1).toNat=i+m:=by omega
  rw[this]
 rw[e]
 have:=pick_run xs i k
 rw[List.filterMap_map]at this
 have e2:((λx=>xs[x]?)∘λx=>i+x)=λm=>xs[i+m]?:=rfl
 rw[e2]at this
 rw[this]
theorem getItem_tuple_cut{t sl:Addr}{items:Array Value}{vl vu:Value}{lo hi:Option Int}{Q:Value->Shared->Prop}(ht:IsTup s.heap t items)(hs:s.heap.IsSliceOf sl vl vu .none)(pl:IsPart vl lo)(pu:IsPart vu hi)
  (hw:¬(sIx items.size 0 lo=0/\sIx items.size items.size hi=items.size))
  (h:Q (.ref s.heap.objs.size) {s with heap:=s.heap.push {cls:=.type "tuple",data:=.seq ((items.toList.drop (sIx items.size 0 lo)).take (sIx items.size items.size hi - sIx items.size 0 lo)).toArray}})
  (hsz:items.size<=qY):wpAny (model prog w) A (getItem (.ref t) (.ref sl)) Q E s:=by
 have htake:sizeOk (.seq ((items.toList.drop (sIx items.size 0 lo)).take (sIx items.size items.size hi - sIx items.size 0 lo)).toArray):=by
  show((items.toList.drop (sIx items.size 0 lo)).take (sIx items.size items.size hi - sIx items.size 0 lo)).toArray.size<=qY
  rw[qG,qAq,qBe,qBu]
  omega
 have hj:sIx items.size items.size hi<=items.size:=zaon _ _ (qN _) hi
 obtain⟨os,hos,hcs,hds⟩:=id hs
 have hTs:s.TypeIs (.ref sl) "slice":=⟨os,hos,hcs⟩
 unfold getItem
 try with_reducible refine qAI ?_
 first|refine qB (qH ?_)|skip
 refine qB (wpAny_sequenceKey ht.typeIs (by decide) ?_)
 refine qB (qAt (name:=Str.ofString "__getitem__") ht.typeIs qAN
  (qAw qAN ht.typeIs entry_tuple_getitem ?_ (args_tuple_getitem _ _)))
 show wpAny _ _ (Builtin.Tuple.tupleItemsOf (.ref t) >>=_) _ _ s
 refine qB (tupleItemsOf_ ht ?_)
 refine qB (qCL hTs ?_)
 rw[if_pos (by decide)]
 refine qB (zjn hs pl pu ?_)
 have hno:¬((((sIx items.size 0 lo:Nat):Int)==0&&(1:Int)==1&&(sIx items.size items.size hi - sIx items.size 0 lo)==items.size)=true):=by
  intro q
  rw[qZ,qZ]at q
  have q1:((sIx items.size 0 lo:Nat):Int)=0:=eq_of_beq q.1.1
  have q2:sIx items.size items.size hi - sIx items.size 0 lo=items.size:=eq_of_beq q.2
  exact hw ⟨by omega,by omega⟩
 show wpAny _ _ (if(((sIx items.size 0 lo:Nat):Int)==0&&(1:Int)==1&&(sIx items.size items.size hi - sIx items.size 0 lo)==items.size)=true then _ else _) _ _ s
 rw[if_neg hno,zagx]
 first
  | exact qB (m:=Builtin.Tuple.tupleExact _) (qAn (qH ⟨_,rfl,qH h⟩) htake)
  | exact qB (m:=Builtin.Tuple.tupleExact _) (qAn (qB (qH (qH ⟨_,rfl,qH h⟩))) htake)
  | exact qB (qB (m:=Builtin.Tuple.tupleExact _) (qAn (qH (qH ⟨_,rfl,qH h⟩)) htake))
  | exact qB (qB (m:=Builtin.Tuple.tupleExact _) (qAn (qH ⟨_,rfl,qH h⟩) htake))
end
end HT
namespace L2
open PySem PySem.Spec PyProof.Rows
noncomputable abbrev TO:=St->Hp->(Option Int->Hp->Prop)->Prop
noncomputable def PO(X:Cx)(e:Option Expr)(t:TO):Prop:=
 ∀(pins:List (Addr×Obj))(s:Shared)(σ:St)(H:Hp)(Q:Option Int->Hp->Prop),Inv X pins σ H s->t σ H Q->
  wpAny (model X.prog X.w) X.A (evalPart e X.env) (λu s'=>∃o H',Inv X pins σ H' s'/\IsPart u o/\Q o H') X.xe s
noncomputable def tNoPart:TO:=λ_ H Q=>Q none H
noncomputable def tPart(t:TE):TO:=λσ H Q=>t σ H λx H1=>∃i,x=.int i/\Q (some i) H1
section
variable{X:Cx}{e:Expr}{te:TE}{lo hi:Option Expr}{tl th:TO}{pos p2:Pos}
theorem zala:PO X none tNoPart:=by
 intro pins s σ H Q I h
 rw[evalPart_none]
 exact qH ⟨none,H,I,.none,h⟩
theorem zalb(h:PE X e te):PO X (some e) (tPart te):=by
 intro pins s σ H Q I hw
 rw[evalPart_some]
 refine thn (h pins s σ H _ I hw) λu s1 ⟨x,H1,I1,r1,q1⟩=>?_
 obtain⟨i,rfl,q⟩:=q1
 obtain⟨t,rfl⟩:=r1
 exact⟨some i,H1,I1,.int i t,q⟩
noncomputable def SlR(X:Cx)(r:V->Option Int->Option Int->Hp->VK->Prop):Prop:=
 ∀(pins:List (Addr×Obj))(s:Shared)(σ:St)(H:Hp)(x:V)(v vl vu:Value)(lo hi:Option Int)(sl:Addr)(Q:VK),Inv X pins σ H s->RelV x v->s.heap.IsSliceOf sl vl vu .none->IsPart vl lo->IsPart vu hi->r x lo hi H Q->
  ∃T id,typeLookup (.type T) "__getitem__"=pure (some (.builtin id))/\s.TypeIs v T/\wpAny (model X.prog X.w) X.A (getItem v (.ref sl)) (EP X pins σ Q) X.xe s
noncomputable def tSl(r:V->Option Int->Option Int->Hp->VK->Prop)(te:TE)(tl th:TO):TE:=λσ H Q=>te σ H λx H1=>tl σ H1 λl H2=>th σ H2 λu H3=>r x l u H3 Q
theorem zagy{r:V->Option Int->Option Int->Hp->VK->Prop}(hr:SlR X r)(he:PE X e te)(hl:PO X lo tl)(hu:PO X hi th):PE X (.Subscript e (.Slice lo hi none p2) pos) (tSl r te tl th):=by
 intro pins s σ H Q I h
 refine Subscript_ (thn (he pins s σ H _ I h) λv s1 ⟨x,H1,I1,r1,q1⟩=>?_)
 refine wpAny_Slice (thn (hl pins s1 σ H1 _ I1 q1) λvl s2 ⟨l,H2,I2,pl,q2⟩=>thn (hu pins s2 σ H2 _ I2 q2) λvu s3 ⟨u,H3,I3,pu,q3⟩=>?_)
 rw[evalPart_none]
 refine qH ?_
 have I4:Inv X pins σ H3 {s3 with heap:=s3.heap.push {cls:=.type "slice",data:=.fields #[vl,vu,.none]}}:=I3.kept (t':=s3.toks) λb ob q=>qL _ q
 obtain⟨T,id,hT,ht,hg⟩:=hr pins {s3 with heap:=s3.heap.push {cls:=.type "slice",data:=.fields #[vl,vu,.none]}} σ H3 x v vl vu l u s3.heap.objs.size Q I4 r1 (Heap.IsSliceOf.new ..) pl pu q3
 show wpAny (model X.prog X.w) X.A (subscriptTail e (.Slice lo hi none p2) v (.ref s3.heap.objs.size)) (EP X pins σ Q) X.xe {s3 with heap:=s3.heap.push {cls:=.type "slice",data:=.fields #[vl,vu,.none]}}
 exact tail_any (ops:=[.ref s3.heap.objs.size,v]) ht hT hg (by with_unfolding_all rfl)
noncomputable def cutV(xs:List V)(lo hi:Option Int):List V:=(xs.drop (HT.sIx xs.length 0 lo)).take (HT.sIx xs.length xs.length hi - HT.sIx xs.length 0 lo)
theorem zqc(xs:List V)(lo hi:Option Int):(cutV xs lo hi).length<=xs.length:=by
 unfold cutV
 rw[qAq,qBe]
 omega
noncomputable def rSlT(K:qC):V->Option Int->Option Int->Hp->VK->Prop:=λx lo hi H Q=>∃a xs,x=.ref a/\SqT K H a xs/\
 ¬(HT.sIx xs.length 0 lo=0/\HT.sIx xs.length xs.length hi=xs.length)/\∀p,H p=none->Q (.ref p) (upd H p (.tup (cutV xs lo hi)))
theorem zaoo:SlR X (rSlT X.K):=by
 intro pins s σ H x v vl vu lo hi sl Q I rx hs pl pu h
 obtain⟨a,xs,rfl,hx,hw,q⟩:=h
 cases rx
 obtain⟨its,r,ht,hz⟩:=I.tuple hx
 have hlen:its.toArray.size=xs.length:=by rw[qG];exact r.length.symm
 refine⟨"tuple",_,qAN.lookup,ht.typeIs,?_⟩
 refine HT.getItem_tuple_cut ht hs pl pu (by rw[hlen];exact hw) ?_ (by rw[hlen];exact hz)
 rw[hlen]
 refine⟨.ref s.heap.objs.size,_,I.laid (t':=s.toks) (o:=.tup (cutV xs lo hi)) (λb ob q=>qL _ q) (qN _) ?_,rfl,q _ (I.hok.fresh (qN _))⟩
 exact⟨qAd (zqc xs lo hi) hz,_,(r.drop (HT.sIx xs.length 0 lo)).take (HT.sIx xs.length xs.length hi - HT.sIx xs.length 0 lo),IsTup.new _ _⟩
noncomputable def zaop(K:qC):R2:=λx y H Q=>∃a b xs ys,x=.ref a/\y=.ref b/\SqT K H a xs/\SqT K H b ys/\xs≠[]/\xs.length+ys.length<=qY/\
 (ys=[]->Q (.ref a) H)/\(ys≠[]->∀p,H p=none->Q (.ref p) (upd H p (.tup (xs++ys))))
theorem Vals.nil_iff{xs:List V}{us:List Value}(r:Vals xs us):us=[]↔xs=[]:=by
 cases r with
 | nil=>simp
 | cons _ _=>simp
theorem zalc:OpR X (binaryOp .Add) (zaop X.K):=by
 intro pins s σ H x y v u Q I rx ry h
 obtain⟨a,b,xs,ys,rfl,rfl,ha,hb,hx,hz,q1,q2⟩:=h
 cases rx
 cases ry
 obtain⟨its,r1,p1,_⟩:=I.tuple ha
 obtain⟨its2,r2,p2,_⟩:=I.tuple hb
 refine HT.cat_tup p1 p2 (λz=>hx (r1.nil_iff.mp z)) (λz=>⟨.ref a,H,I,rfl,q1 (r2.nil_iff.mp z)⟩) (λz=>?_) (by rw[<- r1.length,<- r2.length];exact hz)
 refine⟨.ref s.heap.objs.size,_,I.laid (t':=s.toks) (o:=.tup (xs++ys)) (λb ob q=>qL _ q) (qN _) ?_,rfl,q2 (λw=>z (r2.nil_iff.mpr w)) _ (I.hok.fresh (qN _))⟩
 exact⟨by rw[qR];exact hz,_,r1.append r2,IsTup.new _ _⟩
end
noncomputable def ixN(n:Nat)(i:Int):Option Nat:=if 0<=i then(if i<n then some i.toNat else none)else if -(n:Int)<=i then some (i+n).toNat else none
noncomputable def atI{α:Type}(xs:List α)(i:Int):Option α:=(ixN xs.length i).bind λj=>xs[j]?
theorem zadj{n:Nat}{i:Int}{j:Nat}(h:ixN n i=some j):seqIndex? i n=some j/\j<n/\-(n:Int)<=i/\i<n:=by
 unfold ixN at h
 by_cases h0:0<=i
 ·rw[if_pos h0]at h
  by_cases h1:i<n
  ·rw[if_pos h1]at h
   have e:i.toNat=j:=qS h
   exact⟨by rw[seqIndex_of h0 h1,e],by omega,by omega,h1⟩
  ·rw[if_neg h1]at h;cases h
 ·rw[if_neg h0]at h
  by_cases h1:-(n:Int)<=i
  ·rw[if_pos h1]at h
   have e:(i+n).toNat=j:=qS h
   exact⟨by rw[seqIndex_neg (by omega) h1,e],by omega,h1,by omega⟩
  ·rw[if_neg h1]at h;cases h
theorem zyf{α:Type}{xs:List α}{i:Int}{v:α}(h:atI xs i=some v):∃j,seqIndex? i xs.length=some j/\xs[j]?=some v/\j<xs.length/\-(xs.length:Int)<=i/\i<xs.length:=by
 unfold atI at h
 cases e:ixN xs.length i with
 | none=>rw[e]at h;cases h
 | some j=>
  rw[e]at h
  obtain⟨h1,h2,h3,h4⟩:=zadj e
  exact⟨j,h1,h,h2,h3,h4⟩
theorem znn{α:Type}{xs:List α}{j:Nat}{v:α}(h:xs[j]?=some v):atI xs (j:Int)=some v:=by
 have hj:j<xs.length:=(qT.mp h).1
 have e:ixN xs.length (j:Int)=some j:=by
  unfold ixN
  rw[if_pos (by omega),if_pos (by omega)];simp
 unfold atI;rw[e];exact h
noncomputable def PlainIx(b:Expr):Prop:=∀o i,subscripted b false o i=operate [o,i] (getItem o i)
noncomputable def IxR(X:Cx)(r:R2):Prop:=
 ∀(value slice:Expr)(pins:List (Addr×Obj))(s:Shared)(σ:St)(H:Hp)(x y:V)(v u:Value)(Q:VK),Inv X pins σ H s->RelV x v->RelV y u->r x y H Q->
  subscripted slice false v u=operate [v,u] (getItem v u)->wpAny (model X.prog X.w) X.A (subscriptTail value slice v u) (EP X pins σ Q) X.xe s
noncomputable def MtR(X:Cx)(id:String)(r:V->List V->Hp->VK->Prop):Prop:=
 ∀(pins:List (Addr×Obj))(s:Shared)(σ:St)(H:Hp)(x:V)(xs:List V)(v:Value)(us:List Value)(Q:VK),Inv X pins σ H s->RelV x v->Vals xs us->r x xs H Q->
  wpAny (model X.prog X.w) X.A (call (.builtin id) (v::us)) (EP X pins σ Q) X.xe s
section
variable{X:Cx}{a b:Expr}{ta tb:TE}{pos:Pos}
theorem zark{r:R2}(hr:IxR X r)(ha:PE X a ta)(hb:PE X b tb)(hs:PlainIx b):PE X (.Subscript a b pos) (tOp r ta tb):=by
 intro pins s σ H Q I h
 exact Subscript_ (binT ha hb I h λv u s2 x y H2 I2 rx ry q=>hr a b pins s2 σ H2 x y v u Q I2 rx ry q (hs _ _))
noncomputable def rIxL(K:qC):R2:=λx y H Q=>∃p xs i v,x=.ref p/\y=.int i/\SqL K H p xs/\atI xs i=some v/\Q v H
noncomputable def rIxT(K:qC):R2:=λx y H Q=>∃p xs i v,x=.ref p/\y=.int i/\SqT K H p xs/\atI xs i=some v/\Q v H
noncomputable def rIxS:R2:=λx y H Q=>∃z i c,x=.str z/\y=.int i/\z.length<=qY/\atI z.cps.toList i=some c/\Q (.str ⟨#[c]⟩) H
theorem zald:IxR X (rIxL X.K):=by
 intro value slice pins s σ H x y v u Q I rx ry h hs
 obtain⟨p,xs,i,z,rfl,rfl,hq,he,q⟩:=h
 cases rx
 obtain⟨t,rfl⟩:=ry
 obtain⟨its,r,pl,hz⟩:=I.list hq
 obtain⟨j,h1,h2,h3,h4,h5⟩:=zyf he
 obtain⟨w,ew,rw'⟩:=r.get h2
 have hl:=r.length
 have hn:=zsl
 have fin:EP X pins σ Q w s:=⟨z,H,I,rw',q⟩
 by_cases h0:0<=i
 ·have hj:i.toNat=j:=by
   rw[seqIndex_of h0 h5]at h1
   exact qS h1
  exact item_listR pl.isList h0 (by omega) (by rw[hj];simpa using ew) fin hs
 ·have hj:(i+(its.toArray.size:Int)).toNat=j:=by
   rw[seqIndex_neg (by omega) h4]at h1
   rw[qG,<- hl]
   exact qS h1
  exact subscriptTail_builtinR (x:=w) pl.isList.typeIs slot_list_getitem.lookup
   (wpAny_getItem_list_neg (Q:=λr s'=>r=w/\EP X pins σ Q r s') pl.isList (by omega) (by rw[qG]<;>omega) (by omega) (by rw[hj];simpa using ew) ⟨rfl,fin⟩) hs
theorem zaoq:IxR X (rIxT X.K):=by
 intro value slice pins s σ H x y v u Q I rx ry h hs
 obtain⟨p,xs,i,z,rfl,rfl,hq,he,q⟩:=h
 cases rx
 obtain⟨t,rfl⟩:=ry
 obtain⟨its,r,pl,hz⟩:=I.tuple hq
 obtain⟨j,h1,h2,h3,h4,h5⟩:=zyf he
 obtain⟨w,ew,rw'⟩:=r.get h2
 have hl:=r.length
 have hn:=zsl
 have fin:EP X pins σ Q w s:=⟨z,H,I,rw',q⟩
 exact subscriptTail_builtinR (x:=w) pl.typeIs slot_tuple_getitem.lookup
  (getItem_tuple (j:=j) (Q:=λr s'=>r=w/\EP X pins σ Q r s') pl (by omega) (by omega) (by rw[qG,<- hl];exact h1) (by simpa using ew) ⟨rfl,fin⟩) hs
theorem zaor:IxR X rIxS:=by
 intro value slice pins s σ H x y v u Q I rx ry h hs
 obtain⟨z,i,c,rfl,rfl,hz,he,q⟩:=h
 obtain⟨t,rfl⟩:=rx
 obtain⟨t',rfl⟩:=ry
 obtain⟨j,h1,h2,h3,h4,h5⟩:=zyf he
 have hl:z.cps.toList.length=z.length:=by simp[Str.length]
 rw[hl]at h1 h4 h5
 have hn:=zsl
 exact tail_any (qBj s z t) slot_str_getitem.lookup (getItem_str (c:=c) (by
  have e1:decide (i < -(2 ^ 63:Int))=false:=decide_eq_false (by omega)
  have e2:decide (i>=2 ^ 63)=false:=decide_eq_false (by omega)
  rw[e1,e2,Bool.or_false]) (by rw[h1];simpa using h2) ⟨.str ⟨#[c]⟩,H,I.tok _,⟨_,rfl⟩,q⟩) hs
theorem zabj(its:List Value)(n j:Nat)(u:Value):Obj.mapSeq (·.setIfInBounds j u) {cls:=.type "list",data:=.seq its.toArray n}={cls:=.type "list",data:=.seq (its.set j u).toArray n}:=by
 simp[Obj.mapSeq]
theorem Inv.lst{pins:List (Addr×Obj)}{σ:St}{H:Hp}{s:Shared}{p:Addr}{xs:List V}(I:Inv X pins σ H s)(h:H p=some (.lst xs)) :
  ∃(its:List Value)(n:Nat),Vals xs its/\s.heap.get? p=some {cls:=.type "list",data:=.seq its.toArray n}/\xs.length<=qY:=by
 obtain⟨z,its,n,r,e⟩:=I.hok p _ h
 exact⟨its,n,r,e,z⟩
theorem Inv.lstUpd{pins:List (Addr×Obj)}{σ:St}{H:Hp}{s:Shared}{p:Addr}{xs ys:List V}{its its':List Value}{n n':Nat}{f:Obj->Obj}(I:Inv X pins σ H s)(h:H p=some (.lst xs))
  (ho:s.heap.get? p=some {cls:=.type "list",data:=.seq its.toArray n}) (hf:f {cls:=.type "list",data:=.seq its.toArray n}={cls:=.type "list",data:=.seq its'.toArray n'}) (r:Vals ys its') (hz:ys.length<=qY) (t:Nat) :
  Inv X pins σ (upd H p (.lst ys)) {s with heap:=s.heap.update p f,toks:=t}:=by
 have e:(s.heap.update p f).get? p=some {cls:=.type "list",data:=.seq its'.toArray n'}:=by
  rw[qCi f ho (by rw[hf]<;>rfl),hf]
 refine I.write (x:=p) (e:=p) (by rw[h];trivial) (.inl rfl) (λb u hb q=>(qCe _ _ (qBC hb)).trans q) ⟨_,e⟩ ?_
 exact⟨hz,its',n',r,e⟩
noncomputable def zale:V->V->V->Hp->(Hp->Prop)->Prop:=λo i v H Q=>∃p xs k j,o=.ref p/\i=.int k/\H p=some (.lst xs)/\ixN xs.length k=some j/\Q (upd H p (.lst (xs.set j v)))
theorem zagz:PSet X zale:=by
 intro pins s σ H o i v ov iv u Q I ro ri rv h
 obtain⟨p,xs,k,j,rfl,rfl,hp,hj,q⟩:=h
 cases ro
 obtain⟨t,rfl⟩:=ri
 obtain⟨its,n,r,ho,hz⟩:=I.lst hp
 obtain⟨h1,h2,h3,h4⟩:=zadj hj
 have hl:=r.length
 have hn:=zsl
 have I':Inv X pins σ (upd H p (.lst (xs.set j v))) {s with heap:=s.heap.update p (Obj.mapSeq (·.setIfInBounds j u))}:=
  I.lstUpd hp ho (zabj its n j u) (r.set rv j) (by rw[qw];exact hz) s.toks
 by_cases h0:0<=k
 ·have hk:k.toNat=j:=by
   rw[seqIndex_of h0 h4]at h1
   exact qS h1
  exact PySem.W.ki_setAt ho h0 (by omega) (by rw[qG,<- hl];exact h4) (by rw[hk];exact⟨_,I',q⟩)
 ·have hk:(k+(its.toArray.size:Int)).toNat=j:=by
   rw[seqIndex_neg (by omega) h3]at h1
   rw[qG,<- hl]
   exact qS h1
  exact PySem.W.ki_setBack ho (by omega) (by rw[qG,<- hl];exact h3) (by omega) (by rw[hk];exact⟨_,I',q⟩)
theorem zvm(lo hi:Option Int)(n:Nat):(sliceBounds lo hi none n).1=((HT.sIx n 0 lo:Nat):Int)/\(sliceBounds lo hi none n).2.1=((HT.sIx n n hi:Nat):Int)/\(sliceBounds lo hi none n).2.2=1:=by
 refine⟨?_,?_,rfl⟩
 ·cases lo with
  | none=>simp[sliceBounds,HT.sIx]
  | some i=>
   simp only[sliceBounds,HT.sIx,Option.getD_none,show(1:Int) > 0 by decide,if_true]
   by_cases h:i<0
   ·simp only[h,if_true]<;>omega
   ·simp only[h,if_false]<;>omega
 ·cases hi with
  | none=>simp[sliceBounds,HT.sIx]
  | some i=>
   simp only[sliceBounds,HT.sIx,Option.getD_none,show(1:Int) > 0 by decide,if_true]
   by_cases h:i<0
   ·simp only[h,if_true]<;>omega
   ·simp only[h,if_false]<;>omega
theorem ztk(its:List Value)(lo hi:Option Int):slicePick its.toArray lo hi none=((its.drop (HT.sIx its.length 0 lo)).take (HT.sIx its.length its.length hi - HT.sIx its.length 0 lo)).toArray:=by
 obtain⟨h1,h2,h3⟩:=zvm lo hi its.toArray.size
 unfold slicePick
 rw[h1,h2,h3]
 simp only[sliceRange_one,pick_run,qG]<;>rfl
noncomputable def rSlL(K:qC):V->Option Int->Option Int->Hp->VK->Prop:=λx lo hi H Q=>∃a xs,x=.ref a/\SqL K H a xs/\∀p,H p=none->Q (.ref p) (upd H p (.lst (cutV xs lo hi)))
theorem zalf:SlR X (rSlL X.K):=by
 intro pins s σ H x v vl vu lo hi sl Q I rx hs pl pu h
 obtain⟨a,xs,rfl,hx,q⟩:=h
 cases rx
 obtain⟨its,r,ht,hz⟩:=I.list hx
 have hlen:=r.length
 refine⟨"list",_,slot_list_getitem.lookup,ht.isList.typeIs,?_⟩
 refine wpAny_getItem_list_slice ht.isList hs pl pu .none (by simp) ?_ (by rw[qG]<;>omega)
 rw[ztk,<- hlen]
 refine⟨.ref s.heap.objs.size,_,I.laid (t':=s.toks) (o:=.lst (cutV xs lo hi)) (λb ob q=>qL _ q) (qN _) ?_,rfl,q _ (I.hok.fresh (qN _))⟩
 exact⟨qAd (zqc xs lo hi) hz,_,0,(r.drop (HT.sIx xs.length 0 lo)).take (HT.sIx xs.length xs.length hi - HT.sIx xs.length 0 lo),qk _ rfl⟩
noncomputable def zno:V->Bool
 | .non=>true
 | .bl _=>true
 | .int _=>true
 | .str _=>true
 | _=>false
noncomputable def eqV:V->V->Bool
 | .non,.non=>true
 | .bl a,.bl b=>a==b
 | .bl a,.int b=>(if a then 1 else 0)==b
 | .int a,.bl b=>a==(if b then 1 else 0)
 | .int a,.int b=>a==b
 | .str a,.str b=>a==b
 | _,_=>false
theorem zaos{A:Around}{s:Shared}{y x:V}{u v:Value}(ry:RelV y u)(rx:RelV x v)(fy:zno y=true)(fx:zno x=true):SeqAt.EqAt A s u v (eqV y x):=by
 cases y with
 | non=>
  cases ry
  cases x with
  | non=>cases rx;exact SeqAt.EqAt.same _
  | bl b=>cases rx;exact SeqAt.EqAt.none_bool b
  | int b=>obtain⟨t,rfl⟩:=rx;exact SeqAt.EqAt.none_int b t
  | str b=>obtain⟨t,rfl⟩:=rx;exact SeqAt.EqAt.none_str b t
  | _=>exact absurd (show false=true from fx) qJ
 | bl a=>
  cases ry
  cases x with
  | non=>cases rx;exact SeqAt.EqAt.bool_none a
  | bl b=>cases rx;exact SeqAt.EqAt.bool_bool a b
  | int b=>obtain⟨t,rfl⟩:=rx;exact SeqAt.EqAt.bool_int a b t
  | str b=>obtain⟨t,rfl⟩:=rx;exact SeqAt.EqAt.bool_str a b t
  | _=>exact absurd (show false=true from fx) qJ
 | int a=>
  obtain⟨t',rfl⟩:=ry
  cases x with
  | non=>cases rx;exact SeqAt.EqAt.int_none a t'
  | bl b=>cases rx;exact SeqAt.EqAt.int_bool a t' b
  | int b=>obtain⟨t,rfl⟩:=rx;exact SeqAt.EqAt.int_int a t' b t
  | str b=>obtain⟨t,rfl⟩:=rx;exact qCQ a t' b t
  | _=>exact absurd (show false=true from fx) qJ
 | str a=>
  obtain⟨t',rfl⟩:=ry
  cases x with
  | non=>cases rx;exact SeqAt.EqAt.str_none a t'
  | bl b=>cases rx;exact SeqAt.EqAt.str_bool a t' b
  | int b=>obtain⟨t,rfl⟩:=rx;exact qCP a t' b t
  | str b=>obtain⟨t,rfl⟩:=rx;exact SeqAt.EqAt.str_str a t' b t
  | _=>exact absurd (show false=true from fx) qJ
 | _=>exact absurd (show false=true from fy) qJ
noncomputable def eqU(x:V)(u:Value):Bool:=match u with
 | .none=>eqV .non x
 | .bool b=>eqV (.bl b) x
 | .int i _=>eqV (.int i) x
 | .str z _=>eqV (.str z) x
 | _=>false
theorem zadk{x y:V}{u:Value}(r:RelV y u)(f:zno y=true):eqU x u=eqV y x:=by
 cases y with
 | non=>cases r;rfl
 | bl b=>cases r;rfl
 | int i=>obtain⟨t,rfl⟩:=r;rfl
 | str z=>obtain⟨t,rfl⟩:=r;rfl
 | _=>exact absurd (show false=true from f) qJ
theorem zqd{x:V}:∀{xs:List V}{us:List Value},Vals xs us->xs.all zno=true->us.any (eqU x)=xs.any λy=>eqV y x
 | _,_,.nil,_=>rfl
 | y::xs,u::us,.cons r t,f=>by
  rw[qAm,qZ]at f
  rw[qAc,qAc,zadk r f.1,zqd t f.2]
theorem zla{A:Around}{s:Shared}{x:V}{v:Value}(rx:RelV x v)(fx:zno x=true):∀{xs:List V}{us:List Value},Vals xs us->xs.all zno=true->∀u∈us,SeqAt.EqAt A s u v (eqU x u)
 | _,_,.nil,_=>λu hu=>by cases hu
 | y::xs,u::us,.cons r t,f=>λu' hu=>by
  rw[qAm,qZ]at f
  rcases qa.mp hu with rfl|hu
  ·rw[zadk r f.1];exact zaos r rx f.1 fx
  ·exact zla rx fx t f.2 u' hu
noncomputable def inV(x:V)(xs:List V):Bool:=xs.any λy=>eqV y x
noncomputable def rIn(K:qC)(neg:Bool):R2:=λx y H Q=>∃p xs,y=.ref p/\(SqL K H p xs\/SqT K H p xs)/\zno x=true/\xs.all zno=true/\Q (.bl (if neg then !inV x xs else inV x xs)) H
theorem zadl:OpR X (compareOp .In) (rIn X.K false):=by
 intro pins s σ H x y v u Q I rx ry h
 obtain⟨p,xs,rfl,hq,fx,fs,q⟩:=h
 cases ry
 rcases hq with hq|hq
 ·obtain⟨its,r,pl,hz⟩:=I.list hq
  refine SeqAt.in_listAt (eqU x) pl.isList (λw hw=>zla rx fx r fs w (by simpa using hw)) ⟨.bl _,H,I,rfl,?_⟩
  rw[show its.toArray.any (eqU x)=its.any (eqU x) by simp,zqd r fs]
  exact q
 ·obtain⟨its,r,pl,hz⟩:=I.tuple hq
  refine SeqAt.in_tupleAt (eqU x) pl (λw hw=>zla rx fx r fs w (by simpa using hw)) ⟨.bl _,H,I,rfl,?_⟩
  rw[show its.toArray.any (eqU x)=its.any (eqU x) by simp,zqd r fs]
  exact q
theorem zvn:OpR X (compareOp .NotIn) (rIn X.K true):=by
 intro pins s σ H x y v u Q I rx ry h
 obtain⟨p,xs,rfl,hq,fx,fs,q⟩:=h
 cases ry
 rcases hq with hq|hq
 ·obtain⟨its,r,pl,hz⟩:=I.list hq
  refine SeqAt.notIn_listAt (eqU x) pl.isList (λw hw=>zla rx fx r fs w (by simpa using hw)) ⟨.bl _,H,I,rfl,?_⟩
  rw[show its.toArray.any (eqU x)=its.any (eqU x) by simp,zqd r fs]
  exact q
 ·obtain⟨its,r,pl,hz⟩:=I.tuple hq
  refine SeqAt.notIn_tupleAt (eqU x) pl (λw hw=>zla rx fx r fs w (by simpa using hw)) ⟨.bl _,H,I,rfl,?_⟩
  rw[show its.toArray.any (eqU x)=its.any (eqU x) by simp,zqd r fs]
  exact q
theorem ztl:CallR X (.type "tuple") (λxs H Q=>∃p ys,xs=[.ref p]/\((SqL X.K H p ys/\∀l,H l=none->Q (.ref l) (upd H l (.tup ys)))\/(SqT X.K H p ys/\Q (.ref p) H))):=by
 intro pins s σ H xs us Q I r h
 obtain⟨p,ys,rfl,h⟩:=h
 obtain⟨u,rfl,rx⟩:=zabg r
 cases rx
 rcases h with⟨hq,q⟩|⟨hq,q⟩
 ·obtain⟨its,r',pl,hz⟩:=I.list hq
  have hlen:=r'.length
  refine call_tuple_list pl.isList (λh' kp=>?_) (by simp only[qG]<;>omega)
  have I1:Inv X pins σ H {s with heap:=h'}:=I.kept (t':=s.toks) kp
  have I2:Inv X pins σ (upd H h'.objs.size (.tup ys)) {s with heap:=h'.push {cls:=.type "tuple",data:=.seq its.toArray}}:=
   I1.laid (t':=s.toks) (λb o e=>qL _ e) (qN _) (show zfb X.prog X.w _ _ _ (.tup ys)from⟨hz,its,r',IsTup.new _ _⟩)
  exact⟨.ref h'.objs.size,_,I2,rfl,q _ (I1.hok.fresh (qN _))⟩
 ·obtain⟨its,r',pl,hz⟩:=I.tuple hq
  exact call_tuple_same pl ⟨.ref p,H,I,rfl,q⟩
noncomputable def tyV(K:qC)(T:String)(x:V)(H:Hp):Prop:=match x with
 | .str _=>T="str"
 | .int _=>T="int"
 | .ref p=>(T="list"/\∃xs,SqL K H p xs)\/(T="tuple"/\∃o,K.lookup p=some o/\o.cls=.type "tuple"/\o.dict=none)\/
   (T="dict"/\((∃kvs,H p=some (.dK kvs))\/∃kvs,H p=some (.dT kvs)))\/(T="set"/\∃S n,H p=some (.set S n))
 | _=>False
theorem zajj{pins:List (Addr×Obj)}{σ:St}{H:Hp}{s:Shared}{T:String}{x:V}{v:Value}(I:Inv X pins σ H s)(r:RelV x v)(ty:tyV X.K T x H) :
  s.TypeIs v T/\∀a,v=.ref a->∃ob,s.heap.get? a=some ob/\ob.dict=none:=by
 cases x with
 | str z=>
  obtain⟨t,rfl⟩:=r
  cases(show T="str"from ty)
  exact⟨qBj s z t,λ_ e=>nomatch e⟩
 | int i=>
  obtain⟨t,rfl⟩:=r
  cases(show T="int"from ty)
  exact⟨typeIs_int s i t,λ_ e=>nomatch e⟩
 | ref p=>
  cases r
  rcases ty with⟨rfl,xs,hq⟩|⟨rfl,o,hk,hc,hd⟩|⟨rfl,hk⟩|⟨rfl,S,n,hk⟩
  ·obtain⟨its,_,pl,_⟩:=I.list hq
   refine⟨pl.isList.typeIs,λa e=>?_⟩
   cases e
   obtain⟨o,n,e,c,hd,_⟩:=pl
   exact⟨o,e,hd⟩
  ·refine⟨⟨o,I.kIn p o hk,hc⟩,λa e=>?_⟩
   cases e
   exact⟨o,I.kIn _ o hk,hd⟩
  ·have z:∃o,s.heap.get? p=some o/\o.ExactDict:=by
    rcases hk with⟨kvs,hk⟩|⟨kvs,hk⟩
    ·obtain⟨_,_,_,_,o,_,_,e,ex,_⟩:=I.hok p _ hk
     exact⟨o,e,ex⟩
    ·obtain⟨_,_,_,_,o,_,_,e,ex,_⟩:=I.hok p _ hk
     exact⟨o,e,ex⟩
   obtain⟨o,e,ex⟩:=z
   refine⟨⟨o,e,ex.1⟩,λa e2=>?_⟩
   cases e2
   exact⟨o,e,ex.2.1⟩
  ·obtain⟨o,_,_,_,e,ex,_⟩:=I.hok p _ hk
   refine⟨⟨o,e,ex.1⟩,λa e2=>?_⟩
   cases e2
   exact⟨o,e,ex.2.1⟩
 | _=>exact False.elim ty
noncomputable def tBM0(K:qC)(T:String)(r:V->List V->Hp->VK->Prop)(to:TE):TE:=λσ H Q=>to σ H λx H1=>tyV K T x H1/\r x [] H1 Q
noncomputable def tBM(K:qC)(T:String)(r:V->List V->Hp->VK->Prop)(to:TE)(t:TA):TE:=λσ H Q=>to σ H λx H1=>tyV K T x H1/\t σ H1 λxs H2=>r x xs H2 Q
variable{o e:Expr}{es:List Expr}{to:TE}{t:TA}{name:Str}{apos cpos:Pos}{T id:String}{r:V->List V->Hp->VK->Prop}
theorem zaot(pa:PlainAttrs T)(slot:Slot T name id)(hty:typeOf (.builtin id)=pure (.type "method_descriptor"))(hm:MtR X id r)(ho:PE X o to)
  (hbase:attributeBase o name X.env (eval o X.env)=eval o X.env:=by rfl) (hline:(apos.endLine==cpos.line)=true:=by rfl):PE X (.Call (.Attribute o name apos) [] [] cpos) (tBM0 X.K T r to):=by
 intro pins s σ H Q I h
 refine wpAny_Call_method0_late hbase hline (thn (ho pins s σ H _ I h) λv s1 ⟨x,H1,I1,r1,ty,q1⟩=>?_)
 obtain⟨h1,h2⟩:=zajj I1 r1 ty
 exact⟨T,id,pa,slot,hty,h1,h2,qCV rfl (PySem.evalArgs_none (hm pins s1 σ H1 x [] v [] Q I1 r1 .nil q1))⟩
theorem zarl(pa:PlainAttrs T)(slot:Slot T name id)(hty:typeOf (.builtin id)=pure (.type "method_descriptor"))(hm:MtR X id r)(ho:PE X o to)(ha:PA X (e::es) t)
  (hbase:attributeBase o name X.env (eval o X.env)=eval o X.env:=by rfl)
  (hfew:((backTo cpos (starEach (e::es) X.env)).all (λx=>!x.1)&&(backToKw cpos (keywordEach [] X.env)).all (λx=>x.1.isSome)
   && decide ((e::es).length+([]:List Keyword).length+(if([]:List Keyword).isEmpty then 0 else 1)<30))=true:=by rfl)
  (hline:(apos.endLine==cpos.line)=true:=by rfl)(hs:starEach (e::es) X.env=(false,eval e X.env)::starEach es X.env:=by rfl)(hplain:(backTo cpos (starEach es X.env)).any (·.1)=false:=by rfl) :
  PE X (.Call (.Attribute o name apos) (e::es) [] cpos) (tBM X.K T r to t):=by
 intro pins s σ H Q I h
 refine wpAny_Call_method_late hbase hfew hline rfl (thn (ho pins s σ H _ I h) λv s1 ⟨x,H1,I1,r1,ty,q1⟩=>?_)
 obtain⟨h1,h2⟩:=zajj I1 r1 ty
 refine⟨T,id,pa,slot,hty,h1,h2,?_⟩
 have hA:=ha cpos pins s1 σ H1 _ I1 q1
 rw[hs]at hA ⊢
 refine qCV (by show(false||(backTo cpos (starEach es X.env)).any (·.1))=false;rw[hplain]<;>rfl) (Calls.evalArgs_plain ?_)
 exact thn hA λus s2 ⟨vs,H2,I2,r2,q2⟩=>hm pins s2 σ H2 x vs v us Q I2 r1 r2 q2
end
noncomputable def MtM(X:Cx)(id:String)(r:V->List V->Hp->VK->Prop):Prop:=
 ∀(pins:List (Addr×Obj))(s:Shared)(σ:St)(H:Hp)(x:V)(xs:List V)(v:Value)(us:List Value)(Q:VK),Inv X pins σ H s->RelV x v->Vals xs us->r x xs H Q->
  wpAny (model X.prog X.w) X.A (call (.builtin id) (v::us)) (EP X pins σ Q) X.xe s
theorem Vals.one:∀{x:V}{us:List Value},Vals [x] us->∃u,us=[u]/\RelV x u
 | _,_,.cons r .nil=>⟨_,rfl,r⟩
theorem Vals.zero:∀{us:List Value},Vals [] us->us=[]
 | _,.nil=>rfl
theorem Vals.dropLast{xs:List V}{us:List Value}(h:Vals xs us):Vals xs.dropLast us.dropLast:=by
 induction h with
 | nil=>exact .nil
 | cons r t ih=>
  cases t with
  | nil=>exact .nil
  | cons q t'=>exact .cons r ih
theorem zabk{α:Type}(l:List α):l.eraseIdx (l.length - 1)=l.dropLast:=by
 induction l with
 | nil=>rfl
 | cons a r ih=>
  cases r with
  | nil=>rfl
  | cons b r=>
   have e:(a::b::r).length - 1=((b::r).length - 1)+1:=by
    have h1:(a::b::r).length=r.length+2:=rfl
    have h2:(b::r).length=r.length+1:=rfl
    omega
   rw[e,List.eraseIdx_cons_succ,ih]
   all_goals rfl
section
variable{X:Cx}{pins:List (Addr×Obj)}{σ:St}{H:Hp}{s:Shared}{l b:Addr}{xs ys zs:List V}
theorem Inv.lset{its its':List Value}{n:Nat}{f:Array Value->Array Value}{t':Nat}(I:Inv X pins σ H s)(hH:H l=some (.lst xs))
  (e:s.heap.get? l=some {cls:=.type "list",data:=.seq its.toArray n}) (hf:f its.toArray=its'.toArray) (hv:Vals ys its') (hz:ys.length<=qY) :
  Inv X pins σ (upd H l (.lst ys)) {s with heap:=s.heap.update l (Obj.mapSeq f),toks:=t'}:=by
 have q:=PySem.IsL.update e f
 rw[hf]at q
 refine I.write (x:=l) (e:=l) (by rw[hH];exact trivial) (.inl rfl) (λb' u hb hu=>(qCe s.heap (Obj.mapSeq f) (qBC hb)).trans hu) ⟨_,q⟩ ?_
 exact⟨hz,its',_,hv,q⟩
theorem Inv.lnew{its:List Value}{t':Nat}(I:Inv X pins σ H s)(hv:Vals ys its)(hz:ys.length<=qY) :
  Inv X pins σ (upd H s.heap.objs.size (.lst ys)) {s with heap:=s.heap.push {cls:=.type "list",data:=.seq its.toArray},toks:=t'}:=
 I.laid (λ_ _ q=>qL _ q) (qN _) ⟨hz,its,0,hv,qk _ rfl⟩
theorem Inv.fresh(I:Inv X pins σ H s):H s.heap.objs.size=none:=I.hok.fresh (qN _)
theorem Inv.lstM(I:Inv X pins σ H s)(hH:H l=some (.lst xs)):xs.length<=qY/\∃(its:List Value)(n:Nat),Vals xs its/\xs.length=its.length/\s.heap.get? l=some {cls:=.type "list",data:=.seq its.toArray n}:=by
 obtain⟨z,its,n,r,e⟩:=I.hok l _ hH
 exact⟨z,its,n,r,r.length,e⟩
theorem zaha{n:Nat}(h:n<=qY):Builtin.List.listTooLong n=false:=by
 unfold Builtin.List.listTooLong
 exact decide_eq_false (by omega)
end
section
variable{X:Cx}
noncomputable def zadm:V->List V->Hp->VK->Prop:=λx vs H Q=>∃l xs y,x=.ref l/\vs=[y]/\H l=some (.lst xs)/\xs.length<qY/\Q .non (upd H l (.lst (xs++[y])))
theorem zfc:MtM X "list.append" zadm:=by
 intro pins s σ H x vs v us Q I rx rv h
 obtain⟨l,xs,y,rfl,rfl,hH,hz,q⟩:=h
 cases rx
 obtain⟨u,rfl,ru⟩:=rv.one
 obtain⟨z,its,n,r,hl,e⟩:=I.lstM hH
 refine qAD F.slot_list_append ⟨_,e,rfl⟩ F.entry_list_append (F.args_list_append_2 _ _) (PySem.list_append l its.toArray n u (by rw[qG];omega)) ⟨e,?_⟩
 refine⟨.non,_,I.lset (its':=its++[u]) hH e (by simp) (r.append (.cons ru .nil)) ?_,rfl,q⟩
 rw[qR,List.length_singleton]
 omega
noncomputable def zalg:V->List V->Hp->VK->Prop:=λx vs H Q=>∃l b xs zs,x=.ref l/\vs=[.ref b]/\H l=some (.lst xs)/\H b=some (.lst zs)/\xs.length+zs.length<=qY/\Q .non (upd H l (.lst (xs++zs)))
theorem zaou:MtM X "list.extend" zalg:=by
 intro pins s σ H x vs v us Q I rx rv h
 obtain⟨l,b,xs,zs,rfl,rfl,hH,hB,hz,q⟩:=h
 cases rx
 obtain⟨u,rfl,ru⟩:=rv.one
 cases ru
 obtain⟨z,its,n,r,hl,e⟩:=I.lstM hH
 obtain⟨z2,its2,n2,r2,hl2,e2⟩:=I.lstM hB
 have hsz:its.toArray.size+its2.toArray.size<=qY:=by rw[qG,qG];omega
 have hlong:¬(!its.toArray.isEmpty&&Builtin.List.listTooLong (its.toArray.size+its2.toArray.size))=true:=by
  rw[zaha hsz,qBt]
  exact qJ
 refine qAD F.slot_list_extend ⟨_,e,rfl⟩ F.entry_list_extend (F.args_list_extend_2 _ _)
  (AutoSeq1.list_extend_list_list_0 l its.toArray n b its2.toArray n2 hlong (by rw[qG];omega) (by omega)) ⟨e,e2,?_⟩
 refine⟨.non,_,I.lset (its':=its++its2) hH e (by simp) (r.append r2) ?_,rfl,q⟩
 rw[qR]
 omega
noncomputable def rPop:V->List V->Hp->VK->Prop:=λx vs H Q=>∃l xs y,x=.ref l/\vs=[]/\H l=some (.lst xs)/\xs[xs.length - 1]?=some y/\Q y (upd H l (.lst xs.dropLast))
theorem zaov:MtM X "list.pop" rPop:=by
 intro pins s σ H x vs v us Q I rx rv h
 obtain⟨l,xs,y,rfl,rfl,hH,hy,q⟩:=h
 cases rx
 have hus:=rv.zero
 subst hus
 obtain⟨z,its,n,r,hl,e⟩:=I.lstM hH
 obtain⟨u,hu,ru⟩:=r.get hy
 have hy':its.toArray[its.toArray.size - 1]?=some u:=by
  show its.toArray[its.length - 1]?=some u
  rw[<- Array.getElem?_toList,<- hl]
  exact hu
 refine qAD F.slot_list_pop ⟨_,e,rfl⟩ F.entry_list_pop (F.args_list_pop_1 _) (MeetsSeq.list_pop_last l its.toArray n u hy' (by rw[qG];omega)) ⟨e,?_⟩
 refine⟨y,_,I.lset (its':=its.dropLast) hH e ?_ r.dropLast ?_,ru,q⟩
 ·show its.toArray.eraseIdxIfInBounds (its.toArray.size - 1)=its.dropLast.toArray
  rw[qG,List.eraseIdxIfInBounds_toArray,zabk]
 ·rw[qCo]
  omega
noncomputable def rCat:R2:=λx y H Q=>∃l b xs zs,x=.ref l/\y=.ref b/\H l=some (.lst xs)/\H b=some (.lst zs)/\xs.length+zs.length<=qY/\∀p,H p=none->Q (.ref p) (upd H p (.lst (xs++zs)))
theorem zaow:OpR X (binaryOp .Add) rCat:=by
 intro pins s σ H x y v u Q I rx ry h
 obtain⟨l,b,xs,zs,rfl,rfl,hH,hB,hz,q⟩:=h
 cases rx
 cases ry
 obtain⟨z,its,n,r,hl,e⟩:=I.lstM hH
 obtain⟨z2,its2,n2,r2,hl2,e2⟩:=I.lstM hB
 refine PySem.P.add_list e e2 ?_ (by rw[qG,qG];omega)
 have ea:its.toArray++its2.toArray=(its++its2).toArray:=by simp
 rw[ea]
 exact⟨.ref _,_,I.lnew (t':=s.toks) (r.append r2) (by rw[qR];omega),rfl,q _ I.fresh⟩
end
section
variable{prog:Program}{w:World}{A:Around}{E:Value->Shared->Prop}{s:Shared}
set_option maxRecDepth 100000 in
end
section
variable{κ:Type}[DecidableEq κ]
noncomputable def valV(kvs:List (κ×V))(k:κ):Option V:=(kvs.find? λkv=>decide (kv.1=k)).map (·.2)
noncomputable def putK(kvs:List (κ×V))(k:κ)(v:V):List (κ×V):=
 if(kvs.any λkv=>decide (kv.1=k))=true then kvs.map (λkv=>if kv.1=k then(kv.1,v)else kv)else kvs++[(k,v)]
theorem zpp{p:κ×V}{r:List (κ×V)}{k:κ}(e:p.1=k):valV (p::r) k=some p.2:=by simp[valV,qA4,e]
theorem zpq{p:κ×V}{r:List (κ×V)}{k:κ}(e:¬p.1=k):valV (p::r) k=valV r k:=by simp[valV,qA4,e]
theorem zaaa(k:κ):∀kvs:List (κ×V),(kvs.any λkv=>decide (kv.1=k))=(valV kvs k).isSome
 | []=>rfl
 | p::r=>by
  rw[qAc]
  by_cases e:p.1=k
  ·simp only[zpp e,decide_eq_true e,Bool.true_or,qCn]
  ·rw[zpq e,decide_eq_false e,qCY];exact zaaa k r
theorem zma(kvs:List (κ×V))(k:κ)(v:V):(putK kvs k v).length<=kvs.length+1:=by
 unfold putK
 split
 ·rw[qE];omega
 ·rw[qR,qv,List.length_nil];omega
theorem RelO.isSome_eq{o:Option V}{u:Option Value}(r:RelO o u):o.isSome=u.isSome:=by
 cases o with
 | none=>cases u with
  | none=>rfl
  | some _=>exact(show False from r).elim
 | some _=>cases u with
  | none=>exact(show False from r).elim
  | some _=>rfl
theorem KV.val{kvs:List (κ×V)}{vs:List (κ×Value)}(r:KV kvs vs)(k:κ):RelO (valV kvs k) (valueAt vs k):=by
 unfold KV at r
 induction r with
 | nil=>exact True.intro
 | @cons p q ps qs h t ih=>
  obtain⟨h1,h2⟩:=h
  by_cases e:p.1=k
  ·have e':q.1=k:=h1.symm.trans e
   have b:valueAt (q::qs) k=some q.2:=by simp[valueAt,qA4,e']
   rw[zpp e,b];exact h2
  ·have e':¬q.1=k:=λz=>e (h1.trans z)
   have b:valueAt (q::qs) k=valueAt qs k:=by simp[valueAt,qA4,e']
   rw[zpq e,b];exact ih
theorem KV.any{kvs:List (κ×V)}{vs:List (κ×Value)}(r:KV kvs vs)(k:κ):(kvs.any λkv=>decide (kv.1=k))=vs.any λkv=>decide (kv.1=k):=by
 unfold KV at r
 induction r with
 | nil=>rfl
 | cons h t ih=>rw[qAc,qAc,ih,h.1]
theorem KV.repl{kvs:List (κ×V)}{vs:List (κ×Value)}(r:KV kvs vs)(k:κ){y:V}{u:Value}(ry:RelV y u) :
  KV (kvs.map λkv=>if kv.1=k then(kv.1,y)else kv) (vs.map λkv=>if kv.1=k then(kv.1,u)else kv):=by
 unfold KV at r ⊢
 induction r with
 | nil=>exact .nil
 | @cons p q ps qs h t ih=>
  rw[qp,qp]
  refine .cons ?_ ih
  obtain⟨h1,h2⟩:=h
  by_cases e:p.1=k
  ·rw[if_pos e,if_pos (h1.symm.trans e)];exact⟨h1,ry⟩
  ·rw[if_neg e,if_neg (λz=>e (h1.trans z))];exact⟨h1,h2⟩
theorem KV.put{kvs:List (κ×V)}{vs:List (κ×Value)}(r:KV kvs vs)(k:κ){y:V}{u:Value}(ry:RelV y u):KV (putK kvs k y) (stored vs k u):=by
 unfold putK stored
 rw[r.any k]
 by_cases e:(vs.any λkv=>decide (kv.1=k))=true
 ·rw[if_pos e,if_pos e];exact r.repl k ry
 ·rw[if_neg e,if_neg e];exact Paired.snoc r ⟨rfl,ry⟩
theorem KV.length{kvs:List (κ×V)}{vs:List (κ×Value)}(r:KV kvs vs):kvs.length=vs.length:=qBv r
end
theorem zabl{P:Program}{w:World}{k:Key}{u:Value}(r:RelV (kV k) u):(zbs P w).is k u=true:=by
 cases k with
 | inl i=>obtain⟨t,e⟩:=(show ∃t,u=Value.int i t from r);subst e;exact zya P w i t
 | inr x=>obtain⟨t,e⟩:=(show ∃t,u=Value.str x t from r);subst e;exact zyb P w x t
theorem zvo{P:Program}{w:World}:∀{ks:List Key}{us:List Value},Vals (ks.map kV) us->ItemsAre (zbs P w) ks us
 | [],_,r=>by rw[qBk]at r;cases r;exact .nil
 | k::ks,_,r=>by
  rw[qp]at r
  cases r with
  | cons h t=>exact .cons (zabl h) (zvo t)
noncomputable abbrev KT(H:Hp):List (List Key×V)->List (List Key×Addr×Value)->Prop:=Paired λp q=>p.1=q.1/\H q.2.1=some (.tup (p.1.map kV))/\RelV p.2 q.2.2
theorem KT.val{H:Hp}{kvs:List (List Key×V)}{xs:List (List Key×Addr×Value)}(r:KT H kvs xs)(k:List Key):RelO (valV kvs k) ((atKey xs k).map (·.2)):=by
 induction r with
 | nil=>exact True.intro
 | @cons p q ps qs h t ih=>
  obtain⟨h1,_,h2⟩:=h
  by_cases e:p.1=k
  ·have e':q.1=k:=h1.symm.trans e
   have b:atKey (q::qs) k=some q.2:=by simp[atKey,qA4,e']
   rw[zpp e,b];exact h2
  ·have e':¬q.1=k:=λz=>e (h1.trans z)
   have b:atKey (q::qs) k=atKey qs k:=by simp[atKey,qA4,e']
   rw[zpq e,b];exact ih
theorem KT.repl{H:Hp}{kvs:List (List Key×V)}{xs:List (List Key×Addr×Value)}(r:KT H kvs xs)(k:List Key){y:V}{u:Value}(ry:RelV y u) :
  KT H (kvs.map λkv=>if kv.1=k then(kv.1,y)else kv) (xs.map (putAt k u)):=by
 induction r with
 | nil=>exact .nil
 | @cons p q ps qs h t ih=>
  rw[qp,qp]
  refine .cons ?_ ih
  obtain⟨h1,h2,h3⟩:=h
  unfold putAt
  by_cases e:p.1=k
  ·rw[if_pos e,if_pos (h1.symm.trans e)];exact⟨h1,h2,ry⟩
  ·rw[if_neg e,if_neg (λz=>e (h1.trans z))];exact⟨h1,h2,h3⟩
theorem KT.put{H:Hp}{kvs:List (List Key×V)}{xs:List (List Key×Addr×Value)}(r:KT H kvs xs)(k:List Key){b:Addr}{y:V}{u:Value}(hb:H b=some (.tup (k.map kV)))(ry:RelV y u) :
  KT H (putK kvs k y) (storedH xs k b u):=by
 have e:(kvs.any λkv=>decide (kv.1=k))=(atKey xs k).isSome:=by
  rw[zaaa,(r.val k).isSome_eq,qCv]
 unfold putK storedH
 rw[e]
 by_cases q:(atKey xs k).isSome=true
 ·rw[if_pos q,if_pos q];exact r.repl k ry
 ·rw[if_neg q,if_neg q];exact Paired.snoc r ⟨rfl,hb,ry⟩
theorem KT.keeps{H H':Hp}{kvs:List (List Key×V)}{xs:List (List Key×Addr×Value)}(r:KT H kvs xs)(ht:∀b ys,H b=some (.tup ys)->H' b=some (.tup ys)):KT H' kvs xs:=
 Paired.mapP r λ_ _ z=>⟨z.1,ht _ _ z.2.1,z.2.2⟩
section
variable{P:Program}{w:World}{H:Hp}{h:Heap}{a:Addr}
theorem zaox{u:HO}(ok:HOk P w H h)(e:Rd H a u):zfb P w H h a u:=e.ok ok
theorem zahb{kvs:List (Key×V)}(ok:HOk P w H h)(e:Rd H a (.dK kvs)):kvs.length<=qY/\(a==sysModules)=false/\∃vs,KV kvs vs/\h.DictOf (zbs P w) a vs:=
 show zfb P w H h a (.dK kvs)from zaox ok e
theorem zahc{kvs:List (Key×V)}(ok:HOk P w H h)(e:H a=some (.dK kvs)):kvs.length<=qY/\(a==sysModules)=false/\∃vs,KV kvs vs/\h.DictOf (zbs P w) a vs:=zahb ok (.inl e)
theorem zaab{ks:List Key}(ok:HOk P w H h)(e:H a=some (.tup (ks.map kV))):(tupleKind (zbs P w)).is h ks a:=by
 obtain⟨_,its,r,o,h1,h2,n,h3⟩:=(show zfb P w H h a (.tup (ks.map kV))from ok a _ e)
 exact⟨o,its.toArray,n,h1,h2,h3,by simpa using zvo r⟩
theorem zahd{kvs:List (List Key×V)}(ok:HOk P w H h)(e:Rd H a (.dT kvs)):kvs.length<=qY/\(a==sysModules)=false/\
  ∃xs,KT H kvs xs/\h.DictOfH (tupleKind (zbs P w)) a xs:=by
 obtain⟨z,y,xs,r,o,es,ep,h1,h2,h3,h4,h5⟩:=(show zfb P w H h a (.dT kvs)from zaox ok e)
 refine⟨z,y,xs,r,o,es,ep,h1,h2,h3,h4,λx hx=>?_,h5⟩
 have all:∀{l:List (List Key×V)}{m:List (List Key×Addr×Value)},KT H l m->∀x∈m,(tupleKind (zbs P w)).is h x.1 x.2.1:=by
  intro l m q
  induction q with
  | nil=>intro x hx;exact nomatch hx
  | @cons p q ps qs hq t ih=>
   intro x hx
   rcases qa.mp hx with e|hx
   ·subst e
    exact zaab ok (by rw[<- hq.1];exact hq.2.1)
   ·exact ih x hx
 exact all r x hx
theorem zarm{kvs:List (List Key×V)}(ok:HOk P w H h)(e:H a=some (.dT kvs)):kvs.length<=qY/\(a==sysModules)=false/\
  ∃xs,KT H kvs xs/\h.DictOfH (tupleKind (zbs P w)) a xs:=zahd ok (.inl e)
end
noncomputable def DGet(H:Hp)(a:Addr)(y:V)(r:Option V):Prop:=
 (∃kvs k,Rd H a (.dK kvs)/\y=kV k/\r=valV kvs k)\/∃kvs k b,Rd H a (.dT kvs)/\y=.ref b/\H b=some (.tup (k.map kV))/\r=valV kvs k
noncomputable def DPut(H:Hp)(a:Addr)(y v:V)(H':Hp):Prop:=
 (∃kvs k,H a=some (.dK kvs)/\y=kV k/\kvs.length<qY/\H'=upd H a (.dK (putK kvs k v)))\/
 ∃kvs k b,H a=some (.dT kvs)/\y=.ref b/\H b=some (.tup (k.map kV))/\kvs.length<qY/\H'=upd H a (.dT (putK kvs k v))
theorem DGet.k{H:Hp}{a:Addr}{kvs:List (Key×V)}{k:Key}(e:H a=some (.dK kvs)):DGet H a (kV k) (valV kvs k):=.inl ⟨kvs,k,.inl e,rfl,rfl⟩
theorem DPut.k{H:Hp}{a:Addr}{kvs:List (Key×V)}{k:Key}{v:V}(e:H a=some (.dK kvs))(hl:kvs.length<qY):DPut H a (kV k) v (upd H a (.dK (putK kvs k v))):=.inl ⟨kvs,k,e,rfl,hl,rfl⟩
section
variable{X:Cx}{pins:List (Addr×Obj)}{σ:St}{H:Hp}{s:Shared}{a:Addr}{y v:V}{u r:Value}{o:Option V}{A:Around}{E:Value->Shared->Prop}
theorem Inv.big(I:Inv X pins σ H s):sysModules<s.heap.objs.size:=by
 have h:qU<s.heap.objs.size:=(I.mod.glob.keeps I.bk).lt
 exact Nat.lt_trans (by decide) h
theorem zadn{Q:Value->Shared->Prop}(hu:A.units+1<cLine)(I:Inv X pins σ H s)(g:DGet H a y (some v))(ry:RelV y u)(h:∀w' s',Inv X pins σ H s'->RelV v w'->Q w' s') :
  wpAny (model X.prog X.w) A (getItem (.ref a) u) Q E s:=by
 rcases g with⟨kvs,k,e,ey,l⟩|⟨kvs,k,b,e,ey,eb,l⟩
 ·subst ey
  obtain⟨z,hd,vs,rel,dd⟩:=zahb I.hok e
  obtain⟨w',hw,rw'⟩:=RelO.some_of (v:=v) (o:=valueAt vs k) (by rw[l];exact rel.val k)
  exact wpAny_getItem_of (zabl ry) dd.mapOf hw (h w' _ (I.tok _) rw')
 ·subst ey
  cases(show u=Value.ref b from ry)
  obtain⟨z,hd,xs,rel,dd⟩:=zahd I.hok e
  obtain⟨w',hw,rw'⟩:=RelO.some_of (v:=v) (o:=(atKey xs k).map (·.2)) (by rw[l];exact rel.val k)
  obtain⟨p,hp,hp2⟩:=qI.mp hw
  refine wpAny_getItem_heap (qB8 hu) (zaab I.hok eb) dd hp ?_
  rw[hp2]
  exact h w' _ (I.tok _) rw'
theorem d_in{Q:Value->Shared->Prop}(hu:A.units+1<cLine)(I:Inv X pins σ H s)(g:DGet H a y o)(ry:RelV y u)(h:∀s',Inv X pins σ H s'->Q (.bool o.isSome) s') :
  wpAny (model X.prog X.w) A (compareOp .In u (.ref a)) Q E s:=by
 rcases g with⟨kvs,k,e,ey,l⟩|⟨kvs,k,b,e,ey,eb,l⟩
 ·subst ey
  obtain⟨z,hd,vs,rel,dd⟩:=zahb I.hok e
  refine wpAny_in_of (zabl ry) hd dd.mapOf ?_
  rw[<- (rel.val k).isSome_eq,<- l]
  exact h _ (I.tok _)
 ·subst ey
  cases(show u=Value.ref b from ry)
  obtain⟨z,hd,xs,rel,dd⟩:=zahd I.hok e
  refine wpAny_in_heap (qB8 hu) (zaab I.hok eb) hd dd ?_
  have q:=(rel.val k).isSome_eq
  rw[qCv]at q
  rw[<- q,<- l]
  exact h _ (I.tok _)
theorem ztm{h':Heap}{t':Nat}{ob:HO}(I:Inv X pins σ H s)(mu:Mut (H a))(hs:Heap.SameBut a s.heap h')(he:∃q,h'.get? a=some q)(new:zfb X.prog X.w (upd H a ob) h' a ob) :
  Inv X pins σ (upd H a ob) {s with heap:=h',toks:=t'}:=
 I.write (x:=a) (e:=a) mu (.inl rfl) (λb q hb z=>(hs.2 b hb).trans z) he new
theorem zado{P:Program}{w:World}{H':Hp}{h':Heap}{kvs:List (Key×V)}{vs:List (Key×Value)}(z:kvs.length<=qY)(hd:(a==sysModules)=false)(rel:KV kvs vs)(dd:h'.DictOf (zbs P w) a vs) :
  zfb P w H' h' a (.dK kvs):=⟨z,hd,vs,rel,dd⟩
theorem zadp{H':Hp}{Q:Unit->Shared->Prop}(hu:A.units+1<cLine)(I:Inv X pins σ H s)(g:DPut H a y v H')(ry:RelV y u)(rv:RelV v r)(h:∀s',Inv X pins σ H' s'->Q () s') :
  wpAny (model X.prog X.w) A (setItem (.ref a) u r) Q E s:=by
 rcases g with⟨kvs,k,e,ey,l,eH⟩|⟨kvs,k,b,e,ey,eb,l,eH⟩
 ·subst ey eH
  obtain⟨z,hd,vs,rel,dd⟩:=zahc I.hok e
  have hz:vs.length<=qY:=by rw[<- rel.length];exact z
  have hl:(putK kvs k v).length<=qY:=by have:=zma kvs k v;omega
  refine wpAny_setItem_pairs (hsz:=hz) (zabl ry) dd λh' dd' hs=>h _ ?_
  have he:∃q,h'.get? a=some q:=let⟨q,_,_,hq,_⟩:=dd';⟨q,hq⟩
  exact ztm I (by rw[e];exact True.intro) hs he (zado hl hd (rel.put k rv) dd')
 ·subst ey eH
  cases(show u=Value.ref b from ry)
  obtain⟨z,hd,xs,rel,dd⟩:=zarm I.hok e
  have hz:xs.length<=qY:=by rw[<- qBv rel];exact z
  have hl:(putK kvs k v).length<=qY:=by have:=zma kvs k v;omega
  refine wpAny_setItem_heap (hsz:=hz) (qB8 hu) (zaab I.hok eb) dd λh' dd' hs=>h _ ?_
  obtain⟨q,es,ep,hq,h2,h3,h4,_,h5⟩:=dd'
  refine ztm I (by rw[e];exact True.intro) hs ⟨q,hq⟩ ⟨hl,hd,_,(rel.put k eb rv).keeps λc ys ec=>?_,q,es,ep,hq,h2,h3,h4,h5⟩
  rw[zbn (zarb ec e (λz=>nomatch z))]
  exact ec
end
noncomputable def NoSl(i:Expr):Prop:=∀ov iv,subscripted i false ov iv=operate [ov,iv] (getItem ov iv)
theorem zalh{prog:Program}{w:World}{A:Around}{E:Value->Shared->Prop}{s:Shared}{env:Env}{value slice:Expr}{pos:Pos}{T id:String}{Q:Value->Shared->Prop}
  (hl:typeLookup (.type T) "__getitem__"=pure (some (.builtin id)))(hs:NoSl slice)
  (h:wpAny (model prog w) A (eval value env) (λo s₁=>wpAny (model prog w) A (eval slice env) (λi s₂=>s₂.TypeIs o T/\wpAny (model prog w) A (getItem o i) Q E s₂) E s₁) E s) :
  wpAny (model prog w) A (eval (.Subscript value slice pos) env) Q E s:=by
 refine Subscript_ (qBi h (λo s₁ h₁=>qBi h₁ (λi s₂ h₂=>?_) λ_ _ x=>x) λ_ _ x=>x)
 obtain⟨hT,h₂⟩:=h₂
 unfold subscriptTail
 refine qB ?_
 rw[getitemInPython_of_ne hT.not_modules]
 refine qB (wpAny_specialOf hT hl ?_)
 have fin:wpAny (model prog w) A (subscripted slice false o i) (λr s₃=>wpAny (model prog w) A (letTemporaryGo value o r >>=λ_=>pure r) Q E s₃) E s₂:=by
  rw[hs o i]
  exact wpAny_operating (qBi h₂ (λr s₃ h₃=>qB (wpAny_letTemporaryGo (qH h₃))) λ_ _ x=>x)
 first
  | exact qH (qB fin)
  | exact qB (qH (qB fin))
  | exact qB fin
theorem zyg{X:Cx}{pins:List (Addr×Obj)}{σ:St}{H:Hp}{s:Shared}{a:Addr}{y:V}{o:Option V}(I:Inv X pins σ H s)(g:DGet H a y o):s.TypeIs (.ref a) "dict":=by
 rcases g with⟨kvs,k,e,_,_⟩|⟨kvs,k,b,e,_,_,_⟩
 ·obtain⟨_,_,vs,_,dd⟩:=zahb I.hok e
  exact dd.typeIs
 ·obtain⟨_,_,xs,_,dd⟩:=zahd I.hok e
  exact dd.typeIs
noncomputable def tDGet(td ty:TE):TE:=λσ H Q=>td σ H λx H1=>ty σ H1 λy H2=>∃a v,x=.ref a/\DGet H2 a y (some v)/\Q v H2
noncomputable def tDIn(ty td:TE):TE:=λσ H Q=>ty σ H λy H1=>td σ H1 λx H2=>∃a o,x=.ref a/\DGet H2 a y o/\Q (.bl o.isSome) H2
noncomputable def sDPut(td ty tv:TE):TS:=λD σ H=>tv σ H λv H1=>td σ H1 λx H2=>ty σ H2 λy H3=>∃a H4,x=.ref a/\DPut H3 a y v H4/\D.nx σ H4
section
variable{X:Cx}{o i e value:Expr}{pos pos' tpos:Pos}{td ty tv:TE}
theorem zali(hu:X.A.units+1<cLine)(ho:PE X o td)(hi:PE X i ty)(hs:NoSl i):PE X (.Subscript o i pos) (tDGet td ty):=by
 intro pins s σ H Q I h
 refine zalh PySem.F.slot_dict_getitem.lookup hs (thn (ho pins s σ H _ I h) λu s1 ⟨x,H1,I1,rx,q1⟩=>thn (hi pins s1 σ H1 _ I1 q1) λiv s2 ⟨y,H2,I2,ry,a,v,ex,g,q2⟩=>?_)
 subst ex
 obtain rfl:u=Value.ref a:=rx
 exact⟨zyg I2 g,zadn hu I2 g ry λw' s3 I3 rw'=>⟨v,H2,I3,rw',q2⟩⟩
theorem zaoy(hu:X.A.units+1<cLine)(hi:PE X i ty)(ho:PE X o td):PC X .In i o (tDIn ty td):=by
 intro pins s σ H Q I h
 refine thn (hi pins s σ H _ I h) λiv s1 ⟨y,H1,I1,ry,q1⟩=>thn (ho pins s1 σ H1 _ I1 q1) λu s2 ⟨x,H2,I2,rx,a,ov,ex,g,q2⟩=>?_
 subst ex
 obtain rfl:u=Value.ref a:=rx
 exact d_in hu I2 g ry λs3 I3=>⟨.bl ov.isSome,H2,I3,rfl,q2⟩
theorem zalj(hu:X.A.units+1<cLine)(ho:PE X o td)(hi:PE X i ty)(hv:PE X value tv)(hs:swapsWith value (some (.Subscript o i pos')) pos.line X.env=pure false) :
  PS X (.Assign [.Subscript o i pos'] value pos) (sDPut td ty tv):=by
 intro pins s σ H D I h
 refine wpAny_Assign_Subscript (thn (hv pins s σ H _ I h) λr s1 ⟨v,H1,I1,rv,q1⟩=>thn (ho pins s1 σ H1 _ I1 q1) λu s2 ⟨x,H2,I2,rx,q2⟩=>thn (hi pins s2 σ H2 _ I2 q2) λiv s3 ⟨y,H3,I3,ry,a,H4,ex,g,q3⟩=>?_) hs
 subst ex
 obtain rfl:u=Value.ref a:=rx
 exact zadp hu I3 g ry rv λs4 I4=>⟨σ,H4,I4,q3⟩
end
theorem zaac{P:Program}{w:World}{H:Hp}(h:Heap)(hb:sysModules<h.objs.size):zfb P w H (h.push {cls:=.type "dict",data:=.dict #[]}) h.objs.size (.dK []):=
 ⟨qAf _,beq_eq_false_iff_ne.mpr (qBC (qAB hb)),[],.nil,Heap.DictOf.new h⟩
noncomputable def tDNewK:TE:=λ_ H Q=>∀p,H p=none->Q (.ref p) (upd H p (.dK []))
section
variable{X:Cx}{pos:Pos}
theorem zahe:PE X (.Dict [] [] pos) tDNewK:=λpins s σ H Q I h=>
 wpAny_Dict_empty ⟨.ref s.heap.objs.size,_,I.laid (a:=s.heap.objs.size) (o:=.dK []) (t':=s.toks) (λ_ _ q=>qL _ q) (qN _) (zaac s.heap I.big),rfl,h _ (I.hok.fresh (qN _))⟩
end
noncomputable def zadq:List (TE×TE)->St->Hp->(List (V×V)->Hp->Prop)->Prop
 | [],_,H,Q=>Q [] H
 | (tk,tv)::r,σ,H,Q=>tk σ H λx H1=>tv σ H1 λy H2=>zadq r σ H2 λps H3=>Q ((x,y)::ps) H3
noncomputable abbrev VV:List (V×V)->List (Value×Value)->Prop:=Paired λp q=>RelV p.1 q.1/\RelV p.2 q.2
noncomputable def PPs(X:Cx)(pos:Pos)(keys:List (Option Expr))(values:List Expr)(trs:List (TE×TE)):Prop:=
 ∀(pins:List (Addr×Obj))(s:Shared)(σ:St)(H:Hp)(Q:List (V×V)->Hp->Prop),Inv X pins σ H s->zadq trs σ H Q->
  wpAny (model X.prog X.w) X.A (evalPairs (pairTrees keys values X.env pos)) (λvs s'=>∃ps H',Inv X pins σ H' s'/\VV ps vs/\Q ps H') X.xe s
theorem zalk{X:Cx}{pos:Pos}:PPs X pos [] [] []:=λpins s σ H Q I h=>pairTrees_nil_walk ⟨[],H,I,.nil,h⟩
theorem zahf{X:Cx}{pos:Pos}{k v:Expr}{ks:List (Option Expr)}{vs:List Expr}{tk tv:TE}{trs:List (TE×TE)}(hk:PE X k tk)(hv:PE X v tv)(hr:PPs X pos ks vs trs) :
  PPs X pos (some k::ks) (v::vs) ((tk,tv)::trs):=λpins s σ H Q I h=>
 pairTrees_cons_walk (thn (hk pins s σ H _ I h) λu s1 ⟨x,H1,I1,rx,q1⟩=>thn (hv pins s1 σ H1 _ I1 q1) λw2 s2 ⟨y,H2,I2,ry,q2⟩=>
  thn (hr pins s2 σ H2 _ I2 q2) λws s3 ⟨ps,H3,I3,rel,q3⟩=>⟨(x,y)::ps,H3,I3,.cons ⟨rx,ry⟩ rel,q3⟩)
noncomputable def zme(kvs more:List (Key×V)):List (Key×V):=more.foldl (λacc kv=>putK acc kv.1 kv.2) kvs
theorem KV.merge:∀{more:List (Key×V)}{rs:List (Key×Value)}{kvs:List (Key×V)}{vs:List (Key×Value)},KV more rs->KV kvs vs->KV (zme kvs more) (merged vs rs):=by
 intro more rs kvs vs r
 unfold KV at r
 induction r generalizing kvs vs with
 | nil=>intro q;exact q
 | @cons p q ps qs h t ih=>
  intro r0
  have e:KV (putK kvs p.1 p.2) (stored vs q.1 q.2):=by
   have:=r0.put p.1 h.2
   rw[<- h.1];exact this
  exact ih e
theorem zix:∀(more kvs:List (Key×V)),(zme kvs more).length<=kvs.length+more.length
 | [],kvs=>by show kvs.length<=kvs.length+0;omega
 | p::r,kvs=>by
  have h1:=zix r (putK kvs p.1 p.2)
  have h2:=zma kvs p.1 p.2
  show(zme (putK kvs p.1 p.2) r).length<=_
  rw[qv];omega
theorem zsn{P:Program}{w:World}:∀{kvs:List (Key×V)}{ws:List (Value×Value)},VV (kvs.map λkv=>(kV kv.1,kv.2)) ws->∃rs,Carries (zbs P w) ws rs/\KV kvs rs
 | [],_,r=>by rw[qBk]at r;cases r;exact⟨[],True.intro,.nil⟩
 | p::kvs,_,r=>by
  rw[qp]at r
  cases r with
  | @cons a b as bs h t=>
   obtain⟨rs,c,q⟩:=zsn (P:=P) (w:=w) t
   obtain⟨b1,b2⟩:=b
   exact⟨(p.1,b2)::rs,⟨zabl h.1,rfl,c⟩,.cons ⟨rfl,h.2⟩ q⟩
noncomputable def tDisp(trs:List (TE×TE)):TE:=λσ H Q=>∀p,H p=none->zadq trs σ (upd H p (.dK [])) λps H2=>H2 p=some (.dK [])/\∃kvs:List (Key×V),ps=kvs.map (λkv=>(kV kv.1,kv.2))/\kvs.length<=15/\Q (.ref p) (upd H2 p (.dK (zme [] kvs)))
theorem zall{X:Cx}{pos:Pos}{keys:List (Option Expr)}{values:List Expr}{trs:List (TE×TE)}(h:PPs X pos keys values trs)(hall:keys.all (·.isSome)=true)(hl:keys.length=values.length)(h0:keys≠[])
  (h15:keys.length<=15):PE X (.Dict keys values pos) (tDisp trs):=by
 intro pins s σ H Q I q
 have hn:=I.hok.fresh (qN s.heap.objs.size)
 have I1:=I.laid (a:=s.heap.objs.size) (o:=.dK []) (h':=s.heap.push {cls:=.type "dict",data:=.dict #[]}) (t':=s.toks) (λ_ _ q=>qL _ q) (qN _) (zaac s.heap I.big)
 refine wpAny_Dict_walk (knd:=zbs X.prog X.w) hall hl h0 h15 (thn (h pins _ σ _ _ I1 (q _ hn)) λws s2 ⟨ps,H2,I2,rel,e,kvs,ep,lk,q2⟩=>?_)
 subst ep
 obtain⟨rs,c,rk⟩:=zsn (P:=X.prog) (w:=X.w) rel
 obtain⟨z,hd,vs0,r0,dd⟩:=zahc I2.hok e
 cases r0
 refine⟨rs,c,dd,λh' dd' hs=>⟨.ref s.heap.objs.size,_,?_,rfl,q2⟩⟩
 have hz:(zme [] kvs).length<=qY:=by
  have h1:=zix kvs []
  rw[List.length_nil]at h1
  rw[qCc];omega
 have he:∃q,h'.get? s.heap.objs.size=some q:=let⟨q,_,_,hq,_⟩:=dd';⟨q,hq⟩
 exact ztm I2 (by rw[e];exact True.intro) hs he (zado hz hd (rk.merge .nil) dd')
set_option genInjectivity false in
set_option genInjectivity false in
section
variable{X:Cx}{pins:List (Addr×Obj)}{σ:St}{H:Hp}{s:Shared}{a:Addr}{y d:V}{u r:Value}{o:Option V}{A:Around}{E:Value->Shared->Prop}
end
end L2
namespace Att
open PySem PySem.W PySem.Calls PyProof.Rows
theorem zqe{P:Params}{h:Heap}:∀(ns:List Int)(vs:List Value),WellAll P h vs (ns.map WData.int)->IntsAre vs ns:=by
 intro ns
 induction ns with
 | nil=>
  intro vs w
  rw[qBk]at w
  cases w
  exact .nil
 | cons n ns ih=>
  intro vs w
  rw[qp]at w
  cases w with
  | cons a b=>
   cases a
   exact .cons _ _ (ih _ b)
theorem zadr{l:OpenLaw}{n:Nat}(hn:l.most=some n){P:Params}{h:Heap}{args:List WData}{vals:List Value}
  (hpre:l.row.toRowW.claim.pre args=true)(hwl:WellAll P h vals args) :
  ∃a vs ns,vals=[Value.ref a]/\args=[WData.list (ns.map WData.int)]/\h.get? a=some {cls:=.type "list",data:=.seq vs.toArray}/\IntsAre vs ns/\ns.length<=n:=by
 have hsh:WShape.hasAll [] args [.list .int]=true:=(pre_splitW hpre).1
 have hc:l.pre.holds [] {args:=args}=true:=(pre_splitW hpre).2
 obtain⟨d,r,rfl,h1,h2⟩:=hasAllW_cons hsh
 obtain rfl:=hasAllW_nil h2
 obtain⟨xs,rfl,h3⟩:=hasW_list h1
 obtain⟨ns,rfl⟩:=items_int h3
 have hlen:ns.length<=n:=by
  unfold OpenLaw.pre at hc
  have h4:(WTm.not (.lt (.lit (.int (n:Int))) (.len (.arg 0)))).holds [] {args:=[.list (ns.map .int)]}=true:=by
   have h4:=(holds_andW hc).1
   rw[hn]at h4
   exact h4
  have h5:=condW_of h4 (w_not (w_lt w_lit (w_len_list (w_arg rfl))))
  rw[qE]at h5
  refine Nat.le_of_not_lt λq=>?_
  have q':(n:Int)<((ns.length:Nat):Int):=by omega
  first
   | (rw[decide_eq_true q']at h5;exact absurd h5 (by decide))
   | (simp at h5;omega)
 cases hwl with
 | cons w1 w2=>
  cases w2
  cases w1 with
  | list ho hall=>exact⟨_,_,ns,rfl,rfl,ho,zqe ns _ hall,hlen⟩
theorem zads(l:OpenLaw)(args:List WData):l.row.toRowW.claim.post args (.bool true) args=true:=
 postW_of (r:=l.row.toRowW) (X:=(true==true))
  (show WShape.has [] (.bool true) .bool=true by first|rfl|decide|simp[WShape.has,WShape.arms,WShape.armsAll])
  (show(WTm.eq .res (.lit (.bool true))).value [] {args:=args,res:=some (.bool true),after:=args}=some (.bool (true==true))from w_eq_bool (w_res rfl) w_lit) rfl
theorem attach_call{l:OpenLaw}{n:Nat}{q:Program}{loose:List Str}{XP:(Str->Option Value)->Heap->Prop}{YP:World->Heap->Prop}{d:DefRec}
  (hn:l.most=some n)(hdf:d.params.defaults=[])
  (call:∀(w:World)(s₀ s₁:Shared)(mg mb:Str->Option Value)(fa:Addr)(o:Obj)(pm cd doc:Value)(a:Addr)(vs:List Value)(ns:List Int),
   Ground q loose [] XP w s₀ mg mb s₁.heap->YP w s₁.heap->
   s₁.heap.get? fa=some o->o.data=.func (docDef d.name d.params d.body d.scope pm cd doc)->s₁.heap.CodeRec cd d.name->mg d.name=some (.ref fa)->
   s₁.heap.get? a=some {cls:=.type "list",data:=.seq vs.toArray}->IntsAre vs ns->ns.length<=n->s₁.gens=#[]->
   codeAny (model l.prog w) callerA (.call (.ref fa) ⟨[.ref a],[]⟩) (λr s'=>r=.ok (.ret (.bool true))/\OldK s₁.heap s'.heap/\s'.os=s₁.os/\AllBare s'.gens) s₁) :
  WalkO q loose XP YP l.row.toRowW d [] (λf vs=>PySem.call f vs):=by
 intro w s₀ s₁ mg mb G Y fa o pm cd doc dV kV ho hd hcd hD hmg hg args vals as hpre hlay hrd hwl hlo
 obtain rfl:dV=.none:=Dflts.none hD hdf
 obtain rfl:kV=.none:=Dflts.noKw hD
 obtain⟨a,vs,ns,rfl,rfl,hobj,hints,hlen⟩:=zadr hn hpre hwl
 refine enter_call (qBJ (call w s₀ s₁ mg mb fa o pm cd doc a vs ns G Y ho (fd_plain hd) hcd hmg hobj hints hlen hg) λr s' hq=>?_)
 obtain⟨rfl,h2,h3,h4⟩:=hq
 exact⟨.inl ⟨.bool true,.bool true,[],rfl,λ_=>rfl,.bool true,zads l _,λ_=>⟨List.Pairwise.nil,λ_ hm=>(nomatch hm)⟩⟩,h2,h3,h4⟩
end Att
namespace L2
open PySem PySem.Spec PyProof.Rows
theorem zvp:∀{vs:List Value}{ns:List Int},IntsAre vs ns->Vals (ns.map V.int) vs
 | _,_,.nil=>.nil
 | _,_,.cons n t h=>.cons ⟨t,rfl⟩ (zvp h)
noncomputable def Only(H:Hp):Prop:=∀b,H b=none\/∃o xs,H b=some (.frz o (.lst xs))
theorem zahg{P:Program}{w:World}{K:qC}{mg mb:Str->Option Value}{CX:CXT}{k:Nat}{fa a:Addr}{fd:qAA}{x:Str}{sp:Sp}{s₁:Shared}{vs:List Value}{ns:List Int}
  (KX:K.In s₁.heap)(hns:s₁.heap.Ns qU mg)(hb:s₁.heap.Ns builtinsNs mb)(hbb:∀x:Str,x≠"__name__"->mb x=bootBuiltins x)(hlim:s₁.heap.NoLimit)(hg:s₁.gens=#[])
  (ha:s₁.heap.get? a=some {cls:=.type "list",data:=.seq vs.toArray}) (hi:IntsAre vs ns) (hl:ns.length<=qY) (hr:Room k callerA)
  (F:∀base:Heap,K.In base->base.Ns qU mg->FnOk P w K mg base CX k fa fd [x] sp)(hbind:∀(s:Shared) (u:Value),BindsTo s fd ⟨[u],[]⟩ [(x,u)])
  (hsp:∀H:Hp,Only H->SqL K H a (ns.map V.int)->sp [.ref a] H (λv _=>v=.bl true) λ_ _ _=>False)
  (hCX:∀H e s',CX [] H s₁ (λ_ _ _=>False) e s'->False) :
  codeAny (model P w) callerA (.call (.ref fa) ⟨[.ref a],[]⟩) (λr s'=>r=.ok (.ret (.bool true))/\OldK s₁.heap s'.heap/\s'.os=s₁.os/\AllBare s'.gens) s₁:=by
 have rv:=zvp hi
 have lenV:=hi.length
 have core:∀H:Hp,Only H->SqL K H a (ns.map V.int)->HOk P w H s₁.heap->(∀b,H b≠none->b=a)->(H a≠none->K.lookup a=none)->
   codeAny (model P w) callerA (.call (.ref fa) ⟨[.ref a],[]⟩) (λr s'=>r=.ok (.ret (.bool true))/\OldK s₁.heap s'.heap/\s'.os=s₁.os/\AllBare s'.gens) s₁:=by
  intro H hO hS hok hA hK
  have base_of:∀{b:Addr}{o:Obj},s₁.heap.get? b=some o->H b=none->(hidT s₁.heap H).get? b=some o:=λe n=>zago e n
  have noA:∀{b:Addr}{o:Obj}{es:Array DictEntry}{ep:Nat},s₁.heap.get? b=some o->o.data=.dict es ep->H b=none:=λ{b o es ep} e d=>by
   cases q:H b with
   | none=>rfl
   | some u=>
    have e':b=a:=hA b (by rw[q];simp)
    subst e'
    rw[ha]at e;cases e
    have d':Data.seq vs.toArray _=Data.dict es ep:=d
    cases d'
  have nsK:∀{b:Addr}{m:Str->Option Value},s₁.heap.Ns b m->(hidT s₁.heap H).Ns b m:=λ{b m} ⟨o,es,ep,e,d,r⟩=>⟨o,es,ep,base_of e (noA e d),d,r⟩
  have hKb:K.In (hidT s₁.heap H):=λb o e=>base_of (KX b o e) (by
   cases q:H b with
   | none=>rfl
   | some u=>
    have e':b=a:=hA b (by rw[q];simp)
    subst e'
    rw[hK (by rw[q];simp)]at e;cases e)
  have hM:Mod K mg (hidT s₁.heap H):=⟨hKb,nsK hns,⟨mb,nsK hb,hbb⟩,let⟨mc,h1,h2⟩:=hlim;⟨mc,nsK h1,h2⟩⟩
  have e0:Env0 P w K mg (hidT s₁.heap H) callerA [] s₁ H:=⟨rfl,hM,λb o e=>zakk e,Nat.le_of_eq (zacu _ _),trivial,λb hb=>absurd (show b∈([]:List Addr)from hb) (by simp),hok,.of_eq hg⟩
  refine qBJ ((F _ hKb (nsK hns)).run callerA [] s₁ H ⟨[.ref a],[]⟩ [.ref a] [.ref a] _ _ hr e0 (hbind s₁ (.ref a)) (.cons rfl .nil) (hsp H hO hS)) λr s' h=>?_
  cases r with
  | error e=>exact(hCX H e s' h).elim
  | ok fl=>
   cases fl with
   | next=>exact False.elim h
   | brk=>exact False.elim h
   | cont=>exact False.elim h
   | ret u=>
    obtain⟨v,H',os,bare,un,hok',r',q⟩:=h
    have q':v=.bl true:=q
    subst q'
    obtain rfl:u=Value.bool true:=r'
    refine⟨rfl,OldK.of_keep λb o e=>?_,os,bare⟩
    cases q:H b with
    | none=>exact un.keep b o e q (by intro z;exact absurd (show b∈([]:List Addr)from z) (by simp)) (by simp)
    | some u=>
     rcases hO b with z|⟨ob,xs,z⟩
     ·rw[q]at z;cases z
     ·have z2:=un.frzs b ob _ z
      obtain⟨e1,_⟩:=hok b _ z
      obtain⟨e2,_⟩:=hok' b _ z2
      rw[e]at e1;cases e1
      exact e2
 cases hk:K.lookup a with
 | some o=>
  have e:=KX a o hk
  rw[ha]at e
  cases e
  refine core (λ_=>none) (λ_=>.inl rfl) (.inr ⟨_,vs.toArray,_,hk,rfl,rfl,rfl,by rw[qG,lenV];exact hl,by simpa using rv⟩) (λb u z=>by have z':(none:Option HO)=some u:=z;cases z') (λb z=>absurd rfl z) λz=>absurd rfl z
 | none=>
  refine core (λb=>if b=a then some (.frz {cls:=.type "list",data:=.seq vs.toArray} (.lst (ns.map V.int)))else none) (λb=>?_) (.inl (.inr ⟨{cls:=.type "list",data:=.seq vs.toArray},if_pos rfl⟩)) (λb u z=>?_) (λb z=>?_) λ_=>hk
  ·by_cases hb:b=a
   ·exact .inr ⟨_,_,if_pos hb⟩
   ·exact .inl (if_neg hb)
  ·by_cases hb:b=a
   ·have z':=(if_pos hb).symm.trans z
    cases z'
    subst hb
    exact⟨ha,by rw[qE];exact hl,vs,_,rv,ha⟩
   ·have z':=(if_neg hb).symm.trans z
    cases z'
  ·by_cases hb:b=a
   ·exact hb
   ·exact absurd (if_neg hb) z
theorem walk_of{l:PySem.W.OpenLaw}{n k:Nat}{q:Program}{loose:List Str}{XP:(Str->Option Value)->Heap->Prop}{YP:World->Heap->Prop}{d:DefRec}{K:Params->qC}{CX:World->CXT}{sp:World->Sp}{x:Str}
  (hn:l.most=some n)(hn2:n<=qY)(hdf:d.params.defaults=[])(hr:Room k callerA)
  (hY:∀(w:World) (h:Heap),YP w h->(K w.params).In h)
  (F:∀(w:World)(mg:Str->Option Value)(fa:Addr)(h:Heap),(K w.params).In h->h.Ns qU mg->mg d.name=some (.ref fa)->
   ∃fd:qAA,(∀(s:Shared)(u:Value),BindsTo s fd ⟨[u],[]⟩ [(x,u)])/\
    ∀base:Heap,(K w.params).In base->base.Ns qU mg->FnOk l.prog w (K w.params) mg base (CX w) k fa fd [x] (sp w))
  (hsp:∀(w:World) (H:Hp) (a:Addr) (ns:List Int),ns.length<=n->Only H->SqL (K w.params) H a (ns.map V.int)->sp w [.ref a] H (λv _=>v=.bl true) λ_ _ _=>False)
  (hCX:∀(w:World) (H:Hp) (s:Shared) (e:Value) (s':Shared),CX w [] H s (λ_ _ _=>False) e s'->False) :
  PySem.W.WalkO q loose XP YP l.row.toRowW d [] (λf vs=>PySem.call f vs):=by
 refine Att.attach_call hn hdf λw s₀ s₁ mg mb fa o pm cd doc a vs ns G Y ho hd hcd hmg hobj hints hlen hg=>?_
 have KX:=hY w _ Y
 obtain⟨fd,hb,hF⟩:=F w mg fa _ KX G.T.g hmg
 exact zahg KX G.T.g G.T.b G.T.builtins G.T.nolimit hg hobj hints (qAd hlen hn2) hr hF hb (λH hO hS=>hsp w H a ns hlen hO hS) λH e s'=>hCX w H s₁ e s'
end L2
namespace L2
open PySem PySem.Spec PyProof.Rows
noncomputable def zbp(s:Stmt):Arguments:=match s with
 | .FunctionDef _ a _ _ _ _ _ _ _ _=>a
 | _=>{posonlyargs:=[],args:=[],vararg:=none,kwonlyargs:=[],kw_defaults:=[],kwarg:=none,defaults:=[]}
noncomputable def zbm(s:Stmt):List Stmt:=match s with
 | .FunctionDef _ _ b _ _ _ _ _ _ _=>b
 | _=>[]
noncomputable def zar(s:Stmt):Scope:=match s with
 | .FunctionDef _ _ _ _ _ _ sc _ _ _=>sc
 | _=>{kind:=.function,names:=[],isGenerator:=false,isCoroutine:=false}
noncomputable abbrev CX0:CXT:=λ_ _ _ _ _ _=>False
noncomputable abbrev E0:XK:=λ_ _ _=>False
theorem zarn{X:Cx}:zadf CX0 X E0:=λ_ _ _ _ _ _ _ h=>h.elim
set_option genInjectivity false in
structure Fun(K:qC)(x qual:Str)(st:Stmt)(f:Addr)(fd:qAA):Prop where
 ex:∃(oc:Value)(od:Option Addr)(kV doc pm:Value)(an:Option Addr)(cdv ct:Value)(osl:Array (Option Value)),
  fd=qi x qual (zbp st) (zbm st) (zar st) .none kV doc pm an cdv ct/\K.lookup f=some ⟨oc,od,.func fd,osl⟩/\qf K cdv qual=true
 kp:qc K (.ref f)=true
section
variable{P:Program}{w:World}{K:qC}{mg:Str->Option Value}{base:Heap}
theorem Fun.ok{x qual:Str}{st:Stmt}{f:Addr}{fd:qAA}{N ps:List Str}{k:Nat}{sp:Sp}(F:Fun K x qual st f fd)(S:FnScope N ps (zar st))(len:∀vs H Q E,sp vs H Q E->vs.length=ps.length)
  (hbody:∀(cdv:Value)(A:Around)(outer:List Env)(s:Shared)(H:Hp)(vs:List V)(Q:VK)(E:XK),Room k (A.deeper (envOfC qual (zar st) s.heap.objs.size f cdv))->sp vs H Q E->
   ∃t,PSs (cxOf CX0 P w K mg base N qual (zar st) f cdv A outer s H E).nox (zbm st) t/\t {nx:=λ_ H'=>Q .non H',rt:=Q} (zhl N vs) H):FnOk P w K mg base CX0 (k+1) f fd ps sp:=by
 obtain⟨oc,od,kV,doc,pm,an,cdv,ct,osl,rfl,lk,hcd⟩:=F.ex
 refine zarj lk hcd S len λA outer s H vs Q E hr hsp=>?_
 obtain⟨t,h,q⟩:=hbody cdv A outer s H vs Q E hr hsp
 exact⟨t,h.nox,q⟩
theorem Fun.binds{x qual:Str}{st:Stmt}{f:Addr}{fd:qAA}{ps:List Str}(F:Fun K x qual st f fd)
  (h:∀(kV doc pm:Value) (an:Option Addr) (cdv ct:Value) (us:List Value),us.length=ps.length->bindArgs (qi x qual (zbp st) (zbm st) (zar st) .none kV doc pm an cdv ct) ⟨us,[]⟩=pure (ps.zip us)):zye K fd ps []:=by
 obtain⟨oc,od,kV,doc,pm,an,cdv,ct,osl,rfl,lk,hcd⟩:=F.ex
 exact .all (h kV doc pm an cdv ct)
theorem zdr{x qual:Str}{st:Stmt}{f:Addr}{oc:Value}{od an:Option Addr}{osl:Array (Option Value)}{kV doc pm cdv ct:Value}(l:K.lookup f=some ⟨oc,od,.func (qi x qual (zbp st) (zbm st) (zar st) .none kV doc pm an cdv ct),osl⟩)
  (c:qf K cdv qual=true) (k:qc K (.ref f)=true):Fun K x qual st f (qi x qual (zbp st) (zbm st) (zar st) .none kV doc pm an cdv ct):=⟨⟨oc,od,kV,doc,pm,an,cdv,ct,osl,rfl,l,c⟩,k⟩
end
theorem zhm{A:Around}{k:Nat}(hr:Room k A):A.units+1<cLine:=Nat.lt_of_le_of_lt (Nat.add_le_add_left (by decide:1<=64) _) hr.units
theorem iteF{A B:Prop}(h:B):if false=true then A else B:=by
 rw[if_neg qJ]
 exact h
theorem iteT{A B:Prop}(h:A):if true=true then A else B:=by
 rw[if_pos rfl]
 exact h
noncomputable def Same(H H':Hp):Prop:=∀b o,H b=some o->H' b=some o
theorem Same.refl(H:Hp):Same H H:=λ_ _ h=>h
theorem Same.trans{H H1 H2:Hp}(a:Same H H1)(b:Same H1 H2):Same H H2:=λc o h=>b c o (a c o h)
theorem Same.free{H H':Hp}(e:Same H H'){l:Addr}(h:H' l=Option.none):H l=Option.none:=by
 cases q:H l with
 | none=>rfl
 | some o=>
  rw[e l o q]at h
  cases h
section
variable{κ:Type}[DecidableEq κ]
theorem nd_snoc:∀{l:List κ}{k:κ},l.Nodup->¬k∈l->(l++[k]).Nodup
 | [],k,_,_=>by simp
 | a::r,k,h,hk=>by
  obtain⟨h1,h2⟩:=qAQ.mp h
  show(a::(r++[k])).Nodup
  refine qAQ.mpr ⟨λm=>?_,nd_snoc h2 λm=>hk (qa.mpr (Or.inr m))⟩
  rcases q9.mp m with q|q
  ·exact h1 q
  ·exact hk (qa.mpr (Or.inl (qAM.mp q).symm))
end
end L2
set_option maxHeartbeats 4000000
namespace L2
open PySem PySem.Spec PyProof.Rows
noncomputable def clos(cells:List (Str×Addr)):List (Str×NameKind)->List (Str×Addr)->List (Str×Addr)
 | [],acc=>acc
 | (n,k)::r,acc=>if k==.free then clos cells r ((n,(cells.lookup n).getD 0)::acc)else clos cells r acc
theorem ztn{cells:List (Str×Addr)}:∀{names:List (Str×NameKind)}{acc:List (Str×Addr)},(∀y∈names,y.2=.free->∃c,cells.lookup y.1=some c)->∀p∈clos cells names acc,p∈acc\/((p.1,NameKind.free)∈names/\cells.lookup p.1=some p.2)
 | [],acc,_,p,hp=>.inl hp
 | (n,k)::r,acc,h,p,hp=>by
  unfold clos at hp
  have hr:∀y∈r,y.2=.free->∃c,cells.lookup y.1=some c:=λy hy=>h y (qM _ hy)
  split at hp
  ·rename_i hk
   rcases ztn hr p hp with q|q
   ·rcases qa.mp q with q|q
    ·subst q
     have hk':k=.free:=by simpa using hk
     subst hk'
     obtain⟨c,hc⟩:=h (n,.free) qV rfl
     exact .inr ⟨qV,by show cells.lookup n=some ((cells.lookup n).getD 0);rw[hc];rfl⟩
    ·exact .inl q
   ·exact .inr ⟨qM _ q.1,q.2⟩
  ·rcases ztn hr p hp with q|q
   ·exact .inl q
   ·exact .inr ⟨qM _ q.1,q.2⟩
theorem zto{cells:List (Str×Addr)}:∀{names:List (Str×NameKind)}{acc:List (Str×Addr)},∀p∈acc,p∈clos cells names acc
 | [],acc,p,hp=>hp
 | (n,k)::r,acc,p,hp=>by
  unfold clos
  split
  ·exact zto p (qM _ hp)
  ·exact zto p hp
theorem ztp{cells:List (Str×Addr)}{x:Str}:∀{names:List (Str×NameKind)}{acc:List (Str×Addr)},(x,NameKind.free)∈names->∃c,(x,c)∈clos cells names acc
 | [],_,h=>by simp at h
 | (n,k)::r,acc,h=>by
  unfold clos
  rcases qa.mp h with e|h
  ·cases e
   rw[if_pos (show(NameKind.free==NameKind.free)=true by decide)]
   exact⟨_,zto _ qV⟩
  ·split
   ·exact ztp h
   ·exact ztp h
theorem zmf{α:Type}{x:Str}{c:α}:∀{l:List (Str×α)},(x,c)∈l->∃c',l.lookup x=some c'
 | [],h=>by simp at h
 | (k,v)::r,h=>by
  rw[qu]
  cases hb:x==k with
  | true=>exact⟨v,rfl⟩
  | false=>
   rcases qa.mp h with e|h
   ·cases e;simp at hb
   ·exact zmf h
theorem ztq{scope:Scope}{env:Env}(h:∀y∈scope.names,y.2=.free->∃c,env.cells.lookup y.1=some c):closureFor scope env=pure (clos env.cells scope.names []):=by
 unfold closureFor
 have key:∀(names:List (Str×NameKind))(acc:List (Str×Addr)),(∀y∈names,y.2=.free->∃c,env.cells.lookup y.1=some c)->
   (forIn names acc (λ(x:Str×NameKind) (r:List (Str×Addr))=>(if(x.2==.free)=true then(do let a <- cellOf env x.1;pure (ForInStep.yield ((x.1,a)::r)))else pure (ForInStep.yield r):Sem (ForInStep (List (Str×Addr))))))=pure (clos env.cells names acc):=by
  intro names
  induction names with
  | nil=>intro acc _;rfl
  | cons y r ih=>
   intro acc hy
   obtain⟨n,k⟩:=y
   have hr:=λy (hm:y∈r)=>hy y (qM _ hm)
   rw[List.forIn_cons]
   unfold clos
   cases hk:(k==NameKind.free)with
   | true=>
    have hk':k=.free:=by simpa using hk
    subst hk'
    obtain⟨c,hc⟩:=hy (n,.free) qV rfl
    have e1:cellOf env n=pure c:=by unfold cellOf;rw[hc]
    simp only[if_true]
    have hc':env.cells.lookup n=some c:=hc
    rw[e1,hc']
    simp only[pure_bind,qBZ]
    exact ih _ hr
   | false=>
    simp only[qAu,if_false,pure_bind]
    exact ih _ hr
 simpa using key scope.names [] h
theorem zgv:∀(names:List (Str×NameKind))(n:Nat)(acc:List (Str×Addr)),cellsFrom n names acc=cellsFrom n names []++acc
 | [],_,_=>rfl
 | (name,kind)::r,n,acc=>by
  unfold cellsFrom
  split
  ·rw[zgv r (n+1) ((name,n)::acc),zgv r (n+1) [(name,n)],qBW];rfl
  ·exact zgv r n acc
theorem zgw{x:Str}{c:Addr}:∀(names:List (Str×NameKind))(n:Nat)(acc:List (Str×Addr)),(x,c)∈cellsFrom n names acc->(x,c)∈acc\/(x,NameKind.cell)∈names
 | [],_,_,h=>.inl h
 | (name,kind)::r,n,acc,h=>by
  unfold cellsFrom at h
  split at h
  ·rename_i hk
   have hk':kind=.cell:=by simpa using hk
   subst hk'
   rcases zgw r _ _ h with q|q
   ·rcases qa.mp q with q|q
    ·cases q;exact .inr qV
    ·exact .inl q
   ·exact .inr (qM _ q)
  ·rcases zgw r _ _ h with q|q
   ·exact .inl q
   ·exact .inr (qM _ q)
theorem zlb{α:Type}{x:Str}:∀{l r:List (Str×α)},(l++r).lookup x=(l.lookup x).or (r.lookup x)
 | [],_=>by simp
 | (k,v)::l,r=>by
  rw[List.cons_append,qu,qu]
  cases x==k with
  | true=>rfl
  | false=>exact zlb
theorem zgf{env:Env}{x:Str}{k':NameKind}:∀{names:List (Str×NameKind)},
  (names.map λ(n,k)=>if(k==NameKind.free&&env.scope.kind==.function&&env.kindOf n==some .cell)then(n,NameKind.cell)else(n,k)).lookup x=some k'->
  ∃k,names.lookup x=some k/\(k'=k\/(k=.free/\k'=.cell))
 | [],h=>by simp at h
 | (n,k)::r,h=>by
  rw[qp]at h
  by_cases hc:(k==NameKind.free&&env.scope.kind==.function&&env.kindOf n==some .cell)=true
  ·simp only[hc,if_true]at h
   rw[qu]at h ⊢
   cases hx:x==n with
   | true=>
    rw[hx]at h
    have hk:k=.free:=by simp at hc;exact hc.1.1
    exact⟨k,rfl,.inr ⟨hk,(qS h).symm⟩⟩
   | false=>rw[hx]at h;exact zgf h
  ·simp only[hc,qAu,if_false]at h
   rw[qu]at h ⊢
   cases hx:x==n with
   | true=>rw[hx]at h;exact⟨k,rfl,.inl (qS h).symm⟩
   | false=>rw[hx]at h;exact zgf h
theorem zjw{env:Env}{x:Str}:∀{names:List (Str×NameKind)},names.lookup x=some .free->
  ((names.map λ(n,k)=>if(k==NameKind.free&&env.scope.kind==.function&&env.kindOf n==some .cell)then(n,NameKind.cell)else(n,k)).lookup x=some .free\/
   (names.map λ(n,k)=>if(k==NameKind.free&&env.scope.kind==.function&&env.kindOf n==some .cell)then(n,NameKind.cell)else(n,k)).lookup x=some .cell)
 | [],h=>by simp at h
 | (n,k)::r,h=>by
  rw[qp]
  rw[qu]at h
  by_cases hc:(k==NameKind.free&&env.scope.kind==.function&&env.kindOf n==some .cell)=true
  ·simp only[hc,if_true]
   rw[qu]
   cases hx:x==n with
   | true=>exact .inr rfl
   | false=>rw[hx]at h;exact zjw h
  ·simp only[hc,qAu,if_false]
   rw[qu]
   cases hx:x==n with
   | true=>rw[hx]at h;exact .inl h
   | false=>rw[hx]at h;exact zjw h
theorem zabm{M:Model}{A:Around}{E:Value->Shared->Prop}{s:Shared}{scope:Scope}{globals:Addr}{cl:List (Str×Addr)}{qual:Str}{env:Env}{Q:Env->Shared->Prop}
  (hQ:∀h',(∀b o,s.heap.get? b=some o->h'.get? b=some o)->h'.Ns s.heap.objs.size (λ_=>none)->(∀n c,(n,c)∈cellsFrom (s.heap.objs.size+1) scope.names []->h'.IsCell c none/\s.heap.objs.size+1<=c)->
   ((cellsFrom (s.heap.objs.size+1) scope.names []).Pairwise λx y=>x.2≠y.2)->
   Q {scope:=scope,locals:=s.heap.objs.size,globals:=globals,cells:=cellsFrom (s.heap.objs.size+1) scope.names []++cl,qual:=qual,func:=none,code:=env.code,frame:=env.frame,builtins:=env.builtins} {s with heap:=h'}) :
  wpAny M A (newFunctionEnv scope globals cl [] qual none .none (some env)) Q E s:=by
 simp only[newFunctionEnv,qCn,if_true]
 refine qB (wpAny_alloc ?_)
 refine qB (wpAny_layCells _ (λname kind cells=>by cases hkc:kind==NameKind.cell<;>simp[hkc]) _ _ _ _ ?_)
 have ok:=cellsFrom_ok scope.names (s.heap.push {cls:=.type "dict",data:=.dict #[]}) (s.heap.objs.size+1) [] ⟨λ_ _ hm=>(nomatch hm),List.Pairwise.nil⟩ (by rw[qBr];exact qN _)
 rw[qBr]at ok
 rw[show({s with heap:=s.heap.push {cls:=.type "dict",data:=.dict #[]}}:Shared).heap.objs.size=s.heap.objs.size+1 from qBr ..]
 rw[zgv]
 refine qB ?_
 refine qH (qH ?_)
 exact hQ _ (λb o e=>pushCells_keeps _ _ b o (qL _ e)) ((Heap.Ns.new s.heap (.type "dict")).keeps (pushCells_keeps _ _)) ok.empty ok.apart
noncomputable def cxComp(X:Cx)(scope:Scope)(N' own:List Str)(cl:List (Str×Addr))(C:Addr)(s:Shared)(H:Hp)(fp:List Addr):Cx:=
 {X with N:=N',s₀:=s,H₀:=H,env:=compEnvC scope cl C X.env,outer:=X.stack,stack:=X.stack,ex:=fp,fn:=λx=>own.contains x,pn:=[],xe:=λ_ _=>False}
structure CompOk(X:Cx)(scope:Scope)(N' own:List Str)(fr:List Nat):Prop where
 kind:scope.kind=.function
 names:∀y∈scope.names,scope.names.lookup y.1=some y.2
 up:∀y∈scope.names,y.2=.free->(X.env.kindOf y.1=some .cell\/X.env.kindOf y.1=some .free)
 nm:N'=own++fr.map (λj=>X.N.getD j Str.empty)
 fr:∀j∈fr,j<X.N.length/\scope.names.lookup (X.N.getD j Str.empty)=some .free
 own:∀x∈own,scope.names.lookup x=some .local\/scope.names.lookup x=some .cell
noncomputable def tau(own:List Str)(fr:List Nat)(σ:St):St:=own.map (λ_=>none)++fr.map (λj=>σ.getD j none)
section
variable{X:Cx}{pins:List (Addr×Obj)}{σ:St}{H:Hp}{s:Shared}{scope:Scope}{N' own:List Str}{fr:List Nat}
theorem zso(c:CompOk X scope N' own fr)(ok:X.Ok):∀y∈scope.names,y.2=.free->∃a,X.env.cells.lookup y.1=some a:=λy hy e=>ok.has y.1 (c.up y hy e)
theorem zahh{fp:List Addr}{h':Heap}(c:CompOk X scope N' own fr)(I:Inv X pins σ H s)
  (hf:∀b∈fp,FpOk X pins H b)(ho:∀b∈fp,∃o,s.heap.get? b=some o/\∀v,o.data≠.cell v)
  (keep:∀b o,s.heap.get? b=some o->h'.get? b=some o)(ns:h'.Ns s.heap.objs.size (λ_=>none))
  (cells:∀n c,(n,c)∈cellsFrom (s.heap.objs.size+1) scope.names []->h'.IsCell c none/\s.heap.objs.size+1<=c)
  (apart:(cellsFrom (s.heap.objs.size+1) scope.names []).Pairwise λx y=>x.2≠y.2) :
  Inv (cxComp X scope N' own (cellsFrom (s.heap.objs.size+1) scope.names []++clos X.env.cells scope.names []) s.heap.objs.size s H fp) [] (tau own fr σ) H {s with heap:=h'}:=by
 have found:=zso c I.ok
 have clm:∀x a,(x,a)∈clos X.env.cells scope.names []->(x,NameKind.free)∈scope.names/\X.env.cells.lookup x=some a:=λx a hm=>by
  rcases ztn found (x,a) hm with q|q
  ·simp at q
  ·exact q
 have look:∀x a,(cellsFrom (s.heap.objs.size+1) scope.names []++clos X.env.cells scope.names []).lookup x=some a->
   ((x,a)∈cellsFrom (s.heap.objs.size+1) scope.names []/\(x,NameKind.cell)∈scope.names)\/((x,NameKind.free)∈scope.names/\X.env.cells.lookup x=some a):=λx a e=>by
  rw[zlb]at e
  cases q:(cellsFrom (s.heap.objs.size+1) scope.names []).lookup x with
  | some b=>
   rw[q]at e
   cases e
   have hm:=qAF q
   rcases zgw _ _ _ hm with z|z
   ·simp at z
   ·exact .inl ⟨hm,z⟩
  | none=>
   rw[q]at e
   exact .inr (clm x a (qAF e))
 have lookF:∀x a,(x,NameKind.free)∈scope.names->X.env.cells.lookup x=some a->(cellsFrom (s.heap.objs.size+1) scope.names []++clos X.env.cells scope.names []).lookup x=some a:=λx a hx e=>by
  rw[zlb]
  have q:(cellsFrom (s.heap.objs.size+1) scope.names []).lookup x=none:=by
   cases q:(cellsFrom (s.heap.objs.size+1) scope.names []).lookup x with
   | none=>rfl
   | some b=>
    rcases zgw _ _ _ (qAF q)with z|z
    ·simp at z
    ·have h1:=c.names _ hx
     have h2:=c.names _ z
     rw[h1]at h2
     cases h2
  rw[q]
  obtain⟨d,hd⟩:=ztp (cells:=X.env.cells) (acc:=[]) hx
  obtain⟨d',hd'⟩:=zmf hd
  have:=(clm x d' (qAF hd')).2
  rw[e]at this
  cases this
  exact hd'
 have below:∀b o,s.heap.get? b=some o->b<s.heap.objs.size:=λb o e=>qX e
 have cold:∀x a,X.env.cells.lookup x=some a->a<s.heap.objs.size:=λx a e=>let⟨v,q⟩:=I.cell x a e;q.lt
 refine⟨⟨I.ok.mod,c.kind,I.ok.glob,I.ok.blt,qN _,?inj,?has,?cab,I.ok.hd,I.ok.frames,.inl rfl,?exf,I.bs,qAd I.ok.bsz I.sz,?noex,?exfs,I.stack,I.stkFree⟩,
  rfl,I.bare,Un.kept keep,⟨_,ns,?loc⟩,?cell,I.hok.fresh (qN _),?freeC,?pin,I.hok.kept keep,?len⟩
 case inj=>
  intro x y a h1 h2
  rcases look x a h1 with⟨m1,k1⟩|⟨k1,e1⟩<;>rcases look y a h2 with⟨m2,k2⟩|⟨k2,e2⟩
  ·exact name_of_addr apart m1 m2
  ·exact absurd (qg (cold y a e2) (qB4 (cells x a m1).2)) (qAk _)
  ·exact absurd (qg (cold x a e1) (qB4 (cells y a m2).2)) (qAk _)
  ·exact I.ok.inj x y a e1 e2
 case has=>
  intro x hx
  have hx':(∃k,scope.names.lookup x=some k/\(k=.cell\/k=.free)):=by
   rcases hx with hx|hx
   ·obtain⟨k,e,q⟩:=zgf (env:=X.env) (names:=scope.names) hx
    rcases q with q|⟨q,_⟩
    ·exact⟨k,e,.inl q.symm⟩
    ·exact⟨k,e,.inr q⟩
   ·obtain⟨k,e,q⟩:=zgf (env:=X.env) (names:=scope.names) hx
    rcases q with q|⟨q,_⟩
    ·exact⟨k,e,.inr q.symm⟩
    ·exact⟨k,e,.inr q⟩
  obtain⟨k,e,q⟩:=hx'
  show ∃a,(cellsFrom (s.heap.objs.size+1) scope.names []++clos X.env.cells scope.names []).lookup x=some a
  rcases q with rfl|rfl
  ·obtain⟨a,ha⟩:=ztj (n:=s.heap.objs.size+1) e
   exact⟨a,by rw[zlb,ha];rfl⟩
  ·obtain⟨a,ha⟩:=found _ (qAF e) rfl
   exact⟨a,lookF x a (qAF e) ha⟩
 case cab=>
  intro x a hx e
  have hx:own.contains x=true:=hx
  have hx':x∈own:=by simpa using hx
  rcases look x a e with⟨m1,_⟩|⟨k1,_⟩
  ·have:=(cells x a m1).2
   show s.heap.objs.size<=a
   omega
  ·have h1:=c.names _ k1
   rcases c.own x hx' with h2|h2
   ·rw[h1]at h2;cases h2
   ·rw[h1]at h2;cases h2
 case exf=>
  intro b hb
  obtain⟨o,e,d⟩:=ho b hb
  refine⟨qAB (below b o e),λx a q z=>?_⟩
  subst z
  rcases look x a q with⟨m1,_⟩|⟨k1,e1⟩
  ·exact absurd (qg (below a o e) (qB4 (cells x a m1).2)) (qAk _)
  ·obtain⟨v,o',e',d'⟩:=I.cell x a e1
   rw[e]at e'
   cases e'
   exact d v d'
 case noex=>
  intro b o e hb
  rcases(hf b hb).2.2.2.1 with z|z
  ·exact I.ok.noex b o e z
  ·exact absurd (qg (qg (qX e) I.ok.bsz) z) (qAk _)
 case exfs=>
  intro b hb z
  rcases qa.mp (I.stkSub b z)with q|q
  ·exact(hf b hb).2.1 q
  ·exact(hf b hb).2.2.1 q
 case loc=>
  intro i x v h1 h2 h3
  have h1:N'[i]?=some x:=h1
  rw[c.nm]at h1
  unfold tau at h2
  by_cases hi:i<own.length
  ·rw[qq (by simpa using hi),qh]at h2
   cases q:own[i]? with
   | none=>rw[q]at h2;cases h2
   | some z=>rw[q]at h2;cases h2
  ·rw[qt (by simpa using hi),qh,qE]at h2
   rw[qt (by simpa using hi),qh]at h1
   cases q:fr[i - own.length]? with
   | none=>rw[q]at h2;cases h2
   | some j=>
    rw[q]at h1 h2
    have e1:X.N.getD j Str.empty=x:=qS h1
    have e2:σ.getD j none=some v:=qS h2
    obtain⟨hj,hfree⟩:=c.fr j (qBI q)
    rw[e1]at hfree
    have hNj:X.N[j]?=some x:=by
     rw[<- e1,qQ,qD hj];rfl
    have hσj:σ[j]?=some (some v):=by
     rw[qQ]at e2
     cases z:σ[j]? with
     | none=>rw[z]at e2;cases e2
     | some w=>rw[z]at e2;rw[show w=some v from e2]
    have hmem:(x,NameKind.free)∈scope.names:=qAF hfree
    have hup:=c.up _ hmem rfl
    obtain⟨m,hn,hl⟩:=I.loc
    obtain⟨u,ru,lk⟩:=hl j x v hNj hσj (by rcases hup with z|z;exact .inr (.inl z);exact .inr (.inr z))
    refine⟨u,ru,.inr ⟨?_,?_⟩⟩
    ·rcases zjw (env:=X.env) (names:=scope.names) hfree with z|z
     ·exact .inr z
     ·exact .inl z
    ·rcases lk with⟨k1,_⟩|⟨_,a,ha,hc⟩
     ·rcases hup with z|z
      ·rw[show X.env.kindOf x=some .cell from z]at k1;cases k1
      ·rw[show X.env.kindOf x=some .free from z]at k1;cases k1
     ·exact⟨a,lookF x a hmem ha,hc.keeps keep⟩
 case cell=>
  intro x a e
  rcases look x a e with⟨m1,_⟩|⟨k1,e1⟩
  ·exact⟨_,(cells x a m1).1⟩
  ·obtain⟨v,q⟩:=I.cell x a e1
   exact⟨v,q.keeps keep⟩
 case freeC=>
  intro x a e
  rcases look x a e with⟨m1,_⟩|⟨k1,e1⟩
  ·exact I.hok.fresh (by have:=(cells x a m1).2;omega)
  ·exact I.freeC x a e1
 case pin=>intro p hp;exact absurd (show p∈([]:List (Addr×Obj))from hp) (by simp)
 case len=>
  show(tau own fr σ).length=N'.length
  rw[c.nm];unfold tau;simp
end
noncomputable abbrev TM:=St->Hp->(St->Hp->Prop)->Prop
noncomputable def PM(X:Cx)(act:Sem Unit)(t:TM):Prop:=
 ∀(pins:List (Addr×Obj))(s:Shared)(σ:St)(H:Hp)(Q:St->Hp->Prop),Inv X pins σ H s->t σ H Q->wpAny (model X.prog X.w) X.A act (λ_ s'=>∃σ' H',Inv X pins σ' H' s'/\Q σ' H') X.xe s
noncomputable def PF(X:Cx)(ifs:List Expr)(t:TT):Prop:=
 ∀(pins:List (Addr×Obj))(s:Shared)(σ:St)(H:Hp)(Q:Bool->Hp->Prop),Inv X pins σ H s->t σ H Q->
  wpAny (model X.prog X.w) X.A (forIn ifs true λc r=>if r=true then do let ok <- isTrue c X.env (eval c X.env);pure (ForInStep.yield ok)else pure (ForInStep.yield r)) (TP X pins σ Q) X.xe s
noncomputable def tAll:TT:=λ_ H Q=>Q true H
section
variable{X:Cx}
theorem zaoz:PF X [] tAll:=λ_ s σ H Q I h=>wpAny_tests_nil ⟨H,I,h⟩
theorem zapa{c:Expr}{t:TT}(h:PT X c t):PF X [c] t:=λpins s σ H Q I q=>wpAny_tests_one (h pins s σ H Q I q)
noncomputable def zadt(p:Addr)(te:TE):TM:=λσ H Q=>te σ H λv H1=>∃ys,H1 p=some (.lst ys)/\ys.length<qY/\Q σ (upd H1 p (.lst (ys++[v])))
theorem zadu{elt:Expr}{te:TE}{p:Addr}(h:PE X elt te):PM X (do let _ <- call (.builtin "list.append") [.ref p,<- eval elt X.env]) (zadt p te):=by
 intro pins s σ H Q I q
 refine qB (thn (h pins s σ H _ I q) λu s1 ⟨v,H1,I1,r,ys,hp,hz,q1⟩=>?_)
 refine qB (thn (zfc pins s1 σ H1 (.ref p) [v] (.ref p) [u] (λ_ H2=>Q σ H2) I1 rfl (.cons r .nil) ⟨p,ys,v,rfl,rfl,hp,hz,q1⟩) λ_ s2 ⟨_,H2,I2,_,q2⟩=>?_)
 exact qH ⟨σ,H2,I2,q2⟩
noncomputable def zahi(J:It)(g:TG)(tt:TT)(tm:TM):TM:=λσ H Q=>∃W:Nat->Nat->St->Hp->Prop,(∃m,W 0 m σ H)/\∀i m σ H,W i m σ H->
 (J.stop i H/\Q σ H)\/(J.go i H/\∃N:St->Hp->Prop,(∀σ' H',N σ' H'->∃m',m'<m/\W (i+1) m' σ' H')/\∀x H',J.yld i H x H'->g x σ H' λσ2 H2=>tt σ2 H2 λb H3=>if b=true then tm σ2 H3 N else N σ2 H3)
theorem zqf{elt0:Expr}{gens:List Comprehension}{scope:Scope}{cpos:Pos}{depth:Nat}{target:Expr}{ifs:List Expr}{emit:Sem Unit}{acc:Value}{ip:Pos}{it:Addr}{fp:List Addr}{tn:Nat->Heap->Prop}{J:It}{g:TG}{tt:TT}{tm:TM}{pins:List (Addr×Obj)}{σ:St}{H:Hp}{s:Shared}{Q:St->Hp->Prop}
  (hx:X.xe=λ_ _=>False)(hc:X.calm=true)
  (eq:compTurn (.ListComp elt0 gens scope cpos) depth (.ref it) acc X.env=(do
   standAt ip
   match <- pyNext (.ref it)with
   | none=>pure (.done .next)
   | some v=>
    letOwnedTupleGo target (.ref it) v
    assign target X.env v
    let mut ok:=true
    for c in ifs do
     if ok then ok <- isTrue c X.env (eval c X.env)
    if ok then emit
    again (.compLoop (.ListComp elt0 gens scope cpos) depth (.ref it) acc X.env)))
  (T:Turn X.prog X.w X.K target J fp it tn)(hg:PG X target g)(ht:PF X ifs tt)(hm:PM X emit tm)
  (I:Inv X pins σ H s)(st:tn 0 s.heap)(hf:∀b∈fp,FpOk X pins H b)(h:zahi J g tt tm σ H Q) :
  codeAny (model X.prog X.w) X.A (.compLoop (.ListComp elt0 gens scope cpos) depth (.ref it) acc X.env) (λr s'=>r=.ok .next/\∃σ' H',Inv X pins σ' H' s'/\Q σ' H') s:=by
 obtain⟨W,⟨m0,w0⟩,turn⟩:=h
 have stat:∀{H':Hp},(∀b∈fp,H' b=none)->∀b∈fp,FpOk X pins H' b:=λhn b hb=>⟨hn b hb,(hf b hb).2⟩
 have xe:∀{α:Type}{m:Sem α}{Q':α->Shared->Prop}{E:Value->Shared->Prop}{s:Shared},wpAny (model X.prog X.w) X.A m Q' X.xe s->wpAny (model X.prog X.w) X.A m Q' E s:=λq=>qBi q (λ_ _ z=>z) λ_ _ z=>by rw[hx]at z;exact z.elim
 refine codeAny_loop rfl (λn s'=>∃i σ' H',Inv X pins σ' H' s'/\tn i s'.heap/\(∀b∈fp,H' b=none)/\W i n σ' H') ?_ m0 ⟨0,σ,H,I,st,λb hb=>(hf b hb).1,w0⟩
 rintro n s3 ⟨i,σ3,H3,I3,st3,fr3,w3⟩
 show wpAny _ X.A ((compTurn (.ListComp elt0 gens scope cpos) depth (.ref it) acc X.env).onRaise (λx=>do noteFrame x X.env;theTreesLotGoes x)) _ _ s3
 refine wpAny_noted ?_
 rw[eq]
 refine qB (qBn (qB ?_))
 rcases turn i n σ3 H3 w3 with⟨stop,qn⟩|⟨go,N,hN,step⟩
 ·refine thn (T.done X rfl rfl rfl hc i pins s3 σ3 H3 _ I3 (stat fr3) st3 stop) λr s4 ⟨hr,I4⟩=>?_
  subst hr
  exact qH ⟨rfl,σ3,H3,I4,qn⟩
 ·refine thn (T.item X rfl rfl rfl hc i pins s3 σ3 H3 _ I3 (stat fr3) st3 go) λr s4 ⟨u,hr,h4⟩=>?_
  subst hr
  refine qB (thn h4 λ_ s5 ⟨x,H5,I5,r5,y5,st5,fr5⟩=>?_)
  have I5':=I5.pinned (stat fr5) (T.obj _ _ st5)
  refine qB (xe (thn (hg _ s5 σ3 H5 x u _ I5' r5 (step x H5 y5)) λ_ s6 ⟨σ6,H6,I6,q6⟩=>?_))
  have again:∀{σ7:St}{H7:Hp}{s7:Shared},Inv X (pins++zvg fp s5.heap) σ7 H7 s7->N σ7 H7->∃m,m<n/\∃i σ' H',Inv X pins σ' H' s7/\tn i s7.heap/\(∀b∈fp,H' b=none)/\W i m σ' H':=λ{σ7 H7 s7} I7 n7=>by
   obtain⟨m',hm,w7⟩:=hN σ7 H7 n7
   refine⟨m',hm,i+1,σ7,H7,I7.unpinned,T.keep _ _ _ st5 λb hb o e=>(I7.pin (b,o) (ql _ (ql _ (zkz hb e)))).1,λb hb=>?_,w7⟩
   obtain⟨o,e,d⟩:=T.obj _ _ st5 b hb
   exact(I7.pin (b,o) (ql _ (ql _ (zkz hb e)))).2.1
  refine qB (xe (thn (ht _ s6 σ6 H6 _ I6 q6) λok s7 ⟨H7,I7,q7⟩=>?_))
  cases ok with
  | false=>
   rw[if_neg (by decide)]at q7
   exact qH ⟨rfl,again I7 q7⟩
  | true=>
   rw[if_pos rfl]at q7
   refine qB (xe (thn (hm _ s7 σ6 H7 _ I7 q7) λ_ s8 ⟨σ8,H8,I8,q8⟩=>?_))
   exact qH ⟨rfl,again I8 q8⟩
end
section
variable{X:Cx}{pins:List (Addr×Obj)}{σ:St}{H:Hp}{s:Shared}{scope:Scope}{N' own:List Str}{fr:List Nat}
theorem zabn{elt0 target iter:Expr}{ifs:List Expr}{rest:List Comprehension}{cpos:Pos}{g:TG}{tt:TT}{tm:Addr->TM}{emit:Value->Env->Sem Unit}{it:Addr}{fp:List Addr}{tn:Nat->Heap->Prop}{J:It}{Q:VK}{E:Value->Shared->Prop}{RR:Value->Addr->Result->Shared->Prop}
  (c:CompOk X scope N' own fr)(hc:X.calm=true)
  (eq:∀it acc env,compTurn (.ListComp elt0 (⟨target,iter,ifs,0⟩::rest) scope cpos) 0 it acc env=(do
   standAt iter.pos
   match <- pyNext it with
   | none=>pure (.done .next)
   | some v=>
    letOwnedTupleGo target it v
    assign target env v
    let mut ok:=true
    for c in ifs do
     if ok then ok <- isTrue c env (eval c env)
    if ok then emit acc env
    again (.compLoop (.ListComp elt0 (⟨target,iter,ifs,0⟩::rest) scope cpos) 0 it acc env)))
  (T:Turn X.prog X.w X.K target J fp it tn)
  (hb:∀(cl:List (Str×Addr)) (C:Addr) (s:Shared) (H:Hp) (fp:List Addr) (p:Addr),PG (cxComp X scope N' own cl C s H fp) target g/\PF (cxComp X scope N' own cl C s H fp) ifs tt/\PM (cxComp X scope N' own cl C s H fp) (emit (.ref p) (compEnvC scope cl C X.env)) (tm p))
  (I:Inv X pins σ H s)(st:tn 0 s.heap)(hf:∀b∈fp,FpOk X pins H b)
  (h:∀p,H p=none->zahi J g tt (tm p) (tau own fr σ) (upd H p (.lst [])) (λ_ H'=>Q (.ref p) H'))
  (hRR:∀(p C:Addr) (m:Str->Option Value) (H':Hp) (s':Shared),Inv X pins σ H' s'->s'.heap.Ns C m->FpOk X pins H' C->Q (.ref p) H'->RR (.ref p) C (.ok .next) s') :
  wpAny (model X.prog X.w) X.A (newList []) (λacc s₃=>wpAny (model X.prog X.w) X.A (newFunctionEnv scope X.env.globals (clos X.env.cells scope.names []) [] X.env.qual none .none (some X.env)) (λcenv s₄=>
   codeAny (model X.prog X.w) X.A (.compStart (.ListComp elt0 (⟨target,iter,ifs,0⟩::rest) scope cpos) 0 (.ref it) acc {cenv with scope:=relabel scope X.env}) (RR acc cenv.locals) s₄) E s₃) E s:=by
 refine qAn ?_
 have I3:Inv X pins σ (upd H s.heap.objs.size (.lst [])) {s with heap:=s.heap.push {cls:=.type "list",dict:=none,data:=.seq ([]:List Value).toArray}}:=I.lnew (t':=s.toks) .nil (qAf _)
 have hn0:H s.heap.objs.size=none:=I.hok.fresh (qN _)
 generalize e3:({s with heap:=s.heap.push {cls:=.type "list",dict:=none,data:=.seq ([]:List Value).toArray}}:Shared)=s3 at I3 ⊢
 have k3:∀b o,s.heap.get? b=some o->s3.heap.get? b=some o:=λb o e=>by rw[<- e3];exact qL _ e
 have hne:∀b∈fp,b≠s.heap.objs.size:=λb hb=>by
  obtain⟨o,e,_⟩:=T.obj _ _ st b hb
  exact qAB (qX e)
 have hf3:∀b∈fp,FpOk X pins (upd H s.heap.objs.size (.lst [])) b:=λb hb=>⟨by rw[zbn (hne b hb)];exact(hf b hb).1,(hf b hb).2⟩
 have st3:tn 0 s3.heap:=T.keep _ _ _ st λb _ o e=>k3 b o e
 refine zabm λh' keep ns cells apart=>?_
 have I4:=zahh c I3 hf3 (T.obj _ _ st3) keep ns cells apart
 have st4:tn 0 h':=T.keep _ _ _ st3 λb _ o e=>keep b o e
 obtain⟨hg,ht,hm⟩:=hb (cellsFrom (s3.heap.objs.size+1) scope.names []++clos X.env.cells scope.names []) s3.heap.objs.size s3 (upd H s.heap.objs.size (.lst [])) fp s.heap.objs.size
 have hf4:∀b∈fp,FpOk (cxComp X scope N' own (cellsFrom (s3.heap.objs.size+1) scope.names []++clos X.env.cells scope.names []) s3.heap.objs.size s3 (upd H s.heap.objs.size (.lst [])) fp) [] (upd H s.heap.objs.size (.lst [])) b:=λb hb=>
  ⟨(hf3 b hb).1,(I4.ok.exf b hb).1,I4.ok.exfs b hb,.inl hb,(I4.ok.exf b hb).2,λp hp=>absurd (show p∈([]:List (Addr×Obj))from hp) (by simp)⟩
 have loop:codeAny (model X.prog X.w) X.A (.compLoop (.ListComp elt0 (⟨target,iter,ifs,0⟩::rest) scope cpos) 0 (.ref it) (.ref s.heap.objs.size) (compEnvC scope (cellsFrom (s3.heap.objs.size+1) scope.names []++clos X.env.cells scope.names []) s3.heap.objs.size X.env)) (RR (.ref s.heap.objs.size) s3.heap.objs.size) {s3 with heap:=h'}:=by
  refine qBJ (zqf (X:=cxComp X scope N' own (cellsFrom (s3.heap.objs.size+1) scope.names []++clos X.env.cells scope.names []) s3.heap.objs.size s3 (upd H s.heap.objs.size (.lst [])) fp) (pins:=[]) rfl hc (eq _ _ _) T hg ht hm I4 st4 hf4 (h _ hn0)) λr s5 hr=>?_
  obtain⟨rfl,σ5,H5,I5,q5⟩:=hr
  obtain⟨m,hn,_⟩:=id I5.loc
  have u5:Un (frs X.stack) fp (upd H s.heap.objs.size (.lst [])) H5 s3.heap s5.heap:=I5.base
  have hok5:HOk X.prog X.w H5 s5.heap:=I5.hok
  have os5:s5.os=s3.os:=I5.os
  have bare5:=I5.bare
  have free5:H5 s3.heap.objs.size=none:=I5.free
  have hn:s5.heap.Ns s3.heap.objs.size m:=hn
  clear I5
  obtain⟨hh,gg,dd,tk,os'⟩:=s5
  obtain rfl:os'=s3.os:=os5
  have I6:Inv X pins σ H5 {s3 with heap:=hh,gens:=gg,drawn:=dd,toks:=tk}:=I3.call (ch:=fp) u5 hok5 bare5 λb hb=>⟨(hf3 b hb).2.2.2.1,(hf3 b hb).2.1,(hf3 b hb).2.2.2.2.1,(hf3 b hb).2.2.2.2.2⟩
  exact hRR _ _ m H5 _ I6 hn (I3.fpOk (qN _) free5) q5
 exact codeAny_compStart_list loop (T.self _ 0 _ _ _ st4 loop)
noncomputable def zalm(wi:TI)(g:TG)(tt:TT)(tm:Addr->TM)(own:List Str)(fr:List Nat):TE:=λσ H Q=>wi σ H λJ H1=>∀p,H1 p=none->zahi J g tt (tm p) (tau own fr σ) (upd H1 p (.lst [])) (λ_ H'=>Q (.ref p) H')
theorem zaad{elt0 target iter:Expr}{ifs:List Expr}{rest:List Comprehension}{cpos:Pos}{wi:TI}{g:TG}{tt:TT}{tm:Addr->TM}{emit:Value->Env->Sem Unit}(c:CompOk X scope N' own fr)(hc:X.calm=true)
  (eq:∀it acc env,compTurn (.ListComp elt0 (⟨target,iter,ifs,0⟩::rest) scope cpos) 0 it acc env=(do
   standAt iter.pos
   match <- pyNext it with
   | none=>pure (.done .next)
   | some v=>
    letOwnedTupleGo target it v
    assign target env v
    let mut ok:=true
    for c in ifs do
     if ok then ok <- isTrue c env (eval c env)
    if ok then emit acc env
    again (.compLoop (.ListComp elt0 (⟨target,iter,ifs,0⟩::rest) scope cpos) 0 it acc env)))
  (hi:PI X target iter wi)
  (hb:∀(cl:List (Str×Addr)) (C:Addr) (s:Shared) (H:Hp) (fp:List Addr) (p:Addr),PG (cxComp X scope N' own cl C s H fp) target g/\PF (cxComp X scope N' own cl C s H fp) ifs tt/\PM (cxComp X scope N' own cl C s H fp) (emit (.ref p) (compEnvC scope cl C X.env)) (tm p))
  (hs:∀x,foldedSetIterable iter X.env x=pure x:=by intro _;rfl) :
  PE X (.ListComp elt0 (⟨target,iter,ifs,0⟩::rest) scope cpos) (zalm wi g tt tm own fr):=by
 intro pins s σ H Q I h
 rw[eval_ListComp]
 refine wpAny_comprehension_free (use:=none) rfl hs (ztq (zso c I.ok)) c.kind (λy hy e=>(c.names y hy).trans (by rw[e])) ?_
 refine thn (hi pins s σ H _ I h) λv s1 h1=>thn h1 λitv s2 h2=>?_
 obtain⟨it,fp,tn,J,H2,e,I2,T,st2,f2,q⟩:=h2
 subst e
 refine zabn (Q:=Q) c hc eq T hb I2 st2 f2 q λp C m H' s' I' hn hC q'=>?_
 exact⟨m,hn,λh' sb=>⟨.ref p,H',I'.turned (t':=s'.toks) (λb o hb e=>(sb.2 b hb).trans e) hC.1 hC.2.1 hC.2.2.2.1 hC.2.2.2.2.1 hC.2.2.2.2.2,rfl,q'⟩⟩
end
section
variable{X:Cx}
section
variable{scope:Scope}{N' own:List Str}{fr:List Nat}{elt target iter:Expr}{ifs:List Expr}{cpos:Pos}{wi:TI}{g:TG}{tt:TT}{te:TE}
noncomputable def tComp1(wi:TI)(g:TG)(tt:TT)(te:TE)(own:List Str)(fr:List Nat):TE:=zalm wi g tt (λp=>zadt p te) own fr
theorem zahj(c:CompOk X scope N' own fr)(hc:X.calm=true)(hi:PI X target iter wi)
  (hb:∀(cl:List (Str×Addr)) (C:Addr) (s:Shared) (H:Hp) (fp:List Addr),PG (cxComp X scope N' own cl C s H fp) target g/\PF (cxComp X scope N' own cl C s H fp) ifs tt/\PE (cxComp X scope N' own cl C s H fp) elt te)
  (hs:∀x,foldedSetIterable iter X.env x=pure x:=by intro _;rfl):PE X (.ListComp elt [⟨target,iter,ifs,0⟩] scope cpos) (tComp1 wi g tt te own fr):=
 zaad (emit:=λacc env=>do let _ <- call (.builtin "list.append") [acc,<- eval elt env]) c hc (λ_ _ _=>rfl) hi
  (λcl C s H fp p=>⟨(hb cl C s H fp).1,(hb cl C s H fp).2.1,zadu (hb cl C s H fp).2.2⟩) hs
end
noncomputable def zaro:R2:=λx y H Q=>∃z n,x=.str z/\y=.int n/\z.length<=1000/\-1000<=n/\n<=1000/\Q (.str (Txt.mul z n)) H
theorem zaln:OpR X (binaryOp .Mult) zaro:=by
 intro pins s σ H x y v u Q I rx ry h
 obtain⟨z,n,rfl,rfl,h1,h2,h3,q⟩:=h
 obtain⟨t,rfl⟩:=rx
 obtain⟨t',rfl⟩:=ry
 exact SB.mul (mulOk_of 1000 1000 h1 (by omega) (by omega) (by decide) (by decide)) λt' k=>⟨.str (Txt.mul z n),H,I.tok _,⟨_,rfl⟩,q⟩
noncomputable def rSlS:V->Option Int->Option Int->Hp->VK->Prop:=λx lo hi H Q=>∃z,x=.str z/\z.length<=qY/\Q (.str (Txt.slice z lo hi)) H
theorem zapb:SlR X rSlS:=by
 intro pins s σ H x v vl vu lo hi sl Q I rx hs pl pu h
 obtain⟨z,rfl,hz,q⟩:=h
 obtain⟨t,rfl⟩:=rx
 refine⟨"str",_,F.slot_str_getitem.lookup,qBj _ _ _,?_⟩
 have fin:∀t' k,EP X pins σ Q (.str (Txt.slice z lo hi) t') {s with toks:=k}:=λt' k=>⟨.str (Txt.slice z lo hi),H,I.tok _,⟨_,rfl⟩,q⟩
 have fz:(Txt.slice z lo hi).length<=qY:=qAd (Txt.slice_le z _ _) hz
 cases pl with
 | none=>cases pu with
  | none=>exact qA9 (l:=none) (u:=none) (st:=none) hs rfl (qBw ⟨fz,fin⟩)
  | int j tj=>exact qA9 (l:=none) (u:=some (j,tj)) (st:=none) hs rfl (qBw ⟨fz,fin⟩)
 | int i ti=>cases pu with
  | none=>exact qA9 (l:=some (i,ti)) (u:=none) (st:=none) hs rfl (qBw ⟨fz,fin⟩)
  | int j tj=>exact qA9 (l:=some (i,ti)) (u:=some (j,tj)) (st:=none) hs rfl (qBw ⟨fz,fin⟩)
noncomputable def zadv:V->List V->Hp->VK->Prop:=λx vs H Q=>∃d o kvs more,x=.ref d/\vs=[.ref o]/\d≠o/\H d=some (.dK kvs)/\H o=some (.dK more)/\kvs.length+more.length<=qY/\Q .non (upd H d (.dK (zme kvs more)))
theorem zadw:MtM X "dict.update" zadv:=by
 intro pins s σ H x vs v us Q I rx rv h
 obtain⟨d,o,kvs,more,rfl,rfl,hne,hd,ho,hz,q⟩:=h
 cases rx
 obtain⟨u,rfl,ru⟩:=rv.one
 cases ru
 obtain⟨z1,s1,vs1,rel1,dd1⟩:=zahc I.hok hd
 obtain⟨z2,s2,vs2,rel2,dd2⟩:=zahc I.hok ho
 refine call_meetsIn F.slot_dict_update dd1.typeIs F.entry_dict_update (F.args_dict_update_2 _ _) (meets_dict_update (zbs X.prog X.w) d o hne s2) ⟨vs1,vs2,dd1,dd2,?_,λh' h1 h2 sb=>?_⟩
 ·rw[<- rel1.length,<- rel2.length];exact hz
 ·have he:∃q,h'.get? d=some q:=by obtain⟨ob,_,_,e,_⟩:=h1;exact⟨ob,e⟩
  refine⟨.non,_,ztm (t':=s.toks) I (by rw[hd];trivial) sb he (zado (qAd (zix more kvs) hz) s1 (rel2.merge rel1) h1),rfl,q⟩
theorem zahk{id:String}(hid:id="isinstance"):CallR X (.builtin id) (λxs H Q=>∃x n t b,xs=[x,.ty n]/\TyOf X.K H x t/\PySem.W.kitOne X.K t (.type n)=some b/\Q (.bl b) H):=by
 subst hid
 intro pins s σ H xs us Q I r h
 obtain⟨x,n,t,b,rfl,ty,e,q⟩:=h
 obtain⟨u,w',rfl,rx,ry⟩:=zakw r
 cases ry
 exact zade I rx ty e λtk=>⟨.bl b,H,I.tok _,rfl,q⟩
end
mutual
def Rep(K:qC)(H:Hp):PyData->V->Prop
 | .none,v=>v=.non
 | .bool b,v=>v=.bl b
 | .int i,v=>v=.int i
 | .str x,v=>v=.str x
 | .list ds,v=>∃a xs,v=.ref a/\SqL K H a xs/\Reps K H ds xs
 | .tuple ds,v=>∃a xs,v=.ref a/\SqT K H a xs/\Reps K H ds xs
 | .dict _,_=>False
def Reps(K:qC)(H:Hp):List PyData->List V->Prop
 | [],xs=>xs=[]
 | d::ds,xs=>∃v vs,xs=v::vs/\Rep K H d v/\Reps K H ds vs
end
mutual
theorem zjx{X:Cx}{pins:List (Addr×Obj)}{σ:St}{H:Hp}{s:Shared}(I:Inv X pins σ H s):∀(d:PyData){v:V}{u:Value},Rep X.K H d v->RelV v u->∃as,Reads s.heap u d as
 | .none,v,u,h,r=>by unfold Rep at h;subst h;cases r;exact⟨_,.none⟩
 | .bool b,v,u,h,r=>by unfold Rep at h;subst h;cases r;exact⟨_,.bool b⟩
 | .int i,v,u,h,r=>by unfold Rep at h;subst h;obtain⟨t,rfl⟩:=r;exact⟨_,.int i t⟩
 | .str x,v,u,h,r=>by unfold Rep at h;subst h;obtain⟨t,rfl⟩:=r;exact⟨_,.str x t⟩
 | .list ds,v,u,h,r=>by
  unfold Rep at h
  obtain⟨a,xs,rfl,hq,hr⟩:=h
  cases r
  obtain⟨its,rv,p,hz⟩:=I.list hq
  obtain⟨as,q⟩:=znp I ds hr rv
  obtain⟨o,h1,h2,n,h3⟩:=p.isList
  exact⟨_,reads_list_at h1 h2 h3 (by simpa using q)⟩
 | .tuple ds,v,u,h,r=>by
  unfold Rep at h
  obtain⟨a,xs,rfl,hq,hr⟩:=h
  cases r
  obtain⟨its,rv,p,hz⟩:=I.tuple hq
  obtain⟨as,q⟩:=znp I ds hr rv
  obtain⟨o,h1,h2,n,h3⟩:=p
  exact⟨_,reads_tuple_at h1 h2 h3 (by simpa using q)⟩
 | .dict _,_,_,h,_=>by unfold Rep at h;exact h.elim
theorem znp{X:Cx}{pins:List (Addr×Obj)}{σ:St}{H:Hp}{s:Shared}(I:Inv X pins σ H s):∀(ds:List PyData){vs:List V}{us:List Value},Reps X.K H ds vs->Vals vs us->∃as,ReadsAll s.heap us ds as
 | [],vs,us,h,r=>by unfold Reps at h;subst h;cases r;exact⟨_,.nil⟩
 | d::ds,vs,us,h,r=>by
  unfold Reps at h
  obtain⟨v,vs',rfl,h1,h2⟩:=h
  cases r with
  | cons r rr=>
   obtain⟨as,q1⟩:=zjx I d h1 r
   obtain⟨bs,q2⟩:=znp I ds h2 rr
   exact⟨_,.cons q1 q2⟩
end
section
variable{X:Cx}
noncomputable def rEqD(K:qC)(neg:Bool):R2:=λx y H Q=>∃d e,Rep K H d x/\Rep K H e y/\qAg d=true/\qAg e=true/\Q (.bl (if neg then !PyData.eqv d e else qAX d e)) H
theorem zapc(hu:X.A.units+64<cLine):OpR X (compareOp .Eq) (rEqD X.K false):=by
 intro pins s σ H x y v u Q I rx ry h
 obtain⟨d,e,hd,he,sd,se,q⟩:=h
 obtain⟨as,r1⟩:=zjx I d hd rx
 obtain⟨bs,r2⟩:=zjx I e he ry
 exact eq_dataH r1 r2 sd se hu ⟨.bl (qAX d e),H,I,rfl,q⟩
theorem zapd(hu:X.A.units+64<cLine):OpR X (compareOp .NotEq) (rEqD X.K true):=by
 intro pins s σ H x y v u Q I rx ry h
 obtain⟨d,e,hd,he,sd,se,q⟩:=h
 obtain⟨as,r1⟩:=zjx I d hd rx
 obtain⟨bs,r2⟩:=zjx I e he ry
 exact ne_dataH r1 r2 sd se hu ⟨.bl (!PyData.eqv d e),H,I,rfl,q⟩
theorem zadx{bs:List Bool}:∀{its:List Value},Vals (bs.map V.bl) its->its=bs.map Value.bool:=by
 induction bs with
 | nil=>intro its r;cases r;rfl
 | cons b bs ih=>
  intro its r
  cases r with
  | cons r rr=>cases r;rw[ih rr];rfl
theorem zady(bs:List Bool):(List.range bs.length).any (λi=>bs.getD i false)=bs.any id:=by
 rw[qx,qAe,qAe]
 constructor
 ·rintro⟨i,hi,h⟩
  have hi:=qAb.mp hi
  rw[qQ,qD hi]at h
  exact⟨_,qAR hi,h⟩
 ·rintro⟨b,hb,h⟩
  obtain⟨i,hi,e⟩:=qAi hb
  exact⟨i,qAb.mpr hi,by rw[qQ,qD hi,e];exact h⟩
theorem zadz(bs:List Bool):(List.range bs.length).all (λi=>bs.getD i false)=bs.all id:=by
 rw[qx,qK,qK]
 constructor
 ·intro h b hb
  obtain⟨i,hi,e⟩:=qAi hb
  have q:=h i (qAb.mpr hi)
  rw[qQ,qD hi,e]at q
  exact q
 ·intro h i hi
  have hi:=qAb.mp hi
  have q:=h _ (qAR hi)
  rw[qQ,qD hi]
  exact q
noncomputable def rAny(K:qC)(f:List Bool->Bool):List V->Hp->VK->Prop:=λxs H Q=>∃p bs,xs=[.ref p]/\SqL K H p (bs.map V.bl)/\Q (.bl (f bs)) H
theorem zahl(hc:X.calm=true):CallR X (.builtin "any") (rAny X.K λbs=>bs.any id):=by
 intro pins s σ H xs us Q I r h
 obtain⟨p,bs,rfl,hq,q⟩:=h
 obtain⟨u,rfl,ru⟩:=zabg r
 cases ru
 obtain⟨its,rv,pl,hz⟩:=I.list hq
 cases zadx rv
 have hne:p≠s.heap.objs.size:=by obtain⟨o,e,_⟩:=pl.isList;exact qAB (qX e)
 refine call_any_walk (qBh pl.isList ⟨s.heap.objs.size,_,_,_,_,_,λi=>bs.getD i false,rfl,Walks.list (A:=X.A.in1) (show X.A.in1.handled=none from I.ok.hd hc) _ p hne (bs.map Value.bool).toArray,⟨⟨_,qk _ rfl,rfl,rfl⟩,?_⟩,?_,?_⟩)
 ·obtain⟨o,e,z⟩:=pl.isList
  exact⟨o,qL _ e,z⟩
 ·intro i v s' Q' E' hv hQ
  have hv:(bs.map Value.bool)[i]?=some v:=by simpa using hv
  rw[qh]at hv
  cases e:bs[i]? with
  | none=>rw[e]at hv;cases hv
  | some b=>
   rw[e]at hv
   cases hv
   have z:bs.getD i false=b:=by rw[qQ,e];rfl
   have hQ:Q' (bs.getD i false) s':=hQ
   rw[z]at hQ
   exact qAC hQ
 ·intro h' tk hk
  refine⟨.bl (bs.any id),H,?_,by rw[<- zady bs];simp;rfl,q⟩
  exact I.kept (t':=tk) λb o e=>hk b o (by have:=qX e;simp;exact qAB this) (qL _ e)
theorem zahm(hc:X.calm=true):CallR X (.builtin "all") (rAny X.K λbs=>bs.all id):=by
 intro pins s σ H xs us Q I r h
 obtain⟨p,bs,rfl,hq,q⟩:=h
 obtain⟨u,rfl,ru⟩:=zabg r
 cases ru
 obtain⟨its,rv,pl,hz⟩:=I.list hq
 cases zadx rv
 have hne:p≠s.heap.objs.size:=by obtain⟨o,e,_⟩:=pl.isList;exact qAB (qX e)
 refine call_all_walk (qBh pl.isList ⟨s.heap.objs.size,_,_,_,_,_,λi=>bs.getD i false,rfl,Walks.list (A:=X.A.in1) (show X.A.in1.handled=none from I.ok.hd hc) _ p hne (bs.map Value.bool).toArray,⟨⟨_,qk _ rfl,rfl,rfl⟩,?_⟩,?_,?_⟩)
 ·obtain⟨o,e,z⟩:=pl.isList
  exact⟨o,qL _ e,z⟩
 ·intro i v s' Q' E' hv hQ
  have hv:(bs.map Value.bool)[i]?=some v:=by simpa using hv
  rw[qh]at hv
  cases e:bs[i]? with
  | none=>rw[e]at hv;cases hv
  | some b=>
   rw[e]at hv
   cases hv
   have z:bs.getD i false=b:=by rw[qQ,e];rfl
   have hQ:Q' (bs.getD i false) s':=hQ
   rw[z]at hQ
   exact qAC hQ
 ·intro h' tk hk
  refine⟨.bl (bs.all id),H,?_,by rw[<- zadz bs];simp;rfl,q⟩
  exact I.kept (t':=tk) λb o e=>hk b o (by have:=qX e;simp;exact qAB this) (qL _ e)
end
noncomputable def zaea(o:Option NameKind):Bool:=o==some .cell||o==some .free
noncomputable def zaeb(sc:Scope)(N:List Str)(scope:Scope)(N' own:List Str)(fr:List Nat):Bool:=
 (scope.kind==.function)&&(scope.names.all λy=>scope.names.lookup y.1==some y.2)&&(scope.names.all λy=>!(y.2==.free)||zaea (sc.names.lookup y.1))&&
 (N'==own++fr.map λj=>N.getD j Str.empty)&&(fr.all λj=>decide (j<N.length)&&(scope.names.lookup (N.getD j Str.empty)==some .free))&&
 (own.all λx=>scope.names.lookup x==some .local||scope.names.lookup x==some .cell)
section
variable{X:Cx}
theorem zcw{scope:Scope}{N' own:List Str}{fr:List Nat}(h:zaeb X.env.scope X.N scope N' own fr=true):CompOk X scope N' own fr:=by
 unfold zaeb at h
 simp only[qZ]at h
 obtain⟨⟨⟨⟨⟨h1,h2⟩,h3⟩,h4⟩,h5⟩,h6⟩:=h
 refine⟨eq_of_beq h1,λy hy=>eq_of_beq (qK.mp h2 y hy),λy hy e=>?_,eq_of_beq h4,λj hj=>?_,λx hx=>?_⟩
 ·have q:=qK.mp h3 y hy
  rw[e]at q
  have q:zaea (X.env.scope.names.lookup y.1)=true:=by simpa using q
  unfold zaea at q
  rcases qCx.mp q with z|z
  ·exact .inl (eq_of_beq z)
  ·exact .inr (eq_of_beq z)
 ·have q:=qK.mp h5 j hj
  rw[qZ]at q
  exact⟨of_decide_eq_true q.1,eq_of_beq q.2⟩
 ·have q:=qK.mp h6 x hx
  rcases qCx.mp q with z|z
  ·exact .inl (eq_of_beq z)
  ·exact .inr (eq_of_beq z)
noncomputable def zalo(K:qC):R2:=λx y H Q=>match x,y with
 | .int i,.int j=>Q (.int (i+j)) H
 | .str a,.str b=>a.length+b.length<=qY/\Q (.str (a++b)) H
 | .ref _,.ref _=>rCat x y H Q\/zaop K x y H Q
 | _,_=>False
theorem zalp:OpR X (binaryOp .Add) (zalo X.K):=by
 intro pins s σ H x y v u Q I rx ry h
 cases x<;>cases y<;>first
  | exact h.elim
  | exact zaoe pins s σ H _ _ v u Q I rx ry ⟨_,_,rfl,rfl,h⟩
  | exact zabf pins s σ H _ _ v u Q I rx ry ⟨_,_,rfl,rfl,h.1,h.2⟩
  | exact(zaow.or zalc) pins s σ H _ _ v u Q I rx ry h
noncomputable def zape:R2:=λx y H Q=>match x,y with
 | .int i,.int j=>CMul i j/\Q (.int (i * j)) H
 | .str z,.int n=>z.length<=1000/\-1000<=n/\n<=1000/\Q (.str (Txt.mul z n)) H
 | _,_=>False
theorem zic:OpR X (binaryOp .Mult) zape:=by
 intro pins s σ H x y v u Q I rx ry h
 cases x<;>cases y<;>first
  | exact h.elim
  | exact zaof pins s σ H _ _ v u Q I rx ry ⟨_,_,rfl,rfl,h.1,h.2⟩
  | exact zaln pins s σ H _ _ v u Q I rx ry ⟨_,_,rfl,rfl,h.1,h.2.1,h.2.2.1,h.2.2.2⟩
noncomputable def rIxU(K:qC):R2:=λx y H Q=>match x,y with
 | .str z,.int i=>z.length<=qY/\∃c,atI z.cps.toList i=some c/\Q (.str ⟨#[c]⟩) H
 | .ref p,.int i=>∃xs v,(SqL K H p xs\/SqT K H p xs)/\atI xs i=some v/\Q v H
 | _,_=>False
theorem ix_U:IxR X (rIxU X.K):=by
 intro value slice pins s σ H x y v u Q I rx ry h hs
 cases x<;>cases y<;>first
  | exact h.elim
  | (obtain⟨h1,c,h2,h3⟩:=h;exact zaor value slice pins s σ H _ _ v u Q I rx ry ⟨_,_,c,rfl,rfl,h1,h2,h3⟩ hs)
  | (obtain⟨xs,w,h1,h2,h3⟩:=h
     rcases h1 with h1|h1
     ·exact zald value slice pins s σ H _ _ v u Q I rx ry ⟨_,xs,_,w,rfl,rfl,h1,h2,h3⟩ hs
     ·exact zaoq value slice pins s σ H _ _ v u Q I rx ry ⟨_,xs,_,w,rfl,rfl,h1,h2,h3⟩ hs)
noncomputable def rSlU(K:qC):V->Option Int->Option Int->Hp->VK->Prop:=λx lo hi H Q=>match x with
 | .str z=>z.length<=qY/\Q (.str (Txt.slice z lo hi)) H
 | .ref _=>rSlL K x lo hi H Q
 | _=>False
theorem sl_U:SlR X (rSlU X.K):=by
 intro pins s σ H x v vl vu lo hi sl Q I rx hs pl pu h
 cases x<;>first
  | exact h.elim
  | exact zapb pins s σ H _ v vl vu lo hi sl Q I rx hs pl pu ⟨_,rfl,h.1,h.2⟩
  | exact zalf pins s σ H _ v vl vu lo hi sl Q I rx hs pl pu h
noncomputable def Dn(P:Program)(w:World)(K:qC)(mg:Str->Option Value)(base:Heap)(x:Str)(ps:List Str)(k:Nat)(sp:Sp):Prop:=
 ∃f fd,FnOk P w K mg base CX0 k f fd ps sp/\mg x=some (.ref f)/\qc K (.ref f)=true/\zye K fd ps []
theorem zarp{x:Str}{p pos:Pos}{e:Expr}{es:List Expr}{t:TA}{ps:List Str}{k:Nat}{sp:Sp}(D:Dn X.prog X.w X.K X.mg X.base x ps k sp)(hr:Room k X.A)(hg:Gl X x)(ha:PA X (e::es) t)
  (hdb:(x==("__debug__":Str))=false:=by decide)(he:starEach (e::es) X.env=(false,eval e X.env)::starEach es X.env:=by rfl)(hpl:(backTo pos (starEach es X.env)).any (·.1)=false:=by rfl) :
  PE X (.Call (.Name x p) (e::es) [] pos) (tCall sp [] E0 t):=by
 obtain⟨f,fd,F,hm,hk,hb⟩:=D
 exact zakz F hr hg hm hk hb .nil zarn ha hdb he hpl
end
theorem Same.upd{H H':Hp}{p:Addr}{o:HO}(h:Same H H')(hp:H p=none):Same H (upd H' p o):=λb u e=>by rw[zbn (zby e hp)];exact h b u e
theorem Same.new{H:Hp}{p:Addr}{o:HO}(hp:H p=none):Same H (L2.upd H p o):=(Same.refl H).upd hp
end L2
namespace Bc
open PySem L2
noncomputable abbrev Web:=List (Str×List Str)
noncomputable def nm(W:Web):List Str:=W.map (·.1)
structure WebOk(W:Web):Prop where
 nd:(nm W).Nodup
 el:∀i n es,W[i]?=some (n,es)->∀e∈es,e∈nm (W.take i)
 few:∀p∈W,p.2.length<=4
 len:W.length<=12
theorem zqg{α:Type}[DecidableEq α]:∀(l m:List α),l.Nodup->(∀x∈l,x∈m)->l.length<=m.length
 | [],_,_,_=>qAf _
 | a::l,m,h,s=>by
  obtain⟨h1,h2⟩:=qAQ.mp h
  have ha:=s a qV
  have q:=zqg l (m.erase a) h2 λx hx=>(List.mem_erase_of_ne (λ(z:x=a)=>h1 (by rw[<- z];exact hx))).mpr (s x (qM _ hx))
  rw[List.length_erase_of_mem ha]at q
  have:=List.length_pos_of_mem ha
  rw[qv]
  omega
theorem zaae{W:Web}(h:WebOk W):(nm W).length<=12:=by unfold nm;rw[qE];exact h.len
end Bc
namespace L2
open PySem PySem.Spec PyProof.Rows
section
variable{X:Cx}{K:qC}(hK:X.K=K)
include hK
theorem zalq{es:List Expr}{k:Nat}{t:TGs}{n:Nat}{pos:Pos}(hc:X.calm=true)(h:PGs X es t)
  (hn:(assignEach es X.env).length=n:=by rfl) (hst:(assignEach es X.env).findIdx? (·.1)=none:=by rfl):PG X (.Tuple es k pos) (gTup K n t):=by subst hK;exact zanz hc h hn hst
theorem zgp:IxR X (rIxU K):=by subst hK;exact ix_U
theorem zalr:SlR X (rSlU K):=by subst hK;exact sl_U
theorem zcq:OpR X (binaryOp .Add) (zalo K):=by subst hK;exact zalp
theorem zvq:OpR X (compareOp .In) (rIn K false):=by subst hK;exact zadl
theorem zmg:OpR X (compareOp .NotIn) (rIn K true):=by subst hK;exact zvn
theorem zce:CallR X (.builtin "len") (λxs H Q=>∃x n,xs=[x]/\LenV K x H n/\Q (.int n) H):=by subst hK;exact zagv
theorem zqh(hc:X.calm=true):CallR X (.builtin "any") (rAny K λbs=>bs.any id):=by subst hK;exact zahl hc
theorem zjy(hc:X.calm=true):CallR X (.builtin "all") (rAny K λbs=>bs.all id):=by subst hK;exact zahm hc
theorem zds:CallR X (.builtin "isinstance") (λxs H Q=>∃x n t b,xs=[x,.ty n]/\TyOf K H x t/\PySem.W.kitOne K t (.type n)=some b/\Q (.bl b) H):=by subst hK;exact zahk rfl
theorem zapf{T:String}{name:Str}{id:String}{r:V->List V->Hp->VK->Prop}{o e:Expr}{es:List Expr}{to:TE}{t:TA}{apos cpos:Pos}(pa:PlainAttrs T)(slot:Slot T name id)(hty:typeOf (.builtin id)=pure (.type "method_descriptor"))(hm:MtR X id r)(ho:PE X o to)(ha:PA X (e::es) t)
  (hbase:attributeBase o name X.env (eval o X.env)=eval o X.env:=by rfl)
  (hfew:((backTo cpos (starEach (e::es) X.env)).all (λx=>!x.1)&&(backToKw cpos (keywordEach [] X.env)).all (λx=>x.1.isSome)
   && decide ((e::es).length+([]:List Keyword).length+(if([]:List Keyword).isEmpty then 0 else 1)<30))=true:=by rfl)
  (hline:(apos.endLine==cpos.line)=true:=by rfl)(hs:starEach (e::es) X.env=(false,eval e X.env)::starEach es X.env:=by rfl)(hplain:(backTo cpos (starEach es X.env)).any (·.1)=false:=by rfl) :
  PE X (.Call (.Attribute o name apos) (e::es) [] cpos) (tBM K T r to t):=by subst hK;exact zarl pa slot hty hm ho ha hbase hfew hline hs hplain
end
noncomputable def keyD:PyData->Option Key
 | .int i=>some (Sum.inl i)
 | .str s=>some (Sum.inr s)
 | _=>none
mutual
def Rp(H:Hp):PyData->V->Prop
 | .none,v=>v=.non
 | .bool b,v=>v=.bl b
 | .int i,v=>v=.int i
 | .str x,v=>v=.str x
 | .list ds,v=>∃a xs,v=.ref a/\H a=some (.lst xs)/\Rps H ds xs
 | .tuple ds,v=>∃a xs,v=.ref a/\H a=some (.tup xs)/\Rps H ds xs
 | .dict kvs,v=>∃a ps,v=.ref a/\H a=some (.dK ps)/\Rpd H kvs ps
def Rps(H:Hp):List PyData->List V->Prop
 | [],xs=>xs=[]
 | d::ds,xs=>∃v vs,xs=v::vs/\Rp H d v/\Rps H ds vs
def Rpd(H:Hp):List (PyData×PyData)->List (Key×V)->Prop
 | [],ps=>ps=[]
 | (k,d)::r,ps=>∃k' v vs,ps=(k',v)::vs/\keyD k=some k'/\Rp H d v/\Rpd H r vs
end
mutual
theorem Rp.same{H H':Hp}(h:Same H H'):∀(d:PyData){v:V},Rp H d v->Rp H' d v
 | .none,v,q=>by unfold Rp at q ⊢;exact q
 | .bool b,v,q=>by unfold Rp at q ⊢;exact q
 | .int i,v,q=>by unfold Rp at q ⊢;exact q
 | .str x,v,q=>by unfold Rp at q ⊢;exact q
 | .list ds,v,q=>by
  unfold Rp at q ⊢
  obtain⟨a,xs,e,hq,hr⟩:=q
  exact⟨a,xs,e,h _ _ hq,Rps.same h ds hr⟩
 | .tuple ds,v,q=>by
  unfold Rp at q ⊢
  obtain⟨a,xs,e,hq,hr⟩:=q
  exact⟨a,xs,e,h _ _ hq,Rps.same h ds hr⟩
 | .dict kvs,v,q=>by
  unfold Rp at q ⊢
  obtain⟨a,xs,e,hq,hr⟩:=q
  exact⟨a,xs,e,h _ _ hq,Rpd.same h kvs hr⟩
theorem Rps.same{H H':Hp}(h:Same H H'):∀(ds:List PyData){vs:List V},Rps H ds vs->Rps H' ds vs
 | [],vs,q=>by unfold Rps at q ⊢;exact q
 | d::ds,vs,q=>by
  unfold Rps at q ⊢
  obtain⟨v,vs',e,h1,h2⟩:=q
  exact⟨v,vs',e,Rp.same h d h1,Rps.same h ds h2⟩
theorem Rpd.same{H H':Hp}(h:Same H H'):∀(ds:List (PyData×PyData)){vs:List (Key×V)},Rpd H ds vs->Rpd H' ds vs
 | [],vs,q=>by unfold Rpd at q ⊢;exact q
 | (k,d)::ds,vs,q=>by
  unfold Rpd at q ⊢
  obtain⟨k',v,vs',e,h0,h1,h2⟩:=q
  exact⟨k',v,vs',e,h0,Rp.same h d h1,Rpd.same h ds h2⟩
end
theorem zcb{H:Hp}:∀{ds:List PyData}{xs:List V},Rps H ds xs↔Paired (Rp H) ds xs
 | [],xs=>by
  constructor
  ·intro h;unfold Rps at h;subst h;exact .nil
  ·intro h;cases h;unfold Rps;rfl
 | d::ds,xs=>by
  constructor
  ·intro h
   unfold Rps at h
   obtain⟨v,vs,rfl,h1,h2⟩:=h
   exact .cons h1 (zcb.mp h2)
  ·intro h
   cases h with
   | cons h1 h2=>unfold Rps;exact⟨_,_,rfl,h1,zcb.mpr h2⟩
theorem Rps.length{H:Hp}{ds:List PyData}{xs:List V}(h:Rps H ds xs):ds.length=xs.length:=(zcb.mp h).length
theorem zdt{H:Hp}{ds:List PyData}{v:V}(h:Rp H (.list ds) v):∃a xs,v=.ref a/\H a=some (.lst xs)/\Rps H ds xs:=by unfold Rp at h;exact h
theorem zde{H:Hp}{ds:List PyData}{v:V}(h:Rp H (.tuple ds) v):∃a xs,v=.ref a/\H a=some (.tup xs)/\Rps H ds xs:=by unfold Rp at h;exact h
theorem znq{H:Hp}{ds:List (PyData×PyData)}{v:V}(h:Rp H (.dict ds) v):∃a xs,v=.ref a/\H a=some (.dK xs)/\Rpd H ds xs:=by unfold Rp at h;exact h
theorem zdc{H:Hp}{i:Int}{v:V}(h:Rp H (.int i) v):v=.int i:=by unfold Rp at h;exact h
theorem zor{H:Hp}{i:Str}{v:V}(h:Rp H (.str i) v):v=.str i:=by unfold Rp at h;exact h
theorem ziy{H:Hp}{i:Bool}{v:V}(h:Rp H (.bool i) v):v=.bl i:=by unfold Rp at h;exact h
theorem zaec{H:Hp}{v:V}(h:Rp H .none v):v=.non:=by unfold Rp at h;exact h
theorem zab{H:Hp}{i:Int}:Rp H (.int i) (.int i):=by unfold Rp;rfl
theorem zbr{H:Hp}{i:Str}:Rp H (.str i) (.str i):=by unfold Rp;rfl
theorem zau{H:Hp}{i:Bool}:Rp H (.bool i) (.bl i):=by unfold Rp;rfl
theorem zii{H:Hp}:Rp H .none .non:=by unfold Rp;rfl
theorem zlc{H:Hp}{ds:List PyData}{a:Addr}{xs:List V}(h:H a=some (.lst xs))(r:Rps H ds xs):Rp H (.list ds) (.ref a):=by unfold Rp;exact⟨a,xs,rfl,h,r⟩
theorem zyh{H:Hp}{ds:List PyData}{a:Addr}{xs:List V}(h:H a=some (.tup xs))(r:Rps H ds xs):Rp H (.tuple ds) (.ref a):=by unfold Rp;exact⟨a,xs,rfl,h,r⟩
theorem znr{H:Hp}{ds:List (PyData×PyData)}{a:Addr}{xs:List (Key×V)}(h:H a=some (.dK xs))(r:Rpd H ds xs):Rp H (.dict ds) (.ref a):=by unfold Rp;exact⟨a,xs,rfl,h,r⟩
theorem zfq{H:Hp}:Rps H [] []:=by unfold Rps;rfl
theorem zns{H:Hp}:Rpd H [] []:=by unfold Rpd;rfl
theorem zfd{H:Hp}{d:PyData}{ds:List PyData}{v:V}{vs:List V}(h:Rp H d v)(r:Rps H ds vs):Rps H (d::ds) (v::vs):=by
 show Rps H (d::ds) _
 unfold Rps;exact⟨v,vs,rfl,h,r⟩
theorem Rps.append{H:Hp}{ds es:List PyData}{vs ws:List V}(h:Rps H ds vs)(r:Rps H es ws):Rps H (ds++es) (vs++ws):=by
 replace h:=zcb.mp h
 refine zcb.mpr ?_
 induction h with
 | nil=>exact zcb.mp r
 | cons h _ ih=>exact .cons h ih
theorem Rps.get{H:Hp}{ds:List PyData}{vs:List V}(h:Rps H ds vs){i:Nat}{v:V}(e:vs[i]?=some v):∃d,ds[i]?=some d/\Rp H d v:=by
 replace h:=zcb.mp h
 induction h generalizing i with
 | nil=>simp at e
 | cons h _ ih=>
  cases i with
  | zero=>simp at e;subst e;exact⟨_,rfl,h⟩
  | succ i=>simpa using ih (by simpa using e)
theorem Rps.get2{H:Hp}{ds:List PyData}{vs:List V}(h:Rps H ds vs){i:Nat}{d:PyData}(e:ds[i]?=some d):∃v,vs[i]?=some v/\Rp H d v:=by
 replace h:=zcb.mp h
 induction h generalizing i with
 | nil=>simp at e
 | cons h _ ih=>
  cases i with
  | zero=>simp at e;subst e;exact⟨_,rfl,h⟩
  | succ i=>simpa using ih (by simpa using e)
open Classical in
noncomputable def Offs(A:Addr->Prop)(H:Hp):Hp:=λb=>if A b then none else H b
theorem Offs.get{A:Addr->Prop}{H:Hp}{b:Addr}(h:¬A b):Offs A H b=H b:=if_neg h
theorem Offs.out{A:Addr->Prop}{H:Hp}{b:Addr}(h:A b):Offs A H b=none:=if_pos h
theorem Offs.of{A:Addr->Prop}{H:Hp}{b:Addr}{o:HO}(h:Offs A H b=some o):¬A b/\H b=some o:=by
 by_cases hb:A b
 ·rw[Offs.out hb]at h;cases h
 ·rw[Offs.get hb]at h;exact⟨hb,h⟩
theorem Offs.mono{A B:Addr->Prop}{H H':Hp}(s:Same H H')(h:∀b o,H b=some o->¬A b->¬B b):Same (Offs A H) (Offs B H'):=λb o e=>by
 obtain⟨h1,h2⟩:=Offs.of e
 rw[Offs.get (h b o h2 h1)]
 exact s b o h2
theorem Offs.same(A:Addr->Prop)(H:Hp):Same (Offs A H) H:=λb o e=>(Offs.of e).2
theorem Offs.sub{A B:Addr->Prop}{H:Hp}(h:∀b,B b->A b):Same (Offs A H) (Offs B H):=Offs.mono (Same.refl _) λb _ _ n z=>n (h b z)
theorem Offs.grow{A:Addr->Prop}{H H':Hp}(s:Same H H'):Same (Offs A H) (Offs A H'):=Offs.mono s λ_ _ _ z=>z
theorem Offs.upd{A:Addr->Prop}{H:Hp}{a:Addr}{o:HO}(h:A a):Offs A (upd H a o)=Offs A H:=by
 funext b
 by_cases hb:A b
 ·rw[Offs.out hb,Offs.out hb]
 ·rw[Offs.get hb,Offs.get hb,zbn (λe=>hb (by rw[e];exact h))]
inductive Sl where
 | no
  | pl (d:PyData)
  | ac (d:PyData)
noncomputable abbrev DEnv:=List Sl
noncomputable def own(env:DEnv)(σ:St)(a:Addr):Prop:=∃(i:Nat)(d:PyData),env[i]?=some (.ac d)/\σ[i]?=some (some (.ref a))
noncomputable def zek(Ho H:Hp)(a:Addr):PyData->Prop
 | .list ds=>∃xs,H a=some (.lst xs)/\Rps Ho ds xs
 | .dict kvs=>∃ps,H a=some (.dK ps)/\Rpd Ho kvs ps
 | _=>False
theorem zek.rp{Ho H H':Hp}{a:Addr}{d:PyData}(h:zek Ho H a d)(s:Same Ho H')(e:∀o,H a=some o->H' a=some o):Rp H' d (.ref a):=by
 cases d with
 | list ds=>
  obtain⟨xs,h1,h2⟩:=h
  exact zlc (e _ h1) (Rps.same s _ h2)
 | dict ds=>
  obtain⟨xs,h1,h2⟩:=h
  exact znr (e _ h1) (Rpd.same s _ h2)
 | _=>exact h.elim
theorem zek.same{Ho H Ho' H':Hp}{a:Addr}{d:PyData}(h:zek Ho H a d)(s:Same Ho Ho')(e:∀o,H a=some o->H' a=some o):zek Ho' H' a d:=by
 cases d with
 | list ds=>
  obtain⟨xs,h1,h2⟩:=h
  exact⟨xs,e _ h1,Rps.same s _ h2⟩
 | dict ds=>
  obtain⟨xs,h1,h2⟩:=h
  exact⟨xs,e _ h1,Rpd.same s _ h2⟩
 | _=>exact h.elim
theorem zek.ex{Ho H:Hp}{a:Addr}{d:PyData}(h:zek Ho H a d):∃o,H a=some o:=by
 cases d with
 | list ds=>obtain⟨xs,h1,h2⟩:=h;exact⟨_,h1⟩
 | dict ds=>obtain⟨xs,h1,h2⟩:=h;exact⟨_,h1⟩
 | _=>exact h.elim
structure EnvOk(fx:Addr->Prop)(H0:Hp)(env:DEnv)(σ:St)(H:Hp):Prop where
 len:env.length=σ.length
 pl:∀(i:Nat)(d:PyData),env[i]?=some (.pl d)->∃v,σ[i]?=some (some v)/\Rp (Offs (λa=>fx a\/own env σ a) H) d v
 ac:∀(i:Nat)(d:PyData),env[i]?=some (.ac d)->∃a,σ[i]?=some (some (.ref a))/\H0 a=none/\¬fx a/\zek (Offs (λa=>fx a\/own env σ a) H) H a d
 inj:∀(i j:Nat)(d e:PyData)(a:Addr),env[i]?=some (.ac d)->env[j]?=some (.ac e)->σ[i]?=some (some (.ref a))->σ[j]?=some (some (.ref a))->i=j
 base:Same H0 H
 fxs:∀b,fx b->∃o,H b=some o
theorem EnvOk.grow{fx fx':Addr->Prop}{H0:Hp}{env:DEnv}{σ:St}{H H':Hp}(h:EnvOk fx H0 env σ H)(s:Same H H')(f:∀b o,H b=some o->¬fx b->¬fx' b)(g:∀b,fx' b->∃o,H' b=some o):EnvOk fx' H0 env σ H':=by
 have so:Same (Offs (λa=>fx a\/own env σ a) H) (Offs (λa=>fx' a\/own env σ a) H'):=Offs.mono s λb o e n=>λz=>z.elim (f b o e λy=>n (.inl y)) λy=>n (.inr y)
 refine⟨h.len,λi d e=>?_,λi d e=>?_,h.inj,h.base.trans s,g⟩
 ·obtain⟨v,h1,h2⟩:=h.pl i d e
  exact⟨v,h1,Rp.same so d h2⟩
 ·obtain⟨a,h1,h2,h3,h4⟩:=h.ac i d e
  obtain⟨o,ho⟩:=h4.ex
  exact⟨a,h1,h2,f a o ho h3,h4.same so λo=>s a o⟩
theorem EnvOk.up{fx:Addr->Prop}{H0:Hp}{env:DEnv}{σ:St}{H H':Hp}(h:EnvOk fx H0 env σ H)(s:Same H H'):EnvOk fx H0 env σ H':=
 h.grow s (λ_ _ _ z=>z) λb z=>let⟨o,e⟩:=h.fxs b z;⟨o,s b o e⟩
structure Val where
 d:PyData
 fr:Bool
 bs:List Nat
noncomputable def lim(fx:Addr->Prop)(env:DEnv)(σ:St)(bs:List Nat)(a:Addr):Prop:=fx a\/∃(i:Nat)(d:PyData),i∉bs/\env[i]?=some (.ac d)/\σ[i]?=some (some (.ref a))
structure ValOk(A:Addr->Prop)(H H':Hp)(r:Val)(v:V):Prop where
 rp:Rp (Offs A H') r.d v
 fr:r.fr=true->∃a,v=.ref a/\H a=none/\zek (Offs (λb=>A b\/b=a) H') H' a r.d
theorem znt{fx:Addr->Prop}{env:DEnv}{σ:St}{bs cs:List Nat}(h:∀i∈bs,i∈cs):∀a,lim fx env σ cs a->lim fx env σ bs a:=by
 rintro a (z|⟨i,d,h1,h2,h3⟩)
 ·exact .inl z
 ·exact .inr ⟨i,d,λq=>h1 (h i q),h2,h3⟩
theorem znu{fx:Addr->Prop}{env:DEnv}{σ:St}{bs:List Nat}:∀a,lim fx env σ bs a->fx a\/own env σ a:=by
 rintro a (z|⟨i,d,h1,h2,h3⟩)
 ·exact .inl z
 ·exact .inr ⟨i,d,h2,h3⟩
theorem zals{fx:Addr->Prop}{env:DEnv}{σ:St}:∀a,fx a\/own env σ a->lim fx env σ [] a:=by
 rintro a (z|⟨i,d,h2,h3⟩)
 ·exact .inl z
 ·exact .inr ⟨i,d,by simp,h2,h3⟩
theorem EnvOk.lims{fx:Addr->Prop}{H0:Hp}{env:DEnv}{σ:St}{H:Hp}(h:EnvOk fx H0 env σ H)(bs:List Nat):∀b,lim fx env σ bs b->∃o,H b=some o:=by
 rintro b (z|⟨i,d,h1,h2,h3⟩)
 ·exact h.fxs b z
 ·obtain⟨a,g1,g2,g3,g4⟩:=h.ac i d h2
  rw[h3]at g1
  cases g1
  exact g4.ex
theorem ValOk.later{A B:Addr->Prop}{H0 H H' H'':Hp}{r:Val}{v:V}(h:ValOk A H H' r v)(s0:Same H0 H)(s:Same H' H'')(hB:∀b,B b->A b):ValOk B H0 H'' r v:=by
 refine⟨Rp.same (Offs.mono s λb _ _ n z=>n (hB b z)) _ h.rp,λe=>?_⟩
 obtain⟨a,h1,h2,h3⟩:=h.fr e
 exact⟨a,h1,s0.free h2,h3.same (Offs.mono s λb _ _ n z=>n (z.elim (λy=>.inl (hB b y)) .inr)) λo=>s a o⟩
noncomputable def zfn:PyData->Bool
 | .list _=>false
 | .tuple _=>false
 | .dict _=>false
 | _=>true
theorem zyi{H H':Hp}{d:PyData}{v:V}(f:zfn d=true)(h:Rp H d v):Rp H' d v:=by
 cases d<;>first
  | (unfold Rp at h ⊢;exact h)
  | cases f
noncomputable def bsOf(d:PyData)(bs:List Nat):List Nat:=if zfn d=true then[]else bs
theorem znv{fx:Addr->Prop}{env:DEnv}{σ:St}{bs:List Nat}{H:Hp}{d:PyData}{v:V}(h:Rp (Offs (lim fx env σ bs) H) d v):Rp (Offs (lim fx env σ (bsOf d bs)) H) d v:=by
 unfold bsOf
 split
 ·rename_i e;exact zyi e h
 ·exact h
noncomputable abbrev EF:=DEnv->Option Val
noncomputable def SE(te:TE)(f:EF):Prop:=∀(fx:Addr->Prop)(H0:Hp)(env:DEnv)(σ:St)(H:Hp),EnvOk fx H0 env σ H->∀r,f env=some r->∀Q:VK,(∀v H',Same H H'->ValOk (lim fx env σ r.bs) H H' r v->Q v H')->te σ H Q
noncomputable abbrev TF:=DEnv->Option Bool
noncomputable def ST(tt:TT)(f:TF):Prop:=∀(fx:Addr->Prop)(H0:Hp)(env:DEnv)(σ:St)(H:Hp),EnvOk fx H0 env σ H->∀b,f env=some b->∀Q:Bool->Hp->Prop,(∀H',Same H H'->Q b H')->tt σ H Q
noncomputable abbrev AF:=DEnv->Option (List Val)
noncomputable def SA(ta:TA)(f:AF):Prop:=∀(fx:Addr->Prop)(H0:Hp)(env:DEnv)(σ:St)(H:Hp),EnvOk fx H0 env σ H->∀rs,f env=some rs->∀Q:List V->Hp->Prop,
 (∀vs H',Same H H'->Paired (λr v=>ValOk (lim fx env σ r.bs) H H' r v) rs vs->Q vs H')->ta σ H Q
section
variable{X:Cx}
noncomputable def eVar(i:Nat):EF:=λenv=>match env[i]? with
 | some (.pl d)=>some ⟨d,false,[]⟩
 | some (.ac d)=>some ⟨d,false,[i]⟩
 | _=>none
theorem zad(i:Nat):SE (tVar i) (eVar i):=by
 intro fx H0 env σ H h r hr Q q
 unfold eVar at hr
 cases e:env[i]? with
 | none=>rw[e]at hr;cases hr
 | some sl=>
  rw[e]at hr
  cases sl with
  | no=>cases hr
  | pl d=>
   cases hr
   obtain⟨v,h1,h2⟩:=h.pl i d e
   exact⟨v,h1,q v H (Same.refl _) ⟨Rp.same (Offs.sub znu) _ h2,λz=>by cases z⟩⟩
  | ac d=>
   cases hr
   obtain⟨a,h1,h2,h3,h4⟩:=h.ac i d e
   have hna:¬lim fx env σ [i] a:=by
    rintro(z|⟨j,d',g1,g2,g3⟩)
    ·exact h3 z
    ·exact g1 (qAM.mpr (h.inj j i d' d a g2 e g3 h1))
   exact⟨_,h1,q _ H (Same.refl _) ⟨h4.rp (Offs.sub znu) λo z=>by rw[Offs.get hna];exact z,λz=>by cases z⟩⟩
noncomputable def eC(d:PyData):EF:=λ_=>some ⟨d,false,[]⟩
theorem se_c{d:PyData}{v:V}(h:∀H,Rp H d v):SE (tC v) (eC d):=by
 intro fx H0 env σ H _ r hr Q q
 cases hr
 exact q v H (Same.refl _) ⟨h _,λz=>by cases z⟩
noncomputable abbrev OF:=PyData->PyData->Option (PyData×Bool)
noncomputable def SO(r:R2)(f:OF):Prop:=∀(A:Addr->Prop)(H:Hp)(x y:V)(dx dy:PyData),(∀b,A b->∃o,H b=some o)->Rp (Offs A H) dx x->Rp (Offs A H) dy y->∀d fr,f dx dy=some (d,fr)->∀Q:VK,
 (∀v H',Same H H'->Rp (Offs A H') d v->(fr=true->∃a,v=.ref a/\H a=none/\zek (Offs (λb=>A b\/b=a) H') H' a d)->Q v H')->r x y H Q
noncomputable def eOp(f:OF)(a b:EF):EF:=λenv=>(a env).bind λx=>(b env).bind λy=>(f x.d y.d).bind λz=>some ⟨z.1,z.2,bsOf z.1 (x.bs++y.bs)⟩
theorem zbe{r:R2}{f:OF}{ta tb:TE}{fa fb:EF}(ho:SO r f)(ha:SE ta fa)(hb:SE tb fb):SE (tOp r ta tb) (eOp f fa fb):=by
 intro fx H0 env σ H h rr hr Q q
 unfold eOp at hr
 obtain⟨x,ex,hr⟩:=qA.mp hr
 obtain⟨y,ey,hr⟩:=qA.mp hr
 obtain⟨⟨d,fr⟩,ez,hr⟩:=qA.mp hr
 cases hr
 refine ha fx H0 env σ H h x ex _ λv H1 s1 v1=>hb fx H0 env σ H1 (h.up s1) y ey _ λu H2 s2 v2=>?_
 have l1:∀b,lim fx env σ (x.bs++y.bs) b->lim fx env σ x.bs b:=znt λi hi=>qy _ hi
 have l2:∀b,lim fx env σ (x.bs++y.bs) b->lim fx env σ y.bs b:=znt λi hi=>ql _ hi
 refine ho (lim fx env σ (x.bs++y.bs)) H2 v u x.d y.d ((h.up (s1.trans s2)).lims _) (v1.later (Same.refl _) s2 l1).rp (v2.later (Same.refl _) (Same.refl _) l2).rp d fr ez _ λw H3 s3 rp fr3=>q w H3 ((s1.trans s2).trans s3) ⟨znv rp,λe=>?_⟩
 obtain⟨a,g1,g2,g3⟩:=fr3 e
 refine⟨a,g1,(s1.trans s2).free g2,?_⟩
 have nf:zfn d=false:=by cases d<;>first|rfl|exact g3.elim
 show zek (Offs (λb=>lim fx env σ (bsOf d (x.bs++y.bs)) b\/b=a) H3) H3 a d
 rw[show bsOf d (x.bs++y.bs)=x.bs++y.bs by unfold bsOf;rw[if_neg (by rw[nf];decide)]]
 exact g3
end
theorem zid{n:Nat}(h:n<=100000):n<=qY:=qAd h (by decide)
theorem zqi{n:Nat}(h:n<100000):n<qY:=Nat.lt_trans h (by decide)
theorem zfr{A:Addr->Prop}{H:Hp}(hA:∀b,A b->∃o,H b=some o){p:Addr}(hp:H p=none):¬A p:=λz=>by
 obtain⟨o,e⟩:=hA p z
 rw[hp]at e;cases e
theorem zyj{A:Addr->Prop}{H:Hp}{p:Addr}{ds:List PyData}{xs:List V}(hp:H p=none)(r:Rps (Offs A H) ds xs):zek (Offs (λb=>A b\/b=p) (upd H p (.lst xs))) (upd H p (.lst xs)) p (.list ds):=by
 refine⟨xs,zbh,Rps.same (Offs.mono (Same.new hp) λb o e n z=>?_) _ r⟩
 rcases z with z|z
 ·exact n z
 ·rw[z,hp]at e;cases e
theorem zaed{A:Addr->Prop}{H:Hp}{p:Addr}{ds:List PyData}{xs:List V}(hp:H p=none)(hA:¬A p)(r:Rps (Offs A H) ds xs):Rp (Offs A (upd H p (.lst xs))) (.list ds) (.ref p):=
 zlc (by rw[Offs.get hA];exact zbh) (Rps.same (Offs.grow (Same.new hp)) _ r)
theorem zqj{A:Addr->Prop}{H:Hp}{p:Addr}{ds:List PyData}{xs:List V}(hp:H p=none)(hA:¬A p)(r:Rps (Offs A H) ds xs):Rp (Offs A (upd H p (.tup xs))) (.tuple ds) (.ref p):=
 zyh (by rw[Offs.get hA];exact zbh) (Rps.same (Offs.grow (Same.new hp)) _ r)
theorem zdl{A:Addr->Prop}{H:Hp}{a:Addr}{o:HO}(h:Offs A H a=some o):H a=some o:=(Offs.of h).2
noncomputable def addD:OF
 | .int i,.int j=>some (.int (i+j),false)
 | .str a,.str b=>if a.length+b.length<=100000 then some (.str (a++b),false)else none
 | .list a,.list b=>if a.length+b.length<=100000 then some (.list (a++b),true)else none
 | .tuple a,.tuple b=>if a.isEmpty=false/\a.length+b.length<=100000 then some (.tuple (a++b),false)else none
 | _,_=>none
theorem zgj{K:qC}:SO (zalo K) addD:=by
 intro A H x y dx dy hA rx ry d fr e Q q
 unfold addD at e
 split at e
 ·cases e
  cases zdc rx;cases zdc ry
  exact q _ H (Same.refl _) zab (λz=>by cases z)
 ·split at e
  ·rename_i hl
   cases e
   cases zor rx;cases zor ry
   exact⟨zid hl,q _ H (Same.refl _) zbr (λz=>by cases z)⟩
  ·cases e
 ·split at e
  ·rename_i hl
   cases e
   obtain⟨p,xs,rfl,hp,r1⟩:=zdt rx
   obtain⟨p',ys,rfl,hp',r2⟩:=zdt ry
   refine .inl ⟨p,p',xs,ys,rfl,rfl,zdl hp,zdl hp',zid (by rw[<- r1.length,<- r2.length];exact hl),λb hb=>?_⟩
   exact q _ _ (Same.new hb) (zaed hb (zfr hA hb) (r1.append r2)) λ_=>⟨b,rfl,hb,zyj hb (r1.append r2)⟩
  ·cases e
 ·split at e
  ·rename_i hl
   cases e
   obtain⟨p,xs,rfl,hp,r1⟩:=zde rx
   obtain⟨p',ys,rfl,hp',r2⟩:=zde ry
   refine .inr ⟨p,p',xs,ys,rfl,rfl,SqT.of (zdl hp),SqT.of (zdl hp'),λz=>?_,zid (by rw[<- r1.length,<- r2.length];exact hl.2),λz=>?_,λ_ b hb=>?_⟩
   ·have h1:=r1.length
    have h0:=hl.1
    rw[z]at h1
    rw[List.isEmpty_eq_false_iff]at h0
    exact h0 (qA3.mp h1)
   ·have h2:=r2.length
    rw[z]at h2
    have:=qA3.mp h2
    subst this
    rw[qAV]at q
    exact q _ H (Same.refl _) rx (λz=>by cases z)
   ·exact q _ _ (Same.new hb) (zqj hb (zfr hA hb) (r1.append r2)) (λz=>by cases z)
  ·cases e
 ·cases e
noncomputable def intD(c:Int->Int->Bool)(f:Int->Int->PyData):OF
 | .int i,.int j=>if c i j=true then some (f i j,false)else none
 | _,_=>none
theorem zaee{C:Int->Int->Prop}{g:Int->Int->V}{c:Int->Int->Bool}{f:Int->Int->PyData}(hc:∀i j,c i j=true->C i j)(hf:∀H i j,Rp H (f i j) (g i j)):SO (rI C g) (intD c f):=by
 intro A H x y dx dy hA rx ry d fr e Q q
 unfold intD at e
 split at e
 ·split at e
  ·rename_i h
   cases e
   cases zdc rx;cases zdc ry
   exact⟨_,_,rfl,rfl,hc _ _ h,q _ H (Same.refl _) (hf _ _ _) (λz=>by cases z)⟩
  ·cases e
 ·cases e
theorem zyk{g:Int->Int->V}{f:Int->Int->PyData}(hf:∀H i j,Rp H (f i j) (g i j)):SO (rI0 g) (intD (λ_ _=>true) f):=by
 intro A H x y dx dy hA rx ry d fr e Q q
 unfold intD at e
 split at e
 ·split at e
  ·cases e
   cases zdc rx;cases zdc ry
   exact⟨_,_,rfl,rfl,q _ H (Same.refl _) (hf _ _ _) (λz=>by cases z)⟩
  ·cases e
 ·cases e
noncomputable def ltD:OF:=intD (λ_ _=>true) λi j=>.bool (decide (i<j))
theorem zalt:SO (rI0 λi j=>.bl (decide (i<j))) ltD:=zyk λ_ _ _=>zau
noncomputable def leD:OF:=intD (λ_ _=>true) λi j=>.bool (decide (i<=j))
theorem zapg:SO (rI0 λi j=>.bl (decide (i<=j))) leD:=zyk λ_ _ _=>zau
noncomputable def gtD:OF:=intD (λ_ _=>true) λi j=>.bool (decide (j<i))
theorem zabo:SO (rI0 λi j=>.bl (decide (j<i))) gtD:=zyk λ_ _ _=>zau
noncomputable def modD:OF:=intD (λ_ j=>decide (0<j)) λi j=>.int (i % j)
theorem zos:SO (rI (λ_ j=>0<j) λi j=>.int (i % j)) modD:=zaee (λ_ _ h=>of_decide_eq_true h) λ_ _ _=>zab
noncomputable def zyl:OF:=intD (λ_ j=>decide (0<j/\j<1073741824)) λi j=>.int (i / j)
theorem zaef:SO (rI CDiv λi j=>.int (i / j)) zyl:=zaee (λi j h=>(of_decide_eq_true h:0<j/\j<1073741824)) λ_ _ _=>zab
noncomputable def powD:OF:=intD (λi j=>decide (0<=j/\j<=1000000/\i.natAbs<2 ^ 64)) λi j=>.int (i ^ j.toNat)
theorem zaph:SO (rI CPow λi j=>.int (i ^ j.toNat)) powD:=zaee (λi j h=>(of_decide_eq_true h:0<=j/\j<=1000000/\i.natAbs<2 ^ 64)) λ_ _ _=>zab
noncomputable def mulD:OF
 | .int i,.int j=>if(-(2 ^ 64)<i/\i<2 ^ 64)\/(-(2 ^ 64)<j/\j<2 ^ 64)then some (.int (i * j),false)else none
 | .str z,.int n=>if z.length<=1000/\-1000<=n/\n<=1000 then some (.str (Txt.mul z n),false)else none
 | _,_=>none
theorem zln:SO zape mulD:=by
 intro A H x y dx dy hA rx ry d fr e Q q
 unfold mulD at e
 split at e
 ·split at e
  ·rename_i h
   cases e
   cases zdc rx;cases zdc ry
   exact⟨h,q _ H (Same.refl _) zab (λz=>by cases z)⟩
  ·cases e
 ·split at e
  ·rename_i h
   cases e
   cases zor rx;cases zdc ry
   exact⟨h.1,h.2.1,h.2.2,q _ H (Same.refl _) zbr (λz=>by cases z)⟩
  ·cases e
 ·cases e
mutual
theorem zvr{K:qC}{H:Hp}:∀{d:PyData}{v:V},d.canLay0=true->Rp H d v->Rep K H d v
 | .none,v,_,h=>by unfold Rp at h;unfold Rep;exact h
 | .bool b,v,_,h=>by unfold Rp at h;unfold Rep;exact h
 | .int i,v,_,h=>by unfold Rp at h;unfold Rep;exact h
 | .str x,v,_,h=>by unfold Rp at h;unfold Rep;exact h
 | .list ds,v,c,h=>by
  obtain⟨a,xs,e,h1,h2⟩:=zdt h
  unfold Rep
  exact⟨a,xs,e,SqL.of h1,ztr (by simpa [PyData.canLay0]using c) h2⟩
 | .tuple ds,v,c,h=>by
  obtain⟨a,xs,e,h1,h2⟩:=zde h
  unfold Rep
  exact⟨a,xs,e,SqT.of h1,ztr (by simpa [PyData.canLay0]using c) h2⟩
 | .dict _,v,c,h=>by simp[PyData.canLay0]at c
theorem ztr{K:qC}{H:Hp}:∀{ds:List PyData}{vs:List V},qAY ds=true->Rps H ds vs->Reps K H ds vs
 | [],vs,_,h=>by unfold Rps at h;unfold Reps;exact h
 | d::ds,vs,c,h=>by
  unfold Rps at h
  obtain⟨v,ws,e,h1,h2⟩:=h
  have c:d.canLay0=true/\qAY ds=true:=by simpa [qAY]using c
  unfold Reps
  exact⟨v,ws,e,zvr c.1 h1,ztr c.2 h2⟩
end
noncomputable def zahn:PyData->PyData->Bool
 | .none,.none=>true|.none,.int _=>true|.int _,.none=>true|.none,.bool _=>true|.bool _,.none=>true|.none,.str _=>true|.str _,.none=>true
 | .int _,.int _=>true|.bool _,.bool _=>true|.str _,.str _=>true
 | .int _,.str _=>true|.str _,.int _=>true|.bool _,.str _=>true|.str _,.bool _=>true
 | _,_=>false
noncomputable def eqOk(dx dy:PyData):Bool:=zahn dx dy||(qAg dx&&qAg dy)
noncomputable def eqD:OF:=λdx dy=>if eqOk dx dy=true then some (.bool (qAX dx dy),false)else none
noncomputable def neD:OF:=λdx dy=>if eqOk dx dy=true then some (.bool (!PyData.eqv dx dy),false)else none
theorem zaeg{H:Hp}{dx dy:PyData}{x y:V}(s:zahn dx dy=true)(rx:Rp H dx x)(ry:Rp H dy y):scal x y=true/\decide (x=y)=qAX dx dy:=by
 cases dx<;>cases dy<;>first
  | (exact absurd (show false=true from s) qJ)
  | (unfold Rp at rx ry;subst rx;subst ry;refine⟨rfl,?_⟩;first|rfl|exact zyc|exact zzz|exact zyd|simp[qAX])
theorem zmh{K:qC}:SO (λx y H Q=>rEq x y H Q\/rEqD K false x y H Q) eqD:=by
 intro A H x y dx dy hA rx ry d fr e Q q
 unfold eqD at e
 split at e
 ·rename_i h
  cases e
  cases hs:zahn dx dy with
  | true=>
   obtain⟨h1,h2⟩:=zaeg hs rx ry
   exact .inl ⟨h1,by rw[h2];exact q _ H (Same.refl _) zau (λz=>by cases z)⟩
  | false=>
   unfold eqOk at h
   rw[hs,qCY,qZ]at h
   have rx:=Rp.same (Offs.same A H) _ rx
   have ry:=Rp.same (Offs.same A H) _ ry
   exact .inr ⟨dx,dy,zvr (qAs h.1) rx,zvr (qAs h.2) ry,h.1,h.2,q _ H (Same.refl _) zau (λz=>by cases z)⟩
 ·cases e
theorem zym{K:qC}:SO (λx y H Q=>rNe x y H Q\/rEqD K true x y H Q) neD:=by
 intro A H x y dx dy hA rx ry d fr e Q q
 unfold neD at e
 split at e
 ·rename_i h
  cases e
  cases hs:zahn dx dy with
  | true=>
   obtain⟨h1,h2⟩:=zaeg hs rx ry
   exact .inl ⟨h1,by rw[h2];exact q _ H (Same.refl _) zau (λz=>by cases z)⟩
  | false=>
   unfold eqOk at h
   rw[hs,qCY,qZ]at h
   have rx:=Rp.same (Offs.same A H) _ rx
   have ry:=Rp.same (Offs.same A H) _ ry
   exact .inr ⟨dx,dy,zvr (qAs h.1) rx,zvr (qAs h.2) ry,h.1,h.2,q _ H (Same.refl _) zau (λz=>by cases z)⟩
 ·cases e
noncomputable def zel(ds:List PyData):Bool:=ds.all zfn
theorem zaeh{H:Hp}{d:PyData}{v:V}(f:zfn d=true)(h:Rp H d v):zno v=true:=by
 cases d<;>first
  | (unfold Rp at h;subst h;rfl)
  | cases f
theorem zaei{H:Hp}{ds:List PyData}{vs:List V}(f:zel ds=true)(h:Rps H ds vs):vs.all zno=true:=by
 replace h:=zcb.mp h
 induction h with
 | nil=>rfl
 | cons h _ ih=>
  unfold zel at f
  rw[qAm,qZ]at f
  rw[qAm,zaeh f.1 h,ih f.2];rfl
theorem zaej{H:Hp}{d e:PyData}{v u:V}(f:zfn d=true)(g:zfn e=true)(h:Rp H d v)(k:Rp H e u):eqV v u=qAX d e:=by
 cases d<;>cases e<;>first
  | (unfold Rp at h k;subst h;subst k;rfl)
  | exact absurd (show false=true from f) qJ
  | exact absurd (show false=true from g) qJ
theorem zalu{H:Hp}{d:PyData}{v:V}(f:zfn d=true)(h:Rp H d v){ds:List PyData}{vs:List V}(g:zel ds=true)(r:Rps H ds vs):inV v vs=ds.any λe=>qAX e d:=by
 replace r:=zcb.mp r
 unfold inV
 induction r with
 | nil=>rfl
 | cons r _ ih=>
  unfold zel at g
  rw[qAm,qZ]at g
  rw[qAc,qAc,zaej g.1 f r h,ih g.2]
noncomputable def zhw:PyData->Option (List PyData)
 | .list ds=>some ds
 | .tuple ds=>some ds
 | _=>none
noncomputable def inD(neg:Bool):OF:=λd c=>match zhw c with
 | some ds=>if zfn d=true/\zel ds=true then some (.bool (if neg then !(ds.any λe=>qAX e d)else ds.any λe=>qAX e d),false)else none
 | none=>none
theorem zaho{K:qC}{H:Hp}{c:PyData}{v:V}{ds:List PyData}(h:Rp H c v)(e:zhw c=some ds):∃p xs,v=.ref p/\(SqL K H p xs\/SqT K H p xs)/\Rps H ds xs:=by
 cases c<;>first
  | cases e
  | skip
 ·obtain⟨a,xs,e,h1,h2⟩:=zdt h;exact⟨a,xs,e,.inl (SqL.of h1),h2⟩
 ·obtain⟨a,xs,e,h1,h2⟩:=zde h;exact⟨a,xs,e,.inr (SqT.of h1),h2⟩
theorem zts{K:qC}{neg:Bool}:SO (rIn K neg) (inD neg):=by
 intro A H x y dx dy hA rx ry d fr e Q q
 unfold inD at e
 split at e
 ·rename_i ds hi
  split at e
  ·rename_i h
   cases e
   have rx:=Rp.same (Offs.same A H) _ rx
   obtain⟨p,xs,rfl,hq,r⟩:=zaho (K:=K) (Rp.same (Offs.same A H) _ ry) hi
   refine⟨p,xs,rfl,hq,zaeh h.1 rx,zaei h.2 r,?_⟩
   rw[zalu h.1 rx h.2 r]
   refine q _ H (Same.refl _) ?_ (λz=>by cases z)
   cases neg<;>exact zau
  ·cases e
 ·cases e
noncomputable def ixD:OF
 | .str z,.int i=>if z.length<=100000 then(atI z.cps.toList i).map λc=>(.str ⟨#[c]⟩,false)else none
 | .list ds,.int i=>(atI ds i).map λd=>(d,false)
 | .tuple ds,.int i=>(atI ds i).map λd=>(d,false)
 | _,_=>none
theorem Rps.atI{H:Hp}{ds:List PyData}{vs:List V}(h:Rps H ds vs){i:Int}{d:PyData}(e:atI ds i=some d):∃v,L2.atI vs i=some v/\Rp H d v:=by
 unfold L2.atI at e ⊢
 rw[<- h.length]
 cases g:ixN ds.length i with
 | none=>rw[g]at e;cases e
 | some j=>
  rw[g]at e
  exact h.get2 e
theorem znw{K:qC}:SO (rIxU K) ixD:=by
 intro A H x y dx dy hA rx ry d fr e Q q
 unfold ixD at e
 split at e
 ·split at e
  ·rename_i z i hl
   obtain⟨c,hc,e⟩:=qI.mp e
   cases e
   cases zor rx;cases zdc ry
   exact⟨zid hl,c,hc,q _ H (Same.refl _) zbr (λz=>by cases z)⟩
  ·cases e
 ·obtain⟨c,hc,e⟩:=qI.mp e
  cases e
  obtain⟨p,xs,rfl,hp,r⟩:=zdt rx
  cases zdc ry
  obtain⟨v,hv,rv⟩:=r.atI hc
  exact⟨xs,v,.inl (SqL.of (zdl hp)),hv,q _ H (Same.refl _) rv (λz=>by cases z)⟩
 ·obtain⟨c,hc,e⟩:=qI.mp e
  cases e
  obtain⟨p,xs,rfl,hp,r⟩:=zde rx
  cases zdc ry
  obtain⟨v,hv,rv⟩:=r.atI hc
  exact⟨xs,v,.inr (SqT.of (zdl hp)),hv,q _ H (Same.refl _) rv (λz=>by cases z)⟩
 ·cases e
noncomputable def zmi:List (PyData×PyData)->Key->Option PyData
 | [],_=>none
 | (k,d)::r,j=>if keyD k=some j then some d else zmi r j
noncomputable def zyn(kvs:List (PyData×PyData))(j:Key):Bool:=(zmi kvs j).isSome
noncomputable def zqk(kvs:List (PyData×PyData))(k:PyData)(d:PyData):List (PyData×PyData):=
 if(kvs.any λkv=>decide (keyD kv.1=keyD k))=true then kvs.map (λkv=>if keyD kv.1=keyD k then(kv.1,d)else kv)else kvs++[(k,d)]
noncomputable def znx(kvs more:List (PyData×PyData)):List (PyData×PyData):=more.foldl (λacc kv=>zqk acc kv.1 kv.2) kvs
theorem zld{H:Hp}{k d:PyData}{r:List (PyData×PyData)}{k':Key}{v:V}{vs:List (Key×V)}(hk:keyD k=some k')(h:Rp H d v)(q:Rpd H r vs):Rpd H ((k,d)::r) ((k',v)::vs):=by
 show Rpd H ((k,d)::r) _
 unfold Rpd;exact⟨k',v,vs,rfl,hk,h,q⟩
theorem zgz{H:Hp}{k d:PyData}{r:List (PyData×PyData)}{ps:List (Key×V)}(h:Rpd H ((k,d)::r) ps):∃k' v vs,ps=(k',v)::vs/\keyD k=some k'/\Rp H d v/\Rpd H r vs:=by
 unfold Rpd at h;exact h
theorem Rpd.length{H:Hp}:∀{kvs:List (PyData×PyData)}{ps:List (Key×V)},Rpd H kvs ps->kvs.length=ps.length
 | [],ps,h=>by unfold Rpd at h;subst h;rfl
 | (k,d)::r,ps,h=>by
  obtain⟨k',v,vs,rfl,_,_,h3⟩:=zgz h
  rw[qv,qv,h3.length]
theorem Rpd.get{H:Hp}{j:Key}:∀{kvs:List (PyData×PyData)}{ps:List (Key×V)},Rpd H kvs ps->match zmi kvs j with
  | some d=>∃v,valV ps j=some v/\Rp H d v
  | none=>valV ps j=none
 | [],ps,h=>by unfold Rpd at h;subst h;rfl
 | (k,d)::r,ps,h=>by
  obtain⟨k',v,vs,rfl,hk,h2,h3⟩:=zgz h
  have ih:=Rpd.get (j:=j) h3
  unfold zmi
  by_cases e:k'=j
  ·rw[if_pos (by rw[hk,e])]
   exact⟨v,zpp e,h2⟩
  ·rw[if_neg (λz=>e (by rw[hk]at z;exact qS z)),zpq e]
   exact ih
theorem Rpd.any{H:Hp}{j:Key}:∀{kvs:List (PyData×PyData)}{ps:List (Key×V)},Rpd H kvs ps->(kvs.any λkv=>decide (keyD kv.1=some j))=ps.any λkv=>decide (kv.1=j)
 | [],ps,h=>by unfold Rpd at h;subst h;rfl
 | (k,d)::r,ps,h=>by
  obtain⟨k',v,vs,rfl,hk,h2,h3⟩:=zgz h
  rw[qAc,qAc,h3.any,hk]
  congr 1
  simp
theorem Rpd.map{H:Hp}{j:Key}{d':PyData}{v':V}(h':Rp H d' v'):∀{kvs:List (PyData×PyData)}{ps:List (Key×V)},Rpd H kvs ps->Rpd H (kvs.map λkv=>if keyD kv.1=some j then(kv.1,d')else kv) (ps.map λkv=>if kv.1=j then(kv.1,v')else kv)
 | [],ps,h=>by unfold Rpd at h;subst h;exact zns
 | (k,d)::r,ps,h=>by
  obtain⟨k',v,vs,rfl,hk,h2,h3⟩:=zgz h
  rw[qp,qp]
  by_cases e:k'=j
  ·rw[if_pos (show keyD (k,d).1=some j by rw[hk,e]),if_pos (show((k',v):Key×V).1=j from e)]
   exact zld hk h' (Rpd.map h' h3)
  ·rw[if_neg (show ¬keyD (k,d).1=some j from λz=>e (by rw[hk]at z;exact qS z)),if_neg (show ¬((k',v):Key×V).1=j from e)]
   exact zld hk h2 (Rpd.map h' h3)
theorem Rpd.snoc{H:Hp}{k d:PyData}{k':Key}{v:V}(hk:keyD k=some k')(h':Rp H d v):∀{kvs:List (PyData×PyData)}{ps:List (Key×V)},Rpd H kvs ps->Rpd H (kvs++[(k,d)]) (ps++[(k',v)])
 | [],ps,h=>by unfold Rpd at h;subst h;exact zld hk h' zns
 | (k0,d0)::r,ps,h=>by
  obtain⟨k1,v1,vs,rfl,hk1,h2,h3⟩:=zgz h
  exact zld hk1 h2 (Rpd.snoc hk h' h3)
theorem Rpd.put{H:Hp}{k d:PyData}{j:Key}{v:V}{kvs:List (PyData×PyData)}{ps:List (Key×V)}(h:Rpd H kvs ps)(hk:keyD k=some j)(h':Rp H d v):Rpd H (zqk kvs k d) (putK ps j v):=by
 unfold zqk putK
 rw[hk,h.any]
 split
 ·exact h.map h'
 ·exact h.snoc hk h'
theorem Rpd.merge{H:Hp}:∀{more:List (PyData×PyData)}{ps:List (Key×V)}{kvs:List (PyData×PyData)}{qs:List (Key×V)},Rpd H kvs qs->Rpd H more ps->Rpd H (znx kvs more) (zme qs ps)
 | [],ps,kvs,qs,h,g=>by unfold Rpd at g;subst g;exact h
 | (k,d)::r,ps,kvs,qs,h,g=>by
  obtain⟨k',v,vs,rfl,hk,h2,h3⟩:=zgz g
  show Rpd H (znx (zqk kvs k d) r) (zme (putK qs k' v) vs)
  exact Rpd.merge (h.put hk h2) h3
theorem zahp{H:Hp}{d:PyData}{v:V}{k:Key}(h:Rp H d v)(e:keyD d=some k):v=kV k:=by
 cases d<;>first
  | (cases e;unfold Rp at h;exact h)
  | cases e
noncomputable def zasd(a b:EF):EF:=λenv=>(a env).bind λx=>(b env).bind λy=>match x.d with
 | .dict kvs=>(keyD y.d).bind λk=>(zmi kvs k).bind λd=>some ⟨d,false,bsOf d x.bs⟩
 | _=>none
noncomputable def eDIn(neg:Bool)(a b:EF):EF:=λenv=>(a env).bind λx=>(b env).bind λy=>match y.d with
 | .dict kvs=>(keyD x.d).bind λk=>some ⟨.bool (if neg then !zyn kvs k else zyn kvs k),false,[]⟩
 | _=>none
theorem zalv{H:Hp}{kvs:List (PyData×PyData)}{ps:List (Key×V)}(r:Rpd H kvs ps)(k:Key):(valV ps k).isSome=zyn kvs k:=by
 have g:=r.get (j:=k)
 unfold zyn
 cases e:zmi kvs k with
 | none=>rw[e]at g;rw[show valV ps k=none from g];rfl
 | some d=>rw[e]at g;obtain⟨w,e1,_⟩:=g;rw[e1];rfl
theorem zapi{td ty:TE}{fa fb:EF}(ha:SE ty fa)(hb:SE td fb):SE (tDIn ty td) (eDIn false fa fb):=by
 intro fx H0 env σ H h rr hr Q q
 unfold eDIn at hr
 obtain⟨⟨dx,frx,bx⟩,ex,hr⟩:=qA.mp hr
 obtain⟨⟨dy,fry,by'⟩,ey,hr⟩:=qA.mp hr
 cases dy with
 | dict kvs=>
  obtain⟨k,ek,hr⟩:=qA.mp hr
  cases hr
  refine ha fx H0 env σ H h _ ex _ λv H1 s1 v1=>hb fx H0 env σ H1 (h.up s1) _ ey _ λu H2 s2 v2=>?_
  obtain⟨a,ps,rfl,hp,r⟩:=znq v2.rp
  rw[zahp v1.rp ek]
  exact⟨a,_,rfl,DGet.k (zdl hp),by rw[zalv r k];exact q _ H2 (s1.trans s2) ⟨zau,λz=>by cases z⟩⟩
 | _=>cases hr
noncomputable def zas(f:EF):TF:=λenv=>(f env).bind λr=>match r.d with|.bool b=>some b|_=>none
theorem st_b{te:TE}{f:EF}(h:SE te f):ST (tB te) (zas f):=by
 intro fx H0 env σ H hE b hb Q q
 unfold zas at hb
 obtain⟨⟨d,fr,bs⟩,e,hb⟩:=qA.mp hb
 cases d with
 | bool c=>
  have hb:some c=some b:=hb
  cases hb
  exact h fx H0 env σ H hE _ e _ λv H' s v1=>⟨_,ziy v1.rp,q H' s⟩
 | _=>cases hb
theorem st_t{te:TE}{f:EF}(h:SE te f):ST (tTest te) (zas f):=st_b h
noncomputable def truD:PyData->Option Bool
 | .none=>some false
 | .bool b=>some b
 | .int i=>some (i != 0)
 | .str x=>if x.length<=100000 then some ((x.length:Int) != 0)else none
 | .list ds=>some (!ds.isEmpty)
 | .tuple ds=>some (!ds.isEmpty)
 | .dict ds=>some (!ds.isEmpty)
noncomputable def tTru(f:EF):TF:=λenv=>(f env).bind λr=>truD r.d
theorem zmb{α β:Type}{xs:List α}{ys:List β}(h:xs.length=ys.length):xs.isEmpty=ys.isEmpty:=by
 cases xs<;>cases ys<;>simp at h<;>rfl
theorem zarq{K:qC}{H:Hp}{d:PyData}{v:V}{b:Bool}(h:Rp H d v)(e:truD d=some b):TruV K v H b:=by
 cases d with
 | none=>cases e;cases zaec h;rfl
 | bool c=>cases e;cases ziy h;rfl
 | int i=>cases e;cases zdc h;rfl
 | str x=>
  have e:(if x.length<=100000 then some ((x.length:Int) != 0)else none)=some b:=e
  split at e
  ·rename_i hl;cases e;cases zor h;exact⟨zid hl,rfl⟩
  ·cases e
 | list ds=>cases e;obtain⟨a,xs,rfl,h1,h2⟩:=zdt h;exact .inl ⟨xs,SqL.of h1,by rw[zmb h2.length]⟩
 | tuple ds=>cases e;obtain⟨a,xs,rfl,h1,h2⟩:=zde h;exact .inr (.inl ⟨xs,SqT.of h1,by rw[zmb h2.length]⟩)
 | dict ds=>cases e;obtain⟨a,xs,rfl,h1,h2⟩:=znq h;exact .inr (.inr ⟨xs,h1,by rw[zmb h2.length]⟩)
theorem zjz{K:qC}{te:TE}{f:EF}(h:SE te f):ST (λσ H Q=>te σ H λx H1=>∃k,TruV K x H1 k/\Q k H1) (tTru f):=by
 intro fx H0 env σ H hE b hb Q q
 unfold tTru at hb
 obtain⟨r,e,hb⟩:=qA.mp hb
 exact h fx H0 env σ H hE _ e _ λv H' s v1=>⟨b,zarq (Rp.same (Offs.same _ _) _ v1.rp) hb,q H' s⟩
noncomputable def zyo(f g:TF):TF:=λenv=>(f env).bind λb=>if b=true then g env else some false
noncomputable def tOrF(f g:TF):TF:=λenv=>(f env).bind λb=>if b=true then some true else g env
noncomputable def zfe(f:TF):TF:=λenv=>(f env).map λb=>!b
theorem zapj{t u:TT}{f g:TF}(h:ST t f)(k:ST u g):ST (tAnd t u) (zyo f g):=by
 intro fx H0 env σ H hE b hb Q q
 unfold zyo at hb
 obtain⟨c,e,hb⟩:=qA.mp hb
 refine h fx H0 env σ H hE c e _ λH' s=>?_
 cases c with
 | true=>exact iteT (k fx H0 env σ H' (hE.up s) b hb _ λH'' s'=>q H'' (s.trans s'))
 | false=>cases hb;exact iteF (q H' s)
theorem zmj{t u:TT}{f g:TF}(h:ST t f)(k:ST u g):ST (tOr t u) (tOrF f g):=by
 intro fx H0 env σ H hE b hb Q q
 unfold tOrF at hb
 obtain⟨c,e,hb⟩:=qA.mp hb
 refine h fx H0 env σ H hE c e _ λH' s=>?_
 cases c with
 | false=>exact iteF (k fx H0 env σ H' (hE.up s) b hb _ λH'' s'=>q H'' (s.trans s'))
 | true=>cases hb;exact iteT (q H' s)
theorem zlo{t:TT}{f:TF}(h:ST t f):ST (tNot t) (zfe f):=by
 intro fx H0 env σ H hE b hb Q q
 unfold zfe at hb
 obtain⟨c,e,rfl⟩:=qI.mp hb
 exact h fx H0 env σ H hE c e _ λH' s=>q H' s
noncomputable def asB:PyData->Option Bool|.bool b=>some b|_=>none
noncomputable def eAnd(a b:EF):EF:=λenv=>(a env).bind λx=>(asB x.d).bind λc=>if c=true then b env else some ⟨.bool false,false,[]⟩
noncomputable def eNot(a:EF):EF:=λenv=>(a env).bind λx=>(asB x.d).map λc=>⟨.bool (!c),false,[]⟩
theorem as_b{H:Hp}{d:PyData}{v:V}{c:Bool}(h:Rp H d v)(e:asB d=some c):v=.bl c:=by
 cases d<;>first
  | (cases e;exact ziy h)
  | cases e
theorem zaek{ta tb:TE}{fa fb:EF}(ha:SE ta fa)(hb:SE tb fb):SE (tAndV ta tb) (eAnd fa fb):=by
 intro fx H0 env σ H h rr hr Q q
 unfold eAnd at hr
 obtain⟨x,ex,hr⟩:=qA.mp hr
 obtain⟨c,ec,hr⟩:=qA.mp hr
 refine ha fx H0 env σ H h _ ex _ λv H1 s1 v1=>⟨c,as_b v1.rp ec,?_⟩
 cases c with
 | true=>exact iteT (hb fx H0 env σ H1 (h.up s1) _ hr _ λu H2 s2 v2=>q u H2 (s1.trans s2) (v2.later s1 (Same.refl _) λ_ z=>z))
 | false=>cases hr;exact iteF (q _ H1 s1 ⟨zau,λz=>by cases z⟩)
theorem zapk{ta:TE}{fa:EF}(ha:SE ta fa):SE (tNotV ta) (eNot fa):=by
 intro fx H0 env σ H h rr hr Q q
 unfold eNot at hr
 obtain⟨x,ex,hr⟩:=qA.mp hr
 obtain⟨c,ec,rfl⟩:=qI.mp hr
 exact ha fx H0 env σ H h _ ex _ λv H1 s1 v1=>⟨c,as_b v1.rp ec,q _ H1 s1 ⟨zau,λz=>by cases z⟩⟩
noncomputable def aNil:AF:=λ_=>some []
noncomputable def zac(a:EF)(r:AF):AF:=λenv=>(a env).bind λx=>(r env).map λxs=>x::xs
theorem zaw:SA tNil aNil:=by
 intro fx H0 env σ H h rs hr Q q
 cases hr
 exact q [] H (Same.refl _) .nil
theorem zag{te:TE}{ta:TA}{f:EF}{g:AF}(h1:SE te f)(h2:SA ta g):SA (tCons te ta) (zac f g):=by
 intro fx H0 env σ H h rs hr Q q
 unfold zac at hr
 obtain⟨x,ex,hr⟩:=qA.mp hr
 obtain⟨xs,exs,rfl⟩:=qI.mp hr
 exact h1 fx H0 env σ H h x ex _ λv H1 s1 v1=>h2 fx H0 env σ H1 (h.up s1) xs exs _ λvs H2 s2 vs2=>q (v::vs) H2 (s1.trans s2)
  (.cons (v1.later (Same.refl _) s2 λ_ z=>z) (Paired.mapP vs2 λ_ _ z=>z.later s1 (Same.refl _) λ_ y=>y))
noncomputable def zka(rs:List Val):List PyData:=rs.map (·.d)
noncomputable def bss(rs:List Val):List Nat:=rs.flatMap (·.bs)
theorem ziz{fx:Addr->Prop}{env:DEnv}{σ:St}{H H':Hp}:∀{rs:List Val}{vs:List V}{cs:List Nat},(∀i∈bss rs,i∈cs)->Paired (λr v=>ValOk (lim fx env σ r.bs) H H' r v) rs vs->Rps (Offs (lim fx env σ cs) H') (zka rs) vs
 | _,_,_,_,.nil=>zfq
 | r::rs,v::vs,cs,hc,.cons h t=>zfd (Rp.same (Offs.sub (znt λi hi=>hc i (qB7.mpr ⟨r,qV,hi⟩))) _ h.rp)
   (ziz (λi hi=>hc i (by obtain⟨x,h1,h2⟩:=qB7.mp hi;exact qB7.mpr ⟨x,qM _ h1,h2⟩)) t)
noncomputable def eTup(f:AF):EF:=λenv=>(f env).bind λrs=>if rs.length<=100000 then some ⟨.tuple (zka rs),false,bss rs⟩else none
noncomputable def eLst(f:AF):EF:=λenv=>(f env).bind λrs=>if rs.length<=100000 then some ⟨.list (zka rs),true,bss rs⟩else none
theorem zmk(rs:List Val):(zka rs).length=rs.length:=by unfold zka;rw[qE]
theorem zajk{ta:TA}{f:AF}(ha:SA ta f):SE (tTup ta) (eTup f):=by
 intro fx H0 env σ H h rr hr Q q
 unfold eTup at hr
 obtain⟨rs,er,hr⟩:=qA.mp hr
 split at hr
 ·rename_i hl
  cases hr
  refine ha fx H0 env σ H h rs er _ λvs H1 s1 v1=>?_
  have r:=ziz (λi hi=>hi) v1
  have hA:=(h.up s1).lims (bss rs)
  refine⟨zid (by rw[<- r.length,zmk];exact hl),λp hp=>q _ _ (s1.trans (Same.new hp)) ⟨zqj hp (zfr hA hp) r,λz=>by cases z⟩⟩
 ·cases hr
theorem zem{ta:TA}{f:AF}(ha:SA ta f):SE (tLst ta) (eLst f):=by
 intro fx H0 env σ H h rr hr Q q
 unfold eLst at hr
 obtain⟨rs,er,hr⟩:=qA.mp hr
 split at hr
 ·rename_i hl
  cases hr
  refine ha fx H0 env σ H h rs er _ λvs H1 s1 v1=>?_
  have r:=ziz (λi hi=>hi) v1
  have hA:=(h.up s1).lims (bss rs)
  refine⟨zid (by rw[<- r.length,zmk];exact hl),λp hp=>q _ _ (s1.trans (Same.new hp)) ⟨zaed hp (zfr hA hp) r,λ_=>⟨p,rfl,s1.free hp,zyj hp r⟩⟩⟩
 ·cases hr
noncomputable def zli:EF:=λ_=>some ⟨.dict [],true,[]⟩
theorem zql:SE tDNewK zli:=by
 intro fx H0 env σ H h rr hr Q q
 cases hr
 intro p hp
 have hA:=h.lims []
 exact q _ _ (Same.new hp) ⟨znr (by rw[Offs.get (zfr hA hp)];exact zbh) zns,λ_=>⟨p,rfl,hp,⟨[],zbh,zns⟩⟩⟩
noncomputable def eD1(k v:EF):EF:=λenv=>(k env).bind λx=>(v env).bind λy=>(keyD x.d).bind λ_=>some ⟨.dict [(x.d,y.d)],true,y.bs⟩
theorem zapl{tk tv:TE}{f g:EF}(h1:SE tk f)(h2:SE tv g):SE (tDisp [(tk,tv)]) (eD1 f g):=by
 intro fx H0 env σ H h rr hr Q q
 unfold eD1 at hr
 obtain⟨x,ex,hr⟩:=qA.mp hr
 obtain⟨y,ey,hr⟩:=qA.mp hr
 obtain⟨k,ek,hr⟩:=qA.mp hr
 cases hr
 intro p hp
 have hp0:Same H (upd H p (.dK [])):=Same.new hp
 have npf:¬fx p:=zfr h.fxs hp
 have hE:EnvOk (λb=>fx b\/b=p) H0 env σ (upd H p (.dK [])):=h.grow hp0 (λb o e n z=>z.elim n λy=>by rw[y,hp]at e;cases e) λb z=>by
  rcases z with z|z
  ·obtain⟨o,e⟩:=h.fxs b z;exact⟨o,hp0 b o e⟩
  ·rw[z];exact⟨_,zbh⟩
 refine h1 _ H0 env σ _ hE x ex _ λv H1 s1 v1=>h2 _ H0 env σ H1 (hE.up s1) y ey _ λu H2 s2 v2=>?_
 have ep:H2 p=some (.dK []):=(s1.trans s2) _ _ zbh
 refine⟨ep,[(k,u)],by rw[zahp v1.rp ek];rfl,(by show 1<=15;decide),?_⟩
 have em:zme [] [(k,u)]=[(k,u)]:=rfl
 rw[em]
 have rp2:Rp (Offs (λb=>lim fx env σ y.bs b\/b=p) (upd H2 p (.dK [(k,u)]))) y.d u:=by
  rw[Offs.upd (.inr rfl)]
  exact Rp.same (Offs.sub λb z=>by
   rcases z with(z|z)|z
   ·exact .inl (.inl z)
   ·exact .inr z
   ·exact .inl (.inr z)) _ v2.rp
 have hs:Same H (upd H2 p (.dK [(k,u)])):=λb o e=>by
  rw[zbn (zby e hp)]
  exact s2 _ _ (s1 _ _ (hp0 _ _ e))
 have hnp:¬lim fx env σ y.bs p:=zfr (h.lims y.bs) hp
 refine q _ _ hs ⟨znr (by rw[Offs.get hnp];exact zbh) (zld ek (Rp.same (Offs.sub λb z=>.inl z) _ rp2) zns),λ_=>⟨p,rfl,hp,⟨_,zbh,zld ek rp2 zns⟩⟩⟩
noncomputable abbrev GF:=List PyData->Option (PyData×Bool)
noncomputable def SC(r:List V->Hp->VK->Prop)(g:GF):Prop:=∀(A:Addr->Prop)(H:Hp)(vs:List V)(ds:List PyData),(∀b,A b->∃o,H b=some o)->Rps (Offs A H) ds vs->∀d fr,g ds=some (d,fr)->∀Q:VK,
 (∀v H',Same H H'->Rp (Offs A H') d v->(fr=true->∃a,v=.ref a/\H a=none/\zek (Offs (λb=>A b\/b=a) H') H' a d)->Q v H')->r vs H Q
noncomputable def eCB(g:GF)(f:AF):EF:=λenv=>(f env).bind λrs=>(g (zka rs)).bind λz=>some ⟨z.1,z.2,bsOf z.1 (bss rs)⟩
theorem zgk{r:List V->Hp->VK->Prop}{g:GF}{ta:TA}{f:AF}(hc:SC r g)(ha:SA ta f):SE (tCB r ta) (eCB g f):=by
 intro fx H0 env σ H h rr hr Q q
 unfold eCB at hr
 obtain⟨rs,er,hr⟩:=qA.mp hr
 obtain⟨⟨d,fr⟩,ez,hr⟩:=qA.mp hr
 cases hr
 refine ha fx H0 env σ H h rs er _ λvs H1 s1 v1=>hc (lim fx env σ (bss rs)) H1 vs (zka rs) ((h.up s1).lims _) (ziz (λi hi=>hi) v1) d fr ez _ λw H3 s3 rp fr3=>q w H3 (s1.trans s3) ⟨znv rp,λe=>?_⟩
 obtain⟨a,g1,g2,g3⟩:=fr3 e
 refine⟨a,g1,s1.free g2,?_⟩
 have nf:zfn d=false:=by cases d<;>first|rfl|exact g3.elim
 show zek (Offs (λb=>lim fx env σ (bsOf d (bss rs)) b\/b=a) H3) H3 a d
 rw[show bsOf d (bss rs)=bss rs by unfold bsOf;rw[if_neg (by rw[nf];decide)]]
 exact g3
theorem rps1{H:Hp}{d:PyData}{vs:List V}(h:Rps H [d] vs):∃v,vs=[v]/\Rp H d v:=by
 unfold Rps at h
 obtain⟨v,ws,rfl,h1,h2⟩:=h
 unfold Rps at h2
 subst h2
 exact⟨v,rfl,h1⟩
theorem rps2{H:Hp}{d e:PyData}{vs:List V}(h:Rps H [d,e] vs):∃v u,vs=[v,u]/\Rp H d v/\Rp H e u:=by
 unfold Rps at h
 obtain⟨v,ws,rfl,h1,h2⟩:=h
 obtain⟨u,rfl,h3⟩:=rps1 h2
 exact⟨v,u,rfl,h1,h3⟩
noncomputable def lenD:GF
 | [.str x]=>if x.length<=100000 then some (.int x.length,false)else none
 | [.list ds]=>some (.int ds.length,false)
 | [.tuple ds]=>some (.int ds.length,false)
 | _=>none
theorem zij{K:qC}:SC (λxs H Q=>∃x n,xs=[x]/\LenV K x H n/\Q (.int n) H) lenD:=by
 intro A H vs ds hA rv d fr e Q q
 unfold lenD at e
 split at e
 ·split at e
  ·rename_i hl
   cases e
   obtain⟨v,rfl,r⟩:=rps1 rv
   cases zor r
   exact⟨_,_,rfl,⟨zid hl,rfl⟩,q _ H (Same.refl _) zab (λz=>by cases z)⟩
  ·cases e
 ·cases e
  obtain⟨v,rfl,r⟩:=rps1 rv
  obtain⟨a,xs,rfl,h1,h2⟩:=zdt r
  exact⟨_,_,rfl,.inl ⟨xs,SqL.of (zdl h1),rfl⟩,by rw[<- h2.length];exact q _ H (Same.refl _) zab (λz=>by cases z)⟩
 ·cases e
  obtain⟨v,rfl,r⟩:=rps1 rv
  obtain⟨a,xs,rfl,h1,h2⟩:=zde r
  exact⟨_,_,rfl,.inr ⟨xs,SqT.of (zdl h1),rfl⟩,by rw[<- h2.length];exact q _ H (Same.refl _) zab (λz=>by cases z)⟩
 ·cases e
noncomputable def minD:GF
 | [.int i,.int j]=>some (.int (if j<i then j else i),false)
 | _=>none
theorem zapm:SC (λxs H Q=>∃i j,xs=[.int i,.int j]/\Q (.int (if j<i then j else i)) H) minD:=by
 intro A H vs ds hA rv d fr e Q q
 unfold minD at e
 split at e
 ·cases e
  obtain⟨v,u,rfl,r1,r2⟩:=rps2 rv
  cases zdc r1;cases zdc r2
  exact⟨_,_,rfl,q _ H (Same.refl _) zab (λz=>by cases z)⟩
 ·cases e
noncomputable def absD:GF
 | [.int i]=>some (.int (if i<0 then -i else i),false)
 | _=>none
theorem zapn:SC (λxs H Q=>∃i,xs=[.int i]/\Q (.int (if i<0 then -i else i)) H) absD:=by
 intro A H vs ds hA rv d fr e Q q
 unfold absD at e
 split at e
 ·cases e
  obtain⟨v,rfl,r1⟩:=rps1 rv
  cases zdc r1
  exact⟨_,rfl,q _ H (Same.refl _) zab (λz=>by cases z)⟩
 ·cases e
noncomputable def zase:GF
 | [c]=>(zhw c).map λds=>(.list ds,true)
 | _=>none
noncomputable def zhn:GF
 | [c]=>(zhw c).map λds=>(.tuple ds,false)
 | _=>none
theorem zpr{K:qC}:SC (λxs H Q=>∃p ys,xs=[.ref p]/\((SqL K H p ys/\∀l,H l=none->Q (.ref l) (upd H l (.tup ys)))\/(SqT K H p ys/\Q (.ref p) H))) zhn:=by
 intro A H vs ds hA rv d fr e Q q
 unfold zhn at e
 split at e
 ·obtain⟨es,he,e⟩:=qI.mp e
  cases e
  obtain⟨v,rfl,r1⟩:=rps1 rv
  rename_i c
  cases c with
  | list ds=>
   cases he
   obtain⟨p,xs,rfl,h1,r⟩:=zdt r1
   exact⟨p,xs,rfl,.inl ⟨SqL.of (zdl h1),λl hl=>q _ _ (Same.new hl) (zqj hl (zfr hA hl) r) (λz=>by cases z)⟩⟩
  | tuple ds=>
   cases he
   obtain⟨p,xs,rfl,h1,r⟩:=zde r1
   exact⟨p,xs,rfl,.inr ⟨SqT.of (zdl h1),q _ H (Same.refl _) r1 (λz=>by cases z)⟩⟩
  | _=>cases he
 ·cases e
noncomputable def zqm:List PyData->Option (List Bool)
 | []=>some []
 | .bool b::r=>(zqm r).map λbs=>b::bs
 | _=>none
theorem zvs{H:Hp}:∀{ds:List PyData}{vs:List V}{bs:List Bool},Rps H ds vs->zqm ds=some bs->vs=bs.map V.bl
 | [],vs,bs,h,e=>by unfold Rps at h;cases e;exact h
 | d::ds,vs,bs,h,e=>by
  unfold Rps at h
  obtain⟨v,ws,rfl,h1,h2⟩:=h
  cases d with
  | bool b=>
   obtain⟨cs,ec,rfl⟩:=qI.mp e
   rw[ziy h1,zvs h2 ec];rfl
  | _=>cases e
noncomputable def anyD(f:List Bool->Bool):GF
 | [.list ds]=>(zqm ds).map λbs=>(.bool (f bs),false)
 | _=>none
theorem zot{K:qC}{f:List Bool->Bool}:SC (rAny K f) (anyD f):=by
 intro A H vs ds hA rv d fr e Q q
 unfold anyD at e
 split at e
 ·obtain⟨bs,he,e⟩:=qI.mp e
  cases e
  obtain⟨v,rfl,r1⟩:=rps1 rv
  obtain⟨p,xs,rfl,h1,r⟩:=zdt r1
  cases zvs r he
  exact⟨p,bs,rfl,SqL.of (zdl h1),q _ H (Same.refl _) zau (λz=>by cases z)⟩
 ·cases e
noncomputable def zou:PyData->String
 | .none=>"NoneType"|.bool _=>"bool"|.int _=>"int"|.str _=>"str"|.list _=>"list"|.tuple _=>"tuple"|.dict _=>"dict"
theorem zarr{K:qC}{H:Hp}{d:PyData}{v:V}(h:Rp H d v):TyOf K H v (.type (zou d)):=by
 cases d with
 | list ds=>obtain⟨a,xs,rfl,h1,_⟩:=zdt h;exact .lst h1
 | tuple ds=>obtain⟨a,xs,rfl,h1,_⟩:=zde h;exact .tup h1
 | dict ds=>obtain⟨a,xs,rfl,h1,_⟩:=znq h;exact .dK h1
 | none=>cases zaec h;exact .non
 | bool b=>cases ziy h;exact .bl _
 | int b=>cases zdc h;exact .int _
 | str b=>cases zor h;exact .str _
noncomputable def isiB(n:String)(d:PyData):Bool:=zou d==n||(zou d=="bool"&&n=="int")
noncomputable def eIsi(n:String)(a:EF):EF:=λenv=>(a env).map λx=>⟨.bool (isiB n x.d),false,[]⟩
theorem zkb{K:qC}{n:String}{te:TE}{f:EF}(h1:SE te f)(hk:∀d,PySem.W.kitOne K (.type (zou d)) (.type n)=some (isiB n d)) :
  SE (tCB (λxs H Q=>∃x n t b,xs=[x,.ty n]/\TyOf K H x t/\PySem.W.kitOne K t (.type n)=some b/\Q (.bl b) H) (tCons te (tCons (tC (.ty n)) tNil))) (eIsi n f):=by
 intro fx H0 env σ H h rr hr Q q
 unfold eIsi at hr
 obtain⟨x,ex,rfl⟩:=qI.mp hr
 refine h1 fx H0 env σ H h _ ex _ λv H1 s1 v1=>?_
 exact⟨v,n,_,_,rfl,zarr (Rp.same (Offs.same _ _) _ v1.rp),hk _,q _ H1 s1 ⟨zau,λz=>by cases z⟩⟩
theorem zml{K:qC}:∀d,PySem.W.kitOne K (.type (zou d)) (.type "list")=some (isiB "list" d):=by intro d;cases d<;>rfl
theorem zvt{K:qC}:∀d,PySem.W.kitOne K (.type (zou d)) (.type "tuple")=some (isiB "tuple" d):=by intro d;cases d<;>rfl
theorem zael{K:qC}:∀d,PySem.W.kitOne K (.type (zou d)) (.type "str")=some (isiB "str" d):=by intro d;cases d<;>rfl
theorem zaaf{K:qC}:∀d,PySem.W.kitOne K (.type (zou d)) (.type "bool")=some (isiB "bool" d):=by intro d;cases d<;>rfl
noncomputable abbrev PF':=DEnv->Option (Option Int)
noncomputable def SPt(t:TO)(f:PF'):Prop:=∀(fx:Addr->Prop)(H0:Hp)(env:DEnv)(σ:St)(H:Hp),EnvOk fx H0 env σ H->∀r,f env=some r->∀Q:Option Int->Hp->Prop,(∀H',Same H H'->Q r H')->t σ H Q
noncomputable def zlj:PF':=λ_=>some none
noncomputable def zja(a:EF):PF':=λenv=>(a env).bind λx=>match x.d with|.int i=>some (some i)|_=>none
theorem ztt:SPt tNoPart zlj:=by
 intro fx H0 env σ H h r hr Q q
 cases hr
 exact q H (Same.refl _)
theorem ztu{te:TE}{f:EF}(h1:SE te f):SPt (tPart te) (zja f):=by
 intro fx H0 env σ H h r hr Q q
 unfold zja at hr
 obtain⟨⟨d,fr,bs⟩,ex,hr⟩:=qA.mp hr
 cases d with
 | int i=>
  cases hr
  exact h1 fx H0 env σ H h _ ex _ λv H1 s1 v1=>⟨i,zdc v1.rp,q H1 s1⟩
 | _=>cases hr
noncomputable def cutD(xs:List PyData)(lo hi:Option Int):List PyData:=(xs.drop (HT.sIx xs.length 0 lo)).take (HT.sIx xs.length xs.length hi - HT.sIx xs.length 0 lo)
theorem Rps.drop{H:Hp}{ds:List PyData}{vs:List V}(h:Rps H ds vs)(n:Nat):Rps H (ds.drop n) (vs.drop n):=by
 induction n generalizing ds vs with
 | zero=>exact h
 | succ n ih=>
  cases ds with
  | nil=>unfold Rps at h;subst h;exact zfq
  | cons d ds=>unfold Rps at h;obtain⟨v,ws,rfl,h1,h2⟩:=h;exact ih h2
theorem Rps.take{H:Hp}{ds:List PyData}{vs:List V}(h:Rps H ds vs)(n:Nat):Rps H (ds.take n) (vs.take n):=by
 induction n generalizing ds vs with
 | zero=>exact zfq
 | succ n ih=>
  cases ds with
  | nil=>unfold Rps at h;subst h;exact zfq
  | cons d ds=>unfold Rps at h;obtain⟨v,ws,rfl,h1,h2⟩:=h;exact zfd h1 (ih h2)
theorem Rps.cut{H:Hp}{ds:List PyData}{vs:List V}(h:Rps H ds vs)(lo hi:Option Int):Rps H (cutD ds lo hi) (cutV vs lo hi):=by
 unfold cutD cutV
 rw[<- h.length]
 exact(h.drop _).take _
noncomputable def slD(d:PyData)(lo hi:Option Int):Option (PyData×Bool):=match d with
 | .str z=>if z.length<=100000 then some (.str (Txt.slice z lo hi),false)else none
 | .list ds=>some (.list (cutD ds lo hi),true)
 | _=>none
noncomputable def eSl(a:EF)(l h:PF'):EF:=λenv=>(a env).bind λx=>(l env).bind λlo=>(h env).bind λhi=>(slD x.d lo hi).bind λz=>some ⟨z.1,z.2,bsOf z.1 x.bs⟩
theorem zalw{K:qC}{te:TE}{tl th:TO}{f:EF}{fl fh:PF'}(h1:SE te f)(h2:SPt tl fl)(h3:SPt th fh):SE (tSl (rSlU K) te tl th) (eSl f fl fh):=by
 intro fx H0 env σ H h rr hr Q q
 unfold eSl at hr
 obtain⟨⟨d,frd,bs⟩,ex,hr⟩:=qA.mp hr
 obtain⟨lo,el,hr⟩:=qA.mp hr
 obtain⟨hi,eh,hr⟩:=qA.mp hr
 obtain⟨⟨d',fr'⟩,ez,hr⟩:=qA.mp hr
 cases hr
 refine h1 fx H0 env σ H h _ ex _ λv H1 s1 v1=>h2 fx H0 env σ H1 (h.up s1) _ el _ λH2 s2=>h3 fx H0 env σ H2 (h.up (s1.trans s2)) _ eh _ λH3 s3=>?_
 have v3:=(v1.later (Same.refl _) (s2.trans s3) λ_ z=>z).rp
 have t3:=(s1.trans s2).trans s3
 cases d with
 | str z=>
  have ez:(if z.length<=100000 then some (PyData.str (Txt.slice z lo hi),false)else none)=some (d',fr'):=ez
  split at ez
  ·rename_i hl
   cases ez
   cases zor v3
   exact⟨zid hl,q _ H3 t3 ⟨zbr,λz=>by cases z⟩⟩
  ·cases ez
 | list ds=>
  cases ez
  obtain⟨p,xs,rfl,hp,r⟩:=zdt v3
  refine⟨p,xs,rfl,SqL.of (zdl hp),λl hl=>q _ _ (t3.trans (Same.new hl)) ?_⟩
  have hA:=(h.up t3).lims bs
  exact⟨zaed hl (zfr hA hl) (r.cut lo hi),λ_=>⟨l,rfl,t3.free hl,zyj hl (r.cut lo hi)⟩⟩
 | _=>cases ez
noncomputable def zyp(fx:Addr->Prop)(H0:Hp)(d:PyData)(fr:Bool)(v:V)(H:Hp):Prop:=Rp (Offs fx H) d v/\(fr=true->∃a,v=.ref a/\H0 a=none/\zek (Offs (λb=>fx b\/b=a) H) H a d)
noncomputable def spD(n:Nat)(g:GF):Sp:=λvs H Q _=>∃(fx:Addr->Prop)(ds:List PyData)(d:PyData)(fr:Bool),ds.length=n/\(∀b,fx b->∃o,H b=some o)/\Rps (Offs fx H) ds vs/\g ds=some (d,fr)/\∀v H',Same H H'->zyp fx H d fr v H'->Q v H'
noncomputable def zbj(n:Nat)(g:GF)(f:AF):EF:=λenv=>(f env).bind λrs=>if rs.length=n then(g (zka rs)).bind λz=>some ⟨z.1,z.2,bsOf z.1 (bss rs)⟩else none
theorem zcx{n:Nat}{g:GF}{ta:TA}{f:AF}(ha:SA ta f):SE (tCall (spD n g) [] E0 ta) (zbj n g f):=by
 intro fx H0 env σ H h rr hr Q q
 unfold zbj at hr
 obtain⟨rs,er,hr⟩:=qA.mp hr
 split at hr
 ·rename_i hn
  obtain⟨⟨d,fr⟩,ez,hr⟩:=qA.mp hr
  cases hr
  refine ha fx H0 env σ H h rs er _ λvs H1 s1 v1=>?_
  rw[qAV]
  refine⟨lim fx env σ (bss rs),zka rs,d,fr,by rw[zmk];exact hn,(h.up s1).lims _,ziz (λi hi=>hi) v1,ez,λw H3 s3 ⟨rp,fr3⟩=>q w H3 (s1.trans s3) ⟨znv rp,λe=>?_⟩⟩
  obtain⟨a,g1,g2,g3⟩:=fr3 e
  refine⟨a,g1,s1.free g2,?_⟩
  have nf:zfn d=false:=by cases d<;>first|rfl|exact g3.elim
  show zek (Offs (λb=>lim fx env σ (bsOf d (bss rs)) b\/b=a) H3) H3 a d
  rw[show bsOf d (bss rs)=bss rs by unfold bsOf;rw[if_neg (by rw[nf];decide)]]
  exact g3
 ·cases hr
inductive Out where
 | nx (env:DEnv)
 | bk (env:DEnv)
 | ct (env:DEnv)
 | rt (d:PyData) (fr:Bool)
noncomputable def Sat(fx:Addr->Prop)(H0:Hp)(D:Ends):Out->Prop
 | .nx env=>∀σ H,EnvOk fx H0 env σ H->D.nx σ H
 | .bk env=>∀σ H,EnvOk fx H0 env σ H->D.bk σ H
 | .ct env=>∀σ H,EnvOk fx H0 env σ H->D.ct σ H
 | .rt d fr=>∀v H,Same H0 H->zyp fx H0 d fr v H->D.rt v H
noncomputable abbrev SF:=DEnv->Option Out
noncomputable def SS(ts:TS)(F:SF):Prop:=∀(fx:Addr->Prop)(H0:Hp)(env:DEnv)(σ:St)(H:Hp)(D:Ends),EnvOk fx H0 env σ H->∀o,F env=some o->Sat fx H0 D o->ts D σ H
noncomputable def frz1(env:DEnv)(i:Nat):DEnv:=match env[i]? with
 | some (.ac d)=>env.set i (.pl d)
 | _=>env
noncomputable def frzs(env:DEnv)(bs:List Nat):DEnv:=bs.foldl frz1 env
theorem zahq(env:DEnv)(i:Nat):(frz1 env i).length=env.length:=by
 unfold frz1;split
 ·rw[qw]
 ·rfl
theorem zcf{α:Type}{l:List α}{i j:Nat}{x y:α}(h:(l.set i x)[j]?=some y):(j=i/\y=x)\/(j≠i/\l[j]?=some y):=by
 rw[List.getElem?_set]at h
 by_cases e:i=j
 ·subst e
  rw[if_pos rfl]at h
  split at h
  ·exact .inl ⟨rfl,(qS h).symm⟩
  ·cases h
 ·rw[if_neg e]at h
  exact .inr ⟨λz=>e z.symm,h⟩
theorem zny{env:DEnv}{i j:Nat}{d:PyData}(h:(frz1 env i)[j]?=some (.ac d)):env[j]?=some (.ac d)/\j≠i:=by
 unfold frz1 at h
 split at h
 ·rcases zcf h with⟨_,e⟩|⟨e,h⟩
  ·cases e
  ·exact⟨h,e⟩
 ·rename_i hn
  refine⟨h,λe=>?_⟩
  subst e
  exact hn d h
theorem zalx{env:DEnv}{i j:Nat}{d:PyData}(h:(frz1 env i)[j]?=some (.pl d)):env[j]?=some (.pl d)\/(j=i/\env[i]?=some (.ac d)):=by
 unfold frz1 at h
 split at h
 ·rename_i d' hd
  rcases zcf h with⟨e1,e⟩|⟨e,h⟩
  ·cases e;exact .inr ⟨e1,hd⟩
  ·exact .inl h
 ·exact .inl h
theorem zahr{env:DEnv}{σ:St}{i:Nat}:∀a,own (frz1 env i) σ a->own env σ a:=by
 rintro a ⟨j,d,h1,h2⟩
 exact⟨j,d,(zny h1).1,h2⟩
theorem EnvOk.frz1{fx:Addr->Prop}{H0:Hp}{env:DEnv}{σ:St}{H:Hp}(h:EnvOk fx H0 env σ H)(i:Nat):EnvOk fx H0 (frz1 env i) σ H:=by
 have so:Same (Offs (λa=>fx a\/own env σ a) H) (Offs (λa=>fx a\/own (L2.frz1 env i) σ a) H):=Offs.sub λb z=>z.imp (λy=>y) (zahr b)
 refine⟨by rw[zahq];exact h.len,λj d e=>?_,λj d e=>?_,λj k d d' a h1 h2 h3 h4=>h.inj j k d d' a (zny h1).1 (zny h2).1 h3 h4,h.base,h.fxs⟩
 ·rcases zalx e with e|⟨rfl,e⟩
  ·obtain⟨v,h1,h2⟩:=h.pl j d e
   exact⟨v,h1,Rp.same so _ h2⟩
  ·obtain⟨a,h1,h2,h3,h4⟩:=h.ac j d e
   refine⟨_,h1,h4.rp so λo eo=>?_⟩
   rw[Offs.get]
   ·exact eo
   ·rintro(z|⟨k,d',z1,z2⟩)
    ·exact h3 z
    ·obtain⟨z1,z3⟩:=zny z1
     exact z3 (h.inj k j d' d a z1 e z2 h1)
 ·obtain⟨a,h1,h2,h3,h4⟩:=h.ac j d (zny e).1
  exact⟨a,h1,h2,h3,h4.same so λo z=>z⟩
theorem EnvOk.frzs{fx:Addr->Prop}{H0:Hp}{σ:St}{H:Hp}:∀(bs:List Nat){env:DEnv},EnvOk fx H0 env σ H->EnvOk fx H0 (frzs env bs) σ H
 | [],_,h=>h
 | i::bs,_,h=>EnvOk.frzs bs (h.frz1 i)
theorem znz:∀{bs:List Nat}{env:DEnv}{j:Nat}{d:PyData},(frzs env bs)[j]?=some (.ac d)->env[j]?=some (.ac d)/\j∉bs
 | [],_,_,_,h=>⟨h,by simp⟩
 | i::bs,env,j,d,h=>by
  obtain⟨h1,h2⟩:=znz (bs:=bs) h
  obtain⟨h3,h4⟩:=zny h1
  exact⟨h3,by simp[h4,h2]⟩
theorem zdf{fx:Addr->Prop}{env:DEnv}{σ:St}{bs:List Nat}:∀a,fx a\/own (frzs env bs) σ a->lim fx env σ bs a:=by
 rintro a (z|⟨i,d,h1,h2⟩)
 ·exact .inl z
 ·obtain⟨h3,h4⟩:=znz h1
  exact .inr ⟨i,d,h4,h3,h2⟩
theorem zaem{env:DEnv}{σ:St}{i:Nat}{d:PyData}{v:V}:∀a,own (env.set i (.pl d)) (σ.set i (some v)) a->own env σ a:=by
 rintro a ⟨j,e,h1,h2⟩
 rcases zcf h1 with⟨_,z⟩|⟨ne,h1⟩
 ·cases z
 ·rcases zcf h2 with⟨z,_⟩|⟨_,h2⟩
  ·exact absurd z ne
  ·exact⟨j,e,h1,h2⟩
theorem EnvOk.setPl{fx:Addr->Prop}{H0:Hp}{env:DEnv}{σ:St}{H:Hp}(h:EnvOk fx H0 env σ H)(i:Nat){d:PyData}{v:V}(r:Rp (Offs (λa=>fx a\/own env σ a) H) d v):EnvOk fx H0 (env.set i (.pl d)) (σ.set i (some v)) H:=by
 have so:Same (Offs (λa=>fx a\/own env σ a) H) (Offs (λa=>fx a\/own (env.set i (.pl d)) (σ.set i (some v)) a) H):=Offs.sub λb z=>z.imp (λy=>y) (zaem b)
 have kept:∀{j:Nat},j≠i->(σ.set i (some v))[j]?=σ[j]?:=λ{j} n=>qb λz=>n z.symm
 refine⟨by rw[qw,qw];exact h.len,λj e hj=>?_,λj e hj=>?_,λj k d1 d2 a h1 h2 h3 h4=>?_,h.base,h.fxs⟩
 ·rcases zcf hj with⟨rfl,z⟩|⟨ne,hj'⟩
  ·cases z
   have hl:j<env.length:=by have:=(qT.mp hj).1;rwa [qw]at this
   exact⟨v,by rw[qAH (by rw[<- h.len];exact hl)],Rp.same so _ r⟩
  ·obtain⟨u,h1,h2⟩:=h.pl j e hj'
   exact⟨u,by rw[kept ne];exact h1,Rp.same so _ h2⟩
 ·rcases zcf hj with⟨_,z⟩|⟨ne,hj'⟩
  ·cases z
  ·obtain⟨a,h1,h2,h3,h4⟩:=h.ac j e hj'
   exact⟨a,by rw[kept ne];exact h1,h2,h3,h4.same so λo z=>z⟩
 ·rcases zcf h1 with⟨_,z⟩|⟨n1,h1⟩
  ·cases z
  rcases zcf h2 with⟨_,z⟩|⟨n2,h2⟩
  ·cases z
  rw[kept n1]at h3
  rw[kept n2]at h4
  exact h.inj j k d1 d2 a h1 h2 h3 h4
theorem EnvOk.setAc {fx:Addr->Prop} {H0:Hp} {env:DEnv} {σ:St} {H:Hp} {a:Addr} (h:EnvOk (λb=>fx b\/b=a) H0 env σ H) (i:Nat) {d:PyData} (r:zek (Offs (λb=>(fx b\/own env σ b)\/b=a) H) H a d) (h0:H0 a=none) (hf:¬fx a) :
  EnvOk fx H0 (env.set i (.ac d)) (σ.set i (some (.ref a))) H:=by
 have kept:∀{j:Nat},j≠i->(σ.set i (some (V.ref a)))[j]?=σ[j]?:=λ{j} n=>qb λz=>n z.symm
 have sub:∀b,fx b\/own (env.set i (.ac d)) (σ.set i (some (.ref a))) b->(fx b\/b=a)\/own env σ b:=by
  rintro b (z|⟨j,e,h1,h2⟩)
  ·exact .inl (.inl z)
  ·rcases zcf h1 with⟨rfl,z⟩|⟨ne,h1⟩
   ·have hl:j<env.length:=by have:=(qT.mp ‹(env.set j (.ac d))[j]?=_›).1;rwa [qw]at this
    rw[qAH (by rw[<- h.len];exact hl)]at h2
    cases h2
    exact .inl (.inr rfl)
   ·rw[kept ne]at h2
    exact .inr ⟨j,e,h1,h2⟩
 have so:Same (Offs (λb=>(fx b\/b=a)\/own env σ b) H) (Offs (λb=>fx b\/own (env.set i (.ac d)) (σ.set i (some (.ref a))) b) H):=Offs.sub sub
 have so2:Same (Offs (λb=>(fx b\/own env σ b)\/b=a) H) (Offs (λb=>fx b\/own (env.set i (.ac d)) (σ.set i (some (.ref a))) b) H):=Offs.sub λb z=>by
  rcases sub b z with(y|y)|y
  ·exact .inl (.inl y)
  ·exact .inr y
  ·exact .inl (.inr y)
 refine⟨by rw[qw,qw];exact h.len,λj e hj=>?_,λj e hj=>?_,λj k d1 d2 b h1 h2 h3 h4=>?_,h.base,λb z=>h.fxs b (.inl z)⟩
 ·rcases zcf hj with⟨_,z⟩|⟨ne,hj'⟩
  ·cases z
  ·obtain⟨u,h1,h2⟩:=h.pl j e hj'
   exact⟨u,by rw[kept ne];exact h1,Rp.same so _ h2⟩
 ·rcases zcf hj with⟨rfl,z⟩|⟨ne,hj'⟩
  ·cases z
   have hl:j<env.length:=by have:=(qT.mp hj).1;rwa [qw]at this
   exact⟨a,by rw[qAH (by rw[<- h.len];exact hl)],h0,hf,r.same so2 λo z=>z⟩
  ·obtain⟨b,h1,h2,h3,h4⟩:=h.ac j e hj'
   exact⟨b,by rw[kept ne];exact h1,h2,λz=>h3 (.inl z),h4.same so λo z=>z⟩
 ·rcases zcf h1 with⟨e1,z1⟩|⟨n1,h1'⟩<;>rcases zcf h2 with⟨e2,z2⟩|⟨n2,h2'⟩
  ·rw[e1,e2]
  ·subst e1
   have hl:j<env.length:=by have:=(qT.mp h1).1;rwa [qw]at this
   rw[qAH (by rw[<- h.len];exact hl)]at h3
   rw[kept n2]at h4
   cases h3
   obtain⟨b,g1,g2,g3,g4⟩:=h.ac k d2 h2'
   rw[h4]at g1
   cases g1
   exact absurd (.inr rfl) g3
  ·subst e2
   have hl:k<env.length:=by have:=(qT.mp h2).1;rwa [qw]at this
   rw[qAH (by rw[<- h.len];exact hl)]at h4
   rw[kept n1]at h3
   cases h4
   obtain⟨b,g1,g2,g3,g4⟩:=h.ac j d1 h1'
   rw[h3]at g1
   cases g1
   exact absurd (.inr rfl) g3
  ·rw[kept n1]at h3
   rw[kept n2]at h4
   exact h.inj j k d1 d2 b h1' h2' h3 h4
noncomputable def slOf(r:Val):Sl:=if r.fr=true then .ac r.d else .pl r.d
noncomputable def putV(env:DEnv)(i:Nat)(r:Val):DEnv:=(frzs env r.bs).set i (slOf r)
theorem EnvOk.put{fx:Addr->Prop}{H0:Hp}{env:DEnv}{σ:St}{H H':Hp}(h:EnvOk fx H0 env σ H)(s:Same H H'){r:Val}{v:V}(hv:ValOk (lim fx env σ r.bs) H H' r v)(i:Nat):EnvOk fx H0 (putV env i r) (σ.set i (some v)) H':=by
 unfold putV slOf
 cases e:r.fr with
 | false=>
  rw[if_neg qJ]
  exact((h.up s).frzs r.bs).setPl i (Rp.same (Offs.sub zdf) _ hv.rp)
 | true=>
  rw[if_pos rfl]
  obtain⟨a,rfl,ha,hacc⟩:=hv.fr e
  have nfx:¬fx a:=zfr h.fxs ha
  have g:EnvOk (λb=>fx b\/b=a) H0 env σ H':=h.grow s (λb o eo n z=>z.elim n λy=>by rw[y,ha]at eo;cases eo) λb z=>by
   rcases z with z|z
   ·obtain⟨o,eo⟩:=h.fxs b z;exact⟨o,s b o eo⟩
   ·rw[z];exact hacc.ex
  refine(g.frzs r.bs).setAc i (hacc.same (Offs.sub λb z=>?_) λo z=>z) (h.base.free ha) nfx
  rcases z with z|z
  ·exact .inl (zdf b z)
  ·exact .inr z
noncomputable def sNil:SF:=λenv=>some (.nx env)
noncomputable def sSeq(f g:SF):SF:=λenv=>(f env).bind λo=>match o with
 | .nx env'=>g env'
 | o=>some o
theorem zkc:SS tNext sNil:=by
 intro fx H0 env σ H D h o e q
 cases e
 exact q σ H h
theorem zei{t u:TS}{f g:SF}(h1:SS t f)(h2:SS u g):SS (tSeq t u) (sSeq f g):=by
 intro fx H0 env σ H D h o e q
 unfold sSeq at e
 obtain⟨o1,e1,e⟩:=qA.mp e
 refine h1 fx H0 env σ H _ h o1 e1 ?_
 cases o1 with
 | nx env'=>exact λσ' H' h'=>h2 fx H0 env' σ' H' D h' o e q
 | bk env'=>cases e;exact q
 | ct env'=>cases e;exact q
 | rt d fr=>cases e;exact q
noncomputable def sRet(f:EF):SF:=λenv=>(f env).map λr=>.rt r.d r.fr
theorem zen{te:TE}{f:EF}(h1:SE te f):SS (tRet te) (sRet f):=by
 intro fx H0 env σ H D h o e q
 unfold sRet at e
 obtain⟨r,er,rfl⟩:=qI.mp e
 refine h1 fx H0 env σ H h r er _ λv H' s hv=>q v H' (h.base.trans s) ⟨Rp.same (Offs.sub λb z=>.inl z) _ hv.rp,λz=>?_⟩
 obtain⟨a,g1,g2,g3⟩:=hv.fr z
 exact⟨a,g1,h.base.free g2,g3.same (Offs.sub λb y=>y.imp .inl id) λo z=>z⟩
noncomputable def zaen(i:Nat):SF:=λenv=>match env[i]? with
 | some (.pl d)=>some (.rt d false)
 | some (.ac d)=>some (.rt d true)
 | _=>none
theorem zyq{i:Nat}:SS (tRet (tVar i)) (zaen i):=by
 intro fx H0 env σ H D h o e q
 unfold zaen at e
 cases ei:env[i]? with
 | none=>rw[ei]at e;cases e
 | some sl=>
  rw[ei]at e
  cases sl with
  | no=>cases e
  | pl d=>
   cases e
   obtain⟨v,h1,h2⟩:=h.pl i d ei
   exact⟨v,h1,q v H h.base ⟨Rp.same (Offs.sub λb z=>.inl z) _ h2,λz=>by cases z⟩⟩
  | ac d=>
   cases e
   obtain⟨a,h1,h2,h3,h4⟩:=h.ac i d ei
   refine⟨_,h1,q _ H h.base ⟨h4.rp (Offs.sub λb z=>.inl z) λo eo=>by rw[Offs.get h3];exact eo,λ_=>⟨a,rfl,h2,h4.same (Offs.sub λb z=>?_) λo z=>z⟩⟩⟩
   rcases z with z|z
   ·exact .inl z
   ·rw[z];exact .inr ⟨i,d,ei,h1⟩
noncomputable def sIf(c:TF)(f g:SF):SF:=λenv=>(c env).bind λb=>if b=true then f env else g env
theorem zqn{tc:TT}{t u:TS}{c:TF}{f g:SF}(hc:ST tc c)(h1:SS t f)(h2:SS u g):SS (tIfS tc t u) (sIf c f g):=by
 intro fx H0 env σ H D h o e q
 unfold sIf at e
 obtain⟨b,eb,e⟩:=qA.mp e
 refine hc fx H0 env σ H h b eb _ λH' s=>?_
 cases b with
 | true=>exact iteT (h1 fx H0 env σ H' D (h.up s) o e q)
 | false=>exact iteF (h2 fx H0 env σ H' D (h.up s) o e q)
noncomputable def sSet(i:Nat)(f:EF):SF:=λenv=>(f env).map λr=>.nx (putV env i r)
theorem zov{te:TE}{f:EF}{i:Nat}(h1:SE te f):SS (tAsg te (gName i)) (sSet i f):=by
 intro fx H0 env σ H D h o e q
 unfold sSet at e
 obtain⟨r,er,rfl⟩:=qI.mp e
 exact h1 fx H0 env σ H h r er _ λv H' s hv=>q _ H' (h.put s hv i)
noncomputable abbrev GT:=PyData->DEnv->Option DEnv
noncomputable def SG(g:TG)(f:GT):Prop:=∀(fx:Addr->Prop)(H0:Hp)(env:DEnv)(σ:St)(H:Hp)(d:PyData)(v:V),EnvOk fx H0 env σ H->Rp (Offs (λa=>fx a\/own env σ a) H) d v->∀env',f d env=some env'->∀Q:St->Hp->Prop,
 (∀σ',EnvOk fx H0 env' σ' H->Q σ' H)->g v σ H Q
noncomputable abbrev GTs:=List PyData->DEnv->Option DEnv
noncomputable def SGs(g:TGs)(f:GTs):Prop:=∀(fx:Addr->Prop)(H0:Hp)(env:DEnv)(σ:St)(H:Hp)(ds:List PyData)(vs:List V),EnvOk fx H0 env σ H->Rps (Offs (λa=>fx a\/own env σ a) H) ds vs->∀env',f ds env=some env'->∀Q:St->Hp->Prop,
 (∀σ',EnvOk fx H0 env' σ' H->Q σ' H)->g vs σ H Q
noncomputable def gN(i:Nat):GT:=λd env=>some (env.set i (.pl d))
theorem zdu{i:Nat}:SG (gName i) (gN i):=by
 intro fx H0 env σ H d v h r env' e Q q
 cases e
 exact q _ (h.setPl i r)
noncomputable def zkd:GTs:=λds env=>match ds with|[]=>some env|_=>none
noncomputable def zcg(i:Nat)(g:GTs):GTs:=λds env=>match ds with|d::r=>g r (env.set i (.pl d))|[]=>none
theorem zqo:SGs gNil zkd:=by
 intro fx H0 env σ H ds vs h r env' e Q q
 cases ds with
 | nil=>cases e;unfold Rps at r;exact⟨r,q _ h⟩
 | cons _ _=>cases e
theorem zgg{i:Nat}{t:TGs}{g:GTs}(h1:SGs t g):SGs (gCons (gName i) t) (zcg i g):=by
 intro fx H0 env σ H ds vs h r env' e Q q
 cases ds with
 | nil=>cases e
 | cons d ds=>
  unfold Rps at r
  obtain⟨v,ws,rfl,r1,r2⟩:=r
  refine⟨v,ws,rfl,h1 fx H0 (env.set i (.pl d)) _ H ds ws (h.setPl i r1) (Rps.same (Offs.sub λb z=>z.imp (λy=>y) (zaem b)) _ r2) env' e Q q⟩
noncomputable def gT(n:Nat)(g:GTs):GT:=λd env=>match d with|.tuple ds=>if ds.length=n then g ds env else none|_=>none
theorem zvu{K:qC}{n:Nat}{t:TGs}{g:GTs}(h1:SGs t g):SG (gTup K n t) (gT n g):=by
 intro fx H0 env σ H d v h r env' e Q q
 unfold gT at e
 cases d with
 | tuple ds=>
  have e:(if ds.length=n then g ds env else none)=some env':=e
  split at e
  ·rename_i hn
   obtain⟨a,xs,rfl,ha,rs⟩:=zde r
   exact⟨a,xs,rfl,SqT.of (zdl ha),by rw[<- rs.length];exact hn,h1 fx H0 env σ H ds xs h rs env' e Q q⟩
  ·cases e
 | _=>cases e
theorem EnvOk.mut{fx:Addr->Prop}{H0:Hp}{env:DEnv}{σ:St}{H:Hp}(h:EnvOk fx H0 env σ H){i:Nat}{d d':PyData}{a:Addr}{o:HO}(e:env[i]?=some (.ac d))(ea:σ[i]?=some (some (.ref a)))
  (r:zek (Offs (λb=>fx b\/own env σ b) H) (upd H a o) a d'):EnvOk fx H0 (env.set i (.ac d')) σ (upd H a o):=by
 have hl:i<env.length:=(qT.mp e).1
 have oa:own env σ a:=⟨i,d,e,ea⟩
 have ow:∀b,own (env.set i (.ac d')) σ b↔own env σ b:=by
  intro b
  constructor
  ·rintro⟨j,d1,h1,h2⟩
   rcases zcf h1 with⟨rfl,z⟩|⟨ne,h1⟩
   ·exact⟨j,d,e,h2⟩
   ·exact⟨j,d1,h1,h2⟩
  ·rintro⟨j,d1,h1,h2⟩
   by_cases hj:j=i
   ·subst hj;exact⟨j,d',by rw[qAH hl],h2⟩
   ·exact⟨j,d1,by rw[qb λz=>hj z.symm];exact h1,h2⟩
 have so:Same (Offs (λb=>fx b\/own env σ b) H) (Offs (λb=>fx b\/own (env.set i (.ac d')) σ b) (upd H a o)):=by
  have:Same (Offs (λb=>fx b\/own env σ b) (upd H a o)) (Offs (λb=>fx b\/own (env.set i (.ac d')) σ b) (upd H a o)):=Offs.sub λb z=>z.imp (λy=>y) (ow b).mp
  rw[Offs.upd (.inr oa)]at this
  exact this
 obtain⟨a',g1,g2,g3,g4⟩:=h.ac i d e
 rw[ea]at g1
 cases g1
 refine⟨by rw[qw];exact h.len,λj d1 hj=>?_,λj d1 hj=>?_,λj k d1 d2 b h1 h2 h3 h4=>?_,λb u eb=>by rw[zbn (zby eb g2)];exact h.base b u eb,λb z=>?_⟩
 ·rcases zcf hj with⟨_,z⟩|⟨ne,hj'⟩
  ·cases z
  ·obtain⟨u,h1,h2⟩:=h.pl j d1 hj'
   exact⟨u,h1,Rp.same so _ h2⟩
 ·rcases zcf hj with⟨rfl,z⟩|⟨ne,hj'⟩
  ·cases z
   exact⟨a,ea,g2,g3,r.same so λo z=>z⟩
  ·obtain⟨b,h1,h2,h3,h4⟩:=h.ac j d1 hj'
   refine⟨b,h1,h2,h3,h4.same so λo' z=>?_⟩
   rw[zbn λy=>ne (h.inj j i d1 d a hj' e (by rw[<- y];exact h1) ea)]
   exact z
 ·have f:∀{j:Nat}{d1:PyData},(env.set i (.ac d'))[j]?=some (.ac d1)->∃d2,env[j]?=some (.ac d2):=λ{j d1} hj=>by
   rcases zcf hj with⟨rfl,z⟩|⟨ne,hj'⟩
   ·exact⟨d,e⟩
   ·exact⟨d1,hj'⟩
  obtain⟨e1,h1⟩:=f h1
  obtain⟨e2,h2⟩:=f h2
  exact h.inj j k e1 e2 b h1 h2 h3 h4
 ·obtain⟨u,eu⟩:=h.fxs b z
  exact⟨u,by rw[zbn λy=>g3 (by rw[<- y];exact z)];exact eu⟩
theorem zhx{env:DEnv}{i:Nat}{d:PyData}:∀{bs:List Nat},i∉bs->env[i]?=some (.ac d)->(frzs env bs)[i]?=some (.ac d):=by
 intro bs
 induction bs generalizing env with
 | nil=>intro _ e;exact e
 | cons j bs ih=>
  intro hn e
  have hj:i≠j:=λz=>hn (by simp[z])
  refine ih (λz=>hn (qM _ z)) ?_
  unfold frz1
  split
  ·rw[qb λz=>hj z.symm];exact e
  ·exact e
noncomputable def sPut(i:Nat)(fk fv:EF):SF:=λenv=>match env[i]? with
 | some (.ac (.dict kvs))=>(fv env).bind λr=>(fk env).bind λk=>(keyD k.d).bind λ_=>if kvs.length<100000/\i∉r.bs then some (.nx ((frzs env r.bs).set i (.ac (.dict (zqk kvs k.d r.d)))))else none
 | _=>none
theorem zajl{i:Nat}{tk tv:TE}{fk fv:EF}(h1:SE tk fk)(h2:SE tv fv):SS (sDPut (tVar i) tk tv) (sPut i fk fv):=by
 intro fx H0 env σ H D h o e q
 unfold sPut at e
 split at e
 ·rename_i kvs ei
  obtain⟨r,er,e⟩:=qA.mp e
  obtain⟨k,ek,e⟩:=qA.mp e
  obtain⟨kk,ekk,e⟩:=qA.mp e
  split at e
  ·rename_i hl
   cases e
   obtain⟨a,g1,g2,g3,g4⟩:=h.ac i _ ei
   obtain⟨ps,hx,rx⟩:=g4
   refine h2 fx H0 env σ H h r er _ λv H' s hv=>⟨_,g1,h1 fx H0 env σ H' (h.up s) k ek _ λu H2 s2 hk=>?_⟩
   have t2:=s.trans s2
   have h':=(h.up t2).frzs r.bs
   have ei':=zhx hl.2 ei
   have hx':=t2 _ _ hx
   have rx':Rpd (Offs (λb=>fx b\/own (frzs env r.bs) σ b) H2) kvs ps:=by
    obtain⟨a',z1,_,_,z4⟩:=h'.ac i _ ei'
    rw[g1]at z1
    cases z1
    obtain⟨ys,y1,y2⟩:=z4
    rw[hx']at y1
    cases y1
    exact y2
   rw[zahp hk.rp ekk]
   refine⟨a,_,rfl,DPut.k hx' (zqi (by rw[<- rx.length];exact hl.1)),?_⟩
   refine q σ _ (h'.mut ei' g1 ⟨_,zbh,rx'.put ekk (Rp.same (Offs.sub zdf) _ (hv.later (Same.refl _) s2 λ_ z=>z).rp)⟩)
  ·cases e
 ·cases e
noncomputable def sUpd(i:Nat)(f:EF):SF:=λenv=>match env[i]? with
 | some (.ac (.dict kvs))=>(f env).bind λr=>match r.d with
  | .dict more=>if kvs.length+more.length<=100000/\i∉r.bs then some (.nx ((frzs env r.bs).set i (.ac (.dict (znx kvs more)))))else none
  | _=>none
 | _=>none
theorem zapo{K:qC}{i:Nat}{te:TE}{f:EF}(h1:SE te f):SS (tDrop (tBM K "dict" zadv (tVar i) (tCons te tNil))) (sUpd i f):=by
 intro fx H0 env σ H D h o e q
 unfold sUpd at e
 split at e
 ·rename_i kvs ei
  obtain⟨⟨rd,rfr,rbs⟩,er,e⟩:=qA.mp e
  cases rd with
  | dict more=>
   have e:(if kvs.length+more.length<=100000/\i∉rbs then some (Out.nx ((frzs env rbs).set i (.ac (.dict (znx kvs more)))))else none)=some o:=e
   split at e
   ·rename_i hl
    cases e
    obtain⟨a,g1,g2,g3,g4⟩:=h.ac i _ ei
    obtain⟨ps,hx,rx⟩:=g4
    refine⟨_,g1,.inr (.inr (.inl ⟨rfl,.inl ⟨_,hx⟩⟩)),h1 fx H0 env σ H h _ er _ λv H' s hv=>?_⟩
    have h':=(h.up s).frzs rbs
    have ei':=zhx hl.2 ei
    have hx':=s _ _ hx
    have rx':Rpd (Offs (λb=>fx b\/own (frzs env rbs) σ b) H') kvs ps:=by
     obtain⟨a',z1,_,_,z4⟩:=h'.ac i _ ei'
     rw[g1]at z1
     cases z1
     obtain⟨ys,y1,y2⟩:=z4
     rw[hx']at y1
     cases y1
     exact y2
    obtain⟨b,qs,rfl,hb,rb⟩:=znq (Rp.same (Offs.sub zdf) _ hv.rp)
    have hab:a≠b:=λz=>by
     subst z
     exact(Offs.of hb).1 (.inr ⟨i,_,ei',g1⟩)
    refine⟨a,b,ps,qs,rfl,rfl,hab,hx',zdl hb,zid (by rw[<- rx.length,<- rb.length];exact hl.1),?_⟩
    exact q σ _ (h'.mut ei' g1 ⟨_,zbh,rx'.merge rb⟩)
   ·cases e
  | _=>cases e
 ·cases e
theorem EnvOk.rebase{fx:Addr->Prop}{H0:Hp}{env:DEnv}{σ:St}{H:Hp}(h:EnvOk fx H0 env σ H):EnvOk fx (Offs (own env σ) H) env σ H:=by
 refine⟨h.len,h.pl,λi d e=>?_,h.inj,Offs.same _ _,h.fxs⟩
 obtain⟨a,h1,h2,h3,h4⟩:=h.ac i d e
 exact⟨a,h1,Offs.out ⟨i,d,e,h1⟩,h3,h4⟩
theorem EnvOk.floor{fx:Addr->Prop}{H0:Hp}{env:DEnv}{σ:St}{H:Hp}(h:EnvOk fx H0 env σ H):Same H0 (Offs (own env σ) H):=λb o e=>by
 rw[Offs.get]
 ·exact h.base b o e
 ·rintro⟨i,d,h1,h2⟩
  obtain⟨a,g1,g2,_⟩:=h.ac i d h1
  rw[h2]at g1
  cases g1
  rw[g2]at e
  cases e
theorem EnvOk.unbase{fx:Addr->Prop}{H0 F:Hp}{env:DEnv}{σ:St}{H:Hp}(h:EnvOk fx F env σ H)(s:Same H0 F):EnvOk fx H0 env σ H:=by
 refine⟨h.len,h.pl,λi d e=>?_,h.inj,s.trans h.base,h.fxs⟩
 obtain⟨a,h1,h2,h3,h4⟩:=h.ac i d e
 exact⟨a,h1,s.free h2,h3,h4⟩
theorem zyp.unbase{fx:Addr->Prop}{H0 F:Hp}{d:PyData}{fr:Bool}{v:V}{H:Hp}(h:zyp fx F d fr v H)(s:Same H0 F):zyp fx H0 d fr v H:=
 ⟨h.1,λe=>let⟨a,h1,h2,h3⟩:=h.2 e;⟨a,h1,s.free h2,h3⟩⟩
theorem EnvOk.seen{fx:Addr->Prop}{env env':DEnv}{σ σ':St}{H H':Hp}(h:EnvOk fx (Offs (own env σ) H) env' σ' H'):Same (Offs (λb=>fx b\/own env σ b) H) (Offs (λb=>fx b\/own env' σ' b) H'):=λb o e=>by
 obtain⟨h1,h2⟩:=Offs.of e
 have hF:Offs (own env σ) H b=some o:=by rw[Offs.get λz=>h1 (.inr z)];exact h2
 rw[Offs.get]
 ·exact h.base b o hF
 ·rintro(z|⟨i,d,g1,g2⟩)
  ·exact h1 (.inl z)
  ·obtain⟨a,k1,k2,_⟩:=h.ac i d g1
   rw[g2]at k1
   cases k1
   rw[k2]at hF
   cases hF
theorem EnvOk.all{fx:Addr->Prop}{H0:Hp}{env:DEnv}{σ:St}{H:Hp}(h:EnvOk fx H0 env σ H):∀b,fx b\/own env σ b->∃o,H b=some o:=λb z=>h.lims [] b (zals b z)
noncomputable def Yl(A0:Addr->Prop)(H1:Hp)(J:It)(ds:List PyData):Prop:=∀(A:Addr->Prop)(H':Hp),(∀b,A b->∃o,H' b=some o)->Same (Offs A0 H1) (Offs A H')->
 (∀i d,ds[i]?=some d->J.go i H'/\∀x H'',J.yld i H' x H''->Same H' H''/\Rp (Offs A H'') d x)/\J.stop ds.length H'
noncomputable abbrev IF':=DEnv->Option (List PyData×List Nat)
noncomputable def SI(wi:TI)(f:IF'):Prop:=∀(fx:Addr->Prop)(H0:Hp)(env:DEnv)(σ:St)(H:Hp),EnvOk fx H0 env σ H->∀ds bs,f env=some (ds,bs)->∀R:It->Hp->Prop,
 (∀J H1,Same H H1->Yl (λb=>fx b\/own (frzs env bs) σ b) H1 J ds->R J H1)->wi σ H R
noncomputable def iSeq(K:qC)(te:TE):TI:=λσ H R=>te σ H λx H1=>∃a,x=.ref a/\((∃xs,SqL K H1 a xs)/\R (Itl K a) H1\/(∃xs,SqT K H1 a xs)/\R (Itt K a) H1)
theorem zapp{X:Cx}{tg l:Expr}{tl:TE}(hl:PE X l tl):PI X tg l (iSeq X.K tl):=by
 intro pins s σ H R I h
 refine thn (hl pins s σ H _ I h) λv s1 ⟨x,H1,I1,r1,q1⟩=>?_
 obtain⟨a,e,q⟩:=q1
 subst e
 cases r1
 rcases q with⟨⟨xs,hq⟩,q⟩|⟨⟨xs,hq⟩,q⟩
 ·obtain⟨its,rv,p,hz⟩:=I1.list hq
  refine qBh p.isList ?_
  refine⟨s1.heap.objs.size,[s1.heap.objs.size],_,_,H1,rfl,I1.kept (t':=s1.toks) λb o e=>qL _ e,zacx a _,⟨_,qk _ rfl,rfl,rfl⟩,λb hb=>?_,q⟩
  have e:b=s1.heap.objs.size:=by simpa using hb
  subst e
  exact I1.fpOk (qN _) (I1.hok.fresh (qN _))
 ·obtain⟨its,rv,p,hz⟩:=I1.tuple hq
  refine qBa (show s1.heap.IsTuple a its.toArray from p) ?_
  refine⟨s1.heap.objs.size,[s1.heap.objs.size],_,_,H1,rfl,I1.kept (t':=s1.toks) λb o e=>qL _ e,zabb a _,⟨_,qk _ rfl,rfl,rfl⟩,λb hb=>?_,q⟩
  have e:b=s1.heap.objs.size:=by simpa using hb
  subst e
  exact I1.fpOk (qN _) (I1.hok.fresh (qN _))
theorem zaly{X:Cx}{K:qC}(hK:X.K=K){tg l:Expr}{tl:TE}(hl:PE X l tl):PI X tg l (iSeq K tl):=by subst hK;exact zapp hl
noncomputable def zbf(f:EF):IF':=λenv=>(f env).bind λr=>(zhw r.d).map λds=>(ds,r.bs)
theorem zalz{K:qC}{A0:Addr->Prop}{H1:Hp}{a:Addr}{ds:List PyData}{xs:List V}(h:Offs A0 H1 a=some (.lst xs))(r:Rps (Offs A0 H1) ds xs):Yl A0 H1 (Itl K a) ds:=by
 intro A H' hA s
 have ha:=zdl (s _ _ h)
 have r':=Rps.same s _ r
 refine⟨λi d e=>?_,⟨xs,SqL.of ha,by rw[r.length];exact qN _⟩⟩
 obtain⟨v,hv,rv⟩:=r'.get2 e
 refine⟨⟨xs,v,SqL.of ha,hv⟩,λx H'' y=>?_⟩
 obtain⟨rfl,y⟩:=y
 have:=y xs (SqL.of ha)
 rw[hv]at this
 cases this
 exact⟨Same.refl _,rv⟩
theorem zapq{K:qC}{A0:Addr->Prop}{H1:Hp}{a:Addr}{ds:List PyData}{xs:List V}(h:Offs A0 H1 a=some (.tup xs))(r:Rps (Offs A0 H1) ds xs):Yl A0 H1 (Itt K a) ds:=by
 intro A H' hA s
 have ha:=zdl (s _ _ h)
 have r':=Rps.same s _ r
 refine⟨λi d e=>?_,⟨xs,SqT.of ha,by rw[r.length];exact qN _⟩⟩
 obtain⟨v,hv,rv⟩:=r'.get2 e
 refine⟨⟨xs,v,SqT.of ha,hv⟩,λx H'' y=>?_⟩
 obtain⟨rfl,y⟩:=y
 have:=y xs (SqT.of ha)
 rw[hv]at this
 cases this
 exact⟨Same.refl _,rv⟩
theorem zev{K:qC}{te:TE}{f:EF}(h1:SE te f):SI (iSeq K te) (zbf f):=by
 intro fx H0 env σ H h ds bs e R q
 unfold zbf at e
 obtain⟨⟨d,fr,bs'⟩,er,e⟩:=qA.mp e
 obtain⟨es,he,e⟩:=qI.mp e
 cases e
 refine h1 fx H0 env σ H h _ er _ λv H1 s hv=>?_
 have rp:=Rp.same (Offs.sub (zdf (bs:=bs'))) _ hv.rp
 cases d with
 | list ds=>
  cases he
  obtain⟨a,xs,rfl,ha,r⟩:=zdt rp
  exact⟨a,rfl,.inl ⟨⟨xs,SqL.of (zdl ha)⟩,q _ H1 s (zalz ha r)⟩⟩
 | tuple ds=>
  cases he
  obtain⟨a,xs,rfl,ha,r⟩:=zde rp
  exact⟨a,rfl,.inr ⟨⟨xs,SqT.of (zdl ha)⟩,q _ H1 s (zapq ha r)⟩⟩
 | _=>cases he
noncomputable def zvv(ds:List PyData):List PyData:=ds.zipIdx.map λp=>.tuple [.int p.2,p.1]
noncomputable def zasc(f:AF):IF':=λenv=>(f env).bind λrs=>match rs with
 | [r]=>match r.d with
  | .list ds=>some (zvv ds,r.bs)
  | _=>none
 | _=>none
noncomputable def zeo(lo:Int)(n:Nat):List PyData:=(List.range n).map λ(k:Nat)=>.int (lo+(k:Int))
theorem zaag{A0:Addr->Prop}{H1:Hp}{lo:Int}{n:Nat}:Yl A0 H1 (Itr lo n) (zeo lo n):=by
 intro A H' hA s
 have hl:(zeo lo n).length=n:=by unfold zeo;simp
 refine⟨λi d e=>?_,by rw[hl];exact qN _⟩
 unfold zeo at e
 rw[qh]at e
 by_cases hi:i<n
 ·rw[qCw hi]at e
  cases e
  exact⟨hi,λx H'' ⟨e1,e2⟩=>by subst e1;subst e2;exact⟨Same.refl _,zab⟩⟩
 ·rw[qBl (by simpa using hi)]at e
  cases e
noncomputable def zes(f:AF):IF':=λenv=>(f env).bind λrs=>match rs with
 | [⟨.int j,_,_⟩]=>if -(2 ^ 62)<=j/\j<2 ^ 62 then some (zeo 0 j.toNat,[])else none
 | _=>none
theorem zik{ta:TA}{f:AF}(h1:SA ta f):SI (iRng1 ta) (zes f):=by
 intro fx H0 env σ H h ds bs e R q
 unfold zes at e
 obtain⟨rs,er,e⟩:=qA.mp e
 split at e
 ·split at e
  ·rename_i hj
   cases e
   refine h1 fx H0 env σ H h _ er _ λvs H1 s hv=>?_
   cases hv with
   | cons hv t=>
    cases t
    cases zdc hv.rp
    exact⟨_,rfl,hj.1,hj.2,q _ H1 s zaag⟩
  ·cases e
 ·cases e
noncomputable def forL(g:GT)(body:SF):List PyData->DEnv->Option Out
 | [],env=>some (.nx env)
 | d::ds,env=>(g d env).bind λe1=>(body e1).bind λo=>match o with
  | .nx e2=>forL g body ds e2
  | .ct e2=>forL g body ds e2
  | .bk e2=>some (.nx e2)
  | .rt d fr=>some (.rt d fr)
noncomputable def sFor(f:IF')(g:GT)(body:SF):SF:=λenv=>(f env).bind λz=>forL g body z.1 (frzs env z.2)
theorem zow{wi:TI}{g:TG}{tb:TS}{f:IF'}{gf:GT}{body:SF}(h1:SI wi f)(h2:SG g gf)(h3:SS tb body):SS (tFor wi g tb) (sFor f gf body):=by
 intro fx H0 env σ H D h o e q
 unfold sFor at e
 obtain⟨⟨ds,bs⟩,er,e⟩:=qA.mp e
 refine h1 fx H0 env σ H h ds bs er _ λJ H1 s yl=>?_
 have hE:=(h.up s).frzs bs
 have fl:=hE.floor
 refine⟨λi m σ' H'=>m=ds.length - i/\i<=ds.length/\∃env',forL gf body (ds.drop i) env'=some o/\EnvOk fx (Offs (own (frzs env bs) σ) H1) env' σ' H',⟨ds.length,rfl,qAf _,_,e,hE.rebase⟩,?_⟩
 rintro i m σ' H' ⟨rfl,hi,env',e',h'⟩
 obtain⟨yi,ys⟩:=yl _ H' h'.all h'.seen
 by_cases hlt:i<ds.length
 ·obtain⟨yg,yy⟩:=yi i ds[i] (qD hlt)
  refine .inr ⟨yg,λσ'' H''=>i+1<=ds.length/\∃env'',forL gf body (ds.drop (i+1)) env''=some o/\EnvOk fx (Offs (own (frzs env bs) σ) H1) env'' σ'' H'',?_,?_⟩
  ·rintro σ'' H'' ⟨hle,env'',e'',h''⟩
   exact⟨ds.length - (i+1),by omega,rfl,hle,env'',e'',h''⟩
  ·intro x H'' hy
   obtain⟨sy,ry⟩:=yy x H'' hy
   rw[qAJ hlt]at e'
   obtain⟨e1,ee1,e'⟩:=qA.mp e'
   obtain⟨o1,eo1,e'⟩:=qA.mp e'
   refine h2 fx _ env' σ' H'' _ x (h'.up sy) ry e1 ee1 _ λσ2 h2'=>h3 fx _ e1 σ2 H'' _ h2' o1 eo1 ?_
   cases o1 with
   | nx e2=>exact λσ3 H3 hh=>⟨hlt,e2,e',hh⟩
   | ct e2=>exact λσ3 H3 hh=>⟨hlt,e2,e',hh⟩
   | bk e2=>cases e';exact λσ3 H3 hh=>q σ3 H3 (hh.unbase fl)
   | rt d fr=>cases e';exact λv H3 sh rt=>q v H3 (fl.trans sh) (rt.unbase fl)
 ·have hi':i=ds.length:=by omega
  subst hi'
  rw[qAr]at e'
  cases e'
  exact .inl ⟨ys,q σ' H' (h'.unbase fl)⟩
noncomputable def zke(n:Nat)(ds:List PyData):DEnv:=ds.map .pl++List.replicate (n - ds.length) .no
noncomputable def fnD(n:Nat)(f:SF):GF:=λds=>match f (zke n ds)with
 | some (.rt d fr)=>some (d,fr)
 | some (.nx _)=>some (.none,false)
 | _=>none
theorem zmm{ds:List PyData}{n i:Nat}{sl:Sl}(e:(zke n ds)[i]?=some sl):(∃d,ds[i]?=some d/\sl=.pl d)\/sl=.no:=by
 unfold zke at e
 by_cases hi:i<ds.length
 ·rw[qq (by simpa using hi),qh,qD hi]at e
  cases e
  exact .inl ⟨_,qD hi,rfl⟩
 ·rw[qt (by simpa using hi),qBb]at e
  split at e
  ·cases e;exact .inr rfl
  ·cases e
theorem zvw{fx:Addr->Prop}{H:Hp}{N:List Str}{ds:List PyData}{vs:List V}(hf:∀b,fx b->∃o,H b=some o)(r:Rps (Offs fx H) ds vs):EnvOk fx H (zke N.length ds) (zhl N vs) H:=by
 have no:∀(i:Nat)(d:PyData),(zke N.length ds)[i]?≠some (Sl.ac d):=λi d e=>by
  rcases zmm e with⟨d',_,z⟩|z<;>cases z
 refine⟨?_,λi d e=>?_,λi d e=>absurd e (no i d),λi j d e a h1=>absurd h1 (no i d),Same.refl _,hf⟩
 ·unfold zke zhl
  rw[qR,qR,qE,qE,qAx,qAx,r.length]
 ·rcases zmm e with⟨d',hd,z⟩|z
  ·cases z
   obtain⟨v,hv,rv⟩:=r.get2 hd
   refine⟨v,?_,Rp.same (Offs.sub λb z=>?_) _ rv⟩
   ·unfold zhl
    have hi:i<vs.length:=(qT.mp hv).1
    rw[qq (by simpa using hi),qh,hv];rfl
   ·rcases z with z|⟨j,d',z,_⟩
    ·exact z
    ·exact absurd z (no j d')
  ·cases z
theorem fn_d{N:List Str}{n:Nat}{f:SF}{t:TS}(hs:SS t f){vs:List V}{H:Hp}{Q:VK}{E:XK}(h:spD n (fnD N.length f) vs H Q E):t {nx:=λ_ H'=>Q .non H',rt:=Q} (zhl N vs) H:=by
 obtain⟨fx,ds,d,fr,hn,hf,r,g,k⟩:=h
 unfold fnD at g
 split at g
 ·rename_i d' fr' eo
  cases g
  exact hs fx H _ _ H _ (zvw hf r) _ eo λv H' s rt=>k v H' s rt
 ·rename_i e' eo
  cases g
  exact hs fx H _ _ H _ (zvw hf r) _ eo λσ H' hE=>k .non H' hE.base ⟨zii,λz=>by cases z⟩
 ·cases g
theorem zff{n:Nat}{g:GF}{vs:List V}{H:Hp}{Q:VK}{E:XK}(h:spD n g vs H Q E):vs.length=n:=by
 obtain⟨fx,ds,d,fr,hn,hf,r,_⟩:=h
 rw[<- r.length];exact hn
noncomputable def zama:Sl->Sl
 | .ac d=>.pl d
 | s=>s
noncomputable def envB(own:List Str)(fr:List Nat)(env:DEnv):DEnv:=own.map (λ_=>Sl.no)++fr.map (λj=>zama (env.getD j .no))
noncomputable def isAc:Option Sl->Bool
 | some (.ac _)=>true
 | _=>false
noncomputable def capA(fr:List Nat)(env:DEnv):List Nat:=fr.filter λj=>isAc env[j]?
theorem ztv{own:List Str}{fr:List Nat}{env:DEnv}{i:Nat}{d:PyData}(e:(envB own fr env)[i]?=some (.pl d)):∃j k,i=own.length+k/\fr[k]?=some j/\(env[j]?=some (.pl d)\/env[j]?=some (.ac d)):=by
 unfold envB at e
 by_cases hi:i<own.length
 ·rw[qq (by simpa using hi),qh,qD hi]at e
  cases e
 ·rw[qt (by simpa using hi),qE,qh]at e
  cases ej:fr[i - own.length]? with
  | none=>rw[ej]at e;cases e
  | some j=>
   rw[ej]at e
   refine⟨j,i - own.length,by omega,ej,?_⟩
   have e:zama (env.getD j .no)=.pl d:=qS e
   rw[qQ]at e
   cases ev:env[j]? with
   | none=>rw[ev]at e;cases e
   | some s=>
    rw[ev]at e
    cases s with
    | no=>cases e
    | pl d'=>cases e;exact .inl rfl
    | ac d'=>cases e;exact .inr rfl
theorem zjb{own:List Str}{fr:List Nat}{env:DEnv}{i:Nat}{d:PyData}:(envB own fr env)[i]?≠some (.ac d):=by
 intro e
 unfold envB at e
 by_cases hi:i<own.length
 ·rw[qq (by simpa using hi),qh,qD hi]at e
  cases e
 ·rw[qt (by simpa using hi),qE,qh]at e
  cases ej:fr[i - own.length]? with
  | none=>rw[ej]at e;cases e
  | some j=>
   rw[ej]at e
   have e:zama (env.getD j .no)=.ac d:=qS e
   cases ev:env.getD j .no with
   | no=>rw[ev]at e;cases e
   | pl d'=>rw[ev]at e;cases e
   | ac d'=>rw[ev]at e;cases e
theorem zaeo{own:List Str}{fr:List Nat}{σ:St}{k j:Nat}{v:V}(hk:fr[k]?=some j)(hv:σ[j]?=some (some v)):(tau own fr σ)[own.length+k]?=some (some v):=by
 unfold tau
 rw[qt (by simp),qE,Nat.add_sub_cancel_left,qh,hk]
 show some (σ.getD j none)=_
 rw[qQ,hv];rfl
theorem zvx{fx:Addr->Prop}{H0:Hp}{env:DEnv}{σ:St}{H H1:Hp}{p:Addr}(h:EnvOk fx H0 env σ H)(s:Same H H1)(hp:H1 p=none)(own:List Str)(fr:List Nat)(bs:List Nat) :
  EnvOk (λb=>lim fx env σ (bs++capA fr env) b\/b=p) H1 (envB own fr env) (tau own fr σ) (upd H1 p (.lst [])):=by
 have h1:=h.up s
 have sp:Same H1 (upd H1 p (.lst [])):=Same.new hp
 have so:Same (Offs (λb=>fx b\/L2.own env σ b) H1) (Offs (λb=>(lim fx env σ (bs++capA fr env) b\/b=p)\/L2.own (envB own fr env) (tau own fr σ) b) (upd H1 p (.lst []))):=Offs.mono sp λb o e n z=>by
  rcases z with(z|z)|⟨i,d,z,_⟩
  ·exact n (znu b z)
  ·rw[z,hp]at e;cases e
  ·exact absurd z zjb
 refine⟨?_,λi d e=>?_,λi d e=>absurd e zjb,λi j d e a z=>absurd z zjb,sp,λb z=>?_⟩
 ·unfold envB tau;simp
 ·obtain⟨j,k,rfl,hk,hj⟩:=ztv e
  rcases hj with hj|hj
  ·obtain⟨v,h2,h3⟩:=h1.pl j d hj
   exact⟨v,zaeo hk h2,Rp.same so _ h3⟩
  ·obtain⟨a,h2,h3,h4,h5⟩:=h1.ac j d hj
   refine⟨_,zaeo hk h2,h5.rp so λo eo=>?_⟩
   rw[Offs.get]
   ·exact sp _ _ eo
   ·rintro((z|⟨i',d',z1,z2,z3⟩)|⟨i',d',z,_⟩)
    ·rcases z with z|⟨i',d',z1,z2,z3⟩
     ·exact h4 z
     ·have e2:=h1.inj i' j d' d a z2 hj z3 h2
      subst e2
      refine z1 (ql _ (qBK.mpr ⟨qBI hk,?_⟩))
      rw[hj];rfl
    ·rw[hp]at eo;cases eo
    ·exact absurd z zjb
 ·rcases z with z|z
  ·obtain⟨o,e⟩:=h1.lims _ b z;exact⟨o,sp b o e⟩
  ·rw[z];exact⟨_,zbh⟩
theorem EnvOk.weaken{fx:Addr->Prop}{H0:Hp}{env e1:DEnv}{σ:St}{H:Hp}(h:EnvOk fx H0 e1 σ H)(hl:env.length=e1.length)(hp:∀(i:Nat) (d:PyData),env[i]?=some (.pl d)->e1[i]?=some (.pl d))(ha:∀(i:Nat) (d:PyData),env[i]?≠some (.ac d)):EnvOk fx H0 env σ H:=by
 refine⟨hl.trans h.len,λi d e=>?_,λi d e=>absurd e (ha i d),λi j d e a z=>absurd z (ha i d),h.base,h.fxs⟩
 obtain⟨v,h1,h2⟩:=h.pl i d (hp i d e)
 exact⟨v,h1,Rp.same (Offs.sub λb z=>z.imp (λy=>y) λ⟨j,d',z,_⟩=>absurd z (ha j d')) _ h2⟩
theorem EnvOk.updFx{fx:Addr->Prop}{H0:Hp}{env:DEnv}{σ:St}{H:Hp}{p:Addr}{o:HO}(h:EnvOk fx H0 env σ H)(hp:fx p)(h0:H0 p=none):EnvOk fx H0 env σ (upd H p o):=by
 have so:Offs (λb=>fx b\/own env σ b) (upd H p o)=Offs (λb=>fx b\/own env σ b) H:=Offs.upd (.inl hp)
 refine⟨h.len,λi d e=>?_,λi d e=>?_,h.inj,λb u e=>by rw[zbn (zby e h0)];exact h.base b u e,λb z=>?_⟩
 ·rw[so];exact h.pl i d e
 ·obtain⟨a,h1,h2,h3,h4⟩:=h.ac i d e
  rw[so]
  exact⟨a,h1,h2,h3,h4.same (Same.refl _) λu z=>by rw[zbn λy=>h3 (by rw[y];exact hp)];exact z⟩
 ·by_cases e:b=p
  ·rw[e];exact⟨_,zbh⟩
  ·obtain⟨u,hu⟩:=h.fxs b z
   exact⟨u,by rw[zbn e];exact hu⟩
noncomputable def GX(n:Nat)(g:GT):Prop:=∀d env e1,g d env=some e1->e1.length=env.length/\∀i,n<=i->e1[i]?=env[i]?
noncomputable def GXs(n:Nat)(g:GTs):Prop:=∀ds env e1,g ds env=some e1->e1.length=env.length/\∀i,n<=i->e1[i]?=env[i]?
theorem zie{n i:Nat}(h:i<n):GX n (gN i):=by
 intro d env e1 e
 cases e
 exact⟨qw,λj hj=>qb (by omega)⟩
theorem zaep{n:Nat}:GXs n zkd:=by
 intro ds env e1 e
 cases ds with
 | nil=>cases e;exact⟨rfl,λ_ _=>rfl⟩
 | cons _ _=>cases e
theorem zps{n i:Nat}{g:GTs}(h:i<n)(hg:GXs n g):GXs n (zcg i g):=by
 intro ds env e1 e
 cases ds with
 | nil=>cases e
 | cons d ds=>
  obtain⟨h1,h2⟩:=hg ds _ e1 e
  rw[qw]at h1
  exact⟨h1,λj hj=>(h2 j hj).trans (qb (by omega))⟩
theorem zajm{n m:Nat}{g:GTs}(hg:GXs n g):GX n (gT m g):=by
 intro d env e1 e
 unfold gT at e
 cases d with
 | tuple ds=>
  have e:(if ds.length=m then g ds env else none)=some e1:=e
  split at e
  ·exact hg ds env e1 e
  ·cases e
 | _=>cases e
noncomputable def zet(g:GT)(t:TF)(e:EF)(env:DEnv):List PyData->Option (List PyData)
 | []=>some []
 | d::ds=>(g d env).bind λe1=>(t e1).bind λb=>if b=true then(e e1).bind λr=>(zet g t e env ds).map λrs=>r.d::rs else zet g t e env ds
noncomputable def zfs(own:List Str)(fr:List Nat)(fi:IF')(g:GT)(t:TF)(e:EF):EF:=λenv=>(fi env).bind λz=>if z.1.length<100000 then
 (zet g t e (envB own fr env) z.1).map λrs=>⟨.list rs,true,if zel rs=true then[]else z.2++capA fr env⟩else none
theorem zkf{H H':Hp}{ds:List PyData}{vs:List V}(f:zel ds=true)(h:Rps H ds vs):Rps H' ds vs:=by
 replace h:=zcb.mp h
 induction h with
 | nil=>exact zfq
 | cons h _ ih=>
  unfold zel at f
  rw[qAm,qZ]at f
  exact zfd (zyi f.1 h) (ih f.2)
theorem zgq{own:List Str}{fr:List Nat}{wi:TI}{g:TG}{tt:TT}{te:TE}{fi:IF'}{gf:GT}{t:TF}{e:EF}(h1:SI wi fi)(h2:SG g gf)(hx:GX own.length gf)(h3:ST tt t)(h4:SE te e) :
  SE (tComp1 wi g tt te own fr) (zfs own fr fi gf t e):=by
 intro fx H0 env σ H h rr hr Q q
 unfold zfs at hr
 obtain⟨⟨ds,bs⟩,ei,hr⟩:=qA.mp hr
 split at hr
 ·rename_i hlen
  have hlen:ds.length<100000:=hlen
  obtain⟨rs,ers,rfl⟩:=qI.mp hr
  refine h1 fx H0 env σ H h ds bs ei _ λJ H1 s yl=>λp hp=>?_
  have hB:=zvx h s hp own fr bs
  generalize hA:(λb=>lim fx env σ (bs++capA fr env) b)=A
  have hA':∀b,lim fx env σ (bs++capA fr env) b↔A b:=λb=>by rw[<- hA]
  have eA:(λb=>lim fx env σ (bs++capA fr env) b\/b=p)=λb=>A b\/b=p:=by rw[<- hA]
  rw[eA]at hB
  have nA:¬A p:=λz=>by
   obtain⟨o,eo⟩:=(h.up s).lims _ p ((hA' p).mpr z)
   rw[hp]at eo;cases eo
  have seen:∀{σ':St}{H':Hp},EnvOk (λb=>A b\/b=p) H1 (envB own fr env) σ' H'->Same (Offs (λb=>fx b\/L2.own (frzs env bs) σ b) H1) (Offs (λb=>A b\/b=p) H'):=λ{σ' H'} hE=>Offs.mono hE.base λb o eo n z=>by
   rcases z with z|z
   ·rcases(hA' b).mpr z with z|⟨i,d,z1,z2,z3⟩
    ·exact n (.inl z)
    ·exact n (.inr ⟨i,d,zhx (λy=>z1 (qy _ y)) z2,z3⟩)
   ·rw[z,hp]at eo;cases eo
  refine⟨λi m σ' H'=>m=ds.length - i/\i<=ds.length/\∃vs done rest,H' p=some (.lst vs)/\Rps (Offs (λb=>A b\/b=p) H') done vs/\done.length<=i/\zet gf t e (envB own fr env) (ds.drop i)=some rest/\done++rest=rs/\EnvOk (λb=>A b\/b=p) H1 (envB own fr env) σ' H',
   ⟨ds.length,rfl,qAf _,[],[],rs,zbh,zfq,qAf _,ers,rfl,hB⟩,?_⟩
  rintro i m σ' H' ⟨rfl,hi,vs,done,rest,ep,rd,dl,ec,edr,hE⟩
  obtain⟨yi,ys⟩:=yl _ H' hE.fxs (seen hE)
  by_cases hlt:i<ds.length
  ·obtain⟨yg,yy⟩:=yi i ds[i] (qD hlt)
   refine .inr ⟨yg,λσ'' H''=>i+1<=ds.length/\∃vs done rest,H'' p=some (.lst vs)/\Rps (Offs (λb=>A b\/b=p) H'') done vs/\done.length<=i+1/\zet gf t e (envB own fr env) (ds.drop (i+1))=some rest/\done++rest=rs/\EnvOk (λb=>A b\/b=p) H1 (envB own fr env) σ'' H'',?_,?_⟩
   ·rintro σ'' H'' ⟨hle,hh⟩
    exact⟨ds.length - (i+1),by omega,rfl,hle,hh⟩
   ·intro x H'' hy
    obtain⟨sy,ry⟩:=yy x H'' hy
    rw[qAJ hlt]at ec
    obtain⟨e1,ee1,ec⟩:=qA.mp ec
    obtain⟨b,eb,ec⟩:=qA.mp ec
    have ry':Rp (Offs (λa=>(A a\/a=p)\/L2.own (envB own fr env) σ' a) H'') ds[i] x:=Rp.same (Offs.sub λb z=>z.elim (λy=>y) λ⟨j,d',z,_⟩=>absurd z zjb) _ ry
    refine h2 _ H1 (envB own fr env) σ' H'' _ x (hE.up sy) ry' e1 ee1 _ λσ2 hE2=>?_
    refine h3 _ H1 e1 σ2 H'' hE2 b eb _ λH3 s3=>?_
    have hE3:=hE2.up s3
    obtain⟨gl,gk⟩:=hx _ _ _ ee1
    have back:∀{H4:Hp},EnvOk (λb=>A b\/b=p) H1 e1 σ2 H4->EnvOk (λb=>A b\/b=p) H1 (envB own fr env) σ2 H4:=λ{H4} hh=>hh.weaken gl.symm (λj d' ej=>by
     by_cases hj:own.length<=j
     ·rw[gk j hj];exact ej
     ·obtain⟨_,k,rfl,_⟩:=ztv ej;omega) λj d'=>zjb
    cases b with
    | false=>
     have ec:zet gf t e (envB own fr env) (ds.drop (i+1))=some rest:=ec
     exact iteF ⟨hlt,vs,done,rest,s3 _ _ (sy _ _ ep),Rps.same (Offs.grow (sy.trans s3)) _ rd,Nat.le_succ_of_le dl,ec,edr,back hE3⟩
    | true=>
     have ec:((e e1).bind λr=>(zet gf t e (envB own fr env) (ds.drop (i+1))).map λrs=>r.d::rs)=some rest:=ec
     obtain⟨r,er,ec⟩:=qA.mp ec
     obtain⟨rest',er',rfl⟩:=qI.mp ec
     refine iteT (h4 _ H1 e1 σ2 H3 hE3 r er _ λv H4 s4 hv=>?_)
     have t4:=(sy.trans s3).trans s4
     refine⟨vs,t4 _ _ ep,zqi (by rw[<- rd.length];omega),hlt,vs++[v],done++[r.d],rest',zbh,?_,by rw[qR];simp;omega,er',by rw[<- edr];simp,(back (hE3.up s4)).updFx (.inr rfl) hp⟩
     rw[Offs.upd (.inr rfl)]
     exact(Rps.same (Offs.grow t4) _ rd).append (zfd (Rp.same (Offs.sub λb z=>.inl z) _ hv.rp) zfq)
  ·have hi':i=ds.length:=by omega
   subst hi'
   rw[qAr]at ec
   cases ec
   rw[qAV]at edr
   subst edr
   refine .inl ⟨ys,q _ H' (s.trans hE.base) ⟨?_,λ_=>⟨p,rfl,s.free hp,?_⟩⟩⟩
   ·show Rp (Offs (lim fx env σ (if zel done=true then[]else bs++capA fr env)) H') (.list done) (.ref p)
    have nl:∀cs,¬lim fx env σ cs p:=λcs z=>by
     obtain⟨o,eo⟩:=(h.up s).lims _ p z
     rw[hp]at eo;cases eo
    refine zlc (by rw[Offs.get (nl _)];exact ep) ?_
    split
    ·rename_i f;exact zkf f rd
    ·exact Rps.same (Offs.sub λb z=>.inl ((hA' b).mp z)) _ rd
   ·show zek (Offs (λb=>lim fx env σ (if zel done=true then[]else bs++capA fr env) b\/b=p) H') H' p (.list done)
    refine⟨vs,ep,?_⟩
    split
    ·rename_i f;exact zkf f rd
    ·exact Rps.same (Offs.sub λb z=>z.imp (hA' b).mp id) _ rd
 ·cases hr
section
variable{X:Cx}{K:qC}
theorem zaeq(hK:X.K=K){a:Expr}{ta:TE}(ha:PE X a ta)(he:∀whole,isTrue a X.env whole=(do let v <- whole;standAt a.pos;holding [v] (truthy v))) :
  PT X a (λσ H Q=>ta σ H λx H'=>∃k,TruV K x H' k/\Q k H'):=by subst hK;exact zagt ha he
theorem zjc(hK:X.K=K):CallR X (.type "tuple") (λxs H Q=>∃p ys,xs=[.ref p]/\((SqL K H p ys/\∀l,H l=none->Q (.ref l) (upd H l (.tup ys)))\/(SqT K H p ys/\Q (.ref p) H))):=by subst hK;exact ztl
theorem zhy(hK:X.K=K)(hu:X.A.units+64<cLine):OpR X (compareOp .Eq) (λx y H Q=>rEq x y H Q\/rEqD K false x y H Q):=by subst hK;exact zarh.or (zapc hu)
theorem zqp(hK:X.K=K)(hu:X.A.units+64<cLine):OpR X (compareOp .NotEq) (λx y H Q=>rNe x y H Q\/rEqD K true x y H Q):=by subst hK;exact zari.or (zapd hu)
noncomputable def zgr:TF:=λ_=>some true
theorem zkg:ST tAll zgr:=by
 intro fx H0 env σ H hE b hb Q q
 cases hb
 exact q H (Same.refl _)
noncomputable def rIsC(neg:Bool):R2:=λx y H Q=>∃b,y=.bl b/\Q (.bl (if neg then !decide (x=y)else decide (x=y))) H
theorem zaer{x:V}{v:Value}{b:Bool}(r:RelV x v):(v==Value.bool b)=decide (x=.bl b):=by
 cases x with
 | non=>cases r;rfl
 | bl c=>cases r;cases b<;>cases c<;>rfl
 | int _=>obtain⟨t,rfl⟩:=r;rfl
 | str _=>obtain⟨t,rfl⟩:=r;rfl
 | byt _=>obtain⟨t,rfl⟩:=r;rfl
 | flt _=>obtain⟨t,rfl⟩:=r;rfl
 | ref _=>cases r;rfl
 | ty _=>cases r;rfl
theorem zabp{x:V}{v:Value}{b:Bool}(r:RelV x v):plainIs v (.bool b)=true:=by
 cases x with
 | non=>cases r;rfl
 | bl c=>cases r;rfl
 | int _=>obtain⟨t,rfl⟩:=r;rfl
 | str _=>obtain⟨t,rfl⟩:=r;rfl
 | byt _=>obtain⟨t,rfl⟩:=r;rfl
 | flt _=>obtain⟨t,rfl⟩:=r;rfl
 | ref _=>cases r;rfl
 | ty _=>cases r;rfl
theorem zaes:OpR X (compareOp .IsNot) (rIsC true):=by
 intro pins s σ H x y v u Q I rx ry h
 obtain⟨b,rfl,q⟩:=h
 cases ry
 exact wpAny_isNot_plain (zabp rx) ⟨.bl _,H,I,by rw[zaer rx];rfl,q⟩
noncomputable def isB:PyData->Bool->Bool
 | .bool c,b=>c==b
 | _,_=>false
noncomputable def isCD(neg:Bool):OF:=λd e=>match e with
 | .bool b=>some (.bool (if neg then !isB d b else isB d b),false)
 | _=>none
theorem zars{H:Hp}{d:PyData}{v:V}{b:Bool}(h:Rp H d v):decide (v=.bl b)=isB d b:=by
 cases d with
 | list ds=>obtain⟨a,xs,rfl,_⟩:=zdt h;rfl
 | tuple ds=>obtain⟨a,xs,rfl,_⟩:=zde h;rfl
 | dict ds=>obtain⟨a,xs,rfl,_⟩:=znq h;rfl
 | bool c=>cases ziy h;exact zzz
 | _=>unfold Rp at h;subst h;rfl
theorem zart{neg:Bool}:SO (rIsC neg) (isCD neg):=by
 intro A H x y dx dy hA rx ry d fr e Q q
 unfold isCD at e
 split at e
 ·cases e
  cases ziy ry
  refine⟨_,rfl,?_⟩
  rw[zars rx]
  exact q _ H (Same.refl _) zau (λz=>by cases z)
 ·cases e
noncomputable def eNeg(a:EF):EF:=λenv=>(a env).bind λx=>match x.d with|.int i=>some ⟨.int (-i),false,[]⟩|_=>none
theorem zaet{te:TE}{f:EF}(h1:SE te f):SE (tUn (rU λi=>.int (-i)) te) (eNeg f):=by
 intro fx H0 env σ H h rr hr Q q
 unfold eNeg at hr
 obtain⟨⟨d,fr,bs⟩,ex,hr⟩:=qA.mp hr
 cases d with
 | int i=>
  cases hr
  exact h1 fx H0 env σ H h _ ex _ λv H1 s1 v1=>⟨i,zdc v1.rp,q _ H1 s1 ⟨zab,λz=>by cases z⟩⟩
 | _=>cases hr
end
end L2
namespace PySem
open Sem (wp)
end PySem
namespace L2
open PySem PySem.Spec PyProof.Rows
theorem zox{α β:Type}{F:α->β->Prop}:∀{l:List α}{r:List β}{i:Nat}{x:α},Paired F l r->l[i]?=some x->∃y,r[i]?=some y/\F x y
 | _,_,_,_,.nil,e=>by simp at e
 | _,_,0,_,.cons h _,e=>by simp at e;subst e;exact⟨_,rfl,h⟩
 | _,_,i+1,x,.cons _ t,e=>by
  obtain⟨y,h1,h2⟩:=zox (i:=i) (x:=x) t (by simpa using e)
  exact⟨y,by simpa using h1,h2⟩
theorem zamb{X:Cx}{K:qC}(hK:X.K=K){T:String}{name:Str}{id:String}{r:V->List V->Hp->VK->Prop}{o:Expr}{to:TE}{apos cpos:Pos}(pa:PlainAttrs T)(slot:Slot T name id)(hty:typeOf (.builtin id)=pure (.type "method_descriptor"))(hm:MtR X id r)(ho:PE X o to)
  (hbase:attributeBase o name X.env (eval o X.env)=eval o X.env:=by rfl)
  (hline:(apos.endLine==cpos.line)=true:=by rfl) :
  PE X (.Call (.Attribute o name apos) [] [] cpos) (tBM0 K T r to):=by subst hK;exact zaot pa slot hty hm ho hbase hline
noncomputable def zep(i:Nat)(b:EF):EF:=λenv=>match env[i]? with
 | some (.pl (.dict kvs))=>(b env).bind λy=>(keyD y.d).bind λk=>(zmi kvs k).bind λd=>some ⟨d,false,[]⟩
 | some (.ac (.dict kvs))=>(b env).bind λy=>(keyD y.d).bind λk=>(zmi kvs k).bind λd=>some ⟨d,false,[]⟩
 | _=>none
theorem zpt{i:Nat}{ty:TE}{fb:EF}(hb:SE ty fb):SE (tDGet (tVar i) ty) (zep i fb):=by
 intro fx H0 env σ H h rr hr Q q
 unfold zep at hr
 have key:∀(a:Addr)(ps:List (Key×V))(kvs:List (PyData×PyData)),σ[i]?=some (some (.ref a))->H a=some (.dK ps)->Rpd (Offs (λb=>fx b\/own env σ b) H) kvs ps->((fb env).bind λy=>(keyD y.d).bind λk=>(zmi kvs k).bind λd=>some (⟨d,false,[]⟩:Val))=some rr->tDGet (tVar i) ty σ H Q:=by
  intro a ps kvs hs ha r hr
  obtain⟨y,ey,hr⟩:=qA.mp hr
  obtain⟨k,ek,hr⟩:=qA.mp hr
  obtain⟨d,ed,hr⟩:=qA.mp hr
  cases hr
  refine⟨_,hs,hb fx H0 env σ H h _ ey _ λu H2 s2 v2=>?_⟩
  have g:=(Rpd.same (Offs.grow s2) _ r).get (j:=k)
  rw[ed]at g
  obtain⟨w,e1,e2⟩:=g
  rw[zahp v2.rp ek]
  have dg:=DGet.k (k:=k) (s2 _ _ ha)
  rw[e1]at dg
  exact⟨a,w,rfl,dg,q w H2 s2 ⟨Rp.same (Offs.sub znu) _ e2,λz=>by cases z⟩⟩
 split at hr
 ·rename_i kvs ei
  obtain⟨v,h1,h2⟩:=h.pl i _ ei
  obtain⟨a,ps,rfl,ha,r⟩:=znq h2
  exact key a ps kvs h1 (zdl ha) r hr
 ·rename_i kvs ei
  obtain⟨a,h1,h2,h3,ps,ha,r⟩:=h.ac i _ ei
  exact key a ps kvs h1 ha r hr
 ·cases hr
noncomputable def eIxV(i:Nat)(b:EF):EF:=λenv=>match env[i]? with
 | some (.ac (.list ds))=>(b env).bind λy=>match y.d with
  | .int k=>(atI ds k).map λd=>⟨d,false,[]⟩
  | _=>none
 | _=>eOp ixD (eVar i) b env
theorem zjo{K:qC}{i:Nat}{tb:TE}{fb:EF}(hb:SE tb fb):SE (tOp (rIxU K) (tVar i) tb) (eIxV i fb):=by
 intro fx H0 env σ H h rr hr Q q
 unfold eIxV at hr
 split at hr
 ·rename_i ds ei
  obtain⟨⟨dy,fy,bys⟩,ey,hr⟩:=qA.mp hr
  cases dy with
  | int k=>
   obtain⟨d,ed,rfl⟩:=qI.mp hr
   obtain⟨a,h1,h2,h3,xs,ha,r⟩:=h.ac i _ ei
   refine⟨_,h1,hb fx H0 env σ H h _ ey _ λu H2 s2 v2=>?_⟩
   cases zdc v2.rp
   obtain⟨v,hv,rv⟩:=(Rps.same (Offs.grow s2) _ r).atI ed
   exact⟨xs,v,.inl (SqL.of (s2 _ _ ha)),hv,q _ H2 s2 ⟨Rp.same (Offs.sub znu) _ rv,λz=>by cases z⟩⟩
  | _=>cases hr
 ·exact zbe znw (zad i) hb fx H0 env σ H h rr hr Q q
noncomputable def zaeu(wi:TI)(g:TG)(tt:TT)(tm:TM):TM:=λσ H Q=>wi σ H λJ H1=>zahi J g tt tm σ H1 Q
section
variable{X:Cx}
theorem zyr{M:Model}{P:Program}{w:World}{A:Around}{R:Result->Shared->Prop}{s:Shared}{elt:Expr}{g0:Comprehension}{target iter:Expr}{ifs:List Expr}{rest:List Comprehension}{scope:Scope}{cpos:Pos}{it acc:Value}{env:Env}
  (l:codeAny (model P w) A (.compLoop (.ListComp elt (g0::⟨target,iter,ifs,0⟩::rest) scope cpos) 1 it acc env) R s)
  (t:∀(A:Around) (E:Value->Shared->Prop),wpAny (model P w) A (pyIter it) (λu s'=>u=it/\s'=s) E s) :
  codeAny (model P w) A (.compStart (.ListComp elt (g0::⟨target,iter,ifs,0⟩::rest) scope cpos) 1 it acc env) R s:=by
 refine codeAny_of_tree ?_
 show wpAny _ _ ((compStart (.ListComp elt (g0::⟨target,iter,ifs,0⟩::rest) scope cpos) 1 it acc env).onRaise (λx=>do noteFrame x env;standAt theWindowsPlace)) _ _ s
 refine wpAny_notedAt ?_
 unfold compStart
 show wpAny _ _ (ask >>=_) _ _ s
 refine qB (wpAny_askSetting (wpAny_ite ?_))
 split
 ·first
   | exact qB (qH (qH (And.intro rfl l)))
   | exact qH (And.intro rfl l)
 ·refine qB (qCt ?_)
  first
   | exact qB (qBn (qB (thn (t _ _) λu s' z=>by obtain⟨e1,e2⟩:=z;subst e1;subst e2;exact qH (And.intro rfl l))))
   | (show wpAny _ _ (standAt iter.pos >>=_) _ _ s;exact qB (qBn (qB (thn (t _ _) λu s' z=>by obtain⟨e1,e2⟩:=z;subst e1;subst e2;exact qH (And.intro rfl l)))))
theorem zahs{elt0:Expr}{g0:Comprehension}{scope:Scope}{cpos:Pos}{target iter:Expr}{ifs:List Expr}{wi:TI}{g:TG}{tt:TT}{te:TE}{p:Addr}
  (hx:X.xe=λ_ _=>False)(hc:X.calm=true)(hi:PI X target iter wi)(hg:PG X target g)(ht:PF X ifs tt)(he:PE X elt0 te)
  (hs:∀x,foldedSetIterable iter X.env x=pure x) :
  PM X (do
   let x <- eval iter X.env
   standAt iter.pos
   let x <- foldedSetIterable iter X.env x
   let _ <- runOwn (.compStart (.ListComp elt0 [g0,⟨target,iter,ifs,0⟩] scope cpos) 1 (<- holding [x] (pyIter x)) (.ref p) X.env) X.env) (zaeu wi g tt (zadt p te)):=by
 intro pins s σ H Q I h
 refine qB (thn (hi pins s σ H _ I h) λv s1 h1=>?_)
 refine qB (qBn ?_)
 rw[hs]
 refine qB (qH (qB (qAI (thn h1 λitv s2 h2=>?_))))
 obtain⟨it,fp,tn,J,H2,e,I2,T,st2,f2,q⟩:=h2
 subst e
 refine qB (thn (wpAny_runOwn (h:=none) (Q:=λ_ s'=>∃σ' H',Inv X pins σ' H' s'/\Q σ' H') ?_) λ_ _ z=>qH z)
 refine zyr (M:=model X.prog X.w) ?_ λA E=>T.self A 0 s2 _ E st2 ⟨rfl,rfl⟩
 refine qBJ (zqf (X:=X) (pins:=pins) hx hc (elt0:=elt0) (gens:=[g0,⟨target,iter,ifs,0⟩]) (depth:=1) (ip:=iter.pos) (emit:=(do let _ <- call (.builtin "list.append") [.ref p,<- eval elt0 X.env])) rfl T hg ht (zadu he) I2 st2 f2 q) λr s5 hr=>?_
 obtain⟨rfl,z⟩:=hr
 exact z
theorem zaru(elt target iter target2 iter2:Expr)(ifs ifs2:List Expr)(scope:Scope)(cpos:Pos)(it acc:Value)(env:Env) :
  compTurn (.ListComp elt [⟨target,iter,ifs,0⟩,⟨target2,iter2,ifs2,0⟩] scope cpos) 0 it acc env=(do
   standAt iter.pos
   match <- pyNext it with
   | none=>pure (.done .next)
   | some v=>
    letOwnedTupleGo target it v
    assign target env v
    let mut ok:=true
    for c in ifs do
     if ok then ok <- isTrue c env (eval c env)
    if ok then do
     let x <- eval iter2 env
     standAt iter2.pos
     let x <- foldedSetIterable iter2 env x
     let i <- holding [x] (pyIter x)
     let _ <- runOwn (.compStart (.ListComp elt [⟨target,iter,ifs,0⟩,⟨target2,iter2,ifs2,0⟩] scope cpos) 1 i acc env) env
     again (.compLoop (.ListComp elt [⟨target,iter,ifs,0⟩,⟨target2,iter2,ifs2,0⟩] scope cpos) 0 it acc env)
    else again (.compLoop (.ListComp elt [⟨target,iter,ifs,0⟩,⟨target2,iter2,ifs2,0⟩] scope cpos) 0 it acc env)):=rfl
noncomputable def tComp2(wi:TI)(g:TG)(tt:TT)(wi2:TI)(g2:TG)(tt2:TT)(te:TE)(own:List Str)(fr:List Nat):TE:=zalm wi g tt (λp=>zaeu wi2 g2 tt2 (zadt p te)) own fr
theorem zaht{scope:Scope}{N' own:List Str}{fr:List Nat}{elt target iter target2 iter2:Expr}{ifs ifs2:List Expr}{cpos:Pos}{wi wi2:TI}{g g2:TG}{tt tt2:TT}{te:TE}(c:CompOk X scope N' own fr)(hc:X.calm=true)(hi:PI X target iter wi)
  (hb:∀(cl:List (Str×Addr)) (C:Addr) (s:Shared) (H:Hp) (fp:List Addr),PG (cxComp X scope N' own cl C s H fp) target g/\PF (cxComp X scope N' own cl C s H fp) ifs tt/\PI (cxComp X scope N' own cl C s H fp) target2 iter2 wi2/\PG (cxComp X scope N' own cl C s H fp) target2 g2/\PF (cxComp X scope N' own cl C s H fp) ifs2 tt2/\PE (cxComp X scope N' own cl C s H fp) elt te)
  (hs:∀x,foldedSetIterable iter X.env x=pure x:=by intro _;rfl)(hs2:∀env x,foldedSetIterable iter2 env x=pure x:=by intro _ _;rfl) :
  PE X (.ListComp elt [⟨target,iter,ifs,0⟩,⟨target2,iter2,ifs2,0⟩] scope cpos) (tComp2 wi g tt wi2 g2 tt2 te own fr):=
 zaad (emit:=λacc env=>do
   let x <- eval iter2 env
   standAt iter2.pos
   let x <- foldedSetIterable iter2 env x
   let _ <- runOwn (.compStart (.ListComp elt [⟨target,iter,ifs,0⟩,⟨target2,iter2,ifs2,0⟩] scope cpos) 1 (<- holding [x] (pyIter x)) acc env) env) c hc (λit acc env=>by
   rw[zaru]
   refine bind_congr λ_=>bind_congr λr=>?_
   cases r with
   | none=>rfl
   | some v=>
    refine bind_congr λ_=>bind_congr λ_=>bind_congr λok=>?_
    cases ok with
    | false=>rfl
    | true=>simp only[if_true,bind_assoc,pure_bind]) hi
  (λcl C s H fp p=>let⟨h1,h2,h3,h4,h5,h6⟩:=hb cl C s H fp;⟨h1,h2,zahs (X:=cxComp X scope N' own cl C s H fp) rfl hc h3 h4 h5 h6 (λx=>hs2 _ x)⟩) hs
end
noncomputable def NoAc(env:DEnv):Prop:=∀(i:Nat)(d:PyData),env[i]?≠some (.ac d)
noncomputable def GZ(lo hi:Nat)(g:GT):Prop:=∀d env e1,g d env=some e1->e1.length=env.length/\(∀i,(i<lo\/hi<=i)->e1[i]?=env[i]?)/\(NoAc env->NoAc e1)
noncomputable def GZs(lo hi:Nat)(g:GTs):Prop:=∀ds env e1,g ds env=some e1->e1.length=env.length/\(∀i,(i<lo\/hi<=i)->e1[i]?=env[i]?)/\(NoAc env->NoAc e1)
theorem zaah{env:DEnv}{i:Nat}{d:PyData}(h:NoAc env):NoAc (env.set i (.pl d)):=by
 intro j d' e
 by_cases q:i=j
 ·subst q
  by_cases l:i<env.length
  ·rw[qAH l]at e;cases e
  ·rw[qBl (by simp;omega)]at e;cases e
 ·rw[qb q]at e;exact h j d' e
theorem zamc{lo hi i:Nat}(h:lo<=i)(h':i<hi):GZ lo hi (gN i):=by
 intro d env e1 e
 cases e
 exact⟨qw,λj hj=>qb (by omega),zaah⟩
theorem zamd{lo hi:Nat}:GZs lo hi zkd:=by
 intro ds env e1 e
 cases ds with
 | nil=>cases e;exact⟨rfl,λ_ _=>rfl,id⟩
 | cons _ _=>cases e
theorem zaai{lo hi i:Nat}{g:GTs}(h:lo<=i)(h':i<hi)(hg:GZs lo hi g):GZs lo hi (zcg i g):=by
 intro ds env e1 e
 cases ds with
 | nil=>cases e
 | cons d ds=>
  obtain⟨h1,h2,h3⟩:=hg ds _ e1 e
  rw[qw]at h1
  exact⟨h1,λj hj=>(h2 j hj).trans (qb (by omega)),λz=>h3 (zaah z)⟩
theorem zapr{lo hi m:Nat}{g:GTs}(hg:GZs lo hi g):GZ lo hi (gT m g):=by
 intro d env e1 e
 unfold gT at e
 cases d with
 | tuple ds=>
  have e:(if ds.length=m then g ds env else none)=some e1:=e
  split at e
  ·exact hg ds env e1 e
  ·cases e
 | _=>cases e
theorem zqq{g:GT}{t:TF}{e:EF}{env:DEnv}:∀{ds rs:List PyData},zet g t e env ds=some rs->rs.length<=ds.length
 | [],rs,h=>by cases h;exact qN _
 | d::ds,rs,h=>by
  unfold zet at h
  obtain⟨e1,_,h⟩:=qA.mp h
  obtain⟨b,_,h⟩:=qA.mp h
  split at h
  ·obtain⟨r,_,h⟩:=qA.mp h
   obtain⟨rs',h',rfl⟩:=qI.mp h
   have:=zqq h'
   simp;omega
  ·have:=zqq h
   simp;omega
noncomputable def innL(f2:IF')(g2:GT)(t2:TF)(e:EF)(e1:DEnv):Option (List PyData):=(f2 e1).bind λz=>if z.1.length<300 then zet g2 t2 e e1 z.1 else none
noncomputable def zkh(g:GT)(t:TF)(f2:IF')(g2:GT)(t2:TF)(e:EF)(env:DEnv):List PyData->Option (List PyData)
 | []=>some []
 | d::ds=>(g d env).bind λe1=>(t e1).bind λb=>if b=true then(innL f2 g2 t2 e e1).bind λr1=>(zkh g t f2 g2 t2 e env ds).map λrs=>r1++rs else zkh g t f2 g2 t2 e env ds
noncomputable def zvy(own:List Str)(fr:List Nat)(fi:IF')(g:GT)(t:TF)(f2:IF')(g2:GT)(t2:TF)(e:EF):EF:=λenv=>(fi env).bind λz=>if z.1.length<300 then
 (zkh g t f2 g2 t2 e (envB own fr env) z.1).map λrs=>⟨.list rs,true,if zel rs=true then[]else z.2++capA fr env⟩else none
theorem zahu{wi2:TI}{g2:TG}{tt2:TT}{te:TE}{f2:IF'}{gf2:GT}{t2:TF}{e:EF}{B:Addr->Prop}{H1:Hp}{e1:DEnv}{σ:St}{H:Hp}{p:Addr}{vs:List V}{done rest ds:List PyData}{bs:List Nat}{Q:St->Hp->Prop}{k n:Nat}
  (h5:SI wi2 f2)(h6:SG g2 gf2)(hy:GZ k n gf2)(h7:ST tt2 t2)(h4:SE te e)(na:NoAc e1)(no:∀(i:Nat) (d:PyData),k<=i->i<n->e1[i]?≠some (.pl d))
  (hB:B p)(hp:H1 p=none)(hE:EnvOk B H1 e1 σ H)(ep:H p=some (.lst vs))(rd:Rps (Offs B H) done vs)(ei:f2 e1=some (ds,bs))(dl:done.length+ds.length<100000)(ec:zet gf2 t2 e e1 ds=some rest)
  (q:∀σ' H' vs',H' p=some (.lst vs')->Rps (Offs B H') (done++rest) vs'->EnvOk B H1 e1 σ' H'->Q σ' H'):zaeu wi2 g2 tt2 (zadt p te) σ H Q:=by
 refine h5 B H1 e1 σ H hE ds bs ei _ λJ H4 s4 yl=>?_
 have hE4:=hE.up s4
 have n4:Offs (λb=>b=p) H4 p=none:=Offs.out rfl
 refine⟨λi m σ' H'=>m=ds.length - i/\i<=ds.length/\∃vs done' rest',H' p=some (.lst vs)/\Rps (Offs B H') done' vs/\done'.length<=done.length+i/\zet gf2 t2 e e1 (ds.drop i)=some rest'/\done'++rest'=done++rest/\EnvOk B (Offs (λb=>b=p) H4) e1 σ' H',
  ⟨ds.length,rfl,qAf _,vs,done,rest,s4 _ _ ep,Rps.same (Offs.grow s4) _ rd,qN _,ec,rfl,⟨hE4.len,hE4.pl,λi d z=>absurd z (na i d),hE4.inj,Offs.same _ _,hE4.fxs⟩⟩,?_⟩
 rintro i m σ' H' ⟨rfl,hi,vs,done',rest',ep',rd',dl',ec',edr,hE'⟩
 obtain⟨yi,ys⟩:=yl B H' hE'.fxs λb o z=>by
  obtain⟨z1,z2⟩:=Offs.of z
  have hb:¬B b:=λy=>z1 (.inl y)
  rw[Offs.get hb]
  exact hE'.base b o (by rw[Offs.get λy=>hb (by rw[y];exact hB)];exact z2)
 by_cases hlt:i<ds.length
 ·obtain⟨yg,yy⟩:=yi i ds[i] (qD hlt)
  refine .inr ⟨yg,λσ'' H''=>i+1<=ds.length/\∃vs done' rest',H'' p=some (.lst vs)/\Rps (Offs B H'') done' vs/\done'.length<=done.length+(i+1)/\zet gf2 t2 e e1 (ds.drop (i+1))=some rest'/\done'++rest'=done++rest/\EnvOk B (Offs (λb=>b=p) H4) e1 σ'' H'',?_,?_⟩
  ·rintro σ'' H'' ⟨hle,hh⟩
   exact⟨ds.length - (i+1),by omega,rfl,hle,hh⟩
  ·intro x H'' hyx
   obtain⟨sy,ry⟩:=yy x H'' hyx
   rw[qAJ hlt]at ec'
   obtain⟨e2,ee2,ec'⟩:=qA.mp ec'
   obtain⟨b,eb,ec'⟩:=qA.mp ec'
   have ry':Rp (Offs (λa=>B a\/L2.own e1 σ' a) H'') ds[i] x:=Rp.same (Offs.sub λb z=>z.elim (λy=>y) λ⟨j,d',z,_⟩=>absurd z (na _ _)) _ ry
   refine h6 _ _ e1 σ' H'' _ x (hE'.up sy) ry' e2 ee2 _ λσ2 hE2=>?_
   refine h7 _ _ e2 σ2 H'' hE2 b eb _ λH3 s3=>?_
   have hE3:=hE2.up s3
   obtain⟨gl,gk,_⟩:=hy _ _ _ ee2
   have back:∀{H4':Hp},EnvOk B (Offs (λb=>b=p) H4) e2 σ2 H4'->EnvOk B (Offs (λb=>b=p) H4) e1 σ2 H4':=λ{H4'} hh=>hh.weaken gl.symm (λj d' ej=>by
    by_cases hj:j<k\/n<=j
    ·rw[gk j hj];exact ej
    ·exact absurd ej (no j d' (by omega) (by omega))) na
   cases b with
   | false=>
    have ec':zet gf2 t2 e e1 (ds.drop (i+1))=some rest':=ec'
    exact iteF ⟨hlt,vs,done',rest',s3 _ _ (sy _ _ ep'),Rps.same (Offs.grow (sy.trans s3)) _ rd',Nat.le_succ_of_le dl',ec',edr,back hE3⟩
   | true=>
    have ec':((e e2).bind λr=>(zet gf2 t2 e e1 (ds.drop (i+1))).map λrs=>r.d::rs)=some rest':=ec'
    obtain⟨r,er,ec'⟩:=qA.mp ec'
    obtain⟨rest2,er',rfl⟩:=qI.mp ec'
    refine iteT (h4 _ _ e2 σ2 H3 hE3 r er _ λv H5 s5 hv=>?_)
    have t5:=(sy.trans s3).trans s5
    refine⟨vs,t5 _ _ ep',zqi (by rw[<- rd'.length];omega),hlt,vs++[v],done'++[r.d],rest2,zbh,?_,by rw[qR];simp;omega,er',by rw[<- edr];simp,(back (hE3.up s5)).updFx hB n4⟩
    rw[Offs.upd hB]
    refine(Rps.same (Offs.grow t5) _ rd').append (zfd (Rp.same (Offs.sub λb z=>.inl z) _ hv.rp) zfq)
 ·have hi':i=ds.length:=by omega
  subst hi'
  rw[qAr]at ec'
  cases ec'
  rw[qAV]at edr
  subst edr
  exact .inl ⟨ys,q σ' H' vs ep' rd' ⟨hE'.len,hE'.pl,λi d z=>absurd z (na i d),hE'.inj,λb o z=>hE'.base b o (by rw[Offs.get λy=>by rw[y,hp]at z;cases z];exact s4 b o (hE.base b o z)),hE'.fxs⟩⟩
theorem zahv{own:List Str}{fr:List Nat}{env:DEnv}{i:Nat}(h:i<own.length):(envB own fr env)[i]?=some .no:=by
 unfold envB
 rw[qq (by simpa using h),qh,qD h];rfl
theorem zahw{own:List Str}{fr:List Nat}{wi wi2:TI}{g g2:TG}{tt tt2:TT}{te:TE}{fi f2:IF'}{gf gf2:GT}{t t2:TF}{e:EF}{k:Nat}(h1:SI wi fi)(h2:SG g gf)(hx:GZ 0 k gf)(hk:k<=own.length)(h3:ST tt t)
  (h5:SI wi2 f2)(h6:SG g2 gf2)(hy:GZ k own.length gf2)(h7:ST tt2 t2)(h4:SE te e) :
  SE (tComp2 wi g tt wi2 g2 tt2 te own fr) (zvy own fr fi gf t f2 gf2 t2 e):=by
 intro fx H0 env σ H h rr hr Q q
 unfold zvy at hr
 obtain⟨⟨ds,bs⟩,ei,hr⟩:=qA.mp hr
 split at hr
 ·rename_i hlen
  have hlen:ds.length<300:=hlen
  obtain⟨rs,ers,rfl⟩:=qI.mp hr
  refine h1 fx H0 env σ H h ds bs ei _ λJ H1 s yl=>λp hp=>?_
  have hB:=zvx h s hp own fr bs
  generalize hA:(λb=>lim fx env σ (bs++capA fr env) b)=A
  have hA':∀b,lim fx env σ (bs++capA fr env) b↔A b:=λb=>by rw[<- hA]
  have eA:(λb=>lim fx env σ (bs++capA fr env) b\/b=p)=λb=>A b\/b=p:=by rw[<- hA]
  rw[eA]at hB
  have seen:∀{σ':St}{H':Hp},EnvOk (λb=>A b\/b=p) H1 (envB own fr env) σ' H'->Same (Offs (λb=>fx b\/L2.own (frzs env bs) σ b) H1) (Offs (λb=>A b\/b=p) H'):=λ{σ' H'} hE=>Offs.mono hE.base λb o eo n z=>by
   rcases z with z|z
   ·rcases(hA' b).mpr z with z|⟨i,d,z1,z2,z3⟩
    ·exact n (.inl z)
    ·exact n (.inr ⟨i,d,zhx (λy=>z1 (qy _ y)) z2,z3⟩)
   ·rw[z,hp]at eo;cases eo
  refine⟨λi m σ' H'=>m=ds.length - i/\i<=ds.length/\∃vs done rest,H' p=some (.lst vs)/\Rps (Offs (λb=>A b\/b=p) H') done vs/\done.length<=i * 300/\zkh gf t f2 gf2 t2 e (envB own fr env) (ds.drop i)=some rest/\done++rest=rs/\EnvOk (λb=>A b\/b=p) H1 (envB own fr env) σ' H',
   ⟨ds.length,rfl,qAf _,[],[],rs,zbh,zfq,qAf _,ers,rfl,hB⟩,?_⟩
  rintro i m σ' H' ⟨rfl,hi,vs,done,rest,ep,rd,dl,ec,edr,hE⟩
  obtain⟨yi,ys⟩:=yl _ H' hE.fxs (seen hE)
  by_cases hlt:i<ds.length
  ·obtain⟨yg,yy⟩:=yi i ds[i] (qD hlt)
   refine .inr ⟨yg,λσ'' H''=>i+1<=ds.length/\∃vs done rest,H'' p=some (.lst vs)/\Rps (Offs (λb=>A b\/b=p) H'') done vs/\done.length<=(i+1) * 300/\zkh gf t f2 gf2 t2 e (envB own fr env) (ds.drop (i+1))=some rest/\done++rest=rs/\EnvOk (λb=>A b\/b=p) H1 (envB own fr env) σ'' H'',?_,?_⟩
   ·rintro σ'' H'' ⟨hle,hh⟩
    exact⟨ds.length - (i+1),by omega,rfl,hle,hh⟩
   ·intro x H'' hyx
    obtain⟨sy,ry⟩:=yy x H'' hyx
    rw[qAJ hlt]at ec
    obtain⟨e1,ee1,ec⟩:=qA.mp ec
    obtain⟨b,eb,ec⟩:=qA.mp ec
    have ry':Rp (Offs (λa=>(A a\/a=p)\/L2.own (envB own fr env) σ' a) H'') ds[i] x:=Rp.same (Offs.sub λb z=>z.elim (λy=>y) λ⟨j,d',z,_⟩=>absurd z zjb) _ ry
    refine h2 _ H1 (envB own fr env) σ' H'' _ x (hE.up sy) ry' e1 ee1 _ λσ2 hE2=>?_
    refine h3 _ H1 e1 σ2 H'' hE2 b eb _ λH3 s3=>?_
    have hE3:=hE2.up s3
    obtain⟨gl,gk,gn⟩:=hx _ _ _ ee1
    have na:NoAc e1:=gn λ_ _=>zjb
    have back:∀{σ4:St}{H4:Hp},EnvOk (λb=>A b\/b=p) H1 e1 σ4 H4->EnvOk (λb=>A b\/b=p) H1 (envB own fr env) σ4 H4:=λ{σ4 H4} hh=>hh.weaken gl.symm (λj d' ej=>by
     by_cases hj:own.length<=j
     ·rw[gk j (.inr (by omega))];exact ej
     ·obtain⟨_,k,rfl,_⟩:=ztv ej;omega) λj d'=>zjb
    cases b with
    | false=>
     have ec:zkh gf t f2 gf2 t2 e (envB own fr env) (ds.drop (i+1))=some rest:=ec
     exact iteF ⟨hlt,vs,done,rest,s3 _ _ (sy _ _ ep),Rps.same (Offs.grow (sy.trans s3)) _ rd,by omega,ec,edr,back hE3⟩
    | true=>
     have ec:((innL f2 gf2 t2 e e1).bind λr1=>(zkh gf t f2 gf2 t2 e (envB own fr env) (ds.drop (i+1))).map λrs=>r1++rs)=some rest:=ec
     obtain⟨r1,er,ec⟩:=qA.mp ec
     obtain⟨rest',er',rfl⟩:=qI.mp ec
     obtain⟨⟨ds2,bs2⟩,e2,er⟩:=qA.mp er
     split at er
     ·rename_i hl2
      have hl2:ds2.length<300:=hl2
      have l2:=zqq er
      refine iteT (zahu (B:=λb=>A b\/b=p) (p:=p) (vs:=vs) (done:=done) h5 h6 hy h7 h4 na (λj d' h8 h9 ej=>?_) (.inr rfl) hp hE3 (s3 _ _ (sy _ _ ep)) (Rps.same (Offs.grow (sy.trans s3)) _ rd) e2 (by omega) er λσ5 H5 vs5 ep5 rd5 hE5=>?_)
      ·rw[gk j (.inr h8),zahv h9]at ej;cases ej
      ·have l2':r1.length<=ds2.length:=l2
       exact⟨hlt,vs5,done++r1,rest',ep5,rd5,by rw[qR];omega,er',by rw[<- edr,qBW],back hE5⟩
     ·cases er
  ·have hi':i=ds.length:=by omega
   subst hi'
   rw[qAr]at ec
   cases ec
   rw[qAV]at edr
   subst edr
   refine .inl ⟨ys,q _ H' (s.trans hE.base) ⟨?_,λ_=>⟨p,rfl,s.free hp,?_⟩⟩⟩
   ·show Rp (Offs (lim fx env σ (if zel done=true then[]else bs++capA fr env)) H') (.list done) (.ref p)
    have nl:∀cs,¬lim fx env σ cs p:=λcs z=>by
     obtain⟨o,eo⟩:=(h.up s).lims _ p z
     rw[hp]at eo;cases eo
    refine zlc (by rw[Offs.get (nl _)];exact ep) ?_
    split
    ·rename_i f;exact zkf f rd
    ·exact Rps.same (Offs.sub λb z=>.inl ((hA' b).mp z)) _ rd
   ·show zek (Offs (λb=>lim fx env σ (if zel done=true then[]else bs++capA fr env) b\/b=p) H') H' p (.list done)
    refine⟨vs,ep,?_⟩
    split
    ·rename_i f;exact zkf f rd
    ·exact Rps.same (Offs.sub λb z=>z.imp (hA' b).mp id) _ rd
 ·cases hr
end L2
namespace PySem
open Sem (wp)
theorem zif:plainId "set.update.loop"=true:=by decide +kernel
theorem zlp:entryFor table "set.update.loop"=some Builtin.«set.update.loop»:=entryFor_of_fast (by kernel_rfl)
theorem zvz:isSubtype (.type "list") (.type "set")=pure false:=by rw[isSubtype_type];kernel_rfl
theorem ztw:isSubtype (.type "list") (.type "frozenset")=pure false:=by rw[isSubtype_type];kernel_rfl
theorem zaev(a:Value):checkBuiltinCall "set.__new__" ⟨[.type "set",a],[]⟩=pure ():=by kernel_rfl
theorem zabq(a:Value):checkTypeCall "set" ⟨[a],[]⟩=pure ():=by kernel_rfl
end PySem
namespace L2
open PySem PySem.Spec PyProof.Rows
instance memKey (k:Key) (l:List Key):Decidable (k∈l):=decidable_of_iff (∃x,x∈l/\x=k) ⟨λ⟨x,h,e⟩=>e▸h,λh=>⟨k,h,rfl⟩⟩
noncomputable def unl(seen:List Key):List Key->Nat
 | []=>0
 | k::ks=>(if k∈seen then 0 else 1)+unl (k::seen) ks
theorem zahx{prog:Program}{w:World}{A:Around}{R:Result->Shared->Prop}{d it l:Addr}{h0:Heap}{items:List Value}{ks:List Key}(hA:A.in1.handled=none)
  (pr:Paired (λ(v:Value) (k:Key)=>zti k v=true/\v.scannable=true) items ks)(hl:h0.IsList l items.toArray)(hd:h0.get? d=none)(hi:h0.get? it=none)(hdi:d≠it)(hz:items.length<4000) :
  ∀(k i:Nat)(s:Shared)(seen:List Key)(n:Nat),items.length - i=k->i<=items.length->s.heap.IsListIter it l i->s.heap.SetOf (zbs prog w) d (λx=>decide (x∈seen)) n->(∀b o,h0.get? b=some o->s.heap.get? b=some o)->n<=i->
  (∀h' tk' S,h'.SetOf (zbs prog w) d S (n+unl seen (ks.drop i))->(∀b o,h0.get? b=some o->h'.get? b=some o)->R (.ok (.ret .none)) {s with heap:=h',toks:=tk'})->
  codeAny (model prog w) A (.builtin "set.update.loop" ⟨[.ref d,.ref it],[]⟩) R s:=by
 have hlen:=pr.length
 have keepL:∀{h:Heap},(∀b o,h0.get? b=some o->h.get? b=some o)->h.IsList l items.toArray:=λ{h} kp=>Heap.IsList.at hl λo e=>kp _ o e
 intro k
 induction k with
 | zero=>
  intro i s seen n hk hile hit hdo kp hn hR
  have hin:i=items.length:=by omega
  subst hin
  refine qCd zlp ?_
  rw[qCf zif _]
  show wpAny _ A.in1 (pyNext (.ref it) >>=_) _ _ s
  refine qB (wpAny_pyNext_list_end hA hit (keepL kp) (by simp) λh' eb=>?_)
  refine qH ?_
  refine hR h' s.toks (λx=>decide (x∈seen)) ?_ λb o e=>eb b o (λz=>by rw[z,hi]at e;cases e) (kp b o e)
  rw[List.drop_of_length_le (by omega)]
  obtain⟨o,es,ep,t,q1,q⟩:=hdo
  exact⟨o,es,ep,t,eb _ _ hdi q1,q⟩
 | succ k ih=>
  intro i s seen n hk hile hit hdo kp hn hR
  have hlt:i<items.length:=by omega
  obtain⟨p,hp,hkey,hsc⟩:=zox pr (qD hlt)
  refine qCd zlp ?_
  rw[qCf zif _]
  show wpAny _ A.in1 (pyNext (.ref it) >>=_) _ _ s
  refine qB (wpAny_pyNext_list_item hit (keepL kp) (x:=items[i]) (by simp[hlt]) λh1 hit1 sb1=>?_)
  have kp1:∀b o,h0.get? b=some o->h1.get? b=some o:=λb o e=>(sb1.2 b (λz=>by rw[z,hi]at e;cases e)).trans (kp b o e)
  have hd1:h1.SetOf (zbs prog w) d (λx=>decide (x∈seen)) n:=by
   obtain⟨o,es,ep,t,q1,q⟩:=hdo
   exact⟨o,es,ep,t,(sb1.2 d hdi).trans q1,q⟩
  show wpAny _ _ (holding [items[i]] (setAdd d items[i]) >>=_) _ _ _
  refine qB (qAI ?_)
  unfold setAdd
  refine qAI (qB ((zbs prog w).pyHash hkey ?_))
  refine wpAny_setAddHashed_of (knd:=zbs prog w) (k:=p) hkey hsc hd1 (by show n+1<4096;omega) λh2 sb2 hd2=>?_
  have hit2:h2.IsListIter it l (i+1):=by obtain⟨o,q1,q2,q3⟩:=hit1;exact⟨o,(sb2.2 _ (qBC hdi)).trans q1,q2,q3⟩
  refine qH ⟨plainId_quiet zif _,?_⟩
  have kp2:∀b o,h0.get? b=some o->h2.get? b=some o:=λb o e=>(sb2.2 b (λz=>by rw[z,hd]at e;cases e)).trans (kp1 b o e)
  have eS:(λk'=>decide (k'∈seen)||decide (k'=p))=λx=>decide (x∈p::seen):=by
   funext x;by_cases h1:x=p<;>by_cases h2:x∈seen<;>simp[h1,h2]
  rw[eS]at hd2
  refine ih (i+1) _ (p::seen) _ (by omega) hlt hit2 hd2 kp2 (by split<;>omega) λh' tk' S hS kp'=>?_
  refine hR h' tk' S ?_ kp'
  have e:ks.drop i=p::ks.drop (i+1):=by
   obtain⟨hh,e⟩:=qT.mp hp
   rw[<- e];exact qAJ hh
  rw[e]
  unfold unl
  have:n+((if p∈seen then 0 else 1)+unl (p::seen) (ks.drop (i+1)))=(if decide (p∈seen)=true then n else n+1)+unl (p::seen) (ks.drop (i+1)):=by
   by_cases h:p∈seen<;>simp[h]<;>omega
  rw[this]
  exact hS
theorem zaew{prog:Program}{w:World}{A:Around}{E:Value->Shared->Prop}{s:Shared}(a:Value){Q₁:Value->Shared->Prop}
  (h:∀led:Bool,Q₁ (.ref s.heap.objs.size) {s with heap:=s.heap.push {cls:=.type "set",dict:=none,data:=.set #[] 0 (.fresh 0 0 led)}}) :
  codeAny (model prog w) A (.call (.builtin "set.__new__") ⟨[.type "set",a],[]⟩) (wants Q₁ E) s:=by
 refine codeAny_call_builtin F.plain_set_new F.entry_set_new (qA0 (zaev a) ?_)
 have hsub:=sub_set_self
 obtain⟨hp,g,d,tk,os⟩:=s
 unfold Builtin.«set.__new__» Builtin.Frozenset.newClass
 dsimp only
 wp_walk
 refine wpAny_askSetting (qH ?_)
 dsimp only
 simp only[newObj]
 refine qB (wpAny_alloc (qH ?_))
 exact qH (h _)
theorem zys{M:Model}{A:Around}{E:Value->Shared->Prop}{s:Shared}{self v:Value}{Q:Unit->Shared->Prop}(hT:s.TypeIs self "set")(hQ:Q () s) :
  wpAny M A (checkBuiltinCall "set.__init__" ⟨[self,v],[]⟩) Q E s:=by
 simp only[checkBuiltinCall,kind_set_init,split_set_init,sig_set_init]
 refine qB (qA2 hT sub_set_self ?_)
 simp only[qCX,qAu,if_false]
 unfold Bind.checkArgs
 dsimp only
 refine qB (m:=Bind.printed "set" true _ _) (printed_name (by decide) ?_)
 refine qB (m:=Bind.printed "*" false _ _) (printed_star (self:=self) rfl hT λshort=>?_)
 have e:(Manifest.Receiver.self==Manifest.Receiver.none)=false:=by decide
 have n:(if(Manifest.Receiver.self==Manifest.Receiver.none)=true then[self,v].length else[self,v].length - 1)=1:=by simp[e]
 rw[n]
 simp only[qBk]
 have c:Bind.check ⟨.positional,"set","*",.self,[⟨"iterable",.posOnly,false⟩]⟩ "set" short 1 []=pure ():=by
  first|rfl|kernel_rfl
 rw[c]
 exact qH hQ
theorem zame{prog:Program}{w:World}{h:Heap}{led:Bool}:(h.push {cls:=.type "set",dict:=none,data:=.set #[] 0 (.fresh 0 0 led)}).SetOf (zbs prog w) h.objs.size (λx=>decide (x∈([]:List Key))) 0:=by
 refine⟨_,#[],0,_,qk _ rfl,⟨rfl,rfl,rfl⟩,rfl,λe he=>?_,λk=>?_,by decide,by cases led<;>rfl,rfl⟩
 ·simp at he
 ·simp
theorem ztx{prog:Program}{w:World}{A:Around}{E:Value->Shared->Prop}{s:Shared}{l:Addr}{items:List Value}{ks:List Key}{Q:Value->Shared->Prop}(hA:A.handled=none)
  (pr:Paired (λ(v:Value) (k:Key)=>zti k v=true/\v.scannable=true) items ks)(hl:s.heap.IsList l items.toArray)(hz:items.length<4000)
  (h:∀h' tk S,h'.SetOf (zbs prog w) s.heap.objs.size S (unl [] ks)->(∀b o,s.heap.get? b=some o->h'.get? b=some o)->Q (.ref s.heap.objs.size) {s with heap:=h',toks:=tk}) :
  wpAny (model prog w) A (call (.type "set") [.ref l]) Q E s:=by
 obtain⟨c,tl,hmro⟩:=qA5.mro
 have hmade:=qA5.made
 have hsub:=qA5.sub
 refine wpAny_call (codeAny_of_tree ?_)
 show wpAny _ _ (callAny (.type "set") _) _ _ _
 refine qH ⟨Code.quiet_builtin _ (by decide +kernel),qCd F.entry_type_call ?_⟩
 rw[Around.under_plain (weight_type_call_type "set" [.ref l] []) rfl]
 have h1:=qA5.notType
 have h2:=qA5.canCreate
 have hct:=zabq (.ref l)
 repeat (any_goals (first|assumption|wp_step))
 refine qBJ (zaew (E:=E) (.ref l) (Q₁:=λobj s₁=>∃led:Bool,obj=.ref s.heap.objs.size/\s₁={s with heap:=s.heap.push {cls:=.type "set",dict:=none,data:=.set #[] 0 (.fresh 0 0 led)}}) λled=>⟨led,rfl,rfl⟩) λr s₁ hr=>?_
 cases r with
 | error e=>exact hr
 | ok fl=>
  cases fl with
  | ret obj=>
   obtain⟨led,rfl,rfl⟩:=hr
   have hS:=zame (prog:=prog) (w:=w) (h:=s.heap) (led:=led)
   have hT:Shared.TypeIs {s with heap:=s.heap.push {cls:=.type "set",dict:=none,data:=.set #[] 0 (.fresh 0 0 led)}} (.ref s.heap.objs.size) "set":=⟨_,qk _ rfl,rfl⟩
   have hli:=qA5.init.lookup
   have hbi:=qA5.init.bind (.ref s.heap.objs.size)
   repeat (any_goals (first|assumption|wp_step))
   refine qBJ (codeAny_call_builtin (R:=wants (λr s₂=>r=.none/\Q (.ref s.heap.objs.size) s₂) E) qA5.init.plain F.entry_set_init (zys hT ?_)) λr₂ s₂ hr₂=>?_
   ·unfold Builtin.«set.__init__» noKeywords
    obtain⟨ol,g1,g2,n3,g3⟩:=id hl
    have hl':(s.heap.push {cls:=.type "set",dict:=none,data:=.set #[] 0 (.fresh 0 0 led)}).get? l=some ol:=qL _ g1
    have hTl:Shared.TypeIs {s with heap:=s.heap.push {cls:=.type "set",dict:=none,data:=.set #[] 0 (.fresh 0 0 led)}} (.ref l) "list":=⟨_,hl',g2⟩
    have n1:=zvz
    have n2:=ztw
    have hst:∀{P:Bool->Shared->Prop}{E':Value->Shared->Prop}{A':Around},P false {s with heap:=s.heap.push {cls:=.type "set",dict:=none,data:=.set #[] 0 (.fresh 0 0 led)}}->wpAny (model prog w) A' (setUsed s.heap.objs.size) P E' {s with heap:=s.heap.push {cls:=.type "set",dict:=none,data:=.set #[] 0 (.fresh 0 0 led)}}:=λhP=>by
     unfold setUsed
     refine qB (wpAny_setState_of (qk _ rfl) rfl (by cases led<;>rfl) (qH ?_))
     cases led<;>exact hP
    refine qB (m:=(pure ():Sem Unit)) (qH ?_)
    refine qB ?_
    unfold typeNameOfCut shownTypeOf
    refine qB ?_
    refine thn (Q:=λa s'=>a=.type "set"/\s'={s with heap:=s.heap.push {cls:=.type "set",dict:=none,data:=.set #[] 0 (.fresh 0 0 led)}}) ?_ λa s' ha=>?_
    ·repeat (any_goals (first|assumption|wp_step))
     exact⟨rfl,rfl⟩
    obtain⟨rfl,rfl⟩:=ha
    refine qH ?_
    refine qB (qH ?_)
    refine qB (qH ?_)
    refine qB (hst ?_)
    show wpAny _ _ (Builtin.Frozenset.updateFrom "set.__init__" s.heap.objs.size (.ref l) >>=_) _ _ _
    unfold Builtin.Frozenset.updateFrom Builtin.Frozenset.isAnySet
    refine qB (qB (thn (Q:=λb s'=>b=false/\s'={s with heap:=s.heap.push {cls:=.type "set",dict:=none,data:=.set #[] 0 (.fresh 0 0 led)}}) ?_ λb s' hb=>?_))
    ·simp only[orM]
     refine qB (qA2 hTl n1 ?_)
     exact qA2 hTl n2 ⟨rfl,rfl⟩
    obtain⟨rfl,rfl⟩:=hb
    rw[if_neg (by decide)]
    refine qB (qCL hTl ?_)
    rw[if_neg (by decide)]
    have g0:∀b o,s.heap.get? b=some o->(s.heap.push {cls:=.type "set",dict:=none,data:=.set #[] 0 (.fresh 0 0 led)}).get? b=some o:=λb o e=>qL _ e
    refine qB (qBh (items:=items.toArray) ⟨ol,hl',g2,n3,g3⟩ ?_)
    have hsz:s.heap.objs.size<(s.heap.push {cls:=.type "set",dict:=none,data:=.set #[] 0 (.fresh 0 0 led)}).objs.size:=qX (qk _ rfl)
    refine qB (wpAny_runValue (zahx (h0:=s.heap) (by exact hA) pr hl (qBq (qN _)) (qBq (qBp hsz)) (qAB hsz) hz items.length 0 _ [] 0 rfl (qAf _) ⟨_,qk _ rfl,rfl,rfl⟩ ?_ (λb o e=>qL _ (g0 b o e)) (qAf _) λh' tk' S hd' kp'=>?_))
    ·obtain⟨o,es,ep,t,q1,q⟩:=hS
     exact⟨o,es,ep,t,qL _ q1,q⟩
    ·refine qH ?_
     refine qH ⟨rfl,h h' tk' S ?_ kp'⟩
     rw[Nat.zero_add]at hd'
     exact hd'
   ·cases r₂ with
    | error e=>exact hr₂
    | ok fl₂=>
     cases fl₂ with
     | ret r=>
      obtain⟨rfl,hq⟩:=hr₂
      repeat (any_goals (first|assumption|wp_step))
     | _=>exact hr₂.elim
  | _=>exact hr.elim
noncomputable def tLenSet(te:TE):TE:=λσ H Q=>te σ H λx H1=>∃p vs ks,x=.ref p/\H1 p=some (.lst vs)/\vs=ks.map kV/\vs.length<4000/\Q (.int (unl [] ks)) H1
theorem zamf{k:Key}{u:Value}(r:RelV (kV k) u):u.scannable=true:=by
 cases k with
 | inl i=>obtain⟨t,e⟩:=(show ∃t,u=Value.int i t from r);subst e;rfl
 | inr x=>obtain⟨t,e⟩:=(show ∃t,u=Value.str x t from r);subst e;rfl
theorem zqr{P:Program}{w:World}:∀{ks:List Key}{us:List Value},Vals (ks.map kV) us->Paired (λ(v:Value)(k:Key)=>zti k v=true/\v.scannable=true) us ks
 | [],us,h=>by cases h;exact .nil
 | k::ks,us,h=>by cases h with|cons r t=>exact .cons ⟨zabl (P:=P) (w:=w) r,zamf r⟩ (zqr (P:=P) (w:=w) t)
theorem zaps:bootBuiltins "len"=some (.builtin "len"):=by decide +kernel
theorem zapt:bootBuiltins "set"=some (.type "set"):=by decide +kernel
theorem zaex{X:Cx}{e:Expr}{te:TE}{p1 p2 pos1 pos2:Pos}(hc:X.calm=true)(hgl:Gl X "len")(hml:X.mg "len"=none)(hgs:Gl X "set")(hms:X.mg "set"=none)(he:PE X e te)
  (hs:starEach [e] X.env=(false,eval e X.env)::starEach [] X.env:=by rfl) :
  PE X (.Call (.Name "len" p1) [.Call (.Name "set" p2) [e] [] pos2] [] pos1) (tLenSet te):=by
 intro pins s σ H Q I h
 refine qBA (zqb I hgl hml zaps ?_ (by decide) (by decide))
 refine callWith_builtin1 ?_ rfl rfl
 show wpAny _ _ (spliced ((false,eval (.Call (.Name "set" p2) [e] [] pos2) X.env)::[])) _ _ s
 refine qBx ?_
 refine qBA (zqb I hgs hms zapt ?_ (by decide) (by decide))
 refine callWith_type1 ?_ hs rfl
 rw[hs]
 show wpAny _ _ (spliced ((false,eval e X.env)::[])) _ _ s
 refine qBx (thn (he pins s σ H _ I h) λu s1 z=>?_)
 obtain⟨x,H1,I1,r1,p,vs,ks,rfl,hp,rfl,hz,q⟩:=z
 cases r1
 refine qB0 ?_
 obtain⟨hz',its,n,rv,hg⟩:=(show zfb X.prog X.w H1 s1.heap p (.lst (ks.map kV))from I1.hok p _ hp)
 have hl:=rv.length
 refine ztx (I1.ok.hd hc) (zqr (P:=X.prog) (w:=X.w) rv) ⟨_,hg,rfl,n,rfl⟩ (by omega) λh' tk S hS kp=>?_
 refine qB0 ?_
 obtain⟨o,es,ep,t,ho,hex,hd,_,_,hb,hf,hn⟩:=hS
 refine call_len_set (s:={s1 with heap:=h',toks:=tk}) ho hex hd hf (by have:es.size<4096:=hb;omega) ?_
 exact⟨.int (unl [] ks),H1,I1.kept (t':=_) kp,⟨tk+1,by rw[hn]⟩,q⟩
noncomputable def zyt:List PyData->Option (List Key)
 | []=>some []
 | d::ds=>(keyD d).bind λk=>(zyt ds).map λks=>k::ks
noncomputable def zty(f:EF):EF:=λenv=>(f env).bind λr=>match r.d with
 | .list ds=>(zyt ds).bind λks=>if ds.length<4000 then some ⟨.int (unl [] ks),false,[]⟩else none
 | _=>none
theorem zaaj{H:Hp}:∀{ds:List PyData}{vs:List V}{ks:List Key},Rps H ds vs->zyt ds=some ks->vs=ks.map kV
 | [],vs,ks,h,e=>by unfold Rps at h;cases e;subst h;rfl
 | d::ds,vs,ks,h,e=>by
  obtain⟨k,ek,e⟩:=qA.mp e
  obtain⟨ks',e',rfl⟩:=qI.mp e
  cases zcb.mp h with
  | cons h1 h2=>
   rename_i v vs'
   have:=zaaj (zcb.mpr h2) e'
   subst this
   cases d with
   | int i=>cases ek;unfold Rp at h1;subst h1;rfl
   | str x=>cases ek;unfold Rp at h1;subst h1;rfl
   | _=>cases ek
theorem zaey{te:TE}{f:EF}(h:SE te f):SE (tLenSet te) (zty f):=by
 intro fx H0 env σ H hE rr hr Q q
 unfold zty at hr
 obtain⟨⟨d,fr,bs⟩,er,hr⟩:=qA.mp hr
 cases d with
 | list ds=>
  have hr:((zyt ds).bind λks=>if ds.length<4000 then some (⟨.int (unl [] ks),false,[]⟩:Val)else none)=some rr:=hr
  obtain⟨ks,ek,hr⟩:=qA.mp hr
  split at hr
  ·rename_i hl
   cases hr
   refine h fx H0 env σ H hE _ er _ λv H1 s1 hv=>?_
   obtain⟨p,xs,rfl,h1,r⟩:=zdt hv.rp
   have e:=zaaj r ek
   refine⟨p,xs,ks,rfl,zdl h1,e,by rw[<- r.length];exact hl,q _ H1 s1 ⟨zab,λz=>by cases z⟩⟩
  ·cases hr
 | _=>cases hr
end L2
namespace PySem
open Sem (wp)
noncomputable def SqIt(b:Bool)(h:Heap)(it l:Addr)(i:Nat):Prop:=match b with
 | true=>h.IsListIter it l i
 | false=>h.IsTupleIter it l i
noncomputable def zqs(b:Bool)(h:Heap)(l:Addr)(xs:Array Value):Prop:=match b with
 | true=>h.IsList l xs
 | false=>h.IsTuple l xs
theorem SqIt.moved{b:Bool}{h h':Heap}{it l:Addr}{i:Nat}(x:SqIt b h it l i)(e:∀o,h.get? it=some o->h'.get? it=some o):SqIt b h' it l i:=by
 cases b with
 | true=>obtain⟨o,q,r⟩:=x;exact⟨o,e o q,r⟩
 | false=>obtain⟨o,q,r⟩:=x;exact⟨o,e o q,r⟩
theorem zqs.moved{b:Bool}{h h':Heap}{l:Addr}{xs:Array Value}(x:zqs b h l xs)(e:∀o,h.get? l=some o->h'.get? l=some o):zqs b h' l xs:=by
 cases b with
 | true=>obtain⟨o,q,r⟩:=x;exact⟨o,e o q,r⟩
 | false=>obtain⟨o,q,r⟩:=x;exact⟨o,e o q,r⟩
theorem SqIt.obj{b:Bool}{h:Heap}{it l:Addr}{i:Nat}(x:SqIt b h it l i):∃o,h.get? it=some o/\∀v,o.data≠.cell v:=by
 cases b with
 | true=>obtain⟨o,q,_,r⟩:=x;exact⟨o,q,λv z=>by rw[r]at z;cases z⟩
 | false=>obtain⟨o,q,_,r⟩:=x;exact⟨o,q,λv z=>by rw[r]at z;cases z⟩
section
variable{prog:Program}{w:World}{A:Around}{E:Value->Shared->Prop}{s:Shared}
theorem ztz{it l:Addr}{i:Nat}{items}{x:Value}{Q:Value->Shared->Prop}(hit:s.heap.IsTupleIter it l i)
  (hl:s.heap.IsTuple l items)(hx:items[i]?=some x)
  (hQ:∀h',h'.IsTupleIter it l (i+1)->Heap.SameBut it s.heap h'->Q x {s with heap:=h'}) :
  wpAny (model prog w) A (qAT (.ref it)) Q E s:=by
 obtain⟨o,ho,hc,hd⟩:=id hit
 obtain⟨ol,hol,_,nl,hdl⟩:=hl
 unfold qAT
 refine qB (qAt (name:=Str.ofString "__next__") hit.typeIs qA1
  (qAw qA1 hit.typeIs qCS ?_ (qCO _)))
 show wpAny _ _ (field (.ref it) 0 >>=_) _ _ s
 refine qB (qBH ho hd (x:=.ref l) rfl ?_)
 show wpAny _ _ (if(Value.ref l==Value.none)=true then _ else _) _ _ s
 rw[if_neg (show ¬((Value.ref l==Value.none)=true)from qJ)]
 show wpAny _ _ (field (.ref it) 1 >>=_) _ _ s
 refine qB (qBH ho hd (x:=.int i 0) rfl ?_)
 show wpAny _ _ (seqItems? (.ref l) >>=_) _ _ s
 refine qB (wpAny_seqItems hol hdl ?_)
 simp only[qBB,hx]
 refine qB (wpAny_setField ho hd (by simp) (qH ⟨x,rfl,qH (hQ _ ?_ (qCF ..))⟩))
 exact⟨_,qCi _ ho (Obj.isFreed_of_fields (Obj.data_mapFields hd _)),(Obj.cls_mapFields ..).trans hc,by
  rw[Obj.data_mapFields hd];simp[rawInt]⟩
theorem zwa{it l:Addr}{i:Nat}{items}{Q:Value->Shared->Prop}(hh:A.handled=none)
  (hit:s.heap.IsTupleIter it l i)(hl:s.heap.IsTuple l items)(hx:items[i]?=none)
  (hE:∀h' e,Heap.ExtBut it s.heap h'->(∃o,h'.get? e=some o/\o.cls=.type "StopIteration")->E (.ref e) {s with heap:=h'}) :
  wpAny (model prog w) A (qAT (.ref it)) Q E s:=by
 obtain⟨o,ho,hc,hd⟩:=id hit
 obtain⟨ol,hol,_,nl,hdl⟩:=hl
 unfold qAT
 refine qB (qAt (name:=Str.ofString "__next__") hit.typeIs qA1
  (qAw qA1 hit.typeIs qCS ?_ (qCO _)))
 show wpAny _ _ (field (.ref it) 0 >>=_) _ _ s
 refine qB (qBH ho hd (x:=.ref l) rfl ?_)
 show wpAny _ _ (if(Value.ref l==Value.none)=true then _ else _) _ _ s
 rw[if_neg (show ¬((Value.ref l==Value.none)=true)from qJ)]
 show wpAny _ _ (field (.ref it) 1 >>=_) _ _ s
 refine qB (qBH ho hd (x:=.int i 0) rfl ?_)
 show wpAny _ _ (seqItems? (.ref l) >>=_) _ _ s
 refine qB (wpAny_seqItems hol hdl ?_)
 simp only[qBB,hx]
 refine qB (qCt (qB (wpAny_setField ho hd (by simp) ?_)))
 show wpAny _ _ (newExc (.type "StopIteration") [] >>=_) _ _ _
 refine qB ?_
 simp only[newExc,newTuple]
 refine qB (qAn ?_ (by size_fits))
 refine qB (m:=firstArgMember _ _) (qA0 (a:=Value.none) (by first|rfl|(simp only[firstArgMember];rfl)) ?_)
 refine qAn ?_ (by size_fits)
 simp only[raiseNew]
 refine qB (wpAny_handled ?_)
 first|rw[show A.in1.handled=none from hh]|rw[hh]
 refine qB (qH (wpAny_throw ?_))
 exact hE _ _ (((qCF ..).extBut.push _).push _) ⟨_,qk _ rfl,rfl⟩
theorem zamg{b:Bool}{it l:Addr}{i:Nat}{xs:Array Value}{x:Value}{Q:Value->Shared->Prop}(hit:SqIt b s.heap it l i)(hl:zqs b s.heap l xs)(hx:xs[i]?=some x)
  (hQ:∀h',SqIt b h' it l (i+1)->Heap.SameBut it s.heap h'->Q x {s with heap:=h'}):wpAny (model prog w) A (qAT (.ref it)) Q E s:=by
 cases b with
 | true=>exact wpAny_nextOf_list_item hit hl hx hQ
 | false=>exact ztz hit hl hx hQ
theorem zajn{b:Bool}{it l:Addr}{i:Nat}{xs:Array Value}{Q:Value->Shared->Prop}(hh:A.handled=none)(hit:SqIt b s.heap it l i)(hl:zqs b s.heap l xs)(hx:xs[i]?=none)
  (hE:∀h' e,Heap.ExtBut it s.heap h'->(∃o,h'.get? e=some o/\o.cls=.type "StopIteration")->E (.ref e) {s with heap:=h'}):wpAny (model prog w) A (qAT (.ref it)) Q E s:=by
 cases b with
 | true=>exact wpAny_nextOf_list_end hh hit hl hx hE
 | false=>exact zwa hh hit hl hx hE
end
end PySem
namespace L2
open PySem PySem.Spec PyProof.Rows
noncomputable def SqX(b:Bool)(K:qC)(H:Hp)(a:Addr)(xs:List V):Prop:=match b with
 | true=>SqL K H a xs
 | false=>SqT K H a xs
section
variable{X:Cx}{pins:List (Addr×Obj)}{σ:St}{H:Hp}{s:Shared}
theorem Inv.sq{b:Bool}{a:Addr}{xs:List V}(I:Inv X pins σ H s)(h:SqX b X.K H a xs):∃its:List Value,Vals xs its/\zqs b s.heap a its.toArray/\xs.length<=qY:=by
 cases b with
 | true=>obtain⟨its,r,p,z⟩:=I.list h;exact⟨its,r,p.isList,z⟩
 | false=>obtain⟨its,r,p,z⟩:=I.tuple h;exact⟨its,r,(show s.heap.IsTuple a its.toArray from p),z⟩
theorem Inv.sq_inj{b:Bool}{a:Addr}{xs ys:List V}(I:Inv X pins σ H s)(h:SqX b X.K H a xs)(h':SqX b X.K H a ys):xs=ys:=by
 cases b with
 | true=>exact I.list_inj h h'
 | false=>exact I.tuple_inj h h'
end
end L2
namespace PySem
open Sem (wp)
noncomputable def itO(b:Bool)(l:Addr):Obj:=match b with
 | true=>{cls:=.type "list_iterator",data:=.fields #[.ref l,.int 0 0]}
 | false=>{cls:=.type "tuple_iterator",data:=.fields #[.ref l,.int 0 0]}
theorem zahy{b:Bool}{h:Heap}{a l:Addr}(e:h.get? a=some (itO b l)):SqIt b h a l 0:=by
 cases b with
 | true=>exact⟨_,e,rfl,rfl⟩
 | false=>exact⟨_,e,rfl,rfl⟩
end PySem
namespace L2
open PySem PySem.Spec PyProof.Rows
theorem zqs.there{b:Bool}{h:Heap}{l:Addr}{xs:Array Value}(x:zqs b h l xs):l<h.objs.size:=by
 cases b with
 | true=>obtain⟨o,q,_⟩:=x;exact qX q
 | false=>obtain⟨o,q,_⟩:=x;exact qX q
theorem zapu{K:qC}{A:Addr->Prop}{H:Hp}{d:PyData}{ds:List PyData}{v:V}(h:Rp (Offs A H) d v)(e:zhw d=some ds):∃(b:Bool)(a:Addr)(xs:List V),v=.ref a/\Rps (Offs A H) ds xs/\∀(B:Addr->Prop)(H':Hp),Same (Offs A H) (Offs B H')->SqX b K H' a xs:=by
 cases d with
 | list es=>
  cases e
  obtain⟨a,xs,rfl,ha,r⟩:=zdt h
  exact⟨true,a,xs,rfl,r,λB H' s=>SqL.of (zdl (s _ _ ha))⟩
 | tuple es=>
  cases e
  obtain⟨a,xs,rfl,ha,r⟩:=zde h
  exact⟨false,a,xs,rfl,r,λB H' s=>SqT.of (zdl (s _ _ ha))⟩
 | _=>cases e
end L2
namespace PySem
open Sem (wp)
open AutoSeq1 (wpAny_loadPart')
theorem zahz{prog:Program}{w:World}{A:Around}(hh:A.handled=none)(b:Bool)(it l:Addr)(hne:l≠it)(items:Array Value) :
  Draws prog w A it [it,l] items.size (λi v=>items[i]?=some v) (λi h=>SqIt b h it l i/\zqs b h l items) where
 live:=λ_ _ st=>let⟨o,ho,_⟩:=st.1.obj;⟨o,ho⟩
 frame:=λ_ _ _ st hk=>⟨st.1.moved λo e=>hk it (by simp) o e,st.2.moved λo e=>hk l (by simp) o e⟩
 item:=λi s Q E hi st hQ=>by
  refine zamg st.1 st.2 (x:=items[i]) (by simp[hi]) λh' hit' hs'=>?_
  exact hQ _ h' s.toks (by simp[hi]) ⟨hit',st.2.moved λo e=>hs'.extBut _ o hne e⟩ hs'
 done:=λs Q E st hE=>zajn hh st.1 st.2 (by simp) hE
theorem zpf(l:Addr)(items:Array Value)(n:Nat)(dct:Option Addr)(sl:Array (Option Value)) :
  Meets (Builtin.«enumerate.__new__» ⟨[.type "enumerate",.ref l],[]⟩) (λ_ R s=>s.heap.get? l=some {cls:=.type "tuple",dict:=dct,data:=.seq items n,slots:=sl}/\
   R (.ok (.ret (.ref (s.heap.push (itO false l)).objs.size))) {s with heap:=(s.heap.push (itO false l)).push {cls:=.type "enumerate",data:=.fields #[.none,.bool false,.ref s.heap.objs.size,rawInt 0,.none,.none]}}):=
 .of_wp λprog w A R s h=>by
  obtain⟨hp,g,d,tk,os⟩:=s;obtain⟨hl,h⟩:=h
  have hsub:=sub_enumerate
  have e1:Heap.IsTuple (Shared.heap ⟨hp,g,d,tk,os⟩) l items:=⟨_,hl,rfl,n,rfl⟩
  wp_walk using qr hl
  refine wpAny_stack_any λst=>qH ?_
  split
  ·rename_i c _ _ _ _ _
   cases(c==Value.type "enumerate")
   ·wp_walk using qr hl,qBa e1
    exact⟨_,rfl,h⟩
   ·wp_walk using qr hl,qBa e1
    exact⟨_,rfl,h⟩
  ·wp_walk using qr hl,qBa e1
   exact⟨_,rfl,h⟩
theorem zwb{prog:Program}{w:World}{A:Around}{E:Value->Shared->Prop}{s:Shared}{b:Bool}{l:Addr}{items:Array Value}{Q:Value->Shared->Prop}(hL:zqs b s.heap l items)
  (h:∀h',IsEnum h' (s.heap.objs.size+1) s.heap.objs.size 0 .none->SqIt b h' s.heap.objs.size l 0->(∀c o,s.heap.get? c=some o->h'.get? c=some o)->Q (.ref (s.heap.objs.size+1)) {s with heap:=h'}) :
  wpAny (model prog w) A (call (.type "enumerate") [.ref l]) Q E s:=by
 cases b with
 | true=>exact call_enumerate_list hL λh' e i _ k=>h h' e i k
 | false=>
  obtain⟨⟨c,dct,dt,sl⟩,hl,hc,n,hd⟩:=hL
  replace hc:c=.type "tuple":=hc
  replace hd:dt=.seq items n:=hd
  subst hc hd
  refine callType_new F.called_enumerate (by decide) (F.typeCall_enumerate_1 _) (F.newCall_enumerate_1 _) (λobj=>F.args_object_init_2 obj _) F.entry_enumerate_new (zpf l items n dct sl) ⟨hl,?_⟩
  have hz:(s.heap.push (itO false l)).objs.size=s.heap.objs.size+1:=qBr ..
  have he:=qk (s.heap.push (itO false l)) (o:={cls:=.type "enumerate",data:=.fields #[.none,.bool false,.ref s.heap.objs.size,rawInt 0,.none,.none]}) rfl
  show _/\_
  rw[hz]at he ⊢
  exact⟨⟨_,he,rfl⟩,h _ he (zahy (b:=false) (qL _ (qk _ rfl))) λc o x=>qL _ (qL _ x)⟩
end PySem
namespace L2
open PySem PySem.Spec PyProof.Rows
noncomputable def Itx(K:qC)(b:Bool)(a:Addr):It:=
 ⟨λi H=>∃xs x,SqX b K H a xs/\xs[i]?=some x,λi H x H'=>∃p y,x=.ref p/\H p=none/\H'=upd H p (.tup [.int i,y])/\∀xs,SqX b K H a xs->xs[i]?=some y,λi H=>∃xs,SqX b K H a xs/\xs.length<=i⟩
theorem zabr{P:Program}{w:World}{K:qC}{elts:List Expr}{x1}{tpos:Pos}{b:Bool}(a e it:Addr)(hne:e≠it)(hea:e≠a)(hai:a≠it) :
  Turn P w K (.Tuple elts x1 tpos) (Itx K b a) [e,it] e (λi h=>SqIt b h it a i/\∃old,IsEnum h e it (i:Int) old) where
 mem:=by simp
 obj:=λi h st c hc=>by
  obtain⟨h1,old,h4⟩:=st
  rcases qa.mp hc with rfl|hc
  ·exact⟨_,h4,λv z=>by simp at z⟩
  ·have q:c=it:=by simpa using hc
   subst q
   exact h1.obj
 keep:=λi h h' st k=>⟨st.1.moved λo q=>k it (by simp) o q,let⟨old,q⟩:=st.2;⟨old,k e (by simp) _ q⟩⟩
 item:=by
  intro X hP hw hK hc i pins s σ H E I hf st hg
  subst hP hw hK
  obtain⟨xs,x,hq,hx⟩:=hg
  obtain⟨its,rv,p,hz⟩:=I.sq hq
  obtain⟨u,hu,ru⟩:=rv.get hx
  obtain⟨hit,old,he⟩:=st
  have fe:=hf e (by simp)
  have fi:=hf it (by simp)
  have hlt:i<its.toArray.size:=by
   obtain⟨hh,_⟩:=qT.mp hu
   simpa using hh
  refine wpAny_pyNext_enum_itemD (zahz (by exact I.ok.hd hc) b it a hai its.toArray) he ⟨hit,p⟩ hlt hne (by simp[hne,hea]) λu' h1 tk pu e1 i1 t1 z1 k1=>?_
  have hu':u'=u:=by
   have pu:its.toArray[i]?=some u':=pu
   rw[List.getElem?_toArray,hu]at pu
   exact(qS pu).symm
  subst hu'
  refine⟨_,rfl,wpAny_letOwnedTupleGo_enum (s:={s with heap:=h1,toks:=tk+1}) e1 λh2 e2 sb2=>?_⟩
  have hp:H s.heap.objs.size=none:=I.hok.fresh (qN _)
  have hes:e≠s.heap.objs.size:=qAB (qX he)
  have k2:∀c o,c≠e->c≠it->s.heap.get? c=some o->h2.get? c=some o:=λc o q1 q2 q=>(sb2.2 c q1).trans (k1 c o q1 q2 q)
  have t2:h2.get? s.heap.objs.size=some {cls:=.type "tuple",data:=.seq #[.int i tk,u']}:=(sb2.2 _ (qBC hes)).trans t1
  have nch:∀c,c∉[e,it]->c≠e/\c≠it:=λc hb=>⟨λz=>hb (by simp[z]),λz=>hb (by simp[z])⟩
  refine⟨.ref s.heap.objs.size,upd H s.heap.objs.size (.tup [.int i,x]),?_,rfl,⟨_,x,rfl,hp,rfl,λys hy=>by rw[I.sq_inj hy hq];exact hx⟩,⟨?_,u',e2⟩,λc hb=>?_⟩
  ·refine Inv.step (s:=s) (h':=h2) (g':=s.gens) (d':=s.drawn) (t':=tk+1) (ch:=[e,it]) I (λc hb=>?_) (λc o _ _ hc q _=>k2 c o (nch c hc).1 (nch c hc).2 q) (λc o _ _ hc q _=>⟨o.slots,k2 c o (nch c hc).1 (nch c hc).2 q⟩)
    (λc o _ q n=>by rw[zbn (qAB (qX q))];exact n) (λc o hc q=>⟨o,k2 c o (nch c hc).1 (nch c hc).2 q⟩)
    (λc xs q=>by rw[zbn (zby q hp)];exact q) (λc o v q=>by rw[zbn (zby q hp)];exact q) (λc ps q=>⟨#[],by rw[zbn (zby q hp),q];simp⟩) (λm hm=>?_) (λc v q=>?_) I.bare
   ·rcases qa.mp hb with rfl|hb
    ·exact⟨fe.2.2.2.1,fe.2.1,fe.2.2.2.2.1,fe.2.2.2.2.2⟩
    ·have z:c=it:=by simpa using hb
     subst z
     exact⟨fi.2.2.2.1,fi.2.1,fi.2.2.2.2.1,fi.2.2.2.2.2⟩
   ·obtain⟨o,es,ep,ho,r⟩:=hm
    exact⟨o,es,ep,k2 _ o (qBC fe.2.1) (qBC fi.2.1) ho,r⟩
   ·by_cases hb:c=s.heap.objs.size
    ·subst hb
     rw[zbh]at q
     cases q
     exact⟨by show 2<=qY;decide,[.int i tk,u'],.cons ⟨_,rfl⟩ (.cons ru .nil),_,t2,rfl,_,rfl⟩
    ·rw[zbn hb]at q
     have nt:∀c w',H c=some w'->c≠e/\c≠it:=λc w' z=>⟨(λy=>by rw[y,fe.1]at z;cases z),(λy=>by rw[y,fi.1]at z;cases z)⟩
     refine(I.hok c v q).stay (λc w' hc r=>?_) (λc r=>by rw[zbn (zby r hp)];exact r) λc ys r=>by rw[zbn (zby r hp)];exact r
     rcases hc with rfl|hc
     ·exact k2 c w' (nt c v q).1 (nt c v q).2 r
     ·exact k2 c w' (nt c _ hc).1 (nt c _ hc).2 r
  ·exact i1.1.moved λo q=>(sb2.2 _ (qBC hne)).trans q
  ·rcases qa.mp hb with rfl|hb
   ·rw[zbn hes];exact fe.1
   ·have z:c=it:=by simpa using hb
    subst z
    obtain⟨o,q1,_⟩:=hit.obj
    rw[zbn (qAB (qX q1))]
    exact fi.1
 done:=by
  intro X hP hw hK hc i pins s σ H E I hf st hg
  subst hP hw hK
  obtain⟨xs,hq,hx⟩:=hg
  obtain⟨its,rv,p,hz⟩:=I.sq hq
  obtain⟨hit,old,he⟩:=st
  obtain⟨f0,f1,f2,f3,f4,f5⟩:=hf it (by simp)
  have hl:=rv.length
  have hT:s.TypeIs (.ref e) "enumerate":=⟨_,he,rfl⟩
  unfold pyNext
  refine qB (wpAny_attempt (qAt (name:=Str.ofString "__next__") hT F.slot_enumerate_next (qAw F.slot_enumerate_next hT F.entry_enumerate_next ?_ (F.args_enumerate_next_1 _))))
  show wpAny _ _ (field (.ref e) 2 >>=_) _ _ _
  refine qB (qBH he rfl (x:=.ref it) rfl ?_)
  refine qB (zajn (by exact I.ok.hd hc) hit p (by simp;omega) λh' x he' hx'=>?_)
  obtain⟨o,ho,hcl⟩:=hx'
  refine qB (qA2 (T:="StopIteration") (b:=true) ⟨o,ho,hcl⟩ isSubtype_stop (qH ⟨rfl,?_⟩))
  exact I.turned (t':=s.toks) (λc o hb q=>he' c o hb q) f0 f1 f3 f4 f5
 self:=λ_ _ _ _ _ st h=>let⟨_,q⟩:=st.2;wpAny_pyIter_enum q h
noncomputable def iEnumX(K:qC)(ta:TA):TI:=λσ H R=>ta σ H λvs H1=>∃b a,vs=[.ref a]/\(∃xs,SqX b K H1 a xs)/\R (Itx K b a) H1
theorem zaia{X:Cx}{K:qC}(hK:X.K=K){a:Expr}{ta:TA}{p pos:Pos}{elts:List Expr}{x1}{tpos:Pos}(hg:Gl X "enumerate")(hm:X.mg "enumerate"=none)(ha:PA X [a] ta)(hs:starEach [a] X.env=[(false,eval a X.env)]:=by rfl) :
  PI X (.Tuple elts x1 tpos) (.Call (.Name "enumerate" p) [a] [] pos) (iEnumX K ta):=by
 subst hK
 intro pins s σ H R I h
 refine Call_ (zqb I hg hm boot_enumerate (qA7 (thn (ha pos pins s σ H _ I h) λus s1 ⟨vs,H1,I1,r1,q1⟩=>?_) hs rfl))
 obtain⟨b,l,rfl,⟨xs,hq⟩,q⟩:=q1
 obtain⟨u,rfl,ru⟩:=zabg r1
 cases ru
 obtain⟨its,rv,pl,hz⟩:=I1.sq hq
 have lt:=zqs.there pl
 refine zwb pl λh' he hit hk=>wpAny_pyIter_enum he ?_
 have I2:Inv X pins σ H1 {s1 with heap:=h'}:=I1.kept (t':=s1.toks) hk
 refine⟨s1.heap.objs.size+1,[s1.heap.objs.size+1,s1.heap.objs.size],_,_,H1,rfl,I2,zabr l _ _ (Nat.succ_ne_self _) (Nat.ne_of_gt (Nat.lt_succ_of_lt lt)) (qAB lt),⟨hit,_,he⟩,λc hb=>?_,q⟩
 rcases qa.mp hb with rfl|hb
 ·exact I1.fpOk (Nat.le_succ _) (I1.hok.fresh (Nat.le_succ _))
 ·have e:c=s1.heap.objs.size:=by simpa using hb
  subst e
  exact I1.fpOk (qN _) (I1.hok.fresh (qN _))
noncomputable def zaak(f:AF):IF':=λenv=>(f env).bind λrs=>match rs with
 | [r]=>(zhw r.d).map λds=>(zvv ds,r.bs)
 | _=>none
theorem zaib{K:qC}{ta:TA}{f:AF}(h1:SA ta f):SI (iEnumX K ta) (zaak f):=by
 intro fx H0 env σ H h ds bs e R q
 unfold zaak at e
 obtain⟨rs,er,e⟩:=qA.mp e
 split at e
 ·rename_i r
  obtain⟨d1,ed1,e⟩:=qI.mp e
  cases e
  refine h1 fx H0 env σ H h _ er _ λvs H1 s hv=>?_
  cases hv with
  | cons hv t=>
   cases t
   obtain⟨b,a,xs,rfl,r1,e1⟩:=zapu (K:=K) (Rp.same (Offs.sub (zdf (bs:=r.bs))) _ hv.rp) ed1
   refine⟨b,a,rfl,⟨xs,e1 _ H1 (Same.refl _)⟩,q _ H1 s ?_⟩
   intro A H' hA ss
   have q1:=e1 A H' ss
   have r1':=Rps.same ss _ r1
   have hl:(zvv d1).length=d1.length:=by unfold zvv;simp
   refine⟨λi d e=>?_,⟨xs,q1,by rw[hl,r1.length];exact qN _⟩⟩
   unfold zvv at e
   rw[qh,List.getElem?_zipIdx]at e
   cases e0:d1[i]? with
   | none=>rw[e0]at e;cases e
   | some d0=>
    rw[e0]at e
    obtain⟨v,hv,rv⟩:=r1'.get2 e0
    have e:PyData.tuple [.int ((0+i:Nat):Int),d0]=d:=qS e
    rw[Nat.zero_add]at e
    subst e
    refine⟨⟨xs,v,q1,hv⟩,λx H'' y=>?_⟩
    obtain⟨p,y',rfl,hp,rfl,y⟩:=y
    have:=y xs q1
    rw[hv]at this
    cases this
    exact⟨Same.new hp,zqj hp (zfr hA hp) (zfd zab (zfd rv zfq))⟩
 ·cases e
theorem zaic{X:Cx}{x:Str}{i:Int}{pos:Pos}(hg:Gl X x)(hm:∃t,X.mg x=some (.int i t))(hd:(x==("__debug__":Str))=false:=by decide):PE X (.Name x pos) (tC (.int i)):=
 let⟨t,e⟩:=hm
 zakl hg e ⟨t,rfl⟩ hd
noncomputable def isStar:Expr->Bool
 | .Starred ..=>true
 | _=>false
theorem zav{e:Expr}{es:List Expr}{env:Env}(h:isStar e=false):starEach (e::es) env=(false,eval e env)::starEach es env:=by
 cases e<;>first
  | rfl
  | cases h
theorem zaid{X:Cx}{e:Expr}{es:List Expr}{te:TE}{t:TA}(ha:PE X e te)(hr:PA X es t)(hs:isStar e=false:=by rfl):PA X (e::es) (tCons te t):=zaky ha hr (zav hs)
end L2
namespace PySem.SeqAt
open AutoSeq1 (wpAny_loadPart')
open MeetsSeq PyProof.Rows
section
variable{A:Around}{s:Shared}
theorem zlq(l:Addr)(es:Array DictEntry)(n:Nat)(dd:Option Addr)(sl:Array (Option Value))(b:Str)(u:Tok) :
  Meets (Builtin.«dict.__eq__» ⟨[.ref l,.str b u],[]⟩) (λ_ R s=>s.heap.get? l=some {cls:=.type "dict",dict:=dd,data:=.dict es n,slots:=sl}/\R (.ok (.ret .notImplemented)) s):=
 .of_wp λprog w A R s h=>by
  obtain⟨hp,g,d,tk,os⟩:=s
  obtain⟨hl,h⟩:=h
  have f1:=F.sub_str_dict
  wp_walk using qr hl
  exact⟨_,rfl,h⟩
theorem zlr(b:Str)(u:Tok)(l:Addr)(c:Value)(es:Array DictEntry)(n:Nat)(dd:Option Addr)(sl:Array (Option Value)) :
  Meets (Builtin.«str.__eq__» ⟨[.str b u,.ref l],[]⟩) (λ_ R s=>s.heap.get? l=some {cls:=c,dict:=dd,data:=.dict es n,slots:=sl}/\R (.ok (.ret .notImplemented)) s):=
 .of_wp λprog w A R s h=>by
  obtain⟨hp,g,d,tk,os⟩:=s
  obtain⟨hl,h⟩:=h
  wp_walk using qr hl,qCu hl
  exact⟨_,rfl,h⟩
theorem zyu{l:Addr}{o:Obj}{es:Array DictEntry}{n:Nat}(b:Str)(u:Tok)(ho:s.heap.get? l=some o)(hc:o.cls=.type "dict")(hd:o.data=.dict es n)(hu:A.units<cLine):RcAt A s (.ref l) (.str b u) false:=λprog w E Q h=>by
 obtain⟨cls,dd,data,sl⟩:=o
 simp only at hc hd
 subst hc hd
 refine rc_eq_decline_or (k:=false) (Ta:="dict") (Tb:="str") ⟨_,ho,rfl⟩ (qBj s b u) (by decide) F.sub_str_dict qAW F.slot_str_eq_refl (λ_ hq=>?_) (λ_ hq=>?_) (λ_ hq=>qA0 (rfl:isSame (.ref l) (.str b u)=pure false) hq) (.inr hu) h
 ·exact qAD qAW ⟨_,ho,rfl⟩ qAS (qAP _ _) (zlq l es n dd sl b u) ⟨ho,hq⟩
 ·exact qAD F.slot_str_eq_refl (qBj s b u) F.entry_str_eq (F.args_str_eq_2 _ _) (zlr b u l (.type "dict") es n dd sl) ⟨ho,hq⟩
theorem zyv{l:Addr}{o:Obj}{es:Array DictEntry}{n:Nat}(b:Str)(u:Tok)(ho:s.heap.get? l=some o)(hc:o.cls=.type "dict")(hd:o.data=.dict es n)(hu:A.units<cLine):RcAt A s (.str b u) (.ref l) false:=λprog w E Q h=>by
 obtain⟨cls,dd,data,sl⟩:=o
 simp only at hc hd
 subst hc hd
 refine rc_eq_decline_or (k:=false) (Ta:="str") (Tb:="dict") (qBj s b u) ⟨_,ho,rfl⟩ (by decide) F.sub_dict_str F.slot_str_eq qAG (λ_ hq=>?_) (λ_ hq=>?_) (λ_ hq=>qA0 (rfl:isSame (.str b u) (.ref l)=pure false) hq) (.inr hu) h
 ·exact qAD F.slot_str_eq (qBj s b u) F.entry_str_eq (F.args_str_eq_2 _ _) (zlr b u l (.type "dict") es n dd sl) ⟨ho,hq⟩
 ·exact qAD qAG ⟨_,ho,rfl⟩ qAS (qAP _ _) (zlq l es n dd sl b u) ⟨ho,hq⟩
theorem zamh{l:Addr}{b:Str}{u:Tok}(h0:RcAt A s (.ref l) (.str b u) false):EqAt A s (.ref l) (.str b u) false:=λprog w E Q hq=>by
 unfold eqBool
 refine qAI (qAo (λhab=>absurd (eq_of_beq hab) nofun) (λ_=>?_))
 exact(qB (h0 prog w E _ (qAC hq)))
theorem zami{l:Addr}{b:Str}{u:Tok}(h0:RcAt A s (.str b u) (.ref l) false):EqAt A s (.str b u) (.ref l) false:=λprog w E Q hq=>by
 unfold eqBool
 refine qAI (qAo (λhab=>absurd (eq_of_beq hab) nofun) (λ_=>?_))
 exact(qB (h0 prog w E _ (qAC hq)))
end
end PySem.SeqAt
namespace L2
open PySem PySem.Spec PyProof.Rows
theorem Rps.setAt{H:Hp}{ds:List PyData}{vs:List V}(h:Rps H ds vs){d:PyData}{v:V}(hv:Rp H d v)(n:Nat):Rps H (ds.set n d) (vs.set n v):=by
 induction n generalizing ds vs with
 | zero=>
  cases ds with
  | nil=>unfold Rps at h;subst h;exact zfq
  | cons e ds=>unfold Rps at h;obtain⟨w,ws,rfl,h1,h2⟩:=h;exact zfd hv h2
 | succ n ih=>
  cases ds with
  | nil=>unfold Rps at h;subst h;exact zfq
  | cons e ds=>unfold Rps at h;obtain⟨w,ws,rfl,h1,h2⟩:=h;exact zfd h1 (ih h2)
noncomputable def zyw(i:Nat)(fk fv:EF):SF:=λenv=>match env[i]? with
 | some (.ac (.list ds))=>(fv env).bind λr=>(fk env).bind λk=>match k.d with
  | .int z=>(ixN ds.length z).bind λj=>if i∉r.bs then some (.nx ((frzs env r.bs).set i (.ac (.list (ds.set j r.d)))))else none
  | _=>none
 | _=>none
theorem Rps.dropLast{H:Hp}{ds:List PyData}{vs:List V}(h:Rps H ds vs):Rps H ds.dropLast vs.dropLast:=by
 have:=h.take (ds.length - 1)
 rw[<- qCh,h.length,<- qCh]at this
 exact this
structure Bx(p:Prop):Prop where
 out:p
theorem Bx.pt{X:Cx}{e:Expr}{t:TT}(h:Bx (PW X e t)):Bx (PT X e t):=⟨h.out.pt⟩
theorem zai:∀{X:L2.Cx}{i:Int}{j:Nat}{pos:qe},L2.Bx (L2.PE X (qP.Constant (PySem.Const.int i) j pos) (L2.tC (L2.V.int i))):=by
 intro X i j pos
 exact⟨@zano X i j pos⟩
theorem zae:∀{X:L2.Cx},L2.Bx (L2.PA X [] L2.tNil):=by
 intro X
 exact⟨@zaoj X⟩
theorem zam:∀{X:L2.Cx}{e:qP}{es:List qP}{te:L2.TE}{t:L2.TA},L2.Bx (L2.PE X e te)->L2.Bx (L2.PA X es t)->L2.isStar e=Bool.false->L2.Bx (L2.PA X (e::es) (L2.tCons te t)):=by
 intro X e es te t ha hr hs
 exact⟨@zaid X e es te t ha.out hr.out hs⟩
theorem zbo:∀{X:L2.Cx}{a b:qP}{ta tb:L2.TE}{pos:qe}{op:PySem.Operator}{r:L2.R2},L2.OpR X (PySem.binaryOp op) r->L2.Bx (L2.PE X a ta)->L2.Bx (L2.PE X b tb)->L2.Bx (L2.PE X (a.BinOp op b pos) (L2.tOp r ta tb)):=by
 intro X a b ta tb pos op r ho ha hb
 exact⟨@zarf X a b ta tb pos op r ho ha.out hb.out⟩
theorem zal:∀{X:L2.Cx}{st:PySem.Stmt}{t:L2.TS},L2.Bx (L2.PS X st t)->L2.Bx (L2.PSs X [st] t):=by
 intro X st t h1
 exact⟨@zakp X st t h1.out⟩
theorem zaf:∀{X:L2.Cx}{st:PySem.Stmt}{rest:List PySem.Stmt}{t u:L2.TS},L2.Bx (L2.PS X st t)->L2.Bx (L2.PSs X rest u)->L2.Bx (L2.PSs X (st::rest) (L2.tSeq t u)):=by
 intro X st rest t u h1 h2
 exact⟨@zagp X st rest t u h1.out h2.out⟩
theorem zew:∀{X:L2.Cx}{x:PySem.Str}{p pos:qe}{e:qP}{es:List qP}{t:L2.TA}{ps:List PySem.Str}{k:Nat}{sp:L2.Sp},L2.Dn X.prog X.w X.K X.mg X.base x ps k sp->L2.Room k X.A->L2.Gl X x->L2.Bx (L2.PA X (e::es) t)->(x==qd "__debug__")=Bool.false->qAE (e::es) X.env=(Bool.false,PySem.eval e X.env)::qAE es X.env->((PySem.backTo pos (qAE es X.env)).any λ(x:Bool×PySem.Sem PySem.Value)=>x.fst)=Bool.false->L2.Bx (L2.PE X ((qP.Name x p).Call (e::es) [] pos) (L2.tCall sp [] L2.E0 t)):=by
 intro X x p pos e es t ps k sp D hr hg ha hdb he hpl
 exact⟨@zarp X x p pos e es t ps k sp D hr hg ha.out hdb he hpl⟩
theorem zbc:∀{X:L2.Cx}{e:qP}{te:L2.TE}{pos:qe},L2.Bx (L2.PE X e te)->L2.Bx (L2.PS X (PySem.Stmt.Return (Option.some e) pos) (L2.tRet te)):=by
 intro X e te pos he
 exact⟨@zany X e te pos he.out⟩
theorem zeu:∀{X:L2.Cx}{pos:qe}{i:Nat}{x:PySem.Str}{e:qP}{te:L2.TE}{pos':qe},X.N.Nodup->X.N[i]?=Option.some x->L2.Loc X.env.scope x->L2.Bx (L2.PE X e te)->PySem.swapsWith e (Option.some (qP.Name x pos')) pos.line X.env=Pure.pure Bool.false->X.fn x=Bool.true\/List.lookup x X.env.scope.names=Option.some PySem.NameKind.local->L2.Bx (L2.PS X (PySem.Stmt.Assign [qP.Name x pos'] e pos) (L2.tAsg te (L2.gName i))):=by
 intro X pos i x e te pos' hN hi hx he hs hf
 exact⟨@zaoc X pos i x e te pos' hN hi hx he.out hs hf⟩
theorem zil:∀{X:L2.Cx}{x:PySem.Str}{p pos:qe}{e:qP}{es:List qP}{t:L2.TA}{id:String}{r:List L2.V->L2.Hp->L2.VK->Prop},L2.CallR X (PySem.Value.builtin id) r->L2.Gl X x->X.mg x=Option.none->PySem.bootBuiltins x=Option.some (PySem.Value.builtin id)->L2.Bx (L2.PA X (e::es) t)->x≠qd "__name__"->(x==qd "__debug__")=Bool.false->qAE (e::es) X.env=(Bool.false,PySem.eval e X.env)::qAE es X.env->((PySem.backTo pos (qAE es X.env)).any λ(x:Bool×PySem.Sem PySem.Value)=>x.fst)=Bool.false->L2.Bx (L2.PE X ((qP.Name x p).Call (e::es) [] pos) (L2.tCB r t)):=by
 intro X x p pos e es t id r hc hg hm hv ha hn hdb he hpl
 exact⟨@zagw X x p pos e es t id r hc hg hm hv ha.out hn hdb he hpl⟩
theorem zfg:∀{X:L2.Cx}{b:Bool}{j:Nat}{pos:qe},L2.Bx (L2.PE X (qP.Constant (PySem.Const.bool b) j pos) (L2.tC (L2.V.bl b))):=by
 intro X b j pos
 exact⟨@zarc X b j pos⟩
theorem zapv:∀{X:L2.Cx}{a b:qP}{ta tb:L2.TE}{pos:qe}{r:L2.R2},L2.IxR X r->L2.Bx (L2.PE X a ta)->L2.Bx (L2.PE X b tb)->L2.PlainIx b->L2.Bx (L2.PE X (a.Subscript b pos) (L2.tOp r ta tb)):=by
 intro X a b ta tb pos r hr ha hb hs
 exact⟨@zark X a b ta tb pos r hr ha.out hb.out hs⟩
theorem zch:∀{X:L2.Cx}{t u:L2.TS}{pos:qe}{c:qP}{a b:List PySem.Stmt}{tc:L2.TT},L2.Bx (L2.PT X c tc)->L2.Bx (L2.PSs X a t)->L2.Bx (L2.PSs X b u)->L2.Bx (L2.PS X (PySem.Stmt.If c a b pos) (L2.tIfS tc t u)):=by
 intro X t u pos c a b tc hc ha hb
 exact⟨@zare X t u pos c a b tc hc.out ha.out hb.out⟩
theorem zbd:∀{X:L2.Cx},L2.Bx (L2.PSs X [] L2.tNext):=by
 intro X
 exact⟨@zako X⟩
theorem zig:∀{X:L2.Cx}{a:qP}{pos:qe}{tA:L2.TT},L2.Bx (L2.PT X a tA)->L2.Bx (L2.PT X (qP.UnaryOp PySem.UnaryOp.Not a pos) (L2.tNot tA)):=by
 intro X a pos tA ha
 exact⟨@zanu X a pos tA ha.out⟩
theorem zcy:∀{X:L2.Cx}{K:qC},
 X.K=K->
  ∀{a:qP}{ta:L2.TE},
   L2.Bx (L2.PE X a ta)->
    (∀(whole:PySem.Sem PySem.Value),
      PySem.isTrue a X.env whole=do
       let v <- whole
       PySem.standAt a.pos
       PySem.holding [v] (PySem.truthy v))->
     L2.Bx (L2.PT X a λ(σ:L2.St)(H:L2.Hp)(Q:Bool->L2.Hp->Prop)=>ta σ H λ(x:L2.V)(H':L2.Hp)=>∃(k:Bool),L2.TruV K x H' k/\Q k H'):=by
 intro X K hK a ta ha he
 exact⟨@zaeq X K hK a ta ha.out he⟩
theorem zpu:∀{X:L2.Cx}{pos:qe}{i:Nat}{x:PySem.Str},X.N.Nodup->X.N[i]?=Option.some x->L2.Loc X.env.scope x->X.fn x=Bool.true\/List.lookup x X.env.scope.names=Option.some PySem.NameKind.local->L2.Bx (L2.PG X (qP.Name x pos) (L2.gName i)):=by
 intro X pos i x hN hi hx hf
 exact⟨@zakr X pos i x hN hi hx hf⟩
theorem zct:∀{X:L2.Cx}{es:List qP}{t:L2.TA}{pos:qe},L2.Bx (L2.PA X es t)->L2.Bx (L2.PE X (qP.List es pos) (L2.tLst t)):=by
 intro X es t pos h
 exact⟨@zaol X es t pos h.out⟩
theorem zdg:∀{X:L2.Cx}{tg iter:qP}{body:List PySem.Stmt}{wi:L2.TI}{g:L2.TG}{tb:L2.TS}{pos:qe},PySem.PassesOwn (PySem.model X.prog X.w) X.A X.env X.xe->X.calm=Bool.true->L2.Bx (L2.PI X tg iter wi)->L2.Bx (L2.PG X tg g)->L2.Bx (L2.PSs X body tb)->(∀(x:PySem.Value),PySem.foldedSetIterable iter X.env x=Pure.pure x)->L2.Bx (L2.PS X (PySem.Stmt.For tg iter body [] pos) (L2.tFor wi g tb)):=by
 intro X tg iter body wi g tb pos hp hc hi hg hb hs
 exact⟨@zaod X tg iter body wi g tb pos hp hc hi.out hg.out hb.out hs⟩
theorem zax:∀{X:L2.Cx}{a b:qP}{ta tb:L2.TE}{pos:qe}{op:PySem.CmpOp}{r:L2.R2},L2.OpR X (PySem.compareOp op) r->L2.Bx (L2.PE X a ta)->L2.Bx (L2.PE X b tb)->PySem.behindInMarks op b=Bool.false->L2.Bx (L2.PT X (a.Compare [op] [b] pos) (L2.tTest (L2.tOp r ta tb))):=by
 intro X a b ta tb pos op r ho ha hb hm
 exact⟨@zakv X a b ta tb pos op r ho ha.out hb.out hm⟩
theorem zfh:∀{X:L2.Cx}{x:PySem.Str}{j:Nat}{pos:qe},L2.Bx (L2.PE X (qP.Constant (PySem.Const.str x) j pos) (L2.tC (L2.V.str x))):=by
 intro X x j pos
 exact⟨@zanq X x j pos⟩
theorem zgh:∀{X:L2.Cx}{e:qP}{te:L2.TE}{pos:qe},L2.Bx (L2.PE X e te)->PySem.swapsWith e Option.none pos.line X.env=Pure.pure Bool.false->L2.Bx (L2.PS X (PySem.Stmt.Expr e pos) (L2.tDrop te)):=by
 intro X e te pos he hs
 exact⟨@zakq X e te pos he.out hs⟩
theorem zaez:∀{X:L2.Cx}{es:List qP}{t:L2.TA}{pos:qe}{x1:Nat},L2.Bx (L2.PA X es t)->L2.Bx (L2.PE X (qP.Tuple es x1 pos) (L2.tTup t)):=by
 intro X es t pos x1 h
 exact⟨@zaok X es t pos x1 h.out⟩
theorem zafa:∀{X:L2.Cx}{a:qP}{pos:qe}{op:PySem.BoolOp}{t:L2.TE},L2.Bx (L2.PE X a t)->L2.Bx (L2.PE X (qP.BoolOp op [a] pos) t):=by
 intro X a pos op t h
 exact⟨@zanv X a pos op t h.out⟩
theorem zmn:∀{X:L2.Cx}{a b:qP}{ta tb:L2.TE}{pos:qe}{op:PySem.CmpOp}{r:L2.R2},L2.OpR X (PySem.compareOp op) r->L2.Bx (L2.PE X a ta)->L2.Bx (L2.PE X b tb)->PySem.behindInMarks op b=Bool.false->L2.Bx (L2.PE X (a.Compare [op] [b] pos) (L2.tOp r ta tb)):=by
 intro X a b ta tb pos op r ho ha hb hm
 exact⟨@zaku X a b ta tb pos op r ho ha.out hb.out hm⟩
theorem zabs:∀{X:L2.Cx}{x:PySem.Str}{p pos:qe}{e:qP}{es:List qP}{t:L2.TA}{T:String}{r:List L2.V->L2.Hp->L2.VK->Prop},L2.CallR X (PySem.Value.type T) r->L2.Gl X x->X.mg x=Option.none->PySem.bootBuiltins x=Option.some (PySem.Value.type T)->L2.Bx (L2.PA X (e::es) t)->x≠qd "__name__"->(x==qd "__debug__")=Bool.false->qAE (e::es) X.env=(Bool.false,PySem.eval e X.env)::qAE es X.env->((PySem.backTo pos (qAE es X.env)).any λ(x:Bool×PySem.Sem PySem.Value)=>x.fst)=Bool.false->L2.Bx (L2.PE X ((qP.Name x p).Call (e::es) [] pos) (L2.tCB r t)):=by
 intro X x p pos e es t T r hc hg hm hv ha hn hdb he hpl
 exact⟨@zadh X x p pos e es t T r hc hg hm hv ha.out hn hdb he hpl⟩
theorem zfi:∀{X:L2.Cx}{x:PySem.Str}{v:L2.V}{u:PySem.Value}{pos:qe},L2.Gl X x->X.mg x=Option.none->PySem.bootBuiltins x=Option.some u->L2.RelV v u->x≠qd "__name__"->(x==qd "__debug__")=Bool.false->L2.Bx (L2.PE X (qP.Name x pos) (L2.tC v)):=by
 intro X x v u pos hg hm hv r hn hd
 exact⟨@zakm X x v u pos hg hm hv r hn hd⟩
theorem zgs:∀{X:L2.Cx}{a:qP}{pos:qe}{tA:L2.TT},L2.Bx (L2.PT X a tA)->L2.Bx (L2.PW X (qP.BoolOp PySem.BoolOp.Or [a] pos) tA):=by
 intro X a pos tA ha
 exact⟨@zans X a pos tA ha.out⟩
theorem zgu:∀{X:L2.Cx}{a b:qP}{pos:qe}{tA tB':L2.TT}{rest:List qP},L2.Bx (L2.PT X a tA)->L2.Bx (L2.PW X (qP.BoolOp PySem.BoolOp.Or (b::rest) pos) tB')->L2.Bx (L2.PW X (qP.BoolOp PySem.BoolOp.Or (a::b::rest) pos) (L2.tOr tA tB')):=by
 intro X a b pos tA tB' rest ha hb
 exact⟨@zard X a b pos tA tB' rest ha.out hb.out⟩
theorem zpv:∀{X:L2.Cx}{e:qP}{te:L2.TE},L2.Bx (L2.PE X e te)->L2.Bx (L2.PO X (Option.some e) (L2.tPart te)):=by
 intro X e te h
 exact⟨@zalb X e te h.out⟩
theorem zpw:∀{X:L2.Cx},L2.Bx (L2.PO X Option.none L2.tNoPart):=by
 intro X
 exact⟨@zala X⟩
theorem zmo:∀{X:L2.Cx}{e:qP}{te:L2.TE}{lo hi:Option qP}{tl th:L2.TO}{pos p2:qe}{r:L2.V->Option Int->Option Int->L2.Hp->L2.VK->Prop},L2.SlR X r->L2.Bx (L2.PE X e te)->L2.Bx (L2.PO X lo tl)->L2.Bx (L2.PO X hi th)->L2.Bx (L2.PE X (e.Subscript (qP.Slice lo hi Option.none p2) pos) (L2.tSl r te tl th)):=by
 intro X e te lo hi tl th pos p2 r hr he hl hu
 exact⟨@zagy X e te lo hi tl th pos p2 r hr he.out hl.out hu.out⟩
theorem zdm:∀{X:L2.Cx}{scope:PySem.Scope}{N' own:List PySem.Str}{fr:List Nat}{elt target iter:qP}{ifs:List qP}{cpos:qe}{wi:L2.TI}{g:L2.TG}{tt:L2.TT}{te:L2.TE},L2.CompOk X scope N' own fr->X.calm=Bool.true->L2.Bx (L2.PI X target iter wi)->(∀(cl:List (PySem.Str×PySem.Addr))(C:PySem.Addr)(s:PySem.Shared)(H:L2.Hp)(fp:List PySem.Addr),L2.PG (L2.cxComp X scope N' own cl C s H fp) target g/\L2.PF (L2.cxComp X scope N' own cl C s H fp) ifs tt/\L2.PE (L2.cxComp X scope N' own cl C s H fp) elt te)->(∀(x:PySem.Value),PySem.foldedSetIterable iter X.env x=Pure.pure x)->L2.Bx (L2.PE X (elt.ListComp [{target:=target,iter:=iter,ifs:=ifs,is_async:=0}] scope cpos) (L2.tComp1 wi g tt te own fr)):=by
 intro X scope N' own fr elt target iter ifs cpos wi g tt te c hc hi hb hs
 exact⟨@zahj X scope N' own fr elt target iter ifs cpos wi g tt te c hc hi.out hb hs⟩
theorem zgt:∀{X:L2.Cx}{K:qC},X.K=K->∀{T:String}{name:PySem.Str}{id:String}{r:L2.V->List L2.V->L2.Hp->L2.VK->Prop}{o e:qP}{es:List qP}{to:L2.TE}{t:L2.TA}{apos cpos:qe},PySem.PlainAttrs T->PySem.Slot T name id->PySem.typeOf (PySem.Value.builtin id)=Pure.pure (PySem.Value.type "method_descriptor")->L2.MtR X id r->L2.Bx (L2.PE X o to)->L2.Bx (L2.PA X (e::es) t)->PySem.attributeBase o name X.env (PySem.eval o X.env)=PySem.eval o X.env->((((PySem.backTo cpos (qAE (e::es) X.env)).all λ(x:Bool×PySem.Sem PySem.Value)=>!x.fst)&&(PySem.backToKw cpos (PySem.keywordEach [] X.env)).all λ(x:Option PySem.Str×PySem.Sem PySem.Value)=>x.fst.isSome)&&Decidable.decide (((e::es).length+([]:List Keyword).length+if([]:List Keyword).isEmpty=Bool.true then 0 else 1)<30))=Bool.true->(apos.endLine==cpos.line)=Bool.true->qAE (e::es) X.env=(Bool.false,PySem.eval e X.env)::qAE es X.env->((PySem.backTo cpos (qAE es X.env)).any λ(x:Bool×PySem.Sem PySem.Value)=>x.fst)=Bool.false->L2.Bx (L2.PE X ((o.Attribute name apos).Call (e::es) [] cpos) (L2.tBM K T r to t)):=by
 intro X K hK T name id r o e es to t apos cpos pa slot hty hm ho ha hbase hfew hline hs hplain
 exact⟨@zapf X K hK T name id r o e es to t apos cpos pa slot hty hm ho.out ha.out hbase hfew hline hs hplain⟩
theorem zyx:∀{X:L2.Cx}{a b:qP}{ta tb:L2.TE}{pos:qe}{rest:List qP},L2.Bx (L2.PE X a ta)->L2.Bx (L2.PE X (qP.BoolOp PySem.BoolOp.And (b::rest) pos) tb)->L2.Bx (L2.PE X (qP.BoolOp PySem.BoolOp.And (a::b::rest) pos) (L2.tAndV ta tb)):=by
 intro X a b ta tb pos rest ha hb
 exact⟨@zanw X a b ta tb pos rest ha.out hb.out⟩
theorem zaal:∀{X:L2.Cx}{pos:qe},L2.Bx (L2.PPs X pos [] [] []):=by
 intro X pos
 exact⟨@zalk X pos⟩
theorem zwc:∀{X:L2.Cx}{pos:qe}{k v:qP}{ks:List (Option qP)}{vs:List qP}{tk tv:L2.TE}{trs:List (L2.TE×L2.TE)},L2.Bx (L2.PE X k tk)->L2.Bx (L2.PE X v tv)->L2.Bx (L2.PPs X pos ks vs trs)->L2.Bx (L2.PPs X pos (Option.some k::ks) (v::vs) ((tk,tv)::trs)):=by
 intro X pos k v ks vs tk tv trs hk hv hr
 exact⟨@zahf X pos k v ks vs tk tv trs hk.out hv.out hr.out⟩
theorem zbz:∀{X:L2.Cx}{K:qC},X.K=K->∀{tg l:qP}{tl:L2.TE},L2.Bx (L2.PE X l tl)->L2.Bx (L2.PI X tg l (L2.iSeq K tl)):=by
 intro X K hK tg l tl hl
 exact⟨@zaly X K hK tg l tl hl.out⟩
theorem zco:∀{X:L2.Cx}{tg a:qP}{ta:L2.TA}{p pos:qe},L2.Gl X (qd "range")->X.mg (qd "range")=Option.none->L2.Bx (L2.PA X [a] ta)->qAE [a] X.env=[(Bool.false,PySem.eval a X.env)]->L2.Bx (L2.PI X tg ((qP.Name (qd "range") p).Call [a] [] pos) (L2.iRng1 ta)):=by
 intro X tg a ta p pos hg hm ha hs
 exact⟨@zacy X tg a ta p pos hg hm ha.out hs⟩
theorem zho:∀{X:L2.Cx},L2.Bx (L2.PF X [] L2.tAll):=by
 intro X
 exact⟨@zaoz X⟩
theorem zua:∀{X:L2.Cx}{j:Nat}{pos:qe},L2.Bx (L2.PE X (qP.Constant PySem.Const.none j pos) (L2.tC L2.V.non)):=by
 intro X j pos
 exact⟨@zanp X j pos⟩
theorem zwd:∀{X:L2.Cx}{x:PySem.Str}{i:Int}{pos:qe},L2.Gl X x->(∃(t:PySem.Tok),X.mg x=Option.some (PySem.Value.int i t))->(x==qd "__debug__")=Bool.false->L2.Bx (L2.PE X (qP.Name x pos) (L2.tC (L2.V.int i))):=by
 intro X x i pos hg hm hd
 exact⟨@zaic X x i pos hg hm hd⟩
theorem zki:∀{X:L2.Cx}{pos:qe},L2.Bx (L2.PE X (qP.Dict [] [] pos) L2.tDNewK):=by
 intro X pos
 exact⟨@zahe X pos⟩
theorem zaam:∀{X:L2.Cx}{pos:qe}{keys:List (Option qP)}{values:List qP}{trs:List (L2.TE×L2.TE)},L2.Bx (L2.PPs X pos keys values trs)->(keys.all λ(x:Option qP)=>x.isSome)=Bool.true->keys.length=values.length->keys≠[]->keys.length<=15->L2.Bx (L2.PE X (qP.Dict keys values pos) (L2.tDisp trs)):=by
 intro X pos keys values trs h hall hl h0 h15
 exact⟨@zall X pos keys values trs h.out hall hl h0 h15⟩
theorem zyy:∀{X:L2.Cx}{c:qP}{t:L2.TT},L2.Bx (L2.PT X c t)->L2.Bx (L2.PF X [c] t):=by
 intro X c t h
 exact⟨@zapa X c t h.out⟩
theorem zamj:∀{X:L2.Cx}{a:qP}{ta:L2.TE}{pos:qe},L2.Bx (L2.PE X a ta)->L2.Bx (L2.PE X (qP.UnaryOp PySem.UnaryOp.Not a pos) (L2.tNotV ta)):=by
 intro X a ta pos ha
 exact⟨@zanx X a ta pos ha.out⟩
theorem zpx:∀{X:L2.Cx}{o i:qP}{pos:qe}{td ty:L2.TE},X.A.units+1<PySem.cLine->L2.Bx (L2.PE X o td)->L2.Bx (L2.PE X i ty)->L2.NoSl i->L2.Bx (L2.PE X (o.Subscript i pos) (L2.tDGet td ty)):=by
 intro X o i pos td ty hu ho hi hs
 exact⟨@zali X o i pos td ty hu ho.out hi.out hs⟩
theorem zmp:∀{X:L2.Cx}{a:qP}{pos:qe}{tA:L2.TT},L2.Bx (L2.PT X a tA)->L2.Bx (L2.PW X (qP.BoolOp PySem.BoolOp.And [a] pos) tA):=by
 intro X a pos tA ha
 exact⟨@zakn X a pos tA ha.out⟩
theorem zoa:∀{X:L2.Cx}{a b:qP}{pos:qe}{tA tB':L2.TT}{rest:List qP},L2.Bx (L2.PT X a tA)->L2.Bx (L2.PW X (qP.BoolOp PySem.BoolOp.And (b::rest) pos) tB')->L2.Bx (L2.PW X (qP.BoolOp PySem.BoolOp.And (a::b::rest) pos) (L2.tAnd tA tB')):=by
 intro X a b pos tA tB' rest ha hb
 exact⟨@zant X a b pos tA tB' rest ha.out hb.out⟩
theorem zaan:∀{X:L2.Cx}{o i value:qP}{pos pos':qe}{td ty tv:L2.TE},X.A.units+1<PySem.cLine->L2.Bx (L2.PE X o td)->L2.Bx (L2.PE X i ty)->L2.Bx (L2.PE X value tv)->PySem.swapsWith value (Option.some (o.Subscript i pos')) pos.line X.env=Pure.pure Bool.false->L2.Bx (L2.PS X (PySem.Stmt.Assign [o.Subscript i pos'] value pos) (L2.sDPut td ty tv)):=by
 intro X o i value pos pos' td ty tv hu ho hi hv hs
 exact⟨@zalj X o i value pos pos' td ty tv hu ho.out hi.out hv.out hs⟩
theorem zafb:∀{X:L2.Cx}{K:qC},X.K=K->∀{a:qP}{ta:L2.TA}{p pos:qe}{elts:List qP}{x1:Nat}{tpos:qe},L2.Gl X (qd "enumerate")->X.mg (qd "enumerate")=Option.none->L2.Bx (L2.PA X [a] ta)->qAE [a] X.env=[(Bool.false,PySem.eval a X.env)]->L2.Bx (L2.PI X (qP.Tuple elts x1 tpos) ((qP.Name (qd "enumerate") p).Call [a] [] pos) (L2.iEnumX K ta)):=by
 intro X K hK a ta p pos elts x1 tpos hg hm ha hs
 exact⟨@zaia X K hK a ta p pos elts x1 tpos hg hm ha.out hs⟩
theorem zmq:∀{X:L2.Cx},L2.Bx (L2.PGs X [] L2.gNil):=by
 intro X
 exact⟨@zaks X⟩
theorem zeq:∀{X:L2.Cx}{e:qP}{es:List qP}{t:L2.TG}{u:L2.TGs},L2.Bx (L2.PG X e t)->L2.Bx (L2.PGs X es u)->List.map (λ(x:Bool×(PySem.Value->PySem.Sem Unit))=>x.snd) (PySem.assignEach (e::es) X.env)=PySem.assign e X.env::List.map (λ(x:Bool×(PySem.Value->PySem.Sem Unit))=>x.snd) (PySem.assignEach es X.env)->L2.Bx (L2.PGs X (e::es) (L2.gCons t u)):=by
 intro X e es t u h1 h2 hs
 exact⟨@zagq X e es t u h1.out h2.out hs⟩
theorem zmr:∀{X:L2.Cx}{K:qC},X.K=K->∀{es:List qP}{k:Nat}{t:L2.TGs}{n:Nat}{pos:qe},X.calm=Bool.true->L2.Bx (L2.PGs X es t)->(PySem.assignEach es X.env).length=n->List.findIdx? (λ(x:Bool×(PySem.Value->PySem.Sem Unit))=>x.fst) (PySem.assignEach es X.env)=Option.none->L2.Bx (L2.PG X (qP.Tuple es k pos) (L2.gTup K n t)):=by
 intro X K hK es k t n pos hc h hn hst
 exact⟨@zalq X K hK es k t n pos hc h.out hn hst⟩
theorem zafc:∀{X:L2.Cx}{a:qP}{ta:L2.TE}{pos:qe}{op:PySem.UnaryOp}{r:L2.V->L2.Hp->L2.VK->Prop},L2.UnR X (PySem.unaryOp op) r->L2.Bx (L2.PE X a ta)->L2.Bx (L2.PE X (qP.UnaryOp op a pos) (L2.tUn r ta)):=by
 intro X a ta pos op r ho ha
 exact⟨@zarg X a ta pos op r ho ha.out⟩
theorem zabt:∀{X:L2.Cx}{e:qP}{te:L2.TE}{p1 p2 pos1 pos2:qe},X.calm=Bool.true->L2.Gl X (qd "len")->X.mg (qd "len")=Option.none->L2.Gl X (qd "set")->X.mg (qd "set")=Option.none->L2.Bx (L2.PE X e te)->qAE [e] X.env=(Bool.false,PySem.eval e X.env)::qAE [] X.env->L2.Bx (L2.PE X ((qP.Name (qd "len") p1).Call [(qP.Name (qd "set") p2).Call [e] [] pos2] [] pos1) (L2.tLenSet te)):=by
 intro X e te p1 p2 pos1 pos2 hc hgl hml hgs hms he hs
 exact⟨@zaex X e te p1 p2 pos1 pos2 hc hgl hml hgs hms he.out hs⟩
theorem zafd:∀{X:L2.Cx}{scope:PySem.Scope}{N' own:List PySem.Str}{fr:List Nat}{elt target iter target2 iter2:qP}{ifs ifs2:List qP}{cpos:qe}{wi wi2:L2.TI}{g g2:L2.TG}{tt tt2:L2.TT}{te:L2.TE},L2.CompOk X scope N' own fr->X.calm=Bool.true->L2.Bx (L2.PI X target iter wi)->(∀(cl:List (PySem.Str×PySem.Addr))(C:PySem.Addr)(s:PySem.Shared)(H:L2.Hp)(fp:List PySem.Addr),L2.PG (L2.cxComp X scope N' own cl C s H fp) target g/\L2.PF (L2.cxComp X scope N' own cl C s H fp) ifs tt/\L2.PI (L2.cxComp X scope N' own cl C s H fp) target2 iter2 wi2/\L2.PG (L2.cxComp X scope N' own cl C s H fp) target2 g2/\L2.PF (L2.cxComp X scope N' own cl C s H fp) ifs2 tt2/\L2.PE (L2.cxComp X scope N' own cl C s H fp) elt te)->(∀(x:PySem.Value),PySem.foldedSetIterable iter X.env x=Pure.pure x)->(∀(env:PySem.Env)(x:PySem.Value),PySem.foldedSetIterable iter2 env x=Pure.pure x)->L2.Bx (L2.PE X (elt.ListComp [{target:=target,iter:=iter,ifs:=ifs,is_async:=0},{target:=target2,iter:=iter2,ifs:=ifs2,is_async:=0}] scope cpos) (L2.tComp2 wi g tt wi2 g2 tt2 te own fr)):=by
 intro X scope N' own fr elt target iter target2 iter2 ifs ifs2 cpos wi wi2 g g2 tt tt2 te c hc hi hb hs hs2
 exact⟨@zaht X scope N' own fr elt target iter target2 iter2 ifs ifs2 cpos wi wi2 g g2 tt tt2 te c hc hi.out hb hs hs2⟩
theorem zaie:∀{X:L2.Cx}{K:qC},X.K=K->∀{T:String}{name:PySem.Str}{id:String}{r:L2.V->List L2.V->L2.Hp->L2.VK->Prop}{o:qP}{to:L2.TE}{apos cpos:qe},PySem.PlainAttrs T->PySem.Slot T name id->PySem.typeOf (PySem.Value.builtin id)=Pure.pure (PySem.Value.type "method_descriptor")->L2.MtR X id r->L2.Bx (L2.PE X o to)->PySem.attributeBase o name X.env (PySem.eval o X.env)=PySem.eval o X.env->(apos.endLine==cpos.line)=Bool.true->L2.Bx (L2.PE X ((o.Attribute name apos).Call [] [] cpos) (L2.tBM0 K T r to)):=by
 intro X K hK T name id r o to apos cpos pa slot hty hm ho hbase hline
 exact⟨@zamb X K hK T name id r o to apos cpos pa slot hty hm ho.out hbase hline⟩
theorem zamk:∀{X:L2.Cx}{o i:qP}{td ty:L2.TE},X.A.units+1<PySem.cLine->L2.Bx (L2.PE X i ty)->L2.Bx (L2.PE X o td)->L2.Bx (L2.PC X PySem.CmpOp.In i o (L2.tDIn ty td)):=by
 intro X o i td ty hu hi ho
 exact⟨@zaoy X o i td ty hu hi.out ho.out⟩
theorem zaml:∀{X:L2.Cx}{a b:qP}{pos:qe}{op:PySem.CmpOp}{t:L2.TE},L2.Bx (L2.PC X op a b t)->PySem.behindInMarks op b=Bool.false->L2.Bx (L2.PE X (a.Compare [op] [b] pos) t):=by
 intro X a b pos op t h h1
 exact⟨@zanr X a b pos op t h.out h1⟩
theorem bv{X:Cx}(i:Nat){x:Str}{pos:Pos}(hN:X.N[i]?=some x:=by rfl)(hv:visB X.env.scope x=true:=by rfl)(hd:(x==("__debug__":Str))=false:=by decide)
  (hcd:(x==("__classdict__":Str))=false:=by decide):Bx (PE X (.Name x pos) (tVar i)):=⟨zann hN (visB.of hv) hd hcd⟩
theorem zaao{X:Cx}{i:Nat}{o k e:Expr}{tk tv:TE}{pos pos':Pos}(ho:Bx (PE X o (tVar i)))(hk:Bx (PE X k tk))(hv:Bx (PE X e tv))
  (ha:∀v,assign (.Subscript o k pos') X.env v=(do
   let ov <- holding [v] (eval o X.env)
   let iv <- holding [v,ov] (eval k X.env)
   standAt pos'
   holding [v,ov,iv] (setItem ov iv v)
   release [v,ov,iv] []))
  (hs:swapsWithSole [.Subscript o k pos'] e pos.line X.env=pure false)(hw:swappedStores [.Subscript o k pos'] e X.env=pure none)(h1:(assignEach [.Subscript o k pos'] X.env).map (·.2)=[assign (.Subscript o k pos') X.env]) :
  Bx (PS X (.Assign [.Subscript o k pos'] e pos) (tAsg tv (gSub (tVar i) tk zale))):=⟨zaob hv.out (zaoa ho.out hk.out zagz ha) hs hw h1⟩
noncomputable def SatK(fx:Addr->Prop)(H0:Hp)(J:Nat->Prop)(σ0:St)(D:Ends):Out->Prop
 | .nx env=>∀σ H,EnvOk fx H0 env σ H->(∀j,J j->σ[j]?=σ0[j]?)->D.nx σ H
 | .bk env=>∀σ H,EnvOk fx H0 env σ H->(∀j,J j->σ[j]?=σ0[j]?)->D.bk σ H
 | .ct env=>∀σ H,EnvOk fx H0 env σ H->(∀j,J j->σ[j]?=σ0[j]?)->D.ct σ H
 | .rt d fr=>∀v H,Same H0 H->zyp fx H0 d fr v H->D.rt v H
noncomputable def SSk(J:Nat->Prop)(ts:TS)(F:SF):Prop:=∀(fx:Addr->Prop)(H0:Hp)(env:DEnv)(σ:St)(H:Hp)(D:Ends),EnvOk fx H0 env σ H->∀o,F env=some o->SatK fx H0 J σ D o->ts D σ H
section
variable{J:Nat->Prop}
theorem zbq{te:TE}{f:EF}{i:Nat}(h1:SE te f)(hJ:¬J i):SSk J (tAsg te (gName i)) (sSet i f):=by
 intro fx H0 env σ H D h o e q
 unfold sSet at e
 obtain⟨r,er,rfl⟩:=qI.mp e
 exact h1 fx H0 env σ H h r er _ λv H' s hv=>q _ H' (h.put s hv i) λj hj=>qb λz=>hJ (by rw[z];exact hj)
theorem zaap{i:Nat}{tk tv:TE}{fk fv:EF}(h1:SE tk fk)(h2:SE tv fv):SSk J (tAsg tv (gSub (tVar i) tk zale)) (zyw i fk fv):=by
 intro fx H0 env σ H D h o e q
 unfold zyw at e
 split at e
 ·rename_i ds ei
  obtain⟨r,er,e⟩:=qA.mp e
  obtain⟨⟨kd,kfr,kbs⟩,ek,e⟩:=qA.mp e
  cases kd with
  | int z=>
   have e:((ixN ds.length z).bind λj=>if i∉r.bs then some (Out.nx ((frzs env r.bs).set i (.ac (.list (ds.set j r.d)))))else none)=some o:=e
   obtain⟨j,ej,e⟩:=qA.mp e
   split at e
   ·rename_i hl
    cases e
    obtain⟨a,g1,g2,g3,g4⟩:=h.ac i _ ei
    obtain⟨xs,hx,rx⟩:=g4
    refine h2 fx H0 env σ H h r er _ λv H' s hv=>⟨_,g1,h1 fx H0 env σ H' (h.up s) _ ek _ λu H2 s2 hk=>?_⟩
    cases zdc hk.rp
    have t2:=s.trans s2
    have h':=(h.up t2).frzs r.bs
    have ei':=zhx hl ei
    have hx':=t2 _ _ hx
    have rx':Rps (Offs (λb=>fx b\/own (frzs env r.bs) σ b) H2) ds xs:=by
     obtain⟨a',z1,_,_,z4⟩:=h'.ac i _ ei'
     rw[g1]at z1
     cases z1
     obtain⟨ys,y1,y2⟩:=z4
     rw[hx']at y1
     cases y1
     exact y2
    refine⟨a,xs,z,j,rfl,rfl,hx',by rw[<- rx.length];exact ej,?_⟩
    exact q σ _ (h'.mut ei' g1 ⟨_,zbh,rx'.setAt (Rp.same (Offs.sub zdf) _ (hv.later (Same.refl _) s2 λ_ z=>z).rp) j⟩) λ_ _=>rfl
   ·cases e
  | _=>cases e
 ·cases e
noncomputable def SGk(J:Nat->Prop)(g:TG)(f:GT):Prop:=∀(fx:Addr->Prop)(H0:Hp)(env:DEnv)(σ:St)(H:Hp)(d:PyData)(v:V),EnvOk fx H0 env σ H->Rp (Offs (λa=>fx a\/own env σ a) H) d v->∀env',f d env=some env'->∀Q:St->Hp->Prop,
 (∀σ',EnvOk fx H0 env' σ' H->(∀j,J j->σ'[j]?=σ[j]?)->Q σ' H)->g v σ H Q
theorem zfj{i:Nat}(hJ:¬J i):SGk J (gName i) (gN i):=by
 intro fx H0 env σ H d v h r env' e Q q
 cases e
 exact q _ (h.setPl i r) λj hj=>qb λz=>hJ (by rw[z];exact hj)
end
noncomputable def zsp(n:Nat)(d:PyData)(ds:List PyData):DEnv:=.ac d::zke (n - 1) ds
theorem zabu{fx:Addr->Prop}{H:Hp}{N:List Str}{a:Addr}{d:PyData}{ds:List PyData}{vs:List V}(hN:0<N.length)(hf:∀b,fx b->∃o,H b=some o)(na:¬fx a)
  (ac:zek (Offs (λb=>fx b\/b=a) H) H a d) (r:Rps (Offs (λb=>fx b\/b=a) H) ds vs):EnvOk fx (Offs (λb=>b=a) H) (zsp N.length d ds) (zhl N (.ref a::vs)) H:=by
 have no:∀(i:Nat)(e:PyData),(zsp N.length d ds)[i]?=some (Sl.ac e)->i=0/\e=d:=λi e h=>by
  cases i with
  | zero=>cases h;exact⟨rfl,rfl⟩
  | succ i=>
   have h:(zke (N.length - 1) ds)[i]?=some (Sl.ac e):=h
   rcases zmm h with⟨d',_,z⟩|z<;>cases z
 have s0:(zhl N (.ref a::vs))[0]?=some (some (.ref a)):=by unfold zhl;rfl
 have ow:∀b,own (zsp N.length d ds) (zhl N (.ref a::vs)) b->b=a:=by
  rintro b ⟨i,e,h1,h2⟩
  obtain⟨rfl,_⟩:=no i e h1
  rw[s0]at h2
  cases h2
  rfl
 have so:Same (Offs (λb=>fx b\/b=a) H) (Offs (λb=>fx b\/own (zsp N.length d ds) (zhl N (.ref a::vs)) b) H):=Offs.sub λb z=>z.imp id (ow b)
 refine⟨?_,λi e h=>?_,λi e h=>?_,λi j e e' b h1 h2 _ _=>?_,Offs.same _ _,hf⟩
 ·unfold zsp zke zhl
  rw[qv,qR,qR,qE,qE,qAx,qAx,r.length,qv]
  omega
 ·cases i with
  | zero=>cases h
  | succ i=>
   have h:(zke (N.length - 1) ds)[i]?=some (Sl.pl e):=h
   rcases zmm h with⟨d',hd,z⟩|z
   ·cases z
    obtain⟨v,hv,rv⟩:=r.get2 hd
    refine⟨v,?_,Rp.same so _ rv⟩
    unfold zhl
    have hi:i<vs.length:=(qT.mp hv).1
    rw[qq (by simpa using hi),qh,qBd,hv];rfl
   ·cases z
 ·obtain⟨rfl,rfl⟩:=no i e h
  exact⟨a,s0,Offs.out rfl,na,ac.same so λo z=>z⟩
 ·rw[(no i e h1).1,(no j e' h2).1]
end L2
namespace HT
open PySem PySem.Spec PyProof.Rows L2
section
variable{prog:Program}{w:World}{A:Around}{E:Value->Shared->Prop}{s:Shared}
theorem getItem_tuple_whole{t sl:Addr}{items:Array Value}{vl vu:Value}{lo hi:Option Int}{Q:Value->Shared->Prop}(ht:IsTup s.heap t items)(hs:s.heap.IsSliceOf sl vl vu .none)(pl:IsPart vl lo)(pu:IsPart vu hi)
  (hw:sIx items.size 0 lo=0/\sIx items.size items.size hi=items.size) (h:Q (.ref t) s):wpAny (model prog w) A (getItem (.ref t) (.ref sl)) Q E s:=by
 obtain⟨os,hos,hcs,hds⟩:=id hs
 have hTs:s.TypeIs (.ref sl) "slice":=⟨os,hos,hcs⟩
 unfold getItem
 try with_reducible refine qAI ?_
 first|refine qB (qH ?_)|skip
 refine qB (wpAny_sequenceKey ht.typeIs (by decide) ?_)
 refine qB (qAt (name:=Str.ofString "__getitem__") ht.typeIs qAN
  (qAw qAN ht.typeIs entry_tuple_getitem ?_ (args_tuple_getitem _ _)))
 show wpAny _ _ (Builtin.Tuple.tupleItemsOf (.ref t) >>=_) _ _ s
 refine qB (tupleItemsOf_ ht ?_)
 refine qB (qCL hTs ?_)
 rw[if_pos (by decide)]
 refine qB (zjn hs pl pu ?_)
 have hyes:(((sIx items.size 0 lo:Nat):Int)==0&&(1:Int)==1&&(sIx items.size items.size hi - sIx items.size 0 lo)==items.size)=true:=by
  rw[hw.1,hw.2];simp
 show wpAny _ _ (if(((sIx items.size 0 lo:Nat):Int)==0&&(1:Int)==1&&(sIx items.size items.size hi - sIx items.size 0 lo)==items.size)=true then _ else _) _ _ s
 rw[if_pos hyes]
 unfold Builtin.Tuple.tupleIsExact
 refine qB (qB (qCL ht.typeIs (qH ?_)))
 rw[if_pos (by decide)]
 refine qB (qCt ?_)
 first
  | exact qH ⟨_,rfl,qH h⟩
  | exact qB (qH (qH ⟨_,rfl,qH h⟩))
  | exact qB (qH (qB (qH (qH ⟨_,rfl,qH h⟩))))
end
end HT
namespace L2
open PySem PySem.Spec PyProof.Rows
noncomputable def rSlW(K:qC):V->Option Int->Option Int->Hp->VK->Prop:=λx lo hi H Q=>∃a xs,x=.ref a/\SqT K H a xs/\
 ((HT.sIx xs.length 0 lo=0/\HT.sIx xs.length xs.length hi=xs.length)->Q (.ref a) H)/\(¬(HT.sIx xs.length 0 lo=0/\HT.sIx xs.length xs.length hi=xs.length)->∀p,H p=none->Q (.ref p) (upd H p (.tup (cutV xs lo hi))))
theorem sl_W{X:Cx}{K:qC}(hK:X.K=K):SlR X (rSlW K):=by
 subst hK
 intro pins s σ H x v vl vu lo hi sl Q I rx hs pl pu h
 obtain⟨a,xs,rfl,hx,q1,q2⟩:=h
 by_cases hw:HT.sIx xs.length 0 lo=0/\HT.sIx xs.length xs.length hi=xs.length
 ·cases rx
  obtain⟨its,r,ht,hz⟩:=I.tuple hx
  have hlen:its.toArray.size=xs.length:=by rw[qG];exact r.length.symm
  refine⟨"tuple",_,qAN.lookup,ht.typeIs,?_⟩
  exact HT.getItem_tuple_whole ht hs pl pu (by rw[hlen];exact hw) ⟨.ref a,H,I,rfl,q1 hw⟩
 ·exact zaoo pins s σ H _ v vl vu lo hi sl Q I rx hs pl pu ⟨a,xs,rfl,hx,hw,q2 hw⟩
noncomputable def eSlT(a:EF)(l h:PF'):EF:=λenv=>(a env).bind λx=>(l env).bind λlo=>(h env).bind λhi=>match x.d with
 | .tuple ds=>some ⟨.tuple (cutD ds lo hi),false,x.bs⟩
 | _=>none
theorem zapw{K:qC}{te:TE}{tl th:TO}{f:EF}{fl fh:PF'}(h1:SE te f)(h2:SPt tl fl)(h3:SPt th fh):SE (tSl (rSlW K) te tl th) (eSlT f fl fh):=by
 intro fx H0 env σ H h rr hr Q q
 unfold eSlT at hr
 obtain⟨⟨d,frd,bs⟩,ex,hr⟩:=qA.mp hr
 obtain⟨lo,el,hr⟩:=qA.mp hr
 obtain⟨hi,eh,hr⟩:=qA.mp hr
 cases d with
 | tuple ds=>
  cases hr
  refine h1 fx H0 env σ H h _ ex _ λv H1 s1 v1=>h2 fx H0 env σ H1 (h.up s1) _ el _ λH2 s2=>h3 fx H0 env σ H2 (h.up (s1.trans s2)) _ eh _ λH3 s3=>?_
  have v3:=(v1.later (Same.refl _) (s2.trans s3) λ_ z=>z).rp
  have t3:=(s1.trans s2).trans s3
  obtain⟨p,xs,rfl,hp,r⟩:=zde v3
  refine⟨p,xs,rfl,SqT.of (zdl hp),λhw=>q _ _ t3 ⟨?_,λz=>by cases z⟩,λ_ l hl=>q _ _ (t3.trans (Same.new hl)) ⟨?_,λz=>by cases z⟩⟩
  ·have e:cutD ds lo hi=ds:=by
    unfold cutD
    rw[r.length,hw.1,hw.2,List.drop_zero,Nat.sub_zero,qA6 (by rw[r.length];exact qN _)]
   show Rp _ (.tuple (cutD ds lo hi)) _
   rw[e]
   exact v3
  ·have hA:=(h.up t3).lims bs
   exact zqj hl (zfr hA hl) (r.cut lo hi)
 | _=>cases hr
end L2
namespace PySem
open Sem (wp)
end PySem
namespace L2
open PySem PySem.Spec PyProof.Rows
end L2
namespace PySem
open Sem (wp)
end PySem
namespace L2
open PySem PySem.Spec PyProof.Rows
structure MvF(f:Nat)(env env':DEnv)(σ:St)(H H':Hp):Prop where
 rest:∀(j:Nat)(d:PyData),j≠f->env'[j]?=some (.ac d)->env[j]?=some (.ac d)
 at0:∃d,env[f]?=some (.ac d)
 at1:∃d,env'[f]?=some (.ac d)
 keep:∀b o,σ[f]?≠some (some (.ref b))->H b=some o->H' b=some o
 live:∀b o,H b=some o->∃o',H' b=some o'
theorem MvF.same{f:Nat}{env:DEnv}{σ:St}{H H':Hp}(h:∃d,env[f]?=some (.ac d))(s:Same H H'):MvF f env env σ H H':=⟨λ_ _ _ e=>e,h,h,λb o _ e=>s b o e,λb o e=>⟨o,s b o e⟩⟩
theorem MvF.trans{f:Nat}{env e1 e2:DEnv}{σ:St}{H H1 H2:Hp}(a:MvF f env e1 σ H H1)(b:MvF f e1 e2 σ H1 H2):MvF f env e2 σ H H2:=
 ⟨λj d hj e=>a.rest j d hj (b.rest j d hj e),a.at0,b.at1,λx o n e=>b.keep x o n (a.keep x o n e),λx o e=>let⟨o',e'⟩:=a.live x o e;b.live x o' e'⟩
theorem MvF.lim{f:Nat}{env env':DEnv}{σ:St}{H H':Hp}(m:MvF f env env' σ H H'){fx:Addr->Prop}{bs:List Nat}:∀b,L2.lim fx env' σ bs b->L2.lim fx env σ bs b:=by
 rintro b (z|⟨i,d,h1,h2,h3⟩)
 ·exact .inl z
 ·by_cases hi:i=f
  ·obtain⟨d0,e0⟩:=m.at0
   exact .inr ⟨i,d0,h1,by rw[hi];exact e0,h3⟩
  ·exact .inr ⟨i,d,h1,m.rest i d hi h2,h3⟩
theorem MvF.free{f:Nat}{env env':DEnv}{σ:St}{H H':Hp}(m:MvF f env env' σ H H'){b:Addr}(h:H' b=none):H b=none:=by
 cases e:H b with
 | none=>rfl
 | some o=>obtain⟨o',e'⟩:=m.live b o e;rw[h]at e';cases e'
theorem MvF.val{f:Nat}{env env':DEnv}{σ:St}{H0 H H':Hp}(m:MvF f env env' σ H H'){fx:Addr->Prop}{r:Val}{v:V}(hf:f∉r.bs)(h:ValOk (L2.lim fx env σ r.bs) H0 H r v)(hs:∀a,H0 a=none->σ[f]?≠some (some (.ref a))) :
  ValOk (L2.lim fx env' σ r.bs) H0 H' r v:=by
 obtain⟨d0,e0⟩:=m.at0
 have so:∀(C:Addr->Prop),Same (Offs (λb=>L2.lim fx env σ r.bs b\/C b) H) (Offs (λb=>L2.lim fx env' σ r.bs b\/C b) H'):=λC b o e=>by
  obtain⟨n,e⟩:=Offs.of e
  rw[Offs.get λz=>n (z.imp (m.lim b) id)]
  exact m.keep b o (λz=>n (.inl (.inr ⟨f,d0,hf,e0,z⟩))) e
 refine⟨Rp.same (λb o e=>?_) _ h.rp,λz=>?_⟩
 ·have:=so (λ_=>False) b o (by rw[<- e];congr 1;funext x;simp)
  rw[<- this];congr 1;funext x;simp
 ·obtain⟨a,h1,h2,h3⟩:=h.fr z
  exact⟨a,h1,h2,h3.same (so λb=>b=a) λo e=>m.keep a o (hs a h2) e⟩
noncomputable abbrev EFf:=DEnv->Option (Val×DEnv)
noncomputable def zapx(fx:Addr->Prop)(H0:Hp)(env:DEnv)(σ:St)(H:Hp)(r:Val)(v:V):Prop:=r.fr=true->∃a,v=.ref a/\EnvOk (λb=>fx b\/b=a) H0 env σ H
theorem EnvOk.new{fx:Addr->Prop}{H0:Hp}{env:DEnv}{σ:St}{H H':Hp}(h:EnvOk fx H0 env σ H)(s:Same H H'){a:Addr}(ha:H a=none)(hx:∃o,H' a=some o):EnvOk (λb=>fx b\/b=a) H0 env σ H':=
 h.grow s (λb o eo n z=>z.elim n λy=>by rw[y,ha]at eo;cases eo) λb z=>by
  rcases z with z|z
  ·obtain⟨o,eo⟩:=h.fxs b z;exact⟨o,s b o eo⟩
  ·rw[z];exact hx
noncomputable def SEf(f:Nat)(te:TE)(g:EFf):Prop:=∀(fx:Addr->Prop)(H0:Hp)(env:DEnv)(σ:St)(H:Hp),EnvOk fx H0 env σ H->∀r env',g env=some (r,env')->∀Q:VK,
 (∀v H',MvF f env env' σ H H'->EnvOk fx H0 env' σ H'->f∉r.bs->ValOk (lim fx env' σ r.bs) H H' r v->zapx fx H0 env' σ H' r v->Q v H')->te σ H Q
noncomputable def zak(f:Nat)(g:EF):EFf:=λenv=>match env[f]? with
 | some (.ac _)=>(g env).bind λr=>if f∉r.bs then some (r,env)else none
 | _=>none
theorem zaj{f:Nat}{te:TE}{g:EF}(h:SE te g):SEf f te (zak f g):=by
 intro fx H0 env σ H hE r env' e Q q
 unfold zak at e
 split at e
 ·rename_i d0 e0
  obtain⟨r',er,e⟩:=qA.mp e
  split at e
  ·rename_i hf
   cases e
   exact h fx H0 env σ H hE r er Q λv H' s hv=>q v H' (MvF.same ⟨_,e0⟩ s) (hE.up s) hf hv λz=>let⟨a,h1,h2,h3⟩:=hv.fr z;⟨a,h1,hE.new s h2 h3.ex⟩
  ·cases e
 ·cases e
theorem EnvOk.notNew{fx:Addr->Prop}{H0:Hp}{env:DEnv}{σ:St}{H:Hp}(h:EnvOk fx H0 env σ H){f:Nat}(e:∃d,env[f]?=some (.ac d)):∀a,H a=none->σ[f]?≠some (some (.ref a)):=λa ha z=>by
 obtain⟨d,e⟩:=e
 obtain⟨b,g1,_,_,g4⟩:=h.ac f d e
 rw[z]at g1
 cases g1
 obtain⟨o,eo⟩:=g4.ex
 rw[ha]at eo;cases eo
noncomputable def fOp(w:OF)(a b:EFf):EFf:=λenv=>(a env).bind λx=>(b x.2).bind λy=>(w x.1.d y.1.d).bind λz=>some (⟨z.1,z.2,bsOf z.1 (x.1.bs++y.1.bs)⟩,y.2)
theorem zub{d:PyData}{bs:List Nat}{i:Nat}(h:i∉bs):i∉bsOf d bs:=by unfold bsOf;split<;>simp[h]
theorem zdv{f:Nat}{r:R2}{w:OF}{ta tb:TE}{fa fb:EFf}(ho:SO r w)(ha:SEf f ta fa)(hb:SEf f tb fb):SEf f (tOp r ta tb) (fOp w fa fb):=by
 intro fx H0 env σ H h rr env' hr Q q
 unfold fOp at hr
 obtain⟨⟨x,e1⟩,ex,hr⟩:=qA.mp hr
 obtain⟨⟨y,e2⟩,ey,hr⟩:=qA.mp hr
 obtain⟨⟨d,fr⟩,ez,hr⟩:=qA.mp hr
 cases hr
 refine ha fx H0 env σ H h x e1 ex _ λv H1 m1 k1 n1 v1 _=>hb fx H0 e1 σ H1 k1 y e2 ey _ λu H2 m2 k2 n2 v2 _=>?_
 have l1:∀b,lim fx e2 σ (x.bs++y.bs) b->lim fx e2 σ x.bs b:=znt λi hi=>qy _ hi
 have l2:∀b,lim fx e2 σ (x.bs++y.bs) b->lim fx e2 σ y.bs b:=znt λi hi=>ql _ hi
 have v1':=m2.val n1 v1 (h.notNew m1.at0)
 refine ho (lim fx e2 σ (x.bs++y.bs)) H2 v u x.d y.d (k2.lims _) (v1'.later (Same.refl _) (Same.refl _) l1).rp (v2.later (Same.refl _) (Same.refl _) l2).rp d fr ez _ λz H3 s3 rp fr3=>q z H3 ((m1.trans m2).trans (MvF.same m2.at1 s3)) (k2.up s3) (zub λhm=>(q9.mp hm).elim n1 n2) ⟨znv rp,λe=>?_⟩ λe=>let⟨a,g1,g2,g3⟩:=fr3 e;⟨a,g1,k2.new s3 g2 g3.ex⟩
 obtain⟨a,g1,g2,g3⟩:=fr3 e
 refine⟨a,g1,(m1.trans m2).free g2,?_⟩
 have nf:zfn d=false:=by cases d<;>first|rfl|exact g3.elim
 show zek (Offs (λb=>lim fx e2 σ (bsOf d (x.bs++y.bs)) b\/b=a) H3) H3 a d
 rw[show bsOf d (x.bs++y.bs)=x.bs++y.bs by unfold bsOf;rw[if_neg (by rw[nf];decide)]]
 exact g3
noncomputable abbrev AFf:=DEnv->Option (List Val×DEnv)
noncomputable def SAf(f:Nat)(ta:TA)(g:AFf):Prop:=∀(fx:Addr->Prop)(H0:Hp)(env:DEnv)(σ:St)(H:Hp),EnvOk fx H0 env σ H->∀rs env',g env=some (rs,env')->∀Q:List V->Hp->Prop,
 (∀vs H',MvF f env env' σ H H'->EnvOk fx H0 env' σ H'->f∉bss rs->Paired (λr v=>ValOk (lim fx env' σ r.bs) H H' r v) rs vs->Q vs H')->ta σ H Q
noncomputable def fNil(f:Nat):AFf:=λenv=>match env[f]? with
 | some (.ac _)=>some ([],env)
 | _=>none
theorem zba{f:Nat}:SAf f tNil (fNil f):=by
 intro fx H0 env σ H hE rs env' e Q q
 unfold fNil at e
 split at e
 ·rename_i d0 e0
  cases e
  exact q [] H (MvF.same ⟨_,e0⟩ (Same.refl _)) hE (by simp[bss]) .nil
 ·cases e
noncomputable def zap(a:EFf)(r:AFf):AFf:=λenv=>(a env).bind λx=>(r x.2).map λy=>(x.1::y.1,y.2)
theorem ValOk.base{A:Addr->Prop}{H H1 H':Hp}{r:Val}{v:V}(h:ValOk A H1 H' r v)(b:∀a,H1 a=none->H a=none):ValOk A H H' r v:=⟨h.rp,λe=>let⟨a,h1,h2,h3⟩:=h.fr e;⟨a,h1,b a h2,h3⟩⟩
theorem zaq{f:Nat}{te:TE}{ta:TA}{g:EFf}{gs:AFf}(h1:SEf f te g)(h2:SAf f ta gs):SAf f (tCons te ta) (zap g gs):=by
 intro fx H0 env σ H h rs env' hr Q q
 unfold zap at hr
 obtain⟨⟨x,e1⟩,ex,hr⟩:=qA.mp hr
 obtain⟨⟨xs,e2⟩,exs,hr⟩:=qI.mp hr
 cases hr
 exact h1 fx H0 env σ H h x e1 ex _ λv H1 m1 k1 n1 v1 _=>h2 fx H0 e1 σ H1 k1 xs e2 exs _ λvs H2 m2 k2 n2 vs2=>q (v::vs) H2 (m1.trans m2) k2
  (λhm=>by
   have hm:f∈x.bs++bss xs:=hm
   exact(q9.mp hm).elim n1 n2)
  (.cons (m2.val n1 v1 (h.notNew m1.at0)) (Paired.mapP vs2 λ_ _ z=>z.base λa ha=>m1.free ha))
noncomputable abbrev GE:=PyData->List PyData->Option (PyData×Bool×PyData)
noncomputable def spF(n:Nat)(g:GE):Sp:=λvs H Q _=>∃(fx:Addr->Prop)(a:Addr)(vs':List V)(d0 d1 d:PyData)(fr:Bool)(ds:List PyData),vs=.ref a::vs'/\ds.length+1=n/\(∀b,fx b->∃o,H b=some o)/\¬fx a/\
 zek (Offs (λb=>fx b\/b=a) H) H a d0/\Rps (Offs (λb=>fx b\/b=a) H) ds vs'/\g d0 ds=some (d,fr,d1)/\
 ∀v H',(∀b o,b≠a->H b=some o->H' b=some o)->zek (Offs (λb=>fx b\/b=a) H') H' a d1->zyp (λb=>fx b\/b=a) H d fr v H'->Q v H'
noncomputable def zwe:PyData->Bool
 | .list ds=>zel ds
 | _=>false
theorem zaaq{Ho Ho' H:Hp}{a:Addr}{d:PyData}(f:zwe d=true)(h:zek Ho H a d):zek Ho' H a d:=by
 unfold zwe at f
 split at f
 ·obtain⟨xs,h1,r⟩:=h
  exact⟨xs,h1,zkf f r⟩
 ·cases f
noncomputable def zao(f n:Nat)(g:GE)(a:AFf):EFf:=λenv=>match env[f]? with
 | some (.ac _)=>(a env).bind λx=>(match x.2[f]? with
  | some (.ac d0)=>if x.1.length+1=n then(g d0 (zka x.1)).bind λz=>if zwe z.2.2=true then some (⟨z.1,z.2.1,bsOf z.1 (bss x.1)⟩,(frzs x.2 (bss x.1)).set f (.ac z.2.2))else none else none
  | _=>none)
 | _=>none
theorem zat{f n:Nat}{g:GE}{ta:TA}{a:AFf}(ha:SAf f ta a):SEf f (tCall (spF n g) [] E0 (tCons (tVar f) ta)) (zao f n g a):=by
 intro fx H0 env σ H h rr env' hr Q q
 unfold zao at hr
 split at hr
 ·rename_i dd edd
  obtain⟨⟨rs,e1⟩,er,hr⟩:=qA.mp hr
  have hr:(match e1[f]? with
   | some (.ac d0)=>if rs.length+1=n then(g d0 (zka rs)).bind λz=>if zwe z.2.2=true then some ((⟨z.1,z.2.1,bsOf z.1 (bss rs)⟩:Val),(frzs e1 (bss rs)).set f (.ac z.2.2))else none else none
   | _=>none)=some (rr,env'):=hr
  split at hr
  ·rename_i d0 ei
   split at hr
   ·rename_i hl
    obtain⟨⟨d,fr,d1⟩,eg,hr⟩:=qA.mp hr
    by_cases hfl0:zwe d1=true
    rotate_left
    ·rw[if_neg hfl0]at hr;cases hr
    rw[if_pos hfl0]at hr
    cases hr
    obtain⟨a0,g1,_,_,_⟩:=h.ac f _ edd
    refine⟨_,g1,ha fx H0 env σ H h rs e1 er _ λvs H1 m1 hE n1 hv=>?_⟩
    obtain⟨a,g1',g2,g3,g4⟩:=hE.ac f _ ei
    rw[g1]at g1'
    cases g1'
    refine⟨lim fx e1 σ (f::bss rs),a0,vs,d0,d1,d,fr,zka rs,by simp,by rw[zmk];exact hl,hE.lims _,?_,?_,?_,eg,λv H' fr' ac' ret=>?_⟩
    ·rintro(z|⟨j,d',z1,z2,z3⟩)
     ·exact g3 z
     ·exact z1 (qa.mpr (.inl (hE.inj j f d' d0 a0 z2 ei z3 g1)))
    ·exact g4.same (Offs.sub λb z=>z.elim (znu b) λy=>by subst y;exact .inr ⟨f,_,ei,g1⟩) λo z=>z
    ·refine Rps.same (Offs.sub λb z=>?_) _ (ziz (λi hi=>hi) hv)
     rcases z with z|z
     ·exact znt (λi hi=>qM _ hi) b z
     ·subst z;exact .inr ⟨f,d0,n1,ei,g1⟩
    ·obtain⟨o0,eo0⟩:=g4.ex
     obtain⟨o1,eo1⟩:=ac'.ex
     have s2:Same H1 (upd H' a0 o0):=λb o eb=>by
      by_cases hb:b=a0
      ·subst hb
       rw[zbh,<- eb,eo0]
      ·rw[zbn hb];exact fr' b o hb eb
     have e2:upd (upd H' a0 o0) a0 o1=H':=by
      funext b
      by_cases hb:b=a0
      ·subst hb;rw[zbh,eo1]
      ·rw[zbn hb,zbn hb]
     have hf:=(hE.up s2).frzs (bss rs)
     have ei':=zhx n1 ei
     have sl:∀b,fx b\/own (frzs e1 (bss rs)) σ b->lim fx e1 σ (f::bss rs) b\/b=a0:=by
      rintro b (z|⟨j,d',z1,z2⟩)
      ·exact .inl (.inl z)
      ·obtain⟨z3,z4⟩:=znz z1
       by_cases hj:j=f
       ·subst hj
        rw[g1]at z2
        cases z2
        exact .inr rfl
       ·exact .inl (.inr ⟨j,d',λhm=>(qa.mp hm).elim hj z4,z3,z2⟩)
     have r:zek (Offs (λb=>fx b\/own (frzs e1 (bss rs)) σ b) (upd H' a0 o0)) (upd (upd H' a0 o0) a0 o1) a0 d1:=by
      rw[e2,Offs.upd (.inr ⟨f,_,ei',g1⟩)]
      exact ac'.same (Offs.sub sl) λo z=>z
     have hE':=hf.mut ei' g1 r
     rw[e2]at hE'
     have hfl:f<(frzs e1 (bss rs)).length:=(qT.mp ei').1
     have rest:∀(j:Nat)(d':PyData),j≠f->((frzs e1 (bss rs)).set f (.ac d1))[j]?=some (.ac d')->e1[j]?=some (.ac d')/\j∉bss rs:=λj d' hj e=>by
      rw[qb λz=>hj z.symm]at e
      exact znz e
     have lm:∀b,lim fx ((frzs e1 (bss rs)).set f (.ac d1)) σ (bss rs) b->lim fx e1 σ (f::bss rs) b\/b=a0:=by
      rintro b (z|⟨j,d',z1,z2,z3⟩)
      ·exact .inl (.inl z)
      ·by_cases hj:j=f
       ·subst hj
        rw[g1]at z3
        cases z3
        exact .inr rfl
       ·exact .inl (.inr ⟨j,d',λhm=>(qa.mp hm).elim hj z1,(rest j d' hj z2).1,z3⟩)
     refine q v H' ⟨λj d' hj e=>m1.rest j d' hj (rest j d' hj e).1,⟨_,edd⟩,⟨d1,qAH hfl⟩,λb o nb eb=>fr' b o (λz=>nb (by rw[z];exact g1)) (m1.keep b o nb eb),λb o eb=>?_⟩ hE' (zub n1) ⟨znv (Rp.same (Offs.sub lm) _ ret.1),λe=>?_⟩ (λe=>?_)
     ·by_cases hb:b=a0
      ·exact⟨o1,by rw[hb];exact eo1⟩
      ·obtain⟨o',e'⟩:=m1.live b o eb
       exact⟨o',fr' b o' hb e'⟩
     ·obtain⟨c,q1,q2,q3⟩:=ret.2 e
      refine⟨c,q1,m1.free q2,?_⟩
      have nf:zfn d=false:=by cases d<;>first|rfl|exact q3.elim
      show zek (Offs (λb=>lim fx ((frzs e1 (bss rs)).set f (.ac d1)) σ (bsOf d (bss rs)) b\/b=c) H') H' c d
      rw[show bsOf d (bss rs)=bss rs by unfold bsOf;rw[if_neg (by rw[nf];decide)]]
      exact q3.same (Offs.sub λb z=>z.imp (lm b) id) λo z=>z
     ·obtain⟨c,q1,q2,q3⟩:=ret.2 e
      have hca:c≠a0:=λz=>by rw[z,eo0]at q2;cases q2
      have hx:∃o,(upd H' a0 o0) c=some o:=by rw[zbn hca];exact q3.ex
      have hf2:=(hE.new s2 q2 hx).frzs (bss rs)
      have r2:zek (Offs (λb=>(fx b\/b=c)\/own (frzs e1 (bss rs)) σ b) (upd H' a0 o0)) (upd (upd H' a0 o0) a0 o1) a0 d1:=by
       rw[e2]
       exact zaaq hfl0 ac'
      have:=hf2.mut ei' g1 r2
      rw[e2]at this
      exact⟨c,q1,this⟩
   ·cases hr
  ·cases hr
 ·cases hr
theorem EnvOk.putF{fx:Addr->Prop}{H0:Hp}{env:DEnv}{σ:St}{H H':Hp}(k:EnvOk fx H0 env σ H'){r:Val}{v:V}(hv:ValOk (lim fx env σ r.bs) H H' r v)(hn:zapx fx H0 env σ H' r v)(h0:Same H0 H)(hfx:∀b,fx b->∃o,H b=some o)(i:Nat):EnvOk fx H0 (putV env i r) (σ.set i (some v)) H':=by
 unfold putV slOf
 cases e:r.fr with
 | false=>
  rw[if_neg qJ]
  exact(k.frzs r.bs).setPl i (Rp.same (Offs.sub zdf) _ hv.rp)
 | true=>
  rw[if_pos rfl]
  obtain⟨a,rfl,ha,hacc⟩:=hv.fr e
  obtain⟨a',ea,g⟩:=hn e
  cases ea
  have nfx:¬fx a:=zfr hfx ha
  refine(g.frzs r.bs).setAc i (hacc.same (Offs.sub λb z=>?_) λo z=>z) (h0.free ha) nfx
  rcases z with z|z
  ·exact .inl (zdf b z)
  ·exact .inr z
inductive OutF where
 | nx (env:DEnv)
 | bk (env:DEnv)
 | ct (env:DEnv)
 | rt (d:PyData) (fr:Bool) (env:DEnv)
noncomputable def RetF(fx:Addr->Prop)(H0:Hp)(env:DEnv)(σ:St)(d:PyData)(fr:Bool)(v:V)(H:Hp):Prop:=
 Rp (Offs (λa=>fx a\/own env σ a) H) d v/\(fr=true->∃a,v=.ref a/\H0 a=none/\¬own env σ a/\zek (Offs (λb=>(fx b\/own env σ b)\/b=a) H) H a d)
noncomputable def SatF(fx:Addr->Prop)(H0:Hp)(J:Nat->Prop)(σ0:St)(D:Ends):OutF->Prop
 | .nx env=>∀σ H,EnvOk fx H0 env σ H->(∀j,J j->σ[j]?=σ0[j]?)->D.nx σ H
 | .bk env=>∀σ H,EnvOk fx H0 env σ H->(∀j,J j->σ[j]?=σ0[j]?)->D.bk σ H
 | .ct env=>∀σ H,EnvOk fx H0 env σ H->(∀j,J j->σ[j]?=σ0[j]?)->D.ct σ H
 | .rt d fr env=>∀σ v H,EnvOk fx H0 env σ H->(∀j,J j->σ[j]?=σ0[j]?)->RetF fx H0 env σ d fr v H->D.rt v H
theorem SatF.move{fx:Addr->Prop}{H0:Hp}{J:Nat->Prop}{σ0 σ1:St}{D:Ends}{o:OutF}(h:SatF fx H0 J σ0 D o)(e:∀j,J j->σ1[j]?=σ0[j]?):SatF fx H0 J σ1 D o:=by
 cases o with
 | nx env=>exact λσ H hE k=>h σ H hE λj hj=>(k j hj).trans (e j hj)
 | bk env=>exact λσ H hE k=>h σ H hE λj hj=>(k j hj).trans (e j hj)
 | ct env=>exact λσ H hE k=>h σ H hE λj hj=>(k j hj).trans (e j hj)
 | rt d fr env=>exact λσ v H hE k=>h σ v H hE λj hj=>(k j hj).trans (e j hj)
noncomputable abbrev SFf:=DEnv->Option OutF
noncomputable def SSf(J:Nat->Prop)(ts:TS)(F:SFf):Prop:=∀(fx:Addr->Prop)(H0:Hp)(env:DEnv)(σ:St)(H:Hp)(D:Ends),EnvOk fx H0 env σ H->∀o,F env=some o->SatF fx H0 J σ D o->ts D σ H
section
variable{J:Nat->Prop}{f:Nat}
noncomputable def fS(F:SF):SFf:=λenv=>(F env).bind λo=>match o with
 | .nx e=>some (.nx e)
 | .bk e=>some (.bk e)
 | .ct e=>some (.ct e)
 | .rt _ _=>none
theorem zci{t:TS}{F:SF}(h:SSk J t F):SSf J t (fS F):=by
 intro fx H0 env σ H D hE o e q
 unfold fS at e
 obtain⟨o1,e1,e⟩:=qA.mp e
 refine h fx H0 env σ H D hE o1 e1 ?_
 cases o1 with
 | nx e'=>cases e;exact q
 | bk e'=>cases e;exact q
 | ct e'=>cases e;exact q
 | rt _ _=>cases e
noncomputable def fNx:SFf:=λenv=>some (.nx env)
theorem zdh:SSf J tNext fNx:=by
 intro fx H0 env σ H D h o e q
 cases e
 exact q σ H h λ_ _=>rfl
noncomputable def fSeq(a b:SFf):SFf:=λenv=>(a env).bind λo=>match o with
 | .nx env'=>b env'
 | o=>some o
theorem zaz{t u:TS}{a b:SFf}(h1:SSf J t a)(h2:SSf J u b):SSf J (tSeq t u) (fSeq a b):=by
 intro fx H0 env σ H D h o e q
 unfold fSeq at e
 obtain⟨o1,e1,e⟩:=qA.mp e
 refine h1 fx H0 env σ H _ h o1 e1 ?_
 cases o1 with
 | nx env'=>exact λσ' H' h' k=>h2 fx H0 env' σ' H' D h' o e (q.move k)
 | bk env'=>cases e;exact q
 | ct env'=>cases e;exact q
 | rt d fr env'=>cases e;exact q
noncomputable def fSet(i:Nat)(g:EFf):SFf:=λenv=>(g env).map λx=>.nx (putV x.2 i x.1)
theorem zcu{te:TE}{g:EFf}{i:Nat}(h1:SEf f te g)(hJ:¬J i):SSf J (tAsg te (gName i)) (fSet i g):=by
 intro fx H0 env σ H D h o e q
 unfold fSet at e
 obtain⟨⟨r,env'⟩,er,rfl⟩:=qI.mp e
 exact h1 fx H0 env σ H h r env' er _ λv H' m k n hv hn=>q _ H' (k.putF hv hn h.base h.fxs i) λj hj=>qb λz=>hJ (by rw[z];exact hj)
noncomputable def fRet(g:EFf):SFf:=λenv=>(g env).map λx=>.rt x.1.d x.1.fr (frzs x.2 x.1.bs)
theorem zafe{te:TE}{g:EFf}(h1:SEf f te g):SSf J (tRet te) (fRet g):=by
 intro fx H0 env σ H D h o e q
 unfold fRet at e
 obtain⟨⟨r,env'⟩,er,rfl⟩:=qI.mp e
 refine h1 fx H0 env σ H h r env' er _ λv H' m k n hv hn=>q σ v H' (k.frzs r.bs) (λ_ _=>rfl) ⟨Rp.same (Offs.sub zdf) _ hv.rp,λz=>?_⟩
 obtain⟨a,h1,h2,h3⟩:=hv.fr z
 refine⟨a,h1,h.base.free h2,λ⟨j,d,z1,z2⟩=>?_,h3.same (Offs.sub λb z=>z.imp (zdf b) id) λo z=>z⟩
 obtain⟨o,eo⟩:=h.lims [] a (m.lim (fx:=fx) a (.inr ⟨j,d,by simp,(znz z1).1,z2⟩))
 rw[h2]at eo;cases eo
noncomputable abbrev TFf:=DEnv->Option (Bool×DEnv)
noncomputable def STf(f:Nat)(tt:TT)(g:TFf):Prop:=∀(fx:Addr->Prop)(H0:Hp)(env:DEnv)(σ:St)(H:Hp),EnvOk fx H0 env σ H->∀b env',g env=some (b,env')->∀Q:Bool->Hp->Prop,(∀H',MvF f env env' σ H H'->EnvOk fx H0 env' σ H'->Q b H')->tt σ H Q
noncomputable def zft(f:Nat)(g:TF):TFf:=λenv=>match env[f]? with
 | some (.ac _)=>(g env).map λb=>(b,env)
 | _=>none
theorem zjd{tt:TT}{g:TF}(h:ST tt g):STf f tt (zft f g):=by
 intro fx H0 env σ H hE b env' e Q q
 unfold zft at e
 split at e
 ·rename_i d0 e0
  obtain⟨b',eb,e⟩:=qI.mp e
  cases e
  exact h fx H0 env σ H hE b eb Q λH' s=>q H' (MvF.same ⟨_,e0⟩ s) (hE.up s)
 ·cases e
noncomputable def gB(g:EFf):TFf:=λenv=>(g env).bind λx=>match x.1.d with
 | .bool b=>some (b,x.2)
 | _=>none
theorem zarv{te:TE}{g:EFf}(h:SEf f te g):STf f (tB te) (gB g):=by
 intro fx H0 env σ H hE b env' e Q q
 unfold gB at e
 obtain⟨⟨⟨d,fr,bs⟩,e1⟩,er,e⟩:=qA.mp e
 cases d with
 | bool b'=>
  cases e
  refine h fx H0 env σ H hE _ e1 er _ λv H' m k n hv _=>?_
  cases ziy hv.rp
  first
   | exact⟨b,rfl,q H' m k⟩
   | exact q H' m k
 | _=>cases e
noncomputable def fIf(c:TFf)(a b:SFf):SFf:=λenv=>(c env).bind λx=>if x.1=true then a x.2 else b x.2
theorem zls{tc:TT}{t u:TS}{c:TFf}{a b:SFf}(hc:STf f tc c)(h1:SSf J t a)(h2:SSf J u b):SSf J (tIfS tc t u) (fIf c a b):=by
 intro fx H0 env σ H D h o e q
 unfold fIf at e
 obtain⟨⟨x,e1⟩,eb,e⟩:=qA.mp e
 refine hc fx H0 env σ H h x e1 eb _ λH' m k=>?_
 cases x with
 | true=>exact iteT (h1 fx H0 e1 σ H' D k o e q)
 | false=>exact iteF (h2 fx H0 e1 σ H' D k o e q)
end
theorem zkj{n:Nat}{g:GE}{vs:List V}{H:Hp}{Q:VK}{E:XK}(h:spF n g vs H Q E):vs.length=n:=by
 obtain⟨fx,a,vs',d0,d1,d,fr,ds,rfl,hn,_,_,_,r,_⟩:=h
 rw[qv,<- r.length];exact hn
noncomputable def fnF(n:Nat)(F:SFf):GE:=λd ds=>(F (zsp n d ds)).bind λo=>match o with
 | .rt d' fr env=>match(env[0]?:Option Sl)with
  | some (.ac d1)=>some (d',fr,d1)
  | _=>none
 | _=>none
theorem fn_f{N:List Str}{n:Nat}{F:SFf}{t:TS}(hN:0<N.length)(hs:SSf (λj=>j=0) t F){vs:List V}{H:Hp}{Q:VK}{E:XK}(h:spF n (fnF N.length F) vs H Q E):t {nx:=λ_ H'=>Q .non H',rt:=Q} (zhl N vs) H:=by
 obtain⟨fx,a,vs',d0,d1,d,fr,ds,rfl,hn,hf,na,ac,r,g,k⟩:=h
 unfold fnF at g
 obtain⟨o,eo,g⟩:=qA.mp g
 cases o with
 | rt d' fr' env'=>
  refine hs fx _ _ _ H _ (zabu hN hf na ac r) _ eo λσ' v H' hE kp rt=>?_
  have g:(match(env'[0]?:Option Sl)with|some (.ac d1)=>some (d',fr',d1)|_=>none)=some (d,fr,d1):=g
  split at g
  ·rename_i d1' e0
   cases g
   obtain⟨a',q1,_,_,q4⟩:=hE.ac 0 _ e0
   rw[kp 0 rfl]at q1
   have q1:some (some (V.ref a))=some (some (V.ref a')):=q1
   cases q1
   have oa:own env' σ' a:=⟨0,_,e0,by rw[kp 0 rfl];rfl⟩
   have sub:∀b,fx b\/b=a->fx b\/own env' σ' b:=λb z=>z.imp id λy=>by subst y;exact oa
   refine k v H' (λb o nb e=>hE.base b o (by rw[Offs.get (A:=λb=>b=a) nb];exact e)) (q4.same (Offs.sub sub) λo z=>z) ⟨Rp.same (Offs.sub sub) _ rt.1,λz=>?_⟩
   obtain⟨c,w1,w2,w4,w3⟩:=rt.2 z
   have hc:c≠a:=λy=>by
    subst y
    exact w4 oa
   refine⟨c,w1,?_,w3.same (Offs.sub λb z=>z.imp (sub b) id) λo z=>z⟩
   rw[Offs.get (A:=λb=>b=a) hc]at w2
   exact w2
  ·cases g
 | nx _=>cases g
 | bk _=>cases g
 | ct _=>cases g
theorem RetF.unbase{fx:Addr->Prop}{H0 F:Hp}{env:DEnv}{σ:St}{d:PyData}{fr:Bool}{v:V}{H:Hp}(h:RetF fx F env σ d fr v H)(s:Same H0 F):RetF fx H0 env σ d fr v H:=
 ⟨h.1,λe=>let⟨a,h1,h2,h3⟩:=h.2 e;⟨a,h1,s.free h2,h3⟩⟩
noncomputable def zhu(g:GT)(body:SFf):List PyData->DEnv->Option OutF
 | [],env=>some (.nx env)
 | d::ds,env=>(g d env).bind λe1=>(body e1).bind λo=>match o with
  | .nx e2=>zhu g body ds e2
  | .ct e2=>zhu g body ds e2
  | .bk e2=>some (.nx e2)
  | .rt d fr e2=>some (.rt d fr e2)
noncomputable abbrev IFf:=DEnv->Option (List PyData×List Nat×DEnv)
noncomputable def SIf(f:Nat)(wi:TI)(g:IFf):Prop:=∀(fx:Addr->Prop)(H0:Hp)(env:DEnv)(σ:St)(H:Hp),EnvOk fx H0 env σ H->∀ds bs env',g env=some (ds,bs,env')->∀R:It->Hp->Prop,
 (∀I H1,MvF f env env' σ H H1->EnvOk fx H0 env' σ H1->Yl (λb=>fx b\/own (frzs env' bs) σ b) H1 I ds->R I H1)->wi σ H R
noncomputable def zdp(a:AFf):IFf:=λenv=>(a env).bind λx=>match x.1 with
 | [⟨.int j,_,_⟩]=>if -(2 ^ 62)<=j/\j<2 ^ 62 then some (zeo 0 j.toNat,[],x.2)else none
 | _=>none
theorem zha{f:Nat}{ta:TA}{a:AFf}(h1:SAf f ta a):SIf f (iRng1 ta) (zdp a):=by
 intro fx H0 env σ H h ds bs env' e R q
 unfold zdp at e
 obtain⟨⟨rs,e1⟩,er,e⟩:=qA.mp e
 dsimp only at e
 split at e
 ·split at e
  ·rename_i hj
   cases e
   refine h1 fx H0 env σ H h _ _ er _ λvs H1 m k n hv=>?_
   cases hv with
   | cons hv t=>
    cases t
    cases zdc hv.rp
    exact⟨_,rfl,hj.1,hj.2,q _ H1 m k zaag⟩
  ·cases e
 ·cases e
noncomputable def zms(f:IFf)(g:GT)(body:SFf):SFf:=λenv=>(f env).bind λz=>zhu g body z.1 (frzs z.2.2 z.2.1)
noncomputable def fFor(f:IF')(g:GT)(body:SFf):SFf:=λenv=>(f env).bind λz=>zhu g body z.1 (frzs env z.2)
section
variable{J:Nat->Prop}
theorem zuc{wi:TI}{g:TG}{tb:TS}{f:IF'}{gf:GT}{body:SFf}(h1:SI wi f)(h2:SGk J g gf)(h3:SSf J tb body):SSf J (tFor wi g tb) (fFor f gf body):=by
 intro fx H0 env σ H D h o e q
 unfold fFor at e
 obtain⟨⟨ds,bs⟩,er,e⟩:=qA.mp e
 refine h1 fx H0 env σ H h ds bs er _ λI H1 s yl=>?_
 have hE:=(h.up s).frzs bs
 have fl:=hE.floor
 refine⟨λi m σ' H'=>m=ds.length - i/\i<=ds.length/\(∀j,J j->σ'[j]?=σ[j]?)/\∃env',zhu gf body (ds.drop i) env'=some o/\EnvOk fx (Offs (own (frzs env bs) σ) H1) env' σ' H',⟨ds.length,rfl,qAf _,λ_ _=>rfl,_,e,hE.rebase⟩,?_⟩
 rintro i m σ' H' ⟨rfl,hi,kp,env',e',h'⟩
 obtain⟨yi,ys⟩:=yl _ H' h'.all h'.seen
 by_cases hlt:i<ds.length
 ·obtain⟨yg,yy⟩:=yi i ds[i] (qD hlt)
  refine .inr ⟨yg,λσ'' H''=>i+1<=ds.length/\(∀j,J j->σ''[j]?=σ[j]?)/\∃env'',zhu gf body (ds.drop (i+1)) env''=some o/\EnvOk fx (Offs (own (frzs env bs) σ) H1) env'' σ'' H'',?_,?_⟩
  ·rintro σ'' H'' ⟨hle,kp',env'',e'',h''⟩
   exact⟨ds.length - (i+1),by omega,rfl,hle,kp',env'',e'',h''⟩
  ·intro x H'' hy
   obtain⟨sy,ry⟩:=yy x H'' hy
   rw[qAJ hlt]at e'
   obtain⟨e1,ee1,e'⟩:=qA.mp e'
   obtain⟨o1,eo1,e'⟩:=qA.mp e'
   refine h2 fx _ env' σ' H'' _ x (h'.up sy) ry e1 ee1 _ λσ2 h2' k2=>h3 fx _ e1 σ2 H'' _ h2' o1 eo1 ?_
   have k3:∀j,J j->σ2[j]?=σ[j]?:=λj hj=>(k2 j hj).trans (kp j hj)
   cases o1 with
   | nx e2=>exact λσ3 H3 hh k4=>⟨hlt,λj hj=>(k4 j hj).trans (k3 j hj),e2,e',hh⟩
   | ct e2=>exact λσ3 H3 hh k4=>⟨hlt,λj hj=>(k4 j hj).trans (k3 j hj),e2,e',hh⟩
   | bk e2=>cases e';exact λσ3 H3 hh k4=>q σ3 H3 (hh.unbase fl) λj hj=>(k4 j hj).trans (k3 j hj)
   | rt d fr e2=>cases e';exact λσ3 v H3 hh k4 rt=>q σ3 v H3 (hh.unbase fl) (λj hj=>(k4 j hj).trans (k3 j hj)) (rt.unbase fl)
 ·have hi':i=ds.length:=by omega
  subst hi'
  rw[qAr]at e'
  cases e'
  exact .inl ⟨ys,q σ' H' (h'.unbase fl) kp⟩
theorem zle{fd:Nat}{wi:TI}{g:TG}{tb:TS}{f:IFf}{gf:GT}{body:SFf}(h1:SIf fd wi f)(h2:SGk J g gf)(h3:SSf J tb body):SSf J (tFor wi g tb) (zms f gf body):=by
 intro fx H0 env σ H D h o e q
 unfold zms at e
 obtain⟨⟨ds,bs,v1⟩,er,e⟩:=qA.mp e
 refine h1 fx H0 env σ H h ds bs v1 er _ λI H1 m0 k0 yl=>?_
 have hE:=k0.frzs bs
 have fl:=hE.floor
 refine⟨λi m σ' H'=>m=ds.length - i/\i<=ds.length/\(∀j,J j->σ'[j]?=σ[j]?)/\∃env',zhu gf body (ds.drop i) env'=some o/\EnvOk fx (Offs (own (frzs v1 bs) σ) H1) env' σ' H',⟨ds.length,rfl,qAf _,λ_ _=>rfl,_,e,hE.rebase⟩,?_⟩
 rintro i m σ' H' ⟨rfl,hi,kp,env',e',h'⟩
 obtain⟨yi,ys⟩:=yl _ H' h'.all h'.seen
 by_cases hlt:i<ds.length
 ·obtain⟨yg,yy⟩:=yi i ds[i] (qD hlt)
  refine .inr ⟨yg,λσ'' H''=>i+1<=ds.length/\(∀j,J j->σ''[j]?=σ[j]?)/\∃env'',zhu gf body (ds.drop (i+1)) env''=some o/\EnvOk fx (Offs (own (frzs v1 bs) σ) H1) env'' σ'' H'',?_,?_⟩
  ·rintro σ'' H'' ⟨hle,kp',env'',e'',h''⟩
   exact⟨ds.length - (i+1),by omega,rfl,hle,kp',env'',e'',h''⟩
  ·intro x H'' hy
   obtain⟨sy,ry⟩:=yy x H'' hy
   rw[qAJ hlt]at e'
   obtain⟨e1,ee1,e'⟩:=qA.mp e'
   obtain⟨o1,eo1,e'⟩:=qA.mp e'
   refine h2 fx _ env' σ' H'' _ x (h'.up sy) ry e1 ee1 _ λσ2 h2' k2=>h3 fx _ e1 σ2 H'' _ h2' o1 eo1 ?_
   have k3:∀j,J j->σ2[j]?=σ[j]?:=λj hj=>(k2 j hj).trans (kp j hj)
   cases o1 with
   | nx e2=>exact λσ3 H3 hh k4=>⟨hlt,λj hj=>(k4 j hj).trans (k3 j hj),e2,e',hh⟩
   | ct e2=>exact λσ3 H3 hh k4=>⟨hlt,λj hj=>(k4 j hj).trans (k3 j hj),e2,e',hh⟩
   | bk e2=>cases e';exact λσ3 H3 hh k4=>q σ3 H3 (hh.unbase fl) λj hj=>(k4 j hj).trans (k3 j hj)
   | rt d fr e2=>cases e';exact λσ3 v H3 hh k4 rt=>q σ3 v H3 (hh.unbase fl) (λj hj=>(k4 j hj).trans (k3 j hj)) (rt.unbase fl)
 ·have hi':i=ds.length:=by omega
  subst hi'
  rw[qAr]at e'
  cases e'
  exact .inl ⟨ys,q σ' H' (h'.unbase fl) kp⟩
end
noncomputable def fApp(i:Nat)(g:EFf):SFf:=λenv=>match env[i]? with
 | some (.ac (.list _))=>(g env).bind λx=>(match x.2[i]? with
  | some (.ac (.list es))=>if es.length<100000/\i∉x.1.bs then some (.nx ((frzs x.2 x.1.bs).set i (.ac (.list (es++[x.1.d])))))else none
  | _=>none)
 | _=>none
theorem zkk{J:Nat->Prop}{f:Nat}{K:qC}{i:Nat}{te:TE}{g:EFf}(h1:SEf f te g):SSf J (tDrop (tBM K "list" zadm (tVar i) (tCons te tNil))) (fApp i g):=by
 intro fx H0 env σ H D h o e q
 unfold fApp at e
 split at e
 ·rename_i ds0 ei0
  obtain⟨⟨r,v1⟩,er,e⟩:=qA.mp e
  dsimp only at e
  split at e
  ·rename_i ds ei
   split at e
   ·rename_i hl
    cases e
    obtain⟨a,g1,g2,g3,g4⟩:=h.ac i _ ei0
    obtain⟨xs0,hx0,_⟩:=g4
    refine⟨_,g1,.inl ⟨rfl,_,SqL.of hx0⟩,h1 fx H0 env σ H h r v1 er _ λv H' m k n hv hn=>?_⟩
    have h':=k.frzs r.bs
    have ei':=zhx hl.2 ei
    obtain⟨a',z1,_,_,z4⟩:=h'.ac i _ ei'
    rw[g1]at z1
    cases z1
    obtain⟨xs,hx',rx'⟩:=z4
    refine⟨a,xs,v,rfl,rfl,hx',zqi (by rw[<- rx'.length];exact hl.1),?_⟩
    exact q σ _ (h'.mut ei' g1 ⟨_,zbh,rx'.append (zfd (Rp.same (Offs.sub zdf) _ hv.rp) zfq)⟩) λ_ _=>rfl
   ·cases e
  ·cases e
 ·cases e
noncomputable def fCB(g:GF)(a:AFf):EFf:=λenv=>(a env).bind λx=>(g (zka x.1)).bind λz=>some (⟨z.1,z.2,bsOf z.1 (bss x.1)⟩,x.2)
theorem zapy{f:Nat}{r:List V->Hp->VK->Prop}{g:GF}{ta:TA}{a:AFf}(hc:SC r g)(ha:SAf f ta a):SEf f (tCB r ta) (fCB g a):=by
 intro fx H0 env σ H h rr env' hr Q q
 unfold fCB at hr
 obtain⟨⟨rs,e1⟩,er,hr⟩:=qA.mp hr
 obtain⟨⟨d,fr⟩,ez,hr⟩:=qA.mp hr
 cases hr
 refine ha fx H0 env σ H h rs e1 er _ λvs H1 m k n v1=>hc (lim fx e1 σ (bss rs)) H1 vs (zka rs) (k.lims _) (ziz (λi hi=>hi) v1) d fr ez _ λw H3 s3 rp fr3=>q w H3 (m.trans (MvF.same m.at1 s3)) (k.up s3) (zub n) ⟨znv rp,λe=>?_⟩ λe=>let⟨b,g1,g2,g3⟩:=fr3 e;⟨b,g1,k.new s3 g2 g3.ex⟩
 obtain⟨b,g1,g2,g3⟩:=fr3 e
 refine⟨b,g1,m.free g2,?_⟩
 have nf:zfn d=false:=by cases d<;>first|rfl|exact g3.elim
 show zek (Offs (λc=>lim fx e1 σ (bsOf d (bss rs)) c\/c=b) H3) H3 b d
 rw[show bsOf d (bss rs)=bss rs by unfold bsOf;rw[if_neg (by rw[nf];decide)]]
 exact g3
section
variable{f:Nat}
noncomputable def gAnd(a b:TFf):TFf:=λenv=>(a env).bind λx=>if x.1=true then b x.2 else some (false,x.2)
noncomputable def gOr(a b:TFf):TFf:=λenv=>(a env).bind λx=>if x.1=true then some (true,x.2)else b x.2
theorem zqt{t u:TT}{a b:TFf}(h:STf f t a)(k:STf f u b):STf f (tAnd t u) (gAnd a b):=by
 intro fx H0 env σ H hE b' env' hb Q q
 unfold gAnd at hb
 obtain⟨⟨c,e1⟩,e,hb⟩:=qA.mp hb
 refine h fx H0 env σ H hE c e1 e _ λH' m k1=>?_
 cases c with
 | true=>exact iteT (k fx H0 e1 σ H' k1 b' env' hb _ λH'' m' k2=>q H'' (m.trans m') k2)
 | false=>cases hb;exact iteF (q H' m k1)
theorem zajo{t u:TT}{a b:TFf}(h:STf f t a)(k:STf f u b):STf f (tOr t u) (gOr a b):=by
 intro fx H0 env σ H hE b' env' hb Q q
 unfold gOr at hb
 obtain⟨⟨c,e1⟩,e,hb⟩:=qA.mp hb
 refine h fx H0 env σ H hE c e1 e _ λH' m k1=>?_
 cases c with
 | false=>exact iteF (k fx H0 e1 σ H' k1 b' env' hb _ λH'' m' k2=>q H'' (m.trans m') k2)
 | true=>cases hb;exact iteT (q H' m k1)
end
section
variable{J:Nat->Prop}{f:Nat}
theorem zrz{te:TE}{g:EFf}(h:SEf f te g):STf f (tTest te) (gB g):=zarv h
noncomputable def zhv(g:EF):SFf:=λenv=>(g env).map λr=>.rt r.d r.fr (frzs env r.bs)
theorem zje{te:TE}{g:EF}(h1:SE te g):SSf J (tRet te) (zhv g):=by
 intro fx H0 env σ H D h o e q
 unfold zhv at e
 obtain⟨r,er,rfl⟩:=qI.mp e
 refine h1 fx H0 env σ H h r er _ λv H' s hv=>q σ v H' ((h.up s).frzs r.bs) (λ_ _=>rfl) ⟨Rp.same (Offs.sub zdf) _ hv.rp,λz=>?_⟩
 obtain⟨a,h1,h2,h3⟩:=hv.fr z
 refine⟨a,h1,h.base.free h2,λ⟨j,d,z1,z2⟩=>?_,h3.same (Offs.sub λb z=>z.imp (zdf b) id) λo z=>z⟩
 obtain⟨o,eo⟩:=h.lims [] a (.inr ⟨j,d,by simp,(znz z1).1,z2⟩)
 rw[h2]at eo;cases eo
noncomputable def zob(i:Nat):SFf:=λenv=>match env[i]? with
 | some (.pl d)=>some (.rt d false env)
 | some (.ac d)=>some (.rt d true (env.set i .no))
 | _=>none
theorem zjf{i:Nat}:SSf J (tRet (tVar i)) (zob i):=by
 intro fx H0 env σ H D h o e q
 unfold zob at e
 cases ei:env[i]? with
 | none=>rw[ei]at e;cases e
 | some sl=>
  rw[ei]at e
  cases sl with
  | no=>cases e
  | pl d=>
   cases e
   obtain⟨v,h1,h2⟩:=h.pl i d ei
   exact⟨v,h1,q σ v H h (λ_ _=>rfl) ⟨h2,λz=>by cases z⟩⟩
  | ac d=>
   cases e
   obtain⟨a,h1,h2,h3,h4⟩:=h.ac i d ei
   have sub:∀b,own (env.set i .no) σ b->own env σ b:=by
    rintro b ⟨j,d',z1,z2⟩
    rcases zcf z1 with⟨_,y⟩|⟨_,y⟩
    ·cases y
    ·exact⟨j,d',y,z2⟩
   have nown:¬own (env.set i .no) σ a:=by
    rintro⟨j,d',z1,z2⟩
    rcases zcf z1 with⟨_,y⟩|⟨hn,y⟩
    ·cases y
    ·exact hn (h.inj j i d' d a y ei z2 h1)
   have so:Same (Offs (λb=>fx b\/own env σ b) H) (Offs (λb=>fx b\/own (env.set i .no) σ b) H):=Offs.sub λb z=>z.imp id (sub b)
   have hE:EnvOk fx H0 (env.set i .no) σ H:=by
    refine⟨by rw[qw];exact h.len,λj e hj=>?_,λj e hj=>?_,λj k d1 d2 b z1 z2 z3 z4=>?_,h.base,h.fxs⟩
    ·rcases zcf hj with⟨_,y⟩|⟨_,y⟩
     ·cases y
     ·obtain⟨v,w1,w2⟩:=h.pl j e y;exact⟨v,w1,Rp.same so _ w2⟩
    ·rcases zcf hj with⟨_,y⟩|⟨_,y⟩
     ·cases y
     ·obtain⟨b,w1,w2,w3,w4⟩:=h.ac j e y;exact⟨b,w1,w2,w3,w4.same so λo z=>z⟩
    ·rcases zcf z1 with⟨_,y1⟩|⟨_,y1⟩
     ·cases y1
     ·rcases zcf z2 with⟨_,y2⟩|⟨_,y2⟩
      ·cases y2
      ·exact h.inj j k d1 d2 b y1 y2 z3 z4
   refine⟨_,h1,q σ _ H hE (λ_ _=>rfl) ⟨h4.rp so λo eo=>by rw[Offs.get λz=>z.elim h3 nown];exact eo,λ_=>⟨a,rfl,h2,nown,h4.same (Offs.sub λb z=>?_) λo z=>z⟩⟩⟩
   rcases z with z|z
   ·exact z.imp id (sub b)
   ·rw[z];exact .inr ⟨i,d,ei,h1⟩
noncomputable def fIfP(c:TF)(a b:SFf):SFf:=λenv=>(c env).bind λx=>if x=true then a env else b env
theorem zjg{tc:TT}{t u:TS}{c:TF}{a b:SFf}(hc:ST tc c)(h1:SSf J t a)(h2:SSf J u b):SSf J (tIfS tc t u) (fIfP c a b):=by
 intro fx H0 env σ H D h o e q
 unfold fIfP at e
 obtain⟨x,eb,e⟩:=qA.mp e
 refine hc fx H0 env σ H h x eb _ λH' s=>?_
 cases x with
 | true=>exact iteT (h1 fx H0 env σ H' D (h.up s) o e q)
 | false=>exact iteF (h2 fx H0 env σ H' D (h.up s) o e q)
end
noncomputable def Scr(K:qC)(a:Addr)(ns:List Int)(H0:Hp)(σ:St):Prop:=σ[0]?=some (some (.ref a))/\SqL K H0 a (ns.map V.int)
theorem SqL.up{K:qC}{H H':Hp}{a:Addr}{xs:List V}(h:SqL K H a xs)(s:Same H H'):SqL K H' a xs:=by
 rcases h with(h|⟨o,h⟩)|h
 ·exact .inl (.inl (s _ _ h))
 ·exact .inl (.inr ⟨o,s _ _ h⟩)
 ·exact .inr h
noncomputable def SSg(K:qC)(ns:List Int)(J:Nat->Prop)(ts:TS)(F:SFf):Prop:=∀(a:Addr)(fx:Addr->Prop)(H0:Hp)(env:DEnv)(σ:St)(H:Hp)(D:Ends),EnvOk fx H0 env σ H->Scr K a ns H0 σ->∀o,F env=some o->SatF fx H0 J σ D o->ts D σ H
section
variable{K:qC}{ns:List Int}{J:Nat->Prop}{f:Nat}
theorem zgl{t:TS}{F:SFf}(h:SSf J t F):SSg K ns J t F:=λa fx H0 env σ H D hE _ o e q=>h fx H0 env σ H D hE o e q
theorem zdo{t u:TS}{a b:SFf}(hJ:J 0)(h1:SSg K ns J t a)(h2:SSg K ns J u b):SSg K ns J (tSeq t u) (fSeq a b):=by
 intro c fx H0 env σ H D h hc o e q
 unfold fSeq at e
 obtain⟨o1,e1,e⟩:=qA.mp e
 refine h1 c fx H0 env σ H _ h hc o1 e1 ?_
 cases o1 with
 | nx env'=>exact λσ' H' h' k=>h2 c fx H0 env' σ' H' D h' ⟨(k 0 hJ).trans hc.1,hc.2⟩ o e (q.move k)
 | bk env'=>cases e;exact q
 | ct env'=>cases e;exact q
 | rt d fr env'=>cases e;exact q
theorem zamm{wi:TI}{g:TG}{tb:TS}{f:IF'}{gf:GT}{body:SFf}(hJ:J 0)(h1:SI wi f)(h2:SGk J g gf)(h3:SSg K ns J tb body):SSg K ns J (tFor wi g tb) (fFor f gf body):=by
 intro a0 fx H0 env σ H D h hc o e q
 unfold fFor at e
 obtain⟨⟨ds,bs⟩,er,e⟩:=qA.mp e
 refine h1 fx H0 env σ H h ds bs er _ λI H1 s yl=>?_
 have hE:=(h.up s).frzs bs
 have fl:=hE.floor
 refine⟨λi m σ' H'=>m=ds.length - i/\i<=ds.length/\(∀j,J j->σ'[j]?=σ[j]?)/\∃env',zhu gf body (ds.drop i) env'=some o/\EnvOk fx (Offs (own (frzs env bs) σ) H1) env' σ' H',⟨ds.length,rfl,qAf _,λ_ _=>rfl,_,e,hE.rebase⟩,?_⟩
 rintro i m σ' H' ⟨rfl,hi,kp,env',e',h'⟩
 obtain⟨yi,ys⟩:=yl _ H' h'.all h'.seen
 by_cases hlt:i<ds.length
 ·obtain⟨yg,yy⟩:=yi i ds[i] (qD hlt)
  refine .inr ⟨yg,λσ'' H''=>i+1<=ds.length/\(∀j,J j->σ''[j]?=σ[j]?)/\∃env'',zhu gf body (ds.drop (i+1)) env''=some o/\EnvOk fx (Offs (own (frzs env bs) σ) H1) env'' σ'' H'',?_,?_⟩
  ·rintro σ'' H'' ⟨hle,kp',env'',e'',h''⟩
   exact⟨ds.length - (i+1),by omega,rfl,hle,kp',env'',e'',h''⟩
  ·intro x H'' hy
   obtain⟨sy,ry⟩:=yy x H'' hy
   rw[qAJ hlt]at e'
   obtain⟨e1,ee1,e'⟩:=qA.mp e'
   obtain⟨o1,eo1,e'⟩:=qA.mp e'
   refine h2 fx _ env' σ' H'' _ x (h'.up sy) ry e1 ee1 _ λσ2 h2' k2=>?_
   have k3:∀j,J j->σ2[j]?=σ[j]?:=λj hj=>(k2 j hj).trans (kp j hj)
   refine h3 a0 fx _ e1 σ2 H'' _ h2' ⟨(k3 0 hJ).trans hc.1,hc.2.up fl⟩ o1 eo1 ?_
   cases o1 with
   | nx e2=>exact λσ3 H3 hh k4=>⟨hlt,λj hj=>(k4 j hj).trans (k3 j hj),e2,e',hh⟩
   | ct e2=>exact λσ3 H3 hh k4=>⟨hlt,λj hj=>(k4 j hj).trans (k3 j hj),e2,e',hh⟩
   | bk e2=>cases e';exact λσ3 H3 hh k4=>q σ3 H3 (hh.unbase fl) λj hj=>(k4 j hj).trans (k3 j hj)
   | rt d fr e2=>cases e';exact λσ3 v H3 hh k4 rt=>q σ3 v H3 (hh.unbase fl) (λj hj=>(k4 j hj).trans (k3 j hj)) (rt.unbase fl)
 ·have hi':i=ds.length:=by omega
  subst hi'
  rw[qAr]at e'
  cases e'
  exact .inl ⟨ys,q σ' H' (h'.unbase fl) kp⟩
noncomputable def zaif(i:Nat)(m:Int)(ns:List Int):SFf:=λenv=>some (.nx (env.set i (.pl (.int (if(ns.length:Int)<m then ns.length else m)))))
theorem zaig{i:Nat}{m:Int}(hJ:¬J i):SSg K ns J (tAsg (tCB (λxs H Q=>∃i j,xs=[.int i,.int j]/\Q (.int (if j<i then j else i)) H) (tCons (tC (.int m)) (tCons (tCB (λxs H Q=>∃x n,xs=[x]/\LenV K x H n/\Q (.int n) H) (tCons (tVar 0) tNil)) tNil))) (gName i)) (zaif i m ns):=by
 intro a fx H0 env σ H D h hc o e q
 cases e
 refine⟨.ref a,hc.1,.ref a,ns.length,rfl,?_,m,ns.length,rfl,q _ H (h.setPl i zab) λj hj=>qb λz=>hJ (by rw[z];exact hj)⟩
 have hs:=hc.2.up h.base
 exact .inl ⟨_,hs,by rw[qE]⟩
noncomputable def zmt(ns:List Int)(z:Int):List PyData:=
 let c:=ns.getD z.toNat 0
 let g:=if c<0 then -c else c
 [.int (if g<10 ^ 18 then 0 else g),.int ((c % 2147483423 * 48271+6151 * z+17) % 2147483423),.int 0]
noncomputable def zaar(K:qC):Sp:=λvs H Q _=>∃(a:Addr)(ns:List Int)(z:Int),vs=[.ref a,.int z]/\SqL K H a (ns.map .int)/\0<=z/\z<=1000/\
 ∀p H',H p=none->Same H H'->zek (λ_=>none) H' p (.list (zmt ns z))->Q (.ref p) H'
noncomputable def zaff(f k:Nat)(ns:List Int):SFf:=λenv=>match env[k]? with
 | some (.pl (.int z))=>if 0<=z/\z<=1000 then some (.nx (env.set f (.ac (.list (zmt ns z)))))else none
 | _=>none
theorem zaih{k:Nat}(hJ:¬J f):SSg K ns J (tAsg (tCall (zaar K) [] E0 (tCons (tVar 0) (tCons (tVar k) tNil))) (gName f)) (zaff f k ns):=by
 intro a fx H0 env σ H D h hc o e q
 unfold zaff at e
 split at e
 ·rename_i z ek
  split at e
  ·rename_i hz
   cases e
   obtain⟨v,hv,rv⟩:=h.pl k _ ek
   cases zdc rv
   refine⟨_,hc.1,_,hv,a,ns,z,rfl,hc.2.up h.base,hz.1,hz.2,λp H' hp s ac=>?_⟩
   refine q _ H' ?_ λj hj=>qb λy=>hJ (by rw[y];exact hj)
   have vo:ValOk (lim fx env σ (Val.bs ⟨.list (zmt ns z),true,[]⟩)) H H' ⟨.list (zmt ns z),true,[]⟩ (.ref p):=by
    refine⟨ac.rp (λb o eb=>by cases eb) λo eo=>?_,λ_=>⟨p,rfl,hp,ac.same (λb o eb=>by cases eb) λo eo=>eo⟩⟩
    rw[Offs.get]
    ·exact eo
    ·intro y
     obtain⟨o',eo'⟩:=h.lims [] p y
     rw[hp]at eo'
     cases eo'
   exact h.put (r:=⟨.list (zmt ns z),true,[]⟩) s vo f
  ·cases e
 ·cases e
end
section
variable{X:Cx}
theorem bpaC{e:Expr}{es:List Expr}{te:TE}{t:TA}(h1:Bx (PE X e te))(h2:Bx (PA X es t))(h3:isStar e=false:=by rfl):Bx (PA X (e::es) (tCons te t)):=zam h1 h2 h3
theorem bpeD{x:Str}{p pos:Pos}{e:Expr}{es:List Expr}{t:TA}{ps:List Str}{k m:Nat}{sp:Sp}(D:Dn X.prog X.w X.K X.mg X.base x ps k sp)(hr:Room m X.A)(ha:Bx (PA X (e::es) t))(hm:k<=m:=by decide)(hg:Gl X x:=by rfl)(hd:(x==("__debug__":Str))=false:=by decide)
  (hs:isStar e=false:=by rfl) (hp:((backTo pos (starEach es X.env)).any λx=>x.1)=false:=by rfl):Bx (PE X (.Call (.Name x p) (e::es) [] pos) (tCall sp [] E0 t)):=zew D (hr.mono hm) hg ha hd (zav hs) hp
theorem bpeB{x:Str}{p pos:Pos}{e:Expr}{es:List Expr}{t:TA}{id:String}{r:List V->Hp->VK->Prop}(hc:CallR X (.builtin id) r)(hm:X.mg x=none)(hb:bootBuiltins x=some (.builtin id))(ha:Bx (PA X (e::es) t))(hg:Gl X x:=by rfl)(h1:x≠("__name__":Str):=by decide)(h2:(x==("__debug__":Str))=false:=by decide)
  (hs:isStar e=false:=by rfl) (hp:((backTo pos (starEach es X.env)).any λx=>x.1)=false:=by rfl):Bx (PE X (.Call (.Name x p) (e::es) [] pos) (tCB r t)):=zil hc hg hm hb ha h1 h2 (zav hs) hp
theorem bpeT{x:Str}{p pos:Pos}{e:Expr}{es:List Expr}{t:TA}{T:String}{r:List V->Hp->VK->Prop}(hc:CallR X (.type T) r)(hm:X.mg x=none)(hb:bootBuiltins x=some (.type T))(ha:Bx (PA X (e::es) t))(hg:Gl X x:=by rfl)(h1:x≠("__name__":Str):=by decide)(h2:(x==("__debug__":Str))=false:=by decide)
  (hs:isStar e=false:=by rfl) (hp:((backTo pos (starEach es X.env)).any λx=>x.1)=false:=by rfl):Bx (PE X (.Call (.Name x p) (e::es) [] pos) (tCB r t)):=zabs hc hg hm hb ha h1 h2 (zav hs) hp
theorem bpsS{pos:Pos}{i:Nat}{x:Str}{e:Expr}{te:TE}{pos':Pos}(hN:X.N.Nodup)(hi:X.N[i]?=some x)(hl:Loc X.env.scope x)(he:Bx (PE X e te))(hs:swapsWith e (some (.Name x pos')) pos.line X.env=pure false:=by rfl)(hf:X.fn x=true\/X.env.scope.names.lookup x=some .local:=by exact .inl rfl):Bx (PS X (.Assign [.Name x pos'] e pos) (tAsg te (gName i))):=zeu hN hi hl he hs hf
theorem bpeX{a b:Expr}{ta tb:TE}{pos:Pos}{r:R2}(hr:IxR X r)(h1:Bx (PE X a ta))(h2:Bx (PE X b tb))(hp:PlainIx b:=by exact λ_ _=>rfl):Bx (PE X (.Subscript a b pos) (tOp r ta tb)):=zapv hr h1 h2 hp
theorem bpgN{pos:Pos}{i:Nat}{x:Str}(hN:X.N.Nodup)(hi:X.N[i]?=some x)(hl:Loc X.env.scope x)(hf:X.fn x=true\/X.env.scope.names.lookup x=some .local:=by first|exact .inl rfl|exact .inr rfl|assumption):Bx (PG X (.Name x pos) (gName i)):=zpu hN hi hl hf
end
section
variable{K:qC}{ns:List Int}{J:Nat->Prop}
noncomputable def zafg(k i:Nat)(ns:List Int):SFf:=λenv=>match env[k]? with
 | some (.pl (.int z))=>if 0<=z then some (.nx (if z<ns.length then env.set i (.pl (.int (ns.getD z.toNat 0)))else env))else none
 | _=>none
theorem zaii{k i:Nat}(hJ:¬J i):SSg K ns J (tIfS (tTest (tOp (rI0 λi j=>.bl (decide (i<j))) (tVar k) (tCB (λxs H Q=>∃x n,xs=[x]/\LenV K x H n/\Q (.int n) H) (tCons (tVar 0) tNil)))) (tAsg (tOp (rIxU K) (tVar 0) (tVar k)) (gName i)) tNext) (zafg k i ns):=by
 intro a fx H0 env σ H D h hc o e q
 unfold zafg at e
 split at e
 ·rename_i z ek
  split at e
  ·rename_i hz
   cases e
   obtain⟨v,hv,rv⟩:=h.pl k _ ek
   cases zdc rv
   have hs:=hc.2.up h.base
   refine⟨_,hv,.ref a,hc.1,.ref a,ns.length,rfl,.inl ⟨_,hs,by rw[qE]⟩,z,ns.length,rfl,rfl,decide (z<(ns.length:Int)),rfl,?_⟩
   by_cases hlt:z<ns.length
   ·rw[if_pos hlt]at q
    rw[decide_eq_true hlt]
    refine iteT ⟨.ref a,hc.1,_,hv,ns.map V.int,.int (ns.getD z.toNat 0),.inl hs,?_,?_⟩
    ·have hn:z.toNat<ns.length:=by omega
     unfold atI ixN
     rw[qE,if_pos hz,if_pos hlt]
     show(ns.map V.int)[z.toNat]?=_
     rw[qh,qD hn,qQ,qD hn]
     rfl
    ·exact q _ H (h.setPl i zab) λj hj=>qb λy=>hJ (by rw[y];exact hj)
   ·rw[if_neg hlt]at q
    rw[decide_eq_false hlt]
    exact iteF (q σ H h λ_ _=>rfl)
  ·cases e
 ·cases e
end
theorem zajp{H:Hp}{σ:St}{env:DEnv}(hl:env.length=σ.length)(hp:∀(i:Nat) (d:PyData),env[i]?=some (.pl d)->∃v,σ[i]?=some (some v)/\Rp H d v)(ha:∀(i:Nat) (d:PyData),env[i]?≠some (.ac d)):EnvOk (λ_=>False) H env σ H:=
 ⟨hl,λi d e=>let⟨v,w1,w2⟩:=hp i d e;⟨v,w1,Rp.same (λb o eb=>by rw[Offs.get λz=>z.elim id λ⟨j,d',z,_⟩=>ha j d' z];exact eb) _ w2⟩,λi d e=>absurd e (ha i d),λi j d e a z=>absurd z (ha i d),Same.refl _,λb z=>z.elim⟩
theorem zafh(ns:List Int)(z:Int):zwe (.list (zmt ns z))=true:=rfl
theorem zamn{K:qC}{N:List Str}(hN:N.length=4){t:TS}{F:List Int->SFf}(hs:∀ns,SSg K ns (λj=>j=0) t (F ns))
  (hF:∀ns z,0<=z->z<=1000->∃env',F ns [.no,.pl (.int z),.no,.no]=some (.rt (.list (zmt ns z)) true env')) {vs:List V} {H:Hp} {Q:VK} {E:XK} (h:zaar K vs H Q E):t {nx:=λ_ H'=>Q .non H',rt:=Q} (zhl N vs) H:=by
 obtain⟨a,ns,z,rfl,hS,h0,h1,k⟩:=h
 obtain⟨env',e⟩:=hF ns z h0 h1
 have st:zhl N [.ref a,.int z]=[some (.ref a),some (.int z),none,none]:=by unfold zhl;rw[hN];rfl
 rw[st]
 refine hs ns a (λ_=>False) H _ _ H _ (zajp (env:=[.no,.pl (.int z),.no,.no]) rfl (λi d e=>?_) λi d e=>?_) ⟨rfl,hS⟩ _ e λσ v H' hE kp rt=>?_
 ·match i,e with
  | 1,e=>cases e;exact⟨_,rfl,zab⟩
  | 0,e=>cases e
  | 2,e=>cases e
  | 3,e=>cases e
 ·match i,e with
  | 1,e=>cases e
  | 0,e=>cases e
  | 2,e=>cases e
  | 3,e=>cases e
 ·obtain⟨p,rfl,hp,_,ac⟩:=rt.2 rfl
  exact k p H' hp hE.base (zaaq (zafh ns z) ac)
theorem zaij{K:qC}{ns:List Int}{t:TS}{F:SFf}(hs:SSg K ns (λj=>j=0) t F){a:Addr}{H:Hp}{Q:VK}{nx:St->Hp->Prop}{n:Nat}(hS:SqL K H a (ns.map V.int))(e:∃env',F (List.replicate (n+1) .no)=some (.rt (.bool true) false env'))(k:∀H',Q (.bl true) H') :
  t {nx:=nx,rt:=Q} (some (.ref a)::List.replicate n none) H:=by
 obtain⟨env',e⟩:=e
 have no:∀(i:Nat)(s:Sl),(List.replicate (n+1) Sl.no)[i]?=some s->s=.no:=λi s e=>by
  rw[qBb]at e
  split at e
  ·exact(qS e).symm
  ·cases e
 refine hs a (λ_=>False) H _ _ H _ (zajp (by simp) (λi d e=>by cases no i _ e) λi d e=>by cases no i _ e) ⟨rfl,hS⟩ _ e λσ v H' hE kp rt=>?_
 cases ziy rt.1
 exact k H'
end L2
namespace PySem
open Sem (wp)
open Builtin Builtin.ObjectAttr
end PySem
namespace L2
open PySem PySem.Spec PyProof.Rows
end L2
namespace PySem
open Sem (wp)
open Builtin Builtin.ObjectAttr
end PySem
namespace L2
open PySem PySem.Spec PyProof.Rows
theorem EnvOk.popped{fx:Addr->Prop}{H0:Hp}{env:DEnv}{σ:St}{H:Hp}{j:Nat}{ds:List PyData}{a:PyData}(h:EnvOk fx H0 env σ H)(ej:env[j]?=some (.ac (.list ds)))(ea:ds.getLast?=some a) :
  ∃p xs v,σ[j]?=some (some (.ref p))/\H p=some (.lst xs)/\xs[xs.length - 1]?=some v/\Rp (Offs (λb=>fx b\/own env σ b) H) a v/\EnvOk fx H0 (env.set j (.ac (.list ds.dropLast))) σ (upd H p (.lst xs.dropLast)):=by
 obtain⟨p,g1,g2,g3,g4⟩:=h.ac j _ ej
 obtain⟨xs,hx,rx⟩:=g4
 rw[List.getLast?_eq_getElem?]at ea
 obtain⟨v,hv,rv⟩:=rx.get2 ea
 exact⟨p,xs,v,g1,hx,by rw[<- rx.length];exact hv,rv,h.mut ej g1 ⟨_,zbh,rx.dropLast⟩⟩
noncomputable def insL{α:Type}(xs:List α)(k:Nat)(y:α):List α:=xs.take k++y::xs.drop k
theorem zaas{α:Type}{xs:List α}{k:Nat}{y:α}:(insL xs k y).length=xs.length+1:=by
 unfold insL
 rw[qR,qv,qAq,qBe]
 omega
noncomputable def zafi:V->List V->Hp->VK->Prop:=λx vs H Q=>∃l xs,∃(k:Nat),∃y,x=.ref l/\vs=[.int (k:Int),y]/\H l=some (.lst xs)/\k<=xs.length/\xs.length<qY/\k<2 ^ 62/\Q .non (upd H l (.lst (insL xs k y)))
theorem zafj{X:Cx}:MtM X "list.insert" zafi:=by
 intro pins s σ H x vs v us Q I rx rv h
 obtain⟨l,xs,k,y,rfl,rfl,hH,hk,hz,hk2,q⟩:=h
 cases rx
 obtain⟨u1,u2,rfl,r1,r2⟩:=zakw rv
 obtain⟨t,rfl⟩:=r1
 obtain⟨z,its,n,r,hl,e⟩:=I.lstM hH
 have k1:(-(2 ^ 63):Int)<=(k:Int):=Int.le_trans (by decide) (Int.natCast_nonneg k)
 have k2:(k:Int)<2 ^ 63:=qCq (Int.ofNat_lt.mpr hk2) (by decide)
 have hsz:its.toArray.size<=qY:=by rw[qG,<- hl];exact qBp hz
 obtain⟨x,hx⟩:∃x:Int,x=(k:Int):=⟨_,rfl⟩
 rw[<- hx]at k1 k2
 have hfit:¬(!Builtin.List.listFitsIndex x)=true:=by rw[fitsIndex_both k1 k2];exact qJ
 have M:=PySem.AutoSeq1.list_insert_list_int_val_1 l its.toArray n x t u2 hfit hsz
 rw[show(Value.int (k:Int) t)=Value.int x t by rw[hx]]
 refine qAD F.slot_list_insert ⟨_,e,rfl⟩ F.entry_list_insert (F.args_list_insert_3 _ _ _) M ⟨e,?_⟩
 refine⟨.non,_,I.lset (its':=insL its k u2) hH e ?_ ((r.take k).append (.cons r2 (r.drop k))) ?_,rfl,q⟩
 ·have e0:(if x<0 then(x+((its.toArray.size:Nat):Int)).toNat else min x.toNat its.toArray.size)=k:=by
   rw[if_neg (by omega),qG];omega
  show(its.toArray.extract 0 (if x<0 then(x+((its.toArray.size:Nat):Int)).toNat else min x.toNat its.toArray.size)).push u2++its.toArray.extract (if x<0 then(x+((its.toArray.size:Nat):Int)).toNat else min x.toNat its.toArray.size)=(insL its k u2).toArray
  rw[e0]
  apply Array.ext'
  unfold insL
  simp
  exact qA6 (by rw[qBe];exact qN _)
 ·show(insL xs k y).length<=qY
  rw[zaas];omega
theorem Rps.ins{H:Hp}{ds:List PyData}{vs:List V}{d:PyData}{v:V}(h:Rps H ds vs)(k:Nat)(r:Rp H d v):Rps H (insL ds k d) (insL vs k v):=(h.take k).append (zfd r (h.drop k))
noncomputable def fIns(i:Nat)(a:AFf):SFf:=λenv=>match env[i]? with
 | some (.ac (.list _))=>(a env).bind λx=>(match x.1,x.2[i]? with
  | [k,r],some (.ac (.list ds))=>(match k.d with
   | .int z=>if 0<=z/\z.toNat<=ds.length/\ds.length<100000/\i∉r.bs then some (.nx ((frzs x.2 r.bs).set i (.ac (.list (insL ds z.toNat r.d)))))else none
   | _=>none)
  | _,_=>none)
 | _=>none
theorem zamo{J:Nat->Prop}{f:Nat}{K:qC}{i:Nat}{ta:TA}{g:AFf}(h1:SAf f ta g):SSf J (tDrop (tBM K "list" zafi (tVar i) ta)) (fIns i g):=by
 intro fx H0 env σ H D h o e q
 unfold fIns at e
 split at e
 ·rename_i ds0 ei0
  obtain⟨⟨rs,v1⟩,er,e⟩:=qA.mp e
  dsimp only at e
  split at e
  ·rename_i k r ds ei
   split at e
   ·rename_i z hz
    split at e
    ·rename_i hl
     cases e
     obtain⟨a,g1,g2,g3,g4⟩:=h.ac i _ ei0
     obtain⟨xs0,hx0,_⟩:=g4
     refine⟨_,g1,.inl ⟨rfl,_,SqL.of hx0⟩,h1 fx H0 env σ H h _ v1 er _ λvs H' m k' n hv=>?_⟩
     cases hv with
     | cons hk t=>
      cases t with
      | cons hr t=>
       cases t
       have hk:=hk.rp
       rw[hz]at hk
       cases zdc hk
       have h':=k'.frzs r.bs
       have ei':=zhx hl.2.2.2 ei
       obtain⟨a',z1,_,_,z4⟩:=h'.ac i _ ei'
       rw[g1]at z1
       cases z1
       obtain⟨xs,hx',rx'⟩:=z4
       refine⟨a,xs,z.toNat,_,rfl,by rw[Int.toNat_of_nonneg hl.1],hx',by rw[<- rx'.length];exact hl.2.1,zqi (by rw[<- rx'.length];exact hl.2.2.1),by omega,?_⟩
       exact q σ _ (h'.mut ei' g1 ⟨_,zbh,rx'.ins z.toNat (Rp.same (Offs.sub zdf) _ hr.rp)⟩) λ_ _=>rfl
    ·cases e
   ·cases e
  ·cases e
 ·cases e
noncomputable def zajq:V->List V->Hp->VK->Prop:=λx vs H Q=>∃l xs y,∃(j:Nat),∃z,x=.ref l/\vs=[y]/\H l=some (.lst xs)/\zno y=true/\xs.all zno=true/\xs[j]?=some z/\eqV z y=true/\(∀m z,m<j->xs[m]?=some z->eqV z y=false)/\j<100000/\Q (.int (j:Int)) H
theorem zaat{X:Cx}:MtR X "list.index" zajq:=by
 intro pins s σ H x vs v us Q I rx rv h
 obtain⟨l,xs,y,j,z,rfl,rfl,hH,fy,fs,hj,hz,hno,hlt,q⟩:=h
 cases rx
 obtain⟨u,rfl,ru⟩:=rv.one
 obtain⟨_,its,n,r,hl,e⟩:=I.lstM hH
 have fl:∀{m:Nat}{z:V},xs[m]?=some z->zno z=true:=λ{m z} hm=>qK.mp fs z (qBI hm)
 have lk:∀(m:Nat)(hm:m<its.toArray.size),∃z,xs[m]?=some z/\eqU y its.toArray[m]=eqV z y:=λm hm=>by
  have hm':m<xs.length:=by rw[hl];simpa using hm
  obtain⟨w,hw,rw'⟩:=r.get (qD hm')
  refine⟨xs[m],qD hm',?_⟩
  have:its.toArray[m]=w:=by
   have h1:its[m]?=some its.toArray[m]:=by
    rw[qD (by simpa using hm)];simp
   rw[hw]at h1
   exact(qS h1).symm
  rw[this]
  exact zadk rw' (fl (qD hm'))
 have hjx:j<xs.length:=(qT.mp hj).1
 have hjs:j<its.toArray.size:=by rw[qG,<- hl];exact hjx
 refine qAD F.slot_list_index ⟨_,e,rfl⟩ F.entry_list_index (F.args_list_index_2 _ _) (PySem.SeqAt.list_indexAt l its.toArray n none #[] u (eqU y) j hjs (by omega) ?_ ?_) ⟨e,λw hw=>zla ru fy r fs w (by simpa using hw),?_⟩
 ·obtain⟨z',h1,h2⟩:=lk j hjs
  rw[hj]at h1
  cases h1
  rw[h2];exact hz
 ·intro m hm hlt
  obtain⟨z',h1,h2⟩:=lk m hm
  rw[h2];exact hno m z' hlt h1
 ·exact⟨.int j,H,I.tok _,⟨_,rfl⟩,q⟩
noncomputable def zkl(a b:EF):EF:=λenv=>(a env).bind λx=>(b env).bind λy=>match x.d with
 | .list ds=>if zfn y.d=true/\zel ds=true/\ds.length<=100000 then(ds.findIdx? λe=>qAX e y.d).map λ(j:Nat)=>(⟨.int (j:Int),false,[]⟩:Val)else none
 | _=>none
theorem zaau{K:qC}{ta tb:TE}{a b:EF}(h1:SE ta a)(h2:SE tb b):SE (tBM K "list" zajq ta (tCons tb tNil)) (zkl a b):=by
 intro fx H0 env σ H h rr hr Q q
 unfold zkl at hr
 obtain⟨⟨xd,xf,xb⟩,ex,hr⟩:=qA.mp hr
 obtain⟨⟨yd,yf,yb⟩,ey,hr⟩:=qA.mp hr
 cases xd with
 | list ds=>
  have hr:(if zfn yd=true/\zel ds=true/\ds.length<=100000 then(ds.findIdx? λe=>qAX e yd).map λ(j:Nat)=>(⟨.int (j:Int),false,[]⟩:Val)else none)=some rr:=hr
  split at hr
  ·rename_i hf
   obtain⟨j,ej,rfl⟩:=qI.mp hr
   refine h1 fx H0 env σ H h _ ex _ λv H1 s1 v1=>?_
   obtain⟨p,xs,rfl,hp,rx⟩:=zdt v1.rp
   have hp:=zdl hp
   refine⟨.inl ⟨rfl,_,SqL.of hp⟩,h2 fx H0 env σ H1 (h.up s1) _ ey _ λu H2 s2 v2=>?_⟩
   have ru:=Rp.same (Offs.same _ _) _ v2.rp
   have rx2:=Rps.same ((Offs.same _ _).trans s2) _ rx
   obtain⟨hj,hhit,hno⟩:=List.findIdx?_eq_some_iff_getElem.mp ej
   have hjx:j<xs.length:=by rw[<- rx.length];exact hj
   have at_:∀(m:Nat)(hm:m<ds.length)(z:V),xs[m]?=some z->eqV z u=qAX ds[m] yd:=λm hm z hz=>by
    obtain⟨d',hd',rz⟩:=rx2.get hz
    rw[qD hm]at hd'
    cases hd'
    exact zaej (qK.mp hf.2.1 _ (qAR hm)) hf.1 rz ru
   refine⟨p,xs,u,j,xs[j],rfl,rfl,s2 _ _ hp,zaeh hf.1 ru,zaei hf.2.1 rx2,qD hjx,?_,λm z hm hz=>?_,by omega,q _ H2 (s1.trans s2) ⟨zab,λz=>by cases z⟩⟩
   ·rw[at_ j hj _ (qD hjx)];exact hhit
   ·have hml:m<ds.length:=by omega
    rw[at_ m hml z hz]
    have:=hno m hm
    simpa using this
  ·cases hr
 | _=>cases hr
noncomputable def zafk(i j:Nat):SF:=λenv=>match env[j]? with
 | some (.ac (.list ds))=>ds.getLast?.bind λa=>if zfn a=true then some (.nx ((env.set j (.ac (.list ds.dropLast))).set i (.pl a)))else none
 | _=>none
theorem zaik{J:Nat->Prop}{K:qC}{i j:Nat}(hJ:¬J i):SSk J (tAsg (tBM0 K "list" rPop (tVar j)) (gName i)) (zafk i j):=by
 intro fx H0 env σ H D h o e q
 unfold zafk at e
 split at e
 ·rename_i ds ej
  obtain⟨a,ea,e⟩:=qA.mp e
  split at e
  ·rename_i fl
   cases e
   obtain⟨p,xs,v,g1,hx,hv,rv,h1⟩:=h.popped ej ea
   refine⟨_,g1,.inl ⟨rfl,_,SqL.of hx⟩,p,xs,v,rfl,rfl,hx,hv,?_⟩
   exact q _ _ (h1.put (r:=⟨a,false,[]⟩) (Same.refl _) ⟨zyi fl rv,λz=>by cases z⟩ i) λk hk=>qb λz=>hJ (by rw[z];exact hk)
  ·cases e
 ·cases e
end L2
namespace PySem.SeqAt
open AutoSeq1 (wpAny_loadPart')
open MeetsSeq PyProof.Rows
section
variable{A:Around}{s:Shared}
noncomputable abbrev dO(dd:Option Addr)(es:Array DictEntry)(n:Nat)(sl:Array (Option Value)):Obj:={cls:=.type "dict",dict:=dd,data:=.dict es n,slots:=sl}
noncomputable abbrev qO(T:String)(dd:Option Addr)(items:Array Value)(n:Nat)(sl:Array (Option Value)):Obj:={cls:=.type T,dict:=dd,data:=.seq items n,slots:=sl}
theorem zkm (l:Addr) (es:Array DictEntry) (n:Nat) (dd:Option Addr) (sl:Array (Option Value))  :
  Meets (Builtin.«dict.__eq__» ⟨[.ref l,.none],[]⟩) (λ_ R s=>s.heap.get? l=some (dO dd es n sl)/\R (.ok (.ret .notImplemented)) s):=
 .of_wp λprog w A R s h=>by
  obtain⟨hp,g,d,tk,os⟩:=s
  obtain⟨hl,h⟩:=h
  have f1:=F.sub_NoneType_dict
  wp_walk using qr hl
  exact⟨_,rfl,h⟩
theorem zkn(l:Addr)(es:Array DictEntry)(n:Nat)(dd:Option Addr)(sl:Array (Option Value))(b:Bool) :
  Meets (Builtin.«dict.__eq__» ⟨[.ref l,(.bool b)],[]⟩) (λ_ R s=>s.heap.get? l=some (dO dd es n sl)/\R (.ok (.ret .notImplemented)) s):=
 .of_wp λprog w A R s h=>by
  obtain⟨hp,g,d,tk,os⟩:=s
  obtain⟨hl,h⟩:=h
  have f1:=F.sub_bool_dict
  wp_walk using qr hl
  exact⟨_,rfl,h⟩
theorem zlt(l:Addr)(es:Array DictEntry)(n:Nat)(dd:Option Addr)(sl:Array (Option Value))(b:Int)(u:Tok) :
  Meets (Builtin.«dict.__eq__» ⟨[.ref l,(.int b u)],[]⟩) (λ_ R s=>s.heap.get? l=some (dO dd es n sl)/\R (.ok (.ret .notImplemented)) s):=
 .of_wp λprog w A R s h=>by
  obtain⟨hp,g,d,tk,os⟩:=s
  obtain⟨hl,h⟩:=h
  have f1:=F.sub_int_dict
  wp_walk using qr hl
  exact⟨_,rfl,h⟩
theorem zhp(b:Bool)(l:Addr)(es:Array DictEntry)(n:Nat)(dd:Option Addr)(sl:Array (Option Value)) :
  Meets (Builtin.«int.__eq__» ⟨[(.bool b),.ref l],[]⟩) (λ_ R s=>s.heap.get? l=some (dO dd es n sl)/\R (.ok (.ret .notImplemented)) s):=
 .of_wp λprog w A R s h=>by
  obtain⟨hp,g,d,tk,os⟩:=s
  obtain⟨hl,h⟩:=h
  wp_walk using qr hl,qCu hl
  exact⟨_,rfl,h⟩
theorem zhz(b:Int)(u:Tok)(l:Addr)(es:Array DictEntry)(n:Nat)(dd:Option Addr)(sl:Array (Option Value)) :
  Meets (Builtin.«int.__eq__» ⟨[(.int b u),.ref l],[]⟩) (λ_ R s=>s.heap.get? l=some (dO dd es n sl)/\R (.ok (.ret .notImplemented)) s):=
 .of_wp λprog w A R s h=>by
  obtain⟨hp,g,d,tk,os⟩:=s
  obtain⟨hl,h⟩:=h
  wp_walk using qr hl,qCu hl
  exact⟨_,rfl,h⟩
theorem zko(l b:Addr)(es:Array DictEntry)(items2:Array Value)(n n2:Nat)(dd dd2:Option Addr)(sl sl2:Array (Option Value)) :
  Meets (Builtin.«dict.__eq__» ⟨[.ref l,.ref b],[]⟩) (λ_ R s=>s.heap.get? l=some (dO dd es n sl)/\s.heap.get? b=some (qO "list" dd2 items2 n2 sl2)/\R (.ok (.ret .notImplemented)) s):=
 .of_wp λprog w A R s h=>by obtain⟨hp,g,d,tk,os⟩:=s;obtain⟨hl,hb,h⟩:=h;have f1:=F.sub_list_dict;wp_walk using qr hl,qr hb;exact⟨_,rfl,h⟩
theorem zkp(l b:Addr)(es:Array DictEntry)(items:Array Value)(n n2:Nat)(dd dd2:Option Addr)(sl sl2:Array (Option Value)) :
  Meets (Builtin.«list.__eq__» ⟨[.ref l,.ref b],[]⟩) (λ_ R s=>s.heap.get? l=some (qO "list" dd items n sl)/\s.heap.get? b=some (dO dd2 es n2 sl2)/\R (.ok (.ret .notImplemented)) s):=
 .of_wp λprog w A R s h=>by obtain⟨hp,g,d,tk,os⟩:=s;obtain⟨hl,hb,h⟩:=h;have f1:=F.sub_dict_list;wp_walk using qr hl,qr hb;exact⟨_,rfl,h⟩
theorem zjp(l b:Addr)(es:Array DictEntry)(items2:Array Value)(n n2:Nat)(dd dd2:Option Addr)(sl sl2:Array (Option Value)) :
  Meets (Builtin.«dict.__eq__» ⟨[.ref l,.ref b],[]⟩) (λ_ R s=>s.heap.get? l=some (dO dd es n sl)/\s.heap.get? b=some (qO "tuple" dd2 items2 n2 sl2)/\R (.ok (.ret .notImplemented)) s):=
 .of_wp λprog w A R s h=>by obtain⟨hp,g,d,tk,os⟩:=s;obtain⟨hl,hb,h⟩:=h;have f1:=F.sub_tuple_dict;wp_walk using qr hl,qr hb;exact⟨_,rfl,h⟩
theorem zjq(l b:Addr)(es:Array DictEntry)(items:Array Value)(n n2:Nat)(dd dd2:Option Addr)(sl sl2:Array (Option Value)) :
  Meets (Builtin.«tuple.__eq__» ⟨[.ref l,.ref b],[]⟩) (λ_ R s=>s.heap.get? l=some (qO "tuple" dd items n sl)/\s.heap.get? b=some (dO dd2 es n2 sl2)/\R (.ok (.ret .notImplemented)) s):=
 .of_wp λprog w A R s h=>by obtain⟨hp,g,d,tk,os⟩:=s;obtain⟨hl,hb,h⟩:=h;have f1:=F.sub_dict_tuple;wp_walk using qr hl,qr hb;exact⟨_,rfl,h⟩
end
end PySem.SeqAt
namespace PySem.SeqAt
open AutoSeq1 (wpAny_loadPart')
open MeetsSeq PyProof.Rows PySem.W PySem.Calls PySem.Spec
section
variable{A:Around}{s:Shared}
theorem zwf {l:Addr} {es:Array DictEntry} {n:Nat} {dd:Option Addr} {sl:Array (Option Value)}  (ho:s.heap.get? l=some (dO dd es n sl)) (hu:A.units<cLine):RcAt A s (.ref l) .none false:=λprog w E Q h=>
 rc_eq_decline_or (k:=false) ⟨_,ho,rfl⟩ rfl (by decide) F.sub_NoneType_dict qAW qCs
  (λ_ hq=>qAD qAW ⟨_,ho,rfl⟩ qAS (qAP _ _) (zkm l es n dd sl ) ⟨ho,hq⟩)
  (λ_ hq=>call_gives qCs rfl F.entry_NoneType_eq (F.args_NoneType_eq_2 _ _) (NoneType___eq___none_ref_0 l) hq)
  (λ_ hq=>qA0 (rfl:isSame (.ref l) .none=pure false) hq) (.inr hu) h
theorem zwg {l:Addr} {es:Array DictEntry} {n:Nat} {dd:Option Addr} {sl:Array (Option Value)}  (ho:s.heap.get? l=some (dO dd es n sl)) (hu:A.units<cLine):RcAt A s .none (.ref l) false:=λprog w E Q h=>
 rc_eq_decline_or (k:=false) rfl ⟨_,ho,rfl⟩ (by decide) F.sub_dict_NoneType F.slot_NoneType_eq qAG
  (λ_ hq=>call_gives F.slot_NoneType_eq rfl F.entry_NoneType_eq (F.args_NoneType_eq_2 _ _) (NoneType___eq___none_ref_0 l) hq)
  (λ_ hq=>qAD qAG ⟨_,ho,rfl⟩ qAS (qAP _ _) (zkm l es n dd sl ) ⟨ho,hq⟩)
  (λ_ hq=>qA0 (rfl:isSame .none (.ref l)=pure false) hq) (.inr hu) h
theorem zwh {l:Addr} {es:Array DictEntry} {n:Nat} {dd:Option Addr} {sl:Array (Option Value)}  (ho:s.heap.get? l=some (dO dd es n sl)) (hu:A.units<cLine):EqAt A s (.ref l) .none false:=λprog w E Q h=>by
 unfold eqBool
 refine qAI (qAo (λhab=>absurd (eq_of_beq hab) nofun) (λ_=>?_))
 exact qB (zwf  ho hu prog w E _ (qAC h))
theorem zwi {l:Addr} {es:Array DictEntry} {n:Nat} {dd:Option Addr} {sl:Array (Option Value)}  (ho:s.heap.get? l=some (dO dd es n sl)) (hu:A.units<cLine):EqAt A s .none (.ref l) false:=λprog w E Q h=>by
 unfold eqBool
 refine qAI (qAo (λhab=>absurd (eq_of_beq hab) nofun) (λ_=>?_))
 exact qB (zwg  ho hu prog w E _ (qAC h))
theorem zwj{l:Addr}{es:Array DictEntry}{n:Nat}{dd:Option Addr}{sl:Array (Option Value)}(b:Bool)(ho:s.heap.get? l=some (dO dd es n sl))(hu:A.units<cLine):RcAt A s (.ref l) (.bool b) false:=λprog w E Q h=>
 rc_eq_decline_or (k:=false) ⟨_,ho,rfl⟩ rfl (by decide) F.sub_bool_dict qAW F.slot_bool_eq_refl
  (λ_ hq=>qAD qAW ⟨_,ho,rfl⟩ qAS (qAP _ _) (zkn l es n dd sl b) ⟨ho,hq⟩)
  (λ_ hq=>qAD F.slot_bool_eq_refl rfl qBz (qBs _ _) (zhp b l es n dd sl) ⟨ho,hq⟩)
  (λ_ hq=>qA0 (rfl:isSame (.ref l) (.bool b)=pure false) hq) (.inr hu) h
theorem zwk{l:Addr}{es:Array DictEntry}{n:Nat}{dd:Option Addr}{sl:Array (Option Value)}(b:Bool)(ho:s.heap.get? l=some (dO dd es n sl))(hu:A.units<cLine):RcAt A s (.bool b) (.ref l) false:=λprog w E Q h=>
 rc_eq_decline_or (k:=false) rfl ⟨_,ho,rfl⟩ (by decide) F.sub_dict_bool F.slot_bool_eq qAG
  (λ_ hq=>qAD F.slot_bool_eq rfl qBz (qBs _ _) (zhp b l es n dd sl) ⟨ho,hq⟩)
  (λ_ hq=>qAD qAG ⟨_,ho,rfl⟩ qAS (qAP _ _) (zkn l es n dd sl b) ⟨ho,hq⟩)
  (λ_ hq=>qA0 (rfl:isSame (.bool b) (.ref l)=pure false) hq) (.inr hu) h
theorem zwl{l:Addr}{es:Array DictEntry}{n:Nat}{dd:Option Addr}{sl:Array (Option Value)}(b:Bool)(ho:s.heap.get? l=some (dO dd es n sl))(hu:A.units<cLine):EqAt A s (.ref l) (.bool b) false:=λprog w E Q h=>by
 unfold eqBool
 refine qAI (qAo (λhab=>absurd (eq_of_beq hab) nofun) (λ_=>?_))
 exact qB (zwj b ho hu prog w E _ (qAC h))
theorem zwm{l:Addr}{es:Array DictEntry}{n:Nat}{dd:Option Addr}{sl:Array (Option Value)}(b:Bool)(ho:s.heap.get? l=some (dO dd es n sl))(hu:A.units<cLine):EqAt A s (.bool b) (.ref l) false:=λprog w E Q h=>by
 unfold eqBool
 refine qAI (qAo (λhab=>absurd (eq_of_beq hab) nofun) (λ_=>?_))
 exact qB (zwk b ho hu prog w E _ (qAC h))
theorem zyz{l:Addr}{es:Array DictEntry}{n:Nat}{dd:Option Addr}{sl:Array (Option Value)}(b:Int)(u:Tok)(ho:s.heap.get? l=some (dO dd es n sl))(hu:A.units<cLine):RcAt A s (.ref l) (.int b u) false:=λprog w E Q h=>
 rc_eq_decline_or (k:=false) ⟨_,ho,rfl⟩ rfl (by decide) F.sub_int_dict qAW F.slot_int_eq_refl
  (λ_ hq=>qAD qAW ⟨_,ho,rfl⟩ qAS (qAP _ _) (zlt l es n dd sl b u) ⟨ho,hq⟩)
  (λ_ hq=>qAD F.slot_int_eq_refl rfl qBz (qBs _ _) (zhz b u l es n dd sl) ⟨ho,hq⟩)
  (λ_ hq=>qA0 (rfl:isSame (.ref l) (.int b u)=pure false) hq) (.inr hu) h
theorem zza{l:Addr}{es:Array DictEntry}{n:Nat}{dd:Option Addr}{sl:Array (Option Value)}(b:Int)(u:Tok)(ho:s.heap.get? l=some (dO dd es n sl))(hu:A.units<cLine):RcAt A s (.int b u) (.ref l) false:=λprog w E Q h=>
 rc_eq_decline_or (k:=false) rfl ⟨_,ho,rfl⟩ (by decide) F.sub_dict_int F.slot_int_eq qAG
  (λ_ hq=>qAD F.slot_int_eq rfl qBz (qBs _ _) (zhz b u l es n dd sl) ⟨ho,hq⟩)
  (λ_ hq=>qAD qAG ⟨_,ho,rfl⟩ qAS (qAP _ _) (zlt l es n dd sl b u) ⟨ho,hq⟩)
  (λ_ hq=>qA0 (rfl:isSame (.int b u) (.ref l)=pure false) hq) (.inr hu) h
theorem zzb{l:Addr}{es:Array DictEntry}{n:Nat}{dd:Option Addr}{sl:Array (Option Value)}(b:Int)(u:Tok)(ho:s.heap.get? l=some (dO dd es n sl))(hu:A.units<cLine):EqAt A s (.ref l) (.int b u) false:=λprog w E Q h=>by
 unfold eqBool
 refine qAI (qAo (λhab=>absurd (eq_of_beq hab) nofun) (λ_=>?_))
 exact qB (zyz b u ho hu prog w E _ (qAC h))
theorem zzc{l:Addr}{es:Array DictEntry}{n:Nat}{dd:Option Addr}{sl:Array (Option Value)}(b:Int)(u:Tok)(ho:s.heap.get? l=some (dO dd es n sl))(hu:A.units<cLine):EqAt A s (.int b u) (.ref l) false:=λprog w E Q h=>by
 unfold eqBool
 refine qAI (qAo (λhab=>absurd (eq_of_beq hab) nofun) (λ_=>?_))
 exact qB (zza b u ho hu prog w E _ (qAC h))
theorem zwn{l b:Addr}{es:Array DictEntry}{items:Array Value}{n n2:Nat}{dd dd2:Option Addr}{sl sl2:Array (Option Value)}(ho:s.heap.get? l=some (dO dd es n sl))(hb:s.heap.get? b=some (qO "list" dd2 items n2 sl2))(hu:A.units<cLine):RcAt A s (.ref l) (.ref b) false:=λprog w E Q h=>by
 have hne:l≠b:=λe=>by subst e;rw[ho]at hb;simp[dO,qO]at hb
 exact rc_eq_decline_or (k:=false) ⟨_,ho,rfl⟩ ⟨_,hb,rfl⟩ (by decide) F.sub_list_dict qAW F.slot_list_eq_refl
  (λ_ hq=>qAD qAW ⟨_,ho,rfl⟩ qAS (qAP _ _) (zko l b es items n n2 dd dd2 sl sl2) ⟨ho,hb,hq⟩)
  (λ_ hq=>qAD F.slot_list_eq_refl ⟨_,hb,rfl⟩ F.entry_list_eq (F.args_list_eq_2 _ _) (zkp b l es items n2 n dd2 dd sl2 sl) ⟨hb,ho,hq⟩)
  (λ_ hq=>wpAny_isSame_ref_other' hne ho hb (by simp) hq) (.inr hu) h
theorem zwo{l b:Addr}{es:Array DictEntry}{items:Array Value}{n n2:Nat}{dd dd2:Option Addr}{sl sl2:Array (Option Value)}(ho:s.heap.get? l=some (dO dd es n sl))(hb:s.heap.get? b=some (qO "list" dd2 items n2 sl2))(hu:A.units<cLine):RcAt A s (.ref b) (.ref l) false:=λprog w E Q h=>by
 have hne:b≠l:=λe=>by subst e;rw[ho]at hb;simp[dO,qO]at hb
 exact rc_eq_decline_or (k:=false) ⟨_,hb,rfl⟩ ⟨_,ho,rfl⟩ (by decide) F.sub_dict_list F.slot_list_eq qAG
  (λ_ hq=>qAD F.slot_list_eq ⟨_,hb,rfl⟩ F.entry_list_eq (F.args_list_eq_2 _ _) (zkp b l es items n2 n dd2 dd sl2 sl) ⟨hb,ho,hq⟩)
  (λ_ hq=>qAD qAG ⟨_,ho,rfl⟩ qAS (qAP _ _) (zko l b es items n n2 dd dd2 sl sl2) ⟨ho,hb,hq⟩)
  (λ_ hq=>wpAny_isSame_ref_other' hne hb ho (by simp) hq) (.inr hu) h
theorem zwp{l b:Addr}{es:Array DictEntry}{items:Array Value}{n n2:Nat}{dd dd2:Option Addr}{sl sl2:Array (Option Value)}(ho:s.heap.get? l=some (dO dd es n sl))(hb:s.heap.get? b=some (qO "list" dd2 items n2 sl2))(hu:A.units<cLine):EqAt A s (.ref l) (.ref b) false:=.of_refs (λe=>by subst e;rw[ho]at hb;simp[dO,qO]at hb) (zwn ho hb hu)
theorem zwq{l b:Addr}{es:Array DictEntry}{items:Array Value}{n n2:Nat}{dd dd2:Option Addr}{sl sl2:Array (Option Value)}(ho:s.heap.get? l=some (dO dd es n sl))(hb:s.heap.get? b=some (qO "list" dd2 items n2 sl2))(hu:A.units<cLine):EqAt A s (.ref b) (.ref l) false:=.of_refs (λe=>by subst e;rw[ho]at hb;simp[dO,qO]at hb) (zwo ho hb hu)
theorem zud{l b:Addr}{es:Array DictEntry}{items:Array Value}{n n2:Nat}{dd dd2:Option Addr}{sl sl2:Array (Option Value)}(ho:s.heap.get? l=some (dO dd es n sl))(hb:s.heap.get? b=some (qO "tuple" dd2 items n2 sl2))(hu:A.units<cLine):RcAt A s (.ref l) (.ref b) false:=λprog w E Q h=>by
 have hne:l≠b:=λe=>by subst e;rw[ho]at hb;simp[dO,qO]at hb
 exact rc_eq_decline_or (k:=false) ⟨_,ho,rfl⟩ ⟨_,hb,rfl⟩ (by decide) F.sub_tuple_dict qAW F.slot_tuple_eq_refl
  (λ_ hq=>qAD qAW ⟨_,ho,rfl⟩ qAS (qAP _ _) (zjp l b es items n n2 dd dd2 sl sl2) ⟨ho,hb,hq⟩)
  (λ_ hq=>qAD F.slot_tuple_eq_refl ⟨_,hb,rfl⟩ F.entry_tuple_eq (F.args_tuple_eq_2 _ _) (zjq b l es items n2 n dd2 dd sl2 sl) ⟨hb,ho,hq⟩)
  (λ_ hq=>wpAny_isSame_ref_other hne ho hb (by simp) hq) (.inr hu) h
theorem zue{l b:Addr}{es:Array DictEntry}{items:Array Value}{n n2:Nat}{dd dd2:Option Addr}{sl sl2:Array (Option Value)}(ho:s.heap.get? l=some (dO dd es n sl))(hb:s.heap.get? b=some (qO "tuple" dd2 items n2 sl2))(hu:A.units<cLine):RcAt A s (.ref b) (.ref l) false:=λprog w E Q h=>by
 have hne:b≠l:=λe=>by subst e;rw[ho]at hb;simp[dO,qO]at hb
 exact rc_eq_decline_or (k:=false) ⟨_,hb,rfl⟩ ⟨_,ho,rfl⟩ (by decide) F.sub_dict_tuple F.slot_tuple_eq qAG
  (λ_ hq=>qAD F.slot_tuple_eq ⟨_,hb,rfl⟩ F.entry_tuple_eq (F.args_tuple_eq_2 _ _) (zjq b l es items n2 n dd2 dd sl2 sl) ⟨hb,ho,hq⟩)
  (λ_ hq=>qAD qAG ⟨_,ho,rfl⟩ qAS (qAP _ _) (zjp l b es items n n2 dd dd2 sl sl2) ⟨ho,hb,hq⟩)
  (λ_ hq=>wpAny_isSame_ref_other' hne hb ho (by simp) hq) (.inr hu) h
theorem zuf{l b:Addr}{es:Array DictEntry}{items:Array Value}{n n2:Nat}{dd dd2:Option Addr}{sl sl2:Array (Option Value)}(ho:s.heap.get? l=some (dO dd es n sl))(hb:s.heap.get? b=some (qO "tuple" dd2 items n2 sl2))(hu:A.units<cLine):EqAt A s (.ref l) (.ref b) false:=.of_refs (λe=>by subst e;rw[ho]at hb;simp[dO,qO]at hb) (zud ho hb hu)
theorem zug{l b:Addr}{es:Array DictEntry}{items:Array Value}{n n2:Nat}{dd dd2:Option Addr}{sl sl2:Array (Option Value)}(ho:s.heap.get? l=some (dO dd es n sl))(hb:s.heap.get? b=some (qO "tuple" dd2 items n2 sl2))(hu:A.units<cLine):EqAt A s (.ref b) (.ref l) false:=.of_refs (λe=>by subst e;rw[ho]at hb;simp[dO,qO]at hb) (zue ho hb hu)
theorem zpy{l b:Addr}{es es':Array DictEntry}{n n2:Nat}{dd dd2:Option Addr}{sl sl2:Array (Option Value)}{r:Bool}(ho:s.heap.get? l=some (dO dd es n sl))(hb:s.heap.get? b=some (dO dd2 es' n2 sl2))(hu:A.units<cLine)
  (hp:∀(prog:Program) (w:World) (E:Value->Shared->Prop) (Q:Bool->Shared->Prop),Q r s->wpAny (model prog w) A.in1 (Builtin.Dict.samePairs "dict.__eq__" l b) Q E s):RcAt A s (.ref l) (.ref b) r:=λprog w E Q h=>by
 have ta:s.TypeIs (.ref l) "dict":=⟨_,ho,rfl⟩
 have tb:s.TypeIs (.ref b) "dict":=⟨_,hb,rfl⟩
 refine qCZ (op:=.Eq) ta tb qCU (qAw qCU ta PySem.F.entry_dict_eq ?_ (PySem.F.args_dict_eq_2 _ _)) hu
 show wpAny _ _ (Builtin.Dict.dictSlotArgs "__eq__" ⟨[.ref l,.ref b],[]⟩ >>=_) _ _ s
 refine qB ?_
 unfold Builtin.Dict.dictSlotArgs
 refine qB (wpAny_notOrdered_dict ta ?_)
 show wpAny _ _ (pure (Value.ref l,Value.ref b)) _ _ s
 refine qH ?_
 refine qB (qA2 (T:="dict") tb qCR ?_)
 simp only[qCX,qAu,if_false]
 refine qB (qH (qB (qH ?_)))
 refine qB (hp prog w _ _ ?_)
 refine qH ⟨_,rfl,?_,?_⟩
 ·exact λx=>nomatch x
 ·simpa using h
theorem zsq{l b:Addr}{es es':Array DictEntry}{n n2:Nat}{dd dd2:Option Addr}{sl sl2:Array (Option Value)}(ha:(l==sysModules)=false)(hb':(b==sysModules)=false)(ho:s.heap.get? l=some (dO dd es n sl))(hb:s.heap.get? b=some (dO dd2 es' n2 sl2))(hsz:es.size≠es'.size)
  (prog:Program) (w:World) (E:Value->Shared->Prop) (Q:Bool->Shared->Prop) (h:Q false s):wpAny (model prog w) A (Builtin.Dict.samePairs "dict.__eq__" l b) Q E s:=by
 unfold Builtin.Dict.samePairs Builtin.Dict.showsAll
 rw[if_neg (show ¬(l==sysModules)=true by rw[ha];exact qJ),if_neg (show ¬(b==sysModules)=true by rw[hb'];exact qJ)]
 refine qB (qH (qB (qH ?_)))
 refine qB (qAj ho rfl ?_)
 dsimp only
 refine qB (qAj hb rfl ?_)
 rw[if_pos (by simpa using hsz)]
 exact qB (qCt (qH h))
theorem zqu{nm:String}{l b:Addr}{n n2:Nat}{dd dd2:Option Addr}{sl sl2:Array (Option Value)}(ha:(l==sysModules)=false)(hb':(b==sysModules)=false)(ho:s.heap.get? l=some (dO dd #[] n sl))(hb:s.heap.get? b=some (dO dd2 #[] n2 sl2))
  (prog:Program) (w:World) (E:Value->Shared->Prop) (Q:Bool->Shared->Prop) (h:Q true s):wpAny (model prog w) A (Builtin.Dict.samePairs nm l b) Q E s:=by
 unfold Builtin.Dict.samePairs Builtin.Dict.showsAll
 rw[if_neg (show ¬(l==sysModules)=true by rw[ha];exact qJ),if_neg (show ¬(b==sysModules)=true by rw[hb'];exact qJ)]
 refine qB (qH (qB (qH ?_)))
 refine qB (qAj ho rfl ?_)
 dsimp only
 refine qB (qAj hb rfl ?_)
 rw[if_neg (by simp)]
 refine qB (qCb ho rfl ?_)
 refine qB ?_
 rw[qBN]
 simp[Std.Legacy.Range.size]
 exact qH (qH h)
theorem zabv{l b:Addr}{n n2:Nat}{dd dd2:Option Addr}{sl sl2:Array (Option Value)}(ha:(l==sysModules)=false)(hb':(b==sysModules)=false)(ho:s.heap.get? l=some (dO dd #[] n sl))(hb:s.heap.get? b=some (dO dd2 #[] n2 sl2))
  (prog:Program) (w:World) (E:Value->Shared->Prop) (Q:Bool->Shared->Prop) (h:Q true s):wpAny (model prog w) A (Builtin.Dict.samePairs "dict.__eq__" l b) Q E s:=zqu ha hb' ho hb prog w E Q h
theorem zail{l b:Addr}{h1 h2:Int}{k k':Str}{t t':Tok}{v v':Value}{n n2:Nat}{dd dd2:Option Addr}{sl sl2:Array (Option Value)}{r:Bool}(ha:(l==sysModules)=false)(hb':(b==sysModules)=false)
  (ho:s.heap.get? l=some (dO dd #[⟨h1,.str k t,v⟩] n sl))(hb:s.heap.get? b=some (dO dd2 #[⟨h2,.str k' t',v'⟩] n2 sl2))(hk:k=k')(hv:EqAt A s v v' r)
  (prog:Program) (w:World) (E:Value->Shared->Prop) (Q:Bool->Shared->Prop) (h:Q r s):wpAny (model prog w) A (Builtin.Dict.samePairs "dict.__eq__" l b) Q E s:=by
 subst hk
 unfold Builtin.Dict.samePairs Builtin.Dict.showsAll
 rw[if_neg (show ¬(l==sysModules)=true by rw[ha];exact qJ),if_neg (show ¬(b==sysModules)=true by rw[hb'];exact qJ)]
 refine qB (qH (qB (qH ?_)))
 refine qB (qAj ho rfl ?_)
 dsimp only
 refine qB (qAj hb rfl ?_)
 rw[if_neg (by simp)]
 refine qB (qCb ho rfl ?_)
 refine qB ?_
 rw[qBN]
 refine wpAny_forIn_list _ (λrest q s'=>s'=s/\q=(none,())/\((rest=[0]/\Q r s)\/(rest=[]/\Q true s))) _ ?_ ?_ _ _ ⟨rfl,rfl,.inl ⟨by simp[Std.Legacy.Range.size],h⟩⟩
 ·rintro x rest q s' ⟨rfl,rfl,⟨hr,hq⟩|⟨hr,_⟩⟩
  ·cases hr
   refine qB (qAj ho rfl ?_)
   show wpAny _ _ (holding [Value.str k t,v] _ >>=_) _ _ _
   refine qB (qAI (qB (_root_.PyProof.Rows.KTD.kt_dictFind_strs hb rfl (by simp[isExactStrKey]) ?_)))
   have hf:(#[⟨h2,.str k t',v'⟩]:Array DictEntry).findIdx? (λe=>e.key.isStr k)=some 0:=by simp[Value.isStr]
   rw[hf]
   refine qB (qAj hb rfl ?_)
   show wpAny _ _ (holding [v'] (eqBool v v')) _ _ _
   refine qAI (hv prog w _ _ ?_)
   cases r with
   | false=>
    show wpAny _ _ (if(!false)=true then _ else _) _ _ _
    rw[if_pos (by decide)]
    exact qH (qH hq)
   | true=>
    show wpAny _ _ (if(!true)=true then _ else _) _ _ _
    rw[if_neg (by decide)]
    refine qB (qCb ho rfl ?_)
    rw[if_neg (by simp)]
    exact qH ⟨rfl,rfl,.inr ⟨rfl,hq⟩⟩
  ·cases hr
 ·rintro q s' ⟨rfl,rfl,⟨hr,_⟩|⟨_,hq⟩⟩
  ·cases hr
  ·exact qH hq
end
end PySem.SeqAt
namespace L2
open PySem PySem.Spec PyProof.Rows PySem.SeqAt
noncomputable def eqL(f:PyData->PyData->Bool):List PyData->List PyData->Bool
 | [],[]=>true
 | x::xs,y::ys=>f x y&&eqL f xs ys
 | _,_=>false
noncomputable def eqJ:Nat->PyData->PyData->Bool
 | 0,_,_=>false
 | n+1,.list xs,.list ys=>eqL (eqJ n) xs ys
 | n+1,.tuple xs,.tuple ys=>eqL (eqJ n) xs ys
 | _+1,.dict [],.dict []=>true
 | n+1,.dict [(.str _,v)],.dict [(.str _,v')]=>eqJ n v v'
 | _+1,.none,.none=>true
 | _+1,.bool a,.bool b=>a==b
 | _+1,.bool a,.int j=>(if a then 1 else 0)==j
 | _+1,.int i,.bool b=>i==(if b then 1 else 0)
 | _+1,.int i,.int j=>i==j
 | _+1,.str x,.str y=>x==y
 | _+1,_,_=>false
noncomputable def jok:Nat->PyData->Bool
 | 0,_=>false
 | n+1,.list xs=>xs.all (jok n)
 | n+1,.tuple xs=>xs.all (jok n)
 | _+1,.dict []=>true
 | n+1,.dict [(.str k,v)]=>(k=="a")&&jok n v
 | _+1,.dict _=>false
 | _+1,_=>true
section
variable{P:Program}{w:World}{H:Hp}{s:Shared}
theorem zjr(ok:HOk P w H s.heap){ds:List PyData}{x:V}{v:Value}(r:Rp H (.list ds) x)(rv:RelV x v):∃l its n xs,v=.ref l/\s.heap.get? l=some (qO "list" none its.toArray n #[])/\Rps H ds xs/\Vals xs its/\x=.ref l/\H l=some (.lst xs):=by
 obtain⟨a,xs,rfl,hx,rx⟩:=zdt r
 cases rv
 obtain⟨_,its,n,r,e⟩:=(show zfb P w H s.heap a (.lst xs)from ok a _ hx)
 exact⟨a,its,n,xs,rfl,e,rx,r,rfl,hx⟩
theorem zpg(ok:HOk P w H s.heap){ds:List PyData}{x:V}{v:Value}(r:Rp H (.tuple ds) x)(rv:RelV x v):∃l its n dd sl xs,v=.ref l/\s.heap.get? l=some (qO "tuple" dd its.toArray n sl)/\Rps H ds xs/\Vals xs its/\x=.ref l/\H l=some (.tup xs):=by
 obtain⟨a,xs,rfl,hx,rx⟩:=zde r
 cases rv
 obtain⟨_,its,r,⟨cls,dd,data,sl⟩,e,hc,n,hd⟩:=(show zfb P w H s.heap a (.tup xs)from ok a _ hx)
 simp only at hc hd
 subst hc hd
 exact⟨a,its,n,dd,sl,xs,rfl,e,rx,r,rfl,hx⟩
theorem zlu(ok:HOk P w H s.heap){ps:List (PyData×PyData)}{x:V}{v:Value}(r:Rp H (.dict ps) x)(rv:RelV x v):∃l es n dd sl kvs vs,v=.ref l/\(l==sysModules)=false/\s.heap.get? l=some (dO dd es n sl)/\Rpd H ps kvs/\KV kvs vs/\PySem.Pairs (zbs P w) es.toList vs/\x=.ref l/\H l=some (.dK kvs):=by
 unfold Rp at r
 obtain⟨a,kvs,rfl,hx,rx⟩:=r
 cases rv
 obtain⟨_,hm,vs,r,⟨cls,dd,data,sl⟩,es,ep,e,hc,hd,_,hp,_⟩:=(show zfb P w H s.heap a (.dK kvs)from ok a _ hx)
 simp only at hd
 subst hd
 have hc:cls=.type "dict":=hc.1
 subst hc
 exact⟨a,es,ep,dd,sl,kvs,vs,rfl,hm,e,rx,r,hp,rfl,hx⟩
theorem zaim{k k2:PyData}{z:Key}(h:keyD k=some z)(h2:keyD k2=some z):k=k2:=by
 cases k<;>cases h<;>cases k2<;>cases h2<;>rfl
mutual
theorem zsr:∀(d:PyData){e:PyData}{x:V},Rp H d x->Rp H e x->d=e
 | .none,e,x,h,k=>by unfold Rp at h;subst h;cases e<;>unfold Rp at k<;>first|rfl|(obtain⟨_,_,z,_⟩:=k;cases z;done)|(cases k;done)
 | .bool b,e,x,h,k=>by unfold Rp at h;subst h;cases e<;>unfold Rp at k<;>first|(cases k;rfl)|(obtain⟨_,_,z,_⟩:=k;cases z;done)|(cases k;done)
 | .int i,e,x,h,k=>by unfold Rp at h;subst h;cases e<;>unfold Rp at k<;>first|(cases k;rfl)|(obtain⟨_,_,z,_⟩:=k;cases z;done)|(cases k;done)
 | .str z,e,x,h,k=>by unfold Rp at h;subst h;cases e<;>unfold Rp at k<;>first|(cases k;rfl)|(obtain⟨_,_,z,_⟩:=k;cases z;done)|(cases k;done)
 | .list ds,e,x,h,k=>by
  unfold Rp at h
  obtain⟨a,xs,rfl,hx,rx⟩:=h
  cases e<;>unfold Rp at k<;>first
   | (obtain⟨_,_,z,hy,ry⟩:=k;cases z;rw[hx]at hy;cases hy;rw[zzd ds rx ry])
   | (obtain⟨_,_,z,hy,ry⟩:=k;cases z;rw[hx]at hy;cases hy;done)
   | (cases k;done)
 | .tuple ds,e,x,h,k=>by
  unfold Rp at h
  obtain⟨a,xs,rfl,hx,rx⟩:=h
  cases e<;>unfold Rp at k<;>first
   | (obtain⟨_,_,z,hy,ry⟩:=k;cases z;rw[hx]at hy;cases hy;rw[zzd ds rx ry])
   | (obtain⟨_,_,z,hy,ry⟩:=k;cases z;rw[hx]at hy;cases hy;done)
   | (cases k;done)
 | .dict ps,e,x,h,k=>by
  unfold Rp at h
  obtain⟨a,xs,rfl,hx,rx⟩:=h
  cases e<;>unfold Rp at k<;>first
   | (obtain⟨_,_,z,hy,ry⟩:=k;cases z;rw[hx]at hy;cases hy;rw[zafl ps rx ry])
   | (obtain⟨_,_,z,hy,ry⟩:=k;cases z;rw[hx]at hy;cases hy;done)
   | (cases k;done)
theorem zzd:∀(ds:List PyData){es:List PyData}{xs:List V},Rps H ds xs->Rps H es xs->ds=es
 | [],es,xs,h,k=>by
  unfold Rps at h
  subst h
  cases es with
  | nil=>rfl
  | cons e es=>unfold Rps at k;obtain⟨_,_,z,_⟩:=k;cases z
 | d::ds,es,xs,h,k=>by
  unfold Rps at h
  obtain⟨v,vs,rfl,h1,h2⟩:=h
  cases es with
  | nil=>unfold Rps at k;cases k
  | cons e es=>unfold Rps at k;obtain⟨_,_,z,k1,k2⟩:=k;cases z;rw[zsr d h1 k1,zzd ds h2 k2]
theorem zafl:∀(ds:List (PyData×PyData)){es:List (PyData×PyData)}{xs:List (Key×V)},Rpd H ds xs->Rpd H es xs->ds=es
 | [],es,xs,h,k=>by
  unfold Rpd at h
  subst h
  cases es with
  | nil=>rfl
  | cons e es=>obtain⟨a,b⟩:=e;unfold Rpd at k;obtain⟨_,_,_,z,_⟩:=k;cases z
 | (k0,d)::ds,es,xs,h,k=>by
  unfold Rpd at h
  obtain⟨k',v,vs,rfl,h0,h1,h2⟩:=h
  cases es with
  | nil=>unfold Rpd at k;cases k
  | cons e es=>
   obtain⟨a,b⟩:=e
   unfold Rpd at k
   obtain⟨_,_,_,z,k0',k1,k2⟩:=k
   cases z
   rw[zaim h0 k0',zsr d h1 k1,zafl ds h2 k2]
end
theorem zuh{f:PyData->PyData->Bool}:∀{l:List PyData},(∀d∈l,f d d=true)->eqL f l l=true
 | [],_=>rfl
 | d::l,h=>by
  show(f d d&&eqL f l l)=true
  rw[h d (qV ..),zuh λe he=>h e (qM _ he)];rfl
theorem zjh:∀(n:Nat)(d:PyData),jok n d=true->eqJ n d d=true
 | 0,_,h=>by cases h
 | n+1,.none,_=>rfl
 | n+1,.bool b,_=>by show(b==b)=true;simp
 | n+1,.int b,_=>by show(b==b)=true;simp
 | n+1,.str b,_=>by show(b==b)=true;simp
 | n+1,.list ds,h=>zuh λd hd=>zjh n d (qK.mp h d hd)
 | n+1,.tuple ds,h=>zuh λd hd=>zjh n d (qK.mp h d hd)
 | n+1,.dict [],_=>rfl
 | n+1,.dict [(.str k,v)],h=>zjh n v (by
  have h:((k=="a")&&jok n v)=true:=h
  rw[qZ]at h
  exact h.2)
theorem zui{f:PyData->PyData->Bool}:∀{l m:List PyData},l.length≠m.length->eqL f l m=false
 | [],[],h=>absurd rfl h
 | [],_::_,_=>rfl
 | _::_,[],_=>rfl
 | d::l,e::m,h=>by
  show(f d e&&eqL f l m)=false
  rw[zui λz=>h (by rw[qv,qv,z]),qBt]
theorem zuj{f:PyData->PyData->Bool}:∀{l m:List PyData},l.length=m.length->eqL f l m=(List.range l.length).all λj=>f (l.getD j .none) (m.getD j .none)
 | [],[],_=>rfl
 | [],_::_,h=>by cases h
 | _::_,[],h=>by cases h
 | d::l,e::m,h=>by
  show(f d e&&eqL f l m)=_
  rw[zuj (Nat.succ.inj h),qv,List.range_succ_eq_map,qAm,qBm]
  rfl
end
section
variable{P:Program}{w:World}{H:Hp}{s:Shared}
theorem zfo{l:Addr}{its:List Value}{n:Nat}{dd:Option Addr}{sl:Array (Option Value)}(h:s.heap.get? l=some (qO "list" dd its.toArray n sl)):s.heap.IsList l its.toArray:=⟨_,h,rfl,n,rfl⟩
theorem zlk{l:Addr}{its:List Value}{n:Nat}{dd:Option Addr}{sl:Array (Option Value)}(h:s.heap.get? l=some (qO "tuple" dd its.toArray n sl)):s.heap.IsTuple l its.toArray:=⟨_,h,rfl,n,rfl⟩
theorem zuk{n:Nat}{A:Around}(ih:∀(d e:PyData) (x y:V) (v u:Value),jok n d=true->jok n e=true->Rp H d x->Rp H e y->RelV x v->RelV y u->EqAt A s v u (eqJ n d e)){ds es:List PyData}{xs ys:List V}{its jts:List Value}
  (hd:ds.all (jok n)=true)(he:es.all (jok n)=true)(rx:Rps H ds xs)(ry:Rps H es ys)(vx:Vals xs its)(vy:Vals ys jts) :
  ∀j (h1:j<its.toArray.size) (h2:j<jts.toArray.size),EqAt A s its.toArray[j] jts.toArray[j] (eqJ n (ds.getD j .none) (es.getD j .none)):=λj h1 h2=>by
 have l1:j<ds.length:=by rw[rx.length,vx.length];simpa using h1
 have l2:j<es.length:=by rw[ry.length,vy.length];simpa using h2
 obtain⟨x,hx,px⟩:=rx.get2 (qD l1)
 obtain⟨y,hy,py⟩:=ry.get2 (qD l2)
 obtain⟨v,hv,rv⟩:=vx.get hx
 obtain⟨u,hu,ru⟩:=vy.get hy
 have e1:its.toArray[j]=v:=by
  have h1:its[j]?=some its.toArray[j]:=by rw[qD (by simpa using h1)];simp
  rw[hv]at h1;exact(qS h1).symm
 have e2:jts.toArray[j]=u:=by
  have h1:jts[j]?=some jts.toArray[j]:=by rw[qD (by simpa using h2)];simp
  rw[hu]at h1;exact(qS h1).symm
 rw[e1,e2,qQ,qQ,qD l1,qD l2]
 exact ih _ _ x y v u (qK.mp hd _ (qAR l1)) (qK.mp he _ (qAR l2)) px py rv ru
theorem zain{n:Nat}{A:Around}{ds es:List PyData}{xs ys:List V}{its jts:List Value}{l b:Addr}(rx:Rps H ds xs)(ry:Rps H es ys)(vx:Vals xs its)(vy:Vals ys jts)(hl:s.heap.IsList l its.toArray)(hb:s.heap.IsList b jts.toArray)(hu:A.units<cLine)
  (pt:∀j (h1:j<its.toArray.size) (h2:j<jts.toArray.size),EqAt A.in1 s its.toArray[j] jts.toArray[j] (eqJ n (ds.getD j .none) (es.getD j .none))):RcAt A s (.ref l) (.ref b) (eqL (eqJ n) ds es):=by
 by_cases hs:ds.length=es.length
 ·have hz:its.toArray.size=jts.toArray.size:=by rw[qG,qG,<- vx.length,<- vy.length,<- rx.length,<- ry.length,hs]
  rw[zuj hs]
  have:=RcAt.lists hl hb hz hu pt
  rw[qG,<- vx.length,<- rx.length]at this
  exact this
 ·rw[zui hs]
  refine RcAt.lists_lengths hl hb ?_ hu
  rw[qG,qG,<- vx.length,<- vy.length,<- rx.length,<- ry.length]
  simpa using hs
theorem zamp{f:Nat->Bool}{a b:Nat}:((List.range (min a b)).all f&&(a==b))=((a==b)&&(List.range a).all f):=by
 by_cases h:a=b
 ·subst h;rw[Nat.min_self,Bool.and_comm]
 ·rw[beq_eq_false_iff_ne.mpr h,qBt,qBS]
theorem zafm{f:PyData->PyData->Bool}{ds es:List PyData}:eqL f ds es=((List.range (min ds.length es.length)).all (λj=>f (ds.getD j .none) (es.getD j .none))&&(ds.length==es.length)):=by
 rw[zamp]
 by_cases h:ds.length=es.length
 ·rw[zuj h,h,beq_self_eq_true,qCW]
 ·rw[zui h,beq_eq_false_iff_ne.mpr h,qBS]
theorem zamq{n:Nat}{A:Around}{ds es:List PyData}{xs ys:List V}{its jts:List Value}{l b:Addr}(rx:Rps H ds xs)(ry:Rps H es ys)(vx:Vals xs its)(vy:Vals ys jts)(hl:s.heap.IsTuple l its.toArray)(hb:s.heap.IsTuple b jts.toArray)(hu:A.units<cLine)
  (pt:∀j (h1:j<its.toArray.size) (h2:j<jts.toArray.size),EqAt A.in1 s its.toArray[j] jts.toArray[j] (eqJ n (ds.getD j .none) (es.getD j .none))):RcAt A s (.ref l) (.ref b) (eqL (eqJ n) ds es):=by
 rw[zafm]
 have:=RcAt.tuples hl hb hu pt
 rw[qG,qG,<- vx.length,<- vy.length,<- rx.length,<- ry.length]at this
 exact this
theorem zqv{es:Array DictEntry}{kvs:List (Key×V)}{vs:List (Key×Value)}{k v:PyData}(hk:keyD k=some (.inr "a"))(r:Rpd H [(k,v)] kvs)(kv:KV kvs vs)(hp:PySem.Pairs (zbs P w) es.toList vs):∃h t x u,es=#[⟨h,.str "a" t,u⟩]/\Rp H v x/\RelV x u:=by
 unfold Rpd at r
 obtain⟨k',x,r',rfl,hk',rx,r0⟩:=r
 unfold Rpd at r0
 subst r0
 rw[hk]at hk'
 cases hk'
 cases kv with
 | cons h1 h2=>
  cases h2
  rename_i q
  obtain⟨q1,q2⟩:=q
  obtain⟨e1,e2⟩:=h1
  cases hp':es.toList with
  | nil=>rw[hp']at hp;cases hp
  | cons e rest=>
   rw[hp']at hp
   cases hp with
   | cons a1 a2 a3=>
    cases a3
    have e1:q1=.inr "a":=e1.symm
    subst e1
    obtain⟨t,ht⟩:=qCk (x:="a") (v:=e.key) a1
    refine⟨e.hash,t,x,e.val,?_,rx,by rw[a2];exact e2⟩
    have:es=#[e]:=by rw[<- qB5];exact hp'
    rw[this,<- ht]
theorem zmu{es:Array DictEntry}{kvs:List (Key×V)}{vs:List (Key×Value)}(r:Rpd H [] kvs)(kv:KV kvs vs)(hp:PySem.Pairs (zbs P w) es.toList vs):es=#[]:=by
 unfold Rpd at r
 subst r
 cases kv
 cases hp':es.toList with
 | nil=>rw[<- qB5];exact hp'
 | cons e rest=>rw[hp']at hp;cases hp
theorem zmv{n:Nat}{ps:List (PyData×PyData)}(h:jok (n+1) (.dict ps)=true):ps=[]\/∃v,ps=[(.str "a",v)]/\jok n v=true:=by
 match ps,h with
 | [],_=>exact .inl rfl
 | [(.str k,v)],h=>
  have h:((k=="a")&&jok n v)=true:=h
  rw[qZ]at h
  exact .inr ⟨v,by rw[eq_of_beq h.1],h.2⟩
end
section
variable{P:Program}{w:World}{H:Hp}{s:Shared}
theorem zqw{n:Nat}{ps:List (PyData×PyData)}{e:PyData}(h:jok (n+1) (.dict ps)=true)(he:∀qs,e≠.dict qs):eqJ (n+1) (.dict ps) e=false:=by
 rcases zmv h with rfl|⟨v,rfl,_⟩<;>cases e<;>first|rfl|exact absurd rfl (he _)
theorem jeq(ok:HOk P w H s.heap):∀(n:Nat)(A:Around)(d e:PyData)(x y:V)(v u:Value),jok n d=true->jok n e=true->Rp H d x->Rp H e y->RelV x v->RelV y u->A.units+n<cLine->EqAt A s v u (eqJ n d e)
 | 0,_,_,_,_,_,_,_,h,_,_,_,_,_,_=>by cases h
 | n+1,A,d,e,x,y,v,u,hd,he,px,py,rv,ru,hu=>by
  have hu0:A.units<cLine:=by omega
  have ih:∀(d e:PyData)(x y:V)(v u:Value),jok n d=true->jok n e=true->Rp H d x->Rp H e y->RelV x v->RelV y u->EqAt A.in1 s v u (eqJ n d e):=λd e x y v u h1 h2 h3 h4 h5 h6=>jeq ok n A.in1 d e x y v u h1 h2 h3 h4 h5 h6 (by rw[qB3];omega)
  cases d with
  | none=>
   unfold Rp at px;subst px
   have rv:v=.none:=rv
   subst rv
   cases e with
   | none=>unfold Rp at py;subst py;have ru:u=.none:=ru;subst ru;exact .same _
   | bool b=>unfold Rp at py;subst py;have ru:u=.bool b:=ru;subst ru;exact .none_bool _
   | int b=>unfold Rp at py;subst py;obtain⟨t,rfl⟩:=ru;exact .none_int _ _
   | str b=>unfold Rp at py;subst py;obtain⟨t,rfl⟩:=ru;exact .none_str _ _
   | list es=>obtain⟨l,its,m,xs,rfl,g,_⟩:=zjr ok py ru;exact .none_list (zfo g) hu0
   | tuple es=>obtain⟨l,its,m,dd,sl,xs,rfl,g,_⟩:=zpg ok py ru;exact .none_tuple (zlk g) hu0
   | dict es=>obtain⟨l,z,m,dd,sl,kvs,vs,rfl,_,g,_⟩:=zlu ok py ru;exact zwi g hu0
  | bool a=>
   unfold Rp at px;subst px
   have rv:v=.bool a:=rv
   subst rv
   cases e with
   | none=>unfold Rp at py;subst py;have ru:u=.none:=ru;subst ru;exact .bool_none _
   | bool b=>unfold Rp at py;subst py;have ru:u=.bool b:=ru;subst ru;exact .bool_bool _ _
   | int b=>unfold Rp at py;subst py;obtain⟨t,rfl⟩:=ru;exact .bool_int _ _ _
   | str b=>unfold Rp at py;subst py;obtain⟨t,rfl⟩:=ru;exact .bool_str _ _ _
   | list es=>obtain⟨l,its,m,xs,rfl,g,_⟩:=zjr ok py ru;exact .bool_list _ (zfo g) hu0
   | tuple es=>obtain⟨l,its,m,dd,sl,xs,rfl,g,_⟩:=zpg ok py ru;exact .bool_tuple _ (zlk g) hu0
   | dict es=>obtain⟨l,z,m,dd,sl,kvs,vs,rfl,_,g,_⟩:=zlu ok py ru;exact zwm _ g hu0
  | int a=>
   unfold Rp at px;subst px
   obtain⟨t0,rfl⟩:=rv
   cases e with
   | none=>unfold Rp at py;subst py;have ru:u=.none:=ru;subst ru;exact .int_none _ _
   | bool b=>unfold Rp at py;subst py;have ru:u=.bool b:=ru;subst ru;exact .int_bool _ _ _
   | int b=>unfold Rp at py;subst py;obtain⟨t,rfl⟩:=ru;exact .int_int _ _ _ _
   | str b=>unfold Rp at py;subst py;obtain⟨t,rfl⟩:=ru;exact .int_str _ _ _ _
   | list es=>obtain⟨l,its,m,xs,rfl,g,_⟩:=zjr ok py ru;exact .int_list _ _ (zfo g) hu0
   | tuple es=>obtain⟨l,its,m,dd,sl,xs,rfl,g,_⟩:=zpg ok py ru;exact .int_tuple _ _ (zlk g) hu0
   | dict es=>obtain⟨l,z,m,dd,sl,kvs,vs,rfl,_,g,_⟩:=zlu ok py ru;exact zzc _ _ g hu0
  | str a=>
   unfold Rp at px;subst px
   obtain⟨t0,rfl⟩:=rv
   cases e with
   | none=>unfold Rp at py;subst py;have ru:u=.none:=ru;subst ru;exact .str_none _ _
   | bool b=>unfold Rp at py;subst py;have ru:u=.bool b:=ru;subst ru;exact .str_bool _ _ _
   | int b=>unfold Rp at py;subst py;obtain⟨t,rfl⟩:=ru;exact .str_int _ _ _ _
   | str b=>unfold Rp at py;subst py;obtain⟨t,rfl⟩:=ru;exact .str_str _ _ _ _
   | list es=>obtain⟨l,its,m,xs,rfl,g,_⟩:=zjr ok py ru;exact .str_list _ _ (zfo g) hu0
   | tuple es=>obtain⟨l,its,m,dd,sl,xs,rfl,g,_⟩:=zpg ok py ru;exact .str_tuple _ _ (zlk g) hu0
   | dict es=>obtain⟨l,z,m,dd,sl,kvs,vs,rfl,_,g,_⟩:=zlu ok py ru;exact zami (zyv _ _ g rfl rfl hu0)
  | list ds=>
   have px0:=px
   obtain⟨l,its,m,xs,rfl,g,rx,vx,ex,hH⟩:=zjr ok px rv
   cases e with
   | none=>unfold Rp at py;subst py;have ru:u=.none:=ru;subst ru;exact .list_none (zfo g) hu0
   | bool b=>unfold Rp at py;subst py;have ru:u=.bool b:=ru;subst ru;exact .list_bool _ (zfo g) hu0
   | int b=>unfold Rp at py;subst py;obtain⟨t,rfl⟩:=ru;exact .list_int _ _ (zfo g) hu0
   | str b=>unfold Rp at py;subst py;obtain⟨t,rfl⟩:=ru;exact .list_str _ _ (zfo g) hu0
   | list es=>
    obtain⟨l2,jts,m2,ys,rfl,g2,ry,vy,ey,hH2⟩:=zjr ok py ru
    by_cases hl:l=l2
    ·subst hl
     rw[ex]at px0
     rw[ey]at py
     rw[<- zsr _ px0 py,zjh (n+1) _ hd]
     exact .same _
    ·exact .of_refs hl (zain rx ry vx vy (zfo g) (zfo g2) hu0 (zuk ih hd he rx ry vx vy))
   | tuple es=>obtain⟨l2,jts,m2,dd,sl,ys,rfl,g2,_⟩:=zpg ok py ru;exact .list_tuple (zfo g) (zlk g2) hu0
   | dict es=>obtain⟨l2,z,m2,dd,sl,kvs,vs,rfl,_,g2,_⟩:=zlu ok py ru;exact zwq g2 g hu0
  | tuple ds=>
   have px0:=px
   obtain⟨l,its,m,dd0,sl0,xs,rfl,g,rx,vx,ex,hH⟩:=zpg ok px rv
   cases e with
   | none=>unfold Rp at py;subst py;have ru:u=.none:=ru;subst ru;exact .tuple_none (zlk g) hu0
   | bool b=>unfold Rp at py;subst py;have ru:u=.bool b:=ru;subst ru;exact .tuple_bool _ (zlk g) hu0
   | int b=>unfold Rp at py;subst py;obtain⟨t,rfl⟩:=ru;exact .tuple_int _ _ (zlk g) hu0
   | str b=>unfold Rp at py;subst py;obtain⟨t,rfl⟩:=ru;exact .tuple_str _ _ (zlk g) hu0
   | list es=>obtain⟨l2,jts,m2,ys,rfl,g2,_⟩:=zjr ok py ru;exact .tuple_list (zlk g) (zfo g2) hu0
   | tuple es=>
    obtain⟨l2,jts,m2,dd,sl,ys,rfl,g2,ry,vy,ey,hH2⟩:=zpg ok py ru
    by_cases hl:l=l2
    ·subst hl
     rw[ex]at px0
     rw[ey]at py
     rw[<- zsr _ px0 py,zjh (n+1) _ hd]
     exact .same _
    ·exact .of_refs hl (zamq rx ry vx vy (zlk g) (zlk g2) hu0 (zuk ih hd he rx ry vx vy))
   | dict es=>obtain⟨l2,z,m2,dd,sl,kvs,vs,rfl,_,g2,_⟩:=zlu ok py ru;exact zug g2 g hu0
  | dict ps=>
   have px0:=px
   obtain⟨l,z,m,dd,sl,kvs,vs,rfl,hm,g,rx,kx,pp,ex,hH⟩:=zlu ok px rv
   cases e with
   | none=>unfold Rp at py;subst py;have ru:u=.none:=ru;subst ru;rw[zqw hd λ_ z=>by cases z];exact zwh g hu0
   | bool b=>unfold Rp at py;subst py;have ru:u=.bool b:=ru;subst ru;rw[zqw hd λ_ z=>by cases z];exact zwl _ g hu0
   | int b=>unfold Rp at py;subst py;obtain⟨t,rfl⟩:=ru;rw[zqw hd λ_ z=>by cases z];exact zzb _ _ g hu0
   | str b=>unfold Rp at py;subst py;obtain⟨t,rfl⟩:=ru;rw[zqw hd λ_ z=>by cases z];exact zamh (zyu _ _ g rfl rfl hu0)
   | list es=>obtain⟨l2,jts,m2,ys,rfl,g2,_⟩:=zjr ok py ru;rw[zqw hd λ_ z=>by cases z];exact zwp g g2 hu0
   | tuple es=>obtain⟨l2,jts,m2,dd2,sl2,ys,rfl,g2,_⟩:=zpg ok py ru;rw[zqw hd λ_ z=>by cases z];exact zuf g g2 hu0
   | dict qs=>
    obtain⟨l2,z2,m2,dd2,sl2,kvs2,vs2,rfl,hm2,g2,rx2,kx2,pp2,ey,hH2⟩:=zlu ok py ru
    by_cases hl:l=l2
    ·subst hl
     rw[ex]at px0
     rw[ey]at py
     rw[<- zsr _ px0 py,zjh (n+1) _ hd]
     exact .same _
    ·refine .of_refs hl ?_
     rcases zmv hd with rfl|⟨a,rfl,ja⟩
     ·have e1:=zmu rx kx pp
      subst e1
      rcases zmv he with rfl|⟨b,rfl,jb⟩
      ·have e2:=zmu rx2 kx2 pp2
       subst e2
       exact zpy g g2 hu0 λprog w E Q h=>zabv hm hm2 g g2 prog w E Q h
      ·obtain⟨h1,t1,x1,u1,e2,_⟩:=zqv rfl rx2 kx2 pp2
       subst e2
       exact zpy g g2 hu0 λprog w E Q h=>zsq hm hm2 g g2 (by simp) prog w E Q h
     ·obtain⟨h1,t1,x1,u1,e1,r1,rl1⟩:=zqv rfl rx kx pp
      subst e1
      rcases zmv he with rfl|⟨b,rfl,jb⟩
      ·have e2:=zmu rx2 kx2 pp2
       subst e2
       exact zpy g g2 hu0 λprog w E Q h=>zsq hm hm2 g g2 (by simp) prog w E Q h
      ·obtain⟨h2,t2,x2,u2,e2,r2,rl2⟩:=zqv rfl rx2 kx2 pp2
       subst e2
       exact zpy g g2 hu0 λprog w E Q h=>zail hm hm2 g g2 rfl (ih a b x1 x2 u1 u2 ja jb r1 r2 rl1 rl2) prog w E Q h
end
theorem zamr{x y:V}{v:Value}(h:RelV x v)(k:RelV y v):x=y:=by
 cases x<;>cases y<;>first
  | rfl
  | (cases h;cases k;done)
  | (cases h;cases k;rfl)
  | (obtain⟨t,rfl⟩:=h;obtain⟨u,e⟩:=k;cases e;rfl)
  | (obtain⟨t,rfl⟩:=h;obtain⟨u,e⟩:=k;cases e;done)
  | (obtain⟨t,rfl⟩:=h;cases k;done)
  | (obtain⟨t,rfl⟩:=k;cases h;done)
noncomputable def rInJ(neg:Bool):R2:=λx y H Q=>∃d c ds,Rp H d x/\Rp H c y/\zhw c=some ds/\jok 6 d=true/\ds.all (jok 6)=true/\Q (.bl (if neg then !(ds.any λe=>eqJ 6 e d)else ds.any λe=>eqJ 6 e d)) H
section
variable{X:Cx}
open Classical in
theorem zul{pins:List (Addr×Obj)}{s:Shared}{σ:St}{H:Hp}(I:Inv X pins σ H s){d:PyData}{x:V}{v:Value}{ds:List PyData}{xs:List V}{its:List Value}(hu:X.A.units+64<cLine)(px:Rp H d x)(rv:RelV x v)(jd:jok 6 d=true)(jc:ds.all (jok 6)=true)(rx:Rps H ds xs)(vx:Vals xs its) :
  ∃e:Value->Bool,(∀y,y∈its.toArray->EqAt X.A.in1 s y v (e y))/\its.toArray.any e=ds.any λz=>eqJ 6 z d:=by
 have key:∀{z:PyData}{y:V}{u:Value},Rp H z y->RelV y u->decide (∃z' y',Rp H z' y'/\RelV y' u/\eqJ 6 z' d=true)=eqJ 6 z d:=λ{z y u} r rl=>by
  rw[qx]
  constructor
  ·intro h
   obtain⟨z',y',r',rl',e⟩:=of_decide_eq_true h
   cases zamr rl rl'
   rw[zsr z r r'];exact e
  ·exact λh=>decide_eq_true ⟨z,y,r,rl,h⟩
 refine⟨λu=>decide (∃z y,Rp H z y/\RelV y u/\eqJ 6 z d=true),λu hm=>?_,?_⟩
 ·obtain⟨j,hj,ej⟩:=qAi (show u∈its by simpa using hm)
  have l1:j<xs.length:=by rw[vx.length];exact hj
  have l2:j<ds.length:=by rw[rx.length];exact l1
  obtain⟨y,hy,py⟩:=rx.get2 (qD l2)
  obtain⟨u',hu',ru⟩:=vx.get hy
  have:u'=u:=by rw[qD hj,ej]at hu';exact(qS hu').symm
  subst this
  show EqAt X.A.in1 s u' v (decide (∃z' y',Rp H z' y'/\RelV y' u'/\eqJ 6 z' d=true))
  rw[key py ru]
  exact jeq I.hok 6 _ _ _ y x _ _ (qK.mp jc _ (qAR l2)) jd py px ru rv (by rw[qB3];omega)
 ·rw[<- Array.any_toList]
  have go:∀{ds:List PyData}{xs:List V}{its:List Value},Rps H ds xs->Vals xs its->its.any (λu=>decide (∃z y,Rp H z y/\RelV y u/\eqJ 6 z d=true))=ds.any λz=>eqJ 6 z d:=by
   intro ds
   induction ds with
   | nil=>intro xs its r q;unfold Rps at r;subst r;cases q;rfl
   | cons z ds ih=>
    intro xs its r q
    unfold Rps at r
    obtain⟨y,ys,rfl,r1,r2⟩:=r
    cases q with
    | cons q1 q2=>rw[qAc,qAc,key r1 q1,ih r2 q2]
  exact go rx vx
theorem zafn(hu:X.A.units+64<cLine):OpR X (compareOp .In) (rInJ false):=by
 intro pins s σ H x y v u Q I rx ry h
 obtain⟨d,c,ds,hd,hc,hi,jd,jc,q⟩:=h
 cases c with
 | list es=>
  cases hi
  obtain⟨l,its,m,xs,rfl,g,rr,vx,_⟩:=zjr I.hok hc ry
  obtain⟨e,h1,h2⟩:=zul I hu hd rx jd jc rr vx
  exact in_listAt e (zfo g) h1 ⟨.bl (ds.any λe=>eqJ 6 e d),H,I,by rw[h2];rfl,q⟩
 | tuple es=>
  cases hi
  obtain⟨l,its,m,dd,sl,xs,rfl,g,rr,vx,_⟩:=zpg I.hok hc ry
  obtain⟨e,h1,h2⟩:=zul I hu hd rx jd jc rr vx
  exact in_tupleAt e (zlk g) h1 ⟨.bl (ds.any λe=>eqJ 6 e d),H,I,by rw[h2];rfl,q⟩
 | _=>cases hi
theorem zwr(hu:X.A.units+64<cLine):OpR X (compareOp .NotIn) (rInJ true):=by
 intro pins s σ H x y v u Q I rx ry h
 obtain⟨d,c,ds,hd,hc,hi,jd,jc,q⟩:=h
 cases c with
 | list es=>
  cases hi
  obtain⟨l,its,m,xs,rfl,g,rr,vx,_⟩:=zjr I.hok hc ry
  obtain⟨e,h1,h2⟩:=zul I hu hd rx jd jc rr vx
  exact notIn_listAt e (zfo g) h1 ⟨.bl (!ds.any λe=>eqJ 6 e d),H,I,by rw[h2];rfl,q⟩
 | tuple es=>
  cases hi
  obtain⟨l,its,m,dd,sl,xs,rfl,g,rr,vx,_⟩:=zpg I.hok hc ry
  obtain⟨e,h1,h2⟩:=zul I hu hd rx jd jc rr vx
  exact notIn_tupleAt e (zlk g) h1 ⟨.bl (!ds.any λe=>eqJ 6 e d),H,I,by rw[h2];rfl,q⟩
 | _=>cases hi
end
noncomputable def inJ(neg:Bool):OF:=λd c=>match zhw c with
 | some ds=>if jok 6 d=true/\ds.all (jok 6)=true then some (.bool (if neg then !(ds.any λe=>eqJ 6 e d)else ds.any λe=>eqJ 6 e d),false)else none
 | none=>none
theorem zws{neg:Bool}:SO (rInJ neg) (inJ neg):=by
 intro A H x y dx dy hA rx ry d fr e Q q
 unfold inJ at e
 split at e
 ·rename_i ds hi
  split at e
  ·rename_i h
   cases e
   refine⟨dx,dy,ds,Rp.same (Offs.same A H) _ rx,Rp.same (Offs.same A H) _ ry,hi,h.1,h.2,q _ H (Same.refl _) ?_ (λz=>by cases z)⟩
   cases neg<;>exact zau
  ·cases e
 ·cases e
noncomputable def rNeJ:R2:=λx y H Q=>∃d e b,Rp H d x/\Rp H e y/\jok 6 d=true/\jok 6 e=true/\Q (.bl b) H/\((∃ds es,d=.list ds/\e=.list es/\b=!eqL (eqJ 5) ds es)\/(∃ds es,d=.tuple ds/\e=.tuple es/\b=!eqL (eqJ 5) ds es)\/(d=.none/\e=.none/\b=false)\/(∃a c,d=.str a/\e=.str c/\b=!(a==c))\/(d=.dict []/\e=.dict []/\b=false))
theorem zabw{A:Around}{s:Shared}{l b:Addr}{n n2:Nat}{dd dd2:Option Addr}{sl sl2:Array (Option Value)}(ha:(l==sysModules)=false)(hb':(b==sysModules)=false)(ho:s.heap.get? l=some (dO dd #[] n sl))(hb:s.heap.get? b=some (dO dd2 #[] n2 sl2))(hu:A.units<cLine):RcNeAt A s (.ref l) (.ref b) false:=λprog w E Q h=>by
 have ta:s.TypeIs (.ref l) "dict":=⟨_,ho,rfl⟩
 have tb:s.TypeIs (.ref b) "dict":=⟨_,hb,rfl⟩
 refine qCZ (op:=.NotEq) ta tb qCT (qAw qCT ta PySem.F.entry_dict_ne ?_ (PySem.F.args_dict_ne_2 _ _)) hu
 show wpAny _ _ (Builtin.Dict.dictSlotArgs "__ne__" ⟨[.ref l,.ref b],[]⟩ >>=_) _ _ s
 refine qB ?_
 unfold Builtin.Dict.dictSlotArgs
 refine qB (wpAny_notOrdered_dict ta ?_)
 show wpAny _ _ (pure (Value.ref l,Value.ref b)) _ _ s
 refine qH ?_
 refine qB (qA2 (T:="dict") tb qCR ?_)
 simp only[qCX,qAu,if_false]
 refine qB (qH (qB (qH ?_)))
 refine qB (zqu ha hb' ho hb prog w _ _ ?_)
 refine qH ⟨_,rfl,?_,?_⟩
 ·exact λx=>nomatch x
 ·simpa using h
section
variable{X:Cx}
theorem zajr(hu:X.A.units+64<cLine):OpR X (compareOp .NotEq) rNeJ:=by
 intro pins s σ H x y v u Q I rx ry h
 obtain⟨d,e,b,hd,he,jd,je,q,hk⟩:=h
 have fin:EP X pins σ Q (.bool b) s:=⟨.bl b,H,I,rfl,q⟩
 have hu0:X.A.units<cLine:=by omega
 have ih:∀(d e:PyData)(x y:V)(v u:Value),jok 5 d=true->jok 5 e=true->Rp H d x->Rp H e y->RelV x v->RelV y u->EqAt X.A.in1 s v u (eqJ 5 d e):=λd e x y v u h1 h2 h3 h4 h5 h6=>jeq I.hok 5 _ d e x y v u h1 h2 h3 h4 h5 h6 (by rw[qB3];omega)
 rcases hk with⟨ds,es,rfl,rfl,rfl⟩|⟨ds,es,rfl,rfl,rfl⟩|⟨rfl,rfl,rfl⟩|⟨a,c,rfl,rfl,rfl⟩|⟨rfl,rfl,rfl⟩
 ·obtain⟨l,its,m,xs,rfl,g,r1,vx,_⟩:=zjr I.hok hd rx
  obtain⟨l2,jts,m2,ys,rfl,g2,r2,vy,_⟩:=zjr I.hok he ry
  have pt:=zuk (A:=X.A.in1) ih jd je r1 r2 vx vy
  by_cases hs:ds.length=es.length
  ·have hz:its.toArray.size=jts.toArray.size:=by rw[qG,qG,<- vx.length,<- vy.length,<- r1.length,<- r2.length,hs]
   refine RcNeAt.lists (zfo g) (zfo g2) hz hu0 pt _ _ _ _ ?_
   rw[qG,<- vx.length,<- r1.length,<- zuj hs]
   exact fin
  ·rw[zui hs]at fin
   refine RcNeAt.lists_lengths (zfo g) (zfo g2) ?_ hu0 _ _ _ _ fin
   rw[qG,qG,<- vx.length,<- vy.length,<- r1.length,<- r2.length]
   simpa using hs
 ·obtain⟨l,its,m,dd,sl,xs,rfl,g,r1,vx,_⟩:=zpg I.hok hd rx
  obtain⟨l2,jts,m2,dd2,sl2,ys,rfl,g2,r2,vy,_⟩:=zpg I.hok he ry
  have pt:=zuk (A:=X.A.in1) ih jd je r1 r2 vx vy
  refine RcNeAt.tuples (zlk g) (zlk g2) hu0 pt _ _ _ _ ?_
  rw[qG,qG,<- vx.length,<- vy.length,<- r1.length,<- r2.length,<- zafm]
  exact fin
 ·unfold Rp at hd he;subst hd;subst he
  have rx:v=.none:=rx
  have ry:u=.none:=ry
  subst rx;subst ry
  exact RcNeAt.none_none _ _ _ _ fin
 ·unfold Rp at hd he;subst hd;subst he
  obtain⟨t,rfl⟩:=rx
  obtain⟨t2,rfl⟩:=ry
  exact RcNeAt.str_str _ _ _ _ _ _ _ _ fin
 ·obtain⟨l,z,m,dd,sl,kvs,vs,rfl,hm,g,r1,kx,pp,_⟩:=zlu I.hok hd rx
  obtain⟨l2,z2,m2,dd2,sl2,kvs2,vs2,rfl,hm2,g2,r2,kx2,pp2,_⟩:=zlu I.hok he ry
  have e1:=zmu r1 kx pp
  have e2:=zmu r2 kx2 pp2
  subst e1;subst e2
  exact zabw hm hm2 g g2 hu0 _ _ _ _ fin
end
noncomputable def neJ:OF:=λd e=>if jok 6 d=true/\jok 6 e=true then match d,e with
 | .list ds,.list es=>some (.bool (!eqL (eqJ 5) ds es),false)
 | .tuple ds,.tuple es=>some (.bool (!eqL (eqJ 5) ds es),false)
 | .none,.none=>some (.bool false,false)
 | .str a,.str c=>some (.bool (!(a==c)),false)
 | .dict [],.dict []=>some (.bool false,false)
 | _,_=>none else none
theorem zajs:SO rNeJ neJ:=by
 intro A H x y dx dy hA rx ry d fr e Q q
 unfold neJ at e
 split at e
 ·rename_i h
  have go:∀b,some ((PyData.bool b,false):PyData×Bool)=some (d,fr)->Q (.bl b) H:=λb z=>by cases z;exact q _ H (Same.refl _) zau (λz=>by cases z)
  refine⟨dx,dy,?_⟩
  split at e
  ·exact⟨_,Rp.same (Offs.same A H) _ rx,Rp.same (Offs.same A H) _ ry,h.1,h.2,go _ e,.inl ⟨_,_,rfl,rfl,rfl⟩⟩
  ·exact⟨_,Rp.same (Offs.same A H) _ rx,Rp.same (Offs.same A H) _ ry,h.1,h.2,go _ e,.inr (.inl ⟨_,_,rfl,rfl,rfl⟩)⟩
  ·exact⟨_,Rp.same (Offs.same A H) _ rx,Rp.same (Offs.same A H) _ ry,h.1,h.2,go _ e,.inr (.inr (.inl ⟨rfl,rfl,rfl⟩))⟩
  ·exact⟨_,Rp.same (Offs.same A H) _ rx,Rp.same (Offs.same A H) _ ry,h.1,h.2,go _ e,.inr (.inr (.inr (.inl ⟨_,_,rfl,rfl,rfl⟩)))⟩
  ·exact⟨_,Rp.same (Offs.same A H) _ rx,Rp.same (Offs.same A H) _ ry,h.1,h.2,go _ e,.inr (.inr (.inr (.inr ⟨rfl,rfl,rfl⟩)))⟩
  ·cases e
 ·cases e
open PySem PySem.Spec PyProof.Rows
end L2
namespace Bc
open PySem L2
noncomputable def zim:SF:=(sRet (zfs ["name","elders"] [] (zbf (eVar 0)) (gT 2 (zcg 0 (zcg 1 zkd))) zgr (eVar 0)))
noncomputable def zec:GF:=fnD 1 zim
noncomputable def zss:SF:=(sSeq (sSet 1 zli)
  (sSeq (sFor (zbf (eVar 0)) (gT 2 (zcg 2 (zcg 3 zkd)))
  (sSeq (sSet 4 (eD1 (eVar 2) (eC (.bool true))))
  (sSeq (sFor (zbf (eVar 3)) (gN 5)
  (sUpd 4 (zep 1 (eVar 5))))
  (sPut 1 (eVar 2) (eVar 4)))))
  (zaen 1)))
noncomputable def zfu:GF:=fnD 6 zss
theorem zgm{α:Type}{enc out:α->PyData}{g:GT}{t:TF}{e:EF}{env:DEnv}(p:α->Bool):∀{l:List α},(∀x∈l,∃e1,g (enc x) env=some e1/\t e1=some (p x)/\(p x=true->∃r,e e1=some r/\r.d=out x))->
  zet g t e env (l.map enc)=some ((l.filter p).map out)
 | [],_=>rfl
 | x::l,h=>by
  obtain⟨e1,h1,h2,h3⟩:=h x qV
  have ih:=zgm (l:=l) p λy hy=>h y (qM _ hy)
  rw[qp]
  unfold zet
  rw[h1,qF,h2,qF]
  cases hp:p x with
  | false=>
   rw[if_neg qJ,ih,qBG,hp];rfl
  | true=>
   obtain⟨r,h4,h5⟩:=h3 hp
   rw[if_pos rfl,h4,qF,ih,qBG,hp]
   simp[h5]
theorem zfk{α:Type}{enc out:α->PyData}{g:GT}{t:TF}{e:EF}{env:DEnv}{l:List α}(h:∀x∈l,∃e1,g (enc x) env=some e1/\t e1=some true/\∃r,e e1=some r/\r.d=out x):zet g t e env (l.map enc)=some (l.map out):=by
 have q:=zgm (enc:=enc) (out:=out) (g:=g) (t:=t) (e:=e) (env:=env) (λ_=>true) (l:=l) λx hx=>let⟨e1,h1,h2,h3⟩:=h x hx;⟨e1,h1,h2,λ_=>h3⟩
 rw[q]
 congr 2
 exact List.filter_eq_self.mpr λ_ _=>rfl
theorem zaav{α:Type}{enc:α->PyData}{g:GT}{body:SF}(I:List α->DEnv->Prop)(all:List α):∀(l pre:List α)(env:DEnv),pre++l=all->I pre env->
  (∀pre x post env,pre++x::post=all->I pre env->∃e1 e2,g (enc x) env=some e1/\(body e1=some (.nx e2)\/body e1=some (.ct e2))/\I (pre++[x]) e2)->∃env',forL g body (l.map enc) env=some (.nx env')/\I all env'
 | [],pre,env,hall,h0,hs=>by
  rw[qAV]at hall
  subst hall
  exact⟨env,rfl,h0⟩
 | x::l,pre,env,hall,h0,hs=>by
  obtain⟨e1,e2,h1,h2,h3⟩:=hs pre x l env hall h0
  obtain⟨env',h4,h5⟩:=zaav I all l (pre++[x]) e2 (by rw[<- hall];simp) h3 hs
  refine⟨env',?_,h5⟩
  rw[qp]
  unfold forL
  rw[h1,qF]
  rcases h2 with h2|h2<;>rw[h2,qF]<;>exact h4
theorem zqx{α:Type}{enc:α->PyData}{g:GT}{body:SF}{l:List α}{env:DEnv}(I:List α->DEnv->Prop)(h0:I [] env)(hs:∀pre x post env,pre++x::post=l->I pre env->∃e1 e2,g (enc x) env=some e1/\(body e1=some (.nx e2)\/body e1=some (.ct e2))/\I (pre++[x]) e2) :
  ∃env',forL g body (l.map enc) env=some (.nx env')/\I l env':=zaav I l l [] env rfl h0 hs
theorem zmw{α:Type}{enc:α->PyData}{g:GT}{body:SF}(p:α->Bool)(d:PyData)(fr:Bool)(I:DEnv->Prop):∀(l:List α)(env:DEnv),I env->
  (∀x∈l,∀env,I env->∃e1,g (enc x) env=some e1/\(p x=true->∃e2,body e1=some (.nx e2)/\I e2)/\(p x=false->body e1=some (.rt d fr)))->
  (l.all p=true->∃env',forL g body (l.map enc) env=some (.nx env')/\I env')/\(l.all p=false->forL g body (l.map enc) env=some (.rt d fr))
 | [],env,h0,hs=>⟨λ_=>⟨env,rfl,h0⟩,λh=>by simp at h⟩
 | x::l,env,h0,hs=>by
  obtain⟨e1,h1,h2,h3⟩:=hs x qV env h0
  rw[qp,qAm]
  unfold forL
  rw[h1,qF]
  cases hp:p x with
  | false=>
   rw[h3 hp,qF]
   exact⟨λh=>by simp at h,λ_=>rfl⟩
  | true=>
   obtain⟨e2,h4,h5⟩:=h2 hp
   rw[h4,qF]
   exact zmw p d fr I l e2 h5 λy hy=>hs y (qM _ hy)
theorem zej{f g:SF}{env e1:DEnv}{o:Option Out}(h:f env=some (.nx e1))(k:g e1=o):sSeq f g env=o:=by unfold sSeq;rw[h];exact k
theorem zfp{f g:SF}{env:DEnv}{d:PyData}{fr:Bool}(h:f env=some (.rt d fr)):sSeq f g env=some (.rt d fr):=by unfold sSeq;rw[h];rfl
theorem zpz{f:EF}{g:GT}{b:SF}{env:DEnv}{ds:List PyData}{fr:Bool}{bs:List Nat}{o:Option Out}(h:f env=some ⟨.list ds,fr,bs⟩)(k:forL g b ds (frzs env bs)=o):sFor (zbf f) g b env=o:=by
 unfold sFor zbf;rw[h];exact k
theorem zoy{f:IF'}{g:GT}{b:SF}{env:DEnv}{ds:List PyData}{bs:List Nat}{o:Option Out}(h:f env=some (ds,bs))(k:forL g b ds (frzs env bs)=o):sFor f g b env=o:=by
 unfold sFor;rw[h];exact k
theorem if_t{c:TF}{f g:SF}{env:DEnv}{o:Option Out}(h:c env=some true)(k:f env=o):sIf c f g env=o:=by unfold sIf;rw[h];exact k
theorem if_f{c:TF}{f g:SF}{env:DEnv}{o:Option Out}(h:c env=some false)(k:g env=o):sIf c f g env=o:=by unfold sIf;rw[h];exact k
theorem zoz{i:Nat}{f:EF}{env:DEnv}{r:Val}(h:f env=some r):sSet i f env=some (.nx (putV env i r)):=by unfold sSet;rw[h];rfl
theorem zmx{f:EF}{env:DEnv}{d:PyData}{fr:Bool}{bs:List Nat}(h:f env=some ⟨d,fr,bs⟩):sRet f env=some (.rt d fr):=by unfold sRet;rw[h];rfl
theorem zdi{n:Nat}{g:GF}{f:AF}{env:DEnv}{rs:List Val}{d:PyData}{fr:Bool}(h:f env=some rs)(hn:rs.length=n)(k:g (zka rs)=some (d,fr)):zbj n g f env=some ⟨d,fr,bsOf d (bss rs)⟩:=by
 unfold zbj;rw[h,qF,if_pos hn,k];rfl
theorem zih{own:List Str}{fr:List Nat}{fi:IF'}{g:GT}{t:TF}{e:EF}{env:DEnv}{ds:List PyData}{bs:List Nat}{rs:List PyData}(h:fi env=some (ds,bs))(hl:ds.length<100000)(k:zet g t e (envB own fr env) ds=some rs) :
  zfs own fr fi g t e env=some ⟨.list rs,true,if zel rs=true then[]else bs++capA fr env⟩:=by
 unfold zfs;rw[h,qF,if_pos hl,k];rfl
theorem zgx{n:Nat}{f:SF}{ds:List PyData}{env:DEnv}{d:PyData}{fr:Bool}(h:zke n ds=env)(e:f env=some (.rt d fr)):fnD n f ds=some (d,fr):=by
 unfold fnD;rw[h,e]
noncomputable def zaa(xs:List Str):PyData:=.list (xs.map .str)
noncomputable def rowD(p:Str×List Str):PyData:=.tuple [.str p.1,zaa p.2]
noncomputable def webD(W:Web):PyData:=.list (W.map rowD)
theorem zin(xs:List Str):zel (xs.map .str)=true:=by
 unfold zel
 rw[qBm]
 exact qK.mpr λ_ _=>rfl
theorem zaio(xs:List Str)(x:Str):((xs.map PyData.str).any λe=>qAX e (.str x))=decide (x∈xs):=by
 rw[qBE,qx,qAe,decide_eq_true_iff]
 constructor
 ·rintro⟨y,hy,h⟩
  have:y=x:=by simpa [qAX]using h
  rw[<- this];exact hy
 ·exact λh=>⟨x,h,by simp[qAX]⟩
theorem zafo(b:Bool)(xs:List Str)(x:Str):inD b (.str x) (zaa xs)=some (.bool (if b then !decide (x∈xs)else decide (x∈xs)),false):=by
 unfold inD zaa
 simp only[zhw]
 rw[if_pos ⟨rfl,zin xs⟩,zaio]
theorem zst{W:Web}(hl:W.length<100000):zec [webD W]=some (zaa (nm W),true):=by
 have c:zet (gT 2 (zcg 0 (zcg 1 zkd))) zgr (eVar 0) [.no,.no] (W.map rowD)=some (W.map λp=>PyData.str p.1):=zfk λp _=>⟨[.pl (.str p.1),.pl (zaa p.2)],rfl,rfl,⟨.str p.1,false,[]⟩,rfl,rfl⟩
 have e:zim [.pl (webD W)]=some (.rt (zaa (nm W)) true):=by
  unfold zim sRet zfs zbf
  simp only[eVar,qBc,qF,webD,zhw,qBg,qE]
  rw[if_pos hl]
  show Option.map _ (Option.map _ (zet _ _ _ [.no,.no] _))=_
  rw[c]
  unfold zaa nm
  simp
 show(match zim [.pl (webD W)]with|some (.rt d fr)=>some (d,fr)|some (.nx _)=>some (.none,false)|_=>none)=_
 rw[e]
noncomputable def insS(ks:List Str)(k:Str):List Str:=if k∈ks then ks else ks++[k]
noncomputable def upL(acc:List (Str×List Str))(e:Str):List Str:=(acc.lookup e).getD []
noncomputable def zkq(acc:List (Str×List Str))(p:Str×List Str):List (Str×List Str):=acc++[(p.1,p.2.foldl (λks e=>(upL acc e).foldl insS ks) [p.1])]
noncomputable def ups(W:Web):List (Str×List Str):=W.foldl zkq []
noncomputable def up(W:Web)(n:Str):List Str:=upL (ups W) n
theorem zlf(W:Web)(p:Str×List Str):ups (W++[p])=zkq (ups W) p:=by unfold ups;rw[List.foldl_append];rfl
theorem zaip{ks:List Str}{k x:Str}:x∈insS ks k↔x∈ks\/x=k:=by
 unfold insS
 split
 ·rename_i h
  exact⟨.inl,λz=>z.elim id λe=>e▸h⟩
 ·simp
theorem zwt{x:Str}:∀{ms ks:List Str},x∈ms.foldl insS ks↔x∈ks\/x∈ms
 | [],ks=>by simp
 | m::ms,ks=>by
  rw[List.foldl_cons,zwt,zaip]
  simp[or_assoc]
theorem zams{ks:List Str}{k:Str}(h:ks.Nodup):(insS ks k).Nodup:=by
 unfold insS
 split
 ·exact h
 ·rename_i hk;exact nd_snoc h hk
theorem zaaw:∀{ms ks:List Str},ks.Nodup->(ms.foldl insS ks).Nodup
 | [],_,h=>h
 | _::ms,_,h=>zaaw (ms:=ms) (zams h)
theorem zum{acc:List (Str×List Str)}{x:Str}:∀{es ks:List Str},x∈es.foldl (λks e=>(upL acc e).foldl insS ks) ks↔x∈ks\/∃e∈es,x∈upL acc e
 | [],ks=>by simp
 | e::es,ks=>by
  rw[List.foldl_cons,zum,zwt]
  simp[or_assoc]
theorem zafp{acc:List (Str×List Str)}:∀{es ks:List Str},ks.Nodup->(es.foldl (λks e=>(upL acc e).foldl insS ks) ks).Nodup
 | [],_,h=>h
 | _::es,_,h=>zafp (es:=es) (zaaw h)
theorem zgy{l:List (Str×List Str)}{n:Str}{p:Str×List Str}:(l++[p]).lookup n=(l.lookup n).or (if n==p.1 then some p.2 else none):=by
 induction l with
 | nil=>
  obtain⟨a,b⟩:=p
  show List.lookup n [(a,b)]=_
  rw[qu]
  cases n==a<;>rfl
 | cons q l ih=>
  obtain⟨a,b⟩:=q
  rw[List.cons_append,qu,qu]
  cases n==a with
  | true=>rfl
  | false=>exact ih
theorem zqy{α:Type}{P:List α->Prop}(h0:P [])(hs:∀l x,P l->P (l++[x])):∀l,P l:=by
 intro l
 have:∀n (l:List α),l.length=n->P l:=by
  intro n
  induction n with
  | zero=>intro l e;rw[qA3.mp e];exact h0
  | succ n ih=>
   intro l e
   have hne:l≠[]:=λz=>by rw[z]at e;cases e
   rw[<- qCA hne]
   exact hs _ _ (ih _ (by rw[qCo,e];rfl))
 exact this _ l rfl
theorem zji:∀(W:Web),(ups W).map (·.1)=nm W:=by
 refine zqy rfl λW p ih=>?_
 rw[zlf]
 unfold zkq nm
 rw[qAO,qAO,ih]
 rfl
theorem zoc(W:Web)(p:Str×List Str):nm (W++[p])=nm W++[p.1]:=by unfold nm;rw[qAO];rfl
theorem zhb{W:Web}{p:Str×List Str}(h:WebOk (W++[p])):WebOk W/\p.1∉nm W/\(∀e∈p.2,e∈nm W)/\p.2.length<=4:=by
 have hp:(W++[p])[W.length]?=some p:=by simp
 refine⟨⟨?_,λi n es e=>?_,λq hq=>h.few q (qy _ hq),?_⟩,?_,λe he=>?_,h.few p (by simp)⟩
 ·have:=h.nd;rw[zoc]at this;exact(qBU.mp this).1
 ·have hi:i<W.length:=(qT.mp e).1
  have q:=h.el i n es (by rw[qq hi];exact e)
  rw[qAp (by omega)]at q
  exact q
 ·have:=h.len;simp at this;omega
 ·have:=h.nd
  rw[zoc]at this
  intro hm
  exact(qBU.mp this).2.2 p.1 hm p.1 (by simp) rfl
 ·have q:=h.el W.length p.1 p.2 hp e he
  rw[qAp (qN _),qB6]at q
  exact q
theorem zjj{l:List (Str×List Str)}{n:Str}(h:n∈l.map (·.1)):∃ks,l.lookup n=some ks/\(n,ks)∈l:=by
 induction l with
 | nil=>simp at h
 | cons q l ih=>
  obtain⟨a,b⟩:=q
  rw[qu]
  cases e:n==a with
  | true=>rw[eq_of_beq e];exact⟨b,rfl,qV⟩
  | false=>
   have hn:n≠a:=beq_eq_false_iff_ne.mp e
   rcases qa.mp h with z|z
   ·exact absurd z hn
   ·obtain⟨ks,h1,h2⟩:=ih z
    exact⟨ks,h1,qM _ h2⟩
theorem zod{W:Web}{p:Str×List Str}{m:Str}(h:m∈nm W):up (W++[p]) m=up W m:=by
 unfold up upL
 rw[zlf]
 unfold zkq
 obtain⟨ks,e,_⟩:=zjj (l:=ups W) (n:=m) (by rw[zji];exact h)
 rw[zgy,e]
 rfl
theorem zqz{l:List (Str×List Str)}{n:Str}(h:n∉l.map (·.1)):l.lookup n=none:=by
 induction l with
 | nil=>rfl
 | cons q l ih=>
  obtain⟨a,b⟩:=q
  rw[qu]
  have h1:n≠a:=λz=>h (by simp[z])
  rw[beq_eq_false_iff_ne.mpr h1]
  exact ih λz=>h (qM _ z)
theorem zajt{W:Web}{p:Str×List Str}(h:p.1∉nm W):up (W++[p]) p.1=p.2.foldl (λks e=>(upL (ups W) e).foldl insS ks) [p.1]:=by
 unfold up upL
 rw[zlf]
 unfold zkq
 rw[zgy,zqz (by rw[zji];exact h)]
 simp[upL]
theorem zapz{W:Web}{n:Str}{es:List Str}(h:(n,es)∈W):n∈nm W:=qAh.mpr ⟨_,h,rfl⟩
theorem zaax{W:Web}(h:WebOk W){n:Str}{es:List Str}(hm:(n,es)∈W):∀e∈es,e∈nm W:=λe he=>by
 obtain⟨i,hi,e'⟩:=qAi hm
 have q:=h.el i n es (by rw[qD hi,e']) e he
 obtain⟨p,h1,h2⟩:=qAh.mp q
 exact qAh.mpr ⟨p,qAz h1,h2⟩
theorem zaju{x:Str}:∀{W:Web},WebOk W->∀{n:Str}{es:List Str},(n,es)∈W->(x∈up W n↔x=n\/∃e∈es,x∈up W e):=by
 intro W
 refine zqy (P:=λW=>WebOk W->∀{n:Str}{es:List Str},(n,es)∈W->(x∈up W n↔x=n\/∃e∈es,x∈up W e)) (λ_ n es h=>nomatch h) (λW p ih h n es hm=>?_) W
 obtain⟨hW,hp,hel,_⟩:=zhb h
 rcases q9.mp hm with hm|hm
 ·rw[zod (zapz hm),ih hW hm]
  have:(∃e∈es,x∈up W e)↔∃e∈es,x∈up (W++[p]) e:=by
   constructor
   ·rintro⟨e,he,hx⟩;exact⟨e,he,by rw[zod (zaax hW hm e he)];exact hx⟩
   ·rintro⟨e,he,hx⟩;exact⟨e,he,by rw[zod (zaax hW hm e he)]at hx;exact hx⟩
  rw[this]
 ·have e:(n,es)=p:=by simpa using hm
  subst e
  rw[zajt hp,zum]
  have:(∃e∈es,x∈upL (ups W) e)↔∃e∈es,x∈up (W++[(n,es)]) e:=by
   constructor
   ·rintro⟨e,he,hx⟩;exact⟨e,he,by rw[zod (hel e he)];exact hx⟩
   ·rintro⟨e,he,hx⟩;exact⟨e,he,by rw[zod (hel e he)]at hx;exact hx⟩
  rw[this]
  simp
theorem zafq:∀{W:Web},WebOk W->∀{n x:Str},x∈up W n->x∈nm W:=by
 intro W
 refine zqy (P:=λW=>WebOk W->∀{n x:Str},x∈up W n->x∈nm W) (λ_ n x h=>by simp[up,ups,upL]at h) (λW p ih h n x hx=>?_) W
 obtain⟨hW,hp,hel,_⟩:=zhb h
 rw[zoc]
 by_cases hn:n∈nm W
 ·rw[zod hn]at hx
  exact qy _ (ih hW hx)
 ·by_cases e:n=p.1
  ·rw[e,zajt hp,zum]at hx
   rcases hx with hx|⟨e',_,hx⟩
   ·exact ql _ (by simpa using hx)
   ·exact qy _ (ih hW hx)
  ·unfold up upL at hx
   rw[zlf]at hx
   unfold zkq at hx
   rw[zgy,zqz (by rw[zji];exact hn),beq_eq_false_iff_ne.mpr e]at hx
   simp at hx
theorem zarw:∀{W:Web}{n:Str},(up W n).Nodup:=by
 intro W
 refine zqy (P:=λW=>∀{n:Str},(up W n).Nodup) (λ{n}=>by simp[up,ups,upL]) (λW p ih n=>?_) W
 unfold up upL
 rw[zlf]
 unfold zkq
 rw[zgy]
 cases e:(ups W).lookup n with
 | some ks=>
  have q:=ih (n:=n)
  unfold up upL at q
  rw[e]at q
  exact q
 | none=>
  show((if n==p.1 then some _ else none).getD []).Nodup
  split
  ·exact zafp (by simp)
  ·exact List.nodup_nil
theorem zaqa{W:Web}(h:WebOk W)(n:Str):(up W n).length<=12:=by
 have:=zqg _ (nm W) (zarw (W:=W) (n:=n)) λx hx=>zafq h hx
 have:=zaae h
 omega
noncomputable def dS(f:List Str->PyData)(l:List (Str×List Str)):List (PyData×PyData):=l.map λp=>(.str p.1,f p.2)
theorem zra(f:List Str->PyData)(n:Str):∀l:List (Str×List Str),zmi (dS f l) (Sum.inr n)=(l.lookup n).map f
 | []=>rfl
 | (a,b)::l=>by
  have ih:=zra f n l
  show(if keyD (.str a)=some (Sum.inr n)then some (f b)else zmi (dS f l) (Sum.inr n))=_
  rw[qu]
  by_cases e:a=n
  ·subst e;rw[if_pos (show keyD (.str a)=some (Sum.inr a)from rfl),beq_self_eq_true];rfl
  ·rw[if_neg (show ¬keyD (.str a)=some (Sum.inr n)from λz=>e (qBo (qS z))),beq_eq_false_iff_ne.mpr (qBC e)]
   exact ih
theorem zafr(f:List Str->PyData){l:List (Str×List Str)}{n:Str}{ks:List Str}(h:n∉l.map (·.1)):zqk (dS f l) (.str n) (f ks)=dS f (l++[(n,ks)]):=by
 unfold zqk dS
 rw[if_neg,qAO]
 ·rfl
 ·intro z
  rw[qBE,qAe]at z
  obtain⟨p,hp,e⟩:=z
  have e:=of_decide_eq_true e
  exact h (qAh.mpr ⟨p,hp,qBo (qS e)⟩)
noncomputable def zjk(ks:List Str):List (PyData×PyData):=ks.map λk=>(.str k,.bool true)
noncomputable def zdq(ks:List Str):PyData:=.dict (zjk ks)
theorem zwu(x:Str):∀ks:List Str,zyn (zjk ks) (Sum.inr x)=decide (x∈ks)
 | []=>by simp[zjk,zyn,zmi]
 | k::ks=>by
  have ih:=zwu x ks
  unfold zyn at ih ⊢
  show(if keyD (.str k)=some (Sum.inr x)then some (PyData.bool true)else zmi (zjk ks) (Sum.inr x)).isSome=_
  by_cases e:k=x
  ·subst e;rw[if_pos (show keyD (.str k)=some (Sum.inr k)from rfl)];simp
  ·rw[if_neg (show ¬keyD (.str k)=some (Sum.inr x)from λz=>e (qBo (qS z))),ih]
   have:¬x=k:=λz=>e z.symm
   simp[this]
theorem zafs(ks:List Str)(k:Str):zqk (zjk ks) (.str k) (.bool true)=zjk (insS ks k):=by
 have ha:((zjk ks).any λkv=>decide (keyD kv.1=keyD (.str k)))=decide (k∈ks):=by
  unfold zjk
  rw[qBE,qx,qAe,decide_eq_true_iff]
  constructor
  ·rintro⟨y,hy,h⟩
   have h:=of_decide_eq_true h
   have:y=k:=qBo (qS h)
   rw[<- this];exact hy
  ·exact λh=>⟨k,h,decide_eq_true rfl⟩
 unfold zqk insS
 rw[ha]
 by_cases hk:k∈ks
 ·rw[if_pos (decide_eq_true hk),if_pos hk]
  unfold zjk
  rw[qBD]
  refine qBL λy _=>?_
  show(if keyD (PyData.str y)=keyD (.str k)then(PyData.str y,PyData.bool true)else(PyData.str y,PyData.bool true))=_
  split<;>rfl
 ·rw[if_neg (by simpa using hk),if_neg hk]
  unfold zjk
  rw[qAO];rfl
theorem zrb:∀(ms ks:List Str),znx (zjk ks) (zjk ms)=zjk (ms.foldl insS ks)
 | [],_=>rfl
 | m::ms,ks=>by
  show znx (zqk (zjk ks) (.str m) (.bool true)) (zjk ms)=_
  rw[zafs,zrb ms];rfl
theorem zaay{α:Type}{pre post:List α}{x:α}{l:List α}(h:pre++x::post=l):l=(pre++[x])++post:=by rw[<- h];simp
theorem zwv:∀{post W:Web},WebOk (W++post)->WebOk W:=by
 intro post
 refine zqy (P:=λpost=>∀{W:Web},WebOk (W++post)->WebOk W) (λ{W} h=>by rwa [qAV]at h) (λpost p ih W h=>?_) post
 rw[<- qBW]at h
 exact ih (zhb h).1
theorem zabx{W:Web}(h:WebOk W):zfu [webD W]=some (.dict (dS zdq (ups W)),true):=by
 have inner:∀(V:Web)(p:Str×List Str)(es pre:List Str)(s5:Sl),WebOk (V++[p])->pre++es=p.2->
   ∃s5',forL (gN 5) (sUpd 4 (zep 1 (eVar 5))) (es.map .str) [.pl (webD W),.ac (.dict (dS zdq (ups V))),.pl (.str p.1),.pl (zaa p.2),.ac (zdq (pre.foldl (λks e=>(upL (ups V) e).foldl insS ks) [p.1])),s5] =
    some (.nx [.pl (webD W),.ac (.dict (dS zdq (ups V))),.pl (.str p.1),.pl (zaa p.2),.ac (zdq (p.2.foldl (λks e=>(upL (ups V) e).foldl insS ks) [p.1])),s5']):=by
  intro V p es
  induction es with
  | nil=>intro pre s5 _ e;rw[qAV]at e;subst e;exact⟨s5,rfl⟩
  | cons e es ih=>
   intro pre s5 hV hp
   obtain⟨hV',hn,hel,hfew⟩:=zhb hV
   have he:e∈nm V:=hel e (by rw[<- hp];simp)
   obtain⟨ks,lk,_⟩:=zjj (l:=ups V) (n:=e) (by rw[zji];exact he)
   have eup:upL (ups V) e=ks:=by unfold upL;rw[lk];rfl
   have l1:ks.length<=12:=by rw[<- eup];exact zaqa hV' e
   have sub:∀x∈pre.foldl (λks e=>(upL (ups V) e).foldl insS ks) [p.1],x∈nm (V++[p]):=λx hx=>by
    rw[zoc]
    rcases zum.mp hx with z|⟨e',_,z⟩
    ·exact ql _ (by simpa using z)
    ·exact qy _ (zafq hV' z)
   have l2:(pre.foldl (λks e=>(upL (ups V) e).foldl insS ks) [p.1]).length<=12:=by
    have:=zqg _ _ (zafp (acc:=ups V) (es:=pre) (ks:=[p.1]) (by simp)) sub
    have:=zaae hV
    omega
   obtain⟨s5',q⟩:=ih (pre++[e]) (.pl (.str e)) hV (by rw[<- hp];simp)
   refine⟨s5',?_⟩
   rw[qp]
   unfold forL
   simp only[gN,qF,List.set_cons_succ,List.set_cons_zero]
   have b:sUpd 4 (zep 1 (eVar 5)) [.pl (webD W),.ac (.dict (dS zdq (ups V))),.pl (.str p.1),.pl (zaa p.2),.ac (zdq (pre.foldl (λks e=>(upL (ups V) e).foldl insS ks) [p.1])),.pl (.str e)] =
     some (.nx [.pl (webD W),.ac (.dict (dS zdq (ups V))),.pl (.str p.1),.pl (zaa p.2),.ac (zdq ((pre++[e]).foldl (λks e=>(upL (ups V) e).foldl insS ks) [p.1])),.pl (.str e)]):=by
    have lz:(zjk (pre.foldl (λks e=>(upL (ups V) e).foldl insS ks) [p.1])).length+(zjk ks).length<=100000:=by unfold zjk;rw[qE,qE];omega
    simp only[sUpd,zdq,zep,eVar,qBd,qBc,qF,keyD,zra,lk,qBg]
    rw[if_pos ⟨lz,by simp⟩,zrb]
    simp[frzs,List.foldl_append,eup]
   rw[b,qF]
   exact q
 have outer:∃env',forL (gT 2 (zcg 2 (zcg 3 zkd))) (sSeq (sSet 4 (eD1 (eVar 2) (eC (.bool true)))) (sSeq (sFor (zbf (eVar 3)) (gN 5) (sUpd 4 (zep 1 (eVar 5)))) (sPut 1 (eVar 2) (eVar 4)))) (W.map rowD) [.pl (webD W),.ac (.dict []),.no,.no,.no,.no]=some (.nx env')/\
   ∃s2 s3 s4 s5,env'=[.pl (webD W),.ac (.dict (dS zdq (ups W))),s2,s3,s4,s5]:=by
  refine zqx (λpre env=>∃s2 s3 s4 s5,env=[.pl (webD W),.ac (.dict (dS zdq (ups pre))),s2,s3,s4,s5]) ⟨_,_,_,_,rfl⟩ ?_
  rintro pre p post env hp ⟨s2,s3,s4,s5,rfl⟩
  have hV:WebOk (pre++[p]):=zwv (post:=post) (by rw[<- zaay hp];exact h)
  obtain⟨hV',hn,hel,hfew⟩:=zhb hV
  obtain⟨s5',q⟩:=inner pre p p.2 [] s5 hV rfl
  refine⟨[.pl (webD W),.ac (.dict (dS zdq (ups pre))),.pl (.str p.1),.pl (zaa p.2),s4,s5],[.pl (webD W),.ac (.dict (dS zdq (ups (pre++[p])))),.pl (.str p.1),.pl (zaa p.2),.pl (zdq (p.2.foldl (λks e=>(upL (ups pre) e).foldl insS ks) [p.1])),s5'],rfl,.inl ?_,_,_,_,_,rfl⟩
  have lz:(dS zdq (ups pre)).length<100000:=by
   unfold dS
   rw[qE,<- qE (f:=(·.1)),zji]
   have:=zaae hV'
   omega
  have st:sSet 4 (eD1 (eVar 2) (eC (.bool true))) [.pl (webD W),.ac (.dict (dS zdq (ups pre))),.pl (.str p.1),.pl (zaa p.2),s4,s5]=some (.nx [.pl (webD W),.ac (.dict (dS zdq (ups pre))),.pl (.str p.1),.pl (zaa p.2),.ac (zdq [p.1]),s5]):=by
   simp[sSet,eD1,eVar,eC,keyD,putV,frzs,slOf,zdq,zjk]
  have pt:sPut 1 (eVar 2) (eVar 4) [.pl (webD W),.ac (.dict (dS zdq (ups pre))),.pl (.str p.1),.pl (zaa p.2),.ac (zdq (p.2.foldl (λks e=>(upL (ups pre) e).foldl insS ks) [p.1])),s5'] =
    some (.nx [.pl (webD W),.ac (.dict (dS zdq (ups (pre++[p])))),.pl (.str p.1),.pl (zaa p.2),.pl (zdq (p.2.foldl (λks e=>(upL (ups pre) e).foldl insS ks) [p.1])),s5']):=by
   simp only[sPut,eVar,qBd,qBc,qF,keyD]
   rw[if_pos ⟨lz,by simp⟩,zafr zdq (by rw[zji];exact hn),zlf]
   simp[frzs,frz1,zkq]
  exact zej st (zej (zpz rfl q) pt)
 obtain⟨env',hl,s2,s3,s4,s5,rfl⟩:=outer
 exact zgx (env:=[.pl (webD W),.no,.no,.no,.no,.no]) rfl (zej rfl (zej (zpz rfl hl) rfl))
noncomputable def ltr(i:Int):Str:=⟨#[97+i.toNat]⟩
noncomputable def Low(x:Str):Prop:=∀c∈x.cps.toList,c<128
theorem zaft{x:Str}(h:Low x):qBP x=true:=by
 unfold qBP
 rw[<- Array.all_toList,qK]
 intro c hc
 have:=h c hc
 exact decide_eq_true (by omega)
theorem zun(a b:Str):(a++b).cps.toList=a.cps.toList++b.cps.toList:=by
 show(a.cps++b.cps).toList=_
 simp
theorem Low.app{a b:Str}(h1:Low a)(h2:Low b):Low (a++b):=λc hc=>by
 rw[zun]at hc
 exact(q9.mp hc).elim (h1 c) (h2 c)
theorem Low.slice{x:Str}(h:Low x)(l u:Option Int):Low (Txt.slice x l u):=λc hc=>by
 unfold Txt.slice at hc
 split at hc
 ·exact h c hc
 ·have hc:c∈(List.filterMap (x.cps[·]?) (Builtin.Str.strSliceIndices l u 1 x.length)):=by simpa using hc
  obtain⟨i,_,e⟩:=qBy.mp hc
  exact h c (by
   have:=Array.mem_of_getElem? e
   simpa using this)
theorem Low.ltr{i:Int}(h0:0<=i)(h1:i<26):Low (ltr i):=λc hc=>by
 have:c=97+i.toNat:=by simpa [Bc.ltr]using hc
 omega
theorem zamt{i j:Int}(h0:0<=i)(h1:0<=j)(h:ltr i=ltr j):i=j:=by
 unfold ltr at h
 have:#[97+i.toNat]=#[97+j.toNat]:=by injection h
 have:97+i.toNat=97+j.toNat:=by simpa using this
 omega
noncomputable abbrev vi(i:Int):Val:=⟨.int i,false,[]⟩
noncomputable abbrev vs(x:Str):Val:=⟨.str x,false,[]⟩
noncomputable abbrev vb(b:Bool):Val:=⟨.bool b,false,[]⟩
section
variable{a b:EF}{env:DEnv}{i j:Int}
theorem zww(ha:a env=some (vi i))(hb:b env=some (vi j))(h:0<j):eOp modD a b env=some (vi (i % j)):=by
 unfold eOp;rw[ha,hb];simp[modD,intD,h,bsOf,zfn]
theorem zajv(ha:a env=some (vi i))(hb:b env=some (vi j))(h:0<j)(h2:j<1073741824):eOp zyl a b env=some (vi (i / j)):=by
 unfold eOp;rw[ha,hb];simp[zyl,intD,h,h2,bsOf,zfn]
theorem zph(ha:a env=some (vi i))(hb:b env=some (vi j)):eOp addD a b env=some (vi (i+j)):=by
 unfold eOp;rw[ha,hb];simp[addD,bsOf,zfn]
theorem zsa(ha:a env=some (vi i))(hb:b env=some (vi j))(h:(-(2 ^ 64)<i/\i<2 ^ 64)\/(-(2 ^ 64)<j/\j<2 ^ 64)):eOp mulD a b env=some (vi (i * j)):=by
 unfold eOp;rw[ha,hb]
 simp only[qF,mulD]
 rw[if_pos h];simp[bsOf,zfn]
theorem zaby(ha:a env=some (vi i))(hb:b env=some (vi j)):eOp eqD a b env=some (vb (i==j)):=by
 unfold eOp;rw[ha,hb];rfl
theorem zajw{x y:Str}(ha:a env=some (vs x))(hb:b env=some (vs y))(h:x.length+y.length<=100000):eOp addD a b env=some (vs (x++y)):=by
 unfold eOp;rw[ha,hb]
 simp only[qF,addD]
 rw[if_pos h];simp[bsOf,zfn]
theorem zaqb{x:Str}{l h:PF'}{lo hi:Option Int}(ha:a env=some (vs x))(hl:l env=some lo)(hh:h env=some hi)(hz:x.length<=100000):eSl a l h env=some (vs (Txt.slice x lo hi)):=by
 unfold eSl;rw[ha,hl,hh]
 simp only[qF,slD]
 rw[if_pos hz];simp[bsOf,zfn]
theorem zajx(ha:a env=some (vi i)):zja a env=some (some i):=by unfold zja;rw[ha];rfl
theorem zcv{c:Bool}(ha:a env=some (vb c)):zas a env=some c:=by unfold zas;rw[ha];rfl
theorem zoe{r:Val}(ha:a env=some r):zac a aNil env=some [r]:=by unfold zac aNil;rw[ha];rfl
theorem zmy{ds:List PyData}{fr:Bool}{bs:List Nat}(ha:a env=some ⟨.list ds,fr,bs⟩):eCB lenD (zac a aNil) env=some (vi ds.length):=by
 unfold eCB
 rw[zoe ha]
 simp[zka,lenD,bsOf,zfn]
theorem zaqc{α β:Type}(f:α->β){l:List α}{n:Nat}{x:α}(h:l[n]?=some x):atI (l.map f) (n:Int)=some (f x):=znn (by rw[qh,h];rfl)
theorem zaqd{k n:Nat}{b:EF}{ds:List PyData}{d:PyData}(he:env[k]?=some (.pl (.list ds)))(hb:b env=some (vi (n:Int)))(hd:ds[n]?=some d):eIxV k b env=some ⟨d,false,[]⟩:=by
 unfold eIxV
 rw[he]
 unfold eOp eVar
 rw[he,hb]
 simp only[qF,ixD]
 rw[znn hd]
 simp[bsOf]
theorem zabz{k n:Nat}{b:EF}{ds:List PyData}{d:PyData}(he:env[k]?=some (.ac (.list ds)))(hb:b env=some (vi (n:Int)))(hd:ds[n]?=some d):eIxV k b env=some ⟨d,false,[]⟩:=by
 unfold eIxV
 rw[he]
 simp only
 rw[hb]
 simp only[qF]
 rw[znn hd];rfl
end
noncomputable def abc:Str:="abcdefghijklmnopqrstuvwxyz"
theorem zamu:(List.range 26).all (λi=>abc.cps.toList[i]?==some (97+i))=true:=by decide +kernel
theorem zamv:abc.length=26:=by decide +kernel
theorem zaqe{i:Int}(h0:0<=i)(h1:i<26):atI abc.cps.toList i=some (97+i.toNat):=by
 have q:=qK.mp zamu i.toNat (qAb.mpr (by omega))
 have e:((i.toNat:Nat):Int)=i:=by omega
 rw[<- e]
 have z:=znn (eq_of_beq q)
 rw[e]at z ⊢
 exact z
theorem zwx(n:Nat):zeo 0 n=(List.range n).map (λ(k:Nat)=>PyData.int (k:Int)):=by
 unfold zeo
 refine qBL λk _=>?_
 show PyData.int (0+(k:Int))=_
 rw[Int.zero_add]
theorem zof(a b:Str):(a++b).length=a.length+b.length:=by
 have:=congrArg List.length (zun a b)
 rw[qR]at this
 simpa [Str.length]using this
theorem zafu:WebOk []:=⟨List.nodup_nil,λi n es e=>by simp at e,λp hp=>by simp at hp,by simp⟩
theorem zafv{W:Web}{p:Str×List Str}(h:WebOk W)(hn:p.1∉nm W)(he:∀e∈p.2,e∈nm W)(hf:p.2.length<=4)(hl:W.length<12):WebOk (W++[p]):=by
 refine⟨by rw[zoc];exact nd_snoc h.nd hn,λi n es e=>?_,λq hq=>?_,by simp;omega⟩
 ·by_cases hi:i<W.length
  ·rw[qq hi]at e
   rw[qAp (by omega)]
   exact h.el i n es e
  ·rw[qt (by omega)]at e
   have hi2:i - W.length=0:=by
    have:=(qT.mp e).1
    simp at this;omega
   rw[hi2]at e
   cases e
   have:i=W.length:=by omega
   subst this
   rw[qAp (qN _),qB6]
   exact he
 ·rcases q9.mp hq with hq|hq
  ·exact h.few q hq
  ·rw[qAM.mp hq];exact hf
theorem zaiq{α:Type}(enc:α->PyData)(l:List α):zvv (l.map enc)=(l.zipIdx).map λ(p:α×Nat)=>PyData.tuple [.int (p.2:Int),enc p.1]:=by
 unfold zvv
 rw[List.zipIdx_map,qBD];rfl
theorem zaqf{α:Type}{l:List α}(nd:l.Nodup){i j:Nat}{hi:i<l.length}{hj:j<l.length}(e:l[i]=l[j]):i=j:=by
 rcases Nat.lt_trichotomy i j with h|h|h
 ·exact absurd e (qAZ.mp nd i j hi hj h)
 ·exact h
 ·exact absurd e.symm (qAZ.mp nd j i hj hi h)
section
variable{a b:EF}{env:DEnv}{x y:Str}
theorem zarx(ha:a env=some (vs x))(hb:b env=some (vs y)):eOp neD a b env=some (vb (!(x==y))):=by
 unfold eOp;rw[ha,hb];rfl
theorem e_in{neg:Bool}{xs:List Str}{fr:Bool}{bs:List Nat}(ha:a env=some (vs x))(hb:b env=some ⟨zaa xs,fr,bs⟩):eOp (inD neg) a b env=some (vb (if neg then !decide (x∈xs)else decide (x∈xs))):=by
 unfold eOp;rw[ha,hb];simp[zafo,bsOf,zfn]
theorem zajy{k:Nat}{kvs:List (PyData×PyData)}{d:PyData}(he:env[k]?=some (.pl (.dict kvs))\/env[k]?=some (.ac (.dict kvs)))(hb:b env=some (vs y))(hd:zmi kvs (Sum.inr y)=some d):zep k b env=some ⟨d,false,[]⟩:=by
 unfold zep
 rcases he with he|he<;>rw[he]<;>simp only<;>rw[hb]<;>simp[keyD,hd]
theorem zaqg{neg:Bool}{ks:List Str}{fr:Bool}{bs:List Nat}(ha:a env=some (vs x))(hb:b env=some ⟨zdq ks,fr,bs⟩):eDIn neg a b env=some (vb (if neg then !decide (x∈ks)else decide (x∈ks))):=by
 unfold eDIn;rw[ha,hb];simp[zdq,keyD,zwu]
end
theorem zwy{n:Str}{es:List Str}:∀{W:Web},W.lookup n=some es->W[(nm W).idxOf n]?=some (n,es)
 | [],h=>by cases h
 | (a,b)::W,h=>by
  rw[qu]at h
  show((a,b)::W)[(a::nm W).idxOf n]?=_
  rw[List.idxOf_cons]
  cases e:n==a with
  | true=>
   rw[e]at h
   cases h
   rw[<- eq_of_beq e]
   simp
  | false=>
   rw[e]at h
   have hne:(a==n)=false:=by
    have:=beq_eq_false_iff_ne.mp e
    exact beq_eq_false_iff_ne.mpr (qBC this)
   rw[hne]
   simpa using zwy (W:=W) h
theorem zair{l:List Str}{n:Nat}{x:Str}(h:x∈l.take n):l.idxOf x<n:=by
 have:l.idxOf x=(l.take n).idxOf x:=by
  conv=>lhs;rw[<- List.take_append_drop n l]
  rw[List.idxOf_append,if_pos h]
 rw[this]
 have h2:=List.idxOf_lt_length_of_mem h
 rw[qAq]at h2
 omega
theorem zaqh{W:Web}(h:WebOk W){n e:Str}(he:e∈upL W n):e∈nm W/\(nm W).idxOf e<(nm W).idxOf n:=by
 unfold upL at he
 cases hl:W.lookup n with
 | none=>rw[hl]at he;simp at he
 | some es=>
  rw[hl]at he
  have hi:=zwy hl
  have q:=h.el _ _ _ hi e he
  have:nm (W.take ((nm W).idxOf n))=(nm W).take ((nm W).idxOf n):=by unfold nm;rw[List.map_take]
  rw[this]at q
  exact⟨qAz q,zair q⟩
theorem zafw{W:Web}{n:Str}(h:n∈nm W):∃es,W.lookup n=some es/\(n,es)∈W:=zjj (l:=W) (n:=n) h
theorem zaqi{W:Web}(h:WebOk W){n x:Str}(hn:n∈nm W):x∈up W n↔x=n\/∃e∈upL W n,x∈up W e:=by
 obtain⟨es,hl,hm⟩:=zafw hn
 rw[zaju h hm]
 unfold upL
 rw[hl];rfl
theorem zaca{W:Web}{n:Str}(h:n∈nm W):(ups W).lookup n=some (up W n):=by
 obtain⟨ks,e,_⟩:=zjj (l:=ups W) (n:=n) (by rw[zji];exact h)
 unfold up upL
 rw[e];rfl
theorem zcr{a:EF}{f:AF}{env:DEnv}{r:Val}{rs:List Val}(ha:a env=some r)(hf:f env=some rs):zac a f env=some (r::rs):=by unfold zac;rw[ha,hf];rfl
theorem zrc{f:EF}{env:DEnv}{c:Bool}(h:f env=some (vb c)):zfe (tTru f) env=some (!c):=by unfold zfe tTru;rw[h];rfl
theorem zuo:∀(xs:List Str),(∀x∈xs,qBP x=true)->qAY (xs.map .str)=true/\qAv (xs.map .str)=0
 | [],_=>⟨rfl,rfl⟩
 | x::xs,h=>by
  obtain⟨h1,h2⟩:=zuo xs λy hy=>h y (qM _ hy)
  rw[qp]
  refine⟨?_,?_⟩
  ·show(qBP x&&qAY (xs.map .str))=true
   rw[h x qV,h1];rfl
  ·show max 0 (qAv (xs.map .str))=0
   rw[h2];rfl
noncomputable def hdg(W:Web)(n:Str):List Str:=(nm W).filter λx=>decide (x∈up W n)
theorem zup{W:Web}(h:WebOk W){n x:Str}:x∈hdg W n↔x∈up W n:=by
 unfold hdg;rw[qBK,decide_eq_true_iff];exact⟨λz=>z.2,λz=>⟨zafq h z,z⟩⟩
theorem zamw{W:Web}(h:WebOk W){n:Str}:(hdg W n).length<=12:=qAd (qCg _ _) (zaae h)
theorem zajz:∀(ks seen:List Key),unl seen ks<=ks.length
 | [],_=>qN _
 | k::ks,seen=>by
  unfold unl
  have:=zajz ks (k::seen)
  rw[qv]
  split<;>omega
theorem zaka:∀(ks seen:List Key),unl seen ks=ks.length↔ks.Nodup/\∀k∈ks,k∉seen
 | [],_=>by simp[unl]
 | k::ks,seen=>by
  have l:=zajz ks (k::seen)
  have ih:=zaka ks (k::seen)
  unfold unl
  rw[qv,qAQ]
  by_cases hk:k∈seen
  ·rw[if_pos hk]
   constructor
   ·intro z;omega
   ·intro z;exact absurd hk (z.2 k qV)
  ·rw[if_neg hk]
   constructor
   ·intro z
    obtain⟨n,a⟩:=ih.mp (by omega)
    exact⟨⟨λy=>a k y qV,n⟩,λx hx=>by
     rcases qa.mp hx with rfl|hx
     ·exact hk
     ·exact λy=>a x hx (qM _ y)⟩
   ·rintro⟨⟨n1,n2⟩,a⟩
    have:=ih.mpr ⟨n2,λx hx y=>by
     rcases qa.mp y with rfl|y
     ·exact n1 hx
     ·exact a x (qM _ hx) y⟩
    omega
theorem zwz:∀(xs:List Str),zyt (xs.map .str)=some (xs.map Sum.inr)
 | []=>rfl
 | x::xs=>by
  show((keyD (.str x)).bind λk=>(zyt (xs.map .str)).map λks=>k::ks)=_
  rw[zwz xs];rfl
theorem zafx:∀(xs:List Str),(xs.map (Sum.inr:Str->Key)).Nodup↔xs.Nodup
 | []=>by simp
 | x::xs=>by
  rw[qp,qAQ,qAQ,zafx xs]
  simp
theorem zrd{α:Type}(f:α->Bool):∀(l:List α),zqm (l.map λx=>.bool (f x))=some (l.map f)
 | []=>rfl
 | x::l=>by
  show(zqm (l.map λx=>.bool (f x))).map _=_
  rw[zrd f l];rfl
theorem zais{α:Type}{f:α->Bool}{l:List α}{a:EF}{env:DEnv}{fr:Bool}{bs:List Nat}(ha:a env=some ⟨.list (l.map λx=>.bool (f x)),fr,bs⟩):eCB (anyD λbs=>bs.all id) (zac a aNil) env=some (vb (l.all f)):=by
 unfold eCB
 rw[zoe ha,qF]
 show((zqm (l.map λx=>.bool (f x))).map _).bind _=_
 rw[zrd]
 simp only[qBg,qF,qBm]
 rfl
theorem zre{α:Type}{enc:α->PyData}{out:α->List PyData}{g:GT}{t:TF}{f2:IF'}{g2:GT}{t2:TF}{e:EF}{env:DEnv}:∀{l:List α},(∀x∈l,∃e1,g (enc x) env=some e1/\t e1=some true/\innL f2 g2 t2 e e1=some (out x))->
  zkh g t f2 g2 t2 e env (l.map enc)=some (l.flatMap out)
 | [],_=>rfl
 | x::l,h=>by
  obtain⟨e1,h1,h2,h3⟩:=h x qV
  have ih:=zre (l:=l) λy hy=>h y (qM _ hy)
  rw[qp]
  unfold zkh
  rw[h1,qF,h2,qF,if_pos rfl,h3,qF,ih,qBV]
  rfl
theorem zait{own:List Str}{fr:List Nat}{fi:IF'}{g:GT}{t:TF}{f2:IF'}{g2:GT}{t2:TF}{e:EF}{env:DEnv}{ds:List PyData}{bs:List Nat}{rs:List PyData}(h:fi env=some (ds,bs))(hl:ds.length<300)(k:zkh g t f2 g2 t2 e (envB own fr env) ds=some rs) :
  zvy own fr fi g t f2 g2 t2 e env=some ⟨.list rs,true,if zel rs=true then[]else bs++capA fr env⟩:=by
 unfold zvy;rw[h,qF,if_pos hl,k];rfl
theorem zacb{α β:Type}(f:α->List β)(p:α->β->Bool)(l:List α):(l.flatMap λx=>(f x).map λe=>PyData.bool (p x e))=((l.flatMap λx=>(f x).map λe=>(x,e)).map λz=>PyData.bool (p z.1 z.2)):=by
 induction l with
 | nil=>rfl
 | cons x l ih=>rw[qBV,qBV,qAO,ih,qBD];rfl
noncomputable def zog(ns:List Int):SFf:=(fSeq (fS (sSet 2 (eC (.int 0))))
  (fSeq (zafg 1 2 ns)
  (fSeq (fS (sSet 3 (eCB absD (zac (eVar 2) aNil))))
  (fSeq (fIfP (zas (eOp ltD (eVar 3) (eOp powD (eC (.int 10)) (eC (.int 18))))) (fS (sSet 3 (eC (.int 0)))) fNx)
  (zhv (eLst (zac (eVar 3) (zac (eOp modD (eOp addD (eOp addD (eOp mulD (eOp modD (eVar 2) (eC (.int 2147483423))) (eC (.int 48271))) (eOp mulD (eC (.int 6151)) (eVar 1))) (eC (.int 17))) (eC (.int 2147483423))) (zac (eC (.int 0)) aNil)))))))))
theorem zamx(ns:List Int)(z:Int)(h0:0<=z)(h1:z<=1000):∃env',zog ns [.no,.pl (.int z),.no,.no]=some (.rt (.list (zmt ns z)) true env'):=by
 have e1:zog ns [.no,.pl (.int z),.no,.no]=(fSeq (fS (sSet 3 (eCB absD (zac (eVar 2) aNil))))
  (fSeq (fIfP (zas (eOp ltD (eVar 3) (eOp powD (eC (.int 10)) (eC (.int 18))))) (fS (sSet 3 (eC (.int 0)))) fNx)
  (zhv (eLst (zac (eVar 3) (zac (eOp modD (eOp addD (eOp addD (eOp mulD (eOp modD (eVar 2) (eC (.int 2147483423))) (eC (.int 48271))) (eOp mulD (eC (.int 6151)) (eVar 1))) (eC (.int 17))) (eC (.int 2147483423))) (zac (eC (.int 0)) aNil))))))) [.no,.pl (.int z),.pl (.int (ns.getD z.toNat 0)),.no]:=by
  show(fSeq (zafg 1 2 ns) _) [.no,.pl (.int z),.pl (.int 0),.no]=_
  unfold fSeq zafg
  show Option.bind (if 0<=z then some (OutF.nx (if z<ns.length then[.no,.pl (.int z),.pl (.int (ns.getD z.toNat 0)),.no]else[.no,.pl (.int z),.pl (.int 0),.no]))else none) _=_
  rw[if_pos h0]
  by_cases hl:z<ns.length
  ·rw[if_pos hl];rfl
  ·rw[if_neg hl,show ns.getD z.toNat 0=0 by rw[qQ,qBl (by omega)];rfl]
   rfl
 rw[e1]
 have hfd:zmt ns z=[.int (if(if ns.getD z.toNat 0<0 then -ns.getD z.toNat 0 else ns.getD z.toNat 0)<10 ^ 18 then 0 else(if ns.getD z.toNat 0<0 then -ns.getD z.toNat 0 else ns.getD z.toNat 0)),.int ((ns.getD z.toNat 0 % 2147483423 * 48271+6151 * z+17) % 2147483423),.int 0]:=rfl
 rw[hfd]
 clear hfd e1
 generalize ns.getD z.toNat 0=c
 have e2:∀g:Int,(zhv (eLst (zac (eVar 3) (zac (eOp modD (eOp addD (eOp addD (eOp mulD (eOp modD (eVar 2) (eC (.int 2147483423))) (eC (.int 48271))) (eOp mulD (eC (.int 6151)) (eVar 1))) (eC (.int 17))) (eC (.int 2147483423))) (zac (eC (.int 0)) aNil))))) [.no,.pl (.int z),.pl (.int c),.pl (.int g)]=some (.rt (.list [.int g,.int ((c % 2147483423 * 48271+6151 * z+17) % 2147483423),.int 0]) true [.no,.pl (.int z),.pl (.int c),.pl (.int g)]):=λg=>by
  have m:eOp modD (eOp addD (eOp addD (eOp mulD (eOp modD (eVar 2) (eC (.int 2147483423))) (eC (.int 48271))) (eOp mulD (eC (.int 6151)) (eVar 1))) (eC (.int 17))) (eC (.int 2147483423)) [.no,.pl (.int z),.pl (.int c),.pl (.int g)]=some (vi ((c % 2147483423 * 48271+6151 * z+17) % 2147483423)):=
   zww (zph (zph (zsa (zww rfl rfl (by decide)) rfl (.inr (by decide))) (zsa rfl rfl (.inl (by decide)))) rfl) rfl (by decide)
  unfold zhv eLst zac
  rw[m]
  rfl
 have e3:(fSeq (fS (sSet 3 (eCB absD (zac (eVar 2) aNil)))) (fSeq (fIfP (zas (eOp ltD (eVar 3) (eOp powD (eC (.int 10)) (eC (.int 18))))) (fS (sSet 3 (eC (.int 0)))) fNx)
  (zhv (eLst (zac (eVar 3) (zac (eOp modD (eOp addD (eOp addD (eOp mulD (eOp modD (eVar 2) (eC (.int 2147483423))) (eC (.int 48271))) (eOp mulD (eC (.int 6151)) (eVar 1))) (eC (.int 17))) (eC (.int 2147483423))) (zac (eC (.int 0)) aNil))))))) [.no,.pl (.int z),.pl (.int c),.no] =
  (fSeq (fIfP (zas (eOp ltD (eVar 3) (eOp powD (eC (.int 10)) (eC (.int 18))))) (fS (sSet 3 (eC (.int 0)))) fNx)
  (zhv (eLst (zac (eVar 3) (zac (eOp modD (eOp addD (eOp addD (eOp mulD (eOp modD (eVar 2) (eC (.int 2147483423))) (eC (.int 48271))) (eOp mulD (eC (.int 6151)) (eVar 1))) (eC (.int 17))) (eC (.int 2147483423))) (zac (eC (.int 0)) aNil)))))) [.no,.pl (.int z),.pl (.int c),.pl (.int (if c<0 then -c else c))]:=rfl
 rw[e3]
 have e4:∀g:Int,zas (eOp ltD (eVar 3) (eOp powD (eC (.int 10)) (eC (.int 18)))) [.no,.pl (.int z),.pl (.int c),.pl (.int g)]=some (decide (g<10 ^ 18)):=λg=>rfl
 generalize (if c<0 then -c else c)=g
 unfold fSeq fIfP
 rw[e4,qF]
 by_cases hg:g<10 ^ 18
 ·rw[if_pos (decide_eq_true hg),if_pos hg]
  exact⟨_,e2 0⟩
 ·rw[if_neg (by rw[decide_eq_false hg];decide),if_neg hg]
  exact⟨_,e2 g⟩
noncomputable def zhc:SFf:=(fSeq (fIfP (zas (eOp gtD (eIxV 0 (eC (.int 0))) (eC (.int 0)))) (fSeq (fS (sSet 2 (eOp modD (eIxV 0 (eC (.int 0))) (eVar 1))))
  (fSeq (fS (zyw 0 (eC (.int 0)) (eOp zyl (eIxV 0 (eC (.int 0))) (eVar 1))))
  (zob 2))) fNx)
  (fSeq (fS (sSet 3 (eOp addD (eIxV 0 (eC (.int 2))) (eC (.int 1)))))
  (fSeq (fS (zyw 0 (eC (.int 2)) (eVar 3)))
  (fSeq (fS (sSet 4 (eOp modD (eOp addD (eOp addD (eIxV 0 (eC (.int 1))) (eOp mulD (eOp mulD (eC (.int 40692)) (eVar 3)) (eVar 3))) (eOp mulD (eC (.int 69621)) (eVar 3))) (eC (.int 2147483647)))))
  (fSeq (fS (sSet 4 (eOp modD (eOp addD (eOp addD (eOp mulD (eVar 4) (eVar 4)) (eOp mulD (eC (.int 39373)) (eVar 4))) (eVar 3)) (eC (.int 2147483579)))))
  (fSeq (fS (sSet 4 (eOp modD (eOp addD (eOp mulD (eVar 4) (eVar 4)) (eOp mulD (eC (.int 16807)) (eVar 4))) (eC (.int 2147483549)))))
  (zhv (eOp modD (eOp zyl (eVar 4) (eC (.int 64))) (eVar 1)))))))))
noncomputable def zah:GE:=fnF 5 zhc
noncomputable def zfl:SFf:=(fSeq (fS (sSet 2 (eC (.str ""))))
  (fSeq (fFor (zes (zac (eVar 1) aNil)) (gN 3)
  (fSet 2 (fOp addD (zak 0 (eVar 2)) (fOp ixD (zak 0 (eC (.str "abcdefghijklmnopqrstuvwxyz"))) (zao 0 2 zah (zap (zak 0 (eC (.int 26))) (fNil 0)))))))
  (zob 2)))
noncomputable def zbu:GE:=fnF 4 zfl
noncomputable def zkr:SFf:=(fSeq (fS (sSet 2 (eLst aNil)))
  (fSeq (fFor (zes (zac (eCB lenD (zac (eVar 1) aNil)) aNil)) (gN 3)
  (fSeq (fS (sSet 4 (eLst aNil)))
  (fSeq (zms (zdp (zap (fCB minD (zap (zak 0 (eVar 3)) (zap (zao 0 2 zah (zap (zak 0 (eC (.int 5))) (fNil 0))) (fNil 0)))) (fNil 0))) (gN 5)
  (fSeq (fSet 6 (fOp ixD (zak 0 (eVar 1)) (zao 0 2 zah (zap (zak 0 (eVar 3)) (fNil 0)))))
  (fIfP (zas (eOp (inD true) (eVar 6) (eVar 4))) (fApp 4 (zak 0 (eVar 6))) fNx)))
  (fApp 2 (zak 0 (eTup (zac (eIxV 1 (eVar 3)) (zac (eVar 4) aNil))))))))
  (zob 2)))
noncomputable def zgn:GE:=fnF 7 zkr
noncomputable def zrf:SF:=(sSeq (sSet 1 zli)
  (sSeq (sFor (zbf (eVar 0)) (gT 2 (zcg 2 (zcg 3 zkd)))
  (sSeq (sSet 4 (eLst (zac (eVar 2) aNil)))
  (sSeq (sFor (zbf (eVar 3)) (gN 5)
  (sSet 4 (eOp addD (eVar 4) (zep 1 (eVar 5)))))
  (sPut 1 (eVar 2) (zfs ["_law_other","_law_rest"] [4] (zbf (eVar 0)) (gT 2 (zcg 0 (zcg 1 zkd))) (zas (eOp (inD false) (eVar 0) (eVar 2))) (eVar 0))))))
  (zaen 1)))
noncomputable def zfv:GF:=fnD 6 zrf
noncomputable def zdw:SFf:=(fSeq (fSet 2 (fOp ixD (zak 0 (eLst (zac (eC (.int 0)) (zac (eC (.int 1)) (zac (eC (.int 2)) (zac (eC (.int 7)) aNil)))))) (zao 0 2 zah (zap (zak 0 (eC (.int 4))) (fNil 0)))))
  (fSeq (fSet 3 (zao 0 2 zah (zap (zak 0 (eC (.int 2))) (fNil 0))))
  (fSeq (fSet 4 (zao 0 2 zah (zap (zak 0 (eC (.int 8))) (fNil 0))))
  (fSeq (fSet 5 (zao 0 2 zah (zap (zak 0 (eC (.int 26))) (fNil 0))))
  (fSeq (fSet 6 (fOp ixD (zak 0 (eLst (zac (eC (.int 1)) (zac (eC (.int 3)) (zac (eC (.int 5)) (zac (eC (.int 7)) (zac (eC (.int 9)) (zac (eC (.int 11)) (zac (eC (.int 15)) (zac (eC (.int 17)) (zac (eC (.int 19)) (zac (eC (.int 21)) (zac (eC (.int 23)) (zac (eC (.int 25)) aNil)))))))))))))) (zao 0 2 zah (zap (zak 0 (eC (.int 12))) (fNil 0)))))
  (fSeq (fSet 7 (zao 0 2 zbu (zap (zak 0 (eVar 2)) (fNil 0))))
  (fSeq (fS (sSet 8 (eLst aNil)))
  (fSeq (fFor (zes (zac (eVar 1) aNil)) (gN 9)
  (fSeq (fIfP (zas (eOp eqD (eVar 3) (eC (.int 0)))) (fSet 7 (zao 0 2 zbu (zap (zao 0 2 zah (zap (zak 0 (eOp addD (eVar 2) (eC (.int 1)))) (fNil 0))) (fNil 0)))) fNx)
  (fSeq (fS (sSet 10 (eOp ixD (eC (.str "abcdefghijklmnopqrstuvwxyz")) (eOp modD (eOp addD (eVar 5) (eOp mulD (eVar 6) (eVar 9))) (eC (.int 26))))))
  (fApp 8 (zak 0 (eOp addD (eOp addD (eSl (eVar 7) zlj (zja (eVar 4))) (eVar 10)) (eSl (eVar 7) (zja (eVar 4)) zlj)))))))
  (zob 8)))))))))
noncomputable def zbv:GE:=fnF 11 zdw
noncomputable def zhq:SF:=(sSeq (sIf (zfe (tTru (eCB (anyD λbs=>bs.all id) (zac (zfs ["thing"] [0] (zbf (eVar 1)) (gN 0) zgr (eOp (inJ false) (eVar 0) (eVar 1))) aNil)))) (sRet (eC (.bool false))) sNil)
  (sRet (eOp eqD (zty (eVar 1)) (eCB lenD (zac (eVar 1) aNil)))))
noncomputable def zcj:GF:=fnD 2 zhq
noncomputable def zrg:SF:=(sRet (eAnd (eIsi "list" (eVar 1)) (eAnd (eOp leD (eCB lenD (zac (eVar 1) aNil)) (eC (.int 5))) (zbj 2 zcj (zac (eVar 0) (zac (eVar 1) aNil))))))
noncomputable def zhr:GF:=fnD 2 zrg
noncomputable def zxa:SF:=(sSeq (sIf (tOrF (zfe (tTru (eIsi "list" (eVar 1)))) (zas (eOp gtD (eCB lenD (zac (eVar 1) aNil)) (eC (.int 2))))) (sRet (eC (.bool false))) sNil)
  (sSeq (sSet 2 (zbj 1 zec (zac (eVar 0) aNil)))
  (sRet (eCB (anyD λbs=>bs.all id) (zac (zfs ["bundle"] [2] (zbf (eVar 1)) (gN 0) zgr (zbj 2 zhr (zac (eVar 1) (zac (eVar 0) aNil)))) aNil)))))
noncomputable def zcs:GF:=fnD 3 zxa
noncomputable def zmz:SF:=(sRet (eCB (anyD λbs=>bs.any id) (zac (zfs ["bundle"] [1] (zbf (eVar 0)) (gN 0) zgr (eCB (anyD λbs=>bs.all id) (zac (zfs ["name"] [0] (zbf (eVar 1)) (gN 0) zgr (eOp (inD false) (eVar 0) (eVar 1))) aNil))) aNil)))
noncomputable def zed:GF:=fnD 2 zmz
noncomputable def zrh:SF:=(sRet (eNot (eCB (anyD λbs=>bs.any id) (zac (zvy ["number","low","high"] [0,1] (zaak (zac (eVar 1) aNil)) (gT 2 (zcg 0 (zcg 1 zkd))) zgr (zbf (eSlT (eVar 4) zlj (zja (eVar 0)))) (gN 2) zgr (eDIn false (eVar 2) (zep 3 (eVar 1)))) aNil))))
noncomputable def zfw:GF:=fnD 2 zrh
noncomputable def zpa:SF:=(sSeq (sIf (tOrF (zfe (tTru (eIsi "tuple" (eVar 2)))) (zas (eOp ltD (eCB lenD (zac (eVar 2) aNil)) (eC (.int 2))))) (sRet (eC (.bool false))) sNil)
  (sSeq (sIf (zas (eOp neJ (eVar 2) (eCB zhn (zac (zfs ["name"] [2] (zbf (zbj 1 zec (zac (eVar 0) aNil))) (gN 0) (zas (eOp (inJ false) (eVar 0) (eVar 1))) (eVar 0)) aNil)))) (sRet (eC (.bool false))) sNil)
  (sRet (eAnd (zbj 2 zed (zac (eVar 1) (zac (eVar 2) aNil))) (zbj 2 zfw (zac (zbj 1 zfu (zac (eVar 0) aNil)) (zac (eVar 2) aNil)))))))
noncomputable def zdx:GF:=fnD 3 zpa
noncomputable def zfm:SFf:=(fSeq (fS (sSet 2 (eLst (zac (eVar 1) (zac (eC (.str "")) (zac (eC (.str "A")) (zac (eC (.str "a1")) (zac (eC (.str "abcdefghi")) (zac (eC .none) (zac (eC (.int 0)) (zac (eC (.bool true)) (zac (eLst (zac (eC (.str "a")) aNil)) (zac (eTup (zac (eC (.str "a")) (zac (eC (.str "b")) aNil))) (zac (eD1 (eC (.str "a")) (eLst (zac (eC (.str "b")) aNil))) (zac (eVar 1) aNil)))))))))))))))
  (fRet (fOp ixD (zak 0 (eVar 2)) (zao 0 2 zah (zap (zak 0 (eC (.int 12))) (fNil 0))))))
noncomputable def zbi:GE:=fnF 3 zfm
noncomputable def zcz:SFf:=(fSeq (fSet 3 (zao 0 2 zah (zap (zak 0 (eC (.int 4))) (fNil 0))))
  (fSeq (fS (sSet 4 (eLst aNil)))
  (fSeq (zms (zdp (zap (zao 0 2 zah (zap (zak 0 (eC (.int 4))) (fNil 0))) (fNil 0))) (gN 5)
  (fSeq (fS (sSet 6 (eLst aNil)))
  (fSeq (zms (zdp (zap (zao 0 2 zah (zap (zak 0 (eC (.int 7))) (fNil 0))) (fNil 0))) (gN 7)
  (fSeq (fSet 8 (fOp ixD (zak 0 (eVar 1)) (zao 0 2 zah (zap (zak 0 (eCB lenD (zac (eVar 1) aNil))) (fNil 0)))))
  (fSeq (fIf (gAnd (zft 0 (zas (eOp eqD (eVar 3) (eC (.int 0))))) (gB (fOp eqD (zao 0 2 zah (zap (zak 0 (eC (.int 4))) (fNil 0))) (zak 0 (eC (.int 0)))))) (fSet 8 (zao 0 2 zbi (zap (zak 0 (eVar 2)) (fNil 0)))) fNx)
  (fIf (gOr (zft 0 (zas (eOp (inJ true) (eVar 8) (eVar 6)))) (gB (fOp eqD (zao 0 2 zah (zap (zak 0 (eC (.int 8))) (fNil 0))) (zak 0 (eC (.int 0)))))) (fApp 6 (zak 0 (eVar 8))) fNx))))
  (fSeq (fIf (gAnd (zft 0 (zas (eOp eqD (eVar 3) (eC (.int 1))))) (gB (fOp eqD (zao 0 2 zah (zap (zak 0 (eC (.int 4))) (fNil 0))) (zak 0 (eC (.int 0)))))) (fSet 6 (fOp ixD (zak 0 (eLst (zac (eCB zhn (zac (eVar 6) aNil)) (zac (eC (.str "")) (zac (eC .none) (zac (eC (.int 0)) (zac zli aNil))))))) (zao 0 2 zah (zap (zak 0 (eC (.int 5))) (fNil 0))))) fNx)
  (fApp 4 (zak 0 (eVar 6)))))))
  (fSeq (fIf (gAnd (zft 0 (zas (eOp eqD (eVar 3) (eC (.int 2))))) (gB (fOp eqD (zao 0 2 zah (zap (zak 0 (eC (.int 3))) (fNil 0))) (zak 0 (eC (.int 0)))))) (fSet 4 (fOp ixD (zak 0 (eLst (zac (eCB zhn (zac (eVar 4) aNil)) (zac (eC .none) (zac (eC (.str "")) (zac zli aNil)))))) (zao 0 2 zah (zap (zak 0 (eC (.int 4))) (fNil 0))))) fNx)
  (zob 4)))))
noncomputable def zbk:GE:=fnF 9 zcz
noncomputable def zks:SF:=(sSeq (sIf (tOrF (zfe (tTru (eIsi "list" (eVar 1)))) (zas (eOp gtD (eCB lenD (zac (eVar 1) aNil)) (eC (.int 5))))) (sRet (eC (.bool false))) sNil)
  (sSeq (sFor (zes (zac (eCB lenD (zac (eVar 1) aNil)) aNil)) (gN 2)
  (sIf (tOrF (zfe (tTru (eIsi "str" (eIxV 1 (eVar 2))))) (tOrF (zas (eOp (inJ true) (eIxV 1 (eVar 2)) (eVar 0))) (zas (eOp (inJ false) (eIxV 1 (eVar 2)) (eSl (eVar 1) zlj (zja (eVar 2))))))) (sRet (eC (.bool false))) sNil))
  (sRet (eC (.bool true)))))
noncomputable def zdy:GF:=fnD 3 zks
noncomputable def zna:SF:=(sSeq (sIf (tOrF (zfe (tTru (eIsi "list" (eVar 1)))) (zas (eOp gtD (eCB lenD (zac (eVar 1) aNil)) (eC (.int 2))))) (sRet (eC (.bool false))) sNil)
  (sRet (eCB (anyD λbs=>bs.all id) (zac (zfs ["_law_some"] [0] (zbf (eVar 1)) (gN 0) zgr (zbj 2 zdy (zac (eVar 1) (zac (eVar 0) aNil)))) aNil))))
noncomputable def zdj:GF:=fnD 2 zna
noncomputable def zio:SFf:=(fSeq (fS (sSet 2 (eLst aNil)))
  (fSeq (zms (zdp (zap (zao 0 2 zah (zap (zak 0 (eC (.int 3))) (fNil 0))) (fNil 0))) (gN 3)
  (fSeq (fS (sSet 4 (eLst aNil)))
  (fSeq (zms (zdp (zap (zao 0 2 zah (zap (zak 0 (eC (.int 6))) (fNil 0))) (fNil 0))) (gN 5)
  (fSeq (fSet 6 (fOp ixD (zak 0 (eVar 1)) (zao 0 2 zah (zap (zak 0 (eCB lenD (zac (eVar 1) aNil))) (fNil 0)))))
  (fIfP (zas (eOp (inD true) (eVar 6) (eVar 4))) (fApp 4 (zak 0 (eVar 6))) fNx)))
  (fApp 2 (zak 0 (eVar 4))))))
  (zob 2)))
noncomputable def zex:GE:=fnF 7 zio
noncomputable def zer:SFf:=(fSeq (fS (sSet 4 (eVar 1)))
  (fSeq (fIf (gAnd (zft 0 (zas (eOp neD (eVar 2) (eLst aNil)))) (gAnd (zft 0 (zas (eOp neD (eIxV 2 (eNeg (eC (.int 1)))) (eLst aNil)))) (gB (fOp gtD (zao 0 2 zah (zap (zak 0 (eC (.int 4))) (fNil 0))) (zak 0 (eC (.int 0))))))) (fS (sSet 4 (eIxV 2 (eNeg (eC (.int 1)))))) fNx)
  (fSeq (fS (sSet 5 (eLst aNil)))
  (fSeq (zms (zdp (zap (zao 0 2 zah (zap (zak 0 (eC (.int 6))) (fNil 0))) (fNil 0))) (gN 6)
  (fSeq (fSet 7 (fOp ixD (zak 0 (eVar 4)) (zao 0 2 zah (zap (zak 0 (eCB lenD (zac (eVar 4) aNil))) (fNil 0)))))
  (fIf (gOr (zft 0 (zas (eOp (inD true) (eVar 7) (eVar 5)))) (gB (fOp eqD (zao 0 2 zah (zap (zak 0 (eC (.int 16))) (fNil 0))) (zak 0 (eC (.int 0)))))) (fApp 5 (zak 0 (eVar 7))) fNx)))
  (fSeq (fIf (gB (fOp gtD (zao 0 2 zah (zap (zak 0 (eC (.int 3))) (fNil 0))) (zak 0 (eC (.int 0))))) (fS (sSet 5 (zfs ["_law_name"] [5] (zbf (eVar 1)) (gN 0) (zas (eOp (inD false) (eVar 0) (eVar 1))) (eVar 0)))) fNx)
  (fSeq (fIf (gB (fOp eqD (zao 0 2 zah (zap (zak 0 (eC (.int 8))) (fNil 0))) (zak 0 (eC (.int 0))))) (fIns 5 (zap (zao 0 2 zah (zap (zak 0 (eOp addD (eCB lenD (zac (eVar 5) aNil)) (eC (.int 1)))) (fNil 0))) (zap (zao 0 2 zbi (zap (zak 0 (eVar 3)) (fNil 0))) (fNil 0)))) fNx)
  (fSeq (fIf (gB (fOp eqD (zao 0 2 zah (zap (zak 0 (eC (.int 12))) (fNil 0))) (zak 0 (eC (.int 0))))) (zob 5) fNx)
  (fSeq (fIf (gB (fOp eqD (zao 0 2 zah (zap (zak 0 (eC (.int 24))) (fNil 0))) (zak 0 (eC (.int 0))))) (fRet (fOp ixD (zak 0 (eLst (zac (eVar 3) (zac (eC .none) (zac (eC (.int 7)) (zac (eC (.bool true)) (zac zli (zac (eIxV 1 (eC (.int 0))) aNil)))))))) (zao 0 2 zah (zap (zak 0 (eC (.int 6))) (fNil 0))))) fNx)
  (zhv (eCB zhn (zac (eVar 5) aNil)))))))))))
noncomputable def zbl:GE:=fnF 8 zer
noncomputable def zjs:SF:=(sSeq (sIf (tOrF (zfe (tTru (eIsi "tuple" (eVar 3)))) (zas (eOp ltD (eCB lenD (zac (eVar 3) aNil)) (eC (.int 2))))) (sRet (eC (.bool false))) sNil)
  (sSeq (sSet 4 (eNeg (eC (.int 1))))
  (sSeq (sFor (zbf (eVar 3)) (gN 5)
  (sSeq (sIf (tOrF (zfe (tTru (eIsi "str" (eVar 5)))) (tOrF (zas (eOp (inD true) (eVar 5) (eVar 0))) (zas (eOp leD (zkl (eVar 0) (eVar 5)) (eVar 4))))) (sRet (eC (.bool false))) sNil)
  (sSet 4 (zkl (eVar 0) (eVar 5)))))
  (sSeq (sFor (zbf (eVar 3)) (gN 6)
  (sFor (zbf (eVar 3)) (gN 7)
  (sIf (zyo (zas (eOp neD (eVar 6) (eVar 7))) (zas (eOp (inD false) (eVar 7) (zep 1 (eVar 6))))) (sRet (eC (.bool false))) sNil)))
  (sRet (eCB (anyD λbs=>bs.any id) (zac (zfs ["_law_some"] [3] (zbf (eVar 2)) (gN 0) zgr (eCB (anyD λbs=>bs.all id) (zac (zfs ["_law_part"] [0] (zbf (eVar 1)) (gN 0) zgr (eOp (inD false) (eVar 0) (eVar 1))) aNil))) aNil)))))))
noncomputable def zca:GF:=fnD 8 zjs
noncomputable def zlv:GF->SF:=λ(G:GF)=>(sSeq (sIf (tTru (eIsi "list" (eVar 0))) (sRet (zfs ["_law_part"] [] (zbf (eVar 0)) (gN 0) zgr (zbj 1 G (zac (eVar 0) aNil)))) sNil)
  (zaen 0))
noncomputable def zck:Nat->GF
 | 0=>λ_=>none
 | n+1=>fnD 1 (zlv (zck n))
noncomputable def zay:GF:=zck 7
theorem zaiu:bootBuiltins "abs"=some (.builtin "abs"):=by decide +kernel
theorem znb:bootBuiltins "all"=some (.builtin "all"):=by decide +kernel
theorem zuq:bootBuiltins "any"=some (.builtin "any"):=by decide +kernel
theorem zxb:bootBuiltins "bool"=some (.type "bool"):=by decide +kernel
theorem zbg:bootBuiltins "isinstance"=some (.builtin "isinstance"):=by decide +kernel
theorem zdk:bootBuiltins "len"=some (.builtin "len"):=by decide +kernel
theorem zkt:bootBuiltins "list"=some (.type "list"):=by decide +kernel
theorem zaaz:bootBuiltins "min"=some (.builtin "min"):=by decide +kernel
theorem zara:bootBuiltins "set"=some (.type "set"):=by decide +kernel
theorem zaba:bootBuiltins "str"=some (.type "str"):=by decide +kernel
theorem zhd:bootBuiltins "tuple"=some (.type "tuple"):=by decide +kernel
noncomputable def top(i:Nat):Stmt:=PySem.Challenge.pw_bestcalls_k22_sorts_and_kinds_to_come.main.body.getD i (.Pass ⟨0,0,0,0⟩)
structure Txt(mg:Str->Option Value):Prop where
 abs:mg "abs"=none
 all:mg "all"=none
 any:mg "any"=none
 bool:mg "bool"=none
 enumerate:mg "enumerate"=none
 isinstance:mg "isinstance"=none
 len:mg "len"=none
 list:mg "list"=none
 min:mg "min"=none
 range:mg "range"=none
 set:mg "set"=none
 str:mg "str"=none
 tuple:mg "tuple"=none
 MOST_BUNDLES:∃t,mg "MOST_BUNDLES"=some (.int 2 t)
 MOST_IN_BUNDLE:∃t,mg "MOST_IN_BUNDLE"=some (.int 5 t)
noncomputable abbrev zda:Stmt:=top 1
noncomputable abbrev zku:List Str:=["known","things"]
theorem zpi:zku.Nodup:=by decide +kernel
theorem zpj:FnScope zku ["known","things"] (zar zda):=⟨rfl,rfl,rfl,zpi,rfl,by decide +kernel,by decide +kernel⟩
noncomputable abbrev zhe:Stmt:=top 2
noncomputable abbrev zsu:List Str:=["web"]
theorem zze:zsu.Nodup:=by decide +kernel
theorem zzf:FnScope zsu ["web"] (zar zhe):=⟨rfl,rfl,rfl,zze,rfl,by decide +kernel,by decide +kernel⟩
noncomputable abbrev zhf:Stmt:=top 3
noncomputable abbrev zsv:List Str:=["web","roofs","name","elders","roof","elder"]
theorem zfx:zsv.Nodup:=by decide +kernel
theorem zzg:FnScope zsv ["web"] (zar zhf):=⟨rfl,rfl,rfl,zfx,rfl,by decide +kernel,by decide +kernel⟩
noncomputable abbrev zfy:Stmt:=top 7
noncomputable abbrev zri:List Str:=["known","thing"]
theorem zxc:zri.Nodup:=by decide +kernel
theorem zxd:FnScope zri ["known","thing"] (zar zfy):=⟨rfl,rfl,rfl,zxc,rfl,by decide +kernel,by decide +kernel⟩
noncomputable abbrev ziq:Stmt:=top 8
noncomputable abbrev zxe:List Str:=["web","thing","known"]
theorem zsw:zxe.Nodup:=by decide +kernel
theorem zacc:FnScope zxe ["web","thing"] (zar ziq):=⟨rfl,rfl,rfl,zsw,rfl,by decide +kernel,by decide +kernel⟩
noncomputable abbrev zee:Stmt:=top 9
noncomputable abbrev znc:List Str:=["sort","names"]
theorem zsb:znc.Nodup:=by decide +kernel
theorem zsc:FnScope znc ["sort","names"] (zar zee):=⟨rfl,rfl,rfl,zsb,rfl,by decide +kernel,by decide +kernel⟩
noncomputable abbrev zfz:Stmt:=top 10
noncomputable abbrev zrj:List Str:=["roofs","names"]
theorem zxf:zrj.Nodup:=by decide +kernel
theorem zxg:FnScope zrj ["roofs","names"] (zar zfz):=⟨rfl,rfl,rfl,zxf,rfl,by decide +kernel,by decide +kernel⟩
noncomputable abbrev zey:Stmt:=top 11
noncomputable abbrev zpb:List Str:=["web","sort","thing"]
theorem zur:zpb.Nodup:=by decide +kernel
theorem zus:FnScope zpb ["web","sort","thing"] (zar zey):=⟨rfl,rfl,rfl,zur,rfl,by decide +kernel,by decide +kernel⟩
noncomputable abbrev zhg:Stmt:=top 13
noncomputable abbrev zsx:List Str:=["_law_script","_law_k","_law_cell","_law_great"]
theorem zhs:zsx.Nodup:=by decide +kernel
theorem zzh:FnScope zsx ["_law_script","_law_k"] (zar zhg):=⟨rfl,rfl,rfl,zhs,rfl,by decide +kernel,by decide +kernel⟩
noncomputable abbrev zhh:Stmt:=top 14
noncomputable abbrev zsy:List Str:=["_law_feed_here","_law_many","_law_digit","_law_step","_law_mixed"]
theorem zga:zsy.Nodup:=by decide +kernel
theorem zzi:FnScope zsy ["_law_feed_here","_law_many"] (zar zhh):=⟨rfl,rfl,rfl,zga,rfl,by decide +kernel,by decide +kernel⟩
noncomputable abbrev zef:Stmt:=top 15
noncomputable abbrev znd:List Str:=["_law_feed_here","_law_many","_law_word","_law_k"]
theorem zgi:znd.Nodup:=by decide +kernel
theorem zsd:FnScope znd ["_law_feed_here","_law_many"] (zar zef):=⟨rfl,rfl,rfl,zgi,rfl,by decide +kernel,by decide +kernel⟩
noncomputable abbrev zgb:Stmt:=top 16
noncomputable abbrev zrk:List Str:=["_law_feed_here","_law_many","_law_size","_law_same","_law_at","_law_first","_law_step","_law_base","_law_names_here","_law_k","_law_sign"]
theorem zbw:zrk.Nodup:=by decide +kernel
theorem zxh:FnScope zrk ["_law_feed_here","_law_many"] (zar zgb):=⟨rfl,rfl,rfl,zbw,rfl,by decide +kernel,by decide +kernel⟩
noncomputable abbrev zir:Stmt:=top 17
noncomputable abbrev zxi:List Str:=["_law_feed_here","_law_names_here","_law_web_here","_law_k","_law_elders","_law_j","_law_name"]
theorem zhi:zxi.Nodup:=by decide +kernel
theorem zacd:FnScope zxi ["_law_feed_here","_law_names_here"] (zar zir):=⟨rfl,rfl,rfl,zhi,rfl,by decide +kernel,by decide +kernel⟩
noncomputable abbrev zgc:Stmt:=top 18
noncomputable abbrev zrl:List Str:=["_law_web_here","_law_table","_law_name","_law_elders","_law_some","_law_elder"]
theorem zdz:zrl.Nodup:=by decide +kernel
theorem zxj:FnScope zrl ["_law_web_here"] (zar zgc):=⟨rfl,rfl,rfl,zdz,rfl,by decide +kernel,by decide +kernel⟩
noncomputable abbrev zis:Stmt:=top 19
noncomputable abbrev zxk:List Str:=["_law_feed_here","_law_stranger","_law_some"]
theorem zsz:zxk.Nodup:=by decide +kernel
theorem zace:FnScope zxk ["_law_feed_here","_law_stranger"] (zar zis):=⟨rfl,rfl,rfl,zsz,rfl,by decide +kernel,by decide +kernel⟩
noncomputable abbrev zcc:Stmt:=top 20
noncomputable abbrev zit:List Str:=["_law_feed_here","_law_names_here","_law_stranger","_law_odd_here","_law_found","_law_k","_law_some","_law_j","_law_thing"]
theorem zbb:zit.Nodup:=by decide +kernel
theorem zne:FnScope zit ["_law_feed_here","_law_names_here","_law_stranger"] (zar zcc):=⟨rfl,rfl,rfl,zbb,rfl,by decide +kernel,by decide +kernel⟩
noncomputable abbrev zdb:Stmt:=top 21
noncomputable abbrev zkv:List Str:=["_law_names_here","_law_thing","_law_k"]
theorem zjt:zkv.Nodup:=by decide +kernel
theorem zpk:FnScope zkv ["_law_names_here","_law_thing"] (zar zdb):=⟨rfl,rfl,rfl,zjt,rfl,by decide +kernel,by decide +kernel⟩
noncomputable abbrev zeg:Stmt:=top 22
noncomputable abbrev znf:List Str:=["_law_names_here","_law_thing"]
theorem zse:znf.Nodup:=by decide +kernel
theorem zsf:FnScope znf ["_law_names_here","_law_thing"] (zar zeg):=⟨rfl,rfl,rfl,zse,rfl,by decide +kernel,by decide +kernel⟩
noncomputable abbrev zhj:Stmt:=top 23
noncomputable abbrev zta:List Str:=["_law_feed_here","_law_names_here","_law_found","_law_k","_law_some","_law_j","_law_name"]
theorem zgd:zta.Nodup:=by decide +kernel
theorem zzj:FnScope zta ["_law_feed_here","_law_names_here"] (zar zhj):=⟨rfl,rfl,rfl,zgd,rfl,by decide +kernel,by decide +kernel⟩
noncomputable abbrev zdn:Stmt:=top 24
noncomputable abbrev zlw:List Str:=["_law_feed_here","_law_names_here","_law_sort_here","_law_stranger","_law_some","_law_pick","_law_j","_law_name"]
theorem zcl:zlw.Nodup:=by decide +kernel
theorem zrm:FnScope zlw ["_law_feed_here","_law_names_here","_law_sort_here","_law_stranger"] (zar zdn):=⟨rfl,rfl,rfl,zcl,rfl,by decide +kernel,by decide +kernel⟩
noncomputable abbrev zcp:Stmt:=top 25
noncomputable abbrev zju:List Str:=["_law_names_here","_law_table","_law_sort_here","_law_thing","_law_last","_law_part","_law_one","_law_other"]
theorem zcd:zju.Nodup:=by decide +kernel
theorem zoh:FnScope zju ["_law_names_here","_law_table","_law_sort_here","_law_thing"] (zar zcp):=⟨rfl,rfl,rfl,zcd,rfl,by decide +kernel,by decide +kernel⟩
noncomputable abbrev zhk:Stmt:=top 26
noncomputable abbrev ztb:List Str:=["_law_thing"]
theorem zzk:ztb.Nodup:=by decide +kernel
theorem zrn:FnScope ztb ["_law_thing"] (zar zhk):=⟨rfl,rfl,rfl,zzk,rfl,by decide +kernel,by decide +kernel⟩
noncomputable abbrev zut:Stmt:=top 27
noncomputable abbrev zaqj:List Str:=["_law_script","_law_many","_law_k","_law_feed_here","_law_names_here","_law_stranger","_law_web_here","_law_table","_law_thing","_law_handed","_law_found","_law_sort_here","_law_turn","_law_coming","_law_kept","_law_told"]
theorem zgo:zaqj.Nodup:=by decide +kernel
theorem zaqk:FnScope zaqj ["_law_script"] (zar zut):=⟨rfl,rfl,rfl,zgo,rfl,by decide +kernel,by decide +kernel⟩
theorem zmc:(["thing","known"]:List Str).Nodup:=by decide +kernel
theorem zlx:(["name","elders"]:List Str).Nodup:=by decide +kernel
theorem zuu:(["bundle","known"]:List Str).Nodup:=by decide +kernel
theorem zoi:(["bundle","names"]:List Str).Nodup:=by decide +kernel
theorem zoj:(["name","bundle"]:List Str).Nodup:=by decide +kernel
theorem zht:(["number","low","high","roofs","names"]:List Str).Nodup:=by decide +kernel
theorem zpl:(["name","thing"]:List Str).Nodup:=by decide +kernel
theorem zkw:(["_law_other","_law_rest","_law_some"]:List Str).Nodup:=by decide +kernel
theorem zok:(["_law_some","_law_names_here"]:List Str).Nodup:=by decide +kernel
theorem zng:(["_law_name","_law_pick"]:List Str).Nodup:=by decide +kernel
theorem zll:(["_law_some","_law_thing"]:List Str).Nodup:=by decide +kernel
theorem zlm:(["_law_part","_law_some"]:List Str).Nodup:=by decide +kernel
theorem zsg:(["_law_part"]:List Str).Nodup:=by decide +kernel
section
variable(P:Program)(w:World)(K:qC)(mg:Str->Option Value)(base:Heap)
noncomputable abbrev zkx:Prop:=Dn P w K mg base "are_unlike_of" ["known","things"] 1 (spD 2 zcj)
noncomputable abbrev zol:Prop:=Dn P w K mg base "names_of" ["web"] 1 (spD 1 zec)
noncomputable abbrev ztc:Prop:=Dn P w K mg base "roofs_of" ["web"] 1 (spD 1 zfu)
noncomputable abbrev zro:Prop:=Dn P w K mg base "is_bundle" ["known","thing"] 2 (spD 2 zhr)
noncomputable abbrev zxl:Prop:=Dn P w K mg base "is_sort" ["web","thing"] 3 (spD 2 zcs)
noncomputable abbrev znh:Prop:=Dn P w K mg base "are_bundled" ["sort","names"] 1 (spD 2 zed)
noncomputable abbrev zrp:Prop:=Dn P w K mg base "are_apart" ["roofs","names"] 1 (spD 2 zfw)
noncomputable abbrev zpc:Prop:=Dn P w K mg base "is_to_come" ["web","sort","thing"] 2 (spD 3 zdx)
noncomputable abbrev ztd:Prop:=Dn P w K mg base "_law_feed" ["_law_script","_law_k"] 1 (zaar K)
noncomputable abbrev zeh:Prop:=Dn P w K mg base "_law_take" ["_law_feed_here","_law_many"] 1 (spF 2 zah)
noncomputable abbrev zni:Prop:=Dn P w K mg base "_law_letters" ["_law_feed_here","_law_many"] 2 (spF 2 zbu)
noncomputable abbrev zrq:Prop:=Dn P w K mg base "_law_names" ["_law_feed_here","_law_many"] 3 (spF 2 zbv)
noncomputable abbrev zxm:Prop:=Dn P w K mg base "_law_web" ["_law_feed_here","_law_names_here"] 2 (spF 2 zgn)
noncomputable abbrev zrr:Prop:=Dn P w K mg base "_law_above" ["_law_web_here"] 1 (spD 1 zfv)
noncomputable abbrev zrs:Prop:=Dn P w K mg base "_law_odd" ["_law_feed_here","_law_stranger"] 2 (spF 2 zbi)
noncomputable abbrev ziu:Prop:=Dn P w K mg base "_law_may_be_sort" ["_law_feed_here","_law_names_here","_law_stranger"] 3 (spF 3 zbk)
noncomputable abbrev zky:Prop:=Dn P w K mg base "_law_is_bundle" ["_law_names_here","_law_thing"] 1 (spD 2 zdy)
noncomputable abbrev znj:Prop:=Dn P w K mg base "_law_is_sort" ["_law_names_here","_law_thing"] 2 (spD 2 zdj)
noncomputable abbrev zte:Prop:=Dn P w K mg base "_law_sort" ["_law_feed_here","_law_names_here"] 2 (spF 2 zex)
noncomputable abbrev zly:Prop:=Dn P w K mg base "_law_may_come" ["_law_feed_here","_law_names_here","_law_sort_here","_law_stranger"] 3 (spF 4 zbl)
noncomputable abbrev zjv:Prop:=Dn P w K mg base "_law_is_to_come" ["_law_names_here","_law_table","_law_sort_here","_law_thing"] 1 (spD 4 zca)
noncomputable abbrev ztf:Prop:=Dn P w K mg base "_law_copy" ["_law_thing"] 8 (spD 1 zay)
end
section
variable{P:Program}{w:World}{K:qC}{mg:Str->Option Value}{base:Heap}
theorem zpm {f:Addr} {fd:qAA} (F:Fun K "are_unlike_of" "are_unlike_of" zda f fd) (T:Txt mg)  : FnOk P w K mg base CX0 1 f fd ["known","things"] (spD 2 zcj):=by
 refine F.ok zpj (λvs H Q E h=>zff h) (λcdv A outer s H vs Q E hr h=>?_)
 have hu:=zhm hr
 apply Exists.intro
 apply And.intro
 ·refine' Bx.out (zaf (zch (zig (zcy (K:=K) rfl (bpeB (zjy (K:=K) rfl rfl) T.all znb (bpaC (zdm (zcw (N':=["thing","known"]) (own:=["thing"]) (fr:=[0]) (by kernel_rfl)) rfl (zbz (K:=K) rfl (bv 1)) ?hb1 (by intro _;rfl)) zae)) (λ_=>rfl))) (zal (zbc zfg)) zbd)
 (zal (zbc (zmn (zhy (K:=K) rfl hr.units) (zabt rfl (by rfl) T.len (by rfl) T.set (bv 1) (zav (by rfl))) (bpeB (zce (K:=K) rfl) T.len zdk (bpaC (bv 1) zae)) (zbt _)))))
  case hb1=>(intro cl C s H fp;refine'⟨Bx.out (bpgN (i:=0) zmc rfl (Or.inl rfl)),Bx.out zho,Bx.out (zmn (zafn hr.units) (bv 0) (bv 1) (by rfl))⟩)
 exact fn_d (f:=zhq) ((zei (zqn (zlo (zjz (zgk zot (zag (zgq (zev (zad 1)) zdu (zie (by decide)) zkg (zbe zws (zad 0) (zad 1))) zaw)))) (zen (se_c λ_=>zau)) zkc) (zen (zbe zmh (zaey (zad 1)) (zgk zij (zag (zad 1) zaw)))))) h
theorem zzl {f:Addr} {fd:qAA} (F:Fun K "names_of" "names_of" zhe f fd) (T:Txt mg)  : FnOk P w K mg base CX0 1 f fd ["web"] (spD 1 zec):=by
 refine F.ok zzf (λvs H Q E h=>zff h) (λcdv A outer s H vs Q E hr h=>?_)
 have hu:=zhm hr
 apply Exists.intro
 apply And.intro
 ·refine' Bx.out (zal (zbc (zdm (zcw (N':=["name","elders"]) (own:=["name","elders"]) (fr:=[]) (by kernel_rfl)) rfl (zbz (K:=K) rfl (bv 0)) ?hb1 (by intro _;rfl))))
  case hb1=>(intro cl C s H fp;refine'⟨Bx.out (zmr (K:=K) (n:=2) rfl rfl (zeq (bpgN (i:=0) zlx rfl (Or.inl rfl)) (zeq (bpgN (i:=1) zlx rfl (Or.inl rfl)) zmq (by rfl)) (by rfl)) (by rfl) (by rfl)),Bx.out zho,Bx.out (bv 0)⟩)
 exact fn_d (f:=zim) ((zen (zgq (zev (zad 0)) (zvu (zgg (zgg zqo))) (zajm (zps (by decide) (zps (by decide) zaep))) zkg (zad 0)))) h
theorem zzm {f:Addr} {fd:qAA} (F:Fun K "roofs_of" "roofs_of" zhf f fd) (T:Txt mg)  : FnOk P w K mg base CX0 1 f fd ["web"] (spD 1 zfu):=by
 refine F.ok zzg (λvs H Q E h=>zff h) (λcdv A outer s H vs Q E hr h=>?_)
 have hu:=zhm hr
 apply Exists.intro
 apply And.intro
 ·refine' Bx.out (zaf (bpsS (i:=1) zfx rfl (Or.inl rfl) zki)
 (zaf (zdg qo rfl (zbz (K:=K) rfl (bv 0)) (zmr (K:=K) (n:=2) rfl rfl (zeq (bpgN (i:=2) zfx rfl (Or.inl rfl)) (zeq (bpgN (i:=3) zfx rfl (Or.inl rfl)) zmq (by rfl)) (by rfl)) (by rfl) (by rfl))
  (zaf (bpsS (i:=4) zfx rfl (Or.inl rfl) (zaam (zwc (bv 2) zfg zaal) rfl rfl (by simp) (by decide)))
 (zaf (zdg qo rfl (zbz (K:=K) rfl (bv 3)) (bpgN (i:=5) zfx rfl (Or.inl rfl))
  (zal (zgh (zgt (K:=K) rfl PySem.F.plainAttrs_dict PySem.F.slot_dict_update PySem.F.type_dict_update zadw (bv 4) (bpaC (zpx hu (bv 1) (bv 5) (λ_ _=>rfl)) zae) (by rfl) (by rfl) (by rfl) (zav (by rfl)) (by rfl)) (by rfl))) (by intro _;rfl))
 (zal (zaan hu (bv 1) (bv 2) (bv 4) rfl)))) (by intro _;rfl))
 (zal (zbc (bv 1)))))
 exact fn_d (f:=zss) ((zei (zov zql) (zei (zow (zev (zad 0)) (zvu (zgg (zgg zqo))) (zei (zov (zapl (zad 2) (se_c λ_=>zau))) (zei (zow (zev (zad 3)) zdu (zapo (zpt (zad 5)))) (zajl (zad 2) (zad 4))))) zyq))) h
theorem zxn{f:Addr}{fd:qAA}(F:Fun K "is_bundle" "is_bundle" zfy f fd)(T:Txt mg)(D_are_unlike_of:zkx P w K mg base):FnOk P w K mg base CX0 2 f fd ["known","thing"] (spD 2 zhr):=by
 refine F.ok zxd (λvs H Q E h=>zff h) (λcdv A outer s H vs Q E hr h=>?_)
 have hu:=zhm hr
 apply Exists.intro
 apply And.intro
 ·refine' Bx.out (zal (zbc (zyx (bpeB (zds (K:=K) rfl) T.isinstance zbg (bpaC (bv 1) (bpaC (zfi (v:=.ty "list") (by rfl) T.list zkt rfl (by decide) (by decide)) zae))) (zyx (zmn zaoh (bpeB (zce (K:=K) rfl) T.len zdk (bpaC (bv 1) zae)) (zwd (by rfl) T.MOST_IN_BUNDLE (by decide)) (zbt _)) (zafa (bpeD D_are_unlike_of hr (bpaC (bv 0) (bpaC (bv 1) zae))))))))
 exact fn_d (f:=zrg) ((zen (zaek (zkb (zad 1) zml) (zaek (zbe zapg (zgk zij (zag (zad 1) zaw)) (se_c λ_=>zab)) (zcx (zag (zad 0) (zag (zad 1) zaw))))))) h
theorem zacf{f:Addr}{fd:qAA}(F:Fun K "is_sort" "is_sort" ziq f fd)(T:Txt mg)(D_is_bundle:zro P w K mg base)(D_names_of:zol P w K mg base):FnOk P w K mg base CX0 3 f fd ["web","thing"] (spD 2 zcs):=by
 refine F.ok zacc (λvs H Q E h=>zff h) (λcdv A outer s H vs Q E hr h=>?_)
 have hu:=zhm hr
 apply Exists.intro
 apply And.intro
 ·refine' Bx.out (zaf (zch (zgu (zig (zcy (K:=K) rfl (bpeB (zds (K:=K) rfl) T.isinstance zbg (bpaC (bv 1) (bpaC (zfi (v:=.ty "list") (by rfl) T.list zkt rfl (by decide) (by decide)) zae))) (λ_=>rfl))) (zgs (zax zabd (bpeB (zce (K:=K) rfl) T.len zdk (bpaC (bv 1) zae)) (zwd (by rfl) T.MOST_BUNDLES (by decide)) (zbt _)))).pt (zal (zbc zfg)) zbd)
 (zaf (bpsS (i:=2) zsw rfl (Or.inr rfl) (bpeD D_names_of hr (bpaC (bv 0) zae)))
 (zal (zbc (bpeB (zjy (K:=K) rfl rfl) T.all znb (bpaC (zdm (zcw (N':=["bundle","known"]) (own:=["bundle"]) (fr:=[2]) (by kernel_rfl)) rfl (zbz (K:=K) rfl (bv 1)) ?hb1 (by intro _;rfl)) zae))))))
  case hb1=>(intro cl C s H fp;refine'⟨Bx.out (bpgN (i:=0) zuu rfl (Or.inl rfl)),Bx.out zho,Bx.out (bpeD D_is_bundle hr (bpaC (bv 1) (bpaC (bv 0) zae)))⟩)
 exact fn_d (f:=zxa) ((zei (zqn (zmj (zlo (zjz (zkb (zad 1) zml))) (st_t (zbe zabo (zgk zij (zag (zad 1) zaw)) (se_c λ_=>zab)))) (zen (se_c λ_=>zau)) zkc) (zei (zov (zcx (zag (zad 0) zaw))) (zen (zgk zot (zag (zgq (zev (zad 1)) zdu (zie (by decide)) zkg (zcx (zag (zad 1) (zag (zad 0) zaw)))) zaw)))))) h
theorem zsh {f:Addr} {fd:qAA} (F:Fun K "are_bundled" "are_bundled" zee f fd) (T:Txt mg)  : FnOk P w K mg base CX0 1 f fd ["sort","names"] (spD 2 zed):=by
 refine F.ok zsc (λvs H Q E h=>zff h) (λcdv A outer s H vs Q E hr h=>?_)
 have hu:=zhm hr
 apply Exists.intro
 apply And.intro
 ·refine' Bx.out (zal (zbc (bpeB (zqh (K:=K) rfl rfl) T.any zuq (bpaC (zdm (zcw (N':=["bundle","names"]) (own:=["bundle"]) (fr:=[1]) (by kernel_rfl)) rfl (zbz (K:=K) rfl (bv 0)) ?hb1 (by intro _;rfl)) zae))))
  case hb1=>(intro cl C s H fp;refine'⟨Bx.out (bpgN (i:=0) zoi rfl (Or.inr rfl)),Bx.out zho,Bx.out (bpeB (zjy (K:=K) rfl rfl) T.all znb (bpaC (zdm (zcw (N':=["name","bundle"]) (own:=["name"]) (fr:=[0]) (by kernel_rfl)) rfl (zbz (K:=K) rfl (bv 1)) ?hb2 (by intro _;rfl)) zae))⟩;case hb2=>(intro cl C s H fp;refine'⟨Bx.out (bpgN (i:=0) zoj rfl (Or.inl rfl)),Bx.out zho,Bx.out (zmn (zvq (K:=K) rfl) (bv 0) (bv 1) (by rfl))⟩))
 exact fn_d (f:=zmz) ((zen (zgk zot (zag (zgq (zev (zad 0)) zdu (zie (by decide)) zkg (zgk zot (zag (zgq (zev (zad 1)) zdu (zie (by decide)) zkg (zbe zts (zad 0) (zad 1))) zaw))) zaw)))) h
theorem zxo {f:Addr} {fd:qAA} (F:Fun K "are_apart" "are_apart" zfz f fd) (T:Txt mg)  : FnOk P w K mg base CX0 1 f fd ["roofs","names"] (spD 2 zfw):=by
 refine F.ok zxg (λvs H Q E h=>zff h) (λcdv A outer s H vs Q E hr h=>?_)
 have hu:=zhm hr
 apply Exists.intro
 apply And.intro
 ·refine' Bx.out (zal (zbc (zamj (bpeB (zqh (K:=K) rfl rfl) T.any zuq (bpaC (zafd (zcw (N':=["number","low","high","roofs","names"]) (own:=["number","low","high"]) (fr:=[0,1]) (by kernel_rfl)) rfl (zafb (K:=K) rfl rfl T.enumerate (bpaC (bv 1) zae) (by rfl)) ?hb1 (by intro _;rfl) (by intro _ _;rfl)) zae)))))
  case hb1=>(intro cl C s H fp;refine'⟨Bx.out (zmr (K:=K) (n:=2) rfl rfl (zeq (bpgN (i:=0) zht rfl (Or.inl rfl)) (zeq (bpgN (i:=1) zht rfl (Or.inl rfl)) zmq (by rfl)) (by rfl)) (by rfl) (by rfl)),Bx.out zho,Bx.out (zbz (K:=K) rfl (zmo (sl_W (K:=K) rfl) (bv 4) zpw (zpv (bv 0)))),Bx.out (bpgN (i:=2) zht rfl (Or.inl rfl)),Bx.out zho,Bx.out (zaml (zamk hu (bv 2) (zpx hu (bv 3) (bv 1) (λ_ _=>rfl))) (by rfl))⟩)
 exact fn_d (f:=zrh) ((zen (zapk (zgk zot (zag (zahw (k:=2) (zaib (zag (zad 1) zaw)) (zvu (zgg (zgg zqo))) (zapr (zaai (by decide) (by decide) (zaai (by decide) (by decide) zamd))) (by decide) zkg (zev (zapw (zad 4) ztt (ztu (zad 0)))) zdu (zamc (by decide) (by decide)) zkg (zapi (zad 2) (zpt (zad 1)))) zaw))))) h
theorem zuv{f:Addr}{fd:qAA}(F:Fun K "is_to_come" "is_to_come" zey f fd)(T:Txt mg)(D_are_apart:zrp P w K mg base)(D_are_bundled:znh P w K mg base)(D_names_of:zol P w K mg base)(D_roofs_of:ztc P w K mg base):FnOk P w K mg base CX0 2 f fd ["web","sort","thing"] (spD 3 zdx):=by
 refine F.ok zus (λvs H Q E h=>zff h) (λcdv A outer s H vs Q E hr h=>?_)
 have hu:=zhm hr
 apply Exists.intro
 apply And.intro
 ·refine' Bx.out (zaf (zch (zgu (zig (zcy (K:=K) rfl (bpeB (zds (K:=K) rfl) T.isinstance zbg (bpaC (bv 2) (bpaC (zfi (v:=.ty "tuple") (by rfl) T.tuple zhd rfl (by decide) (by decide)) zae))) (λ_=>rfl))) (zgs (zax zags (bpeB (zce (K:=K) rfl) T.len zdk (bpaC (bv 2) zae)) zai (zbt _)))).pt (zal (zbc zfg)) zbd)
 (zaf (zch (zax (zajr hr.units) (bv 2) (bpeT (zjc (K:=K) rfl) T.tuple zhd (bpaC (zdm (zcw (N':=["name","thing"]) (own:=["name"]) (fr:=[2]) (by kernel_rfl)) rfl (zbz (K:=K) rfl (bpeD D_names_of hr (bpaC (bv 0) zae))) ?hb1 (by intro _;rfl)) zae)) (zbt _)) (zal (zbc zfg)) zbd)
 (zal (zbc (zyx (bpeD D_are_bundled hr (bpaC (bv 1) (bpaC (bv 2) zae))) (zafa (bpeD D_are_apart hr (bpaC (bpeD D_roofs_of hr (bpaC (bv 0) zae)) (bpaC (bv 2) zae)))))))))
  case hb1=>(intro cl C s H fp;refine'⟨Bx.out (bpgN (i:=0) zpl rfl (Or.inl rfl)),Bx.out (zyy (zax (zafn hr.units) (bv 0) (bv 1) (by rfl))),Bx.out (bv 0)⟩)
 exact fn_d (f:=zpa) ((zei (zqn (zmj (zlo (zjz (zkb (zad 2) zvt))) (st_t (zbe zalt (zgk zij (zag (zad 2) zaw)) (se_c λ_=>zab)))) (zen (se_c λ_=>zau)) zkc) (zei (zqn (st_t (zbe zajs (zad 2) (zgk zpr (zag (zgq (zev (zcx (zag (zad 0) zaw))) zdu (zie (by decide)) (st_t (zbe zws (zad 0) (zad 1))) (zad 0)) zaw)))) (zen (se_c λ_=>zau)) zkc) (zen (zaek (zcx (zag (zad 1) (zag (zad 2) zaw))) (zcx (zag (zcx (zag (zad 0) zaw)) (zag (zad 2) zaw)))))))) h
theorem zzn{f:Addr}{fd:qAA}(F:Fun K "_law_feed" "_law_feed" zhg f fd)(T:Txt mg):FnOk P w K mg base CX0 1 f fd ["_law_script","_law_k"] (zaar K):=by
 refine F.ok zzh (λvs H Q E h=>by obtain⟨a,ns,z,rfl,_⟩:=h;rfl) (λcdv A outer s H vs Q E hr h=>?_)
 have hu:=zhm hr
 apply Exists.intro
 apply And.intro
 ·refine' Bx.out (zaf (bpsS (i:=2) zhs rfl (Or.inl rfl) zai)
 (zaf (zch (zax zags (bv 1) (bpeB (zce (K:=K) rfl) T.len zdk (bpaC (bv 0) zae)) (zbt _)) (zal (bpsS (i:=2) zhs rfl (Or.inl rfl) (bpeX (zgp (K:=K) rfl) (bv 0) (bv 1)))) zbd)
 (zaf (bpsS (i:=3) zhs rfl (Or.inl rfl) (bpeB zagu T.abs zaiu (bpaC (bv 2) zae)))
 (zaf (zch (zax zags (bv 3) (zbo zaog zai zai) (zbt _)) (zal (bpsS (i:=3) zhs rfl (Or.inl rfl) zai)) zbd)
 (zal (zbc (zct (bpaC (bv 3) (bpaC (zbo zoq (zbo (zcq (K:=K) rfl) (zbo (zcq (K:=K) rfl) (zbo zic (zbo zoq (bv 2) zai) zai) (zbo zic zai (bv 1))) zai) zai) (bpaC zai zae))))))))))
 exact zamn rfl (F:=zog) (λns=>(zdo rfl (zgl (zci (zbq (se_c λ_=>zab) (by decide)))) (zdo rfl (zaii (by decide)) (zdo rfl (zgl (zci (zbq (zgk zapn (zag (zad 2) zaw)) (by decide)))) (zdo rfl (zgl (zjg (st_t (zbe zalt (zad 3) (zbe zaph (se_c λ_=>zab) (se_c λ_=>zab)))) (zci (zbq (se_c λ_=>zab) (by decide))) zdh)) (zgl (zje (zem (zag (zad 3) (zag (zbe zos (zbe zgj (zbe zgj (zbe zln (zbe zos (zad 2) (se_c λ_=>zab)) (se_c λ_=>zab)) (zbe zln (se_c λ_=>zab) (zad 1))) (se_c λ_=>zab)) (se_c λ_=>zab)) (zag (se_c λ_=>zab) zaw))))))))))) zamx h
theorem zzo {f:Addr} {fd:qAA} (F:Fun K "_law_take" "_law_take" zhh f fd) (T:Txt mg)  : FnOk P w K mg base CX0 1 f fd ["_law_feed_here","_law_many"] (spF 2 zah):=by
 refine F.ok zzi (λvs H Q E h=>zkj h) (λcdv A outer s H vs Q E hr h=>?_)
 have hu:=zhm hr
 apply Exists.intro
 apply And.intro
 ·refine' Bx.out (zaf (zch (zax zabd (bpeX (zgp (K:=K) rfl) (bv 0) zai) zai (zbt _)) (zaf (bpsS (i:=2) zga rfl (Or.inl rfl) (zbo zoq (bpeX (zgp (K:=K) rfl) (bv 0) zai) (bv 1)))
 (zaf (zaao (bv 0) zai (zbo zada (bpeX (zgp (K:=K) rfl) (bv 0) zai) (bv 1)) (by intro _;rfl) (by rfl) (by rfl) (by rfl))
 (zal (zbc (bv 2))))) zbd)
 (zaf (bpsS (i:=3) zga rfl (Or.inl rfl) (zbo (zcq (K:=K) rfl) (bpeX (zgp (K:=K) rfl) (bv 0) zai) zai))
 (zaf (zaao (bv 0) zai (bv 3) (by intro _;rfl) (by rfl) (by rfl) (by rfl))
 (zaf (bpsS (i:=4) zga rfl (Or.inl rfl) (zbo zoq (zbo (zcq (K:=K) rfl) (zbo (zcq (K:=K) rfl) (bpeX (zgp (K:=K) rfl) (bv 0) zai) (zbo zic (zbo zic zai (bv 3)) (bv 3))) (zbo zic zai (bv 3))) zai))
 (zaf (bpsS (i:=4) zga rfl (Or.inl rfl) (zbo zoq (zbo (zcq (K:=K) rfl) (zbo (zcq (K:=K) rfl) (zbo zic (bv 4) (bv 4)) (zbo zic zai (bv 4))) (bv 3)) zai))
 (zaf (bpsS (i:=4) zga rfl (Or.inl rfl) (zbo zoq (zbo (zcq (K:=K) rfl) (zbo zic (bv 4) (bv 4)) (zbo zic zai (bv 4))) zai))
 (zal (zbc (zbo zoq (zbo zada (bv 4) zai) (bv 1))))))))))
 exact fn_f (by decide) (F:=zhc) ((zaz (zjg (st_t (zbe zabo (zjo (se_c λ_=>zab)) (se_c λ_=>zab))) (zaz (zci (zbq (zbe zos (zjo (se_c λ_=>zab)) (zad 1)) (by decide))) (zaz (zci (zaap (se_c λ_=>zab) (zbe zaef (zjo (se_c λ_=>zab)) (zad 1)))) zjf)) zdh) (zaz (zci (zbq (zbe zgj (zjo (se_c λ_=>zab)) (se_c λ_=>zab)) (by decide))) (zaz (zci (zaap (se_c λ_=>zab) (zad 3))) (zaz (zci (zbq (zbe zos (zbe zgj (zbe zgj (zjo (se_c λ_=>zab)) (zbe zln (zbe zln (se_c λ_=>zab) (zad 3)) (zad 3))) (zbe zln (se_c λ_=>zab) (zad 3))) (se_c λ_=>zab)) (by decide))) (zaz (zci (zbq (zbe zos (zbe zgj (zbe zgj (zbe zln (zad 4) (zad 4)) (zbe zln (se_c λ_=>zab) (zad 4))) (zad 3)) (se_c λ_=>zab)) (by decide))) (zaz (zci (zbq (zbe zos (zbe zgj (zbe zln (zad 4) (zad 4)) (zbe zln (se_c λ_=>zab) (zad 4))) (se_c λ_=>zab)) (by decide))) (zje (zbe zos (zbe zaef (zad 4) (se_c λ_=>zab)) (zad 1)))))))))) h
theorem zsi{f:Addr}{fd:qAA}(F:Fun K "_law_letters" "_law_letters" zef f fd)(T:Txt mg)(D_law_take:zeh P w K mg base):FnOk P w K mg base CX0 2 f fd ["_law_feed_here","_law_many"] (spF 2 zbu):=by
 refine F.ok zsd (λvs H Q E h=>zkj h) (λcdv A outer s H vs Q E hr h=>?_)
 have hu:=zhm hr
 apply Exists.intro
 apply And.intro
 ·refine' Bx.out (zaf (bpsS (i:=2) zgi rfl (Or.inl rfl) zfh)
 (zaf (zdg qo rfl (zco rfl T.range (bpaC (bv 1) zae) (by rfl)) (bpgN (i:=3) zgi rfl (Or.inl rfl))
  (zal (bpsS (i:=2) zgi rfl (Or.inl rfl) (zbo (zcq (K:=K) rfl) (bv 2) (bpeX (zgp (K:=K) rfl) zfh (bpeD D_law_take hr (bpaC (bv 0) (bpaC zai zae))))))) (by intro _;rfl))
 (zal (zbc (bv 2)))))
 exact fn_f (by decide) (F:=zfl) ((zaz (zci (zbq (se_c λ_=>zbr) (by decide))) (zaz (zuc (zik (zag (zad 1) zaw)) (zfj (by decide)) (zcu (zdv zgj (zaj (zad 2)) (zdv znw (zaj (se_c λ_=>zbr)) (zat (zaq (zaj (se_c λ_=>zab)) zba)))) (by decide))) zjf))) h
theorem zxp{f:Addr}{fd:qAA}(F:Fun K "_law_names" "_law_names" zgb f fd)(T:Txt mg)(D_law_letters:zni P w K mg base)(D_law_take:zeh P w K mg base):FnOk P w K mg base CX0 3 f fd ["_law_feed_here","_law_many"] (spF 2 zbv):=by
 refine F.ok zxh (λvs H Q E h=>zkj h) (λcdv A outer s H vs Q E hr h=>?_)
 have hu:=zhm hr
 apply Exists.intro
 apply And.intro
 ·refine' Bx.out (zaf (bpsS (i:=2) zbw rfl (Or.inl rfl) (bpeX (zgp (K:=K) rfl) (zct (bpaC zai (bpaC zai (bpaC zai (bpaC zai zae))))) (bpeD D_law_take hr (bpaC (bv 0) (bpaC zai zae)))))
 (zaf (bpsS (i:=3) zbw rfl (Or.inl rfl) (bpeD D_law_take hr (bpaC (bv 0) (bpaC zai zae))))
 (zaf (bpsS (i:=4) zbw rfl (Or.inl rfl) (bpeD D_law_take hr (bpaC (bv 0) (bpaC zai zae))))
 (zaf (bpsS (i:=5) zbw rfl (Or.inl rfl) (bpeD D_law_take hr (bpaC (bv 0) (bpaC zai zae))))
 (zaf (bpsS (i:=6) zbw rfl (Or.inl rfl) (bpeX (zgp (K:=K) rfl) (zct (bpaC zai (bpaC zai (bpaC zai (bpaC zai (bpaC zai (bpaC zai (bpaC zai (bpaC zai (bpaC zai (bpaC zai (bpaC zai (bpaC zai zae))))))))))))) (bpeD D_law_take hr (bpaC (bv 0) (bpaC zai zae)))))
 (zaf (bpsS (i:=7) zbw rfl (Or.inl rfl) (bpeD D_law_letters hr (bpaC (bv 0) (bpaC (bv 2) zae))))
 (zaf (bpsS (i:=8) zbw rfl (Or.inl rfl) (zct zae))
 (zaf (zdg qo rfl (zco rfl T.range (bpaC (bv 1) zae) (by rfl)) (bpgN (i:=9) zbw rfl (Or.inl rfl))
  (zaf (zch (zax (zhy (K:=K) rfl hr.units) (bv 3) zai (zbt _)) (zal (bpsS (i:=7) zbw rfl (Or.inl rfl) (bpeD D_law_letters hr (bpaC (bv 0) (bpaC (bpeD D_law_take hr (bpaC (bv 0) (bpaC (zbo (zcq (K:=K) rfl) (bv 2) zai) zae))) zae))))) zbd)
 (zaf (bpsS (i:=10) zbw rfl (Or.inl rfl) (bpeX (zgp (K:=K) rfl) zfh (zbo zoq (zbo (zcq (K:=K) rfl) (bv 5) (zbo zic (bv 6) (bv 9))) zai)))
 (zal (zgh (zgt (K:=K) rfl qm qAL qAK zfc (bv 8) (bpaC (zbo (zcq (K:=K) rfl) (zbo (zcq (K:=K) rfl) (zmo (zalr (K:=K) rfl) (bv 7) zpw (zpv (bv 4))) (bv 10)) (zmo (zalr (K:=K) rfl) (bv 7) (zpv (bv 4)) zpw)) zae) (by rfl) (by rfl) (by rfl) (zav (by rfl)) (by rfl)) (by rfl))))) (by intro _;rfl))
 (zal (zbc (bv 8)))))))))))
 exact fn_f (by decide) (F:=zdw) ((zaz (zcu (zdv znw (zaj (zem (zag (se_c λ_=>zab) (zag (se_c λ_=>zab) (zag (se_c λ_=>zab) (zag (se_c λ_=>zab) zaw)))))) (zat (zaq (zaj (se_c λ_=>zab)) zba))) (by decide)) (zaz (zcu (zat (zaq (zaj (se_c λ_=>zab)) zba)) (by decide)) (zaz (zcu (zat (zaq (zaj (se_c λ_=>zab)) zba)) (by decide)) (zaz (zcu (zat (zaq (zaj (se_c λ_=>zab)) zba)) (by decide)) (zaz (zcu (zdv znw (zaj (zem (zag (se_c λ_=>zab) (zag (se_c λ_=>zab) (zag (se_c λ_=>zab) (zag (se_c λ_=>zab) (zag (se_c λ_=>zab) (zag (se_c λ_=>zab) (zag (se_c λ_=>zab) (zag (se_c λ_=>zab) (zag (se_c λ_=>zab) (zag (se_c λ_=>zab) (zag (se_c λ_=>zab) (zag (se_c λ_=>zab) zaw)))))))))))))) (zat (zaq (zaj (se_c λ_=>zab)) zba))) (by decide)) (zaz (zcu (zat (zaq (zaj (zad 2)) zba)) (by decide)) (zaz (zci (zbq (zem zaw) (by decide))) (zaz (zuc (zik (zag (zad 1) zaw)) (zfj (by decide)) (zaz (zjg (st_t (zbe zmh (zad 3) (se_c λ_=>zab))) (zcu (zat (zaq (zat (zaq (zaj (zbe zgj (zad 2) (se_c λ_=>zab))) zba)) zba)) (by decide)) zdh) (zaz (zci (zbq (zbe znw (se_c λ_=>zbr) (zbe zos (zbe zgj (zad 5) (zbe zln (zad 6) (zad 9))) (se_c λ_=>zab))) (by decide))) (zkk (zaj (zbe zgj (zbe zgj (zalw (zad 7) ztt (ztu (zad 4))) (zad 10)) (zalw (zad 7) (ztu (zad 4)) ztt))))))) zjf))))))))) h
theorem zacg{f:Addr}{fd:qAA}(F:Fun K "_law_web" "_law_web" zir f fd)(T:Txt mg)(D_law_take:zeh P w K mg base):FnOk P w K mg base CX0 2 f fd ["_law_feed_here","_law_names_here"] (spF 2 zgn):=by
 refine F.ok zacd (λvs H Q E h=>zkj h) (λcdv A outer s H vs Q E hr h=>?_)
 have hu:=zhm hr
 apply Exists.intro
 apply And.intro
 ·refine' Bx.out (zaf (bpsS (i:=2) zhi rfl (Or.inl rfl) (zct zae))
 (zaf (zdg qo rfl (zco rfl T.range (bpaC (bpeB (zce (K:=K) rfl) T.len zdk (bpaC (bv 1) zae)) zae) (by rfl)) (bpgN (i:=3) zhi rfl (Or.inl rfl))
  (zaf (bpsS (i:=4) zhi rfl (Or.inl rfl) (zct zae))
 (zaf (zdg qo rfl (zco rfl T.range (bpaC (bpeB (zvh rfl) T.min zaaz (bpaC (bv 3) (bpaC (bpeD D_law_take hr (bpaC (bv 0) (bpaC zai zae))) zae))) zae) (by rfl)) (bpgN (i:=5) zhi rfl (Or.inl rfl))
  (zaf (bpsS (i:=6) zhi rfl (Or.inl rfl) (bpeX (zgp (K:=K) rfl) (bv 1) (bpeD D_law_take hr (bpaC (bv 0) (bpaC (bv 3) zae)))))
 (zal (zch (zax (zmg (K:=K) rfl) (bv 6) (bv 4) (by rfl)) (zal (zgh (zgt (K:=K) rfl qm qAL qAK zfc (bv 4) (bpaC (bv 6) zae) (by rfl) (by rfl) (by rfl) (zav (by rfl)) (by rfl)) (by rfl))) zbd))) (by intro _;rfl))
 (zal (zgh (zgt (K:=K) rfl qm qAL qAK zfc (bv 2) (bpaC (zaez (bpaC (bpeX (zgp (K:=K) rfl) (bv 1) (bv 3)) (bpaC (bv 4) zae))) zae) (by rfl) (by rfl) (by rfl) (zav (by rfl)) (by rfl)) (by rfl))))) (by intro _;rfl))
 (zal (zbc (bv 2)))))
 exact fn_f (by decide) (F:=zkr) ((zaz (zci (zbq (zem zaw) (by decide))) (zaz (zuc (zik (zag (zgk zij (zag (zad 1) zaw)) zaw)) (zfj (by decide)) (zaz (zci (zbq (zem zaw) (by decide))) (zaz (zle (zha (zaq (zapy zapm (zaq (zaj (zad 3)) (zaq (zat (zaq (zaj (se_c λ_=>zab)) zba)) zba))) zba)) (zfj (by decide)) (zaz (zcu (zdv znw (zaj (zad 1)) (zat (zaq (zaj (zad 3)) zba))) (by decide)) (zjg (st_t (zbe zts (zad 6) (zad 4))) (zkk (zaj (zad 6))) zdh))) (zkk (zaj (zajk (zag (zjo (zad 3)) (zag (zad 4) zaw)))))))) zjf))) h
theorem zxq {f:Addr} {fd:qAA} (F:Fun K "_law_above" "_law_above" zgc f fd) (T:Txt mg)  : FnOk P w K mg base CX0 1 f fd ["_law_web_here"] (spD 1 zfv):=by
 refine F.ok zxj (λvs H Q E h=>zff h) (λcdv A outer s H vs Q E hr h=>?_)
 have hu:=zhm hr
 apply Exists.intro
 apply And.intro
 ·refine' Bx.out (zaf (bpsS (i:=1) zdz rfl (Or.inl rfl) zki)
 (zaf (zdg qo rfl (zbz (K:=K) rfl (bv 0)) (zmr (K:=K) (n:=2) rfl rfl (zeq (bpgN (i:=2) zdz rfl (Or.inl rfl)) (zeq (bpgN (i:=3) zdz rfl (Or.inl rfl)) zmq (by rfl)) (by rfl)) (by rfl) (by rfl))
  (zaf (bpsS (i:=4) zdz rfl (Or.inr rfl) (zct (bpaC (bv 2) zae)))
 (zaf (zdg qo rfl (zbz (K:=K) rfl (bv 3)) (bpgN (i:=5) zdz rfl (Or.inl rfl))
  (zal (bpsS (i:=4) zdz rfl (Or.inr rfl) (zbo (zcq (K:=K) rfl) (bv 4) (zpx hu (bv 1) (bv 5) (λ_ _=>rfl))))) (by intro _;rfl))
 (zal (zaan hu (bv 1) (bv 2) (zdm (zcw (N':=["_law_other","_law_rest","_law_some"]) (own:=["_law_other","_law_rest"]) (fr:=[4]) (by kernel_rfl)) rfl (zbz (K:=K) rfl (bv 0)) ?hb1 (by intro _;rfl)) rfl)))) (by intro _;rfl))
 (zal (zbc (bv 1)))))
  case hb1=>(intro cl C s H fp;refine'⟨Bx.out (zmr (K:=K) (n:=2) rfl rfl (zeq (bpgN (i:=0) zkw rfl (Or.inl rfl)) (zeq (bpgN (i:=1) zkw rfl (Or.inl rfl)) zmq (by rfl)) (by rfl)) (by rfl) (by rfl)),Bx.out (zyy (zax (zvq (K:=K) rfl) (bv 0) (bv 2) (by rfl))),Bx.out (bv 0)⟩)
 exact fn_d (f:=zrf) ((zei (zov zql) (zei (zow (zev (zad 0)) (zvu (zgg (zgg zqo))) (zei (zov (zem (zag (zad 2) zaw))) (zei (zow (zev (zad 3)) zdu (zov (zbe zgj (zad 4) (zpt (zad 5))))) (zajl (zad 2) (zgq (zev (zad 0)) (zvu (zgg (zgg zqo))) (zajm (zps (by decide) (zps (by decide) zaep))) (st_t (zbe zts (zad 0) (zad 2))) (zad 0)))))) zyq))) h
theorem zach{f:Addr}{fd:qAA}(F:Fun K "_law_odd" "_law_odd" zis f fd)(T:Txt mg)(D_law_take:zeh P w K mg base):FnOk P w K mg base CX0 2 f fd ["_law_feed_here","_law_stranger"] (spF 2 zbi):=by
 refine F.ok zace (λvs H Q E h=>zkj h) (λcdv A outer s H vs Q E hr h=>?_)
 have hu:=zhm hr
 apply Exists.intro
 apply And.intro
 ·refine' Bx.out (zaf (bpsS (i:=2) zsz rfl (Or.inl rfl) (zct (bpaC (bv 1) (bpaC zfh (bpaC zfh (bpaC zfh (bpaC zfh (bpaC zua (bpaC zai (bpaC zfg (bpaC (zct (bpaC zfh zae)) (bpaC (zaez (bpaC zfh (bpaC zfh zae))) (bpaC (zaam (zwc zfh (zct (bpaC zfh zae)) zaal) rfl rfl (by simp) (by decide)) (bpaC (bv 1) zae))))))))))))))
 (zal (zbc (bpeX (zgp (K:=K) rfl) (bv 2) (bpeD D_law_take hr (bpaC (bv 0) (bpaC zai zae)))))))
 exact fn_f (by decide) (F:=zfm) ((zaz (zci (zbq (zem (zag (zad 1) (zag (se_c λ_=>zbr) (zag (se_c λ_=>zbr) (zag (se_c λ_=>zbr) (zag (se_c λ_=>zbr) (zag (se_c λ_=>zii) (zag (se_c λ_=>zab) (zag (se_c λ_=>zau) (zag (zem (zag (se_c λ_=>zbr) zaw)) (zag (zajk (zag (se_c λ_=>zbr) (zag (se_c λ_=>zbr) zaw))) (zag (zapl (se_c λ_=>zbr) (zem (zag (se_c λ_=>zbr) zaw))) (zag (zad 1) zaw))))))))))))) (by decide))) (zafe (zdv znw (zaj (zad 2)) (zat (zaq (zaj (se_c λ_=>zab)) zba)))))) h
theorem znk{f:Addr}{fd:qAA}(F:Fun K "_law_may_be_sort" "_law_may_be_sort" zcc f fd)(T:Txt mg)(D_law_odd:zrs P w K mg base)(D_law_take:zeh P w K mg base):FnOk P w K mg base CX0 3 f fd ["_law_feed_here","_law_names_here","_law_stranger"] (spF 3 zbk):=by
 refine F.ok zne (λvs H Q E h=>zkj h) (λcdv A outer s H vs Q E hr h=>?_)
 have hu:=zhm hr
 apply Exists.intro
 apply And.intro
 ·refine' Bx.out (zaf (bpsS (i:=3) zbb rfl (Or.inl rfl) (bpeD D_law_take hr (bpaC (bv 0) (bpaC zai zae))))
 (zaf (bpsS (i:=4) zbb rfl (Or.inl rfl) (zct zae))
 (zaf (zdg qo rfl (zco rfl T.range (bpaC (bpeD D_law_take hr (bpaC (bv 0) (bpaC zai zae))) zae) (by rfl)) (bpgN (i:=5) zbb rfl (Or.inl rfl))
  (zaf (bpsS (i:=6) zbb rfl (Or.inl rfl) (zct zae))
 (zaf (zdg qo rfl (zco rfl T.range (bpaC (bpeD D_law_take hr (bpaC (bv 0) (bpaC zai zae))) zae) (by rfl)) (bpgN (i:=7) zbb rfl (Or.inl rfl))
  (zaf (bpsS (i:=8) zbb rfl (Or.inl rfl) (bpeX (zgp (K:=K) rfl) (bv 1) (bpeD D_law_take hr (bpaC (bv 0) (bpaC (bpeB (zce (K:=K) rfl) T.len zdk (bpaC (bv 1) zae)) zae)))))
 (zaf (zch (zoa (zax (zhy (K:=K) rfl hr.units) (bv 3) zai (zbt _)) (zmp (zax (zhy (K:=K) rfl hr.units) (bpeD D_law_take hr (bpaC (bv 0) (bpaC zai zae))) zai (zbt _)))).pt (zal (bpsS (i:=8) zbb rfl (Or.inl rfl) (bpeD D_law_odd hr (bpaC (bv 0) (bpaC (bv 2) zae))))) zbd)
 (zal (zch (zgu (zax (zwr hr.units) (bv 8) (bv 6) (by rfl)) (zgs (zax (zhy (K:=K) rfl hr.units) (bpeD D_law_take hr (bpaC (bv 0) (bpaC zai zae))) zai (zbt _)))).pt (zal (zgh (zgt (K:=K) rfl qm qAL qAK zfc (bv 6) (bpaC (bv 8) zae) (by rfl) (by rfl) (by rfl) (zav (by rfl)) (by rfl)) (by rfl))) zbd)))) (by intro _;rfl))
 (zaf (zch (zoa (zax (zhy (K:=K) rfl hr.units) (bv 3) zai (zbt _)) (zmp (zax (zhy (K:=K) rfl hr.units) (bpeD D_law_take hr (bpaC (bv 0) (bpaC zai zae))) zai (zbt _)))).pt (zal (bpsS (i:=6) zbb rfl (Or.inl rfl) (bpeX (zgp (K:=K) rfl) (zct (bpaC (bpeT (zjc (K:=K) rfl) T.tuple zhd (bpaC (bv 6) zae)) (bpaC zfh (bpaC zua (bpaC zai (bpaC zki zae)))))) (bpeD D_law_take hr (bpaC (bv 0) (bpaC zai zae)))))) zbd)
 (zal (zgh (zgt (K:=K) rfl qm qAL qAK zfc (bv 4) (bpaC (bv 6) zae) (by rfl) (by rfl) (by rfl) (zav (by rfl)) (by rfl)) (by rfl)))))) (by intro _;rfl))
 (zaf (zch (zoa (zax (zhy (K:=K) rfl hr.units) (bv 3) zai (zbt _)) (zmp (zax (zhy (K:=K) rfl hr.units) (bpeD D_law_take hr (bpaC (bv 0) (bpaC zai zae))) zai (zbt _)))).pt (zal (bpsS (i:=4) zbb rfl (Or.inl rfl) (bpeX (zgp (K:=K) rfl) (zct (bpaC (bpeT (zjc (K:=K) rfl) T.tuple zhd (bpaC (bv 4) zae)) (bpaC zua (bpaC zfh (bpaC zki zae))))) (bpeD D_law_take hr (bpaC (bv 0) (bpaC zai zae)))))) zbd)
 (zal (zbc (bv 4)))))))
 exact fn_f (by decide) (F:=zcz) ((zaz (zcu (zat (zaq (zaj (se_c λ_=>zab)) zba)) (by decide)) (zaz (zci (zbq (zem zaw) (by decide))) (zaz (zle (zha (zaq (zat (zaq (zaj (se_c λ_=>zab)) zba)) zba)) (zfj (by decide)) (zaz (zci (zbq (zem zaw) (by decide))) (zaz (zle (zha (zaq (zat (zaq (zaj (se_c λ_=>zab)) zba)) zba)) (zfj (by decide)) (zaz (zcu (zdv znw (zaj (zad 1)) (zat (zaq (zaj (zgk zij (zag (zad 1) zaw))) zba))) (by decide)) (zaz (zls (zqt (zjd (st_t (zbe zmh (zad 3) (se_c λ_=>zab)))) (zrz (zdv zmh (zat (zaq (zaj (se_c λ_=>zab)) zba)) (zaj (se_c λ_=>zab))))) (zcu (zat (zaq (zaj (zad 2)) zba)) (by decide)) zdh) (zls (zajo (zjd (st_t (zbe zws (zad 8) (zad 6)))) (zrz (zdv zmh (zat (zaq (zaj (se_c λ_=>zab)) zba)) (zaj (se_c λ_=>zab))))) (zkk (zaj (zad 8))) zdh)))) (zaz (zls (zqt (zjd (st_t (zbe zmh (zad 3) (se_c λ_=>zab)))) (zrz (zdv zmh (zat (zaq (zaj (se_c λ_=>zab)) zba)) (zaj (se_c λ_=>zab))))) (zcu (zdv znw (zaj (zem (zag (zgk zpr (zag (zad 6) zaw)) (zag (se_c λ_=>zbr) (zag (se_c λ_=>zii) (zag (se_c λ_=>zab) (zag zql zaw))))))) (zat (zaq (zaj (se_c λ_=>zab)) zba))) (by decide)) zdh) (zkk (zaj (zad 6))))))) (zaz (zls (zqt (zjd (st_t (zbe zmh (zad 3) (se_c λ_=>zab)))) (zrz (zdv zmh (zat (zaq (zaj (se_c λ_=>zab)) zba)) (zaj (se_c λ_=>zab))))) (zcu (zdv znw (zaj (zem (zag (zgk zpr (zag (zad 4) zaw)) (zag (se_c λ_=>zii) (zag (se_c λ_=>zbr) (zag zql zaw)))))) (zat (zaq (zaj (se_c λ_=>zab)) zba))) (by decide)) zdh) zjf))))) h
theorem zpn {f:Addr} {fd:qAA} (F:Fun K "_law_is_bundle" "_law_is_bundle" zdb f fd) (T:Txt mg)  : FnOk P w K mg base CX0 1 f fd ["_law_names_here","_law_thing"] (spD 2 zdy):=by
 refine F.ok zpk (λvs H Q E h=>zff h) (λcdv A outer s H vs Q E hr h=>?_)
 have hu:=zhm hr
 apply Exists.intro
 apply And.intro
 ·refine' Bx.out (zaf (zch (zgu (zig (zcy (K:=K) rfl (bpeB (zds (K:=K) rfl) T.isinstance zbg (bpaC (bv 1) (bpaC (zfi (v:=.ty "list") (by rfl) T.list zkt rfl (by decide) (by decide)) zae))) (λ_=>rfl))) (zgs (zax zabd (bpeB (zce (K:=K) rfl) T.len zdk (bpaC (bv 1) zae)) zai (zbt _)))).pt (zal (zbc zfg)) zbd)
 (zaf (zdg qo rfl (zco rfl T.range (bpaC (bpeB (zce (K:=K) rfl) T.len zdk (bpaC (bv 1) zae)) zae) (by rfl)) (bpgN (i:=2) zjt rfl (Or.inl rfl))
  (zal (zch (zgu (zig (zcy (K:=K) rfl (bpeB (zds (K:=K) rfl) T.isinstance zbg (bpaC (bpeX (zgp (K:=K) rfl) (bv 1) (bv 2)) (bpaC (zfi (v:=.ty "str") (by rfl) T.str zaba rfl (by decide) (by decide)) zae))) (λ_=>rfl))) (zgu (zax (zwr hr.units) (bpeX (zgp (K:=K) rfl) (bv 1) (bv 2)) (bv 0) (by rfl)) (zgs (zax (zafn hr.units) (bpeX (zgp (K:=K) rfl) (bv 1) (bv 2)) (zmo (zalr (K:=K) rfl) (bv 1) zpw (zpv (bv 2))) (by rfl))))).pt (zal (zbc zfg)) zbd)) (by intro _;rfl))
 (zal (zbc zfg))))
 exact fn_d (f:=zks) ((zei (zqn (zmj (zlo (zjz (zkb (zad 1) zml))) (st_t (zbe zabo (zgk zij (zag (zad 1) zaw)) (se_c λ_=>zab)))) (zen (se_c λ_=>zau)) zkc) (zei (zow (zik (zag (zgk zij (zag (zad 1) zaw)) zaw)) zdu (zqn (zmj (zlo (zjz (zkb (zjo (zad 2)) zael))) (zmj (st_t (zbe zws (zjo (zad 2)) (zad 0))) (st_t (zbe zws (zjo (zad 2)) (zalw (zad 1) ztt (ztu (zad 2))))))) (zen (se_c λ_=>zau)) zkc)) (zen (se_c λ_=>zau))))) h
theorem zsj{f:Addr}{fd:qAA}(F:Fun K "_law_is_sort" "_law_is_sort" zeg f fd)(T:Txt mg)(D_law_is_bundle:zky P w K mg base):FnOk P w K mg base CX0 2 f fd ["_law_names_here","_law_thing"] (spD 2 zdj):=by
 refine F.ok zsf (λvs H Q E h=>zff h) (λcdv A outer s H vs Q E hr h=>?_)
 have hu:=zhm hr
 apply Exists.intro
 apply And.intro
 ·refine' Bx.out (zaf (zch (zgu (zig (zcy (K:=K) rfl (bpeB (zds (K:=K) rfl) T.isinstance zbg (bpaC (bv 1) (bpaC (zfi (v:=.ty "list") (by rfl) T.list zkt rfl (by decide) (by decide)) zae))) (λ_=>rfl))) (zgs (zax zabd (bpeB (zce (K:=K) rfl) T.len zdk (bpaC (bv 1) zae)) zai (zbt _)))).pt (zal (zbc zfg)) zbd)
 (zal (zbc (bpeB (zjy (K:=K) rfl rfl) T.all znb (bpaC (zdm (zcw (N':=["_law_some","_law_names_here"]) (own:=["_law_some"]) (fr:=[0]) (by kernel_rfl)) rfl (zbz (K:=K) rfl (bv 1)) ?hb1 (by intro _;rfl)) zae)))))
  case hb1=>(intro cl C s H fp;refine'⟨Bx.out (bpgN (i:=0) zok rfl (Or.inl rfl)),Bx.out zho,Bx.out (bpeD D_law_is_bundle hr (bpaC (bv 1) (bpaC (bv 0) zae)))⟩)
 exact fn_d (f:=zna) ((zei (zqn (zmj (zlo (zjz (zkb (zad 1) zml))) (st_t (zbe zabo (zgk zij (zag (zad 1) zaw)) (se_c λ_=>zab)))) (zen (se_c λ_=>zau)) zkc) (zen (zgk zot (zag (zgq (zev (zad 1)) zdu (zie (by decide)) zkg (zcx (zag (zad 1) (zag (zad 0) zaw)))) zaw))))) h
theorem zzp{f:Addr}{fd:qAA}(F:Fun K "_law_sort" "_law_sort" zhj f fd)(T:Txt mg)(D_law_take:zeh P w K mg base):FnOk P w K mg base CX0 2 f fd ["_law_feed_here","_law_names_here"] (spF 2 zex):=by
 refine F.ok zzj (λvs H Q E h=>zkj h) (λcdv A outer s H vs Q E hr h=>?_)
 have hu:=zhm hr
 apply Exists.intro
 apply And.intro
 ·refine' Bx.out (zaf (bpsS (i:=2) zgd rfl (Or.inl rfl) (zct zae))
 (zaf (zdg qo rfl (zco rfl T.range (bpaC (bpeD D_law_take hr (bpaC (bv 0) (bpaC zai zae))) zae) (by rfl)) (bpgN (i:=3) zgd rfl (Or.inl rfl))
  (zaf (bpsS (i:=4) zgd rfl (Or.inl rfl) (zct zae))
 (zaf (zdg qo rfl (zco rfl T.range (bpaC (bpeD D_law_take hr (bpaC (bv 0) (bpaC zai zae))) zae) (by rfl)) (bpgN (i:=5) zgd rfl (Or.inl rfl))
  (zaf (bpsS (i:=6) zgd rfl (Or.inl rfl) (bpeX (zgp (K:=K) rfl) (bv 1) (bpeD D_law_take hr (bpaC (bv 0) (bpaC (bpeB (zce (K:=K) rfl) T.len zdk (bpaC (bv 1) zae)) zae)))))
 (zal (zch (zax (zmg (K:=K) rfl) (bv 6) (bv 4) (by rfl)) (zal (zgh (zgt (K:=K) rfl qm qAL qAK zfc (bv 4) (bpaC (bv 6) zae) (by rfl) (by rfl) (by rfl) (zav (by rfl)) (by rfl)) (by rfl))) zbd))) (by intro _;rfl))
 (zal (zgh (zgt (K:=K) rfl qm qAL qAK zfc (bv 2) (bpaC (bv 4) zae) (by rfl) (by rfl) (by rfl) (zav (by rfl)) (by rfl)) (by rfl))))) (by intro _;rfl))
 (zal (zbc (bv 2)))))
 exact fn_f (by decide) (F:=zio) ((zaz (zci (zbq (zem zaw) (by decide))) (zaz (zle (zha (zaq (zat (zaq (zaj (se_c λ_=>zab)) zba)) zba)) (zfj (by decide)) (zaz (zci (zbq (zem zaw) (by decide))) (zaz (zle (zha (zaq (zat (zaq (zaj (se_c λ_=>zab)) zba)) zba)) (zfj (by decide)) (zaz (zcu (zdv znw (zaj (zad 1)) (zat (zaq (zaj (zgk zij (zag (zad 1) zaw))) zba))) (by decide)) (zjg (st_t (zbe zts (zad 6) (zad 4))) (zkk (zaj (zad 6))) zdh))) (zkk (zaj (zad 4)))))) zjf))) h
theorem zrt{f:Addr}{fd:qAA}(F:Fun K "_law_may_come" "_law_may_come" zdn f fd)(T:Txt mg)(D_law_odd:zrs P w K mg base)(D_law_take:zeh P w K mg base):FnOk P w K mg base CX0 3 f fd ["_law_feed_here","_law_names_here","_law_sort_here","_law_stranger"] (spF 4 zbl):=by
 refine F.ok zrm (λvs H Q E h=>zkj h) (λcdv A outer s H vs Q E hr h=>?_)
 have hu:=zhm hr
 apply Exists.intro
 apply And.intro
 ·refine' Bx.out (zaf (bpsS (i:=4) zcl rfl (Or.inl rfl) (bv 1))
 (zaf (zch (zoa (zax (zqp (K:=K) rfl hr.units) (bv 2) (zct zae) (zbt _)) (zoa (zax (zqp (K:=K) rfl hr.units) (bpeX (zgp (K:=K) rfl) (bv 2) (zafc zadb zai)) (zct zae) (zbt _)) (zmp (zax zabd (bpeD D_law_take hr (bpaC (bv 0) (bpaC zai zae))) zai (zbt _))))).pt (zal (bpsS (i:=4) zcl rfl (Or.inl rfl) (bpeX (zgp (K:=K) rfl) (bv 2) (zafc zadb zai)))) zbd)
 (zaf (bpsS (i:=5) zcl rfl (Or.inr rfl) (zct zae))
 (zaf (zdg qo rfl (zco rfl T.range (bpaC (bpeD D_law_take hr (bpaC (bv 0) (bpaC zai zae))) zae) (by rfl)) (bpgN (i:=6) zcl rfl (Or.inl rfl))
  (zaf (bpsS (i:=7) zcl rfl (Or.inl rfl) (bpeX (zgp (K:=K) rfl) (bv 4) (bpeD D_law_take hr (bpaC (bv 0) (bpaC (bpeB (zce (K:=K) rfl) T.len zdk (bpaC (bv 4) zae)) zae)))))
 (zal (zch (zgu (zax (zmg (K:=K) rfl) (bv 7) (bv 5) (by rfl)) (zgs (zax (zhy (K:=K) rfl hr.units) (bpeD D_law_take hr (bpaC (bv 0) (bpaC zai zae))) zai (zbt _)))).pt (zal (zgh (zgt (K:=K) rfl qm qAL qAK zfc (bv 5) (bpaC (bv 7) zae) (by rfl) (by rfl) (by rfl) (zav (by rfl)) (by rfl)) (by rfl))) zbd))) (by intro _;rfl))
 (zaf (zch (zax zabd (bpeD D_law_take hr (bpaC (bv 0) (bpaC zai zae))) zai (zbt _)) (zal (bpsS (i:=5) zcl rfl (Or.inr rfl) (zdm (zcw (N':=["_law_name","_law_pick"]) (own:=["_law_name"]) (fr:=[5]) (by kernel_rfl)) rfl (zbz (K:=K) rfl (bv 1)) ?hb1 (by intro _;rfl)))) zbd)
 (zaf (zch (zax (zhy (K:=K) rfl hr.units) (bpeD D_law_take hr (bpaC (bv 0) (bpaC zai zae))) zai (zbt _)) (zal (zgh (zgt (K:=K) rfl qm PySem.F.slot_list_insert PySem.F.type_list_insert zafj (bv 5) (bpaC (bpeD D_law_take hr (bpaC (bv 0) (bpaC (zbo (zcq (K:=K) rfl) (bpeB (zce (K:=K) rfl) T.len zdk (bpaC (bv 5) zae)) zai) zae))) (bpaC (bpeD D_law_odd hr (bpaC (bv 0) (bpaC (bv 3) zae))) zae)) (by rfl) (by rfl) (by rfl) (zav (by rfl)) (by rfl)) (by rfl))) zbd)
 (zaf (zch (zax (zhy (K:=K) rfl hr.units) (bpeD D_law_take hr (bpaC (bv 0) (bpaC zai zae))) zai (zbt _)) (zal (zbc (bv 5))) zbd)
 (zaf (zch (zax (zhy (K:=K) rfl hr.units) (bpeD D_law_take hr (bpaC (bv 0) (bpaC zai zae))) zai (zbt _)) (zal (zbc (bpeX (zgp (K:=K) rfl) (zct (bpaC (bv 3) (bpaC zua (bpaC zai (bpaC zfg (bpaC zki (bpaC (bpeX (zgp (K:=K) rfl) (bv 1) zai) zae))))))) (bpeD D_law_take hr (bpaC (bv 0) (bpaC zai zae)))))) zbd)
 (zal (zbc (bpeT (zjc (K:=K) rfl) T.tuple zhd (bpaC (bv 5) zae))))))))))))
  case hb1=>(intro cl C s H fp;refine'⟨Bx.out (bpgN (i:=0) zng rfl (Or.inl rfl)),Bx.out (zyy (zax (zvq (K:=K) rfl) (bv 0) (bv 1) (by rfl))),Bx.out (bv 0)⟩)
 exact fn_f (by decide) (F:=zer) ((zaz (zci (zbq (zad 1) (by decide))) (zaz (zls (zqt (zjd (st_t (zbe zym (zad 2) (zem zaw)))) (zqt (zjd (st_t (zbe zym (zjo (zaet (se_c λ_=>zab))) (zem zaw)))) (zrz (zdv zabo (zat (zaq (zaj (se_c λ_=>zab)) zba)) (zaj (se_c λ_=>zab)))))) (zci (zbq (zjo (zaet (se_c λ_=>zab))) (by decide))) zdh) (zaz (zci (zbq (zem zaw) (by decide))) (zaz (zle (zha (zaq (zat (zaq (zaj (se_c λ_=>zab)) zba)) zba)) (zfj (by decide)) (zaz (zcu (zdv znw (zaj (zad 4)) (zat (zaq (zaj (zgk zij (zag (zad 4) zaw))) zba))) (by decide)) (zls (zajo (zjd (st_t (zbe zts (zad 7) (zad 5)))) (zrz (zdv zmh (zat (zaq (zaj (se_c λ_=>zab)) zba)) (zaj (se_c λ_=>zab))))) (zkk (zaj (zad 7))) zdh))) (zaz (zls (zrz (zdv zabo (zat (zaq (zaj (se_c λ_=>zab)) zba)) (zaj (se_c λ_=>zab)))) (zci (zbq (zgq (zev (zad 1)) zdu (zie (by decide)) (st_t (zbe zts (zad 0) (zad 1))) (zad 0)) (by decide))) zdh) (zaz (zls (zrz (zdv zmh (zat (zaq (zaj (se_c λ_=>zab)) zba)) (zaj (se_c λ_=>zab)))) (zamo (zaq (zat (zaq (zaj (zbe zgj (zgk zij (zag (zad 5) zaw)) (se_c λ_=>zab))) zba)) (zaq (zat (zaq (zaj (zad 3)) zba)) zba))) zdh) (zaz (zls (zrz (zdv zmh (zat (zaq (zaj (se_c λ_=>zab)) zba)) (zaj (se_c λ_=>zab)))) zjf zdh) (zaz (zls (zrz (zdv zmh (zat (zaq (zaj (se_c λ_=>zab)) zba)) (zaj (se_c λ_=>zab)))) (zafe (zdv znw (zaj (zem (zag (zad 3) (zag (se_c λ_=>zii) (zag (se_c λ_=>zab) (zag (se_c λ_=>zau) (zag zql (zag (zjo (se_c λ_=>zab)) zaw)))))))) (zat (zaq (zaj (se_c λ_=>zab)) zba)))) zdh) (zje (zgk zpr (zag (zad 5) zaw)))))))))))) h
theorem zom {f:Addr} {fd:qAA} (F:Fun K "_law_is_to_come" "_law_is_to_come" zcp f fd) (T:Txt mg)  : FnOk P w K mg base CX0 1 f fd ["_law_names_here","_law_table","_law_sort_here","_law_thing"] (spD 4 zca):=by
 refine F.ok zoh (λvs H Q E h=>zff h) (λcdv A outer s H vs Q E hr h=>?_)
 have hu:=zhm hr
 apply Exists.intro
 apply And.intro
 ·refine' Bx.out (zaf (zch (zgu (zig (zcy (K:=K) rfl (bpeB (zds (K:=K) rfl) T.isinstance zbg (bpaC (bv 3) (bpaC (zfi (v:=.ty "tuple") (by rfl) T.tuple zhd rfl (by decide) (by decide)) zae))) (λ_=>rfl))) (zgs (zax zags (bpeB (zce (K:=K) rfl) T.len zdk (bpaC (bv 3) zae)) zai (zbt _)))).pt (zal (zbc zfg)) zbd)
 (zaf (bpsS (i:=4) zcd rfl (Or.inl rfl) (zafc zadb zai))
 (zaf (zdg qo rfl (zbz (K:=K) rfl (bv 3)) (bpgN (i:=5) zcd rfl (Or.inl rfl))
  (zaf (zch (zgu (zig (zcy (K:=K) rfl (bpeB (zds (K:=K) rfl) T.isinstance zbg (bpaC (bv 5) (bpaC (zfi (v:=.ty "str") (by rfl) T.str zaba rfl (by decide) (by decide)) zae))) (λ_=>rfl))) (zgu (zax (zmg (K:=K) rfl) (bv 5) (bv 0) (by rfl)) (zgs (zax zaoh (zgt (K:=K) rfl qm qCI qCH zaat (bv 0) (bpaC (bv 5) zae) (by rfl) (by rfl) (by rfl) (zav (by rfl)) (by rfl)) (bv 4) (zbt _))))).pt (zal (zbc zfg)) zbd)
 (zal (bpsS (i:=4) zcd rfl (Or.inl rfl) (zgt (K:=K) rfl qm qCI qCH zaat (bv 0) (bpaC (bv 5) zae) (by rfl) (by rfl) (by rfl) (zav (by rfl)) (by rfl))))) (by intro _;rfl))
 (zaf (zdg qo rfl (zbz (K:=K) rfl (bv 3)) (bpgN (i:=6) zcd rfl (Or.inl rfl))
  (zal (zdg qo rfl (zbz (K:=K) rfl (bv 3)) (bpgN (i:=7) zcd rfl (Or.inl rfl))
  (zal (zch (zoa (zax (zqp (K:=K) rfl hr.units) (bv 6) (bv 7) (zbt _)) (zmp (zax (zvq (K:=K) rfl) (bv 7) (zpx hu (bv 1) (bv 6) (λ_ _=>rfl)) (by rfl)))).pt (zal (zbc zfg)) zbd)) (by intro _;rfl))) (by intro _;rfl))
 (zal (zbc (bpeB (zqh (K:=K) rfl rfl) T.any zuq (bpaC (zdm (zcw (N':=["_law_some","_law_thing"]) (own:=["_law_some"]) (fr:=[3]) (by kernel_rfl)) rfl (zbz (K:=K) rfl (bv 2)) ?hb1 (by intro _;rfl)) zae))))))))
  case hb1=>(intro cl C s H fp;refine'⟨Bx.out (bpgN (i:=0) zll rfl (Or.inr rfl)),Bx.out zho,Bx.out (bpeB (zjy (K:=K) rfl rfl) T.all znb (bpaC (zdm (zcw (N':=["_law_part","_law_some"]) (own:=["_law_part"]) (fr:=[0]) (by kernel_rfl)) rfl (zbz (K:=K) rfl (bv 1)) ?hb2 (by intro _;rfl)) zae))⟩;case hb2=>(intro cl C s H fp;refine'⟨Bx.out (bpgN (i:=0) zlm rfl (Or.inl rfl)),Bx.out zho,Bx.out (zmn (zvq (K:=K) rfl) (bv 0) (bv 1) (by rfl))⟩))
 exact fn_d (f:=zjs) ((zei (zqn (zmj (zlo (zjz (zkb (zad 3) zvt))) (st_t (zbe zalt (zgk zij (zag (zad 3) zaw)) (se_c λ_=>zab)))) (zen (se_c λ_=>zau)) zkc) (zei (zov (zaet (se_c λ_=>zab))) (zei (zow (zev (zad 3)) zdu (zei (zqn (zmj (zlo (zjz (zkb (zad 5) zael))) (zmj (st_t (zbe zts (zad 5) (zad 0))) (st_t (zbe zapg (zaau (zad 0) (zad 5)) (zad 4))))) (zen (se_c λ_=>zau)) zkc) (zov (zaau (zad 0) (zad 5))))) (zei (zow (zev (zad 3)) zdu (zow (zev (zad 3)) zdu (zqn (zapj (st_t (zbe zym (zad 6) (zad 7))) (st_t (zbe zts (zad 7) (zpt (zad 6))))) (zen (se_c λ_=>zau)) zkc))) (zen (zgk zot (zag (zgq (zev (zad 2)) zdu (zie (by decide)) zkg (zgk zot (zag (zgq (zev (zad 1)) zdu (zie (by decide)) zkg (zbe zts (zad 0) (zad 1))) zaw))) zaw)))))))) h
theorem zzq {f:Addr} {fd:qAA} (F:Fun K "_law_copy" "_law_copy" zhk f fd) (T:Txt mg)  (hm:mg "_law_copy"=some (.ref f)) (hk:qc K (.ref f)=true) (hbd:zye K fd ["_law_thing"] []):∀n:Nat,FnOk P w K mg base CX0 (n+0+1) f fd ["_law_thing"] (spD 1 (zck n)):=by
 intro n
 induction n with
 | zero=>exact F.ok zrn (λvs H Q E h=>zff h) (λcdv A outer s H vs Q E hr h=>by obtain⟨_,_,_,_,_,_,_,e,_⟩:=h;cases e)
 | succ n ih=>
 have D_law_copy:Dn P w K mg base "_law_copy" ["_law_thing"] (n+0+1) (spD 1 (zck n)):=⟨f,fd,ih,hm,hk,hbd⟩
 rw[show n+1+0+1=(n+0+1)+1 by omega]
 refine F.ok zrn (λvs H Q E h=>zff h) (λcdv A outer s H vs Q E hr h=>?_)
 have hu:=zhm hr
 apply Exists.intro
 apply And.intro
 ·refine' Bx.out (zaf (zch (zcy (K:=K) rfl (zil (zds (K:=K) rfl) (by rfl) T.isinstance zbg (zam (bv 0) (zam (zfi (v:=.ty "list") (by rfl) T.list zkt rfl (by decide) (by decide)) zae (by rfl)) (by rfl)) (by decide) (by decide) (zav (by rfl)) (by rfl)) (λ_=>rfl)) (zal (zbc (zdm (zcw (N':=["_law_part"]) (own:=["_law_part"]) (fr:=[]) (by kernel_rfl)) rfl (zbz (K:=K) rfl (bv 0)) ?hb1 (by intro _;rfl)))) zbd)
 (zal (zbc (bv 0))))
  case hb1=>(intro cl C s H fp;refine'⟨Bx.out (zpu (i:=0) zsg rfl (Or.inl rfl) (by first|exact .inl rfl|exact .inr rfl|assumption)),Bx.out zho,Bx.out (zew D_law_copy (hr.mono (qN _)) (by rfl) (zam (bv 0) zae (by rfl)) (by decide) (zav (by rfl)) (by rfl))⟩)
 exact fn_d (f:=zlv (zck n)) ((zei (zqn (zjz (zkb (zad 0) zml)) (zen (zgq (zev (zad 0)) zdu (zie (by decide)) zkg (zcx (zag (zad 0) zaw)))) zkc) zyq)) h
end
noncomputable def zez(ks:List Str):PyData:=.tuple (ks.map .str)
noncomputable def LowS(ks:List Str):Prop:=∀k∈ks,qBP k=true
theorem zamy{α:Type}{f:α->Bool}{l:List α}{a:EF}{env:DEnv}{fr:Bool}{bs:List Nat}(ha:a env=some ⟨.list (l.map λx=>.bool (f x)),fr,bs⟩):eCB (anyD λbs=>bs.any id) (zac a aNil) env=some (vb (l.any f)):=by
 unfold eCB
 rw[zoe ha,qF]
 show((zqm (l.map λx=>.bool (f x))).map _).bind _=_
 rw[zrd]
 simp only[qBg,qF,qBE]
 rfl
theorem zaql{a b:EF}{env:DEnv}{x y:List Str}{f1 f2:Bool}{b1 b2:List Nat}(ha:a env=some ⟨zaa x,f1,b1⟩)(hb:b env=some ⟨zaa y,f2,b2⟩)(h:x.length+y.length<=100000):eOp addD a b env=some ⟨zaa (x++y),true,b1++b2⟩:=by
 unfold eOp
 rw[ha,hb]
 show((if(x.map PyData.str).length+(y.map PyData.str).length<=100000 then some (PyData.list (x.map .str++y.map .str),true)else none).bind λz=>some (⟨z.1,z.2,bsOf z.1 (b1++b2)⟩:Val))=_
 rw[if_pos (by rw[qE,qE];exact h),<- qAO]
 rfl
theorem zaqm{a b:EF}{env:DEnv}{i j:Int}(ha:a env=some (vi i))(hb:b env=some (vi j)):eOp gtD a b env=some (vb (decide (j<i))):=by
 unfold eOp;rw[ha,hb];rfl
noncomputable def Hd(d:PyData)(s:Sl):Prop:=s=.pl d\/s=.ac d
theorem e_hd{env:DEnv}{i:Nat}{d:PyData}{s:Sl}(h:env[i]?=some s)(hs:Hd d s):∃bs,eVar i env=some ⟨d,false,bs⟩:=by
 unfold eVar
 rw[h]
 rcases hs with rfl|rfl
 ·exact⟨_,rfl⟩
 ·exact⟨_,rfl⟩
theorem zakb{W:Web}(h:WebOk W):∀(m:Nat){x y:Str},(nm W).idxOf y<m->y∈nm W->x∈up W y->x=y\/(nm W).idxOf x<(nm W).idxOf y
 | 0,_,_,hm,_,_=>absurd hm (Nat.not_lt_zero _)
 | m+1,x,y,hm,hy,hx=>by
  rcases(zaqi h hy).mp hx with rfl|⟨e,he,hxe⟩
  ·exact .inl rfl
  ·obtain⟨g1,g2⟩:=zaqh h he
   rcases zakb h m (by omega) g1 hxe with rfl|hlt
   ·exact .inr g2
   ·exact .inr (by omega)
theorem zan{a b:SFf}{env e':DEnv}(h:a env=some (.nx e')):fSeq a b env=b e':=by unfold fSeq;rw[h];rfl
theorem zzr{a b:SFf}{env e':DEnv}{d:PyData}{fr:Bool}(h:a env=some (.rt d fr e')):fSeq a b env=some (.rt d fr e'):=by unfold fSeq;rw[h];rfl
theorem zmd{F:SF}{env e':DEnv}(h:F env=some (.nx e')):fS F env=some (.nx e'):=by unfold fS;rw[h];rfl
theorem zon{i:Nat}{e:EF}{env:DEnv}{d:PyData}(h:e env=some ⟨d,false,[]⟩):sSet i e env=some (.nx (env.set i (.pl d))):=by unfold sSet;rw[h];rfl
theorem zxr{i:Nat}{e:EF}{env:DEnv}{d:PyData}(h:e env=some ⟨d,false,[]⟩):fS (sSet i e) env=some (.nx (env.set i (.pl d))):=zmd (zon h)
theorem zea{i:Nat}{g:EFf}{env e1:DEnv}{d:PyData}(h:g env=some (⟨d,false,[]⟩,e1)):fSet i g env=some (.nx (e1.set i (.pl d))):=by unfold fSet;rw[h];rfl
theorem zafy{i:Nat}{g:EFf}{env e1:DEnv}{d:PyData}(h:g env=some (⟨d,true,[]⟩,e1)):fSet i g env=some (.nx (e1.set i (.ac d))):=by unfold fSet;rw[h];rfl
theorem zjl{f:Nat}{e:EF}{env:DEnv}{d0:PyData}{r:Val}(h0:env[f]?=some (.ac d0))(h:e env=some r)(hb:f∉r.bs):zak f e env=some (r,env):=by
 unfold zak;rw[h0];show(e env).bind _=_;rw[h,qF,if_pos hb]
theorem zbx{f:Nat}{e:EF}{env:DEnv}{d0:PyData}{d:PyData}{fr:Bool}(h0:env[f]?=some (.ac d0))(h:e env=some ⟨d,fr,[]⟩):zak f e env=some (⟨d,fr,[]⟩,env):=zjl h0 h (by simp)
theorem zpd{w:OF}{a b:EFf}{env e1 e2:DEnv}{x y:Val}{z:PyData}{fr:Bool}(ha:a env=some (x,e1))(hb:b e1=some (y,e2))(hw:w x.d y.d=some (z,fr)):fOp w a b env=some (⟨z,fr,bsOf z (x.bs++y.bs)⟩,e2):=by
 unfold fOp;rw[ha,qF,hb,qF,hw];rfl
theorem zxs{c:TF}{a b:SFf}{env:DEnv}(h:c env=some true):fIfP c a b env=a env:=by unfold fIfP;rw[h];rfl
theorem zpe{c:TF}{a b:SFf}{env:DEnv}(h:c env=some false):fIfP c a b env=b env:=by unfold fIfP;rw[h];rfl
theorem zfa{c:TFf}{a b:SFf}{env e1:DEnv}{x:Bool}(h:c env=some (x,e1)):fIf c a b env=if x=true then a e1 else b e1:=by unfold fIf;rw[h];rfl
theorem zru{f:IF'}{g:GT}{body:SFf}{env:DEnv}{ds:List PyData}{bs:List Nat}(h:f env=some (ds,bs)):fFor f g body env=zhu g body ds (frzs env bs):=by unfold fFor;rw[h];rfl
theorem zlg{f:IFf}{g:GT}{body:SFf}{env e1:DEnv}{ds:List PyData}{bs:List Nat}(h:f env=some (ds,bs,e1)):zms f g body env=zhu g body ds (frzs e1 bs):=by unfold zms;rw[h];rfl
theorem zxt{α:Type}{enc:α->PyData}{g:GT}{body:SFf}(I:List α->DEnv->Prop)(all:List α):∀(l pre:List α)(env:DEnv),pre++l=all->I pre env->
  (∀pre x post env,pre++x::post=all->I pre env->∃e1 e2,g (enc x) env=some e1/\body e1=some (.nx e2)/\I (pre++[x]) e2)->∃env',zhu g body (l.map enc) env=some (.nx env')/\I all env'
 | [],pre,env,hall,h0,hs=>by
  rw[qAV]at hall
  subst hall
  exact⟨env,rfl,h0⟩
 | x::l,pre,env,hall,h0,hs=>by
  obtain⟨e1,e2,h1,h2,h3⟩:=hs pre x l env hall h0
  obtain⟨env',h4,h5⟩:=zxt I all l (pre++[x]) e2 (by rw[<- hall];simp) h3 hs
  refine⟨env',?_,h5⟩
  rw[qp]
  unfold zhu
  rw[h1,qF,h2,qF]
  exact h4
theorem zaci{α:Type}{enc:α->PyData}{g:GT}{body:SFf}{l:List α}{env:DEnv}(I:List α->DEnv->Prop)(h0:I [] env)(hs:∀pre x post env,pre++x::post=l->I pre env->∃e1 e2,g (enc x) env=some e1/\body e1=some (.nx e2)/\I (pre++[x]) e2) :
  ∃env',zhu g body (l.map enc) env=some (.nx env')/\I l env':=zxt I l l [] env rfl h0 hs
theorem zcm{g:GT}{body:SFf}{n:Nat}{env:DEnv}(I:Nat->DEnv->Prop)(h0:I 0 env)(hs:∀k env,k<n->I k env->∃e1 e2,g (.int (k:Int)) env=some e1/\body e1=some (.nx e2)/\I (k+1) e2) :
  ∃env',zhu g body (zeo 0 n) env=some (.nx env')/\I n env':=by
 rw[zwx]
 obtain⟨env',h1,h2⟩:=zaci (enc:=λ(k:Nat)=>PyData.int (k:Int)) (g:=g) (body:=body) (l:=List.range n) (env:=env) (λpre e=>I pre.length e) h0 λpre x post e hp hI=>by
  have hx:x=pre.length/\pre.length<n:=by
   have hlen:pre.length<n:=by
    have:=congrArg List.length hp
    rw[qR,qv,qA8]at this
    omega
   have:=congrArg (λl=>l[pre.length]?) hp
   rw[qt (qN _),Nat.sub_self,qCw hlen]at this
   exact⟨qS this,hlen⟩
  obtain⟨e1,e2,q1,q2,q3⟩:=hs pre.length e hx.2 hI
  exact⟨e1,e2,by rw[hx.1];exact q1,q2,by rw[qR];exact q3⟩
 rw[qA8]at h2
 exact⟨env',h1,h2⟩
noncomputable def Fok(d:PyData)(n:Nat):Prop:=∃g m s:Int,d=.list [.int g,.int m,.int s]/\0<=g/\0<=m/\m<2 ^ 32/\0<=s/\s<=n
theorem Fok.mono{d:PyData}{n n':Nat}(h:Fok d n)(hn:n<=n'):Fok d n':=by
 obtain⟨g,m,s,e,h1,h2,h3,h4,h5⟩:=h
 exact⟨g,m,s,e,h1,h2,h3,h4,by omega⟩
theorem Fok.flat{d:PyData}{n:Nat}(h:Fok d n):zwe d=true:=by
 obtain⟨g,m,s,rfl,_⟩:=h
 rfl
theorem zaqn{env:DEnv}{i:Nat}{d:PyData}(h:env[i]?=some (.pl d)):zob i env=some (.rt d false env):=by unfold zob;rw[h]
theorem zacj{d:PyData}{n:Nat}{m:Int}(ok:Fok d n)(hn:n<=10 ^ 12)(m0:0<m)(m1:m<1073741824):∃(r:Int)(d':PyData),zah d [.int m]=some (.int r,false,d')/\0<=r/\r<m/\Fok d' (n+1):=by
 obtain⟨g,mm,s,rfl,g0,mm0,mm1,s0,s1⟩:=ok
 have key:∀(r:Int)(d':PyData)(env:DEnv),env[0]?=some (.ac d')->zhc [.ac (.list [.int g,.int mm,.int s]),.pl (.int m),.no,.no,.no]=some (.rt (.int r) false env)->zah (.list [.int g,.int mm,.int s]) [.int m]=some (.int r,false,d'):=λr d' env he h=>by
  unfold zah fnF
  show(zhc [.ac (.list [.int g,.int mm,.int s]),.pl (.int m),.no,.no,.no]).bind _=_
  rw[h]
  show(match env[0]? with|some (.ac d1)=>some (PyData.int r,false,d1)|_=>none)=_
  rw[he]
 by_cases hg:0<g
 ·refine⟨g % m,.list [.int (g / m),.int mm,.int s],key _ _ [.ac (.list [.int (g / m),.int mm,.int s]),.pl (.int m),.pl (.int (g % m)),.no,.no] rfl ?_,qAy _ (by omega),qAl _ m0,⟨g / m,mm,s,rfl,Int.ediv_nonneg g0 (by omega),mm0,mm1,s0,by omega⟩⟩
  unfold zhc
  have t:zas (eOp gtD (eIxV 0 (eC (.int 0))) (eC (.int 0))) [.ac (.list [.int g,.int mm,.int s]),.pl (.int m),.no,.no,.no]=some true:=zcv (by rw[zaqm (i:=g) (j:=0) (zabz (n:=0) rfl rfl rfl) rfl,decide_eq_true hg])
  have a1:sSet 2 (eOp modD (eIxV 0 (eC (.int 0))) (eVar 1)) [.ac (.list [.int g,.int mm,.int s]),.pl (.int m),.no,.no,.no]=some (.nx [.ac (.list [.int g,.int mm,.int s]),.pl (.int m),.pl (.int (g % m)),.no,.no]):=zon (zww (zabz (n:=0) rfl rfl rfl) rfl m0)
  have a2:zyw 0 (eC (.int 0)) (eOp zyl (eIxV 0 (eC (.int 0))) (eVar 1)) [.ac (.list [.int g,.int mm,.int s]),.pl (.int m),.pl (.int (g % m)),.no,.no]=some (.nx [.ac (.list [.int (g / m),.int mm,.int s]),.pl (.int m),.pl (.int (g % m)),.no,.no]):=by
   unfold zyw
   show(Option.bind (eOp zyl (eIxV 0 (eC (.int 0))) (eVar 1) _) _)=_
   rw[zajv (i:=g) (j:=m) (zabz (n:=0) rfl rfl rfl) rfl m0 m1]
   rfl
  refine zzr ?_
  rw[zxs t,zan (zmd a1),zan (zmd a2)]
  exact zaqn rfl
 ·have eg:g=0:=by omega
  subst eg
  have bs:(-(2:Int) ^ 64<s+1/\s+1<2 ^ 64):=by constructor<;>omega
  generalize h1:(mm+40692 * (s+1) * (s+1)+69621 * (s+1)) % 2147483647=x1
  have x10:0<=x1/\x1<2147483647:=by rw[<- h1];exact⟨qAy _ (by decide),qAl _ (by decide)⟩
  generalize h2:(x1 * x1+39373 * x1+(s+1)) % 2147483579=x2
  have x20:0<=x2/\x2<2147483579:=by rw[<- h2];exact⟨qAy _ (by decide),qAl _ (by decide)⟩
  generalize h3:(x2 * x2+16807 * x2) % 2147483549=x3
  have sm:∀{x:Int},0<=x/\x<2147483647->-(2:Int) ^ 64<x/\x<2 ^ 64:=λ{x} h=>by constructor<;>omega
  refine⟨x3 / 64 % m,.list [.int 0,.int mm,.int (s+1)],key _ _ [.ac (.list [.int 0,.int mm,.int (s+1)]),.pl (.int m),.no,.pl (.int (s+1)),.pl (.int x3)] rfl ?_,qAy _ (by omega),qAl _ m0,⟨0,mm,s+1,rfl,by omega,mm0,mm1,by omega,by omega⟩⟩
  unfold zhc
  have t:zas (eOp gtD (eIxV 0 (eC (.int 0))) (eC (.int 0))) [.ac (.list [.int 0,.int mm,.int s]),.pl (.int m),.no,.no,.no]=some false:=zcv (by rw[zaqm (i:=0) (j:=0) (zabz (n:=0) rfl rfl rfl) rfl];rfl)
  have a1:sSet 3 (eOp addD (eIxV 0 (eC (.int 2))) (eC (.int 1))) [.ac (.list [.int 0,.int mm,.int s]),.pl (.int m),.no,.no,.no]=some (.nx [.ac (.list [.int 0,.int mm,.int s]),.pl (.int m),.no,.pl (.int (s+1)),.no]):=zon (zph (zabz (n:=2) rfl rfl rfl) rfl)
  have a2:zyw 0 (eC (.int 2)) (eVar 3) [.ac (.list [.int 0,.int mm,.int s]),.pl (.int m),.no,.pl (.int (s+1)),.no]=some (.nx [.ac (.list [.int 0,.int mm,.int (s+1)]),.pl (.int m),.no,.pl (.int (s+1)),.no]):=rfl
  have a3:sSet 4 (eOp modD (eOp addD (eOp addD (eIxV 0 (eC (.int 1))) (eOp mulD (eOp mulD (eC (.int 40692)) (eVar 3)) (eVar 3))) (eOp mulD (eC (.int 69621)) (eVar 3))) (eC (.int 2147483647))) [.ac (.list [.int 0,.int mm,.int (s+1)]),.pl (.int m),.no,.pl (.int (s+1)),.no]=some (.nx [.ac (.list [.int 0,.int mm,.int (s+1)]),.pl (.int m),.no,.pl (.int (s+1)),.pl (.int x1)]):=by
   rw[<- h1]
   exact zon (zww (zph (zph (zabz (n:=1) rfl rfl rfl) (zsa (zsa rfl rfl (.inr bs)) rfl (.inr bs))) (zsa rfl rfl (.inr bs))) rfl (by decide))
  have a4:sSet 4 (eOp modD (eOp addD (eOp addD (eOp mulD (eVar 4) (eVar 4)) (eOp mulD (eC (.int 39373)) (eVar 4))) (eVar 3)) (eC (.int 2147483579))) [.ac (.list [.int 0,.int mm,.int (s+1)]),.pl (.int m),.no,.pl (.int (s+1)),.pl (.int x1)]=some (.nx [.ac (.list [.int 0,.int mm,.int (s+1)]),.pl (.int m),.no,.pl (.int (s+1)),.pl (.int x2)]):=by
   rw[<- h2]
   exact zon (zww (zph (zph (zsa rfl rfl (.inr (sm x10))) (zsa rfl rfl (.inr (sm x10)))) rfl) rfl (by decide))
  have a5:sSet 4 (eOp modD (eOp addD (eOp mulD (eVar 4) (eVar 4)) (eOp mulD (eC (.int 16807)) (eVar 4))) (eC (.int 2147483549))) [.ac (.list [.int 0,.int mm,.int (s+1)]),.pl (.int m),.no,.pl (.int (s+1)),.pl (.int x2)]=some (.nx [.ac (.list [.int 0,.int mm,.int (s+1)]),.pl (.int m),.no,.pl (.int (s+1)),.pl (.int x3)]):=by
   rw[<- h3]
   have:=sm (x:=x2) ⟨x20.1,by omega⟩
   exact zon (zww (zph (zsa rfl rfl (.inr this)) (zsa rfl rfl (.inr this))) rfl (by decide))
  rw[zan (zpe t),zan (zmd a1),zan (zmd a2),zan (zmd a3),zan (zmd a4),zan (zmd a5)]
  unfold zhv
  rw[zww (i:=x3 / 64) (j:=m) (zajv (i:=x3) (j:=64) rfl rfl (by decide) (by decide)) rfl m0]
  rfl
theorem zeb{f n:Nat}{g:GE}{a:AFf}{env e1:DEnv}{d0 d1 d':PyData}{rs:List Val}{z:PyData}{fr:Bool}(h0:env[f]?=some (.ac d0))(ha:a env=some (rs,e1))(h1:e1[f]?=some (.ac d1))(hl:rs.length+1=n)(hg:g d1 (zka rs)=some (z,fr,d'))(hf:zwe d'=true) :
  zao f n g a env=some (⟨z,fr,bsOf z (bss rs)⟩,(frzs e1 (bss rs)).set f (.ac d')):=by
 unfold zao
 rw[h0]
 show(a env).bind _=_
 rw[ha,qF]
 show(match e1[f]? with|some (.ac d0)=>_|_=>none)=_
 rw[h1]
 show(if rs.length+1=n then _ else none)=_
 rw[if_pos hl,hg,qF,if_pos hf]
theorem ziv{f:Nat}{x:EFf}{env e1:DEnv}{r:Val}{d:PyData}(hx:x env=some (r,e1))(h1:e1[f]?=some (.ac d)):zap x (fNil f) env=some ([r],e1):=by
 unfold zap
 rw[hx,qF]
 show(fNil f e1).map _=_
 unfold fNil
 rw[h1];rfl
theorem zaiv{f:Nat}{x:EFf}{env e1:DEnv}{d0 d:PyData}{n:Nat}{m:Int}(h0:env[f]?=some (.ac d0))(hx:x env=some (vi m,e1))(h1:e1[f]?=some (.ac d))(ok:Fok d n)(hn:n<=10 ^ 12)(m0:0<m)(m1:m<1073741824) :
  ∃(r:Int)(d':PyData),zao f 2 zah (zap x (fNil f)) env=some (vi r,e1.set f (.ac d'))/\0<=r/\r<m/\Fok d' (n+1):=by
 obtain⟨r,d',q1,q2,q3,q4⟩:=zacj ok hn m0 m1
 exact⟨r,d',zeb h0 (ziv hx h1) h1 rfl q1 q4.flat,q2,q3,q4⟩
theorem zge{f:Nat}{e:EF}{env:DEnv}{d:PyData}{n:Nat}{m:Int}(h0:env[f]?=some (.ac d))(he:e env=some (vi m))(ok:Fok d n)(hn:n<=10 ^ 12)(m0:0<m)(m1:m<1073741824) :
  ∃(r:Int)(d':PyData),zao f 2 zah (zap (zak f e) (fNil f)) env=some (vi r,env.set f (.ac d'))/\0<=r/\r<m/\Fok d' (n+1):=zaiv h0 (zbx h0 he) h0 ok hn m0 m1
theorem zlh{e:EF}{env:DEnv}{n:Nat}(h:e env=some (vi (n:Int)))(hn:n<2 ^ 62):zes (zac e aNil) env=some (zeo 0 n,[]):=by
 unfold zes
 rw[zoe h,qF]
 show(if -(2 ^ 62)<=(n:Int)/\(n:Int)<2 ^ 62 then some (zeo 0 (n:Int).toNat,[])else none)=_
 rw[if_pos ⟨by omega,by omega⟩,qBB]
theorem zafz(x:Str)(a b:Nat)(hb:b<=x.length):(((List.range (b - a)).map λk=>a+k).filterMap (x.cps[·]?)).length=b - a:=by
 have:((List.range (b - a)).map λk=>a+k).filterMap (x.cps[·]?)=((List.range (b - a)).map λk=>a+k).map λi=>x.cps[i]?.getD 0:=by
  have g:∀l:List Nat,(∀i∈l,i<x.cps.size)->l.filterMap (x.cps[·]?)=l.map λi=>x.cps[i]?.getD 0:=by
   intro l
   induction l with
   | nil=>intro _;rfl
   | cons i l ih=>
    intro h
    have hi:=h i qV
    rw[qBM,qCK hi,qp,ih λj hj=>h j (qM _ hj),qCK hi]
    rfl
  refine g _ λi hi=>?_
  obtain⟨k,hk,rfl⟩:=qAh.mp hi
  have hk:=qAb.mp hk
  have:x.length=x.cps.size:=rfl
  omega
 rw[this,qE,qE,qA8]
theorem zamz(n a:Nat):Builtin.Str.strSliceIndices none (some (a:Int)) 1 n=(List.range (min a n - 0)).map λk=>0+k:=by
 unfold Builtin.Str.strSliceIndices sliceRange
 simp only[show(1:Int) > 0 by decide,if_true]
 rw[if_neg (show ¬((a:Int)<0) by omega)]
 have e:(max 0 (min (a:Int) (n:Int)))=((min a n:Nat):Int):=by omega
 rw[e]
 by_cases h:(0:Int)<((min a n:Nat):Int)
 ·rw[if_pos h]
  have e2:((((min a n:Nat):Int) - 0+1 - 1) / 1).toNat=min a n - 0:=by rw[qCr];omega
  rw[e2]
  exact qBL λk _=>by omega
 ·rw[if_neg h]
  have e2:min a n - 0=0:=by omega
  rw[e2];rfl
theorem zana(n a:Nat):Builtin.Str.strSliceIndices (some (a:Int)) none 1 n=(List.range (n - min a n)).map λk=>min a n+k:=by
 unfold Builtin.Str.strSliceIndices sliceRange
 simp only[show(1:Int) > 0 by decide,if_true]
 rw[if_neg (show ¬((a:Int)<0) by omega)]
 have e:(max 0 (min (a:Int) (n:Int)))=((min a n:Nat):Int):=by omega
 rw[e]
 by_cases h:((min a n:Nat):Int)<(n:Int)
 ·rw[if_pos h]
  have e2:(((n:Int) - ((min a n:Nat):Int)+1 - 1) / 1).toNat=n - min a n:=by rw[qCr];omega
  rw[e2]
  exact qBL λk _=>by omega
 ·rw[if_neg h]
  have e2:n - min a n=0:=by omega
  rw[e2];rfl
theorem zrv(x:Str)(a:Nat):(Txt.slice x none (some (a:Int))).length=min a x.length:=by
 unfold Txt.slice
 rw[zamz]
 split
 ·rename_i h
  rw[qZ,beq_iff_eq,beq_iff_eq,qE,qA8]at h
  omega
 ·show(List.filterMap _ _).toArray.size=_
  rw[qG,zafz x 0 (min a x.length) (by omega)];omega
theorem zzs(x:Str)(a:Nat):(Txt.slice x (some (a:Int)) none).length=x.length - min a x.length:=by
 unfold Txt.slice
 rw[zana]
 split
 ·rename_i h
  rw[qZ,beq_iff_eq,beq_iff_eq,qE,qA8]at h
  omega
 ·show(List.filterMap _ _).toArray.size=_
  rw[qG,zafz x (min a x.length) x.length (by omega)]
theorem zuw(x:Str):x.cps.toList.length=x.length:=rfl
noncomputable def zpo(b:Str)(a:Nat)(i:Int):Str:=Txt.slice b none (some (a:Int))++ltr i++Txt.slice b (some (a:Int)) none
theorem zaga{b c:Str}{a:Nat}{i j:Int}(hi:0<=i)(hj:0<=j)(h:zpo b a i=zpo c a j):i=j:=by
 unfold zpo at h
 have l1:∀k,(ltr k).length=1:=λ_=>rfl
 have hl:=congrArg Str.length h
 rw[zof,zof,zof,zof,l1,l1,zrv,zrv,zzs,zzs]at hl
 have q:=congrArg (λx:Str=>x.cps.toList) h
 simp only[zun,qBW]at q
 have q2:=(List.append_inj q (by rw[zuw,zuw,zrv,zrv];omega)).2
 have q3:=(List.append_inj q2 (by rw[zuw,zuw];rfl)).1
 exact zamt hi hj (by unfold ltr at q3 ⊢;congr 1;exact qB5.mp q3)
theorem zagb{b:Str}{a:Nat}{i:Int}(h:Low b)(h0:0<=i)(h1:i<26):Low (zpo b a i):=((h.slice _ _).app (Low.ltr h0 h1)).app (h.slice _ _)
theorem zaqo:∀st∈([1,3,5,7,9,11,15,17,19,21,23,25]:List Nat),∀a<16,∀b<16,st * a % 26=st * b % 26->a=b:=by decide +kernel
noncomputable def zxu:List Nat:=[1,3,5,7,9,11,15,17,19,21,23,25]
theorem zagc{o:Int}{st:Nat}(hs:st∈zxu){a b:Nat}(ha:a<16)(hb:b<16)(h:(o+st * a) % 26=(o+st * b) % 26):a=b:=by
 have h2:=Int.emod_add_cancel_left.mp h
 exact zaqo st hs a ha b hb (by exact_mod_cast h2)
theorem zakc{i:Int}(h0:0<=i)(h1:i<26):ixD (.str abc) (.int i)=some (.str (ltr i),false):=by
 show(if abc.length<=100000 then(atI abc.cps.toList i).map λc=>(PyData.str ⟨#[c]⟩,false)else none)=_
 rw[if_pos (by rw[zamv];decide),zaqe h0 h1];rfl
theorem znl{d:PyData}{n m:Nat}(ok:Fok d n)(hn:n+100<=10 ^ 12)(hm:m<=8):∃(w:Str)(d':PyData),zbu d [.int (m:Int)]=some (.str w,false,d')/\w.length=m/\Low w/\Fok d' (n+m):=by
 have loop:∃env',zhu (gN 3) (fSet 2 (fOp addD (zak 0 (eVar 2)) (fOp ixD (zak 0 (eC (.str abc))) (zao 0 2 zah (zap (zak 0 (eC (.int 26))) (fNil 0)))))) (zeo 0 m) [.ac d,.pl (.int (m:Int)),.pl (.str ""),.no]=some (.nx env')/\
   ∃(w:Str)(d':PyData)(s:Sl),env'=[.ac d',.pl (.int (m:Int)),.pl (.str w),s]/\w.length=m/\Low w/\Fok d' (n+m):=by
  refine zcm (λk env=>∃(w:Str)(d':PyData)(s:Sl),env=[.ac d',.pl (.int (m:Int)),.pl (.str w),s]/\w.length=k/\Low w/\Fok d' (n+k)) ⟨"",d,.no,rfl,rfl,(λc hc=>nomatch hc),ok⟩ ?_
  rintro k env hk ⟨w,d1,s,rfl,hw,lw,ok1⟩
  obtain⟨r,d2,q1,q2,q3,q4⟩:=zge (f:=0) (e:=eC (.int 26)) (env:=[.ac d1,.pl (.int (m:Int)),.pl (.str w),.pl (.int (k:Int))]) rfl rfl ok1 (by omega) (by decide) (by decide)
  refine⟨_,[.ac d2,.pl (.int (m:Int)),.pl (.str (w++ltr r)),.pl (.int (k:Int))],rfl,?_,w++ltr r,d2,_,rfl,by rw[zof,hw];rfl,lw.app (Low.ltr q2 q3),q4⟩
  have a1:=zpd (zbx (f:=0) (e:=eC (.str abc)) (env:=[.ac d1,.pl (.int (m:Int)),.pl (.str w),.pl (.int (k:Int))]) (d0:=d1) rfl rfl) q1 (zakc q2 q3)
  have a2:=zpd (w:=addD) (zbx (f:=0) (e:=eVar 2) (env:=[.ac d1,.pl (.int (m:Int)),.pl (.str w),.pl (.int (k:Int))]) (d0:=d1) rfl rfl) a1 (z:=.str (w++ltr r)) (fr:=false) (by
   show(if w.length+(ltr r).length<=100000 then some (PyData.str (w++ltr r),false)else none)=_
   rw[if_pos (by rw[hw];show k+1<=100000;omega)])
  exact zea a2
 obtain⟨env',h1,w,d',s,rfl,h2,h3,h4⟩:=loop
 refine⟨w,d',?_,h2,h3,h4⟩
 have run:zfl [.ac d,.pl (.int (m:Int)),.no,.no]=some (.rt (.str w) false [.ac d',.pl (.int (m:Int)),.pl (.str w),s]):=by
  unfold zfl
  rw[zan (zxr (d:=.str "") rfl)]
  have e:fFor (zes (zac (eVar 1) aNil)) (gN 3) (fSet 2 (fOp addD (zak 0 (eVar 2)) (fOp ixD (zak 0 (eC (.str "abcdefghijklmnopqrstuvwxyz"))) (zao 0 2 zah (zap (zak 0 (eC (.int 26))) (fNil 0)))))) [.ac d,.pl (.int (m:Int)),.pl (.str ""),.no]=some (.nx [.ac d',.pl (.int (m:Int)),.pl (.str w),s]):=by
   rw[zru (zlh (n:=m) rfl (by omega))]
   exact h1
  exact(zan e).trans (zaqn rfl)
 unfold zbu fnF
 show(zfl [.ac d,.pl (.int (m:Int)),.no,.no]).bind _=_
 rw[run];rfl
theorem zia{w:OF}{a b:EF}{env:DEnv}{x y:Val}{z:PyData}{fr:Bool}(ha:a env=some x)(hb:b env=some y)(hw:w x.d y.d=some (z,fr)):eOp w a b env=some ⟨z,fr,bsOf z (x.bs++y.bs)⟩:=by
 unfold eOp;rw[ha,qF,hb,qF,hw];rfl
theorem zjm{i:Nat}{g:EFf}{env e1:DEnv}{ds:List PyData}{ds0:List PyData}{d:PyData}{fr:Bool}{bs:List Nat}(h0:env[i]?=some (.ac (.list ds0)))(hg:g env=some (⟨d,fr,bs⟩,e1))(h1:e1[i]?=some (.ac (.list ds)))(hl:ds.length<100000)(hi:i∉bs) :
  fApp i g env=some (.nx ((frzs e1 bs).set i (.ac (.list (ds++[d]))))):=by
 unfold fApp
 rw[h0]
 show(g env).bind _=_
 rw[hg,qF]
 show(match e1[i]? with|some (.ac (.list es))=>_|_=>none)=_
 rw[h1]
 show(if ds.length<100000/\i∉bs then _ else none)=_
 rw[if_pos ⟨hl,hi⟩]
theorem at4{r:Int}(h0:0<=r)(h1:r<4):∃sz:Nat,ixD (.list [.int 0,.int 1,.int 2,.int 7]) (.int r)=some (.int (sz:Int),false)/\sz<=7:=by
 have:r=0\/r=1\/r=2\/r=3:=by omega
 rcases this with rfl|rfl|rfl|rfl
 ·exact⟨0,rfl,by decide⟩
 ·exact⟨1,rfl,by decide⟩
 ·exact⟨2,rfl,by decide⟩
 ·exact⟨7,rfl,by decide⟩
theorem zagd{α:Type}(f:α->PyData){l:List α}{n:Nat}{x:α}(h:l[n]?=some x):ixD (.list (l.map f)) (.int (n:Int))=some (f x,false):=by
 show(atI (l.map f) (n:Int)).map _=_
 rw[zaqc f h];rfl
theorem at12{r:Int}(h0:0<=r)(h1:r<12):∃st:Nat,ixD (.list [.int 1,.int 3,.int 5,.int 7,.int 9,.int 11,.int 15,.int 17,.int 19,.int 21,.int 23,.int 25]) (.int r)=some (.int (st:Int),false)/\st∈zxu:=by
 have hl:r.toNat<zxu.length:=by show r.toNat<12;omega
 have:=zagd (λ(k:Nat)=>PyData.int (k:Int)) (qD hl)
 rw[show((r.toNat:Nat):Int)=r by omega]at this
 exact⟨_,this,qAR hl⟩
theorem zrw{neg:Bool}{i j:Nat}{env:DEnv}{x:Str}{xs:List Str}{s:Sl}(hi:env[i]?=some (.pl (.str x)))(hj:env[j]?=some s)(hs:Hd (zaa xs) s):zas (eOp (inD neg) (eVar i) (eVar j)) env=some (if neg then !decide (x∈xs)else decide (x∈xs)):=by
 obtain⟨bs,e⟩:=e_hd hj hs
 have ei:eVar i env=some (vs x):=by unfold eVar;rw[hi]
 exact zcv (zia ei e (zafo neg xs x))
theorem ziw{a:EFf}{f:Nat}{env e1:DEnv}{d:PyData}{n:Nat}(h:a env=some (vi (n:Int),e1))(h1:e1[f]?=some (.ac d))(hn:n<2 ^ 62):zdp (zap a (fNil f)) env=some (zeo 0 n,[],e1):=by
 unfold zdp
 rw[ziv h h1,qF]
 show(if -(2 ^ 62)<=(n:Int)/\(n:Int)<2 ^ 62 then some (zeo 0 (n:Int).toNat,[],e1)else none)=_
 rw[if_pos ⟨by omega,by omega⟩,qBB]
theorem zib{a:EFf}{r:AFf}{env e1 e2:DEnv}{x:Val}{xs:List Val}(h:a env=some (x,e1))(h2:r e1=some (xs,e2)):zap a r env=some (x::xs,e2):=by
 unfold zap;rw[h,qF];show(r e1).map _=_;rw[h2];rfl
theorem zanb{f:Nat}{env:DEnv}{d:PyData}(h:env[f]?=some (.ac d)):fNil f env=some ([],env):=by unfold fNil;rw[h]
theorem zack{xs:List Str}{k:Nat}{D2:Sl}(hk:0<k)(hkx:k<xs.length)(hx:xs.length<=12)(lo:∀x∈xs,Low x){m:Nat}(hm:m<=4){d:PyData}{n:Nat}(ok:Fok d n)(hn:n+1000<=10 ^ 12){s5 s6:Sl} :
  ∃env',zhu (gN 5) (fSeq (fSet 6 (fOp ixD (zak 0 (eVar 1)) (zao 0 2 zah (zap (zak 0 (eVar 3)) (fNil 0)))))
   (fIfP (zas (eOp (inD true) (eVar 6) (eVar 4))) (fApp 4 (zak 0 (eVar 6))) fNx)) (zeo 0 m) [.ac d,.pl (zaa xs),D2,.pl (.int (k:Int)),.ac (zaa []),s5,s6]=some (.nx env')/\
   ∃(es:List Str)(d':PyData)(s5 s6:Sl),env'=[.ac d',.pl (zaa xs),D2,.pl (.int (k:Int)),.ac (zaa es),s5,s6]/\(∀e∈es,e∈xs.take k)/\es.length<=m/\Fok d' (n+m):=by
 refine zcm (λj env=>∃(es:List Str)(d':PyData)(s5 s6:Sl),env=[.ac d',.pl (zaa xs),D2,.pl (.int (k:Int)),.ac (zaa es),s5,s6]/\(∀e∈es,e∈xs.take k)/\es.length<=j/\Fok d' (n+j)) ⟨[],d,s5,s6,rfl,(λe he=>nomatch he),qN _,ok⟩ ?_
 rintro j env hj ⟨es,d1,s5,s6,rfl,he,hl,ok1⟩
 obtain⟨r,d2,q1,q2,q3,q4⟩:=zge (f:=0) (e:=eVar 3) (env:=[.ac d1,.pl (zaa xs),D2,.pl (.int (k:Int)),.ac (zaa es),.pl (.int (j:Int)),s6]) rfl rfl ok1 (by omega) (by omega) (by omega)
 have hr:r.toNat<xs.length:=by omega
 have ix:=zagd PyData.str (qD hr)
 rw[show((r.toNat:Nat):Int)=r by omega]at ix
 have hm:xs[r.toNat]∈xs.take k:=qAa.mpr ⟨r.toNat,by omega,rfl⟩
 generalize xs[r.toNat]=w at ix hm
 have s1:fSet 6 (fOp ixD (zak 0 (eVar 1)) (zao 0 2 zah (zap (zak 0 (eVar 3)) (fNil 0)))) [.ac d1,.pl (zaa xs),D2,.pl (.int (k:Int)),.ac (zaa es),.pl (.int (j:Int)),s6]=some (.nx [.ac d2,.pl (zaa xs),D2,.pl (.int (k:Int)),.ac (zaa es),.pl (.int (j:Int)),.pl (.str w)]):=
  zea (zpd (zbx (f:=0) (e:=eVar 1) (d0:=d1) (d:=zaa xs) (fr:=false) rfl rfl) q1 ix)
 have t:=zrw (neg:=true) (i:=6) (j:=4) (env:=[.ac d2,.pl (zaa xs),D2,.pl (.int (k:Int)),.ac (zaa es),.pl (.int (j:Int)),.pl (.str w)]) (x:=w) (xs:=es) rfl rfl (.inr rfl)
 by_cases hin:w∈es
 ·refine⟨_,_,rfl,(zan s1).trans (zpe (by rw[t];simp[hin])),es,d2,_,_,rfl,he,by omega,q4⟩
 ·refine⟨_,[.ac d2,.pl (zaa xs),D2,.pl (.int (k:Int)),.ac (zaa (es++[w])),.pl (.int (j:Int)),.pl (.str w)],rfl,(zan s1).trans ((zxs (by rw[t];simp[hin])).trans ?_),es++[w],d2,_,_,rfl,λe hm'=>?_,by rw[qR];simp;omega,q4⟩
  ·rw[zjm rfl (zbx (f:=0) (e:=eVar 6) (d0:=d2) (d:=.str w) (fr:=false) rfl rfl) rfl (by rw[qE];omega) (by simp)]
   show some (OutF.nx [.ac d2,.pl (zaa xs),D2,.pl (.int (k:Int)),.ac (.list (es.map .str++[.str w])),.pl (.int (j:Int)),.pl (.str w)])=_
   unfold zaa
   rw[qAO];rfl
  ·rcases q9.mp hm' with z|z
   ·exact he e z
   ·rw[qAM.mp z];exact hm
theorem zacl{d:PyData}{n:Nat}{xs:List Str}(ok:Fok d n)(hn:n+10000<=10 ^ 12)(hx:xs.length<=12)(nd:xs.Nodup)(lo:∀x∈xs,Low x):∃(W:Web)(d':PyData),zgn d [zaa xs]=some (webD W,true,d')/\nm W=xs/\WebOk W/\Fok d' (n+1000):=by
 have loop:∃env',zhu (gN 3) (fSeq (fS (sSet 4 (eLst aNil)))
  (fSeq (zms (zdp (zap (fCB minD (zap (zak 0 (eVar 3)) (zap (zao 0 2 zah (zap (zak 0 (eC (.int 5))) (fNil 0))) (fNil 0)))) (fNil 0))) (gN 5)
  (fSeq (fSet 6 (fOp ixD (zak 0 (eVar 1)) (zao 0 2 zah (zap (zak 0 (eVar 3)) (fNil 0)))))
  (fIfP (zas (eOp (inD true) (eVar 6) (eVar 4))) (fApp 4 (zak 0 (eVar 6))) fNx)))
  (fApp 2 (zak 0 (eTup (zac (eIxV 1 (eVar 3)) (zac (eVar 4) aNil))))))) (zeo 0 xs.length) [.ac d,.pl (zaa xs),.ac (webD []),.no,.no,.no,.no]=some (.nx env')/\
  ∃(W:Web)(d':PyData)(s3 s4 s5 s6:Sl),env'=[.ac d',.pl (zaa xs),.ac (webD W),s3,s4,s5,s6]/\nm W=xs.take xs.length/\WebOk W/\Fok d' (n+10 * xs.length):=by
  refine zcm (λk env=>∃(W:Web)(d':PyData)(s3 s4 s5 s6:Sl),env=[.ac d',.pl (zaa xs),.ac (webD W),s3,s4,s5,s6]/\nm W=xs.take k/\WebOk W/\Fok d' (n+10 * k)) ⟨[],d,_,_,_,_,rfl,rfl,zafu,ok⟩ ?_
  rintro k env hk ⟨W,d1,s3,s4,s5,s6,rfl,hW,wok,ok1⟩
  have Wl:W.length=k:=by have:=congrArg List.length hW;unfold nm at this;rw[qE,qAq]at this;omega
  have e0:fS (sSet 4 (eLst aNil)) [.ac d1,.pl (zaa xs),.ac (webD W),.pl (.int (k:Int)),s4,s5,s6]=some (.nx [.ac d1,.pl (zaa xs),.ac (webD W),.pl (.int (k:Int)),.ac (zaa []),s5,s6]):=rfl
  obtain⟨t,d2,q1,q2,q3,q4⟩:=zge (f:=0) (e:=eC (.int 5)) (env:=[.ac d1,.pl (zaa xs),.ac (webD W),.pl (.int (k:Int)),.ac (zaa []),s5,s6]) rfl rfl ok1 (by omega) (by decide) (by decide)
  have mn:∃m:Nat,(if t<(k:Int)then t else(k:Int))=(m:Int)/\m<=4/\m<=k:=by
   by_cases h:t<(k:Int)
   ·exact⟨t.toNat,by rw[if_pos h];omega,by omega,by omega⟩
   ·exact⟨k,by rw[if_neg h],by omega,qN _⟩
  obtain⟨m,em,m4,mk⟩:=mn
  have e1:fCB minD (zap (zak 0 (eVar 3)) (zap (zao 0 2 zah (zap (zak 0 (eC (.int 5))) (fNil 0))) (fNil 0))) [.ac d1,.pl (zaa xs),.ac (webD W),.pl (.int (k:Int)),.ac (zaa []),s5,s6]=some (vi (m:Int),[.ac d2,.pl (zaa xs),.ac (webD W),.pl (.int (k:Int)),.ac (zaa []),s5,s6]):=by
   unfold fCB
   rw[zib (zbx (f:=0) (e:=eVar 3) (d0:=d1) (d:=.int (k:Int)) (fr:=false) rfl rfl) (zib q1 (zanb rfl)),qF]
   show((some (PyData.int (if t<(k:Int)then t else(k:Int)),false)).bind _)=_
   rw[em];rfl
  have inner:∃(es:List Str)(d3:PyData)(s5' s6':Sl),zms (zdp (zap (fCB minD (zap (zak 0 (eVar 3)) (zap (zao 0 2 zah (zap (zak 0 (eC (.int 5))) (fNil 0))) (fNil 0)))) (fNil 0))) (gN 5)
    (fSeq (fSet 6 (fOp ixD (zak 0 (eVar 1)) (zao 0 2 zah (zap (zak 0 (eVar 3)) (fNil 0)))))
    (fIfP (zas (eOp (inD true) (eVar 6) (eVar 4))) (fApp 4 (zak 0 (eVar 6))) fNx)) [.ac d1,.pl (zaa xs),.ac (webD W),.pl (.int (k:Int)),.ac (zaa []),s5,s6]=some (.nx [.ac d3,.pl (zaa xs),.ac (webD W),.pl (.int (k:Int)),.ac (zaa es),s5',s6'])/\(∀e∈es,e∈xs.take k)/\es.length<=4/\Fok d3 (n+10 * k+9):=by
   rw[zlg (ziw (f:=0) e1 rfl (by omega))]
   by_cases h0:m=0
   ·subst h0
    exact⟨[],d2,_,_,rfl,(λe he=>nomatch he),by simp,q4.mono (by omega)⟩
   ·obtain⟨env',h1,es,d3,s5',s6',rfl,h2,h3,h4⟩:=zack (D2:=.ac (webD W)) (k:=k) (by omega) hk hx lo m4 q4 (by omega) (s5:=s5) (s6:=s6)
    exact⟨es,d3,s5',s6',h1,h2,by omega,h4.mono (by omega)⟩
  obtain⟨es,d3,s5',s6',h1,h2,h3,h4⟩:=inner
  have hget:xs[k]?=some xs[k]:=qD hk
  have e2:eTup (zac (eIxV 1 (eVar 3)) (zac (eVar 4) aNil)) [.ac d3,.pl (zaa xs),.ac (webD W),.pl (.int (k:Int)),.ac (zaa es),s5',s6']=some ⟨rowD (xs[k],es),false,[4]⟩:=by
   have ei:eIxV 1 (eVar 3) [.ac d3,.pl (zaa xs),.ac (webD W),.pl (.int (k:Int)),.ac (zaa es),s5',s6']=some (vs xs[k]):=zaqd rfl rfl (by rw[qh,hget];rfl)
   unfold eTup zac
   rw[ei];rfl
  refine⟨_,[.ac d3,.pl (zaa xs),.ac (webD (W++[(xs[k],es)])),.pl (.int (k:Int)),.pl (zaa es),s5',s6'],rfl,(zan e0).trans ((zan h1).trans ?_),W++[(xs[k],es)],d3,_,_,_,_,rfl,?_,?_,h4.mono (by omega)⟩
  ·rw[zjm rfl (zjl (f:=0) (d0:=d3) rfl e2 (show(0:Nat)∉[4] by decide)) rfl (by rw[qE];omega) (by decide)]
   show some (OutF.nx [.ac d3,.pl (zaa xs),.ac (.list (W.map rowD++[rowD (xs[k],es)])),.pl (.int (k:Int)),.pl (zaa es),s5',s6'])=_
   unfold webD
   rw[qAO];rfl
  ·rw[zoc,hW,List.take_succ,hget];rfl
  ·refine zafv wok ?_ (by rw[hW];exact h2) h3 (by omega)
   rw[hW]
   intro z
   obtain⟨i,hi,e⟩:=qAa.mp z
   have:=zaqf nd (i:=i) (j:=k) e
   omega
 obtain⟨env',h1,W,d',s3,s4,s5,s6,rfl,h2,h3,h4⟩:=loop
 refine⟨W,d',?_,by rw[h2,qB6],h3,h4.mono (by omega)⟩
 have run:zkr [.ac d,.pl (zaa xs),.no,.no,.no,.no,.no]=some (.rt (webD W) true [.ac d',.pl (zaa xs),.no,s3,s4,s5,s6]):=by
  unfold zkr
  refine(zan (show fS (sSet 2 (eLst aNil)) [.ac d,.pl (zaa xs),.no,.no,.no,.no,.no]=some (.nx [.ac d,.pl (zaa xs),.ac (webD []),.no,.no,.no,.no])from rfl)).trans ?_
  have it:zes (zac (eCB lenD (zac (eVar 1) aNil)) aNil) [.ac d,.pl (zaa xs),.ac (webD []),.no,.no,.no,.no]=some (zeo 0 xs.length,[]):=zlh (by rw[zmy (ds:=xs.map .str) (fr:=false) (bs:=[]) rfl,qE]) (by omega)
  exact(zan ((zru it).trans h1)).trans rfl
 unfold zgn fnF
 show(zkr [.ac d,.pl (zaa xs),.no,.no,.no,.no,.no]).bind _=_
 rw[run];rfl
noncomputable def tabW(W V:Web):List (Str×List Str):=V.map λp=>(p.1,hdg W p.1)
theorem zaiw(W V:Web):(tabW W V).map (·.1)=nm V:=by unfold tabW nm;rw[qBD];rfl
theorem zzt{W:Web}:∀{V:Web}{n:Str},n∈nm V->(tabW W V).lookup n=some (hdg W n)
 | [],n,h=>by cases h
 | p::V,n,h=>by
  show List.lookup n ((p.1,hdg W p.1)::tabW W V)=_
  rw[qu]
  by_cases e:n=p.1
  ·subst e;rw[beq_self_eq_true]
  ·rw[beq_eq_false_iff_ne.mpr e]
   exact zzt (V:=V) (by
    unfold nm at h ⊢
    rcases qa.mp h with z|z
    ·exact absurd z e
    ·exact z)
theorem zzu{W:Web}(h:WebOk W):zfv [webD W]=some (.dict (dS zaa (tabW W W)),true):=by
 have hl:=h.len
 have outer:∃env',forL (gT 2 (zcg 2 (zcg 3 zkd))) (sSeq (sSet 4 (eLst (zac (eVar 2) aNil)))
  (sSeq (sFor (zbf (eVar 3)) (gN 5)
  (sSet 4 (eOp addD (eVar 4) (zep 1 (eVar 5)))))
  (sPut 1 (eVar 2) (zfs ["_law_other","_law_rest"] [4] (zbf (eVar 0)) (gT 2 (zcg 0 (zcg 1 zkd))) (zas (eOp (inD false) (eVar 0) (eVar 2))) (eVar 0))))) (W.map rowD) [.pl (webD W),.ac (.dict (dS zaa (tabW W []))),.no,.no,.no,.no]=some (.nx env')/\∃s2 s3 s4 s5,env'=[.pl (webD W),.ac (.dict (dS zaa (tabW W W))),s2,s3,s4,s5]:=by
  refine zqx (λpre env=>∃s2 s3 s4 s5,env=[.pl (webD W),.ac (.dict (dS zaa (tabW W pre))),s2,s3,s4,s5]) ⟨_,_,_,_,rfl⟩ ?_
  rintro pre p post env hp ⟨s2,s3,s4,s5,rfl⟩
  have hV:WebOk (pre++[p]):=zwv (post:=post) (by rw[<- zaay hp];exact h)
  obtain⟨hV',hn,hel,hfew⟩:=zhb hV
  have pm:(p.1,p.2)∈W:=by rw[<- hp];simp
  have e1:sSet 4 (eLst (zac (eVar 2) aNil)) [.pl (webD W),.ac (.dict (dS zaa (tabW W pre))),.pl (.str p.1),.pl (zaa p.2),s4,s5]=some (.nx [.pl (webD W),.ac (.dict (dS zaa (tabW W pre))),.pl (.str p.1),.pl (zaa p.2),.ac (zaa [p.1]),s5]):=rfl
  have inner:∃env',forL (gN 5) (sSet 4 (eOp addD (eVar 4) (zep 1 (eVar 5)))) (p.2.map .str) [.pl (webD W),.ac (.dict (dS zaa (tabW W pre))),.pl (.str p.1),.pl (zaa p.2),.ac (zaa [p.1]),s5]=some (.nx env')/\
    ∃(ys:List Str)(s5:Sl),env'=[.pl (webD W),.ac (.dict (dS zaa (tabW W pre))),.pl (.str p.1),.pl (zaa p.2),.ac (zaa ys),s5]/\(∀x,x∈ys↔x=p.1\/∃e∈p.2,x∈hdg W e)/\ys.length<=1+12 * p.2.length:=by
   refine zqx (λes env=>∃(ys:List Str)(s5:Sl),env=[.pl (webD W),.ac (.dict (dS zaa (tabW W pre))),.pl (.str p.1),.pl (zaa p.2),.ac (zaa ys),s5]/\(∀x,x∈ys↔x=p.1\/∃e∈es,x∈hdg W e)/\ys.length<=1+12 * es.length) ⟨[p.1],s5,rfl,λx=>by simp,by simp⟩ ?_
   rintro es e post env he ⟨ys,s5,rfl,hm,hy⟩
   have len:=congrArg List.length he
   rw[qR,qv]at len
   have hh:=zamw h (n:=e)
   have gd:zep 1 (eVar 5) [.pl (webD W),.ac (.dict (dS zaa (tabW W pre))),.pl (.str p.1),.pl (zaa p.2),.ac (zaa ys),.pl (.str e)]=some ⟨zaa (hdg W e),false,[]⟩:=by
    simp[zep,eVar,keyD,zra,zzt (W:=W) (V:=pre) (n:=e) (hel e (by rw[<- he];simp))]
   refine⟨_,_,rfl,.inl (zoz (zaql (f1:=false) (b1:=[4]) rfl gd (by omega))),ys++hdg W e,.pl (.str e),rfl,λx=>?_,by rw[qR,qR];simp;omega⟩
   rw[q9,hm]
   constructor
   ·rintro((z|⟨e',z1,z2⟩)|z)
    ·exact .inl z
    ·exact .inr ⟨e',qy _ z1,z2⟩
    ·exact .inr ⟨e,by simp,z⟩
   ·rintro(z|⟨e',z1,z2⟩)
    ·exact .inl (.inl z)
    ·rcases q9.mp z1 with z1|z1
     ·exact .inl (.inr ⟨e',z1,z2⟩)
     ·rw[qAM.mp z1]at z2;exact .inr z2
  obtain⟨env1,q,ys,s5',rfl,hm,hy⟩:=inner
  have filt:(W.filter λr=>decide (r.1∈ys)).map (λr=>PyData.str r.1)=(hdg W p.1).map .str:=by
   unfold hdg nm
   rw[List.filter_map,qBD]
   refine congrArg (λl=>List.map (λr:Str×List Str=>PyData.str r.1) l) (qB1 λr hr=>?_)
   refine decide_eq_decide.mpr ?_
   rw[hm,zaju h pm]
   constructor
   ·rintro(z|⟨e,z1,z2⟩)
    ·exact .inl z
    ·exact .inr ⟨e,z1,(zup h).mp z2⟩
   ·rintro(z|⟨e,z1,z2⟩)
    ·exact .inl z
    ·exact .inr ⟨e,z1,(zup h).mpr z2⟩
  have c:zet (gT 2 (zcg 0 (zcg 1 zkd))) (zas (eOp (inD false) (eVar 0) (eVar 2))) (eVar 0) [.no,.no,.pl (zaa ys)] (W.map rowD)=some ((hdg W p.1).map .str):=by
   rw[<- filt]
   exact zgm (enc:=rowD) (out:=λr=>PyData.str r.1) (λr=>decide (r.1∈ys)) λr _=>⟨[.pl (.str r.1),.pl (zaa r.2),.pl (zaa ys)],rfl,zrw (neg:=false) (i:=0) (j:=2) (x:=r.1) (xs:=ys) rfl rfl (.inl rfl),λ_=>⟨vs r.1,rfl,rfl⟩⟩
  have ec:zfs ["_law_other","_law_rest"] [4] (zbf (eVar 0)) (gT 2 (zcg 0 (zcg 1 zkd))) (zas (eOp (inD false) (eVar 0) (eVar 2))) (eVar 0) [.pl (webD W),.ac (.dict (dS zaa (tabW W pre))),.pl (.str p.1),.pl (zaa p.2),.ac (zaa ys),s5']=some ⟨zaa (hdg W p.1),true,[]⟩:=by
   have:=zih (own:=["_law_other","_law_rest"]) (fr:=[4]) (fi:=zbf (eVar 0)) (env:=[.pl (webD W),.ac (.dict (dS zaa (tabW W pre))),.pl (.str p.1),.pl (zaa p.2),.ac (zaa ys),s5']) (ds:=W.map rowD) (bs:=[]) rfl (by rw[qE];omega) c
   rw[this,if_pos (zin _)];rfl
  have lz:(dS zaa (tabW W pre)).length<100000:=by
   unfold dS tabW
   rw[qE,qE]
   have:=hV'.len
   omega
  have pt:sPut 1 (eVar 2) (zfs ["_law_other","_law_rest"] [4] (zbf (eVar 0)) (gT 2 (zcg 0 (zcg 1 zkd))) (zas (eOp (inD false) (eVar 0) (eVar 2))) (eVar 0)) [.pl (webD W),.ac (.dict (dS zaa (tabW W pre))),.pl (.str p.1),.pl (zaa p.2),.ac (zaa ys),s5']=some (.nx [.pl (webD W),.ac (.dict (dS zaa (tabW W (pre++[p])))),.pl (.str p.1),.pl (zaa p.2),.ac (zaa ys),s5']):=by
   unfold sPut
   show((zfs ["_law_other","_law_rest"] [4] (zbf (eVar 0)) (gT 2 (zcg 0 (zcg 1 zkd))) (zas (eOp (inD false) (eVar 0) (eVar 2))) (eVar 0) [.pl (webD W),.ac (.dict (dS zaa (tabW W pre))),.pl (.str p.1),.pl (zaa p.2),.ac (zaa ys),s5']).bind _)=_
   rw[ec]
   show(if(dS zaa (tabW W pre)).length<100000/\1∉([]:List Nat)then some (Out.nx [.pl (webD W),.ac (.dict (zqk (dS zaa (tabW W pre)) (.str p.1) (zaa (hdg W p.1)))),.pl (.str p.1),.pl (zaa p.2),.ac (zaa ys),s5'])else none)=_
   rw[if_pos ⟨lz,by simp⟩,zafr zaa (by rw[zaiw];exact hn),show tabW W (pre++[p])=tabW W pre++[(p.1,hdg W p.1)] by unfold tabW;rw[qAO];rfl]
  exact⟨_,_,rfl,.inl (zej e1 (zej (zpz rfl q) pt)),_,_,_,_,rfl⟩
 obtain⟨env',hl',s2,s3,s4,s5,rfl⟩:=outer
 exact zgx (env:=[.pl (webD W),.no,.no,.no,.no,.no]) rfl (zej rfl (zej (zpz rfl hl') rfl))
theorem zage{b:Str}{a:Nat}{i:Int}(h:b.length<=7):(zpo b a i).length<=8:=by
 unfold zpo
 have la:∀x y:Str,(x++y).length=x.length+y.length:=λx y=>by show(x.cps++y.cps).size=x.cps.size+y.cps.size;exact Array.size_append
 rw[la,la,zrv,zzs,show(ltr i).length=1 from rfl]
 omega
section
variable{d:PyData}{n:Nat}
theorem zxv{m sz sm at_ fi st k:Nat}{b:Str}{xs:List Str}{s10:Sl}(ok:Fok d n)(hn:n+1000<=10 ^ 12)(hsz:sz<=7)(hst:st∈zxu)(hfi:fi<26)(hb:Low b)(hbl:b.length<=7)(hxs:xs.length<1000)(hk:k<16) :
  ∃(b':Str)(d':PyData),Low b'/\b'.length<=7/\Fok d' (n+10)/\(fSeq (fIfP (zas (eOp eqD (eVar 3) (eC (.int 0)))) (fSet 7 (zao 0 2 zbu (zap (zao 0 2 zah (zap (zak 0 (eOp addD (eVar 2) (eC (.int 1)))) (fNil 0))) (fNil 0)))) fNx)
  (fSeq (fS (sSet 10 (eOp ixD (eC (.str "abcdefghijklmnopqrstuvwxyz")) (eOp modD (eOp addD (eVar 5) (eOp mulD (eVar 6) (eVar 9))) (eC (.int 26))))))
  (fApp 8 (zak 0 (eOp addD (eOp addD (eSl (eVar 7) zlj (zja (eVar 4))) (eVar 10)) (eSl (eVar 7) (zja (eVar 4)) zlj)))))) [.ac d,.pl (.int (m:Int)),.pl (.int (sz:Int)),.pl (.int (sm:Int)),.pl (.int (at_:Int)),.pl (.int (fi:Int)),.pl (.int (st:Int)),.pl (.str b),.ac (zaa xs),.pl (.int (k:Int)),s10] =
   some (.nx [.ac d',.pl (.int (m:Int)),.pl (.int (sz:Int)),.pl (.int (sm:Int)),.pl (.int (at_:Int)),.pl (.int (fi:Int)),.pl (.int (st:Int)),.pl (.str b'),.ac (zaa (xs++[zpo b' at_ (((fi:Int)+st * k) % 26)])),.pl (.int (k:Int)),.pl (.str (ltr (((fi:Int)+st * k) % 26)))]):=by
 have first:∃(b':Str)(d':PyData),Low b'/\b'.length<=7/\Fok d' (n+10)/\fIfP (zas (eOp eqD (eVar 3) (eC (.int 0)))) (fSet 7 (zao 0 2 zbu (zap (zao 0 2 zah (zap (zak 0 (eOp addD (eVar 2) (eC (.int 1)))) (fNil 0))) (fNil 0)))) fNx [.ac d,.pl (.int (m:Int)),.pl (.int (sz:Int)),.pl (.int (sm:Int)),.pl (.int (at_:Int)),.pl (.int (fi:Int)),.pl (.int (st:Int)),.pl (.str b),.ac (zaa xs),.pl (.int (k:Int)),s10] =
   some (.nx [.ac d',.pl (.int (m:Int)),.pl (.int (sz:Int)),.pl (.int (sm:Int)),.pl (.int (at_:Int)),.pl (.int (fi:Int)),.pl (.int (st:Int)),.pl (.str b'),.ac (zaa xs),.pl (.int (k:Int)),s10]):=by
  have t:zas (eOp eqD (eVar 3) (eC (.int 0))) [.ac d,.pl (.int (m:Int)),.pl (.int (sz:Int)),.pl (.int (sm:Int)),.pl (.int (at_:Int)),.pl (.int (fi:Int)),.pl (.int (st:Int)),.pl (.str b),.ac (zaa xs),.pl (.int (k:Int)),s10]=some ((sm:Int)==0):=zcv (zaby rfl rfl)
  by_cases h:(sm:Int)=0
  ·rw[zxs (by rw[t,h];rfl)]
   obtain⟨r,d1,q1,q2,q3,q4⟩:=zge (f:=0) (e:=eOp addD (eVar 2) (eC (.int 1))) (env:=[.ac d,.pl (.int (m:Int)),.pl (.int (sz:Int)),.pl (.int (sm:Int)),.pl (.int (at_:Int)),.pl (.int (fi:Int)),.pl (.int (st:Int)),.pl (.str b),.ac (zaa xs),.pl (.int (k:Int)),s10]) rfl (zph rfl rfl) ok (by omega) (by omega) (by omega)
   obtain⟨w,d2,p1,p2,p3,p4⟩:=znl (m:=r.toNat) q4 (by omega) (by omega)
   rw[show((r.toNat:Nat):Int)=r by omega]at p1
   exact⟨w,d2,p3,by omega,p4.mono (by omega),zea (zeb rfl (ziv q1 rfl) rfl rfl p1 p4.flat)⟩
  ·exact⟨b,d,hb,hbl,ok.mono (by omega),by rw[zpe (by rw[t,beq_eq_false_iff_ne.mpr h])];rfl⟩
 obtain⟨b',d',lb,bl,ok',h1⟩:=first
 refine⟨b',d',lb,bl,ok',?_⟩
 have hst100:st<=25:=by
  have:∀x∈zxu,x<=25:=by decide
  exact this st hst
 have md:0<=((fi:Int)+st * k) % 26/\((fi:Int)+st * k) % 26<26:=⟨qAy _ (by decide),qAl _ (by decide)⟩
 rw[zan h1]
 have h2:fS (sSet 10 (eOp ixD (eC (.str "abcdefghijklmnopqrstuvwxyz")) (eOp modD (eOp addD (eVar 5) (eOp mulD (eVar 6) (eVar 9))) (eC (.int 26))))) [.ac d',.pl (.int (m:Int)),.pl (.int (sz:Int)),.pl (.int (sm:Int)),.pl (.int (at_:Int)),.pl (.int (fi:Int)),.pl (.int (st:Int)),.pl (.str b'),.ac (zaa xs),.pl (.int (k:Int)),s10] =
   some (.nx [.ac d',.pl (.int (m:Int)),.pl (.int (sz:Int)),.pl (.int (sm:Int)),.pl (.int (at_:Int)),.pl (.int (fi:Int)),.pl (.int (st:Int)),.pl (.str b'),.ac (zaa xs),.pl (.int (k:Int)),.pl (.str (ltr (((fi:Int)+st * k) % 26)))]):=by
  refine zxr (d:=.str (ltr (((fi:Int)+st * k) % 26))) ?_
  exact zia (w:=ixD) (x:=⟨.str abc,false,[]⟩) (y:=vi (((fi:Int)+st * k) % 26)) rfl (zww (zph rfl (zsa rfl rfl (.inr ⟨by omega,by omega⟩))) rfl (by decide)) (zakc md.1 md.2)
 rw[zan h2]
 have z1:=Txt.slice_le b' none (some (at_:Int))
 have z2:=Txt.slice_le b' (some (at_:Int)) none
 have l1:∀i,(ltr i).length=1:=λ_=>rfl
 have h3:eOp addD (eOp addD (eSl (eVar 7) zlj (zja (eVar 4))) (eVar 10)) (eSl (eVar 7) (zja (eVar 4)) zlj) [.ac d',.pl (.int (m:Int)),.pl (.int (sz:Int)),.pl (.int (sm:Int)),.pl (.int (at_:Int)),.pl (.int (fi:Int)),.pl (.int (st:Int)),.pl (.str b'),.ac (zaa xs),.pl (.int (k:Int)),.pl (.str (ltr (((fi:Int)+st * k) % 26)))]=some (vs (zpo b' at_ (((fi:Int)+st * k) % 26))):=
  zajw (zajw (zaqb rfl rfl (zajx rfl) (by omega)) rfl (by rw[l1];omega)) (zaqb rfl (zajx rfl) rfl (by omega)) (by rw[zof,l1];omega)
 rw[zjm rfl (zbx (f:=0) (d0:=d') rfl h3) rfl (by rw[qE];omega) (by simp)]
 show some (OutF.nx [.ac d',.pl (.int (m:Int)),.pl (.int (sz:Int)),.pl (.int (sm:Int)),.pl (.int (at_:Int)),.pl (.int (fi:Int)),.pl (.int (st:Int)),.pl (.str b'),.ac (.list (xs.map .str++[.str (zpo b' at_ (((fi:Int)+st * k) % 26))])),.pl (.int (k:Int)),.pl (.str (ltr (((fi:Int)+st * k) % 26)))])=_
 unfold zaa
 rw[qAO]
 rfl
end
theorem zux{d:PyData}{n m:Nat}(ok:Fok d n)(hn:n+10000<=10 ^ 12)(hm:m<=16):∃(xs:List Str)(d':PyData),zbv d [.int (m:Int)]=some (zaa xs,true,d')/\xs.length=m/\xs.Nodup/\(∀x∈xs,Low x/\x.length<=8)/\Fok d' (n+1000):=by
 obtain⟨r1,d1,a1,a2,a3,a4⟩:=zge (f:=0) (e:=eC (.int 4)) (env:=[.ac d,.pl (.int (m:Int)),.no,.no,.no,.no,.no,.no,.no,.no,.no]) rfl rfl ok (by omega) (by decide) (by decide)
 obtain⟨sz,e1,hsz⟩:=at4 a2 a3
 have s1:fSet 2 (fOp ixD (zak 0 (eLst (zac (eC (.int 0)) (zac (eC (.int 1)) (zac (eC (.int 2)) (zac (eC (.int 7)) aNil)))))) (zao 0 2 zah (zap (zak 0 (eC (.int 4))) (fNil 0)))) [.ac d,.pl (.int (m:Int)),.no,.no,.no,.no,.no,.no,.no,.no,.no]=some (.nx [.ac d1,.pl (.int (m:Int)),.pl (.int (sz:Int)),.no,.no,.no,.no,.no,.no,.no,.no]):=
  zea (zpd (zbx (f:=0) (d0:=d) (d:=.list [.int 0,.int 1,.int 2,.int 7]) (fr:=true) rfl rfl) a1 e1)
 obtain⟨r2,d2,b1,b2,b3,b4⟩:=zge (f:=0) (e:=eC (.int 2)) (env:=[.ac d1,.pl (.int (m:Int)),.pl (.int (sz:Int)),.no,.no,.no,.no,.no,.no,.no,.no]) rfl rfl a4 (by omega) (by decide) (by decide)
 obtain⟨r3,d3,c1,c2,c3,c4⟩:=zge (f:=0) (e:=eC (.int 8)) (env:=[.ac d2,.pl (.int (m:Int)),.pl (.int (sz:Int)),.pl (.int r2),.no,.no,.no,.no,.no,.no,.no]) rfl rfl b4 (by omega) (by decide) (by decide)
 obtain⟨r4,d4,f1,f2,f3,f4⟩:=zge (f:=0) (e:=eC (.int 26)) (env:=[.ac d3,.pl (.int (m:Int)),.pl (.int (sz:Int)),.pl (.int r2),.pl (.int r3),.no,.no,.no,.no,.no,.no]) rfl rfl c4 (by omega) (by decide) (by decide)
 obtain⟨r5,d5,g1,g2,g3,g4⟩:=zge (f:=0) (e:=eC (.int 12)) (env:=[.ac d4,.pl (.int (m:Int)),.pl (.int (sz:Int)),.pl (.int r2),.pl (.int r3),.pl (.int r4),.no,.no,.no,.no,.no]) rfl rfl f4 (by omega) (by decide) (by decide)
 obtain⟨st,e5,hst⟩:=at12 g2 g3
 have s5:fSet 6 (fOp ixD (zak 0 (eLst (zac (eC (.int 1)) (zac (eC (.int 3)) (zac (eC (.int 5)) (zac (eC (.int 7)) (zac (eC (.int 9)) (zac (eC (.int 11)) (zac (eC (.int 15)) (zac (eC (.int 17)) (zac (eC (.int 19)) (zac (eC (.int 21)) (zac (eC (.int 23)) (zac (eC (.int 25)) aNil)))))))))))))) (zao 0 2 zah (zap (zak 0 (eC (.int 12))) (fNil 0)))) [.ac d4,.pl (.int (m:Int)),.pl (.int (sz:Int)),.pl (.int r2),.pl (.int r3),.pl (.int r4),.no,.no,.no,.no,.no] =
   some (.nx [.ac d5,.pl (.int (m:Int)),.pl (.int (sz:Int)),.pl (.int r2),.pl (.int r3),.pl (.int r4),.pl (.int (st:Int)),.no,.no,.no,.no]):=
  zea (zpd (zbx (f:=0) (d0:=d4) (d:=.list [.int 1,.int 3,.int 5,.int 7,.int 9,.int 11,.int 15,.int 17,.int 19,.int 21,.int 23,.int 25]) (fr:=true) rfl rfl) g1 e5)
 obtain⟨b,d6,p1,p2,p3,p4⟩:=znl (m:=sz) g4 (by omega) (by omega)
 have s6:fSet 7 (zao 0 2 zbu (zap (zak 0 (eVar 2)) (fNil 0))) [.ac d5,.pl (.int (m:Int)),.pl (.int (sz:Int)),.pl (.int r2),.pl (.int r3),.pl (.int r4),.pl (.int (st:Int)),.no,.no,.no,.no] =
   some (.nx [.ac d6,.pl (.int (m:Int)),.pl (.int (sz:Int)),.pl (.int r2),.pl (.int r3),.pl (.int r4),.pl (.int (st:Int)),.pl (.str b),.no,.no,.no]):=
  zea (zeb rfl (ziv (zbx (f:=0) (d0:=d5) rfl (d:=.int (sz:Int)) (fr:=false) rfl) rfl) rfl rfl p1 p4.flat)
 obtain⟨sm,rfl⟩:∃k:Nat,r2=(k:Int):=⟨r2.toNat,by omega⟩
 obtain⟨at_,rfl⟩:∃k:Nat,r3=(k:Int):=⟨r3.toNat,by omega⟩
 obtain⟨fi,rfl⟩:∃k:Nat,r4=(k:Int):=⟨r4.toNat,by omega⟩
 have loop:∃env',zhu (gN 9) (fSeq (fIfP (zas (eOp eqD (eVar 3) (eC (.int 0)))) (fSet 7 (zao 0 2 zbu (zap (zao 0 2 zah (zap (zak 0 (eOp addD (eVar 2) (eC (.int 1)))) (fNil 0))) (fNil 0)))) fNx)
  (fSeq (fS (sSet 10 (eOp ixD (eC (.str "abcdefghijklmnopqrstuvwxyz")) (eOp modD (eOp addD (eVar 5) (eOp mulD (eVar 6) (eVar 9))) (eC (.int 26))))))
  (fApp 8 (zak 0 (eOp addD (eOp addD (eSl (eVar 7) zlj (zja (eVar 4))) (eVar 10)) (eSl (eVar 7) (zja (eVar 4)) zlj)))))) (zeo 0 m) [.ac d6,.pl (.int (m:Int)),.pl (.int (sz:Int)),.pl (.int (sm:Int)),.pl (.int (at_:Int)),.pl (.int (fi:Int)),.pl (.int (st:Int)),.pl (.str b),.ac (zaa []),.no,.no]=some (.nx env')/\
  ∃(xs:List Str)(b:Str)(d':PyData)(s9 s10:Sl),env'=[.ac d',.pl (.int (m:Int)),.pl (.int (sz:Int)),.pl (.int (sm:Int)),.pl (.int (at_:Int)),.pl (.int (fi:Int)),.pl (.int (st:Int)),.pl (.str b),.ac (zaa xs),s9,s10]/\Low b/\b.length<=7/\xs.length=m/\(∀i,i<m->∃b':Str,(Low b'/\b'.length<=7)/\xs[i]?=some (zpo b' at_ (((fi:Int)+st * i) % 26)))/\Fok d' (n+20+10 * m):=by
  refine zcm (λk env=>∃(xs:List Str)(b:Str)(d':PyData)(s9 s10:Sl),env=[.ac d',.pl (.int (m:Int)),.pl (.int (sz:Int)),.pl (.int (sm:Int)),.pl (.int (at_:Int)),.pl (.int (fi:Int)),.pl (.int (st:Int)),.pl (.str b),.ac (zaa xs),s9,s10]/\Low b/\b.length<=7/\xs.length=k/\(∀i,i<k->∃b':Str,(Low b'/\b'.length<=7)/\xs[i]?=some (zpo b' at_ (((fi:Int)+st * i) % 26)))/\Fok d' (n+20+10 * k))
   ⟨[],b,d6,.no,.no,rfl,p3,by omega,rfl,λi hi=>by omega,p4.mono (by omega)⟩ ?_
  rintro k env hk ⟨xs,b0,d0,s9,s10,rfl,lb,bl,xl,xi,ok0⟩
  obtain⟨b',d',q1,q2,q3,q4⟩:=zxv (m:=m) (sm:=sm) (fi:=fi) (at_:=at_) (k:=k) (s10:=s10) ok0 (by omega) hsz hst (by omega) lb bl (xs:=xs) (by omega) (by omega)
  refine⟨_,_,rfl,q4,xs++[zpo b' at_ (((fi:Int)+st * k) % 26)],b',d',_,_,rfl,q1,q2,by rw[qR];simp[xl],λi hi=>?_,q3.mono (by omega)⟩
  by_cases h:i<k
  ·obtain⟨b'',z1,z2⟩:=xi i h
   exact⟨b'',z1,by rw[qq (by omega)];exact z2⟩
  ·have:i=k:=by omega
   subst this
   exact⟨b',⟨q1,q2⟩,by rw[qt (by omega),xl,Nat.sub_self];rfl⟩
 obtain⟨env1,hloop,xs,b2',d7,s9,s10,rfl,_,_,xl,xi,ok7⟩:=loop
 have md:∀i:Nat,0<=((fi:Int)+st * i) % 26/\((fi:Int)+st * i) % 26<26:=λi=>⟨qAy _ (by decide),qAl _ (by decide)⟩
 have xnd:xs.Nodup:=by
  refine qBQ.mpr (qAZ.mpr λi j hi hj hij e=>?_)
  obtain⟨b1,_,z1⟩:=xi i (by omega)
  obtain⟨b2,_,z2⟩:=xi j (by omega)
  rw[qD hi]at z1
  rw[qD hj]at z2
  have:=zaga (md i).1 (md j).1 ((qS z1).symm.trans (e.trans (qS z2)))
  have:=zagc hst (a:=i) (b:=j) (by omega) (by omega) this
  omega
 have xlo:∀x∈xs,Low x/\x.length<=8:=λx hx=>by
  obtain⟨i,hi,rfl⟩:=List.mem_iff_getElem.mp hx
  obtain⟨b1,z0,z1⟩:=xi i (by omega)
  rw[qD hi]at z1
  rw[qS z1]
  exact⟨zagb z0.1 (md i).1 (md i).2,zage z0.2⟩
 refine⟨xs,d7,?_,xl,xnd,xlo,ok7.mono (by omega)⟩
 have run:zdw [.ac d,.pl (.int (m:Int)),.no,.no,.no,.no,.no,.no,.no,.no,.no]=some (.rt (zaa xs) true [.ac d7,.pl (.int (m:Int)),.pl (.int (sz:Int)),.pl (.int (sm:Int)),.pl (.int (at_:Int)),.pl (.int (fi:Int)),.pl (.int (st:Int)),.pl (.str b2'),.no,s9,s10]):=by
  unfold zdw
  refine(zan s1).trans ((zan (zea b1)).trans ((zan (zea c1)).trans ((zan (zea f1)).trans ?_)))
  refine(zan s5).trans ((zan s6).trans ?_)
  have s7:fS (sSet 8 (eLst aNil)) [.ac d6,.pl (.int (m:Int)),.pl (.int (sz:Int)),.pl (.int (sm:Int)),.pl (.int (at_:Int)),.pl (.int (fi:Int)),.pl (.int (st:Int)),.pl (.str b),.no,.no,.no]=some (.nx [.ac d6,.pl (.int (m:Int)),.pl (.int (sz:Int)),.pl (.int (sm:Int)),.pl (.int (at_:Int)),.pl (.int (fi:Int)),.pl (.int (st:Int)),.pl (.str b),.ac (zaa []),.no,.no]):=rfl
  refine(zan s7).trans ?_
  refine(zan ((zru (zlh (n:=m) rfl (by omega))).trans hloop)).trans ?_
  rfl
 unfold zbv fnF
 show(zdw [.ac d,.pl (.int (m:Int)),.no,.no,.no,.no,.no,.no,.no,.no,.no]).bind _=_
 rw[run];rfl
theorem zacm{n:Nat}{x:Str}{d:PyData}:eqJ (n+1) (.str x) d=true↔d=.str x:=by
 cases d with
 | str y=>
  show(x==y)=true↔_
  rw[beq_iff_eq]
  exact⟨λh=>by rw[h],λh=>by cases h;rfl⟩
 | _=>exact⟨λh=>(by cases h),λh=>(by cases h)⟩
theorem zaqp{n:Nat}{x:Str}{d:PyData}(h:jok (n+1) d=true):eqJ (n+1) d (.str x)=true↔d=.str x:=by
 cases d with
 | str y=>
  show(y==x)=true↔_
  rw[beq_iff_eq]
  exact⟨λh=>by rw[h],λh=>by cases h;rfl⟩
 | dict ps=>rw[zqw h λ_ z=>by cases z];exact⟨λh=>(by cases h),λh=>(by cases h)⟩
 | _=>exact⟨λh=>(by cases h),λh=>(by cases h)⟩
noncomputable def unL(A:List Str)(ds:List PyData):Prop:=∃xs:List Str,ds=xs.map .str/\(∀x∈xs,x∈A)/\xs.Nodup
theorem zuy{A:List Str}:∀{ds:List PyData},(∀d∈ds,∃x∈A,d=.str x)->∃xs:List Str,ds=xs.map .str/\∀x∈xs,x∈A
 | [],_=>⟨[],rfl,λ_ h=>(nomatch h)⟩
 | d::ds,h=>by
  obtain⟨x,hx,rfl⟩:=h d (qV ..)
  obtain⟨xs,rfl,h2⟩:=zuy λe he=>h e (qM _ he)
  exact⟨x::xs,rfl,λy hy=>(qa.mp hy).elim (λe=>e▸hx) (h2 y)⟩
theorem zxw{neg:Bool}{a b:EF}{env:DEnv}{d:PyData}{ds:List PyData}{c:PyData}{f1 f2:Bool}{b1 b2:List Nat}(ha:a env=some ⟨d,f1,b1⟩)(hb:b env=some ⟨c,f2,b2⟩)(hc:zhw c=some ds)(h1:jok 6 d=true)(h2:ds.all (jok 6)=true):eOp (inJ neg) a b env=some (vb (if neg then !(ds.any λe=>eqJ 6 e d)else ds.any λe=>eqJ 6 e d)):=by
 refine zia ha hb ?_
 unfold inJ
 rw[hc]
 exact if_pos ⟨h1,h2⟩
theorem zuz(A:List Str):(A.map PyData.str).all (jok 6)=true:=by
 rw[qBm]
 exact qK.mpr λ_ _=>rfl
theorem zva{A:List Str}{d:PyData}:((A.map PyData.str).any λe=>eqJ 6 e d)=true↔∃x∈A,d=.str x:=by
 rw[qBE,qAe]
 exact⟨λ⟨x,hx,e⟩=>⟨x,hx,zacm.mp e⟩,λ⟨x,hx,e⟩=>⟨x,hx,zacm.mpr e⟩⟩
open Classical in
theorem zacn{A:List Str}{ds:List PyData}(hj:ds.all (jok 6)=true)(hl:ds.length<4000):zcj [zaa A,.list ds]=some (.bool (decide (unL A ds)),false):=by
 have c:zet (gN 0) zgr (eOp (inJ false) (eVar 0) (eVar 1)) [.no,.pl (zaa A)] (ds.map id)=some (ds.map λd=>.bool ((A.map PyData.str).any λe=>eqJ 6 e d)):=
  zfk λd hd=>⟨[.pl d,.pl (zaa A)],rfl,rfl,vb ((A.map PyData.str).any λe=>eqJ 6 e d),zxw (neg:=false) (f1:=false) (b1:=[]) (f2:=false) (b2:=[]) rfl rfl rfl (qK.mp hj d hd) (zuz A),rfl⟩
 rw[qCE]at c
 have t:=zrc (zais (zih (env:=[.pl (zaa A),.pl (.list ds)]) (fr:=[0]) (own:=["thing"]) (fi:=zbf (eVar 1)) (ds:=ds) (bs:=[]) rfl (by omega) c))
 cases ha:ds.all λd=>(A.map PyData.str).any λe=>eqJ 6 e d with
 | false=>
  rw[ha]at t
  rw[decide_eq_false]
  ·exact zgx (env:=[.pl (zaa A),.pl (.list ds)]) rfl (zfp (if_t t rfl))
  ·rintro⟨xs,rfl,h1,h2⟩
   rw[qB2]at ha
   exact ha (qK.mpr λd hd=>by
    obtain⟨x,hx,rfl⟩:=qAh.mp hd
    exact zva.mpr ⟨x,h1 x hx,rfl⟩)
 | true=>
  rw[ha]at t
  obtain⟨xs,rfl,hm⟩:=zuy (A:=A) λd hd=>zva.mp (qK.mp ha d hd)
  refine zgx (env:=[.pl (zaa A),.pl (.list (xs.map .str))]) rfl (zej (if_f t rfl) (zmx (bs:=[]) ?_))
  have e1:zty (eVar 1) [.pl (zaa A),.pl (.list (xs.map .str))]=some (vi (unl [] (xs.map Sum.inr))):=by
   show((zyt (xs.map .str)).bind λks=>if(xs.map PyData.str).length<4000 then some (⟨.int (unl [] ks),false,[]⟩:Val)else none)=_
   rw[zwz,qF,if_pos hl]
  have e2:eCB lenD (zac (eVar 1) aNil) [.pl (zaa A),.pl (.list (xs.map .str))]=some (vi (xs.map PyData.str).length):=zmy rfl
  rw[zaby e1 e2]
  have:(((unl [] (xs.map Sum.inr):Nat):Int)==(((xs.map PyData.str).length:Nat):Int))=decide (unL A (xs.map .str)):=by
   rw[qx,beq_iff_eq,decide_eq_true_iff,qE]
   have q:=zaka (xs.map Sum.inr) []
   rw[qE]at q
   constructor
   ·intro z;exact⟨xs,rfl,hm,(zafx xs).mp (q.mp (by omega)).1⟩
   ·rintro⟨ys,e,_,z⟩
    have:xs=ys:=by
     have:=congrArg (List.map λd=>match d with|PyData.str x=>x|_=>("":Str)) e
     simpa [qBD,qCj]using this
    subst this
    have:=q.mpr ⟨(zafx xs).mpr z,λ_ _ y=>by simp at y⟩
    omega
  rw[this]
noncomputable def gBn(A:List Str)(b:PyData):Prop:=∃ds,b=.list ds/\ds.length<=5/\unL A ds
noncomputable def Cd(b:PyData):Prop:=∀ds,b=.list ds->ds.all (jok 6)=true/\ds.length<4000
theorem le_i{a b:EF}{env:DEnv}{i j:Int}(ha:a env=some (vi i))(hb:b env=some (vi j)):eOp leD a b env=some (vb (decide (i<=j))):=zia ha hb rfl
theorem gt_i{a b:EF}{env:DEnv}{i j:Int}(ha:a env=some (vi i))(hb:b env=some (vi j)):eOp gtD a b env=some (vb (decide (i > j))):=zia ha hb rfl
open Classical in
theorem zaix{A:List Str}{b:PyData}(hb:Cd b):zhr [zaa A,b]=some (.bool (decide (gBn A b)),false):=by
 refine zgx (env:=[.pl (zaa A),.pl b]) rfl (zmx (bs:=[]) ?_)
 cases b with
 | list ds=>
  obtain⟨h1,h2⟩:=hb ds rfl
  have l1:eOp leD (eCB lenD (zac (eVar 1) aNil)) (eC (.int 5)) [.pl (zaa A),.pl (.list ds)]=some (vb (decide ((ds.length:Int)<=5))):=le_i (zmy rfl) rfl
  have c1:=zdi (n:=2) (g:=zcj) (f:=zac (eVar 0) (zac (eVar 1) aNil)) (env:=[.pl (zaa A),.pl (.list ds)]) (rs:=[⟨zaa A,false,[]⟩,⟨.list ds,false,[]⟩]) rfl rfl (zacn h1 h2)
  unfold eAnd
  rw[show eIsi "list" (eVar 1) [.pl (zaa A),.pl (.list ds)]=some (vb true)from rfl,l1,c1]
  by_cases hl:(ds.length:Int)<=5
  ·rw[decide_eq_true hl]
   show some (vb (decide (unL A ds)))=_
   have:decide (unL A ds)=decide (gBn A (.list ds)):=by
    rw[qx,decide_eq_true_iff,decide_eq_true_iff]
    exact⟨λh=>⟨ds,rfl,by omega,h⟩,λ⟨_,e,_,h⟩=>by cases e;exact h⟩
   rw[this]
  ·rw[decide_eq_false hl,decide_eq_false (p:=gBn A (.list ds))]
   ·rfl
   ·rintro⟨_,e,h,_⟩;cases e;omega
 | _=>
  rw[decide_eq_false (p:=gBn A _)]
  ·rfl
  ·rintro⟨_,e,_⟩;cases e
theorem zakd(xs:List PyData)(k:Nat):cutD xs none (some (k:Int))=xs.take k:=by
 unfold cutD
 rw[show HT.sIx xs.length 0 none=0 from rfl,HT.sIx_nat,List.drop_zero,Nat.sub_zero]
 by_cases h:k<=xs.length
 ·rw[Nat.min_eq_left h]
 ·rw[Nat.min_eq_right (by omega),qA6 (qN _),qA6 (by omega)]
noncomputable def isS:PyData->Bool
 | .str _=>true
 | _=>false
noncomputable def lkB(A:List Str)(ds:List PyData)(k:Nat):Bool:=isS (ds.getD k .none)&&((A.map PyData.str).any λe=>eqJ 6 e (ds.getD k .none))&&!((ds.take k).any λe=>eqJ 6 e (ds.getD k .none))
theorem zaqq{A:List Str}{ds:List PyData}(hj:ds.all (jok 6)=true):((List.range ds.length).all (lkB A ds))=true↔unL A ds:=by
 rw[qK]
 constructor
 ·intro h
  have hA:∀d∈ds,∃x∈A,d=.str x:=λd hd=>by
   obtain⟨k,hk,e⟩:=qAi hd
   have hh:=h k (qAb.mpr hk)
   unfold lkB at hh
   rw[qZ,qZ,qQ,qD hk,qBZ,e]at hh
   exact zva.mp hh.1.2
  obtain⟨xs,rfl,hm⟩:=zuy hA
  refine⟨xs,rfl,hm,?_⟩
  rw[qBQ,qAZ]
  intro i j hi hj' hij e
  have hjl:j<(xs.map PyData.str).length:=by rw[qE];exact hj'
  have hh:=h j (qAb.mpr hjl)
  unfold lkB at hh
  rw[qZ,qQ,qD hjl,qBZ,qBY,qBX]at hh
  refine hh.2 (.str xs[i]) ?_ ?_
  ·rw[qAa]
   exact⟨i,by rw[qE];omega,by rw[qBf]⟩
  ·rw[qBf,e]
   exact zacm.mpr rfl
 ·rintro⟨xs,rfl,hm,nd⟩ k hk
  have hk:k<(xs.map PyData.str).length:=qAb.mp hk
  have hk':k<xs.length:=by rw[qE]at hk;exact hk
  unfold lkB
  rw[qQ,qD hk,qBZ,qBf,qZ,qZ,qBY,qBX]
  refine⟨⟨rfl,zva.mpr ⟨_,hm _ (qAR hk'),rfl⟩⟩,λd hd z=>?_⟩
  obtain⟨i,hi,e⟩:=qAa.mp hd
  rw[qBf]at e
  subst e
  have e2:xs[k]=xs[i]:=PyData.str.inj (zacm.mp z)
  rw[qBQ,qAZ]at nd
  exact nd i k (by rw[qE]at hi;omega) hk' (by rw[qE]at hi;omega) e2.symm
open Classical in
theorem zagf{A:List Str}{b:PyData}(hb:Cd b):zdy [zaa A,b]=some (.bool (decide (gBn A b)),false):=by
 cases b with
 | list ds=>
  obtain⟨h1,h2⟩:=hb ds rfl
  have t1:tOrF (zfe (tTru (eIsi "list" (eVar 1)))) (zas (eOp gtD (eCB lenD (zac (eVar 1) aNil)) (eC (.int 5)))) [.pl (zaa A),.pl (.list ds),.no]=some (decide ((ds.length:Int) > 5)):=by
   unfold tOrF
   rw[zrc (show eIsi "list" (eVar 1) [.pl (zaa A),.pl (.list ds),.no]=some (vb true)from rfl),zcv (gt_i (zmy rfl) rfl)];rfl
  by_cases hl:(ds.length:Int) > 5
  ·rw[decide_eq_true hl]at t1
   rw[decide_eq_false (p:=gBn A (.list ds))]
   ·exact zgx (env:=[.pl (zaa A),.pl (.list ds),.no]) rfl (zfp (if_t t1 rfl))
   ·rintro⟨_,e,h,_⟩;cases e;omega
  ·rw[decide_eq_false hl]at t1
   have z:=zmw (enc:=λ(k:Nat)=>PyData.int (k:Int)) (g:=gN 2) (body:=sIf (tOrF (zfe (tTru (eIsi "str" (eIxV 1 (eVar 2))))) (tOrF (zas (eOp (inJ true) (eIxV 1 (eVar 2)) (eVar 0))) (zas (eOp (inJ false) (eIxV 1 (eVar 2)) (eSl (eVar 1) zlj (zja (eVar 2))))))) (sRet (eC (.bool false))) sNil) (lkB A ds) (.bool false) false (λenv=>∃s,env=[.pl (zaa A),.pl (.list ds),s]) (List.range ds.length) [.pl (zaa A),.pl (.list ds),.no] ⟨_,rfl⟩ (by
    rintro k hk env ⟨s,rfl⟩
    have hk:k<ds.length:=qAb.mp hk
    have hgd:ds.getD k .none=ds[k]:=by rw[qQ,qD hk];rfl
    have jk:jok 6 ds[k]=true:=qK.mp h1 _ (qAR hk)
    have ix:eIxV 1 (eVar 2) [.pl (zaa A),.pl (.list ds),.pl (.int (k:Int))]=some ⟨ds[k],false,bsOf ds[k] ([]++[])⟩:=by
     refine zia (x:=⟨.list ds,false,[]⟩) (y:=vi (k:Int)) rfl rfl ?_
     show((atI ds (k:Int)).map _)=_
     rw[znn (qD hk)];rfl
    have i1:=zxw (neg:=true) (b:=eVar 0) (f2:=false) (b2:=[]) ix rfl rfl jk (zuz A)
    have sl:eSl (eVar 1) zlj (zja (eVar 2)) [.pl (zaa A),.pl (.list ds),.pl (.int (k:Int))]=some ⟨.list (ds.take k),true,[]⟩:=by
     show some (⟨.list (cutD ds none (some (k:Int))),true,_⟩:Val)=_
     rw[zakd];rfl
    have i2:=zxw (neg:=false) ix sl rfl jk (by rw[qK];exact λe he=>qK.mp h1 e (qAz he))
    have is1:eIsi "str" (eIxV 1 (eVar 2)) [.pl (zaa A),.pl (.list ds),.pl (.int (k:Int))]=some (vb (isS ds[k])):=by
     unfold eIsi
     rw[ix]
     show some (vb (isiB "str" ds[k]))=_
     cases ds[k]<;>rfl
    have tt:tOrF (zfe (tTru (eIsi "str" (eIxV 1 (eVar 2))))) (tOrF (zas (eOp (inJ true) (eIxV 1 (eVar 2)) (eVar 0))) (zas (eOp (inJ false) (eIxV 1 (eVar 2)) (eSl (eVar 1) zlj (zja (eVar 2)))))) [.pl (zaa A),.pl (.list ds),.pl (.int (k:Int))]=some (!lkB A ds k):=by
     unfold tOrF lkB
     rw[hgd,zrc is1,zcv i1,zcv i2]
     cases isS ds[k]<;>cases((A.map PyData.str).any λe=>eqJ 6 e ds[k])<;>cases((ds.take k).any λe=>eqJ 6 e ds[k])<;>rfl
    refine⟨_,rfl,λh=>?_,λh=>?_⟩
    ·rw[h]at tt
     exact⟨_,if_f tt rfl,_,rfl⟩
    ·rw[h]at tt
     exact if_t tt rfl)
   have it:zes (zac (eCB lenD (zac (eVar 1) aNil)) aNil) [.pl (zaa A),.pl (.list ds),.no]=some ((List.range ds.length).map (λ(k:Nat)=>PyData.int (k:Int)),[]):=by
    rw[zlh (zmy rfl) (by omega),zwx]
   have eqv:decide (gBn A (.list ds))=(List.range ds.length).all (lkB A ds):=by
    rw[qx,decide_eq_true_iff,zaqq h1]
    exact⟨λ⟨_,e,_,h⟩=>by cases e;exact h,λh=>⟨ds,rfl,by omega,h⟩⟩
   rw[eqv]
   refine zgx (env:=[.pl (zaa A),.pl (.list ds),.no]) rfl (zej (if_f t1 rfl) ?_)
   cases hh:(List.range ds.length).all (lkB A ds)with
   | true=>
    obtain⟨e',lp,s,rfl⟩:=z.1 hh
    exact zej (zoy (bs:=[]) it lp) rfl
   | false=>exact zfp (zoy (bs:=[]) it (z.2 hh))
 | _=>
  rw[decide_eq_false (p:=gBn A _)]
  ·exact zgx (env:=[.pl (zaa A),.pl _,.no]) rfl (zfp (if_t rfl rfl))
  ·rintro⟨_,e,_⟩;cases e
noncomputable def gS(A:List Str)(d:PyData):Prop:=∃ds,d=.list ds/\ds.length<=2/\∀b∈ds,gBn A b
noncomputable def Sd(d:PyData):Prop:=∀ds,d=.list ds->ds.length<4000/\∀b∈ds,Cd b
open Classical in
theorem zake{A:List Str}{ds:List PyData}(h:ds.length<=2):decide (gS A (.list ds))=ds.all λb=>decide (gBn A b):=by
 rw[qx,decide_eq_true_iff,qK]
 exact⟨λ⟨_,e,_,h⟩ b hb=>by cases e;exact decide_eq_true (h b hb),λk=>⟨ds,rfl,h,λb hb=>of_decide_eq_true (k b hb)⟩⟩
open Classical in
theorem zakf{W:Web}{d:PyData}(hW:W.length<1000)(hd:Sd d):zcs [webD W,d]=some (.bool (decide (gS (nm W) d)),false):=by
 cases d with
 | list ds=>
  obtain⟨h1,h2⟩:=hd ds rfl
  have t1:tOrF (zfe (tTru (eIsi "list" (eVar 1)))) (zas (eOp gtD (eCB lenD (zac (eVar 1) aNil)) (eC (.int 2)))) [.pl (webD W),.pl (.list ds),.no]=some (decide ((ds.length:Int) > 2)):=by
   unfold tOrF
   rw[zrc (show eIsi "list" (eVar 1) [.pl (webD W),.pl (.list ds),.no]=some (vb true)from rfl),zcv (gt_i (zmy rfl) rfl)];rfl
  by_cases hl:(ds.length:Int) > 2
  ·rw[decide_eq_true hl]at t1
   rw[decide_eq_false (p:=gS _ _)]
   ·exact zgx (env:=[.pl (webD W),.pl (.list ds),.no]) rfl (zfp (if_t t1 rfl))
   ·rintro⟨_,e,h,_⟩;cases e;omega
  ·rw[decide_eq_false hl]at t1
   have c:zet (gN 0) zgr (zbj 2 zhr (zac (eVar 1) (zac (eVar 0) aNil))) [.no,.pl (zaa (nm W))] (ds.map id)=some (ds.map λb=>.bool (decide (gBn (nm W) b))):=
    zfk λb hb=>⟨[.pl b,.pl (zaa (nm W))],rfl,rfl,_,zdi (n:=2) (rs:=[⟨zaa (nm W),false,[]⟩,⟨b,false,[]⟩]) rfl rfl (zaix (h2 b hb)),rfl⟩
   rw[qCE]at c
   have e:=zais (zih (env:=[.pl (webD W),.pl (.list ds),.ac (zaa (nm W))]) (fr:=[2]) (own:=["bundle"]) (fi:=zbf (eVar 1)) (ds:=ds) (bs:=[]) rfl (by omega) c)
   rw[zake (by omega)]
   exact zgx (env:=[.pl (webD W),.pl (.list ds),.no]) rfl (zej (if_f t1 rfl) (zej (zoz (zdi (n:=1) (rs:=[⟨webD W,false,[]⟩]) rfl rfl (zst (by omega)))) (zmx e)))
 | _=>
  rw[decide_eq_false (p:=gS _ _)]
  ·exact zgx (env:=[.pl (webD W),.pl _,.no]) rfl (zfp (if_t rfl rfl))
  ·rintro⟨_,e,_⟩;cases e
open Classical in
theorem zanc{A:List Str}{d:PyData}(hd:Sd d):zdj [zaa A,d]=some (.bool (decide (gS A d)),false):=by
 cases d with
 | list ds=>
  obtain⟨h1,h2⟩:=hd ds rfl
  have t1:tOrF (zfe (tTru (eIsi "list" (eVar 1)))) (zas (eOp gtD (eCB lenD (zac (eVar 1) aNil)) (eC (.int 2)))) [.pl (zaa A),.pl (.list ds)]=some (decide ((ds.length:Int) > 2)):=by
   unfold tOrF
   rw[zrc (show eIsi "list" (eVar 1) [.pl (zaa A),.pl (.list ds)]=some (vb true)from rfl),zcv (gt_i (zmy rfl) rfl)];rfl
  by_cases hl:(ds.length:Int) > 2
  ·rw[decide_eq_true hl]at t1
   rw[decide_eq_false (p:=gS _ _)]
   ·exact zgx (env:=[.pl (zaa A),.pl (.list ds)]) rfl (zfp (if_t t1 rfl))
   ·rintro⟨_,e,h,_⟩;cases e;omega
  ·rw[decide_eq_false hl]at t1
   have c:zet (gN 0) zgr (zbj 2 zdy (zac (eVar 1) (zac (eVar 0) aNil))) [.no,.pl (zaa A)] (ds.map id)=some (ds.map λb=>.bool (decide (gBn A b))):=
    zfk λb hb=>⟨[.pl b,.pl (zaa A)],rfl,rfl,_,zdi (n:=2) (rs:=[⟨zaa A,false,[]⟩,⟨b,false,[]⟩]) rfl rfl (zagf (h2 b hb)),rfl⟩
   rw[qCE]at c
   have e:=zais (zih (env:=[.pl (zaa A),.pl (.list ds)]) (fr:=[0]) (own:=["_law_some"]) (fi:=zbf (eVar 1)) (ds:=ds) (bs:=[]) rfl (by omega) c)
   rw[zake (by omega)]
   exact zgx (env:=[.pl (zaa A),.pl (.list ds)]) rfl (zej (if_f t1 rfl) (zmx e))
 | _=>
  rw[decide_eq_false (p:=gS _ _)]
  ·exact zgx (env:=[.pl (zaa A),.pl _]) rfl (zfp (if_t rfl rfl))
  ·rintro⟨_,e,_⟩;cases e
theorem zvb{n:Nat}:∀{ds:List PyData}{xs:List Str},ds.all (jok (n+1))=true->(eqL (eqJ (n+1)) ds (xs.map .str)=true↔ds=xs.map .str)
 | [],[],_=>⟨λ_=>rfl,λ_=>rfl⟩
 | [],_::_,_=>⟨λh=>(by cases h),λh=>(by cases h)⟩
 | _::_,[],_=>⟨λh=>(by cases h),λh=>(by cases h)⟩
 | d::ds,x::xs,h=>by
  rw[qAm,qZ]at h
  show(eqJ (n+1) d (.str x)&&eqL (eqJ (n+1)) ds (xs.map .str))=true↔_
  rw[qZ,zaqp h.1,zvb h.2,qp]
  exact⟨λ⟨a,b⟩=>by rw[a,b],λe=>qCB e⟩
theorem zzv{xs ys:List Str}(h:xs.map PyData.str=ys.map .str):xs=ys:=by
 have:=congrArg (List.map λd=>match d with|PyData.str x=>x|_=>("":Str)) h
 simpa [qBD,qCj]using this
noncomputable def srtD(bs:List (List Str)):PyData:=.list (bs.map zaa)
noncomputable def bnB(bs:List (List Str))(xs:List Str):Bool:=bs.any λb=>xs.all λx=>decide (x∈b)
theorem zakg{xs b:List Str}{i j:Nat}{env:DEnv}{c:PyData}(hl:xs.length<1000){own:List Str}(ho:own.length=1)(hi:zhw c=some (xs.map .str))(h1:env[i]?=some (.pl c))(h0:env[j]?=some (.pl (zaa b))):eCB (anyD λbs=>bs.all id) (zac (zfs own [j] (zbf (eVar i)) (gN 0) zgr (eOp (inD false) (eVar 0) (eVar 1))) aNil) env=some (vb (xs.all λx=>decide (x∈b))):=by
 obtain⟨o,rfl⟩:∃o,own=[o]:=by
  cases own with
  | nil=>cases ho
  | cons a t=>cases t with|nil=>exact⟨a,rfl⟩|cons _ _=>cases ho
 have en:envB [o] [j] env=[.no,.pl (zaa b)]:=by
  unfold envB
  simp only[qp,qBk,qQ,h0];rfl
 have c1:zet (gN 0) zgr (eOp (inD false) (eVar 0) (eVar 1)) (envB [o] [j] env) (xs.map .str)=some (xs.map λx=>.bool (decide (x∈b))):=by
  rw[en]
  exact zfk λx _=>⟨[.pl (.str x),.pl (zaa b)],rfl,rfl,vb (decide (x∈b)),e_in (neg:=false) (fr:=false) (bs:=[]) rfl rfl,rfl⟩
 refine zais (zih (bs:=[]) ?_ (by rw[qE];omega) c1)
 unfold zbf eVar
 rw[h1]
 show((zhw c).map _)=_
 rw[hi];rfl
theorem zagg{bs:List (List Str)}{xs:List Str}(hb:bs.length<1000)(hl:xs.length<1000):zed [srtD bs,zez xs]=some (.bool (bnB bs xs),false):=by
 have c:zet (gN 0) zgr (eCB (anyD λbs=>bs.all id) (zac (zfs ["name"] [0] (zbf (eVar 1)) (gN 0) zgr (eOp (inD false) (eVar 0) (eVar 1))) aNil)) [.no,.pl (zez xs)] (bs.map zaa)=some (bs.map λb=>.bool (xs.all λx=>decide (x∈b))):=
  zfk λb _=>⟨[.pl (zaa b),.pl (zez xs)],rfl,rfl,_,zakg hl rfl rfl rfl rfl,rfl⟩
 exact zgx (env:=[.pl (srtD bs),.pl (zez xs)]) rfl (zmx (bs:=[]) (zamy (zih (own:=["bundle"]) (fr:=[1]) (fi:=zbf (eVar 0)) (bs:=[]) (env:=[.pl (srtD bs),.pl (zez xs)]) rfl (by rw[qE];omega) c)))
noncomputable def apB(W:Web)(xs:List Str):Bool:=!((xs.zipIdx).any λp=>(xs.take p.2).any λh=>decide (h∈up W p.1))
theorem zaiy{α β:Type}(f:α->List β)(p:α->β->Bool)(l:List α):((l.flatMap λx=>(f x).map λe=>(x,e)).any λz=>p z.1 z.2)=l.any λx=>(f x).any (p x):=by
 induction l with
 | nil=>rfl
 | cons x l ih=>rw[qBV,List.any_append,ih,qAc,qBE];rfl
theorem zand{W:Web}(h:WebOk W){xs:List Str}(hx:∀x∈xs,x∈nm W)(hl:xs.length<300):zfw [.dict (dS zdq (ups W)),zez xs]=some (.bool (apB W xs),false):=by
 have c:zkh (gT 2 (zcg 0 (zcg 1 zkd))) zgr (zbf (eSlT (eVar 4) zlj (zja (eVar 0)))) (gN 2) zgr (eDIn false (eVar 2) (zep 3 (eVar 1))) [.no,.no,.no,.pl (.dict (dS zdq (ups W))),.pl (zez xs)] (xs.zipIdx.map λ(p:Str×Nat)=>PyData.tuple [.int (p.2:Int),.str p.1])=some (xs.zipIdx.flatMap λp=>(xs.take p.2).map λh=>.bool (decide (h∈up W p.1))):=by
  refine zre λp hp=>⟨[.pl (.int (p.2:Int)),.pl (.str p.1),.no,.pl (.dict (dS zdq (ups W))),.pl (zez xs)],rfl,rfl,?_⟩
  have hp1:p.1∈xs:=by
   obtain⟨x,k⟩:=p
   exact List.fst_mem_of_mem_zipIdx hp
  unfold innL
  have it:zbf (eSlT (eVar 4) zlj (zja (eVar 0))) [.pl (.int (p.2:Int)),.pl (.str p.1),.no,.pl (.dict (dS zdq (ups W))),.pl (zez xs)]=some ((xs.take p.2).map .str,[]):=by
   show some (cutD (xs.map .str) none (some (p.2:Int)),([]:List Nat))=_
   rw[zakd,<- List.map_take]
  rw[it,qF,if_pos (by show((xs.take p.2).map PyData.str).length<300;rw[qE,qAq];omega)]
  refine zfk λy _=>⟨[.pl (.int (p.2:Int)),.pl (.str p.1),.pl (.str y),.pl (.dict (dS zdq (ups W))),.pl (zez xs)],rfl,rfl,_,zaqg (neg:=false) (ks:=up W p.1) rfl (zajy (d:=zdq (up W p.1)) (.inl rfl) rfl (by rw[zra,zaca (hx _ hp1)];rfl)),rfl⟩
 rw[zacb]at c
 have e:=zamy (zait (own:=["number","low","high"]) (fr:=[0,1]) (fi:=zaak (zac (eVar 1) aNil)) (bs:=[]) (env:=[.pl (.dict (dS zdq (ups W))),.pl (zez xs)]) (by
  show some (zvv (xs.map .str),([]:List Nat))=_
  rw[zaiq]) (by rw[qE,List.length_zipIdx];exact hl) c)
 have e2:=zaiy (λq:Str×Nat=>xs.take q.2) (λq h=>decide (h∈up W q.1)) xs.zipIdx
 have e3:=e.trans (congrArg (λb=>some (vb b)) e2)
 refine zgx (env:=[.pl (.dict (dS zdq (ups W))),.pl (zez xs)]) rfl (zmx (bs:=[]) ?_)
 unfold eNot
 rw[e3];rfl
noncomputable def upI(A:List Str)(xs:List Str):Prop:=(∀x∈xs,x∈A)/\xs.Pairwise λa b=>A.idxOf a<A.idxOf b
theorem znm{a x:Str}{A:List Str}(h:x≠a):(a::A).idxOf x=A.idxOf x+1:=by
 rw[List.idxOf_cons]
 rw[show(a==x)=false from beq_eq_false_iff_ne.mpr (qBC h)];rfl
theorem zoo:∀{A:List Str},A.Nodup->∀{xs:List Str},upI A xs->A.filter (λx=>decide (x∈xs))=xs
 | [],_,xs,⟨h,_⟩=>by
  cases xs with
  | nil=>rfl
  | cons x xs=>exact nomatch h x (qV ..)
 | a::A,nd,xs,⟨h,k⟩=>by
  obtain⟨na,nd'⟩:=qAQ.mp nd
  have sub:∀{ys:List Str},(∀y∈ys,y∈xs)->ys.Pairwise (λa' b=>(a::A).idxOf a'<(a::A).idxOf b)->a∉ys->upI A ys:=λ{ys} hs hp ha=>by
   refine⟨λy hy=>?_,hp.imp_of_mem λ{y z} hy hz e=>?_⟩
   ·rcases qa.mp (h y (hs y hy))with rfl|z
    ·exact absurd hy ha
    ·exact z
   ·have n1:y≠a:=λ(q:y=a)=>ha (by rw[<- q];exact hy)
    have n2:z≠a:=λ(q:z=a)=>ha (by rw[<- q];exact hz)
    rw[znm n1,znm n2]at e
    omega
  by_cases ha:a∈xs
  ·cases xs with
   | nil=>cases ha
   | cons x t=>
    obtain⟨k1,k2⟩:=qBR.mp k
    have hxa:x=a:=by
     rcases qa.mp ha with e|e
     ·exact e.symm
     ·have:=k1 a e
      rw[qCp]at this
      omega
    subst hxa
    have hnt:x∉t:=λe=>qAk _ (k1 x e)
    have ih:=zoo nd' (sub (ys:=t) (λy hy=>qM _ hy) k2 hnt)
    rw[qBG,if_pos (by simp)]
    have:A.filter (λy=>decide (y∈x::t))=A.filter (λy=>decide (y∈t)):=qB1 λy hy=>by
     have:y≠x:=λe=>na (e▸hy)
     simp[this]
    rw[this,ih]
  ·rw[qBG,if_neg (by simpa using ha)]
   exact zoo nd' (sub (λy hy=>hy) k ha)
theorem ztg:∀{A:List Str},A.Nodup->∀(p:Str->Bool),upI A (A.filter p)
 | [],_,p=>⟨λx h=>h,.nil⟩
 | a::A,nd,p=>by
  obtain⟨na,nd'⟩:=qAQ.mp nd
  obtain⟨h1,h2⟩:=ztg nd' p
  refine⟨λx hx=>(qBK.mp hx).1,?_⟩
  have h2':(A.filter p).Pairwise λx y=>(a::A).idxOf x<(a::A).idxOf y:=h2.imp_of_mem λ{y z} hy hz e=>by
   have n1:y≠a:=λ(q:y=a)=>na (by rw[<- q];exact h1 y hy)
   have n2:z≠a:=λ(q:z=a)=>na (by rw[<- q];exact h1 z hz)
   rw[znm n1,znm n2]
   omega
  rw[qBG]
  split
  ·refine qBR.mpr ⟨λy hy=>?_,h2'⟩
   have n1:y≠a:=λ(q:y=a)=>na (by rw[<- q];exact h1 y hy)
   rw[qCp,znm n1]
   omega
  ·exact h2'
noncomputable def tcP(W:Web)(bs:List (List Str))(d:PyData):Prop:=∃xs:List Str,d=zez xs/\2<=xs.length/\upI (nm W) xs/\bnB bs xs=true/\apB W xs=true
noncomputable def Td(d:PyData):Prop:=∀ds,d=.tuple ds->ds.all (jok 5)=true/\ds.length<300
theorem zlz:∀(n:Nat)(d:PyData),jok n d=true->jok (n+1) d=true
 | 0,_,h=>by cases h
 | n+1,.none,_=>rfl
 | n+1,.bool _,_=>rfl
 | n+1,.int _,_=>rfl
 | n+1,.str _,_=>rfl
 | n+1,.list ds,h=>qK.mpr λd hd=>zlz n d (qK.mp h d hd)
 | n+1,.tuple ds,h=>qK.mpr λd hd=>zlz n d (qK.mp h d hd)
 | n+1,.dict ps,h=>by
  rcases zmv h with rfl|⟨v,rfl,j⟩
  ·rfl
  ·show((("a":Str)=="a")&&jok (n+1) v)=true
   rw[zlz n v j];rfl
theorem zaqr{n:Nat}{ds:List PyData}(h:ds.all (jok n)=true):ds.all (jok (n+1))=true:=qK.mpr λd hd=>zlz n d (qK.mp h d hd)
open Classical in
theorem zaiz{W:Web}(h:WebOk W){bs:List (List Str)}(hb:bs.length<1000){d:PyData}(hd:Td d):zdx [webD W,srtD bs,d]=some (.bool (decide (tcP W bs d)),false):=by
 cases d with
 | tuple ds=>
  obtain⟨hj,hl⟩:=hd ds rfl
  have hW:W.length<=12:=h.len
  have t1:tOrF (zfe (tTru (eIsi "tuple" (eVar 2)))) (zas (eOp ltD (eCB lenD (zac (eVar 2) aNil)) (eC (.int 2)))) [.pl (webD W),.pl (srtD bs),.pl (.tuple ds)]=some (decide ((ds.length:Int)<2)):=by
   unfold tOrF
   rw[zrc (show eIsi "tuple" (eVar 2) [.pl (webD W),.pl (srtD bs),.pl (.tuple ds)]=some (vb true)from rfl),zcv (zia (x:=vi (ds.length:Int)) (y:=vi 2) rfl rfl (show ltD (.int (ds.length:Int)) (.int 2)=some (.bool (decide ((ds.length:Int)<2)),false)from rfl))];rfl
  by_cases h2:(ds.length:Int)<2
  ·rw[decide_eq_true h2]at t1
   rw[decide_eq_false (p:=tcP _ _ _)]
   ·exact zgx (env:=[.pl (webD W),.pl (srtD bs),.pl (.tuple ds)]) rfl (zfp (if_t t1 rfl))
   ·rintro⟨xs,e,hl2,_⟩
    have:ds.length=xs.length:=by cases e;rw[qE]
    omega
  ·rw[decide_eq_false h2]at t1
   have nmc:=zdi (n:=1) (g:=zec) (f:=zac (eVar 0) aNil) (env:=[.pl (webD W),.pl (srtD bs),.pl (.tuple ds)]) (rs:=[⟨webD W,false,[]⟩]) rfl rfl (zst (by omega))
   have c:zet (gN 0) (zas (eOp (inJ false) (eVar 0) (eVar 1))) (eVar 0) [.no,.pl (.tuple ds)] ((nm W).map .str)=some (((nm W).filter λx=>ds.any λe=>eqJ 6 e (.str x)).map .str):=
    zgm (λx=>ds.any λe=>eqJ 6 e (.str x)) λx _=>⟨[.pl (.str x),.pl (.tuple ds)],rfl,zcv (zxw (neg:=false) (f1:=false) (b1:=[]) (f2:=false) (b2:=[]) rfl rfl rfl rfl (zaqr hj)),λ_=>⟨vs x,rfl,rfl⟩⟩
   have cc:=zih (own:=["name"]) (fr:=[2]) (fi:=zbf (zbj 1 zec (zac (eVar 0) aNil))) (ds:=(nm W).map .str) (bs:=[]) (env:=[.pl (webD W),.pl (srtD bs),.pl (.tuple ds)]) (by unfold zbf;rw[nmc];rfl) (by rw[qE];unfold nm;rw[qE];omega) c
   rw[if_pos (zin _)]at cc
   have tp:eCB zhn (zac (zfs ["name"] [2] (zbf (zbj 1 zec (zac (eVar 0) aNil))) (gN 0) (zas (eOp (inJ false) (eVar 0) (eVar 1))) (eVar 0)) aNil) [.pl (webD W),.pl (srtD bs),.pl (.tuple ds)]=some ⟨zez ((nm W).filter λx=>ds.any λe=>eqJ 6 e (.str x)),false,[]⟩:=by
    unfold eCB
    rw[zoe cc];rfl
   have t2:zas (eOp neJ (eVar 2) (eCB zhn (zac (zfs ["name"] [2] (zbf (zbj 1 zec (zac (eVar 0) aNil))) (gN 0) (zas (eOp (inJ false) (eVar 0) (eVar 1))) (eVar 0)) aNil))) [.pl (webD W),.pl (srtD bs),.pl (.tuple ds)]=some (!eqL (eqJ 5) ds (((nm W).filter λx=>ds.any λe=>eqJ 6 e (.str x)).map .str)):=by
    refine zcv (zia (x:=⟨.tuple ds,false,[]⟩) rfl tp ?_)
    unfold neJ
    rw[if_pos ⟨show ds.all (jok 5)=true from hj,by show(List.map PyData.str _).all (jok 5)=true;rw[qBm];exact qK.mpr λ_ _=>rfl⟩]
    rfl
   have key:∀xs:List Str,ds=xs.map .str->((nm W).filter λx=>ds.any λe=>eqJ 6 e (.str x))=(nm W).filter λx=>decide (x∈xs):=λxs e=>qB1 λx _=>by
    subst e
    rw[qx,qBE,qAe,decide_eq_true_iff]
    exact⟨λ⟨y,hy,e⟩=>by cases zacm.mp e;exact hy,λhx=>⟨x,hx,zacm.mpr rfl⟩⟩
   have nd:=h.nd
   cases he:eqL (eqJ 5) ds (((nm W).filter λx=>ds.any λe=>eqJ 6 e (.str x)).map .str)with
   | false=>
    rw[he]at t2
    rw[decide_eq_false (p:=tcP _ _ _)]
    ·exact zgx (env:=[.pl (webD W),.pl (srtD bs),.pl (.tuple ds)]) rfl (zej (if_f t1 rfl) (zfp (if_t t2 rfl)))
    ·rintro⟨xs,e,_,hu,_⟩
     have e:ds=xs.map .str:=by cases e;rfl
     rw[qB2]at he
     refine he ((zvb hj).mpr ?_)
     rw[key xs e,zoo nd hu]
     exact e
   | true=>
    rw[he]at t2
    have e:=(zvb hj).mp he
    generalize hxs:((nm W).filter λx=>ds.any λe=>eqJ 6 e (.str x))=xs at e
    have hu:upI (nm W) xs:=by rw[<- hxs];exact ztg nd _
    subst e
    have hl':xs.length<300:=by rw[qE]at hl;exact hl
    have g1:=zdi (n:=2) (g:=zed) (f:=zac (eVar 1) (zac (eVar 2) aNil)) (env:=[.pl (webD W),.pl (srtD bs),.pl (.tuple (xs.map .str))]) (rs:=[⟨srtD bs,false,[]⟩,⟨zez xs,false,[]⟩]) rfl rfl (zagg hb (by omega))
    have gr:=zdi (n:=1) (g:=zfu) (f:=zac (eVar 0) aNil) (env:=[.pl (webD W),.pl (srtD bs),.pl (.tuple (xs.map .str))]) (rs:=[⟨webD W,false,[]⟩]) rfl rfl (zabx h)
    have g2:=zdi (n:=2) (g:=zfw) (f:=zac (zbj 1 zfu (zac (eVar 0) aNil)) (zac (eVar 2) aNil)) (env:=[.pl (webD W),.pl (srtD bs),.pl (.tuple (xs.map .str))]) (rs:=[⟨.dict (dS zdq (ups W)),true,[]⟩,⟨zez xs,false,[]⟩]) (zcr gr (zoe rfl)) rfl (zand h hu.1 hl')
    have fin:eAnd (zbj 2 zed (zac (eVar 1) (zac (eVar 2) aNil))) (zbj 2 zfw (zac (zbj 1 zfu (zac (eVar 0) aNil)) (zac (eVar 2) aNil))) [.pl (webD W),.pl (srtD bs),.pl (.tuple (xs.map .str))]=some (vb (bnB bs xs&&apB W xs)):=by
     unfold eAnd
     rw[g1,g2]
     cases bnB bs xs<;>rfl
    have:decide (tcP W bs (.tuple (xs.map .str)))=(bnB bs xs&&apB W xs):=by
     rw[qx,decide_eq_true_iff,qZ]
     exact⟨λ⟨ys,e,_,_,b1,b2⟩=>by
      have e:xs.map PyData.str=ys.map .str:=qBO e
      rw[zzv e];exact⟨b1,b2⟩,λ⟨b1,b2⟩=>⟨xs,rfl,by rw[qE]at h2;omega,hu,b1,b2⟩⟩
    rw[this]
    exact zgx (env:=[.pl (webD W),.pl (srtD bs),.pl (.tuple (xs.map .str))]) rfl (zej (if_f t1 rfl) (zej (if_f t2 rfl) (zmx fin)))
 | _=>
  rw[decide_eq_false (p:=tcP _ _ _)]
  ·exact zgx (env:=[.pl (webD W),.pl (srtD bs),.pl _]) rfl (zfp (if_t rfl rfl))
  ·rintro⟨_,e,_⟩;cases e
theorem zaqs{W:Web}(h:WebOk W){xs:List Str}(hu:upI (nm W) xs):apB W xs=true↔∀x∈xs,∀y∈xs,x≠y->y∉up W x:=by
 unfold apB
 rw[qBY,qBX]
 obtain⟨hm,hp⟩:=hu
 have hp:=qAZ.mp hp
 constructor
 ·intro k x hx y hy ne hyu
  obtain⟨i,hi,rfl⟩:=qAi hx
  obtain⟨j,hj,rfl⟩:=qAi hy
  rcases zakb h _ (Nat.lt_succ_self _) (hm _ hx) hyu with e|e
  ·exact ne e.symm
  ·have hji:j<i:=by
    rcases Nat.lt_trichotomy j i with z|z|z
    ·exact z
    ·subst z;omega
    ·have:=hp i j hi hj z;omega
   refine k (xs[i],i) ?_ ?_
   ·exact qB9.mpr (qD hi)
   ·exact qAe.mpr ⟨xs[j],qAa.mpr ⟨j,by omega,rfl⟩,decide_eq_true hyu⟩
 ·intro k q hp' hh
  obtain⟨x,i⟩:=q
  have hx:=qB9.mp hp'
  obtain⟨hi,e0⟩:=qT.mp hx
  dsimp only at e0 hi hh
  obtain⟨y,hy,e⟩:=qAe.mp hh
  obtain⟨j,hj,e1⟩:=qAa.mp hy
  have hj':j<i/\j<xs.length:=by omega
  have lt:=hp j i hj'.2 hi hj'.1
  rw[e0,e1]at lt
  exact k x (by rw[<- e0];exact qAR hi) y (qAz hy) (λ(z:x=y)=>by rw[z]at lt;omega) (of_decide_eq_true e)
noncomputable def lk1(A:List Str):List PyData->Int->Bool
 | [],_=>true
 | .str x::ds,l=>decide (x∈A)&&(decide (l<(A.idxOf x:Int))&&lk1 A ds (A.idxOf x:Int))
 | _::_,_=>false
theorem zagh{A:List Str}:∀(ds:List PyData)(l:Int),lk1 A ds l=true↔∃xs:List Str,ds=xs.map .str/\(∀x∈xs,x∈A/\l<(A.idxOf x:Int))/\xs.Pairwise λa b=>A.idxOf a<A.idxOf b
 | [],l=>⟨λ_=>⟨[],rfl,λ_ h=>(nomatch h),.nil⟩,λ_=>rfl⟩
 | d::ds,l=>by
  cases d with
  | str x=>
   unfold lk1
   rw[qZ,qZ,decide_eq_true_iff,decide_eq_true_iff,zagh ds]
   constructor
   ·rintro⟨h1,h2,xs,rfl,h3,h4⟩
    exact⟨x::xs,rfl,λy hy=>(qa.mp hy).elim (λ(e:y=x)=>by rw[e];exact⟨h1,h2⟩) λhy=>⟨(h3 y hy).1,qCq h2 (h3 y hy).2⟩,qBR.mpr ⟨λy hy=>by have:=(h3 y hy).2;omega,h4⟩⟩
   ·rintro⟨xs,e,h3,h4⟩
    cases xs with
    | nil=>cases e
    | cons y ys=>
     obtain⟨e1,e2⟩:=qCB e
     cases e1
     obtain⟨k1,k2⟩:=qBR.mp h4
     exact⟨(h3 x (qV ..)).1,(h3 x (qV ..)).2,ys,e2,λz hz=>⟨(h3 z (qM _ hz)).1,by have:=k1 z hz;omega⟩,k2⟩
  | _=>
   refine⟨λh=>(by cases h),?_⟩
   rintro⟨xs,e,_⟩
   cases xs with
   | nil=>cases e
   | cons y ys=>cases(qCB e).1
theorem zakh{A:List Str}{ds:List PyData}:lk1 A ds (-1)=true↔∃xs:List Str,ds=xs.map .str/\upI A xs:=by
 rw[zagh]
 exact⟨λ⟨xs,e,h,k⟩=>⟨xs,e,λx hx=>(h x hx).1,k⟩,λ⟨xs,e,h,k⟩=>⟨xs,e,λx hx=>⟨h x hx,by omega⟩,k⟩⟩
theorem zaja{a b:EF}{env:DEnv}{A:List Str}{x:Str}{f1 f2:Bool}{b1 b2:List Nat}(ha:a env=some ⟨zaa A,f1,b1⟩)(hb:b env=some ⟨.str x,f2,b2⟩)(hx:x∈A)(hl:A.length<=1000):zkl a b env=some (vi (A.idxOf x:Int)):=by
 have hj:((A.map PyData.str).findIdx? λe=>qAX e (.str x))=some (A.idxOf x):=by
  rw[List.findIdx?_map]
  refine List.findIdx?_eq_some_iff_findIdx_eq.mpr ⟨List.idxOf_lt_length_iff.mpr hx,?_⟩
  unfold List.idxOf
  refine congrArg (λp=>List.findIdx p A) (funext λy=>?_)
  simp[qAX]
 unfold zkl
 rw[ha,qF,hb,qF]
 show(if zfn (.str x)=true/\zel (A.map .str)=true/\(A.map PyData.str).length<=100000 then _ else _)=_
 rw[if_pos ⟨rfl,zin _,by rw[qE];omega⟩,hj];rfl
noncomputable abbrev zvc:SF:=(sSeq (sIf (tOrF (zfe (tTru (eIsi "str" (eVar 5)))) (tOrF (zas (eOp (inD true) (eVar 5) (eVar 0))) (zas (eOp leD (zkl (eVar 0) (eVar 5)) (eVar 4))))) (sRet (eC (.bool false))) sNil)
  (sSet 4 (zkl (eVar 0) (eVar 5))))
theorem zxx{A:List Str}(hA:A.length<=1000){T S D:Sl}:∀(ds:List PyData)(l:Int)(s5:Sl),
  (lk1 A ds l=true->∃l' s5',forL (gN 5) zvc ds [.pl (zaa A),T,S,D,.pl (.int l),s5,.no,.no]=some (.nx [.pl (zaa A),T,S,D,.pl (.int l'),s5',.no,.no]))/\(lk1 A ds l=false->forL (gN 5) zvc ds [.pl (zaa A),T,S,D,.pl (.int l),s5,.no,.no]=some (.rt (.bool false) false))
 | [],l,s5=>⟨λ_=>⟨l,s5,rfl⟩,λh=>by cases h⟩
 | d::ds,l,s5=>by
  cases d with
  | str x=>
   have st:forL (gN 5) zvc (.str x::ds) [.pl (zaa A),T,S,D,.pl (.int l),s5,.no,.no]=(zvc [.pl (zaa A),T,S,D,.pl (.int l),.pl (.str x),.no,.no]).bind λo=>match o with
    | .nx e2=>forL (gN 5) zvc ds e2
    | .ct e2=>forL (gN 5) zvc ds e2
    | .bk e2=>some (.nx e2)
    | .rt d fr=>some (.rt d fr):=rfl
   have t0:zfe (tTru (eIsi "str" (eVar 5))) [.pl (zaa A),T,S,D,.pl (.int l),.pl (.str x),.no,.no]=some false:=rfl
   have t1:zas (eOp (inD true) (eVar 5) (eVar 0)) [.pl (zaa A),T,S,D,.pl (.int l),.pl (.str x),.no,.no]=some (!decide (x∈A)):=zcv (e_in (neg:=true) (fr:=false) (bs:=[]) rfl rfl)
   have l1:lk1 A (.str x::ds) l=(decide (x∈A)&&(decide (l<(A.idxOf x:Int))&&lk1 A ds (A.idxOf x:Int))):=rfl
   rw[st,l1]
   by_cases hx:x∈A
   ·have ei:=zaja (a:=eVar 0) (b:=eVar 5) (env:=[.pl (zaa A),T,S,D,.pl (.int l),.pl (.str x),.no,.no]) (f1:=false) (b1:=[]) (f2:=false) (b2:=[]) rfl rfl hx hA
    have t2:zas (eOp leD (zkl (eVar 0) (eVar 5)) (eVar 4)) [.pl (zaa A),T,S,D,.pl (.int l),.pl (.str x),.no,.no]=some (decide ((A.idxOf x:Int)<=l)):=zcv (le_i ei rfl)
    have tt:tOrF (zfe (tTru (eIsi "str" (eVar 5)))) (tOrF (zas (eOp (inD true) (eVar 5) (eVar 0))) (zas (eOp leD (zkl (eVar 0) (eVar 5)) (eVar 4)))) [.pl (zaa A),T,S,D,.pl (.int l),.pl (.str x),.no,.no]=some (decide ((A.idxOf x:Int)<=l)):=by
     unfold tOrF
     rw[t0,t1,t2,decide_eq_true hx];rfl
    by_cases hl:(A.idxOf x:Int)<=l
    ·rw[decide_eq_true hl]at tt
     rw[show zvc [.pl (zaa A),T,S,D,.pl (.int l),.pl (.str x),.no,.no]=some (.rt (.bool false) false)from zfp (if_t tt rfl),decide_eq_false (show ¬l<(A.idxOf x:Int) by omega),qBS,qBt]
     exact⟨λh=>(by cases h),λ_=>rfl⟩
    ·rw[decide_eq_false hl]at tt
     rw[show zvc [.pl (zaa A),T,S,D,.pl (.int l),.pl (.str x),.no,.no]=some (.nx [.pl (zaa A),T,S,D,.pl (.int (A.idxOf x:Int)),.pl (.str x),.no,.no])from zej (if_f tt rfl) (zoz ei),decide_eq_true (show l<(A.idxOf x:Int) by omega),decide_eq_true hx,qCW,qCW]
     exact zxx hA ds (A.idxOf x:Int) (.pl (.str x))
   ·have tt:tOrF (zfe (tTru (eIsi "str" (eVar 5)))) (tOrF (zas (eOp (inD true) (eVar 5) (eVar 0))) (zas (eOp leD (zkl (eVar 0) (eVar 5)) (eVar 4)))) [.pl (zaa A),T,S,D,.pl (.int l),.pl (.str x),.no,.no]=some true:=by
     unfold tOrF
     rw[t0,t1,decide_eq_false hx];rfl
    rw[show zvc [.pl (zaa A),T,S,D,.pl (.int l),.pl (.str x),.no,.no]=some (.rt (.bool false) false)from zfp (if_t tt rfl),decide_eq_false hx,qBS]
    exact⟨λh=>(by cases h),λ_=>rfl⟩
  | _=>exact⟨λh=>(by cases h),λ_=>rfl⟩
theorem zaco{W:Web}(h:WebOk W){xs:List Str}(hx:∀x∈xs,x∈nm W){A S L s5:Sl} :
  let V:=λs6 s7:Sl=>[A,.pl (.dict (dS zaa (tabW W W))),S,.pl (zez xs),L,s5,s6,s7]
  let p:=λx=>xs.all λy=>!(!(x==y)&&decide (y∈hdg W x))
  let B:=sFor (zbf (eVar 3)) (gN 7) (sIf (zyo (zas (eOp neD (eVar 6) (eVar 7))) (zas (eOp (inD false) (eVar 7) (zep 1 (eVar 6))))) (sRet (eC (.bool false))) sNil)
  (xs.all p=true->∃env',forL (gN 6) B (xs.map .str) (V .no .no)=some (.nx env')/\∃s6 s7,env'=V s6 s7)/\(xs.all p=false->forL (gN 6) B (xs.map .str) (V .no .no)=some (.rt (.bool false) false)):=by
 intro V p B
 refine zmw (enc:=PyData.str) p (.bool false) false (λenv=>∃s6 s7,env=V s6 s7) xs (V .no .no) ⟨_,_,rfl⟩ ?_
 rintro x hx' env ⟨s6,s7,rfl⟩
 refine⟨V (.pl (.str x)) s7,rfl,?_⟩
 have z:=zmw (enc:=PyData.str) (g:=gN 7) (body:=sIf (zyo (zas (eOp neD (eVar 6) (eVar 7))) (zas (eOp (inD false) (eVar 7) (zep 1 (eVar 6))))) (sRet (eC (.bool false))) sNil) (λy=>!(!(x==y)&&decide (y∈hdg W x))) (.bool false) false (λenv=>∃s7,env=V (.pl (.str x)) s7) xs (V (.pl (.str x)) s7) ⟨_,rfl⟩ (by
  rintro y hy env ⟨s,rfl⟩
  refine⟨V (.pl (.str x)) (.pl (.str y)),rfl,?_⟩
  have t1:zas (eOp neD (eVar 6) (eVar 7)) (V (.pl (.str x)) (.pl (.str y)))=some (!(x==y)):=zcv (zarx rfl rfl)
  have t2:zas (eOp (inD false) (eVar 7) (zep 1 (eVar 6))) (V (.pl (.str x)) (.pl (.str y)))=some (decide (y∈hdg W x)):=zcv (e_in (neg:=false) rfl (zajy (d:=zaa (hdg W x)) (.inl rfl) rfl (by rw[zra,zzt (hx _ hx')];rfl)))
  have tt:zyo (zas (eOp neD (eVar 6) (eVar 7))) (zas (eOp (inD false) (eVar 7) (zep 1 (eVar 6)))) (V (.pl (.str x)) (.pl (.str y)))=some (!(x==y)&&decide (y∈hdg W x)):=by
   unfold zyo
   rw[t1,t2]
   cases(x==y)<;>rfl
  refine⟨λe=>?_,λe=>?_⟩
  ·rw[qBY]at e
   rw[e]at tt
   exact⟨_,if_f tt rfl,_,rfl⟩
  ·rw[Bool.not_eq_false']at e
   rw[e]at tt
   exact if_t tt rfl)
 refine⟨λe=>?_,λe=>?_⟩
 ·obtain⟨e',lp,s,rfl⟩:=z.1 e
  exact⟨_,zoy (bs:=[]) rfl lp,_,_,rfl⟩
 ·exact zoy (bs:=[]) rfl (z.2 e)
open Classical in
theorem zane{W:Web}(h:WebOk W){bs:List (List Str)}(hb:bs.length<1000){d:PyData}(hd:Td d):zca [zaa (nm W),.dict (dS zaa (tabW W W)),srtD bs,d]=some (.bool (decide (tcP W bs d)),false):=by
 have hW:(nm W).length<=1000:=by have:W.length<=12:=h.len;unfold nm;rw[qE];omega
 cases d with
 | tuple ds=>
  obtain⟨hj,hl⟩:=hd ds rfl
  have t1:tOrF (zfe (tTru (eIsi "tuple" (eVar 3)))) (zas (eOp ltD (eCB lenD (zac (eVar 3) aNil)) (eC (.int 2)))) [.pl (zaa (nm W)),.pl (.dict (dS zaa (tabW W W))),.pl (srtD bs),.pl (.tuple ds),.no,.no,.no,.no]=some (decide ((ds.length:Int)<2)):=by
   unfold tOrF
   rw[zrc (show eIsi "tuple" (eVar 3) [.pl (zaa (nm W)),.pl (.dict (dS zaa (tabW W W))),.pl (srtD bs),.pl (.tuple ds),.no,.no,.no,.no]=some (vb true)from rfl),zcv (zia (x:=vi (ds.length:Int)) (y:=vi 2) rfl rfl (show ltD (.int (ds.length:Int)) (.int 2)=some (.bool (decide ((ds.length:Int)<2)),false)from rfl))];rfl
  by_cases h2:(ds.length:Int)<2
  ·rw[decide_eq_true h2]at t1
   rw[decide_eq_false (p:=tcP _ _ _)]
   ·exact zgx (env:=[.pl (zaa (nm W)),.pl (.dict (dS zaa (tabW W W))),.pl (srtD bs),.pl (.tuple ds),.no,.no,.no,.no]) rfl (zfp (if_t t1 rfl))
   ·rintro⟨xs,e,hl2,_⟩
    have:ds.length=xs.length:=by cases e;rw[qE]
    omega
  ·rw[decide_eq_false h2]at t1
   refine zgx (env:=[.pl (zaa (nm W)),.pl (.dict (dS zaa (tabW W W))),.pl (srtD bs),.pl (.tuple ds),.no,.no,.no,.no]) rfl (zej (if_f t1 rfl) (zej (show sSet 4 (eNeg (eC (.int 1))) [.pl (zaa (nm W)),.pl (.dict (dS zaa (tabW W W))),.pl (srtD bs),.pl (.tuple ds),.no,.no,.no,.no]=some (.nx [.pl (zaa (nm W)),.pl (.dict (dS zaa (tabW W W))),.pl (srtD bs),.pl (.tuple ds),.pl (.int (-1)),.no,.no,.no])from rfl) ?_))
   obtain⟨z1,z2⟩:=zxx hW (T:=.pl (.dict (dS zaa (tabW W W)))) (S:=.pl (srtD bs)) (D:=.pl (.tuple ds)) ds (-1) .no
   cases hk:lk1 (nm W) ds (-1)with
   | false=>
    rw[decide_eq_false (p:=tcP _ _ _)]
    ·exact zfp (zoy (bs:=[]) rfl (z2 hk))
    ·rintro⟨xs,e,_,hu,_⟩
     rw[qB2]at hk
     exact hk (zakh.mpr ⟨xs,qBO e,hu⟩)
   | true=>
    obtain⟨xs,e,hu⟩:=zakh.mp hk
    obtain⟨l',s5,e1⟩:=z1 hk
    subst e
    refine zej (zoy (bs:=[]) rfl e1) ?_
    have zz:=zaco h hu.1 (A:=.pl (zaa (nm W))) (S:=.pl (srtD bs)) (L:=.pl (.int l')) (s5:=s5)
    dsimp only at zz
    have ap:(xs.all λx=>xs.all λy=>!(!(x==y)&&decide (y∈hdg W x)))=apB W xs:=by
     rw[qx,zaqs h hu,qK]
     constructor
     ·intro k x hx y hy ne hyu
      have:=qK.mp (k x hx) y hy
      rw[decide_eq_true ((zup h).mpr hyu),beq_eq_false_iff_ne.mpr ne]at this
      cases this
     ·intro k x hx
      refine qK.mpr λy hy=>?_
      cases hxy:(x==y)with
      | true=>rfl
      | false=>
       rw[decide_eq_false λz=>k x hx y hy (beq_eq_false_iff_ne.mp hxy) ((zup h).mp z)];rfl
    rw[ap]at zz
    cases ha:apB W xs with
    | false=>
     rw[decide_eq_false (p:=tcP _ _ _)]
     ·exact zfp (zoy (bs:=[]) rfl (zz.2 ha))
     ·rintro⟨ys,e,_,_,_,b2⟩
      rw[<- zzv (qBO e),ha]at b2
      cases b2
    | true=>
     obtain⟨e',lp,s6,s7,rfl⟩:=zz.1 ha
     refine zej (zoy (bs:=[]) rfl lp) (zmx (bs:=[]) ?_)
     have hl':xs.length<1000:=by rw[qE]at hl;omega
     have c:zet (gN 0) zgr (eCB (anyD λbs=>bs.all id) (zac (zfs ["_law_part"] [0] (zbf (eVar 1)) (gN 0) zgr (eOp (inD false) (eVar 0) (eVar 1))) aNil)) [.no,.pl (zez xs)] (bs.map zaa)=some (bs.map λb=>.bool (xs.all λx=>decide (x∈b))):=
      zfk λb _=>⟨[.pl (zaa b),.pl (zez xs)],rfl,rfl,_,zakg hl' rfl rfl rfl rfl,rfl⟩
     rw[zamy (zih (own:=["_law_some"]) (fr:=[3]) (fi:=zbf (eVar 2)) (bs:=[]) (env:=[.pl (zaa (nm W)),.pl (.dict (dS zaa (tabW W W))),.pl (srtD bs),.pl (zez xs),.pl (.int l'),s5,s6,s7]) rfl (by rw[qE];omega) c)]
     refine congrArg (λb=>some (vb b)) ?_
     rw[qx,decide_eq_true_iff]
     exact⟨λb1=>⟨xs,rfl,by rw[qE]at h2;omega,hu,b1,ha⟩,λ⟨ys,e,_,_,b1,_⟩=>by rw[zzv (qBO e)];exact b1⟩
 | _=>
  rw[decide_eq_false (p:=tcP _ _ _)]
  ·exact zgx (env:=[.pl (zaa (nm W)),.pl (.dict (dS zaa (tabW W W))),.pl (srtD bs),.pl _,.no,.no,.no,.no]) rfl (zfp (if_t rfl rfl))
  ·rintro⟨_,e,_⟩;cases e
theorem zvd{z:PyData}:bsOf z []=[]:=by unfold bsOf;split<;>rfl
noncomputable abbrev tk(m:Int):EFf:=zao 0 2 zah (zap (zak 0 (eC (.int m))) (fNil 0))
theorem zzw{d:PyData}{n:Nat}{r:DEnv}(ok:Fok d n)(hn:n<=10 ^ 12)(m:Int)(m0:0<m)(m1:m<1073741824):∃(k:Nat)(d':PyData),tk m (.ac d::r)=some (vi (k:Int),.ac d'::r)/\(k:Int)<m/\Fok d' (n+1):=by
 obtain⟨q,d',e,h0,h1,ok'⟩:=zge (f:=0) (e:=eC (.int m)) (env:=.ac d::r) rfl rfl ok hn m0 m1
 exact⟨q.toNat,d',by rw[show((q.toNat:Nat):Int)=q by omega];exact e,by omega,ok'⟩
theorem tst{w:OF}(hw:∀i:Int,∃b,w (.int i) (.int 0)=some (.bool b,false)){d:PyData}{n:Nat}(r:DEnv)(ok:Fok d n)(hn:n<=10 ^ 12)(m:Int)(m0:0<m)(m1:m<1073741824):∃(b:Bool)(d':PyData),gB (fOp w (tk m) (zak 0 (eC (.int 0)))) (.ac d::r)=some (b,.ac d'::r)/\Fok d' (n+1):=by
 obtain⟨k,d',e,h1,ok'⟩:=zzw (r:=r) ok hn m m0 m1
 obtain⟨b,hb⟩:=hw (k:Int)
 refine⟨b,d',?_,ok'⟩
 unfold gB
 rw[zpd (w:=w) (z:=.bool b) (fr:=false) e (zbx (f:=0) (e:=eC (.int 0)) (d0:=d') (d:=.int 0) (fr:=false) rfl rfl) hb];rfl
theorem eq0(i:Int):∃b,eqD (.int i) (.int 0)=some (.bool b,false):=⟨_,rfl⟩
theorem gt0(i:Int):∃b,gtD (.int i) (.int 0)=some (.bool b,false):=⟨_,rfl⟩
theorem andT{w:OF}(hw:∀i:Int,∃b,w (.int i) (.int 0)=some (.bool b,false)){d:PyData}{n:Nat}{r:DEnv}{c:TF}{b0:Bool}(hc:c (.ac d::r)=some b0)(ok:Fok d n)(hn:n<=10 ^ 12)(m:Int)(m0:0<m)(m1:m<1073741824):∃(b:Bool)(d':PyData),gAnd (zft 0 c) (gB (fOp w (tk m) (zak 0 (eC (.int 0))))) (.ac d::r)=some (b,.ac d'::r)/\Fok d' (n+1)/\(b=true->b0=true):=by
 have e:zft 0 c (.ac d::r)=some (b0,.ac d::r):=by
  show(c (.ac d::r)).map _=_
  rw[hc];rfl
 unfold gAnd
 rw[e,qF]
 cases b0 with
 | false=>exact⟨false,d,rfl,ok.mono (by omega),λh=>h⟩
 | true=>
  obtain⟨b,d',e',ok'⟩:=tst hw r ok hn m m0 m1
  exact⟨b,d',e',ok',λ_=>rfl⟩
theorem orT{w:OF}(hw:∀i:Int,∃b,w (.int i) (.int 0)=some (.bool b,false)){d:PyData}{n:Nat}{r:DEnv}{c:TF}{b0:Bool}(hc:c (.ac d::r)=some b0)(ok:Fok d n)(hn:n<=10 ^ 12)(m:Int)(m0:0<m)(m1:m<1073741824):∃(b:Bool)(d':PyData),gOr (zft 0 c) (gB (fOp w (tk m) (zak 0 (eC (.int 0))))) (.ac d::r)=some (b,.ac d'::r)/\Fok d' (n+1):=by
 have e:zft 0 c (.ac d::r)=some (b0,.ac d::r):=by
  show(c (.ac d::r)).map _=_
  rw[hc];rfl
 unfold gOr
 rw[e,qF]
 cases b0 with
 | true=>exact⟨true,d,rfl,ok.mono (by omega)⟩
 | false=>exact tst hw r ok hn m m0 m1
theorem zagi{d:PyData}{n:Nat}{r:DEnv}{e t:EF}{ds:List PyData}{fr:Bool}{bs:List Nat}(he:e (.ac d::r)=some ⟨.list ds,fr,bs⟩)(hf:(0:Nat)∉bs)(ht:t (.ac d::r)=some (vi (ds.length:Int)))(ok:Fok d n)(hn:n<=10 ^ 12)(h0:0<ds.length)(h1:ds.length<1000):∃(z:PyData)(d':PyData),z∈ds/\Fok d' (n+1)/\fOp ixD (zak 0 e) (zao 0 2 zah (zap (zak 0 t) (fNil 0))) (.ac d::r)=some (⟨z,false,bsOf z bs⟩,.ac d'::r):=by
 obtain⟨q,d',e1,k0,k1,ok'⟩:=zge (f:=0) (e:=t) (env:=.ac d::r) rfl ht ok hn (by omega) (by omega)
 obtain⟨k,rfl⟩:∃k:Nat,q=(k:Int):=⟨q.toNat,by omega⟩
 have hk:k<ds.length:=by omega
 refine⟨ds[k],d',qAR hk,ok',?_⟩
 rw[zpd (w:=ixD) (z:=ds[k]) (fr:=false) (zjl (f:=0) (d0:=d) rfl he hf) e1 (by
  show(atI ds (k:Int)).map _=_
  rw[znn (qD hk)];rfl)]
 show some ((⟨ds[k],false,bsOf ds[k] (bs++[])⟩:Val),_)=_
 rw[qAV];rfl
theorem zanf{d:PyData}{n:Nat}{r:DEnv}{i:Nat}{xs:List Str}(hi:(.ac d::r:DEnv)[i]?=some (.pl (zaa xs)))(ok:Fok d n)(hn:n<=10 ^ 12)(h0:0<xs.length)(h1:xs.length<1000):∃(z:Str)(d':PyData),z∈xs/\Fok d' (n+1)/\fOp ixD (zak 0 (eVar i)) (zao 0 2 zah (zap (zak 0 (eCB lenD (zac (eVar i) aNil))) (fNil 0))) (.ac d::r)=some (vs z,.ac d'::r):=by
 have e:eVar i (.ac d::r)=some ⟨zaa xs,false,[]⟩:=by unfold eVar;rw[hi]
 obtain⟨z,d',hz,ok',q⟩:=zagi (e:=eVar i) (t:=eCB lenD (zac (eVar i) aNil)) (ds:=xs.map .str) (bs:=[]) e (by simp) (zmy e) ok hn (by rw[qE];exact h0) (by rw[qE];exact h1)
 obtain⟨x,hx,rfl⟩:=qAh.mp hz
 exact⟨x,d',hx,ok',q⟩
noncomputable def oddL(s:Str):List PyData:=[.str s,.str "",.str "A",.str "a1",.str "abcdefghi",.none,.int 0,.bool true,.list [.str "a"],.tuple [.str "a",.str "b"],.dict [(.str "a",.list [.str "b"])],.str s]
noncomputable def ck:Nat->PyData->Prop
 | 0,_=>False
 | n+1,.list ds=>ds.length<1000/\∀x∈ds,ck n x
 | _+1,_=>True
noncomputable def Jk(d:PyData):Prop:=jok 3 d=true/\ck 3 d
theorem zaqt{s:Str}:∀z∈oddL s,Jk z:=by
 intro z hz
 simp only[oddL,qa,qBF,or_false]at hz
 have h9:Jk (.list [.str "a"]):=⟨rfl,by show 1<1000/\_;exact⟨by decide,λx hx=>by cases qAM.mp hx;trivial⟩⟩
 rcases hz with rfl|rfl|rfl|rfl|rfl|rfl|rfl|rfl|rfl|rfl|rfl|rfl
 all_goals first
  | exact h9
  | exact⟨by decide,trivial⟩
  | exact⟨rfl,trivial⟩
theorem zaqu{d:PyData}{n:Nat}{s:Str}(ok:Fok d n)(hn:n<=10 ^ 12):∃(z:PyData)(d':PyData),zbi d [.str s]=some (z,false,d')/\Jk z/\Fok d' (n+1):=by
 obtain⟨z,d',hz,ok',q⟩:=zagi (d:=d) (r:=[.pl (.str s),.ac (.list (oddL s))]) (e:=eVar 2) (t:=eC (.int 12)) (ds:=oddL s) (fr:=false) (bs:=[2]) rfl (by decide) rfl ok hn (by show 0<12;decide) (by show 12<1000;decide)
 refine⟨z,d',?_,zaqt z hz,ok'⟩
 have h1:fS (sSet 2 (eLst (zac (eVar 1) (zac (eC (.str "")) (zac (eC (.str "A")) (zac (eC (.str "a1")) (zac (eC (.str "abcdefghi")) (zac (eC .none) (zac (eC (.int 0)) (zac (eC (.bool true)) (zac (eLst (zac (eC (.str "a")) aNil)) (zac (eTup (zac (eC (.str "a")) (zac (eC (.str "b")) aNil))) (zac (eD1 (eC (.str "a")) (eLst (zac (eC (.str "b")) aNil))) (zac (eVar 1) aNil)))))))))))))) [.ac d,.pl (.str s),.no]=some (.nx [.ac d,.pl (.str s),.ac (.list (oddL s))]):=rfl
 have run:zfm [.ac d,.pl (.str s),.no]=some (.rt z false (frzs [.ac d',.pl (.str s),.ac (.list (oddL s))] (bsOf z [2]))):=by
  unfold zfm
  rw[zan h1]
  unfold fRet
  rw[q];rfl
 unfold zbi fnF
 show(zfm [.ac d,.pl (.str s),.no]).bind _=_
 rw[run]
 unfold bsOf
 split<;>rfl
theorem zqa:∀(n:Nat)(m:Nat)(d:PyData),m<=n->ck m d->∃fr,zck n [d]=some (d,fr)
 | 0,0,_,_,h=>h.elim
 | 0,m+1,_,hm,_=>absurd hm (by omega)
 | _+1,0,_,_,h=>h.elim
 | n+1,m+1,.list ds,hm,h=>by
  obtain⟨hl,hx⟩:=h
  have c:zet (gN 0) zgr (zbj 1 (zck n) (zac (eVar 0) aNil)) [.no] (ds.map id)=some (ds.map id):=
   zfk λx hx'=>by
    obtain⟨fr,e⟩:=zqa n m x (by omega) (hx x hx')
    exact⟨[.pl x],rfl,rfl,_,zdi (n:=1) (rs:=[⟨x,false,[]⟩]) rfl rfl e,rfl⟩
  rw[qCE]at c
  refine⟨true,zgx (env:=[.pl (.list ds)]) rfl (zfp (if_t (env:=[.pl (.list ds)]) rfl (zmx (zih (env:=[.pl (.list ds)]) (own:=["_law_part"]) (fr:=[]) (fi:=zbf (eVar 0)) (bs:=[]) rfl (by omega) c))))⟩
 | n+1,m+1,.none,_,_=>⟨false,rfl⟩
 | n+1,m+1,.bool _,_,_=>⟨false,rfl⟩
 | n+1,m+1,.int _,_,_=>⟨false,rfl⟩
 | n+1,m+1,.str _,_,_=>⟨false,rfl⟩
 | n+1,m+1,.tuple _,_,_=>⟨false,rfl⟩
 | n+1,m+1,.dict _,_,_=>⟨false,rfl⟩
noncomputable def bOk(A b:List Str):Prop:=(∀x∈b,x∈A)/\b.Nodup/\b.length<=5
theorem zxy(xs:List Str)(x:Str):PyData.list (xs.map .str++[.str x])=zaa (xs++[x]):=by unfold zaa;rw[qAO];rfl
theorem zajb(bs:List (List Str))(b:List Str):PyData.list (bs.map zaa++[zaa b])=srtD (bs++[b]):=by unfold srtD;rw[qAO];rfl
theorem nd_snoc{b:List Str}{x:Str}(h:b.Nodup)(hx:x∉b):(b++[x]).Nodup:=qBU.mpr ⟨h,by simp,λy hy z hz e=>by rw[qAM.mp hz]at e;exact hx (e▸hy)⟩
theorem zang{A:List Str}(hA:0<A.length)(hA2:A.length<1000){d:PyData}{n m:Nat}(ok:Fok d n)(hn:n+10<=10 ^ 12)(hm:m<=5){S s3 s5 s6:Sl} :
  ∃env',zhu (gN 5) (fSeq (fSet 6 (fOp ixD (zak 0 (eVar 1)) (zao 0 2 zah (zap (zak 0 (eCB lenD (zac (eVar 1) aNil))) (fNil 0)))))
  (fIfP (zas (eOp (inD true) (eVar 6) (eVar 4))) (fApp 4 (zak 0 (eVar 6))) fNx)) (zeo 0 m) [.ac d,.pl (zaa A),S,s3,.ac (zaa []),s5,s6]=some (.nx env')/\∃(b:List Str) (d':PyData) (s5 s6:Sl),env'=[.ac d',.pl (zaa A),S,s3,.ac (zaa b),s5,s6]/\(∀x∈b,x∈A)/\b.Nodup/\b.length<=m/\Fok d' (n+m):=by
 refine zcm (λk env=>∃(b:List Str)(d':PyData)(s5 s6:Sl),env=[.ac d',.pl (zaa A),S,s3,.ac (zaa b),s5,s6]/\(∀x∈b,x∈A)/\b.Nodup/\b.length<=k/\Fok d' (n+k)) ⟨[],d,s5,s6,rfl,λ_ h=>(nomatch h),.nil,qN _,ok⟩ ?_
 rintro k env hk ⟨b,d0,t5,t6,rfl,h1,h2,h3,ok0⟩
 obtain⟨x,d1,hx,ok1,q⟩:=zanf (i:=1) (r:=[.pl (zaa A),S,s3,.ac (zaa b),.pl (.int (k:Int)),t6]) (xs:=A) rfl ok0 (by omega) hA hA2
 have t:=zrw (neg:=true) (i:=6) (j:=4) (env:=[.ac d1,.pl (zaa A),S,s3,.ac (zaa b),.pl (.int (k:Int)),.pl (.str x)]) (x:=x) (xs:=b) rfl rfl (.inr rfl)
 by_cases hin:x∈b
 ·exact⟨_,_,rfl,(zan (zea q)).trans (zpe (by rw[decide_eq_true hin]at t;exact t)),b,d1,_,_,rfl,h1,h2,by omega,ok1⟩
 ·refine⟨_,[.ac d1,.pl (zaa A),S,s3,.ac (zaa (b++[x])),.pl (.int (k:Int)),.pl (.str x)],rfl,(zan (zea q)).trans ((zxs (by rw[decide_eq_false hin]at t;exact t)).trans ?_),b++[x],d1,_,_,rfl,λy hy=>?_,nd_snoc h2 hin,by rw[qR];simp;omega,ok1⟩
  ·refine(zjm (env:=[.ac d1,.pl (zaa A),S,s3,.ac (zaa b),.pl (.int (k:Int)),.pl (.str x)]) rfl (zbx (f:=0) (e:=eVar 6) (d0:=d1) (d:=.str x) (fr:=false) rfl rfl) rfl (by rw[qE];omega) (by simp)).trans ?_
   show some (OutF.nx [.ac d1,.pl (zaa A),S,s3,.ac (.list (b.map .str++[.str x])),.pl (.int (k:Int)),.pl (.str x)])=_
   rw[zxy]
  ·rcases q9.mp hy with z|z
   ·exact h1 y z
   ·rw[qAM.mp z];exact hx
theorem zxz{A:List Str}(hA:0<A.length)(hA2:A.length<1000){d:PyData}{n:Nat}(ok:Fok d n)(hn:n+100<=10 ^ 12):∃(bs:List (List Str))(d':PyData),zex d [zaa A]=some (srtD bs,true,d')/\bs.length<=2/\(∀b∈bs,bOk A b)/\Fok d' (n+20):=by
 obtain⟨m,d1,e1,hm,ok1⟩:=zzw (r:=[.pl (zaa A),.ac (srtD []),.no,.no,.no,.no]) ok (by omega) 3 (by decide) (by decide)
 have loop:=zcm (g:=gN 3) (n:=m) (body:=(fSeq (fS (sSet 4 (eLst aNil)))
  (fSeq (zms (zdp (zap (zao 0 2 zah (zap (zak 0 (eC (.int 6))) (fNil 0))) (fNil 0))) (gN 5)
  (fSeq (fSet 6 (fOp ixD (zak 0 (eVar 1)) (zao 0 2 zah (zap (zak 0 (eCB lenD (zac (eVar 1) aNil))) (fNil 0)))))
  (fIfP (zas (eOp (inD true) (eVar 6) (eVar 4))) (fApp 4 (zak 0 (eVar 6))) fNx)))
  (fApp 2 (zak 0 (eVar 4)))))) (env:=[.ac d1,.pl (zaa A),.ac (srtD []),.no,.no,.no,.no])
  (λk env=>∃(bs:List (List Str)) (d':PyData) (s3 s4 s5 s6:Sl),env=[.ac d',.pl (zaa A),.ac (srtD bs),s3,s4,s5,s6]/\bs.length=k/\(∀b∈bs,bOk A b)/\Fok d' (n+1+6 * k)) ⟨[],d1,_,_,_,_,rfl,rfl,λ_ h=>(nomatch h),ok1⟩ (by
   rintro k env hk ⟨bs,d0,s3,s4,s5,s6,rfl,hl,hb,ok0⟩
   obtain⟨j,d2,e2,hj,ok2⟩:=zzw (r:=[.pl (zaa A),.ac (srtD bs),.pl (.int (k:Int)),.ac (zaa []),s5,s6]) ok0 (by omega) 6 (by decide) (by decide)
   obtain⟨env',hl2,b,d3,t5,t6,rfl,b1,b2,b3,ok3⟩:=zang hA hA2 ok2 (by omega) (m:=j) (by omega) (S:=.ac (srtD bs)) (s3:=.pl (.int (k:Int))) (s5:=s5) (s6:=s6)
   refine⟨[.ac d0,.pl (zaa A),.ac (srtD bs),.pl (.int (k:Int)),s4,s5,s6],[.ac d3,.pl (zaa A),.ac (srtD (bs++[b])),.pl (.int (k:Int)),.pl (zaa b),t5,t6],rfl,(zan (show fS (sSet 4 (eLst aNil)) [.ac d0,.pl (zaa A),.ac (srtD bs),.pl (.int (k:Int)),s4,s5,s6]=some (.nx [.ac d0,.pl (zaa A),.ac (srtD bs),.pl (.int (k:Int)),.ac (zaa []),s5,s6])from rfl)).trans ((zan ((zlg (ziw (f:=0) (d:=d2) e2 rfl (by omega))).trans hl2)).trans ?_),bs++[b],d3,_,_,_,_,rfl,by rw[qR,hl];rfl,λc hc=>?_,ok3.mono (by omega)⟩
   ·refine(zjm (bs:=[4]) (fr:=false) (d:=zaa b) (env:=[.ac d3,.pl (zaa A),.ac (srtD bs),.pl (.int (k:Int)),.ac (zaa b),t5,t6]) rfl (zjl (f:=0) (e:=eVar 4) (d0:=d3) rfl rfl (show(0:Nat)∉[4] by decide)) rfl (by rw[qE];omega) (by decide)).trans ?_
    show some (OutF.nx [.ac d3,.pl (zaa A),.ac (.list (bs.map zaa++[zaa b])),.pl (.int (k:Int)),.pl (zaa b),t5,t6])=_
    rw[zajb]
   ·rcases q9.mp hc with z|z
    ·exact hb c z
    ·rw[qAM.mp z];exact⟨b1,b2,by omega⟩)
 obtain⟨env',hl,bs,d2,s3,s4,s5,s6,rfl,hbl,hb,ok2⟩:=loop
 refine⟨bs,d2,?_,by omega,hb,ok2.mono (by omega)⟩
 have run:zio [.ac d,.pl (zaa A),.no,.no,.no,.no,.no]=some (.rt (srtD bs) true [.ac d2,.pl (zaa A),.no,s3,s4,s5,s6]):=by
  unfold zio
  exact(zan (show fS (sSet 2 (eLst aNil)) [.ac d,.pl (zaa A),.no,.no,.no,.no,.no]=some (.nx [.ac d,.pl (zaa A),.ac (srtD []),.no,.no,.no,.no])from rfl)).trans ((zan ((zlg (ziw (f:=0) (d:=d1) e1 rfl (by omega))).trans hl)).trans rfl)
 unfold zex fnF
 show(zio [.ac d,.pl (zaa A),.no,.no,.no,.no,.no]).bind _=_
 rw[run];rfl
theorem zve{d:PyData}(n:Nat)(h:jok n d=true):jok (n+2) d=true:=zlz _ _ (zlz _ _ h)
noncomputable def BkD(b:PyData):Prop:=jok 4 b=true/\ck 4 b/\Cd b
theorem zanh{ds:List PyData}(h:∀e∈ds,Jk e)(hl:ds.length<1000):BkD (.list ds):=
 ⟨qK.mpr λe he=>(h e he).1,⟨hl,λe he=>(h e he).2⟩,λes e=>by
  cases e
  exact⟨qK.mpr λe he=>zlz _ _ (zve _ (h e he).1),by omega⟩⟩
theorem zajc{ds:List PyData}(h:∀e∈ds,Jk e):BkD (.tuple ds):=⟨qK.mpr λe he=>(h e he).1,trivial,λes e=>by cases e⟩
noncomputable abbrev tkI(m:Int):IFf:=zdp (zap (tk m) (fNil 0))
noncomputable abbrev is0(m:Int):TFf:=gB (fOp eqD (tk m) (zak 0 (eC (.int 0))))
noncomputable abbrev oddE:EFf:=zao 0 2 zbi (zap (zak 0 (eVar 2)) (fNil 0))
theorem zajd{A:List Str}(hA:0<A.length)(hA2:A.length<1000){st:Str}{d:PyData}{n:Nat}(ok:Fok d n)(hn:n+10<=10 ^ 12){i:Int}{es:List PyData}(he:∀e∈es,Jk e)(hl:es.length<100){S s5 s7 s8:Sl} :
  ∃(es':List PyData)(d':PyData)(s8':Sl),(fSeq (fSet 8 (fOp ixD (zak 0 (eVar 1)) (zao 0 2 zah (zap (zak 0 (eCB lenD (zac (eVar 1) aNil))) (fNil 0)))))
  (fSeq (fIf (gAnd (zft 0 (zas (eOp eqD (eVar 3) (eC (.int 0))))) (is0 4)) (fSet 8 oddE) fNx)
  (fIf (gOr (zft 0 (zas (eOp (inJ true) (eVar 8) (eVar 6)))) (is0 8)) (fApp 6 (zak 0 (eVar 8))) fNx))) [.ac d,.pl (zaa A),.pl (.str st),.pl (.int i),S,s5,.ac (.list es),s7,s8]=some (.nx [.ac d',.pl (zaa A),.pl (.str st),.pl (.int i),S,s5,.ac (.list es'),s7,s8'])/\(∀e∈es',Jk e)/\es'.length<=es.length+1/\Fok d' (n+4):=by
 obtain⟨x,d1,hx,ok1,q⟩:=zanf (i:=1) (r:=[.pl (zaa A),.pl (.str st),.pl (.int i),S,s5,.ac (.list es),s7,s8]) (xs:=A) rfl ok (by omega) hA hA2
 obtain⟨b2,d2,e2,ok2,_⟩:=andT (c:=zas (eOp eqD (eVar 3) (eC (.int 0)))) (b0:=i==0) eq0 (r:=[.pl (zaa A),.pl (.str st),.pl (.int i),S,s5,.ac (.list es),s7,.pl (.str x)]) (zcv (zaby rfl rfl)) ok1 (by omega) 4 (by decide) (by decide)
 have s2:∃(z:PyData)(d3:PyData),Jk z/\Fok d3 (n+3)/\fIf (gAnd (zft 0 (zas (eOp eqD (eVar 3) (eC (.int 0))))) (is0 4)) (fSet 8 oddE) fNx [.ac d1,.pl (zaa A),.pl (.str st),.pl (.int i),S,s5,.ac (.list es),s7,.pl (.str x)]=some (.nx [.ac d3,.pl (zaa A),.pl (.str st),.pl (.int i),S,s5,.ac (.list es),s7,.pl z]):=by
  rw[zfa e2]
  cases b2 with
  | false=>exact⟨.str x,d2,⟨rfl,trivial⟩,ok2.mono (by omega),rfl⟩
  | true=>
   obtain⟨z,d3,g1,g2,ok3⟩:=zaqu (s:=st) ok2 (by omega)
   refine⟨z,d3,g2,ok3,?_⟩
   have:=zeb (f:=0) (n:=2) (g:=zbi) (env:=[.ac d2,.pl (zaa A),.pl (.str st),.pl (.int i),S,s5,.ac (.list es),s7,.pl (.str x)]) (d0:=d2) (d1:=d2) rfl (ziv (f:=0) (d:=d2) (zbx (f:=0) (e:=eVar 2) (d0:=d2) (d:=.str st) (fr:=false) rfl rfl) rfl) rfl rfl g1 ok3.flat
   rw[show bsOf z (bss [(⟨.str st,false,[]⟩:Val)])=[]from zvd]at this
   exact(if_pos rfl).trans (zea this)
 obtain⟨z,d3,jz,ok3,e3⟩:=s2
 have tj:zas (eOp (inJ true) (eVar 8) (eVar 6)) [.ac d3,.pl (zaa A),.pl (.str st),.pl (.int i),S,s5,.ac (.list es),s7,.pl z]=some (!(es.any λe=>eqJ 6 e z)):=zcv (zxw (neg:=true) (f1:=false) (b1:=[]) (f2:=false) (b2:=[6]) rfl rfl rfl (zlz _ _ (zve _ jz.1)) (qK.mpr λe hh=>zlz _ _ (zve _ (he e hh).1)))
 obtain⟨b4,d4,e4,ok4⟩:=orT (c:=zas (eOp (inJ true) (eVar 8) (eVar 6))) eq0 tj ok3 (by omega) 8 (by decide) (by decide)
 cases b4 with
 | false=>exact⟨es,d4,_,(zan (zea q)).trans ((zan e3).trans ((zfa e4).trans rfl)),he,by omega,ok4⟩
 | true=>
  refine⟨es++[z],d4,_,(zan (zea q)).trans ((zan e3).trans ((zfa e4).trans ((if_pos rfl).trans ((zjm (env:=[.ac d4,.pl (zaa A),.pl (.str st),.pl (.int i),S,s5,.ac (.list es),s7,.pl z]) rfl (zbx (f:=0) (e:=eVar 8) (d0:=d4) (d:=z) (fr:=false) rfl rfl) rfl (by omega) (by simp)).trans rfl)))),λe hh=>?_,by rw[qR];simp,ok4⟩
  rcases q9.mp hh with y|y
  ·exact he e y
  ·rw[qAM.mp y];exact jz
theorem zaqv{es:List PyData}(h:∀e∈es,Jk e):∀z∈[PyData.tuple es,.str "",.none,.int 0,.dict []],BkD z:=by
 intro z hz
 simp only[qa,qBF,or_false]at hz
 rcases hz with rfl|rfl|rfl|rfl|rfl
 ·exact zajc h
 all_goals exact⟨rfl,trivial,λ_ e=>by cases e⟩
noncomputable abbrev mayB:SFf:=(fSeq (fSet 8 (fOp ixD (zak 0 (eVar 1)) (zao 0 2 zah (zap (zak 0 (eCB lenD (zac (eVar 1) aNil))) (fNil 0)))))
  (fSeq (fIf (gAnd (zft 0 (zas (eOp eqD (eVar 3) (eC (.int 0))))) (is0 4)) (fSet 8 oddE) fNx)
  (fIf (gOr (zft 0 (zas (eOp (inJ true) (eVar 8) (eVar 6)))) (is0 8)) (fApp 6 (zak 0 (eVar 8))) fNx)))
noncomputable abbrev mayO:SFf:=(fSeq (fS (sSet 6 (eLst aNil)))
  (fSeq (zms (tkI 7) (gN 7) mayB)
  (fSeq (fIf (gAnd (zft 0 (zas (eOp eqD (eVar 3) (eC (.int 1))))) (is0 4)) (fSet 6 (fOp ixD (zak 0 (eLst (zac (eCB zhn (zac (eVar 6) aNil)) (zac (eC (.str "")) (zac (eC .none) (zac (eC (.int 0)) (zac zli aNil))))))) (tk 5))) fNx)
  (fApp 4 (zak 0 (eVar 6))))))
theorem zagj{A:List Str}(hA:0<A.length)(hA2:A.length<1000){st:Str}{d:PyData}{n:Nat}(ok:Fok d n)(hn:n+100<=10 ^ 12){i:Int}{bs:List PyData}(hl:bs.length<100){s5 s6 s7 s8:Sl} :
  ∃(z:PyData)(d':PyData)(s7' s8':Sl),mayO [.ac d,.pl (zaa A),.pl (.str st),.pl (.int i),.ac (.list bs),s5,s6,s7,s8]=some (.nx [.ac d',.pl (zaa A),.pl (.str st),.pl (.int i),.ac (.list (bs++[z])),s5,.pl z,s7',s8'])/\BkD z/\Fok d' (n+40):=by
 obtain⟨m,d1,e1,hm,ok1⟩:=zzw (r:=[.pl (zaa A),.pl (.str st),.pl (.int i),.ac (.list bs),s5,.ac (.list []),s7,s8]) ok (by omega) 7 (by decide) (by decide)
 have loop:=zcm (g:=gN 7) (n:=m) (body:=mayB) (env:=[.ac d1,.pl (zaa A),.pl (.str st),.pl (.int i),.ac (.list bs),s5,.ac (.list []),s7,s8])
  (λk env=>∃(es:List PyData) (d':PyData) (s7 s8:Sl),env=[.ac d',.pl (zaa A),.pl (.str st),.pl (.int i),.ac (.list bs),s5,.ac (.list es),s7,s8]/\(∀e∈es,Jk e)/\es.length<=k/\Fok d' (n+1+4 * k)) ⟨[],d1,_,_,rfl,λ_ h=>(nomatch h),qN _,ok1⟩ (by
   rintro k env hk ⟨es,d0,t7,t8,rfl,he,hel,ok0⟩
   obtain⟨es',d',s8',q1,q2,q3,q4⟩:=zajd hA hA2 (st:=st) ok0 (by omega) (i:=i) he (by omega) (S:=.ac (.list bs)) (s5:=s5) (s7:=.pl (.int (k:Int))) (s8:=t8)
   exact⟨_,_,rfl,q1,es',d',_,_,rfl,q2,by omega,q4.mono (by omega)⟩)
 obtain⟨env',hlp,es,d2,t7,t8,rfl,he,hel,ok2⟩:=loop
 obtain⟨b3,d3,e3,ok3,_⟩:=andT (c:=zas (eOp eqD (eVar 3) (eC (.int 1)))) (b0:=i==1) eq0 (r:=[.pl (zaa A),.pl (.str st),.pl (.int i),.ac (.list bs),s5,.ac (.list es),t7,t8]) (zcv (zaby rfl rfl)) ok2 (by omega) 4 (by decide) (by decide)
 have s3:∃(z:PyData)(d4:PyData)(s:Sl),Hd z s/\BkD z/\Fok d4 (n+40)/\fIf (gAnd (zft 0 (zas (eOp eqD (eVar 3) (eC (.int 1))))) (is0 4)) (fSet 6 (fOp ixD (zak 0 (eLst (zac (eCB zhn (zac (eVar 6) aNil)) (zac (eC (.str "")) (zac (eC .none) (zac (eC (.int 0)) (zac zli aNil))))))) (tk 5))) fNx [.ac d2,.pl (zaa A),.pl (.str st),.pl (.int i),.ac (.list bs),s5,.ac (.list es),t7,t8]=some (.nx [.ac d4,.pl (zaa A),.pl (.str st),.pl (.int i),.ac (.list bs),s5,s,t7,t8]):=by
  rw[zfa e3]
  cases b3 with
  | false=>exact⟨.list es,d3,_,.inr rfl,zanh he (by omega),ok3.mono (by omega),rfl⟩
  | true=>
   obtain⟨z,d4,hz,ok4,q⟩:=zagi (e:=eLst (zac (eCB zhn (zac (eVar 6) aNil)) (zac (eC (.str "")) (zac (eC .none) (zac (eC (.int 0)) (zac zli aNil)))))) (t:=eC (.int 5)) (r:=[.pl (zaa A),.pl (.str st),.pl (.int i),.ac (.list bs),s5,.ac (.list es),t7,t8]) (ds:=[.tuple es,.str "",.none,.int 0,.dict []]) (fr:=true) (bs:=[6]) rfl (by decide) rfl ok3 (by omega) (by show 0<5;decide) (by show 5<1000;decide)
   refine⟨z,d4,.pl z,.inl rfl,zaqv he z hz,ok4.mono (by omega),(if_pos rfl).trans ?_⟩
   unfold fSet
   rw[q]
   unfold bsOf
   split<;>rfl
 obtain⟨z,d4,s,hs,bz,ok4,e4⟩:=s3
 refine⟨z,d4,t7,t8,(zan (show fS (sSet 6 (eLst aNil)) [.ac d,.pl (zaa A),.pl (.str st),.pl (.int i),.ac (.list bs),s5,s6,s7,s8]=some (.nx [.ac d,.pl (zaa A),.pl (.str st),.pl (.int i),.ac (.list bs),s5,.ac (.list []),s7,s8])from rfl)).trans ((zan ((zlg (ziw (f:=0) (d:=d1) e1 rfl (by omega))).trans hlp)).trans ((zan e4).trans ?_)),bz,ok4⟩
 rcases hs with rfl|rfl
 ·exact(zjm (env:=[.ac d4,.pl (zaa A),.pl (.str st),.pl (.int i),.ac (.list bs),s5,.pl z,t7,t8]) rfl (zbx (f:=0) (e:=eVar 6) (d0:=d4) (d:=z) (fr:=false) rfl rfl) rfl (by omega) (by simp)).trans rfl
 ·exact(zjm (bs:=[6]) (fr:=false) (d:=z) (env:=[.ac d4,.pl (zaa A),.pl (.str st),.pl (.int i),.ac (.list bs),s5,.ac z,t7,t8]) rfl (zjl (f:=0) (e:=eVar 6) (d0:=d4) rfl rfl (show(0:Nat)∉[6] by decide)) rfl (by omega) (by decide)).trans rfl
noncomputable def TkD(d:PyData):Prop:=∃bs:List PyData,(∀b∈bs,BkD b)/\bs.length<100/\(d=.list bs\/d∈[PyData.tuple bs,.none,.str "",.dict []])
theorem TkD.jk{d:PyData}(h:TkD d):jok 5 d=true/\ck 5 d/\Sd d:=by
 obtain⟨bs,hb,hl,e⟩:=h
 have al:bs.all (jok 4)=true:=qK.mpr λb h=>(hb b h).1
 rcases e with rfl|e
 ·exact⟨al,⟨by omega,λb h=>(hb b h).2.1⟩,λds e=>by cases e;exact⟨by omega,λb h=>(hb b h).2.2⟩⟩
 ·simp only[qa,qBF,or_false]at e
  rcases e with rfl|rfl|rfl|rfl
  ·exact⟨al,trivial,λ_ e=>by cases e⟩
  all_goals exact⟨rfl,trivial,λ_ e=>by cases e⟩
theorem TkD.ne{d:PyData}(h:TkD d):neJ d d=some (.bool false,false):=by
 have j5:=h.jk.1
 have j6:=zlz _ _ j5
 have r:=zjh 6 d j6
 unfold neJ
 rw[if_pos ⟨j6,j6⟩]
 obtain⟨bs,hb,hl,e⟩:=h
 rcases e with rfl|e
 ·have r:eqL (eqJ 5) bs bs=true:=r
  show some (PyData.bool (!eqL (eqJ 5) bs bs),false)=_
  rw[r];rfl
 ·simp only[qa,qBF,or_false]at e
  rcases e with rfl|rfl|rfl|rfl
  ·have r:eqL (eqJ 5) bs bs=true:=r
   show some (PyData.bool (!eqL (eqJ 5) bs bs),false)=_
   rw[r];rfl
  ·rfl
  ·rfl
  ·rfl
theorem zvf{A:List Str}(hA:0<A.length)(hA2:A.length<1000){st:Str}{d:PyData}{n:Nat}(ok:Fok d n)(hn:n+1000<=10 ^ 12):∃(z:PyData)(fr:Bool)(d':PyData),zbk d [zaa A,.str st]=some (z,fr,d')/\TkD z/\Fok d' (n+200):=by
 obtain⟨i,d1,e1,hi,ok1⟩:=zzw (r:=[.pl (zaa A),.pl (.str st),.no,.no,.no,.no,.no,.no]) ok (by omega) 4 (by decide) (by decide)
 obtain⟨m,d2,e2,hm,ok2⟩:=zzw (r:=[.pl (zaa A),.pl (.str st),.pl (.int (i:Int)),.ac (.list []),.no,.no,.no,.no]) ok1 (by omega) 4 (by decide) (by decide)
 have loop:=zcm (g:=gN 5) (n:=m) (body:=mayO) (env:=[.ac d2,.pl (zaa A),.pl (.str st),.pl (.int (i:Int)),.ac (.list []),.no,.no,.no,.no])
  (λk env=>∃(bs:List PyData) (d':PyData) (s5 s6 s7 s8:Sl),env=[.ac d',.pl (zaa A),.pl (.str st),.pl (.int (i:Int)),.ac (.list bs),s5,s6,s7,s8]/\(∀b∈bs,BkD b)/\bs.length=k/\Fok d' (n+2+40 * k)) ⟨[],d2,_,_,_,_,rfl,λ_ h=>(nomatch h),rfl,ok2⟩ (by
   rintro k env hk ⟨bs,d0,s5,s6,s7,s8,rfl,hb,hbl,ok0⟩
   obtain⟨z,d',s7',s8',q1,q2,q3⟩:=zagj hA hA2 (st:=st) ok0 (by omega) (i:=(i:Int)) (bs:=bs) (by omega) (s5:=.pl (.int (k:Int))) (s6:=s6) (s7:=s7) (s8:=s8)
   refine⟨_,_,rfl,q1,bs++[z],d',_,_,_,_,rfl,λb h=>?_,by rw[qR,hbl];rfl,q3.mono (by omega)⟩
   rcases q9.mp h with y|y
   ·exact hb b y
   ·rw[qAM.mp y];exact q2)
 obtain⟨env',hlp,bs,d3,s5,s6,s7,s8,rfl,hb,hbl,ok3⟩:=loop
 obtain⟨b4,d4,e4,ok4,_⟩:=andT (c:=zas (eOp eqD (eVar 3) (eC (.int 2)))) (b0:=(i:Int)==2) eq0 (r:=[.pl (zaa A),.pl (.str st),.pl (.int (i:Int)),.ac (.list bs),s5,s6,s7,s8]) (zcv (zaby rfl rfl)) ok3 (by omega) 3 (by decide) (by decide)
 have last:∃(z:PyData)(fr:Bool)(d5:PyData)(env':DEnv),(fSeq (fIf (gAnd (zft 0 (zas (eOp eqD (eVar 3) (eC (.int 2))))) (is0 3)) (fSet 4 (fOp ixD (zak 0 (eLst (zac (eCB zhn (zac (eVar 4) aNil)) (zac (eC .none) (zac (eC (.str "")) (zac zli aNil)))))) (tk 4))) fNx) (zob 4)) [.ac d3,.pl (zaa A),.pl (.str st),.pl (.int (i:Int)),.ac (.list bs),s5,s6,s7,s8]=some (.rt z fr env')/\env'[0]?=some (.ac d5)/\TkD z/\Fok d5 (n+200):=by
  cases b4 with
  | false=>exact⟨.list bs,true,d4,_,(zan ((zfa e4).trans rfl)).trans rfl,rfl,⟨bs,hb,by omega,.inl rfl⟩,ok4.mono (by omega)⟩
  | true=>
   obtain⟨z,d5,hz,ok5,q⟩:=zagi (e:=eLst (zac (eCB zhn (zac (eVar 4) aNil)) (zac (eC .none) (zac (eC (.str "")) (zac zli aNil))))) (t:=eC (.int 4)) (r:=[.pl (zaa A),.pl (.str st),.pl (.int (i:Int)),.ac (.list bs),s5,s6,s7,s8]) (ds:=[.tuple bs,.none,.str "",.dict []]) (fr:=true) (bs:=[4]) rfl (by decide) rfl ok4 (by omega) (by show 0<4;decide) (by show 4<1000;decide)
   have e5:fSet 4 (fOp ixD (zak 0 (eLst (zac (eCB zhn (zac (eVar 4) aNil)) (zac (eC .none) (zac (eC (.str "")) (zac zli aNil)))))) (tk 4)) [.ac d4,.pl (zaa A),.pl (.str st),.pl (.int (i:Int)),.ac (.list bs),s5,s6,s7,s8]=some (.nx [.ac d5,.pl (zaa A),.pl (.str st),.pl (.int (i:Int)),.pl z,s5,s6,s7,s8]):=by
    unfold fSet
    rw[q]
    unfold bsOf
    split<;>rfl
   exact⟨z,false,d5,_,(zan ((zfa e4).trans ((if_pos rfl).trans e5))).trans rfl,rfl,⟨bs,hb,by omega,.inr hz⟩,ok5.mono (by omega)⟩
 obtain⟨z,fr,d5,env',q,q0,tz,ok5⟩:=last
 refine⟨z,fr,d5,?_,tz,ok5⟩
 have run:zcz [.ac d,.pl (zaa A),.pl (.str st),.no,.no,.no,.no,.no,.no]=some (.rt z fr env'):=by
  unfold zcz
  exact(zan (zea e1)).trans ((zan (show fS (sSet 4 (eLst aNil)) [.ac d1,.pl (zaa A),.pl (.str st),.pl (.int (i:Int)),.no,.no,.no,.no,.no]=some (.nx [.ac d1,.pl (zaa A),.pl (.str st),.pl (.int (i:Int)),.ac (.list []),.no,.no,.no,.no])from rfl)).trans ((zan ((zlg (ziw (f:=0) (d:=d2) e2 rfl (by omega))).trans hlp)).trans q))
 unfold zbk fnF
 show(zcz [.ac d,.pl (zaa A),.pl (.str st),.no,.no,.no,.no,.no,.no]).bind _=_
 rw[run,qF]
 show(match(env'[0]?:Option Sl)with|some (.ac d1)=>some (z,fr,d1)|_=>none)=_
 rw[q0]
theorem zrx{xs:List Str}(h:∀x∈xs,qBP x=true):qAg (zaa xs)=true:=by
 obtain⟨h1,h2⟩:=zuo xs h
 unfold qAg zaa
 rw[qZ]
 refine⟨h1,decide_eq_true ?_⟩
 show qAv (xs.map .str)+1<=64
 omega
theorem neS{d:PyData}(s:qAg d=true):neD d d=some (.bool false,false):=by
 unfold neD eqOk
 rw[s,if_pos (by simp),PySem.SeqAt.eqv_refl _ (qAs s)];rfl
theorem zary{a b:EF}{env:DEnv}{d:PyData}{f1 f2:Bool}{b1 b2:List Nat}(ha:a env=some ⟨d,f1,b1⟩)(hb:b env=some ⟨d,f2,b2⟩)(s:qAg d=true):zas (eOp neD a b) env=some false:=by
 refine zcv ?_
 unfold eOp
 rw[ha,hb]
 show((neD d d).bind λz=>some (⟨z.1,z.2,bsOf z.1 (b1++b2)⟩:Val))=_
 rw[neS s];rfl
theorem zagk:∀(bs:List (List Str)),(∀b∈bs,LowS b)->qAY (bs.map zaa)=true/\qAv (bs.map zaa)<=1
 | [],_=>⟨rfl,by decide⟩
 | b::bs,h=>by
  obtain⟨h1,h2⟩:=zagk bs λy hy=>h y (qM _ hy)
  obtain⟨k1,k2⟩:=zuo b (h b qV)
  rw[qp]
  refine⟨?_,?_⟩
  ·show(qAY (b.map .str)&&qAY (bs.map zaa))=true
   rw[k1,h1];rfl
  ·show max (qAv (b.map .str)+1) (qAv (bs.map zaa))<=1
   rw[k2];omega
theorem zth{bs:List (List Str)}(h:∀b∈bs,LowS b):qAg (srtD bs)=true:=by
 obtain⟨h1,h2⟩:=zagk bs h
 unfold qAg
 show(qAY (bs.map zaa)&&decide (qAv (bs.map zaa)+1<=64))=true
 rw[h1,decide_eq_true (by omega)];rfl
theorem zaki{ds:List PyData}(h:qAg (.list ds)=true):neD (.list ds) (.list [])=some (.bool (!ds.isEmpty),false):=by
 unfold neD eqOk
 rw[h,show qAg (.list [])=true from zrx (xs:=[]) (λx hx=>nomatch hx),if_pos (by simp)]
 cases ds<;>rfl
noncomputable abbrev zarz:SFf:=(fIf (gAnd (zft 0 (zas (eOp neD (eVar 2) (eLst aNil)))) (gAnd (zft 0 (zas (eOp neD (eIxV 2 (eNeg (eC (.int 1)))) (eLst aNil)))) (gB (fOp gtD (tk 4) (zak 0 (eC (.int 0))))))) (fS (sSet 4 (eIxV 2 (eNeg (eC (.int 1)))))) fNx)
theorem zagl{A:List Str}(hA:0<A.length)(hA2:A.length<100){bs:List (List Str)}(hb:bs.length<=2)(hL:∀b∈bs,LowS b)(hb5:∀b∈bs,b.length<=5){d:PyData}{n:Nat}(ok:Fok d n)(hn:n+10<=10 ^ 12){s3 s5 s6 s7:Sl} :
  ∃(xs:List Str)(d':PyData),zarz [.ac d,.pl (zaa A),.pl (srtD bs),s3,.pl (zaa A),s5,s6,s7]=some (.nx [.ac d',.pl (zaa A),.pl (srtD bs),s3,.pl (zaa xs),s5,s6,s7])/\0<xs.length/\xs.length<100/\Fok d' (n+1):=by
 have t1:zas (eOp neD (eVar 2) (eLst aNil)) [.ac d,.pl (zaa A),.pl (srtD bs),s3,.pl (zaa A),s5,s6,s7]=some (!(bs.map zaa).isEmpty):=zcv (zia (x:=⟨srtD bs,false,[]⟩) (y:=⟨.list [],true,[]⟩) rfl rfl (zaki (zth hL)))
 have g1:zft 0 (zas (eOp neD (eVar 2) (eLst aNil))) [.ac d,.pl (zaa A),.pl (srtD bs),s3,.pl (zaa A),s5,s6,s7]=some (!(bs.map zaa).isEmpty,[.ac d,.pl (zaa A),.pl (srtD bs),s3,.pl (zaa A),s5,s6,s7]):=by
  show(zas (eOp neD (eVar 2) (eLst aNil)) [.ac d,.pl (zaa A),.pl (srtD bs),s3,.pl (zaa A),s5,s6,s7]).map _=_
  rw[t1];rfl
 by_cases he:bs=[]
 ·subst he
  exact⟨A,d,(zfa (x:=false) (by unfold gAnd;rw[g1];rfl)).trans rfl,hA,hA2,ok.mono (by omega)⟩
 ·have ls:∃b∈bs,∀(d:PyData)(s3 s4 s5 s6 s7:Sl),eIxV 2 (eNeg (eC (.int 1))) [.ac d,.pl (zaa A),.pl (srtD bs),s3,s4,s5,s6,s7]=some ⟨zaa b,false,[]⟩:=by
   match bs,he,hb with
   | [],he,_=>exact absurd rfl he
   | [b],_,_=>exact⟨b,by simp,λ_ _ _ _ _ _=>rfl⟩
   | [b,c],_,_=>exact⟨c,by simp,λ_ _ _ _ _ _=>rfl⟩
   | _::_::_::_,_,h=>exact absurd h (by simp)
  obtain⟨b,hbm,ix⟩:=ls
  have n1:(bs.map zaa).isEmpty=false:=by cases bs with|nil=>exact absurd rfl he|cons _ _=>rfl
  have t2:zas (eOp neD (eIxV 2 (eNeg (eC (.int 1)))) (eLst aNil)) [.ac d,.pl (zaa A),.pl (srtD bs),s3,.pl (zaa A),s5,s6,s7]=some (!(b.map PyData.str).isEmpty):=zcv (zia (x:=⟨zaa b,false,[]⟩) (y:=⟨.list [],true,[]⟩) (ix ..) rfl (zaki (zrx (hL b hbm))))
  obtain⟨b2,d2,e2,ok2,im⟩:=andT gt0 t2 ok (by omega) 4 (by decide) (by decide)
  have c:gAnd (zft 0 (zas (eOp neD (eVar 2) (eLst aNil)))) (gAnd (zft 0 (zas (eOp neD (eIxV 2 (eNeg (eC (.int 1)))) (eLst aNil)))) (gB (fOp gtD (tk 4) (zak 0 (eC (.int 0)))))) [.ac d,.pl (zaa A),.pl (srtD bs),s3,.pl (zaa A),s5,s6,s7]=some (b2,[.ac d2,.pl (zaa A),.pl (srtD bs),s3,.pl (zaa A),s5,s6,s7]):=by
   conv=>lhs;unfold gAnd
   rw[g1,n1]
   exact e2
  cases b2 with
  | false=>exact⟨A,d2,(zfa c).trans rfl,hA,hA2,ok2⟩
  | true=>
   refine⟨b,d2,(zfa c).trans ((if_pos rfl).trans (zxr (ix ..))),?_,by have:=hb5 b hbm;omega,ok2⟩
   have:=im rfl
   cases b with
   | nil=>cases this
   | cons _ _=>exact Nat.succ_pos _
theorem zani{A xs:List Str}(hx:0<xs.length)(hx2:xs.length<100){d:PyData}{n m:Nat}(ok:Fok d n)(hn:n+100<=10 ^ 12)(hm:m<=6){S s3 s6 s7:Sl} :
  ∃env',zhu (gN 6) (fSeq (fSet 7 (fOp ixD (zak 0 (eVar 4)) (zao 0 2 zah (zap (zak 0 (eCB lenD (zac (eVar 4) aNil))) (fNil 0)))))
  (fIf (gOr (zft 0 (zas (eOp (inD true) (eVar 7) (eVar 5)))) (is0 16)) (fApp 5 (zak 0 (eVar 7))) fNx)) (zeo 0 m) [.ac d,.pl (zaa A),S,s3,.pl (zaa xs),.ac (zaa []),s6,s7]=some (.nx env')/\∃(b:List Str) (d':PyData) (s6 s7:Sl),env'=[.ac d',.pl (zaa A),S,s3,.pl (zaa xs),.ac (zaa b),s6,s7]/\b.length<=m/\Fok d' (n+2 * m):=by
 refine zcm (λk env=>∃(b:List Str)(d':PyData)(s6 s7:Sl),env=[.ac d',.pl (zaa A),S,s3,.pl (zaa xs),.ac (zaa b),s6,s7]/\b.length<=k/\Fok d' (n+2 * k)) ⟨[],d,_,_,rfl,qN _,ok⟩ ?_
 rintro k env hk ⟨b,d0,t6,t7,rfl,h3,ok0⟩
 obtain⟨x,d1,hx',ok1,q⟩:=zanf (i:=4) (r:=[.pl (zaa A),S,s3,.pl (zaa xs),.ac (zaa b),.pl (.int (k:Int)),t7]) (xs:=xs) rfl ok0 (by omega) hx (by omega)
 have t:=zrw (neg:=true) (i:=7) (j:=5) (env:=[.ac d1,.pl (zaa A),S,s3,.pl (zaa xs),.ac (zaa b),.pl (.int (k:Int)),.pl (.str x)]) (x:=x) (xs:=b) rfl rfl (.inr rfl)
 obtain⟨b2,d2,e2,ok2⟩:=orT eq0 t ok1 (by omega) 16 (by decide) (by decide)
 cases b2 with
 | false=>exact⟨_,_,rfl,(zan (zea q)).trans ((zfa e2).trans rfl),b,d2,_,_,rfl,by omega,ok2.mono (by omega)⟩
 | true=>
  refine⟨_,[.ac d2,.pl (zaa A),S,s3,.pl (zaa xs),.ac (zaa (b++[x])),.pl (.int (k:Int)),.pl (.str x)],rfl,(zan (zea q)).trans ((zfa e2).trans ((if_pos rfl).trans ?_)),b++[x],d2,_,_,rfl,by rw[qR];simp;omega,ok2.mono (by omega)⟩
  refine(zjm (env:=[.ac d2,.pl (zaa A),S,s3,.pl (zaa xs),.ac (zaa b),.pl (.int (k:Int)),.pl (.str x)]) rfl (zbx (f:=0) (e:=eVar 7) (d0:=d2) (d:=.str x) (fr:=false) rfl rfl) rfl (by rw[qE];omega) (by simp)).trans ?_
  show some (OutF.nx [.ac d2,.pl (zaa A),S,s3,.pl (zaa xs),.ac (.list (b.map .str++[.str x])),.pl (.int (k:Int)),.pl (.str x)])=_
  rw[zxy]
theorem zagm{xs:List Str}:∀e∈xs.map PyData.str,Jk e:=λe he=>by
 obtain⟨x,_,rfl⟩:=qAh.mp he
 exact⟨rfl,trivial⟩
theorem zaje{d:PyData}{n:Nat}(ok:Fok d n)(hn:n+100<=10 ^ 12){ds:List PyData}(hd:∀e∈ds,Jk e)(hl:ds.length<100){st:Str}{s1 s2 s4 s6 s7:Sl} :
  ∃(ds':List PyData)(d':PyData),fIns 5 (zap (zao 0 2 zah (zap (zak 0 (eOp addD (eCB lenD (zac (eVar 5) aNil)) (eC (.int 1)))) (fNil 0))) (zap (zao 0 2 zbi (zap (zak 0 (eVar 3)) (fNil 0))) (fNil 0))) [.ac d,s1,s2,.pl (.str st),s4,.ac (.list ds),s6,s7]=some (.nx [.ac d',s1,s2,.pl (.str st),s4,.ac (.list ds'),s6,s7])/\(∀e∈ds',Jk e)/\ds'.length<=100/\Fok d' (n+2):=by
 obtain⟨q,d1,e1,k0,k1,ok1⟩:=zge (f:=0) (e:=eOp addD (eCB lenD (zac (eVar 5) aNil)) (eC (.int 1))) (env:=[.ac d,s1,s2,.pl (.str st),s4,.ac (.list ds),s6,s7]) rfl (zph (zmy rfl) rfl) ok (by omega) (by omega) (by omega)
 obtain⟨k,rfl⟩:∃k:Nat,q=(k:Int):=⟨q.toNat,by omega⟩
 obtain⟨z,d2,g1,g2,ok2⟩:=zaqu (s:=st) ok1 (by omega)
 have e2:=zeb (f:=0) (n:=2) (g:=zbi) (env:=[.ac d1,s1,s2,.pl (.str st),s4,.ac (.list ds),s6,s7]) (d0:=d1) (d1:=d1) rfl (ziv (f:=0) (d:=d1) (zbx (f:=0) (e:=eVar 3) (d0:=d1) (d:=.str st) (fr:=false) rfl rfl) rfl) rfl rfl g1 ok2.flat
 rw[show bsOf z (bss [(⟨.str st,false,[]⟩:Val)])=[]from zvd]at e2
 have e3:=zib e1 (ziv (f:=0) (d:=d2) e2 rfl)
 refine⟨insL ds k z,d2,?_,λe he=>?_,by rw[zaas];omega,ok2⟩
 ·unfold fIns
  show(Option.bind (zap (zao 0 2 zah (zap (zak 0 (eOp addD (eCB lenD (zac (eVar 5) aNil)) (eC (.int 1)))) (fNil 0))) (zap (zao 0 2 zbi (zap (zak 0 (eVar 3)) (fNil 0))) (fNil 0)) [.ac d,s1,s2,.pl (.str st),s4,.ac (.list ds),s6,s7]) _)=_
  rw[e3,qF]
  show(if 0<=(k:Int)/\((k:Int).toNat)<=ds.length/\ds.length<100000/\5∉([]:List Nat)then some (OutF.nx [.ac d2,s1,s2,.pl (.str st),s4,.ac (.list (insL ds ((k:Int).toNat) z)),s6,s7])else none)=_
  rw[if_pos ⟨by omega,by omega,by omega,by simp⟩]
  rfl
 ·unfold insL at he
  rcases q9.mp he with y|y
  ·exact hd e (qAz y)
  ·rcases qa.mp y with rfl|y
   ·exact g2
   ·exact hd e (List.mem_of_mem_drop y)
noncomputable def CkD(z:PyData):Prop:=Td z/\ck 4 z
theorem zasa {z:PyData} {st nm0:Str} (h:z∈[PyData.str st,.none,.int 7,.bool true,.dict [],.str nm0]):CkD z:=by
 simp only[qa,qBF,or_false]at h
 rcases h with rfl|rfl|rfl|rfl|rfl|rfl
 all_goals exact⟨λ_ e=>(by cases e),trivial⟩
theorem zacp{A:List Str}(hA:0<A.length)(hA2:A.length<99){bs:List (List Str)}(hb:bs.length<=2)(hL:∀b∈bs,LowS b)(hb5:∀b∈bs,b.length<=5){st:Str}{d:PyData}{n:Nat}(ok:Fok d n)(hn:n+1000<=10 ^ 12):∃(z:PyData)(fr:Bool)(d':PyData),zbl d [zaa A,srtD bs,.str st]=some (z,fr,d')/\CkD z/\Fok d' (n+50):=by
 have s1:fS (sSet 4 (eVar 1)) [.ac d,.pl (zaa A),.pl (srtD bs),.pl (.str st),.no,.no,.no,.no]=some (.nx [.ac d,.pl (zaa A),.pl (srtD bs),.pl (.str st),.pl (zaa A),.no,.no,.no]):=rfl
 obtain⟨xs,d2,s2,hx,hx2,ok2⟩:=zagl hA (by omega) hb hL hb5 ok (by omega) (s3:=.pl (.str st)) (s5:=.no) (s6:=.no) (s7:=.no)
 have s3:fS (sSet 5 (eLst aNil)) [.ac d2,.pl (zaa A),.pl (srtD bs),.pl (.str st),.pl (zaa xs),.no,.no,.no]=some (.nx [.ac d2,.pl (zaa A),.pl (srtD bs),.pl (.str st),.pl (zaa xs),.ac (zaa []),.no,.no]):=rfl
 obtain⟨m,d3,e3,hm,ok3⟩:=zzw (r:=[.pl (zaa A),.pl (srtD bs),.pl (.str st),.pl (zaa xs),.ac (zaa []),.no,.no]) ok2 (by omega) 6 (by decide) (by decide)
 obtain⟨env',lp,ys,d4,s6,s7,rfl,hy,ok4⟩:=zani (A:=A) hx hx2 ok3 (by omega) (m:=m) (by omega) (S:=.pl (srtD bs)) (s3:=.pl (.str st)) (s6:=.no) (s7:=.no)
 have s4:=(zlg (g:=gN 6) (ziw (f:=0) (d:=d3) e3 rfl (by omega))).trans lp
 obtain⟨b5,d5,e5,ok5⟩:=tst gt0 [.pl (zaa A),.pl (srtD bs),.pl (.str st),.pl (zaa xs),.ac (zaa ys),s6,s7] ok4 (by omega) 3 (by decide) (by decide)
 have s5:∃zs:List Str,zs.length<99/\fIf (gB (fOp gtD (tk 3) (zak 0 (eC (.int 0))))) (fS (sSet 5 (zfs ["_law_name"] [5] (zbf (eVar 1)) (gN 0) (zas (eOp (inD false) (eVar 0) (eVar 1))) (eVar 0)))) fNx [.ac d4,.pl (zaa A),.pl (srtD bs),.pl (.str st),.pl (zaa xs),.ac (zaa ys),s6,s7]=some (.nx [.ac d5,.pl (zaa A),.pl (srtD bs),.pl (.str st),.pl (zaa xs),.ac (zaa zs),s6,s7]):=by
  cases b5 with
  | false=>exact⟨ys,by omega,(zfa e5).trans rfl⟩
  | true=>
   have c:zet (gN 0) (zas (eOp (inD false) (eVar 0) (eVar 1))) (eVar 0) [.no,.pl (zaa ys)] (A.map .str)=some ((A.filter λx=>decide (x∈ys)).map .str):=
    zgm (enc:=PyData.str) (out:=PyData.str) (λx=>decide (x∈ys)) λx _=>⟨[.pl (.str x),.pl (zaa ys)],rfl,zrw (neg:=false) (i:=0) (j:=1) rfl rfl (.inl rfl),λ_=>⟨vs x,rfl,rfl⟩⟩
   have cc:=zih (own:=["_law_name"]) (fr:=[5]) (fi:=zbf (eVar 1)) (ds:=A.map .str) (bs:=[]) (env:=[.ac d5,.pl (zaa A),.pl (srtD bs),.pl (.str st),.pl (zaa xs),.ac (zaa ys),s6,s7]) rfl (by rw[qE];omega) c
   rw[if_pos (zin _)]at cc
   refine⟨A.filter λx=>decide (x∈ys),?_,(zfa e5).trans ((if_pos rfl).trans (zmd ((zoz cc).trans rfl)))⟩
   have:=qCg (λx=>decide (x∈ys)) A
   omega
 obtain⟨zs,hz,s5⟩:=s5
 obtain⟨b6,d6,e6,ok6⟩:=tst eq0 [.pl (zaa A),.pl (srtD bs),.pl (.str st),.pl (zaa xs),.ac (zaa zs),s6,s7] ok5 (by omega) 8 (by decide) (by decide)
 have s6':∃(ds:List PyData)(d7:PyData),(∀e∈ds,Jk e)/\ds.length<=100/\Fok d7 (n+40)/\fIf (is0 8) (fIns 5 (zap (zao 0 2 zah (zap (zak 0 (eOp addD (eCB lenD (zac (eVar 5) aNil)) (eC (.int 1)))) (fNil 0))) (zap (zao 0 2 zbi (zap (zak 0 (eVar 3)) (fNil 0))) (fNil 0)))) fNx [.ac d5,.pl (zaa A),.pl (srtD bs),.pl (.str st),.pl (zaa xs),.ac (zaa zs),s6,s7]=some (.nx [.ac d7,.pl (zaa A),.pl (srtD bs),.pl (.str st),.pl (zaa xs),.ac (.list ds),s6,s7]):=by
  cases b6 with
  | false=>exact⟨_,d6,zagm,by rw[qE];omega,ok6.mono (by omega),(zfa e6).trans rfl⟩
  | true=>
   obtain⟨ds,d7,q1,q2,q3,q4⟩:=zaje ok6 (by omega) (ds:=zs.map .str) zagm (by rw[qE];omega) (st:=st) (s1:=.pl (zaa A)) (s2:=.pl (srtD bs)) (s4:=.pl (zaa xs)) (s6:=s6) (s7:=s7)
   exact⟨ds,d7,q2,q3,q4.mono (by omega),(zfa e6).trans ((if_pos rfl).trans q1)⟩
 obtain⟨ds,d7,hds,hdl,ok7,s6'⟩:=s6'
 obtain⟨b8,d8,e8,ok8⟩:=tst eq0 [.pl (zaa A),.pl (srtD bs),.pl (.str st),.pl (zaa xs),.ac (.list ds),s6,s7] ok7 (by omega) 12 (by decide) (by decide)
 have last:∃(z:PyData)(fr:Bool)(d':PyData)(env':DEnv),(fSeq (fIf (is0 12) (zob 5) fNx)
  (fSeq (fIf (is0 24) (fRet (fOp ixD (zak 0 (eLst (zac (eVar 3) (zac (eC .none) (zac (eC (.int 7)) (zac (eC (.bool true)) (zac zli (zac (eIxV 1 (eC (.int 0))) aNil)))))))) (tk 6))) fNx)
  (zhv (eCB zhn (zac (eVar 5) aNil))))) [.ac d7,.pl (zaa A),.pl (srtD bs),.pl (.str st),.pl (zaa xs),.ac (.list ds),s6,s7]=some (.rt z fr env')/\env'[0]?=some (.ac d')/\CkD z/\Fok d' (n+50):=by
  cases b8 with
  | true=>exact⟨.list ds,true,d8,_,zzr ((zfa e8).trans rfl),rfl,⟨λ_ e=>(by cases e),⟨by omega,λe he=>(hds e he).2⟩⟩,ok8.mono (by omega)⟩
  | false=>
   obtain⟨b9,d9,e9,ok9⟩:=tst eq0 [.pl (zaa A),.pl (srtD bs),.pl (.str st),.pl (zaa xs),.ac (.list ds),s6,s7] ok8 (by omega) 24 (by decide) (by decide)
   cases b9 with
   | false=>exact⟨.tuple ds,false,d9,_,(zan ((zfa e8).trans rfl)).trans ((zan ((zfa e9).trans rfl)).trans rfl),rfl,⟨λ_ e=>(by cases e;exact⟨qK.mpr λe he=>zve _ (hds e he).1,by omega⟩),trivial⟩,ok9.mono (by omega)⟩
   | true=>
    obtain⟨a,A',rfl⟩:=List.exists_cons_of_ne_nil (l:=A) (by intro z;rw[z]at hA;cases hA)
    have ix:=zaqd (env:=[.ac d9,.pl (zaa (a::A')),.pl (srtD bs),.pl (.str st),.pl (zaa xs),.ac (.list ds),s6,s7]) (k:=1) (n:=0) (b:=eC (.int 0)) (ds:=(a::A').map .str) (d:=.str a) rfl rfl rfl
    have ag:zac (eVar 3) (zac (eC .none) (zac (eC (.int 7)) (zac (eC (.bool true)) (zac zli (zac (eIxV 1 (eC (.int 0))) aNil))))) [.ac d9,.pl (zaa (a::A')),.pl (srtD bs),.pl (.str st),.pl (zaa xs),.ac (.list ds),s6,s7]=some [⟨.str st,false,[]⟩,⟨.none,false,[]⟩,⟨.int 7,false,[]⟩,⟨.bool true,false,[]⟩,⟨.dict [],true,[]⟩,⟨.str a,false,[]⟩]:=zcr rfl (zcr rfl (zcr rfl (zcr rfl (zcr rfl (zoe ix)))))
    have le:eLst (zac (eVar 3) (zac (eC .none) (zac (eC (.int 7)) (zac (eC (.bool true)) (zac zli (zac (eIxV 1 (eC (.int 0))) aNil)))))) [.ac d9,.pl (zaa (a::A')),.pl (srtD bs),.pl (.str st),.pl (zaa xs),.ac (.list ds),s6,s7]=some ⟨.list [.str st,.none,.int 7,.bool true,.dict [],.str a],true,[]⟩:=by
     unfold eLst
     rw[ag];rfl
    obtain⟨z,d10,hz,ok10,q⟩:=zagi (e:=eLst (zac (eVar 3) (zac (eC .none) (zac (eC (.int 7)) (zac (eC (.bool true)) (zac zli (zac (eIxV 1 (eC (.int 0))) aNil))))))) (t:=eC (.int 6)) (r:=[.pl (zaa (a::A')),.pl (srtD bs),.pl (.str st),.pl (zaa xs),.ac (.list ds),s6,s7]) (ds:=[.str st,.none,.int 7,.bool true,.dict [],.str a]) (fr:=true) (bs:=[]) le (by simp) rfl ok9 (by omega) (by show 0<6;decide) (by show 6<1000;decide)
    rw[zvd]at q
    refine⟨z,false,d10,[.ac d10,.pl (zaa (a::A')),.pl (srtD bs),.pl (.str st),.pl (zaa xs),.ac (.list ds),s6,s7],(zan ((zfa e8).trans rfl)).trans (zzr ((zfa e9).trans ((if_pos rfl).trans ?_))),rfl,zasa hz,ok10.mono (by omega)⟩
    unfold fRet
    rw[q];rfl
 obtain⟨z,fr,d',env',q,q0,cz,ok'⟩:=last
 refine⟨z,fr,d',?_,cz,ok'⟩
 have run:zer [.ac d,.pl (zaa A),.pl (srtD bs),.pl (.str st),.no,.no,.no,.no]=some (.rt z fr env'):=by
  unfold zer
  exact(zan s1).trans ((zan s2).trans ((zan s3).trans ((zan s4).trans ((zan s5).trans ((zan s6').trans q)))))
 unfold zbl fnF
 show(zer [.ac d,.pl (zaa A),.pl (srtD bs),.pl (.str st),.no,.no,.no,.no]).bind _=_
 rw[run,qF]
 show(match(env'[0]?:Option Sl)with|some (.ac d1)=>some (z,fr,d1)|_=>none)=_
 rw[q0]
theorem zajf(ns:List Int)(z:Int):Fok (.list (zmt ns z)) 0:=by
 refine⟨_,_,0,rfl,?_,qAy _ (by decide),qCq (qAl _ (by decide)) (by decide),Int.le_refl _,Int.le_refl _⟩
 have:∀c:Int,0<=(if(if c<0 then -c else c)<10 ^ 18 then 0 else(if c<0 then -c else c)):=λc=>by
  by_cases h:c<0
  ·rw[if_pos h];split<;>omega
  ·rw[if_neg h];split<;>omega
 exact this _
noncomputable abbrev e22(W:Web)(st:Str)(A1 A2:Sl)(d:PyData)(s7 s8 s9 s10 s11 s12 s13 s14 s15:Sl):DEnv:=[.no,A1,A2,.ac d,.pl (zaa (nm W)),.pl (.str st),.pl (webD W),s7,s8,s9,s10,s11,s12,s13,s14,s15]
theorem zop{z:PyData}{fr:Bool}{bs:List Nat}:Hd z (slOf ⟨z,fr,bs⟩):=by
 cases fr
 ·exact .inl rfl
 ·exact .inr rfl
theorem zagn{env:DEnv}{i:Nat}{s:Sl}{z:PyData}{m:Nat}(hs:env[i]?=some s)(hd:Hd z s)(hm:m<=7)(hc:ck m z):∃(fr:Bool)(bs:List Nat),zbj 1 zay (zac (eVar i) aNil) env=some ⟨z,fr,bs⟩:=by
 obtain⟨b,e⟩:=e_hd hs hd
 obtain⟨fr,g⟩:=zqa 7 m z hm hc
 exact⟨fr,_,zdi (n:=1) (zoe e) rfl g⟩
theorem zakj{bs:List (List Str)}(h:bs.length<1000)(h2:∀b∈bs,b.length<1000):ck 3 (srtD bs):=by
 refine⟨by rw[qE];exact h,λx hx=>?_⟩
 obtain⟨b,hb,rfl⟩:=qAh.mp hx
 refine⟨by rw[qE];exact h2 b hb,λy hy=>?_⟩
 obtain⟨x,_,rfl⟩:=qAh.mp hy
 trivial
theorem ne_b{a b:EF}{env:DEnv}{x:Bool}{b1 b2:List Nat}(ha:a env=some ⟨.bool x,false,b1⟩)(hb:b env=some ⟨.bool x,false,b2⟩):zas (eOp neD a b) env=some false:=by
 refine zcv (zia (z:=.bool false) (fr:=false) ha hb ?_)
 cases x<;>rfl
noncomputable abbrev zaqw:SFf:=(fSeq (fSet 13 (zao 3 4 zbl (zap (zak 3 (eVar 4)) (zap (zak 3 (eVar 11)) (zap (zak 3 (eVar 5)) (fNil 3))))))
  (fSeq (fS (sSet 14 (zbj 1 zay (zac (eVar 11) aNil))))
  (fSeq (fS (sSet 15 (zbj 3 zdx (zac (eVar 6) (zac (eVar 14) (zac (zbj 1 zay (zac (eVar 13) aNil)) aNil))))))
  (fIfP (tOrF (zfe (tTru (eIsi "bool" (eVar 15)))) (tOrF (zas (eOp neD (eVar 15) (zbj 4 zca (zac (eVar 4) (zac (eVar 7) (zac (eVar 11) (zac (eVar 13) aNil))))))) (zas (eOp neD (eVar 14) (eVar 11))))) (zhv (eC (.bool false))) fNx))))
open Classical in
theorem zacq {W:Web} (h:WebOk W) (lo:∀x∈nm W,Low x) (hne:0<(nm W).length) {st:Str} {bs:List (List Str)} (hb:bs.length<=2) (hbo:∀b∈bs,bOk (nm W) b) {d:PyData} {n:Nat} (ok:Fok d n) (hn:n+1000<=10 ^ 12) {A1 A2 s7 s8 s9 s10 s11 s12 s13 s14 s15:Sl} (h7:Hd (.dict (dS zaa (tabW W W))) s7) (h11:Hd (srtD bs) s11) :
  ∃(d':PyData)(t13 t14 t15:Sl),zaqw (e22 W st A1 A2 d s7 s8 s9 s10 s11 s12 s13 s14 s15)=some (.nx (e22 W st A1 A2 d' s7 s8 s9 s10 (.pl (srtD bs)) s12 t13 t14 t15))/\Fok d' (n+50):=by
 have hW:(nm W).length<=12:=by have:W.length<=12:=h.len;unfold nm;rw[qE];omega
 have hL:∀b∈bs,LowS b:=λb hb x hx=>zaft (lo x ((hbo b hb).1 x hx))
 obtain⟨z,fr,d1,g1,cz,ok1⟩:=zacp hne (by omega) hb hL (λb hb=>(hbo b hb).2.2) (st:=st) ok hn
 have k1:fSet 13 (zao 3 4 zbl (zap (zak 3 (eVar 4)) (zap (zak 3 (eVar 11)) (zap (zak 3 (eVar 5)) (fNil 3))))) (e22 W st A1 A2 d s7 s8 s9 s10 s11 s12 s13 s14 s15)=some (.nx (e22 W st A1 A2 d1 s7 s8 s9 s10 (.pl (srtD bs)) s12 (slOf ⟨z,fr,[]⟩) s14 s15)):=by
  rcases h11 with rfl|rfl
  ·have ag:zap (zak 3 (eVar 4)) (zap (zak 3 (eVar 11)) (zap (zak 3 (eVar 5)) (fNil 3))) (e22 W st A1 A2 d s7 s8 s9 s10 (.pl (srtD bs)) s12 s13 s14 s15)=some ([⟨zaa (nm W),false,[]⟩,⟨srtD bs,false,[]⟩,⟨.str st,false,[]⟩],e22 W st A1 A2 d s7 s8 s9 s10 (.pl (srtD bs)) s12 s13 s14 s15):=
    zib (zbx (f:=3) (d0:=d) rfl rfl) (zib (zbx (f:=3) (d0:=d) rfl rfl) (ziv (f:=3) (d:=d) (zbx (f:=3) (d0:=d) rfl rfl) rfl))
   have q:=zeb (f:=3) (n:=4) (g:=zbl) (d0:=d) (d1:=d) rfl ag rfl rfl g1 ok1.flat
   unfold fSet
   rw[q]
   unfold bsOf
   split<;>rfl
  ·have ag:zap (zak 3 (eVar 4)) (zap (zak 3 (eVar 11)) (zap (zak 3 (eVar 5)) (fNil 3))) (e22 W st A1 A2 d s7 s8 s9 s10 (.ac (srtD bs)) s12 s13 s14 s15)=some ([⟨zaa (nm W),false,[]⟩,⟨srtD bs,false,[11]⟩,⟨.str st,false,[]⟩],e22 W st A1 A2 d s7 s8 s9 s10 (.ac (srtD bs)) s12 s13 s14 s15):=
    zib (zbx (f:=3) (d0:=d) rfl rfl) (zib (zjl (f:=3) (d0:=d) rfl rfl (show(3:Nat)∉[11] by decide)) (ziv (f:=3) (d:=d) (zbx (f:=3) (d0:=d) rfl rfl) rfl))
   have q:=zeb (f:=3) (n:=4) (g:=zbl) (d0:=d) (d1:=d) rfl ag rfl rfl g1 ok1.flat
   unfold fSet
   rw[q]
   unfold bsOf
   split<;>rfl
 have ckb:ck 3 (srtD bs):=zakj (by omega) λb hb=>by have:=(hbo b hb).2.2;omega
 obtain⟨fc,gc⟩:=zqa 7 3 (srtD bs) (by omega) ckb
 have k2:fS (sSet 14 (zbj 1 zay (zac (eVar 11) aNil))) (e22 W st A1 A2 d1 s7 s8 s9 s10 (.pl (srtD bs)) s12 (slOf ⟨z,fr,[]⟩) s14 s15)=some (.nx (e22 W st A1 A2 d1 s7 s8 s9 s10 (.pl (srtD bs)) s12 (slOf ⟨z,fr,[]⟩) (slOf ⟨srtD bs,fc,[]⟩) s15)):=
  zmd ((zoz (zdi (n:=1) (rs:=[⟨srtD bs,false,[]⟩]) rfl rfl gc)).trans rfl)
 have hz:Hd z (slOf ⟨z,fr,[]⟩):=zop
 have hs:Hd (srtD bs) (slOf ⟨srtD bs,fc,[]⟩):=zop
 generalize slOf ⟨z,fr,[]⟩=t13 at k1 k2 hz
 generalize slOf ⟨srtD bs,fc,[]⟩=t14 at k2 hs
 obtain⟨b14,e14⟩:=e_hd (i:=14) (env:=e22 W st A1 A2 d1 s7 s8 s9 s10 (.pl (srtD bs)) s12 t13 t14 s15) rfl hs
 obtain⟨f13,c13,e13⟩:=zagn (i:=13) (env:=e22 W st A1 A2 d1 s7 s8 s9 s10 (.pl (srtD bs)) s12 t13 t14 s15) rfl hz (by decide) cz.2
 have k3:fS (sSet 15 (zbj 3 zdx (zac (eVar 6) (zac (eVar 14) (zac (zbj 1 zay (zac (eVar 13) aNil)) aNil))))) (e22 W st A1 A2 d1 s7 s8 s9 s10 (.pl (srtD bs)) s12 t13 t14 s15)=some (.nx (e22 W st A1 A2 d1 s7 s8 s9 s10 (.pl (srtD bs)) s12 t13 t14 (.pl (.bool (decide (tcP W bs z)))))):=
  zxr (zdi (n:=3) (rs:=[⟨webD W,false,[]⟩,⟨srtD bs,false,b14⟩,⟨z,f13,c13⟩]) (zcr rfl (zcr e14 (zoe e13))) rfl (zaiz h (by omega) cz.1))
 obtain⟨b7,e7⟩:=e_hd (i:=7) (env:=e22 W st A1 A2 d1 s7 s8 s9 s10 (.pl (srtD bs)) s12 t13 t14 (.pl (.bool (decide (tcP W bs z))))) rfl h7
 obtain⟨b14',e14'⟩:=e_hd (i:=14) (env:=e22 W st A1 A2 d1 s7 s8 s9 s10 (.pl (srtD bs)) s12 t13 t14 (.pl (.bool (decide (tcP W bs z))))) rfl hs
 obtain⟨b13',e13'⟩:=e_hd (i:=13) (env:=e22 W st A1 A2 d1 s7 s8 s9 s10 (.pl (srtD bs)) s12 t13 t14 (.pl (.bool (decide (tcP W bs z))))) rfl hz
 have lc:=zdi (n:=4) (g:=zca) (rs:=[⟨zaa (nm W),false,[]⟩,⟨.dict (dS zaa (tabW W W)),false,b7⟩,⟨srtD bs,false,[]⟩,⟨z,false,b13'⟩]) (env:=e22 W st A1 A2 d1 s7 s8 s9 s10 (.pl (srtD bs)) s12 t13 t14 (.pl (.bool (decide (tcP W bs z))))) (zcr (a:=eVar 4) rfl (zcr e7 (zcr (a:=eVar 11) rfl (zoe e13')))) rfl (zane h (by omega) cz.1)
 have q1:=ne_b (a:=eVar 15) (b1:=[]) rfl lc
 have q2:=zary (b:=eVar 11) (f2:=false) (b2:=[]) e14' rfl (zth hL)
 refine⟨d1,t13,t14,_,(zan k1).trans ((zan k2).trans ((zan k3).trans ((zpe ?_).trans rfl))),ok1⟩
 unfold tOrF
 rw[q1,q2];rfl
noncomputable def zry(ns:List Int):SFf:=(fSeq (zaif 1 8 ns)
  (fSeq (fFor (zes (zac (eOp addD (eVar 1) (eC (.int 1))) aNil)) (gN 2)
  (fSeq (zaff 3 2 ns)
  (fSeq (fIfP (zas (eOp eqD (eVar 2) (eVar 1))) (fS (sSet 3 (eLst (zac (eC (.int 0)) (zac (eC (.int 0)) (zac (eC (.int 0)) aNil)))))) fNx)
  (fSeq (fSet 4 (zao 3 2 zbv (zap (fOp addD (zak 3 (eC (.int 2))) (zao 3 2 zah (zap (zak 3 (eC (.int 10))) (fNil 3)))) (fNil 3))))
  (fSeq (fS (zafk 5 4))
  (fSeq (fSet 6 (zao 3 2 zgn (zap (zak 3 (eVar 4)) (fNil 3))))
  (fSeq (fS (sSet 7 (zbj 1 zfv (zac (eVar 6) aNil))))
  (fSeq (fSet 8 (zao 3 3 zbk (zap (zak 3 (eVar 4)) (zap (zak 3 (eVar 5)) (fNil 3)))))
  (fSeq (fS (sSet 9 (zbj 1 zay (zac (eVar 8) aNil))))
  (fSeq (fS (sSet 10 (zbj 2 zcs (zac (eVar 6) (zac (eVar 9) aNil)))))
  (fSeq (fIfP (tOrF (zfe (tTru (eIsi "bool" (eVar 10)))) (tOrF (zas (eOp neD (eVar 10) (zbj 2 zdj (zac (eVar 4) (zac (eVar 8) aNil))))) (zas (eOp neJ (eVar 9) (eVar 8))))) (zhv (eC (.bool false))) fNx)
  (fSeq (fSet 11 (zao 3 2 zex (zap (zak 3 (eVar 4)) (fNil 3))))
  (fSeq (fIfP (tOrF (zas (eOp (isCD true) (zbj 2 zcs (zac (eVar 6) (zac (zbj 1 zay (zac (eVar 11) aNil)) aNil))) (eC (.bool true)))) (zas (eOp neD (zbj 2 zcs (zac (eVar 6) (zac (eVar 9) aNil))) (eVar 10)))) (zhv (eC (.bool false))) fNx)
  (fFor (zes (zac (eC (.int 3)) aNil)) (gN 12)
  (fSeq (fSet 13 (zao 3 4 zbl (zap (zak 3 (eVar 4)) (zap (zak 3 (eVar 11)) (zap (zak 3 (eVar 5)) (fNil 3))))))
  (fSeq (fS (sSet 14 (zbj 1 zay (zac (eVar 11) aNil))))
  (fSeq (fS (sSet 15 (zbj 3 zdx (zac (eVar 6) (zac (eVar 14) (zac (zbj 1 zay (zac (eVar 13) aNil)) aNil))))))
  (fIfP (tOrF (zfe (tTru (eIsi "bool" (eVar 15)))) (tOrF (zas (eOp neD (eVar 15) (zbj 4 zca (zac (eVar 4) (zac (eVar 7) (zac (eVar 11) (zac (eVar 13) aNil))))))) (zas (eOp neD (eVar 14) (eVar 11))))) (zhv (eC (.bool false))) fNx))))))))))))))))))
  (zhv (eC (.bool true)))))
theorem zasb{xs:List Str}(h:1<=xs.length):∃(ys:List Str)(a:Str),xs=ys++[a]:=⟨xs.dropLast,xs.getLast (by intro z;rw[z]at h;simp at h),(qCA _).symm⟩
theorem zaqx{A:List Str}{bs:List (List Str)}(h:bs.length<=2)(hb:∀b∈bs,bOk A b):gS A (srtD bs):=⟨bs.map zaa,rfl,by rw[qE];exact h,λd hd=>by
 obtain⟨b,hm,rfl⟩:=qAh.mp hd
 obtain⟨h1,h2,h3⟩:=hb b hm
 exact⟨b.map .str,rfl,by rw[qE];exact h3,b,rfl,h1,h2⟩⟩
theorem zaqy{bs:List (List Str)}(h:bs.length<1000)(hb:∀b∈bs,b.length<1000):Sd (srtD bs):=λds e=>by
 cases e
 refine⟨by rw[qE];omega,λd hd=>?_⟩
 obtain⟨b,hm,rfl⟩:=qAh.mp hd
 intro es e
 cases e
 exact⟨zuz b,by rw[qE];have:=hb b hm;omega⟩
theorem zajg{W:Web}{st:Str}{A1 A2:Sl}{d z:PyData}{s7 s8 s9 s10 s11 s12 s13 s14 s15:Sl}(h8:Hd z s8)(hc:ck 5 z):∃t8 t9:Sl,Hd z t8/\Hd z t9/\fS (sSet 9 (zbj 1 zay (zac (eVar 8) aNil))) (e22 W st A1 A2 d s7 s8 s9 s10 s11 s12 s13 s14 s15)=some (.nx (e22 W st A1 A2 d s7 t8 t9 s10 s11 s12 s13 s14 s15)):=by
 obtain⟨fc,gc⟩:=zqa 7 5 z (by omega) hc
 rcases h8 with rfl|rfl
 ·refine⟨.pl z,slOf ⟨z,fc,[]⟩,.inl rfl,zop,zmd ((zoz (zdi (n:=1) (rs:=[⟨z,false,[]⟩]) rfl rfl gc)).trans ?_)⟩
  unfold bsOf
  split<;>rfl
 ·have q:=zoz (i:=9) (zdi (n:=1) (g:=zay) (f:=zac (eVar 8) aNil) (env:=e22 W st A1 A2 d s7 (.ac z) s9 s10 s11 s12 s13 s14 s15) (rs:=[⟨z,false,[8]⟩]) rfl rfl gc)
  unfold bsOf at q
  by_cases hf:zfn z=true
  ·rw[if_pos hf]at q
   exact⟨.ac z,slOf ⟨z,fc,[]⟩,.inr rfl,zop,zmd (q.trans rfl)⟩
  ·rw[if_neg hf]at q
   exact⟨.pl z,slOf ⟨z,fc,[]⟩,.inl rfl,zop,zmd (q.trans rfl)⟩
open Classical in
theorem zacr(ns:List Int){M k:Nat}(hk:k<=20){s3 s4 s5 s6 s7 s8 s9 s10 s11 s12 s13 s14 s15:Sl}:∃t3 t4 t5 t6 t7 t8 t9 t10 t11 t12 t13 t14 t15:Sl,(fSeq (zaff 3 2 ns)
  (fSeq (fIfP (zas (eOp eqD (eVar 2) (eVar 1))) (fS (sSet 3 (eLst (zac (eC (.int 0)) (zac (eC (.int 0)) (zac (eC (.int 0)) aNil)))))) fNx)
  (fSeq (fSet 4 (zao 3 2 zbv (zap (fOp addD (zak 3 (eC (.int 2))) (zao 3 2 zah (zap (zak 3 (eC (.int 10))) (fNil 3)))) (fNil 3))))
  (fSeq (fS (zafk 5 4))
  (fSeq (fSet 6 (zao 3 2 zgn (zap (zak 3 (eVar 4)) (fNil 3))))
  (fSeq (fS (sSet 7 (zbj 1 zfv (zac (eVar 6) aNil))))
  (fSeq (fSet 8 (zao 3 3 zbk (zap (zak 3 (eVar 4)) (zap (zak 3 (eVar 5)) (fNil 3)))))
  (fSeq (fS (sSet 9 (zbj 1 zay (zac (eVar 8) aNil))))
  (fSeq (fS (sSet 10 (zbj 2 zcs (zac (eVar 6) (zac (eVar 9) aNil)))))
  (fSeq (fIfP (tOrF (zfe (tTru (eIsi "bool" (eVar 10)))) (tOrF (zas (eOp neD (eVar 10) (zbj 2 zdj (zac (eVar 4) (zac (eVar 8) aNil))))) (zas (eOp neJ (eVar 9) (eVar 8))))) (zhv (eC (.bool false))) fNx)
  (fSeq (fSet 11 (zao 3 2 zex (zap (zak 3 (eVar 4)) (fNil 3))))
  (fSeq (fIfP (tOrF (zas (eOp (isCD true) (zbj 2 zcs (zac (eVar 6) (zac (zbj 1 zay (zac (eVar 11) aNil)) aNil))) (eC (.bool true)))) (zas (eOp neD (zbj 2 zcs (zac (eVar 6) (zac (eVar 9) aNil))) (eVar 10)))) (zhv (eC (.bool false))) fNx)
  (fFor (zes (zac (eC (.int 3)) aNil)) (gN 12)
  (fSeq (fSet 13 (zao 3 4 zbl (zap (zak 3 (eVar 4)) (zap (zak 3 (eVar 11)) (zap (zak 3 (eVar 5)) (fNil 3))))))
  (fSeq (fS (sSet 14 (zbj 1 zay (zac (eVar 11) aNil))))
  (fSeq (fS (sSet 15 (zbj 3 zdx (zac (eVar 6) (zac (eVar 14) (zac (zbj 1 zay (zac (eVar 13) aNil)) aNil))))))
  (fIfP (tOrF (zfe (tTru (eIsi "bool" (eVar 15)))) (tOrF (zas (eOp neD (eVar 15) (zbj 4 zca (zac (eVar 4) (zac (eVar 7) (zac (eVar 11) (zac (eVar 13) aNil))))))) (zas (eOp neD (eVar 14) (eVar 11))))) (zhv (eC (.bool false))) fNx))))))))))))))))) [.no,.pl (.int (M:Int)),.pl (.int (k:Int)),s3,s4,s5,s6,s7,s8,s9,s10,s11,s12,s13,s14,s15]=some (.nx [.no,.pl (.int (M:Int)),.pl (.int (k:Int)),t3,t4,t5,t6,t7,t8,t9,t10,t11,t12,t13,t14,t15]):=by
 have h1:(zaff 3 2 ns) [.no,.pl (.int (M:Int)),.pl (.int (k:Int)),s3,s4,s5,s6,s7,s8,s9,s10,s11,s12,s13,s14,s15]=some (.nx [.no,.pl (.int (M:Int)),.pl (.int (k:Int)),.ac (.list (zmt ns k)),s4,s5,s6,s7,s8,s9,s10,s11,s12,s13,s14,s15]):=by
  show(if 0<=(k:Int)/\(k:Int)<=1000 then some (OutF.nx [.no,.pl (.int (M:Int)),.pl (.int (k:Int)),.ac (.list (zmt ns k)),s4,s5,s6,s7,s8,s9,s10,s11,s12,s13,s14,s15])else none)=_
  rw[if_pos ⟨by omega,by omega⟩]
 have h2:∃d0,Fok d0 0/\(fIfP (zas (eOp eqD (eVar 2) (eVar 1))) (fS (sSet 3 (eLst (zac (eC (.int 0)) (zac (eC (.int 0)) (zac (eC (.int 0)) aNil)))))) fNx) [.no,.pl (.int (M:Int)),.pl (.int (k:Int)),.ac (.list (zmt ns k)),s4,s5,s6,s7,s8,s9,s10,s11,s12,s13,s14,s15]=some (.nx [.no,.pl (.int (M:Int)),.pl (.int (k:Int)),.ac d0,s4,s5,s6,s7,s8,s9,s10,s11,s12,s13,s14,s15]):=by
  have t:zas (eOp eqD (eVar 2) (eVar 1)) [.no,.pl (.int (M:Int)),.pl (.int (k:Int)),.ac (.list (zmt ns k)),s4,s5,s6,s7,s8,s9,s10,s11,s12,s13,s14,s15]=some ((k:Int)==M):=zcv (zaby rfl rfl)
  by_cases e:(k:Int)=M
  ·exact⟨.list [.int 0,.int 0,.int 0],⟨0,0,0,rfl,by decide,by decide,by decide,by decide,by decide⟩,(zxs (by rw[t,e,beq_self_eq_true])).trans rfl⟩
  ·exact⟨_,zajf ns k,(zpe (by rw[t,beq_eq_false_iff_ne.mpr e])).trans rfl⟩
 obtain⟨d0,ok0,h2⟩:=h2
 obtain⟨r2,d2,u1,u2,u3,ok2⟩:=zge (f:=3) (e:=eC (.int 10)) (env:=[.no,.pl (.int (M:Int)),.pl (.int (k:Int)),.ac d0,s4,s5,s6,s7,s8,s9,s10,s11,s12,s13,s14,s15]) rfl rfl ok0 (by omega) (by decide) (by decide)
 obtain⟨m,em⟩:∃m:Nat,2+r2=(m:Int):=⟨(2+r2).toNat,by omega⟩
 have a4:=zpd (w:=addD) (z:=.int (2+r2)) (fr:=false) (zbx (f:=3) (e:=eC (.int 2)) (env:=[.no,.pl (.int (M:Int)),.pl (.int (k:Int)),.ac d0,s4,s5,s6,s7,s8,s9,s10,s11,s12,s13,s14,s15]) (d0:=d0) (d:=.int 2) (fr:=false) rfl rfl) u1 rfl
 rw[em]at a4
 obtain⟨xs,d3,n1,n2,n3,n4,ok3⟩:=zux (m:=m) ok2 (by omega) (by omega)
 obtain⟨ys,st,rfl⟩:=zasb (xs:=xs) (by omega)
 have h4:(fSet 4 (zao 3 2 zbv (zap (fOp addD (zak 3 (eC (.int 2))) (zao 3 2 zah (zap (zak 3 (eC (.int 10))) (fNil 3)))) (fNil 3)))) [.no,.pl (.int (M:Int)),.pl (.int (k:Int)),.ac d0,s4,s5,s6,s7,s8,s9,s10,s11,s12,s13,s14,s15]=some (.nx [.no,.pl (.int (M:Int)),.pl (.int (k:Int)),.ac d3,.ac (zaa (ys++[st])),s5,s6,s7,s8,s9,s10,s11,s12,s13,s14,s15]):=
  zafy (zeb (f:=3) (n:=2) (g:=zbv) (d0:=d0) (d1:=d2) rfl (ziv (f:=3) (d:=d2) a4 rfl) rfl rfl n1 ok3.flat)
 have ly:ys.length+1=m:=by rw[qR]at n2;simpa using n2
 have ndy:ys.Nodup:=(qBU.mp n3).1
 have loy:∀x∈ys,Low x:=λx hx=>(n4 x (qy _ hx)).1
 have h5:(fS (zafk 5 4)) [.no,.pl (.int (M:Int)),.pl (.int (k:Int)),.ac d3,.ac (zaa (ys++[st])),s5,s6,s7,s8,s9,s10,s11,s12,s13,s14,s15]=some (.nx [.no,.pl (.int (M:Int)),.pl (.int (k:Int)),.ac d3,.ac (zaa ys),.pl (.str st),s6,s7,s8,s9,s10,s11,s12,s13,s14,s15]):=by
  refine zmd ?_
  have g1:((ys++[st]).map PyData.str).getLast?=some (.str st):=by simp
  have g2:((ys++[st]).map PyData.str).dropLast=ys.map PyData.str:=by rw[<- List.map_dropLast,List.dropLast_concat]
  show((((ys++[st]).map PyData.str).getLast?).bind λa=>if zfn a=true then some (Out.nx [.no,.pl (.int (M:Int)),.pl (.int (k:Int)),.ac d3,.ac (.list ((ys++[st]).map PyData.str).dropLast),.pl a,s6,s7,s8,s9,s10,s11,s12,s13,s14,s15])else none)=_
  rw[g1,g2]
  rfl
 obtain⟨W,d4,w1,w2,w3,ok4⟩:=zacl (xs:=ys) ok3 (by omega) (by omega) ndy loy
 subst w2
 have h6:(fSet 6 (zao 3 2 zgn (zap (zak 3 (eVar 4)) (fNil 3)))) [.no,.pl (.int (M:Int)),.pl (.int (k:Int)),.ac d3,.ac (zaa (nm W)),.pl (.str st),s6,s7,s8,s9,s10,s11,s12,s13,s14,s15]=some (.nx [.no,.pl (.int (M:Int)),.pl (.int (k:Int)),.ac d4,.pl (zaa (nm W)),.pl (.str st),.ac (webD W),s7,s8,s9,s10,s11,s12,s13,s14,s15]):=by
  have a5:=zeb (f:=3) (n:=2) (g:=zgn) (d0:=d3) (d1:=d3) rfl (ziv (f:=3) (d:=d3) (zjl (f:=3) (e:=eVar 4) (env:=[.no,.pl (.int (M:Int)),.pl (.int (k:Int)),.ac d3,.ac (zaa (nm W)),.pl (.str st),s6,s7,s8,s9,s10,s11,s12,s13,s14,s15]) (d0:=d3) (r:=⟨zaa (nm W),false,[4]⟩) rfl rfl (show(3:Nat)∉[4] by decide)) rfl) rfl rfl w1 ok4.flat
  unfold fSet
  rw[a5];rfl
 have h7:(fS (sSet 7 (zbj 1 zfv (zac (eVar 6) aNil)))) [.no,.pl (.int (M:Int)),.pl (.int (k:Int)),.ac d4,.pl (zaa (nm W)),.pl (.str st),.ac (webD W),s7,s8,s9,s10,s11,s12,s13,s14,s15]=some (.nx (e22 W st (.pl (.int (M:Int))) (.pl (.int (k:Int))) d4 (.ac (.dict (dS zaa (tabW W W)))) s8 s9 s10 s11 s12 s13 s14 s15)):=
  zmd ((zoz (zdi (n:=1) (rs:=[⟨webD W,false,[6]⟩]) rfl rfl (zzu w3))).trans rfl)
 have hne:0<(nm W).length:=by omega
 have hW:(nm W).length<=12:=by omega
 have hW':W.length<1000:=by have:W.length<=12:=w3.len;omega
 have h7d:Hd (.dict (dS zaa (tabW W W))) (.ac (.dict (dS zaa (tabW W W)))):=.inr rfl
 generalize (Sl.ac (.dict (dS zaa (tabW W W))))=s7' at h7 h7d
 generalize (Sl.pl (.int (M:Int)))=A1 at h1 h2 h4 h5 h6 h7 ⊢
 generalize (Sl.pl (.int (k:Int)))=A2 at h1 h2 h4 h5 h6 h7 ⊢
 obtain⟨z,fr,d5,g1,tz,ok5⟩:=zvf hne (by omega) (st:=st) ok4 (by omega)
 obtain⟨j5,c5,sz⟩:=tz.jk
 have h8:fSet 8 (zao 3 3 zbk (zap (zak 3 (eVar 4)) (zap (zak 3 (eVar 5)) (fNil 3)))) (e22 W st A1 A2 d4 s7' s8 s9 s10 s11 s12 s13 s14 s15)=some (.nx (e22 W st A1 A2 d5 s7' (slOf ⟨z,fr,[]⟩) s9 s10 s11 s12 s13 s14 s15)):=by
  have ag:zap (zak 3 (eVar 4)) (zap (zak 3 (eVar 5)) (fNil 3)) (e22 W st A1 A2 d4 s7' s8 s9 s10 s11 s12 s13 s14 s15)=some ([⟨zaa (nm W),false,[]⟩,⟨.str st,false,[]⟩],e22 W st A1 A2 d4 s7' s8 s9 s10 s11 s12 s13 s14 s15):=zib (zbx (f:=3) (d0:=d4) rfl rfl) (ziv (f:=3) (d:=d4) (zbx (f:=3) (d0:=d4) rfl rfl) rfl)
  have q:=zeb (f:=3) (n:=3) (g:=zbk) (d0:=d4) (d1:=d4) rfl ag rfl rfl g1 ok5.flat
  unfold fSet
  rw[q]
  unfold bsOf
  split<;>rfl
 have hz8:Hd z (slOf ⟨z,fr,[]⟩):=zop
 generalize slOf ⟨z,fr,[]⟩=s8' at h8 hz8
 obtain⟨t8,t9,hd8,hd9,h9⟩:=zajg (W:=W) (st:=st) (A1:=A1) (A2:=A2) (d:=d5) (s7:=s7') (s9:=s9) (s10:=s10) (s11:=s11) (s12:=s12) (s13:=s13) (s14:=s14) (s15:=s15) hz8 c5
 have srt:∀(s10 s11:Sl)(d:PyData),∃bs,zbj 2 zcs (zac (eVar 6) (zac (eVar 9) aNil)) (e22 W st A1 A2 d s7' t8 t9 s10 s11 s12 s13 s14 s15)=some ⟨.bool (decide (gS (nm W) z)),false,bs⟩/\bs=[]:=λs10 s11 d=>by
  obtain⟨b9,e9⟩:=e_hd (i:=9) (env:=e22 W st A1 A2 d s7' t8 t9 s10 s11 s12 s13 s14 s15) rfl hd9
  exact⟨_,zdi (n:=2) (rs:=[⟨webD W,false,[]⟩,⟨z,false,b9⟩]) (zcr rfl (zoe e9)) rfl (zakf hW' sz),rfl⟩
 obtain⟨_,q10,rfl⟩:=srt s10 s11 d5
 have h10:=zxr (i:=10) q10
 have h11:fIfP (tOrF (zfe (tTru (eIsi "bool" (eVar 10)))) (tOrF (zas (eOp neD (eVar 10) (zbj 2 zdj (zac (eVar 4) (zac (eVar 8) aNil))))) (zas (eOp neJ (eVar 9) (eVar 8))))) (zhv (eC (.bool false))) fNx (e22 W st A1 A2 d5 s7' t8 t9 (.pl (.bool (decide (gS (nm W) z)))) s11 s12 s13 s14 s15)=some (.nx (e22 W st A1 A2 d5 s7' t8 t9 (.pl (.bool (decide (gS (nm W) z)))) s11 s12 s13 s14 s15)):=by
  obtain⟨b8,e8⟩:=e_hd (i:=8) (env:=e22 W st A1 A2 d5 s7' t8 t9 (.pl (.bool (decide (gS (nm W) z)))) s11 s12 s13 s14 s15) rfl hd8
  obtain⟨b9,e9⟩:=e_hd (i:=9) (env:=e22 W st A1 A2 d5 s7' t8 t9 (.pl (.bool (decide (gS (nm W) z)))) s11 s12 s13 s14 s15) rfl hd9
  have lc:=zdi (n:=2) (g:=zdj) (rs:=[⟨zaa (nm W),false,[]⟩,⟨z,false,b8⟩]) (env:=e22 W st A1 A2 d5 s7' t8 t9 (.pl (.bool (decide (gS (nm W) z)))) s11 s12 s13 s14 s15) (zcr (a:=eVar 4) rfl (zoe e8)) rfl (zanc sz)
  have q1:=ne_b (a:=eVar 10) (b1:=[]) rfl lc
  have q2:zas (eOp neJ (eVar 9) (eVar 8)) (e22 W st A1 A2 d5 s7' t8 t9 (.pl (.bool (decide (gS (nm W) z)))) s11 s12 s13 s14 s15)=some false:=zcv (zia e9 e8 tz.ne)
  refine(zpe ?_).trans rfl
  unfold tOrF
  rw[q1,q2];rfl
 obtain⟨bs,d6,g6,hbl,hbo,ok6⟩:=zxz hne (by omega) ok5 (by omega)
 have h12:fSet 11 (zao 3 2 zex (zap (zak 3 (eVar 4)) (fNil 3))) (e22 W st A1 A2 d5 s7' t8 t9 (.pl (.bool (decide (gS (nm W) z)))) s11 s12 s13 s14 s15)=some (.nx (e22 W st A1 A2 d6 s7' t8 t9 (.pl (.bool (decide (gS (nm W) z)))) (.ac (srtD bs)) s12 s13 s14 s15)):=
  zafy (zeb (f:=3) (n:=2) (g:=zex) (d0:=d5) (d1:=d5) rfl (ziv (f:=3) (d:=d5) (zbx (f:=3) (e:=eVar 4) (d0:=d5) (d:=zaa (nm W)) (fr:=false) rfl rfl) rfl) rfl rfl g6 ok6.flat)
 have h13:fIfP (tOrF (zas (eOp (isCD true) (zbj 2 zcs (zac (eVar 6) (zac (zbj 1 zay (zac (eVar 11) aNil)) aNil))) (eC (.bool true)))) (zas (eOp neD (zbj 2 zcs (zac (eVar 6) (zac (eVar 9) aNil))) (eVar 10)))) (zhv (eC (.bool false))) fNx (e22 W st A1 A2 d6 s7' t8 t9 (.pl (.bool (decide (gS (nm W) z)))) (.ac (srtD bs)) s12 s13 s14 s15)=some (.nx (e22 W st A1 A2 d6 s7' t8 t9 (.pl (.bool (decide (gS (nm W) z)))) (.ac (srtD bs)) s12 s13 s14 s15)):=by
  have lt:∀b∈bs,b.length<1000:=λb hb=>by have:=(hbo b hb).2.2;omega
  obtain⟨fc,bc,ec⟩:=zagn (i:=11) (env:=e22 W st A1 A2 d6 s7' t8 t9 (.pl (.bool (decide (gS (nm W) z)))) (.ac (srtD bs)) s12 s13 s14 s15) rfl (.inr rfl) (m:=3) (by decide) (zakj (by omega) lt)
  have c1:=zdi (n:=2) (g:=zcs) (f:=zac (eVar 6) (zac (zbj 1 zay (zac (eVar 11) aNil)) aNil)) (env:=e22 W st A1 A2 d6 s7' t8 t9 (.pl (.bool (decide (gS (nm W) z)))) (.ac (srtD bs)) s12 s13 s14 s15) (rs:=[⟨webD W,false,[]⟩,⟨srtD bs,fc,bc⟩]) (zcr rfl (zoe ec)) rfl (zakf hW' (zaqy (by omega) lt))
  rw[decide_eq_true (zaqx hbl hbo)]at c1
  have q1:zas (eOp (isCD true) (zbj 2 zcs (zac (eVar 6) (zac (zbj 1 zay (zac (eVar 11) aNil)) aNil))) (eC (.bool true))) (e22 W st A1 A2 d6 s7' t8 t9 (.pl (.bool (decide (gS (nm W) z)))) (.ac (srtD bs)) s12 s13 s14 s15)=some false:=zcv (zia (z:=.bool false) (fr:=false) c1 (y:=⟨.bool true,false,[]⟩) rfl rfl)
  obtain⟨_,q10',rfl⟩:=srt (.pl (.bool (decide (gS (nm W) z)))) (.ac (srtD bs)) d6
  have q2:=ne_b (b:=eVar 10) (b2:=[]) q10' rfl
  refine(zpe ?_).trans rfl
  unfold tOrF
  rw[q1,q2];rfl
 have loop:=zcm (g:=gN 12) (n:=3) (body:=zaqw) (env:=e22 W st A1 A2 d6 s7' t8 t9 (.pl (.bool (decide (gS (nm W) z)))) (.ac (srtD bs)) s12 s13 s14 s15)
  (λj env=>∃(d':PyData) (u11 u12 u13 u14 u15:Sl),env=e22 W st A1 A2 d' s7' t8 t9 (.pl (.bool (decide (gS (nm W) z)))) u11 u12 u13 u14 u15/\Hd (srtD bs) u11/\Fok d' (10000+100 * j)) ⟨d6,_,_,_,_,_,rfl,.inr rfl,ok6.mono (by omega)⟩ (by
   rintro j env hj ⟨d',u11,u12,u13,u14,u15,rfl,hd,ok'⟩
   obtain⟨d7,v13,v14,v15,q1,q2⟩:=zacq w3 loy hne (st:=st) hbl hbo ok' (by omega) (A1:=A1) (A2:=A2) (s7:=s7') (s8:=t8) (s9:=t9) (s10:=.pl (.bool (decide (gS (nm W) z)))) (s11:=u11) (s12:=.pl (.int (j:Int))) (s13:=u13) (s14:=u14) (s15:=u15) h7d hd
   exact⟨_,_,rfl,q1,d7,_,_,_,_,_,rfl,.inl rfl,q2.mono (by omega)⟩)
 obtain⟨env',hl,d',u11,u12,u13,u14,u15,rfl,_,_⟩:=loop
 exact⟨_,_,_,_,_,_,_,_,_,_,_,_,_,(zan h1).trans ((zan h2).trans ((zan h4).trans ((zan h5).trans ((zan h6).trans ((zan h7).trans ((zan h8).trans ((zan h9).trans ((zan h10).trans ((zan h11).trans ((zan h12).trans ((zan h13).trans ((zru (zlh (n:=3) rfl (by decide))).trans hl))))))))))))⟩
theorem zajh(ns:List Int):∃env',zry ns (List.replicate 16 .no)=some (.rt (.bool true) false env'):=by
 obtain⟨M,eM,hM⟩:∃M:Nat,(if(ns.length:Int)<8 then(ns.length:Int)else 8)=(M:Int)/\M<=8:=by
  by_cases h:(ns.length:Int)<8
  ·exact⟨ns.length,if_pos h,by omega⟩
  ·exact⟨8,if_neg h,by omega⟩
 have h1:zaif 1 8 ns (List.replicate 16 .no)=some (.nx [.no,.pl (.int (M:Int)),.no,.no,.no,.no,.no,.no,.no,.no,.no,.no,.no,.no,.no,.no]):=by
  unfold zaif
  rw[eM];rfl
 have it:zes (zac (eOp addD (eVar 1) (eC (.int 1))) aNil) [.no,.pl (.int (M:Int)),.no,.no,.no,.no,.no,.no,.no,.no,.no,.no,.no,.no,.no,.no]=some (zeo 0 (M+1),[]):=zlh ((zph (i:=(M:Int)) (j:=1) rfl rfl).trans (by rw[Int.natCast_add];rfl)) (by omega)
 have loop:=zcm (g:=gN 2) (n:=M+1) (body:=_) (env:=[.no,.pl (.int (M:Int)),.no,.no,.no,.no,.no,.no,.no,.no,.no,.no,.no,.no,.no,.no])
  (λk env=>∃s2 s3 s4 s5 s6 s7 s8 s9 s10 s11 s12 s13 s14 s15:Sl,env=[.no,.pl (.int (M:Int)),s2,s3,s4,s5,s6,s7,s8,s9,s10,s11,s12,s13,s14,s15]) ⟨_,_,_,_,_,_,_,_,_,_,_,_,_,_,rfl⟩ (by
   rintro k env hk ⟨s2,s3,s4,s5,s6,s7,s8,s9,s10,s11,s12,s13,s14,s15,rfl⟩
   obtain⟨t3,t4,t5,t6,t7,t8,t9,t10,t11,t12,t13,t14,t15,e⟩:=zacr ns (M:=M) (k:=k) (by omega) (s3:=s3) (s4:=s4) (s5:=s5) (s6:=s6) (s7:=s7) (s8:=s8) (s9:=s9) (s10:=s10) (s11:=s11) (s12:=s12) (s13:=s13) (s14:=s14) (s15:=s15)
   exact⟨_,_,rfl,e,_,_,_,_,_,_,_,_,_,_,_,_,_,_,rfl⟩)
 obtain⟨env',hl,s2,s3,s4,s5,s6,s7,s8,s9,s10,s11,s12,s13,s14,s15,rfl⟩:=loop
 refine⟨[.no,.pl (.int (M:Int)),s2,s3,s4,s5,s6,s7,s8,s9,s10,s11,s12,s13,s14,s15],?_⟩
 unfold zry
 exact(zan h1).trans ((zan ((zru it).trans hl)).trans rfl)
section
variable{P:Program}{w:World}{K:qC}{mg:Str->Option Value}{base:Heap}
noncomputable def zaji(K:qC):Sp:=λvs H Q _=>∃(a:Addr)(ns:List Int),vs=[.ref a]/\SqL K H a (ns.map V.int)/\∀H',Q (.bl true) H'
theorem zaqz{f:Addr}{fd:qAA}(F:Fun K "law" "law" zut f fd)(T:Txt mg)(D_law_above:zrr P w K mg base)(D_law_copy:ztf P w K mg base)(D_law_feed:ztd P w K mg base)(D_law_is_sort:znj P w K mg base)(D_law_is_to_come:zjv P w K mg base)(D_law_may_be_sort:ziu P w K mg base)(D_law_may_come:zly P w K mg base)(D_law_names:zrq P w K mg base)(D_law_sort:zte P w K mg base)(D_law_take:zeh P w K mg base)(D_law_web:zxm P w K mg base)(D_is_sort:zxl P w K mg base)(D_is_to_come:zpc P w K mg base):FnOk P w K mg base CX0 9 f fd ["_law_script"] (zaji K):=by
 refine F.ok zaqk (λvs H Q E h=>?_) (λcdv A outer s H vs Q E hr h=>?_)
 ·obtain⟨a,ns,rfl,_⟩:=h
  rfl
 ·obtain⟨a,ns,rfl,hS,k⟩:=h
  have hu:=zhm hr
  apply Exists.intro
  apply And.intro
  ·refine' Bx.out (zaf (zeu (i:=1) zgo rfl (Or.inl rfl) (zil (zvh rfl) (by rfl) T.min zaaz (zam zai (zam (zil (zce (K:=K) rfl) (by rfl) T.len zdk (zam (bv 0) zae (by rfl)) (by decide) (by decide) (zav (by rfl)) (by rfl)) zae (by rfl)) (by rfl)) (by decide) (by decide) (zav (by rfl)) (by rfl)) (by rfl) (.inl rfl))
 (zaf (zdg qo rfl (zco rfl T.range (zam (zbo (zcq (K:=K) rfl) (bv 1) zai) zae (by rfl)) (by rfl)) (zpu (i:=2) zgo rfl (Or.inl rfl) (.inl rfl))
  (zaf (zeu (i:=3) zgo rfl (Or.inl rfl) (zew D_law_feed (hr.mono (by decide)) (by rfl) (zam (bv 0) (zam (bv 2) zae (by rfl)) (by rfl)) (by decide) (zav (by rfl)) (by rfl)) (by rfl) (.inl rfl))
 (zaf (zch (zax (zhy (K:=K) rfl hr.units) (bv 2) (bv 1) (zbt _)) (zal (zeu (i:=3) zgo rfl (Or.inl rfl) (zct (zam zai (zam zai (zam zai zae (by rfl)) (by rfl)) (by rfl))) (by rfl) (.inl rfl))) zbd)
 (zaf (zeu (i:=4) zgo rfl (Or.inl rfl) (zew D_law_names (hr.mono (by decide)) (by rfl) (zam (bv 3) (zam (zbo (zcq (K:=K) rfl) zai (zew D_law_take (hr.mono (by decide)) (by rfl) (zam (bv 3) (zam zai zae (by rfl)) (by rfl)) (by decide) (zav (by rfl)) (by rfl))) zae (by rfl)) (by rfl)) (by decide) (zav (by rfl)) (by rfl)) (by rfl) (.inl rfl))
 (zaf (zeu (i:=5) zgo rfl (Or.inl rfl) (zaie (K:=K) rfl qm PySem.F.slot_list_pop PySem.F.type_list_pop zaov (bv 4) (by rfl) (by rfl)) (by rfl) (.inl rfl))
 (zaf (zeu (i:=6) zgo rfl (Or.inl rfl) (zew D_law_web (hr.mono (by decide)) (by rfl) (zam (bv 3) (zam (bv 4) zae (by rfl)) (by rfl)) (by decide) (zav (by rfl)) (by rfl)) (by rfl) (.inl rfl))
 (zaf (zeu (i:=7) zgo rfl (Or.inl rfl) (zew D_law_above (hr.mono (by decide)) (by rfl) (zam (bv 6) zae (by rfl)) (by decide) (zav (by rfl)) (by rfl)) (by rfl) (.inl rfl))
 (zaf (zeu (i:=8) zgo rfl (Or.inl rfl) (zew D_law_may_be_sort (hr.mono (by decide)) (by rfl) (zam (bv 3) (zam (bv 4) (zam (bv 5) zae (by rfl)) (by rfl)) (by rfl)) (by decide) (zav (by rfl)) (by rfl)) (by rfl) (.inl rfl))
 (zaf (zeu (i:=9) zgo rfl (Or.inl rfl) (zew D_law_copy (hr.mono (by decide)) (by rfl) (zam (bv 8) zae (by rfl)) (by decide) (zav (by rfl)) (by rfl)) (by rfl) (.inl rfl))
 (zaf (zeu (i:=10) zgo rfl (Or.inl rfl) (zew D_is_sort (hr.mono (by decide)) (by rfl) (zam (bv 6) (zam (bv 9) zae (by rfl)) (by rfl)) (by decide) (zav (by rfl)) (by rfl)) (by rfl) (.inl rfl))
 (zaf (zch (zgu (zig (zcy (K:=K) rfl (zil (zds (K:=K) rfl) (by rfl) T.isinstance zbg (zam (bv 10) (zam (zfi (v:=.ty "bool") (by rfl) T.bool zxb rfl (by decide) (by decide)) zae (by rfl)) (by rfl)) (by decide) (by decide) (zav (by rfl)) (by rfl)) (λ_=>rfl))) (zgu (zax (zqp (K:=K) rfl hr.units) (bv 10) (zew D_law_is_sort (hr.mono (by decide)) (by rfl) (zam (bv 4) (zam (bv 8) zae (by rfl)) (by rfl)) (by decide) (zav (by rfl)) (by rfl)) (zbt _)) (zgs (zax (zajr hr.units) (bv 9) (bv 8) (zbt _))))).pt (zal (zbc zfg)) zbd)
 (zaf (zeu (i:=11) zgo rfl (Or.inl rfl) (zew D_law_sort (hr.mono (by decide)) (by rfl) (zam (bv 3) (zam (bv 4) zae (by rfl)) (by rfl)) (by decide) (zav (by rfl)) (by rfl)) (by rfl) (.inl rfl))
 (zaf (zch (zgu (zax zaes (zew D_is_sort (hr.mono (by decide)) (by rfl) (zam (bv 6) (zam (zew D_law_copy (hr.mono (by decide)) (by rfl) (zam (bv 11) zae (by rfl)) (by decide) (zav (by rfl)) (by rfl)) zae (by rfl)) (by rfl)) (by decide) (zav (by rfl)) (by rfl)) zfg (zbt _)) (zgs (zax (zqp (K:=K) rfl hr.units) (zew D_is_sort (hr.mono (by decide)) (by rfl) (zam (bv 6) (zam (bv 9) zae (by rfl)) (by rfl)) (by decide) (zav (by rfl)) (by rfl)) (bv 10) (zbt _)))).pt (zal (zbc zfg)) zbd)
 (zal (zdg qo rfl (zco rfl T.range (zam zai zae (by rfl)) (by rfl)) (zpu (i:=12) zgo rfl (Or.inl rfl) (.inl rfl))
  (zaf (zeu (i:=13) zgo rfl (Or.inl rfl) (zew D_law_may_come (hr.mono (by decide)) (by rfl) (zam (bv 3) (zam (bv 4) (zam (bv 11) (zam (bv 5) zae (by rfl)) (by rfl)) (by rfl)) (by rfl)) (by decide) (zav (by rfl)) (by rfl)) (by rfl) (.inl rfl))
 (zaf (zeu (i:=14) zgo rfl (Or.inl rfl) (zew D_law_copy (hr.mono (by decide)) (by rfl) (zam (bv 11) zae (by rfl)) (by decide) (zav (by rfl)) (by rfl)) (by rfl) (.inl rfl))
 (zaf (zeu (i:=15) zgo rfl (Or.inl rfl) (zew D_is_to_come (hr.mono (by decide)) (by rfl) (zam (bv 6) (zam (bv 14) (zam (zew D_law_copy (hr.mono (by decide)) (by rfl) (zam (bv 13) zae (by rfl)) (by decide) (zav (by rfl)) (by rfl)) zae (by rfl)) (by rfl)) (by rfl)) (by decide) (zav (by rfl)) (by rfl)) (by rfl) (.inl rfl))
 (zal (zch (zgu (zig (zcy (K:=K) rfl (zil (zds (K:=K) rfl) (by rfl) T.isinstance zbg (zam (bv 15) (zam (zfi (v:=.ty "bool") (by rfl) T.bool zxb rfl (by decide) (by decide)) zae (by rfl)) (by rfl)) (by decide) (by decide) (zav (by rfl)) (by rfl)) (λ_=>rfl))) (zgu (zax (zqp (K:=K) rfl hr.units) (bv 15) (zew D_law_is_to_come (hr.mono (by decide)) (by rfl) (zam (bv 4) (zam (bv 7) (zam (bv 11) (zam (bv 13) zae (by rfl)) (by rfl)) (by rfl)) (by rfl)) (by decide) (zav (by rfl)) (by rfl)) (zbt _)) (zgs (zax (zqp (K:=K) rfl hr.units) (bv 14) (bv 11) (zbt _))))).pt (zal (zbc zfg)) zbd))))) (by intro _;rfl))))))))))))))) (by intro _;rfl))
 (zal (zbc zfg))))
  exact zaij (F:=zry ns) (n:=15) ((zdo rfl (zaig (by decide)) (zdo rfl (zamm rfl (zik (zag (zbe zgj (zad 1) (se_c λ_=>zab)) zaw)) (zfj (by decide)) (zdo rfl (zaih (by decide)) (zdo rfl (zgl (zjg (st_t (zbe zmh (zad 2) (zad 1))) (zci (zbq (zem (zag (se_c λ_=>zab) (zag (se_c λ_=>zab) (zag (se_c λ_=>zab) zaw)))) (by decide))) zdh)) (zdo rfl (zgl (zcu (zat (zaq (zdv zgj (zaj (se_c λ_=>zab)) (zat (zaq (zaj (se_c λ_=>zab)) zba))) zba)) (by decide))) (zdo rfl (zgl (zci (zaik (by decide)))) (zdo rfl (zgl (zcu (zat (zaq (zaj (zad 4)) zba)) (by decide))) (zdo rfl (zgl (zci (zbq (zcx (zag (zad 6) zaw)) (by decide)))) (zdo rfl (zgl (zcu (zat (zaq (zaj (zad 4)) (zaq (zaj (zad 5)) zba))) (by decide))) (zdo rfl (zgl (zci (zbq (zcx (zag (zad 8) zaw)) (by decide)))) (zdo rfl (zgl (zci (zbq (zcx (zag (zad 6) (zag (zad 9) zaw))) (by decide)))) (zdo rfl (zgl (zjg (zmj (zlo (zjz (zkb (zad 10) zaaf))) (zmj (st_t (zbe zym (zad 10) (zcx (zag (zad 4) (zag (zad 8) zaw))))) (st_t (zbe zajs (zad 9) (zad 8))))) (zje (se_c λ_=>zau)) zdh)) (zdo rfl (zgl (zcu (zat (zaq (zaj (zad 4)) zba)) (by decide))) (zdo rfl (zgl (zjg (zmj (st_t (zbe zart (zcx (zag (zad 6) (zag (zcx (zag (zad 11) zaw)) zaw))) (se_c λ_=>zau))) (st_t (zbe zym (zcx (zag (zad 6) (zag (zad 9) zaw))) (zad 10)))) (zje (se_c λ_=>zau)) zdh)) (zgl (zuc (zik (zag (se_c λ_=>zab) zaw)) (zfj (by decide)) (zaz (zcu (zat (zaq (zaj (zad 4)) (zaq (zaj (zad 11)) (zaq (zaj (zad 5)) zba)))) (by decide)) (zaz (zci (zbq (zcx (zag (zad 11) zaw)) (by decide))) (zaz (zci (zbq (zcx (zag (zad 6) (zag (zad 14) (zag (zcx (zag (zad 13) zaw)) zaw)))) (by decide))) (zjg (zmj (zlo (zjz (zkb (zad 15) zaaf))) (zmj (st_t (zbe zym (zad 15) (zcx (zag (zad 4) (zag (zad 7) (zag (zad 11) (zag (zad 13) zaw))))))) (st_t (zbe zym (zad 14) (zad 11))))) (zje (se_c λ_=>zau)) zdh))))))))))))))))))) (zgl (zje (se_c λ_=>zau)))))) hS (zajh ns) k
end
theorem us_s{us:List Value}{n:Nat}(h:us.length=n+1):∃a t,us=a::t/\t.length=n:=by
 cases us with
 | nil=>cases h
 | cons a t=>exact⟨a,t,rfl,Nat.succ.inj h⟩
theorem us_1{us:List Value}(h:us.length=1):∃a0,us=[a0]:=by
 obtain⟨a,t,rfl,h2⟩:=us_s h
 cases qA3.mp h2
 exact⟨a,rfl⟩
theorem us_2{us:List Value}(h:us.length=2):∃a0 a1,us=[a0,a1]:=by
 obtain⟨a0,t,rfl,h2⟩:=us_s h
 obtain⟨a1,rfl⟩:=us_1 h2
 exact⟨a0,a1,rfl⟩
theorem us_3{us:List Value}(h:us.length=3):∃a0 a1 a2,us=[a0,a1,a2]:=by
 obtain⟨a0,t,rfl,h2⟩:=us_s h
 obtain⟨a1,a2,rfl⟩:=us_2 h2
 exact⟨a0,a1,a2,rfl⟩
theorem us_4{us:List Value}(h:us.length=4):∃a0 a1 a2 a3,us=[a0,a1,a2,a3]:=by
 obtain⟨a0,t,rfl,h2⟩:=us_s h
 obtain⟨a1,a2,a3,rfl⟩:=us_3 h2
 exact⟨a0,a1,a2,a3,rfl⟩
theorem all_mk{l:PySem.W.OpenLaw}{w:World}{K:qC}{h:Heap}{mg:Str->Option Value}{fa f1 f2 f3 f4 f5 f6 f7 f8 f9 f10 f11 f12 f13 f14 f15 f16 f17 f18 f19 f20 f21 f22 f23:Addr}(X:K.In h)(G:h.Ns qU mg)(hfa:mg "law"=some (.ref fa))
  {od1 an1 od2 an2 od3 an3 od4 an4 od5 an5 od6 an6 od7 an7 od8 an8 od9 an9 od10 an10 od11 an11 od12 an12 od13 an13 od14 an14 od15 an15 od16 an16 od17 an17 od18 an18 od19 an19 od20 an20 od21 an21 od22 an22 od23 an23:Option Addr}{sl1 sl2 sl3 sl4 sl5 sl6 sl7 sl8 sl9 sl10 sl11 sl12 sl13 sl14 sl15 sl16 sl17 sl18 sl19 sl20 sl21 sl22 sl23:Array (Option Value)}{oc1 kV1 dc1 pm1 cd1 ct1 oc2 kV2 dc2 pm2 cd2 ct2 oc3 kV3 dc3 pm3 cd3 ct3 oc4 kV4 dc4 pm4 cd4 ct4 oc5 kV5 dc5 pm5 cd5 ct5 oc6 kV6 dc6 pm6 cd6 ct6 oc7 kV7 dc7 pm7 cd7 ct7 oc8 kV8 dc8 pm8 cd8 ct8 oc9 kV9 dc9 pm9 cd9 ct9 oc10 kV10 dc10 pm10 cd10 ct10 oc11 kV11 dc11 pm11 cd11 ct11 oc12 kV12 dc12 pm12 cd12 ct12 oc13 kV13 dc13 pm13 cd13 ct13 oc14 kV14 dc14 pm14 cd14 ct14 oc15 kV15 dc15 pm15 cd15 ct15 oc16 kV16 dc16 pm16 cd16 ct16 oc17 kV17 dc17 pm17 cd17 ct17 oc18 kV18 dc18 pm18 cd18 ct18 oc19 kV19 dc19 pm19 cd19 ct19 oc20 kV20 dc20 pm20 cd20 ct20 oc21 kV21 dc21 pm21 cd21 ct21 oc22 kV22 dc22 pm22 cd22 ct22 oc23 kV23 dc23 pm23 cd23 ct23:Value}
  (a1:qW K qU "are_unlike_of"=some (some (.ref f1)))(l1:K.lookup f1=some ⟨oc1,od1,.func (qi "are_unlike_of" "are_unlike_of" (zbp zda) (zbm zda) (zar zda) .none kV1 dc1 pm1 an1 cd1 ct1),sl1⟩)(c1:qf K cd1 "are_unlike_of"=true)(k1:qc K (.ref f1)=true)
  (a2:qW K qU "names_of"=some (some (.ref f2)))(l2:K.lookup f2=some ⟨oc2,od2,.func (qi "names_of" "names_of" (zbp zhe) (zbm zhe) (zar zhe) .none kV2 dc2 pm2 an2 cd2 ct2),sl2⟩)(c2:qf K cd2 "names_of"=true)(k2:qc K (.ref f2)=true)
  (a3:qW K qU "roofs_of"=some (some (.ref f3)))(l3:K.lookup f3=some ⟨oc3,od3,.func (qi "roofs_of" "roofs_of" (zbp zhf) (zbm zhf) (zar zhf) .none kV3 dc3 pm3 an3 cd3 ct3),sl3⟩)(c3:qf K cd3 "roofs_of"=true)(k3:qc K (.ref f3)=true)
  (a4:qW K qU "is_bundle"=some (some (.ref f4)))(l4:K.lookup f4=some ⟨oc4,od4,.func (qi "is_bundle" "is_bundle" (zbp zfy) (zbm zfy) (zar zfy) .none kV4 dc4 pm4 an4 cd4 ct4),sl4⟩)(c4:qf K cd4 "is_bundle"=true)(k4:qc K (.ref f4)=true)
  (a5:qW K qU "is_sort"=some (some (.ref f5)))(l5:K.lookup f5=some ⟨oc5,od5,.func (qi "is_sort" "is_sort" (zbp ziq) (zbm ziq) (zar ziq) .none kV5 dc5 pm5 an5 cd5 ct5),sl5⟩)(c5:qf K cd5 "is_sort"=true)(k5:qc K (.ref f5)=true)
  (a6:qW K qU "are_bundled"=some (some (.ref f6)))(l6:K.lookup f6=some ⟨oc6,od6,.func (qi "are_bundled" "are_bundled" (zbp zee) (zbm zee) (zar zee) .none kV6 dc6 pm6 an6 cd6 ct6),sl6⟩)(c6:qf K cd6 "are_bundled"=true)(k6:qc K (.ref f6)=true)
  (a7:qW K qU "are_apart"=some (some (.ref f7)))(l7:K.lookup f7=some ⟨oc7,od7,.func (qi "are_apart" "are_apart" (zbp zfz) (zbm zfz) (zar zfz) .none kV7 dc7 pm7 an7 cd7 ct7),sl7⟩)(c7:qf K cd7 "are_apart"=true)(k7:qc K (.ref f7)=true)
  (a8:qW K qU "is_to_come"=some (some (.ref f8)))(l8:K.lookup f8=some ⟨oc8,od8,.func (qi "is_to_come" "is_to_come" (zbp zey) (zbm zey) (zar zey) .none kV8 dc8 pm8 an8 cd8 ct8),sl8⟩)(c8:qf K cd8 "is_to_come"=true)(k8:qc K (.ref f8)=true)
  (a9:qW K qU "_law_feed"=some (some (.ref f9)))(l9:K.lookup f9=some ⟨oc9,od9,.func (qi "_law_feed" "_law_feed" (zbp zhg) (zbm zhg) (zar zhg) .none kV9 dc9 pm9 an9 cd9 ct9),sl9⟩)(c9:qf K cd9 "_law_feed"=true)(k9:qc K (.ref f9)=true)
  (a10:qW K qU "_law_take"=some (some (.ref f10)))(l10:K.lookup f10=some ⟨oc10,od10,.func (qi "_law_take" "_law_take" (zbp zhh) (zbm zhh) (zar zhh) .none kV10 dc10 pm10 an10 cd10 ct10),sl10⟩)(c10:qf K cd10 "_law_take"=true)(k10:qc K (.ref f10)=true)
  (a11:qW K qU "_law_letters"=some (some (.ref f11)))(l11:K.lookup f11=some ⟨oc11,od11,.func (qi "_law_letters" "_law_letters" (zbp zef) (zbm zef) (zar zef) .none kV11 dc11 pm11 an11 cd11 ct11),sl11⟩)(c11:qf K cd11 "_law_letters"=true)(k11:qc K (.ref f11)=true)
  (a12:qW K qU "_law_names"=some (some (.ref f12)))(l12:K.lookup f12=some ⟨oc12,od12,.func (qi "_law_names" "_law_names" (zbp zgb) (zbm zgb) (zar zgb) .none kV12 dc12 pm12 an12 cd12 ct12),sl12⟩)(c12:qf K cd12 "_law_names"=true)(k12:qc K (.ref f12)=true)
  (a13:qW K qU "_law_web"=some (some (.ref f13)))(l13:K.lookup f13=some ⟨oc13,od13,.func (qi "_law_web" "_law_web" (zbp zir) (zbm zir) (zar zir) .none kV13 dc13 pm13 an13 cd13 ct13),sl13⟩)(c13:qf K cd13 "_law_web"=true)(k13:qc K (.ref f13)=true)
  (a14:qW K qU "_law_above"=some (some (.ref f14)))(l14:K.lookup f14=some ⟨oc14,od14,.func (qi "_law_above" "_law_above" (zbp zgc) (zbm zgc) (zar zgc) .none kV14 dc14 pm14 an14 cd14 ct14),sl14⟩)(c14:qf K cd14 "_law_above"=true)(k14:qc K (.ref f14)=true)
  (a15:qW K qU "_law_odd"=some (some (.ref f15)))(l15:K.lookup f15=some ⟨oc15,od15,.func (qi "_law_odd" "_law_odd" (zbp zis) (zbm zis) (zar zis) .none kV15 dc15 pm15 an15 cd15 ct15),sl15⟩)(c15:qf K cd15 "_law_odd"=true)(k15:qc K (.ref f15)=true)
  (a16:qW K qU "_law_may_be_sort"=some (some (.ref f16)))(l16:K.lookup f16=some ⟨oc16,od16,.func (qi "_law_may_be_sort" "_law_may_be_sort" (zbp zcc) (zbm zcc) (zar zcc) .none kV16 dc16 pm16 an16 cd16 ct16),sl16⟩)(c16:qf K cd16 "_law_may_be_sort"=true)(k16:qc K (.ref f16)=true)
  (a17:qW K qU "_law_is_bundle"=some (some (.ref f17)))(l17:K.lookup f17=some ⟨oc17,od17,.func (qi "_law_is_bundle" "_law_is_bundle" (zbp zdb) (zbm zdb) (zar zdb) .none kV17 dc17 pm17 an17 cd17 ct17),sl17⟩)(c17:qf K cd17 "_law_is_bundle"=true)(k17:qc K (.ref f17)=true)
  (a18:qW K qU "_law_is_sort"=some (some (.ref f18)))(l18:K.lookup f18=some ⟨oc18,od18,.func (qi "_law_is_sort" "_law_is_sort" (zbp zeg) (zbm zeg) (zar zeg) .none kV18 dc18 pm18 an18 cd18 ct18),sl18⟩)(c18:qf K cd18 "_law_is_sort"=true)(k18:qc K (.ref f18)=true)
  (a19:qW K qU "_law_sort"=some (some (.ref f19)))(l19:K.lookup f19=some ⟨oc19,od19,.func (qi "_law_sort" "_law_sort" (zbp zhj) (zbm zhj) (zar zhj) .none kV19 dc19 pm19 an19 cd19 ct19),sl19⟩)(c19:qf K cd19 "_law_sort"=true)(k19:qc K (.ref f19)=true)
  (a20:qW K qU "_law_may_come"=some (some (.ref f20)))(l20:K.lookup f20=some ⟨oc20,od20,.func (qi "_law_may_come" "_law_may_come" (zbp zdn) (zbm zdn) (zar zdn) .none kV20 dc20 pm20 an20 cd20 ct20),sl20⟩)(c20:qf K cd20 "_law_may_come"=true)(k20:qc K (.ref f20)=true)
  (a21:qW K qU "_law_is_to_come"=some (some (.ref f21)))(l21:K.lookup f21=some ⟨oc21,od21,.func (qi "_law_is_to_come" "_law_is_to_come" (zbp zcp) (zbm zcp) (zar zcp) .none kV21 dc21 pm21 an21 cd21 ct21),sl21⟩)(c21:qf K cd21 "_law_is_to_come"=true)(k21:qc K (.ref f21)=true)
  (a22:qW K qU "_law_copy"=some (some (.ref f22)))(l22:K.lookup f22=some ⟨oc22,od22,.func (qi "_law_copy" "_law_copy" (zbp zhk) (zbm zhk) (zar zhk) .none kV22 dc22 pm22 an22 cd22 ct22),sl22⟩)(c22:qf K cd22 "_law_copy"=true)(k22:qc K (.ref f22)=true)
  (a23:qW K qU "law"=some (some (.ref f23)))(l23:K.lookup f23=some ⟨oc23,od23,.func (qi "law" "law" (zbp zut) (zbm zut) (zar zut) .none kV23 dc23 pm23 an23 cd23 ct23),sl23⟩)(c23:qf K cd23 "law"=true)(k23:qc K (.ref f23)=true)
  (z1:qW K qU "abs"=some none)(z2:qW K qU "all"=some none)(z3:qW K qU "any"=some none)(z4:qW K qU "bool"=some none)(z5:qW K qU "enumerate"=some none)(z6:qW K qU "isinstance"=some none)(z7:qW K qU "len"=some none)(z8:qW K qU "list"=some none)(z9:qW K qU "min"=some none)(z10:qW K qU "range"=some none)(z11:qW K qU "set"=some none)(z12:qW K qU "str"=some none)(z13:qW K qU "tuple"=some none){gt1:Tok}(g1:qW K qU "MOST_BUNDLES"=some (some (.int 2 gt1))){gt2:Tok}(g2:qW K qU "MOST_IN_BUNDLE"=some (some (.int 5 gt2))) :
  ∃fd:qAA,(∀(s:Shared)(v:Value),BindsTo s fd ⟨[v],[]⟩ [("_law_script",v)])/\∀base:Heap,K.In base->base.Ns qU mg->FnOk l.prog w K mg base CX0 9 fa fd ["_law_script"] (zaji K):=by
 have e:=hfa.symm.trans (qj X G a23)
 cases e
 have T:Txt mg:=⟨qz X G z1,qz X G z2,qz X G z3,qz X G z4,qz X G z5,qz X G z6,qz X G z7,qz X G z8,qz X G z9,qz X G z10,qz X G z11,qz X G z12,qz X G z13,⟨_,qj X G g1⟩,⟨_,qj X G g2⟩⟩
 have F1:=zdr (st:=zda) l1 c1 k1
 have b1:=F1.binds (ps:=["known","things"]) λ_ _ _ _ _ _ us hl=>by obtain⟨_,_,rfl⟩:=us_2 hl;rfl
 have F2:=zdr (st:=zhe) l2 c2 k2
 have b2:=F2.binds (ps:=["web"]) λ_ _ _ _ _ _ us hl=>by obtain⟨_,rfl⟩:=us_1 hl;rfl
 have F3:=zdr (st:=zhf) l3 c3 k3
 have b3:=F3.binds (ps:=["web"]) λ_ _ _ _ _ _ us hl=>by obtain⟨_,rfl⟩:=us_1 hl;rfl
 have F4:=zdr (st:=zfy) l4 c4 k4
 have b4:=F4.binds (ps:=["known","thing"]) λ_ _ _ _ _ _ us hl=>by obtain⟨_,_,rfl⟩:=us_2 hl;rfl
 have F5:=zdr (st:=ziq) l5 c5 k5
 have b5:=F5.binds (ps:=["web","thing"]) λ_ _ _ _ _ _ us hl=>by obtain⟨_,_,rfl⟩:=us_2 hl;rfl
 have F6:=zdr (st:=zee) l6 c6 k6
 have b6:=F6.binds (ps:=["sort","names"]) λ_ _ _ _ _ _ us hl=>by obtain⟨_,_,rfl⟩:=us_2 hl;rfl
 have F7:=zdr (st:=zfz) l7 c7 k7
 have b7:=F7.binds (ps:=["roofs","names"]) λ_ _ _ _ _ _ us hl=>by obtain⟨_,_,rfl⟩:=us_2 hl;rfl
 have F8:=zdr (st:=zey) l8 c8 k8
 have b8:=F8.binds (ps:=["web","sort","thing"]) λ_ _ _ _ _ _ us hl=>by obtain⟨_,_,_,rfl⟩:=us_3 hl;rfl
 have F9:=zdr (st:=zhg) l9 c9 k9
 have b9:=F9.binds (ps:=["_law_script","_law_k"]) λ_ _ _ _ _ _ us hl=>by obtain⟨_,_,rfl⟩:=us_2 hl;rfl
 have F10:=zdr (st:=zhh) l10 c10 k10
 have b10:=F10.binds (ps:=["_law_feed_here","_law_many"]) λ_ _ _ _ _ _ us hl=>by obtain⟨_,_,rfl⟩:=us_2 hl;rfl
 have F11:=zdr (st:=zef) l11 c11 k11
 have b11:=F11.binds (ps:=["_law_feed_here","_law_many"]) λ_ _ _ _ _ _ us hl=>by obtain⟨_,_,rfl⟩:=us_2 hl;rfl
 have F12:=zdr (st:=zgb) l12 c12 k12
 have b12:=F12.binds (ps:=["_law_feed_here","_law_many"]) λ_ _ _ _ _ _ us hl=>by obtain⟨_,_,rfl⟩:=us_2 hl;rfl
 have F13:=zdr (st:=zir) l13 c13 k13
 have b13:=F13.binds (ps:=["_law_feed_here","_law_names_here"]) λ_ _ _ _ _ _ us hl=>by obtain⟨_,_,rfl⟩:=us_2 hl;rfl
 have F14:=zdr (st:=zgc) l14 c14 k14
 have b14:=F14.binds (ps:=["_law_web_here"]) λ_ _ _ _ _ _ us hl=>by obtain⟨_,rfl⟩:=us_1 hl;rfl
 have F15:=zdr (st:=zis) l15 c15 k15
 have b15:=F15.binds (ps:=["_law_feed_here","_law_stranger"]) λ_ _ _ _ _ _ us hl=>by obtain⟨_,_,rfl⟩:=us_2 hl;rfl
 have F16:=zdr (st:=zcc) l16 c16 k16
 have b16:=F16.binds (ps:=["_law_feed_here","_law_names_here","_law_stranger"]) λ_ _ _ _ _ _ us hl=>by obtain⟨_,_,_,rfl⟩:=us_3 hl;rfl
 have F17:=zdr (st:=zdb) l17 c17 k17
 have b17:=F17.binds (ps:=["_law_names_here","_law_thing"]) λ_ _ _ _ _ _ us hl=>by obtain⟨_,_,rfl⟩:=us_2 hl;rfl
 have F18:=zdr (st:=zeg) l18 c18 k18
 have b18:=F18.binds (ps:=["_law_names_here","_law_thing"]) λ_ _ _ _ _ _ us hl=>by obtain⟨_,_,rfl⟩:=us_2 hl;rfl
 have F19:=zdr (st:=zhj) l19 c19 k19
 have b19:=F19.binds (ps:=["_law_feed_here","_law_names_here"]) λ_ _ _ _ _ _ us hl=>by obtain⟨_,_,rfl⟩:=us_2 hl;rfl
 have F20:=zdr (st:=zdn) l20 c20 k20
 have b20:=F20.binds (ps:=["_law_feed_here","_law_names_here","_law_sort_here","_law_stranger"]) λ_ _ _ _ _ _ us hl=>by obtain⟨_,_,_,_,rfl⟩:=us_4 hl;rfl
 have F21:=zdr (st:=zcp) l21 c21 k21
 have b21:=F21.binds (ps:=["_law_names_here","_law_table","_law_sort_here","_law_thing"]) λ_ _ _ _ _ _ us hl=>by obtain⟨_,_,_,_,rfl⟩:=us_4 hl;rfl
 have F22:=zdr (st:=zhk) l22 c22 k22
 have b22:=F22.binds (ps:=["_law_thing"]) λ_ _ _ _ _ _ us hl=>by obtain⟨_,rfl⟩:=us_1 hl;rfl
 have F23:=zdr (st:=zut) l23 c23 k23
 refine⟨qi "law" "law" (zbp zut) (zbm zut) (zar zut) .none kV23 dc23 pm23 an23 cd23 ct23,λs v=>.of_eq rfl,λbase _ _=>?_⟩
 have D_are_unlike_of:zkx l.prog w K mg base:=⟨f1,_,zpm F1 T , qj X G a1,k1,b1⟩
 have D_names_of:zol l.prog w K mg base:=⟨f2,_,zzl F2 T , qj X G a2,k2,b2⟩
 have D_roofs_of:ztc l.prog w K mg base:=⟨f3,_,zzm F3 T , qj X G a3,k3,b3⟩
 have D_is_bundle:zro l.prog w K mg base:=⟨f4,_,zxn F4 T D_are_unlike_of,qj X G a4,k4,b4⟩
 have D_is_sort:zxl l.prog w K mg base:=⟨f5,_,zacf F5 T D_is_bundle D_names_of,qj X G a5,k5,b5⟩
 have D_are_bundled:znh l.prog w K mg base:=⟨f6,_,zsh F6 T , qj X G a6,k6,b6⟩
 have D_are_apart:zrp l.prog w K mg base:=⟨f7,_,zxo F7 T , qj X G a7,k7,b7⟩
 have D_is_to_come:zpc l.prog w K mg base:=⟨f8,_,zuv F8 T D_are_apart D_are_bundled D_names_of D_roofs_of,qj X G a8,k8,b8⟩
 have D_law_feed:ztd l.prog w K mg base:=⟨f9,_,zzn F9 T , qj X G a9,k9,b9⟩
 have D_law_take:zeh l.prog w K mg base:=⟨f10,_,zzo F10 T , qj X G a10,k10,b10⟩
 have D_law_letters:zni l.prog w K mg base:=⟨f11,_,zsi F11 T D_law_take,qj X G a11,k11,b11⟩
 have D_law_names:zrq l.prog w K mg base:=⟨f12,_,zxp F12 T D_law_letters D_law_take,qj X G a12,k12,b12⟩
 have D_law_web:zxm l.prog w K mg base:=⟨f13,_,zacg F13 T D_law_take,qj X G a13,k13,b13⟩
 have D_law_above:zrr l.prog w K mg base:=⟨f14,_,zxq F14 T , qj X G a14,k14,b14⟩
 have D_law_odd:zrs l.prog w K mg base:=⟨f15,_,zach F15 T D_law_take,qj X G a15,k15,b15⟩
 have D_law_may_be_sort:ziu l.prog w K mg base:=⟨f16,_,znk F16 T D_law_odd D_law_take,qj X G a16,k16,b16⟩
 have D_law_is_bundle:zky l.prog w K mg base:=⟨f17,_,zpn F17 T , qj X G a17,k17,b17⟩
 have D_law_is_sort:znj l.prog w K mg base:=⟨f18,_,zsj F18 T D_law_is_bundle,qj X G a18,k18,b18⟩
 have D_law_sort:zte l.prog w K mg base:=⟨f19,_,zzp F19 T D_law_take,qj X G a19,k19,b19⟩
 have D_law_may_come:zly l.prog w K mg base:=⟨f20,_,zrt F20 T D_law_odd D_law_take,qj X G a20,k20,b20⟩
 have D_law_is_to_come:zjv l.prog w K mg base:=⟨f21,_,zom F21 T , qj X G a21,k21,b21⟩
 have D_law_copy:ztf l.prog w K mg base:=⟨f22,_,zzq F22 T  (qj X G a22) k22 b22 7,qj X G a22,k22,b22⟩
 exact zaqz F23 T D_law_above D_law_copy D_law_feed D_law_is_sort D_law_is_to_come D_law_may_be_sort D_law_may_come D_law_names D_law_sort D_law_take D_law_web D_is_sort D_is_to_come
theorem walk{l:PySem.W.OpenLaw}{q:Program}{loose:List Str}{XP:(Str->Option Value)->Heap->Prop}{YP:World->Heap->Prop}{d:DefRec}{K:Params->qC}(hn:l.most=some 63)(hdf:d.params.defaults=[])
  (hY:∀(w:World) (h:Heap),YP w h->(K w.params).In h)
  (F:∀(w:World)(mg:Str->Option Value)(fa:Addr)(h:Heap),(K w.params).In h->h.Ns qU mg->mg d.name=some (.ref fa)->
   ∃fd:qAA,(∀(s:Shared)(u:Value),BindsTo s fd ⟨[u],[]⟩ [("_law_script",u)])/\∀base:Heap,(K w.params).In base->base.Ns qU mg->FnOk l.prog w (K w.params) mg base CX0 9 fa fd ["_law_script"] (zaji (K w.params))) :
  PySem.W.WalkO q loose XP YP l.row.toRowW d [] (λf vs=>PySem.call f vs):=
 L2.walk_of (n:=63) (k:=9) (x:="_law_script") (CX:=λ_=>CX0) (sp:=λw=>zaji (K w.params)) hn (by decide) hdf ⟨rfl,by decide,by decide⟩ hY F (λ_ _ a ns hl _ hS=>⟨a,ns,rfl,hS,λ_=>rfl⟩) λ_ _ _ _ _ z=>z
end Bc
theorem PySem.W.Fast.te10748185949539447249:True:=trivial
noncomputable def PySem.W.Fast.tw6662192475613876000:PySem.Program:=PySem.Challenge.pw_bestcalls_k22_sorts_and_kinds_to_come
theorem PySem.W.Fast.te6662192475613876000:PySem.Challenge.pw_bestcalls_k22_sorts_and_kinds_to_come=PySem.W.Fast.tw6662192475613876000:=rfl
open PySem PySem.W PyProof.Rows
set_option maxRecDepth 100000 in
set_option maxHeartbeats 0 in
theorem PySem.Challenge.cw_bestcalls_k22_sorts_and_kinds_to_come_holds : PySem.Challenge.rw_bestcalls_k22_sorts_and_kinds_to_come.Holds := by
 w_on;o_law;k_head;(case hw=>w_witness2)
 k_fill
 refine Bc.walk (l:=PySem.Challenge.rw_bestcalls_k22_sorts_and_kinds_to_come) rfl rfl (λw h Y=>PySem.W.kIn_of Y) ?F
 case F=>
  intro w mg fa h KX G hmg
  refine' Bc.all_mk KX G hmg ?a1 ?l1 ?c1 ?k1 ?a2 ?l2 ?c2 ?k2 ?a3 ?l3 ?c3 ?k3 ?a4 ?l4 ?c4 ?k4 ?a5 ?l5 ?c5 ?k5 ?a6 ?l6 ?c6 ?k6 ?a7 ?l7 ?c7 ?k7 ?a8 ?l8 ?c8 ?k8 ?a9 ?l9 ?c9 ?k9 ?a10 ?l10 ?c10 ?k10 ?a11 ?l11 ?c11 ?k11 ?a12 ?l12 ?c12 ?k12 ?a13 ?l13 ?c13 ?k13 ?a14 ?l14 ?c14 ?k14 ?a15 ?l15 ?c15 ?k15 ?a16 ?l16 ?c16 ?k16 ?a17 ?l17 ?c17 ?k17 ?a18 ?l18 ?c18 ?k18 ?a19 ?l19 ?c19 ?k19 ?a20 ?l20 ?c20 ?k20 ?a21 ?l21 ?c21 ?k21 ?a22 ?l22 ?c22 ?k22 ?a23 ?l23 ?c23 ?k23 ?z1 ?z2 ?z3 ?z4 ?z5 ?z6 ?z7 ?z8 ?z9 ?z10 ?z11 ?z12 ?z13 ?g1 ?g2
  (case a1=>k_is)
  (case l1=>k_is)
  (case c1=>k_is)
  (case k1=>k_is)
  (case a2=>k_is)
  (case l2=>k_is)
  (case c2=>k_is)
  (case k2=>k_is)
  (case a3=>k_is)
  (case l3=>k_is)
  (case c3=>k_is)
  (case k3=>k_is)
  (case a4=>k_is)
  (case l4=>k_is)
  (case c4=>k_is)
  (case k4=>k_is)
  (case a5=>k_is)
  (case l5=>k_is)
  (case c5=>k_is)
  (case k5=>k_is)
  (case a6=>k_is)
  (case l6=>k_is)
  (case c6=>k_is)
  (case k6=>k_is)
  (case a7=>k_is)
  (case l7=>k_is)
  (case c7=>k_is)
  (case k7=>k_is)
  (case a8=>k_is)
  (case l8=>k_is)
  (case c8=>k_is)
  (case k8=>k_is)
  (case a9=>k_is)
  (case l9=>k_is)
  (case c9=>k_is)
  (case k9=>k_is)
  (case a10=>k_is)
  (case l10=>k_is)
  (case c10=>k_is)
  (case k10=>k_is)
  (case a11=>k_is)
  (case l11=>k_is)
  (case c11=>k_is)
  (case k11=>k_is)
  (case a12=>k_is)
  (case l12=>k_is)
  (case c12=>k_is)
  (case k12=>k_is)
  (case a13=>k_is)
  (case l13=>k_is)
  (case c13=>k_is)
  (case k13=>k_is)
  (case a14=>k_is)
  (case l14=>k_is)
  (case c14=>k_is)
  (case k14=>k_is)
  (case a15=>k_is)
  (case l15=>k_is)
  (case c15=>k_is)
  (case k15=>k_is)
  (case a16=>k_is)
  (case l16=>k_is)
  (case c16=>k_is)
  (case k16=>k_is)
  (case a17=>k_is)
  (case l17=>k_is)
  (case c17=>k_is)
  (case k17=>k_is)
  (case a18=>k_is)
  (case l18=>k_is)
  (case c18=>k_is)
  (case k18=>k_is)
  (case a19=>k_is)
  (case l19=>k_is)
  (case c19=>k_is)
  (case k19=>k_is)
  (case a20=>k_is)
  (case l20=>k_is)
  (case c20=>k_is)
  (case k20=>k_is)
  (case a21=>k_is)
  (case l21=>k_is)
  (case c21=>k_is)
  (case k21=>k_is)
  (case a22=>k_is)
  (case l22=>k_is)
  (case c22=>k_is)
  (case k22=>k_is)
  (case a23=>k_is)
  (case l23=>k_is)
  (case c23=>k_is)
  (case k23=>k_is)
  (case z1=>k_is)
  (case z2=>k_is)
  (case z3=>k_is)
  (case z4=>k_is)
  (case z5=>k_is)
  (case z6=>k_is)
  (case z7=>k_is)
  (case z8=>k_is)
  (case z9=>k_is)
  (case z10=>k_is)
  (case z11=>k_is)
  (case z12=>k_is)
  (case z13=>k_is)
  (case g1=>k_is)
  (case g2=>k_is)
