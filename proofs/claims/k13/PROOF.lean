import PyProof.Rows.All
import Wide.All
import OpenK.AllK
import Wide.FinOn
import Lean
import PyProof.EqAt
import PyProof.EqKinds
import PyProof.TupleCall
import KE.KRevSl
import PyProof.MeetsStr
import PyProof.Rows.MinMaxN
import PyProof.ListRange
import KE.KTryOn
import PyProof.ExcInit
import PyProof.ExcClass3
import PyProof.ExcBaseAll.ValueError
import PyProof.InstStoreFacts
import ObjForm.Fk.InstStore
import PyProof.ExcArgsOwn
import PyProof.ExcAttrAll.ValueError
import PyProof.PureStr
import PyProof.FString2
import PyProof.Rows.FactsFmt
import PyProof.FactsAll.NoneType_2
import PyProof.NsDelKeeps
import PyProof.IsiBase
import PyProof.AutoListH
import PyProof.AutoSeq1
import PyProof.DictWalks
import PySem.Challenge.RW_bestcalls_k13_books_made
set_option genSizeOf false
set_option Elab.async false
set_option linter.all false
set_option maxRecDepth 100000
noncomputable section
open Option renaming bind_eq_some_iff→qA,bind_some→qC,map_eq_some_iff→qH,map_some→qB0
open PySem.W renaming Frag→qB,nsIn→qV,keepIn→qX,mg_of→qY,codeIn→qi,fnOf→qo,mg_none_of→qAF,kia_one→qAh,looks_findIn→qA0,callWith_K→qBK,cellsFrom_some→qBt,codeRec_of→qCr,kitx_list→qCw,kitx_dict→qCx
open List renaming length_map→qD,getElem?_eq_getElem→qF,length_append→qI,getElem?_eq_some_iff→qJ,mem_cons_of_mem→qK,size_toArray→qL,getElem?_append_right→qN,getElem?_set_ne→qO,getElem?_map→qT,mem_cons→qW,mem_append→qc,getElem?_append_left→qf,mem_cons_self→qk,mem_of_getElem?→qp,mem_append_right→qr,all_eq_true→qs,nodup_cons→qt,append_nil→qv,length_set→qx,map_append→q0,mem_singleton→q9,getElem?_set_self→qAA,getD_eq_getElem?_getD→qAB,mem_map→qAI,length_replicate→qAJ,length_take→qAN,replicate_succ→qAP,mem_append_left→qAQ,map_cons→qAV,contains_cons→qAX,mem_range→qAb,length_cons→qAc,nodup_append→qAe,append_assoc→qAf,length_drop→qAi,getElem_of_mem→qAl,drop_eq_getElem_cons→qAm,eq_of_mem_replicate→qAo,lookup_cons→qAp,getElem_mem→qAq,mem_of_mem_take→qAs,nodup_nil→qA1,map_take→qA2,getElem?_replicate→qA3,length_range→qBB,flatten_cons→qBC,any_cons→qBD,all_cons→qBE,mem_of_mem_drop→qBF,length_eq_zero_iff→qBN,getElem?_cons_zero→qBO,getElem?_cons_succ→qBP,take_append_of_le_length→qBY,isEmpty_iff→qBZ,drop_length→qBa,any_eq_true→qBb,of_mem_zip→qBd,map_congr_left→qBe,filterMap_cons→qBf,mem_filterMap→qBk,take_sublist→qBs,map_drop→qBw,mem_nil_iff→qBy,take_of_length_le→qB1,take_append_drop→qB3,map_map→qB4,all_map→qB5,getElem?_zipIdx→qB8,eraseIdxIfInBounds_toArray→qCI,any_map→qCK,mem_flatMap→qCO,mem_filter→qCQ,pairwise_iff_getElem→qCX,drop_of_length_le→qCm,getElem?_eq_none→qCs,zipIdx_map_fst→qC0
open PySem renaming wpAny_bind→qE,wpAny_pure→qQ,mainGlobals→qR,Expr→qa,sizeLine→qe,Pos→qu,FuncData→qw,wpAny_loadPart_at→qz,starEach→qAK,mem_of_lookup→qAL,wpAny_truthy_bool→qAR,wpAny_Call_Name_kw→qAk,wpAny_newObj_type→qAu,wpAny_isSubtype_exc→qAv,wpAny_field→qAw,wpAny_execs_nil→qAx,wpAny_loadPart'→qA4,codeAny_mono→qA6,wpAny_callSpecial?_slot→qA7,sizeLine_eq→qA8,call_meets→qA9,wpAny_mono→qBI,codeAny_call_builtin→qBJ,wpAny_setField→qBL,wpAny_holding→qBW,wpAny_getItem_str_slice→qBX,wpAny_pyIter_list→qBc,wpAny_execs_cons→qBh,wpAny_call_entry→qBi,wpAny_call→qBm,wpAny_passesOwn→qBp,wpAny_pyIter_tuple→qBv,typeIs_str→qB2,wpAny_isInstance→qB7,wpAny_typeOf→qCC,wpAny_pyReprObj_gives→qCD,post_val_or_str→qCE,wpAny_Try_except→qCb,noFill_tuple_add→qCc,wpAny_of_eq→qCj,codeAny_builtin→qCk,wpAny_newFunctionEnv_cells→qCq,wpAny_Expr_any→qCu,fitsIndex_both→qCv
open PySem.Heap renaming get?_push_of_some→qG,lt_size→qU,get?_push_size→qd,get?_update_other→qAa,get?_update_self→qAn,get?_none_of_le→qBG,size_push→qBo,get?_update_ne→qC2
open Nat renaming le_refl→qM,lt_of_lt_of_le→qm,le_trans→qAD,ne_of_lt→qAG,zero_le→qAr,lt_irrefl→qA5,le_of_lt→qBn,add_sub_cancel_left→qBx,min_le_left→qB6,lt_of_le_of_lt→qCH,le_of_succ_le→qCJ,sub_self→qCM,ne_of_gt→qCN,le_succ→qCV,zero_add→qCy
open Bool renaming false_ne_true→qP,and_eq_true→qb,eq_iff_iff→qAU,or_true→qAy,true_and→qBR,false_eq_true→qBS,and_eq_true_iff→qB9,or_eq_true_iff→qCB,and_false→qCa,false_or→qCh,and_self→qCi
open PySem.F renaming plainAttrs_list→qS,type_list_append→qg,slot_list_append→qh,slot_tuple_iterator_next→qBH,called_set→qBQ,type_list_pop→qBT,slot_list_pop→qBU,excBase_ValueError→qBg,args_tuple_add_2→qBj,entry_tuple_add→qBq,slot_tuple_add→qBu,store_ValueError→qCL,type_list_clear→qCT,slot_list_clear→qCU,args_tuple_iterator_next_1→qCZ,entry_tuple_iterator_next→qCg
open PySem.PyData renaming eqv→qZ,depthAll→qAC,strOk→qAT,canLayAll0→qAd
open PySem.Str renaming ofString→qj
open Option.some renaming inj→qy
open Int renaming emod_nonneg→qAE,emod_lt_of_pos→qAH,eq_ofNat_of_zero_le→qAW,toNat_natCast→qAt,mul_nonneg→qCf,ediv_one→qCz
open PySem.SeqAt renaming shaped→qAM,canLay_of_shaped→qAY,eqv_refl→qCP
open PySem.PassesOwn renaming never→qAO,leaving→qCl
open PyProof.Rows renaming slot_tuple_getitem→qAS,callWith_type1→qBV
open PySem.Obj renaming data_mapFields→qAZ,isFreed_of_fields→qAz
open PySem.Builtin.SmallTypes renaming nextOf→qAg
open Array renaming getElem?_eq_some_iff→qAj,getElem?_eq_getElem→qBl,length_toList→qCA,mem_of_getElem?→qCn,getElem?_toList→qCo
open Ne renaming symm→qBA
open PySem.Calls renaming spliced_cons→qBM,spliced_nil→qBr,callWith_builtin→qBz,Constant_str→qCF,Name_function_global→qCS,evalArgs_plain→qCt
open PySem.Code renaming quiet_builtin→qCG
open PySem.Heap.SameBut renaming update→qCR
open PySem.W.Looks renaming ld→qCW
open List.Sublist renaming refl→qCY
open PySem.SeqAt.EqAt renaming str_int→qCd,int_str→qCe
open PySem.Around renaming under_plainId→qCp
open List.Perm renaming refl→qC1
namespace L2
open PySem PySem.Spec PyProof.Rows
noncomputable abbrev Key:=Sum Int Str
noncomputable def zsn:Key->Value->Bool
 | .inl k,v=>Value.isInt k v
 | .inr x,v=>Value.isStrOf x v
noncomputable def keyH(w:World):Key->Int
 | .inl k=>hashInt k
 | .inr x=>hashStr w x
theorem zdr:∀{k:Key}{v:Value},zsn k v=true->(∃i t,k=Sum.inl i/\v=Value.int i t)\/(∃x t,k=Sum.inr x/\v=Value.str x t)
 | .inl i,v,h=>by
  obtain⟨t,e⟩:=Value.isInt_shape (k:=i) (v:=v) h
  exact .inl ⟨i,t,rfl,e⟩
 | .inr x,v,h=>by
  obtain⟨t,e⟩:=Value.isStrOf_shape (x:=x) (v:=v) h
  exact .inr ⟨x,t,rfl,e⟩
theorem zacs(i:Int)(t:Tok):zsn (.inl i) (.int i t)=true:=by simp[zsn,Value.isInt]
theorem zact(x:Str)(t:Tok):zsn (.inr x) (.str x t)=true:=by simp[zsn,Value.isStrOf]
theorem zaqg(a b:Int):decide ((Sum.inl a:Key)=Sum.inl b)=(a==b):=by
 by_cases e:a=b
 ·subst e;simp
 ·have h:¬(Sum.inl a:Key)=Sum.inl b:=λq=>e (Sum.inl.inj q)
  rw[decide_eq_false h]
  exact(beq_eq_false_iff_ne.mpr e).symm
theorem zaqh(a b:Str):decide ((Sum.inr a:Key)=Sum.inr b)=decide (a=b):=by
 by_cases e:a=b
 ·subst e;simp
 ·have h:¬(Sum.inr a:Key)=Sum.inr b:=λq=>e (Sum.inr.inj q)
  rw[decide_eq_false h,decide_eq_false e]
theorem zaqi(a:Int)(b:Str):decide ((Sum.inl a:Key)=Sum.inr b)=false:=decide_eq_false (λq=>nomatch q)
theorem zaqj(a:Str)(b:Int):decide ((Sum.inr a:Key)=Sum.inl b)=false:=decide_eq_false (λq=>nomatch q)
noncomputable def zgg(prog:Program)(w:World):PySem.KeyKind prog w Key where
 is:=zsn
 hash:=keyH w
 inj:=λv a b ha hb=>by
  rcases zdr ha with⟨i,t,rfl,rfl⟩|⟨x,t,rfl,rfl⟩
  ·rcases zdr hb with⟨j,u,rfl,e⟩|⟨y,u,rfl,e⟩
   ·injection e with e1 _;rw[e1]
   ·exact nomatch e
  ·rcases zdr hb with⟨j,u,rfl,e⟩|⟨y,u,rfl,e⟩
   ·exact nomatch e
   ·injection e with e1 _;rw[e1]
 byValue:=λk v h=>by
  rcases zdr h with⟨i,t,rfl,rfl⟩|⟨x,t,rfl,rfl⟩<;>rfl
 pyHash:=λhv h=>by
  rcases zdr hv with⟨i,t,rfl,rfl⟩|⟨x,t,rfl,rfl⟩
  ·exact wpAny_pyHash_int h
  ·exact wpAny_pyHash_str h
 eqBool:=λhu hv h=>by
  rcases zdr hu with⟨i,t,rfl,rfl⟩|⟨x,t,rfl,rfl⟩
  ·rcases zdr hv with⟨j,u,rfl,rfl⟩|⟨y,u,rfl,rfl⟩
   ·rw[zaqg]at h;exact wpAny_eqBool_int h
   ·rw[zaqi]at h;exact qCe i t y u _ _ _ _ h
  ·rcases zdr hv with⟨j,u,rfl,rfl⟩|⟨y,u,rfl,rfl⟩
   ·rw[zaqj]at h;exact qCd x t j u _ _ _ _ h
   ·rw[zaqh]at h;exact wpAny_eqBool_str h
 «strs»:=λk x t v h=>by
  rcases zdr h with⟨i,u,rfl,e⟩|⟨y,u,rfl,e⟩
  ·exact nomatch e
  ·injection e with e1 _
   subst e1
   cases v<;>rfl
theorem zxy(prog:Program)(w:World)(i:Int)(t:Tok):(zgg prog w).is (.inl i) (.int i t)=true:=zacs i t
theorem zxz(prog:Program)(w:World)(x:Str)(t:Tok):(zgg prog w).is (.inr x) (.str x t)=true:=zact x t
inductive V where
 | non|bl (b:Bool)|int (i:Int)|str (x:Str)|byt (b:Array UInt8)|flt (b:UInt64)|ref (a:Addr)|ty (n:String)
 deriving DecidableEq
noncomputable def RelV:V->Value->Prop
 | .non,u=>u=Value.none
 | .bl b,u=>u=Value.bool b
 | .int i,u=>∃t,u=Value.int i t
 | .str x,u=>∃t,u=Value.str x t
 | .byt b,u=>∃t,u=Value.bytes b t
 | .flt b,u=>∃t,u=Value.float b t
 | .ref a,u=>u=Value.ref a
 | .ty n,u=>u=Value.type n
noncomputable abbrev Vals:List V->List Value->Prop:=Paired RelV
theorem Vals.length{xs:List V}{us:List Value}(r:Vals xs us):xs.length=us.length:=Paired.length r
theorem Vals.get:∀{xs:List V}{us:List Value}{i:Nat}{x:V},Vals xs us->xs[i]?=some x->∃u,us[i]?=some u/\RelV x u
 | _,_,_,_,.nil,e=>by simp at e
 | _,_,0,_,.cons r _,e=>by simp at e;subst e;exact⟨_,rfl,r⟩
 | _,_,i+1,x,.cons _ t,e=>by
  obtain⟨u,h1,h2⟩:=Vals.get (i:=i) (x:=x) t (by simpa using e)
  exact⟨u,by simpa using h1,h2⟩
theorem Vals.set{x:V}{u:Value}(r:RelV x u):∀{xs:List V}{us:List Value}(i:Nat),Vals xs us->Vals (xs.set i x) (us.set i u)
 | _,_,_,.nil=>.nil
 | _,_,0,.cons _ t=>.cons r t
 | _,_,i+1,.cons q t=>.cons q (Vals.set r i t)
theorem Vals.append:∀{xs ys:List V}{us ws:List Value},Vals xs us->Vals ys ws->Vals (xs++ys) (us++ws)
 | _,_,_,_,.nil,s=>s
 | _,_,_,_,.cons r t,s=>.cons r (Vals.append t s)
theorem Vals.take:∀{xs:List V}{us:List Value}(n:Nat),Vals xs us->Vals (xs.take n) (us.take n)
 | _,_,0,_=>.nil
 | _,_,_+1,.nil=>.nil
 | _,_,n+1,.cons r t=>.cons r (Vals.take n t)
theorem Vals.drop:∀{xs:List V}{us:List Value}(n:Nat),Vals xs us->Vals (xs.drop n) (us.drop n)
 | _,_,0,r=>r
 | _,_,_+1,.nil=>.nil
 | _,_,n+1,.cons _ t=>Vals.drop n t
noncomputable def RelO:Option V->Option Value->Prop
 | some v,some u=>RelV v u
 | none,none=>True
 | _,_=>False
noncomputable def KV{κ:Type}:List (κ×V)->List (κ×Value)->Prop:=Paired λ(p:κ×V)(q:κ×Value)=>p.1=q.1/\RelV p.2 q.2
noncomputable def kV:Key->V
 | .inl i=>.int i
 | .inr x=>.str x
inductive HO where
  | lst (xs:List V)
  | tup (xs:List V)
  | dK (kvs:List (Key×V))|dT (kvs:List (List Key×V))
  | set (S:Int->Bool) (n:Nat)
  | ins (C dx:Addr) (fs:List (Str×V))
  | own (x:Addr)
  | xd (fs:List (Str×V))
  | met (f x:Addr)
  | rng (lo hi:Int)
  | frz (o:Obj) (u:HO)
  | tbl (ps:Array Value)
  | ext (φ:Heap->Prop)
noncomputable abbrev Hp:=Addr->Option HO
noncomputable def upd(H:Hp)(a:Addr)(o:HO):Hp:=λb=>if b=a then some o else H b
theorem zaw{H:Hp}{a:Addr}{o:HO}:upd H a o a=some o:=by unfold upd;rw[if_pos rfl]
theorem zbc{H:Hp}{a b:Addr}{o:HO}(h:b≠a):upd H a o b=H b:=by unfold upd;rw[if_neg h]
theorem zaml{H:Hp}{a:Addr}{o u:HO}:upd (upd H a o) a u=upd H a u:=by
 funext b;unfold upd;split<;>rfl
theorem zcp{H:Hp}{a b:Addr}{o:HO}(h:H a=some o)(h':H b=none):a≠b:=by
 intro e;subst e;rw[h]at h';cases h'
section
variable(P:Program)(w:World)
noncomputable def zgb(H:Hp)(h:Heap)(a:Addr):HO->Prop
 | .lst xs=>xs.length<=qe/\∃(its:List Value)(n:Nat),Vals xs its/\h.get? a=some {cls:=.type "list",data:=.seq its.toArray n}
 | .tup xs=>xs.length<=qe/\∃its:List Value,Vals xs its/\IsTup h a its.toArray
 | .dK kvs=>kvs.length<=qe/\(a==sysModules)=false/\∃vs,KV kvs vs/\h.DictOf (zgg P w) a vs
 | .dT kvs=>kvs.length<=qe/\(a==sysModules)=false/\∃xs:List (List Key×Addr×Value),
   Paired (λ(p:List Key×V)(q:List Key×Addr×Value)=>p.1=q.1/\H q.2.1=some (.tup (p.1.map kV))/\RelV p.2 q.2.2) kvs xs/\
   ∃o es ep,h.get? a=some o/\o.ExactDict/\o.data=.dict es ep/\es.toList=xs.map (entryOfKey (tupleKind (zgg P w)))/\(xs.map (·.1)).Nodup
 | .set S n=>h.SetOf (intKind P w) a S n
 | .ins C dx fs=>H dx=some (.own a)/\fs.length<=1000/\dx≠a/\h.get? a=some (PySem.W.instObj C dx)/\
   ∃mA,h.Ns1 dx mA/\(∀f,RelO (fs.lookup f) (mA f))/\PySem.Within mA (fs.map (·.1))
 | .own _=>∃o,h.get? a=some o
 | .xd fs=>∃mA,h.Ns1 a mA/\∀f,RelO (fs.lookup f) (mA f)
 | .rng lo hi=>∃t u v,h.get? a=some {cls:=.type "range",data:=.fields #[.int lo t,.int hi u,.int 1 v]}
 | .frz o u=>h.get? a=some o/\zgb H h a u
 | .tbl ps=>h.get? a=some {cls:=.none,data:=.fields ps}
 | .met f x=>h.get? a=some (PySem.W.methodObj (.ref f) (.ref x))
 | .ext φ=>φ h/\(∃o,h.get? a=some o)/\∀h1 h2:Heap,φ h1->(∀o,h1.get? a=some o->h2.get? a=some o)->φ h2
noncomputable def HOk(H:Hp)(h:Heap):Prop:=∀a o,H a=some o->zgb P w H h a o
end
section
variable{P:Program}{w:World}{H H':Hp}{h h':Heap}{a:Addr}{o:HO}
theorem zgb.lt(x:zgb P w H h a o):a<h.objs.size:=by
 cases o with
 | lst xs=>obtain⟨_,_,_,_,e⟩:=x;exact qU e
 | tup xs=>obtain⟨_,_,_,p⟩:=x;exact p.lt
 | dK kvs=>obtain⟨_,_,_,_,o,_,_,e,_⟩:=x;exact qU e
 | dT kvs=>obtain⟨_,_,_,_,o,_,_,e,_⟩:=x;exact qU e
 | set S n=>obtain⟨o,_,_,_,e,_⟩:=x;exact qU e
 | ins C dx fs=>obtain⟨_,_,_,e,_⟩:=x;exact qU e
 | own y=>obtain⟨_,e⟩:=x;exact qU e
 | xd fs=>obtain⟨_,⟨_,_,_,e,_⟩,_⟩:=x;exact qU e
 | rng lo hi=>obtain⟨_,_,_,e⟩:=x;exact qU e
 | frz ob u=>obtain⟨e,_⟩:=x;exact qU e
 | tbl ps=>exact qU (show h.get? a=some _ from x)
 | met f y=>exact qU (show h.get? a=some _ from x)
 | ext φ=>obtain⟨_,⟨_,e⟩,_⟩:=x;exact qU e
theorem Paired.mapP{α β:Type}{F G:α->β->Prop}:∀{l₁:List α}{l₂:List β},Paired F l₁ l₂->(∀a b,F a b->G a b)->Paired G l₁ l₂
 | _,_,.nil,_=>.nil
 | _,_,.cons r t,f=>.cons (f _ _ r) (Paired.mapP t f)
theorem zgb.stay(x:zgb P w H h a o)(k:∀b u,(b=a\/H b=some (.own a))->h.get? b=some u->h'.get? b=some u)
  (ho:∀b,H b=some (.own a)->H' b=some (.own a))(ht:∀b xs,H b=some (.tup xs)->H' b=some (.tup xs)):zgb P w H' h' a o:=by
 induction o with
 | lst xs=>obtain⟨z,its,n,r,e⟩:=x;exact⟨z,its,n,r,k _ _ (.inl rfl) e⟩
 | tup xs=>obtain⟨z,its,r,ob,e,c⟩:=x;exact⟨z,its,r,ob,k _ _ (.inl rfl) e,c⟩
 | dK kvs=>obtain⟨z,y,vs,r,ob,es,ep,e,c⟩:=x;exact⟨z,y,vs,r,ob,es,ep,k _ _ (.inl rfl) e,c⟩
 | dT kvs=>
  obtain⟨z,y,xs,r,ob,es,ep,e,c⟩:=x
  exact⟨z,y,xs,Paired.mapP r λp q z=>⟨z.1,ht _ _ z.2.1,z.2.2⟩,ob,es,ep,k _ _ (.inl rfl) e,c⟩
 | set S n=>obtain⟨ob,es,ep,t,e,c⟩:=x;exact⟨ob,es,ep,t,k _ _ (.inl rfl) e,c⟩
 | ins C dx fs=>
  obtain⟨d,z,ne,e,mA,⟨od,es,ep,e2,c⟩,r⟩:=x
  exact⟨ho _ d,z,ne,k _ _ (.inl rfl) e,mA,⟨od,es,ep,k _ _ (.inr d) e2,c⟩,r⟩
 | own y=>obtain⟨ob,e⟩:=x;exact⟨ob,k _ _ (.inl rfl) e⟩
 | xd fs=>obtain⟨mA,⟨od,es,ep,e,c⟩,r⟩:=x;exact⟨mA,⟨od,es,ep,k _ _ (.inl rfl) e,c⟩,r⟩
 | rng lo hi=>obtain⟨t,u,v,e⟩:=x;exact⟨t,u,v,k _ _ (.inl rfl) e⟩
 | frz ob u ih=>obtain⟨e,q⟩:=x;exact⟨k _ _ (.inl rfl) e,ih q⟩
 | tbl ps=>
  have e:h.get? a=some {cls:=.none,data:=.fields ps}:=x
  show h'.get? a=some {cls:=.none,data:=.fields ps}
  exact k a _ (.inl rfl) e
 | met f y=>
  have e:h.get? a=some (PySem.W.methodObj (.ref f) (.ref y)):=x
  show h'.get? a=some (PySem.W.methodObj (.ref f) (.ref y))
  exact k a _ (.inl rfl) e
 | ext φ=>obtain⟨p,⟨o,e⟩,st⟩:=x;exact⟨st _ _ p λo q=>k _ _ (.inl rfl) q,⟨o,k _ _ (.inl rfl) e⟩,st⟩
theorem HOk.lt(x:HOk P w H h)(e:H a=some o):a<h.objs.size:=(x a o e).lt
theorem HOk.fresh(x:HOk P w H h)(e:h.objs.size<=a):H a=none:=by
 cases q:H a with
 | none=>rfl
 | some u=>exact absurd (qm (x.lt q) e) (qA5 _)
theorem HOk.kept(x:HOk P w H h)(k:∀b u,h.get? b=some u->h'.get? b=some u):HOk P w H h':=λa o e=>
 (x a o e).stay (λb u _ q=>k b u q) (λ_ q=>q) λ_ _ q=>q
theorem HOk.laid(x:HOk P w H h)(k:∀b u,h.get? b=some u->h'.get? b=some u)(hp:h.objs.size<=a)(new:zgb P w (upd H a o) h' a o):HOk P w (upd H a o) h':=λb u e=>by
 have hn:=x.fresh hp
 by_cases hb:b=a
 ·subst hb;rw[zaw]at e;cases e;exact new
 ·rw[zbc hb]at e
  exact(x b u e).stay (λc v _ q=>k c v q) (λc q=>by rw[zbc (zcp q hn)];exact q) λc xs q=>by rw[zbc (zcp q hn)];exact q
end
noncomputable def Rd(H:Hp)(a:Addr)(u:HO):Prop:=H a=some u\/∃o,H a=some (.frz o u)
theorem Rd.ok{P:Program}{w:World}{H:Hp}{h:Heap}{a:Addr}{u:HO}(r:Rd H a u)(x:HOk P w H h):zgb P w H h a u:=by
 rcases r with r|⟨o,r⟩
 ·exact x a u r
 ·obtain⟨_,q⟩:=x a _ r
  exact q
noncomputable def Mut:Option HO->Prop
 | some (.lst _)=>True
 | some (.dK _)=>True
 | some (.dT _)=>True
 | some (.set _ _)=>True
 | some (.ins _ _ _)=>True
 | some (.ext _)=>True
 | _=>False
section
variable{P:Program}{w:World}{H:Hp}{h h':Heap}{x e:Addr}{o':HO}
theorem HOk.write(ok:HOk P w H h)(mu:Mut (H x))(he:e=x\/H e=some (.own x))(k:∀b u,b≠e->h.get? b=some u->h'.get? b=some u)(heo:∃u,h'.get? e=some u)
  (new:zgb P w (upd H x o') h' x o'):HOk P w (upd H x o') h':=λb u q=>by
 have nown:∀c y,H c=some (.own y)->c≠x:=λc y r z=>by subst z;rw[r]at mu;exact mu
 have ntup:∀c xs,H c=some (.tup xs)->c≠x:=λc xs r z=>by subst z;rw[r]at mu;exact mu
 by_cases hb:b=x
 ·subst hb;rw[zaw]at q;cases q;exact new
 ·rw[zbc hb]at q
  by_cases hbe:b=e
  ·have q':H b=some (.own x):=by
    rcases he with z|z
    ·exact absurd (hbe.trans z) hb
    ·rw[hbe];exact z
   rw[q]at q';cases q'
   obtain⟨v,hv⟩:=heo
   exact⟨v,by rw[hbe];exact hv⟩
  ·refine(ok b u q).stay (λc v hc r=>k c v ?_ r) (λc r=>by rw[zbc (nown c b r)];exact r) λc xs r=>by rw[zbc (ntup c xs r)];exact r
   rcases hc with rfl|hc
   ·exact hbe
   ·rintro rfl
    rcases he with z|z
    ·exact nown c b hc z
    ·rw[hc]at z;cases z;exact hb rfl
end
set_option genInjectivity false in
structure Un(fs ex:List Addr)(H H':Hp)(h h':Heap):Prop where
 keep:∀b o,h.get? b=some o->H b=none->b∉fs->b∉ex->h'.get? b=some o
 slot:∀b o,h.get? b=some o->H b=none->b∈fs->b∉ex->∃sl,h'.get? b=some {o with slots:=sl}
 free:∀b o,h.get? b=some o->H b=none->b∉ex->H' b=none
 there:∀b o,h.get? b=some o->b∉ex->∃o',h'.get? b=some o'
 tups:∀b xs,H b=some (.tup xs)->H' b=some (.tup xs)
 frzs:∀b o u,H b=some (.frz o u)->H' b=some (.frz o u)
 tbls:∀b ps,H b=some (.tbl ps)->∃more,H' b=some (.tbl (ps++more))
section
variable{fs fs' ex ex':List Addr}{H H1 H2:Hp}{h h1 h2 h':Heap}{a x e:Addr}{o:HO}
theorem Un.any(u:Un fs ex H H1 h h1){b:Addr}{ob:Obj}(q:h.get? b=some ob)(n:H b=none)(hx:b∉ex):∃sl,h1.get? b=some {ob with slots:=sl}:=by
 by_cases hb:b∈fs
 ·exact u.slot b ob q n hb hx
 ·exact⟨ob.slots,u.keep b ob q n hb hx⟩
theorem Un.kept(k:∀b u,h.get? b=some u->h'.get? b=some u):Un fs ex H H h h':=
 ⟨λb ob q _ _ _=>k b ob q,λb ob q _ _ _=>⟨ob.slots,k b ob q⟩,λ_ _ _ n _=>n,λb ob q _=>⟨ob,k b ob q⟩,λ_ _ q=>q,λ_ _ _ q=>q,λ_ ps q=>⟨#[],by rw[q];simp⟩⟩
theorem Un.refl:Un fs ex H H h h:=Un.kept λ_ _ q=>q
theorem Un.laid(k:∀b u,h.get? b=some u->h'.get? b=some u)(hp:h.objs.size<=a)(hn:H a=none):Un fs ex H (upd H a o) h h' where
 keep:=λb u q _ _ _=>k b u q
 slot:=λb u q _ _ _=>⟨u.slots,k b u q⟩
 free:=λb u q n _=>by rw[zbc (qAG (qm (qU q) hp))];exact n
 there:=λb u q _=>⟨u,k b u q⟩
 tups:=λb xs q=>by rw[zbc (zcp q hn)];exact q
 frzs:=λb u xs q=>by rw[zbc (zcp q hn)];exact q
 tbls:=λb ps q=>⟨#[],by rw[zbc (zcp q hn),q];simp⟩
theorem Un.write(mu:Mut (H x))(he:e=x\/H e=some (.own x))(k:∀b u,b≠e->h.get? b=some u->h'.get? b=some u)(heo:∃u,h'.get? e=some u):Un fs ex H (upd H x o) h h':=by
 have hx:∀b,H b=none->b≠x:=λb n z=>by subst z;rw[n]at mu;exact mu
 have hb:∀b,H b=none->b≠e:=λb n z=>by
  subst z
  rcases he with r|r
  ·exact hx b n r
  ·rw[n]at r;cases r
 have hm:∀b u,H b=some u->¬Mut (some u)->b≠x:=λb u q nm z=>by subst z;rw[q]at mu;exact nm mu
 refine⟨λb u q n _ _=>k b u (hb b n) q,λb u q n _ _=>⟨u.slots,k b u (hb b n) q⟩,λb u q n _=>by rw[zbc (hx b n)];exact n,λb u q _=>?_,
  λb xs q=>by rw[zbc (hm b _ q λz=>z)];exact q,λb u xs q=>by rw[zbc (hm b _ q λz=>z)];exact q,λb ps q=>⟨#[],by rw[zbc (hm b _ q λz=>z),q];simp⟩⟩
 by_cases hbe:b=e
 ·subst hbe;exact heo
 ·exact⟨u,k b u hbe q⟩
end
noncomputable def trk(h:Heap)(H:Hp):List Addr:=(List.range h.objs.size).filter λa=>(H a).isSome
noncomputable def hidT(h:Heap)(H:Hp):Heap:=PySem.W.hideAll h (trk h H)
theorem zacu(h:Heap)(H:Hp):(hidT h H).objs.size=h.objs.size:=PySem.W.hideAll_size _ _
theorem zaia{h:Heap}{H:Hp}{b:Addr}{o:Obj}(e:h.get? b=some o)(n:H b=none):(hidT h H).get? b=some o:=
 PySem.W.hideAll_get _ e λhm=>by
  have q:(H b).isSome=true:=(qCQ.mp hm).2
  rw[n]at q;simp at q
theorem zamm{h:Heap}{H:Hp}{b:Addr}{o:Obj}(e:(hidT h H).get? b=some o):h.get? b=some o/\H b=none:=by
 have e':h.get? b=some o:=PySem.W.of_hideAll (trk h H) e
 refine⟨e',?_⟩
 cases q:H b with
 | none=>rfl
 | some x=>
  have hm:b∈trk h H:=qCQ.mpr ⟨qAb.mpr (qU e'),by simp[q]⟩
  have z:(hidT h H).get? b=none:=PySem.W.hideAll_none (trk h H) hm
  rw[z]at e;cases e
set_option genInjectivity false in
structure Mod(K:qB)(mg:Str->Option Value)(base:Heap):Prop where
 kin:K.In base
 glob:base.Ns qR mg
 blt:∃mb,base.Ns builtinsNs mb/\∀x:Str,x≠"__name__"->mb x=bootBuiltins x
 nolimit:base.NoLimit
set_option genInjectivity false in
structure Cx where
 prog:Program
 w:World
 K:qB
 mg:Str->Option Value
 base:Heap
 A:Around
 N:List Str
 s₀:Shared
 H₀:Hp
 env:Env
 outer:List Env
 stack:List Env
 ex:List Addr
 fn:Str->Bool
 calm:Bool
 pn:List (Addr×Obj)
 xe:Value->Shared->Prop
noncomputable def frs(l:List Env):List Addr:=l.filterMap (·.frame)
noncomputable abbrev Cx.fs(X:Cx):List Addr:=frs X.outer
noncomputable def Vis(sc:Scope)(x:Str):Prop:=sc.names.lookup x=some .local\/sc.names.lookup x=some .cell\/sc.names.lookup x=some .free
noncomputable def visB(sc:Scope)(x:Str):Bool:=match sc.names.lookup x with
 | some .local=>true
 | some .cell=>true
 | some .free=>true
 | _=>false
theorem visB.of{sc:Scope}{x:Str}(h:visB sc x=true):Vis sc x:=by
 unfold visB at h
 cases e:sc.names.lookup x with
 | none=>rw[e]at h;cases h
 | some k=>rw[e]at h;cases k<;>first|exact .inl e|exact .inr (.inl e)|exact .inr (.inr e)|cases h
noncomputable def Loc(sc:Scope)(x:Str):Prop:=sc.names.lookup x=some .local\/sc.names.lookup x=some .cell
noncomputable def Look(env:Env)(h:Heap)(m:Str->Option Value)(x:Str)(u:Value):Prop:=
 (env.kindOf x=some .local/\m x=some u)\/((env.kindOf x=some .cell\/env.kindOf x=some .free)/\∃c,env.cells.lookup x=some c/\h.IsCell c (some u))
set_option genInjectivity false in
structure Cx.Ok(X:Cx):Prop where
 mod:Mod X.K X.mg X.base
 kind:X.env.scope.kind=.function
 glob:X.env.globals=qR
 blt:X.env.builtins=builtinsNs
 above:X.s₀.heap.objs.size<=X.env.locals
 inj:∀x y c,X.env.cells.lookup x=some c->X.env.cells.lookup y=some c->x=y
 has:∀x,(X.env.kindOf x=some .cell\/X.env.kindOf x=some .free)->∃c,X.env.cells.lookup x=some c
 cab:∀x c,X.fn x=true->X.env.cells.lookup x=some c->X.s₀.heap.objs.size<=c
 hd:X.calm=true->X.A.handled=none
 frames:X.A.frames=some X.stack
 stk:X.stack=X.outer\/(X.stack=X.env::X.outer/\X.env.frame=some X.env.locals)
 exf:∀b∈X.ex,b≠X.env.locals/\∀x c,X.env.cells.lookup x=some c->c≠b
 bs:∀b o,X.base.get? b=some o->X.s₀.heap.get? b=some o/\X.H₀ b=none
 bsz:X.base.objs.size<=X.s₀.heap.objs.size
 noex:∀b o,X.base.get? b=some o->b∉X.ex
 exfs:∀b∈X.ex,b∉X.fs
 funs:X.s₀.heap.FunFrames X.base X.outer
 frf:∀b∈X.fs,X.H₀ b=none
set_option genInjectivity false in
structure Inv(X:Cx)(pins:List (Addr×Obj))(σ:List (Option V))(H:Hp)(s:Shared):Prop where
 ok:X.Ok
 os:s.os=X.s₀.os
 bare:AllBare s.gens
 base:Un X.fs X.ex X.H₀ H X.s₀.heap s.heap
 loc:∃m,s.heap.Ns X.env.locals m/\∀(i:Nat)(x:Str)(v:V),X.N[i]?=some x->σ[i]?=some (some v)->Vis X.env.scope x->∃u,RelV v u/\Look X.env s.heap m x u
 cell:∀x c,X.env.cells.lookup x=some c->∃v,s.heap.IsCell c v
 free:H X.env.locals=none
 freeC:∀x c,X.env.cells.lookup x=some c->H c=none
 pin:∀p∈X.pn++pins,s.heap.get? p.1=some p.2/\H p.1=none/\p.1≠X.env.locals/\p.1∉X.fs/\∀v,p.2.data≠.cell v
 hok:HOk X.prog X.w H s.heap
 len:σ.length=X.N.length
section
variable{X:Cx}{pins:List (Addr×Obj)}{σ:List (Option V)}{H H':Hp}{s:Shared}{h':Heap}
theorem Cx.Ok.nofr(ok:X.Ok){b:Addr}{o:Obj}(e:X.base.get? b=some o):b∉X.fs:=λhb=>by
 have:=(ok.funs.mem hb).1
 rw[e]at this;cases this
theorem Inv.bs(I:Inv X pins σ H s):∀b o,X.base.get? b=some o->s.heap.get? b=some o/\H b=none:=λb o e=>
 ⟨I.base.keep b o (I.ok.bs b o e).1 (I.ok.bs b o e).2 (I.ok.nofr e) (I.ok.noex b o e),I.base.free b o (I.ok.bs b o e).1 (I.ok.bs b o e).2 (I.ok.noex b o e)⟩
theorem Inv.bk(I:Inv X pins σ H s):∀b o,X.base.get? b=some o->s.heap.get? b=some o:=λb o e=>(I.bs b o e).1
theorem Inv.mod(I:Inv X pins σ H s):Mod X.K X.mg X.base:=I.ok.mod
theorem Inv.kIn(I:Inv X pins σ H s):X.K.In s.heap:=I.ok.mod.kin.keeps I.bk
theorem Inv.fr(I:Inv X pins σ H s):∃m,Fr X.base X.env.locals s.heap m:=
 let⟨m,hn,_⟩:=I.loc
 ⟨m,hn,I.bk,qAD I.ok.bsz I.ok.above⟩
theorem Inv.lt(I:Inv X pins σ H s):X.env.locals<s.heap.objs.size:=let⟨_,hn,_⟩:=I.loc;hn.lt
theorem Inv.sz(I:Inv X pins σ H s):X.s₀.heap.objs.size<=s.heap.objs.size:=qAD I.ok.above (qBn I.lt)
theorem Inv.nofs(I:Inv X pins σ H s){a:Addr}(h:s.heap.objs.size<=a):a∉X.fs:=λhb=>by
 obtain⟨_,o,ho,_⟩:=I.ok.funs.mem hb
 exact absurd (qm (qU ho) (qAD I.sz h)) (qA5 _)
theorem Inv.cne(I:Inv X pins σ H s):∀x c,X.env.cells.lookup x=some c->c≠X.env.locals:=λx c e z=>by
 obtain⟨v,o,ho,hd⟩:=I.cell x c e
 obtain⟨m,⟨o',es,ep,ho',hd',_⟩,_⟩:=I.loc
 rw[z,ho']at ho;cases ho;rw[hd']at hd;cases hd
theorem Inv.funs(I:Inv X pins σ H s):s.heap.FunFrames X.base X.outer:=by
 have all:∀(l:List Env),(∀b∈frs l,b∈X.fs)->X.s₀.heap.FunFrames X.base l->s.heap.FunFrames X.base l:=by
  intro l
  induction l with
  | nil=>intro _ _;trivial
  | cons env r ih=>
   intro hs hl
   obtain⟨hk,⟨L,o,hf,hn,ho,hd⟩,hr⟩:=hl
   have hL:L∈X.fs:=hs L (by unfold frs;rw[qBf,hf];exact qk)
   obtain⟨sl,e⟩:=I.base.slot L o ho (I.ok.frf L hL) hL λz=>I.ok.exfs L z hL
   exact⟨hk,⟨L,_,hf,hn,e,hd⟩,ih (λb hb=>hs b (by unfold frs;rw[qBf,hf];exact qK _ hb)) hr⟩
 exact all X.outer (λ_ hb=>hb) I.ok.funs
theorem Inv.stack(I:Inv X pins σ H s):s.heap.FunFrames X.base X.stack:=by
 rcases I.ok.stk with e|⟨e,hf⟩
 ·rw[e];exact I.funs
 ·rw[e]
  obtain⟨m,hn,_⟩:=I.loc
  refine .cons (by rw[I.ok.kind];decide) hf hn ?_ I.funs
  exact qBG (qAD I.ok.bsz I.ok.above)
theorem Inv.stkSub(I:Inv X pins σ H s):∀b∈frs X.stack,b∈X.env.locals::X.fs:=λb hb=>by
 rcases I.ok.stk with e|⟨e,hf⟩
 ·rw[e]at hb;exact qK _ hb
 ·rw[e]at hb
  unfold frs at hb
  rw[qBf,hf]at hb
  exact hb
theorem Inv.stkFree(I:Inv X pins σ H s):∀b∈frs X.stack,H b=none:=λb hb=>by
 rcases qW.mp (I.stkSub b hb)with e|hb
 ·rw[e];exact I.free
 ·obtain⟨_,o,ho,_⟩:=I.ok.funs.mem hb
  exact I.base.free b o ho (I.ok.frf b hb) λz=>I.ok.exfs b z hb
theorem Inv.step{g':Array GenState}{t':Nat}{d':Drawn}{ch:List Addr}(I:Inv X pins σ H s)
  (hch:∀b∈ch,(b∈X.ex\/X.s₀.heap.objs.size<=b)/\b≠X.env.locals/\(∀x c,X.env.cells.lookup x=some c->c≠b)/\∀p∈X.pn++pins,p.1≠b)
  (keep:∀b o,b≠X.env.locals->b∉X.fs->b∉ch->s.heap.get? b=some o->H b=none->h'.get? b=some o)
  (slot:∀b o,b≠X.env.locals->b∈X.fs->b∉ch->s.heap.get? b=some o->H b=none->∃sl,h'.get? b=some {o with slots:=sl}) (free:∀b o,b∉ch->s.heap.get? b=some o->H b=none->H' b=none)
  (there:∀b o,b∉ch->s.heap.get? b=some o->∃o',h'.get? b=some o')
  (tups:∀b xs,H b=some (.tup xs)->H' b=some (.tup xs))(frzs:∀b o u,H b=some (.frz o u)->H' b=some (.frz o u))(tbls:∀b ps,H b=some (.tbl ps)->∃more,H' b=some (.tbl (ps++more)))
  (ns:∀m,s.heap.Ns X.env.locals m->h'.Ns X.env.locals m)(hok:HOk X.prog X.w H' h')(hg:AllBare g') :
  Inv X pins σ H' {s with heap:=h',gens:=g',drawn:=d',toks:=t'}:=by
 have neL:∀b o,X.s₀.heap.get? b=some o->b≠X.env.locals:=λb o e=>qAG (qm (qU e) I.ok.above)
 have neC:∀b o,X.s₀.heap.get? b=some o->b∉X.ex->b∉ch:=λb o e hx hb=>by
  rcases(hch b hb).1 with z|z
  ·exact hx z
  ·exact absurd (qm (qU e) z) (qA5 _)
 have cellK:∀x c,X.env.cells.lookup x=some c->∀v,s.heap.IsCell c v->h'.IsCell c v:=λx c e v ⟨o,ho,hd⟩=>by
  have nch:c∉ch:=λz=>(hch c z).2.2.1 x c e rfl
  by_cases hc:c∈X.fs
  ·obtain⟨sl,q⟩:=slot c o (I.cne x c e) hc nch ho (I.freeC x c e)
   exact⟨_,q,hd⟩
  ·exact⟨o,keep c o (I.cne x c e) hc nch ho (I.freeC x c e),hd⟩
 refine⟨I.ok,I.os,hg,⟨λb o e n hb hx=>?_,λb o e n hb hx=>?_,λb o e n hx=>?_,λb o e hx=>?_,λb xs e=>tups b xs (I.base.tups b xs e),λb o xs e=>frzs b o xs (I.base.frzs b o xs e),λb ps e=>?_⟩,?_,λx c e=>?_,?_,λx c e=>?_,λp hp=>?_,hok,I.len⟩
 ·exact keep b o (neL b o e) hb (neC b o e hx) (I.base.keep b o e n hb hx) (I.base.free b o e n hx)
 ·obtain⟨sl,e1⟩:=I.base.slot b o e n hb hx
  obtain⟨sl',e2⟩:=slot b _ (neL b o e) hb (neC b o e hx) e1 (I.base.free b o e n hx)
  exact⟨sl',e2⟩
 ·obtain⟨o',e1⟩:=I.base.there b o e hx
  exact free b o' (neC b o e hx) e1 (I.base.free b o e n hx)
 ·obtain⟨o',e1⟩:=I.base.there b o e hx
  exact there b o' (neC b o e hx) e1
 ·obtain⟨m1,e1⟩:=I.base.tbls b ps e
  obtain⟨m2,e2⟩:=tbls b _ e1
  exact⟨m1++m2,by rw[e2,Array.append_assoc]⟩
 ·obtain⟨m,hn,hl⟩:=I.loc
  refine⟨m,ns m hn,λi x v e1 e2 e3=>?_⟩
  obtain⟨u,r,l⟩:=hl i x v e1 e2 e3
  refine⟨u,r,?_⟩
  rcases l with l|⟨k,c,e,z⟩
  ·exact .inl l
  ·exact .inr ⟨k,c,e,cellK x c e _ z⟩
 ·obtain⟨v,z⟩:=I.cell x c e
  exact⟨v,cellK x c e v z⟩
 ·obtain⟨m,⟨o,_,_,ho,_⟩,_⟩:=I.loc
  exact free _ o (λz=>(hch _ z).2.1 rfl) ho I.free
 ·obtain⟨v,o,ho,hd⟩:=I.cell x c e
  exact free c o (λz=>(hch c z).2.2.1 x c e rfl) ho (I.freeC x c e)
 ·obtain⟨e,n,ne,nf,d⟩:=I.pin p hp
  have nch:p.1∉ch:=λz=>(hch p.1 z).2.2.2 p hp rfl
  exact⟨keep p.1 p.2 ne nf nch e n,free p.1 p.2 nch e n,ne,nf,d⟩
theorem Inv.un{t':Nat}(I:Inv X pins σ H s)(u:Un X.fs [] H H' s.heap h')(hok:HOk X.prog X.w H' h'):Inv X pins σ H' {s with heap:=h',toks:=t'}:=by
 obtain⟨m,⟨o,es,ep,ho,r⟩,_⟩:=id I.loc
 obtain⟨sl,hL⟩:=u.any ho I.free (by simp)
 exact I.step (g':=s.gens) (d':=s.drawn) (ch:=[]) (λ_ z=>nomatch z) (λb o _ hb _ e n=>u.keep b o e n hb (by simp)) (λb o _ hb _ e n=>u.slot b o e n hb (by simp)) (λb o _ e n=>u.free b o e n (by simp)) (λb o _ e=>u.there b o e (by simp)) u.tups u.frzs u.tbls (λm' hm=>by
  obtain⟨o',es',ep',ho',r'⟩:=hm
  rw[ho]at ho';cases ho'
  exact⟨_,es',ep',hL,r'⟩) hok I.bare
theorem Inv.call{g':Array GenState}{t':Nat}{d':Drawn}{ch:List Addr}(I:Inv X pins σ H s)(u:Un (frs X.stack) ch H H' s.heap h')(hok:HOk X.prog X.w H' h')(hg:AllBare g')
  (hch:∀b∈ch,(b∈X.ex\/X.s₀.heap.objs.size<=b)/\b≠X.env.locals/\(∀x c,X.env.cells.lookup x=some c->c≠b)/\∀p∈X.pn++pins,p.1≠b) :
  Inv X pins σ H' {s with heap:=h',gens:=g',drawn:=d',toks:=t'}:=by
 obtain⟨m,⟨o,es,ep,ho,r⟩,_⟩:=id I.loc
 obtain⟨sl,hL⟩:=u.any ho I.free λz=>(hch _ z).2.1 rfl
 exact I.step (ch:=ch) hch (λb o hL hb hc e n=>u.keep b o e n (λz=>(qW.mp (I.stkSub b z)).elim hL hb) hc) (λb o _ _ hc e n=>u.any e n hc) (λb o hc e n=>u.free b o e n hc) (λb o hc e=>u.there b o e hc) u.tups u.frzs u.tbls (λm' hm=>by
  obtain⟨o',es',ep',ho',r'⟩:=hm
  rw[ho]at ho';cases ho'
  exact⟨_,es',ep',hL,r'⟩) hok hg
theorem Inv.turned{t':Nat}{it:Addr}(I:Inv X pins σ H s)(k:∀b o,b≠it->s.heap.get? b=some o->h'.get? b=some o)(hn:H it=none)(hL:it≠X.env.locals)
  (h1:it∈X.ex\/X.s₀.heap.objs.size<=it) (h2:∀x c,X.env.cells.lookup x=some c->c≠it) (h3:∀p∈X.pn++pins,p.1≠it):Inv X pins σ H {s with heap:=h',toks:=t'}:=by
 have nit:∀b u,H b=some u->b≠it:=λb u e z=>by rw[z,hn]at e;cases e
 refine I.step (g':=s.gens) (d':=s.drawn) (ch:=[it]) (λb hb=>?_) (λb o _ _ hc e _=>k b o (λz=>hc (by simp[z])) e) (λb o _ _ hc e _=>⟨o.slots,k b o (λz=>hc (by simp[z])) e⟩) (λ_ _ _ _ n=>n)
  (λb o hc e=>⟨o,k b o (λz=>hc (by simp[z])) e⟩) (λ_ _ e=>e) (λ_ _ _ e=>e) (λb ps e=>⟨#[],by rw[e];simp⟩) (λm hm=>?_) (λb u e=>?_) I.bare
 ·have e:b=it:=by simpa using hb
  subst e
  exact⟨h1,hL,h2,h3⟩
 ·obtain⟨o,es,ep,ho,r⟩:=hm
  exact⟨o,es,ep,k _ o (qBA hL) ho,r⟩
 ·refine(I.hok b u e).stay (λc v hc q=>k c v ?_ q) (λ_ q=>q) λ_ _ q=>q
  rcases hc with z|z
  ·rw[z];exact nit b u e
  ·exact nit c _ z
theorem Inv.tok(I:Inv X pins σ H s)(t:Nat):Inv X pins σ H {s with toks:=t}:=I.un (h':=s.heap) (t':=t) Un.refl I.hok
theorem Inv.kept{t':Nat}(I:Inv X pins σ H s)(k:∀b u,s.heap.get? b=some u->h'.get? b=some u):Inv X pins σ H {s with heap:=h',toks:=t'}:=I.un (Un.kept k) (I.hok.kept k)
theorem Inv.laid{a:Addr}{o:HO}{t':Nat}(I:Inv X pins σ H s)(k:∀b u,s.heap.get? b=some u->h'.get? b=some u)(hp:s.heap.objs.size<=a)(new:zgb X.prog X.w (upd H a o) h' a o) :
  Inv X pins σ (upd H a o) {s with heap:=h',toks:=t'}:=I.un (Un.laid k hp (I.hok.fresh hp)) (I.hok.laid k hp new)
theorem Inv.write{x e:Addr}{o:HO}{t':Nat}(I:Inv X pins σ H s)(mu:Mut (H x))(he:e=x\/H e=some (.own x))(k:∀b u,b≠e->s.heap.get? b=some u->h'.get? b=some u)(heo:∃u,h'.get? e=some u)
  (new:zgb X.prog X.w (upd H x o) h' x o):Inv X pins σ (upd H x o) {s with heap:=h',toks:=t'}:=I.un (Un.write mu he k heo) (I.hok.write mu he k heo new)
theorem Inv.pins_of{pins':List (Addr×Obj)}(I:Inv X pins σ H s)(h:∀p∈pins',s.heap.get? p.1=some p.2/\H p.1=none/\p.1≠X.env.locals/\p.1∉X.fs/\∀v,p.2.data≠.cell v):Inv X pins' σ H s:=
 ⟨I.ok,I.os,I.bare,I.base,I.loc,I.cell,I.free,I.freeC,λp hp=>(qc.mp hp).elim (λz=>I.pin p (qAQ _ z)) (h p),I.hok,I.len⟩
theorem zso{N:List Str}(hN:N.Nodup){i j:Nat}{x:Str}(a:N[i]?=some x)(b:N[j]?=some x):i=j:=by
 obtain⟨h1,e1⟩:=qJ.mp a
 obtain⟨h2,e2⟩:=qJ.mp b
 exact(List.getElem_inj hN).mp (e1.trans e2.symm)
theorem zacv{M:Model}{A:Around}{E:Value->Shared->Prop}{i:Nat}{x:Str}{v:V}{u:Value}{Q:Unit->Shared->Prop}(I:Inv X pins σ H s)(hN:X.N.Nodup)(hi:X.N[i]?=some x)(hx:Loc X.env.scope x)(r:RelV v u)
  (h:∀s',Inv X pins (σ.set i (some v)) H s'->(∃a,Heap.SameBut a s.heap s'.heap/\(a=X.env.locals\/X.env.cells.lookup x=some a))->Q () s') (hf:X.fn x=true\/X.env.scope.names.lookup x=some .local:=by assumption):wpAny M A (storeName X.env x u) Q E s:=by
 obtain⟨m,hn,hl⟩:=id I.loc
 have hcls:(X.env.scope.kind==.class||(X.env.scope.kind==.module&&X.env.locals != X.env.globals))=false:=by rw[I.ok.kind];rfl
 have hiσ:i<σ.length:=by rw[I.len];exact(qJ.mp hi).1
 have cne:=I.cne
 have tracked:∀{a:Addr}{h':Heap},(∃o,s.heap.get? a=some o/\H a=none)->Heap.SameBut a s.heap h'->HOk X.prog X.w H h':=λ{a h'} ha hs b ob e=>by
  obtain⟨_,_,hfree⟩:=ha
  refine(I.hok b ob e).stay (λc w' hc q=>(hs.2 c ?_).trans q) (λ_ q=>q) λ_ _ q=>q
  rintro rfl
  rcases hc with rfl|hc
  ·rw[hfree]at e;cases e
  ·rw[hfree]at hc;cases hc
 rcases hx with hk|hk
 ·refine wpAny_storeName_local hk hn (λh' hn' hs=>?_) hcls
  obtain⟨oL,_,_,hoL,_⟩:=id hn
  refine h _ ⟨I.ok,I.os,I.bare,⟨λb o e n hb hx=>?_,λb o e n hb hx=>?_,I.base.free,λb o e hx=>?_,I.base.tups,I.base.frzs,I.base.tbls⟩,⟨_,hn',λj y v' e1 e2 e3=>?_⟩,λy c e=>?_,I.free,I.freeC,λp hp=>?_,tracked ⟨oL,hoL,I.free⟩ hs,by simpa using I.len⟩ ⟨_,hs,.inl rfl⟩
  ·exact(hs.2 b (qAG (qm (qU e) I.ok.above))).trans (I.base.keep b o e n hb hx)
  ·obtain⟨sl,e1⟩:=I.base.slot b o e n hb hx
   exact⟨sl,(hs.2 b (qAG (qm (qU e) I.ok.above))).trans e1⟩
  ·obtain⟨o',e1⟩:=I.base.there b o e hx
   exact⟨o',(hs.2 b (qAG (qm (qU e) I.ok.above))).trans e1⟩
  ·by_cases hj:j=i
   ·subst hj
    rw[hi]at e1;cases e1
    rw[qAA hiσ]at e2
    cases e2
    exact⟨u,r,.inl ⟨hk,by simp⟩⟩
   ·rw[qO (qBA hj)]at e2
    obtain⟨u',r',q⟩:=hl j y v' e1 e2 e3
    refine⟨u',r',?_⟩
    rcases q with⟨k,e⟩|⟨k,c,e,z⟩
    ·refine .inl ⟨k,?_⟩
     have:y≠x:=λe=>hj (zso hN e1 (e▸hi))
     simp[this,e]
    ·exact .inr ⟨k,c,e,z.sameBut hs (cne y c e)⟩
  ·obtain⟨w',z⟩:=I.cell y c e
   exact⟨w',z.sameBut hs (cne y c e)⟩
  ·obtain⟨e,n,ne,nf,d⟩:=I.pin p hp
   exact⟨(hs.2 p.1 ne).trans e,n,ne,nf,d⟩
 ·have hfn:X.fn x=true:=by
   rcases hf with z|z
   ·exact z
   ·rw[z]at hk;cases hk
  obtain⟨c,hc⟩:=I.ok.has x (.inl hk)
  obtain⟨w',z⟩:=I.cell x c hc
  refine wpAny_storeName_cell I.ok.kind hk hc z (λh' hc' hs=>?_)
  obtain⟨oc,hoc,hocd⟩:=id z
  refine h {s with heap:=h'} ⟨I.ok,I.os,I.bare,⟨λb o e n hb hx=>?_,λb o e n hb hx=>?_,I.base.free,λb o e hx=>?_,I.base.tups,I.base.frzs,I.base.tbls⟩,⟨m,hn.sameBut hs (qBA (cne x c hc)),λj y v' e1 e2 e3=>?_⟩,λy c' e=>?_,I.free,I.freeC,λp hp=>?_,tracked ⟨oc,hoc,I.freeC x c hc⟩ hs,by simpa using I.len⟩ ⟨c,hs,.inr hc⟩
  ·exact(hs.2 b (qAG (qm (qU e) (I.ok.cab x c hfn hc)))).trans (I.base.keep b o e n hb hx)
  ·obtain⟨sl,e1⟩:=I.base.slot b o e n hb hx
   exact⟨sl,(hs.2 b (qAG (qm (qU e) (I.ok.cab x c hfn hc)))).trans e1⟩
  ·obtain⟨o',e1⟩:=I.base.there b o e hx
   exact⟨o',(hs.2 b (qAG (qm (qU e) (I.ok.cab x c hfn hc)))).trans e1⟩
  ·by_cases hj:j=i
   ·subst hj
    rw[hi]at e1;cases e1
    rw[qAA hiσ]at e2
    cases e2
    exact⟨u,r,.inr ⟨.inl hk,c,hc,hc'⟩⟩
   ·rw[qO (qBA hj)]at e2
    obtain⟨u',r',q⟩:=hl j y v' e1 e2 e3
    refine⟨u',r',?_⟩
    rcases q with q|⟨k,c',e,z'⟩
    ·exact .inl q
    ·refine .inr ⟨k,c',e,z'.sameBut hs ?_⟩
     rintro rfl
     exact hj (zso hN e1 (I.ok.inj _ _ _ e hc▸hi))
  ·by_cases hcc:c'=c
   ·subst hcc;exact⟨_,hc'⟩
   ·obtain⟨w2,z2⟩:=I.cell y c' e
    exact⟨w2,z2.sameBut hs hcc⟩
  ·obtain⟨e,n,ne,nf,d⟩:=I.pin p hp
   refine⟨(hs.2 p.1 ?_).trans e,n,ne,nf,d⟩
   intro q
   rw[q,hoc]at e
   have q':oc=p.2:=qy e
   exact d w' (by rw[<- q'];exact hocd)
theorem zmp{M:Model}{A:Around}{E:Value->Shared->Prop}{i:Nat}{x:Str}{v:V}{u:Value}{Q:Unit->Shared->Prop}(I:Inv X pins σ H s)(hN:X.N.Nodup)(hi:X.N[i]?=some x)(hx:Loc X.env.scope x)(r:RelV v u)
  (h:∀s',Inv X pins (σ.set i (some v)) H s'->Q () s') (hf:X.fn x=true\/X.env.scope.names.lookup x=some .local:=by assumption):wpAny M A (storeName X.env x u) Q E s:=
 zacv I hN hi hx r (λs' I' _=>h s' I') hf
theorem Inv.call'{s':Shared}{ch:List Addr}(I:Inv X pins σ H s)(ho:s'.os=s.os)(u:Un (frs X.stack) ch H H' s.heap s'.heap)(hok:HOk X.prog X.w H' s'.heap)(hg:AllBare s'.gens)
  (hch:∀b∈ch,(b∈X.ex\/X.s₀.heap.objs.size<=b)/\b≠X.env.locals/\(∀x c,X.env.cells.lookup x=some c->c≠b)/\∀p∈X.pn++pins,p.1≠b):Inv X pins σ H' s':=by
 obtain⟨h',g',d',t',o'⟩:=s'
 have e:o'=s.os:=ho
 subst e
 exact I.call (g':=g') (t':=t') (d':=d') u hok hg hch
end
noncomputable abbrev XK:=Value->Option Addr->Hp->Prop
noncomputable abbrev St:=List (Option V)
noncomputable abbrev VK:=V->Hp->Prop
noncomputable abbrev TE:=St->Hp->VK->Prop
noncomputable abbrev TT:=St->Hp->(Bool->Hp->Prop)->Prop
noncomputable abbrev TA:=St->Hp->(List V->Hp->Prop)->Prop
set_option genInjectivity false in
structure Ends where
 nx:St->Hp->Prop
 rt:VK
 bk:St->Hp->Prop:=λ_ _=>False
 ct:St->Hp->Prop:=λ_ _=>False
noncomputable abbrev TS:=Ends->St->Hp->Prop
noncomputable def EP(X:Cx)(pins:List (Addr×Obj))(σ:St)(Q:VK)(u:Value)(s':Shared):Prop:=∃v H',Inv X pins σ H' s'/\RelV v u/\Q v H'
noncomputable def TP(X:Cx)(pins:List (Addr×Obj))(σ:St)(Q:Bool->Hp->Prop)(b:Bool)(s':Shared):Prop:=∃H',Inv X pins σ H' s'/\Q b H'
noncomputable def AP(X:Cx)(pins:List (Addr×Obj))(σ:St)(Q:List V->Hp->Prop)(us:List Value)(s':Shared):Prop:=∃vs H',Inv X pins σ H' s'/\Vals vs us/\Q vs H'
noncomputable def SP(X:Cx)(pins:List (Addr×Obj))(D:Ends)(f:Flow)(s':Shared):Prop:=
 match f with
 | .next=>∃σ' H',Inv X pins σ' H' s'/\D.nx σ' H'
 | .brk=>∃σ' H',Inv X pins σ' H' s'/\D.bk σ' H'
 | .cont=>∃σ' H',Inv X pins σ' H' s'/\D.ct σ' H'
 | .ret u=>∃v σ' H',Inv X pins σ' H' s'/\RelV v u/\D.rt v H'
noncomputable def PE(X:Cx)(e:Expr)(t:TE):Prop:=
 ∀(pins:List (Addr×Obj))(s:Shared)(σ:St)(H:Hp)(Q:VK),Inv X pins σ H s->t σ H Q->wpAny (model X.prog X.w) X.A (eval e X.env) (EP X pins σ Q) X.xe s
noncomputable def PT(X:Cx)(e:Expr)(t:TT):Prop:=
 ∀(pins:List (Addr×Obj))(s:Shared)(σ:St)(H:Hp)(Q:Bool->Hp->Prop),Inv X pins σ H s->t σ H Q->wpAny (model X.prog X.w) X.A (isTrue e X.env (eval e X.env)) (TP X pins σ Q) X.xe s
noncomputable def PW(X:Cx)(e:Expr)(t:TT):Prop:=
 ∀(whole:Sem Value)(pins:List (Addr×Obj))(s:Shared)(σ:St)(H:Hp)(Q:Bool->Hp->Prop),Inv X pins σ H s->t σ H Q->wpAny (model X.prog X.w) X.A (isTrue e X.env whole) (TP X pins σ Q) X.xe s
theorem PW.pt{X:Cx}{e:Expr}{t:TT}(h:PW X e t):PT X e t:=h _
noncomputable def PA(X:Cx)(es:List Expr)(t:TA):Prop:=
 ∀(pos:Pos)(pins:List (Addr×Obj))(s:Shared)(σ:St)(H:Hp)(Q:List V->Hp->Prop),Inv X pins σ H s->t σ H Q->wpAny (model X.prog X.w) X.A (spliced (backTo pos (starEach es X.env))) (AP X pins σ Q) X.xe s
noncomputable def PS(X:Cx)(st:Stmt)(t:TS):Prop:=
 ∀(pins:List (Addr×Obj))(s:Shared)(σ:St)(H:Hp)(D:Ends),Inv X pins σ H s->t D σ H->wpAny (model X.prog X.w) X.A (exec st X.env) (SP X pins D) X.xe s
noncomputable def PSs(X:Cx)(st:List Stmt)(t:TS):Prop:=
 ∀(pins:List (Addr×Obj))(s:Shared)(σ:St)(H:Hp)(D:Ends),Inv X pins σ H s->t D σ H->wpAny (model X.prog X.w) X.A (execs st X.env) (SP X pins D) X.xe s
theorem thn{α:Type}{t:Sem α}{Q Q':α->Shared->Prop}{M:Model}{A:Around}{E:Value->Shared->Prop}{s:Shared}(h:wpAny M A t Q E s)(hQ:∀a s,Q a s->Q' a s):wpAny M A t Q' E s:=qBI h hQ λ_ _ x=>x
section
variable{X:Cx}
theorem bin{a b:Expr}{ta tb:TE}(ha:PE X a ta)(hb:PE X b tb){pins:List (Addr×Obj)}{s:Shared}{σ:St}{H:Hp}{R:V->V->Hp->Prop}(I:Inv X pins σ H s)(h:ta σ H λx H1=>tb σ H1 λy H2=>R x y H2)
  {α:Type}{Q:α->Shared->Prop}{f:Value->Value->Sem α}
  (hf:∀v u s2 x y H2,Inv X pins σ H2 s2->RelV x v->RelV y u->R x y H2->wpAny (model X.prog X.w) X.A (f v u) Q X.xe s2) :
  wpAny (model X.prog X.w) X.A (eval a X.env) (λv s₁=>wpAny (model X.prog X.w) X.A (eval b X.env) (λu s₂=>wpAny (model X.prog X.w) X.A (f v u) Q X.xe s₂) X.xe s₁) X.xe s:=by
 refine thn (ha pins s σ H _ I h) λv s1 ⟨x,H1,I1,r1,q1⟩=>?_
 refine thn (hb pins s1 σ H1 _ I1 q1) λu s2 ⟨y,H2,I2,r2,q2⟩=>?_
 exact hf v u s2 x y H2 I2 r1 r2 q2
noncomputable def tVar(i:Nat):TE:=λσ H Q=>∃v,σ[i]?=some (some v)/\Q v H
noncomputable def tC(v:V):TE:=λ_ H Q=>Q v H
theorem zaku{i:Nat}{x:Str}{pos:Pos}(hN:X.N[i]?=some x)(hv:Vis X.env.scope x)(hd:(x==("__debug__":Str))=false:=by decide)(hcd:(x==("__classdict__":Str))=false:=by decide):PE X (.Name x pos) (tVar i):=by
 intro pins s σ H Q I h
 obtain⟨v,e,h⟩:=h
 obtain⟨m,hn,hl⟩:=I.loc
 obtain⟨u,r,l⟩:=hl i x v hN e hv
 have fin:EP X pins σ Q u s:=⟨v,H,I,r,h⟩
 rcases l with⟨hk,hm⟩|⟨hk,c,hc,hcell⟩
 ·exact wpAny_Name (wpAny_loadName_local I.ok.kind hk hn hm fin) hd
 ·rcases hk with hk|hk
  ·exact wpAny_Name (wpAny_loadName_cell I.ok.kind hk hc hcell fin) hd
  ·exact wpAny_Name (wpAny_loadName_free I.ok.kind hk hc hcell fin hcd) hd
theorem zil{i j pos}:PE X (.Constant (.int i) j pos) (tC (.int i)):=λ_ _ _ H _ I h=>wpAny_Constant_int ⟨.int i,H,I.tok _,⟨_,rfl⟩,h⟩
theorem zatw{b j pos}:PE X (.Constant (.bool b) j pos) (tC (.bl b)):=λ_ _ _ H _ I h=>Constant_bool ⟨.bl b,H,I,rfl,h⟩
theorem zaqk{j pos}:PE X (.Constant .none j pos) (tC .non):=λ_ _ _ H _ I h=>Constant_none ⟨.non,H,I,rfl,h⟩
theorem zaql{x j pos}:PE X (.Constant (.str x) j pos) (tC (.str x)):=λ_ _ _ H _ I h=>qCF ⟨.str x,H,I.tok _,⟨_,rfl⟩,h⟩
noncomputable def Gl(X:Cx)(x:Str):Prop:=X.env.kindOf x=some .globalImplicit
theorem zkf{E:Value->Shared->Prop}{pins:List (Addr×Obj)}{s:Shared}{σ:St}{H:Hp}{x:Str}{u:Value}{pos:Pos}{Q:Value->Shared->Prop}(I:Inv X pins σ H s)(hg:Gl X x)(hm:X.mg x=some u)(h:Q u s)
  (hd:(x==("__debug__":Str))=false:=by decide):wpAny (model X.prog X.w) X.A (eval (.Name x pos) X.env) Q E s:=
 qCS I.ok.kind hg (Calls.loadGlobal_global (by rw[I.ok.glob];exact I.mod.glob.keeps I.bk) hm h) hd
theorem zoa{E:Value->Shared->Prop}{pins:List (Addr×Obj)}{s:Shared}{σ:St}{H:Hp}{x:Str}{u:Value}{pos:Pos}{Q:Value->Shared->Prop}(I:Inv X pins σ H s)(hg:Gl X x)(hm:X.mg x=none)(hv:bootBuiltins x=some u)(h:Q u s)
  (hn:x≠"__name__":=by decide) (hd:(x==("__debug__":Str))=false:=by decide):wpAny (model X.prog X.w) X.A (eval (.Name x pos) X.env) Q E s:=by
 obtain⟨mb,h1,h2⟩:=I.mod.blt
 exact qCS I.ok.kind hg (Calls.loadGlobal_builtin (by rw[I.ok.glob];exact I.mod.glob.keeps I.bk) hm (by rw[I.ok.blt];exact h1.keeps I.bk) ((h2 x hn).trans hv) h) hd
theorem zamn{x:Str}{v:V}{u:Value}{pos:Pos}(hg:Gl X x)(hm:X.mg x=some u)(r:RelV v u)(hd:(x==("__debug__":Str))=false:=by decide):PE X (.Name x pos) (tC v):=
 λ_ _ _ H _ I h=>zkf I hg hm ⟨v,H,I,r,h⟩ hd
theorem zamo{x:Str}{v:V}{u:Value}{pos:Pos}(hg:Gl X x)(hm:X.mg x=none)(hv:bootBuiltins x=some u)(r:RelV v u)(hn:x≠"__name__":=by decide)(hd:(x==("__debug__":Str))=false:=by decide):PE X (.Name x pos) (tC v):=
 λ_ _ _ H _ I h=>zoa I hg hm hv ⟨v,H,I,r,h⟩ hn hd
variable{a b:Expr}{ta tb:TE}{pos:Pos}
noncomputable def tB(t:TE):TT:=λσ H Q=>t σ H λx H1=>∃c,x=.bl c/\Q c H1
variable{tA tB':TT}{rest:List Expr}
noncomputable def tOr(t u:TT):TT:=λσ H Q=>t σ H λc H1=>if c=true then Q true H1 else u σ H1 Q
noncomputable def tNot(t:TT):TT:=λσ H Q=>t σ H λc H1=>Q (!c) H1
theorem zaqm(ha:PT X a tA):PW X (.BoolOp .Or [a] pos) tA:=by
 intro wh pins s σ H Q I h
 refine isTrue_or (thn (ha pins s σ H Q I h) λc s1 e=>?_)
 cases c with
 | false=>exact isTrue_or_nil e
 | true=>exact e
theorem zatx(ha:PT X a tA)(hb:PW X (.BoolOp .Or (b::rest) pos) tB'):PW X (.BoolOp .Or (a::b::rest) pos) (tOr tA tB'):=by
 intro wh pins s σ H Q I h
 refine isTrue_or (thn (ha pins s σ H _ I h) λc s1 ⟨H1,I1,q1⟩=>?_)
 cases c with
 | true=>exact⟨H1,I1,q1⟩
 | false=>exact hb wh pins s1 σ H1 Q I1 q1
theorem zaqn(ha:PT X a tA):PT X (.UnaryOp .Not a pos) (tNot tA):=by
 intro pins s σ H Q I h
 exact isTrue_not (ha pins s σ H (λc H1=>Q (!c) H1) I h)
noncomputable def tAndV(ta tb:TE):TE:=λσ H Q=>ta σ H λx H1=>∃c,x=.bl c/\if c=true then tb σ H1 Q else Q (.bl false) H1
noncomputable def tOrV(ta tb:TE):TE:=λσ H Q=>ta σ H λx H1=>∃c,x=.bl c/\if c=true then Q (.bl true) H1 else tb σ H1 Q
noncomputable def tNotV(ta:TE):TE:=λσ H Q=>ta σ H λx H1=>∃c,x=.bl c/\Q (.bl (!c)) H1
theorem zaqo{op}{t:TE}(h:PE X a t):PE X (.BoolOp op [a] pos) t:=λpins s σ H Q I hw=>BoolOp_one (h pins s σ H Q I hw)
theorem zaqp(ha:PE X a ta)(hb:PE X (.BoolOp .And (b::rest) pos) tb):PE X (.BoolOp .And (a::b::rest) pos) (tAndV ta tb):=by
 intro pins s σ H Q I h
 refine BoolOp_and (thn (ha pins s σ H _ I h) λv s1 ⟨x,H1,I1,r1,q1⟩=>?_)
 obtain⟨c,rfl,q1⟩:=q1
 cases r1
 refine qAR ?_
 cases c with
 | true=>exact hb pins s1 σ H1 Q I1 q1
 | false=>exact⟨.bl false,H1,I1,rfl,q1⟩
theorem zaty(ha:PE X a ta)(hb:PE X (.BoolOp .Or (b::rest) pos) tb):PE X (.BoolOp .Or (a::b::rest) pos) (tOrV ta tb):=by
 intro pins s σ H Q I h
 refine BoolOp_or (thn (ha pins s σ H _ I h) λv s1 ⟨x,H1,I1,r1,q1⟩=>?_)
 obtain⟨c,rfl,q1⟩:=q1
 cases r1
 refine qAR ?_
 cases c with
 | false=>exact hb pins s1 σ H1 Q I1 q1
 | true=>exact⟨.bl true,H1,I1,rfl,q1⟩
theorem zaqq(ha:PE X a ta):PE X (.UnaryOp .Not a pos) (tNotV ta):=by
 intro pins s σ H Q I h
 refine UnaryOp_ (thn (ha pins s σ H _ I h) λv s1 ⟨x,H1,I1,r1,q1⟩=>?_)
 obtain⟨c,rfl,q1⟩:=q1
 cases r1
 exact not_of (qAR ⟨.bl (!c),H1,I1,rfl,q1⟩)
end
noncomputable def SqL(K:qB)(H:Hp)(a:Addr)(xs:List V):Prop:=
 Rd H a (.lst xs)\/
  ∃(o:Obj)(its:Array Value)(n:Nat),K.lookup a=some o/\o.cls=.type "list"/\o.dict=none/\o.data=.seq its n/\its.size<=qe/\Vals xs its.toList
noncomputable def SqT(K:qB)(H:Hp)(a:Addr)(xs:List V):Prop:=
 Rd H a (.tup xs)\/
  ∃(o:Obj)(its:Array Value)(n:Nat),K.lookup a=some o/\o.cls=.type "tuple"/\o.data=.seq its n/\its.size<=qe/\Vals xs its.toList
noncomputable def absV:Value->Option V
 | .none=>some .non
 | .bool b=>some (.bl b)
 | .int i _=>some (.int i)
 | .str x _=>some (.str x)
 | .bytes b _=>some (.byt b)
 | .float b _=>some (.flt b)
 | .ref a=>some (.ref a)
 | .type n=>some (.ty n)
 | _=>none
theorem RelV.abs{x:V}{u:Value}(r:RelV x u):absV u=some x:=by
 cases x with
 | non=>cases r;rfl
 | bl _=>cases r;rfl
 | int _=>obtain⟨t,rfl⟩:=r;rfl
 | str _=>obtain⟨t,rfl⟩:=r;rfl
 | byt _=>obtain⟨t,rfl⟩:=r;rfl
 | flt _=>obtain⟨t,rfl⟩:=r;rfl
 | ref _=>cases r;rfl
 | ty _=>cases r;rfl
theorem RelV.inj{x y:V}{u:Value}(r:RelV x u)(q:RelV y u):x=y:=qy (r.abs.symm.trans q.abs)
theorem Vals.inj:∀{xs ys:List V}{us:List Value},Vals xs us->Vals ys us->xs=ys
 | _,_,_,.nil,.nil=>rfl
 | _,_,_,.cons r t,.cons r' t'=>by rw[r.inj r',Vals.inj t t']
section
variable{X:Cx}{pins:List (Addr×Obj)}{σ:St}{H:Hp}{s:Shared}{a:Addr}{xs ys:List V}
theorem SqL.of{K:qB}(h:H a=some (.lst xs)):SqL K H a xs:=.inl (.inl h)
theorem SqT.of{K:qB}(h:H a=some (.tup xs)):SqT K H a xs:=.inl (.inl h)
theorem Inv.list(I:Inv X pins σ H s)(h:SqL X.K H a xs):∃its:List Value,Vals xs its/\PlainL s.heap a its.toArray/\xs.length<=qe:=by
 rcases h with h|⟨o,its,n,hk,hc,hd,hs,hz,r⟩
 ·obtain⟨z,its,n,r,e⟩:=h.ok I.hok
  exact⟨its,r,⟨_,n,e,rfl,rfl,rfl⟩,z⟩
 ·refine⟨its.toList,r,⟨o,n,I.kIn a o hk,hc,hd,by simpa using hs⟩,?_⟩
  have e:=r.length
  simp only[qCA]at e
  omega
theorem Inv.tuple(I:Inv X pins σ H s)(h:SqT X.K H a xs):∃its:List Value,Vals xs its/\IsTup s.heap a its.toArray/\xs.length<=qe:=by
 rcases h with h|⟨o,its,n,hk,hc,hs,hz,r⟩
 ·obtain⟨z,its,r,p⟩:=h.ok I.hok
  exact⟨its,r,p,z⟩
 ·refine⟨its.toList,r,⟨o,I.kIn a o hk,hc,n,by simpa using hs⟩,?_⟩
  have e:=r.length
  simp only[qCA]at e
  omega
theorem Inv.list_inj(I:Inv X pins σ H s)(h:SqL X.K H a xs)(h':SqL X.K H a ys):xs=ys:=by
 obtain⟨its,r,⟨o,n,e,_,_,d⟩,_⟩:=I.list h
 obtain⟨its',r',⟨o',n',e',_,_,d'⟩,_⟩:=I.list h'
 rw[e]at e';cases e'
 rw[d]at d'
 injection d' with d1 _
 have:its=its':=by simpa using congrArg Array.toList d1
 subst this
 exact r.inj r'
theorem Inv.tuple_inj(I:Inv X pins σ H s)(h:SqT X.K H a xs)(h':SqT X.K H a ys):xs=ys:=by
 obtain⟨its,r,⟨o,e,_,n,d⟩,_⟩:=I.tuple h
 obtain⟨its',r',⟨o',e',_,n',d'⟩,_⟩:=I.tuple h'
 rw[e]at e';cases e'
 rw[d]at d'
 injection d' with d1 _
 have:its=its':=by simpa using congrArg Array.toList d1
 subst this
 exact r.inj r'
end
noncomputable abbrev Cx.wish(X:Cx)(E:Value->Shared->Prop):Cx:={X with xe:=E}
noncomputable abbrev Cx.nox(X:Cx):Cx:=X.wish λ_ _=>False
theorem Cx.Ok.wish{X:Cx}(ok:X.Ok)(E:Value->Shared->Prop):(X.wish E).Ok:=
 ⟨ok.mod,ok.kind,ok.glob,ok.blt,ok.above,ok.inj,ok.has,ok.cab,ok.hd,ok.frames,ok.stk,ok.exf,ok.bs,ok.bsz,ok.noex,ok.exfs,ok.funs,ok.frf⟩
theorem Cx.Ok.unwish{X:Cx}{E:Value->Shared->Prop}(ok:(X.wish E).Ok):X.Ok:=
 ⟨ok.mod,ok.kind,ok.glob,ok.blt,ok.above,ok.inj,ok.has,ok.cab,ok.hd,ok.frames,ok.stk,ok.exf,ok.bs,ok.bsz,ok.noex,ok.exfs,ok.funs,ok.frf⟩
section
variable{X:Cx}{pins:List (Addr×Obj)}{σ:St}{H:Hp}{s:Shared}{E:Value->Shared->Prop}
theorem Inv.wish(I:Inv X pins σ H s)(E:Value->Shared->Prop):Inv (X.wish E) pins σ H s:=⟨I.ok.wish E,I.os,I.bare,I.base,I.loc,I.cell,I.free,I.freeC,I.pin,I.hok,I.len⟩
theorem Inv.unwish(I:Inv (X.wish E) pins σ H s):Inv X pins σ H s:=⟨I.ok.unwish,I.os,I.bare,I.base,I.loc,I.cell,I.free,I.freeC,I.pin,I.hok,I.len⟩
theorem SP.unwish{D:Ends}{f:Flow}{s':Shared}(h:SP (X.wish E) pins D f s'):SP X pins D f s':=by
 cases f with
 | next=>obtain⟨σ',H',I,q⟩:=h;exact⟨σ',H',I.unwish,q⟩
 | brk=>obtain⟨σ',H',I,q⟩:=h;exact⟨σ',H',I.unwish,q⟩
 | cont=>obtain⟨σ',H',I,q⟩:=h;exact⟨σ',H',I.unwish,q⟩
 | ret u=>obtain⟨v,σ',H',I,r,q⟩:=h;exact⟨v,σ',H',I.unwish,r,q⟩
theorem PSs.nox{st:List Stmt}{t:TS}(h:PSs X.nox st t):PSs X st t:=λpins s σ H D I hw=>
 qBI (h pins s σ H D (I.wish _) hw) (λ_ _ q=>q.unwish) λ_ _ z=>False.elim z
end
section
variable{X:Cx}{st:Stmt}{rest:List Stmt}{t u:TS}{e:Expr}{te:TE}{pos:Pos}
noncomputable def tNext:TS:=λD σ H=>D.nx σ H
noncomputable def tSeq(t u:TS):TS:=λD σ H=>t {D with nx:=u D} σ H
theorem zamp:PSs X [] tNext:=λ_ _ σ H _ I h=>qAx ⟨σ,H,I,h⟩
theorem zlf(h1:PS X st t)(h2:PSs X rest u):PSs X (st::rest) (tSeq t u):=by
 intro pins s σ H D I h
 refine qBh (thn (h1 pins s σ H {D with nx:=u D} I h) λf s1 q=>?_)
 cases f with
 | next=>
  obtain⟨σ',H',I',q⟩:=q
  exact h2 pins s1 σ' H' D I' q
 | ret v=>exact q
 | brk=>exact q
 | cont=>exact q
theorem zmf(h1:PS X st t):PSs X [st] t:=by
 intro pins s σ H D I h
 refine qBh (thn (h1 pins s σ H D I h) λf s1 q=>?_)
 cases f with
 | next=>exact qAx q
 | ret v=>exact q
 | brk=>exact q
 | cont=>exact q
theorem Inv.quiet{pins:List (Addr×Obj)}{σ:St}{H:Hp}{s:Shared}(I:Inv X pins σ H s):interactive X.env=false:=by simp[interactive,I.ok.kind]
noncomputable def tDrop(te:TE):TS:=λD σ H=>te σ H λ_ H1=>D.nx σ H1
theorem zsp(he:PE X e te)(hs:swapsWith e none pos.line X.env=pure false:=by rfl):PS X (.Expr e pos) (tDrop te):=by
 intro pins s σ H D I h
 exact qCu (thn (he pins s σ H _ I h) λv s1 ⟨x,H1,I1,r1,q1⟩=>⟨σ,H1,I1,q1⟩) I.quiet hs
noncomputable def tRet(te:TE):TS:=λD σ H=>te σ H D.rt
theorem zakv(he:PE X e te):PS X (.Return (some e) pos) (tRet te):=by
 intro pins s σ H D I h
 exact wpAny_Return_some (thn (he pins s σ H _ I h) λv s1 ⟨x,H1,I1,r1,q1⟩=>⟨x,σ,H1,I1,r1,q1⟩)
noncomputable def tIfS(c:TT)(t u:TS):TS:=λD σ H=>c σ H λb H1=>if b=true then t D σ H1 else u D σ H1
theorem zaqr{c:Expr}{a b:List Stmt}{tc:TT}(hc:PT X c tc)(ha:PSs X a t)(hb:PSs X b u):PS X (.If c a b pos) (tIfS tc t u):=by
 intro pins s σ H D I h
 refine wpAny_If (thn (hc pins s σ H _ I h) λd s1 ⟨H1,I1,q1⟩=>?_)
 cases d with
 | true=>exact ha pins s1 σ H1 D I1 q1
 | false=>exact hb pins s1 σ H1 D I1 q1
noncomputable def tNever:TS:=λ_ _ _=>False
theorem zaib:PS X st tNever:=λ_ _ _ _ _ _ h=>h.elim
end
noncomputable abbrev TG:=V->St->Hp->(St->Hp->Prop)->Prop
noncomputable abbrev TGs:=List V->St->Hp->(St->Hp->Prop)->Prop
noncomputable def PG(X:Cx)(target:Expr)(t:TG):Prop:=
 ∀(pins:List (Addr×Obj))(s:Shared)(σ:St)(H:Hp)(v:V)(u:Value)(Q:St->Hp->Prop),Inv X pins σ H s->RelV v u->t v σ H Q->
  wpAny (model X.prog X.w) X.A (assign target X.env u) (λ_ s'=>∃σ' H',Inv X pins σ' H' s'/\Q σ' H') X.xe s
noncomputable def PGs(X:Cx)(ts:List Expr)(t:TGs):Prop:=
 ∀(pins:List (Addr×Obj))(s:Shared)(σ:St)(H:Hp)(vs:List V)(us:List Value)(Q:St->Hp->Prop),Inv X pins σ H s->Vals vs us->t vs σ H Q->
  wpAny (model X.prog X.w) X.A (assignInOrder ((assignEach ts X.env).map (·.2)) us) (λ_ s'=>∃σ' H',Inv X pins σ' H' s'/\Q σ' H') X.xe s
noncomputable abbrev TIp:=V->V->Hp->VK->Prop
noncomputable def PIp(X:Cx)(op:Operator)(t:TIp):Prop:=
 ∀(pins:List (Addr×Obj))(s:Shared)(σ:St)(H:Hp)(x y:V)(v u:Value)(Q:VK),Inv X pins σ H s->RelV x v->RelV y u->t x y H Q->
  wpAny (model X.prog X.w) X.A (inplaceOp op v u) (EP X pins σ Q) X.xe s
section
variable{X:Cx}{pos:Pos}
noncomputable def gName(i:Nat):TG:=λv σ H Q=>Q (σ.set i (some v)) H
theorem zya{i:Nat}{x:Str}(hN:X.N.Nodup)(hi:X.N[i]?=some x)(hx:Loc X.env.scope x)(hf:X.fn x=true\/X.env.scope.names.lookup x=some .local:=by assumption):PG X (.Name x pos) (gName i):=by
 intro pins s σ H v u Q I r h
 exact wpAny_assign_Name (zmp I hN hi hx r (λs' I'=>⟨_,H,I',h⟩) hf)
noncomputable def gNil:TGs:=λvs σ H Q=>vs=[]/\Q σ H
noncomputable def gCons(t:TG)(u:TGs):TGs:=λvs σ H Q=>∃v r,vs=v::r/\t v σ H λσ' H'=>u r σ' H' Q
theorem zamq:PGs X [] gNil:=by
 intro pins s σ H vs us Q I r h
 obtain⟨e,h⟩:=h
 subst e
 cases r
 exact assignInOrder_nil ⟨σ,H,I,h⟩
theorem zaic{e:Expr}{es:List Expr}{t:TG}{u:TGs}(h1:PG X e t)(h2:PGs X es u)
  (hs:(assignEach (e::es) X.env).map (·.2)=assign e X.env::(assignEach es X.env).map (·.2):=by rfl):PGs X (e::es) (gCons t u):=by
 intro pins s σ H vs us Q I r h
 obtain⟨v,vr,e1,h⟩:=h
 subst e1
 cases r with
 | cons r rr=>
  rw[hs]
  refine assignInOrder_cons (thn (h1 pins s σ H _ _ _ I r h) λ_ s1 ⟨σ1,H1,I1,q1⟩=>?_)
  exact h2 pins s1 σ1 H1 _ _ Q I1 rr q1
noncomputable def gTup(K:qB)(n:Nat)(t:TGs):TG:=λv σ H Q=>∃a xs,v=.ref a/\SqT K H a xs/\xs.length=n/\t xs σ H Q
theorem zaqs{es:List Expr}{k:Nat}{t:TGs}{n:Nat}(hc:X.calm=true)(h:PGs X es t)
  (hn:(assignEach es X.env).length=n:=by rfl) (hst:(assignEach es X.env).findIdx? (·.1)=none:=by rfl):PG X (.Tuple es k pos) (gTup X.K n t):=by
 intro pins s σ H v u Q I r hw
 obtain⟨a,xs,e1,hq,hl,hw⟩:=hw
 subst e1
 cases r
 obtain⟨its,rv,ht,hz⟩:=I.tuple hq
 refine assign_Tuple_tuple (I.ok.hd hc) ht (by simp[hn,<- hl,rv.length]) hst λh' hx=>?_
 have I1:Inv X pins σ H {s with heap:=h'}:=I.kept (t':=s.toks) λb o e=>hx b o (qAG (qU e)) e
 exact h pins _ σ H xs _ Q I1 (by simpa using rv) hw
noncomputable def tAsg(te:TE)(g:TG):TS:=λD σ H=>te σ H λx H1=>g x σ H1 D.nx
theorem zaqt{tg e:Expr}{te:TE}{g:TG}(he:PE X e te)(hg:PG X tg g)(hs:swapsWithSole [tg] e pos.line X.env=pure false:=by rfl)(hw:swappedStores [tg] e X.env=pure none:=by rfl)
  (h1:(assignEach [tg] X.env).map (·.2)=[assign tg X.env]:=by rfl):PS X (.Assign [tg] e pos) (tAsg te g):=by
 intro pins s σ H D I h
 refine wpAny_Assign_stores (thn (he pins s σ H _ I h) λv s1 ⟨x,H1,I1,r1,q1⟩=>?_) hs hw
 rw[h1]
 exact thn (hg pins s1 σ H1 x v _ I1 r1 q1) λ_ s2 q=>q
theorem zzp{i:Nat}{x:Str}{e:Expr}{te:TE}{pos':Pos}(hN:X.N.Nodup)(hi:X.N[i]?=some x)(hx:Loc X.env.scope x)(he:PE X e te)(hs:swapsWith e (some (.Name x pos')) pos.line X.env=pure false:=by rfl)(hf:X.fn x=true\/X.env.scope.names.lookup x=some .local:=by assumption) :
  PS X (.Assign [.Name x pos'] e pos) (tAsg te (gName i)):=by
 intro pins s σ H D I h
 refine wpAny_Assign_Name (thn (he pins s σ H _ I h) λv s1 ⟨y,H1,I1,r1,q1⟩=>?_) hs
 exact zmp I1 hN hi hx r1 (λs2 I2=>⟨_,H1,I2,q1⟩) hf
noncomputable def tAug(i:Nat)(te:TE)(ti:TIp):TS:=λD σ H=>∃x,σ[i]?=some (some x)/\te σ H λy H1=>ti x y H1 λz H2=>D.nx (σ.set i (some z)) H2
theorem zaqu{i:Nat}{x:Str}{e:Expr}{te:TE}{op:Operator}{ti:TIp}{pos':Pos}(hN:X.N.Nodup)(hi:X.N[i]?=some x)(hx:Loc X.env.scope x)(he:PE X e te)(ho:PIp X op ti)(hf:X.fn x=true\/X.env.scope.names.lookup x=some .local:=by assumption) :
  PS X (.AugAssign (.Name x pos') op e pos) (tAug i te ti):=by
 intro pins s σ H D I h
 obtain⟨v,e1,h⟩:=h
 obtain⟨m,hn,hl⟩:=I.loc
 have vis:Vis X.env.scope x:=by rcases hx with k|k;exact .inl k;exact .inr (.inl k)
 obtain⟨u,r,l⟩:=hl i x v hi e1 vis
 refine wpAny_AugAssign_Name ?_
 have go:wpAny (model X.prog X.w) X.A (eval e X.env) (λw s₂=>wpAny (model X.prog X.w) X.A (inplaceOp op u w) (λr s₃=>wpAny (model X.prog X.w) X.A (storeName X.env x r) (λ_=>SP X pins D .next) X.xe s₃) X.xe s₂) X.xe s:=by
  refine thn (he pins s σ H _ I h) λw s1 ⟨y,H1,I1,r1,q1⟩=>?_
  refine thn (ho pins s1 σ H1 v y u w _ I1 r r1 q1) λz s2 ⟨zv,H2,I2,r2,q2⟩=>?_
  exact zmp I2 hN hi hx r2 (λs3 I3=>⟨_,H2,I3,q2⟩) hf
 rcases l with⟨hk,hm⟩|⟨hk,c,hc,hcell⟩
 ·exact wpAny_loadName_local I.ok.kind hk hn hm go
 ·rcases hk with hk|hk
  ·exact wpAny_loadName_cell I.ok.kind hk hc hcell go
  ·rcases hx with k|k
   ·have:X.env.scope.names.lookup x=some .free:=hk
    rw[k]at this;cases this
   ·have:X.env.scope.names.lookup x=some .free:=hk
    rw[k]at this;cases this
end
set_option genInjectivity false in
structure It where
 go:Nat->Hp->Prop
 yld:Nat->Hp->V->Hp->Prop
 stop:Nat->Hp->Prop
noncomputable def FpOk(X:Cx)(pins:List (Addr×Obj))(H:Hp)(b:Addr):Prop:=
 H b=none/\b≠X.env.locals/\b∉X.fs/\(b∈X.ex\/X.s₀.heap.objs.size<=b)/\(∀x c,X.env.cells.lookup x=some c->c≠b)/\∀p∈X.pn++pins,p.1≠b
theorem Inv.fpOk{X:Cx}{pins:List (Addr×Obj)}{σ:St}{H H':Hp}{s:Shared}{b:Addr}(I:Inv X pins σ H s)(hb:s.heap.objs.size<=b)(hn:H' b=none):FpOk X pins H' b:=by
 refine⟨hn,qCN (qm I.lt hb),I.nofs hb,.inr (qAD I.sz hb),λx c e z=>?_,λp hp z=>?_⟩
 ·obtain⟨v,q⟩:=I.cell x c e
  exact absurd (qm q.lt (by rw[z];exact hb)) (qA5 _)
 ·exact absurd (qm (qU (I.pin p hp).1) (by rw[z];exact hb)) (qA5 _)
set_option genInjectivity false in
structure Turn(P:Program)(w:World)(K:qB)(tg:Expr)(J:It)(fp:List Addr)(it:Addr)(tn:Nat->Heap->Prop):Prop where
 mem:it∈fp
 obj:∀i h,tn i h->∀b∈fp,∃o,h.get? b=some o/\∀v,o.data≠.cell v
 keep:∀i h h',tn i h->(∀b∈fp,∀o,h.get? b=some o->h'.get? b=some o)->tn i h'
 item:∀(X:Cx),X.prog=P->X.w=w->X.K=K->X.calm=true->∀(i:Nat)(pins:List (Addr×Obj))(s:Shared)(σ:St)(H:Hp)(E:Value->Shared->Prop),Inv X pins σ H s->(∀b∈fp,FpOk X pins H b)->tn i s.heap->J.go i H->
  wpAny (model P w) X.A (pyNext (.ref it)) (λr s1=>∃u,r=some u/\
   wpAny (model P w) X.A (letOwnedTupleGo tg (.ref it) u) (λ_ s2=>∃x H',Inv X pins σ H' s2/\RelV x u/\J.yld i H x H'/\tn (i+1) s2.heap/\∀b∈fp,H' b=none) E s1) E s
 done:∀(X:Cx),X.prog=P->X.w=w->X.K=K->X.calm=true->∀(i:Nat)(pins:List (Addr×Obj))(s:Shared)(σ:St)(H:Hp)(E:Value->Shared->Prop),Inv X pins σ H s->(∀b∈fp,FpOk X pins H b)->tn i s.heap->J.stop i H->
  wpAny (model P w) X.A (pyNext (.ref it)) (λr s1=>r=none/\Inv X pins σ H s1) E s
 self:∀(A:Around)(i:Nat)(s:Shared)(Q:Value->Shared->Prop)(E:Value->Shared->Prop),tn i s.heap->Q (.ref it) s->wpAny (model P w) A (pyIter (.ref it)) Q E s
noncomputable abbrev TI:=St->Hp->(It->Hp->Prop)->Prop
noncomputable def PIE(X:Cx)(pins:List (Addr×Obj))(σ:St)(tg:Expr)(R:It->Hp->Prop)(itv:Value)(s2:Shared):Prop:=
 ∃(it:Addr)(fp:List Addr)(tn:Nat->Heap->Prop)(J:It)(H':Hp),itv=.ref it/\Inv X pins σ H' s2/\Turn X.prog X.w X.K tg J fp it tn/\tn 0 s2.heap/\(∀b∈fp,FpOk X pins H' b)/\R J H'
noncomputable def PI(X:Cx)(tg iter:Expr)(wi:TI):Prop:=
 ∀(pins:List (Addr×Obj))(s:Shared)(σ:St)(H:Hp)(R:It->Hp->Prop),Inv X pins σ H s->wi σ H R->
  wpAny (model X.prog X.w) X.A (eval iter X.env) (λv s1=>wpAny (model X.prog X.w) X.A (pyIter v) (PIE X pins σ tg R) X.xe s1) X.xe s
theorem zaid{M:Model}{A:Around}{E:Value->Shared->Prop}{s:Shared}{tg:Expr}{it:Addr}{u:Value}{o:Obj}{n:String}{vs:Array Value}{Q:Unit->Shared->Prop}(ho:s.heap.get? it=some o)(hc:o.cls=.type n)(hd:o.data=.fields vs)
  (hn:["enumerate","zip","dict_itemiterator","dict_reverseitemiterator","odict_iterator","itertools.zip_longest","itertools.pairwise"].contains n=false) (hQ:Q () s):wpAny M A (letOwnedTupleGo tg (.ref it) u) Q E s:=by
 unfold letOwnedTupleGo
 cases tg<;>first
  | exact qQ hQ
  | (cases u<;>first
    | exact qQ hQ
    | (refine qE (wpAny_load ho ?_)
       rw[hc,hd]
       show wpAny M A (if(["enumerate","zip","dict_itemiterator","dict_reverseitemiterator","odict_iterator","itertools.zip_longest","itertools.pairwise"].contains n&&vs[0]?==some (rawInt _))=true then _ else _) Q E s
       rw[if_neg (by intro h;rw[hn,Bool.false_and]at h;cases h)]
       exact qQ hQ))
noncomputable def Itl(K:qB)(a:Addr):It:=
 ⟨λi H=>∃xs x,SqL K H a xs/\xs[i]?=some x,λi H x H'=>H'=H/\∀xs,SqL K H a xs->xs[i]?=some x,λi H=>∃xs,SqL K H a xs/\xs.length<=i⟩
noncomputable def Itt(K:qB)(a:Addr):It:=
 ⟨λi H=>∃xs x,SqT K H a xs/\xs[i]?=some x,λi H x H'=>H'=H/\∀xs,SqT K H a xs->xs[i]?=some x,λi H=>∃xs,SqT K H a xs/\xs.length<=i⟩
noncomputable def Itr(lo:Int)(n:Nat):It:=⟨λi _=>i<n,λi H x H'=>H'=H/\x=.int (lo+i),λi _=>n<=i⟩
theorem zum{P:Program}{w:World}{K:qB}{tg:Expr}(a it:Addr):Turn P w K tg (Itl K a) [it] it (λi h=>h.IsListIter it a i) where
 mem:=by simp
 obj:=λi h st b hb=>by
  have e:b=it:=by simpa using hb
  subst e
  obtain⟨o,e,c,d⟩:=st
  exact⟨o,e,λv z=>by rw[d]at z;cases z⟩
 keep:=λi h h' st k=>st.at λo e=>k it (by simp) o e
 item:=by
  intro X hP hw hK hc i pins s σ H E I hf st hg
  subst hP hw hK
  obtain⟨xs,x,hq,hx⟩:=hg
  obtain⟨its,rv,p,hz⟩:=I.list hq
  obtain⟨u,hu,ru⟩:=rv.get hx
  obtain⟨f0,f1,f2,f3,f4,f5⟩:=hf it (by simp)
  refine wpAny_pyNext_list_item st p.isList (x:=u) (by simpa using hu) λh' st' sb=>?_
  have I1:Inv X pins σ H {s with heap:=h'}:=I.turned (t':=s.toks) (λb o hb e=>(sb.2 b hb).trans e) f0 f1 f3 f4 f5
  obtain⟨o,e,c,d⟩:=id st'
  exact⟨u,rfl,zaid (s:={s with heap:=h'}) e c d (by decide) ⟨x,H,I1,ru,⟨rfl,λys hy=>by rw[I.list_inj hy hq];exact hx⟩,st',λb hb=>(hf b hb).1⟩⟩
 done:=by
  intro X hP hw hK hc i pins s σ H E I hf st hg
  subst hP hw hK
  obtain⟨xs,hq,hx⟩:=hg
  obtain⟨its,rv,p,hz⟩:=I.list hq
  obtain⟨f0,f1,f2,f3,f4,f5⟩:=hf it (by simp)
  have hl:=rv.length
  exact wpAny_pyNext_list_end (I.ok.hd hc) st p.isList (by simp;omega) λh' eb=>⟨rfl,I.turned (t':=s.toks) (λb o hb e=>eb b o hb e) f0 f1 f3 f4 f5⟩
 self:=λ_ _ _ _ _ st h=>wpAny_pyIter_listiter st h
theorem zabe{P:Program}{w:World}{K:qB}{tg:Expr}(a it:Addr):Turn P w K tg (Itt K a) [it] it (λi h=>h.IsTupleIter it a i) where
 mem:=by simp
 obj:=λi h st b hb=>by
  have e:b=it:=by simpa using hb
  subst e
  obtain⟨o,e,c,d⟩:=st
  exact⟨o,e,λv z=>by rw[d]at z;cases z⟩
 keep:=λi h h' st k=>st.at λo e=>k it (by simp) o e
 item:=by
  intro X hP hw hK hc i pins s σ H E I hf st hg
  subst hP hw hK
  obtain⟨xs,x,hq,hx⟩:=hg
  obtain⟨its,rv,p,hz⟩:=I.tuple hq
  obtain⟨u,hu,ru⟩:=rv.get hx
  obtain⟨f0,f1,f2,f3,f4,f5⟩:=hf it (by simp)
  refine wpAny_pyNext_tuple_item st (show s.heap.IsTuple a its.toArray from p) (x:=u) (by simpa using hu) λh' st' sb=>?_
  have I1:Inv X pins σ H {s with heap:=h'}:=I.turned (t':=s.toks) (λb o hb e=>(sb.2 b hb).trans e) f0 f1 f3 f4 f5
  obtain⟨o,e,c,d⟩:=id st'
  exact⟨u,rfl,zaid (s:={s with heap:=h'}) e c d (by decide) ⟨x,H,I1,ru,⟨rfl,λys hy=>by rw[I.tuple_inj hy hq];exact hx⟩,st',λb hb=>(hf b hb).1⟩⟩
 done:=by
  intro X hP hw hK hc i pins s σ H E I hf st hg
  subst hP hw hK
  obtain⟨xs,hq,hx⟩:=hg
  obtain⟨its,rv,p,hz⟩:=I.tuple hq
  obtain⟨f0,f1,f2,f3,f4,f5⟩:=hf it (by simp)
  have hl:=rv.length
  exact wpAny_pyNext_tuple_end (I.ok.hd hc) st (show s.heap.IsTuple a its.toArray from p) (by simp;omega) λh' eb=>⟨rfl,I.turned (t':=s.toks) (λb o hb e=>eb b o hb e) f0 f1 f3 f4 f5⟩
 self:=λ_ _ _ _ _ st h=>wpAny_pyIter_tupleiter st h
theorem zabf{P:Program}{w:World}{K:qB}{tg:Expr}(it:Addr)(lo:Int)(n:Nat):Turn P w K tg (Itr lo n) [it] it (λi h=>IsRangeIter h it (lo+(i:Nat) * 1) ((n:Int) - (i:Nat)) 1) where
 mem:=by simp
 obj:=λi h st b hb=>by
  have e:b=it:=by simpa using hb
  subst e
  exact⟨_,st,λv z=>by
   have z':Data.fields _=Data.cell v:=z
   cases z'⟩
 keep:=λi h h' st k=>k it (by simp) _ st
 item:=by
  intro X hP hw hK hc i pins s σ H E I hf st hg
  subst hP hw hK
  obtain⟨f0,f1,f2,f3,f4,f5⟩:=hf it (by simp)
  have W:=Walks.range (prog:=X.prog) (w:=X.w) (I.ok.hd hc) it lo 1 n
  refine W.item i s _ _ hg st λv h' tk hv st' kk=>?_
  obtain⟨t,rfl⟩:=hv
  have I1:Inv X pins σ H {s with heap:=h',toks:=tk}:=I.turned (λb o hb e=>kk b o (by simpa using hb) e) f0 f1 f3 f4 f5
  refine⟨_,rfl,zaid (s:={s with heap:=h',toks:=tk}) (n:="range_iterator") st' rfl rfl (by decide) ⟨.int (lo+i),H,I1,⟨t,?_⟩,⟨rfl,rfl⟩,st',λb hb=>(hf b hb).1⟩⟩
  rw[Int.mul_one]
 done:=by
  intro X hP hw hK hc i pins s σ H E I hf st hg
  subst hP hw hK
  obtain⟨f0,f1,f2,f3,f4,f5⟩:=hf it (by simp)
  exact wpAny_pyNext_range_end (I.ok.hd hc) st (by have:n<=i:=hg;omega) λh' eb=>⟨rfl,I.turned (t':=s.toks) (λb o hb e=>eb b o hb e) f0 f1 f3 f4 f5⟩
 self:=λ_ _ _ _ _ st h=>wpAny_pyIter_rangeiter st h
section
variable{X:Cx}{tg:Expr}
noncomputable def zaqv(K:qB)(tl:TE):TI:=λσ H R=>tl σ H λx H1=>∃a,x=.ref a/\(∃xs,SqL K H1 a xs)/\R (Itl K a) H1
theorem zamr{l:Expr}{tl:TE}(hl:PE X l tl):PI X tg l (zaqv X.K tl):=by
 intro pins s σ H R I h
 refine thn (hl pins s σ H _ I h) λv s1 ⟨x,H1,I1,r1,q1⟩=>?_
 obtain⟨a,e,⟨xs,hq⟩,q⟩:=q1
 subst e
 cases r1
 obtain⟨its,rv,p,hz⟩:=I1.list hq
 refine qBc p.isList ?_
 refine⟨s1.heap.objs.size,[s1.heap.objs.size],_,_,H1,rfl,I1.kept (t':=s1.toks) λb o e=>qG _ e,zum a _,⟨_,qd _ rfl,rfl,rfl⟩,λb hb=>?_,q⟩
 have e:b=s1.heap.objs.size:=by simpa using hb
 subst e
 exact I1.fpOk (qM _) (I1.hok.fresh (qM _))
theorem zaie{pins:List (Addr×Obj)}{σ:St}{H:Hp}{s:Shared}{R:It->Hp->Prop}{E:Value->Shared->Prop}{lo hi:Int}{t u v:Tok}{tk:Nat}(I:Inv X pins σ H s)(h1:-(2 ^ 62)<=lo)(h2:lo<2 ^ 62)(h3:-(2 ^ 62)<=hi)(h4:hi<2 ^ 62)
  (q:R (Itr lo (hi - lo).toNat) H):wpAny (model X.prog X.w) X.A (pyIter (.ref s.heap.objs.size)) (PIE X pins σ tg R) E {s with heap:=s.heap.push {cls:=.type "range",data:=.fields #[.int lo t,.int hi u,.int 1 v]},toks:=tk}:=by
 refine wpAny_pyIter_range (IsRange.new ..) (small_one h1 h2 h3 h4) ?_
 have I1:Inv X pins σ H {s with heap:=s.heap.push {cls:=.type "range",data:=.fields #[.int lo t,.int hi u,.int 1 v]},toks:=tk}:=I.kept λb o e=>qG _ e
 refine⟨(s.heap.push {cls:=.type "range",data:=.fields #[.int lo t,.int hi u,.int 1 v]}).objs.size,[(s.heap.push {cls:=.type "range",data:=.fields #[.int lo t,.int hi u,.int 1 v]}).objs.size],_,_,H,rfl,
  I1.kept (t':=tk) λb o e=>qG _ e,zabf _ lo (hi - lo).toNat,?_,λb hb=>?_,q⟩
 ·have e1:lo+((0:Nat):Int) * 1=lo:=by simp
  have e2:(((hi - lo).toNat:Nat):Int) - ((0:Nat):Int)=Builtin.Range.rangeSize lo hi 1:=by rw[rangeSize_one];split<;>omega
  show IsRangeIter _ _ (lo+((0:Nat):Int) * 1) ((((hi - lo).toNat:Nat):Int) - ((0:Nat):Int)) 1
  rw[e1,e2]
  exact qd _ rfl
 ·have e:b=(s.heap.push {cls:=.type "range",data:=.fields #[.int lo t,.int hi u,.int 1 v]}).objs.size:=by simpa using hb
  subst e
  exact I1.fpOk (qM _) (I1.hok.fresh (qM _))
noncomputable def iRng1(ta:TA):TI:=λσ H R=>ta σ H λvs H1=>∃j:Int,vs=[.int j]/\-(2 ^ 62)<=j/\j<2 ^ 62/\R (Itr 0 j.toNat) H1
theorem zun{a:Expr}{ta:TA}{p pos:Pos}(hg:Gl X "range")(hm:X.mg "range"=none)(ha:PA X [a] ta)(hs:starEach [a] X.env=[(false,eval a X.env)]:=by rfl):PI X tg (.Call (.Name "range" p) [a] [] pos) (iRng1 ta):=by
 intro pins s σ H R I h
 refine Call_ (zoa I hg hm boot_range (qBV (thn (ha pos pins s σ H _ I h) λus s1 ⟨vs,H1,I1,r1,q1⟩=>?_) hs rfl))
 obtain⟨j,e,q1,q2,q⟩:=q1
 subst e
 cases r1 with
 | cons r rr=>
  cases rr
  obtain⟨t,rfl⟩:=r
  exact call_range_1 (zaie I1 (by omega) (by omega) q1 q2 (by simpa using q))
noncomputable def tFor(wi:TI)(g:TG)(tb:TS):TS:=λD σ H=>wi σ H λJ H1=>∃W:Nat->Nat->St->Hp->Prop,(∃m,W 0 m σ H1)/\∀i m σ H,W i m σ H->
 (J.stop i H/\D.nx σ H)\/(J.go i H/\∃N:St->Hp->Prop,(∀σ' H',N σ' H'->∃m',m'<m/\W (i+1) m' σ' H')/\∀x H',J.yld i H x H'->g x σ H' λσ2 H2=>tb {D with nx:=N,ct:=N,bk:=D.nx} σ2 H2)
noncomputable def zuo(fp:List Addr)(h:Heap):List (Addr×Obj):=fp.filterMap λb=>(h.get? b).map λo=>(b,o)
theorem zlg{fp:List Addr}{h:Heap}{b:Addr}{o:Obj}(hb:b∈fp)(e:h.get? b=some o):(b,o)∈zuo fp h:=qBk.mpr ⟨b,hb,by rw[e];rfl⟩
theorem zacw{fp:List Addr}{h:Heap}{p:Addr×Obj}(hp:p∈zuo fp h):p.1∈fp/\h.get? p.1=some p.2:=by
 obtain⟨b,hb,e⟩:=qBk.mp hp
 cases q:h.get? b with
 | none=>rw[q]at e;cases e
 | some o=>
  rw[q]at e
  have e':(b,o)=p:=qy e
  subst e'
  exact⟨hb,q⟩
theorem Inv.pinned{pins:List (Addr×Obj)}{σ:St}{H:Hp}{s:Shared}{fp:List Addr}(I:Inv X pins σ H s)(hf:∀b∈fp,FpOk X pins H b)(ho:∀b∈fp,∃o,s.heap.get? b=some o/\∀v,o.data≠.cell v):Inv X (pins++zuo fp s.heap) σ H s:=
 I.pins_of λp hp=>(qc.mp hp).elim (λz=>I.pin p (qr _ z)) λz=>by
  obtain⟨hb,e⟩:=zacw z
  obtain⟨f0,f1,f2,_⟩:=hf p.1 hb
  obtain⟨o,e',d⟩:=ho p.1 hb
  rw[e]at e';cases e'
  exact⟨e,f0,f1,f2,d⟩
theorem Inv.unpinned{pins pl:List (Addr×Obj)}{σ:St}{H:Hp}{s:Shared}(I:Inv X (pins++pl) σ H s):Inv X pins σ H s:=I.pins_of λp hp=>I.pin p (qr _ (qAQ _ hp))
theorem zacx{iter:Expr}{body:List Stmt}{wi:TI}{g:TG}{tb:TS}{pos:Pos}(hp:PassesOwn (model X.prog X.w) X.A X.env X.xe)(hc:X.calm=true)(hi:PI X tg iter wi)(hg:PG X tg g)(hb:PSs X body tb)
  (hs:∀x,foldedSetIterable iter X.env x=pure x:=by intro _;rfl):PS X (.For tg iter body [] pos) (tFor wi g tb):=by
 intro pins s σ H D I h
 refine wpAny_For (thn (hi pins s σ H _ I h) λv s1 h1=>thn h1 λitv s2 h2=>?_) hs
 obtain⟨it,fp,tn,J,H2,e,I2,T,st2,f2,W,⟨m0,w0⟩,turn⟩:=h2
 subst e
 have stat:∀{H':Hp},(∀b∈fp,H' b=none)->∀b∈fp,FpOk X pins H' b:=λhn b hb=>⟨hn b hb,(f2 b hb).2⟩
 refine codeAny_forLoop_any (λn s'=>∃i σ' H',Inv X pins σ' H' s'/\tn i s'.heap/\(∀b∈fp,H' b=none)/\W i n σ' H') ?_ m0 ⟨0,σ,H2,I2,st2,λb hb=>(f2 b hb).1,w0⟩
 rintro n s3 ⟨i,σ3,H3,I3,st3,fr3,w3⟩
 rcases turn i n σ3 H3 w3 with⟨stop,qn⟩|⟨go,N,hN,step⟩
 ·refine qBp hp (thn (T.done X rfl rfl rfl hc i pins s3 σ3 H3 X.xe I3 (stat fr3) st3 stop) λr s4 ⟨hr,I4⟩=>?_)
  subst hr
  exact qAx ⟨σ3,H3,I4,qn⟩
 ·refine qBp hp (thn (T.item X rfl rfl rfl hc i pins s3 σ3 H3 X.xe I3 (stat fr3) st3 go) λr s4 ⟨u,hr,h4⟩=>?_)
  subst hr
  refine qBp hp (thn h4 λ_ s5 ⟨x,H5,I5,r5,y5,st5,fr5⟩=>?_)
  have I5':=I5.pinned (stat fr5) (T.obj _ _ st5)
  refine qBp hp (thn (hg _ s5 σ3 H5 x u _ I5' r5 (step x H5 y5)) λ_ s6 ⟨σ6,H6,I6,q6⟩=>?_)
  refine qBp hp (thn (hb _ s6 σ6 H6 _ I6 q6) λf s7 q7=>?_)
  have again:∀{σ7:St}{H7:Hp},Inv X (pins++zuo fp s5.heap) σ7 H7 s7->N σ7 H7->∃m,m<n/\∃i σ' H',Inv X pins σ' H' s7/\tn i s7.heap/\(∀b∈fp,H' b=none)/\W i m σ' H':=λ{σ7 H7} I7 n7=>by
   obtain⟨m',hm,w7⟩:=hN σ7 H7 n7
   refine⟨m',hm,i+1,σ7,H7,I7.unpinned,T.keep _ _ _ st5 λb hb o e=>(I7.pin (b,o) (qr _ (qr _ (zlg hb e)))).1,λb hb=>?_,w7⟩
   obtain⟨o,e,d⟩:=T.obj _ _ st5 b hb
   exact(I7.pin (b,o) (qr _ (qr _ (zlg hb e)))).2.1
  cases f with
  | next=>obtain⟨σ7,H7,I7,n7⟩:=q7;exact again I7 n7
  | cont=>obtain⟨σ7,H7,I7,n7⟩:=q7;exact again I7 n7
  | brk=>obtain⟨σ7,H7,I7,q7⟩:=q7;exact⟨σ7,H7,I7.unpinned,q7⟩
  | ret v=>obtain⟨x7,σ7,H7,I7,r7,q7⟩:=q7;exact⟨x7,σ7,H7,I7.unpinned,r7,q7⟩
end
theorem for_list{K:qB}{a:Addr}{xs:List V}{g:TG}{tb:TS}{D:Ends}{σ:St}{H:Hp}(Pv:Nat->St->Hp->Prop)(h0:Pv 0 σ H)(hl:∀i σ H,i<=xs.length->Pv i σ H->SqL K H a xs)
  (hs:∀i x σ H,xs[i]?=some x->Pv i σ H->g x σ H λσ2 H2=>tb {D with nx:=Pv (i+1),ct:=Pv (i+1),bk:=D.nx} σ2 H2) (hd:∀σ H,Pv xs.length σ H->D.nx σ H) :
  ∃W:Nat->Nat->St->Hp->Prop,(∃m,W 0 m σ H)/\∀i m σ H,W i m σ H->
   ((Itl K a).stop i H/\D.nx σ H)\/((Itl K a).go i H/\∃N:St->Hp->Prop,(∀σ' H',N σ' H'->∃m',m'<m/\W (i+1) m' σ' H')/\∀x H',(Itl K a).yld i H x H'->g x σ H' λσ2 H2=>tb {D with nx:=N,ct:=N,bk:=D.nx} σ2 H2):=by
 refine⟨λi m σ H=>m=xs.length - i/\i<=xs.length/\Pv i σ H,⟨xs.length,by simp,qAr _,h0⟩,?_⟩
 rintro i m σ H ⟨rfl,hi,p⟩
 have q:=hl i σ H hi p
 by_cases hlt:i<xs.length
 ·refine .inr ⟨⟨xs,xs[i],q,by simp[hlt]⟩,Pv (i+1),λσ' H' p'=>⟨xs.length - (i+1),by omega,rfl,hlt,p'⟩,λx H' y=>?_⟩
  obtain⟨e,y⟩:=y
  subst e
  exact hs i x σ _ (y xs q) p
 ·have e:i=xs.length:=by omega
  subst e
  exact .inl ⟨⟨xs,q,qM _⟩,hd σ H p⟩
theorem for_range{lo:Int}{n:Nat}{g:TG}{tb:TS}{D:Ends}{σ:St}{H:Hp}(Pv:Nat->St->Hp->Prop)(h0:Pv 0 σ H)
  (hs:∀i σ H,i<n->Pv i σ H->g (.int (lo+i)) σ H λσ2 H2=>tb {D with nx:=Pv (i+1),ct:=Pv (i+1),bk:=D.nx} σ2 H2) (hd:∀σ H,Pv n σ H->D.nx σ H) :
  ∃W:Nat->Nat->St->Hp->Prop,(∃m,W 0 m σ H)/\∀i m σ H,W i m σ H->
   ((Itr lo n).stop i H/\D.nx σ H)\/((Itr lo n).go i H/\∃N:St->Hp->Prop,(∀σ' H',N σ' H'->∃m',m'<m/\W (i+1) m' σ' H')/\∀x H',(Itr lo n).yld i H x H'->g x σ H' λσ2 H2=>tb {D with nx:=N,ct:=N,bk:=D.nx} σ2 H2):=by
 refine⟨λi m σ H=>m=n - i/\i<=n/\Pv i σ H,⟨n,by simp,qAr _,h0⟩,?_⟩
 rintro i m σ H ⟨rfl,hi,p⟩
 by_cases hlt:i<n
 ·refine .inr ⟨hlt,Pv (i+1),λσ' H' p'=>⟨n - (i+1),by omega,rfl,hlt,p'⟩,λx H' y=>?_⟩
  obtain⟨e,y⟩:=y
  subst e y
  exact hs i σ _ hlt p
 ·have e:i=n:=by omega
  subst e
  exact .inl ⟨qM _,hd σ H p⟩
noncomputable abbrev R2:=V->V->Hp->VK->Prop
noncomputable def OpR(X:Cx)(f:Value->Value->Sem Value)(r:R2):Prop:=
 ∀(pins:List (Addr×Obj))(s:Shared)(σ:St)(H:Hp)(x y:V)(v u:Value)(Q:VK),Inv X pins σ H s->RelV x v->RelV y u->r x y H Q->
  wpAny (model X.prog X.w) X.A (f v u) (EP X pins σ Q) X.xe s
noncomputable def UnR(X:Cx)(f:Value->Sem Value)(r:V->Hp->VK->Prop):Prop:=
 ∀(pins:List (Addr×Obj))(s:Shared)(σ:St)(H:Hp)(x:V)(v:Value)(Q:VK),Inv X pins σ H s->RelV x v->r x H Q->
  wpAny (model X.prog X.w) X.A (f v) (EP X pins σ Q) X.xe s
noncomputable def CallR(X:Cx)(f:Value)(r:List V->Hp->VK->Prop):Prop:=
 ∀(pins:List (Addr×Obj))(s:Shared)(σ:St)(H:Hp)(xs:List V)(us:List Value)(Q:VK),Inv X pins σ H s->Vals xs us->r xs H Q->
  wpAny (model X.prog X.w) X.A (call f us) (EP X pins σ Q) X.xe s
noncomputable def TruR(X:Cx)(r:V->Hp->(Bool->Hp->Prop)->Prop):Prop:=
 ∀(pins:List (Addr×Obj))(s:Shared)(σ:St)(H:Hp)(x:V)(v:Value)(Q:Bool->Hp->Prop),Inv X pins σ H s->RelV x v->r x H Q->
  wpAny (model X.prog X.w) X.A (truthy v) (TP X pins σ Q) X.xe s
noncomputable def tOp(r:R2)(ta tb:TE):TE:=λσ H Q=>ta σ H λx H1=>tb σ H1 λy H2=>r x y H2 Q
noncomputable def tUn(r:V->Hp->VK->Prop)(ta:TE):TE:=λσ H Q=>ta σ H λx H1=>r x H1 Q
noncomputable def rI(C:Int->Int->Prop)(g:Int->Int->V):R2:=λx y H Q=>∃i j,x=.int i/\y=.int j/\C i j/\Q (g i j) H
noncomputable def rI0(g:Int->Int->V):R2:=λx y H Q=>∃i j,x=.int i/\y=.int j/\Q (g i j) H
noncomputable def rU(g:Int->V):V->Hp->VK->Prop:=λx H Q=>∃i,x=.int i/\Q (g i) H
section
variable{X:Cx}{a b c:Expr}{ta tb tc:TE}{pos:Pos}
theorem binT(ha:PE X a ta)(hb:PE X b tb){pins:List (Addr×Obj)}{s:Shared}{σ:St}{H:Hp}{R:V->V->Hp->Prop}(I:Inv X pins σ H s)
  (h:ta σ H λx H1=>tb σ H1 λy H2=>R x y H2){Q:Value->Shared->Prop}{f:Value->Value->Sem Value}
  (hf:∀v u s2 x y H2,Inv X pins σ H2 s2->RelV x v->RelV y u->R x y H2->wpAny (model X.prog X.w) X.A (f v u) Q X.xe s2) :
  wpAny (model X.prog X.w) X.A (eval a X.env) (λv s₁=>wpAny (model X.prog X.w) X.A (eval b X.env) (λu s₂=>wpAny (model X.prog X.w) X.A (f v u) Q X.xe s₂) X.xe s₁) X.xe s:=by
 refine thn (ha pins s σ H _ I h) λv s1 ⟨x,H1,I1,r1,q1⟩=>?_
 refine thn (hb pins s1 σ H1 _ I1 q1) λu s2 ⟨y,H2,I2,r2,q2⟩=>?_
 exact hf v u s2 x y H2 I2 r1 r2 q2
theorem zls{op:Operator}{r:R2}(ho:OpR X (binaryOp op) r)(ha:PE X a ta)(hb:PE X b tb):PE X (.BinOp a op b pos) (tOp r ta tb):=by
 intro pins s σ H Q I h
 exact wpAny_BinOp (binT ha hb I h λv u s2 x y H2 I2 rx ry q=>ho pins s2 σ H2 x y v u Q I2 rx ry q)
theorem zatz{op:UnaryOp}{r:V->Hp->VK->Prop}(ho:UnR X (unaryOp op) r)(ha:PE X a ta):PE X (.UnaryOp op a pos) (tUn r ta):=by
 intro pins s σ H Q I h
 exact UnaryOp_ (thn (ha pins s σ H _ I h) λv s1 ⟨x,H1,I1,r1,q1⟩=>ho pins s1 σ H1 x v Q I1 r1 q1)
theorem opI{f:Value->Value->Sem Value}{C:Int->Int->Prop}{g:Int->Int->Int}
  (rule:∀(i j:Int)(t u:Tok)(s:Shared)(Q:Value->Shared->Prop)(E:Value->Shared->Prop),C i j->Q (.int (g i j) s.toks) {s with toks:=s.toks+1}->wpAny (model X.prog X.w) X.A (f (.int i t) (.int j u)) Q E s) :
  OpR X f (rI C λi j=>.int (g i j)):=by
 intro pins s σ H x y v u Q I rx ry h
 obtain⟨i,j,rfl,rfl,hc,q⟩:=h
 obtain⟨t,rfl⟩:=rx
 obtain⟨t',rfl⟩:=ry
 exact rule i j t t' s _ _ hc ⟨.int (g i j),H,I.tok _,⟨_,rfl⟩,q⟩
theorem opI0{f:Value->Value->Sem Value}{g:Int->Int->Int}
  (rule:∀(i j:Int)(t u:Tok)(s:Shared)(Q:Value->Shared->Prop)(E:Value->Shared->Prop),Q (.int (g i j) s.toks) {s with toks:=s.toks+1}->wpAny (model X.prog X.w) X.A (f (.int i t) (.int j u)) Q E s) :
  OpR X f (rI0 λi j=>.int (g i j)):=by
 intro pins s σ H x y v u Q I rx ry h
 obtain⟨i,j,rfl,rfl,q⟩:=h
 obtain⟨t,rfl⟩:=rx
 obtain⟨t',rfl⟩:=ry
 exact rule i j t t' s _ _ ⟨.int (g i j),H,I.tok _,⟨_,rfl⟩,q⟩
theorem opB0{f:Value->Value->Sem Value}{g:Int->Int->Bool}
  (rule:∀(i j:Int) (t u:Tok) (s:Shared) (Q:Value->Shared->Prop) (E:Value->Shared->Prop),Q (.bool (g i j)) s->wpAny (model X.prog X.w) X.A (f (.int i t) (.int j u)) Q E s) :
  OpR X f (rI0 λi j=>.bl (g i j)):=by
 intro pins s σ H x y v u Q I rx ry h
 obtain⟨i,j,rfl,rfl,q⟩:=h
 obtain⟨t,rfl⟩:=rx
 obtain⟨t',rfl⟩:=ry
 exact rule i j t t' s _ _ ⟨.bl (g i j),H,I,rfl,q⟩
noncomputable def CDiv(i j:Int):Prop:=0<j/\j<1073741824
noncomputable def CPow(i j:Int):Prop:=0<=j/\j<=1000000/\i.natAbs<2 ^ 64
noncomputable def CMul(i j:Int):Prop:=(-(2 ^ 64)<i/\i<2 ^ 64)\/(-(2 ^ 64)<j/\j<2 ^ 64)
theorem CMul.ok{i j:Int}(h:CMul i j):IntMulOk i j:=by
 rcases h with⟨h1,h2⟩|⟨h1,h2⟩
 ·exact .of_left (intBits_le_64 h1 h2)
 ·exact .of_right (intBits_le_64 h1 h2)
theorem zaqw:OpR X (binaryOp .Add) (rI0 λi j=>.int (i+j)):=opI0 λ_ _ _ _ _ _ _ q=>add_int q
theorem zaqx:OpR X (binaryOp .Sub) (rI0 λi j=>.int (i - j)):=opI0 λ_ _ _ _ _ _ _ q=>sub_int q
theorem zaqy:OpR X (binaryOp .Mult) (rI CMul λi j=>.int (i * j)):=opI λ_ _ _ _ _ _ _ hc q=>mul_int q hc.ok
theorem zgh:OpR X (binaryOp .FloorDiv) (rI CDiv λi j=>.int (i / j)):=opI λi j _ _ _ _ _ hc q=>by
 have h1:(0:Int)<j:=hc.1
 have h2:j<1073741824:=hc.2
 exact floordiv_int (by omega) (by rw[Int.fdiv_eq_ediv_of_nonneg i (by omega)];exact q) (.inl (PyProof.noPylong_small (by omega)))
theorem zdh:OpR X (binaryOp .Mod) (rI (λ_ j=>0<j) λi j=>.int (i % j)):=opI λi j _ _ _ _ _ hc q=>by
 have h1:(0:Int)<j:=hc
 exact mod_int' (by omega) (by rw[Int.fmod_eq_emod_of_nonneg i (by omega)];exact q)
theorem zakw:OpR X (binaryOp .Pow) (rI CPow λi j=>.int (i ^ j.toNat)):=opI λ_ _ _ _ _ _ _ hc q=>pow_int_small hc.1 hc.2.1 hc.2.2 q
theorem zams:OpR X (inplaceOp .Mult) (rI CMul λi j=>.int (i * j)):=opI λ_ _ _ _ _ _ _ hc q=>imul_int q hc.ok
theorem unI{f:Value->Sem Value}{g:Int->Int}
  (rule:∀(i:Int)(t:Tok)(s:Shared)(Q:Value->Shared->Prop)(E:Value->Shared->Prop),Q (.int (g i) s.toks) {s with toks:=s.toks+1}->wpAny (model X.prog X.w) X.A (f (.int i t)) Q E s) :
  UnR X f (rU λi=>.int (g i)):=by
 intro pins s σ H x v Q I rx h
 obtain⟨i,rfl,q⟩:=h
 obtain⟨t,rfl⟩:=rx
 exact rule i t s _ _ ⟨.int (g i),H,I.tok _,⟨_,rfl⟩,q⟩
theorem zacy:UnR X (unaryOp .USub) (rU λi=>.int (-i)):=unI λ_ _ _ _ _ q=>neg_int q
end
noncomputable def scal:V->V->Bool
 | .non,.non=>true|.non,.int _=>true|.int _,.non=>true|.non,.bl _=>true|.bl _,.non=>true|.non,.str _=>true|.str _,.non=>true
 | .int _,.int _=>true|.bl _,.bl _=>true|.str _,.str _=>true|.byt _,.byt _=>true
 | .int _,.str _=>true|.str _,.int _=>true|.bl _,.str _=>true|.str _,.bl _=>true
 | _,_=>false
noncomputable def rEq:R2:=λx y H Q=>scal x y=true/\Q (.bl (decide (x=y))) H
noncomputable def rNe:R2:=λx y H Q=>scal x y=true/\Q (.bl (!decide (x=y))) H
theorem zyb{i j:Int}:decide (V.int i=V.int j)=(i==j):=by
 rw[qAU]
 simp
theorem zzq{i j:Bool}:decide (V.bl i=V.bl j)=(i==j):=by
 rw[qAU]
 simp
theorem zyc{i j:Str}:decide (V.str i=V.str j)=(i==j):=by
 rw[qAU]
 simp
theorem zacz{i j:Array UInt8}:decide (V.byt i=V.byt j)=(i.toList==j.toList):=by
 rw[qAU]
 cases i
 cases j
 simp
section
variable{X:Cx}{a b c:Expr}{ta tb tc:TE}{pos:Pos}
theorem zcr{pins:List (Addr×Obj)}{σ:St}{H:Hp}{s:Shared}{Q:VK}{k k':Bool}(I:Inv X pins σ H s)(q:Q (.bl k) H)(e:k=k'):EP X pins σ Q (.bool k') s:=by
 subst e
 exact⟨.bl k,H,I,rfl,q⟩
theorem zaua:OpR X (compareOp .Eq) rEq:=by
 intro pins s σ H x y v u Q I rx ry h
 obtain⟨hs,q⟩:=h
 cases x with
 | non=>
  cases rx
  cases y with
  | non=>cases ry;exact PySem.EqNone.eq_none_none (zcr I q (by simp))
  | bl j=>cases ry;exact PySem.EqNone.eq_none_bool (zcr I q (by simp))
  | int j=>obtain⟨t',rfl⟩:=ry;exact PySem.EqNone.eq_none_int (zcr I q (by simp))
  | str j=>obtain⟨t',rfl⟩:=ry;exact PySem.EqNone.eq_none_str (zcr I q (by simp))
  | _=>exact absurd (show false=true from hs) qP
 | bl i=>
  cases rx
  cases y with
  | non=>cases ry;exact PySem.EqNone.eq_bool_none (zcr I q (by simp))
  | bl j=>cases ry;exact eq_bool (zcr I q zzq)
  | str j=>obtain⟨t',rfl⟩:=ry;exact PySem.EqMixed.eq_bool_str (zcr I q (by simp))
  | _=>exact absurd (show false=true from hs) qP
 | int i=>
  obtain⟨t,rfl⟩:=rx
  cases y with
  | non=>cases ry;exact PySem.EqNone.eq_int_none (zcr I q (by simp))
  | int j=>obtain⟨t',rfl⟩:=ry;exact eq_int (zcr I q zyb)
  | str j=>obtain⟨t',rfl⟩:=ry;exact PySem.EqMixed.eq_int_str (zcr I q (by simp))
  | _=>exact absurd (show false=true from hs) qP
 | str i=>
  obtain⟨t,rfl⟩:=rx
  cases y with
  | non=>cases ry;exact PySem.EqNone.eq_str_none (zcr I q (by simp))
  | bl j=>cases ry;exact PySem.EqMixed.eq_str_bool (zcr I q (by simp))
  | int j=>obtain⟨t',rfl⟩:=ry;exact PySem.EqMixed.eq_str_int (zcr I q (by simp))
  | str j=>obtain⟨t',rfl⟩:=ry;exact eq_str (zcr I q zyc)
  | _=>exact absurd (show false=true from hs) qP
 | byt i=>
  obtain⟨t,rfl⟩:=rx
  cases y with
  | byt j=>obtain⟨t',rfl⟩:=ry;exact PySem.W.eq_bytes (zcr I q zacz)
  | _=>exact absurd (show false=true from hs) qP
 | _=>cases y<;>exact absurd (show false=true from hs) qP
theorem zaub:OpR X (compareOp .NotEq) rNe:=by
 intro pins s σ H x y v u Q I rx ry h
 obtain⟨hs,q⟩:=h
 cases x with
 | non=>
  cases rx
  cases y with
  | non=>cases ry;exact PySem.EqNone.ne_none_none (zcr I q (by simp))
  | bl j=>cases ry;exact PySem.EqNone.ne_none_bool (zcr I q (by simp))
  | int j=>obtain⟨t',rfl⟩:=ry;exact PySem.EqNone.ne_none_int (zcr I q (by simp))
  | str j=>obtain⟨t',rfl⟩:=ry;exact PySem.EqNone.ne_none_str (zcr I q (by simp))
  | _=>exact absurd (show false=true from hs) qP
 | bl i=>
  cases rx
  cases y with
  | non=>cases ry;exact PySem.EqNone.ne_bool_none (zcr I q (by simp))
  | bl j=>cases ry;exact ne_bool (zcr I q (congrArg not zzq))
  | str j=>obtain⟨t',rfl⟩:=ry;exact PySem.EqMixed.ne_bool_str (zcr I q (by simp))
  | _=>exact absurd (show false=true from hs) qP
 | int i=>
  obtain⟨t,rfl⟩:=rx
  cases y with
  | non=>cases ry;exact PySem.EqNone.ne_int_none (zcr I q (by simp))
  | int j=>obtain⟨t',rfl⟩:=ry;exact ne_int (zcr I q (congrArg not zyb))
  | str j=>obtain⟨t',rfl⟩:=ry;exact PySem.EqMixed.ne_int_str (zcr I q (by simp))
  | _=>exact absurd (show false=true from hs) qP
 | str i=>
  obtain⟨t,rfl⟩:=rx
  cases y with
  | non=>cases ry;exact PySem.EqNone.ne_str_none (zcr I q (by simp))
  | bl j=>cases ry;exact PySem.EqMixed.ne_str_bool (zcr I q (by simp))
  | int j=>obtain⟨t',rfl⟩:=ry;exact PySem.EqMixed.ne_str_int (zcr I q (by simp))
  | str j=>obtain⟨t',rfl⟩:=ry;exact ne_str (zcr I q (congrArg not zyc))
  | _=>exact absurd (show false=true from hs) qP
 | byt i=>
  obtain⟨t,rfl⟩:=rx
  cases y with
  | byt j=>obtain⟨t',rfl⟩:=ry;exact PySem.W.ne_bytes (zcr I q (congrArg not zacz))
  | _=>exact absurd (show false=true from hs) qP
 | _=>cases y<;>exact absurd (show false=true from hs) qP
theorem zauc:OpR X (compareOp .Lt) (rI0 λi j=>.bl (decide (i<j))):=opB0 λ_ _ _ _ _ _ _ q=>lt_int q
theorem zada:OpR X (compareOp .LtE) (rI0 λi j=>.bl (decide (i<=j))):=opB0 λ_ _ _ _ _ _ _ q=>le_int q
theorem zaqz:OpR X (compareOp .Gt) (rI0 λi j=>.bl (decide (j<i))):=opB0 λ_ _ _ _ _ _ _ q=>gt_int q
theorem zadb:OpR X (compareOp .GtE) (rI0 λi j=>.bl (decide (j<=i))):=opB0 λ_ _ _ _ _ _ _ q=>ge_int q
theorem OpR.or{f:Value->Value->Sem Value}{r r':R2}(h:OpR X f r)(h':OpR X f r'):OpR X f (λx y H Q=>r x y H Q\/r' x y H Q):=by
 intro pins s σ H x y v u Q I rx ry q
 rcases q with q|q
 ·exact h pins s σ H x y v u Q I rx ry q
 ·exact h' pins s σ H x y v u Q I rx ry q
theorem zdb(b:Expr){op:CmpOp}(h:op≠.In:=by decide)(h2:op≠.NotIn:=by decide):behindInMarks op b=false:=by
 have e1:(op==CmpOp.In)=false:=by cases op<;>first|rfl|exact absurd rfl h
 have e2:(op==CmpOp.NotIn)=false:=by cases op<;>first|rfl|exact absurd rfl h2
 cases b<;>simp[behindInMarks,e1,e2]
theorem zamt{op:CmpOp}{r:R2}(ho:OpR X (compareOp op) r)(ha:PE X a ta)(hb:PE X b tb)(hm:behindInMarks op b=false):PE X (.Compare a [op] [b] pos) (tOp r ta tb):=by
 intro pins s σ H Q I h
 exact wpAny_Compare1 (binT ha hb I h λv u s2 x y H2 I2 rx ry q=>ho pins s2 σ H2 x y v u Q I2 rx ry q) hm
noncomputable def tTest(t:TE):TT:=λσ H Q=>t σ H λx H'=>∃k,x=.bl k/\Q k H'
theorem zadc{op:CmpOp}{r:R2}(ho:OpR X (compareOp op) r)(ha:PE X a ta)(hb:PE X b tb)(hm:behindInMarks op b=false):PT X (.Compare a [op] [b] pos) (tTest (tOp r ta tb)):=by
 intro pins s σ H Q I h
 refine wpAny_isTrue_Compare1 (thn (ha pins s σ H _ I h) λv s1 ⟨x,H1,I1,r1,q1⟩=>thn (hb pins s1 σ H1 _ I1 q1) λu s2 ⟨y,H2,I2,r2,q2⟩=>
  thn (ho pins s2 σ H2 x y v u _ I2 r1 r2 q2) λc s3 ⟨z,H3,I3,r3,k,e,q3⟩=>?_) hm
 subst e
 cases r3
 exact qAR ⟨H3,I3,q3⟩
noncomputable def tChain(r r':R2)(ta tb tc:TE):TE:=λσ H Q=>ta σ H λx H1=>tb σ H1 λy H2=>r x y H2 λz H3=>∃k,z=.bl k/\
 (if k=true then tc σ H3 λw' H4=>r' y w' H4 Q else Q (.bl false) H3)
theorem zaif{op op':CmpOp}{r r':R2}(ho:OpR X (compareOp op) r)(ho':OpR X (compareOp op') r')(ha:PE X a ta)(hb:PE X b tb)(hc:PE X c tc)
  (hm:lastMarks [op,op'] [b,c]=false:=by with_unfolding_all rfl):PE X (.Compare a [op,op'] [b,c] pos) (tChain r r' ta tb tc):=by
 intro pins s σ H Q I h
 refine Compare_chain (thn (ha pins s σ H _ I h) λv s1 ⟨x,H1,I1,r1,q1⟩=>chain_link (thn (hb pins s1 σ H1 _ I1 q1) λu s2 ⟨y,H2,I2,r2,q2⟩=>
  thn (ho pins s2 σ H2 x y v u _ I2 r1 r2 q2) λd s3 ⟨z,H3,I3,r3,k,e,q3⟩=>?_)) hm
 subst e
 cases r3
 refine qAR ?_
 cases k with
 | false=>exact ite_ff ⟨.bl false,H3,I3,rfl,q3⟩
 | true=>exact ite_tt (chain_last (thn (hc pins s3 σ H3 _ I3 q3) λw' s4 ⟨z',H4,I4,r4,q4⟩=>ho' pins s4 σ H4 y z' u w' Q I4 r2 r4 q4))
theorem zaig{op op':CmpOp}{r r':R2}(ho:OpR X (compareOp op) r)(ho':OpR X (compareOp op') r')(ha:PE X a ta)(hb:PE X b tb)(hc:PE X c tc)
  (hm:lastMarks [op,op'] [b,c]=false:=by with_unfolding_all rfl):PT X (.Compare a [op,op'] [b,c] pos) (tTest (tChain r r' ta tb tc)):=by
 intro pins s σ H Q I h
 refine isTrue_chain (thn (ha pins s σ H _ I h) λv s1 ⟨x,H1,I1,r1,q1⟩=>test_link (thn (hb pins s1 σ H1 _ I1 q1) λu s2 ⟨y,H2,I2,r2,q2⟩=>
  thn (ho pins s2 σ H2 x y v u _ I2 r1 r2 q2) λd s3 ⟨z,H3,I3,r3,k,e,q3⟩=>?_)) hm
 subst e
 cases r3
 refine qAR ?_
 cases k with
 | false=>
  obtain⟨k',e',q'⟩:=q3
  cases e'
  exact ite_ff ⟨H3,I3,q'⟩
 | true=>
  refine ite_tt (test_last (thn (hc pins s3 σ H3 _ I3 q3) λw' s4 ⟨z',H4,I4,r4,q4⟩=>thn (ho' pins s4 σ H4 y z' u w' _ I4 r2 r4 q4) λd' s5 ⟨z2,H5,I5,r5,k2,e2,q5⟩=>?_))
  subst e2
  cases r5
  exact qAR ⟨H5,I5,q5⟩
noncomputable def TruV(K:qB)(x:V)(H:Hp)(k:Bool):Prop:=
 match x with
 | .non=>k=false
 | .bl b=>k=b
 | .int i=>k=(i != 0)
 | .str y=>y.length<=qe/\k=((y.length:Int) != 0)
 | .byt y=>y.size<=qe/\k=((y.size:Int) != 0)
 | .ref p=>(∃xs,SqL K H p xs/\k=!xs.isEmpty)\/(∃xs,SqT K H p xs/\k=!xs.isEmpty)\/∃kvs,H p=some (.dK kvs)/\k=!kvs.isEmpty
 | _=>False
theorem zabg{κ:Type}{kvs:List (κ×V)}{vs:List (κ×Value)}(r:KV kvs vs):(!vs.isEmpty)=!kvs.isEmpty:=by
 cases r<;>rfl
theorem zrp{xs:List V}{its:List Value}(r:Vals xs its):(!its.toArray.isEmpty)=!xs.isEmpty:=by
 cases r<;>simp
theorem zup:(qe:Nat)<2 ^ 63:=by rw[qA8];decide
theorem zara:TruR X (λx H Q=>∃k,TruV X.K x H k/\Q k H):=by
 intro pins s σ H x v Q I rx h
 obtain⟨k,e,q⟩:=h
 have hl:=zup
 have hs:qe=16777216:=qA8
 cases x with
 | non=>
  cases rx
  have e':k=false:=e
  subst e'
  exact truthy_none ⟨H,I,q⟩
 | bl b=>
  cases rx
  have e':k=b:=e
  subst e'
  exact qAR ⟨H,I,q⟩
 | int i=>
  obtain⟨t,rfl⟩:=rx
  have e':k=(i != 0):=e
  subst e'
  exact PySem.P.truthy_int ⟨H,I,q⟩
 | str y=>
  obtain⟨t,rfl⟩:=rx
  obtain⟨hy,e'⟩:y.length<=qe/\k=((y.length:Int) != 0):=e
  subst e'
  exact PySem.P.truthy_str (by omega) ⟨H,I.tok _,q⟩
 | byt y=>
  obtain⟨t,rfl⟩:=rx
  obtain⟨hy,e'⟩:y.size<=qe/\k=((y.size:Int) != 0):=e
  subst e'
  exact PySem.W.truthy_bytes (by omega) ⟨H,I.tok _,q⟩
 | ref p=>
  cases rx
  have e':(∃xs,SqL X.K H p xs/\k=!xs.isEmpty)\/(∃xs,SqT X.K H p xs/\k=!xs.isEmpty)\/∃kvs,H p=some (.dK kvs)/\k=!kvs.isEmpty:=e
  rcases e' with⟨xs,hx,e'⟩|⟨xs,hx,e'⟩|⟨kvs,hx,e'⟩
  ·subst e'
   obtain⟨its,r,pl,hz⟩:=I.list hx
   have hlen:=r.length
   exact wpAny_truthy_list pl.isList (by simp only[qL];omega) ⟨H,I.tok _,by rw[zrp r];exact q⟩
  ·subst e'
   obtain⟨its,r,pl,hz⟩:=I.tuple hx
   have hlen:=r.length
   exact truthy_tuple pl (by simp only[qL];omega) ⟨H,I.tok _,by rw[zrp r];exact q⟩
  ·subst e'
   obtain⟨hz,hS,vs,r,m⟩:kvs.length<=qe/\(p==sysModules)=false/\∃vs,KV kvs vs/\s.heap.DictOf (zgg X.prog X.w) p vs:=I.hok p _ hx
   have hlen:kvs.length=vs.length:=Paired.length r
   exact wpAny_truthy_dict hS m (by omega) ⟨H,I.tok _,by rw[zabg r];exact q⟩
 | _=>exact(show False from e).elim
theorem zaih(ha:PE X a ta)(he:∀whole,isTrue a X.env whole=(do let v <- whole;standAt a.pos;holding [v] (truthy v))) :
  PT X a (λσ H Q=>ta σ H λx H'=>∃k,TruV X.K x H' k/\Q k H'):=by
 intro pins s σ H Q I h
 exact isTrue_plain (thn (ha pins s σ H _ I h) λv s1 ⟨x,H1,I1,r1,q1⟩=>zara pins s1 σ H1 x v Q I1 r1 q1) (he _)
theorem zabh:OpR X (binaryOp .Add) (λx y H Q=>∃i j,x=.str i/\y=.str j/\i.length+j.length<=qe/\Q (.str (i++j)) H):=by
 intro pins s σ H x y v u Q I rx ry h
 obtain⟨i,j,rfl,rfl,hz,q⟩:=h
 obtain⟨t,rfl⟩:=rx
 obtain⟨t',rfl⟩:=ry
 exact add_str (λt' tk=>⟨.str (i++j),H,I.tok _,⟨_,rfl⟩,q⟩) hz
theorem zyd{x:V}{us:List Value}(r:Vals [x] us):∃u,us=[u]/\RelV x u:=by
 cases r with
 | cons r1 r2=>cases r2;exact⟨_,rfl,r1⟩
theorem zaii{x y:V}{us:List Value}(r:Vals [x,y] us):∃u w',us=[u,w']/\RelV x u/\RelV y w':=by
 cases r with
 | cons r1 r2=>
  cases r2 with
  | cons r3 r4=>cases r4;exact⟨_,_,rfl,r1,r3⟩
theorem zadd(hc:X.calm=true):CallR X (.builtin "min") (λxs H Q=>∃i j,xs=[.int i,.int j]/\Q (.int (if j<i then j else i)) H):=by
 intro pins s σ H xs us Q I r h
 obtain⟨i,j,rfl,q⟩:=h
 obtain⟨u,w',rfl,⟨t,rfl⟩,⟨t',rfl⟩⟩:=zaii r
 refine min_two_ints (I.ok.hd hc) λh' tk k=>⟨_,H,I.kept k,?_,q⟩
 by_cases hj:j<i
 ·rw[if_pos hj,if_pos hj];exact⟨_,rfl⟩
 ·rw[if_neg hj,if_neg hj];exact⟨_,rfl⟩
noncomputable def LenV(K:qB)(x:V)(H:Hp)(n:Nat):Prop:=
 match x with
 | .str y=>y.length<=qe/\n=y.length
 | .byt y=>y.size<=qe/\n=y.size
 | .ref p=>(∃xs,SqL K H p xs/\n=xs.length)\/∃xs,SqT K H p xs/\n=xs.length
 | _=>False
theorem zaij:CallR X (.builtin "len") (λxs H Q=>∃x n,xs=[x]/\LenV X.K x H n/\Q (.int n) H):=by
 intro pins s σ H xs us Q I r h
 obtain⟨x,n,rfl,e,q⟩:=h
 obtain⟨u,rfl,rx⟩:=zyd r
 have hl:=zup
 have hs:qe=16777216:=qA8
 cases x with
 | str y=>
  obtain⟨t,rfl⟩:=rx
  obtain⟨hy,e'⟩:y.length<=qe/\n=y.length:=e
  subst e'
  exact len_str (by omega) ⟨.int _,H,I.tok _,⟨_,rfl⟩,q⟩
 | byt y=>
  obtain⟨t,rfl⟩:=rx
  obtain⟨hy,e'⟩:y.size<=qe/\n=y.size:=e
  subst e'
  exact PySem.W.len_bytes (by omega) ⟨.int _,H,I.tok _,⟨_,rfl⟩,q⟩
 | ref p=>
  cases rx
  have e':(∃xs,SqL X.K H p xs/\n=xs.length)\/∃xs,SqT X.K H p xs/\n=xs.length:=e
  rcases e' with⟨xs,hx,e'⟩|⟨xs,hx,e'⟩
  ·subst e'
   obtain⟨its,r',pl,hz⟩:=I.list hx
   have hlen:=r'.length
   exact Calls.call_len_list pl.isList (by simp only[qL];omega) ⟨.int xs.length,H,I.tok _,⟨_,by simp only[qL];rw[hlen]⟩,q⟩
  ·subst e'
   obtain⟨its,r',pl,hz⟩:=I.tuple hx
   have hlen:=r'.length
   exact len_tuple pl (by simp only[qL];omega) ⟨.int xs.length,H,I.tok _,⟨_,by simp only[qL];rw[hlen]⟩,q⟩
 | _=>exact(show False from e).elim
end
set_option genInjectivity false in
structure ObjM(h:Heap)(x dx C:Addr)(mA:Str->Option Value):Prop where
 obj:h.get? x=some (PySem.W.instObj C dx)
 ns:h.Ns1 dx mA
 ne:dx≠x
theorem zade{h:Heap}{dx:Addr}{mA:Str->Option Value}(n:h.Ns1 dx mA):∃od,h.get? dx=some od/\∀name,PySem.W.lookIn name od=some (mA name):=by
 obtain⟨o,es,ep,ho,hd,hk,_,hm⟩:=n
 refine⟨o,ho,λname=>?_⟩
 have e:=hm name
 unfold nsFind findBy at e
 rw[<- Array.find?_toList]at e
 unfold PySem.W.lookIn
 rw[hd]
 dsimp only
 split
 ·rename_i y q
  rw[q]at e
  exact congrArg some e
 ·rename_i q
  rw[q]at e
  have a:es.toList.any (·.refKey)=false:=by
   rw[List.any_eq_false]
   intro y hy
   obtain⟨z,t,hkey⟩:=hk y (Array.mem_toList_iff.mp hy)
   simp[DictEntry.refKey,hkey]
  have a':¬es.toList.any (·.refKey)=true:=by rw[a];exact qP
  rw[if_neg a']
  exact congrArg some e
theorem ObjM.look{h:Heap}{x dx C:Addr}{mA:Str->Option Value}(I:ObjM h x dx C mA):∃od,PySem.W.InstAt h x (PySem.W.instObj C dx) C (some od)/\∀name,PySem.W.lookIn name od=some (mA name):=
 let⟨od,ho,hl⟩:=zade I.ns
 ⟨od,⟨I.obj,rfl,rfl,ho⟩,hl⟩
theorem zadf{v:V}{u:Value}(r:RelV v u):PySem.W.handedIn u=true:=by
 cases v with
 | non=>cases(show u=Value.none from r);rfl
 | bl b=>cases(show u=Value.bool b from r);rfl
 | int i=>obtain⟨t,e⟩:=(show ∃t,u=Value.int i t from r);cases e;rfl
 | str x=>obtain⟨t,e⟩:=(show ∃t,u=Value.str x t from r);cases e;rfl
 | byt b=>obtain⟨t,e⟩:=(show ∃t,u=Value.bytes b t from r);cases e;rfl
 | flt b=>obtain⟨t,e⟩:=(show ∃t,u=Value.float b t from r);cases e;rfl
 | ref a=>cases(show u=Value.ref a from r);rfl
 | ty n=>cases(show u=Value.type n from r);rfl
section
variable{P:Program}{w:World}{H H':Hp}{h h':Heap}{a C dx:Addr}{fs fs':List (Str×V)}
theorem zamu(hok:HOk P w H h)(e:H a=some (.ins C dx fs)):∃mA,ObjM h a dx C mA/\(∀f,RelO (fs.lookup f) (mA f))/\PySem.Within mA (fs.map (·.1))/\fs.length<=1000/\H dx=some (.own a):=by
 obtain⟨d,z,ne,ob,mA,n,r,q⟩:=(show zgb P w H h a (.ins C dx fs)from hok a _ e)
 exact⟨mA,⟨ob,n,ne⟩,r,q,z,d⟩
end
set_option genInjectivity false in
structure Cls(K:qB)(C:Addr):Prop where
 pg:PySem.W.plainGet K C Str.empty=true
 hd:PySem.W.hasDictIn K C=true
 po:PySem.W.plainOver K C=true
 sa:PySem.W.findIn K (.ref C) "__setattr__"=some (some (.builtin "object.__setattr__"))
theorem Cls.get{K:qB}{C:Addr}(c:Cls K C)(f:Str):PySem.W.plainGet K C f=true:=c.pg
set_option genInjectivity false in
set_option genInjectivity false in
section
variable{X:Cx}{pins:List (Addr×Obj)}{σ:St}{H:Hp}{s:Shared}{a C dx:Addr}{fs:List (Str×V)}{f:Str}{v:V}{A:Around}{E:Value->Shared->Prop}
theorem zamv{prog:Program}{w:World}{env:Env}{e:Expr}{f:Str}{pos:Pos}{s:Shared}{Q:Value->Shared->Prop}(hb:attributeBase e f env (eval e env)=eval e env)
  (h:wpAny (model prog w) A (eval e env) (λo s₁=>wpAny (model prog w) A (getAttr o f true) Q E s₁) E s):wpAny (model prog w) A (eval (.Attribute e f pos) env) Q E s:=
 Attribute_any_ h (by rw[arm_eval_Attribute,hb])
end
section
variable{X:Cx}{pins:List (Addr×Obj)}{σ:St}{H:Hp}{s:Shared}{A:Around}{E:Value->Shared->Prop}{Q:Value->Shared->Prop}{c:Value}{b:Bool}
inductive TyOf(K:qB)(H:Hp):V->Value->Prop where
 | non:TyOf K H .non (.type "NoneType")
 | bl (x:Bool):TyOf K H (.bl x) (.type "bool")
 | int (i:Int):TyOf K H (.int i) (.type "int")
 | str (x:Str):TyOf K H (.str x) (.type "str")
 | flt (x:UInt64):TyOf K H (.flt x) (.type "float")
 | lst {a:Addr} {xs:List V} (e:H a=some (.lst xs)):TyOf K H (.ref a) (.type "list")
 | frz {a:Addr} {o:Obj} {xs:List V} (e:H a=some (.frz o (.lst xs))):TyOf K H (.ref a) (.type "list")
 | tup {a:Addr} {xs:List V} (e:H a=some (.tup xs)):TyOf K H (.ref a) (.type "tuple")
 | dK {a:Addr} {kvs:List (Key×V)} (e:H a=some (.dK kvs)):TyOf K H (.ref a) (.type "dict")
 | dT {a:Addr} {kvs:List (List Key×V)} (e:H a=some (.dT kvs)):TyOf K H (.ref a) (.type "dict")
 | ins {a C dx:Addr} {fs:List (Str×V)} (e:H a=some (.ins C dx fs)) (cl:Cls K C) (ha:PySem.W.findIn K (.ref C) "__class__"=some (some (.builtin "object.__class__")))
   (hn:PySem.W.specialIn K (.builtin "object.__class__") "__get__"=some (some (.builtin "getset_descriptor.__get__")))(htk:PySem.W.takesIn K (.builtin "object.__class__")=some true)
   (hm:PySem.W.mroIn K C (.type "object")=some true):TyOf K H (.ref a) (.ref C)
theorem zadg {x:V} {u t:Value} (I:Inv X pins σ H s) (rx:RelV x u) (ty:TyOf X.K H x t) (e:PySem.W.kitOne X.K t c=some b) (h:∀tk,Q (.bool b) {s with toks:=tk}) :
  wpAny (model X.prog X.w) A (call (.builtin "isinstance") [u,c]) Q E s:=by
 cases ty with
 | non=>cases(show u=Value.none from rx);exact qAh PySem.W.kitx_none I.kIn True.intro e (λz=>nomatch z) h
 | bl y=>cases(show u=Value.bool y from rx);exact qAh PySem.W.kitx_bool I.kIn True.intro e (λz=>nomatch z) h
 | int i=>obtain⟨t,q⟩:=(show ∃t,u=Value.int i t from rx);cases q;exact qAh PySem.W.kitx_int I.kIn True.intro e (λz=>nomatch z) h
 | str y=>obtain⟨t,q⟩:=(show ∃t,u=Value.str y t from rx);cases q;exact qAh PySem.W.kitx_str I.kIn True.intro e (λz=>nomatch z) h
 | flt y=>obtain⟨t,q⟩:=(show ∃t,u=Value.float y t from rx);cases q;exact qAh PySem.W.kitx_float I.kIn True.intro e (λz=>nomatch z) h
 | @lst a xs ea=>
  cases(show u=Value.ref a from rx)
  obtain⟨_,_,n,_,h1⟩:=(show zgb X.prog X.w H s.heap a (.lst xs)from I.hok a _ ea)
  exact qAh qCw I.kIn ⟨_,h1,rfl⟩ e (λz=>nomatch z) h
 | @frz a ob xs ea=>
  cases(show u=Value.ref a from rx)
  obtain⟨_,_,_,n,_,h1⟩:=(show zgb X.prog X.w H s.heap a (.frz ob (.lst xs))from I.hok a _ ea)
  exact qAh qCw I.kIn ⟨_,h1,rfl⟩ e (λz=>nomatch z) h
 | @tup a xs ea=>
  cases(show u=Value.ref a from rx)
  obtain⟨_,_,_,p⟩:=(show zgb X.prog X.w H s.heap a (.tup xs)from I.hok a _ ea)
  obtain⟨o,h1,h2,_⟩:=p
  exact qAh PySem.W.kitx_tuple I.kIn ⟨o,h1,h2⟩ e (λz=>nomatch z) h
 | @dK a kvs ea=>
  cases(show u=Value.ref a from rx)
  obtain⟨_,_,vs,_,p⟩:=(show zgb X.prog X.w H s.heap a (.dK kvs)from I.hok a _ ea)
  obtain⟨o,es,ep,h1,h2,_⟩:=p
  exact qAh qCx I.kIn ⟨o,h1,h2.1⟩ e (λz=>nomatch z) h
 | @dT a kvs ea=>
  cases(show u=Value.ref a from rx)
  obtain⟨_,_,xs,_,o,es,ep,h1,h2,_⟩:=(show zgb X.prog X.w H s.heap a (.dT kvs)from I.hok a _ ea)
  exact qAh qCx I.kIn ⟨o,h1,h2.1⟩ e (λz=>nomatch z) h
 | @ins a C dx fs ea cl ha hn htk hm=>
  cases(show u=Value.ref a from rx)
  obtain⟨mA,O,_⟩:=zamu I.hok ea
  obtain⟨od,J,_⟩:=O.look
  exact qAh (PySem.W.kitx_own (cl.get _) cl.hd ha hn htk hm) I.kIn J e (λz=>nomatch z) h
end
set_option genInjectivity false in
structure Room(k:Nat)(A:Around):Prop where
 hd:A.handled=none
 dp:A.depth+3 * k+5<recursionLimit
 un:A.units+16 * k+200<cLine
 gd:A.guards=some []
theorem Room.mono{j k:Nat}{A:Around}(r:Room k A)(h:j<=k):Room j A:=⟨r.hd,by have:=r.dp;omega,by have:=r.un;omega,r.gd⟩
theorem Room.deeper{k:Nat}{A:Around}(r:Room (k+1) A)(env:Env):Room k (A.deeper env):=
 ⟨r.hd,by have:=r.dp;show A.depth+1+3 * k+5<_;omega,by have:=r.un;show A.units+3+16 * k+200<_;omega,r.gd⟩
theorem zabi{A:Around}{C:Addr}{us:List Value}{kw:List (Str×Value)}:(A.under (.builtin "type.__call__" ⟨.ref C::us,kw⟩)).depth=A.depth+1:=by
 first|rfl|simp[Around.under,Code.weight,Code.isCreation,Code.isGuard,Code.isCaller,Code.frames,Code.isFrame,guardIds]
theorem zabj{A:Around}{C:Addr}{us:List Value}{kw:List (Str×Value)}:(A.under (.builtin "type.__call__" ⟨.ref C::us,kw⟩)).units=A.units+1:=by
 first|rfl|simp[Around.under,Code.cUnits,Code.frames,Code.isFrame]
theorem Room.make{k:Nat}{A:Around}(r:Room (k+1) A)(C:Addr)(us:List Value)(kw:List (Str×Value)):Room k (A.under (.builtin "type.__call__" ⟨.ref C::us,kw⟩)):=
 ⟨r.hd,by have:=r.dp;rw[zabi];omega,by have:=r.un;rw[zabj];omega,by first|exact r.gd|(simpa [Around.under,Code.isGuard,Code.isFrame,guardIds]using r.gd)⟩
theorem Room.depth{k:Nat}{A:Around}(r:Room k A):A.depth<recursionLimit:=by have:=r.dp;omega
theorem Room.units{k:Nat}{A:Around}(r:Room k A):A.units+64<cLine:=by have:=r.un;omega
noncomputable def tNil:TA:=λ_ H Q=>Q [] H
noncomputable def tCons(ta:TE)(tr:TA):TA:=λσ H Q=>ta σ H λx H1=>tr σ H1 λxs H2=>Q (x::xs) H2
section
variable{X:Cx}{e:Expr}{es:List Expr}{te:TE}{t:TA}{pos:Pos}
theorem zob:PA X [] tNil:=λ_ _ _ _ H Q I h=>qBr ⟨[],H,I,.nil,h⟩
theorem zkg(ha:PE X e te)(hr:PA X es t)(hs:starEach (e::es) X.env=(false,eval e X.env)::starEach es X.env:=by rfl):PA X (e::es) (tCons te t):=by
 intro pos pins s σ H Q I h
 rw[hs]
 show wpAny _ _ (spliced ((false,eval e X.env)::backTo pos (starEach es X.env))) _ _ s
 refine qBM (thn (ha pins s σ H _ I h) λu s1 ⟨x,H1,I1,r1,q1⟩=>?_)
 exact thn (hr pos pins s1 σ H1 _ I1 q1) λus s2 ⟨xs,H2,I2,r2,q2⟩=>⟨x::xs,H2,I2,.cons r1 r2,q2⟩
noncomputable def tTup(t:TA):TE:=λσ H Q=>t σ H λxs H1=>xs.length<=qe/\∀p,H1 p=none->Q (.ref p) (upd H1 p (.tup xs))
noncomputable def tLst(t:TA):TE:=λσ H Q=>t σ H λxs H1=>xs.length<=qe/\∀p,H1 p=none->Q (.ref p) (upd H1 p (.lst xs))
theorem zarb{x1}(h:PA X es t):PE X (.Tuple es x1 pos) (tTup t):=by
 intro pins s σ H Q I hq
 refine wpAny_Tuple_spliced (thn (h pos pins s σ H _ I hq) λus s1 ⟨xs,H1,I1,r,z,q⟩=>⟨by rw[<- r.length];exact z,?_⟩)
 have hf:H1 s1.heap.objs.size=none:=I1.hok.fresh (qM _)
 refine⟨.ref s1.heap.objs.size,upd H1 s1.heap.objs.size (.tup xs),I1.laid (t':=s1.toks) (λb u e=>qG _ e) (qM _) ?_,rfl,q _ hf⟩
 exact⟨z,us,r,⟨_,qd _ rfl,rfl,_,rfl⟩⟩
theorem zakx(h:PA X es t):PE X (.List es pos) (tLst t):=by
 intro pins s σ H Q I hq
 refine wpAny_List_spliced (thn (h pos pins s σ H _ I hq) λus s1 ⟨xs,H1,I1,r,z,q⟩=>⟨by rw[<- r.length];exact z,?_⟩)
 have hf:H1 s1.heap.objs.size=none:=I1.hok.fresh (qM _)
 refine⟨.ref s1.heap.objs.size,upd H1 s1.heap.objs.size (.lst xs),I1.laid (t':=s1.toks) (λb u e=>qG _ e) (qM _) ?_,rfl,q _ hf⟩
 exact⟨z,us,0,r,qd _ rfl⟩
end
noncomputable abbrev Sp:=List V->Hp->VK->XK->Prop
noncomputable abbrev CXT:=List Env->Hp->Shared->XK->Value->Shared->Prop
set_option genInjectivity false in
structure Env0(P:Program)(w:World)(K:qB)(mg:Str->Option Value)(base:Heap)(A:Around)(outer:List Env)(s:Shared)(H:Hp):Prop where
 frames:A.frames=some outer
 mod:Mod K mg base
 bs:∀b o,base.get? b=some o->s.heap.get? b=some o/\H b=none
 bsz:base.objs.size<=s.heap.objs.size
 funs:s.heap.FunFrames base outer
 frf:∀b∈frs outer,H b=none
 hok:HOk P w H s.heap
 bare:AllBare s.gens
noncomputable def CE(outer:List Env)(P:Program)(w:World)(H:Hp)(s:Shared)(Q:VK)(u:Value)(s':Shared):Prop:=
 ∃v H',s'.os=s.os/\AllBare s'.gens/\Un (frs outer) [] H H' s.heap s'.heap/\HOk P w H' s'.heap/\RelV v u/\Q v H'
noncomputable def CR(CX:CXT)(outer:List Env)(P:Program)(w:World)(H:Hp)(s:Shared)(Q:VK)(E:XK)(r:Result)(s':Shared):Prop:=
 match r with
 | .ok (.ret u)=>CE outer P w H s Q u s'
 | .ok _=>False
 | .error e=>CX outer H s E e s'
set_option genInjectivity false in
structure FnOk(P:Program)(w:World)(K:qB)(mg:Str->Option Value)(base:Heap)(CX:CXT)(k:Nat)(f:Addr)(fd:qw)(ps:List Str)(sp:Sp):Prop where
 len:∀vs H Q E,sp vs H Q E->vs.length=ps.length
 run:∀(A:Around)(outer:List Env)(s:Shared)(H:Hp)(args:Args)(us:List Value)(vs:List V)(Q:VK)(E:XK),Room k A->Env0 P w K mg base A outer s H->BindsTo s fd args (ps.zip us)->Vals vs us->sp vs H Q E->
  codeAny (model P w) A (.call (.ref f) args) (CR CX outer P w H s Q E) s
theorem Env0.make{P:Program}{w:World}{K:qB}{mg:Str->Option Value}{base:Heap}{A:Around}{outer:List Env}{s:Shared}{H:Hp}(e:Env0 P w K mg base A outer s H)(C:Addr)(us:List Value)(kw:List (Str×Value)) :
  Env0 P w K mg base (A.under (.builtin "type.__call__" ⟨.ref C::us,kw⟩)) outer s H:=⟨by first|exact e.frames|(simpa [Around.under,Code.envs,Code.isFrame,pushEnvs]using e.frames),e.mod,e.bs,e.bsz,e.funs,e.frf,e.hok,e.bare⟩
section
variable{X:Cx}{pins:List (Addr×Obj)}{σ:St}{H:Hp}{s s':Shared}
theorem Inv.env0(I:Inv X pins σ H s):Env0 X.prog X.w X.K X.mg X.base X.A X.stack s H:=
 ⟨I.ok.frames,I.ok.mod,I.bs,qAD I.ok.bsz I.sz,I.stack,I.stkFree,I.hok,I.bare⟩
theorem Inv.after{Q:VK}{u:Value}(I:Inv X pins σ H s)(h:CE X.stack X.prog X.w H s Q u s'):EP X pins σ Q u s':=by
 obtain⟨v,H',os,bare,un,hok,r,q⟩:=h
 obtain⟨hh,g,d,t,os'⟩:=s'
 obtain rfl:os'=s.os:=os
 exact⟨v,H',I.call (h':=hh) (g':=g) (d':=d) (t':=t) (ch:=[]) un hok bare (λb z=>absurd z (by simp)),r,q⟩
end
noncomputable def tCall(sp:Sp)(dvs:List V)(E:XK)(t:TA):TE:=λσ H Q=>t σ H λvs H1=>sp (vs++dvs) H1 Q E
noncomputable def zno(K:qB)(fd:qw)(ps:List Str)(ds:List Value):Prop:=
 ∀(s:Shared)(us:List Value),K.In s.heap->(us++ds).length=ps.length->BindsTo s fd ⟨us,[]⟩ (ps.zip (us++ds))
theorem zno.all{K:qB}{fd:qw}{ps:List Str}(h:∀us:List Value,us.length=ps.length->bindArgs fd ⟨us,[]⟩=pure (ps.zip us)):zno K fd ps []:=λs us _ hl=>by
 rw[qv]at hl ⊢
 exact .of_eq (h us hl)
noncomputable def zadh(CX:CXT)(X:Cx)(E:XK):Prop:=∀(pins:List (Addr×Obj))(σ:St)(H:Hp)(s:Shared)(e:Value)(s':Shared),Inv X pins σ H s->CX X.stack H s E e s'->X.xe e s'
section
variable{X:Cx}{CX:CXT}{k:Nat}{f C:Addr}{fd:qw}{ps:List Str}{sp:Sp}{dvs:List V}{ds:List Value}{E:XK}{x m:Str}{p pos apos:Pos}{e o:Expr}{es:List Expr}{ta:TE}{t:TA}
theorem zarc{pins:List (Addr×Obj)}{σ:St}{H:Hp}{s:Shared}{Q:VK}{us:List Value}{vs:List V}(F:FnOk X.prog X.w X.K X.mg X.base CX k f fd ps sp)(hr:Room k X.A)(hb:zno X.K fd ps ds)(hd:Vals dvs ds)(hx:zadh CX X E)
  (I:Inv X pins σ H s) (r:Vals vs us) (h:sp (vs++dvs) H Q E):wpAny (model X.prog X.w) X.A (call (.ref f) us) (EP X pins σ Q) X.xe s:=by
 have r2:Vals (vs++dvs) (us++ds):=r.append hd
 have hl:(us++ds).length=ps.length:=by rw[<- r2.length];exact F.len _ _ _ _ h
 refine qBm (qA6 (F.run X.A X.stack s H ⟨us,[]⟩ (us++ds) (vs++dvs) Q E hr I.env0 (hb s us I.kIn hl) r2 h) λr s' hq=>?_)
 cases r with
 | error e=>exact hx pins σ H s e s' I hq
 | ok fl=>
  cases fl with
  | ret u=>exact I.after hq
  | next=>exact False.elim hq
  | brk=>exact False.elim hq
  | cont=>exact False.elim hq
theorem zamw(F:FnOk X.prog X.w X.K X.mg X.base CX k f fd ps sp)(hr:Room k X.A)(hg:Gl X x)(hm:X.mg x=some (.ref f))(hk:qX X.K (.ref f)=true)(hb:zno X.K fd ps ds)(hd:Vals dvs ds)(hx:zadh CX X E)
  (ha:PA X (e::es) t)(hdb:(x==("__debug__":Str))=false:=by decide)(he:starEach (e::es) X.env=(false,eval e X.env)::starEach es X.env:=by rfl)(hpl:(backTo pos (starEach es X.env)).any (·.1)=false:=by rfl) :
  PE X (.Call (.Name x p) (e::es) [] pos) (tCall sp dvs E t):=by
 intro pins s σ H Q I h
 refine qAk (zkf I hg hm ?_ hdb)
 refine qBK (h₀:=X.base) I.ok.mod.kin hk (thn (ha pos pins s σ H _ I h) λus s1 ⟨vs,H1,I1,r,q⟩=>⟨I1.kIn,?_⟩) he hpl
 exact zarc F hr hb hd hx I1 r q
set_option genInjectivity false in
end
section
variable{X:Cx}{CX:CXT}{k:Nat}{f C:Addr}{fd:qw}{ps ks:List Str}{sp:Sp}{E:XK}{x m:Str}{p pos apos kpos:Pos}{e o:Expr}{es:List Expr}{kws:List Keyword}{te ta:TE}{t tk:TA}{nm:Option Str}
set_option genInjectivity false in
variable{g:List Value->List Value->List Value}{gV:List V->List V->List V}
end
set_option genInjectivity false in
structure FnScope(N P:List Str)(sc:Scope):Prop where
 kind:sc.kind=.function
 co:sc.isCoroutine=false
 gen:sc.isGenerator=false
 nd:N.Nodup
 pre:N.take P.length=P
 par:∀x∈P,sc.names.lookup x=some .local\/sc.names.lookup x=some .cell
 nofree:∀y∈sc.names,y.2≠.free
theorem zuq{kindOf:Str->Option NameKind}{x:Str}:∀{binds:List (Str×Value)}{m:Str->Option Value},(∀v,(x,v)∉binds)->bindL kindOf binds m x=m x
 | [],_,_=>rfl
 | (n,v)::r,m,h=>by
  unfold bindL
  rw[zuq λw hw=>h w (qK _ hw)]
  split
  ·have:x≠n:=by rintro rfl;exact h v qk
   simp[this]
  ·rfl
theorem zur{kindOf:Str->Option NameKind}{x:Str}:∀{binds:List (Str×Value)}{m:Str->Option Value},(∀v,(x,v)∉binds)->bindC kindOf binds m x=m x
 | [],_,_=>rfl
 | (n,v)::r,m,h=>by
  unfold bindC
  rw[zur λw hw=>h w (qK _ hw)]
  split
  ·rfl
  ·have:x≠n:=by rintro rfl;exact h v qk
   simp[this]
theorem zus{kindOf:Str->Option NameKind}{x:Str}{v:Value}:∀{P:List Str}{vs:List Value}{i:Nat}{m:Str->Option Value},P.Nodup->P[i]?=some x->vs[i]?=some v->kindOf x=some .local->
  bindL kindOf (P.zip vs) m x=some v
 | [],_,_,_,_,h,_,_=>by simp at h
 | _::_,[],_,_,_,_,h,_=>by simp at h
 | p::P,w::vs,0,m,nd,h1,h2,hk=>by
  simp at h1 h2;subst h1;subst h2
  show bindL kindOf ((p,w)::P.zip vs) m p=_
  unfold bindL
  rw[zuq λv hv=>(qt.mp nd).1 (qBd hv).1,if_pos hk]
  simp
 | p::P,w::vs,i+1,m,nd,h1,h2,hk=>by
  show bindL kindOf ((p,w)::P.zip vs) m x=_
  unfold bindL
  exact zus (i:=i) (qt.mp nd).2 (by simpa using h1) (by simpa using h2) hk
theorem zut{kindOf:Str->Option NameKind}{x:Str}{v:Value}:∀{P:List Str}{vs:List Value}{i:Nat}{m:Str->Option Value},P.Nodup->P[i]?=some x->vs[i]?=some v->kindOf x≠some .local->
  bindC kindOf (P.zip vs) m x=some v
 | [],_,_,_,_,h,_,_=>by simp at h
 | _::_,[],_,_,_,_,h,_=>by simp at h
 | p::P,w::vs,0,m,nd,h1,h2,hk=>by
  simp at h1 h2;subst h1;subst h2
  show bindC kindOf ((p,w)::P.zip vs) m p=_
  unfold bindC
  rw[zur λv hv=>(qt.mp nd).1 (qBd hv).1,if_neg hk]
  simp
 | p::P,w::vs,i+1,m,nd,h1,h2,hk=>by
  show bindC kindOf ((p,w)::P.zip vs) m x=_
  unfold bindC
  exact zut (i:=i) (qt.mp nd).2 (by simpa using h1) (by simpa using h2) hk
noncomputable def start(N:List Str)(vs:List V):St:=vs.map some++List.replicate (N.length - vs.length) none
noncomputable def cxOf(CX:CXT)(P:Program)(w:World)(K:qB)(mg:Str->Option Value)(base:Heap)(N:List Str)(qual:Str)(scope:Scope)(f:Addr)(cd:Value)(A:Around)(outer:List Env)(s:Shared)(H:Hp)(E:XK):Cx where
 prog:=P
 w:=w
 K:=K
 mg:=mg
 base:=base
 A:=A.deeper (envOfC qual scope s.heap.objs.size f cd)
 N:=N
 s₀:=s
 H₀:=H
 env:=envOfC qual scope s.heap.objs.size f cd
 outer:=outer
 stack:=envOfC qual scope s.heap.objs.size f cd::outer
 ex:=[]
 calm:=true
 fn:=λ_=>true
 pn:=[]
 xe:=λe s'=>wpAny (model P w) (A.deeper (envOfC qual scope s.heap.objs.size f cd)) (leaving (envOfC qual scope s.heap.objs.size f cd) e) (λ_ s''=>CX outer H s E e s'') (λe' s''=>CX outer H s E e' s'') s'
theorem zsq{sc:Scope}{n:Nat}{x:Str}(h:sc.names.lookup x=some .cell):∃c,(cellsFrom n sc.names []).lookup x=some c:=by
 have q:=qBt sc.names n [] (.inl h)
 exact Option.isSome_iff_exists.mp q
theorem zuu{CX:CXT}{P:Program}{w:World}{K:qB}{mg:Str->Option Value}{base:Heap}{N ps:List Str}{qual:Str}{scope:Scope}{f:Addr}{cd:Value}{A:Around}{outer:List Env}{s s1:Shared}{H:Hp}{E:XK}{us:List Value}{vs:List V}
  (S:FnScope N ps scope)(hd:A.handled=none)(e0:Env0 P w K mg base A outer s H)(hl:vs.length=ps.length)(r:Vals vs us)
  (x:InCallC s s.heap.objs.size (bindL (envOfC qual scope s.heap.objs.size f cd).kindOf (ps.zip us) λ_=>none) (cellsFrom (s.heap.objs.size+1) scope.names []) (bindC (envOfC qual scope s.heap.objs.size f cd).kindOf (ps.zip us) λ_=>none) s1) :
  Inv (cxOf CX P w K mg base N qual scope f cd A outer s H E) [] (start N vs) H s1:=by
 have hpl:ps.length<=N.length:=by have:=congrArg List.length S.pre;rw[qAN]at this;omega
 obtain⟨h1,tk,rfl,hk⟩:=x.done
 have noA:∀b:Addr,b∉(cxOf CX P w K mg base N qual scope f cd A outer s H E).ex:=λb z=>absurd (show b∈([]:List Addr)from z) (by simp)
 refine⟨⟨e0.mod,S.kind,rfl,rfl,qM _,λy z c h1 h2=>?_,λy hy=>?_,λy c _ h=>?_,λ_=>hd,Around.frames_deeper e0.frames,.inr ⟨rfl,rfl⟩,λb z=>absurd z (noA b),e0.bs,e0.bsz,λb _ _=>noA b,λb z=>absurd z (noA b),e0.funs,e0.frf⟩,
  rfl,e0.bare,Un.kept hk,⟨_,x.toInCall.ns,λi y v h1 h2 h3=>?_⟩,λy c h=>⟨_,x.cell y c h⟩,e0.hok.fresh (qM _),λy c h=>?_,λp hp=>absurd (show p∈([]:List (Addr×Obj))from hp) (by simp),e0.hok.kept hk,?_⟩
 ·exact name_of_addr x.apart (qAL h1) (qAL h2)
 ·have hy:scope.names.lookup y=some .cell\/scope.names.lookup y=some .free:=hy
  rcases hy with hy|hy
  ·exact zsq hy
  ·exact absurd rfl (S.nofree _ (qAL hy))
 ·exact qBn (x.above y c (qAL h))
 ·have hi:i<vs.length:=by
   unfold start at h2
   by_cases hi:i<vs.length
   ·exact hi
   ·rw[qN (by simpa using hi)]at h2
    rw[qA3]at h2
    split at h2<;>cases h2
  have ha:vs[i]?=some v:=by
   unfold start at h2
   rw[qf (by simpa using hi),qT]at h2
   cases e:vs[i]? with
   | none=>rw[e]at h2;cases h2
   | some a=>rw[e]at h2;cases h2;rfl
  obtain⟨u,hu,rv⟩:=r.get ha
  have hp:ps[i]?=some y:=by
   rw[<- S.pre,List.getElem?_take_of_lt (by omega)];exact h1
  have ndP:ps.Nodup:=by rw[<- S.pre];exact S.nd.sublist (qBs _ _)
  refine⟨u,rv,?_⟩
  rcases S.par y (qp hp)with k|k
  ·exact .inl ⟨k,zus ndP hp hu k⟩
  ·obtain⟨c,e⟩:=zsq (n:=s.heap.objs.size+1) k
   refine .inr ⟨.inl k,c,e,?_⟩
   have q:=x.cell y c e
   rw[zut ndP hp hu (by show scope.names.lookup y≠_;rw[k];decide)]at q
   exact q
 ·exact e0.hok.fresh (qBn (x.above y c (qAL h)))
 ·unfold start
  show _=N.length
  rw[qI,qD,qAJ]
  omega
theorem zaud{CX:CXT}{P:Program}{w:World}{K:qB}{mg:Str->Option Value}{base:Heap}{k:Nat}{f:Addr}{name qual:Str}{params:Arguments}{body:List Stmt}{scope:Scope}{dV kV doc pm cdv ct oc:Value}{an od:Option Addr}
  {osl:Array (Option Value)}{N ps:List Str}{sp:Sp}(lk:K.lookup f=some ⟨oc,od,.func (qo name qual params body scope dV kV doc pm an cdv ct),osl⟩)(hcd:qi K cdv qual=true)(S:FnScope N ps scope)
  (len:∀vs H Q E,sp vs H Q E->vs.length=ps.length)
  (hbody:∀(A:Around)(outer:List Env)(s:Shared)(H:Hp)(vs:List V)(Q:VK)(E:XK),Room k (A.deeper (envOfC qual scope s.heap.objs.size f cdv))->sp vs H Q E->
   ∃t,PSs (cxOf CX P w K mg base N qual scope f cdv A outer s H E) body t/\t {nx:=λ_ H'=>Q .non H',rt:=Q} (start N vs) H) :
  FnOk P w K mg base CX (k+1) f (qo name qual params body scope dV kV doc pm an cdv ct) ps sp:=by
 refine⟨len,λA outer s H args us vs Q E hr e0 hb r hsp=>?_⟩
 have hl:=len _ _ _ _ hsp
 have KX:K.In s.heap:=e0.mod.kin.keeps λb o e=>(e0.bs b o e).1
 have lim:s.heap.NoLimit:=e0.mod.nolimit.keeps λb o e=>(e0.bs b o e).1
 have hkind:∀y∈ps.zip us,scope.names.lookup y.1=some .local\/(scope.names.lookup y.1=some .cell/\((cellsFrom (s.heap.objs.size+1) scope.names []).lookup y.1).isSome=true):=λ⟨n,v⟩ hy=>by
  rcases S.par n (qBd hy).1 with q|q
  ·exact .inl q
  ·exact .inr ⟨q,qBt _ _ _ (.inl q)⟩
 refine codeAny_call_function hr.depth (KX _ _ lk) rfl S.co S.gen rfl (qCr KX hcd) (hb _ _ _ _ ?_)
 refine qCq S.kind hkind λenv he s1 x=>?_
 subst he
 refine⟨lim.keeps x.toInCall.keep,codeAny_func ?_⟩
 obtain⟨t,ht,hq⟩:=hbody A outer s H vs Q E (hr.deeper _) hsp
 have I:Inv (cxOf CX P w K mg base N qual scope f cdv A outer s H E) [] (start N vs) H s1:=zuu S hr.hd e0 hl r x
 refine qBI (ht [] s1 (start N vs) H _ I hq) (λfl s' hs=>?_) λe s' hs=>hs
 have fin:∀{σ':St}{H':Hp}{v:V}{u:Value},Inv (cxOf CX P w K mg base N qual scope f cdv A outer s H E) [] σ' H' s'->RelV v u->Q v H'->CE outer P w H s Q u s':=
  λ{σ' H' v u} J rv q=>⟨v,H',J.os,J.bare,J.base,J.hok,rv,q⟩
 cases fl with
 | ret u=>
  obtain⟨v,σ',H',J,rv,q⟩:=hs
  exact fin J rv q
 | next=>
  obtain⟨σ',H',J,q⟩:=hs
  exact fin (v:=V.non) (u:=Value.none) J rfl q
 | brk=>
  obtain⟨_,_,_,q⟩:=hs
  exact False.elim q
 | cont=>
  obtain⟨_,_,_,q⟩:=hs
  exact False.elim q
section
variable{X:Cx}{x:Str}{p pos:Pos}{e:Expr}{es:List Expr}{t:TA}{id T:String}{r:List V->Hp->VK->Prop}
noncomputable def tCB(r:List V->Hp->VK->Prop)(t:TA):TE:=λσ H Q=>t σ H λvs H1=>r vs H1 Q
theorem zzr(hc:CallR X (.builtin id) r)(hg:Gl X x)(hm:X.mg x=none)(hv:bootBuiltins x=some (.builtin id))(ha:PA X (e::es) t)(hn:x≠"__name__":=by decide)(hdb:(x==("__debug__":Str))=false:=by decide)
  (he:starEach (e::es) X.env=(false,eval e X.env)::starEach es X.env:=by rfl) (hpl:(backTo pos (starEach es X.env)).any (·.1)=false:=by rfl):PE X (.Call (.Name x p) (e::es) [] pos) (tCB r t):=by
 intro pins s σ H Q I h
 refine qAk (zoa I hg hm hv ?_ hn hdb)
 exact PyProof.Rows.callWith_builtin1 (thn (ha pos pins s σ H _ I h) λus s1 ⟨vs,H1,I1,r1,q1⟩=>hc pins s1 σ H1 vs us Q I1 r1 q1) he hpl
theorem zadi(hc:CallR X (.type T) r)(hg:Gl X x)(hm:X.mg x=none)(hv:bootBuiltins x=some (.type T))(ha:PA X (e::es) t)(hn:x≠"__name__":=by decide)(hdb:(x==("__debug__":Str))=false:=by decide)
  (he:starEach (e::es) X.env=(false,eval e X.env)::starEach es X.env:=by rfl) (hpl:(backTo pos (starEach es X.env)).any (·.1)=false:=by rfl):PE X (.Call (.Name x p) (e::es) [] pos) (tCB r t):=by
 intro pins s σ H Q I h
 refine qAk (zoa I hg hm hv ?_ hn hdb)
 exact qBV (thn (ha pos pins s σ H _ I h) λus s1 ⟨vs,H1,I1,r1,q1⟩=>hc pins s1 σ H1 vs us Q I1 r1 q1) he hpl
end
end L2
namespace HT
open PySem PyProof.Rows
section
open PySem.SeqAt
open PySem.AutoSeq1 (wpAny_loadPart')
open PySem.MeetsSeq PySem.MeetsSeq2 PySem.MeetsSeq3
end
section
variable{prog:Program}{w:World}{A:Around}{E:Value->Shared->Prop}{s:Shared}
theorem cat_tup{t b:Addr}{vs ws:List Value}{Q:Value->Shared->Prop}(ht:IsTup s.heap t vs.toArray)(hb:IsTup s.heap b ws.toArray)(hv:vs≠[])
  (h1:ws=[]->Q (.ref t) s) (h2:ws≠[]->Q (.ref s.heap.objs.size) {s with heap:=s.heap.push {cls:=.type "tuple",data:=.seq (vs++ws).toArray}})
  (hsz:vs.length+ws.length<=qe):wpAny (model prog w) A (binaryOp .Add (.ref t) (.ref b)) Q E s:=by
 obtain⟨⟨cls,dd,data,sl⟩,ho,hc,n,hd⟩:=id ht
 obtain⟨⟨cls2,dd2,data2,sl2⟩,ho2,hc2,n2,hd2⟩:=id hb
 simp only at hc hd hc2 hd2
 subst hc hd hc2 hd2
 have e:vs.toArray++ws.toArray=(vs++ws).toArray:=by simp
 by_cases hw:ws=[]
 ·exact concat_meets ⟨_,ho,rfl⟩ ⟨_,ho2,rfl⟩ qCc seq_tuple_add qBu qBq (qBj _ _)
   (tuple_addW1 t b vs.toArray ws.toArray n n2 dd dd2 sl sl2 (by simpa using hv) (by simp[hw])) ⟨ho,ho2,h1 hw⟩
 ·refine concat_meets ⟨_,ho,rfl⟩ ⟨_,ho2,rfl⟩ qCc seq_tuple_add qBu qBq (qBj _ _)
   (tuple_addW2 t b vs.toArray ws.toArray n n2 dd dd2 sl sl2 (by simpa using hv) (by simpa using hw) (by rw[qL,qL];exact hsz)) ⟨ho,ho2,?_⟩
  rw[e]
  exact h2 hw
noncomputable def sIx(n d:Nat):Option Int->Nat
 | none=>d
 | some v=>if v<0 then(v+(n:Int)).toNat else min v.toNat n
theorem sIx_nat(n d k:Nat):sIx n d (some (k:Int))=min k n:=by
 show(if(k:Int)<0 then((k:Int)+(n:Int)).toNat else min (k:Int).toNat n)=min k n
 rw[if_neg (by omega),qAt]
theorem zard(n d:Nat)(hd:d<=n)(o:Option Int):sIx n d o<=n:=by
 cases o with
 | none=>exact hd
 | some v=>
  show(if v<0 then(v+(n:Int)).toNat else min v.toNat n)<=n
  by_cases hv:v<0
  ·rw[if_pos hv];omega
  ·rw[if_neg hv];exact Nat.min_le_right _ _
theorem zadj(v:Int)(n d:Nat):(if v<0 then max (v+(n:Int)) 0 else min v (n:Int))=((sIx n d (some v):Nat):Int):=by
 show(if v<0 then max (v+(n:Int)) 0 else min v (n:Int))=(((if v<0 then(v+(n:Int)).toNat else min v.toNat n):Nat):Int)
 by_cases hv:v<0
 ·simp only[if_pos hv];omega
 ·simp only[if_neg hv];omega
theorem zabk(lo hi:Option Int)(n:Nat):Builtin.Slice.sliceAdjust lo hi 1 (n:Int)=(((sIx n 0 lo:Nat):Int),((sIx n n hi:Nat):Int)):=by
 have h1:¬((1:Int)<0):=by omega
 unfold Builtin.Slice.sliceAdjust
 simp only[h1,if_false]
 refine Prod.ext ?_ ?_
 ·cases lo with
  | none=>rfl
  | some v=>exact zadj v n 0
 ·cases hi with
  | none=>rfl
  | some v=>exact zadj v n n
theorem zabl(i j:Nat):Builtin.Slice.slicePlaces (i:Int) (j:Int) 1=j - i:=by
 unfold Builtin.Slice.slicePlaces
 have h1:(1:Int) > 0:=by omega
 simp only[h1,if_true,qCz]
 split<;>omega
theorem zrq{v:Value}{o:Option Int}{Q:Option Int->Shared->Prop}(p:IsPart v o)(h:Q o s):wpAny (model prog w) A (Builtin.Slice.slicePartIndex v) Q E s:=by
 cases p with
 | none=>exact slicePart_none h
 | int i t=>exact slicePart_int h
theorem zjv{sl:Addr}{vl vu:Value}{lo hi:Option Int}{n:Nat}{Q:Int×Int×Nat->Shared->Prop}(hs:s.heap.IsSliceOf sl vl vu .none)(pl:IsPart vl lo)(pu:IsPart vu hi)
  (h:Q (((sIx n 0 lo:Nat):Int),1,sIx n n hi - sIx n 0 lo) s):wpAny (model prog w) A (Builtin.Slice.sliceApplied (.ref sl) (pure (n:Int))) Q E s:=by
 obtain⟨os,hos,hcs,hds⟩:=id hs
 unfold Builtin.Slice.sliceApplied Builtin.Slice.sliceFields
 refine qE (qE (qAw hos hds (x:=vl) rfl (qE (qAw hos hds (x:=vu) rfl (qE (qAw hos hds (x:=.none) rfl (qQ ?_)))))))
 refine qE (slicePart_none ?_)
 show wpAny _ _ (if((1:Int)==0)=true then _ else _) _ _ s
 rw[if_neg (by decide)]
 refine qE (zrq pl (qE (zrq pu (qE (qQ ?_)))))
 show wpAny _ _ (match Builtin.Slice.sliceAdjust lo hi 1 (n:Int)with|(lo,hi)=>pure (lo,(1:Int),Builtin.Slice.slicePlaces lo hi 1)) _ _ s
 rw[zabk lo hi n]
 show wpAny _ _ (pure (((sIx n 0 lo:Nat):Int),(1:Int),Builtin.Slice.slicePlaces ((sIx n 0 lo:Nat):Int) ((sIx n n hi:Nat):Int) 1)) _ _ s
 rw[zabl]
 exact qQ h
theorem zaik(xs:Array Value)(i k:Nat):((List.range k).filterMap λ(m:Nat)=>xs[((i:Int)+(m:Int) * 1).toNat]?).toArray=((xs.toList.drop i).take k).toArray:=by
 have e:(λ(m:Nat)=>xs[((i:Int)+(m:Int) * 1).toNat]?)=λm=>xs[i+m]?:=by
  funext m
  have:((i:Int)+(m:Int) * 1).toNat=i+m:=by omega
  rw[this]
 rw[e]
 have:=pick_run xs i k
 rw[List.filterMap_map]at this
 have e2:((λx=>xs[x]?)∘λx=>i+x)=λm=>xs[i+m]?:=rfl
 rw[e2]at this
 rw[this]
theorem getItem_tuple_cut{t sl:Addr}{items:Array Value}{vl vu:Value}{lo hi:Option Int}{Q:Value->Shared->Prop}(ht:IsTup s.heap t items)(hs:s.heap.IsSliceOf sl vl vu .none)(pl:IsPart vl lo)(pu:IsPart vu hi)
  (hw:¬(sIx items.size 0 lo=0/\sIx items.size items.size hi=items.size))
  (h:Q (.ref s.heap.objs.size) {s with heap:=s.heap.push {cls:=.type "tuple",data:=.seq ((items.toList.drop (sIx items.size 0 lo)).take (sIx items.size items.size hi - sIx items.size 0 lo)).toArray}})
  (hsz:items.size<=qe):wpAny (model prog w) A (getItem (.ref t) (.ref sl)) Q E s:=by
 have htake:sizeOk (.seq ((items.toList.drop (sIx items.size 0 lo)).take (sIx items.size items.size hi - sIx items.size 0 lo)).toArray):=by
  show((items.toList.drop (sIx items.size 0 lo)).take (sIx items.size items.size hi - sIx items.size 0 lo)).toArray.size<=qe
  rw[qL,qAN,qAi,qCA]
  omega
 have hj:sIx items.size items.size hi<=items.size:=zard _ _ (qM _) hi
 obtain⟨os,hos,hcs,hds⟩:=id hs
 have hTs:s.TypeIs (.ref sl) "slice":=⟨os,hos,hcs⟩
 unfold getItem
 try with_reducible refine qBW ?_
 first|refine qE (qQ ?_)|skip
 refine qE (wpAny_sequenceKey ht.typeIs (by decide) ?_)
 refine qE (qA7 (name:=Str.ofString "__getitem__") ht.typeIs qAS
  (qBi qAS ht.typeIs entry_tuple_getitem ?_ (args_tuple_getitem _ _)))
 show wpAny _ _ (Builtin.Tuple.tupleItemsOf (.ref t) >>=_) _ _ s
 refine qE (tupleItemsOf_ ht ?_)
 refine qE (qCC hTs ?_)
 rw[if_pos (by decide)]
 refine qE (zjv hs pl pu ?_)
 have hno:¬((((sIx items.size 0 lo:Nat):Int)==0&&(1:Int)==1&&(sIx items.size items.size hi - sIx items.size 0 lo)==items.size)=true):=by
  intro q
  rw[qb,qb]at q
  have q1:((sIx items.size 0 lo:Nat):Int)=0:=eq_of_beq q.1.1
  have q2:sIx items.size items.size hi - sIx items.size 0 lo=items.size:=eq_of_beq q.2
  exact hw ⟨by omega,by omega⟩
 show wpAny _ _ (if(((sIx items.size 0 lo:Nat):Int)==0&&(1:Int)==1&&(sIx items.size items.size hi - sIx items.size 0 lo)==items.size)=true then _ else _) _ _ s
 rw[if_neg hno,zaik]
 first
  | exact qE (m:=Builtin.Tuple.tupleExact _) (qAu (qQ ⟨_,rfl,qQ h⟩) htake)
  | exact qE (m:=Builtin.Tuple.tupleExact _) (qAu (qE (qQ (qQ ⟨_,rfl,qQ h⟩))) htake)
  | exact qE (qE (m:=Builtin.Tuple.tupleExact _) (qAu (qQ (qQ ⟨_,rfl,qQ h⟩)) htake))
  | exact qE (qE (m:=Builtin.Tuple.tupleExact _) (qAu (qQ ⟨_,rfl,qQ h⟩) htake))
end
end HT
namespace L2
open PySem PySem.Spec PyProof.Rows
noncomputable abbrev TO:=St->Hp->(Option Int->Hp->Prop)->Prop
noncomputable def PO(X:Cx)(e:Option Expr)(t:TO):Prop:=
 ∀(pins:List (Addr×Obj))(s:Shared)(σ:St)(H:Hp)(Q:Option Int->Hp->Prop),Inv X pins σ H s->t σ H Q->
  wpAny (model X.prog X.w) X.A (evalPart e X.env) (λu s'=>∃o H',Inv X pins σ H' s'/\IsPart u o/\Q o H') X.xe s
noncomputable def tNoPart:TO:=λ_ H Q=>Q none H
noncomputable def tPart(t:TE):TO:=λσ H Q=>t σ H λx H1=>∃i,x=.int i/\Q (some i) H1
section
variable{X:Cx}{e:Expr}{te:TE}{lo hi:Option Expr}{tl th:TO}{pos p2:Pos}
theorem zadk:PO X none tNoPart:=by
 intro pins s σ H Q I h
 rw[evalPart_none]
 exact qQ ⟨none,H,I,.none,h⟩
theorem zadl(h:PE X e te):PO X (some e) (tPart te):=by
 intro pins s σ H Q I hw
 rw[evalPart_some]
 refine thn (h pins s σ H _ I hw) λu s1 ⟨x,H1,I1,r1,q1⟩=>?_
 obtain⟨i,rfl,q⟩:=q1
 obtain⟨t,rfl⟩:=r1
 exact⟨some i,H1,I1,.int i t,q⟩
noncomputable def SlR(X:Cx)(r:V->Option Int->Option Int->Hp->VK->Prop):Prop:=
 ∀(pins:List (Addr×Obj))(s:Shared)(σ:St)(H:Hp)(x:V)(v vl vu:Value)(lo hi:Option Int)(sl:Addr)(Q:VK),Inv X pins σ H s->RelV x v->s.heap.IsSliceOf sl vl vu .none->IsPart vl lo->IsPart vu hi->r x lo hi H Q->
  ∃T id,typeLookup (.type T) "__getitem__"=pure (some (.builtin id))/\s.TypeIs v T/\wpAny (model X.prog X.w) X.A (getItem v (.ref sl)) (EP X pins σ Q) X.xe s
noncomputable def tSl(r:V->Option Int->Option Int->Hp->VK->Prop)(te:TE)(tl th:TO):TE:=λσ H Q=>te σ H λx H1=>tl σ H1 λl H2=>th σ H2 λu H3=>r x l u H3 Q
theorem zzs{r:V->Option Int->Option Int->Hp->VK->Prop}(hr:SlR X r)(he:PE X e te)(hl:PO X lo tl)(hu:PO X hi th):PE X (.Subscript e (.Slice lo hi none p2) pos) (tSl r te tl th):=by
 intro pins s σ H Q I h
 refine Subscript_ (thn (he pins s σ H _ I h) λv s1 ⟨x,H1,I1,r1,q1⟩=>?_)
 refine wpAny_Slice (thn (hl pins s1 σ H1 _ I1 q1) λvl s2 ⟨l,H2,I2,pl,q2⟩=>thn (hu pins s2 σ H2 _ I2 q2) λvu s3 ⟨u,H3,I3,pu,q3⟩=>?_)
 rw[evalPart_none]
 refine qQ ?_
 have I4:Inv X pins σ H3 {s3 with heap:=s3.heap.push {cls:=.type "slice",data:=.fields #[vl,vu,.none]}}:=I3.kept (t':=s3.toks) λb ob q=>qG _ q
 obtain⟨T,id,hT,ht,hg⟩:=hr pins {s3 with heap:=s3.heap.push {cls:=.type "slice",data:=.fields #[vl,vu,.none]}} σ H3 x v vl vu l u s3.heap.objs.size Q I4 r1 (Heap.IsSliceOf.new ..) pl pu q3
 show wpAny (model X.prog X.w) X.A (subscriptTail e (.Slice lo hi none p2) v (.ref s3.heap.objs.size)) (EP X pins σ Q) X.xe {s3 with heap:=s3.heap.push {cls:=.type "slice",data:=.fields #[vl,vu,.none]}}
 exact tail_any (ops:=[.ref s3.heap.objs.size,v]) ht hT hg (by with_unfolding_all rfl)
noncomputable def cutV(xs:List V)(lo hi:Option Int):List V:=(xs.drop (HT.sIx xs.length 0 lo)).take (HT.sIx xs.length xs.length hi - HT.sIx xs.length 0 lo)
theorem zox(xs:List V)(lo hi:Option Int):(cutV xs lo hi).length<=xs.length:=by
 unfold cutV
 rw[qAN,qAi]
 omega
noncomputable def rSlT(K:qB):V->Option Int->Option Int->Hp->VK->Prop:=λx lo hi H Q=>∃a xs,x=.ref a/\SqT K H a xs/\
 ¬(HT.sIx xs.length 0 lo=0/\HT.sIx xs.length xs.length hi=xs.length)/\∀p,H p=none->Q (.ref p) (upd H p (.tup (cutV xs lo hi)))
theorem zare:SlR X (rSlT X.K):=by
 intro pins s σ H x v vl vu lo hi sl Q I rx hs pl pu h
 obtain⟨a,xs,rfl,hx,hw,q⟩:=h
 cases rx
 obtain⟨its,r,ht,hz⟩:=I.tuple hx
 have hlen:its.toArray.size=xs.length:=by rw[qL];exact r.length.symm
 refine⟨"tuple",_,qAS.lookup,ht.typeIs,?_⟩
 refine HT.getItem_tuple_cut ht hs pl pu (by rw[hlen];exact hw) ?_ (by rw[hlen];exact hz)
 rw[hlen]
 refine⟨.ref s.heap.objs.size,_,I.laid (t':=s.toks) (o:=.tup (cutV xs lo hi)) (λb ob q=>qG _ q) (qM _) ?_,rfl,q _ (I.hok.fresh (qM _))⟩
 exact⟨qAD (zox xs lo hi) hz,_,(r.drop (HT.sIx xs.length 0 lo)).take (HT.sIx xs.length xs.length hi - HT.sIx xs.length 0 lo),IsTup.new _ _⟩
noncomputable def zarf(K:qB):R2:=λx y H Q=>∃a b xs ys,x=.ref a/\y=.ref b/\SqT K H a xs/\SqT K H b ys/\xs≠[]/\xs.length+ys.length<=qe/\
 (ys=[]->Q (.ref a) H)/\(ys≠[]->∀p,H p=none->Q (.ref p) (upd H p (.tup (xs++ys))))
theorem Vals.nil_iff{xs:List V}{us:List Value}(r:Vals xs us):us=[]↔xs=[]:=by
 cases r with
 | nil=>simp
 | cons _ _=>simp
theorem zamx:OpR X (binaryOp .Add) (zarf X.K):=by
 intro pins s σ H x y v u Q I rx ry h
 obtain⟨a,b,xs,ys,rfl,rfl,ha,hb,hx,hz,q1,q2⟩:=h
 cases rx
 cases ry
 obtain⟨its,r1,p1,_⟩:=I.tuple ha
 obtain⟨its2,r2,p2,_⟩:=I.tuple hb
 refine HT.cat_tup p1 p2 (λz=>hx (r1.nil_iff.mp z)) (λz=>⟨.ref a,H,I,rfl,q1 (r2.nil_iff.mp z)⟩) (λz=>?_) (by rw[<- r1.length,<- r2.length];exact hz)
 refine⟨.ref s.heap.objs.size,_,I.laid (t':=s.toks) (o:=.tup (xs++ys)) (λb ob q=>qG _ q) (qM _) ?_,rfl,q2 (λw=>z (r2.nil_iff.mpr w)) _ (I.hok.fresh (qM _))⟩
 exact⟨by rw[qI];exact hz,_,r1.append r2,IsTup.new _ _⟩
end
noncomputable def ixN(n:Nat)(i:Int):Option Nat:=if 0<=i then(if i<n then some i.toNat else none)else if -(n:Int)<=i then some (i+n).toNat else none
noncomputable def atI{α:Type}(xs:List α)(i:Int):Option α:=(ixN xs.length i).bind λj=>xs[j]?
theorem zadm{n:Nat}{i:Int}{j:Nat}(h:ixN n i=some j):seqIndex? i n=some j/\j<n/\-(n:Int)<=i/\i<n:=by
 unfold ixN at h
 by_cases h0:0<=i
 ·rw[if_pos h0]at h
  by_cases h1:i<n
  ·rw[if_pos h1]at h
   have e:i.toNat=j:=qy h
   exact⟨by rw[seqIndex_of h0 h1,e],by omega,by omega,h1⟩
  ·rw[if_neg h1]at h;cases h
 ·rw[if_neg h0]at h
  by_cases h1:-(n:Int)<=i
  ·rw[if_pos h1]at h
   have e:(i+n).toNat=j:=qy h
   exact⟨by rw[seqIndex_neg (by omega) h1,e],by omega,h1,by omega⟩
  ·rw[if_neg h1]at h;cases h
theorem zye{α:Type}{xs:List α}{i:Int}{v:α}(h:atI xs i=some v):∃j,seqIndex? i xs.length=some j/\xs[j]?=some v/\j<xs.length/\-(xs.length:Int)<=i/\i<xs.length:=by
 unfold atI at h
 cases e:ixN xs.length i with
 | none=>rw[e]at h;cases h
 | some j=>
  rw[e]at h
  obtain⟨h1,h2,h3,h4⟩:=zadm e
  exact⟨j,h1,h,h2,h3,h4⟩
theorem zyf{α:Type}{xs:List α}{j:Nat}{v:α}(h:xs[j]?=some v):atI xs (j:Int)=some v:=by
 have hj:j<xs.length:=(qJ.mp h).1
 have e:ixN xs.length (j:Int)=some j:=by
  unfold ixN
  rw[if_pos (by omega),if_pos (by omega)];simp
 unfold atI;rw[e];exact h
theorem zail{α:Type}(xs:List α)(v:α):atI (xs++[v]) (-1)=some v:=by
 have hl:(xs++[v]).length=xs.length+1:=by simp
 have e:ixN (xs++[v]).length (-1)=some xs.length:=by
  unfold ixN
  rw[hl,if_neg (by decide),if_pos (by omega)]
  congr 1
  omega
 unfold atI
 rw[e]
 show(xs++[v])[xs.length]?=some v
 simp
noncomputable def PlainIx(b:Expr):Prop:=∀o i,subscripted b false o i=operate [o,i] (getItem o i)
noncomputable def IxR(X:Cx)(r:R2):Prop:=
 ∀(value slice:Expr)(pins:List (Addr×Obj))(s:Shared)(σ:St)(H:Hp)(x y:V)(v u:Value)(Q:VK),Inv X pins σ H s->RelV x v->RelV y u->r x y H Q->
  subscripted slice false v u=operate [v,u] (getItem v u)->wpAny (model X.prog X.w) X.A (subscriptTail value slice v u) (EP X pins σ Q) X.xe s
noncomputable def MtR(X:Cx)(id:String)(r:V->List V->Hp->VK->Prop):Prop:=
 ∀(pins:List (Addr×Obj))(s:Shared)(σ:St)(H:Hp)(x:V)(xs:List V)(v:Value)(us:List Value)(Q:VK),Inv X pins σ H s->RelV x v->Vals xs us->r x xs H Q->
  wpAny (model X.prog X.w) X.A (call (.builtin id) (v::us)) (EP X pins σ Q) X.xe s
section
variable{X:Cx}{a b:Expr}{ta tb:TE}{pos:Pos}
theorem zarg{r:R2}(hr:IxR X r)(ha:PE X a ta)(hb:PE X b tb)(hs:PlainIx b):PE X (.Subscript a b pos) (tOp r ta tb):=by
 intro pins s σ H Q I h
 exact Subscript_ (binT ha hb I h λv u s2 x y H2 I2 rx ry q=>hr a b pins s2 σ H2 x y v u Q I2 rx ry q (hs _ _))
noncomputable def rIxL(K:qB):R2:=λx y H Q=>∃p xs i v,x=.ref p/\y=.int i/\SqL K H p xs/\atI xs i=some v/\Q v H
noncomputable def rIxT(K:qB):R2:=λx y H Q=>∃p xs i v,x=.ref p/\y=.int i/\SqT K H p xs/\atI xs i=some v/\Q v H
noncomputable def rIxS:R2:=λx y H Q=>∃z i c,x=.str z/\y=.int i/\z.length<=qe/\atI z.cps.toList i=some c/\Q (.str ⟨#[c]⟩) H
theorem zamy:IxR X (rIxL X.K):=by
 intro value slice pins s σ H x y v u Q I rx ry h hs
 obtain⟨p,xs,i,z,rfl,rfl,hq,he,q⟩:=h
 cases rx
 obtain⟨t,rfl⟩:=ry
 obtain⟨its,r,pl,hz⟩:=I.list hq
 obtain⟨j,h1,h2,h3,h4,h5⟩:=zye he
 obtain⟨w,ew,rw'⟩:=r.get h2
 have hl:=r.length
 have hn:=zup
 have fin:EP X pins σ Q w s:=⟨z,H,I,rw',q⟩
 by_cases h0:0<=i
 ·have hj:i.toNat=j:=by
   rw[seqIndex_of h0 h5]at h1
   exact qy h1
  exact item_listR pl.isList h0 (by omega) (by rw[hj];simpa using ew) fin hs
 ·have hj:(i+(its.toArray.size:Int)).toNat=j:=by
   rw[seqIndex_neg (by omega) h4]at h1
   rw[qL,<- hl]
   exact qy h1
  exact subscriptTail_builtinR (x:=w) pl.isList.typeIs slot_list_getitem.lookup
   (wpAny_getItem_list_neg (Q:=λr s'=>r=w/\EP X pins σ Q r s') pl.isList (by omega) (by rw[qL]<;>omega) (by omega) (by rw[hj];simpa using ew) ⟨rfl,fin⟩) hs
theorem zarh:IxR X (rIxT X.K):=by
 intro value slice pins s σ H x y v u Q I rx ry h hs
 obtain⟨p,xs,i,z,rfl,rfl,hq,he,q⟩:=h
 cases rx
 obtain⟨t,rfl⟩:=ry
 obtain⟨its,r,pl,hz⟩:=I.tuple hq
 obtain⟨j,h1,h2,h3,h4,h5⟩:=zye he
 obtain⟨w,ew,rw'⟩:=r.get h2
 have hl:=r.length
 have hn:=zup
 have fin:EP X pins σ Q w s:=⟨z,H,I,rw',q⟩
 exact subscriptTail_builtinR (x:=w) pl.typeIs slot_tuple_getitem.lookup
  (getItem_tuple (j:=j) (Q:=λr s'=>r=w/\EP X pins σ Q r s') pl (by omega) (by omega) (by rw[qL,<- hl];exact h1) (by simpa using ew) ⟨rfl,fin⟩) hs
theorem zari:IxR X rIxS:=by
 intro value slice pins s σ H x y v u Q I rx ry h hs
 obtain⟨z,i,c,rfl,rfl,hz,he,q⟩:=h
 obtain⟨t,rfl⟩:=rx
 obtain⟨t',rfl⟩:=ry
 obtain⟨j,h1,h2,h3,h4,h5⟩:=zye he
 have hl:z.cps.toList.length=z.length:=by simp[Str.length]
 rw[hl]at h1 h4 h5
 have hn:=zup
 exact tail_any (qB2 s z t) slot_str_getitem.lookup (getItem_str (c:=c) (by
  have e1:decide (i < -(2 ^ 63:Int))=false:=decide_eq_false (by omega)
  have e2:decide (i>=2 ^ 63)=false:=decide_eq_false (by omega)
  rw[e1,e2,Bool.or_false]) (by rw[h1];simpa using h2) ⟨.str ⟨#[c]⟩,H,I.tok _,⟨_,rfl⟩,q⟩) hs
theorem zuv(lo hi:Option Int)(n:Nat):(sliceBounds lo hi none n).1=((HT.sIx n 0 lo:Nat):Int)/\(sliceBounds lo hi none n).2.1=((HT.sIx n n hi:Nat):Int)/\(sliceBounds lo hi none n).2.2=1:=by
 refine⟨?_,?_,rfl⟩
 ·cases lo with
  | none=>simp[sliceBounds,HT.sIx]
  | some i=>
   simp only[sliceBounds,HT.sIx,Option.getD_none,show(1:Int) > 0 by decide,if_true]
   by_cases h:i<0
   ·simp only[h,if_true]<;>omega
   ·simp only[h,if_false]<;>omega
 ·cases hi with
  | none=>simp[sliceBounds,HT.sIx]
  | some i=>
   simp only[sliceBounds,HT.sIx,Option.getD_none,show(1:Int) > 0 by decide,if_true]
   by_cases h:i<0
   ·simp only[h,if_true]<;>omega
   ·simp only[h,if_false]<;>omega
theorem zsr(its:List Value)(lo hi:Option Int):slicePick its.toArray lo hi none=((its.drop (HT.sIx its.length 0 lo)).take (HT.sIx its.length its.length hi - HT.sIx its.length 0 lo)).toArray:=by
 obtain⟨h1,h2,h3⟩:=zuv lo hi its.toArray.size
 unfold slicePick
 rw[h1,h2,h3]
 simp only[sliceRange_one,pick_run,qL]<;>rfl
noncomputable def rSlL(K:qB):V->Option Int->Option Int->Hp->VK->Prop:=λx lo hi H Q=>∃a xs,x=.ref a/\SqL K H a xs/\∀p,H p=none->Q (.ref p) (upd H p (.lst (cutV xs lo hi)))
theorem zamz:SlR X (rSlL X.K):=by
 intro pins s σ H x v vl vu lo hi sl Q I rx hs pl pu h
 obtain⟨a,xs,rfl,hx,q⟩:=h
 cases rx
 obtain⟨its,r,ht,hz⟩:=I.list hx
 have hlen:=r.length
 refine⟨"list",_,slot_list_getitem.lookup,ht.isList.typeIs,?_⟩
 refine wpAny_getItem_list_slice ht.isList hs pl pu .none (by simp) ?_ (by rw[qL]<;>omega)
 rw[zsr,<- hlen]
 refine⟨.ref s.heap.objs.size,_,I.laid (t':=s.toks) (o:=.lst (cutV xs lo hi)) (λb ob q=>qG _ q) (qM _) ?_,rfl,q _ (I.hok.fresh (qM _))⟩
 exact⟨qAD (zox xs lo hi) hz,_,0,(r.drop (HT.sIx xs.length 0 lo)).take (HT.sIx xs.length xs.length hi - HT.sIx xs.length 0 lo),qd _ rfl⟩
noncomputable def zkh:V->Bool
 | .non=>true
 | .bl _=>true
 | .int _=>true
 | .str _=>true
 | _=>false
noncomputable def eqV:V->V->Bool
 | .non,.non=>true
 | .bl a,.bl b=>a==b
 | .bl a,.int b=>(if a then 1 else 0)==b
 | .int a,.bl b=>a==(if b then 1 else 0)
 | .int a,.int b=>a==b
 | .str a,.str b=>a==b
 | _,_=>false
theorem zadn{A:Around}{s:Shared}{y x:V}{u v:Value}(ry:RelV y u)(rx:RelV x v)(fy:zkh y=true)(fx:zkh x=true):SeqAt.EqAt A s u v (eqV y x):=by
 cases y with
 | non=>
  cases ry
  cases x with
  | non=>cases rx;exact SeqAt.EqAt.same _
  | bl b=>cases rx;exact SeqAt.EqAt.none_bool b
  | int b=>obtain⟨t,rfl⟩:=rx;exact SeqAt.EqAt.none_int b t
  | str b=>obtain⟨t,rfl⟩:=rx;exact SeqAt.EqAt.none_str b t
  | _=>exact absurd (show false=true from fx) qP
 | bl a=>
  cases ry
  cases x with
  | non=>cases rx;exact SeqAt.EqAt.bool_none a
  | bl b=>cases rx;exact SeqAt.EqAt.bool_bool a b
  | int b=>obtain⟨t,rfl⟩:=rx;exact SeqAt.EqAt.bool_int a b t
  | str b=>obtain⟨t,rfl⟩:=rx;exact SeqAt.EqAt.bool_str a b t
  | _=>exact absurd (show false=true from fx) qP
 | int a=>
  obtain⟨t',rfl⟩:=ry
  cases x with
  | non=>cases rx;exact SeqAt.EqAt.int_none a t'
  | bl b=>cases rx;exact SeqAt.EqAt.int_bool a t' b
  | int b=>obtain⟨t,rfl⟩:=rx;exact SeqAt.EqAt.int_int a t' b t
  | str b=>obtain⟨t,rfl⟩:=rx;exact qCe a t' b t
  | _=>exact absurd (show false=true from fx) qP
 | str a=>
  obtain⟨t',rfl⟩:=ry
  cases x with
  | non=>cases rx;exact SeqAt.EqAt.str_none a t'
  | bl b=>cases rx;exact SeqAt.EqAt.str_bool a t' b
  | int b=>obtain⟨t,rfl⟩:=rx;exact qCd a t' b t
  | str b=>obtain⟨t,rfl⟩:=rx;exact SeqAt.EqAt.str_str a t' b t
  | _=>exact absurd (show false=true from fx) qP
 | _=>exact absurd (show false=true from fy) qP
noncomputable def eqU(x:V)(u:Value):Bool:=match u with
 | .none=>eqV .non x
 | .bool b=>eqV (.bl b) x
 | .int i _=>eqV (.int i) x
 | .str z _=>eqV (.str z) x
 | _=>false
theorem zado{x y:V}{u:Value}(r:RelV y u)(f:zkh y=true):eqU x u=eqV y x:=by
 cases y with
 | non=>cases r;rfl
 | bl b=>cases r;rfl
 | int i=>obtain⟨t,rfl⟩:=r;rfl
 | str z=>obtain⟨t,rfl⟩:=r;rfl
 | _=>exact absurd (show false=true from f) qP
theorem zyg{x:V}:∀{xs:List V}{us:List Value},Vals xs us->xs.all zkh=true->us.any (eqU x)=xs.any λy=>eqV y x
 | _,_,.nil,_=>rfl
 | y::xs,u::us,.cons r t,f=>by
  rw[qBE,qb]at f
  rw[qBD,qBD,zado r f.1,zyg t f.2]
theorem zss{A:Around}{s:Shared}{x:V}{v:Value}(rx:RelV x v)(fx:zkh x=true):∀{xs:List V}{us:List Value},Vals xs us->xs.all zkh=true->∀u∈us,SeqAt.EqAt A s u v (eqU x u)
 | _,_,.nil,_=>λu hu=>by cases hu
 | y::xs,u::us,.cons r t,f=>λu' hu=>by
  rw[qBE,qb]at f
  rcases qW.mp hu with rfl|hu
  ·rw[zado r f.1];exact zadn r rx f.1 fx
  ·exact zss rx fx t f.2 u' hu
noncomputable def inV(x:V)(xs:List V):Bool:=xs.any λy=>eqV y x
noncomputable def rIn(K:qB)(neg:Bool):R2:=λx y H Q=>∃p xs,y=.ref p/\(SqL K H p xs\/SqT K H p xs)/\zkh x=true/\xs.all zkh=true/\Q (.bl (if neg then !inV x xs else inV x xs)) H
theorem zadp:OpR X (compareOp .In) (rIn X.K false):=by
 intro pins s σ H x y v u Q I rx ry h
 obtain⟨p,xs,rfl,hq,fx,fs,q⟩:=h
 cases ry
 rcases hq with hq|hq
 ·obtain⟨its,r,pl,hz⟩:=I.list hq
  refine SeqAt.in_listAt (eqU x) pl.isList (λw hw=>zss rx fx r fs w (by simpa using hw)) ⟨.bl _,H,I,rfl,?_⟩
  rw[show its.toArray.any (eqU x)=its.any (eqU x) by simp,zyg r fs]
  exact q
 ·obtain⟨its,r,pl,hz⟩:=I.tuple hq
  refine SeqAt.in_tupleAt (eqU x) pl (λw hw=>zss rx fx r fs w (by simpa using hw)) ⟨.bl _,H,I,rfl,?_⟩
  rw[show its.toArray.any (eqU x)=its.any (eqU x) by simp,zyg r fs]
  exact q
theorem zuw:CallR X (.type "list") (λxs H Q=>∃p ys,xs=[.ref p]/\(SqL X.K H p ys\/SqT X.K H p ys)/\∀l,H l=none->Q (.ref l) (upd H l (.lst ys))):=by
 intro pins s σ H xs us Q I r h
 obtain⟨p,ys,rfl,hq,q⟩:=h
 obtain⟨u,rfl,rx⟩:=zyd r
 cases rx
 have fin:∀(its:List Value),Vals ys its->ys.length<=qe->∀(h':Heap)(c':Nat),(∀b o',s.heap.get? b=some o'->h'.get? b=some o')->
   h'.get? s.heap.objs.size=some {cls:=.type "list",dict:=none,data:=.seq its.toArray c',slots:=#[]}->EP X pins σ Q (.ref s.heap.objs.size) {s with heap:=h'}:=λits r' hz h' c' kp e=>
  ⟨.ref s.heap.objs.size,_,I.laid (t':=s.toks) kp (qM _) (show zgb X.prog X.w _ h' _ (.lst ys)from⟨hz,its,c',r',e⟩),rfl,q _ (I.hok.fresh (qM _))⟩
 rcases hq with hq|hq
 ·obtain⟨its,r',pl,hz⟩:=I.list hq
  have hlen:=r'.length
  obtain⟨o,ho,hc,n,hd⟩:=pl.isList
  exact call_list_seq p (.inl rfl) ho hc hd (λh' c' kp e=>fin its r' hz h' c' kp e) (by simp only[qL]<;>omega)
 ·obtain⟨its,r',pl,hz⟩:=I.tuple hq
  have hlen:=r'.length
  obtain⟨o,ho,hc,n,hd⟩:=pl
  exact call_list_seq p (.inr rfl) ho hc hd (λh' c' kp e=>fin its r' hz h' c' kp e) (by simp only[qL]<;>omega)
theorem zst:CallR X (.type "tuple") (λxs H Q=>∃p ys,xs=[.ref p]/\((SqL X.K H p ys/\∀l,H l=none->Q (.ref l) (upd H l (.tup ys)))\/(SqT X.K H p ys/\Q (.ref p) H))):=by
 intro pins s σ H xs us Q I r h
 obtain⟨p,ys,rfl,h⟩:=h
 obtain⟨u,rfl,rx⟩:=zyd r
 cases rx
 rcases h with⟨hq,q⟩|⟨hq,q⟩
 ·obtain⟨its,r',pl,hz⟩:=I.list hq
  have hlen:=r'.length
  refine call_tuple_list pl.isList (λh' kp=>?_) (by simp only[qL]<;>omega)
  have I1:Inv X pins σ H {s with heap:=h'}:=I.kept (t':=s.toks) kp
  have I2:Inv X pins σ (upd H h'.objs.size (.tup ys)) {s with heap:=h'.push {cls:=.type "tuple",data:=.seq its.toArray}}:=
   I1.laid (t':=s.toks) (λb o e=>qG _ e) (qM _) (show zgb X.prog X.w _ _ _ (.tup ys)from⟨hz,its,r',IsTup.new _ _⟩)
  exact⟨.ref h'.objs.size,_,I2,rfl,q _ (I1.hok.fresh (qM _))⟩
 ·obtain⟨its,r',pl,hz⟩:=I.tuple hq
  exact call_tuple_same pl ⟨.ref p,H,I,rfl,q⟩
noncomputable def tyV(K:qB)(T:String)(x:V)(H:Hp):Prop:=match x with
 | .str _=>T="str"
 | .int _=>T="int"
 | .ref p=>(T="list"/\∃xs,SqL K H p xs)\/(T="tuple"/\∃o,K.lookup p=some o/\o.cls=.type "tuple"/\o.dict=none)\/
   (T="dict"/\((∃kvs,H p=some (.dK kvs))\/∃kvs,H p=some (.dT kvs)))\/(T="set"/\∃S n,H p=some (.set S n))
 | _=>False
theorem zaky{pins:List (Addr×Obj)}{σ:St}{H:Hp}{s:Shared}{T:String}{x:V}{v:Value}(I:Inv X pins σ H s)(r:RelV x v)(ty:tyV X.K T x H) :
  s.TypeIs v T/\∀a,v=.ref a->∃ob,s.heap.get? a=some ob/\ob.dict=none:=by
 cases x with
 | str z=>
  obtain⟨t,rfl⟩:=r
  cases(show T="str"from ty)
  exact⟨qB2 s z t,λ_ e=>nomatch e⟩
 | int i=>
  obtain⟨t,rfl⟩:=r
  cases(show T="int"from ty)
  exact⟨typeIs_int s i t,λ_ e=>nomatch e⟩
 | ref p=>
  cases r
  rcases ty with⟨rfl,xs,hq⟩|⟨rfl,o,hk,hc,hd⟩|⟨rfl,hk⟩|⟨rfl,S,n,hk⟩
  ·obtain⟨its,_,pl,_⟩:=I.list hq
   refine⟨pl.isList.typeIs,λa e=>?_⟩
   cases e
   obtain⟨o,n,e,c,hd,_⟩:=pl
   exact⟨o,e,hd⟩
  ·refine⟨⟨o,I.kIn p o hk,hc⟩,λa e=>?_⟩
   cases e
   exact⟨o,I.kIn _ o hk,hd⟩
  ·have z:∃o,s.heap.get? p=some o/\o.ExactDict:=by
    rcases hk with⟨kvs,hk⟩|⟨kvs,hk⟩
    ·obtain⟨_,_,_,_,o,_,_,e,ex,_⟩:=I.hok p _ hk
     exact⟨o,e,ex⟩
    ·obtain⟨_,_,_,_,o,_,_,e,ex,_⟩:=I.hok p _ hk
     exact⟨o,e,ex⟩
   obtain⟨o,e,ex⟩:=z
   refine⟨⟨o,e,ex.1⟩,λa e2=>?_⟩
   cases e2
   exact⟨o,e,ex.2.1⟩
  ·obtain⟨o,_,_,_,e,ex,_⟩:=I.hok p _ hk
   refine⟨⟨o,e,ex.1⟩,λa e2=>?_⟩
   cases e2
   exact⟨o,e,ex.2.1⟩
 | _=>exact False.elim ty
noncomputable def tBM0(K:qB)(T:String)(r:V->List V->Hp->VK->Prop)(to:TE):TE:=λσ H Q=>to σ H λx H1=>tyV K T x H1/\r x [] H1 Q
noncomputable def tBM(K:qB)(T:String)(r:V->List V->Hp->VK->Prop)(to:TE)(t:TA):TE:=λσ H Q=>to σ H λx H1=>tyV K T x H1/\t σ H1 λxs H2=>r x xs H2 Q
variable{o e:Expr}{es:List Expr}{to:TE}{t:TA}{name:Str}{apos cpos:Pos}{T id:String}{r:V->List V->Hp->VK->Prop}
theorem zarj(pa:PlainAttrs T)(slot:Slot T name id)(hty:typeOf (.builtin id)=pure (.type "method_descriptor"))(hm:MtR X id r)(ho:PE X o to)
  (hbase:attributeBase o name X.env (eval o X.env)=eval o X.env:=by rfl) (hline:(apos.endLine==cpos.line)=true:=by rfl):PE X (.Call (.Attribute o name apos) [] [] cpos) (tBM0 X.K T r to):=by
 intro pins s σ H Q I h
 refine wpAny_Call_method0_late hbase hline (thn (ho pins s σ H _ I h) λv s1 ⟨x,H1,I1,r1,ty,q1⟩=>?_)
 obtain⟨h1,h2⟩:=zaky I1 r1 ty
 exact⟨T,id,pa,slot,hty,h1,h2,qBz rfl (PySem.evalArgs_none (hm pins s1 σ H1 x [] v [] Q I1 r1 .nil q1))⟩
theorem zaue(pa:PlainAttrs T)(slot:Slot T name id)(hty:typeOf (.builtin id)=pure (.type "method_descriptor"))(hm:MtR X id r)(ho:PE X o to)(ha:PA X (e::es) t)
  (hbase:attributeBase o name X.env (eval o X.env)=eval o X.env:=by rfl)
  (hfew:((backTo cpos (starEach (e::es) X.env)).all (λx=>!x.1)&&(backToKw cpos (keywordEach [] X.env)).all (λx=>x.1.isSome)
   && decide ((e::es).length+([]:List Keyword).length+(if([]:List Keyword).isEmpty then 0 else 1)<30))=true:=by rfl)
  (hline:(apos.endLine==cpos.line)=true:=by rfl)(hs:starEach (e::es) X.env=(false,eval e X.env)::starEach es X.env:=by rfl)(hplain:(backTo cpos (starEach es X.env)).any (·.1)=false:=by rfl) :
  PE X (.Call (.Attribute o name apos) (e::es) [] cpos) (tBM X.K T r to t):=by
 intro pins s σ H Q I h
 refine wpAny_Call_method_late hbase hfew hline rfl (thn (ho pins s σ H _ I h) λv s1 ⟨x,H1,I1,r1,ty,q1⟩=>?_)
 obtain⟨h1,h2⟩:=zaky I1 r1 ty
 refine⟨T,id,pa,slot,hty,h1,h2,?_⟩
 have hA:=ha cpos pins s1 σ H1 _ I1 q1
 rw[hs]at hA ⊢
 refine qBz (by show(false||(backTo cpos (starEach es X.env)).any (·.1))=false;rw[hplain]<;>rfl) (qCt ?_)
 exact thn hA λus s2 ⟨vs,H2,I2,r2,q2⟩=>hm pins s2 σ H2 x vs v us Q I2 r1 r2 q2
end
noncomputable def MtM(X:Cx)(id:String)(r:V->List V->Hp->VK->Prop):Prop:=
 ∀(pins:List (Addr×Obj))(s:Shared)(σ:St)(H:Hp)(x:V)(xs:List V)(v:Value)(us:List Value)(Q:VK),Inv X pins σ H s->RelV x v->Vals xs us->r x xs H Q->
  wpAny (model X.prog X.w) X.A (call (.builtin id) (v::us)) (EP X pins σ Q) X.xe s
theorem Vals.one:∀{x:V}{us:List Value},Vals [x] us->∃u,us=[u]/\RelV x u
 | _,_,.cons r .nil=>⟨_,rfl,r⟩
theorem Vals.zero:∀{us:List Value},Vals [] us->us=[]
 | _,.nil=>rfl
theorem Vals.dropLast{xs:List V}{us:List Value}(h:Vals xs us):Vals xs.dropLast us.dropLast:=by
 induction h with
 | nil=>exact .nil
 | cons r t ih=>
  cases t with
  | nil=>exact .nil
  | cons q t'=>exact .cons r ih
theorem Vals.eraseIdx:∀{xs:List V}{us:List Value}(i:Nat),Vals xs us->Vals (xs.eraseIdx i) (us.eraseIdx i)
 | _,_,_,.nil=>.nil
 | _,_,0,.cons _ t=>t
 | _,_,i+1,.cons r t=>.cons r (Vals.eraseIdx i t)
theorem Vals.rep{xs:List V}{us:List Value}(h:Vals xs us):∀k:Nat,Vals (List.replicate k xs).flatten (List.replicate k us).flatten
 | 0=>.nil
 | k+1=>by
  rw[qAP,qAP,qBC,qBC]
  exact Vals.append h (Vals.rep h k)
theorem zabm{α:Type}(l:List α):l.eraseIdx (l.length - 1)=l.dropLast:=by
 induction l with
 | nil=>rfl
 | cons a r ih=>
  cases r with
  | nil=>rfl
  | cons b r=>
   have e:(a::b::r).length - 1=((b::r).length - 1)+1:=by
    have h1:(a::b::r).length=r.length+2:=rfl
    have h2:(b::r).length=r.length+1:=rfl
    omega
   rw[e,List.eraseIdx_cons_succ,ih]
   all_goals rfl
theorem zux{α:Type}:∀(l:List α)(i:Nat),(l.eraseIdx i).length<=l.length
 | [],_=>qM _
 | _::_,0=>qCV _
 | _::r,i+1=>Nat.succ_le_succ (zux r i)
theorem foldl_rep(its:List Value):∀(k:Nat)(acc:List Value),
  List.foldl (λx1 x2=>x1++x2) acc.toArray (List.replicate k its.toArray)=(acc++(List.replicate k its).flatten).toArray
 | 0,acc=>by simp
 | k+1,acc=>by
  have e:acc.toArray++its.toArray=(acc++its).toArray:=by simp
  have e2:(acc++its)++(List.replicate k its).flatten=acc++(List.replicate (k+1) its).flatten:=by
   rw[qAP,qBC,qAf]
  rw[<- e2,<- foldl_rep its k (acc++its),<- e,qAP,List.foldl_cons]
section
variable{X:Cx}{pins:List (Addr×Obj)}{σ:St}{H:Hp}{s:Shared}{l b:Addr}{xs ys zs:List V}
theorem Inv.lset{its its':List Value}{n:Nat}{f:Array Value->Array Value}{t':Nat}(I:Inv X pins σ H s)(hH:H l=some (.lst xs))
  (e:s.heap.get? l=some {cls:=.type "list",data:=.seq its.toArray n}) (hf:f its.toArray=its'.toArray) (hv:Vals ys its') (hz:ys.length<=qe) :
  Inv X pins σ (upd H l (.lst ys)) {s with heap:=s.heap.update l (Obj.mapSeq f),toks:=t'}:=by
 have q:=PySem.IsL.update e f
 rw[hf]at q
 refine I.write (x:=l) (e:=l) (by rw[hH];exact trivial) (.inl rfl) (λb' u hb hu=>(qAa s.heap (Obj.mapSeq f) (qBA hb)).trans hu) ⟨_,q⟩ ?_
 exact⟨hz,its',_,hv,q⟩
theorem Inv.lnew{its:List Value}{t':Nat}(I:Inv X pins σ H s)(hv:Vals ys its)(hz:ys.length<=qe) :
  Inv X pins σ (upd H s.heap.objs.size (.lst ys)) {s with heap:=s.heap.push {cls:=.type "list",data:=.seq its.toArray},toks:=t'}:=
 I.laid (λ_ _ q=>qG _ q) (qM _) ⟨hz,its,0,hv,qd _ rfl⟩
theorem Inv.fresh(I:Inv X pins σ H s):H s.heap.objs.size=none:=I.hok.fresh (qM _)
theorem Inv.lstM(I:Inv X pins σ H s)(hH:H l=some (.lst xs)):xs.length<=qe/\∃(its:List Value)(n:Nat),Vals xs its/\xs.length=its.length/\s.heap.get? l=some {cls:=.type "list",data:=.seq its.toArray n}:=by
 obtain⟨z,its,n,r,e⟩:=I.hok l _ hH
 exact⟨z,its,n,r,r.length,e⟩
theorem zzt{n:Nat}(h:n<=qe):Builtin.List.listTooLong n=false:=by
 unfold Builtin.List.listTooLong
 exact decide_eq_false (by omega)
end
section
variable{X:Cx}
noncomputable def zsu:V->List V->Hp->VK->Prop:=λx vs H Q=>∃l xs y,x=.ref l/\vs=[y]/\H l=some (.lst xs)/\xs.length<qe/\Q .non (upd H l (.lst (xs++[y])))
theorem zcf:MtM X "list.append" zsu:=by
 intro pins s σ H x vs v us Q I rx rv h
 obtain⟨l,xs,y,rfl,rfl,hH,hz,q⟩:=h
 cases rx
 obtain⟨u,rfl,ru⟩:=rv.one
 obtain⟨z,its,n,r,hl,e⟩:=I.lstM hH
 refine qA9 F.slot_list_append ⟨_,e,rfl⟩ F.entry_list_append (F.args_list_append_2 _ _) (PySem.list_append l its.toArray n u (by rw[qL];omega)) ⟨e,?_⟩
 refine⟨.non,_,I.lset (its':=its++[u]) hH e (by simp) (r.append (.cons ru .nil)) ?_,rfl,q⟩
 rw[qI,List.length_singleton]
 omega
noncomputable def zana:V->List V->Hp->VK->Prop:=λx vs H Q=>∃l b xs zs,x=.ref l/\vs=[.ref b]/\H l=some (.lst xs)/\H b=some (.lst zs)/\xs.length+zs.length<=qe/\Q .non (upd H l (.lst (xs++zs)))
theorem zark:MtM X "list.extend" zana:=by
 intro pins s σ H x vs v us Q I rx rv h
 obtain⟨l,b,xs,zs,rfl,rfl,hH,hB,hz,q⟩:=h
 cases rx
 obtain⟨u,rfl,ru⟩:=rv.one
 cases ru
 obtain⟨z,its,n,r,hl,e⟩:=I.lstM hH
 obtain⟨z2,its2,n2,r2,hl2,e2⟩:=I.lstM hB
 have hsz:its.toArray.size+its2.toArray.size<=qe:=by rw[qL,qL];omega
 have hlong:¬(!its.toArray.isEmpty&&Builtin.List.listTooLong (its.toArray.size+its2.toArray.size))=true:=by
  rw[zzt hsz,qCa]
  exact qP
 refine qA9 F.slot_list_extend ⟨_,e,rfl⟩ F.entry_list_extend (F.args_list_extend_2 _ _)
  (AutoSeq1.list_extend_list_list_0 l its.toArray n b its2.toArray n2 hlong (by rw[qL];omega) (by omega)) ⟨e,e2,?_⟩
 refine⟨.non,_,I.lset (its':=its++its2) hH e (by simp) (r.append r2) ?_,rfl,q⟩
 rw[qI]
 omega
noncomputable def rPop:V->List V->Hp->VK->Prop:=λx vs H Q=>∃l xs y,x=.ref l/\vs=[]/\H l=some (.lst xs)/\xs[xs.length - 1]?=some y/\Q y (upd H l (.lst xs.dropLast))
theorem zakz:MtM X "list.pop" rPop:=by
 intro pins s σ H x vs v us Q I rx rv h
 obtain⟨l,xs,y,rfl,rfl,hH,hy,q⟩:=h
 cases rx
 have hus:=rv.zero
 subst hus
 obtain⟨z,its,n,r,hl,e⟩:=I.lstM hH
 obtain⟨u,hu,ru⟩:=r.get hy
 have hy':its.toArray[its.toArray.size - 1]?=some u:=by
  show its.toArray[its.length - 1]?=some u
  rw[<- qCo,<- hl]
  exact hu
 refine qA9 F.slot_list_pop ⟨_,e,rfl⟩ F.entry_list_pop (F.args_list_pop_1 _) (MeetsSeq.list_pop_last l its.toArray n u hy' (by rw[qL];omega)) ⟨e,?_⟩
 refine⟨y,_,I.lset (its':=its.dropLast) hH e ?_ r.dropLast ?_,ru,q⟩
 ·show its.toArray.eraseIdxIfInBounds (its.toArray.size - 1)=its.dropLast.toArray
  rw[qL,qCI,zabm]
 ·rw[List.length_dropLast]
  omega
noncomputable def zadq:V->List V->Hp->VK->Prop:=λx vs H Q=>∃l xs i k y,x=.ref l/\vs=[.int i]/\H l=some (.lst xs)/\-(2 ^ 63)<=i/\i<2 ^ 63/\seqIndex? i xs.length=some k/\xs[k]?=some y/\Q y (upd H l (.lst (xs.eraseIdx k)))
theorem zzu:MtM X "list.pop" zadq:=by
 intro pins s σ H x vs v us Q I rx rv h
 obtain⟨l,xs,i,k,y,rfl,rfl,hH,h1,h2,hk,hy,q⟩:=h
 cases rx
 obtain⟨u,rfl,ru⟩:=rv.one
 obtain⟨t,rfl⟩:=ru
 obtain⟨z,its,n,r,hl,e⟩:=I.lstM hH
 obtain⟨w,hw,rw'⟩:=r.get hy
 refine qA9 F.slot_list_pop ⟨_,e,rfl⟩ F.entry_list_pop (F.args_list_pop_2 _ _)
  (MeetsSeq.list_pop_at l its.toArray n i t k w (qCv h1 h2) (by rw[qL,<- hl];exact hk) (by rw[<- qCo];exact hw) (by rw[qL];omega)) ⟨e,?_⟩
 refine⟨y,_,I.lset (its':=its.eraseIdx k) hH e ?_ (r.eraseIdx k) ?_,rw',q⟩
 ·show its.toArray.eraseIdxIfInBounds k=(its.eraseIdx k).toArray
  rw[qCI]
 ·have:=zux xs k
  omega
noncomputable def zadr:V->List V->Hp->VK->Prop:=λx vs H Q=>∃l xs,x=.ref l/\vs=[]/\H l=some (.lst xs)/\Q .non (upd H l (.lst []))
theorem zzv:MtM X "list.clear" zadr:=by
 intro pins s σ H x vs v us Q I rx rv h
 obtain⟨l,xs,rfl,rfl,hH,q⟩:=h
 cases rx
 have hus:=rv.zero
 subst hus
 obtain⟨z,its,n,r,hl,e⟩:=I.lstM hH
 refine qA9 F.slot_list_clear ⟨_,e,rfl⟩ F.entry_list_clear (F.args_list_clear_1 _) (AutoSeq1.list_clear_list_0 l its.toArray n (by rw[qL];omega)) ⟨e,?_⟩
 exact⟨.non,_,I.lset (its':=[]) (ys:=[]) hH e rfl .nil (qAr _),rfl,q⟩
noncomputable def rCat:R2:=λx y H Q=>∃l b xs zs,x=.ref l/\y=.ref b/\H l=some (.lst xs)/\H b=some (.lst zs)/\xs.length+zs.length<=qe/\∀p,H p=none->Q (.ref p) (upd H p (.lst (xs++zs)))
theorem zarl:OpR X (binaryOp .Add) rCat:=by
 intro pins s σ H x y v u Q I rx ry h
 obtain⟨l,b,xs,zs,rfl,rfl,hH,hB,hz,q⟩:=h
 cases rx
 cases ry
 obtain⟨z,its,n,r,hl,e⟩:=I.lstM hH
 obtain⟨z2,its2,n2,r2,hl2,e2⟩:=I.lstM hB
 refine PySem.P.add_list e e2 ?_ (by rw[qL,qL];omega)
 have ea:its.toArray++its2.toArray=(its++its2).toArray:=by simp
 rw[ea]
 exact⟨.ref _,_,I.lnew (t':=s.toks) (r.append r2) (by rw[qI];omega),rfl,q _ I.fresh⟩
noncomputable def rRep:R2:=λx y H Q=>∃l k xs,x=.ref l/\y=.int k/\H l=some (.lst xs)/\-(2 ^ 63)<=k/\k<2 ^ 63/\xs.length * k.toNat<=qe/\
 ∀p,H p=none->Q (.ref p) (upd H p (.lst (List.replicate k.toNat xs).flatten))
theorem zanb{α:Type}(xs:List α)(k:Nat):(List.replicate k xs).flatten.length=k * xs.length:=by
 induction k with
 | zero=>simp
 | succ k ih=>rw[qAP,qBC,qI,ih,Nat.succ_mul,Nat.add_comm]
theorem zarm:OpR X (binaryOp .Mult) rRep:=by
 intro pins s σ H x y v u Q I rx ry h
 obtain⟨l,k,xs,rfl,rfl,hH,h1,h2,hz,q⟩:=h
 cases rx
 obtain⟨t,rfl⟩:=ry
 obtain⟨z,its,n,r,hl,e⟩:=I.lstM hH
 have hlen:its.toArray.size * k.toNat<=qe:=by rw[qL,<- hl];exact hz
 have hcap:¬its.toArray.size * k.toNat >(2 ^ 63 - 1) / 8:=by
  have:(qe:Nat)<=(2 ^ 63 - 1) / 8:=by decide
  omega
 have hfit:¬(!Builtin.List.listFitsIndex k)=true:=by
  rw[qCv h1 h2]
  exact qP
 have hlong:¬Builtin.List.listTooLong (its.toArray.size * k.toNat)=true:=by
  rw[zzt hlen]
  exact qP
 have hnew:List.foldl (λx1 x2=>x1++x2) #[] (List.replicate (if its.toArray.isEmpty=true then 0 else k.toNat) its.toArray)=(List.replicate k.toNat its).flatten.toArray:=by
  have f0:∀m:Nat,List.foldl (λx1 x2=>x1++x2) #[] (List.replicate m its.toArray)=(List.replicate m its).flatten.toArray:=λm=>by
   have:=foldl_rep its m []
   rw[List.nil_append]at this
   exact this
  rw[f0]
  cases its with
  | nil=>simp
  | cons a r'=>rw[if_neg (by simp)]
 refine wpAny_binaryOp_repeat_ref (T:="list") (U:="int") (by decide) ⟨_,e,rfl⟩ (λs'=>typeIs_int s' k t) noFill_list_mul F.fills_int_mul F.slot_int_rmul repeat_list F.slot_int_index.lookup
  (qA9 F.slot_int_rmul (typeIs_int s k t) F.entry_int_rmul (F.args_int_rmul_2 _ _) (int___rmul___int_list k t l its.toArray n)
   ⟨e,rfl,⟨_,e,rfl⟩,qA9 F.slot_list_mul ⟨_,e,rfl⟩ F.entry_list_mul (F.args_list_mul_2 _ _) (AutoListH.list___mul___list_int_3 l its.toArray n k t hfit hcap hlong) ⟨e,?_⟩⟩)
 rw[hnew]
 exact⟨.ref _,_,I.lnew (t':=s.toks) (r.rep k.toNat) (by rw[zanb,Nat.mul_comm];exact hz),rfl,q _ I.fresh⟩
end
section
variable{prog:Program}{w:World}{A:Around}{E:Value->Shared->Prop}{s:Shared}
set_option maxRecDepth 100000 in
end
theorem zauf{P:Program}{w:World}{k:Key}{u:Value}(r:RelV (kV k) u):(zgg P w).is k u=true:=by
 cases k with
 | inl i=>obtain⟨t,e⟩:=(show ∃t,u=Value.int i t from r);subst e;exact zxy P w i t
 | inr x=>obtain⟨t,e⟩:=(show ∃t,u=Value.str x t from r);subst e;exact zxz P w x t
set_option genInjectivity false in
set_option genInjectivity false in
section
variable{X:Cx}{pins:List (Addr×Obj)}{σ:St}{H:Hp}{s:Shared}{a:Addr}{y d:V}{u r:Value}{o:Option V}{A:Around}{E:Value->Shared->Prop}
end
end L2
namespace Att
open PySem PySem.W PySem.Calls PyProof.Rows
theorem zoy{P:Params}{h:Heap}:∀(ns:List Int)(vs:List Value),WellAll P h vs (ns.map WData.int)->IntsAre vs ns:=by
 intro ns
 induction ns with
 | nil=>
  intro vs w
  rw[List.map_nil]at w
  cases w
  exact .nil
 | cons n ns ih=>
  intro vs w
  rw[qAV]at w
  cases w with
  | cons a b=>
   cases a
   exact .cons _ _ (ih _ b)
theorem zads{l:OpenLaw}{n:Nat}(hn:l.most=some n){P:Params}{h:Heap}{args:List WData}{vals:List Value}
  (hpre:l.row.toRowW.claim.pre args=true)(hwl:WellAll P h vals args) :
  ∃a vs ns,vals=[Value.ref a]/\args=[WData.list (ns.map WData.int)]/\h.get? a=some {cls:=.type "list",data:=.seq vs.toArray}/\IntsAre vs ns/\ns.length<=n:=by
 have hsh:WShape.hasAll [] args [.list .int]=true:=(pre_splitW hpre).1
 have hc:l.pre.holds [] {args:=args}=true:=(pre_splitW hpre).2
 obtain⟨d,r,rfl,h1,h2⟩:=hasAllW_cons hsh
 obtain rfl:=hasAllW_nil h2
 obtain⟨xs,rfl,h3⟩:=hasW_list h1
 obtain⟨ns,rfl⟩:=items_int h3
 have hlen:ns.length<=n:=by
  unfold OpenLaw.pre at hc
  have h4:(WTm.not (.lt (.lit (.int (n:Int))) (.len (.arg 0)))).holds [] {args:=[.list (ns.map .int)]}=true:=by
   have h4:=(holds_andW hc).1
   rw[hn]at h4
   exact h4
  have h5:=condW_of h4 (w_not (w_lt w_lit (w_len_list (w_arg rfl))))
  rw[qD]at h5
  refine Nat.le_of_not_lt λq=>?_
  have q':(n:Int)<((ns.length:Nat):Int):=by omega
  first
   | (rw[decide_eq_true q']at h5;exact absurd h5 (by decide))
   | (simp at h5;omega)
 cases hwl with
 | cons w1 w2=>
  cases w2
  cases w1 with
  | list ho hall=>exact⟨_,_,ns,rfl,rfl,ho,zoy ns _ hall,hlen⟩
theorem zadt(l:OpenLaw)(args:List WData):l.row.toRowW.claim.post args (.bool true) args=true:=
 postW_of (r:=l.row.toRowW) (X:=(true==true))
  (show WShape.has [] (.bool true) .bool=true by first|rfl|decide|simp[WShape.has,WShape.arms,WShape.armsAll])
  (show(WTm.eq .res (.lit (.bool true))).value [] {args:=args,res:=some (.bool true),after:=args}=some (.bool (true==true))from w_eq_bool (w_res rfl) w_lit) rfl
theorem attach_call{l:OpenLaw}{n:Nat}{q:Program}{loose:List Str}{XP:(Str->Option Value)->Heap->Prop}{YP:World->Heap->Prop}{d:DefRec}
  (hn:l.most=some n)(hdf:d.params.defaults=[])
  (call:∀(w:World)(s₀ s₁:Shared)(mg mb:Str->Option Value)(fa:Addr)(o:Obj)(pm cd doc:Value)(a:Addr)(vs:List Value)(ns:List Int),
   Ground q loose [] XP w s₀ mg mb s₁.heap->YP w s₁.heap->
   s₁.heap.get? fa=some o->o.data=.func (docDef d.name d.params d.body d.scope pm cd doc)->s₁.heap.CodeRec cd d.name->mg d.name=some (.ref fa)->
   s₁.heap.get? a=some {cls:=.type "list",data:=.seq vs.toArray}->IntsAre vs ns->ns.length<=n->s₁.gens=#[]->
   codeAny (model l.prog w) callerA (.call (.ref fa) ⟨[.ref a],[]⟩) (λr s'=>r=.ok (.ret (.bool true))/\OldK s₁.heap s'.heap/\s'.os=s₁.os/\AllBare s'.gens) s₁) :
  WalkO q loose XP YP l.row.toRowW d [] (λf vs=>PySem.call f vs):=by
 intro w s₀ s₁ mg mb G Y fa o pm cd doc dV kV ho hd hcd hD hmg hg args vals as hpre hlay hrd hwl hlo
 obtain rfl:dV=.none:=Dflts.none hD hdf
 obtain rfl:kV=.none:=Dflts.noKw hD
 obtain⟨a,vs,ns,rfl,rfl,hobj,hints,hlen⟩:=zads hn hpre hwl
 refine enter_call (qA6 (call w s₀ s₁ mg mb fa o pm cd doc a vs ns G Y ho (fd_plain hd) hcd hmg hobj hints hlen hg) λr s' hq=>?_)
 obtain⟨rfl,h2,h3,h4⟩:=hq
 exact⟨.inl ⟨.bool true,.bool true,[],rfl,λ_=>rfl,.bool true,zadt l _,λ_=>⟨List.Pairwise.nil,λ_ hm=>(nomatch hm)⟩⟩,h2,h3,h4⟩
end Att
namespace L2
open PySem PySem.Spec PyProof.Rows
theorem zuy:∀{vs:List Value}{ns:List Int},IntsAre vs ns->Vals (ns.map V.int) vs
 | _,_,.nil=>.nil
 | _,_,.cons n t h=>.cons ⟨t,rfl⟩ (zuy h)
noncomputable def Only(H:Hp):Prop:=∀b,H b=none\/∃o xs,H b=some (.frz o (.lst xs))
theorem zaim{P:Program}{w:World}{K:qB}{mg mb:Str->Option Value}{CX:CXT}{k:Nat}{fa a:Addr}{fd:qw}{x:Str}{sp:Sp}{s₁:Shared}{vs:List Value}{ns:List Int}
  (KX:K.In s₁.heap)(hns:s₁.heap.Ns qR mg)(hb:s₁.heap.Ns builtinsNs mb)(hbb:∀x:Str,x≠"__name__"->mb x=bootBuiltins x)(hlim:s₁.heap.NoLimit)(hg:s₁.gens=#[])
  (ha:s₁.heap.get? a=some {cls:=.type "list",data:=.seq vs.toArray}) (hi:IntsAre vs ns) (hl:ns.length<=qe) (hr:Room k callerA)
  (F:∀base:Heap,K.In base->base.Ns qR mg->FnOk P w K mg base CX k fa fd [x] sp)(hbind:∀(s:Shared) (u:Value),BindsTo s fd ⟨[u],[]⟩ [(x,u)])
  (hsp:∀H:Hp,Only H->SqL K H a (ns.map V.int)->sp [.ref a] H (λv _=>v=.bl true) λ_ _ _=>False)
  (hCX:∀H e s',CX [] H s₁ (λ_ _ _=>False) e s'->False) :
  codeAny (model P w) callerA (.call (.ref fa) ⟨[.ref a],[]⟩) (λr s'=>r=.ok (.ret (.bool true))/\OldK s₁.heap s'.heap/\s'.os=s₁.os/\AllBare s'.gens) s₁:=by
 have rv:=zuy hi
 have lenV:=hi.length
 have core:∀H:Hp,Only H->SqL K H a (ns.map V.int)->HOk P w H s₁.heap->(∀b,H b≠none->b=a)->(H a≠none->K.lookup a=none)->
   codeAny (model P w) callerA (.call (.ref fa) ⟨[.ref a],[]⟩) (λr s'=>r=.ok (.ret (.bool true))/\OldK s₁.heap s'.heap/\s'.os=s₁.os/\AllBare s'.gens) s₁:=by
  intro H hO hS hok hA hK
  have base_of:∀{b:Addr}{o:Obj},s₁.heap.get? b=some o->H b=none->(hidT s₁.heap H).get? b=some o:=λe n=>zaia e n
  have noA:∀{b:Addr}{o:Obj}{es:Array DictEntry}{ep:Nat},s₁.heap.get? b=some o->o.data=.dict es ep->H b=none:=λ{b o es ep} e d=>by
   cases q:H b with
   | none=>rfl
   | some u=>
    have e':b=a:=hA b (by rw[q];simp)
    subst e'
    rw[ha]at e;cases e
    have d':Data.seq vs.toArray _=Data.dict es ep:=d
    cases d'
  have nsK:∀{b:Addr}{m:Str->Option Value},s₁.heap.Ns b m->(hidT s₁.heap H).Ns b m:=λ{b m} ⟨o,es,ep,e,d,r⟩=>⟨o,es,ep,base_of e (noA e d),d,r⟩
  have hKb:K.In (hidT s₁.heap H):=λb o e=>base_of (KX b o e) (by
   cases q:H b with
   | none=>rfl
   | some u=>
    have e':b=a:=hA b (by rw[q];simp)
    subst e'
    rw[hK (by rw[q];simp)]at e;cases e)
  have hM:Mod K mg (hidT s₁.heap H):=⟨hKb,nsK hns,⟨mb,nsK hb,hbb⟩,let⟨mc,h1,h2⟩:=hlim;⟨mc,nsK h1,h2⟩⟩
  have e0:Env0 P w K mg (hidT s₁.heap H) callerA [] s₁ H:=⟨rfl,hM,λb o e=>zamm e,Nat.le_of_eq (zacu _ _),trivial,λb hb=>absurd (show b∈([]:List Addr)from hb) (by simp),hok,.of_eq hg⟩
  refine qA6 ((F _ hKb (nsK hns)).run callerA [] s₁ H ⟨[.ref a],[]⟩ [.ref a] [.ref a] _ _ hr e0 (hbind s₁ (.ref a)) (.cons rfl .nil) (hsp H hO hS)) λr s' h=>?_
  cases r with
  | error e=>exact(hCX H e s' h).elim
  | ok fl=>
   cases fl with
   | next=>exact False.elim h
   | brk=>exact False.elim h
   | cont=>exact False.elim h
   | ret u=>
    obtain⟨v,H',os,bare,un,hok',r',q⟩:=h
    have q':v=.bl true:=q
    subst q'
    obtain rfl:u=Value.bool true:=r'
    refine⟨rfl,OldK.of_keep λb o e=>?_,os,bare⟩
    cases q:H b with
    | none=>exact un.keep b o e q (by intro z;exact absurd (show b∈([]:List Addr)from z) (by simp)) (by simp)
    | some u=>
     rcases hO b with z|⟨ob,xs,z⟩
     ·rw[q]at z;cases z
     ·have z2:=un.frzs b ob _ z
      obtain⟨e1,_⟩:=hok b _ z
      obtain⟨e2,_⟩:=hok' b _ z2
      rw[e]at e1;cases e1
      exact e2
 cases hk:K.lookup a with
 | some o=>
  have e:=KX a o hk
  rw[ha]at e
  cases e
  refine core (λ_=>none) (λ_=>.inl rfl) (.inr ⟨_,vs.toArray,_,hk,rfl,rfl,rfl,by rw[qL,lenV];exact hl,by simpa using rv⟩) (λb u z=>by have z':(none:Option HO)=some u:=z;cases z') (λb z=>absurd rfl z) λz=>absurd rfl z
 | none=>
  refine core (λb=>if b=a then some (.frz {cls:=.type "list",data:=.seq vs.toArray} (.lst (ns.map V.int)))else none) (λb=>?_) (.inl (.inr ⟨{cls:=.type "list",data:=.seq vs.toArray},if_pos rfl⟩)) (λb u z=>?_) (λb z=>?_) λ_=>hk
  ·by_cases hb:b=a
   ·exact .inr ⟨_,_,if_pos hb⟩
   ·exact .inl (if_neg hb)
  ·by_cases hb:b=a
   ·have z':=(if_pos hb).symm.trans z
    cases z'
    subst hb
    exact⟨ha,by rw[qD];exact hl,vs,_,rv,ha⟩
   ·have z':=(if_neg hb).symm.trans z
    cases z'
  ·by_cases hb:b=a
   ·exact hb
   ·exact absurd (if_neg hb) z
theorem walk_of{l:PySem.W.OpenLaw}{n k:Nat}{q:Program}{loose:List Str}{XP:(Str->Option Value)->Heap->Prop}{YP:World->Heap->Prop}{d:DefRec}{K:Params->qB}{CX:World->CXT}{sp:World->Sp}{x:Str}
  (hn:l.most=some n)(hn2:n<=qe)(hdf:d.params.defaults=[])(hr:Room k callerA)
  (hY:∀(w:World) (h:Heap),YP w h->(K w.params).In h)
  (F:∀(w:World)(mg:Str->Option Value)(fa:Addr)(h:Heap),(K w.params).In h->h.Ns qR mg->mg d.name=some (.ref fa)->
   ∃fd:qw,(∀(s:Shared)(u:Value),BindsTo s fd ⟨[u],[]⟩ [(x,u)])/\
    ∀base:Heap,(K w.params).In base->base.Ns qR mg->FnOk l.prog w (K w.params) mg base (CX w) k fa fd [x] (sp w))
  (hsp:∀(w:World) (H:Hp) (a:Addr) (ns:List Int),ns.length<=n->Only H->SqL (K w.params) H a (ns.map V.int)->sp w [.ref a] H (λv _=>v=.bl true) λ_ _ _=>False)
  (hCX:∀(w:World) (H:Hp) (s:Shared) (e:Value) (s':Shared),CX w [] H s (λ_ _ _=>False) e s'->False) :
  PySem.W.WalkO q loose XP YP l.row.toRowW d [] (λf vs=>PySem.call f vs):=by
 refine Att.attach_call hn hdf λw s₀ s₁ mg mb fa o pm cd doc a vs ns G Y ho hd hcd hmg hobj hints hlen hg=>?_
 have KX:=hY w _ Y
 obtain⟨fd,hb,hF⟩:=F w mg fa _ KX G.T.g hmg
 exact zaim KX G.T.g G.T.b G.T.builtins G.T.nolimit hg hobj hints (qAD hlen hn2) hr hF hb (λH hO hS=>hsp w H a ns hlen hO hS) λH e s'=>hCX w H s₁ e s'
end L2
namespace L2
open PySem PySem.Spec PyProof.Rows
noncomputable def zsv(s:Stmt)(j:Nat):Stmt:=match s with
 | .ClassDef _ _ _ body _ _ _ _ _ _ _=>body.getD j (.Pass ⟨0,0,0,0⟩)
 | _=>.Pass ⟨0,0,0,0⟩
noncomputable def zbt(s:Stmt):Arguments:=match s with
 | .FunctionDef _ a _ _ _ _ _ _ _ _=>a
 | _=>{posonlyargs:=[],args:=[],vararg:=none,kwonlyargs:=[],kw_defaults:=[],kwarg:=none,defaults:=[]}
noncomputable def zbm(s:Stmt):List Stmt:=match s with
 | .FunctionDef _ _ b _ _ _ _ _ _ _=>b
 | _=>[]
noncomputable def zam(s:Stmt):Scope:=match s with
 | .FunctionDef _ _ _ _ _ _ sc _ _ _=>sc
 | _=>{kind:=.function,names:=[],isGenerator:=false,isCoroutine:=false}
noncomputable abbrev CX0:CXT:=λ_ _ _ _ _ _=>False
noncomputable abbrev E0:XK:=λ_ _ _=>False
theorem zaug{X:Cx}:zadh CX0 X E0:=λ_ _ _ _ _ _ _ h=>h.elim
set_option genInjectivity false in
structure Fun(K:qB)(x qual:Str)(st:Stmt)(f:Addr)(fd:qw):Prop where
 ex:∃(oc:Value)(od:Option Addr)(kV doc pm:Value)(an:Option Addr)(cdv ct:Value)(osl:Array (Option Value)),
  fd=qo x qual (zbt st) (zbm st) (zam st) .none kV doc pm an cdv ct/\K.lookup f=some ⟨oc,od,.func fd,osl⟩/\qi K cdv qual=true
 kp:qX K (.ref f)=true
section
variable{P:Program}{w:World}{K:qB}{mg:Str->Option Value}{base:Heap}
theorem Fun.ok{x qual:Str}{st:Stmt}{f:Addr}{fd:qw}{N ps:List Str}{k:Nat}{sp:Sp}(F:Fun K x qual st f fd)(S:FnScope N ps (zam st))(len:∀vs H Q E,sp vs H Q E->vs.length=ps.length)
  (hbody:∀(cdv:Value)(A:Around)(outer:List Env)(s:Shared)(H:Hp)(vs:List V)(Q:VK)(E:XK),Room k (A.deeper (envOfC qual (zam st) s.heap.objs.size f cdv))->sp vs H Q E->
   ∃t,PSs (cxOf CX0 P w K mg base N qual (zam st) f cdv A outer s H E).nox (zbm st) t/\t {nx:=λ_ H'=>Q .non H',rt:=Q} (start N vs) H):FnOk P w K mg base CX0 (k+1) f fd ps sp:=by
 obtain⟨oc,od,kV,doc,pm,an,cdv,ct,osl,rfl,lk,hcd⟩:=F.ex
 refine zaud lk hcd S len λA outer s H vs Q E hr hsp=>?_
 obtain⟨t,h,q⟩:=hbody cdv A outer s H vs Q E hr hsp
 exact⟨t,h.nox,q⟩
theorem Fun.binds{x qual:Str}{st:Stmt}{f:Addr}{fd:qw}{ps:List Str}(F:Fun K x qual st f fd)
  (h:∀(kV doc pm:Value) (an:Option Addr) (cdv ct:Value) (us:List Value),us.length=ps.length->bindArgs (qo x qual (zbt st) (zbm st) (zam st) .none kV doc pm an cdv ct) ⟨us,[]⟩=pure (ps.zip us)):zno K fd ps []:=by
 obtain⟨oc,od,kV,doc,pm,an,cdv,ct,osl,rfl,lk,hcd⟩:=F.ex
 exact .all (h kV doc pm an cdv ct)
theorem zdx{x qual:Str}{st:Stmt}{f:Addr}{oc:Value}{od an:Option Addr}{osl:Array (Option Value)}{kV doc pm cdv ct:Value}(l:K.lookup f=some ⟨oc,od,.func (qo x qual (zbt st) (zbm st) (zam st) .none kV doc pm an cdv ct),osl⟩)
  (c:qi K cdv qual=true) (k:qX K (.ref f)=true):Fun K x qual st f (qo x qual (zbt st) (zbm st) (zam st) .none kV doc pm an cdv ct):=⟨⟨oc,od,kV,doc,pm,an,cdv,ct,osl,rfl,l,c⟩,k⟩
end
theorem zgc{A:Around}{k:Nat}(hr:Room k A):A.units+1<cLine:=qCH (Nat.add_le_add_left (by decide:1<=64) _) hr.units
section
variable{X:Cx}
theorem pv(i:Nat){x:Str}{pos:Pos}(hN:X.N[i]?=some x:=by rfl)(hv:visB X.env.scope x=true:=by rfl)(hd:(x==("__debug__":Str))=false:=by decide)
  (hcd:(x==("__classdict__":Str))=false:=by decide):PE X (.Name x pos) (tVar i):=zaku hN (visB.of hv) hd hcd
end
theorem iteF{A B:Prop}(h:B):if false=true then A else B:=by
 rw[if_neg qP]
 exact h
theorem iteT{A B:Prop}(h:A):if true=true then A else B:=by
 rw[if_pos rfl]
 exact h
theorem ite2{c A B:Prop}[Decidable c](h1:c->A)(h2:¬c->B):if c then A else B:=by
 by_cases h:c
 ·rw[if_pos h]
  exact h1 h
 ·rw[if_neg h]
  exact h2 h
noncomputable def Same(H H':Hp):Prop:=∀b o,H b=some o->H' b=some o
theorem Same.refl(H:Hp):Same H H:=λ_ _ h=>h
theorem Same.trans{H H1 H2:Hp}(a:Same H H1)(b:Same H1 H2):Same H H2:=λc o h=>b c o (a c o h)
theorem Same.free{H H':Hp}(e:Same H H'){l:Addr}(h:H' l=Option.none):H l=Option.none:=by
 cases q:H l with
 | none=>rfl
 | some o=>
  rw[e l o q]at h
  cases h
theorem Same.seq{K:qB}{H H':Hp}{a:Addr}{xs:List V}(e:Same H H')(h:SqL K H a xs):SqL K H' a xs:=by
 rcases h with(h|⟨o,h⟩)|h
 ·exact .inl (.inl (e _ _ h))
 ·exact .inl (.inr ⟨o,e _ _ h⟩)
 ·exact .inr h
section
variable{κ:Type}[DecidableEq κ]
theorem zadu:∀{l:List κ}{k:κ},l.Nodup->¬k∈l->(l++[k]).Nodup
 | [],k,_,_=>by simp
 | a::r,k,h,hk=>by
  obtain⟨h1,h2⟩:=qt.mp h
  show(a::(r++[k])).Nodup
  refine qt.mpr ⟨λm=>?_,zadu h2 λm=>hk (qW.mpr (Or.inr m))⟩
  rcases qc.mp m with q|q
  ·exact h1 q
  ·exact hk (qW.mpr (Or.inl (q9.mp q).symm))
end
end L2
set_option maxHeartbeats 4000000
namespace L2
open PySem PySem.Spec PyProof.Rows
noncomputable def clos(cells:List (Str×Addr)):List (Str×NameKind)->List (Str×Addr)->List (Str×Addr)
 | [],acc=>acc
 | (n,k)::r,acc=>if k==.free then clos cells r ((n,(cells.lookup n).getD 0)::acc)else clos cells r acc
theorem zsw{cells:List (Str×Addr)}:∀{names:List (Str×NameKind)}{acc:List (Str×Addr)},(∀y∈names,y.2=.free->∃c,cells.lookup y.1=some c)->∀p∈clos cells names acc,p∈acc\/((p.1,NameKind.free)∈names/\cells.lookup p.1=some p.2)
 | [],acc,_,p,hp=>.inl hp
 | (n,k)::r,acc,h,p,hp=>by
  unfold clos at hp
  have hr:∀y∈r,y.2=.free->∃c,cells.lookup y.1=some c:=λy hy=>h y (qK _ hy)
  split at hp
  ·rename_i hk
   rcases zsw hr p hp with q|q
   ·rcases qW.mp q with q|q
    ·subst q
     have hk':k=.free:=by simpa using hk
     subst hk'
     obtain⟨c,hc⟩:=h (n,.free) qk rfl
     exact .inr ⟨qk,by show cells.lookup n=some ((cells.lookup n).getD 0);rw[hc];rfl⟩
    ·exact .inl q
   ·exact .inr ⟨qK _ q.1,q.2⟩
  ·rcases zsw hr p hp with q|q
   ·exact .inl q
   ·exact .inr ⟨qK _ q.1,q.2⟩
theorem zsx{cells:List (Str×Addr)}:∀{names:List (Str×NameKind)}{acc:List (Str×Addr)},∀p∈acc,p∈clos cells names acc
 | [],acc,p,hp=>hp
 | (n,k)::r,acc,p,hp=>by
  unfold clos
  split
  ·exact zsx p (qK _ hp)
  ·exact zsx p hp
theorem zsy{cells:List (Str×Addr)}{x:Str}:∀{names:List (Str×NameKind)}{acc:List (Str×Addr)},(x,NameKind.free)∈names->∃c,(x,c)∈clos cells names acc
 | [],_,h=>by simp at h
 | (n,k)::r,acc,h=>by
  unfold clos
  rcases qW.mp h with e|h
  ·cases e
   rw[if_pos (show(NameKind.free==NameKind.free)=true by decide)]
   exact⟨_,zsx _ qk⟩
  ·split
   ·exact zsy h
   ·exact zsy h
theorem zmq{α:Type}{x:Str}{c:α}:∀{l:List (Str×α)},(x,c)∈l->∃c',l.lookup x=some c'
 | [],h=>by simp at h
 | (k,v)::r,h=>by
  rw[qAp]
  cases hb:x==k with
  | true=>exact⟨v,rfl⟩
  | false=>
   rcases qW.mp h with e|h
   ·cases e;simp at hb
   ·exact zmq h
theorem zsz{scope:Scope}{env:Env}(h:∀y∈scope.names,y.2=.free->∃c,env.cells.lookup y.1=some c):closureFor scope env=pure (clos env.cells scope.names []):=by
 unfold closureFor
 have key:∀(names:List (Str×NameKind))(acc:List (Str×Addr)),(∀y∈names,y.2=.free->∃c,env.cells.lookup y.1=some c)->
   (forIn names acc (λ(x:Str×NameKind) (r:List (Str×Addr))=>(if(x.2==.free)=true then(do let a <- cellOf env x.1;pure (ForInStep.yield ((x.1,a)::r)))else pure (ForInStep.yield r):Sem (ForInStep (List (Str×Addr))))))=pure (clos env.cells names acc):=by
  intro names
  induction names with
  | nil=>intro acc _;rfl
  | cons y r ih=>
   intro acc hy
   obtain⟨n,k⟩:=y
   have hr:=λy (hm:y∈r)=>hy y (qK _ hm)
   rw[List.forIn_cons]
   unfold clos
   cases hk:(k==NameKind.free)with
   | true=>
    have hk':k=.free:=by simpa using hk
    subst hk'
    obtain⟨c,hc⟩:=hy (n,.free) qk rfl
    have e1:cellOf env n=pure c:=by unfold cellOf;rw[hc]
    simp only[if_true]
    have hc':env.cells.lookup n=some c:=hc
    rw[e1,hc']
    simp only[pure_bind,Option.getD_some]
    exact ih _ hr
   | false=>
    simp only[qBS,if_false,pure_bind]
    exact ih _ hr
 simpa using key scope.names [] h
theorem zhm:∀(names:List (Str×NameKind))(n:Nat)(acc:List (Str×Addr)),cellsFrom n names acc=cellsFrom n names []++acc
 | [],_,_=>rfl
 | (name,kind)::r,n,acc=>by
  unfold cellsFrom
  split
  ·rw[zhm r (n+1) ((name,n)::acc),zhm r (n+1) [(name,n)],qAf];rfl
  ·exact zhm r n acc
theorem zhn{x:Str}{c:Addr}:∀(names:List (Str×NameKind))(n:Nat)(acc:List (Str×Addr)),(x,c)∈cellsFrom n names acc->(x,c)∈acc\/(x,NameKind.cell)∈names
 | [],_,_,h=>.inl h
 | (name,kind)::r,n,acc,h=>by
  unfold cellsFrom at h
  split at h
  ·rename_i hk
   have hk':kind=.cell:=by simpa using hk
   subst hk'
   rcases zhn r _ _ h with q|q
   ·rcases qW.mp q with q|q
    ·cases q;exact .inr qk
    ·exact .inl q
   ·exact .inr (qK _ q)
  ·rcases zhn r _ _ h with q|q
   ·exact .inl q
   ·exact .inr (qK _ q)
theorem zlh{α:Type}{x:Str}:∀{l r:List (Str×α)},(l++r).lookup x=(l.lookup x).or (r.lookup x)
 | [],_=>by simp
 | (k,v)::l,r=>by
  rw[List.cons_append,qAp,qAp]
  cases x==k with
  | true=>rfl
  | false=>exact zlh
theorem zgu{env:Env}{x:Str}{k':NameKind}:∀{names:List (Str×NameKind)},
  (names.map λ(n,k)=>if(k==NameKind.free&&env.scope.kind==.function&&env.kindOf n==some .cell)then(n,NameKind.cell)else(n,k)).lookup x=some k'->
  ∃k,names.lookup x=some k/\(k'=k\/(k=.free/\k'=.cell))
 | [],h=>by simp at h
 | (n,k)::r,h=>by
  rw[qAV]at h
  by_cases hc:(k==NameKind.free&&env.scope.kind==.function&&env.kindOf n==some .cell)=true
  ·simp only[hc,if_true]at h
   rw[qAp]at h ⊢
   cases hx:x==n with
   | true=>
    rw[hx]at h
    have hk:k=.free:=by simp at hc;exact hc.1.1
    exact⟨k,rfl,.inr ⟨hk,(qy h).symm⟩⟩
   | false=>rw[hx]at h;exact zgu h
  ·simp only[hc,qBS,if_false]at h
   rw[qAp]at h ⊢
   cases hx:x==n with
   | true=>rw[hx]at h;exact⟨k,rfl,.inl (qy h).symm⟩
   | false=>rw[hx]at h;exact zgu h
theorem zki{env:Env}{x:Str}:∀{names:List (Str×NameKind)},names.lookup x=some .free->
  ((names.map λ(n,k)=>if(k==NameKind.free&&env.scope.kind==.function&&env.kindOf n==some .cell)then(n,NameKind.cell)else(n,k)).lookup x=some .free\/
   (names.map λ(n,k)=>if(k==NameKind.free&&env.scope.kind==.function&&env.kindOf n==some .cell)then(n,NameKind.cell)else(n,k)).lookup x=some .cell)
 | [],h=>by simp at h
 | (n,k)::r,h=>by
  rw[qAV]
  rw[qAp]at h
  by_cases hc:(k==NameKind.free&&env.scope.kind==.function&&env.kindOf n==some .cell)=true
  ·simp only[hc,if_true]
   rw[qAp]
   cases hx:x==n with
   | true=>exact .inr rfl
   | false=>rw[hx]at h;exact zki h
  ·simp only[hc,qBS,if_false]
   rw[qAp]
   cases hx:x==n with
   | true=>rw[hx]at h;exact .inl h
   | false=>rw[hx]at h;exact zki h
theorem zabn{M:Model}{A:Around}{E:Value->Shared->Prop}{s:Shared}{scope:Scope}{globals:Addr}{cl:List (Str×Addr)}{qual:Str}{env:Env}{Q:Env->Shared->Prop}
  (hQ:∀h',(∀b o,s.heap.get? b=some o->h'.get? b=some o)->h'.Ns s.heap.objs.size (λ_=>none)->(∀n c,(n,c)∈cellsFrom (s.heap.objs.size+1) scope.names []->h'.IsCell c none/\s.heap.objs.size+1<=c)->
   ((cellsFrom (s.heap.objs.size+1) scope.names []).Pairwise λx y=>x.2≠y.2)->
   Q {scope:=scope,locals:=s.heap.objs.size,globals:=globals,cells:=cellsFrom (s.heap.objs.size+1) scope.names []++cl,qual:=qual,func:=none,code:=env.code,frame:=env.frame,builtins:=env.builtins} {s with heap:=h'}) :
  wpAny M A (newFunctionEnv scope globals cl [] qual none .none (some env)) Q E s:=by
 simp only[newFunctionEnv,Option.isSome_some,if_true]
 refine qE (wpAny_alloc ?_)
 refine qE (wpAny_layCells _ (λname kind cells=>by cases hkc:kind==NameKind.cell<;>simp[hkc]) _ _ _ _ ?_)
 have ok:=cellsFrom_ok scope.names (s.heap.push {cls:=.type "dict",data:=.dict #[]}) (s.heap.objs.size+1) [] ⟨λ_ _ hm=>(nomatch hm),List.Pairwise.nil⟩ (by rw[qBo];exact qM _)
 rw[qBo]at ok
 rw[show({s with heap:=s.heap.push {cls:=.type "dict",data:=.dict #[]}}:Shared).heap.objs.size=s.heap.objs.size+1 from qBo ..]
 rw[zhm]
 refine qE ?_
 refine qQ (qQ ?_)
 exact hQ _ (λb o e=>pushCells_keeps _ _ b o (qG _ e)) ((Heap.Ns.new s.heap (.type "dict")).keeps (pushCells_keeps _ _)) ok.empty ok.apart
noncomputable def cxComp(X:Cx)(scope:Scope)(N' own:List Str)(cl:List (Str×Addr))(C:Addr)(s:Shared)(H:Hp)(fp:List Addr):Cx:=
 {X with N:=N',s₀:=s,H₀:=H,env:=compEnvC scope cl C X.env,outer:=X.stack,stack:=X.stack,ex:=fp,fn:=λx=>own.contains x,pn:=[],xe:=λ_ _=>False}
structure CompOk(X:Cx)(scope:Scope)(N' own:List Str)(fr:List Nat):Prop where
 kind:scope.kind=.function
 names:∀y∈scope.names,scope.names.lookup y.1=some y.2
 up:∀y∈scope.names,y.2=.free->(X.env.kindOf y.1=some .cell\/X.env.kindOf y.1=some .free)
 nm:N'=own++fr.map (λj=>X.N.getD j Str.empty)
 fr:∀j∈fr,j<X.N.length/\scope.names.lookup (X.N.getD j Str.empty)=some .free
 own:∀x∈own,scope.names.lookup x=some .local\/scope.names.lookup x=some .cell
noncomputable def tau(own:List Str)(fr:List Nat)(σ:St):St:=own.map (λ_=>none)++fr.map (λj=>σ.getD j none)
section
variable{X:Cx}{pins:List (Addr×Obj)}{σ:St}{H:Hp}{s:Shared}{scope:Scope}{N' own:List Str}{fr:List Nat}
theorem zrr(c:CompOk X scope N' own fr)(ok:X.Ok):∀y∈scope.names,y.2=.free->∃a,X.env.cells.lookup y.1=some a:=λy hy e=>ok.has y.1 (c.up y hy e)
theorem zain{fp:List Addr}{h':Heap}(c:CompOk X scope N' own fr)(I:Inv X pins σ H s)
  (hf:∀b∈fp,FpOk X pins H b)(ho:∀b∈fp,∃o,s.heap.get? b=some o/\∀v,o.data≠.cell v)
  (keep:∀b o,s.heap.get? b=some o->h'.get? b=some o)(ns:h'.Ns s.heap.objs.size (λ_=>none))
  (cells:∀n c,(n,c)∈cellsFrom (s.heap.objs.size+1) scope.names []->h'.IsCell c none/\s.heap.objs.size+1<=c)
  (apart:(cellsFrom (s.heap.objs.size+1) scope.names []).Pairwise λx y=>x.2≠y.2) :
  Inv (cxComp X scope N' own (cellsFrom (s.heap.objs.size+1) scope.names []++clos X.env.cells scope.names []) s.heap.objs.size s H fp) [] (tau own fr σ) H {s with heap:=h'}:=by
 have found:=zrr c I.ok
 have clm:∀x a,(x,a)∈clos X.env.cells scope.names []->(x,NameKind.free)∈scope.names/\X.env.cells.lookup x=some a:=λx a hm=>by
  rcases zsw found (x,a) hm with q|q
  ·simp at q
  ·exact q
 have look:∀x a,(cellsFrom (s.heap.objs.size+1) scope.names []++clos X.env.cells scope.names []).lookup x=some a->
   ((x,a)∈cellsFrom (s.heap.objs.size+1) scope.names []/\(x,NameKind.cell)∈scope.names)\/((x,NameKind.free)∈scope.names/\X.env.cells.lookup x=some a):=λx a e=>by
  rw[zlh]at e
  cases q:(cellsFrom (s.heap.objs.size+1) scope.names []).lookup x with
  | some b=>
   rw[q]at e
   cases e
   have hm:=qAL q
   rcases zhn _ _ _ hm with z|z
   ·simp at z
   ·exact .inl ⟨hm,z⟩
  | none=>
   rw[q]at e
   exact .inr (clm x a (qAL e))
 have lookF:∀x a,(x,NameKind.free)∈scope.names->X.env.cells.lookup x=some a->(cellsFrom (s.heap.objs.size+1) scope.names []++clos X.env.cells scope.names []).lookup x=some a:=λx a hx e=>by
  rw[zlh]
  have q:(cellsFrom (s.heap.objs.size+1) scope.names []).lookup x=none:=by
   cases q:(cellsFrom (s.heap.objs.size+1) scope.names []).lookup x with
   | none=>rfl
   | some b=>
    rcases zhn _ _ _ (qAL q)with z|z
    ·simp at z
    ·have h1:=c.names _ hx
     have h2:=c.names _ z
     rw[h1]at h2
     cases h2
  rw[q]
  obtain⟨d,hd⟩:=zsy (cells:=X.env.cells) (acc:=[]) hx
  obtain⟨d',hd'⟩:=zmq hd
  have:=(clm x d' (qAL hd')).2
  rw[e]at this
  cases this
  exact hd'
 have below:∀b o,s.heap.get? b=some o->b<s.heap.objs.size:=λb o e=>qU e
 have cold:∀x a,X.env.cells.lookup x=some a->a<s.heap.objs.size:=λx a e=>let⟨v,q⟩:=I.cell x a e;q.lt
 refine⟨⟨I.ok.mod,c.kind,I.ok.glob,I.ok.blt,qM _,?inj,?has,?cab,I.ok.hd,I.ok.frames,.inl rfl,?exf,I.bs,qAD I.ok.bsz I.sz,?noex,?exfs,I.stack,I.stkFree⟩,
  rfl,I.bare,Un.kept keep,⟨_,ns,?loc⟩,?cell,I.hok.fresh (qM _),?freeC,?pin,I.hok.kept keep,?len⟩
 case inj=>
  intro x y a h1 h2
  rcases look x a h1 with⟨m1,k1⟩|⟨k1,e1⟩<;>rcases look y a h2 with⟨m2,k2⟩|⟨k2,e2⟩
  ·exact name_of_addr apart m1 m2
  ·exact absurd (qm (cold y a e2) (qCJ (cells x a m1).2)) (qA5 _)
  ·exact absurd (qm (cold x a e1) (qCJ (cells y a m2).2)) (qA5 _)
  ·exact I.ok.inj x y a e1 e2
 case has=>
  intro x hx
  have hx':(∃k,scope.names.lookup x=some k/\(k=.cell\/k=.free)):=by
   rcases hx with hx|hx
   ·obtain⟨k,e,q⟩:=zgu (env:=X.env) (names:=scope.names) hx
    rcases q with q|⟨q,_⟩
    ·exact⟨k,e,.inl q.symm⟩
    ·exact⟨k,e,.inr q⟩
   ·obtain⟨k,e,q⟩:=zgu (env:=X.env) (names:=scope.names) hx
    rcases q with q|⟨q,_⟩
    ·exact⟨k,e,.inr q.symm⟩
    ·exact⟨k,e,.inr q⟩
  obtain⟨k,e,q⟩:=hx'
  show ∃a,(cellsFrom (s.heap.objs.size+1) scope.names []++clos X.env.cells scope.names []).lookup x=some a
  rcases q with rfl|rfl
  ·obtain⟨a,ha⟩:=zsq (n:=s.heap.objs.size+1) e
   exact⟨a,by rw[zlh,ha];rfl⟩
  ·obtain⟨a,ha⟩:=found _ (qAL e) rfl
   exact⟨a,lookF x a (qAL e) ha⟩
 case cab=>
  intro x a hx e
  have hx:own.contains x=true:=hx
  have hx':x∈own:=by simpa using hx
  rcases look x a e with⟨m1,_⟩|⟨k1,_⟩
  ·have:=(cells x a m1).2
   show s.heap.objs.size<=a
   omega
  ·have h1:=c.names _ k1
   rcases c.own x hx' with h2|h2
   ·rw[h1]at h2;cases h2
   ·rw[h1]at h2;cases h2
 case exf=>
  intro b hb
  obtain⟨o,e,d⟩:=ho b hb
  refine⟨qAG (below b o e),λx a q z=>?_⟩
  subst z
  rcases look x a q with⟨m1,_⟩|⟨k1,e1⟩
  ·exact absurd (qm (below a o e) (qCJ (cells x a m1).2)) (qA5 _)
  ·obtain⟨v,o',e',d'⟩:=I.cell x a e1
   rw[e]at e'
   cases e'
   exact d v d'
 case noex=>
  intro b o e hb
  rcases(hf b hb).2.2.2.1 with z|z
  ·exact I.ok.noex b o e z
  ·exact absurd (qm (qm (qU e) I.ok.bsz) z) (qA5 _)
 case exfs=>
  intro b hb z
  rcases qW.mp (I.stkSub b z)with q|q
  ·exact(hf b hb).2.1 q
  ·exact(hf b hb).2.2.1 q
 case loc=>
  intro i x v h1 h2 h3
  have h1:N'[i]?=some x:=h1
  rw[c.nm]at h1
  unfold tau at h2
  by_cases hi:i<own.length
  ·rw[qf (by simpa using hi),qT]at h2
   cases q:own[i]? with
   | none=>rw[q]at h2;cases h2
   | some z=>rw[q]at h2;cases h2
  ·rw[qN (by simpa using hi),qT,qD]at h2
   rw[qN (by simpa using hi),qT]at h1
   cases q:fr[i - own.length]? with
   | none=>rw[q]at h2;cases h2
   | some j=>
    rw[q]at h1 h2
    have e1:X.N.getD j Str.empty=x:=qy h1
    have e2:σ.getD j none=some v:=qy h2
    obtain⟨hj,hfree⟩:=c.fr j (qp q)
    rw[e1]at hfree
    have hNj:X.N[j]?=some x:=by
     rw[<- e1,qAB,qF hj];rfl
    have hσj:σ[j]?=some (some v):=by
     rw[qAB]at e2
     cases z:σ[j]? with
     | none=>rw[z]at e2;cases e2
     | some w=>rw[z]at e2;rw[show w=some v from e2]
    have hmem:(x,NameKind.free)∈scope.names:=qAL hfree
    have hup:=c.up _ hmem rfl
    obtain⟨m,hn,hl⟩:=I.loc
    obtain⟨u,ru,lk⟩:=hl j x v hNj hσj (by rcases hup with z|z;exact .inr (.inl z);exact .inr (.inr z))
    refine⟨u,ru,.inr ⟨?_,?_⟩⟩
    ·rcases zki (env:=X.env) (names:=scope.names) hfree with z|z
     ·exact .inr z
     ·exact .inl z
    ·rcases lk with⟨k1,_⟩|⟨_,a,ha,hc⟩
     ·rcases hup with z|z
      ·rw[show X.env.kindOf x=some .cell from z]at k1;cases k1
      ·rw[show X.env.kindOf x=some .free from z]at k1;cases k1
     ·exact⟨a,lookF x a hmem ha,hc.keeps keep⟩
 case cell=>
  intro x a e
  rcases look x a e with⟨m1,_⟩|⟨k1,e1⟩
  ·exact⟨_,(cells x a m1).1⟩
  ·obtain⟨v,q⟩:=I.cell x a e1
   exact⟨v,q.keeps keep⟩
 case freeC=>
  intro x a e
  rcases look x a e with⟨m1,_⟩|⟨k1,e1⟩
  ·exact I.hok.fresh (by have:=(cells x a m1).2;omega)
  ·exact I.freeC x a e1
 case pin=>intro p hp;exact absurd (show p∈([]:List (Addr×Obj))from hp) (by simp)
 case len=>
  show(tau own fr σ).length=N'.length
  rw[c.nm];unfold tau;simp
end
noncomputable abbrev TM:=St->Hp->(St->Hp->Prop)->Prop
noncomputable def PM(X:Cx)(act:Sem Unit)(t:TM):Prop:=
 ∀(pins:List (Addr×Obj))(s:Shared)(σ:St)(H:Hp)(Q:St->Hp->Prop),Inv X pins σ H s->t σ H Q->wpAny (model X.prog X.w) X.A act (λ_ s'=>∃σ' H',Inv X pins σ' H' s'/\Q σ' H') X.xe s
noncomputable def PF(X:Cx)(ifs:List Expr)(t:TT):Prop:=
 ∀(pins:List (Addr×Obj))(s:Shared)(σ:St)(H:Hp)(Q:Bool->Hp->Prop),Inv X pins σ H s->t σ H Q->
  wpAny (model X.prog X.w) X.A (forIn ifs true λc r=>if r=true then do let ok <- isTrue c X.env (eval c X.env);pure (ForInStep.yield ok)else pure (ForInStep.yield r)) (TP X pins σ Q) X.xe s
noncomputable def tAll:TT:=λ_ H Q=>Q true H
section
variable{X:Cx}
theorem zarn:PF X [] tAll:=λ_ s σ H Q I h=>wpAny_tests_nil ⟨H,I,h⟩
noncomputable def zaro(p:Addr)(te:TE):TM:=λσ H Q=>te σ H λv H1=>∃ys,H1 p=some (.lst ys)/\ys.length<qe/\Q σ (upd H1 p (.lst (ys++[v])))
theorem zanc{elt:Expr}{te:TE}{p:Addr}(h:PE X elt te):PM X (do let _ <- call (.builtin "list.append") [.ref p,<- eval elt X.env]) (zaro p te):=by
 intro pins s σ H Q I q
 refine qE (thn (h pins s σ H _ I q) λu s1 ⟨v,H1,I1,r,ys,hp,hz,q1⟩=>?_)
 refine qE (thn (zcf pins s1 σ H1 (.ref p) [v] (.ref p) [u] (λ_ H2=>Q σ H2) I1 rfl (.cons r .nil) ⟨p,ys,v,rfl,rfl,hp,hz,q1⟩) λ_ s2 ⟨_,H2,I2,_,q2⟩=>?_)
 exact qQ ⟨σ,H2,I2,q2⟩
noncomputable def zand(J:It)(g:TG)(tt:TT)(tm:TM):TM:=λσ H Q=>∃W:Nat->Nat->St->Hp->Prop,(∃m,W 0 m σ H)/\∀i m σ H,W i m σ H->
 (J.stop i H/\Q σ H)\/(J.go i H/\∃N:St->Hp->Prop,(∀σ' H',N σ' H'->∃m',m'<m/\W (i+1) m' σ' H')/\∀x H',J.yld i H x H'->g x σ H' λσ2 H2=>tt σ2 H2 λb H3=>if b=true then tm σ2 H3 N else N σ2 H3)
theorem zyh{elt0:Expr}{gens:List Comprehension}{scope:Scope}{cpos:Pos}{depth:Nat}{target:Expr}{ifs:List Expr}{emit:Sem Unit}{acc:Value}{ip:Pos}{it:Addr}{fp:List Addr}{tn:Nat->Heap->Prop}{J:It}{g:TG}{tt:TT}{tm:TM}{pins:List (Addr×Obj)}{σ:St}{H:Hp}{s:Shared}{Q:St->Hp->Prop}
  (hx:X.xe=λ_ _=>False)(hc:X.calm=true)
  (eq:compTurn (.ListComp elt0 gens scope cpos) depth (.ref it) acc X.env=(do
   standAt ip
   match <- pyNext (.ref it)with
   | none=>pure (.done .next)
   | some v=>
    letOwnedTupleGo target (.ref it) v
    assign target X.env v
    let mut ok:=true
    for c in ifs do
     if ok then ok <- isTrue c X.env (eval c X.env)
    if ok then emit
    again (.compLoop (.ListComp elt0 gens scope cpos) depth (.ref it) acc X.env)))
  (T:Turn X.prog X.w X.K target J fp it tn)(hg:PG X target g)(ht:PF X ifs tt)(hm:PM X emit tm)
  (I:Inv X pins σ H s)(st:tn 0 s.heap)(hf:∀b∈fp,FpOk X pins H b)(h:zand J g tt tm σ H Q) :
  codeAny (model X.prog X.w) X.A (.compLoop (.ListComp elt0 gens scope cpos) depth (.ref it) acc X.env) (λr s'=>r=.ok .next/\∃σ' H',Inv X pins σ' H' s'/\Q σ' H') s:=by
 obtain⟨W,⟨m0,w0⟩,turn⟩:=h
 have stat:∀{H':Hp},(∀b∈fp,H' b=none)->∀b∈fp,FpOk X pins H' b:=λhn b hb=>⟨hn b hb,(hf b hb).2⟩
 have xe:∀{α:Type}{m:Sem α}{Q':α->Shared->Prop}{E:Value->Shared->Prop}{s:Shared},wpAny (model X.prog X.w) X.A m Q' X.xe s->wpAny (model X.prog X.w) X.A m Q' E s:=λq=>qBI q (λ_ _ z=>z) λ_ _ z=>by rw[hx]at z;exact z.elim
 refine codeAny_loop rfl (λn s'=>∃i σ' H',Inv X pins σ' H' s'/\tn i s'.heap/\(∀b∈fp,H' b=none)/\W i n σ' H') ?_ m0 ⟨0,σ,H,I,st,λb hb=>(hf b hb).1,w0⟩
 rintro n s3 ⟨i,σ3,H3,I3,st3,fr3,w3⟩
 show wpAny _ X.A ((compTurn (.ListComp elt0 gens scope cpos) depth (.ref it) acc X.env).onRaise (λx=>do noteFrame x X.env;theTreesLotGoes x)) _ _ s3
 refine wpAny_noted ?_
 rw[eq]
 refine qE (wpAny_standAt (qE ?_))
 rcases turn i n σ3 H3 w3 with⟨stop,qn⟩|⟨go,N,hN,step⟩
 ·refine thn (T.done X rfl rfl rfl hc i pins s3 σ3 H3 _ I3 (stat fr3) st3 stop) λr s4 ⟨hr,I4⟩=>?_
  subst hr
  exact qQ ⟨rfl,σ3,H3,I4,qn⟩
 ·refine thn (T.item X rfl rfl rfl hc i pins s3 σ3 H3 _ I3 (stat fr3) st3 go) λr s4 ⟨u,hr,h4⟩=>?_
  subst hr
  refine qE (thn h4 λ_ s5 ⟨x,H5,I5,r5,y5,st5,fr5⟩=>?_)
  have I5':=I5.pinned (stat fr5) (T.obj _ _ st5)
  refine qE (xe (thn (hg _ s5 σ3 H5 x u _ I5' r5 (step x H5 y5)) λ_ s6 ⟨σ6,H6,I6,q6⟩=>?_))
  have again:∀{σ7:St}{H7:Hp}{s7:Shared},Inv X (pins++zuo fp s5.heap) σ7 H7 s7->N σ7 H7->∃m,m<n/\∃i σ' H',Inv X pins σ' H' s7/\tn i s7.heap/\(∀b∈fp,H' b=none)/\W i m σ' H':=λ{σ7 H7 s7} I7 n7=>by
   obtain⟨m',hm,w7⟩:=hN σ7 H7 n7
   refine⟨m',hm,i+1,σ7,H7,I7.unpinned,T.keep _ _ _ st5 λb hb o e=>(I7.pin (b,o) (qr _ (qr _ (zlg hb e)))).1,λb hb=>?_,w7⟩
   obtain⟨o,e,d⟩:=T.obj _ _ st5 b hb
   exact(I7.pin (b,o) (qr _ (qr _ (zlg hb e)))).2.1
  refine qE (xe (thn (ht _ s6 σ6 H6 _ I6 q6) λok s7 ⟨H7,I7,q7⟩=>?_))
  cases ok with
  | false=>
   rw[if_neg (by decide)]at q7
   exact qQ ⟨rfl,again I7 q7⟩
  | true=>
   rw[if_pos rfl]at q7
   refine qE (xe (thn (hm _ s7 σ6 H7 _ I7 q7) λ_ s8 ⟨σ8,H8,I8,q8⟩=>?_))
   exact qQ ⟨rfl,again I8 q8⟩
end
section
variable{X:Cx}{pins:List (Addr×Obj)}{σ:St}{H:Hp}{s:Shared}{scope:Scope}{N' own:List Str}{fr:List Nat}
theorem zabo{elt0 target iter:Expr}{ifs:List Expr}{rest:List Comprehension}{cpos:Pos}{g:TG}{tt:TT}{tm:Addr->TM}{emit:Value->Env->Sem Unit}{it:Addr}{fp:List Addr}{tn:Nat->Heap->Prop}{J:It}{Q:VK}{E:Value->Shared->Prop}{RR:Value->Addr->Result->Shared->Prop}
  (c:CompOk X scope N' own fr)(hc:X.calm=true)
  (eq:∀it acc env,compTurn (.ListComp elt0 (⟨target,iter,ifs,0⟩::rest) scope cpos) 0 it acc env=(do
   standAt iter.pos
   match <- pyNext it with
   | none=>pure (.done .next)
   | some v=>
    letOwnedTupleGo target it v
    assign target env v
    let mut ok:=true
    for c in ifs do
     if ok then ok <- isTrue c env (eval c env)
    if ok then emit acc env
    again (.compLoop (.ListComp elt0 (⟨target,iter,ifs,0⟩::rest) scope cpos) 0 it acc env)))
  (T:Turn X.prog X.w X.K target J fp it tn)
  (hb:∀(cl:List (Str×Addr)) (C:Addr) (s:Shared) (H:Hp) (fp:List Addr) (p:Addr),PG (cxComp X scope N' own cl C s H fp) target g/\PF (cxComp X scope N' own cl C s H fp) ifs tt/\PM (cxComp X scope N' own cl C s H fp) (emit (.ref p) (compEnvC scope cl C X.env)) (tm p))
  (I:Inv X pins σ H s)(st:tn 0 s.heap)(hf:∀b∈fp,FpOk X pins H b)
  (h:∀p,H p=none->zand J g tt (tm p) (tau own fr σ) (upd H p (.lst [])) (λ_ H'=>Q (.ref p) H'))
  (hRR:∀(p C:Addr) (m:Str->Option Value) (H':Hp) (s':Shared),Inv X pins σ H' s'->s'.heap.Ns C m->FpOk X pins H' C->Q (.ref p) H'->RR (.ref p) C (.ok .next) s') :
  wpAny (model X.prog X.w) X.A (newList []) (λacc s₃=>wpAny (model X.prog X.w) X.A (newFunctionEnv scope X.env.globals (clos X.env.cells scope.names []) [] X.env.qual none .none (some X.env)) (λcenv s₄=>
   codeAny (model X.prog X.w) X.A (.compStart (.ListComp elt0 (⟨target,iter,ifs,0⟩::rest) scope cpos) 0 (.ref it) acc {cenv with scope:=relabel scope X.env}) (RR acc cenv.locals) s₄) E s₃) E s:=by
 refine qAu ?_
 have I3:Inv X pins σ (upd H s.heap.objs.size (.lst [])) {s with heap:=s.heap.push {cls:=.type "list",dict:=none,data:=.seq ([]:List Value).toArray}}:=I.lnew (t':=s.toks) .nil (qAr _)
 have hn0:H s.heap.objs.size=none:=I.hok.fresh (qM _)
 generalize e3:({s with heap:=s.heap.push {cls:=.type "list",dict:=none,data:=.seq ([]:List Value).toArray}}:Shared)=s3 at I3 ⊢
 have k3:∀b o,s.heap.get? b=some o->s3.heap.get? b=some o:=λb o e=>by rw[<- e3];exact qG _ e
 have hne:∀b∈fp,b≠s.heap.objs.size:=λb hb=>by
  obtain⟨o,e,_⟩:=T.obj _ _ st b hb
  exact qAG (qU e)
 have hf3:∀b∈fp,FpOk X pins (upd H s.heap.objs.size (.lst [])) b:=λb hb=>⟨by rw[zbc (hne b hb)];exact(hf b hb).1,(hf b hb).2⟩
 have st3:tn 0 s3.heap:=T.keep _ _ _ st λb _ o e=>k3 b o e
 refine zabn λh' keep ns cells apart=>?_
 have I4:=zain c I3 hf3 (T.obj _ _ st3) keep ns cells apart
 have st4:tn 0 h':=T.keep _ _ _ st3 λb _ o e=>keep b o e
 obtain⟨hg,ht,hm⟩:=hb (cellsFrom (s3.heap.objs.size+1) scope.names []++clos X.env.cells scope.names []) s3.heap.objs.size s3 (upd H s.heap.objs.size (.lst [])) fp s.heap.objs.size
 have hf4:∀b∈fp,FpOk (cxComp X scope N' own (cellsFrom (s3.heap.objs.size+1) scope.names []++clos X.env.cells scope.names []) s3.heap.objs.size s3 (upd H s.heap.objs.size (.lst [])) fp) [] (upd H s.heap.objs.size (.lst [])) b:=λb hb=>
  ⟨(hf3 b hb).1,(I4.ok.exf b hb).1,I4.ok.exfs b hb,.inl hb,(I4.ok.exf b hb).2,λp hp=>absurd (show p∈([]:List (Addr×Obj))from hp) (by simp)⟩
 have loop:codeAny (model X.prog X.w) X.A (.compLoop (.ListComp elt0 (⟨target,iter,ifs,0⟩::rest) scope cpos) 0 (.ref it) (.ref s.heap.objs.size) (compEnvC scope (cellsFrom (s3.heap.objs.size+1) scope.names []++clos X.env.cells scope.names []) s3.heap.objs.size X.env)) (RR (.ref s.heap.objs.size) s3.heap.objs.size) {s3 with heap:=h'}:=by
  refine qA6 (zyh (X:=cxComp X scope N' own (cellsFrom (s3.heap.objs.size+1) scope.names []++clos X.env.cells scope.names []) s3.heap.objs.size s3 (upd H s.heap.objs.size (.lst [])) fp) (pins:=[]) rfl hc (eq _ _ _) T hg ht hm I4 st4 hf4 (h _ hn0)) λr s5 hr=>?_
  obtain⟨rfl,σ5,H5,I5,q5⟩:=hr
  obtain⟨m,hn,_⟩:=id I5.loc
  have u5:Un (frs X.stack) fp (upd H s.heap.objs.size (.lst [])) H5 s3.heap s5.heap:=I5.base
  have hok5:HOk X.prog X.w H5 s5.heap:=I5.hok
  have os5:s5.os=s3.os:=I5.os
  have bare5:=I5.bare
  have free5:H5 s3.heap.objs.size=none:=I5.free
  have hn:s5.heap.Ns s3.heap.objs.size m:=hn
  clear I5
  obtain⟨hh,gg,dd,tk,os'⟩:=s5
  obtain rfl:os'=s3.os:=os5
  have I6:Inv X pins σ H5 {s3 with heap:=hh,gens:=gg,drawn:=dd,toks:=tk}:=I3.call (ch:=fp) u5 hok5 bare5 λb hb=>⟨(hf3 b hb).2.2.2.1,(hf3 b hb).2.1,(hf3 b hb).2.2.2.2.1,(hf3 b hb).2.2.2.2.2⟩
  exact hRR _ _ m H5 _ I6 hn (I3.fpOk (qM _) free5) q5
 exact codeAny_compStart_list loop (T.self _ 0 _ _ _ st4 loop)
noncomputable def zarp(wi:TI)(g:TG)(tt:TT)(tm:Addr->TM)(own:List Str)(fr:List Nat):TE:=λσ H Q=>wi σ H λJ H1=>∀p,H1 p=none->zand J g tt (tm p) (tau own fr σ) (upd H1 p (.lst [])) (λ_ H'=>Q (.ref p) H')
theorem zaio{elt0 target iter:Expr}{ifs:List Expr}{rest:List Comprehension}{cpos:Pos}{wi:TI}{g:TG}{tt:TT}{tm:Addr->TM}{emit:Value->Env->Sem Unit}(c:CompOk X scope N' own fr)(hc:X.calm=true)
  (eq:∀it acc env,compTurn (.ListComp elt0 (⟨target,iter,ifs,0⟩::rest) scope cpos) 0 it acc env=(do
   standAt iter.pos
   match <- pyNext it with
   | none=>pure (.done .next)
   | some v=>
    letOwnedTupleGo target it v
    assign target env v
    let mut ok:=true
    for c in ifs do
     if ok then ok <- isTrue c env (eval c env)
    if ok then emit acc env
    again (.compLoop (.ListComp elt0 (⟨target,iter,ifs,0⟩::rest) scope cpos) 0 it acc env)))
  (hi:PI X target iter wi)
  (hb:∀(cl:List (Str×Addr)) (C:Addr) (s:Shared) (H:Hp) (fp:List Addr) (p:Addr),PG (cxComp X scope N' own cl C s H fp) target g/\PF (cxComp X scope N' own cl C s H fp) ifs tt/\PM (cxComp X scope N' own cl C s H fp) (emit (.ref p) (compEnvC scope cl C X.env)) (tm p))
  (hs:∀x,foldedSetIterable iter X.env x=pure x:=by intro _;rfl) :
  PE X (.ListComp elt0 (⟨target,iter,ifs,0⟩::rest) scope cpos) (zarp wi g tt tm own fr):=by
 intro pins s σ H Q I h
 rw[eval_ListComp]
 refine wpAny_comprehension_free (use:=none) rfl hs (zsz (zrr c I.ok)) c.kind (λy hy e=>(c.names y hy).trans (by rw[e])) ?_
 refine thn (hi pins s σ H _ I h) λv s1 h1=>thn h1 λitv s2 h2=>?_
 obtain⟨it,fp,tn,J,H2,e,I2,T,st2,f2,q⟩:=h2
 subst e
 refine zabo (Q:=Q) c hc eq T hb I2 st2 f2 q λp C m H' s' I' hn hC q'=>?_
 exact⟨m,hn,λh' sb=>⟨.ref p,H',I'.turned (t':=s'.toks) (λb o hb e=>(sb.2 b hb).trans e) hC.1 hC.2.1 hC.2.2.2.1 hC.2.2.2.2.1 hC.2.2.2.2.2,rfl,q'⟩⟩
end
section
variable{X:Cx}
section
variable{scope:Scope}{N' own:List Str}{fr:List Nat}{elt target iter:Expr}{ifs:List Expr}{cpos:Pos}{wi:TI}{g:TG}{tt:TT}{te:TE}
noncomputable def tComp1(wi:TI)(g:TG)(tt:TT)(te:TE)(own:List Str)(fr:List Nat):TE:=zarp wi g tt (λp=>zaro p te) own fr
theorem zaip(c:CompOk X scope N' own fr)(hc:X.calm=true)(hi:PI X target iter wi)
  (hb:∀(cl:List (Str×Addr)) (C:Addr) (s:Shared) (H:Hp) (fp:List Addr),PG (cxComp X scope N' own cl C s H fp) target g/\PF (cxComp X scope N' own cl C s H fp) ifs tt/\PE (cxComp X scope N' own cl C s H fp) elt te)
  (hs:∀x,foldedSetIterable iter X.env x=pure x:=by intro _;rfl):PE X (.ListComp elt [⟨target,iter,ifs,0⟩] scope cpos) (tComp1 wi g tt te own fr):=
 zaio (emit:=λacc env=>do let _ <- call (.builtin "list.append") [acc,<- eval elt env]) c hc (λ_ _ _=>rfl) hi
  (λcl C s H fp p=>⟨(hb cl C s H fp).1,(hb cl C s H fp).2.1,zanc (hb cl C s H fp).2.2⟩) hs
end
noncomputable def zauh:R2:=λx y H Q=>∃z n,x=.str z/\y=.int n/\z.length<=1000/\-1000<=n/\n<=1000/\Q (.str (Txt.mul z n)) H
theorem zane:OpR X (binaryOp .Mult) zauh:=by
 intro pins s σ H x y v u Q I rx ry h
 obtain⟨z,n,rfl,rfl,h1,h2,h3,q⟩:=h
 obtain⟨t,rfl⟩:=rx
 obtain⟨t',rfl⟩:=ry
 exact SB.mul (mulOk_of 1000 1000 h1 (by omega) (by omega) (by decide) (by decide)) λt' k=>⟨.str (Txt.mul z n),H,I.tok _,⟨_,rfl⟩,q⟩
noncomputable def rSlS:V->Option Int->Option Int->Hp->VK->Prop:=λx lo hi H Q=>∃z,x=.str z/\z.length<=qe/\Q (.str (Txt.slice z lo hi)) H
theorem zarq:SlR X rSlS:=by
 intro pins s σ H x v vl vu lo hi sl Q I rx hs pl pu h
 obtain⟨z,rfl,hz,q⟩:=h
 obtain⟨t,rfl⟩:=rx
 refine⟨"str",_,F.slot_str_getitem.lookup,qB2 _ _ _,?_⟩
 have fin:∀t' k,EP X pins σ Q (.str (Txt.slice z lo hi) t') {s with toks:=k}:=λt' k=>⟨.str (Txt.slice z lo hi),H,I.tok _,⟨_,rfl⟩,q⟩
 have fz:(Txt.slice z lo hi).length<=qe:=qAD (Txt.slice_le z _ _) hz
 cases pl with
 | none=>cases pu with
  | none=>exact qBX (l:=none) (u:=none) (st:=none) hs rfl (qCE ⟨fz,fin⟩)
  | int j tj=>exact qBX (l:=none) (u:=some (j,tj)) (st:=none) hs rfl (qCE ⟨fz,fin⟩)
 | int i ti=>cases pu with
  | none=>exact qBX (l:=some (i,ti)) (u:=none) (st:=none) hs rfl (qCE ⟨fz,fin⟩)
  | int j tj=>exact qBX (l:=some (i,ti)) (u:=some (j,tj)) (st:=none) hs rfl (qCE ⟨fz,fin⟩)
theorem zaiq{id:String}(hid:id="isinstance"):CallR X (.builtin id) (λxs H Q=>∃x n t b,xs=[x,.ty n]/\TyOf X.K H x t/\PySem.W.kitOne X.K t (.type n)=some b/\Q (.bl b) H):=by
 subst hid
 intro pins s σ H xs us Q I r h
 obtain⟨x,n,t,b,rfl,ty,e,q⟩:=h
 obtain⟨u,w',rfl,rx,ry⟩:=zaii r
 cases ry
 exact zadg I rx ty e λtk=>⟨.bl b,H,I.tok _,rfl,q⟩
end
mutual
def Rep(K:qB)(H:Hp):PyData->V->Prop
 | .none,v=>v=.non
 | .bool b,v=>v=.bl b
 | .int i,v=>v=.int i
 | .str x,v=>v=.str x
 | .list ds,v=>∃a xs,v=.ref a/\SqL K H a xs/\Reps K H ds xs
 | .tuple ds,v=>∃a xs,v=.ref a/\SqT K H a xs/\Reps K H ds xs
 | .dict _,_=>False
def Reps(K:qB)(H:Hp):List PyData->List V->Prop
 | [],xs=>xs=[]
 | d::ds,xs=>∃v vs,xs=v::vs/\Rep K H d v/\Reps K H ds vs
end
mutual
theorem zfq{X:Cx}{pins:List (Addr×Obj)}{σ:St}{H:Hp}{s:Shared}(I:Inv X pins σ H s):∀(d:PyData){v:V}{u:Value},Rep X.K H d v->RelV v u->∃as,Reads s.heap u d as
 | .none,v,u,h,r=>by unfold Rep at h;subst h;cases r;exact⟨_,.none⟩
 | .bool b,v,u,h,r=>by unfold Rep at h;subst h;cases r;exact⟨_,.bool b⟩
 | .int i,v,u,h,r=>by unfold Rep at h;subst h;obtain⟨t,rfl⟩:=r;exact⟨_,.int i t⟩
 | .str x,v,u,h,r=>by unfold Rep at h;subst h;obtain⟨t,rfl⟩:=r;exact⟨_,.str x t⟩
 | .list ds,v,u,h,r=>by
  unfold Rep at h
  obtain⟨a,xs,rfl,hq,hr⟩:=h
  cases r
  obtain⟨its,rv,p,hz⟩:=I.list hq
  obtain⟨as,q⟩:=reps_reads I ds hr rv
  obtain⟨o,h1,h2,n,h3⟩:=p.isList
  exact⟨_,reads_list_at h1 h2 h3 (by simpa using q)⟩
 | .tuple ds,v,u,h,r=>by
  unfold Rep at h
  obtain⟨a,xs,rfl,hq,hr⟩:=h
  cases r
  obtain⟨its,rv,p,hz⟩:=I.tuple hq
  obtain⟨as,q⟩:=reps_reads I ds hr rv
  obtain⟨o,h1,h2,n,h3⟩:=p
  exact⟨_,reads_tuple_at h1 h2 h3 (by simpa using q)⟩
 | .dict _,_,_,h,_=>by unfold Rep at h;exact h.elim
theorem reps_reads{X:Cx}{pins:List (Addr×Obj)}{σ:St}{H:Hp}{s:Shared}(I:Inv X pins σ H s):∀(ds:List PyData){vs:List V}{us:List Value},Reps X.K H ds vs->Vals vs us->∃as,ReadsAll s.heap us ds as
 | [],vs,us,h,r=>by unfold Reps at h;subst h;cases r;exact⟨_,.nil⟩
 | d::ds,vs,us,h,r=>by
  unfold Reps at h
  obtain⟨v,vs',rfl,h1,h2⟩:=h
  cases r with
  | cons r rr=>
   obtain⟨as,q1⟩:=zfq I d h1 r
   obtain⟨bs,q2⟩:=reps_reads I ds h2 rr
   exact⟨_,.cons q1 q2⟩
end
theorem SqT.same{K:qB}{H H':Hp}{a:Addr}{xs:List V}(h:Same H H')(q:SqT K H a xs):SqT K H' a xs:=by
 rcases q with(q|⟨o,q⟩)|q
 ·exact .inl (.inl (h _ _ q))
 ·exact .inl (.inr ⟨o,h _ _ q⟩)
 ·exact .inr q
section
variable{X:Cx}
noncomputable def rEqD(K:qB)(neg:Bool):R2:=λx y H Q=>∃d e,Rep K H d x/\Rep K H e y/\qAM d=true/\qAM e=true/\Q (.bl (if neg then !PyData.eqv d e else qZ d e)) H
theorem zarr(hu:X.A.units+64<cLine):OpR X (compareOp .Eq) (rEqD X.K false):=by
 intro pins s σ H x y v u Q I rx ry h
 obtain⟨d,e,hd,he,sd,se,q⟩:=h
 obtain⟨as,r1⟩:=zfq I d hd rx
 obtain⟨bs,r2⟩:=zfq I e he ry
 exact eq_dataH r1 r2 sd se hu ⟨.bl (qZ d e),H,I,rfl,q⟩
theorem zars(hu:X.A.units+64<cLine):OpR X (compareOp .NotEq) (rEqD X.K true):=by
 intro pins s σ H x y v u Q I rx ry h
 obtain⟨d,e,hd,he,sd,se,q⟩:=h
 obtain⟨as,r1⟩:=zfq I d hd rx
 obtain⟨bs,r2⟩:=zfq I e he ry
 exact ne_dataH r1 r2 sd se hu ⟨.bl (!PyData.eqv d e),H,I,rfl,q⟩
theorem zadv{bs:List Bool}:∀{its:List Value},Vals (bs.map V.bl) its->its=bs.map Value.bool:=by
 induction bs with
 | nil=>intro its r;cases r;rfl
 | cons b bs ih=>
  intro its r
  cases r with
  | cons r rr=>cases r;rw[ih rr];rfl
theorem zadw(bs:List Bool):(List.range bs.length).any (λi=>bs.getD i false)=bs.any id:=by
 rw[qAU,qBb,qBb]
 constructor
 ·rintro⟨i,hi,h⟩
  have hi:=qAb.mp hi
  rw[qAB,qF hi]at h
  exact⟨_,qAq hi,h⟩
 ·rintro⟨b,hb,h⟩
  obtain⟨i,hi,e⟩:=qAl hb
  exact⟨i,qAb.mpr hi,by rw[qAB,qF hi,e];exact h⟩
theorem zadx(bs:List Bool):(List.range bs.length).all (λi=>bs.getD i false)=bs.all id:=by
 rw[qAU,qs,qs]
 constructor
 ·intro h b hb
  obtain⟨i,hi,e⟩:=qAl hb
  have q:=h i (qAb.mpr hi)
  rw[qAB,qF hi,e]at q
  exact q
 ·intro h i hi
  have hi:=qAb.mp hi
  have q:=h _ (qAq hi)
  rw[qAB,qF hi]
  exact q
noncomputable def rAny(K:qB)(f:List Bool->Bool):List V->Hp->VK->Prop:=λxs H Q=>∃p bs,xs=[.ref p]/\SqL K H p (bs.map V.bl)/\Q (.bl (f bs)) H
theorem zair(hc:X.calm=true):CallR X (.builtin "any") (rAny X.K λbs=>bs.any id):=by
 intro pins s σ H xs us Q I r h
 obtain⟨p,bs,rfl,hq,q⟩:=h
 obtain⟨u,rfl,ru⟩:=zyd r
 cases ru
 obtain⟨its,rv,pl,hz⟩:=I.list hq
 cases zadv rv
 have hne:p≠s.heap.objs.size:=by obtain⟨o,e,_⟩:=pl.isList;exact qAG (qU e)
 refine call_any_walk (qBc pl.isList ⟨s.heap.objs.size,_,_,_,_,_,λi=>bs.getD i false,rfl,Walks.list (A:=X.A.in1) (show X.A.in1.handled=none from I.ok.hd hc) _ p hne (bs.map Value.bool).toArray,⟨⟨_,qd _ rfl,rfl,rfl⟩,?_⟩,?_,?_⟩)
 ·obtain⟨o,e,z⟩:=pl.isList
  exact⟨o,qG _ e,z⟩
 ·intro i v s' Q' E' hv hQ
  have hv:(bs.map Value.bool)[i]?=some v:=by simpa using hv
  rw[qT]at hv
  cases e:bs[i]? with
  | none=>rw[e]at hv;cases hv
  | some b=>
   rw[e]at hv
   cases hv
   have z:bs.getD i false=b:=by rw[qAB,e];rfl
   have hQ:Q' (bs.getD i false) s':=hQ
   rw[z]at hQ
   exact qAR hQ
 ·intro h' tk hk
  refine⟨.bl (bs.any id),H,?_,by rw[<- zadw bs];simp;rfl,q⟩
  exact I.kept (t':=tk) λb o e=>hk b o (by have:=qU e;simp;exact qAG this) (qG _ e)
theorem zais(hc:X.calm=true):CallR X (.builtin "all") (rAny X.K λbs=>bs.all id):=by
 intro pins s σ H xs us Q I r h
 obtain⟨p,bs,rfl,hq,q⟩:=h
 obtain⟨u,rfl,ru⟩:=zyd r
 cases ru
 obtain⟨its,rv,pl,hz⟩:=I.list hq
 cases zadv rv
 have hne:p≠s.heap.objs.size:=by obtain⟨o,e,_⟩:=pl.isList;exact qAG (qU e)
 refine call_all_walk (qBc pl.isList ⟨s.heap.objs.size,_,_,_,_,_,λi=>bs.getD i false,rfl,Walks.list (A:=X.A.in1) (show X.A.in1.handled=none from I.ok.hd hc) _ p hne (bs.map Value.bool).toArray,⟨⟨_,qd _ rfl,rfl,rfl⟩,?_⟩,?_,?_⟩)
 ·obtain⟨o,e,z⟩:=pl.isList
  exact⟨o,qG _ e,z⟩
 ·intro i v s' Q' E' hv hQ
  have hv:(bs.map Value.bool)[i]?=some v:=by simpa using hv
  rw[qT]at hv
  cases e:bs[i]? with
  | none=>rw[e]at hv;cases hv
  | some b=>
   rw[e]at hv
   cases hv
   have z:bs.getD i false=b:=by rw[qAB,e];rfl
   have hQ:Q' (bs.getD i false) s':=hQ
   rw[z]at hQ
   exact qAR hQ
 ·intro h' tk hk
  refine⟨.bl (bs.all id),H,?_,by rw[<- zadx bs];simp;rfl,q⟩
  exact I.kept (t':=tk) λb o e=>hk b o (by have:=qU e;simp;exact qAG this) (qG _ e)
end
noncomputable def zady(o:Option NameKind):Bool:=o==some .cell||o==some .free
noncomputable def zadz(sc:Scope)(N:List Str)(scope:Scope)(N' own:List Str)(fr:List Nat):Bool:=
 (scope.kind==.function)&&(scope.names.all λy=>scope.names.lookup y.1==some y.2)&&(scope.names.all λy=>!(y.2==.free)||zady (sc.names.lookup y.1))&&
 (N'==own++fr.map λj=>N.getD j Str.empty)&&(fr.all λj=>decide (j<N.length)&&(scope.names.lookup (N.getD j Str.empty)==some .free))&&
 (own.all λx=>scope.names.lookup x==some .local||scope.names.lookup x==some .cell)
section
variable{X:Cx}
theorem zdk{scope:Scope}{N' own:List Str}{fr:List Nat}(h:zadz X.env.scope X.N scope N' own fr=true):CompOk X scope N' own fr:=by
 unfold zadz at h
 simp only[qb]at h
 obtain⟨⟨⟨⟨⟨h1,h2⟩,h3⟩,h4⟩,h5⟩,h6⟩:=h
 refine⟨eq_of_beq h1,λy hy=>eq_of_beq (qs.mp h2 y hy),λy hy e=>?_,eq_of_beq h4,λj hj=>?_,λx hx=>?_⟩
 ·have q:=qs.mp h3 y hy
  rw[e]at q
  have q:zady (X.env.scope.names.lookup y.1)=true:=by simpa using q
  unfold zady at q
  rcases qCB.mp q with z|z
  ·exact .inl (eq_of_beq z)
  ·exact .inr (eq_of_beq z)
 ·have q:=qs.mp h5 j hj
  rw[qb]at q
  exact⟨of_decide_eq_true q.1,eq_of_beq q.2⟩
 ·have q:=qs.mp h6 x hx
  rcases qCB.mp q with z|z
  ·exact .inl (eq_of_beq z)
  ·exact .inr (eq_of_beq z)
noncomputable def zait(K:qB):R2:=λx y H Q=>match x,y with
 | .int i,.int j=>Q (.int (i+j)) H
 | .str a,.str b=>a.length+b.length<=qe/\Q (.str (a++b)) H
 | .ref _,.ref _=>rCat x y H Q\/zarf K x y H Q
 | _,_=>False
theorem zaea:OpR X (binaryOp .Add) (zait X.K):=by
 intro pins s σ H x y v u Q I rx ry h
 cases x<;>cases y<;>first
  | exact h.elim
  | exact zaqw pins s σ H _ _ v u Q I rx ry ⟨_,_,rfl,rfl,h⟩
  | exact zabh pins s σ H _ _ v u Q I rx ry ⟨_,_,rfl,rfl,h.1,h.2⟩
  | exact(zarl.or zamx) pins s σ H _ _ v u Q I rx ry h
noncomputable def zart:R2:=λx y H Q=>match x,y with
 | .int i,.int j=>CMul i j/\Q (.int (i * j)) H
 | .str z,.int n=>z.length<=1000/\-1000<=n/\n<=1000/\Q (.str (Txt.mul z n)) H
 | _,_=>False
theorem zjo:OpR X (binaryOp .Mult) zart:=by
 intro pins s σ H x y v u Q I rx ry h
 cases x<;>cases y<;>first
  | exact h.elim
  | exact zaqy pins s σ H _ _ v u Q I rx ry ⟨_,_,rfl,rfl,h.1,h.2⟩
  | exact zane pins s σ H _ _ v u Q I rx ry ⟨_,_,rfl,rfl,h.1,h.2.1,h.2.2.1,h.2.2.2⟩
noncomputable def rIxU(K:qB):R2:=λx y H Q=>match x,y with
 | .str z,.int i=>z.length<=qe/\∃c,atI z.cps.toList i=some c/\Q (.str ⟨#[c]⟩) H
 | .ref p,.int i=>∃xs v,(SqL K H p xs\/SqT K H p xs)/\atI xs i=some v/\Q v H
 | _,_=>False
theorem ix_U:IxR X (rIxU X.K):=by
 intro value slice pins s σ H x y v u Q I rx ry h hs
 cases x<;>cases y<;>first
  | exact h.elim
  | (obtain⟨h1,c,h2,h3⟩:=h;exact zari value slice pins s σ H _ _ v u Q I rx ry ⟨_,_,c,rfl,rfl,h1,h2,h3⟩ hs)
  | (obtain⟨xs,w,h1,h2,h3⟩:=h
     rcases h1 with h1|h1
     ·exact zamy value slice pins s σ H _ _ v u Q I rx ry ⟨_,xs,_,w,rfl,rfl,h1,h2,h3⟩ hs
     ·exact zarh value slice pins s σ H _ _ v u Q I rx ry ⟨_,xs,_,w,rfl,rfl,h1,h2,h3⟩ hs)
noncomputable def rSlU(K:qB):V->Option Int->Option Int->Hp->VK->Prop:=λx lo hi H Q=>match x with
 | .str z=>z.length<=qe/\Q (.str (Txt.slice z lo hi)) H
 | .ref _=>rSlL K x lo hi H Q
 | _=>False
theorem sl_U:SlR X (rSlU X.K):=by
 intro pins s σ H x v vl vu lo hi sl Q I rx hs pl pu h
 cases x<;>first
  | exact h.elim
  | exact zarq pins s σ H _ v vl vu lo hi sl Q I rx hs pl pu ⟨_,rfl,h.1,h.2⟩
  | exact zamz pins s σ H _ v vl vu lo hi sl Q I rx hs pl pu h
noncomputable def Dn(P:Program)(w:World)(K:qB)(mg:Str->Option Value)(base:Heap)(x:Str)(ps:List Str)(k:Nat)(sp:Sp):Prop:=
 ∃f fd,FnOk P w K mg base CX0 k f fd ps sp/\mg x=some (.ref f)/\qX K (.ref f)=true/\zno K fd ps []
theorem zaui{x:Str}{p pos:Pos}{e:Expr}{es:List Expr}{t:TA}{ps:List Str}{k:Nat}{sp:Sp}(D:Dn X.prog X.w X.K X.mg X.base x ps k sp)(hr:Room k X.A)(hg:Gl X x)(ha:PA X (e::es) t)
  (hdb:(x==("__debug__":Str))=false:=by decide)(he:starEach (e::es) X.env=(false,eval e X.env)::starEach es X.env:=by rfl)(hpl:(backTo pos (starEach es X.env)).any (·.1)=false:=by rfl) :
  PE X (.Call (.Name x p) (e::es) [] pos) (tCall sp [] E0 t):=by
 obtain⟨f,fd,F,hm,hk,hb⟩:=D
 exact zamw F hr hg hm hk hb .nil zaug ha hdb he hpl
end
theorem Same.upd{H H':Hp}{p:Addr}{o:HO}(h:Same H H')(hp:H p=none):Same H (upd H' p o):=λb u e=>by rw[zbc (zcp e hp)];exact h b u e
theorem Same.new{H:Hp}{p:Addr}{o:HO}(hp:H p=none):Same H (L2.upd H p o):=(Same.refl H).upd hp
end L2
namespace Bc
open PySem L2
noncomputable abbrev Web:=List (Str×List Str)
noncomputable def nm(W:Web):List Str:=W.map (·.1)
structure WebOk(W:Web):Prop where
 nd:(nm W).Nodup
 el:∀i n es,W[i]?=some (n,es)->∀e∈es,e∈nm (W.take i)
 few:∀p∈W,p.2.length<=4
 len:W.length<=12
theorem zuz{W:Web}{i:Nat}{p:Str×List Str}(h:W[i]?=some p):nm (W.take (i+1))=nm (W.take i)++[p.1]:=by
 rw[List.take_add_one,h];unfold nm;simp
end Bc
namespace L2
open PySem PySem.Spec PyProof.Rows
section
variable{X:Cx}{K:qB}(hK:X.K=K)
include hK
theorem zanf{es:List Expr}{k:Nat}{t:TGs}{n:Nat}{pos:Pos}(hc:X.calm=true)(h:PGs X es t)
  (hn:(assignEach es X.env).length=n:=by rfl) (hst:(assignEach es X.env).findIdx? (·.1)=none:=by rfl):PG X (.Tuple es k pos) (gTup K n t):=by subst hK;exact zaqs hc h hn hst
theorem zcd:IxR X (rIxU K):=by subst hK;exact ix_U
theorem znp:SlR X (rSlU K):=by subst hK;exact sl_U
theorem zco:OpR X (binaryOp .Add) (zait K):=by subst hK;exact zaea
theorem zzw:OpR X (compareOp .In) (rIn K false):=by subst hK;exact zadp
theorem zbj:CallR X (.builtin "len") (λxs H Q=>∃x n,xs=[x]/\LenV K x H n/\Q (.int n) H):=by subst hK;exact zaij
theorem zaeb(hc:X.calm=true):CallR X (.builtin "any") (rAny K λbs=>bs.any id):=by subst hK;exact zair hc
theorem zmr(hc:X.calm=true):CallR X (.builtin "all") (rAny K λbs=>bs.all id):=by subst hK;exact zais hc
theorem zbk:CallR X (.builtin "isinstance") (λxs H Q=>∃x n t b,xs=[x,.ty n]/\TyOf K H x t/\PySem.W.kitOne K t (.type n)=some b/\Q (.bl b) H):=by subst hK;exact zaiq rfl
theorem ziy:CallR X (.type "list") (λxs H Q=>∃p ys,xs=[.ref p]/\(SqL K H p ys\/SqT K H p ys)/\∀l,H l=none->Q (.ref l) (upd H l (.lst ys))):=by subst hK;exact zuw
theorem zaiu{tg l:Expr}{tl:TE}(hl:PE X l tl):PI X tg l (zaqv K tl):=by subst hK;exact zamr hl
theorem zaec{T:String}{name:Str}{id:String}{r:V->List V->Hp->VK->Prop}{o e:Expr}{es:List Expr}{to:TE}{t:TA}{apos cpos:Pos}(pa:PlainAttrs T)(slot:Slot T name id)(hty:typeOf (.builtin id)=pure (.type "method_descriptor"))(hm:MtR X id r)(ho:PE X o to)(ha:PA X (e::es) t)
  (hbase:attributeBase o name X.env (eval o X.env)=eval o X.env:=by rfl)
  (hfew:((backTo cpos (starEach (e::es) X.env)).all (λx=>!x.1)&&(backToKw cpos (keywordEach [] X.env)).all (λx=>x.1.isSome)
   && decide ((e::es).length+([]:List Keyword).length+(if([]:List Keyword).isEmpty then 0 else 1)<30))=true:=by rfl)
  (hline:(apos.endLine==cpos.line)=true:=by rfl)(hs:starEach (e::es) X.env=(false,eval e X.env)::starEach es X.env:=by rfl)(hplain:(backTo cpos (starEach es X.env)).any (·.1)=false:=by rfl) :
  PE X (.Call (.Attribute o name apos) (e::es) [] cpos) (tBM K T r to t):=by subst hK;exact zaue pa slot hty hm ho ha hbase hfew hline hs hplain
end
noncomputable def keyD:PyData->Option Key
 | .int i=>some (Sum.inl i)
 | .str s=>some (Sum.inr s)
 | _=>none
mutual
def Rp(H:Hp):PyData->V->Prop
 | .none,v=>v=.non
 | .bool b,v=>v=.bl b
 | .int i,v=>v=.int i
 | .str x,v=>v=.str x
 | .list ds,v=>∃a xs,v=.ref a/\H a=some (.lst xs)/\Rps H ds xs
 | .tuple ds,v=>∃a xs,v=.ref a/\H a=some (.tup xs)/\Rps H ds xs
 | .dict kvs,v=>∃a ps,v=.ref a/\H a=some (.dK ps)/\Rpd H kvs ps
def Rps(H:Hp):List PyData->List V->Prop
 | [],xs=>xs=[]
 | d::ds,xs=>∃v vs,xs=v::vs/\Rp H d v/\Rps H ds vs
def Rpd(H:Hp):List (PyData×PyData)->List (Key×V)->Prop
 | [],ps=>ps=[]
 | (k,d)::r,ps=>∃k' v vs,ps=(k',v)::vs/\keyD k=some k'/\Rp H d v/\Rpd H r vs
end
mutual
theorem Rp.same{H H':Hp}(h:Same H H'):∀(d:PyData){v:V},Rp H d v->Rp H' d v
 | .none,v,q=>by unfold Rp at q ⊢;exact q
 | .bool b,v,q=>by unfold Rp at q ⊢;exact q
 | .int i,v,q=>by unfold Rp at q ⊢;exact q
 | .str x,v,q=>by unfold Rp at q ⊢;exact q
 | .list ds,v,q=>by
  unfold Rp at q ⊢
  obtain⟨a,xs,e,hq,hr⟩:=q
  exact⟨a,xs,e,h _ _ hq,Rps.same h ds hr⟩
 | .tuple ds,v,q=>by
  unfold Rp at q ⊢
  obtain⟨a,xs,e,hq,hr⟩:=q
  exact⟨a,xs,e,h _ _ hq,Rps.same h ds hr⟩
 | .dict kvs,v,q=>by
  unfold Rp at q ⊢
  obtain⟨a,xs,e,hq,hr⟩:=q
  exact⟨a,xs,e,h _ _ hq,Rpd.same h kvs hr⟩
theorem Rps.same{H H':Hp}(h:Same H H'):∀(ds:List PyData){vs:List V},Rps H ds vs->Rps H' ds vs
 | [],vs,q=>by unfold Rps at q ⊢;exact q
 | d::ds,vs,q=>by
  unfold Rps at q ⊢
  obtain⟨v,vs',e,h1,h2⟩:=q
  exact⟨v,vs',e,Rp.same h d h1,Rps.same h ds h2⟩
theorem Rpd.same{H H':Hp}(h:Same H H'):∀(ds:List (PyData×PyData)){vs:List (Key×V)},Rpd H ds vs->Rpd H' ds vs
 | [],vs,q=>by unfold Rpd at q ⊢;exact q
 | (k,d)::ds,vs,q=>by
  unfold Rpd at q ⊢
  obtain⟨k',v,vs',e,h0,h1,h2⟩:=q
  exact⟨k',v,vs',e,h0,Rp.same h d h1,Rpd.same h ds h2⟩
end
theorem zcb{H:Hp}:∀{ds:List PyData}{xs:List V},Rps H ds xs↔Paired (Rp H) ds xs
 | [],xs=>by
  constructor
  ·intro h;unfold Rps at h;subst h;exact .nil
  ·intro h;cases h;unfold Rps;rfl
 | d::ds,xs=>by
  constructor
  ·intro h
   unfold Rps at h
   obtain⟨v,vs,rfl,h1,h2⟩:=h
   exact .cons h1 (zcb.mp h2)
  ·intro h
   cases h with
   | cons h1 h2=>unfold Rps;exact⟨_,_,rfl,h1,zcb.mpr h2⟩
theorem Rps.length{H:Hp}{ds:List PyData}{xs:List V}(h:Rps H ds xs):ds.length=xs.length:=(zcb.mp h).length
theorem zeb{H:Hp}{ds:List PyData}{v:V}(h:Rp H (.list ds) v):∃a xs,v=.ref a/\H a=some (.lst xs)/\Rps H ds xs:=by unfold Rp at h;exact h
theorem zcv{H:Hp}{ds:List PyData}{v:V}(h:Rp H (.tuple ds) v):∃a xs,v=.ref a/\H a=some (.tup xs)/\Rps H ds xs:=by unfold Rp at h;exact h
theorem zoz{H:Hp}{ds:List (PyData×PyData)}{v:V}(h:Rp H (.dict ds) v):∃a xs,v=.ref a/\H a=some (.dK xs)/\Rpd H ds xs:=by unfold Rp at h;exact h
theorem zcw{H:Hp}{i:Int}{v:V}(h:Rp H (.int i) v):v=.int i:=by unfold Rp at h;exact h
theorem zge{H:Hp}{i:Str}{v:V}(h:Rp H (.str i) v):v=.str i:=by unfold Rp at h;exact h
theorem zis{H:Hp}{i:Bool}{v:V}(h:Rp H (.bool i) v):v=.bl i:=by unfold Rp at h;exact h
theorem zpa{H:Hp}{v:V}(h:Rp H .none v):v=.non:=by unfold Rp at h;exact h
theorem zad{H:Hp}{i:Int}:Rp H (.int i) (.int i):=by unfold Rp;rfl
theorem zcg{H:Hp}{i:Str}:Rp H (.str i) (.str i):=by unfold Rp;rfl
theorem zan{H:Hp}{i:Bool}:Rp H (.bool i) (.bl i):=by unfold Rp;rfl
theorem ziz{H:Hp}:Rp H .none .non:=by unfold Rp;rfl
theorem zja{H:Hp}{ds:List PyData}{a:Addr}{xs:List V}(h:H a=some (.lst xs))(r:Rps H ds xs):Rp H (.list ds) (.ref a):=by unfold Rp;exact⟨a,xs,rfl,h,r⟩
theorem zpb{H:Hp}{ds:List PyData}{a:Addr}{xs:List V}(h:H a=some (.tup xs))(r:Rps H ds xs):Rp H (.tuple ds) (.ref a):=by unfold Rp;exact⟨a,xs,rfl,h,r⟩
theorem zabp{H:Hp}{ds:List (PyData×PyData)}{a:Addr}{xs:List (Key×V)}(h:H a=some (.dK xs))(r:Rpd H ds xs):Rp H (.dict ds) (.ref a):=by unfold Rp;exact⟨a,xs,rfl,h,r⟩
theorem zet{H:Hp}:Rps H [] []:=by unfold Rps;rfl
theorem zfd{H:Hp}{d:PyData}{ds:List PyData}{v:V}{vs:List V}(h:Rp H d v)(r:Rps H ds vs):Rps H (d::ds) (v::vs):=by
 show Rps H (d::ds) _
 unfold Rps;exact⟨v,vs,rfl,h,r⟩
theorem Rps.append{H:Hp}{ds es:List PyData}{vs ws:List V}(h:Rps H ds vs)(r:Rps H es ws):Rps H (ds++es) (vs++ws):=by
 replace h:=zcb.mp h
 refine zcb.mpr ?_
 induction h with
 | nil=>exact zcb.mp r
 | cons h _ ih=>exact .cons h ih
theorem Rps.get{H:Hp}{ds:List PyData}{vs:List V}(h:Rps H ds vs){i:Nat}{v:V}(e:vs[i]?=some v):∃d,ds[i]?=some d/\Rp H d v:=by
 replace h:=zcb.mp h
 induction h generalizing i with
 | nil=>simp at e
 | cons h _ ih=>
  cases i with
  | zero=>simp at e;subst e;exact⟨_,rfl,h⟩
  | succ i=>simpa using ih (by simpa using e)
theorem Rps.get2{H:Hp}{ds:List PyData}{vs:List V}(h:Rps H ds vs){i:Nat}{d:PyData}(e:ds[i]?=some d):∃v,vs[i]?=some v/\Rp H d v:=by
 replace h:=zcb.mp h
 induction h generalizing i with
 | nil=>simp at e
 | cons h _ ih=>
  cases i with
  | zero=>simp at e;subst e;exact⟨_,rfl,h⟩
  | succ i=>simpa using ih (by simpa using e)
open Classical in
noncomputable def Offs(A:Addr->Prop)(H:Hp):Hp:=λb=>if A b then none else H b
theorem Offs.get{A:Addr->Prop}{H:Hp}{b:Addr}(h:¬A b):Offs A H b=H b:=if_neg h
theorem Offs.out{A:Addr->Prop}{H:Hp}{b:Addr}(h:A b):Offs A H b=none:=if_pos h
theorem Offs.of{A:Addr->Prop}{H:Hp}{b:Addr}{o:HO}(h:Offs A H b=some o):¬A b/\H b=some o:=by
 by_cases hb:A b
 ·rw[Offs.out hb]at h;cases h
 ·rw[Offs.get hb]at h;exact⟨hb,h⟩
theorem Offs.mono{A B:Addr->Prop}{H H':Hp}(s:Same H H')(h:∀b o,H b=some o->¬A b->¬B b):Same (Offs A H) (Offs B H'):=λb o e=>by
 obtain⟨h1,h2⟩:=Offs.of e
 rw[Offs.get (h b o h2 h1)]
 exact s b o h2
theorem Offs.same(A:Addr->Prop)(H:Hp):Same (Offs A H) H:=λb o e=>(Offs.of e).2
theorem Offs.sub{A B:Addr->Prop}{H:Hp}(h:∀b,B b->A b):Same (Offs A H) (Offs B H):=Offs.mono (Same.refl _) λb _ _ n z=>n (h b z)
theorem Offs.grow{A:Addr->Prop}{H H':Hp}(s:Same H H'):Same (Offs A H) (Offs A H'):=Offs.mono s λ_ _ _ z=>z
theorem Offs.upd{A:Addr->Prop}{H:Hp}{a:Addr}{o:HO}(h:A a):Offs A (upd H a o)=Offs A H:=by
 funext b
 by_cases hb:A b
 ·rw[Offs.out hb,Offs.out hb]
 ·rw[Offs.get hb,Offs.get hb,zbc (λe=>hb (by rw[e];exact h))]
inductive Sl where
 | no
  | pl (d:PyData)
  | ac (d:PyData)
noncomputable abbrev DEnv:=List Sl
noncomputable def own(env:DEnv)(σ:St)(a:Addr):Prop:=∃(i:Nat)(d:PyData),env[i]?=some (.ac d)/\σ[i]?=some (some (.ref a))
noncomputable def zjb(Ho H:Hp)(a:Addr):PyData->Prop
 | .list ds=>∃xs,H a=some (.lst xs)/\Rps Ho ds xs
 | .dict kvs=>∃ps,H a=some (.dK ps)/\Rpd Ho kvs ps
 | _=>False
theorem zjb.rp{Ho H H':Hp}{a:Addr}{d:PyData}(h:zjb Ho H a d)(s:Same Ho H')(e:∀o,H a=some o->H' a=some o):Rp H' d (.ref a):=by
 cases d with
 | list ds=>
  obtain⟨xs,h1,h2⟩:=h
  exact zja (e _ h1) (Rps.same s _ h2)
 | dict ds=>
  obtain⟨xs,h1,h2⟩:=h
  exact zabp (e _ h1) (Rpd.same s _ h2)
 | _=>exact h.elim
theorem zjb.same{Ho H Ho' H':Hp}{a:Addr}{d:PyData}(h:zjb Ho H a d)(s:Same Ho Ho')(e:∀o,H a=some o->H' a=some o):zjb Ho' H' a d:=by
 cases d with
 | list ds=>
  obtain⟨xs,h1,h2⟩:=h
  exact⟨xs,e _ h1,Rps.same s _ h2⟩
 | dict ds=>
  obtain⟨xs,h1,h2⟩:=h
  exact⟨xs,e _ h1,Rpd.same s _ h2⟩
 | _=>exact h.elim
theorem zjb.ex{Ho H:Hp}{a:Addr}{d:PyData}(h:zjb Ho H a d):∃o,H a=some o:=by
 cases d with
 | list ds=>obtain⟨xs,h1,h2⟩:=h;exact⟨_,h1⟩
 | dict ds=>obtain⟨xs,h1,h2⟩:=h;exact⟨_,h1⟩
 | _=>exact h.elim
structure EnvOk(fx:Addr->Prop)(H0:Hp)(env:DEnv)(σ:St)(H:Hp):Prop where
 len:env.length=σ.length
 pl:∀(i:Nat)(d:PyData),env[i]?=some (.pl d)->∃v,σ[i]?=some (some v)/\Rp (Offs (λa=>fx a\/own env σ a) H) d v
 ac:∀(i:Nat)(d:PyData),env[i]?=some (.ac d)->∃a,σ[i]?=some (some (.ref a))/\H0 a=none/\¬fx a/\zjb (Offs (λa=>fx a\/own env σ a) H) H a d
 inj:∀(i j:Nat)(d e:PyData)(a:Addr),env[i]?=some (.ac d)->env[j]?=some (.ac e)->σ[i]?=some (some (.ref a))->σ[j]?=some (some (.ref a))->i=j
 base:Same H0 H
 fxs:∀b,fx b->∃o,H b=some o
theorem EnvOk.grow{fx fx':Addr->Prop}{H0:Hp}{env:DEnv}{σ:St}{H H':Hp}(h:EnvOk fx H0 env σ H)(s:Same H H')(f:∀b o,H b=some o->¬fx b->¬fx' b)(g:∀b,fx' b->∃o,H' b=some o):EnvOk fx' H0 env σ H':=by
 have so:Same (Offs (λa=>fx a\/own env σ a) H) (Offs (λa=>fx' a\/own env σ a) H'):=Offs.mono s λb o e n=>λz=>z.elim (f b o e λy=>n (.inl y)) λy=>n (.inr y)
 refine⟨h.len,λi d e=>?_,λi d e=>?_,h.inj,h.base.trans s,g⟩
 ·obtain⟨v,h1,h2⟩:=h.pl i d e
  exact⟨v,h1,Rp.same so d h2⟩
 ·obtain⟨a,h1,h2,h3,h4⟩:=h.ac i d e
  obtain⟨o,ho⟩:=h4.ex
  exact⟨a,h1,h2,f a o ho h3,h4.same so λo=>s a o⟩
theorem EnvOk.up{fx:Addr->Prop}{H0:Hp}{env:DEnv}{σ:St}{H H':Hp}(h:EnvOk fx H0 env σ H)(s:Same H H'):EnvOk fx H0 env σ H':=
 h.grow s (λ_ _ _ z=>z) λb z=>let⟨o,e⟩:=h.fxs b z;⟨o,s b o e⟩
structure Val where
 d:PyData
 fr:Bool
 bs:List Nat
noncomputable def lim(fx:Addr->Prop)(env:DEnv)(σ:St)(bs:List Nat)(a:Addr):Prop:=fx a\/∃(i:Nat)(d:PyData),i∉bs/\env[i]?=some (.ac d)/\σ[i]?=some (some (.ref a))
structure ValOk(A:Addr->Prop)(H H':Hp)(r:Val)(v:V):Prop where
 rp:Rp (Offs A H') r.d v
 fr:r.fr=true->∃a,v=.ref a/\H a=none/\zjb (Offs (λb=>A b\/b=a) H') H' a r.d
theorem zjp{fx:Addr->Prop}{env:DEnv}{σ:St}{bs cs:List Nat}(h:∀i∈bs,i∈cs):∀a,lim fx env σ cs a->lim fx env σ bs a:=by
 rintro a (z|⟨i,d,h1,h2,h3⟩)
 ·exact .inl z
 ·exact .inr ⟨i,d,λq=>h1 (h i q),h2,h3⟩
theorem zpc{fx:Addr->Prop}{env:DEnv}{σ:St}{bs:List Nat}:∀a,lim fx env σ bs a->fx a\/own env σ a:=by
 rintro a (z|⟨i,d,h1,h2,h3⟩)
 ·exact .inl z
 ·exact .inr ⟨i,d,h2,h3⟩
theorem zmg{fx:Addr->Prop}{env:DEnv}{σ:St}:∀a,fx a\/own env σ a->lim fx env σ [] a:=by
 rintro a (z|⟨i,d,h2,h3⟩)
 ·exact .inl z
 ·exact .inr ⟨i,d,by simp,h2,h3⟩
theorem EnvOk.lims{fx:Addr->Prop}{H0:Hp}{env:DEnv}{σ:St}{H:Hp}(h:EnvOk fx H0 env σ H)(bs:List Nat):∀b,lim fx env σ bs b->∃o,H b=some o:=by
 rintro b (z|⟨i,d,h1,h2,h3⟩)
 ·exact h.fxs b z
 ·obtain⟨a,g1,g2,g3,g4⟩:=h.ac i d h2
  rw[h3]at g1
  cases g1
  exact g4.ex
theorem ValOk.later{A B:Addr->Prop}{H0 H H' H'':Hp}{r:Val}{v:V}(h:ValOk A H H' r v)(s0:Same H0 H)(s:Same H' H'')(hB:∀b,B b->A b):ValOk B H0 H'' r v:=by
 refine⟨Rp.same (Offs.mono s λb _ _ n z=>n (hB b z)) _ h.rp,λe=>?_⟩
 obtain⟨a,h1,h2,h3⟩:=h.fr e
 exact⟨a,h1,s0.free h2,h3.same (Offs.mono s λb _ _ n z=>n (z.elim (λy=>.inl (hB b y)) .inr)) λo=>s a o⟩
noncomputable def zex:PyData->Bool
 | .list _=>false
 | .tuple _=>false
 | .dict _=>false
 | _=>true
theorem zkj{H H':Hp}{d:PyData}{v:V}(f:zex d=true)(h:Rp H d v):Rp H' d v:=by
 cases d<;>first
  | (unfold Rp at h ⊢;exact h)
  | cases f
noncomputable def bsOf(d:PyData)(bs:List Nat):List Nat:=if zex d=true then[]else bs
theorem zta{fx:Addr->Prop}{env:DEnv}{σ:St}{bs:List Nat}{H:Hp}{d:PyData}{v:V}(h:Rp (Offs (lim fx env σ bs) H) d v):Rp (Offs (lim fx env σ (bsOf d bs)) H) d v:=by
 unfold bsOf
 split
 ·rename_i e;exact zkj e h
 ·exact h
noncomputable abbrev EF:=DEnv->Option Val
noncomputable def SE(te:TE)(f:EF):Prop:=∀(fx:Addr->Prop)(H0:Hp)(env:DEnv)(σ:St)(H:Hp),EnvOk fx H0 env σ H->∀r,f env=some r->∀Q:VK,(∀v H',Same H H'->ValOk (lim fx env σ r.bs) H H' r v->Q v H')->te σ H Q
noncomputable abbrev TF:=DEnv->Option Bool
noncomputable def ST(tt:TT)(f:TF):Prop:=∀(fx:Addr->Prop)(H0:Hp)(env:DEnv)(σ:St)(H:Hp),EnvOk fx H0 env σ H->∀b,f env=some b->∀Q:Bool->Hp->Prop,(∀H',Same H H'->Q b H')->tt σ H Q
noncomputable abbrev AF:=DEnv->Option (List Val)
noncomputable def SA(ta:TA)(f:AF):Prop:=∀(fx:Addr->Prop)(H0:Hp)(env:DEnv)(σ:St)(H:Hp),EnvOk fx H0 env σ H->∀rs,f env=some rs->∀Q:List V->Hp->Prop,
 (∀vs H',Same H H'->Paired (λr v=>ValOk (lim fx env σ r.bs) H H' r v) rs vs->Q vs H')->ta σ H Q
section
variable{X:Cx}
noncomputable def eVar(i:Nat):EF:=λenv=>match env[i]? with
 | some (.pl d)=>some ⟨d,false,[]⟩
 | some (.ac d)=>some ⟨d,false,[i]⟩
 | _=>none
theorem zaa(i:Nat):SE (tVar i) (eVar i):=by
 intro fx H0 env σ H h r hr Q q
 unfold eVar at hr
 cases e:env[i]? with
 | none=>rw[e]at hr;cases hr
 | some sl=>
  rw[e]at hr
  cases sl with
  | no=>cases hr
  | pl d=>
   cases hr
   obtain⟨v,h1,h2⟩:=h.pl i d e
   exact⟨v,h1,q v H (Same.refl _) ⟨Rp.same (Offs.sub zpc) _ h2,λz=>by cases z⟩⟩
  | ac d=>
   cases hr
   obtain⟨a,h1,h2,h3,h4⟩:=h.ac i d e
   have hna:¬lim fx env σ [i] a:=by
    rintro(z|⟨j,d',g1,g2,g3⟩)
    ·exact h3 z
    ·exact g1 (q9.mpr (h.inj j i d' d a g2 e g3 h1))
   exact⟨_,h1,q _ H (Same.refl _) ⟨h4.rp (Offs.sub zpc) λo z=>by rw[Offs.get hna];exact z,λz=>by cases z⟩⟩
noncomputable def eC(d:PyData):EF:=λ_=>some ⟨d,false,[]⟩
theorem se_c{d:PyData}{v:V}(h:∀H,Rp H d v):SE (tC v) (eC d):=by
 intro fx H0 env σ H _ r hr Q q
 cases hr
 exact q v H (Same.refl _) ⟨h _,λz=>by cases z⟩
noncomputable abbrev OF:=PyData->PyData->Option (PyData×Bool)
noncomputable def SO(r:R2)(f:OF):Prop:=∀(A:Addr->Prop)(H:Hp)(x y:V)(dx dy:PyData),(∀b,A b->∃o,H b=some o)->Rp (Offs A H) dx x->Rp (Offs A H) dy y->∀d fr,f dx dy=some (d,fr)->∀Q:VK,
 (∀v H',Same H H'->Rp (Offs A H') d v->(fr=true->∃a,v=.ref a/\H a=none/\zjb (Offs (λb=>A b\/b=a) H') H' a d)->Q v H')->r x y H Q
noncomputable def eOp(f:OF)(a b:EF):EF:=λenv=>(a env).bind λx=>(b env).bind λy=>(f x.d y.d).bind λz=>some ⟨z.1,z.2,bsOf z.1 (x.bs++y.bs)⟩
theorem zay{r:R2}{f:OF}{ta tb:TE}{fa fb:EF}(ho:SO r f)(ha:SE ta fa)(hb:SE tb fb):SE (tOp r ta tb) (eOp f fa fb):=by
 intro fx H0 env σ H h rr hr Q q
 unfold eOp at hr
 obtain⟨x,ex,hr⟩:=qA.mp hr
 obtain⟨y,ey,hr⟩:=qA.mp hr
 obtain⟨⟨d,fr⟩,ez,hr⟩:=qA.mp hr
 cases hr
 refine ha fx H0 env σ H h x ex _ λv H1 s1 v1=>hb fx H0 env σ H1 (h.up s1) y ey _ λu H2 s2 v2=>?_
 have l1:∀b,lim fx env σ (x.bs++y.bs) b->lim fx env σ x.bs b:=zjp λi hi=>qAQ _ hi
 have l2:∀b,lim fx env σ (x.bs++y.bs) b->lim fx env σ y.bs b:=zjp λi hi=>qr _ hi
 refine ho (lim fx env σ (x.bs++y.bs)) H2 v u x.d y.d ((h.up (s1.trans s2)).lims _) (v1.later (Same.refl _) s2 l1).rp (v2.later (Same.refl _) (Same.refl _) l2).rp d fr ez _ λw H3 s3 rp fr3=>q w H3 ((s1.trans s2).trans s3) ⟨zta rp,λe=>?_⟩
 obtain⟨a,g1,g2,g3⟩:=fr3 e
 refine⟨a,g1,(s1.trans s2).free g2,?_⟩
 have nf:zex d=false:=by cases d<;>first|rfl|exact g3.elim
 show zjb (Offs (λb=>lim fx env σ (bsOf d (x.bs++y.bs)) b\/b=a) H3) H3 a d
 rw[show bsOf d (x.bs++y.bs)=x.bs++y.bs by unfold bsOf;rw[if_neg (by rw[nf];decide)]]
 exact g3
end
theorem zha{n:Nat}(h:n<=100000):n<=qe:=qAD h (by decide)
theorem znq{n:Nat}(h:n<100000):n<qe:=Nat.lt_trans h (by decide)
theorem zhz{A:Addr->Prop}{H:Hp}(hA:∀b,A b->∃o,H b=some o){p:Addr}(hp:H p=none):¬A p:=λz=>by
 obtain⟨o,e⟩:=hA p z
 rw[hp]at e;cases e
theorem zpd{A:Addr->Prop}{H:Hp}{p:Addr}{ds:List PyData}{xs:List V}(hp:H p=none)(r:Rps (Offs A H) ds xs):zjb (Offs (λb=>A b\/b=p) (upd H p (.lst xs))) (upd H p (.lst xs)) p (.list ds):=by
 refine⟨xs,zaw,Rps.same (Offs.mono (Same.new hp) λb o e n z=>?_) _ r⟩
 rcases z with z|z
 ·exact n z
 ·rw[z,hp]at e;cases e
theorem zva{A:Addr->Prop}{H:Hp}{p:Addr}{ds:List PyData}{xs:List V}(hp:H p=none)(hA:¬A p)(r:Rps (Offs A H) ds xs):Rp (Offs A (upd H p (.lst xs))) (.list ds) (.ref p):=
 zja (by rw[Offs.get hA];exact zaw) (Rps.same (Offs.grow (Same.new hp)) _ r)
theorem zpe{A:Addr->Prop}{H:Hp}{p:Addr}{ds:List PyData}{xs:List V}(hp:H p=none)(hA:¬A p)(r:Rps (Offs A H) ds xs):Rp (Offs A (upd H p (.tup xs))) (.tuple ds) (.ref p):=
 zpb (by rw[Offs.get hA];exact zaw) (Rps.same (Offs.grow (Same.new hp)) _ r)
theorem zef{A:Addr->Prop}{H:Hp}{a:Addr}{o:HO}(h:Offs A H a=some o):H a=some o:=(Offs.of h).2
noncomputable def addD:OF
 | .int i,.int j=>some (.int (i+j),false)
 | .str a,.str b=>if a.length+b.length<=100000 then some (.str (a++b),false)else none
 | .list a,.list b=>if a.length+b.length<=100000 then some (.list (a++b),true)else none
 | .tuple a,.tuple b=>if a.isEmpty=false/\a.length+b.length<=100000 then some (.tuple (a++b),false)else none
 | _,_=>none
theorem zhg{K:qB}:SO (zait K) addD:=by
 intro A H x y dx dy hA rx ry d fr e Q q
 unfold addD at e
 split at e
 ·cases e
  cases zcw rx;cases zcw ry
  exact q _ H (Same.refl _) zad (λz=>by cases z)
 ·split at e
  ·rename_i hl
   cases e
   cases zge rx;cases zge ry
   exact⟨zha hl,q _ H (Same.refl _) zcg (λz=>by cases z)⟩
  ·cases e
 ·split at e
  ·rename_i hl
   cases e
   obtain⟨p,xs,rfl,hp,r1⟩:=zeb rx
   obtain⟨p',ys,rfl,hp',r2⟩:=zeb ry
   refine .inl ⟨p,p',xs,ys,rfl,rfl,zef hp,zef hp',zha (by rw[<- r1.length,<- r2.length];exact hl),λb hb=>?_⟩
   exact q _ _ (Same.new hb) (zva hb (zhz hA hb) (r1.append r2)) λ_=>⟨b,rfl,hb,zpd hb (r1.append r2)⟩
  ·cases e
 ·split at e
  ·rename_i hl
   cases e
   obtain⟨p,xs,rfl,hp,r1⟩:=zcv rx
   obtain⟨p',ys,rfl,hp',r2⟩:=zcv ry
   refine .inr ⟨p,p',xs,ys,rfl,rfl,SqT.of (zef hp),SqT.of (zef hp'),λz=>?_,zha (by rw[<- r1.length,<- r2.length];exact hl.2),λz=>?_,λ_ b hb=>?_⟩
   ·have h1:=r1.length
    have h0:=hl.1
    rw[z]at h1
    rw[List.isEmpty_eq_false_iff]at h0
    exact h0 (qBN.mp h1)
   ·have h2:=r2.length
    rw[z]at h2
    have:=qBN.mp h2
    subst this
    rw[qv]at q
    exact q _ H (Same.refl _) rx (λz=>by cases z)
   ·exact q _ _ (Same.new hb) (zpe hb (zhz hA hb) (r1.append r2)) (λz=>by cases z)
  ·cases e
 ·cases e
noncomputable def intD(c:Int->Int->Bool)(f:Int->Int->PyData):OF
 | .int i,.int j=>if c i j=true then some (f i j,false)else none
 | _,_=>none
theorem zala{C:Int->Int->Prop}{g:Int->Int->V}{c:Int->Int->Bool}{f:Int->Int->PyData}(hc:∀i j,c i j=true->C i j)(hf:∀H i j,Rp H (f i j) (g i j)):SO (rI C g) (intD c f):=by
 intro A H x y dx dy hA rx ry d fr e Q q
 unfold intD at e
 split at e
 ·split at e
  ·rename_i h
   cases e
   cases zcw rx;cases zcw ry
   exact⟨_,_,rfl,rfl,hc _ _ h,q _ H (Same.refl _) (hf _ _ _) (λz=>by cases z)⟩
  ·cases e
 ·cases e
theorem ztb{g:Int->Int->V}{f:Int->Int->PyData}(hf:∀H i j,Rp H (f i j) (g i j)):SO (rI0 g) (intD (λ_ _=>true) f):=by
 intro A H x y dx dy hA rx ry d fr e Q q
 unfold intD at e
 split at e
 ·split at e
  ·cases e
   cases zcw rx;cases zcw ry
   exact⟨_,_,rfl,rfl,q _ H (Same.refl _) (hf _ _ _) (λz=>by cases z)⟩
  ·cases e
 ·cases e
noncomputable def subD:OF:=intD (λ_ _=>true) λi j=>.int (i - j)
theorem zaru:SO (rI0 λi j=>.int (i - j)) subD:=ztb λ_ _ _=>zad
noncomputable def leD:OF:=intD (λ_ _=>true) λi j=>.bool (decide (i<=j))
theorem zaed:SO (rI0 λi j=>.bl (decide (i<=j))) leD:=ztb λ_ _ _=>zan
noncomputable def gtD:OF:=intD (λ_ _=>true) λi j=>.bool (decide (j<i))
theorem zarv:SO (rI0 λi j=>.bl (decide (j<i))) gtD:=ztb λ_ _ _=>zan
noncomputable def geD:OF:=intD (λ_ _=>true) λi j=>.bool (decide (j<=i))
theorem zaee:SO (rI0 λi j=>.bl (decide (j<=i))) geD:=ztb λ_ _ _=>zan
noncomputable def modD:OF:=intD (λ_ j=>decide (0<j)) λi j=>.int (i % j)
theorem zeg:SO (rI (λ_ j=>0<j) λi j=>.int (i % j)) modD:=zala (λ_ _ h=>of_decide_eq_true h) λ_ _ _=>zad
noncomputable def zfg:OF:=intD (λ_ j=>decide (0<j/\j<1073741824)) λi j=>.int (i / j)
theorem zhb:SO (rI CDiv λi j=>.int (i / j)) zfg:=zala (λi j h=>(of_decide_eq_true h:0<j/\j<1073741824)) λ_ _ _=>zad
noncomputable def mulD:OF
 | .int i,.int j=>if(-(2 ^ 64)<i/\i<2 ^ 64)\/(-(2 ^ 64)<j/\j<2 ^ 64)then some (.int (i * j),false)else none
 | .str z,.int n=>if z.length<=1000/\-1000<=n/\n<=1000 then some (.str (Txt.mul z n),false)else none
 | _,_=>none
theorem zvb:SO zart mulD:=by
 intro A H x y dx dy hA rx ry d fr e Q q
 unfold mulD at e
 split at e
 ·split at e
  ·rename_i h
   cases e
   cases zcw rx;cases zcw ry
   exact⟨h,q _ H (Same.refl _) zad (λz=>by cases z)⟩
  ·cases e
 ·split at e
  ·rename_i h
   cases e
   cases zge rx;cases zcw ry
   exact⟨h.1,h.2.1,h.2.2,q _ H (Same.refl _) zcg (λz=>by cases z)⟩
  ·cases e
 ·cases e
mutual
theorem zpf{K:qB}{H:Hp}:∀{d:PyData}{v:V},d.canLay0=true->Rp H d v->Rep K H d v
 | .none,v,_,h=>by unfold Rp at h;unfold Rep;exact h
 | .bool b,v,_,h=>by unfold Rp at h;unfold Rep;exact h
 | .int i,v,_,h=>by unfold Rp at h;unfold Rep;exact h
 | .str x,v,_,h=>by unfold Rp at h;unfold Rep;exact h
 | .list ds,v,c,h=>by
  obtain⟨a,xs,e,h1,h2⟩:=zeb h
  unfold Rep
  exact⟨a,xs,e,SqL.of h1,rps_reps (by simpa [PyData.canLay0]using c) h2⟩
 | .tuple ds,v,c,h=>by
  obtain⟨a,xs,e,h1,h2⟩:=zcv h
  unfold Rep
  exact⟨a,xs,e,SqT.of h1,rps_reps (by simpa [PyData.canLay0]using c) h2⟩
 | .dict _,v,c,h=>by simp[PyData.canLay0]at c
theorem rps_reps{K:qB}{H:Hp}:∀{ds:List PyData}{vs:List V},qAd ds=true->Rps H ds vs->Reps K H ds vs
 | [],vs,_,h=>by unfold Rps at h;unfold Reps;exact h
 | d::ds,vs,c,h=>by
  unfold Rps at h
  obtain⟨v,ws,e,h1,h2⟩:=h
  have c:d.canLay0=true/\qAd ds=true:=by simpa [qAd]using c
  unfold Reps
  exact⟨v,ws,e,zpf c.1 h1,rps_reps c.2 h2⟩
end
noncomputable def zaiv:PyData->PyData->Bool
 | .none,.none=>true|.none,.int _=>true|.int _,.none=>true|.none,.bool _=>true|.bool _,.none=>true|.none,.str _=>true|.str _,.none=>true
 | .int _,.int _=>true|.bool _,.bool _=>true|.str _,.str _=>true
 | .int _,.str _=>true|.str _,.int _=>true|.bool _,.str _=>true|.str _,.bool _=>true
 | _,_=>false
noncomputable def eqOk(dx dy:PyData):Bool:=zaiv dx dy||(qAM dx&&qAM dy)
noncomputable def eqD:OF:=λdx dy=>if eqOk dx dy=true then some (.bool (qZ dx dy),false)else none
noncomputable def neD:OF:=λdx dy=>if eqOk dx dy=true then some (.bool (!PyData.eqv dx dy),false)else none
theorem zaef{H:Hp}{dx dy:PyData}{x y:V}(s:zaiv dx dy=true)(rx:Rp H dx x)(ry:Rp H dy y):scal x y=true/\decide (x=y)=qZ dx dy:=by
 cases dx<;>cases dy<;>first
  | (exact absurd (show false=true from s) qP)
  | (unfold Rp at rx ry;subst rx;subst ry;refine⟨rfl,?_⟩;first|rfl|exact zyb|exact zzq|exact zyc|simp[qZ])
theorem zri{K:qB}:SO (λx y H Q=>rEq x y H Q\/rEqD K false x y H Q) eqD:=by
 intro A H x y dx dy hA rx ry d fr e Q q
 unfold eqD at e
 split at e
 ·rename_i h
  cases e
  cases hs:zaiv dx dy with
  | true=>
   obtain⟨h1,h2⟩:=zaef hs rx ry
   exact .inl ⟨h1,by rw[h2];exact q _ H (Same.refl _) zan (λz=>by cases z)⟩
  | false=>
   unfold eqOk at h
   rw[hs,qCh,qb]at h
   have rx:=Rp.same (Offs.same A H) _ rx
   have ry:=Rp.same (Offs.same A H) _ ry
   exact .inr ⟨dx,dy,zpf (qAY h.1) rx,zpf (qAY h.2) ry,h.1,h.2,q _ H (Same.refl _) zan (λz=>by cases z)⟩
 ·cases e
theorem ztc{K:qB}:SO (λx y H Q=>rNe x y H Q\/rEqD K true x y H Q) neD:=by
 intro A H x y dx dy hA rx ry d fr e Q q
 unfold neD at e
 split at e
 ·rename_i h
  cases e
  cases hs:zaiv dx dy with
  | true=>
   obtain⟨h1,h2⟩:=zaef hs rx ry
   exact .inl ⟨h1,by rw[h2];exact q _ H (Same.refl _) zan (λz=>by cases z)⟩
  | false=>
   unfold eqOk at h
   rw[hs,qCh,qb]at h
   have rx:=Rp.same (Offs.same A H) _ rx
   have ry:=Rp.same (Offs.same A H) _ ry
   exact .inr ⟨dx,dy,zpf (qAY h.1) rx,zpf (qAY h.2) ry,h.1,h.2,q _ H (Same.refl _) zan (λz=>by cases z)⟩
 ·cases e
noncomputable def zhh(ds:List PyData):Bool:=ds.all zex
theorem zalb{H:Hp}{d:PyData}{v:V}(f:zex d=true)(h:Rp H d v):zkh v=true:=by
 cases d<;>first
  | (unfold Rp at h;subst h;rfl)
  | cases f
theorem zang{H:Hp}{ds:List PyData}{vs:List V}(f:zhh ds=true)(h:Rps H ds vs):vs.all zkh=true:=by
 replace h:=zcb.mp h
 induction h with
 | nil=>rfl
 | cons h _ ih=>
  unfold zhh at f
  rw[qBE,qb]at f
  rw[qBE,zalb f.1 h,ih f.2];rfl
theorem zanh{H:Hp}{d e:PyData}{v u:V}(f:zex d=true)(g:zex e=true)(h:Rp H d v)(k:Rp H e u):eqV v u=qZ d e:=by
 cases d<;>cases e<;>first
  | (unfold Rp at h k;subst h;subst k;rfl)
  | exact absurd (show false=true from f) qP
  | exact absurd (show false=true from g) qP
theorem zani{H:Hp}{d:PyData}{v:V}(f:zex d=true)(h:Rp H d v){ds:List PyData}{vs:List V}(g:zhh ds=true)(r:Rps H ds vs):inV v vs=ds.any λe=>qZ e d:=by
 replace r:=zcb.mp r
 unfold inV
 induction r with
 | nil=>rfl
 | cons r _ ih=>
  unfold zhh at g
  rw[qBE,qb]at g
  rw[qBD,qBD,zanh g.1 f r h,ih g.2]
noncomputable def zim:PyData->Option (List PyData)
 | .list ds=>some ds
 | .tuple ds=>some ds
 | _=>none
noncomputable def inD(neg:Bool):OF:=λd c=>match zim c with
 | some ds=>if zex d=true/\zhh ds=true then some (.bool (if neg then !(ds.any λe=>qZ e d)else ds.any λe=>qZ e d),false)else none
 | none=>none
theorem ztd{K:qB}{H:Hp}{c:PyData}{v:V}{ds:List PyData}(h:Rp H c v)(e:zim c=some ds):∃p xs,v=.ref p/\(SqL K H p xs\/SqT K H p xs)/\Rps H ds xs:=by
 cases c<;>first
  | cases e
  | skip
 ·obtain⟨a,xs,e,h1,h2⟩:=zeb h;exact⟨a,xs,e,.inl (SqL.of h1),h2⟩
 ·obtain⟨a,xs,e,h1,h2⟩:=zcv h;exact⟨a,xs,e,.inr (SqT.of h1),h2⟩
theorem zaiw{K:qB}{neg:Bool}:SO (rIn K neg) (inD neg):=by
 intro A H x y dx dy hA rx ry d fr e Q q
 unfold inD at e
 split at e
 ·rename_i ds hi
  split at e
  ·rename_i h
   cases e
   have rx:=Rp.same (Offs.same A H) _ rx
   obtain⟨p,xs,rfl,hq,r⟩:=ztd (K:=K) (Rp.same (Offs.same A H) _ ry) hi
   refine⟨p,xs,rfl,hq,zalb h.1 rx,zang h.2 r,?_⟩
   rw[zani h.1 rx h.2 r]
   refine q _ H (Same.refl _) ?_ (λz=>by cases z)
   cases neg<;>exact zan
  ·cases e
 ·cases e
noncomputable def ixD:OF
 | .str z,.int i=>if z.length<=100000 then(atI z.cps.toList i).map λc=>(.str ⟨#[c]⟩,false)else none
 | .list ds,.int i=>(atI ds i).map λd=>(d,false)
 | .tuple ds,.int i=>(atI ds i).map λd=>(d,false)
 | _,_=>none
theorem Rps.atI{H:Hp}{ds:List PyData}{vs:List V}(h:Rps H ds vs){i:Int}{d:PyData}(e:atI ds i=some d):∃v,L2.atI vs i=some v/\Rp H d v:=by
 unfold L2.atI at e ⊢
 rw[<- h.length]
 cases g:ixN ds.length i with
 | none=>rw[g]at e;cases e
 | some j=>
  rw[g]at e
  exact h.get2 e
theorem zanj{K:qB}:SO (rIxU K) ixD:=by
 intro A H x y dx dy hA rx ry d fr e Q q
 unfold ixD at e
 split at e
 ·split at e
  ·rename_i z i hl
   obtain⟨c,hc,e⟩:=qH.mp e
   cases e
   cases zge rx;cases zcw ry
   exact⟨zha hl,c,hc,q _ H (Same.refl _) zcg (λz=>by cases z)⟩
  ·cases e
 ·obtain⟨c,hc,e⟩:=qH.mp e
  cases e
  obtain⟨p,xs,rfl,hp,r⟩:=zeb rx
  cases zcw ry
  obtain⟨v,hv,rv⟩:=r.atI hc
  exact⟨xs,v,.inl (SqL.of (zef hp)),hv,q _ H (Same.refl _) rv (λz=>by cases z)⟩
 ·obtain⟨c,hc,e⟩:=qH.mp e
  cases e
  obtain⟨p,xs,rfl,hp,r⟩:=zcv rx
  cases zcw ry
  obtain⟨v,hv,rv⟩:=r.atI hc
  exact⟨xs,v,.inr (SqT.of (zef hp)),hv,q _ H (Same.refl _) rv (λz=>by cases z)⟩
 ·cases e
noncomputable def zank:List (PyData×PyData)->Key->Option PyData
 | [],_=>none
 | (k,d)::r,j=>if keyD k=some j then some d else zank r j
noncomputable def zauj(kvs:List (PyData×PyData))(k:PyData)(d:PyData):List (PyData×PyData):=
 if(kvs.any λkv=>decide (keyD kv.1=keyD k))=true then kvs.map (λkv=>if keyD kv.1=keyD k then(kv.1,d)else kv)else kvs++[(k,d)]
noncomputable def zanl(kvs more:List (PyData×PyData)):List (PyData×PyData):=more.foldl (λacc kv=>zauj acc kv.1 kv.2) kvs
theorem zabq{H:Hp}{k d:PyData}{r:List (PyData×PyData)}{ps:List (Key×V)}(h:Rpd H ((k,d)::r) ps):∃k' v vs,ps=(k',v)::vs/\keyD k=some k'/\Rp H d v/\Rpd H r vs:=by
 unfold Rpd at h;exact h
theorem Rpd.length{H:Hp}:∀{kvs:List (PyData×PyData)}{ps:List (Key×V)},Rpd H kvs ps->kvs.length=ps.length
 | [],ps,h=>by unfold Rpd at h;subst h;rfl
 | (k,d)::r,ps,h=>by
  obtain⟨k',v,vs,rfl,_,_,h3⟩:=zabq h
  rw[qAc,qAc,h3.length]
noncomputable def zbq(f:EF):TF:=λenv=>(f env).bind λr=>match r.d with|.bool b=>some b|_=>none
theorem st_b{te:TE}{f:EF}(h:SE te f):ST (tB te) (zbq f):=by
 intro fx H0 env σ H hE b hb Q q
 unfold zbq at hb
 obtain⟨⟨d,fr,bs⟩,e,hb⟩:=qA.mp hb
 cases d with
 | bool c=>
  have hb:some c=some b:=hb
  cases hb
  exact h fx H0 env σ H hE _ e _ λv H' s v1=>⟨_,zis v1.rp,q H' s⟩
 | _=>cases hb
theorem st_t{te:TE}{f:EF}(h:SE te f):ST (tTest te) (zbq f):=st_b h
noncomputable def truD:PyData->Option Bool
 | .none=>some false
 | .bool b=>some b
 | .int i=>some (i != 0)
 | .str x=>if x.length<=100000 then some ((x.length:Int) != 0)else none
 | .list ds=>some (!ds.isEmpty)
 | .tuple ds=>some (!ds.isEmpty)
 | .dict ds=>some (!ds.isEmpty)
noncomputable def tTru(f:EF):TF:=λenv=>(f env).bind λr=>truD r.d
theorem zmh{α β:Type}{xs:List α}{ys:List β}(h:xs.length=ys.length):xs.isEmpty=ys.isEmpty:=by
 cases xs<;>cases ys<;>simp at h<;>rfl
theorem zauk{K:qB}{H:Hp}{d:PyData}{v:V}{b:Bool}(h:Rp H d v)(e:truD d=some b):TruV K v H b:=by
 cases d with
 | none=>cases e;cases zpa h;rfl
 | bool c=>cases e;cases zis h;rfl
 | int i=>cases e;cases zcw h;rfl
 | str x=>
  have e:(if x.length<=100000 then some ((x.length:Int) != 0)else none)=some b:=e
  split at e
  ·rename_i hl;cases e;cases zge h;exact⟨zha hl,rfl⟩
  ·cases e
 | list ds=>cases e;obtain⟨a,xs,rfl,h1,h2⟩:=zeb h;exact .inl ⟨xs,SqL.of h1,by rw[zmh h2.length]⟩
 | tuple ds=>cases e;obtain⟨a,xs,rfl,h1,h2⟩:=zcv h;exact .inr (.inl ⟨xs,SqT.of h1,by rw[zmh h2.length]⟩)
 | dict ds=>cases e;obtain⟨a,xs,rfl,h1,h2⟩:=zoz h;exact .inr (.inr ⟨xs,h1,by rw[zmh h2.length]⟩)
theorem zbn{K:qB}{te:TE}{f:EF}(h:SE te f):ST (λσ H Q=>te σ H λx H1=>∃k,TruV K x H1 k/\Q k H1) (tTru f):=by
 intro fx H0 env σ H hE b hb Q q
 unfold tTru at hb
 obtain⟨r,e,hb⟩:=qA.mp hb
 exact h fx H0 env σ H hE _ e _ λv H' s v1=>⟨b,zauk (Rp.same (Offs.same _ _) _ v1.rp) hb,q H' s⟩
noncomputable def tOrF(f g:TF):TF:=λenv=>(f env).bind λb=>if b=true then some true else g env
noncomputable def zbg(f:TF):TF:=λenv=>(f env).map λb=>!b
theorem zeu{t u:TT}{f g:TF}(h:ST t f)(k:ST u g):ST (tOr t u) (tOrF f g):=by
 intro fx H0 env σ H hE b hb Q q
 unfold tOrF at hb
 obtain⟨c,e,hb⟩:=qA.mp hb
 refine h fx H0 env σ H hE c e _ λH' s=>?_
 cases c with
 | false=>exact iteF (k fx H0 env σ H' (hE.up s) b hb _ λH'' s'=>q H'' (s.trans s'))
 | true=>cases hb;exact iteT (q H' s)
theorem zbo{t:TT}{f:TF}(h:ST t f):ST (tNot t) (zbg f):=by
 intro fx H0 env σ H hE b hb Q q
 unfold zbg at hb
 obtain⟨c,e,rfl⟩:=qH.mp hb
 exact h fx H0 env σ H hE c e _ λH' s=>q H' s
noncomputable def asB:PyData->Option Bool|.bool b=>some b|_=>none
noncomputable def eAnd(a b:EF):EF:=λenv=>(a env).bind λx=>(asB x.d).bind λc=>if c=true then b env else some ⟨.bool false,false,[]⟩
noncomputable def eOr(a b:EF):EF:=λenv=>(a env).bind λx=>(asB x.d).bind λc=>if c=true then some ⟨.bool true,false,[]⟩else b env
noncomputable def eNot(a:EF):EF:=λenv=>(a env).bind λx=>(asB x.d).map λc=>⟨.bool (!c),false,[]⟩
theorem as_b{H:Hp}{d:PyData}{v:V}{c:Bool}(h:Rp H d v)(e:asB d=some c):v=.bl c:=by
 cases d<;>first
  | (cases e;exact zis h)
  | cases e
theorem zalc{ta tb:TE}{fa fb:EF}(ha:SE ta fa)(hb:SE tb fb):SE (tAndV ta tb) (eAnd fa fb):=by
 intro fx H0 env σ H h rr hr Q q
 unfold eAnd at hr
 obtain⟨x,ex,hr⟩:=qA.mp hr
 obtain⟨c,ec,hr⟩:=qA.mp hr
 refine ha fx H0 env σ H h _ ex _ λv H1 s1 v1=>⟨c,as_b v1.rp ec,?_⟩
 cases c with
 | true=>exact iteT (hb fx H0 env σ H1 (h.up s1) _ hr _ λu H2 s2 v2=>q u H2 (s1.trans s2) (v2.later s1 (Same.refl _) λ_ z=>z))
 | false=>cases hr;exact iteF (q _ H1 s1 ⟨zan,λz=>by cases z⟩)
theorem zaul{ta tb:TE}{fa fb:EF}(ha:SE ta fa)(hb:SE tb fb):SE (tOrV ta tb) (eOr fa fb):=by
 intro fx H0 env σ H h rr hr Q q
 unfold eOr at hr
 obtain⟨x,ex,hr⟩:=qA.mp hr
 obtain⟨c,ec,hr⟩:=qA.mp hr
 refine ha fx H0 env σ H h _ ex _ λv H1 s1 v1=>⟨c,as_b v1.rp ec,?_⟩
 cases c with
 | false=>exact iteF (hb fx H0 env σ H1 (h.up s1) _ hr _ λu H2 s2 v2=>q u H2 (s1.trans s2) (v2.later s1 (Same.refl _) λ_ z=>z))
 | true=>cases hr;exact iteT (q _ H1 s1 ⟨zan,λz=>by cases z⟩)
theorem zarw{ta:TE}{fa:EF}(ha:SE ta fa):SE (tNotV ta) (eNot fa):=by
 intro fx H0 env σ H h rr hr Q q
 unfold eNot at hr
 obtain⟨x,ex,hr⟩:=qA.mp hr
 obtain⟨c,ec,rfl⟩:=qH.mp hr
 exact ha fx H0 env σ H h _ ex _ λv H1 s1 v1=>⟨c,as_b v1.rp ec,q _ H1 s1 ⟨zan,λz=>by cases z⟩⟩
noncomputable def aNil:AF:=λ_=>some []
noncomputable def zac(a:EF)(r:AF):AF:=λenv=>(a env).bind λx=>(r env).map λxs=>x::xs
theorem zal:SA tNil aNil:=by
 intro fx H0 env σ H h rs hr Q q
 cases hr
 exact q [] H (Same.refl _) .nil
theorem zab{te:TE}{ta:TA}{f:EF}{g:AF}(h1:SE te f)(h2:SA ta g):SA (tCons te ta) (zac f g):=by
 intro fx H0 env σ H h rs hr Q q
 unfold zac at hr
 obtain⟨x,ex,hr⟩:=qA.mp hr
 obtain⟨xs,exs,rfl⟩:=qH.mp hr
 exact h1 fx H0 env σ H h x ex _ λv H1 s1 v1=>h2 fx H0 env σ H1 (h.up s1) xs exs _ λvs H2 s2 vs2=>q (v::vs) H2 (s1.trans s2)
  (.cons (v1.later (Same.refl _) s2 λ_ z=>z) (Paired.mapP vs2 λ_ _ z=>z.later s1 (Same.refl _) λ_ y=>y))
noncomputable def zia(rs:List Val):List PyData:=rs.map (·.d)
noncomputable def bss(rs:List Val):List Nat:=rs.flatMap (·.bs)
theorem zho{fx:Addr->Prop}{env:DEnv}{σ:St}{H H':Hp}:∀{rs:List Val}{vs:List V}{cs:List Nat},(∀i∈bss rs,i∈cs)->Paired (λr v=>ValOk (lim fx env σ r.bs) H H' r v) rs vs->Rps (Offs (lim fx env σ cs) H') (zia rs) vs
 | _,_,_,_,.nil=>zet
 | r::rs,v::vs,cs,hc,.cons h t=>zfd (Rp.same (Offs.sub (zjp λi hi=>hc i (qCO.mpr ⟨r,qk,hi⟩))) _ h.rp)
   (zho (λi hi=>hc i (by obtain⟨x,h1,h2⟩:=qCO.mp hi;exact qCO.mpr ⟨x,qK _ h1,h2⟩)) t)
noncomputable def eTup(f:AF):EF:=λenv=>(f env).bind λrs=>if rs.length<=100000 then some ⟨.tuple (zia rs),false,bss rs⟩else none
noncomputable def eLst(f:AF):EF:=λenv=>(f env).bind λrs=>if rs.length<=100000 then some ⟨.list (zia rs),true,bss rs⟩else none
theorem zib(rs:List Val):(zia rs).length=rs.length:=by unfold zia;rw[qD]
theorem zhi{ta:TA}{f:AF}(ha:SA ta f):SE (tTup ta) (eTup f):=by
 intro fx H0 env σ H h rr hr Q q
 unfold eTup at hr
 obtain⟨rs,er,hr⟩:=qA.mp hr
 split at hr
 ·rename_i hl
  cases hr
  refine ha fx H0 env σ H h rs er _ λvs H1 s1 v1=>?_
  have r:=zho (λi hi=>hi) v1
  have hA:=(h.up s1).lims (bss rs)
  refine⟨zha (by rw[<- r.length,zib];exact hl),λp hp=>q _ _ (s1.trans (Same.new hp)) ⟨zpe hp (zhz hA hp) r,λz=>by cases z⟩⟩
 ·cases hr
theorem zjw{ta:TA}{f:AF}(ha:SA ta f):SE (tLst ta) (eLst f):=by
 intro fx H0 env σ H h rr hr Q q
 unfold eLst at hr
 obtain⟨rs,er,hr⟩:=qA.mp hr
 split at hr
 ·rename_i hl
  cases hr
  refine ha fx H0 env σ H h rs er _ λvs H1 s1 v1=>?_
  have r:=zho (λi hi=>hi) v1
  have hA:=(h.up s1).lims (bss rs)
  refine⟨zha (by rw[<- r.length,zib];exact hl),λp hp=>q _ _ (s1.trans (Same.new hp)) ⟨zva hp (zhz hA hp) r,λ_=>⟨p,rfl,s1.free hp,zpd hp r⟩⟩⟩
 ·cases hr
noncomputable abbrev GF:=List PyData->Option (PyData×Bool)
noncomputable def SC(r:List V->Hp->VK->Prop)(g:GF):Prop:=∀(A:Addr->Prop)(H:Hp)(vs:List V)(ds:List PyData),(∀b,A b->∃o,H b=some o)->Rps (Offs A H) ds vs->∀d fr,g ds=some (d,fr)->∀Q:VK,
 (∀v H',Same H H'->Rp (Offs A H') d v->(fr=true->∃a,v=.ref a/\H a=none/\zjb (Offs (λb=>A b\/b=a) H') H' a d)->Q v H')->r vs H Q
noncomputable def eCB(g:GF)(f:AF):EF:=λenv=>(f env).bind λrs=>(g (zia rs)).bind λz=>some ⟨z.1,z.2,bsOf z.1 (bss rs)⟩
theorem zec{r:List V->Hp->VK->Prop}{g:GF}{ta:TA}{f:AF}(hc:SC r g)(ha:SA ta f):SE (tCB r ta) (eCB g f):=by
 intro fx H0 env σ H h rr hr Q q
 unfold eCB at hr
 obtain⟨rs,er,hr⟩:=qA.mp hr
 obtain⟨⟨d,fr⟩,ez,hr⟩:=qA.mp hr
 cases hr
 refine ha fx H0 env σ H h rs er _ λvs H1 s1 v1=>hc (lim fx env σ (bss rs)) H1 vs (zia rs) ((h.up s1).lims _) (zho (λi hi=>hi) v1) d fr ez _ λw H3 s3 rp fr3=>q w H3 (s1.trans s3) ⟨zta rp,λe=>?_⟩
 obtain⟨a,g1,g2,g3⟩:=fr3 e
 refine⟨a,g1,s1.free g2,?_⟩
 have nf:zex d=false:=by cases d<;>first|rfl|exact g3.elim
 show zjb (Offs (λb=>lim fx env σ (bsOf d (bss rs)) b\/b=a) H3) H3 a d
 rw[show bsOf d (bss rs)=bss rs by unfold bsOf;rw[if_neg (by rw[nf];decide)]]
 exact g3
theorem rps1{H:Hp}{d:PyData}{vs:List V}(h:Rps H [d] vs):∃v,vs=[v]/\Rp H d v:=by
 unfold Rps at h
 obtain⟨v,ws,rfl,h1,h2⟩:=h
 unfold Rps at h2
 subst h2
 exact⟨v,rfl,h1⟩
theorem rps2{H:Hp}{d e:PyData}{vs:List V}(h:Rps H [d,e] vs):∃v u,vs=[v,u]/\Rp H d v/\Rp H e u:=by
 unfold Rps at h
 obtain⟨v,ws,rfl,h1,h2⟩:=h
 obtain⟨u,rfl,h3⟩:=rps1 h2
 exact⟨v,u,rfl,h1,h3⟩
noncomputable def lenD:GF
 | [.str x]=>if x.length<=100000 then some (.int x.length,false)else none
 | [.list ds]=>some (.int ds.length,false)
 | [.tuple ds]=>some (.int ds.length,false)
 | _=>none
theorem zei{K:qB}:SC (λxs H Q=>∃x n,xs=[x]/\LenV K x H n/\Q (.int n) H) lenD:=by
 intro A H vs ds hA rv d fr e Q q
 unfold lenD at e
 split at e
 ·split at e
  ·rename_i hl
   cases e
   obtain⟨v,rfl,r⟩:=rps1 rv
   cases zge r
   exact⟨_,_,rfl,⟨zha hl,rfl⟩,q _ H (Same.refl _) zad (λz=>by cases z)⟩
  ·cases e
 ·cases e
  obtain⟨v,rfl,r⟩:=rps1 rv
  obtain⟨a,xs,rfl,h1,h2⟩:=zeb r
  exact⟨_,_,rfl,.inl ⟨xs,SqL.of (zef h1),rfl⟩,by rw[<- h2.length];exact q _ H (Same.refl _) zad (λz=>by cases z)⟩
 ·cases e
  obtain⟨v,rfl,r⟩:=rps1 rv
  obtain⟨a,xs,rfl,h1,h2⟩:=zcv r
  exact⟨_,_,rfl,.inr ⟨xs,SqT.of (zef h1),rfl⟩,by rw[<- h2.length];exact q _ H (Same.refl _) zad (λz=>by cases z)⟩
 ·cases e
noncomputable def minD:GF
 | [.int i,.int j]=>some (.int (if j<i then j else i),false)
 | _=>none
theorem zarx:SC (λxs H Q=>∃i j,xs=[.int i,.int j]/\Q (.int (if j<i then j else i)) H) minD:=by
 intro A H vs ds hA rv d fr e Q q
 unfold minD at e
 split at e
 ·cases e
  obtain⟨v,u,rfl,r1,r2⟩:=rps2 rv
  cases zcw r1;cases zcw r2
  exact⟨_,_,rfl,q _ H (Same.refl _) zad (λz=>by cases z)⟩
 ·cases e
noncomputable def zmi:GF
 | [c]=>(zim c).map λds=>(.list ds,true)
 | _=>none
theorem zpg{K:qB}:SC (λxs H Q=>∃p ys,xs=[.ref p]/\(SqL K H p ys\/SqT K H p ys)/\∀l,H l=none->Q (.ref l) (upd H l (.lst ys))) zmi:=by
 intro A H vs ds hA rv d fr e Q q
 unfold zmi at e
 split at e
 ·obtain⟨es,he,e⟩:=qH.mp e
  cases e
  obtain⟨v,rfl,r1⟩:=rps1 rv
  obtain⟨p,xs,rfl,hq,r⟩:=ztd (K:=K) r1 he
  refine⟨p,xs,rfl,hq.imp (Offs.same A H).seq (SqT.same (Offs.same A H)),λl hl=>?_⟩
  exact q _ _ (Same.new hl) (zva hl (zhz hA hl) r) λ_=>⟨l,rfl,hl,zpd hl r⟩
 ·cases e
noncomputable def zjx:GF
 | [c]=>(zim c).map λds=>(.tuple ds,false)
 | _=>none
theorem zte{K:qB}:SC (λxs H Q=>∃p ys,xs=[.ref p]/\((SqL K H p ys/\∀l,H l=none->Q (.ref l) (upd H l (.tup ys)))\/(SqT K H p ys/\Q (.ref p) H))) zjx:=by
 intro A H vs ds hA rv d fr e Q q
 unfold zjx at e
 split at e
 ·obtain⟨es,he,e⟩:=qH.mp e
  cases e
  obtain⟨v,rfl,r1⟩:=rps1 rv
  rename_i c
  cases c with
  | list ds=>
   cases he
   obtain⟨p,xs,rfl,h1,r⟩:=zeb r1
   exact⟨p,xs,rfl,.inl ⟨SqL.of (zef h1),λl hl=>q _ _ (Same.new hl) (zpe hl (zhz hA hl) r) (λz=>by cases z)⟩⟩
  | tuple ds=>
   cases he
   obtain⟨p,xs,rfl,h1,r⟩:=zcv r1
   exact⟨p,xs,rfl,.inr ⟨SqT.of (zef h1),q _ H (Same.refl _) r1 (λz=>by cases z)⟩⟩
  | _=>cases he
 ·cases e
noncomputable def zph:List PyData->Option (List Bool)
 | []=>some []
 | .bool b::r=>(zph r).map λbs=>b::bs
 | _=>none
theorem zvc{H:Hp}:∀{ds:List PyData}{vs:List V}{bs:List Bool},Rps H ds vs->zph ds=some bs->vs=bs.map V.bl
 | [],vs,bs,h,e=>by unfold Rps at h;cases e;exact h
 | d::ds,vs,bs,h,e=>by
  unfold Rps at h
  obtain⟨v,ws,rfl,h1,h2⟩:=h
  cases d with
  | bool b=>
   obtain⟨cs,ec,rfl⟩:=qH.mp e
   rw[zis h1,zvc h2 ec];rfl
  | _=>cases e
noncomputable def anyD(f:List Bool->Bool):GF
 | [.list ds]=>(zph ds).map λbs=>(.bool (f bs),false)
 | _=>none
theorem zvd{K:qB}{f:List Bool->Bool}:SC (rAny K f) (anyD f):=by
 intro A H vs ds hA rv d fr e Q q
 unfold anyD at e
 split at e
 ·obtain⟨bs,he,e⟩:=qH.mp e
  cases e
  obtain⟨v,rfl,r1⟩:=rps1 rv
  obtain⟨p,xs,rfl,h1,r⟩:=zeb r1
  cases zvc r he
  exact⟨p,bs,rfl,SqL.of (zef h1),q _ H (Same.refl _) zan (λz=>by cases z)⟩
 ·cases e
noncomputable def zlu:PyData->String
 | .none=>"NoneType"|.bool _=>"bool"|.int _=>"int"|.str _=>"str"|.list _=>"list"|.tuple _=>"tuple"|.dict _=>"dict"
theorem zary{K:qB}{H:Hp}{d:PyData}{v:V}(h:Rp H d v):TyOf K H v (.type (zlu d)):=by
 cases d with
 | list ds=>obtain⟨a,xs,rfl,h1,_⟩:=zeb h;exact .lst h1
 | tuple ds=>obtain⟨a,xs,rfl,h1,_⟩:=zcv h;exact .tup h1
 | dict ds=>obtain⟨a,xs,rfl,h1,_⟩:=zoz h;exact .dK h1
 | none=>cases zpa h;exact .non
 | bool b=>cases zis h;exact .bl _
 | int b=>cases zcw h;exact .int _
 | str b=>cases zge h;exact .str _
noncomputable def isiB(n:String)(d:PyData):Bool:=zlu d==n||(zlu d=="bool"&&n=="int")
noncomputable def eIsi(n:String)(a:EF):EF:=λenv=>(a env).map λx=>⟨.bool (isiB n x.d),false,[]⟩
theorem zey{K:qB}{n:String}{te:TE}{f:EF}(h1:SE te f)(hk:∀d,PySem.W.kitOne K (.type (zlu d)) (.type n)=some (isiB n d)) :
  SE (tCB (λxs H Q=>∃x n t b,xs=[x,.ty n]/\TyOf K H x t/\PySem.W.kitOne K t (.type n)=some b/\Q (.bl b) H) (tCons te (tCons (tC (.ty n)) tNil))) (eIsi n f):=by
 intro fx H0 env σ H h rr hr Q q
 unfold eIsi at hr
 obtain⟨x,ex,rfl⟩:=qH.mp hr
 refine h1 fx H0 env σ H h _ ex _ λv H1 s1 v1=>?_
 exact⟨v,n,_,_,rfl,zary (Rp.same (Offs.same _ _) _ v1.rp),hk _,q _ H1 s1 ⟨zan,λz=>by cases z⟩⟩
theorem zhp{K:qB}:∀d,PySem.W.kitOne K (.type (zlu d)) (.type "list")=some (isiB "list" d):=by intro d;cases d<;>rfl
theorem zgz{K:qB}:∀d,PySem.W.kitOne K (.type (zlu d)) (.type "tuple")=some (isiB "tuple" d):=by intro d;cases d<;>rfl
theorem zanm{K:qB}:∀d,PySem.W.kitOne K (.type (zlu d)) (.type "str")=some (isiB "str" d):=by intro d;cases d<;>rfl
theorem zann{K:qB}:∀d,PySem.W.kitOne K (.type (zlu d)) (.type "int")=some (isiB "int" d):=by intro d;cases d<;>rfl
theorem ztf{K:qB}:∀d,PySem.W.kitOne K (.type (zlu d)) (.type "bool")=some (isiB "bool" d):=by intro d;cases d<;>rfl
noncomputable abbrev PF':=DEnv->Option (Option Int)
noncomputable def SPt(t:TO)(f:PF'):Prop:=∀(fx:Addr->Prop)(H0:Hp)(env:DEnv)(σ:St)(H:Hp),EnvOk fx H0 env σ H->∀r,f env=some r->∀Q:Option Int->Hp->Prop,(∀H',Same H H'->Q r H')->t σ H Q
noncomputable def zds:PF':=λ_=>some none
noncomputable def zce(a:EF):PF':=λenv=>(a env).bind λx=>match x.d with|.int i=>some (some i)|_=>none
theorem zhc:SPt tNoPart zds:=by
 intro fx H0 env σ H h r hr Q q
 cases hr
 exact q H (Same.refl _)
theorem zev{te:TE}{f:EF}(h1:SE te f):SPt (tPart te) (zce f):=by
 intro fx H0 env σ H h r hr Q q
 unfold zce at hr
 obtain⟨⟨d,fr,bs⟩,ex,hr⟩:=qA.mp hr
 cases d with
 | int i=>
  cases hr
  exact h1 fx H0 env σ H h _ ex _ λv H1 s1 v1=>⟨i,zcw v1.rp,q H1 s1⟩
 | _=>cases hr
noncomputable def cutD(xs:List PyData)(lo hi:Option Int):List PyData:=(xs.drop (HT.sIx xs.length 0 lo)).take (HT.sIx xs.length xs.length hi - HT.sIx xs.length 0 lo)
theorem Rps.drop{H:Hp}{ds:List PyData}{vs:List V}(h:Rps H ds vs)(n:Nat):Rps H (ds.drop n) (vs.drop n):=by
 induction n generalizing ds vs with
 | zero=>exact h
 | succ n ih=>
  cases ds with
  | nil=>unfold Rps at h;subst h;exact zet
  | cons d ds=>unfold Rps at h;obtain⟨v,ws,rfl,h1,h2⟩:=h;exact ih h2
theorem Rps.take{H:Hp}{ds:List PyData}{vs:List V}(h:Rps H ds vs)(n:Nat):Rps H (ds.take n) (vs.take n):=by
 induction n generalizing ds vs with
 | zero=>exact zet
 | succ n ih=>
  cases ds with
  | nil=>unfold Rps at h;subst h;exact zet
  | cons d ds=>unfold Rps at h;obtain⟨v,ws,rfl,h1,h2⟩:=h;exact zfd h1 (ih h2)
theorem Rps.cut{H:Hp}{ds:List PyData}{vs:List V}(h:Rps H ds vs)(lo hi:Option Int):Rps H (cutD ds lo hi) (cutV vs lo hi):=by
 unfold cutD cutV
 rw[<- h.length]
 exact(h.drop _).take _
noncomputable def slD(d:PyData)(lo hi:Option Int):Option (PyData×Bool):=match d with
 | .str z=>if z.length<=100000 then some (.str (Txt.slice z lo hi),false)else none
 | .list ds=>some (.list (cutD ds lo hi),true)
 | _=>none
noncomputable def eSl(a:EF)(l h:PF'):EF:=λenv=>(a env).bind λx=>(l env).bind λlo=>(h env).bind λhi=>(slD x.d lo hi).bind λz=>some ⟨z.1,z.2,bsOf z.1 x.bs⟩
theorem zol{K:qB}{te:TE}{tl th:TO}{f:EF}{fl fh:PF'}(h1:SE te f)(h2:SPt tl fl)(h3:SPt th fh):SE (tSl (rSlU K) te tl th) (eSl f fl fh):=by
 intro fx H0 env σ H h rr hr Q q
 unfold eSl at hr
 obtain⟨⟨d,frd,bs⟩,ex,hr⟩:=qA.mp hr
 obtain⟨lo,el,hr⟩:=qA.mp hr
 obtain⟨hi,eh,hr⟩:=qA.mp hr
 obtain⟨⟨d',fr'⟩,ez,hr⟩:=qA.mp hr
 cases hr
 refine h1 fx H0 env σ H h _ ex _ λv H1 s1 v1=>h2 fx H0 env σ H1 (h.up s1) _ el _ λH2 s2=>h3 fx H0 env σ H2 (h.up (s1.trans s2)) _ eh _ λH3 s3=>?_
 have v3:=(v1.later (Same.refl _) (s2.trans s3) λ_ z=>z).rp
 have t3:=(s1.trans s2).trans s3
 cases d with
 | str z=>
  have ez:(if z.length<=100000 then some (PyData.str (Txt.slice z lo hi),false)else none)=some (d',fr'):=ez
  split at ez
  ·rename_i hl
   cases ez
   cases zge v3
   exact⟨zha hl,q _ H3 t3 ⟨zcg,λz=>by cases z⟩⟩
  ·cases ez
 | list ds=>
  cases ez
  obtain⟨p,xs,rfl,hp,r⟩:=zeb v3
  refine⟨p,xs,rfl,SqL.of (zef hp),λl hl=>q _ _ (t3.trans (Same.new hl)) ?_⟩
  have hA:=(h.up t3).lims bs
  exact⟨zva hl (zhz hA hl) (r.cut lo hi),λ_=>⟨l,rfl,t3.free hl,zpd hl (r.cut lo hi)⟩⟩
 | _=>cases ez
noncomputable def zyi(fx:Addr->Prop)(H0:Hp)(d:PyData)(fr:Bool)(v:V)(H:Hp):Prop:=Rp (Offs fx H) d v/\(fr=true->∃a,v=.ref a/\H0 a=none/\zjb (Offs (λb=>fx b\/b=a) H) H a d)
noncomputable def spD(n:Nat)(g:GF):Sp:=λvs H Q _=>∃(fx:Addr->Prop)(ds:List PyData)(d:PyData)(fr:Bool),ds.length=n/\(∀b,fx b->∃o,H b=some o)/\Rps (Offs fx H) ds vs/\g ds=some (d,fr)/\∀v H',Same H H'->zyi fx H d fr v H'->Q v H'
noncomputable def zbl(n:Nat)(g:GF)(f:AF):EF:=λenv=>(f env).bind λrs=>if rs.length=n then(g (zia rs)).bind λz=>some ⟨z.1,z.2,bsOf z.1 (bss rs)⟩else none
theorem zbh{n:Nat}{g:GF}{ta:TA}{f:AF}(ha:SA ta f):SE (tCall (spD n g) [] E0 ta) (zbl n g f):=by
 intro fx H0 env σ H h rr hr Q q
 unfold zbl at hr
 obtain⟨rs,er,hr⟩:=qA.mp hr
 split at hr
 ·rename_i hn
  obtain⟨⟨d,fr⟩,ez,hr⟩:=qA.mp hr
  cases hr
  refine ha fx H0 env σ H h rs er _ λvs H1 s1 v1=>?_
  rw[qv]
  refine⟨lim fx env σ (bss rs),zia rs,d,fr,by rw[zib];exact hn,(h.up s1).lims _,zho (λi hi=>hi) v1,ez,λw H3 s3 ⟨rp,fr3⟩=>q w H3 (s1.trans s3) ⟨zta rp,λe=>?_⟩⟩
  obtain⟨a,g1,g2,g3⟩:=fr3 e
  refine⟨a,g1,s1.free g2,?_⟩
  have nf:zex d=false:=by cases d<;>first|rfl|exact g3.elim
  show zjb (Offs (λb=>lim fx env σ (bsOf d (bss rs)) b\/b=a) H3) H3 a d
  rw[show bsOf d (bss rs)=bss rs by unfold bsOf;rw[if_neg (by rw[nf];decide)]]
  exact g3
 ·cases hr
inductive Out where
 | nx (env:DEnv)
 | bk (env:DEnv)
 | ct (env:DEnv)
 | rt (d:PyData) (fr:Bool)
noncomputable def Sat(fx:Addr->Prop)(H0:Hp)(D:Ends):Out->Prop
 | .nx env=>∀σ H,EnvOk fx H0 env σ H->D.nx σ H
 | .bk env=>∀σ H,EnvOk fx H0 env σ H->D.bk σ H
 | .ct env=>∀σ H,EnvOk fx H0 env σ H->D.ct σ H
 | .rt d fr=>∀v H,Same H0 H->zyi fx H0 d fr v H->D.rt v H
noncomputable abbrev SF:=DEnv->Option Out
noncomputable def SS(ts:TS)(F:SF):Prop:=∀(fx:Addr->Prop)(H0:Hp)(env:DEnv)(σ:St)(H:Hp)(D:Ends),EnvOk fx H0 env σ H->∀o,F env=some o->Sat fx H0 D o->ts D σ H
noncomputable def frz1(env:DEnv)(i:Nat):DEnv:=match env[i]? with
 | some (.ac d)=>env.set i (.pl d)
 | _=>env
noncomputable def frzs(env:DEnv)(bs:List Nat):DEnv:=bs.foldl frz1 env
theorem zaix(env:DEnv)(i:Nat):(frz1 env i).length=env.length:=by
 unfold frz1;split
 ·rw[qx]
 ·rfl
theorem zcc{α:Type}{l:List α}{i j:Nat}{x y:α}(h:(l.set i x)[j]?=some y):(j=i/\y=x)\/(j≠i/\l[j]?=some y):=by
 rw[List.getElem?_set]at h
 by_cases e:i=j
 ·subst e
  rw[if_pos rfl]at h
  split at h
  ·exact .inl ⟨rfl,(qy h).symm⟩
  ·cases h
 ·rw[if_neg e]at h
  exact .inr ⟨λz=>e z.symm,h⟩
theorem znr{env:DEnv}{i j:Nat}{d:PyData}(h:(frz1 env i)[j]?=some (.ac d)):env[j]?=some (.ac d)/\j≠i:=by
 unfold frz1 at h
 split at h
 ·rcases zcc h with⟨_,e⟩|⟨e,h⟩
  ·cases e
  ·exact⟨h,e⟩
 ·rename_i hn
  refine⟨h,λe=>?_⟩
  subst e
  exact hn d h
theorem zano{env:DEnv}{i j:Nat}{d:PyData}(h:(frz1 env i)[j]?=some (.pl d)):env[j]?=some (.pl d)\/(j=i/\env[i]?=some (.ac d)):=by
 unfold frz1 at h
 split at h
 ·rename_i d' hd
  rcases zcc h with⟨e1,e⟩|⟨e,h⟩
  ·cases e;exact .inr ⟨e1,hd⟩
  ·exact .inl h
 ·exact .inl h
theorem zaiy{env:DEnv}{σ:St}{i:Nat}:∀a,own (frz1 env i) σ a->own env σ a:=by
 rintro a ⟨j,d,h1,h2⟩
 exact⟨j,d,(znr h1).1,h2⟩
theorem EnvOk.frz1{fx:Addr->Prop}{H0:Hp}{env:DEnv}{σ:St}{H:Hp}(h:EnvOk fx H0 env σ H)(i:Nat):EnvOk fx H0 (frz1 env i) σ H:=by
 have so:Same (Offs (λa=>fx a\/own env σ a) H) (Offs (λa=>fx a\/own (L2.frz1 env i) σ a) H):=Offs.sub λb z=>z.imp (λy=>y) (zaiy b)
 refine⟨by rw[zaix];exact h.len,λj d e=>?_,λj d e=>?_,λj k d d' a h1 h2 h3 h4=>h.inj j k d d' a (znr h1).1 (znr h2).1 h3 h4,h.base,h.fxs⟩
 ·rcases zano e with e|⟨rfl,e⟩
  ·obtain⟨v,h1,h2⟩:=h.pl j d e
   exact⟨v,h1,Rp.same so _ h2⟩
  ·obtain⟨a,h1,h2,h3,h4⟩:=h.ac j d e
   refine⟨_,h1,h4.rp so λo eo=>?_⟩
   rw[Offs.get]
   ·exact eo
   ·rintro(z|⟨k,d',z1,z2⟩)
    ·exact h3 z
    ·obtain⟨z1,z3⟩:=znr z1
     exact z3 (h.inj k j d' d a z1 e z2 h1)
 ·obtain⟨a,h1,h2,h3,h4⟩:=h.ac j d (znr e).1
  exact⟨a,h1,h2,h3,h4.same so λo z=>z⟩
theorem EnvOk.frzs{fx:Addr->Prop}{H0:Hp}{σ:St}{H:Hp}:∀(bs:List Nat){env:DEnv},EnvOk fx H0 env σ H->EnvOk fx H0 (frzs env bs) σ H
 | [],_,h=>h
 | i::bs,_,h=>EnvOk.frzs bs (h.frz1 i)
theorem zaeg:∀{bs:List Nat}{env:DEnv}{j:Nat}{d:PyData},(frzs env bs)[j]?=some (.ac d)->env[j]?=some (.ac d)/\j∉bs
 | [],_,_,_,h=>⟨h,by simp⟩
 | i::bs,env,j,d,h=>by
  obtain⟨h1,h2⟩:=zaeg (bs:=bs) h
  obtain⟨h3,h4⟩:=znr h1
  exact⟨h3,by simp[h4,h2]⟩
theorem zjq{fx:Addr->Prop}{env:DEnv}{σ:St}{bs:List Nat}:∀a,fx a\/own (frzs env bs) σ a->lim fx env σ bs a:=by
 rintro a (z|⟨i,d,h1,h2⟩)
 ·exact .inl z
 ·obtain⟨h3,h4⟩:=zaeg h1
  exact .inr ⟨i,d,h4,h3,h2⟩
theorem zaeh{env:DEnv}{σ:St}{i:Nat}{d:PyData}{v:V}:∀a,own (env.set i (.pl d)) (σ.set i (some v)) a->own env σ a:=by
 rintro a ⟨j,e,h1,h2⟩
 rcases zcc h1 with⟨_,z⟩|⟨ne,h1⟩
 ·cases z
 ·rcases zcc h2 with⟨z,_⟩|⟨_,h2⟩
  ·exact absurd z ne
  ·exact⟨j,e,h1,h2⟩
theorem EnvOk.setPl{fx:Addr->Prop}{H0:Hp}{env:DEnv}{σ:St}{H:Hp}(h:EnvOk fx H0 env σ H)(i:Nat){d:PyData}{v:V}(r:Rp (Offs (λa=>fx a\/own env σ a) H) d v):EnvOk fx H0 (env.set i (.pl d)) (σ.set i (some v)) H:=by
 have so:Same (Offs (λa=>fx a\/own env σ a) H) (Offs (λa=>fx a\/own (env.set i (.pl d)) (σ.set i (some v)) a) H):=Offs.sub λb z=>z.imp (λy=>y) (zaeh b)
 have kept:∀{j:Nat},j≠i->(σ.set i (some v))[j]?=σ[j]?:=λ{j} n=>qO λz=>n z.symm
 refine⟨by rw[qx,qx];exact h.len,λj e hj=>?_,λj e hj=>?_,λj k d1 d2 a h1 h2 h3 h4=>?_,h.base,h.fxs⟩
 ·rcases zcc hj with⟨rfl,z⟩|⟨ne,hj'⟩
  ·cases z
   have hl:j<env.length:=by have:=(qJ.mp hj).1;rwa [qx]at this
   exact⟨v,by rw[qAA (by rw[<- h.len];exact hl)],Rp.same so _ r⟩
  ·obtain⟨u,h1,h2⟩:=h.pl j e hj'
   exact⟨u,by rw[kept ne];exact h1,Rp.same so _ h2⟩
 ·rcases zcc hj with⟨_,z⟩|⟨ne,hj'⟩
  ·cases z
  ·obtain⟨a,h1,h2,h3,h4⟩:=h.ac j e hj'
   exact⟨a,by rw[kept ne];exact h1,h2,h3,h4.same so λo z=>z⟩
 ·rcases zcc h1 with⟨_,z⟩|⟨n1,h1⟩
  ·cases z
  rcases zcc h2 with⟨_,z⟩|⟨n2,h2⟩
  ·cases z
  rw[kept n1]at h3
  rw[kept n2]at h4
  exact h.inj j k d1 d2 a h1 h2 h3 h4
theorem EnvOk.setAc {fx:Addr->Prop} {H0:Hp} {env:DEnv} {σ:St} {H:Hp} {a:Addr} (h:EnvOk (λb=>fx b\/b=a) H0 env σ H) (i:Nat) {d:PyData} (r:zjb (Offs (λb=>(fx b\/own env σ b)\/b=a) H) H a d) (h0:H0 a=none) (hf:¬fx a) :
  EnvOk fx H0 (env.set i (.ac d)) (σ.set i (some (.ref a))) H:=by
 have kept:∀{j:Nat},j≠i->(σ.set i (some (V.ref a)))[j]?=σ[j]?:=λ{j} n=>qO λz=>n z.symm
 have sub:∀b,fx b\/own (env.set i (.ac d)) (σ.set i (some (.ref a))) b->(fx b\/b=a)\/own env σ b:=by
  rintro b (z|⟨j,e,h1,h2⟩)
  ·exact .inl (.inl z)
  ·rcases zcc h1 with⟨rfl,z⟩|⟨ne,h1⟩
   ·have hl:j<env.length:=by have:=(qJ.mp ‹(env.set j (.ac d))[j]?=_›).1;rwa [qx]at this
    rw[qAA (by rw[<- h.len];exact hl)]at h2
    cases h2
    exact .inl (.inr rfl)
   ·rw[kept ne]at h2
    exact .inr ⟨j,e,h1,h2⟩
 have so:Same (Offs (λb=>(fx b\/b=a)\/own env σ b) H) (Offs (λb=>fx b\/own (env.set i (.ac d)) (σ.set i (some (.ref a))) b) H):=Offs.sub sub
 have so2:Same (Offs (λb=>(fx b\/own env σ b)\/b=a) H) (Offs (λb=>fx b\/own (env.set i (.ac d)) (σ.set i (some (.ref a))) b) H):=Offs.sub λb z=>by
  rcases sub b z with(y|y)|y
  ·exact .inl (.inl y)
  ·exact .inr y
  ·exact .inl (.inr y)
 refine⟨by rw[qx,qx];exact h.len,λj e hj=>?_,λj e hj=>?_,λj k d1 d2 b h1 h2 h3 h4=>?_,h.base,λb z=>h.fxs b (.inl z)⟩
 ·rcases zcc hj with⟨_,z⟩|⟨ne,hj'⟩
  ·cases z
  ·obtain⟨u,h1,h2⟩:=h.pl j e hj'
   exact⟨u,by rw[kept ne];exact h1,Rp.same so _ h2⟩
 ·rcases zcc hj with⟨rfl,z⟩|⟨ne,hj'⟩
  ·cases z
   have hl:j<env.length:=by have:=(qJ.mp hj).1;rwa [qx]at this
   exact⟨a,by rw[qAA (by rw[<- h.len];exact hl)],h0,hf,r.same so2 λo z=>z⟩
  ·obtain⟨b,h1,h2,h3,h4⟩:=h.ac j e hj'
   exact⟨b,by rw[kept ne];exact h1,h2,λz=>h3 (.inl z),h4.same so λo z=>z⟩
 ·rcases zcc h1 with⟨e1,z1⟩|⟨n1,h1'⟩<;>rcases zcc h2 with⟨e2,z2⟩|⟨n2,h2'⟩
  ·rw[e1,e2]
  ·subst e1
   have hl:j<env.length:=by have:=(qJ.mp h1).1;rwa [qx]at this
   rw[qAA (by rw[<- h.len];exact hl)]at h3
   rw[kept n2]at h4
   cases h3
   obtain⟨b,g1,g2,g3,g4⟩:=h.ac k d2 h2'
   rw[h4]at g1
   cases g1
   exact absurd (.inr rfl) g3
  ·subst e2
   have hl:k<env.length:=by have:=(qJ.mp h2).1;rwa [qx]at this
   rw[qAA (by rw[<- h.len];exact hl)]at h4
   rw[kept n1]at h3
   cases h4
   obtain⟨b,g1,g2,g3,g4⟩:=h.ac j d1 h1'
   rw[h3]at g1
   cases g1
   exact absurd (.inr rfl) g3
  ·rw[kept n1]at h3
   rw[kept n2]at h4
   exact h.inj j k d1 d2 b h1' h2' h3 h4
noncomputable def slOf(r:Val):Sl:=if r.fr=true then .ac r.d else .pl r.d
noncomputable def putV(env:DEnv)(i:Nat)(r:Val):DEnv:=(frzs env r.bs).set i (slOf r)
theorem EnvOk.put{fx:Addr->Prop}{H0:Hp}{env:DEnv}{σ:St}{H H':Hp}(h:EnvOk fx H0 env σ H)(s:Same H H'){r:Val}{v:V}(hv:ValOk (lim fx env σ r.bs) H H' r v)(i:Nat):EnvOk fx H0 (putV env i r) (σ.set i (some v)) H':=by
 unfold putV slOf
 cases e:r.fr with
 | false=>
  rw[if_neg qP]
  exact((h.up s).frzs r.bs).setPl i (Rp.same (Offs.sub zjq) _ hv.rp)
 | true=>
  rw[if_pos rfl]
  obtain⟨a,rfl,ha,hacc⟩:=hv.fr e
  have nfx:¬fx a:=zhz h.fxs ha
  have g:EnvOk (λb=>fx b\/b=a) H0 env σ H':=h.grow s (λb o eo n z=>z.elim n λy=>by rw[y,ha]at eo;cases eo) λb z=>by
   rcases z with z|z
   ·obtain⟨o,eo⟩:=h.fxs b z;exact⟨o,s b o eo⟩
   ·rw[z];exact hacc.ex
  refine(g.frzs r.bs).setAc i (hacc.same (Offs.sub λb z=>?_) λo z=>z) (h.base.free ha) nfx
  rcases z with z|z
  ·exact .inl (zjq b z)
  ·exact .inr z
noncomputable def sNil:SF:=λenv=>some (.nx env)
noncomputable def sSeq(f g:SF):SF:=λenv=>(f env).bind λo=>match o with
 | .nx env'=>g env'
 | o=>some o
theorem zcs:SS tNext sNil:=by
 intro fx H0 env σ H D h o e q
 cases e
 exact q σ H h
theorem zaz{t u:TS}{f g:SF}(h1:SS t f)(h2:SS u g):SS (tSeq t u) (sSeq f g):=by
 intro fx H0 env σ H D h o e q
 unfold sSeq at e
 obtain⟨o1,e1,e⟩:=qA.mp e
 refine h1 fx H0 env σ H _ h o1 e1 ?_
 cases o1 with
 | nx env'=>exact λσ' H' h'=>h2 fx H0 env' σ' H' D h' o e q
 | bk env'=>cases e;exact q
 | ct env'=>cases e;exact q
 | rt d fr=>cases e;exact q
noncomputable def zoc:SF:=λ_=>none
theorem zli:SS tNever zoc:=by
 intro fx H0 env σ H D h o e q
 cases e
noncomputable def sRet(f:EF):SF:=λenv=>(f env).map λr=>.rt r.d r.fr
theorem zbv{te:TE}{f:EF}(h1:SE te f):SS (tRet te) (sRet f):=by
 intro fx H0 env σ H D h o e q
 unfold sRet at e
 obtain⟨r,er,rfl⟩:=qH.mp e
 refine h1 fx H0 env σ H h r er _ λv H' s hv=>q v H' (h.base.trans s) ⟨Rp.same (Offs.sub λb z=>.inl z) _ hv.rp,λz=>?_⟩
 obtain⟨a,g1,g2,g3⟩:=hv.fr z
 exact⟨a,g1,h.base.free g2,g3.same (Offs.sub λb y=>y.imp .inl id) λo z=>z⟩
noncomputable def zom(i:Nat):SF:=λenv=>match env[i]? with
 | some (.pl d)=>some (.rt d false)
 | some (.ac d)=>some (.rt d true)
 | _=>none
theorem zmj{i:Nat}:SS (tRet (tVar i)) (zom i):=by
 intro fx H0 env σ H D h o e q
 unfold zom at e
 cases ei:env[i]? with
 | none=>rw[ei]at e;cases e
 | some sl=>
  rw[ei]at e
  cases sl with
  | no=>cases e
  | pl d=>
   cases e
   obtain⟨v,h1,h2⟩:=h.pl i d ei
   exact⟨v,h1,q v H h.base ⟨Rp.same (Offs.sub λb z=>.inl z) _ h2,λz=>by cases z⟩⟩
  | ac d=>
   cases e
   obtain⟨a,h1,h2,h3,h4⟩:=h.ac i d ei
   refine⟨_,h1,q _ H h.base ⟨h4.rp (Offs.sub λb z=>.inl z) λo eo=>by rw[Offs.get h3];exact eo,λ_=>⟨a,rfl,h2,h4.same (Offs.sub λb z=>?_) λo z=>z⟩⟩⟩
   rcases z with z|z
   ·exact .inl z
   ·rw[z];exact .inr ⟨i,d,ei,h1⟩
noncomputable def sIf(c:TF)(f g:SF):SF:=λenv=>(c env).bind λb=>if b=true then f env else g env
theorem zfr{tc:TT}{t u:TS}{c:TF}{f g:SF}(hc:ST tc c)(h1:SS t f)(h2:SS u g):SS (tIfS tc t u) (sIf c f g):=by
 intro fx H0 env σ H D h o e q
 unfold sIf at e
 obtain⟨b,eb,e⟩:=qA.mp e
 refine hc fx H0 env σ H h b eb _ λH' s=>?_
 cases b with
 | true=>exact iteT (h1 fx H0 env σ H' D (h.up s) o e q)
 | false=>exact iteF (h2 fx H0 env σ H' D (h.up s) o e q)
noncomputable def sSet(i:Nat)(f:EF):SF:=λenv=>(f env).map λr=>.nx (putV env i r)
theorem zct{te:TE}{f:EF}{i:Nat}(h1:SE te f):SS (tAsg te (gName i)) (sSet i f):=by
 intro fx H0 env σ H D h o e q
 unfold sSet at e
 obtain⟨r,er,rfl⟩:=qH.mp e
 exact h1 fx H0 env σ H h r er _ λv H' s hv=>q _ H' (h.put s hv i)
noncomputable abbrev GT:=PyData->DEnv->Option DEnv
noncomputable def SG(g:TG)(f:GT):Prop:=∀(fx:Addr->Prop)(H0:Hp)(env:DEnv)(σ:St)(H:Hp)(d:PyData)(v:V),EnvOk fx H0 env σ H->Rp (Offs (λa=>fx a\/own env σ a) H) d v->∀env',f d env=some env'->∀Q:St->Hp->Prop,
 (∀σ',EnvOk fx H0 env' σ' H->Q σ' H)->g v σ H Q
noncomputable abbrev GTs:=List PyData->DEnv->Option DEnv
noncomputable def SGs(g:TGs)(f:GTs):Prop:=∀(fx:Addr->Prop)(H0:Hp)(env:DEnv)(σ:St)(H:Hp)(ds:List PyData)(vs:List V),EnvOk fx H0 env σ H->Rps (Offs (λa=>fx a\/own env σ a) H) ds vs->∀env',f ds env=some env'->∀Q:St->Hp->Prop,
 (∀σ',EnvOk fx H0 env' σ' H->Q σ' H)->g vs σ H Q
noncomputable def gN(i:Nat):GT:=λd env=>some (env.set i (.pl d))
theorem zit{i:Nat}:SG (gName i) (gN i):=by
 intro fx H0 env σ H d v h r env' e Q q
 cases e
 exact q _ (h.setPl i r)
noncomputable def zcq:GTs:=λds env=>match ds with|[]=>some env|_=>none
noncomputable def zaq(i:Nat)(g:GTs):GTs:=λds env=>match ds with|d::r=>g r (env.set i (.pl d))|[]=>none
theorem zdl:SGs gNil zcq:=by
 intro fx H0 env σ H ds vs h r env' e Q q
 cases ds with
 | nil=>cases e;unfold Rps at r;exact⟨r,q _ h⟩
 | cons _ _=>cases e
theorem zax{i:Nat}{t:TGs}{g:GTs}(h1:SGs t g):SGs (gCons (gName i) t) (zaq i g):=by
 intro fx H0 env σ H ds vs h r env' e Q q
 cases ds with
 | nil=>cases e
 | cons d ds=>
  unfold Rps at r
  obtain⟨v,ws,rfl,r1,r2⟩:=r
  refine⟨v,ws,rfl,h1 fx H0 (env.set i (.pl d)) _ H ds ws (h.setPl i r1) (Rps.same (Offs.sub λb z=>z.imp (λy=>y) (zaeh b)) _ r2) env' e Q q⟩
noncomputable def gT(n:Nat)(g:GTs):GT:=λd env=>match d with|.tuple ds=>if ds.length=n then g ds env else none|_=>none
theorem zfk{K:qB}{n:Nat}{t:TGs}{g:GTs}(h1:SGs t g):SG (gTup K n t) (gT n g):=by
 intro fx H0 env σ H d v h r env' e Q q
 unfold gT at e
 cases d with
 | tuple ds=>
  have e:(if ds.length=n then g ds env else none)=some env':=e
  split at e
  ·rename_i hn
   obtain⟨a,xs,rfl,ha,rs⟩:=zcv r
   exact⟨a,xs,rfl,SqT.of (zef ha),by rw[<- rs.length];exact hn,h1 fx H0 env σ H ds xs h rs env' e Q q⟩
  ·cases e
 | _=>cases e
noncomputable def sAsg(f:EF)(g:GT):SF:=λenv=>(f env).bind λr=>(g r.d (frzs env r.bs)).map .nx
theorem zaei{te:TE}{f:EF}{g:TG}{gf:GT}(h1:SE te f)(h2:SG g gf):SS (tAsg te g) (sAsg f gf):=by
 intro fx H0 env σ H D h o e q
 unfold sAsg at e
 obtain⟨r,er,e⟩:=qA.mp e
 obtain⟨env',e',rfl⟩:=qH.mp e
 exact h1 fx H0 env σ H h r er _ λv H' s hv=>h2 fx H0 _ σ H' r.d v ((h.up s).frzs r.bs) (Rp.same (Offs.sub zjq) _ hv.rp) env' e' _ λσ' h'=>q σ' H' h'
theorem EnvOk.mut{fx:Addr->Prop}{H0:Hp}{env:DEnv}{σ:St}{H:Hp}(h:EnvOk fx H0 env σ H){i:Nat}{d d':PyData}{a:Addr}{o:HO}(e:env[i]?=some (.ac d))(ea:σ[i]?=some (some (.ref a)))
  (r:zjb (Offs (λb=>fx b\/own env σ b) H) (upd H a o) a d'):EnvOk fx H0 (env.set i (.ac d')) σ (upd H a o):=by
 have hl:i<env.length:=(qJ.mp e).1
 have oa:own env σ a:=⟨i,d,e,ea⟩
 have ow:∀b,own (env.set i (.ac d')) σ b↔own env σ b:=by
  intro b
  constructor
  ·rintro⟨j,d1,h1,h2⟩
   rcases zcc h1 with⟨rfl,z⟩|⟨ne,h1⟩
   ·exact⟨j,d,e,h2⟩
   ·exact⟨j,d1,h1,h2⟩
  ·rintro⟨j,d1,h1,h2⟩
   by_cases hj:j=i
   ·subst hj;exact⟨j,d',by rw[qAA hl],h2⟩
   ·exact⟨j,d1,by rw[qO λz=>hj z.symm];exact h1,h2⟩
 have so:Same (Offs (λb=>fx b\/own env σ b) H) (Offs (λb=>fx b\/own (env.set i (.ac d')) σ b) (upd H a o)):=by
  have:Same (Offs (λb=>fx b\/own env σ b) (upd H a o)) (Offs (λb=>fx b\/own (env.set i (.ac d')) σ b) (upd H a o)):=Offs.sub λb z=>z.imp (λy=>y) (ow b).mp
  rw[Offs.upd (.inr oa)]at this
  exact this
 obtain⟨a',g1,g2,g3,g4⟩:=h.ac i d e
 rw[ea]at g1
 cases g1
 refine⟨by rw[qx];exact h.len,λj d1 hj=>?_,λj d1 hj=>?_,λj k d1 d2 b h1 h2 h3 h4=>?_,λb u eb=>by rw[zbc (zcp eb g2)];exact h.base b u eb,λb z=>?_⟩
 ·rcases zcc hj with⟨_,z⟩|⟨ne,hj'⟩
  ·cases z
  ·obtain⟨u,h1,h2⟩:=h.pl j d1 hj'
   exact⟨u,h1,Rp.same so _ h2⟩
 ·rcases zcc hj with⟨rfl,z⟩|⟨ne,hj'⟩
  ·cases z
   exact⟨a,ea,g2,g3,r.same so λo z=>z⟩
  ·obtain⟨b,h1,h2,h3,h4⟩:=h.ac j d1 hj'
   refine⟨b,h1,h2,h3,h4.same so λo' z=>?_⟩
   rw[zbc λy=>ne (h.inj j i d1 d a hj' e (by rw[<- y];exact h1) ea)]
   exact z
 ·have f:∀{j:Nat}{d1:PyData},(env.set i (.ac d'))[j]?=some (.ac d1)->∃d2,env[j]?=some (.ac d2):=λ{j d1} hj=>by
   rcases zcc hj with⟨rfl,z⟩|⟨ne,hj'⟩
   ·exact⟨d,e⟩
   ·exact⟨d1,hj'⟩
  obtain⟨e1,h1⟩:=f h1
  obtain⟨e2,h2⟩:=f h2
  exact h.inj j k e1 e2 b h1 h2 h3 h4
 ·obtain⟨u,eu⟩:=h.fxs b z
  exact⟨u,by rw[zbc λy=>g3 (by rw[<- y];exact z)];exact eu⟩
noncomputable def sApp(i:Nat)(f:EF):SF:=λenv=>match env[i]? with
 | some (.ac (.list ds))=>(f env).bind λr=>if ds.length<100000/\i∉r.bs then some (.nx ((frzs env r.bs).set i (.ac (.list (ds++[r.d])))))else none
 | _=>none
theorem ztg{env:DEnv}{i:Nat}{d:PyData}:∀{bs:List Nat},i∉bs->env[i]?=some (.ac d)->(frzs env bs)[i]?=some (.ac d):=by
 intro bs
 induction bs generalizing env with
 | nil=>intro _ e;exact e
 | cons j bs ih=>
  intro hn e
  have hj:i≠j:=λz=>hn (by simp[z])
  refine ih (λz=>hn (qK _ z)) ?_
  unfold frz1
  split
  ·rw[qO λz=>hj z.symm];exact e
  ·exact e
theorem zkk{K:qB}{i:Nat}{te:TE}{f:EF}(h1:SE te f):SS (tDrop (tBM K "list" zsu (tVar i) (tCons te tNil))) (sApp i f):=by
 intro fx H0 env σ H D h o e q
 unfold sApp at e
 split at e
 ·rename_i ds ei
  obtain⟨r,er,e⟩:=qA.mp e
  split at e
  ·rename_i hl
   cases e
   obtain⟨a,g1,g2,g3,g4⟩:=h.ac i _ ei
   obtain⟨xs,hx,rx⟩:=g4
   refine⟨_,g1,.inl ⟨rfl,_,SqL.of hx⟩,h1 fx H0 env σ H h r er _ λv H' s hv=>?_⟩
   have h':=(h.up s).frzs r.bs
   have ei':=ztg hl.2 ei
   have hx':=s _ _ hx
   have rx':Rps (Offs (λb=>fx b\/own (frzs env r.bs) σ b) H') ds xs:=by
    obtain⟨a',z1,_,_,z4⟩:=h'.ac i _ ei'
    rw[g1]at z1
    cases z1
    obtain⟨ys,y1,y2⟩:=z4
    rw[hx']at y1
    cases y1
    exact y2
   refine⟨a,xs,v,rfl,rfl,hx',znq (by rw[<- rx.length];exact hl.1),?_⟩
   refine q σ _ (h'.mut ei' g1 ⟨_,zaw,rx'.append (zfd (Rp.same (Offs.sub zjq) _ hv.rp) zet)⟩)
  ·cases e
 ·cases e
noncomputable def sClr(i:Nat):SF:=λenv=>match env[i]? with
 | some (.ac (.list ds))=>some (.nx (env.set i (.ac (.list []))))
 | _=>none
theorem EnvOk.rebase{fx:Addr->Prop}{H0:Hp}{env:DEnv}{σ:St}{H:Hp}(h:EnvOk fx H0 env σ H):EnvOk fx (Offs (own env σ) H) env σ H:=by
 refine⟨h.len,h.pl,λi d e=>?_,h.inj,Offs.same _ _,h.fxs⟩
 obtain⟨a,h1,h2,h3,h4⟩:=h.ac i d e
 exact⟨a,h1,Offs.out ⟨i,d,e,h1⟩,h3,h4⟩
theorem EnvOk.floor{fx:Addr->Prop}{H0:Hp}{env:DEnv}{σ:St}{H:Hp}(h:EnvOk fx H0 env σ H):Same H0 (Offs (own env σ) H):=λb o e=>by
 rw[Offs.get]
 ·exact h.base b o e
 ·rintro⟨i,d,h1,h2⟩
  obtain⟨a,g1,g2,_⟩:=h.ac i d h1
  rw[h2]at g1
  cases g1
  rw[g2]at e
  cases e
theorem EnvOk.unbase{fx:Addr->Prop}{H0 F:Hp}{env:DEnv}{σ:St}{H:Hp}(h:EnvOk fx F env σ H)(s:Same H0 F):EnvOk fx H0 env σ H:=by
 refine⟨h.len,h.pl,λi d e=>?_,h.inj,s.trans h.base,h.fxs⟩
 obtain⟨a,h1,h2,h3,h4⟩:=h.ac i d e
 exact⟨a,h1,s.free h2,h3,h4⟩
theorem zyi.unbase{fx:Addr->Prop}{H0 F:Hp}{d:PyData}{fr:Bool}{v:V}{H:Hp}(h:zyi fx F d fr v H)(s:Same H0 F):zyi fx H0 d fr v H:=
 ⟨h.1,λe=>let⟨a,h1,h2,h3⟩:=h.2 e;⟨a,h1,s.free h2,h3⟩⟩
theorem EnvOk.seen{fx:Addr->Prop}{env env':DEnv}{σ σ':St}{H H':Hp}(h:EnvOk fx (Offs (own env σ) H) env' σ' H'):Same (Offs (λb=>fx b\/own env σ b) H) (Offs (λb=>fx b\/own env' σ' b) H'):=λb o e=>by
 obtain⟨h1,h2⟩:=Offs.of e
 have hF:Offs (own env σ) H b=some o:=by rw[Offs.get λz=>h1 (.inr z)];exact h2
 rw[Offs.get]
 ·exact h.base b o hF
 ·rintro(z|⟨i,d,g1,g2⟩)
  ·exact h1 (.inl z)
  ·obtain⟨a,k1,k2,_⟩:=h.ac i d g1
   rw[g2]at k1
   cases k1
   rw[k2]at hF
   cases hF
theorem EnvOk.all{fx:Addr->Prop}{H0:Hp}{env:DEnv}{σ:St}{H:Hp}(h:EnvOk fx H0 env σ H):∀b,fx b\/own env σ b->∃o,H b=some o:=λb z=>h.lims [] b (zmg b z)
noncomputable def Yl(A0:Addr->Prop)(H1:Hp)(J:It)(ds:List PyData):Prop:=∀(A:Addr->Prop)(H':Hp),(∀b,A b->∃o,H' b=some o)->Same (Offs A0 H1) (Offs A H')->
 (∀i d,ds[i]?=some d->J.go i H'/\∀x H'',J.yld i H' x H''->Same H' H''/\Rp (Offs A H'') d x)/\J.stop ds.length H'
noncomputable abbrev IF':=DEnv->Option (List PyData×List Nat)
noncomputable def SI(wi:TI)(f:IF'):Prop:=∀(fx:Addr->Prop)(H0:Hp)(env:DEnv)(σ:St)(H:Hp),EnvOk fx H0 env σ H->∀ds bs,f env=some (ds,bs)->∀R:It->Hp->Prop,
 (∀J H1,Same H H1->Yl (λb=>fx b\/own (frzs env bs) σ b) H1 J ds->R J H1)->wi σ H R
noncomputable def iSeq(K:qB)(te:TE):TI:=λσ H R=>te σ H λx H1=>∃a,x=.ref a/\((∃xs,SqL K H1 a xs)/\R (Itl K a) H1\/(∃xs,SqT K H1 a xs)/\R (Itt K a) H1)
theorem zarz{X:Cx}{tg l:Expr}{tl:TE}(hl:PE X l tl):PI X tg l (iSeq X.K tl):=by
 intro pins s σ H R I h
 refine thn (hl pins s σ H _ I h) λv s1 ⟨x,H1,I1,r1,q1⟩=>?_
 obtain⟨a,e,q⟩:=q1
 subst e
 cases r1
 rcases q with⟨⟨xs,hq⟩,q⟩|⟨⟨xs,hq⟩,q⟩
 ·obtain⟨its,rv,p,hz⟩:=I1.list hq
  refine qBc p.isList ?_
  refine⟨s1.heap.objs.size,[s1.heap.objs.size],_,_,H1,rfl,I1.kept (t':=s1.toks) λb o e=>qG _ e,zum a _,⟨_,qd _ rfl,rfl,rfl⟩,λb hb=>?_,q⟩
  have e:b=s1.heap.objs.size:=by simpa using hb
  subst e
  exact I1.fpOk (qM _) (I1.hok.fresh (qM _))
 ·obtain⟨its,rv,p,hz⟩:=I1.tuple hq
  refine qBv (show s1.heap.IsTuple a its.toArray from p) ?_
  refine⟨s1.heap.objs.size,[s1.heap.objs.size],_,_,H1,rfl,I1.kept (t':=s1.toks) λb o e=>qG _ e,zabe a _,⟨_,qd _ rfl,rfl,rfl⟩,λb hb=>?_,q⟩
  have e:b=s1.heap.objs.size:=by simpa using hb
  subst e
  exact I1.fpOk (qM _) (I1.hok.fresh (qM _))
theorem zanp{X:Cx}{K:qB}(hK:X.K=K){tg l:Expr}{tl:TE}(hl:PE X l tl):PI X tg l (iSeq K tl):=by subst hK;exact zarz hl
noncomputable def zbu(f:EF):IF':=λenv=>(f env).bind λr=>(zim r.d).map λds=>(ds,r.bs)
theorem zanq{K:qB}{A0:Addr->Prop}{H1:Hp}{a:Addr}{ds:List PyData}{xs:List V}(h:Offs A0 H1 a=some (.lst xs))(r:Rps (Offs A0 H1) ds xs):Yl A0 H1 (Itl K a) ds:=by
 intro A H' hA s
 have ha:=zef (s _ _ h)
 have r':=Rps.same s _ r
 refine⟨λi d e=>?_,⟨xs,SqL.of ha,by rw[r.length];exact qM _⟩⟩
 obtain⟨v,hv,rv⟩:=r'.get2 e
 refine⟨⟨xs,v,SqL.of ha,hv⟩,λx H'' y=>?_⟩
 obtain⟨rfl,y⟩:=y
 have:=y xs (SqL.of ha)
 rw[hv]at this
 cases this
 exact⟨Same.refl _,rv⟩
theorem zasa{K:qB}{A0:Addr->Prop}{H1:Hp}{a:Addr}{ds:List PyData}{xs:List V}(h:Offs A0 H1 a=some (.tup xs))(r:Rps (Offs A0 H1) ds xs):Yl A0 H1 (Itt K a) ds:=by
 intro A H' hA s
 have ha:=zef (s _ _ h)
 have r':=Rps.same s _ r
 refine⟨λi d e=>?_,⟨xs,SqT.of ha,by rw[r.length];exact qM _⟩⟩
 obtain⟨v,hv,rv⟩:=r'.get2 e
 refine⟨⟨xs,v,SqT.of ha,hv⟩,λx H'' y=>?_⟩
 obtain⟨rfl,y⟩:=y
 have:=y xs (SqT.of ha)
 rw[hv]at this
 cases this
 exact⟨Same.refl _,rv⟩
theorem zjc{K:qB}{te:TE}{f:EF}(h1:SE te f):SI (iSeq K te) (zbu f):=by
 intro fx H0 env σ H h ds bs e R q
 unfold zbu at e
 obtain⟨⟨d,fr,bs'⟩,er,e⟩:=qA.mp e
 obtain⟨es,he,e⟩:=qH.mp e
 cases e
 refine h1 fx H0 env σ H h _ er _ λv H1 s hv=>?_
 have rp:=Rp.same (Offs.sub (zjq (bs:=bs'))) _ hv.rp
 cases d with
 | list ds=>
  cases he
  obtain⟨a,xs,rfl,ha,r⟩:=zeb rp
  exact⟨a,rfl,.inl ⟨⟨xs,SqL.of (zef ha)⟩,q _ H1 s (zanq ha r)⟩⟩
 | tuple ds=>
  cases he
  obtain⟨a,xs,rfl,ha,r⟩:=zcv rp
  exact⟨a,rfl,.inr ⟨⟨xs,SqT.of (zef ha)⟩,q _ H1 s (zasa ha r)⟩⟩
 | _=>cases he
noncomputable def zve(ds:List PyData):List PyData:=ds.zipIdx.map λp=>.tuple [.int p.2,p.1]
noncomputable def zez(f:AF):IF':=λenv=>(f env).bind λrs=>match rs with
 | [r]=>match r.d with
  | .list ds=>some (zve ds,r.bs)
  | _=>none
 | _=>none
noncomputable def zpi(lo:Int)(n:Nat):List PyData:=(List.range n).map λ(k:Nat)=>.int (lo+(k:Int))
theorem zaiz{A0:Addr->Prop}{H1:Hp}{lo:Int}{n:Nat}:Yl A0 H1 (Itr lo n) (zpi lo n):=by
 intro A H' hA s
 have hl:(zpi lo n).length=n:=by unfold zpi;simp
 refine⟨λi d e=>?_,by rw[hl];exact qM _⟩
 unfold zpi at e
 rw[qT]at e
 by_cases hi:i<n
 ·rw[List.getElem?_range hi]at e
  cases e
  exact⟨hi,λx H'' ⟨e1,e2⟩=>by subst e1;subst e2;exact⟨Same.refl _,zad⟩⟩
 ·rw[qCs (by simpa using hi)]at e
  cases e
noncomputable def zfh(f:AF):IF':=λenv=>(f env).bind λrs=>match rs with
 | [⟨.int j,_,_⟩]=>if -(2 ^ 62)<=j/\j<2 ^ 62 then some (zpi 0 j.toNat,[])else none
 | _=>none
theorem zms{ta:TA}{f:AF}(h1:SA ta f):SI (iRng1 ta) (zfh f):=by
 intro fx H0 env σ H h ds bs e R q
 unfold zfh at e
 obtain⟨rs,er,e⟩:=qA.mp e
 split at e
 ·split at e
  ·rename_i hj
   cases e
   refine h1 fx H0 env σ H h _ er _ λvs H1 s hv=>?_
   cases hv with
   | cons hv t=>
    cases t
    cases zcw hv.rp
    exact⟨_,rfl,hj.1,hj.2,q _ H1 s zaiz⟩
  ·cases e
 ·cases e
noncomputable def forL(g:GT)(body:SF):List PyData->DEnv->Option Out
 | [],env=>some (.nx env)
 | d::ds,env=>(g d env).bind λe1=>(body e1).bind λo=>match o with
  | .nx e2=>forL g body ds e2
  | .ct e2=>forL g body ds e2
  | .bk e2=>some (.nx e2)
  | .rt d fr=>some (.rt d fr)
noncomputable def sFor(f:IF')(g:GT)(body:SF):SF:=λenv=>(f env).bind λz=>forL g body z.1 (frzs env z.2)
theorem zjy{wi:TI}{g:TG}{tb:TS}{f:IF'}{gf:GT}{body:SF}(h1:SI wi f)(h2:SG g gf)(h3:SS tb body):SS (tFor wi g tb) (sFor f gf body):=by
 intro fx H0 env σ H D h o e q
 unfold sFor at e
 obtain⟨⟨ds,bs⟩,er,e⟩:=qA.mp e
 refine h1 fx H0 env σ H h ds bs er _ λJ H1 s yl=>?_
 have hE:=(h.up s).frzs bs
 have fl:=hE.floor
 refine⟨λi m σ' H'=>m=ds.length - i/\i<=ds.length/\∃env',forL gf body (ds.drop i) env'=some o/\EnvOk fx (Offs (own (frzs env bs) σ) H1) env' σ' H',⟨ds.length,rfl,qAr _,_,e,hE.rebase⟩,?_⟩
 rintro i m σ' H' ⟨rfl,hi,env',e',h'⟩
 obtain⟨yi,ys⟩:=yl _ H' h'.all h'.seen
 by_cases hlt:i<ds.length
 ·obtain⟨yg,yy⟩:=yi i ds[i] (qF hlt)
  refine .inr ⟨yg,λσ'' H''=>i+1<=ds.length/\∃env'',forL gf body (ds.drop (i+1)) env''=some o/\EnvOk fx (Offs (own (frzs env bs) σ) H1) env'' σ'' H'',?_,?_⟩
  ·rintro σ'' H'' ⟨hle,env'',e'',h''⟩
   exact⟨ds.length - (i+1),by omega,rfl,hle,env'',e'',h''⟩
  ·intro x H'' hy
   obtain⟨sy,ry⟩:=yy x H'' hy
   rw[qAm hlt]at e'
   obtain⟨e1,ee1,e'⟩:=qA.mp e'
   obtain⟨o1,eo1,e'⟩:=qA.mp e'
   refine h2 fx _ env' σ' H'' _ x (h'.up sy) ry e1 ee1 _ λσ2 h2'=>h3 fx _ e1 σ2 H'' _ h2' o1 eo1 ?_
   cases o1 with
   | nx e2=>exact λσ3 H3 hh=>⟨hlt,e2,e',hh⟩
   | ct e2=>exact λσ3 H3 hh=>⟨hlt,e2,e',hh⟩
   | bk e2=>cases e';exact λσ3 H3 hh=>q σ3 H3 (hh.unbase fl)
   | rt d fr=>cases e';exact λv H3 sh rt=>q v H3 (fl.trans sh) (rt.unbase fl)
 ·have hi':i=ds.length:=by omega
  subst hi'
  rw[qBa]at e'
  cases e'
  exact .inl ⟨ys,q σ' H' (h'.unbase fl)⟩
noncomputable def zkl(n:Nat)(ds:List PyData):DEnv:=ds.map .pl++List.replicate (n - ds.length) .no
noncomputable def fnD(n:Nat)(f:SF):GF:=λds=>match f (zkl n ds)with
 | some (.rt d fr)=>some (d,fr)
 | some (.nx _)=>some (.none,false)
 | _=>none
theorem zvf{ds:List PyData}{n i:Nat}{sl:Sl}(e:(zkl n ds)[i]?=some sl):(∃d,ds[i]?=some d/\sl=.pl d)\/sl=.no:=by
 unfold zkl at e
 by_cases hi:i<ds.length
 ·rw[qf (by simpa using hi),qT,qF hi]at e
  cases e
  exact .inl ⟨_,qF hi,rfl⟩
 ·rw[qN (by simpa using hi),qA3]at e
  split at e
  ·cases e;exact .inr rfl
  ·cases e
theorem zjd{fx:Addr->Prop}{H:Hp}{N:List Str}{ds:List PyData}{vs:List V}(hf:∀b,fx b->∃o,H b=some o)(r:Rps (Offs fx H) ds vs):EnvOk fx H (zkl N.length ds) (start N vs) H:=by
 have no:∀(i:Nat)(d:PyData),(zkl N.length ds)[i]?≠some (Sl.ac d):=λi d e=>by
  rcases zvf e with⟨d',_,z⟩|z<;>cases z
 refine⟨?_,λi d e=>?_,λi d e=>absurd e (no i d),λi j d e a h1=>absurd h1 (no i d),Same.refl _,hf⟩
 ·unfold zkl start
  rw[qI,qI,qD,qD,qAJ,qAJ,r.length]
 ·rcases zvf e with⟨d',hd,z⟩|z
  ·cases z
   obtain⟨v,hv,rv⟩:=r.get2 hd
   refine⟨v,?_,Rp.same (Offs.sub λb z=>?_) _ rv⟩
   ·unfold start
    have hi:i<vs.length:=(qJ.mp hv).1
    rw[qf (by simpa using hi),qT,hv];rfl
   ·rcases z with z|⟨j,d',z,_⟩
    ·exact z
    ·exact absurd z (no j d')
  ·cases z
theorem fn_d{N:List Str}{n:Nat}{f:SF}{t:TS}(hs:SS t f){vs:List V}{H:Hp}{Q:VK}{E:XK}(h:spD n (fnD N.length f) vs H Q E):t {nx:=λ_ H'=>Q .non H',rt:=Q} (start N vs) H:=by
 obtain⟨fx,ds,d,fr,hn,hf,r,g,k⟩:=h
 unfold fnD at g
 split at g
 ·rename_i d' fr' eo
  cases g
  exact hs fx H _ _ H _ (zjd hf r) _ eo λv H' s rt=>k v H' s rt
 ·rename_i e' eo
  cases g
  exact hs fx H _ _ H _ (zjd hf r) _ eo λσ H' hE=>k .non H' hE.base ⟨ziz,λz=>by cases z⟩
 ·cases g
theorem zcx{n:Nat}{g:GF}{vs:List V}{H:Hp}{Q:VK}{E:XK}(h:spD n g vs H Q E):vs.length=n:=by
 obtain⟨fx,ds,d,fr,hn,hf,r,_⟩:=h
 rw[<- r.length];exact hn
noncomputable def zanr:Sl->Sl
 | .ac d=>.pl d
 | s=>s
noncomputable def envB(own:List Str)(fr:List Nat)(env:DEnv):DEnv:=own.map (λ_=>Sl.no)++fr.map (λj=>zanr (env.getD j .no))
noncomputable def isAc:Option Sl->Bool
 | some (.ac _)=>true
 | _=>false
noncomputable def capA(fr:List Nat)(env:DEnv):List Nat:=fr.filter λj=>isAc env[j]?
theorem zth{own:List Str}{fr:List Nat}{env:DEnv}{i:Nat}{d:PyData}(e:(envB own fr env)[i]?=some (.pl d)):∃j k,i=own.length+k/\fr[k]?=some j/\(env[j]?=some (.pl d)\/env[j]?=some (.ac d)):=by
 unfold envB at e
 by_cases hi:i<own.length
 ·rw[qf (by simpa using hi),qT,qF hi]at e
  cases e
 ·rw[qN (by simpa using hi),qD,qT]at e
  cases ej:fr[i - own.length]? with
  | none=>rw[ej]at e;cases e
  | some j=>
   rw[ej]at e
   refine⟨j,i - own.length,by omega,ej,?_⟩
   have e:zanr (env.getD j .no)=.pl d:=qy e
   rw[qAB]at e
   cases ev:env[j]? with
   | none=>rw[ev]at e;cases e
   | some s=>
    rw[ev]at e
    cases s with
    | no=>cases e
    | pl d'=>cases e;exact .inl rfl
    | ac d'=>cases e;exact .inr rfl
theorem zkm{own:List Str}{fr:List Nat}{env:DEnv}{i:Nat}{d:PyData}:(envB own fr env)[i]?≠some (.ac d):=by
 intro e
 unfold envB at e
 by_cases hi:i<own.length
 ·rw[qf (by simpa using hi),qT,qF hi]at e
  cases e
 ·rw[qN (by simpa using hi),qD,qT]at e
  cases ej:fr[i - own.length]? with
  | none=>rw[ej]at e;cases e
  | some j=>
   rw[ej]at e
   have e:zanr (env.getD j .no)=.ac d:=qy e
   cases ev:env.getD j .no with
   | no=>rw[ev]at e;cases e
   | pl d'=>rw[ev]at e;cases e
   | ac d'=>rw[ev]at e;cases e
theorem zaej{own:List Str}{fr:List Nat}{σ:St}{k j:Nat}{v:V}(hk:fr[k]?=some j)(hv:σ[j]?=some (some v)):(tau own fr σ)[own.length+k]?=some (some v):=by
 unfold tau
 rw[qN (by simp),qD,qBx,qT,hk]
 show some (σ.getD j none)=_
 rw[qAB,hv];rfl
theorem zvg{fx:Addr->Prop}{H0:Hp}{env:DEnv}{σ:St}{H H1:Hp}{p:Addr}(h:EnvOk fx H0 env σ H)(s:Same H H1)(hp:H1 p=none)(own:List Str)(fr:List Nat)(bs:List Nat) :
  EnvOk (λb=>lim fx env σ (bs++capA fr env) b\/b=p) H1 (envB own fr env) (tau own fr σ) (upd H1 p (.lst [])):=by
 have h1:=h.up s
 have sp:Same H1 (upd H1 p (.lst [])):=Same.new hp
 have so:Same (Offs (λb=>fx b\/L2.own env σ b) H1) (Offs (λb=>(lim fx env σ (bs++capA fr env) b\/b=p)\/L2.own (envB own fr env) (tau own fr σ) b) (upd H1 p (.lst []))):=Offs.mono sp λb o e n z=>by
  rcases z with(z|z)|⟨i,d,z,_⟩
  ·exact n (zpc b z)
  ·rw[z,hp]at e;cases e
  ·exact absurd z zkm
 refine⟨?_,λi d e=>?_,λi d e=>absurd e zkm,λi j d e a z=>absurd z zkm,sp,λb z=>?_⟩
 ·unfold envB tau;simp
 ·obtain⟨j,k,rfl,hk,hj⟩:=zth e
  rcases hj with hj|hj
  ·obtain⟨v,h2,h3⟩:=h1.pl j d hj
   exact⟨v,zaej hk h2,Rp.same so _ h3⟩
  ·obtain⟨a,h2,h3,h4,h5⟩:=h1.ac j d hj
   refine⟨_,zaej hk h2,h5.rp so λo eo=>?_⟩
   rw[Offs.get]
   ·exact sp _ _ eo
   ·rintro((z|⟨i',d',z1,z2,z3⟩)|⟨i',d',z,_⟩)
    ·rcases z with z|⟨i',d',z1,z2,z3⟩
     ·exact h4 z
     ·have e2:=h1.inj i' j d' d a z2 hj z3 h2
      subst e2
      refine z1 (qr _ (qCQ.mpr ⟨qp hk,?_⟩))
      rw[hj];rfl
    ·rw[hp]at eo;cases eo
    ·exact absurd z zkm
 ·rcases z with z|z
  ·obtain⟨o,e⟩:=h1.lims _ b z;exact⟨o,sp b o e⟩
  ·rw[z];exact⟨_,zaw⟩
theorem EnvOk.weaken{fx:Addr->Prop}{H0:Hp}{env e1:DEnv}{σ:St}{H:Hp}(h:EnvOk fx H0 e1 σ H)(hl:env.length=e1.length)(hp:∀(i:Nat) (d:PyData),env[i]?=some (.pl d)->e1[i]?=some (.pl d))(ha:∀(i:Nat) (d:PyData),env[i]?≠some (.ac d)):EnvOk fx H0 env σ H:=by
 refine⟨hl.trans h.len,λi d e=>?_,λi d e=>absurd e (ha i d),λi j d e a z=>absurd z (ha i d),h.base,h.fxs⟩
 obtain⟨v,h1,h2⟩:=h.pl i d (hp i d e)
 exact⟨v,h1,Rp.same (Offs.sub λb z=>z.imp (λy=>y) λ⟨j,d',z,_⟩=>absurd z (ha j d')) _ h2⟩
theorem EnvOk.updFx{fx:Addr->Prop}{H0:Hp}{env:DEnv}{σ:St}{H:Hp}{p:Addr}{o:HO}(h:EnvOk fx H0 env σ H)(hp:fx p)(h0:H0 p=none):EnvOk fx H0 env σ (upd H p o):=by
 have so:Offs (λb=>fx b\/own env σ b) (upd H p o)=Offs (λb=>fx b\/own env σ b) H:=Offs.upd (.inl hp)
 refine⟨h.len,λi d e=>?_,λi d e=>?_,h.inj,λb u e=>by rw[zbc (zcp e h0)];exact h.base b u e,λb z=>?_⟩
 ·rw[so];exact h.pl i d e
 ·obtain⟨a,h1,h2,h3,h4⟩:=h.ac i d e
  rw[so]
  exact⟨a,h1,h2,h3,h4.same (Same.refl _) λu z=>by rw[zbc λy=>h3 (by rw[y];exact hp)];exact z⟩
 ·by_cases e:b=p
  ·rw[e];exact⟨_,zaw⟩
  ·obtain⟨u,hu⟩:=h.fxs b z
   exact⟨u,by rw[zbc e];exact hu⟩
noncomputable def GX(n:Nat)(g:GT):Prop:=∀d env e1,g d env=some e1->e1.length=env.length/\∀i,n<=i->e1[i]?=env[i]?
noncomputable def GXs(n:Nat)(g:GTs):Prop:=∀ds env e1,g ds env=some e1->e1.length=env.length/\∀i,n<=i->e1[i]?=env[i]?
theorem zpj{n i:Nat}(h:i<n):GX n (gN i):=by
 intro d env e1 e
 cases e
 exact⟨qx,λj hj=>qO (by omega)⟩
theorem zkn{n:Nat}:GXs n zcq:=by
 intro ds env e1 e
 cases ds with
 | nil=>cases e;exact⟨rfl,λ_ _=>rfl⟩
 | cons _ _=>cases e
theorem zdi{n i:Nat}{g:GTs}(h:i<n)(hg:GXs n g):GXs n (zaq i g):=by
 intro ds env e1 e
 cases ds with
 | nil=>cases e
 | cons d ds=>
  obtain⟨h1,h2⟩:=hg ds _ e1 e
  rw[qx]at h1
  exact⟨h1,λj hj=>(h2 j hj).trans (qO (by omega))⟩
theorem zod{n m:Nat}{g:GTs}(hg:GXs n g):GX n (gT m g):=by
 intro d env e1 e
 unfold gT at e
 cases d with
 | tuple ds=>
  have e:(if ds.length=m then g ds env else none)=some e1:=e
  split at e
  ·exact hg ds env e1 e
  ·cases e
 | _=>cases e
noncomputable def zje(g:GT)(t:TF)(e:EF)(env:DEnv):List PyData->Option (List PyData)
 | []=>some []
 | d::ds=>(g d env).bind λe1=>(t e1).bind λb=>if b=true then(e e1).bind λr=>(zje g t e env ds).map λrs=>r.d::rs else zje g t e env ds
noncomputable def zgi(own:List Str)(fr:List Nat)(fi:IF')(g:GT)(t:TF)(e:EF):EF:=λenv=>(fi env).bind λz=>if z.1.length<100000 then
 (zje g t e (envB own fr env) z.1).map λrs=>⟨.list rs,true,if zhh rs=true then[]else z.2++capA fr env⟩else none
theorem zvh{H H':Hp}{ds:List PyData}{vs:List V}(f:zhh ds=true)(h:Rps H ds vs):Rps H' ds vs:=by
 replace h:=zcb.mp h
 induction h with
 | nil=>exact zet
 | cons h _ ih=>
  unfold zhh at f
  rw[qBE,qb]at f
  exact zfd (zkj f.1 h) (ih f.2)
theorem zic{own:List Str}{fr:List Nat}{wi:TI}{g:TG}{tt:TT}{te:TE}{fi:IF'}{gf:GT}{t:TF}{e:EF}(h1:SI wi fi)(h2:SG g gf)(hx:GX own.length gf)(h3:ST tt t)(h4:SE te e) :
  SE (tComp1 wi g tt te own fr) (zgi own fr fi gf t e):=by
 intro fx H0 env σ H h rr hr Q q
 unfold zgi at hr
 obtain⟨⟨ds,bs⟩,ei,hr⟩:=qA.mp hr
 split at hr
 ·rename_i hlen
  have hlen:ds.length<100000:=hlen
  obtain⟨rs,ers,rfl⟩:=qH.mp hr
  refine h1 fx H0 env σ H h ds bs ei _ λJ H1 s yl=>λp hp=>?_
  have hB:=zvg h s hp own fr bs
  generalize hA:(λb=>lim fx env σ (bs++capA fr env) b)=A
  have hA':∀b,lim fx env σ (bs++capA fr env) b↔A b:=λb=>by rw[<- hA]
  have eA:(λb=>lim fx env σ (bs++capA fr env) b\/b=p)=λb=>A b\/b=p:=by rw[<- hA]
  rw[eA]at hB
  have nA:¬A p:=λz=>by
   obtain⟨o,eo⟩:=(h.up s).lims _ p ((hA' p).mpr z)
   rw[hp]at eo;cases eo
  have seen:∀{σ':St}{H':Hp},EnvOk (λb=>A b\/b=p) H1 (envB own fr env) σ' H'->Same (Offs (λb=>fx b\/L2.own (frzs env bs) σ b) H1) (Offs (λb=>A b\/b=p) H'):=λ{σ' H'} hE=>Offs.mono hE.base λb o eo n z=>by
   rcases z with z|z
   ·rcases(hA' b).mpr z with z|⟨i,d,z1,z2,z3⟩
    ·exact n (.inl z)
    ·exact n (.inr ⟨i,d,ztg (λy=>z1 (qAQ _ y)) z2,z3⟩)
   ·rw[z,hp]at eo;cases eo
  refine⟨λi m σ' H'=>m=ds.length - i/\i<=ds.length/\∃vs done rest,H' p=some (.lst vs)/\Rps (Offs (λb=>A b\/b=p) H') done vs/\done.length<=i/\zje gf t e (envB own fr env) (ds.drop i)=some rest/\done++rest=rs/\EnvOk (λb=>A b\/b=p) H1 (envB own fr env) σ' H',
   ⟨ds.length,rfl,qAr _,[],[],rs,zaw,zet,qAr _,ers,rfl,hB⟩,?_⟩
  rintro i m σ' H' ⟨rfl,hi,vs,done,rest,ep,rd,dl,ec,edr,hE⟩
  obtain⟨yi,ys⟩:=yl _ H' hE.fxs (seen hE)
  by_cases hlt:i<ds.length
  ·obtain⟨yg,yy⟩:=yi i ds[i] (qF hlt)
   refine .inr ⟨yg,λσ'' H''=>i+1<=ds.length/\∃vs done rest,H'' p=some (.lst vs)/\Rps (Offs (λb=>A b\/b=p) H'') done vs/\done.length<=i+1/\zje gf t e (envB own fr env) (ds.drop (i+1))=some rest/\done++rest=rs/\EnvOk (λb=>A b\/b=p) H1 (envB own fr env) σ'' H'',?_,?_⟩
   ·rintro σ'' H'' ⟨hle,hh⟩
    exact⟨ds.length - (i+1),by omega,rfl,hle,hh⟩
   ·intro x H'' hy
    obtain⟨sy,ry⟩:=yy x H'' hy
    rw[qAm hlt]at ec
    obtain⟨e1,ee1,ec⟩:=qA.mp ec
    obtain⟨b,eb,ec⟩:=qA.mp ec
    have ry':Rp (Offs (λa=>(A a\/a=p)\/L2.own (envB own fr env) σ' a) H'') ds[i] x:=Rp.same (Offs.sub λb z=>z.elim (λy=>y) λ⟨j,d',z,_⟩=>absurd z zkm) _ ry
    refine h2 _ H1 (envB own fr env) σ' H'' _ x (hE.up sy) ry' e1 ee1 _ λσ2 hE2=>?_
    refine h3 _ H1 e1 σ2 H'' hE2 b eb _ λH3 s3=>?_
    have hE3:=hE2.up s3
    obtain⟨gl,gk⟩:=hx _ _ _ ee1
    have back:∀{H4:Hp},EnvOk (λb=>A b\/b=p) H1 e1 σ2 H4->EnvOk (λb=>A b\/b=p) H1 (envB own fr env) σ2 H4:=λ{H4} hh=>hh.weaken gl.symm (λj d' ej=>by
     by_cases hj:own.length<=j
     ·rw[gk j hj];exact ej
     ·obtain⟨_,k,rfl,_⟩:=zth ej;omega) λj d'=>zkm
    cases b with
    | false=>
     have ec:zje gf t e (envB own fr env) (ds.drop (i+1))=some rest:=ec
     exact iteF ⟨hlt,vs,done,rest,s3 _ _ (sy _ _ ep),Rps.same (Offs.grow (sy.trans s3)) _ rd,Nat.le_succ_of_le dl,ec,edr,back hE3⟩
    | true=>
     have ec:((e e1).bind λr=>(zje gf t e (envB own fr env) (ds.drop (i+1))).map λrs=>r.d::rs)=some rest:=ec
     obtain⟨r,er,ec⟩:=qA.mp ec
     obtain⟨rest',er',rfl⟩:=qH.mp ec
     refine iteT (h4 _ H1 e1 σ2 H3 hE3 r er _ λv H4 s4 hv=>?_)
     have t4:=(sy.trans s3).trans s4
     refine⟨vs,t4 _ _ ep,znq (by rw[<- rd.length];omega),hlt,vs++[v],done++[r.d],rest',zaw,?_,by rw[qI];simp;omega,er',by rw[<- edr];simp,(back (hE3.up s4)).updFx (.inr rfl) hp⟩
     rw[Offs.upd (.inr rfl)]
     exact(Rps.same (Offs.grow t4) _ rd).append (zfd (Rp.same (Offs.sub λb z=>.inl z) _ hv.rp) zet)
  ·have hi':i=ds.length:=by omega
   subst hi'
   rw[qBa]at ec
   cases ec
   rw[qv]at edr
   subst edr
   refine .inl ⟨ys,q _ H' (s.trans hE.base) ⟨?_,λ_=>⟨p,rfl,s.free hp,?_⟩⟩⟩
   ·show Rp (Offs (lim fx env σ (if zhh done=true then[]else bs++capA fr env)) H') (.list done) (.ref p)
    have nl:∀cs,¬lim fx env σ cs p:=λcs z=>by
     obtain⟨o,eo⟩:=(h.up s).lims _ p z
     rw[hp]at eo;cases eo
    refine zja (by rw[Offs.get (nl _)];exact ep) ?_
    split
    ·rename_i f;exact zvh f rd
    ·exact Rps.same (Offs.sub λb z=>.inl ((hA' b).mp z)) _ rd
   ·show zjb (Offs (λb=>lim fx env σ (if zhh done=true then[]else bs++capA fr env) b\/b=p) H') H' p (.list done)
    refine⟨vs,ep,?_⟩
    split
    ·rename_i f;exact zvh f rd
    ·exact Rps.same (Offs.sub λb z=>z.imp (hA' b).mp id) _ rd
 ·cases hr
section
variable{X:Cx}{K:qB}
theorem zaek(hK:X.K=K){a:Expr}{ta:TE}(ha:PE X a ta)(he:∀whole,isTrue a X.env whole=(do let v <- whole;standAt a.pos;holding [v] (truthy v))) :
  PT X a (λσ H Q=>ta σ H λx H'=>∃k,TruV K x H' k/\Q k H'):=by subst hK;exact zaih ha he
theorem zmk(hK:X.K=K):CallR X (.type "tuple") (λxs H Q=>∃p ys,xs=[.ref p]/\((SqL K H p ys/\∀l,H l=none->Q (.ref l) (upd H l (.tup ys)))\/(SqT K H p ys/\Q (.ref p) H))):=by subst hK;exact zst
theorem zlv(hK:X.K=K)(hu:X.A.units+64<cLine):OpR X (compareOp .Eq) (λx y H Q=>rEq x y H Q\/rEqD K false x y H Q):=by subst hK;exact zaua.or (zarr hu)
theorem zmt(hK:X.K=K)(hu:X.A.units+64<cLine):OpR X (compareOp .NotEq) (λx y H Q=>rNe x y H Q\/rEqD K true x y H Q):=by subst hK;exact zaub.or (zars hu)
noncomputable def zdt:TF:=λ_=>some true
theorem zjf:ST tAll zdt:=by
 intro fx H0 env σ H hE b hb Q q
 cases hb
 exact q H (Same.refl _)
noncomputable def rIsC(neg:Bool):R2:=λx y H Q=>∃b,y=.bl b/\Q (.bl (if neg then !decide (x=y)else decide (x=y))) H
theorem zael{x:V}{v:Value}{b:Bool}(r:RelV x v):(v==Value.bool b)=decide (x=.bl b):=by
 cases x with
 | non=>cases r;rfl
 | bl c=>cases r;cases b<;>cases c<;>rfl
 | int _=>obtain⟨t,rfl⟩:=r;rfl
 | str _=>obtain⟨t,rfl⟩:=r;rfl
 | byt _=>obtain⟨t,rfl⟩:=r;rfl
 | flt _=>obtain⟨t,rfl⟩:=r;rfl
 | ref _=>cases r;rfl
 | ty _=>cases r;rfl
theorem zabr{x:V}{v:Value}{b:Bool}(r:RelV x v):plainIs v (.bool b)=true:=by
 cases x with
 | non=>cases r;rfl
 | bl c=>cases r;rfl
 | int _=>obtain⟨t,rfl⟩:=r;rfl
 | str _=>obtain⟨t,rfl⟩:=r;rfl
 | byt _=>obtain⟨t,rfl⟩:=r;rfl
 | flt _=>obtain⟨t,rfl⟩:=r;rfl
 | ref _=>cases r;rfl
 | ty _=>cases r;rfl
theorem zaem:OpR X (compareOp .IsNot) (rIsC true):=by
 intro pins s σ H x y v u Q I rx ry h
 obtain⟨b,rfl,q⟩:=h
 cases ry
 exact wpAny_isNot_plain (zabr rx) ⟨.bl _,H,I,by rw[zael rx];rfl,q⟩
noncomputable def isB:PyData->Bool->Bool
 | .bool c,b=>c==b
 | _,_=>false
noncomputable def isCD(neg:Bool):OF:=λd e=>match e with
 | .bool b=>some (.bool (if neg then !isB d b else isB d b),false)
 | _=>none
theorem zaum{H:Hp}{d:PyData}{v:V}{b:Bool}(h:Rp H d v):decide (v=.bl b)=isB d b:=by
 cases d with
 | list ds=>obtain⟨a,xs,rfl,_⟩:=zeb h;rfl
 | tuple ds=>obtain⟨a,xs,rfl,_⟩:=zcv h;rfl
 | dict ds=>obtain⟨a,xs,rfl,_⟩:=zoz h;rfl
 | bool c=>cases zis h;exact zzq
 | _=>unfold Rp at h;subst h;rfl
theorem zaun{neg:Bool}:SO (rIsC neg) (isCD neg):=by
 intro A H x y dx dy hA rx ry d fr e Q q
 unfold isCD at e
 split at e
 ·cases e
  cases zis ry
  refine⟨_,rfl,?_⟩
  rw[zaum rx]
  exact q _ H (Same.refl _) zan (λz=>by cases z)
 ·cases e
noncomputable def eNeg(a:EF):EF:=λenv=>(a env).bind λx=>match x.d with|.int i=>some ⟨.int (-i),false,[]⟩|_=>none
theorem zaen{te:TE}{f:EF}(h1:SE te f):SE (tUn (rU λi=>.int (-i)) te) (eNeg f):=by
 intro fx H0 env σ H h rr hr Q q
 unfold eNeg at hr
 obtain⟨⟨d,fr,bs⟩,ex,hr⟩:=qA.mp hr
 cases d with
 | int i=>
  cases hr
  exact h1 fx H0 env σ H h _ ex _ λv H1 s1 v1=>⟨i,zcw v1.rp,q _ H1 s1 ⟨zad,λz=>by cases z⟩⟩
 | _=>cases hr
noncomputable def zjz(f g:OF)(a b c:EF):EF:=λenv=>(a env).bind λx=>(b env).bind λy=>(f x.d y.d).bind λz=>(asB z.1).bind λk=>if k=true then(c env).bind λw=>(g y.d w.d).bind λu=>if zex u.1=true then some ⟨u.1,false,[]⟩else none else some ⟨.bool false,false,[]⟩
theorem zti{r r':R2}{f g:OF}{ta tb tc:TE}{fa fb fc:EF}(ho:SO r f)(ho':SO r' g)(ha:SE ta fa)(hb:SE tb fb)(hc:SE tc fc):SE (tChain r r' ta tb tc) (zjz f g fa fb fc):=by
 intro fx H0 env σ H h rr hr Q q
 unfold zjz at hr
 obtain⟨x,ex,hr⟩:=qA.mp hr
 obtain⟨y,ey,hr⟩:=qA.mp hr
 obtain⟨⟨d,fr⟩,ez,hr⟩:=qA.mp hr
 obtain⟨k,ek,hr⟩:=qA.mp hr
 refine ha fx H0 env σ H h x ex _ λv H1 s1 v1=>hb fx H0 env σ H1 (h.up s1) y ey _ λu H2 s2 v2=>?_
 have l1:∀b,lim fx env σ (x.bs++y.bs) b->lim fx env σ x.bs b:=zjp λi hi=>qAQ _ hi
 have l2:∀b,lim fx env σ (x.bs++y.bs) b->lim fx env σ y.bs b:=zjp λi hi=>qr _ hi
 refine ho (lim fx env σ (x.bs++y.bs)) H2 v u x.d y.d ((h.up (s1.trans s2)).lims _) (v1.later (Same.refl _) s2 l1).rp (v2.later (Same.refl _) (Same.refl _) l2).rp d fr ez _ λw H3 s3 rp _=>⟨k,as_b rp ek,?_⟩
 have t3:=(s1.trans s2).trans s3
 cases k with
 | false=>cases hr;exact iteF (q _ H3 t3 ⟨zan,λz=>by cases z⟩)
 | true=>
  have hr:((fc env).bind λw=>(g y.d w.d).bind λu=>if zex u.1=true then some (⟨u.1,false,[]⟩:Val)else none)=some rr:=hr
  obtain⟨w',ew,hr⟩:=qA.mp hr
  obtain⟨⟨d',fr'⟩,ez',hr⟩:=qA.mp hr
  split at hr
  ·rename_i hf
   cases hr
   refine iteT (hc fx H0 env σ H3 (h.up t3) w' ew _ λv' H4 s4 v4=>?_)
   have l3:∀b,lim fx env σ (y.bs++w'.bs) b->lim fx env σ y.bs b:=zjp λi hi=>qAQ _ hi
   have l4:∀b,lim fx env σ (y.bs++w'.bs) b->lim fx env σ w'.bs b:=zjp λi hi=>qr _ hi
   exact ho' (lim fx env σ (y.bs++w'.bs)) H4 u v' y.d w'.d ((h.up (t3.trans s4)).lims _) (v2.later (Same.refl _) (s3.trans s4) l3).rp (v4.later (Same.refl _) (Same.refl _) l4).rp d' fr' ez' _ λw2 H5 s5 rp5 _=>
    q w2 H5 ((t3.trans s4).trans s5) ⟨zkj hf rp5,λz=>by cases z⟩
  ·cases hr
end
end L2
namespace PySem
open Sem (wp)
end PySem
namespace L2
open PySem PySem.Spec PyProof.Rows
theorem zoe{α β:Type}{F:α->β->Prop}:∀{l:List α}{r:List β}{i:Nat}{x:α},Paired F l r->l[i]?=some x->∃y,r[i]?=some y/\F x y
 | _,_,_,_,.nil,e=>by simp at e
 | _,_,0,_,.cons h _,e=>by simp at e;subst e;exact⟨_,rfl,h⟩
 | _,_,i+1,x,.cons _ t,e=>by
  obtain⟨y,h1,h2⟩:=zoe (i:=i) (x:=x) t (by simpa using e)
  exact⟨y,by simpa using h1,h2⟩
noncomputable def zald:List PyData->Option (List (PyData×PyData))
 | []=>some []
 | .tuple [k,v]::r=>(keyD k).bind λ_=>(zald r).map λps=>(k,v)::ps
 | _=>none
noncomputable def zavj:GF
 | [.list rows]=>(zald rows).map λps=>(.dict (zanl [] ps),true)
 | _=>none
noncomputable def zml(i j:Nat)(f:EF):SF:=λenv=>match env[i]?,env[j]? with
 | some (.ac (.list ds)),some (.ac (.list es))=>(f env).bind λr=>match r.d with
  | .int k=>if 0<=k/\k<100000/\ds.length<100000/\i≠j then(es[k.toNat]?).bind λd=>some (.nx ((env.set j (.ac (.list (es.eraseIdx k.toNat)))).set i (.ac (.list (ds++[d])))))else none
  | _=>none
 | _,_=>none
theorem Rps.erase{H:Hp}{ds:List PyData}{vs:List V}(h:Rps H ds vs)(n:Nat):Rps H (ds.eraseIdx n) (vs.eraseIdx n):=by
 induction n generalizing ds vs with
 | zero=>
  cases ds with
  | nil=>unfold Rps at h;subst h;exact zet
  | cons d ds=>unfold Rps at h;obtain⟨v,ws,rfl,h1,h2⟩:=h;exact h2
 | succ n ih=>
  cases ds with
  | nil=>unfold Rps at h;subst h;exact zet
  | cons d ds=>unfold Rps at h;obtain⟨v,ws,rfl,h1,h2⟩:=h;exact zfd h1 (ih h2)
theorem zaeo{K:qB}{i j:Nat}{te:TE}{f:EF}(h1:SE te f):SS (tDrop (tBM K "list" zsu (tVar i) (tCons (tBM K "list" zadq (tVar j) (tCons te tNil)) tNil))) (zml i j f):=by
 intro fx H0 env σ H D h o e q
 unfold zml at e
 split at e
 ·rename_i ds es ei ej
  obtain⟨⟨rd,rfr,rbs⟩,er,e⟩:=qA.mp e
  cases rd with
  | int k=>
   have e:(if 0<=k/\k<100000/\ds.length<100000/\i≠j then(es[k.toNat]?).bind λd=>some (Out.nx ((env.set j (.ac (.list (es.eraseIdx k.toNat)))).set i (.ac (.list (ds++[d])))))else none)=some o:=e
   split at e
   ·rename_i hl
    obtain⟨d,ed,e⟩:=qA.mp e
    cases e
    obtain⟨a,g1,g2,g3,g4⟩:=h.ac i _ ei
    obtain⟨xs,hx,rx⟩:=g4
    obtain⟨b,k1,k2,k3,k4⟩:=h.ac j _ ej
    obtain⟨ys,hy,ry⟩:=k4
    have hab:a≠b:=λz=>hl.2.2.2 (h.inj i j _ _ a ei ej g1 (by rw[z];exact k1))
    refine⟨_,g1,.inl ⟨rfl,_,SqL.of hx⟩,_,k1,.inl ⟨rfl,_,SqL.of hy⟩,h1 fx H0 env σ H h _ er _ λv H' s hv=>?_⟩
    cases zcw hv.rp
    have h':=h.up s
    have hy':=s _ _ hy
    have hx':=s _ _ hx
    have ry':Rps (Offs (λb=>fx b\/own env σ b) H') es ys:=Rps.same (Offs.grow s) _ ry
    have rx':Rps (Offs (λb=>fx b\/own env σ b) H') ds xs:=Rps.same (Offs.grow s) _ rx
    obtain⟨u,hu,ru⟩:=ry'.get2 ed
    have hlt:k.toNat<ys.length:=(qJ.mp hu).1
    have hsq:seqIndex? k ys.length=some k.toNat:=seqIndex_of hl.1 (by omega)
    refine⟨b,ys,k,k.toNat,u,rfl,rfl,hy',by omega,by omega,hsq,hu,?_⟩
    have h2:=h'.mut ej k1 (d':=.list (es.eraseIdx k.toNat)) (o:=.lst (ys.eraseIdx k.toNat)) ⟨_,zaw,ry'.erase _⟩
    have ei2:(env.set j (.ac (.list (es.eraseIdx k.toNat))))[i]?=some (.ac (.list ds)):=by rw[qO (qBA hl.2.2.2)];exact ei
    have hx2:(upd H' b (.lst (ys.eraseIdx k.toNat))) a=some (.lst xs):=by rw[zbc hab];exact hx'
    obtain⟨a',z1,_,_,z4⟩:=h2.ac i _ ei2
    rw[g1]at z1
    cases z1
    obtain⟨zs,y1,y2⟩:=z4
    rw[hx2]at y1
    cases y1
    have ow:Same (Offs (λb=>fx b\/own env σ b) H') (Offs (λc=>fx c\/own (env.set j (.ac (.list (es.eraseIdx k.toNat)))) σ c) (upd H' b (.lst (ys.eraseIdx k.toNat)))):=by
     have t:Same (Offs (λb=>fx b\/own env σ b) (upd H' b (.lst (ys.eraseIdx k.toNat)))) (Offs (λc=>fx c\/own (env.set j (.ac (.list (es.eraseIdx k.toNat)))) σ c) (upd H' b (.lst (ys.eraseIdx k.toNat)))):=Offs.sub λc z=>z.imp (λy=>y) λ⟨m,d1,w1,w2⟩=>by
      rcases zcc w1 with⟨rfl,_⟩|⟨_,w1⟩
      ·exact⟨m,_,ej,w2⟩
      ·exact⟨m,d1,w1,w2⟩
     rw[Offs.upd (.inr ⟨j,_,ej,k1⟩)]at t
     exact t
    refine⟨a,xs,u,rfl,rfl,hx2,znq (by rw[<- rx.length];exact hl.2.2.1),?_⟩
    exact q σ _ (h2.mut ei2 g1 ⟨_,zaw,y2.append (zfd (Rp.same ow _ ru) zet)⟩)
   ·cases e
  | _=>cases e
 ·cases e
theorem zans{X:Cx}{K:qB}(hK:X.K=K){T:String}{name:Str}{id:String}{r:V->List V->Hp->VK->Prop}{o:Expr}{to:TE}{apos cpos:Pos}(pa:PlainAttrs T)(slot:Slot T name id)(hty:typeOf (.builtin id)=pure (.type "method_descriptor"))(hm:MtR X id r)(ho:PE X o to)
  (hbase:attributeBase o name X.env (eval o X.env)=eval o X.env:=by rfl)
  (hline:(apos.endLine==cpos.line)=true:=by rfl) :
  PE X (.Call (.Attribute o name apos) [] [] cpos) (tBM0 K T r to):=by subst hK;exact zarj pa slot hty hm ho hbase hline
noncomputable def zavh(i:Nat)(b:EF):EF:=λenv=>match env[i]? with
 | some (.pl (.dict kvs))=>(b env).bind λy=>(keyD y.d).bind λk=>(zank kvs k).bind λd=>some ⟨d,false,[]⟩
 | some (.ac (.dict kvs))=>(b env).bind λy=>(keyD y.d).bind λk=>(zank kvs k).bind λd=>some ⟨d,false,[]⟩
 | _=>none
noncomputable def eIxV(i:Nat)(b:EF):EF:=λenv=>match env[i]? with
 | some (.ac (.list ds))=>(b env).bind λy=>match y.d with
  | .int k=>(atI ds k).map λd=>⟨d,false,[]⟩
  | _=>none
 | _=>eOp ixD (eVar i) b env
theorem zbp{K:qB}{i:Nat}{tb:TE}{fb:EF}(hb:SE tb fb):SE (tOp (rIxU K) (tVar i) tb) (eIxV i fb):=by
 intro fx H0 env σ H h rr hr Q q
 unfold eIxV at hr
 split at hr
 ·rename_i ds ei
  obtain⟨⟨dy,fy,bys⟩,ey,hr⟩:=qA.mp hr
  cases dy with
  | int k=>
   obtain⟨d,ed,rfl⟩:=qH.mp hr
   obtain⟨a,h1,h2,h3,xs,ha,r⟩:=h.ac i _ ei
   refine⟨_,h1,hb fx H0 env σ H h _ ey _ λu H2 s2 v2=>?_⟩
   cases zcw v2.rp
   obtain⟨v,hv,rv⟩:=(Rps.same (Offs.grow s2) _ r).atI ed
   exact⟨xs,v,.inl (SqL.of (s2 _ _ ha)),hv,q _ H2 s2 ⟨Rp.same (Offs.sub zpc) _ rv,λz=>by cases z⟩⟩
  | _=>cases hr
 ·exact zay zanj (zaa i) hb fx H0 env σ H h rr hr Q q
end L2
namespace PySem
open Sem (wp)
theorem ziu:plainId "set.update.loop"=true:=by decide +kernel
theorem zlw:entryFor table "set.update.loop"=some Builtin.«set.update.loop»:=entryFor_of_fast (by kernel_rfl)
theorem zvi:isSubtype (.type "list") (.type "set")=pure false:=by rw[isSubtype_type];kernel_rfl
theorem ztj:isSubtype (.type "list") (.type "frozenset")=pure false:=by rw[isSubtype_type];kernel_rfl
theorem zaep(a:Value):checkBuiltinCall "set.__new__" ⟨[.type "set",a],[]⟩=pure ():=by kernel_rfl
theorem zabs(a:Value):checkTypeCall "set" ⟨[a],[]⟩=pure ():=by kernel_rfl
end PySem
namespace L2
open PySem PySem.Spec PyProof.Rows
instance memKey (k:Key) (l:List Key):Decidable (k∈l):=decidable_of_iff (∃x,x∈l/\x=k) ⟨λ⟨x,h,e⟩=>e▸h,λh=>⟨k,h,rfl⟩⟩
noncomputable def unl(seen:List Key):List Key->Nat
 | []=>0
 | k::ks=>(if k∈seen then 0 else 1)+unl (k::seen) ks
theorem zaja{prog:Program}{w:World}{A:Around}{R:Result->Shared->Prop}{d it l:Addr}{h0:Heap}{items:List Value}{ks:List Key}(hA:A.in1.handled=none)
  (pr:Paired (λ(v:Value) (k:Key)=>zsn k v=true/\v.scannable=true) items ks)(hl:h0.IsList l items.toArray)(hd:h0.get? d=none)(hi:h0.get? it=none)(hdi:d≠it)(hz:items.length<4000) :
  ∀(k i:Nat)(s:Shared)(seen:List Key)(n:Nat),items.length - i=k->i<=items.length->s.heap.IsListIter it l i->s.heap.SetOf (zgg prog w) d (λx=>decide (x∈seen)) n->(∀b o,h0.get? b=some o->s.heap.get? b=some o)->n<=i->
  (∀h' tk' S,h'.SetOf (zgg prog w) d S (n+unl seen (ks.drop i))->(∀b o,h0.get? b=some o->h'.get? b=some o)->R (.ok (.ret .none)) {s with heap:=h',toks:=tk'})->
  codeAny (model prog w) A (.builtin "set.update.loop" ⟨[.ref d,.ref it],[]⟩) R s:=by
 have hlen:=pr.length
 have keepL:∀{h:Heap},(∀b o,h0.get? b=some o->h.get? b=some o)->h.IsList l items.toArray:=λ{h} kp=>Heap.IsList.at hl λo e=>kp _ o e
 intro k
 induction k with
 | zero=>
  intro i s seen n hk hile hit hdo kp hn hR
  have hin:i=items.length:=by omega
  subst hin
  refine qCk zlw ?_
  rw[qCp ziu _]
  show wpAny _ A.in1 (pyNext (.ref it) >>=_) _ _ s
  refine qE (wpAny_pyNext_list_end hA hit (keepL kp) (by simp) λh' eb=>?_)
  refine qQ ?_
  refine hR h' s.toks (λx=>decide (x∈seen)) ?_ λb o e=>eb b o (λz=>by rw[z,hi]at e;cases e) (kp b o e)
  rw[qCm (by omega)]
  obtain⟨o,es,ep,t,q1,q⟩:=hdo
  exact⟨o,es,ep,t,eb _ _ hdi q1,q⟩
 | succ k ih=>
  intro i s seen n hk hile hit hdo kp hn hR
  have hlt:i<items.length:=by omega
  obtain⟨p,hp,hkey,hsc⟩:=zoe pr (qF hlt)
  refine qCk zlw ?_
  rw[qCp ziu _]
  show wpAny _ A.in1 (pyNext (.ref it) >>=_) _ _ s
  refine qE (wpAny_pyNext_list_item hit (keepL kp) (x:=items[i]) (by simp[hlt]) λh1 hit1 sb1=>?_)
  have kp1:∀b o,h0.get? b=some o->h1.get? b=some o:=λb o e=>(sb1.2 b (λz=>by rw[z,hi]at e;cases e)).trans (kp b o e)
  have hd1:h1.SetOf (zgg prog w) d (λx=>decide (x∈seen)) n:=by
   obtain⟨o,es,ep,t,q1,q⟩:=hdo
   exact⟨o,es,ep,t,(sb1.2 d hdi).trans q1,q⟩
  show wpAny _ _ (holding [items[i]] (setAdd d items[i]) >>=_) _ _ _
  refine qE (qBW ?_)
  unfold setAdd
  refine qBW (qE ((zgg prog w).pyHash hkey ?_))
  refine wpAny_setAddHashed_of (knd:=zgg prog w) (k:=p) hkey hsc hd1 (by show n+1<4096;omega) λh2 sb2 hd2=>?_
  have hit2:h2.IsListIter it l (i+1):=by obtain⟨o,q1,q2,q3⟩:=hit1;exact⟨o,(sb2.2 _ (qBA hdi)).trans q1,q2,q3⟩
  refine qQ ⟨plainId_quiet ziu _,?_⟩
  have kp2:∀b o,h0.get? b=some o->h2.get? b=some o:=λb o e=>(sb2.2 b (λz=>by rw[z,hd]at e;cases e)).trans (kp1 b o e)
  have eS:(λk'=>decide (k'∈seen)||decide (k'=p))=λx=>decide (x∈p::seen):=by
   funext x;by_cases h1:x=p<;>by_cases h2:x∈seen<;>simp[h1,h2]
  rw[eS]at hd2
  refine ih (i+1) _ (p::seen) _ (by omega) hlt hit2 hd2 kp2 (by split<;>omega) λh' tk' S hS kp'=>?_
  refine hR h' tk' S ?_ kp'
  have e:ks.drop i=p::ks.drop (i+1):=by
   obtain⟨hh,e⟩:=qJ.mp hp
   rw[<- e];exact qAm hh
  rw[e]
  unfold unl
  have:n+((if p∈seen then 0 else 1)+unl (p::seen) (ks.drop (i+1)))=(if decide (p∈seen)=true then n else n+1)+unl (p::seen) (ks.drop (i+1)):=by
   by_cases h:p∈seen<;>simp[h]<;>omega
  rw[this]
  exact hS
theorem zaeq{prog:Program}{w:World}{A:Around}{E:Value->Shared->Prop}{s:Shared}(a:Value){Q₁:Value->Shared->Prop}
  (h:∀led:Bool,Q₁ (.ref s.heap.objs.size) {s with heap:=s.heap.push {cls:=.type "set",dict:=none,data:=.set #[] 0 (.fresh 0 0 led)}}) :
  codeAny (model prog w) A (.call (.builtin "set.__new__") ⟨[.type "set",a],[]⟩) (wants Q₁ E) s:=by
 refine qBJ F.plain_set_new F.entry_set_new (qCj (zaep a) ?_)
 have hsub:=sub_set_self
 obtain⟨hp,g,d,tk,os⟩:=s
 unfold Builtin.«set.__new__» Builtin.Frozenset.newClass
 dsimp only
 wp_walk
 refine wpAny_askSetting (qQ ?_)
 dsimp only
 simp only[newObj]
 refine qE (wpAny_alloc (qQ ?_))
 exact qQ (h _)
theorem zyj{M:Model}{A:Around}{E:Value->Shared->Prop}{s:Shared}{self v:Value}{Q:Unit->Shared->Prop}(hT:s.TypeIs self "set")(hQ:Q () s) :
  wpAny M A (checkBuiltinCall "set.__init__" ⟨[self,v],[]⟩) Q E s:=by
 simp only[checkBuiltinCall,kind_set_init,split_set_init,sig_set_init]
 refine qE (qB7 hT sub_set_self ?_)
 simp only[Bool.not_true,qBS,if_false]
 unfold Bind.checkArgs
 dsimp only
 refine qE (m:=Bind.printed "set" true _ _) (printed_name (by decide) ?_)
 refine qE (m:=Bind.printed "*" false _ _) (printed_star (self:=self) rfl hT λshort=>?_)
 have e:(Manifest.Receiver.self==Manifest.Receiver.none)=false:=by decide
 have n:(if(Manifest.Receiver.self==Manifest.Receiver.none)=true then[self,v].length else[self,v].length - 1)=1:=by simp[e]
 rw[n]
 simp only[List.map_nil]
 have c:Bind.check ⟨.positional,"set","*",.self,[⟨"iterable",.posOnly,false⟩]⟩ "set" short 1 []=pure ():=by
  first|rfl|kernel_rfl
 rw[c]
 exact qQ hQ
theorem zant{prog:Program}{w:World}{h:Heap}{led:Bool}:(h.push {cls:=.type "set",dict:=none,data:=.set #[] 0 (.fresh 0 0 led)}).SetOf (zgg prog w) h.objs.size (λx=>decide (x∈([]:List Key))) 0:=by
 refine⟨_,#[],0,_,qd _ rfl,⟨rfl,rfl,rfl⟩,rfl,λe he=>?_,λk=>?_,by decide,by cases led<;>rfl,rfl⟩
 ·simp at he
 ·simp
theorem ztk{prog:Program}{w:World}{A:Around}{E:Value->Shared->Prop}{s:Shared}{l:Addr}{items:List Value}{ks:List Key}{Q:Value->Shared->Prop}(hA:A.handled=none)
  (pr:Paired (λ(v:Value) (k:Key)=>zsn k v=true/\v.scannable=true) items ks)(hl:s.heap.IsList l items.toArray)(hz:items.length<4000)
  (h:∀h' tk S,h'.SetOf (zgg prog w) s.heap.objs.size S (unl [] ks)->(∀b o,s.heap.get? b=some o->h'.get? b=some o)->Q (.ref s.heap.objs.size) {s with heap:=h',toks:=tk}) :
  wpAny (model prog w) A (call (.type "set") [.ref l]) Q E s:=by
 obtain⟨c,tl,hmro⟩:=qBQ.mro
 have hmade:=qBQ.made
 have hsub:=qBQ.sub
 refine qBm (codeAny_of_tree ?_)
 show wpAny _ _ (callAny (.type "set") _) _ _ _
 refine qQ ⟨qCG _ (by decide +kernel),qCk F.entry_type_call ?_⟩
 rw[Around.under_plain (weight_type_call_type "set" [.ref l] []) rfl]
 have h1:=qBQ.notType
 have h2:=qBQ.canCreate
 have hct:=zabs (.ref l)
 repeat (any_goals (first|assumption|wp_step))
 refine qA6 (zaeq (E:=E) (.ref l) (Q₁:=λobj s₁=>∃led:Bool,obj=.ref s.heap.objs.size/\s₁={s with heap:=s.heap.push {cls:=.type "set",dict:=none,data:=.set #[] 0 (.fresh 0 0 led)}}) λled=>⟨led,rfl,rfl⟩) λr s₁ hr=>?_
 cases r with
 | error e=>exact hr
 | ok fl=>
  cases fl with
  | ret obj=>
   obtain⟨led,rfl,rfl⟩:=hr
   have hS:=zant (prog:=prog) (w:=w) (h:=s.heap) (led:=led)
   have hT:Shared.TypeIs {s with heap:=s.heap.push {cls:=.type "set",dict:=none,data:=.set #[] 0 (.fresh 0 0 led)}} (.ref s.heap.objs.size) "set":=⟨_,qd _ rfl,rfl⟩
   have hli:=qBQ.init.lookup
   have hbi:=qBQ.init.bind (.ref s.heap.objs.size)
   repeat (any_goals (first|assumption|wp_step))
   refine qA6 (qBJ (R:=wants (λr s₂=>r=.none/\Q (.ref s.heap.objs.size) s₂) E) qBQ.init.plain F.entry_set_init (zyj hT ?_)) λr₂ s₂ hr₂=>?_
   ·unfold Builtin.«set.__init__» noKeywords
    obtain⟨ol,g1,g2,n3,g3⟩:=id hl
    have hl':(s.heap.push {cls:=.type "set",dict:=none,data:=.set #[] 0 (.fresh 0 0 led)}).get? l=some ol:=qG _ g1
    have hTl:Shared.TypeIs {s with heap:=s.heap.push {cls:=.type "set",dict:=none,data:=.set #[] 0 (.fresh 0 0 led)}} (.ref l) "list":=⟨_,hl',g2⟩
    have n1:=zvi
    have n2:=ztj
    have hst:∀{P:Bool->Shared->Prop}{E':Value->Shared->Prop}{A':Around},P false {s with heap:=s.heap.push {cls:=.type "set",dict:=none,data:=.set #[] 0 (.fresh 0 0 led)}}->wpAny (model prog w) A' (setUsed s.heap.objs.size) P E' {s with heap:=s.heap.push {cls:=.type "set",dict:=none,data:=.set #[] 0 (.fresh 0 0 led)}}:=λhP=>by
     unfold setUsed
     refine qE (wpAny_setState_of (qd _ rfl) rfl (by cases led<;>rfl) (qQ ?_))
     cases led<;>exact hP
    refine qE (m:=(pure ():Sem Unit)) (qQ ?_)
    refine qE ?_
    unfold typeNameOfCut shownTypeOf
    refine qE ?_
    refine thn (Q:=λa s'=>a=.type "set"/\s'={s with heap:=s.heap.push {cls:=.type "set",dict:=none,data:=.set #[] 0 (.fresh 0 0 led)}}) ?_ λa s' ha=>?_
    ·repeat (any_goals (first|assumption|wp_step))
     exact⟨rfl,rfl⟩
    obtain⟨rfl,rfl⟩:=ha
    refine qQ ?_
    refine qE (qQ ?_)
    refine qE (qQ ?_)
    refine qE (hst ?_)
    show wpAny _ _ (Builtin.Frozenset.updateFrom "set.__init__" s.heap.objs.size (.ref l) >>=_) _ _ _
    unfold Builtin.Frozenset.updateFrom Builtin.Frozenset.isAnySet
    refine qE (qE (thn (Q:=λb s'=>b=false/\s'={s with heap:=s.heap.push {cls:=.type "set",dict:=none,data:=.set #[] 0 (.fresh 0 0 led)}}) ?_ λb s' hb=>?_))
    ·simp only[orM]
     refine qE (qB7 hTl n1 ?_)
     exact qB7 hTl n2 ⟨rfl,rfl⟩
    obtain⟨rfl,rfl⟩:=hb
    rw[if_neg (by decide)]
    refine qE (qCC hTl ?_)
    rw[if_neg (by decide)]
    have g0:∀b o,s.heap.get? b=some o->(s.heap.push {cls:=.type "set",dict:=none,data:=.set #[] 0 (.fresh 0 0 led)}).get? b=some o:=λb o e=>qG _ e
    refine qE (qBc (items:=items.toArray) ⟨ol,hl',g2,n3,g3⟩ ?_)
    have hsz:s.heap.objs.size<(s.heap.push {cls:=.type "set",dict:=none,data:=.set #[] 0 (.fresh 0 0 led)}).objs.size:=qU (qd _ rfl)
    refine qE (wpAny_runValue (zaja (h0:=s.heap) (by exact hA) pr hl (qBG (qM _)) (qBG (qBn hsz)) (qAG hsz) hz items.length 0 _ [] 0 rfl (qAr _) ⟨_,qd _ rfl,rfl,rfl⟩ ?_ (λb o e=>qG _ (g0 b o e)) (qAr _) λh' tk' S hd' kp'=>?_))
    ·obtain⟨o,es,ep,t,q1,q⟩:=hS
     exact⟨o,es,ep,t,qG _ q1,q⟩
    ·refine qQ ?_
     refine qQ ⟨rfl,h h' tk' S ?_ kp'⟩
     rw[qCy]at hd'
     exact hd'
   ·cases r₂ with
    | error e=>exact hr₂
    | ok fl₂=>
     cases fl₂ with
     | ret r=>
      obtain⟨rfl,hq⟩:=hr₂
      repeat (any_goals (first|assumption|wp_step))
     | _=>exact hr₂.elim
  | _=>exact hr.elim
noncomputable def tLenSet(te:TE):TE:=λσ H Q=>te σ H λx H1=>∃p vs ks,x=.ref p/\H1 p=some (.lst vs)/\vs=ks.map kV/\vs.length<4000/\Q (.int (unl [] ks)) H1
theorem zanu{k:Key}{u:Value}(r:RelV (kV k) u):u.scannable=true:=by
 cases k with
 | inl i=>obtain⟨t,e⟩:=(show ∃t,u=Value.int i t from r);subst e;rfl
 | inr x=>obtain⟨t,e⟩:=(show ∃t,u=Value.str x t from r);subst e;rfl
theorem zpk{P:Program}{w:World}:∀{ks:List Key}{us:List Value},Vals (ks.map kV) us->Paired (λ(v:Value)(k:Key)=>zsn k v=true/\v.scannable=true) us ks
 | [],us,h=>by cases h;exact .nil
 | k::ks,us,h=>by cases h with|cons r t=>exact .cons ⟨zauf (P:=P) (w:=w) r,zanu r⟩ (zpk (P:=P) (w:=w) t)
theorem zasb:bootBuiltins "len"=some (.builtin "len"):=by decide +kernel
theorem zasc:bootBuiltins "set"=some (.type "set"):=by decide +kernel
theorem zaer{X:Cx}{e:Expr}{te:TE}{p1 p2 pos1 pos2:Pos}(hc:X.calm=true)(hgl:Gl X "len")(hml:X.mg "len"=none)(hgs:Gl X "set")(hms:X.mg "set"=none)(he:PE X e te)
  (hs:starEach [e] X.env=(false,eval e X.env)::starEach [] X.env:=by rfl) :
  PE X (.Call (.Name "len" p1) [.Call (.Name "set" p2) [e] [] pos2] [] pos1) (tLenSet te):=by
 intro pins s σ H Q I h
 refine qAk (zoa I hgl hml zasb ?_ (by decide) (by decide))
 refine callWith_builtin1 ?_ rfl rfl
 show wpAny _ _ (spliced ((false,eval (.Call (.Name "set" p2) [e] [] pos2) X.env)::[])) _ _ s
 refine qBM ?_
 refine qAk (zoa I hgs hms zasc ?_ (by decide) (by decide))
 refine callWith_type1 ?_ hs rfl
 rw[hs]
 show wpAny _ _ (spliced ((false,eval e X.env)::[])) _ _ s
 refine qBM (thn (he pins s σ H _ I h) λu s1 z=>?_)
 obtain⟨x,H1,I1,r1,p,vs,ks,rfl,hp,rfl,hz,q⟩:=z
 cases r1
 refine qBr ?_
 obtain⟨hz',its,n,rv,hg⟩:=(show zgb X.prog X.w H1 s1.heap p (.lst (ks.map kV))from I1.hok p _ hp)
 have hl:=rv.length
 refine ztk (I1.ok.hd hc) (zpk (P:=X.prog) (w:=X.w) rv) ⟨_,hg,rfl,n,rfl⟩ (by omega) λh' tk S hS kp=>?_
 refine qBr ?_
 obtain⟨o,es,ep,t,ho,hex,hd,_,_,hb,hf,hn⟩:=hS
 refine call_len_set (s:={s1 with heap:=h',toks:=tk}) ho hex hd hf (by have:es.size<4096:=hb;omega) ?_
 exact⟨.int (unl [] ks),H1,I1.kept (t':=_) kp,⟨tk+1,by rw[hn]⟩,q⟩
noncomputable def zyk:List PyData->Option (List Key)
 | []=>some []
 | d::ds=>(keyD d).bind λk=>(zyk ds).map λks=>k::ks
noncomputable def zpl(f:EF):EF:=λenv=>(f env).bind λr=>match r.d with
 | .list ds=>(zyk ds).bind λks=>if ds.length<4000 then some ⟨.int (unl [] ks),false,[]⟩else none
 | _=>none
theorem zzx{H:Hp}:∀{ds:List PyData}{vs:List V}{ks:List Key},Rps H ds vs->zyk ds=some ks->vs=ks.map kV
 | [],vs,ks,h,e=>by unfold Rps at h;cases e;subst h;rfl
 | d::ds,vs,ks,h,e=>by
  obtain⟨k,ek,e⟩:=qA.mp e
  obtain⟨ks',e',rfl⟩:=qH.mp e
  cases zcb.mp h with
  | cons h1 h2=>
   rename_i v vs'
   have:=zzx (zcb.mpr h2) e'
   subst this
   cases d with
   | int i=>cases ek;unfold Rp at h1;subst h1;rfl
   | str x=>cases ek;unfold Rp at h1;subst h1;rfl
   | _=>cases ek
theorem zaes{te:TE}{f:EF}(h:SE te f):SE (tLenSet te) (zpl f):=by
 intro fx H0 env σ H hE rr hr Q q
 unfold zpl at hr
 obtain⟨⟨d,fr,bs⟩,er,hr⟩:=qA.mp hr
 cases d with
 | list ds=>
  have hr:((zyk ds).bind λks=>if ds.length<4000 then some (⟨.int (unl [] ks),false,[]⟩:Val)else none)=some rr:=hr
  obtain⟨ks,ek,hr⟩:=qA.mp hr
  split at hr
  ·rename_i hl
   cases hr
   refine h fx H0 env σ H hE _ er _ λv H1 s1 hv=>?_
   obtain⟨p,xs,rfl,h1,r⟩:=zeb hv.rp
   have e:=zzx r ek
   refine⟨p,xs,ks,rfl,zef h1,e,by rw[<- r.length];exact hl,q _ H1 s1 ⟨zad,λz=>by cases z⟩⟩
  ·cases hr
 | _=>cases hr
end L2
namespace PySem
open Sem (wp)
noncomputable def SqIt(b:Bool)(h:Heap)(it l:Addr)(i:Nat):Prop:=match b with
 | true=>h.IsListIter it l i
 | false=>h.IsTupleIter it l i
noncomputable def zpm(b:Bool)(h:Heap)(l:Addr)(xs:Array Value):Prop:=match b with
 | true=>h.IsList l xs
 | false=>h.IsTuple l xs
theorem SqIt.moved{b:Bool}{h h':Heap}{it l:Addr}{i:Nat}(x:SqIt b h it l i)(e:∀o,h.get? it=some o->h'.get? it=some o):SqIt b h' it l i:=by
 cases b with
 | true=>obtain⟨o,q,r⟩:=x;exact⟨o,e o q,r⟩
 | false=>obtain⟨o,q,r⟩:=x;exact⟨o,e o q,r⟩
theorem zpm.moved{b:Bool}{h h':Heap}{l:Addr}{xs:Array Value}(x:zpm b h l xs)(e:∀o,h.get? l=some o->h'.get? l=some o):zpm b h' l xs:=by
 cases b with
 | true=>obtain⟨o,q,r⟩:=x;exact⟨o,e o q,r⟩
 | false=>obtain⟨o,q,r⟩:=x;exact⟨o,e o q,r⟩
theorem SqIt.obj{b:Bool}{h:Heap}{it l:Addr}{i:Nat}(x:SqIt b h it l i):∃o,h.get? it=some o/\∀v,o.data≠.cell v:=by
 cases b with
 | true=>obtain⟨o,q,_,r⟩:=x;exact⟨o,q,λv z=>by rw[r]at z;cases z⟩
 | false=>obtain⟨o,q,_,r⟩:=x;exact⟨o,q,λv z=>by rw[r]at z;cases z⟩
section
variable{prog:Program}{w:World}{A:Around}{E:Value->Shared->Prop}{s:Shared}
theorem ztl{it l:Addr}{i:Nat}{items}{x:Value}{Q:Value->Shared->Prop}(hit:s.heap.IsTupleIter it l i)
  (hl:s.heap.IsTuple l items)(hx:items[i]?=some x)
  (hQ:∀h',h'.IsTupleIter it l (i+1)->Heap.SameBut it s.heap h'->Q x {s with heap:=h'}) :
  wpAny (model prog w) A (qAg (.ref it)) Q E s:=by
 obtain⟨o,ho,hc,hd⟩:=id hit
 obtain⟨ol,hol,_,nl,hdl⟩:=hl
 unfold qAg
 refine qE (qA7 (name:=Str.ofString "__next__") hit.typeIs qBH
  (qBi qBH hit.typeIs qCg ?_ (qCZ _)))
 show wpAny _ _ (field (.ref it) 0 >>=_) _ _ s
 refine qE (qAw ho hd (x:=.ref l) rfl ?_)
 show wpAny _ _ (if(Value.ref l==Value.none)=true then _ else _) _ _ s
 rw[if_neg (show ¬((Value.ref l==Value.none)=true)from qP)]
 show wpAny _ _ (field (.ref it) 1 >>=_) _ _ s
 refine qE (qAw ho hd (x:=.int i 0) rfl ?_)
 show wpAny _ _ (seqItems? (.ref l) >>=_) _ _ s
 refine qE (wpAny_seqItems hol hdl ?_)
 simp only[qAt,hx]
 refine qE (qBL ho hd (by simp) (qQ ⟨x,rfl,qQ (hQ _ ?_ (qCR ..))⟩))
 exact⟨_,qAn _ ho (qAz (qAZ hd _)),(Obj.cls_mapFields ..).trans hc,by
  rw[qAZ hd];simp[rawInt]⟩
theorem zvj{it l:Addr}{i:Nat}{items}{Q:Value->Shared->Prop}(hh:A.handled=none)
  (hit:s.heap.IsTupleIter it l i)(hl:s.heap.IsTuple l items)(hx:items[i]?=none)
  (hE:∀h' e,Heap.ExtBut it s.heap h'->(∃o,h'.get? e=some o/\o.cls=.type "StopIteration")->E (.ref e) {s with heap:=h'}) :
  wpAny (model prog w) A (qAg (.ref it)) Q E s:=by
 obtain⟨o,ho,hc,hd⟩:=id hit
 obtain⟨ol,hol,_,nl,hdl⟩:=hl
 unfold qAg
 refine qE (qA7 (name:=Str.ofString "__next__") hit.typeIs qBH
  (qBi qBH hit.typeIs qCg ?_ (qCZ _)))
 show wpAny _ _ (field (.ref it) 0 >>=_) _ _ s
 refine qE (qAw ho hd (x:=.ref l) rfl ?_)
 show wpAny _ _ (if(Value.ref l==Value.none)=true then _ else _) _ _ s
 rw[if_neg (show ¬((Value.ref l==Value.none)=true)from qP)]
 show wpAny _ _ (field (.ref it) 1 >>=_) _ _ s
 refine qE (qAw ho hd (x:=.int i 0) rfl ?_)
 show wpAny _ _ (seqItems? (.ref l) >>=_) _ _ s
 refine qE (wpAny_seqItems hol hdl ?_)
 simp only[qAt,hx]
 refine qE (wpAny_rule (qE (qBL ho hd (by simp) ?_)))
 show wpAny _ _ (newExc (.type "StopIteration") [] >>=_) _ _ _
 refine qE ?_
 simp only[newExc,newTuple]
 refine qE (qAu ?_ (by size_fits))
 refine qE (m:=firstArgMember _ _) (qCj (a:=Value.none) (by first|rfl|(simp only[firstArgMember];rfl)) ?_)
 refine qAu ?_ (by size_fits)
 simp only[raiseNew]
 refine qE (wpAny_handled ?_)
 first|rw[show A.in1.handled=none from hh]|rw[hh]
 refine qE (qQ (wpAny_throw ?_))
 exact hE _ _ (((qCR ..).extBut.push _).push _) ⟨_,qd _ rfl,rfl⟩
theorem zanv{b:Bool}{it l:Addr}{i:Nat}{xs:Array Value}{x:Value}{Q:Value->Shared->Prop}(hit:SqIt b s.heap it l i)(hl:zpm b s.heap l xs)(hx:xs[i]?=some x)
  (hQ:∀h',SqIt b h' it l (i+1)->Heap.SameBut it s.heap h'->Q x {s with heap:=h'}):wpAny (model prog w) A (qAg (.ref it)) Q E s:=by
 cases b with
 | true=>exact wpAny_nextOf_list_item hit hl hx hQ
 | false=>exact ztl hit hl hx hQ
theorem zale{b:Bool}{it l:Addr}{i:Nat}{xs:Array Value}{Q:Value->Shared->Prop}(hh:A.handled=none)(hit:SqIt b s.heap it l i)(hl:zpm b s.heap l xs)(hx:xs[i]?=none)
  (hE:∀h' e,Heap.ExtBut it s.heap h'->(∃o,h'.get? e=some o/\o.cls=.type "StopIteration")->E (.ref e) {s with heap:=h'}):wpAny (model prog w) A (qAg (.ref it)) Q E s:=by
 cases b with
 | true=>exact wpAny_nextOf_list_end hh hit hl hx hE
 | false=>exact zvj hh hit hl hx hE
end
end PySem
namespace L2
open PySem PySem.Spec PyProof.Rows
noncomputable def SqX(b:Bool)(K:qB)(H:Hp)(a:Addr)(xs:List V):Prop:=match b with
 | true=>SqL K H a xs
 | false=>SqT K H a xs
section
variable{X:Cx}{pins:List (Addr×Obj)}{σ:St}{H:Hp}{s:Shared}
theorem Inv.sq{b:Bool}{a:Addr}{xs:List V}(I:Inv X pins σ H s)(h:SqX b X.K H a xs):∃its:List Value,Vals xs its/\zpm b s.heap a its.toArray/\xs.length<=qe:=by
 cases b with
 | true=>obtain⟨its,r,p,z⟩:=I.list h;exact⟨its,r,p.isList,z⟩
 | false=>obtain⟨its,r,p,z⟩:=I.tuple h;exact⟨its,r,(show s.heap.IsTuple a its.toArray from p),z⟩
theorem Inv.sq_inj{b:Bool}{a:Addr}{xs ys:List V}(I:Inv X pins σ H s)(h:SqX b X.K H a xs)(h':SqX b X.K H a ys):xs=ys:=by
 cases b with
 | true=>exact I.list_inj h h'
 | false=>exact I.tuple_inj h h'
end
end L2
namespace PySem
open Sem (wp)
noncomputable def itO(b:Bool)(l:Addr):Obj:=match b with
 | true=>{cls:=.type "list_iterator",data:=.fields #[.ref l,.int 0 0]}
 | false=>{cls:=.type "tuple_iterator",data:=.fields #[.ref l,.int 0 0]}
theorem zajb{b:Bool}{h:Heap}{a l:Addr}(e:h.get? a=some (itO b l)):SqIt b h a l 0:=by
 cases b with
 | true=>exact⟨_,e,rfl,rfl⟩
 | false=>exact⟨_,e,rfl,rfl⟩
end PySem
namespace L2
open PySem PySem.Spec PyProof.Rows
theorem zpm.there{b:Bool}{h:Heap}{l:Addr}{xs:Array Value}(x:zpm b h l xs):l<h.objs.size:=by
 cases b with
 | true=>obtain⟨o,q,_⟩:=x;exact qU q
 | false=>obtain⟨o,q,_⟩:=x;exact qU q
theorem zasd{K:qB}{A:Addr->Prop}{H:Hp}{d:PyData}{ds:List PyData}{v:V}(h:Rp (Offs A H) d v)(e:zim d=some ds):∃(b:Bool)(a:Addr)(xs:List V),v=.ref a/\Rps (Offs A H) ds xs/\∀(B:Addr->Prop)(H':Hp),Same (Offs A H) (Offs B H')->SqX b K H' a xs:=by
 cases d with
 | list es=>
  cases e
  obtain⟨a,xs,rfl,ha,r⟩:=zeb h
  exact⟨true,a,xs,rfl,r,λB H' s=>SqL.of (zef (s _ _ ha))⟩
 | tuple es=>
  cases e
  obtain⟨a,xs,rfl,ha,r⟩:=zcv h
  exact⟨false,a,xs,rfl,r,λB H' s=>SqT.of (zef (s _ _ ha))⟩
 | _=>cases e
noncomputable def rInS(K:qB)(neg:Bool):R2:=λx y H Q=>∃d c ds,Rep K H d x/\Rep K H c y/\zim c=some ds/\qAM d=true/\qAM c=true/\Q (.bl (if neg then !(ds.any λe=>qZ e d)else ds.any λe=>qZ e d)) H
section
variable{X:Cx}
theorem shp{d:PyData}(h:qAM d=true):d.canLay0=true/\d.depth<=64:=by
 unfold qAM at h
 rw[qb]at h
 exact⟨h.1,of_decide_eq_true h.2⟩
theorem zavi{K:qB}(hK:X.K=K)(hu:X.A.units+64<cLine):OpR X (compareOp .In) (rInS K false):=by
 subst hK
 intro pins s σ H x y v u Q I rx ry h
 obtain⟨d,c,ds,hd,hc,hi,sd,sc,q⟩:=h
 obtain⟨as,r1⟩:=zfq I d hd rx
 obtain⟨bs,r2⟩:=zfq I c hc ry
 obtain⟨l1,p1⟩:=shp sd
 obtain⟨l2,p2⟩:=shp sc
 have q:EP X pins σ Q (.bool (ds.any λe=>qZ e d)) s:=⟨.bl (ds.any λe=>qZ e d),H,I,rfl,q⟩
 cases c with
 | list es=>
  cases hi
  have p2:qAC ds+1<=64:=p2
  exact SeqAt.in_list_reads r2 r1 l2 l1 (by have:=qB6 (qAC ds) d.depth;omega) q
 | tuple es=>
  cases hi
  have p2:qAC ds+1<=64:=p2
  exact SeqAt.in_tuple_reads r2 r1 l2 l1 (by have:=qB6 (qAC ds) d.depth;omega) q
 | _=>cases hi
theorem zvk{K:qB}(hK:X.K=K)(hu:X.A.units+64<cLine):OpR X (compareOp .NotIn) (rInS K true):=by
 subst hK
 intro pins s σ H x y v u Q I rx ry h
 obtain⟨d,c,ds,hd,hc,hi,sd,sc,q⟩:=h
 obtain⟨as,r1⟩:=zfq I d hd rx
 obtain⟨bs,r2⟩:=zfq I c hc ry
 obtain⟨l1,p1⟩:=shp sd
 obtain⟨l2,p2⟩:=shp sc
 have q:EP X pins σ Q (.bool (!(ds.any λe=>qZ e d))) s:=⟨.bl (!(ds.any λe=>qZ e d)),H,I,rfl,q⟩
 cases c with
 | list es=>
  cases hi
  have p2:qAC ds+1<=64:=p2
  exact SeqAt.notIn_list_reads r2 r1 l2 l1 (by have:=qB6 (qAC ds) d.depth;omega) q
 | tuple es=>
  cases hi
  have p2:qAC ds+1<=64:=p2
  exact SeqAt.notIn_tuple_reads r2 r1 l2 l1 (by have:=qB6 (qAC ds) d.depth;omega) q
 | _=>cases hi
end
noncomputable def inS(neg:Bool):OF:=λd c=>match zim c with
 | some ds=>if qAM d=true/\qAM c=true then some (.bool (if neg then !(ds.any λe=>qZ e d)else ds.any λe=>qZ e d),false)else none
 | none=>none
theorem zalf{K:qB}{neg:Bool}:SO (rInS K neg) (inS neg):=by
 intro A H x y dx dy hA rx ry d fr e Q q
 unfold inS at e
 split at e
 ·rename_i ds hi
  split at e
  ·rename_i h
   cases e
   refine⟨dx,dy,ds,zpf (qAY h.1) (Rp.same (Offs.same A H) _ rx),zpf (qAY h.2) (Rp.same (Offs.same A H) _ ry),hi,h.1,h.2,q _ H (Same.refl _) ?_ (λz=>by cases z)⟩
   cases neg<;>exact zan
  ·cases e
 ·cases e
end L2
namespace PySem
open Sem (wp)
open AutoSeq1 (wpAny_loadPart')
theorem zajc{prog:Program}{w:World}{A:Around}(hh:A.handled=none)(b:Bool)(it l:Addr)(hne:l≠it)(items:Array Value) :
  Draws prog w A it [it,l] items.size (λi v=>items[i]?=some v) (λi h=>SqIt b h it l i/\zpm b h l items) where
 live:=λ_ _ st=>let⟨o,ho,_⟩:=st.1.obj;⟨o,ho⟩
 frame:=λ_ _ _ st hk=>⟨st.1.moved λo e=>hk it (by simp) o e,st.2.moved λo e=>hk l (by simp) o e⟩
 item:=λi s Q E hi st hQ=>by
  refine zanv st.1 st.2 (x:=items[i]) (by simp[hi]) λh' hit' hs'=>?_
  exact hQ _ h' s.toks (by simp[hi]) ⟨hit',st.2.moved λo e=>hs'.extBut _ o hne e⟩ hs'
 done:=λs Q E st hE=>zale hh st.1 st.2 (by simp) hE
theorem zon(l:Addr)(items:Array Value)(n:Nat)(dct:Option Addr)(sl:Array (Option Value)) :
  Meets (Builtin.«enumerate.__new__» ⟨[.type "enumerate",.ref l],[]⟩) (λ_ R s=>s.heap.get? l=some {cls:=.type "tuple",dict:=dct,data:=.seq items n,slots:=sl}/\
   R (.ok (.ret (.ref (s.heap.push (itO false l)).objs.size))) {s with heap:=(s.heap.push (itO false l)).push {cls:=.type "enumerate",data:=.fields #[.none,.bool false,.ref s.heap.objs.size,rawInt 0,.none,.none]}}):=
 .of_wp λprog w A R s h=>by
  obtain⟨hp,g,d,tk,os⟩:=s;obtain⟨hl,h⟩:=h
  have hsub:=sub_enumerate
  have e1:Heap.IsTuple (Shared.heap ⟨hp,g,d,tk,os⟩) l items:=⟨_,hl,rfl,n,rfl⟩
  wp_walk using qA4 hl
  refine wpAny_stack_any λst=>qQ ?_
  split
  ·rename_i c _ _ _ _ _
   cases(c==Value.type "enumerate")
   ·wp_walk using qA4 hl,qBv e1
    exact⟨_,rfl,h⟩
   ·wp_walk using qA4 hl,qBv e1
    exact⟨_,rfl,h⟩
  ·wp_walk using qA4 hl,qBv e1
   exact⟨_,rfl,h⟩
theorem zvl{prog:Program}{w:World}{A:Around}{E:Value->Shared->Prop}{s:Shared}{b:Bool}{l:Addr}{items:Array Value}{Q:Value->Shared->Prop}(hL:zpm b s.heap l items)
  (h:∀h',IsEnum h' (s.heap.objs.size+1) s.heap.objs.size 0 .none->SqIt b h' s.heap.objs.size l 0->(∀c o,s.heap.get? c=some o->h'.get? c=some o)->Q (.ref (s.heap.objs.size+1)) {s with heap:=h'}) :
  wpAny (model prog w) A (call (.type "enumerate") [.ref l]) Q E s:=by
 cases b with
 | true=>exact call_enumerate_list hL λh' e i _ k=>h h' e i k
 | false=>
  obtain⟨⟨c,dct,dt,sl⟩,hl,hc,n,hd⟩:=hL
  replace hc:c=.type "tuple":=hc
  replace hd:dt=.seq items n:=hd
  subst hc hd
  refine callType_new F.called_enumerate (by decide) (F.typeCall_enumerate_1 _) (F.newCall_enumerate_1 _) (λobj=>F.args_object_init_2 obj _) F.entry_enumerate_new (zon l items n dct sl) ⟨hl,?_⟩
  have hz:(s.heap.push (itO false l)).objs.size=s.heap.objs.size+1:=qBo ..
  have he:=qd (s.heap.push (itO false l)) (o:={cls:=.type "enumerate",data:=.fields #[.none,.bool false,.ref s.heap.objs.size,rawInt 0,.none,.none]}) rfl
  show _/\_
  rw[hz]at he ⊢
  exact⟨⟨_,he,rfl⟩,h _ he (zajb (b:=false) (qG _ (qd _ rfl))) λc o x=>qG _ (qG _ x)⟩
end PySem
namespace L2
open PySem PySem.Spec PyProof.Rows
noncomputable def Itx(K:qB)(b:Bool)(a:Addr):It:=
 ⟨λi H=>∃xs x,SqX b K H a xs/\xs[i]?=some x,λi H x H'=>∃p y,x=.ref p/\H p=none/\H'=upd H p (.tup [.int i,y])/\∀xs,SqX b K H a xs->xs[i]?=some y,λi H=>∃xs,SqX b K H a xs/\xs.length<=i⟩
theorem zabt{P:Program}{w:World}{K:qB}{elts:List Expr}{x1}{tpos:Pos}{b:Bool}(a e it:Addr)(hne:e≠it)(hea:e≠a)(hai:a≠it) :
  Turn P w K (.Tuple elts x1 tpos) (Itx K b a) [e,it] e (λi h=>SqIt b h it a i/\∃old,IsEnum h e it (i:Int) old) where
 mem:=by simp
 obj:=λi h st c hc=>by
  obtain⟨h1,old,h4⟩:=st
  rcases qW.mp hc with rfl|hc
  ·exact⟨_,h4,λv z=>by simp at z⟩
  ·have q:c=it:=by simpa using hc
   subst q
   exact h1.obj
 keep:=λi h h' st k=>⟨st.1.moved λo q=>k it (by simp) o q,let⟨old,q⟩:=st.2;⟨old,k e (by simp) _ q⟩⟩
 item:=by
  intro X hP hw hK hc i pins s σ H E I hf st hg
  subst hP hw hK
  obtain⟨xs,x,hq,hx⟩:=hg
  obtain⟨its,rv,p,hz⟩:=I.sq hq
  obtain⟨u,hu,ru⟩:=rv.get hx
  obtain⟨hit,old,he⟩:=st
  have fe:=hf e (by simp)
  have fi:=hf it (by simp)
  have hlt:i<its.toArray.size:=by
   obtain⟨hh,_⟩:=qJ.mp hu
   simpa using hh
  refine wpAny_pyNext_enum_itemD (zajc (by exact I.ok.hd hc) b it a hai its.toArray) he ⟨hit,p⟩ hlt hne (by simp[hne,hea]) λu' h1 tk pu e1 i1 t1 z1 k1=>?_
  have hu':u'=u:=by
   have pu:its.toArray[i]?=some u':=pu
   rw[List.getElem?_toArray,hu]at pu
   exact(qy pu).symm
  subst hu'
  refine⟨_,rfl,wpAny_letOwnedTupleGo_enum (s:={s with heap:=h1,toks:=tk+1}) e1 λh2 e2 sb2=>?_⟩
  have hp:H s.heap.objs.size=none:=I.hok.fresh (qM _)
  have hes:e≠s.heap.objs.size:=qAG (qU he)
  have k2:∀c o,c≠e->c≠it->s.heap.get? c=some o->h2.get? c=some o:=λc o q1 q2 q=>(sb2.2 c q1).trans (k1 c o q1 q2 q)
  have t2:h2.get? s.heap.objs.size=some {cls:=.type "tuple",data:=.seq #[.int i tk,u']}:=(sb2.2 _ (qBA hes)).trans t1
  have nch:∀c,c∉[e,it]->c≠e/\c≠it:=λc hb=>⟨λz=>hb (by simp[z]),λz=>hb (by simp[z])⟩
  refine⟨.ref s.heap.objs.size,upd H s.heap.objs.size (.tup [.int i,x]),?_,rfl,⟨_,x,rfl,hp,rfl,λys hy=>by rw[I.sq_inj hy hq];exact hx⟩,⟨?_,u',e2⟩,λc hb=>?_⟩
  ·refine Inv.step (s:=s) (h':=h2) (g':=s.gens) (d':=s.drawn) (t':=tk+1) (ch:=[e,it]) I (λc hb=>?_) (λc o _ _ hc q _=>k2 c o (nch c hc).1 (nch c hc).2 q) (λc o _ _ hc q _=>⟨o.slots,k2 c o (nch c hc).1 (nch c hc).2 q⟩)
    (λc o _ q n=>by rw[zbc (qAG (qU q))];exact n) (λc o hc q=>⟨o,k2 c o (nch c hc).1 (nch c hc).2 q⟩)
    (λc xs q=>by rw[zbc (zcp q hp)];exact q) (λc o v q=>by rw[zbc (zcp q hp)];exact q) (λc ps q=>⟨#[],by rw[zbc (zcp q hp),q];simp⟩) (λm hm=>?_) (λc v q=>?_) I.bare
   ·rcases qW.mp hb with rfl|hb
    ·exact⟨fe.2.2.2.1,fe.2.1,fe.2.2.2.2.1,fe.2.2.2.2.2⟩
    ·have z:c=it:=by simpa using hb
     subst z
     exact⟨fi.2.2.2.1,fi.2.1,fi.2.2.2.2.1,fi.2.2.2.2.2⟩
   ·obtain⟨o,es,ep,ho,r⟩:=hm
    exact⟨o,es,ep,k2 _ o (qBA fe.2.1) (qBA fi.2.1) ho,r⟩
   ·by_cases hb:c=s.heap.objs.size
    ·subst hb
     rw[zaw]at q
     cases q
     exact⟨by show 2<=qe;decide,[.int i tk,u'],.cons ⟨_,rfl⟩ (.cons ru .nil),_,t2,rfl,_,rfl⟩
    ·rw[zbc hb]at q
     have nt:∀c w',H c=some w'->c≠e/\c≠it:=λc w' z=>⟨(λy=>by rw[y,fe.1]at z;cases z),(λy=>by rw[y,fi.1]at z;cases z)⟩
     refine(I.hok c v q).stay (λc w' hc r=>?_) (λc r=>by rw[zbc (zcp r hp)];exact r) λc ys r=>by rw[zbc (zcp r hp)];exact r
     rcases hc with rfl|hc
     ·exact k2 c w' (nt c v q).1 (nt c v q).2 r
     ·exact k2 c w' (nt c _ hc).1 (nt c _ hc).2 r
  ·exact i1.1.moved λo q=>(sb2.2 _ (qBA hne)).trans q
  ·rcases qW.mp hb with rfl|hb
   ·rw[zbc hes];exact fe.1
   ·have z:c=it:=by simpa using hb
    subst z
    obtain⟨o,q1,_⟩:=hit.obj
    rw[zbc (qAG (qU q1))]
    exact fi.1
 done:=by
  intro X hP hw hK hc i pins s σ H E I hf st hg
  subst hP hw hK
  obtain⟨xs,hq,hx⟩:=hg
  obtain⟨its,rv,p,hz⟩:=I.sq hq
  obtain⟨hit,old,he⟩:=st
  obtain⟨f0,f1,f2,f3,f4,f5⟩:=hf it (by simp)
  have hl:=rv.length
  have hT:s.TypeIs (.ref e) "enumerate":=⟨_,he,rfl⟩
  unfold pyNext
  refine qE (wpAny_attempt (qA7 (name:=Str.ofString "__next__") hT F.slot_enumerate_next (qBi F.slot_enumerate_next hT F.entry_enumerate_next ?_ (F.args_enumerate_next_1 _))))
  show wpAny _ _ (field (.ref e) 2 >>=_) _ _ _
  refine qE (qAw he rfl (x:=.ref it) rfl ?_)
  refine qE (zale (by exact I.ok.hd hc) hit p (by simp;omega) λh' x he' hx'=>?_)
  obtain⟨o,ho,hcl⟩:=hx'
  refine qE (qB7 (T:="StopIteration") (b:=true) ⟨o,ho,hcl⟩ isSubtype_stop (qQ ⟨rfl,?_⟩))
  exact I.turned (t':=s.toks) (λc o hb q=>he' c o hb q) f0 f1 f3 f4 f5
 self:=λ_ _ _ _ _ st h=>let⟨_,q⟩:=st.2;wpAny_pyIter_enum q h
noncomputable def iEnumX(K:qB)(ta:TA):TI:=λσ H R=>ta σ H λvs H1=>∃b a,vs=[.ref a]/\(∃xs,SqX b K H1 a xs)/\R (Itx K b a) H1
theorem zajd{X:Cx}{K:qB}(hK:X.K=K){a:Expr}{ta:TA}{p pos:Pos}{elts:List Expr}{x1}{tpos:Pos}(hg:Gl X "enumerate")(hm:X.mg "enumerate"=none)(ha:PA X [a] ta)(hs:starEach [a] X.env=[(false,eval a X.env)]:=by rfl) :
  PI X (.Tuple elts x1 tpos) (.Call (.Name "enumerate" p) [a] [] pos) (iEnumX K ta):=by
 subst hK
 intro pins s σ H R I h
 refine Call_ (zoa I hg hm boot_enumerate (qBV (thn (ha pos pins s σ H _ I h) λus s1 ⟨vs,H1,I1,r1,q1⟩=>?_) hs rfl))
 obtain⟨b,l,rfl,⟨xs,hq⟩,q⟩:=q1
 obtain⟨u,rfl,ru⟩:=zyd r1
 cases ru
 obtain⟨its,rv,pl,hz⟩:=I1.sq hq
 have lt:=zpm.there pl
 refine zvl pl λh' he hit hk=>wpAny_pyIter_enum he ?_
 have I2:Inv X pins σ H1 {s1 with heap:=h'}:=I1.kept (t':=s1.toks) hk
 refine⟨s1.heap.objs.size+1,[s1.heap.objs.size+1,s1.heap.objs.size],_,_,H1,rfl,I2,zabt l _ _ (Nat.succ_ne_self _) (qCN (Nat.lt_succ_of_lt lt)) (qAG lt),⟨hit,_,he⟩,λc hb=>?_,q⟩
 rcases qW.mp hb with rfl|hb
 ·exact I1.fpOk (qCV _) (I1.hok.fresh (qCV _))
 ·have e:c=s1.heap.objs.size:=by simpa using hb
  subst e
  exact I1.fpOk (qM _) (I1.hok.fresh (qM _))
noncomputable def zaet(f:AF):IF':=λenv=>(f env).bind λrs=>match rs with
 | [r]=>(zim r.d).map λds=>(zve ds,r.bs)
 | _=>none
theorem zaje{K:qB}{ta:TA}{f:AF}(h1:SA ta f):SI (iEnumX K ta) (zaet f):=by
 intro fx H0 env σ H h ds bs e R q
 unfold zaet at e
 obtain⟨rs,er,e⟩:=qA.mp e
 split at e
 ·rename_i r
  obtain⟨d1,ed1,e⟩:=qH.mp e
  cases e
  refine h1 fx H0 env σ H h _ er _ λvs H1 s hv=>?_
  cases hv with
  | cons hv t=>
   cases t
   obtain⟨b,a,xs,rfl,r1,e1⟩:=zasd (K:=K) (Rp.same (Offs.sub (zjq (bs:=r.bs))) _ hv.rp) ed1
   refine⟨b,a,rfl,⟨xs,e1 _ H1 (Same.refl _)⟩,q _ H1 s ?_⟩
   intro A H' hA ss
   have q1:=e1 A H' ss
   have r1':=Rps.same ss _ r1
   have hl:(zve d1).length=d1.length:=by unfold zve;simp
   refine⟨λi d e=>?_,⟨xs,q1,by rw[hl,r1.length];exact qM _⟩⟩
   unfold zve at e
   rw[qT,qB8]at e
   cases e0:d1[i]? with
   | none=>rw[e0]at e;cases e
   | some d0=>
    rw[e0]at e
    obtain⟨v,hv,rv⟩:=r1'.get2 e0
    have e:PyData.tuple [.int ((0+i:Nat):Int),d0]=d:=qy e
    rw[qCy]at e
    subst e
    refine⟨⟨xs,v,q1,hv⟩,λx H'' y=>?_⟩
    obtain⟨p,y',rfl,hp,rfl,y⟩:=y
    have:=y xs q1
    rw[hv]at this
    cases this
    exact⟨Same.new hp,zpe hp (zhz hA hp) (zfd zad (zfd rv zet))⟩
 ·cases e
theorem zfs{K:qB}{ta:TA}{f:AF}(h1:SA ta f):SI (iEnumX K ta) (zez f):=λfx H0 env σ H h ds bs e R q=>
 zaje h1 fx H0 env σ H h ds bs (by
  unfold zez at e
  unfold zaet
  obtain⟨rs,er,e⟩:=qA.mp e
  rw[er]
  cases rs with
  | nil=>cases e
  | cons r t=>
   cases t with
   | nil=>
    obtain⟨d,fr,b⟩:=r
    cases d<;>first|exact e|cases e
   | cons _ _=>cases e) R q
noncomputable def Its(z:Str):It:=⟨λi _=>i<z.cps.size,λi H v H'=>H'=H/\∃c,z.cps[i]?=some c/\v=.str ⟨#[c]⟩,λi _=>z.cps.size<=i⟩
theorem zajf{P:Program}{w:World}{K:qB}{tg:Expr}(z:Str)(it:Addr){ty:String}{t:Tok}(hty:ty="str_ascii_iterator"\/ty="str_iterator"):Turn P w K tg (Its z) [it] it (λi h=>h.IsStrIter it ty z t i) where
 mem:=by simp
 obj:=λi h st b hb=>by
  have e:b=it:=by simpa using hb
  subst e
  obtain⟨o,e,c,d⟩:=st
  exact⟨o,e,λv z=>by rw[d]at z;cases z⟩
 keep:=λi h h' st k=>let⟨o,e,c,d⟩:=st;⟨o,k it (by simp) o e,c,d⟩
 item:=by
  intro X hP hw hK hc i pins s σ H E I hf st hg
  subst hP hw hK
  obtain⟨f0,f1,f2,f3,f4,f5⟩:=hf it (by simp)
  have W:Walks X.prog X.w X.A it [it] [it] z.cps.size (SignAt z) (λi h=>h.IsStrIter it ty z t i):=by
   rcases hty with rfl|rfl
   ·exact Walks.strAscii (I.ok.hd hc) it z t
   ·exact Walks.strWide (I.ok.hd hc) it z t
  refine W.item i s _ _ hg st λv h' tk hv st' kk=>?_
  obtain⟨c,u,e,rfl⟩:=hv
  have I1:Inv X pins σ H {s with heap:=h',toks:=tk}:=I.turned (λb o hb e=>kk b o (by simpa using hb) e) f0 f1 f3 f4 f5
  obtain⟨o,eo,co,dO⟩:=id st'
  refine⟨_,rfl,zaid (s:={s with heap:=h',toks:=tk}) eo co dO (by rcases hty with rfl|rfl<;>decide) ⟨.str ⟨#[c]⟩,H,I1,⟨u,rfl⟩,⟨rfl,c,e,rfl⟩,st',λb hb=>(hf b hb).1⟩⟩
 done:=by
  intro X hP hw hK hc i pins s σ H E I hf st hg
  subst hP hw hK
  obtain⟨f0,f1,f2,f3,f4,f5⟩:=hf it (by simp)
  have hx:z.cps[i]?=none:=by
   have:z.cps.size<=i:=hg
   simp[this]
  rcases hty with rfl|rfl
  ·exact wpAny_pyNext_ascii_end (I.ok.hd hc) st hx λh' eb=>⟨rfl,I.turned (t':=s.toks) (λb o hb e=>eb b o hb e) f0 f1 f3 f4 f5⟩
  ·exact wpAny_pyNext_wide_end (I.ok.hd hc) st hx λh' eb=>⟨rfl,I.turned (t':=s.toks) (λb o hb e=>eb b o hb e) f0 f1 f3 f4 f5⟩
 self:=λ_ _ _ _ _ st h=>by
  rcases hty with rfl|rfl
  ·exact wpAny_pyIter_striter_ascii st h
  ·exact wpAny_pyIter_striter_wide st h
noncomputable def iStr(te:TE):TI:=λσ H R=>te σ H λx H1=>∃z,x=.str z/\R (Its z) H1
theorem zase{X:Cx}{tg l:Expr}{tl:TE}(hl:PE X l tl):PI X tg l (iStr tl):=by
 intro pins s σ H R I h
 refine thn (hl pins s σ H _ I h) λv s1 ⟨x,H1,I1,r1,q1⟩=>?_
 obtain⟨z,e,q⟩:=q1
 subst e
 obtain⟨t,rfl⟩:=r1
 have fin:∀(ty:String)(o:Obj),(ty="str_ascii_iterator"\/ty="str_iterator")->(s1.heap.push o).IsStrIter s1.heap.objs.size ty z t 0->PIE X pins σ tg R (.ref s1.heap.objs.size) {s1 with heap:=s1.heap.push o}:=by
  intro ty o hty st
  refine⟨s1.heap.objs.size,[s1.heap.objs.size],_,_,H1,rfl,I1.kept (t':=s1.toks) λb o e=>qG _ e,zajf z _ hty,st,λb hb=>?_,q⟩
  have e:b=s1.heap.objs.size:=by simpa using hb
  subst e
  exact I1.fpOk (qM _) (I1.hok.fresh (qM _))
 cases ha:z.cps.all (·<128)
 ·exact wpAny_pyIter_wide ha (fin "str_iterator" _ (.inr rfl) ⟨_,qd _ rfl,rfl,rfl⟩)
 ·exact wpAny_pyIter_ascii ha (fin "str_ascii_iterator" _ (.inl rfl) ⟨_,qd _ rfl,rfl,rfl⟩)
noncomputable def zpn(z:Str):List PyData:=z.cps.toList.map λc=>.str ⟨#[c]⟩
noncomputable def zvm(f:EF):IF':=λenv=>(f env).bind λr=>match r.d with
 | .str z=>some (zpn z,[])
 | _=>none
theorem zasf{A0:Addr->Prop}{H1:Hp}{z:Str}:Yl A0 H1 (Its z) (zpn z):=by
 intro A H' hA s
 have hl:(zpn z).length=z.cps.size:=by unfold zpn;simp
 refine⟨λi d e=>?_,by rw[hl];exact qM _⟩
 unfold zpn at e
 rw[qT]at e
 by_cases hi:i<z.cps.size
 ·refine⟨hi,λx H'' y=>?_⟩
  obtain⟨rfl,c,ec,rfl⟩:=y
  have:z.cps.toList[i]?=some c:=by simpa using ec
  rw[this]at e
  cases e
  exact⟨Same.refl _,zcg⟩
 ·rw[qCs (by simpa using hi)]at e
  cases e
theorem zasg{te:TE}{f:EF}(h1:SE te f):SI (iStr te) (zvm f):=by
 intro fx H0 env σ H h ds bs e R q
 unfold zvm at e
 obtain⟨⟨d,fr,bs'⟩,er,e⟩:=qA.mp e
 split at e
 ·rename_i z hz
  cases e
  refine h1 fx H0 env σ H h _ er _ λv H1 s hv=>?_
  have rp:=hv.rp
  have hz:d=.str z:=hz
  rw[hz]at rp
  exact⟨z,zge rp,q _ H1 s zasf⟩
 ·cases e
theorem zvn{X:Cx}:OpR X (compareOp .LtE) (λx y H Q=>∃i j,x=.str i/\y=.str j/\Q (.bl (!decide (j.cps.toList<i.cps.toList))) H):=by
 intro pins s σ H x y v u Q I rx ry h
 obtain⟨i,j,rfl,rfl,q⟩:=h
 obtain⟨t,rfl⟩:=rx
 obtain⟨t',rfl⟩:=ry
 exact PySem.P.le_str (zcr I q rfl)
noncomputable def leS:OF
 | .str i,.str j=>some (.bool (!decide (j.cps.toList<i.cps.toList)),false)
 | _,_=>none
theorem zalg:SO (λx y H Q=>∃i j,x=.str i/\y=.str j/\Q (.bl (!decide (j.cps.toList<i.cps.toList))) H) leS:=by
 intro A H x y dx dy hA rx ry d fr e Q q
 unfold leS at e
 split at e
 ·cases e
  cases zge rx;cases zge ry
  exact⟨_,_,rfl,rfl,q _ H (Same.refl _) zan (λz=>by cases z)⟩
 ·cases e
theorem zajg{X:Cx}{x:Str}{i:Int}{pos:Pos}(hg:Gl X x)(hm:∃t,X.mg x=some (.int i t))(hd:(x==("__debug__":Str))=false:=by decide):PE X (.Name x pos) (tC (.int i)):=
 let⟨t,e⟩:=hm
 zamn hg e ⟨t,rfl⟩ hd
noncomputable def isStar:Expr->Bool
 | .Starred ..=>true
 | _=>false
theorem zap{e:Expr}{es:List Expr}{env:Env}(h:isStar e=false):starEach (e::es) env=(false,eval e env)::starEach es env:=by
 cases e<;>first
  | rfl
  | cases h
theorem zajh{X:Cx}{e:Expr}{es:List Expr}{te:TE}{t:TA}(ha:PE X e te)(hr:PA X es t)(hs:isStar e=false:=by rfl):PA X (e::es) (tCons te t):=zkg ha hr (zap hs)
end L2
namespace PySem.SeqAt
open AutoSeq1 (wpAny_loadPart')
open MeetsSeq PyProof.Rows
section
variable{A:Around}{s:Shared}
theorem zlx(l:Addr)(es:Array DictEntry)(n:Nat)(dd:Option Addr)(sl:Array (Option Value))(b:Str)(u:Tok) :
  Meets (Builtin.«dict.__eq__» ⟨[.ref l,.str b u],[]⟩) (λ_ R s=>s.heap.get? l=some {cls:=.type "dict",dict:=dd,data:=.dict es n,slots:=sl}/\R (.ok (.ret .notImplemented)) s):=
 .of_wp λprog w A R s h=>by
  obtain⟨hp,g,d,tk,os⟩:=s
  obtain⟨hl,h⟩:=h
  have f1:=F.sub_str_dict
  wp_walk using qA4 hl
  exact⟨_,rfl,h⟩
theorem zly(b:Str)(u:Tok)(l:Addr)(c:Value)(es:Array DictEntry)(n:Nat)(dd:Option Addr)(sl:Array (Option Value)) :
  Meets (Builtin.«str.__eq__» ⟨[.str b u,.ref l],[]⟩) (λ_ R s=>s.heap.get? l=some {cls:=c,dict:=dd,data:=.dict es n,slots:=sl}/\R (.ok (.ret .notImplemented)) s):=
 .of_wp λprog w A R s h=>by
  obtain⟨hp,g,d,tk,os⟩:=s
  obtain⟨hl,h⟩:=h
  wp_walk using qA4 hl,wpAny_load hl
  exact⟨_,rfl,h⟩
theorem rc_dict_str{l:Addr}{o:Obj}{es:Array DictEntry}{n:Nat}(b:Str)(u:Tok)(ho:s.heap.get? l=some o)(hc:o.cls=.type "dict")(hd:o.data=.dict es n)(hu:A.units<cLine):RcAt A s (.ref l) (.str b u) false:=λprog w E Q h=>by
 obtain⟨cls,dd,data,sl⟩:=o
 simp only at hc hd
 subst hc hd
 refine rc_eq_decline_or (k:=false) (Ta:="dict") (Tb:="str") ⟨_,ho,rfl⟩ (qB2 s b u) (by decide) F.sub_str_dict F.slot_dict_eq F.slot_str_eq_refl (λ_ hq=>?_) (λ_ hq=>?_) (λ_ hq=>qCj (rfl:isSame (.ref l) (.str b u)=pure false) hq) (.inr hu) h
 ·exact qA9 F.slot_dict_eq ⟨_,ho,rfl⟩ F.entry_dict_eq (F.args_dict_eq_2 _ _) (zlx l es n dd sl b u) ⟨ho,hq⟩
 ·exact qA9 F.slot_str_eq_refl (qB2 s b u) F.entry_str_eq (F.args_str_eq_2 _ _) (zly b u l (.type "dict") es n dd sl) ⟨ho,hq⟩
theorem rc_str_dict{l:Addr}{o:Obj}{es:Array DictEntry}{n:Nat}(b:Str)(u:Tok)(ho:s.heap.get? l=some o)(hc:o.cls=.type "dict")(hd:o.data=.dict es n)(hu:A.units<cLine):RcAt A s (.str b u) (.ref l) false:=λprog w E Q h=>by
 obtain⟨cls,dd,data,sl⟩:=o
 simp only at hc hd
 subst hc hd
 refine rc_eq_decline_or (k:=false) (Ta:="str") (Tb:="dict") (qB2 s b u) ⟨_,ho,rfl⟩ (by decide) F.sub_dict_str F.slot_str_eq F.slot_dict_eq_refl (λ_ hq=>?_) (λ_ hq=>?_) (λ_ hq=>qCj (rfl:isSame (.str b u) (.ref l)=pure false) hq) (.inr hu) h
 ·exact qA9 F.slot_str_eq (qB2 s b u) F.entry_str_eq (F.args_str_eq_2 _ _) (zly b u l (.type "dict") es n dd sl) ⟨ho,hq⟩
 ·exact qA9 F.slot_dict_eq_refl ⟨_,ho,rfl⟩ F.entry_dict_eq (F.args_dict_eq_2 _ _) (zlx l es n dd sl b u) ⟨ho,hq⟩
theorem eqAt_rs{l:Addr}{b:Str}{u:Tok}(h0:RcAt A s (.ref l) (.str b u) false):EqAt A s (.ref l) (.str b u) false:=λprog w E Q hq=>by
 unfold eqBool
 refine qBW (wpAny_ite_split (λhab=>absurd (eq_of_beq hab) nofun) (λ_=>?_))
 exact(qE (h0 prog w E _ (qAR hq)))
theorem eqAt_sr{l:Addr}{b:Str}{u:Tok}(h0:RcAt A s (.str b u) (.ref l) false):EqAt A s (.str b u) (.ref l) false:=λprog w E Q hq=>by
 unfold eqBool
 refine qBW (wpAny_ite_split (λhab=>absurd (eq_of_beq hab) nofun) (λ_=>?_))
 exact(qE (h0 prog w E _ (qAR hq)))
end
end PySem.SeqAt
namespace L2
open PySem PySem.Spec PyProof.Rows
noncomputable def ztm:PyData->Bool|.str _=>true|_=>false
noncomputable def Odd(K:qB)(H:Hp)(v:V):Prop:=zkh v=true\/∃a,v=.ref a/\((∃xs,SqL K H a xs)\/(∃xs,SqT K H a xs)\/∃ps,H a=some (.dK ps))
theorem zalh{K:qB}{H:Hp}{d:PyData}{v:V}(h:Rp H d v):Odd K H v:=by
 cases d with
 | none=>rw[zpa h];exact .inl rfl
 | bool b=>rw[zis h];exact .inl rfl
 | int i=>rw[zcw h];exact .inl rfl
 | str x=>rw[zge h];exact .inl rfl
 | list ds=>obtain⟨a,xs,rfl,ha,_⟩:=zeb h;exact .inr ⟨a,rfl,.inl ⟨xs,SqL.of ha⟩⟩
 | tuple ds=>obtain⟨a,xs,rfl,ha,_⟩:=zcv h;exact .inr ⟨a,rfl,.inr (.inl ⟨xs,SqT.of ha⟩)⟩
 | dict ds=>obtain⟨a,xs,rfl,ha,_⟩:=zoz h;exact .inr ⟨a,rfl,.inr (.inr ⟨xs,ha⟩)⟩
section
variable{X:Cx}
theorem zanw{pins:List (Addr×Obj)}{s:Shared}{σ:St}{H:Hp}(I:Inv X pins σ H s){a:Addr}{ps:List (Key×V)}(h:H a=some (.dK ps)):∃o es n,s.heap.get? a=some o/\o.cls=.type "dict"/\o.data=.dict es n:=by
 obtain⟨_,_,vs,_,p⟩:=(show zgb X.prog X.w H s.heap a (.dK ps)from I.hok a _ h)
 obtain⟨o,es,ep,h1,h2,h3,_⟩:=p
 exact⟨o,es,ep,h1,h2.1,h3⟩
theorem zzy{A:Around}{pins:List (Addr×Obj)}{s:Shared}{σ:St}{H:Hp}(I:Inv X pins σ H s)(hu:A.units+2<cLine){y:V}{u:Value}(ry:RelV y u)(oy:Odd X.K H y)(z:Str)(t:Tok):SeqAt.EqAt A s u (.str z t) (eqV y (.str z))/\SeqAt.EqAt A s (.str z t) u (eqV (.str z) y):=by
 have hu0:A.units<cLine:=by omega
 have hu1:A.in1.units<cLine:=by show A.units+1<cLine;omega
 rcases oy with fy|⟨a,rfl,h⟩
 ·exact⟨zadn ry ⟨t,rfl⟩ fy rfl,zadn ⟨t,rfl⟩ ry rfl fy⟩
 ·cases ry
  rcases h with⟨xs,h⟩|⟨xs,h⟩|⟨ps,h⟩
  ·obtain⟨its,rv,p,hz⟩:=I.list h
   exact⟨SeqAt.EqAt.list_str z t p.isList hu0,SeqAt.EqAt.str_list z t p.isList hu0⟩
  ·obtain⟨its,rv,p,hz⟩:=I.tuple h
   exact⟨SeqAt.EqAt.tuple_str z t p hu0,SeqAt.EqAt.str_tuple z t p hu0⟩
  ·obtain⟨o,es,n,h1,h2,h3⟩:=zanw I h
   exact⟨SeqAt.eqAt_rs (SeqAt.rc_dict_str z t h1 h2 h3 hu0),SeqAt.eqAt_sr (SeqAt.rc_str_dict z t h1 h2 h3 hu0)⟩
noncomputable def rInT(K:qB)(neg:Bool):R2:=λx y H Q=>∃p xs,y=.ref p/\(SqL K H p xs\/SqT K H p xs)/\((∃z,x=.str z)/\(∀w∈xs,Odd K H w)\/Odd K H x/\∀w∈xs,∃z,w=.str z)/\Q (.bl (if neg then !inV x xs else inV x xs)) H
theorem zyl{x y:V}{u:Value}{K:qB}{H:Hp}(r:RelV y u)(o:Odd K H y)(hx:zkh x=true\/zkh y=true):eqU x u=eqV y x:=by
 rcases o with f|⟨a,rfl,_⟩
 ·exact zado r f
 ·cases r
  cases x<;>rfl
theorem zym{x:V}{K:qB}{H:Hp}:∀{xs:List V}{us:List Value},Vals xs us->(∀w∈xs,Odd K H w/\(zkh x=true\/zkh w=true))->us.any (eqU x)=inV x xs
 | _,_,.nil,_=>rfl
 | y::xs,u::us,.cons r t,f=>by
  unfold inV
  obtain⟨o,g⟩:=f y qk
  rw[qBD,qBD,zyl r o g]
  congr 1
  exact zym t λw hw=>f w (qK _ hw)
theorem zyn{A:Around}{pins:List (Addr×Obj)}{s:Shared}{σ:St}{H:Hp}(I:Inv X pins σ H s)(hu:A.units+2<cLine){x:V}{v:Value}(rx:RelV x v):∀{xs:List V}{us:List Value},Vals xs us->((∃z,x=.str z)/\(∀w∈xs,Odd X.K H w)\/Odd X.K H x/\∀w∈xs,∃z,w=.str z)->∀u∈us,SeqAt.EqAt A s u v (eqU x u)
 | _,_,.nil,_=>λu hu=>by cases hu
 | y::xs,u::us,.cons r t,f=>λu' hu'=>by
  rcases qW.mp hu' with rfl|hm
  ·rcases f with⟨⟨z,rfl⟩,f⟩|⟨ox,f⟩
   ·obtain⟨tk,rfl⟩:=rx
    have oy:=f y qk
    rw[zyl r oy (.inl rfl)]
    exact(zzy I hu r oy z tk).1
   ·obtain⟨z,rfl⟩:=f y qk
    rw[zyl (K:=X.K) (H:=H) r (.inl rfl) (.inr rfl)]
    obtain⟨tk,rfl⟩:=r
    exact(zzy I hu rx ox z tk).2
  ·exact zyn I hu rx t (f.imp (λh=>⟨h.1,λw hw=>h.2 w (qK _ hw)⟩) (λh=>⟨h.1,λw hw=>h.2 w (qK _ hw)⟩)) u' hm
theorem zaeu{x:V}{K:qB}{H:Hp}{xs:List V}(f:(∃z,x=.str z)/\(∀w∈xs,Odd K H w)\/Odd K H x/\∀w∈xs,∃z,w=.str z):∀w∈xs,Odd K H w/\(zkh x=true\/zkh w=true):=λw hw=>by
 rcases f with⟨⟨z,rfl⟩,f⟩|⟨ox,f⟩
 ·exact⟨f w hw,.inl rfl⟩
 ·obtain⟨z,rfl⟩:=f w hw
  exact⟨.inl rfl,.inr rfl⟩
theorem zanx{K:qB}(hK:X.K=K)(hu:X.A.units+64<cLine):OpR X (compareOp .In) (rInT K false):=by
 subst hK
 intro pins s σ H x y v u Q I rx ry h
 obtain⟨p,xs,rfl,hq,f,q⟩:=h
 cases ry
 have hu2:X.A.in1.units+2<cLine:=by show X.A.units+1+2<cLine;omega
 have q:EP X pins σ Q (.bool (inV x xs)) s:=⟨.bl (inV x xs),H,I,rfl,q⟩
 rcases hq with hq|hq
 ·obtain⟨its,r,pl,hz⟩:=I.list hq
  refine SeqAt.in_listAt (eqU x) pl.isList (λw hw=>zyn I hu2 rx r f w (by simpa using hw)) ?_
  rw[show its.toArray.any (eqU x)=its.any (eqU x) by simp,zym r (zaeu f)]
  exact q
 ·obtain⟨its,r,pl,hz⟩:=I.tuple hq
  refine SeqAt.in_tupleAt (eqU x) pl (λw hw=>zyn I hu2 rx r f w (by simpa using hw)) ?_
  rw[show its.toArray.any (eqU x)=its.any (eqU x) by simp,zym r (zaeu f)]
  exact q
end
theorem zor{d:PyData}(h:ztm d=true):∃z,d=.str z:=by
 cases d<;>first
  | exact⟨_,rfl⟩
  | exact absurd (show false=true from h) qP
theorem zaev{H:Hp}{d:PyData}{v:V}(h:Rp H d v)(z:Str):eqV v (.str z)=qZ d (.str z)/\eqV (.str z) v=qZ (.str z) d:=by
 cases d with
 | none=>rw[zpa h];exact⟨by simp[eqV,qZ],by simp[eqV,qZ]⟩
 | bool b=>rw[zis h];exact⟨by simp[eqV,qZ],by simp[eqV,qZ]⟩
 | int i=>rw[zcw h];exact⟨by simp[eqV,qZ],by simp[eqV,qZ]⟩
 | str x=>rw[zge h];exact⟨by simp[eqV,qZ],by simp[eqV,qZ]⟩
 | list ds=>obtain⟨a,xs,rfl,ha,_⟩:=zeb h;exact⟨by simp[eqV,qZ],by simp[eqV,qZ]⟩
 | tuple ds=>obtain⟨a,xs,rfl,ha,_⟩:=zcv h;exact⟨by simp[eqV,qZ],by simp[eqV,qZ]⟩
 | dict ds=>obtain⟨a,xs,rfl,ha,_⟩:=zoz h;exact⟨by simp[eqV,qZ],by simp[eqV,qZ]⟩
theorem zaew{H:Hp}{dx:PyData}{x:V}(rx:Rp H dx x):∀{ds:List PyData}{xs:List V},Rps H ds xs->(ztm dx=true\/ds.all ztm=true)->inV x xs=ds.any λe=>qZ e dx
 | [],xs,h,_=>by unfold Rps at h;subst h;rfl
 | d::ds,xs,h,f=>by
  unfold Rps at h
  obtain⟨v,vs,rfl,h1,h2⟩:=h
  have ih:=zaew rx h2 (f.imp id λg=>by rw[qBE,qb]at g;exact g.2)
  unfold inV at ih ⊢
  rw[qBD,qBD,ih]
  congr 1
  rcases f with f|f
  ·obtain⟨z,rfl⟩:=zor f
   have:=zge rx
   subst this
   exact(zaev h1 _).1
  ·rw[qBE,qb]at f
   obtain⟨z,rfl⟩:=zor f.1
   have:=zge h1
   subst this
   exact(zaev rx _).2
theorem zaex{H:Hp}{ds:List PyData}{xs:List V}(h:Rps H ds xs){w:V}(hw:w∈xs):∃d∈ds,Rp H d w:=by
 obtain⟨i,hi⟩:=List.getElem?_of_mem hw
 obtain⟨d,hd,r⟩:=h.get hi
 exact⟨d,qp hd,r⟩
noncomputable def inTD(neg:Bool):OF:=λd c=>match zim c with
 | some ds=>if ztm d=true\/ds.all ztm=true then some (.bool (if neg then !(ds.any λe=>qZ e d)else ds.any λe=>qZ e d),false)else none
 | none=>none
theorem zany{K:qB}{neg:Bool}:SO (rInT K neg) (inTD neg):=by
 intro A H x y dx dy hA rx ry d fr e Q q
 unfold inTD at e
 split at e
 ·rename_i ds hi
  split at e
  ·rename_i h
   cases e
   have rx:=Rp.same (Offs.same A H) _ rx
   obtain⟨p,xs,rfl,hq,r⟩:=ztd (K:=K) (Rp.same (Offs.same A H) _ ry) hi
   refine⟨p,xs,rfl,hq,?_,?_⟩
   ·rcases h with h|h
    ·obtain⟨z,rfl⟩:=zor h
     have:=zge rx
     subst this
     exact .inl ⟨⟨_,rfl⟩,λw hw=>let⟨d,_,hd⟩:=zaex r hw;zalh hd⟩
    ·refine .inr ⟨zalh rx,λw hw=>?_⟩
     obtain⟨d,hm,hd⟩:=zaex r hw
     obtain⟨z,rfl⟩:=zor (qs.mp h d hm)
     exact⟨_,zge hd⟩
   ·rw[zaew rx r h]
    refine q _ H (Same.refl _) ?_ (λz=>by cases z)
    cases neg<;>exact zan
  ·cases e
 ·cases e
structure Bx(p:Prop):Prop where
 out:p
theorem Bx.pt{X:Cx}{e:Expr}{t:TT}(h:Bx (PW X e t)):Bx (PT X e t):=⟨h.out.pt⟩
theorem zak:∀{X:L2.Cx}{i:Int}{j:Nat}{pos:qu},L2.Bx (L2.PE X (qa.Constant (PySem.Const.int i) j pos) (L2.tC (L2.V.int i))):=by
 intro X i j pos
 exact⟨@zil X i j pos⟩
theorem zae:∀{X:L2.Cx},L2.Bx (L2.PA X [] L2.tNil):=by
 intro X
 exact⟨@zob X⟩
theorem zah:∀{X:L2.Cx}{e:qa}{es:List qa}{te:L2.TE}{t:L2.TA},L2.Bx (L2.PE X e te)->L2.Bx (L2.PA X es t)->L2.isStar e=Bool.false->L2.Bx (L2.PA X (e::es) (L2.tCons te t)):=by
 intro X e es te t ha hr hs
 exact⟨@zajh X e es te t ha.out hr.out hs⟩
theorem zbe:∀{X:L2.Cx}{a b:qa}{ta tb:L2.TE}{pos:qu}{op:PySem.Operator}{r:L2.R2},L2.OpR X (PySem.binaryOp op) r->L2.Bx (L2.PE X a ta)->L2.Bx (L2.PE X b tb)->L2.Bx (L2.PE X (a.BinOp op b pos) (L2.tOp r ta tb)):=by
 intro X a b ta tb pos op r ho ha hb
 exact⟨@zls X a b ta tb pos op r ho ha.out hb.out⟩
theorem zaj:∀{X:L2.Cx}{st:PySem.Stmt}{t:L2.TS},L2.Bx (L2.PS X st t)->L2.Bx (L2.PSs X [st] t):=by
 intro X st t h1
 exact⟨@zmf X st t h1.out⟩
theorem zag:∀{X:L2.Cx}{st:PySem.Stmt}{rest:List PySem.Stmt}{t u:L2.TS},L2.Bx (L2.PS X st t)->L2.Bx (L2.PSs X rest u)->L2.Bx (L2.PSs X (st::rest) (L2.tSeq t u)):=by
 intro X st rest t u h1 h2
 exact⟨@zlf X st rest t u h1.out h2.out⟩
theorem zfl:∀{X:L2.Cx}{x:PySem.Str}{p pos:qu}{e:qa}{es:List qa}{t:L2.TA}{ps:List PySem.Str}{k:Nat}{sp:L2.Sp},L2.Dn X.prog X.w X.K X.mg X.base x ps k sp->L2.Room k X.A->L2.Gl X x->L2.Bx (L2.PA X (e::es) t)->(x==qj "__debug__")=Bool.false->qAK (e::es) X.env=(Bool.false,PySem.eval e X.env)::qAK es X.env->((PySem.backTo pos (qAK es X.env)).any λ(x:Bool×PySem.Sem PySem.Value)=>x.fst)=Bool.false->L2.Bx (L2.PE X ((qa.Name x p).Call (e::es) [] pos) (L2.tCall sp [] L2.E0 t)):=by
 intro X x p pos e es t ps k sp D hr hg ha hdb he hpl
 exact⟨@zaui X x p pos e es t ps k sp D hr hg ha.out hdb he hpl⟩
theorem zav:∀{X:L2.Cx}{e:qa}{te:L2.TE}{pos:qu},L2.Bx (L2.PE X e te)->L2.Bx (L2.PS X (PySem.Stmt.Return (Option.some e) pos) (L2.tRet te)):=by
 intro X e te pos he
 exact⟨@zakv X e te pos he.out⟩
theorem zew:∀{X:L2.Cx}{pos:qu}{i:Nat}{x:PySem.Str}{e:qa}{te:L2.TE}{pos':qu},X.N.Nodup->X.N[i]?=Option.some x->L2.Loc X.env.scope x->L2.Bx (L2.PE X e te)->PySem.swapsWith e (Option.some (qa.Name x pos')) pos.line X.env=Pure.pure Bool.false->X.fn x=Bool.true\/List.lookup x X.env.scope.names=Option.some PySem.NameKind.local->L2.Bx (L2.PS X (PySem.Stmt.Assign [qa.Name x pos'] e pos) (L2.tAsg te (L2.gName i))):=by
 intro X pos i x e te pos' hN hi hx he hs hf
 exact⟨@zzp X pos i x e te pos' hN hi hx he.out hs hf⟩
theorem zko:∀{X:L2.Cx}{x:PySem.Str}{p pos:qu}{e:qa}{es:List qa}{t:L2.TA}{id:String}{r:List L2.V->L2.Hp->L2.VK->Prop},L2.CallR X (PySem.Value.builtin id) r->L2.Gl X x->X.mg x=Option.none->PySem.bootBuiltins x=Option.some (PySem.Value.builtin id)->L2.Bx (L2.PA X (e::es) t)->x≠qj "__name__"->(x==qj "__debug__")=Bool.false->qAK (e::es) X.env=(Bool.false,PySem.eval e X.env)::qAK es X.env->((PySem.backTo pos (qAK es X.env)).any λ(x:Bool×PySem.Sem PySem.Value)=>x.fst)=Bool.false->L2.Bx (L2.PE X ((qa.Name x p).Call (e::es) [] pos) (L2.tCB r t)):=by
 intro X x p pos e es t id r hc hg hm hv ha hn hdb he hpl
 exact⟨@zzr X x p pos e es t id r hc hg hm hv ha.out hn hdb he hpl⟩
theorem zdy:∀{X:L2.Cx}{b:Bool}{j:Nat}{pos:qu},L2.Bx (L2.PE X (qa.Constant (PySem.Const.bool b) j pos) (L2.tC (L2.V.bl b))):=by
 intro X b j pos
 exact⟨@zatw X b j pos⟩
theorem zeh:∀{X:L2.Cx}{a b:qa}{ta tb:L2.TE}{pos:qu}{r:L2.R2},L2.IxR X r->L2.Bx (L2.PE X a ta)->L2.Bx (L2.PE X b tb)->L2.PlainIx b->L2.Bx (L2.PE X (a.Subscript b pos) (L2.tOp r ta tb)):=by
 intro X a b ta tb pos r hr ha hb hs
 exact⟨@zarg X a b ta tb pos r hr ha.out hb.out hs⟩
theorem zbw:∀{X:L2.Cx}{t u:L2.TS}{pos:qu}{c:qa}{a b:List PySem.Stmt}{tc:L2.TT},L2.Bx (L2.PT X c tc)->L2.Bx (L2.PSs X a t)->L2.Bx (L2.PSs X b u)->L2.Bx (L2.PS X (PySem.Stmt.If c a b pos) (L2.tIfS tc t u)):=by
 intro X t u pos c a b tc hc ha hb
 exact⟨@zaqr X t u pos c a b tc hc.out ha.out hb.out⟩
theorem zbd:∀{X:L2.Cx},L2.Bx (L2.PSs X [] L2.tNext):=by
 intro X
 exact⟨@zamp X⟩
theorem zbf:∀{X:L2.Cx}{a:qa}{pos:qu}{tA:L2.TT},L2.Bx (L2.PT X a tA)->L2.Bx (L2.PT X (qa.UnaryOp PySem.UnaryOp.Not a pos) (L2.tNot tA)):=by
 intro X a pos tA ha
 exact⟨@zaqn X a pos tA ha.out⟩
theorem zao:∀{X:L2.Cx}{K:qB},
 X.K=K->
  ∀{a:qa}{ta:L2.TE},
   L2.Bx (L2.PE X a ta)->
    (∀(whole:PySem.Sem PySem.Value),
      PySem.isTrue a X.env whole=do
       let v <- whole
       PySem.standAt a.pos
       PySem.holding [v] (PySem.truthy v))->
     L2.Bx (L2.PT X a λ(σ:L2.St)(H:L2.Hp)(Q:Bool->L2.Hp->Prop)=>ta σ H λ(x:L2.V)(H':L2.Hp)=>∃(k:Bool),L2.TruV K x H' k/\Q k H'):=by
 intro X K hK a ta ha he
 exact⟨@zaek X K hK a ta ha.out he⟩
theorem zaji:∀{X:L2.Cx}{pos:qu}{i:Nat}{x:PySem.Str},X.N.Nodup->X.N[i]?=Option.some x->L2.Loc X.env.scope x->X.fn x=Bool.true\/List.lookup x X.env.scope.names=Option.some PySem.NameKind.local->L2.Bx (L2.PG X (qa.Name x pos) (L2.gName i)):=by
 intro X pos i x hN hi hx hf
 exact⟨@zya X pos i x hN hi hx hf⟩
theorem zhd:∀{X:L2.Cx}{es:List qa}{t:L2.TA}{pos:qu},L2.Bx (L2.PA X es t)->L2.Bx (L2.PE X (qa.List es pos) (L2.tLst t)):=by
 intro X es t pos h
 exact⟨@zakx X es t pos h.out⟩
theorem zft:∀{X:L2.Cx}{tg iter:qa}{body:List PySem.Stmt}{wi:L2.TI}{g:L2.TG}{tb:L2.TS}{pos:qu},PySem.PassesOwn (PySem.model X.prog X.w) X.A X.env X.xe->X.calm=Bool.true->L2.Bx (L2.PI X tg iter wi)->L2.Bx (L2.PG X tg g)->L2.Bx (L2.PSs X body tb)->(∀(x:PySem.Value),PySem.foldedSetIterable iter X.env x=Pure.pure x)->L2.Bx (L2.PS X (PySem.Stmt.For tg iter body [] pos) (L2.tFor wi g tb)):=by
 intro X tg iter body wi g tb pos hp hc hi hg hb hs
 exact⟨@zacx X tg iter body wi g tb pos hp hc hi.out hg.out hb.out hs⟩
theorem zbr:∀{X:L2.Cx}{a b:qa}{ta tb:L2.TE}{pos:qu}{op:PySem.CmpOp}{r:L2.R2},L2.OpR X (PySem.compareOp op) r->L2.Bx (L2.PE X a ta)->L2.Bx (L2.PE X b tb)->PySem.behindInMarks op b=Bool.false->L2.Bx (L2.PT X (a.Compare [op] [b] pos) (L2.tTest (L2.tOp r ta tb))):=by
 intro X a b ta tb pos op r ho ha hb hm
 exact⟨@zadc X a b ta tb pos op r ho ha.out hb.out hm⟩
theorem zhe:∀{X:L2.Cx}{x:PySem.Str}{j:Nat}{pos:qu},L2.Bx (L2.PE X (qa.Constant (PySem.Const.str x) j pos) (L2.tC (L2.V.str x))):=by
 intro X x j pos
 exact⟨@zaql X x j pos⟩
theorem zcj:∀{X:L2.Cx}{e:qa}{te:L2.TE}{pos:qu},L2.Bx (L2.PE X e te)->PySem.swapsWith e Option.none pos.line X.env=Pure.pure Bool.false->L2.Bx (L2.PS X (PySem.Stmt.Expr e pos) (L2.tDrop te)):=by
 intro X e te pos he hs
 exact⟨@zsp X e te pos he.out hs⟩
theorem zdu:∀{X:L2.Cx}{es:List qa}{t:L2.TA}{pos:qu}{x1:Nat},L2.Bx (L2.PA X es t)->L2.Bx (L2.PE X (qa.Tuple es x1 pos) (L2.tTup t)):=by
 intro X es t pos x1 h
 exact⟨@zarb X es t pos x1 h.out⟩
theorem ztn:∀{X:L2.Cx}{a:qa}{pos:qu}{op:PySem.BoolOp}{t:L2.TE},L2.Bx (L2.PE X a t)->L2.Bx (L2.PE X (qa.BoolOp op [a] pos) t):=by
 intro X a pos op t h
 exact⟨@zaqo X a pos op t h.out⟩
theorem zgv:∀{X:L2.Cx}{a b:qa}{ta tb:L2.TE}{pos:qu}{op:PySem.CmpOp}{r:L2.R2},L2.OpR X (PySem.compareOp op) r->L2.Bx (L2.PE X a ta)->L2.Bx (L2.PE X b tb)->PySem.behindInMarks op b=Bool.false->L2.Bx (L2.PE X (a.Compare [op] [b] pos) (L2.tOp r ta tb)):=by
 intro X a b ta tb pos op r ho ha hb hm
 exact⟨@zamt X a b ta tb pos op r ho ha.out hb.out hm⟩
theorem zns:∀{X:L2.Cx}{x:PySem.Str}{p pos:qu}{e:qa}{es:List qa}{t:L2.TA}{T:String}{r:List L2.V->L2.Hp->L2.VK->Prop},L2.CallR X (PySem.Value.type T) r->L2.Gl X x->X.mg x=Option.none->PySem.bootBuiltins x=Option.some (PySem.Value.type T)->L2.Bx (L2.PA X (e::es) t)->x≠qj "__name__"->(x==qj "__debug__")=Bool.false->qAK (e::es) X.env=(Bool.false,PySem.eval e X.env)::qAK es X.env->((PySem.backTo pos (qAK es X.env)).any λ(x:Bool×PySem.Sem PySem.Value)=>x.fst)=Bool.false->L2.Bx (L2.PE X ((qa.Name x p).Call (e::es) [] pos) (L2.tCB r t)):=by
 intro X x p pos e es t T r hc hg hm hv ha hn hdb he hpl
 exact⟨@zadi X x p pos e es t T r hc hg hm hv ha.out hn hdb he hpl⟩
theorem zca:∀{X:L2.Cx}{x:PySem.Str}{v:L2.V}{u:PySem.Value}{pos:qu},L2.Gl X x->X.mg x=Option.none->PySem.bootBuiltins x=Option.some u->L2.RelV v u->x≠qj "__name__"->(x==qj "__debug__")=Bool.false->L2.Bx (L2.PE X (qa.Name x pos) (L2.tC v)):=by
 intro X x v u pos hg hm hv r hn hd
 exact⟨@zamo X x v u pos hg hm hv r hn hd⟩
theorem zcm:∀{X:L2.Cx}{a:qa}{pos:qu}{tA:L2.TT},L2.Bx (L2.PT X a tA)->L2.Bx (L2.PW X (qa.BoolOp PySem.BoolOp.Or [a] pos) tA):=by
 intro X a pos tA ha
 exact⟨@zaqm X a pos tA ha.out⟩
theorem zcn:∀{X:L2.Cx}{a b:qa}{pos:qu}{tA tB':L2.TT}{rest:List qa},L2.Bx (L2.PT X a tA)->L2.Bx (L2.PW X (qa.BoolOp PySem.BoolOp.Or (b::rest) pos) tB')->L2.Bx (L2.PW X (qa.BoolOp PySem.BoolOp.Or (a::b::rest) pos) (L2.tOr tA tB')):=by
 intro X a b pos tA tB' rest ha hb
 exact⟨@zatx X a b pos tA tB' rest ha.out hb.out⟩
theorem zdj:∀{X:L2.Cx}{e:qa}{te:L2.TE},L2.Bx (L2.PE X e te)->L2.Bx (L2.PO X (Option.some e) (L2.tPart te)):=by
 intro X e te h
 exact⟨@zadl X e te h.out⟩
theorem zfe:∀{X:L2.Cx},L2.Bx (L2.PO X Option.none L2.tNoPart):=by
 intro X
 exact⟨@zadk X⟩
theorem zdc:∀{X:L2.Cx}{e:qa}{te:L2.TE}{lo hi:Option qa}{tl th:L2.TO}{pos p2:qu}{r:L2.V->Option Int->Option Int->L2.Hp->L2.VK->Prop},L2.SlR X r->L2.Bx (L2.PE X e te)->L2.Bx (L2.PO X lo tl)->L2.Bx (L2.PO X hi th)->L2.Bx (L2.PE X (e.Subscript (qa.Slice lo hi Option.none p2) pos) (L2.tSl r te tl th)):=by
 intro X e te lo hi tl th pos p2 r hr he hl hu
 exact⟨@zzs X e te lo hi tl th pos p2 r hr he.out hl.out hu.out⟩
theorem zdm:∀{X:L2.Cx}{scope:PySem.Scope}{N' own:List PySem.Str}{fr:List Nat}{elt target iter:qa}{ifs:List qa}{cpos:qu}{wi:L2.TI}{g:L2.TG}{tt:L2.TT}{te:L2.TE},L2.CompOk X scope N' own fr->X.calm=Bool.true->L2.Bx (L2.PI X target iter wi)->(∀(cl:List (PySem.Str×PySem.Addr))(C:PySem.Addr)(s:PySem.Shared)(H:L2.Hp)(fp:List PySem.Addr),L2.PG (L2.cxComp X scope N' own cl C s H fp) target g/\L2.PF (L2.cxComp X scope N' own cl C s H fp) ifs tt/\L2.PE (L2.cxComp X scope N' own cl C s H fp) elt te)->(∀(x:PySem.Value),PySem.foldedSetIterable iter X.env x=Pure.pure x)->L2.Bx (L2.PE X (elt.ListComp [{target:=target,iter:=iter,ifs:=ifs,is_async:=0}] scope cpos) (L2.tComp1 wi g tt te own fr)):=by
 intro X scope N' own fr elt target iter ifs cpos wi g tt te c hc hi hb hs
 exact⟨@zaip X scope N' own fr elt target iter ifs cpos wi g tt te c hc hi.out hb hs⟩
theorem zej:∀{X:L2.Cx}{K:qB},X.K=K->∀{T:String}{name:PySem.Str}{id:String}{r:L2.V->List L2.V->L2.Hp->L2.VK->Prop}{o e:qa}{es:List qa}{to:L2.TE}{t:L2.TA}{apos cpos:qu},PySem.PlainAttrs T->PySem.Slot T name id->PySem.typeOf (PySem.Value.builtin id)=Pure.pure (PySem.Value.type "method_descriptor")->L2.MtR X id r->L2.Bx (L2.PE X o to)->L2.Bx (L2.PA X (e::es) t)->PySem.attributeBase o name X.env (PySem.eval o X.env)=PySem.eval o X.env->((((PySem.backTo cpos (qAK (e::es) X.env)).all λ(x:Bool×PySem.Sem PySem.Value)=>!x.fst)&&(PySem.backToKw cpos (PySem.keywordEach [] X.env)).all λ(x:Option PySem.Str×PySem.Sem PySem.Value)=>x.fst.isSome)&&Decidable.decide (((e::es).length+([]:List Keyword).length+if([]:List Keyword).isEmpty=Bool.true then 0 else 1)<30))=Bool.true->(apos.endLine==cpos.line)=Bool.true->qAK (e::es) X.env=(Bool.false,PySem.eval e X.env)::qAK es X.env->((PySem.backTo cpos (qAK es X.env)).any λ(x:Bool×PySem.Sem PySem.Value)=>x.fst)=Bool.false->L2.Bx (L2.PE X ((o.Attribute name apos).Call (e::es) [] cpos) (L2.tBM K T r to t)):=by
 intro X K hK T name id r o e es to t apos cpos pa slot hty hm ho ha hbase hfew hline hs hplain
 exact⟨@zaec X K hK T name id r o e es to t apos cpos pa slot hty hm ho.out ha.out hbase hfew hline hs hplain⟩
theorem zyo:∀{X:L2.Cx}{a b:qa}{ta tb:L2.TE}{pos:qu}{rest:List qa},L2.Bx (L2.PE X a ta)->L2.Bx (L2.PE X (qa.BoolOp PySem.BoolOp.And (b::rest) pos) tb)->L2.Bx (L2.PE X (qa.BoolOp PySem.BoolOp.And (a::b::rest) pos) (L2.tAndV ta tb)):=by
 intro X a b ta tb pos rest ha hb
 exact⟨@zaqp X a b ta tb pos rest ha.out hb.out⟩
theorem zash:∀{X:L2.Cx}{a b:qa}{ta tb:L2.TE}{pos:qu}{rest:List qa},L2.Bx (L2.PE X a ta)->L2.Bx (L2.PE X (qa.BoolOp PySem.BoolOp.Or (b::rest) pos) tb)->L2.Bx (L2.PE X (qa.BoolOp PySem.BoolOp.Or (a::b::rest) pos) (L2.tOrV ta tb)):=by
 intro X a b ta tb pos rest ha hb
 exact⟨@zaty X a b ta tb pos rest ha.out hb.out⟩
theorem zanz:∀{X:L2.Cx}{tg l:qa}{tl:L2.TE},L2.Bx (L2.PE X l tl)->L2.Bx (L2.PI X tg l (L2.iStr tl)):=by
 intro X tg l tl hl
 exact⟨@zase X tg l tl hl.out⟩
theorem zen:∀{X:L2.Cx}{K:qB},X.K=K->∀{tg l:qa}{tl:L2.TE},L2.Bx (L2.PE X l tl)->L2.Bx (L2.PI X tg l (L2.iSeq K tl)):=by
 intro X K hK tg l tl hl
 exact⟨@zanp X K hK tg l tl hl.out⟩
theorem zlj:∀{X:L2.Cx}{tg a:qa}{ta:L2.TA}{p pos:qu},L2.Gl X (qj "range")->X.mg (qj "range")=Option.none->L2.Bx (L2.PA X [a] ta)->qAK [a] X.env=[(Bool.false,PySem.eval a X.env)]->L2.Bx (L2.PI X tg ((qa.Name (qj "range") p).Call [a] [] pos) (L2.iRng1 ta)):=by
 intro X tg a ta p pos hg hm ha hs
 exact⟨@zun X tg a ta p pos hg hm ha.out hs⟩
theorem zgj:∀{X:L2.Cx},L2.Bx (L2.PF X [] L2.tAll):=by
 intro X
 exact⟨@zarn X⟩
theorem zyp:∀{X:L2.Cx}{j:Nat}{pos:qu},L2.Bx (L2.PE X (qa.Constant PySem.Const.none j pos) (L2.tC L2.V.non)):=by
 intro X j pos
 exact⟨@zaqk X j pos⟩
theorem zfu:∀{X:L2.Cx}{x:PySem.Str}{i:Int}{pos:qu},L2.Gl X x->(∃(t:PySem.Tok),X.mg x=Option.some (PySem.Value.int i t))->(x==qj "__debug__")=Bool.false->L2.Bx (L2.PE X (qa.Name x pos) (L2.tC (L2.V.int i))):=by
 intro X x i pos hg hm hd
 exact⟨@zajg X x i pos hg hm hd⟩
theorem zaey:∀{X:L2.Cx}{a:qa}{ta:L2.TE}{pos:qu},L2.Bx (L2.PE X a ta)->L2.Bx (L2.PE X (qa.UnaryOp PySem.UnaryOp.Not a pos) (L2.tNotV ta)):=by
 intro X a ta pos ha
 exact⟨@zaqq X a ta pos ha.out⟩
theorem zaez:∀{X:L2.Cx}{a b c:qa}{ta tb tc:L2.TE}{pos:qu}{op op':PySem.CmpOp}{r r':L2.R2},L2.OpR X (PySem.compareOp op) r->L2.OpR X (PySem.compareOp op') r'->L2.Bx (L2.PE X a ta)->L2.Bx (L2.PE X b tb)->L2.Bx (L2.PE X c tc)->PySem.lastMarks [op,op'] [b,c]=Bool.false->L2.Bx (L2.PE X (a.Compare [op,op'] [b,c] pos) (L2.tChain r r' ta tb tc)):=by
 intro X a b c ta tb tc pos op op' r r' ho ho' ha hb hc hm
 exact⟨@zaif X a b c ta tb tc pos op op' r r' ho ho' ha.out hb.out hc.out hm⟩
theorem zvo:∀{X:L2.Cx}{a b c:qa}{ta tb tc:L2.TE}{pos:qu}{op op':PySem.CmpOp}{r r':L2.R2},L2.OpR X (PySem.compareOp op) r->L2.OpR X (PySem.compareOp op') r'->L2.Bx (L2.PE X a ta)->L2.Bx (L2.PE X b tb)->L2.Bx (L2.PE X c tc)->PySem.lastMarks [op,op'] [b,c]=Bool.false->L2.Bx (L2.PT X (a.Compare [op,op'] [b,c] pos) (L2.tTest (L2.tChain r r' ta tb tc))):=by
 intro X a b c ta tb tc pos op op' r r' ho ho' ha hb hc hm
 exact⟨@zaig X a b c ta tb tc pos op op' r r' ho ho' ha.out hb.out hc.out hm⟩
theorem zjg:∀{X:L2.Cx}{st:PySem.Stmt},L2.Bx (L2.PS X st L2.tNever):=by
 intro X st
 exact⟨@zaib X st⟩
theorem zyq:∀{X:L2.Cx}{pos:qu}{tg e:qa}{te:L2.TE}{g:L2.TG},L2.Bx (L2.PE X e te)->L2.Bx (L2.PG X tg g)->PySem.swapsWithSole [tg] e pos.line X.env=Pure.pure Bool.false->PySem.swappedStores [tg] e X.env=Pure.pure Option.none->List.map (λ(x:Bool×(PySem.Value->PySem.Sem Unit))=>x.snd) (PySem.assignEach [tg] X.env)=[PySem.assign tg X.env]->L2.Bx (L2.PS X (PySem.Stmt.Assign [tg] e pos) (L2.tAsg te g)):=by
 intro X pos tg e te g he hg hs hw h1
 exact⟨@zaqt X pos tg e te g he.out hg.out hs hw h1⟩
theorem zfv:∀{X:L2.Cx}{K:qB},X.K=K->∀{a:qa}{ta:L2.TA}{p pos:qu}{elts:List qa}{x1:Nat}{tpos:qu},L2.Gl X (qj "enumerate")->X.mg (qj "enumerate")=Option.none->L2.Bx (L2.PA X [a] ta)->qAK [a] X.env=[(Bool.false,PySem.eval a X.env)]->L2.Bx (L2.PI X (qa.Tuple elts x1 tpos) ((qa.Name (qj "enumerate") p).Call [a] [] pos) (L2.iEnumX K ta)):=by
 intro X K hK a ta p pos elts x1 tpos hg hm ha hs
 exact⟨@zajd X K hK a ta p pos elts x1 tpos hg hm ha.out hs⟩
theorem zck:∀{X:L2.Cx},L2.Bx (L2.PGs X [] L2.gNil):=by
 intro X
 exact⟨@zamq X⟩
theorem zau:∀{X:L2.Cx}{e:qa}{es:List qa}{t:L2.TG}{u:L2.TGs},L2.Bx (L2.PG X e t)->L2.Bx (L2.PGs X es u)->List.map (λ(x:Bool×(PySem.Value->PySem.Sem Unit))=>x.snd) (PySem.assignEach (e::es) X.env)=PySem.assign e X.env::List.map (λ(x:Bool×(PySem.Value->PySem.Sem Unit))=>x.snd) (PySem.assignEach es X.env)->L2.Bx (L2.PGs X (e::es) (L2.gCons t u)):=by
 intro X e es t u h1 h2 hs
 exact⟨@zaic X e es t u h1.out h2.out hs⟩
theorem zcl:∀{X:L2.Cx}{K:qB},X.K=K->∀{es:List qa}{k:Nat}{t:L2.TGs}{n:Nat}{pos:qu},X.calm=Bool.true->L2.Bx (L2.PGs X es t)->(PySem.assignEach es X.env).length=n->List.findIdx? (λ(x:Bool×(PySem.Value->PySem.Sem Unit))=>x.fst) (PySem.assignEach es X.env)=Option.none->L2.Bx (L2.PG X (qa.Tuple es k pos) (L2.gTup K n t)):=by
 intro X K hK es k t n pos hc h hn hst
 exact⟨@zanf X K hK es k t n pos hc h.out hn hst⟩
theorem zafa:∀{X:L2.Cx}{a:qa}{ta:L2.TE}{pos:qu}{op:PySem.UnaryOp}{r:L2.V->L2.Hp->L2.VK->Prop},L2.UnR X (PySem.unaryOp op) r->L2.Bx (L2.PE X a ta)->L2.Bx (L2.PE X (qa.UnaryOp op a pos) (L2.tUn r ta)):=by
 intro X a ta pos op r ho ha
 exact⟨@zatz X a ta pos op r ho ha.out⟩
theorem zabu:∀{X:L2.Cx}{e:qa}{te:L2.TE}{p1 p2 pos1 pos2:qu},X.calm=Bool.true->L2.Gl X (qj "len")->X.mg (qj "len")=Option.none->L2.Gl X (qj "set")->X.mg (qj "set")=Option.none->L2.Bx (L2.PE X e te)->qAK [e] X.env=(Bool.false,PySem.eval e X.env)::qAK [] X.env->L2.Bx (L2.PE X ((qa.Name (qj "len") p1).Call [(qa.Name (qj "set") p2).Call [e] [] pos2] [] pos1) (L2.tLenSet te)):=by
 intro X e te p1 p2 pos1 pos2 hc hgl hml hgs hms he hs
 exact⟨@zaer X e te p1 p2 pos1 pos2 hc hgl hml hgs hms he.out hs⟩
theorem zos:∀{X:L2.Cx}{K:qB},X.K=K->∀{T:String}{name:PySem.Str}{id:String}{r:L2.V->List L2.V->L2.Hp->L2.VK->Prop}{o:qa}{to:L2.TE}{apos cpos:qu},PySem.PlainAttrs T->PySem.Slot T name id->PySem.typeOf (PySem.Value.builtin id)=Pure.pure (PySem.Value.type "method_descriptor")->L2.MtR X id r->L2.Bx (L2.PE X o to)->PySem.attributeBase o name X.env (PySem.eval o X.env)=PySem.eval o X.env->(apos.endLine==cpos.line)=Bool.true->L2.Bx (L2.PE X ((o.Attribute name apos).Call [] [] cpos) (L2.tBM0 K T r to)):=by
 intro X K hK T name id r o to apos cpos pa slot hty hm ho hbase hline
 exact⟨@zans X K hK T name id r o to apos cpos pa slot hty hm ho.out hbase hline⟩
theorem bv{X:Cx}(i:Nat){x:Str}{pos:Pos}(hN:X.N[i]?=some x:=by rfl)(hv:visB X.env.scope x=true:=by rfl)(hd:(x==("__debug__":Str))=false:=by decide)
  (hcd:(x==("__classdict__":Str))=false:=by decide):Bx (PE X (.Name x pos) (tVar i)):=⟨zaku hN (visB.of hv) hd hcd⟩
noncomputable def SatK(fx:Addr->Prop)(H0:Hp)(J:Nat->Prop)(σ0:St)(D:Ends):Out->Prop
 | .nx env=>∀σ H,EnvOk fx H0 env σ H->(∀j,J j->σ[j]?=σ0[j]?)->D.nx σ H
 | .bk env=>∀σ H,EnvOk fx H0 env σ H->(∀j,J j->σ[j]?=σ0[j]?)->D.bk σ H
 | .ct env=>∀σ H,EnvOk fx H0 env σ H->(∀j,J j->σ[j]?=σ0[j]?)->D.ct σ H
 | .rt d fr=>∀v H,Same H0 H->zyi fx H0 d fr v H->D.rt v H
noncomputable def SSk(J:Nat->Prop)(ts:TS)(F:SF):Prop:=∀(fx:Addr->Prop)(H0:Hp)(env:DEnv)(σ:St)(H:Hp)(D:Ends),EnvOk fx H0 env σ H->∀o,F env=some o->SatK fx H0 J σ D o->ts D σ H
section
variable{J:Nat->Prop}
theorem ziv{te:TE}{f:EF}{i:Nat}(h1:SE te f)(hJ:¬J i):SSk J (tAsg te (gName i)) (sSet i f):=by
 intro fx H0 env σ H D h o e q
 unfold sSet at e
 obtain⟨r,er,rfl⟩:=qH.mp e
 exact h1 fx H0 env σ H h r er _ λv H' s hv=>q _ H' (h.put s hv i) λj hj=>qO λz=>hJ (by rw[z];exact hj)
end
end L2
namespace HT
open PySem PySem.Spec PyProof.Rows L2
section
variable{prog:Program}{w:World}{A:Around}{E:Value->Shared->Prop}{s:Shared}
theorem getItem_tuple_whole{t sl:Addr}{items:Array Value}{vl vu:Value}{lo hi:Option Int}{Q:Value->Shared->Prop}(ht:IsTup s.heap t items)(hs:s.heap.IsSliceOf sl vl vu .none)(pl:IsPart vl lo)(pu:IsPart vu hi)
  (hw:sIx items.size 0 lo=0/\sIx items.size items.size hi=items.size) (h:Q (.ref t) s):wpAny (model prog w) A (getItem (.ref t) (.ref sl)) Q E s:=by
 obtain⟨os,hos,hcs,hds⟩:=id hs
 have hTs:s.TypeIs (.ref sl) "slice":=⟨os,hos,hcs⟩
 unfold getItem
 try with_reducible refine qBW ?_
 first|refine qE (qQ ?_)|skip
 refine qE (wpAny_sequenceKey ht.typeIs (by decide) ?_)
 refine qE (qA7 (name:=Str.ofString "__getitem__") ht.typeIs qAS
  (qBi qAS ht.typeIs entry_tuple_getitem ?_ (args_tuple_getitem _ _)))
 show wpAny _ _ (Builtin.Tuple.tupleItemsOf (.ref t) >>=_) _ _ s
 refine qE (tupleItemsOf_ ht ?_)
 refine qE (qCC hTs ?_)
 rw[if_pos (by decide)]
 refine qE (zjv hs pl pu ?_)
 have hyes:(((sIx items.size 0 lo:Nat):Int)==0&&(1:Int)==1&&(sIx items.size items.size hi - sIx items.size 0 lo)==items.size)=true:=by
  rw[hw.1,hw.2];simp
 show wpAny _ _ (if(((sIx items.size 0 lo:Nat):Int)==0&&(1:Int)==1&&(sIx items.size items.size hi - sIx items.size 0 lo)==items.size)=true then _ else _) _ _ s
 rw[if_pos hyes]
 unfold Builtin.Tuple.tupleIsExact
 refine qE (qE (qCC ht.typeIs (qQ ?_)))
 rw[if_pos (by decide)]
 refine qE (wpAny_rule ?_)
 first
  | exact qQ ⟨_,rfl,qQ h⟩
  | exact qE (qQ (qQ ⟨_,rfl,qQ h⟩))
  | exact qE (qQ (qE (qQ (qQ ⟨_,rfl,qQ h⟩))))
end
end HT
namespace L2
open PySem PySem.Spec PyProof.Rows
noncomputable def rSlW(K:qB):V->Option Int->Option Int->Hp->VK->Prop:=λx lo hi H Q=>∃a xs,x=.ref a/\SqT K H a xs/\
 ((HT.sIx xs.length 0 lo=0/\HT.sIx xs.length xs.length hi=xs.length)->Q (.ref a) H)/\(¬(HT.sIx xs.length 0 lo=0/\HT.sIx xs.length xs.length hi=xs.length)->∀p,H p=none->Q (.ref p) (upd H p (.tup (cutV xs lo hi))))
theorem sl_W{X:Cx}{K:qB}(hK:X.K=K):SlR X (rSlW K):=by
 subst hK
 intro pins s σ H x v vl vu lo hi sl Q I rx hs pl pu h
 obtain⟨a,xs,rfl,hx,q1,q2⟩:=h
 by_cases hw:HT.sIx xs.length 0 lo=0/\HT.sIx xs.length xs.length hi=xs.length
 ·cases rx
  obtain⟨its,r,ht,hz⟩:=I.tuple hx
  have hlen:its.toArray.size=xs.length:=by rw[qL];exact r.length.symm
  refine⟨"tuple",_,qAS.lookup,ht.typeIs,?_⟩
  exact HT.getItem_tuple_whole ht hs pl pu (by rw[hlen];exact hw) ⟨.ref a,H,I,rfl,q1 hw⟩
 ·exact zare pins s σ H _ v vl vu lo hi sl Q I rx hs pl pu ⟨a,xs,rfl,hx,hw,q2 hw⟩
noncomputable def eSlT(a:EF)(l h:PF'):EF:=λenv=>(a env).bind λx=>(l env).bind λlo=>(h env).bind λhi=>match x.d with
 | .tuple ds=>some ⟨.tuple (cutD ds lo hi),false,x.bs⟩
 | _=>none
theorem zali{K:qB}{te:TE}{tl th:TO}{f:EF}{fl fh:PF'}(h1:SE te f)(h2:SPt tl fl)(h3:SPt th fh):SE (tSl (rSlW K) te tl th) (eSlT f fl fh):=by
 intro fx H0 env σ H h rr hr Q q
 unfold eSlT at hr
 obtain⟨⟨d,frd,bs⟩,ex,hr⟩:=qA.mp hr
 obtain⟨lo,el,hr⟩:=qA.mp hr
 obtain⟨hi,eh,hr⟩:=qA.mp hr
 cases d with
 | tuple ds=>
  cases hr
  refine h1 fx H0 env σ H h _ ex _ λv H1 s1 v1=>h2 fx H0 env σ H1 (h.up s1) _ el _ λH2 s2=>h3 fx H0 env σ H2 (h.up (s1.trans s2)) _ eh _ λH3 s3=>?_
  have v3:=(v1.later (Same.refl _) (s2.trans s3) λ_ z=>z).rp
  have t3:=(s1.trans s2).trans s3
  obtain⟨p,xs,rfl,hp,r⟩:=zcv v3
  refine⟨p,xs,rfl,SqT.of (zef hp),λhw=>q _ _ t3 ⟨?_,λz=>by cases z⟩,λ_ l hl=>q _ _ (t3.trans (Same.new hl)) ⟨?_,λz=>by cases z⟩⟩
  ·have e:cutD ds lo hi=ds:=by
    unfold cutD
    rw[r.length,hw.1,hw.2,List.drop_zero,Nat.sub_zero,qB1 (by rw[r.length];exact qM _)]
   show Rp _ (.tuple (cutD ds lo hi)) _
   rw[e]
   exact v3
  ·have hA:=(h.up t3).lims bs
   exact zpe hl (zhz hA hl) (r.cut lo hi)
 | _=>cases hr
noncomputable def plS:Sl->Sl
 | .ac d=>.pl d
 | s=>s
noncomputable def plE(env:DEnv):DEnv:=env.map plS
noncomputable def noA(as:List Nat)(env:DEnv):DEnv:=as.foldl (λe i=>e.set i .no) env
noncomputable def zavk(h:Nat)(as:List Nat)(f1 f2 f3:EF)(R1:SF)(c:TF)(ix:EF)(R2:SF):SF:=λenv=>
 (f1 (plE env)).bind λr1=>(f2 (plE env)).bind λr2=>(f3 (plE env)).bind λr3=>match r3.d with
 | .list ds=>if r3.fr=true/\h∉as then(R1 ((plE env).set h (.pl (.tuple [r1.d,r2.d,.list ds])))).bind λo=>match o with
  | .nx e=>if e.length=env.length/\h<env.length then(c e).bind λb=>if b=true then(ix e).bind λz=>(match z.d with
    | .int k=>if 0<=k/\k<100000/\k.toNat<ds.length then R2 ((noA as (plE env)).set h (.pl (.tuple [r1.d,r2.d,.list (ds.eraseIdx k.toNat)])))else none
    | _=>none)else R2 ((noA as (plE env)).set h (.pl (.tuple [r1.d,r2.d,.list ds])))else none
  | .rt d fr=>some (.rt d fr)
  | _=>none else none
 | _=>none
noncomputable def repD:OF
 | .list ds,.int n=>if 0<=n/\n<=100/\ds.length<=100 then some (.list (List.replicate n.toNat ds).flatten,true)else none
 | _,_=>none
theorem Rps.rep{H:Hp}{ds:List PyData}{vs:List V}(h:Rps H ds vs):∀(n:Nat),Rps H (List.replicate n ds).flatten (List.replicate n vs).flatten
 | 0=>zet
 | n+1=>by
  rw[qAP,qAP,qBC,qBC]
  exact h.append (Rps.rep h n)
theorem zasi:SO rRep repD:=by
 intro A H x y dx dy hA rx ry d fr e Q q
 unfold repD at e
 split at e
 ·rename_i ds n
  split at e
  ·rename_i hl
   cases e
   obtain⟨a,xs,rfl,h1,r1⟩:=zeb rx
   cases zcw ry
   have hlen:=r1.length
   refine⟨a,n,xs,rfl,rfl,zef h1,by omega,by omega,?_,λp hp=>?_⟩
   ·refine zha ?_
    rw[<- hlen]
    calc ds.length * n.toNat<=100 * 100:=Nat.mul_le_mul hl.2.2 (by omega)
     _<=100000:=by decide
   ·have r:=r1.rep n.toNat
    exact q _ _ (Same.new hp) (zva hp (zhz hA hp) r) λ_=>⟨p,rfl,hp,zpd hp r⟩
  ·cases e
 ·cases e
end L2
namespace PySem
open Sem (wp)
end PySem
namespace L2
open PySem PySem.Spec PyProof.Rows
end L2
namespace PySem
open Sem (wp)
end PySem
namespace L2
open PySem PySem.Spec PyProof.Rows
theorem zajj(t b:Addr)(items items2:Array Value)(n n2:Nat)(dd dd2:Option Addr)(sl sl2:Array (Option Value))(hc0:items.isEmpty=true) :
  Meets (Builtin.«tuple.__add__» ⟨[.ref t,.ref b],[]⟩) (λ_ R s=>s.heap.get? t=some {cls:=.type "tuple",dict:=dd,data:=.seq items n,slots:=sl}/\s.heap.get? b=some {cls:=.type "tuple",dict:=dd2,data:=.seq items2 n2,slots:=sl2}/\R (.ok (.ret (.ref b))) s):=
 .of_wp λprog w A R s h=>by
  obtain⟨hp,g,d,tk,os⟩:=s;obtain⟨hl,hb,h⟩:=h
  have f2:=sub_tuple_tuple
  wp_walk using qA4 hl,qA4 hb
  exact⟨_,rfl,h⟩
noncomputable def zasj(K:qB):R2:=λx y H Q=>zait K x y H Q\/∃a b ys,x=.ref a/\y=.ref b/\SqT K H a []/\SqT K H b ys/\Q y H
theorem zafb{X:Cx}{K:qB}(hK:X.K=K):OpR X (binaryOp .Add) (zasj K):=by
 subst hK
 intro pins s σ H x y v u Q I rx ry h
 rcases h with h|⟨a,b,ys,rfl,rfl,ha,hb,q⟩
 ·exact zaea pins s σ H x y v u Q I rx ry h
 ·cases rx
  cases ry
  obtain⟨its,r1,p1,_⟩:=I.tuple ha
  obtain⟨its2,r2,p2,_⟩:=I.tuple hb
  cases r1
  obtain⟨⟨cls,dd,data,sl⟩,ho,hc,n,hd⟩:=id p1
  obtain⟨⟨cls2,dd2,data2,sl2⟩,ho2,hc2,n2,hd2⟩:=id p2
  simp only at hc hd hc2 hd2
  subst hc hd hc2 hd2
  exact concat_meets ⟨_,ho,rfl⟩ ⟨_,ho2,rfl⟩ qCc seq_tuple_add qBu qBq (qBj _ _)
   (zajj a b _ its2.toArray n n2 dd dd2 sl sl2 (by rfl)) ⟨ho,ho2,⟨.ref b,H,I,rfl,q⟩⟩
noncomputable def addE:OF
 | .tuple [],.tuple ys=>some (.tuple ys,false)
 | x,y=>addD x y
theorem zafc{K:qB}:SO (zasj K) addE:=by
 intro A H x y dx dy hA rx ry d fr e Q q
 unfold addE at e
 split at e
 ·cases e
  obtain⟨a,xs,rfl,ha,r⟩:=zcv rx
  obtain⟨b,ys',rfl,hb,r'⟩:=zcv ry
  have:xs=[]:=by unfold Rps at r;exact r
  subst this
  exact .inr ⟨a,b,_,rfl,rfl,SqT.of (zef ha),SqT.of (zef hb),q _ H (Same.refl _) ry λz=>by cases z⟩
 ·exact .inl (zhg A H x y dx dy hA rx ry d fr e Q q)
section
variable{X:Cx}
theorem bpaC{e:Expr}{es:List Expr}{te:TE}{t:TA}(h1:Bx (PE X e te))(h2:Bx (PA X es t))(h3:isStar e=false:=by rfl):Bx (PA X (e::es) (tCons te t)):=zah h1 h2 h3
theorem bpeD{x:Str}{p pos:Pos}{e:Expr}{es:List Expr}{t:TA}{ps:List Str}{k m:Nat}{sp:Sp}(D:Dn X.prog X.w X.K X.mg X.base x ps k sp)(hr:Room m X.A)(ha:Bx (PA X (e::es) t))(hm:k<=m:=by decide)(hg:Gl X x:=by rfl)(hd:(x==("__debug__":Str))=false:=by decide)
  (hs:isStar e=false:=by rfl) (hp:((backTo pos (starEach es X.env)).any λx=>x.1)=false:=by rfl):Bx (PE X (.Call (.Name x p) (e::es) [] pos) (tCall sp [] E0 t)):=zfl D (hr.mono hm) hg ha hd (zap hs) hp
theorem bpeB{x:Str}{p pos:Pos}{e:Expr}{es:List Expr}{t:TA}{id:String}{r:List V->Hp->VK->Prop}(hc:CallR X (.builtin id) r)(hm:X.mg x=none)(hb:bootBuiltins x=some (.builtin id))(ha:Bx (PA X (e::es) t))(hg:Gl X x:=by rfl)(h1:x≠("__name__":Str):=by decide)(h2:(x==("__debug__":Str))=false:=by decide)
  (hs:isStar e=false:=by rfl) (hp:((backTo pos (starEach es X.env)).any λx=>x.1)=false:=by rfl):Bx (PE X (.Call (.Name x p) (e::es) [] pos) (tCB r t)):=zko hc hg hm hb ha h1 h2 (zap hs) hp
theorem bpeT{x:Str}{p pos:Pos}{e:Expr}{es:List Expr}{t:TA}{T:String}{r:List V->Hp->VK->Prop}(hc:CallR X (.type T) r)(hm:X.mg x=none)(hb:bootBuiltins x=some (.type T))(ha:Bx (PA X (e::es) t))(hg:Gl X x:=by rfl)(h1:x≠("__name__":Str):=by decide)(h2:(x==("__debug__":Str))=false:=by decide)
  (hs:isStar e=false:=by rfl) (hp:((backTo pos (starEach es X.env)).any λx=>x.1)=false:=by rfl):Bx (PE X (.Call (.Name x p) (e::es) [] pos) (tCB r t)):=zns hc hg hm hb ha h1 h2 (zap hs) hp
theorem bpsS{pos:Pos}{i:Nat}{x:Str}{e:Expr}{te:TE}{pos':Pos}(hN:X.N.Nodup)(hi:X.N[i]?=some x)(hl:Loc X.env.scope x)(he:Bx (PE X e te))(hs:swapsWith e (some (.Name x pos')) pos.line X.env=pure false:=by rfl)(hf:X.fn x=true\/X.env.scope.names.lookup x=some .local:=by exact .inl rfl):Bx (PS X (.Assign [.Name x pos'] e pos) (tAsg te (gName i))):=zew hN hi hl he hs hf
theorem bpeX{a b:Expr}{ta tb:TE}{pos:Pos}{r:R2}(hr:IxR X r)(h1:Bx (PE X a ta))(h2:Bx (PE X b tb))(hp:PlainIx b:=by exact λ_ _=>rfl):Bx (PE X (.Subscript a b pos) (tOp r ta tb)):=zeh hr h1 h2 hp
theorem bpgN{pos:Pos}{i:Nat}{x:Str}(hN:X.N.Nodup)(hi:X.N[i]?=some x)(hl:Loc X.env.scope x)(hf:X.fn x=true\/X.env.scope.names.lookup x=some .local:=by first|exact .inl rfl|exact .inr rfl|assumption):Bx (PG X (.Name x pos) (gName i)):=zaji hN hi hl hf
end
noncomputable def xcIn(K:qB)(C:Addr):Bool:=match K.lookup C with
 | some ⟨.type "type",_,.cls cd,sl⟩=>(match cd.mro,sl.toList with
  | .ref C'::bm,[_,_,_,_,some (.builtin n),_]=>C'==C&&!cd.hasDel&&cd.hasDict&&n=="ValueError.__new__"&&bm.contains (.type "ValueError")&&bm.contains (.type "BaseException")&&!bm.contains (.type "AttributeError")&&!bm.contains (.type "NameError")
  | _,_=>false)
 | _=>false
theorem zask{K:qB}{h:Heap}{C:Addr}(X:K.In h)(q:xcIn K C=true):∃nm qn N bs bm sn sub ab col dd k0 k1 k2 k3 k5,
  h.get? C=some (excClassObj nm qn C N bs bm true sn sub ab col dd k0 k1 k2 k3 k5 "ValueError.__new__")/\(Value.ref C::bm).contains (.type "ValueError")=true/\(Value.ref C::bm).contains (.type "BaseException")=true/\(Value.ref C::bm).contains (.type "AttributeError")=false/\(Value.ref C::bm).contains (.type "NameError")=false:=by
 unfold xcIn at q
 split at q
 ·rename_i dd cd sl ho
  split at q
  ·rename_i C' bm k0 k1 k2 k3 n k5 hm hs
   simp only[qb,beq_iff_eq,Bool.not_eq_true']at q
   obtain⟨⟨⟨⟨⟨⟨⟨rfl,hdel⟩,hdc⟩,rfl⟩,hv⟩,hb⟩,ha⟩,hn⟩:=q
   obtain⟨nm,bs,mro,ns,qn,hd,sn,sub,ab,col,del⟩:=cd
   dsimp only at hm hdel hdc
   subst hm hdel hdc
   have hsl:sl=#[k0,k1,k2,k3,some (.builtin "ValueError.__new__"),k5]:=by
    obtain⟨l⟩:=sl
    simp only at hs
    rw[hs]
   subst hsl
   refine⟨nm,qn,ns,bs,bm,sn,sub,ab,col,dd,k0,k1,k2,k3,k5,X _ _ ho,?_,?_,?_,?_⟩
   ·rw[qAX,hv,qAy]
   ·rw[qAX,hb,qAy]
   ·rw[qAX,ha];rfl
   ·rw[qAX,hn];rfl
  ·cases q
 ·cases q
end L2
namespace PySem
open Sem (wp)
section
variable{prog:Program}{w:World}{A:Around}{E:Value->Shared->Prop}{h:Heap}{g:Array GenState}{d:Drawn}{t:Nat}{os:OsState}
variable{nm q:Str}{C N:Addr}{bs bm:List Value}{sn:List Str}{sub:List Value}{ab:Bool}{col:Option Bool}{dd:Option Addr}{k0 k1 k2 k3 k5:Option Value}
theorem zabv{M:Model}{rest:List Value}{Q:Unit->Shared->Prop}(hC:h.get? C=some (excClassObj nm q C N bs bm true sn sub ab col dd k0 k1 k2 k3 k5 "ValueError.__new__"))(hv:(Value.ref C::bm).contains (.type "ValueError")=true)
  (hq:Q () ⟨h,g,d,t,os⟩):wpAny M A (checkBuiltinCall "ValueError.__new__" ⟨.ref C::rest,[]⟩) Q E ⟨h,g,d,t,os⟩:=by
 have F:=qBg
 have f0:=F.noStar
 simp only[checkBuiltinCall,F.newKind,F.newSplit,F.newRow]
 repeat (first|refine qz hC ?_|(refine qAv hC ?_;rw[hv])|refine wpAny_staticBase_exc hC ?_|refine wpAny_madeBy_exc hC ?_|simp only[bne_self_eq_false,qBS,if_false]|wp_step)
 exact hq
theorem zafd{rest:List Value}{R:Result->Shared->Prop}(hC:h.get? C=some (excClassObj nm q C N bs bm true sn sub ab col dd k0 k1 k2 k3 k5 "ValueError.__new__"))(hv:(Value.ref C::bm).contains (.type "ValueError")=true)(ha:(Value.ref C::bm).contains (.type "AttributeError")=false)(hn:(Value.ref C::bm).contains (.type "NameError")=false)
  (hq:R (.ok (.ret (.ref (h.objs.size+1)))) ⟨(h.push {cls:=.type "tuple",data:=.seq rest.toArray}).push {cls:=.ref C,data:=.fields #[.ref h.objs.size,.none,.none,.none,.bool false,.none]},g,d,t,os⟩) (hr:rest.length<=qe) :
  codeAny (model prog w) A (.builtin "ValueError.__new__" ⟨.ref C::rest,[]⟩) R ⟨h,g,d,t,os⟩:=by
 have F:=qBg
 have f0:=F.ends
 refine codeAny_builtinAt F.entry ?_
 unfold Builtin.«BaseException.__new__»
 refine wpAt_bind ?_
 show wpAt _ _ _ (stack >>=_) _ _ _
 refine wpAt_bind (wpAt_stack λp below=>wpAt_of_wpAny ?_)
 wp_walk
 refine wpAt_of_wpAny ?_
 rw[F.owner]
 repeat (first|with_reducible refine wpAny_madeHere_exc F.canon hC ?_|with_reducible refine qz hC ?_|(with_reducible refine qAv hC ?_;first|rw[hv]|rw[ha]|rw[hn])|wp_step)
 show R _ _
 rw[qBo]
 exact hq
theorem zauo{rest:List Value}{fI:Addr}{oI:Obj}{Q:Value->Shared->Prop}(hC:h.get? C=some (excClassObj nm q C N bs bm true sn sub ab col dd k0 k1 k2 k3 k5 "ValueError.__new__"))(hv:(Value.ref C::bm).contains (.type "ValueError")=true)(ha:(Value.ref C::bm).contains (.type "AttributeError")=false)(hn:(Value.ref C::bm).contains (.type "NameError")=false)
  (LI:W.Looks (model prog w) h (typeLookup (.ref C) "__init__") (some (.ref fI)))(hfI:h.get? fI=some oI)(hfc:oI.cls=.type "function")(hr:rest.length<=qe)
  (hq:∀h' e,Heap.MadeExcOf h h' e (.ref C) rest->wpAny (model prog w) (A.under (.builtin "type.__call__" ⟨.ref C::rest,[]⟩)) (call (.ref fI) (.ref e::rest)) (λr s'=>r=.none/\Q (.ref e) s') E ⟨h',g,d,t,os⟩) :
  wpAny (model prog w) A (call (.ref C) rest) Q E ⟨h,g,d,t,os⟩:=by
 have F:=qBg
 have f1:=tc_lookup
 have f2:=tc_bind (.ref C)
 have hT:(⟨h,g,d,t,os⟩:Shared).TypeIs (.ref C) "type":=⟨_,hC,rfl⟩
 refine qBm (codeAny_of_tree ?_)
 show wpAny _ _ (callAny (.ref C) _) _ _ _
 repeat (any_goals (first|assumption|with_reducible refine qz hC ?_|wp_step))
 refine⟨rfl,?_⟩
 refine codeAny_call_builtin_at (qCG _ (by decide +kernel)) entry_typeCall (wpAny_check_type_call_sub hC ?_)
 repeat (first|with_reducible refine qz hC ?_|with_reducible refine wpAny_madeBy_exc hC ?_|wp_step)
 refine codeAny_call_builtin_code (qCG _ F.quiet) (zabv hC hv ?_)
 refine zafd hC hv ha hn ?_ hr
 show wpAny _ _ _ _ _ _
 have kp:∀b o,h.get? b=some o->((h.push {cls:=.type "tuple",data:=.seq rest.toArray}).push {cls:=.ref C,data:=.fields #[.ref h.objs.size,.none,.none,.none,.bool false,.none]}).get? b=some o:=λb o e=>qG _ (qG _ e)
 have hC1:=kp _ _ hC
 have he:((h.push {cls:=.type "tuple",data:=.seq rest.toArray}).push {cls:=.ref C,data:=.fields #[.ref h.objs.size,.none,.none,.none,.bool false,.none]}).get? (h.objs.size+1)=some {cls:=.ref C,data:=.fields #[.ref h.objs.size,.none,.none,.none,.bool false,.none]}:=by heap_get
 have hcC:(Value.ref C::bm).contains (.ref C)=true:=by simp
 unfold isInstance
 repeat (first|with_reducible refine qz he ?_|(refine qAv hC1 ?_;rw[hcC])|wp_step)
 show wpAny _ _ (typeLookup (.ref C) _) _ _ _
 refine(LI.keeps kp).here ?_
 refine qBW (qE ?_)
 unfold bindSpecial
 refine qE (qCC (T:="function") ⟨_,kp _ _ hfI,hfc⟩ ?_)
 rw[if_pos (by decide)]
 refine qQ (qE (qBI (hq _ (h.objs.size+1) ⟨kp,qBG (qCV _),h.objs.size,he,qBG (qM _),?_⟩) (λr s' hh=>?_) λ_ _ x=>x))
 ·exact qG _ (Heap.get?_push_at rfl rfl)
 ·obtain⟨rfl,hQ⟩:=hh
  wp_walk
  exact hQ
end
open Builtin Builtin.ObjectAttr
noncomputable def vmro:List Value:=[.type "ValueError",.type "Exception",.type "BaseException",.type "object"]
noncomputable def zfw:List Value->Bool
 | .ref _::r=>zfw r
 | l=>l==vmro
theorem zmu(self:Value)(what:Str):∀{l:List Value},zfw l=true->refuseLoop self what l=refuseLoop self what vmro
 | [],h=>by cases h
 | v::r,h=>by
  cases v with
  | ref a=>rw[refuseLoop_ref];exact zmu self what h
  | _=>rw[eq_of_beq (show(_==vmro)=true from h)]
theorem zfm{T:Value}(hT:vmro.contains T=true):∀{l:List Value},zfw l=true->l.contains T=true
 | [],h=>by cases h
 | v::r,h=>by
  cases v with
  | ref a=>rw[qAX,zfm hT (l:=r) h,qAy]
  | _=>rw[eq_of_beq (show(_==vmro)=true from h)];exact hT
section
variable{prog:Program}{w:World}{A:Around}{E:Value->Shared->Prop}{h:Heap}{g:Array GenState}{d:Drawn}{t:Nat}{os:OsState}
variable{nm q:Str}{C N x:Addr}{bs bm:List Value}{sn:List Str}{sub:List Value}{ab:Bool}{col:Option Bool}{dd:Option Addr}{k0 k1 k2 k3 k5:Option Value}{newId:String}{name:Str}{v:Value}
theorem zvp{M:Model}{o:Obj}{nameV:Value}{Q:Unit->Shared->Prop}(hr:zfw bm=true)
  (hC:h.get? C=some (excClassObj nm q C N bs bm true sn sub ab col dd k0 k1 k2 k3 k5 newId))(hx:h.get? x=some o)(hc:o.cls=.ref C)(hq:Q () ⟨h,g,d,t,os⟩) :
  wpAny M A (checkBuiltinCall "object.__setattr__" ⟨[.ref x,nameV,v],[]⟩) Q E ⟨h,g,d,t,os⟩:=by
 have SF:=qCL
 have hcB:(Value.ref C::bm).contains (.type "object")=true:=by rw[qAX,zfm (by decide) hr,qAy]
 have ha:=SF.args (.ref x) nameV v
 simp only[checkBuiltinCall,SF.kind,SF.split]
 refine qE ?_
 ·unfold isInstance
  repeat (first|(with_reducible refine qz hx ?_;rw[hc])|(with_reducible refine qAv hC ?_;rw[hcB])|wp_step)
  exact hq
theorem zvq{tk:Tok}{Q:Fin->Shared->Prop}{o:Obj}(hr:zfw bm=true)
  (hC:h.get? C=some (excClassObj nm q C N bs bm true sn sub ab col dd k0 k1 k2 k3 k5 newId))(hx:h.get? x=some o)(hc:o.cls=.ref C)(hnc:∀c,o.data≠.cls c)(hdn:o.dict=none)
  (LA:W.Looks (model prog w) h (typeLookup (.ref C) name) none)
  (hq:∀h' tk' dx,h.objs.size<=dx->h'.Ns1 dx (λy=>if y=name then some v else none)->h'.get? x=some {o with dict:=some dx}->
   (∀b o,b≠x->h.get? b=some o->h'.get? b=some o)->Q (.done (.ret .none)) ⟨h',g,d,tk',os⟩) :
  wpAny (model prog w) A (Builtin.«object.__setattr__» ⟨[.ref x,.str name tk,v],[]⟩) Q E ⟨h,g,d,t,os⟩:=by
 have SF:=qCL
 have hpass:refuseLoop (.ref x) "__setattr__" bm=pure ():=by rw[zmu _ _ hr];exact SF.passes (.ref x)
 unfold Builtin.«object.__setattr__»
 repeat (first|rw[refuse_eq]|(rw[refuseLoop_ref,hpass])|(with_reducible refine qz hx ?_;rw[hc])|with_reducible refine wpAny_mroOf_exc hC ?_|(with_reducible refine LA.here ?_)|wp_step)
 rw[hdn,if_neg (by simp[typeHasDict])]
 split
 ·rename_i hcd
  cases hcd
 split
 ·rename_i c hcd
  exact absurd hcd (hnc c)
 ·have hx₁:(h.push {cls:=.type "dict",data:=.dict #[]}).get? x=some o:=qG _ hx
  have hxs:x≠h.objs.size:=qAG (qU hx)
  refine qE (wpAny_alloc' ?_)
  refine qE (wpAny_update' hx₁ ?_)
  refine qQ ?_
  have hgd:((h.push {cls:=.type "dict",data:=.dict #[]}).update x λo=>{cls:=o.cls,dict:=some h.objs.size,data:=o.data,slots:=o.slots}).get? h.objs.size
    = some {cls:=.type "dict",data:=.dict #[]}:=
   (qC2 _ _ _ _ hxs.symm).trans (Heap.get?_push_at rfl rfl)
  have hnd:((h.push {cls:=.type "dict",data:=.dict #[]}).update x λo=>{cls:=o.cls,dict:=some h.objs.size,data:=o.data,slots:=o.slots}).Ns h.objs.size (λ_=>none):=
   ⟨_,#[],_,hgd,rfl,λe he=>absurd he (by simp),λ_=>rfl⟩
  show wpAny _ _ (storeInDict h.objs.size (.str name tk) name v) _ _ _
  unfold storeInDict newKeyGuard
  refine qE (qQ (qE (wpAny_nsSet1EFk (Heap.Ns1.of_empty hnd) λh' hn' hs hkeepD=>?_)))
  obtain⟨oD,esD,epD,hoD,hdD,hcD⟩:=hn'.count (Within.cons name v Within.nil)
  refine qE (wpAny_lookBehind hoD (by rw[hdD];exact pastItsLine_dict (qAD hcD (by rw[qAc,List.length_nil,qA8];omega))) ?_)
  wp_walk
  refine hq h' _ h.objs.size (qM _) hn' ?_ (λb ob hbx hb=>?_)
  ·refine(hs.2 x hxs).trans (qAn _ hx₁ ?_)
   have hfr:=(Heap.get?_some_iff.mp hx).2
   obtain⟨oc,od,odt,osl⟩:=o
   cases odt<;>first|rfl|exact hfr
  ·exact(hs.2 b (qAG (qU hb))).trans ((qC2 _ _ _ _ hbx).trans (qG _ hb))
theorem zasl{Q:Unit->Shared->Prop}{o:Obj}(hr:zfw bm=true)
  (hC:h.get? C=some (excClassObj nm q C N bs bm true sn sub ab col dd k0 k1 k2 k3 k5 newId))(hx:h.get? x=some o)(hc:o.cls=.ref C)(hnc:∀c,o.data≠.cls c)(hdn:o.dict=none)
  (LS:W.Looks (model prog w) h (typeLookup (.ref C) "__setattr__") (some (.builtin "object.__setattr__")))(LA:W.Looks (model prog w) h (typeLookup (.ref C) name) none)
  (hq:∀h' tk' dx,h.objs.size<=dx->h'.Ns1 dx (λy=>if y=name then some v else none)->h'.get? x=some {o with dict:=some dx}->
   (∀b o,b≠x->h.get? b=some o->h'.get? b=some o)->Q () ⟨h',g,d,tk',os⟩) :
  wpAny (model prog w) A (setAttr (.ref x) name v) Q E ⟨h,g,d,t,os⟩:=by
 have SF:=qCL
 have f3:=SF.slot.bind (.ref x)
 unfold setAttr callSpecial? specialOf
 repeat (any_goals (first|assumption|(with_reducible refine qz hx ?_;rw[hc])|(with_reducible refine LS.here ?_)|wp_step))
 refine qBJ SF.slot.plain SF.entry (zvp hr hC hx hc (zvq hr hC hx hc hnc hdn LA λh' tk' dx a1 a2 a3 a4=>?_))
 repeat (any_goals (first|assumption|wp_step))
 exact hq h' tk' dx a1 a2 a3 a4
theorem zaup{Q:Value->Shared->Prop}{o:Obj}{dx:Addr}{vs:Array Value}{mA:Str->Option Value}{expr:Bool}(hr:zfw bm=true)
  (hC:h.get? C=some (excClassObj nm q C N bs bm true sn sub ab col dd k0 k1 k2 k3 k5 newId))(hx:h.get? x=some o)(hc:o.cls=.ref C)(hd:o.data=.fields vs)(hdd:o.dict=some dx)
  (hns:h.Ns dx mA)(hv:mA name=some v)
  (LG:W.Looks (model prog w) h (typeLookup (.ref C) "__getattribute__") (some (.builtin "BaseException.__getattribute__")))(LH:W.Looks (model prog w) h (typeLookup (.ref C) "__getattr__") none)(LA:W.Looks (model prog w) h (typeLookup (.ref C) name) none)
  (hh:W.handedIn v=true)(hq:∀tk',Q v ⟨h,g,d,tk',os⟩) :
  wpAny (model prog w) A (getAttr (.ref x) name expr) Q E ⟨h,g,d,t,os⟩:=by
 have hk:builtinKind "BaseException.__getattribute__"=some .slot:=by decide +kernel
 have hsplit:splitId "BaseException.__getattribute__"=some ("BaseException","__getattribute__"):=by decide +kernel
 have hcB:(Value.ref C::bm).contains (.type "BaseException")=true:=by rw[qAX,zfm (by decide) hr,qAy]
 have hx0:(expr&&onTheHeap (Value.builtin "BaseException.__getattribute__"))=false:=by cases expr<;>rfl
 have hx2:(Value.builtin "BaseException.__getattribute__"==Value.builtin "object.__getattribute__")=false:=by decide +kernel
 have hx1:(onTheHeap (Value.ref C)&&Value.builtin "BaseException.__getattribute__"==Value.builtin "object.__getattribute__")=false:=by rw[hx2];rfl
 have FB:=F.attr_ValueError
 have f3:=FB.ga.bind (.ref x)
 have ha:=F.args_bexc_ga (.ref x)
 unfold getAttr getAttrBy
 repeat (any_goals (first|assumption|(with_reducible refine qz hx ?_;rw[hc])|(with_reducible refine LG.here ?_)|(with_reducible refine LH.here ?_)|wp_step))
 refine qBJ FB.ga.plain F.entry_bexc_ga ?_
 simp only[checkBuiltinCall,hk,hsplit]
 refine qE ?_
 unfold isInstance
 repeat (first|(with_reducible refine qz hx ?_;rw[hc])|(with_reducible refine qAv hC ?_;rw[hcB])|wp_step)
 repeat (any_goals (first|assumption|(with_reducible refine qz hx ?_;rw[hc])|(with_reducible refine LA.here ?_)|wp_step))
 rw[hd]
 dsimp only
 unfold instanceDict
 repeat (any_goals (first|assumption|(with_reducible refine qz hx ?_;rw[hc])|(with_reducible refine qz hC ?_)|wp_step))
 rw[hdd]
 dsimp only
 refine qQ ?_
 unfold inDict
 refine wpAny_nsGet hns ?_
 rw[hv]
 dsimp only
 repeat (any_goals (first|assumption|wp_step))
 show wpAny _ _ (handedOut v) _ _ _
 rw[W.handedOut_of hh]
 exact qQ (hq _)
theorem zauq{Q:Value->Shared->Prop}{o:Obj}{vs:Array Value}{rest:List Value}(hr:zfw bm=true)(hl:rest.length<=qe)
  (hC:h.get? C=some (excClassObj nm q C N bs bm true sn sub ab col dd k0 k1 k2 k3 k5 newId))(hx:h.get? x=some o)(hc:o.cls=.ref C)(hd:o.data=.fields vs)(hs:0<vs.size)
  (hq:∀h' p,h'.get? x=some {o with data:=.fields (vs.setIfInBounds 0 (.ref p))}->(∀b o,b≠x->h.get? b=some o->h'.get? b=some o)->Q .none ⟨h',g,d,t,os⟩) :
  wpAny (model prog w) A (call (.builtin "ValueError.__init__") (.ref x::rest)) Q E ⟨h,g,d,t,os⟩:=by
 have F:=qBg
 have hcB:(Value.ref C::bm).contains (.type "ValueError")=true:=by rw[qAX,zfm (by decide) hr,qAy]
 have hshort:=F.noStar
 refine qBm (qBJ F.init.plain F.initEntry ?_)
 simp only[checkBuiltinCall,F.initKind,F.initSplit,F.initRow]
 repeat (first|(with_reducible refine qz hx ?_;rw[hc])|with_reducible refine qz hC ?_|(with_reducible refine qAv hC ?_;rw[hcB])|wp_step)
 refine wpAny_onRaise ?_
 rw[show ∀(a b:String)(n:Nat),Bind.check ⟨.positional,"*","ValueError",.self,[⟨"args",.varPos,false⟩]⟩ a b n (List.map (λx=>x.fst) ({pos:=Value.ref x::rest}:Args).kw)=pure ()from
  λa b n=>check_star_args _ _ _ _ _ _]
 refine qQ ?_
 unfold Builtin.«BaseException.__init__»
 repeat (any_goals (first|assumption|wp_step))
 rw[hd]
 dsimp only
 refine qQ ?_
 rw[qBl hs]
 dsimp only
 refine qQ (qE ?_)
 have hx':(h.push {cls:=.type "tuple",data:=.seq rest.toArray}).get? x=some o:=qG _ hx
 refine qBL hx' hd hs ?_
 have fin:Q .none ⟨(h.push {cls:=.type "tuple",data:=.seq rest.toArray}).update x (Obj.mapFields (·.setIfInBounds 0 (Value.ref h.objs.size))),g,d,t,os⟩:=by
  refine hq _ h.objs.size ?_ λb ob hb e=>by rw[qAa _ _ (qBA hb)];exact qG _ e
  have hd₃:=qAZ hd (·.setIfInBounds 0 (Value.ref h.objs.size))
  rw[qAn _ hx' (qAz hd₃)]
  unfold Obj.mapFields
  obtain⟨oc,od,odt,osl⟩:=o
  cases hd
  rfl
 cases vs[0]<;>(repeat (any_goals (first|exact fin|assumption|wp_step)))
end
noncomputable def Heap.Tb(h:Heap)(T:Addr):Prop:=∃oT ts,h.get? T=some oT/\oT.data=.fields ts/\ts[3]?=some .none
section
variable{M:Model}{A:Around}{E:Value->Shared->Prop}{s:Shared}{base:Heap}{env:Env}{outer:List Env}{L e:Addr}{oe:Obj}{vs:Array Value}
theorem mapf{o:Obj}{vs:Array Value}(hd:o.data=.fields vs)(f:Array Value->Array Value):Obj.mapFields f o={o with data:=.fields (f vs)}:=by
 unfold Obj.mapFields
 obtain⟨oc,od,odt,osl⟩:=o
 cases hd
 rfl
theorem zpo{head:Value}{hadNext:Bool}{Q:Unit->Shared->Prop}
  (hfr:A.frames=some (env::outer))(hl:s.heap.FunFrames base (env::outer))(hf:env.frame=some L)(he:s.heap.get? e=some oe)(hd:oe.data=.fields vs)(hsz:1<vs.size)
  (hQ:∀h' T,s.heap.objs.size<=T->T≠e->(∀b o,b≠e->b∉(env::outer).filterMap (·.frame)->s.heap.get? b=some o->h'.get? b=some o)->
   (∀b o,b≠e->s.heap.get? b=some o->∃sl,h'.get? b=some {o with slots:=sl})->h'.get? e=some {oe with data:=.fields (vs.setIfInBounds 1 (.ref T))}->h'.Tb T->Q () {s with heap:=h'}) :
  wpAny M A (do let a <- frameOf env;let pl <- entryPlaceOf L hadNext;let b <- EntryCells.newEntry head a .none (rawInt L) .none pl;setField (.ref e) 1 b) (λ_ s'=>wpAny M A (setFlight (.ref e) none) Q E s') E s:=by
 have hene:e∉(env::outer).filterMap (·.frame):=λhm=>by
  obtain⟨_,o,ho,hnf⟩:=hl.mem hm
  rw[he]at ho;injection ho with ho;subst ho;exact hnf vs hd
 refine qE (wpAny_frameOf_fun hfr hl hf λh₁ hs₁=>?_)
 refine qE (wpAny_entryPlaceOf λpl hpl=>?_)
 unfold EntryCells.newEntry newFields
 refine qE (qAu ?_ (hpl.sizeOk5 _ _ _ _ _))
 have he₁:h₁.get? e=some oe:=(hs₁.2.1 e hene).trans he
 have he₂:=qG (h:=h₁) {cls:=.type "traceback",dict:=none,data:=.fields ([head,.ref L,.none,rawInt L,.none]++(if pl.isEmpty then List.replicate 6 Value.none else pl)).toArray} he₁
 refine qBL he₂ hd hsz ?_
 have hTe:h₁.objs.size≠e:=qCN (qU he₁)
 have hd₃:=qAZ hd (·.setIfInBounds 1 (Value.ref h₁.objs.size))
 have he₃:=qAn (Obj.mapFields (·.setIfInBounds 1 (Value.ref h₁.objs.size))) he₂ (qAz hd₃)
 have hT₃:=(qAa (h₁.push {cls:=.type "traceback",dict:=none,data:=.fields ([head,.ref L,.none,rawInt L,.none]++(if pl.isEmpty then List.replicate 6 Value.none else pl)).toArray})
  (Obj.mapFields (·.setIfInBounds 1 (Value.ref h₁.objs.size))) (qBA hTe)).trans (qd h₁ rfl)
 unfold setFlight
 refine qE (qAw he₃ hd₃ (x:=.ref h₁.objs.size) (by simp[hsz]) ?_)
 rw[if_pos (show(Value.ref h₁.objs.size != Value.none)=true from by simp)]
 refine qBL hT₃ rfl (by simp only[qL,qI,qAc,List.length_nil]<;>omega) ?_
 have keep:∀b o,b≠e->h₁.get? b=some o->
   (((h₁.push {cls:=.type "traceback",dict:=none,data:=.fields ([head,.ref L,.none,rawInt L,.none]++(if pl.isEmpty then List.replicate 6 Value.none else pl)).toArray}).update e (Obj.mapFields (·.setIfInBounds 1 (Value.ref h₁.objs.size)))).update h₁.objs.size
    (Obj.mapFields (·.setIfInBounds 3 ((none:Option Addr).elim Value.none λf=>rawInt f)))).get? b=some o:=λb o hbe hb=>by
  have hbT:h₁.objs.size≠b:=qCN (qU hb)
  rw[qAa _ _ hbT,qAa _ _ (qBA hbe)]
  exact qG _ hb
 refine hQ _ h₁.objs.size (Nat.le_of_eq hs₁.1.symm) hTe (λb o hb hn ho=>keep b o hb ((hs₁.2.1 b hn).trans ho)) (λb o hb ho=>?_) ?_ ?_
 ·obtain⟨sl,hs⟩:=hs₁.2.2 b o ho
  exact⟨sl,keep b _ hb hs⟩
 ·rw[qAa _ _ hTe,he₃,mapf hd]
 ·exact⟨_,_,qAn _ hT₃ (qAz (qAZ rfl _)),qAZ rfl _,by first|(simp;done)|(rcases hpl with rfl|⟨_,_,_,_,_,_,_,rfl⟩<;>simp)⟩
theorem zyr{Q:Unit->Shared->Prop}
  (hfr:A.frames=some (env::outer))(hl:s.heap.FunFrames base (env::outer))(hf:env.frame=some L)(he:s.heap.get? e=some oe)(hd:oe.data=.fields vs)
  (h1:vs[1]?=some .none\/∃T,vs[1]?=some (.ref T)/\T≠e/\s.heap.Tb T)
  (hQ:∀h' T,s.heap.objs.size<=T->T≠e->(∀b o,b≠e->vs[1]?≠some (.ref b)->b∉(env::outer).filterMap (·.frame)->s.heap.get? b=some o->h'.get? b=some o)->
   (∀b o,b≠e->vs[1]?≠some (.ref b)->s.heap.get? b=some o->∃sl,h'.get? b=some {o with slots:=sl})->(∀b,vs[1]?=some (.ref b)->h'.Tb b)->
   h'.get? e=some {oe with data:=.fields (vs.setIfInBounds 1 (.ref T))}->h'.Tb T->Q () {s with heap:=h'}) :
  wpAny M A (noteFrame (.ref e) env) (λ_ s'=>wpAny M A (setFlight (.ref e) none) Q E s') E s:=by
 unfold noteFrame
 simp only[hf]
 rcases h1 with h1|⟨T,h1,hTe,oT,ts,hT,hdT,h3⟩
 ·refine(qE (qAw he hd h1 ?_))
  rw[if_neg (by decide)]
  exact zpo hfr hl hf he hd (qAj.mp h1).1 λh' T a1 a2 a3 a4 a5 a6=>hQ h' T a1 a2 (λb o q _=>a3 b o q) (λb o q _=>a4 b o q) (λb q=>by rw[h1]at q;cases q) a5 a6
 ·refine(qE (qAw he hd h1 ?_))
  rw[if_pos (show(Value.ref T != Value.none)=true from by simp)]
  refine qE (qAw hT hdT h3 ?_)
  rw[if_neg (show ¬((Value.none==rawInt L)=true)from by simp[rawInt])]
  have hsz3:=(qAj.mp h3).1
  refine qE (qBL hT hdT hsz3 ?_)
  have other:∀b,b≠T->(s.heap.update T (Obj.mapFields (·.setIfInBounds 3 Value.none))).get? b=s.heap.get? b:=λb hb=>qAa _ _ (qBA hb)
  have hT':=qAn (Obj.mapFields (·.setIfInBounds 3 Value.none)) hT (qAz (qAZ hdT _))
  have noRecord:∀b o,s.heap.get? b=some o->(∀vs,o.data≠.fields vs)->b≠T:=λb o hb hnf q=>by
   rw[q,hT]at hb;injection hb with hb;subst hb;exact hnf ts hdT
  have ne:∀{b:Addr},vs[1]?≠some (.ref b)->b≠T:=λq z=>q (by rw[h1,z])
  refine zpo hfr (hl.of_keeps λb o hb hnf=>⟨o,(other b (noRecord b o hb hnf)).trans hb,rfl⟩) hf ((other e (qBA hTe)).trans he) hd (qAj.mp h1).1 λh' T' a1 a2 a3 a4 a5 a6=>?_
  refine hQ h' T' (by rw[Heap.size_update]at a1;exact a1) a2 (λb o q n z ho=>a3 b o q z ((other b (ne n)).trans ho)) (λb o q n ho=>a4 b o q ((other b (ne n)).trans ho)) (λb q=>?_) a5 a6
  rw[h1]at q
  cases q
  obtain⟨sl,hs⟩:=a4 T _ hTe hT'
  exact⟨_,_,hs,qAZ hdT _,by simp[hsz3]⟩
theorem zvr{Q:Unit->Shared->Prop}{T:Addr}(he:s.heap.get? e=some oe)(hd:oe.data=.fields vs)(h1:vs[1]?=some (.ref T))(hT:s.heap.Tb T)
  (hQ:∀h',(∀b o,b≠T->s.heap.get? b=some o->h'.get? b=some o)->h'.Tb T->Q () {s with heap:=h'}):wpAny M A (setFlight (.ref e) none) Q E s:=by
 obtain⟨oT,ts,hT,hdT,h3⟩:=hT
 have hsz3:=(qAj.mp h3).1
 unfold setFlight
 refine qE (qAw he hd h1 ?_)
 rw[if_pos (show(Value.ref T != Value.none)=true from by simp)]
 refine qBL hT hdT hsz3 (hQ _ (λb o hb ho=>by rw[qAa _ _ (qBA hb)];exact ho) ?_)
 exact⟨_,_,qAn _ hT (qAz (qAZ hdT _)),qAZ hdT _,by simp[hsz3]⟩
end
end PySem
namespace L2
open PySem PySem.Spec PyProof.Rows
noncomputable def xeD(e C dx:Addr)(tv:Value)(h:Heap):Prop:=∃vs sl,h.get? e=some {cls:=.ref C,dict:=some dx,data:=.fields vs,slots:=sl}/\vs[1]?=some tv
theorem xeD.stay{e C dx:Addr}{tv:Value}(h1 h2:Heap)(h:xeD e C dx tv h1)(k:∀o,h1.get? e=some o->h2.get? e=some o):xeD e C dx tv h2:=
 let⟨vs,sl,a,b⟩:=h;⟨vs,sl,k _ a,b⟩
theorem zaoa{T:Addr}(h1 h2:Heap)(h:h1.Tb T)(k:∀o,h1.get? T=some o->h2.get? T=some o):h2.Tb T:=
 let⟨oT,ts,a,b⟩:=h;⟨oT,ts,k _ a,b⟩
theorem zalj{P:Program}{w:World}{H:Hp}{h:Heap}{e C dx:Addr}{tv:Value}(q:xeD e C dx tv h):zgb P w H h e (.ext (xeD e C dx tv)):=
 ⟨q,let⟨_,_,a,_⟩:=q;⟨_,a⟩,λh1 h2=>xeD.stay h1 h2⟩
theorem zzz{P:Program}{w:World}{H:Hp}{h:Heap}{T:Addr}(q:h.Tb T):zgb P w H h T (.ext λh=>h.Tb T):=
 ⟨q,let⟨_,_,a,_⟩:=q;⟨_,a⟩,λh1 h2=>zaoa h1 h2⟩
theorem zgb.there{P:Program}{w:World}{H:Hp}{h:Heap}{a:Addr}{o:HO}(x:zgb P w H h a o):∃ob,h.get? a=some ob:=by
 cases o with
 | lst xs=>obtain⟨_,_,_,_,e⟩:=x;exact⟨_,e⟩
 | tup xs=>obtain⟨_,_,_,ob,e,_⟩:=x;exact⟨_,e⟩
 | dK kvs=>obtain⟨_,_,_,_,o,_,_,e,_⟩:=x;exact⟨_,e⟩
 | dT kvs=>obtain⟨_,_,_,_,o,_,_,e,_⟩:=x;exact⟨_,e⟩
 | set S n=>obtain⟨o,_,_,_,e,_⟩:=x;exact⟨_,e⟩
 | ins C dx fs=>obtain⟨_,_,_,e,_⟩:=x;exact⟨_,e⟩
 | own y=>exact x
 | xd fs=>obtain⟨_,⟨_,_,_,e,_⟩,_⟩:=x;exact⟨_,e⟩
 | rng lo hi=>obtain⟨_,_,_,e⟩:=x;exact⟨_,e⟩
 | frz ob u=>obtain⟨e,_⟩:=x;exact⟨_,e⟩
 | tbl ps=>exact⟨_,x⟩
 | met f y=>exact⟨_,x⟩
 | ext φ=>exact x.2.1
theorem HOk.no{P:Program}{w:World}{H:Hp}{h:Heap}{a:Addr}(x:HOk P w H h)(n:h.get? a=none):H a=none:=by
 cases q:H a with
 | none=>rfl
 | some u=>obtain⟨ob,z⟩:=(x a u q).there;rw[n]at z;cases z
noncomputable def zafe(H H':Hp):Prop:=∀b o,H b=some o->(∀φ,o≠.ext φ)->H' b=some o
noncomputable def StX(H0:Hp)(E:XK):XK:=λc dx H'=>∀H3,(∀b o,H0 b=some o->H' b=some o->H3 b=some o)->zafe H' H3->E c dx H3
structure Flt(h:Heap)(H':Hp)(e C dx:Addr):Prop where
 new:h.get? e=none
 st:∃tv,H' e=some (.ext (xeD e C dx tv))/\(tv=.none\/∃T,tv=.ref T/\T≠e/\h.get? T=none/\H' T=some (.ext λh=>h.Tb T))
noncomputable def CXE(P:Program)(w:World):CXT:=λouter H s E e s'=>∃ea C dx H',e=.ref ea/\s'.os=s.os/\AllBare s'.gens/\Un (frs outer) [] H H' s.heap s'.heap/\HOk P w H' s'.heap/\Flt s.heap H' ea C dx/\StX H E (.ref C) (some dx) H'
section
variable{X:Cx}{pins:List (Addr×Obj)}{σ:St}{H1:Hp}{s:Shared}{e C dx:Addr}{E:Value->Shared->Prop}
theorem zpp{h0:Heap}{Q:Unit->Shared->Prop}(I:Inv X pins σ H1 s)(hst:X.stack=X.env::X.outer)(hfr:X.env.frame=some X.env.locals)(hz:∀b ob,h0.get? b=some ob->∃o',s.heap.get? b=some o')(F:Flt h0 H1 e C dx)
  (k:∀s' H2,Inv X pins σ H2 s'->(∃T,H2 e=some (.ext (xeD e C dx (.ref T)))/\T≠e/\h0.get? T=none/\H2 T=some (.ext λh=>h.Tb T))->
   (∀b o ob,h0.get? b=some ob->H1 b=some o->H2 b=some o)->zafe H1 H2->(s.heap.objs.size<=s'.heap.objs.size)->Q () s') :
  wpAny (model X.prog X.w) X.A (noteFrame (.ref e) X.env) (λ_ s'=>wpAny (model X.prog X.w) X.A (setFlight (.ref e) none) Q E s') E s:=by
 obtain⟨tv,he,ht⟩:=F.st
 obtain⟨⟨vs,sl,oe,h1⟩,_,_⟩:=I.hok e _ he
 have hfs:∀b,b∈(X.env::X.outer).filterMap (·.frame)->H1 b=none:=λb hb=>I.stkFree b (by unfold frs;rw[hst];exact hb)
 have hT1:tv=.none\/∃T,tv=.ref T/\T≠e/\s.heap.Tb T:=ht.imp id λ⟨T,a,b,c,d⟩=>⟨T,a,b,(I.hok T _ d).1⟩
 refine zyr (base:=X.base) (L:=X.env.locals) (by rw[<- hst];exact I.ok.frames) (by rw[<- hst];exact I.stack) hfr oe rfl (hT1.imp (λz=>by rw[h1,z]) λ⟨T,a,b,c⟩=>⟨T,by rw[h1,a],b,c⟩) λh' T a1 a2 a3 a4 a5 a6 a7=>?_
 have nT:H1 T=none:=I.hok.fresh a1
 have tr:∀b,vs[1]?=some (.ref b)->H1 b=some (.ext λh=>h.Tb b)/\b≠e/\h0.get? b=none:=λb q=>by
  rw[h1]at q
  rcases ht with z|⟨T0,z,b1,c1,d1⟩
  ·rw[z]at q;cases q
  ·rw[z]at q;cases q;exact⟨d1,b1,c1⟩
 let H2:Hp:=upd (upd H1 T (.ext λh=>h.Tb T)) e (.ext (xeD e C dx (.ref T)))
 have h2:∀b,b≠e->b≠T->H2 b=H1 b:=λb q z=>by show upd _ _ _ b=_;rw[zbc q,zbc z]
 have h2e:H2 e=some (.ext (xeD e C dx (.ref T))):=zaw
 have h2T:H2 T=some (.ext λh=>h.Tb T):=by show upd _ _ _ T=_;rw[zbc a2,zaw]
 have ext2:∀b o,H1 b=some o->(∀φ,o≠.ext φ)->H2 b=some o:=λb o q n=>by
  rw[h2 b (λz=>by rw[z,he]at q;cases q;exact n _ rfl) (λz=>by rw[z,nT]at q;cases q)];exact q
 have kp:∀b o,H1 b=some o->b≠e->vs[1]?≠some (.ref b)->∀u,s.heap.get? b=some u->h'.get? b=some u:=λb o q n n2 u z=>a3 b u n n2 (λm=>by rw[hfs b m]at q;cases q) z
 have hsz1:1<vs.size:=(qAj.mp h1).1
 have ok2:HOk X.prog X.w H2 h':=λb o q=>by
  by_cases hb:b=e
  ·subst hb
   rw[h2e]at q
   cases q
   exact zalj ⟨_,_,a6,by rw[Array.getElem?_setIfInBounds_self_of_lt hsz1]⟩
  ·by_cases hbT:b=T
   ·subst hbT
    rw[h2T]at q
    cases q
    exact zzz a7
   ·rw[h2 b hb hbT]at q
    by_cases hv:vs[1]?=some (.ref b)
    ·rw[(tr b hv).1]at q
     cases q
     exact zzz (a5 b hv)
    ·refine(I.hok b o q).stay (λc u hc z=>?_) (λc z=>ext2 c _ z (λφ y=>by cases y)) (λc xs z=>ext2 c _ z (λφ y=>by cases y))
     rcases hc with rfl|hc
     ·exact kp c o q hb hv u z
     ·exact kp c _ hc (λy=>by rw[y,he]at hc;cases hc) (λy=>by rw[(tr c y).1]at hc;cases hc) u z
 have un:Un (frs X.stack) [] H1 H2 s.heap h':=by
  have nb:∀b,H1 b=none->b≠e/\vs[1]?≠some (.ref b):=λb n=>⟨λy=>(by rw[y,he]at n;cases n),λy=>(by rw[(tr b y).1]at n;cases n)⟩
  have hfs':∀b,b∈frs X.stack↔b∈(X.env::X.outer).filterMap (·.frame):=λb=>by unfold frs;rw[hst]
  refine⟨λb o q n hb _=>a3 b o (nb b n).1 (nb b n).2 (λm=>hb ((hfs' b).mpr m)) q,λb o q n hb _=>a4 b o (nb b n).1 (nb b n).2 q,λb o q n _=>?_,λb o q _=>?_,λb xs q=>ext2 b _ q (λφ y=>by cases y),λb o u q=>ext2 b _ q (λφ y=>by cases y),λb ps q=>⟨#[],by rw[ext2 b _ q (λφ y=>by cases y)];simp⟩⟩
  ·rw[h2 b (nb b n).1 (λy=>by rw[y]at q;exact absurd (qU q) (Nat.not_lt.mpr a1))];exact n
  ·by_cases hb:b=e
   ·exact⟨_,by rw[hb];exact a6⟩
   ·by_cases hv:vs[1]?=some (.ref b)
    ·obtain⟨oT,_,z,_⟩:=a5 b hv;exact⟨oT,z⟩
    ·obtain⟨sl,z⟩:=a4 b o hb hv q;exact⟨_,z⟩
 have n0:h0.get? T=none:=by
  cases y:h0.get? T with
  | none=>rfl
  | some ob=>obtain⟨o',z⟩:=hz T ob y;exact absurd (qU z) (Nat.not_lt.mpr a1)
 have hs:s.heap.objs.size<=h'.objs.size:=qBn (qCH a1 (let⟨_,_,z,_⟩:=a7;qU z))
 refine k _ H2 (I.call' (s':={s with heap:=h'}) rfl un ok2 I.bare (λb z=>absurd z (by simp))) ⟨T,h2e,a2,n0,h2T⟩ (λb o ob q z=>?_) ext2 hs
 rw[h2 b (λy=>by rw[y,F.new]at q;cases q) (λy=>by rw[y,nT]at z;cases z)]
 exact z
theorem zajk{h0:Heap}{Q:Unit->Shared->Prop}(I:Inv X pins σ H1 s)(hst:X.stack=X.env::X.outer)(hfr:X.env.frame=some X.env.locals)(hz:∀b ob,h0.get? b=some ob->∃o',s.heap.get? b=some o')(F:Flt h0 H1 e C dx)
  (k:∀s' H2,Inv X pins σ H2 s'->(∃T,H2 e=some (.ext (xeD e C dx (.ref T)))/\T≠e/\h0.get? T=none/\H2 T=some (.ext λh=>h.Tb T))->
   (∀b o ob,h0.get? b=some ob->H1 b=some o->H2 b=some o)->zafe H1 H2->(s.heap.objs.size<=s'.heap.objs.size)->Q () s') :
  wpAny (model X.prog X.w) X.A (leaving X.env (.ref e)) Q E s:=by
 unfold leaving
 exact qE (zpp I hst hfr hz F k)
end
theorem zasm{P:Program}{w:World}{K:qB}{mg:Str->Option Value}{base:Heap}{N:List Str}{qual:Str}{scope:Scope}{f:Addr}{cd:Value}{A:Around}{outer:List Env}{s:Shared}{H:Hp}{E:XK}
  {pins:List (Addr×Obj)}{σ:St}{H1:Hp}{s1:Shared}{e C dx:Addr}(I:Inv (cxOf (CXE P w) P w K mg base N qual scope f cd A outer s H E) pins σ H1 s1)(h0k:HOk P w H s.heap)(F:Flt s.heap H1 e C dx)(q:StX H E (.ref C) (some dx) H1) :
  (cxOf (CXE P w) P w K mg base N qual scope f cd A outer s H E).xe (.ref e) s1:=by
 refine zajk (X:=cxOf (CXE P w) P w K mg base N qual scope f cd A outer s H E) I rfl rfl (λb ob z=>I.base.there b ob z (λy=>absurd (show b∈([]:List Addr)from y) (by simp))) F λs' H2 I2 ht hk hx _=>?_
 refine⟨e,C,dx,H2,rfl,I2.os,I2.bare,I2.base,I2.hok,⟨F.new,_,ht.choose_spec.1,.inr ⟨_,rfl,ht.choose_spec.2⟩⟩,λH3 r1 r2=>q H3 (λb o z1 z2=>?_) (λb o z n=>r2 b o (hx b o z n) n)⟩
 obtain⟨ob,y⟩:=(h0k b o z1).there
 exact r1 b o z1 (hk b o ob y z2)
theorem zalk{CX:CXT}{P:Program}{w:World}{K:qB}{mg:Str->Option Value}{base:Heap}{x qual:Str}{st:Stmt}{f:Addr}{fd:qw}{N ps:List Str}{k:Nat}{sp:Sp}(Fu:Fun K x qual st f fd)(S:FnScope N ps (zam st))(len:∀vs H Q E,sp vs H Q E->vs.length=ps.length)
  (hbody:∀(cdv:Value)(A:Around)(outer:List Env)(s:Shared)(H:Hp)(vs:List V)(Q:VK)(E:XK),Room k (A.deeper (envOfC qual (zam st) s.heap.objs.size f cdv))->HOk P w H s.heap->sp vs H Q E->
   ∃t,PSs (cxOf CX P w K mg base N qual (zam st) f cdv A outer s H E) (zbm st) t/\t {nx:=λ_ H'=>Q .non H',rt:=Q} (start N vs) H):FnOk P w K mg base CX (k+1) f fd ps sp:=by
 refine⟨len,λA outer s H args us vs Q E hr e0 hb r hsp=>?_⟩
 obtain⟨oc,od,kV,doc,pm,an,cdv,ct,osl,rfl,lk,hcd⟩:=Fu.ex
 have KX:K.In s.heap:=e0.mod.kin.keeps λb o e=>(e0.bs b o e).1
 refine codeAny_call_function hr.depth (KX _ _ lk) rfl S.co S.gen rfl (qCr KX hcd) (hb _ _ _ _ (qCq S.kind (λ⟨n,v⟩ hy=>?_) λenv he s1 x=>?_))
 ·rcases S.par n (qBd hy).1 with q|q
  ·exact .inl q
  ·exact .inr ⟨q,qBt _ _ _ (.inl q)⟩
 ·subst he
  obtain⟨t,ht,hq⟩:=hbody cdv A outer s H vs Q E (hr.deeper _) e0.hok hsp
  have I:=zuu (CX:=CX) (E:=E) S hr.hd e0 (len _ _ _ _ hsp) r x
  refine⟨(e0.mod.nolimit.keeps λb o e=>(e0.bs b o e).1).keeps x.toInCall.keep,codeAny_func (qBI (ht [] s1 (start N vs) H _ I hq) (λfl s' hs=>?_) λe s' hs=>hs)⟩
  cases fl with
  | ret u=>obtain⟨v,σ',H',J,rv,q⟩:=hs;exact⟨v,H',J.os,J.bare,J.base,J.hok,rv,q⟩
  | next=>obtain⟨σ',H',J,q⟩:=hs;exact⟨.non,H',J.os,J.bare,J.base,J.hok,rfl,q⟩
  | brk=>obtain⟨_,_,_,q⟩:=hs;exact q.elim
  | cont=>obtain⟨_,_,_,q⟩:=hs;exact q.elim
noncomputable def xcR(K:qB)(C:Addr):Bool:=match K.lookup C with
 | some ⟨_,_,.cls cd,_⟩=>(match cd.mro with|_::bm=>zfw bm|_=>false)
 | _=>false
theorem zpq{K:qB}{h:Heap}{C:Addr}(X:K.In h)(q:xcIn K C=true)(q2:xcR K C=true):∃nm qn N bs bm sn sub ab col dd k0 k1 k2 k3 k5,
  h.get? C=some (excClassObj nm qn C N bs bm true sn sub ab col dd k0 k1 k2 k3 k5 "ValueError.__new__")/\zfw bm=true/\(Value.ref C::bm).contains (.type "AttributeError")=false/\(Value.ref C::bm).contains (.type "NameError")=false:=by
 obtain⟨nm,qn,N,bs,bm,sn,sub,ab,col,dd,k0,k1,k2,k3,k5,hC,_,_,ha,hn⟩:=zask X q
 refine⟨nm,qn,N,bs,bm,sn,sub,ab,col,dd,k0,k1,k2,k3,k5,hC,?_,ha,hn⟩
 unfold xcR at q2
 split at q2
 ·rename_i a b cd sl ho
  have:=X _ _ ho
  rw[hC]at this
  have e:=qy this
  unfold excClassObj at e
  injection e with _ _ e _
  injection e with e
  subst e
  exact q2
 ·cases q2
structure XMk(K:qB)(C f:Addr):Prop where
 cls:xcIn K C=true
 tail:xcR K C=true
 init:PySem.W.findIn K (.ref C) "__init__"=some (some (.ref f))
 fn:PySem.W.isFn K (.ref f)=true
 kp:qX K (.ref C)=true
 sa:PySem.W.findIn K (.ref C) "__setattr__"=some (some (.builtin "object.__setattr__"))
 at_:PySem.W.findIn K (.ref C) "at"=some none
 ga:PySem.W.findIn K (.ref C) "__getattribute__"=some (some (.builtin "BaseException.__getattribute__"))
 gh:PySem.W.findIn K (.ref C) "__getattr__"=some none
noncomputable def atV:V->Prop
 | .non=>True
 | .str x=>(PySem.reprText x).length<=1000
 | .int n=>0<=n/\n<100
 | _=>False
noncomputable def xe0(e C:Addr)(h:Heap):Prop:=∃vs sl,h.get? e=some {cls:=.ref C,dict:=none,data:=.fields vs,slots:=sl}/\vs[1]?=some .none
theorem zaff{P:Program}{w:World}{H:Hp}{h:Heap}{e C:Addr}(q:xe0 e C h):zgb P w H h e (.ext (xe0 e C)):=
 ⟨q,(let⟨_,_,a,_⟩:=q;⟨_,a⟩),λh1 h2 ⟨vs,sl,a,b⟩ k=>⟨vs,sl,k _ a,b⟩⟩
noncomputable def spI(C:Addr):Sp:=λvs H Q _=>∃e v,vs=[.ref e,v]/\H e=some (.ext (xe0 e C))/\atV v/\∀dx,H dx=none->dx≠e->Q .non (upd (upd H dx (.xd [("at",v)])) e (.ext (xeD e C dx .none)))
section
variable{X:Cx}{pins:List (Addr×Obj)}{σ:St}{H:Hp}{s:Shared}{C f:Addr}{k:Nat}{fd:qw}
theorem Inv.new{h':Heap}{a:Addr}{o:HO}{t':Nat}(I:Inv X pins σ H s)(k:∀b u,s.heap.get? b=some u->h'.get? b=some u)(hn:s.heap.get? a=none)(new:zgb X.prog X.w (upd H a o) h' a o):Inv X pins σ (upd H a o) {s with heap:=h',toks:=t'}:=by
 have hH:=HOk.no I.hok hn
 have ne:∀b u,s.heap.get? b=some u->b≠a:=λb u q z=>by rw[z,hn]at q;cases q
 have neH:∀b u,H b=some u->b≠a:=λb u q z=>by rw[z,hH]at q;cases q
 refine I.un (h':=h') ⟨λb o q _ _ _=>k b o q,λb o q _ _ _=>⟨o.slots,k b o q⟩,λb o q n _=>by rw[zbc (ne b o q)];exact n,λb o q _=>⟨o,k b o q⟩,λb xs q=>by rw[zbc (neH b _ q)];exact q,λb o u q=>by rw[zbc (neH b _ q)];exact q,λb ps q=>⟨#[],by rw[zbc (neH b _ q),q];simp⟩⟩ λb u q=>?_
 by_cases hb:b=a
 ·subst hb;rw[zaw]at q;cases q;exact new
 ·rw[zbc hb]at q
  exact(I.hok b u q).stay (λc v _ q=>k c v q) (λc q=>by rw[zbc (neH c _ q)];exact q) λc xs q=>by rw[zbc (neH c _ q)];exact q
theorem zafg{v:V}{u:Value}(M:XMk X.K C f)(F:FnOk X.prog X.w X.K X.mg X.base CX0 k f fd ["self","at"] (spI C))(hr:Room (k+1) X.A)(hb:zno X.K fd ["self","at"] [])(hex:X.ex=[])(I:Inv X pins σ H s)(rv:RelV v u)(av:atV v)
  {Q:Value->Shared->Prop}(q:∀e dx H' s',Inv X pins σ H' s'->Flt X.s₀.heap H' e C dx->H' e=some (.ext (xeD e C dx .none))->H' dx=some (.xd [("at",v)])->Same H H'->Q (.ref e) s') :
  wpAny (model X.prog X.w) X.A (call (.ref C) [u]) Q X.xe s:=by
 obtain⟨nm,qn,N,bs,bm,sn,sub,ab,col,dd,k0,k1,k2,k3,k5,hC,hbm,ha,hn⟩:=zpq I.kIn M.cls M.tail
 obtain⟨hh,g,d,tk,os⟩:=s
 obtain⟨oI,hfI,hfc⟩:∃oI,hh.get? f=some oI/\oI.cls=.type "function":=by
  have z:(X.K.lookup f).map (·.cls)=some (.type "function"):=beq_iff_eq.mp M.fn
  cases y:X.K.lookup f with
  | none=>rw[y]at z;cases z
  | some o=>rw[y]at z;exact⟨o,I.kIn _ _ y,qy z⟩
 refine zauo (C:=C) hC (by rw[qAX,zfm (by decide) hbm,qAy]) ha hn (qA0 I.kIn M.init) hfI hfc (by show 1<=qe;rw[qA8];omega) λh' e hm=>?_
 obtain⟨t,he,htn,ht⟩:=hm.there
 have I2:=Inv.new (h':=h') (a:=e) (o:=.ext (xe0 e C)) (t':=tk) I hm.keeps hm.new (zaff ⟨_,_,he,rfl⟩)
 have hHe:H e=none:=HOk.no I.hok hm.new
 have sp:spI C [.ref e,v] (upd H e (.ext (xe0 e C))) (λr H2=>r=.non/\∃dx,H dx=none/\dx≠e/\H2=upd (upd (upd H e (.ext (xe0 e C))) dx (.xd [("at",v)])) e (.ext (xeD e C dx .none))) E0:=
  ⟨e,v,rfl,zaw,av,λdx hd ne=>⟨rfl,dx,by rw[zbc ne]at hd;exact hd,ne,rfl⟩⟩
 refine qBm (qA6 (F.run _ X.stack _ _ ⟨[.ref e,u],[]⟩ [.ref e,u] _ _ E0 (hr.make C [u] []) (I2.env0.make C [u] []) (by have:=hb ⟨h',g,d,tk,os⟩ [.ref e,u] I2.kIn rfl;rw[qv]at this;exact this) (show Vals [V.ref e,v] [Value.ref e,u]from .cons rfl (.cons rv .nil)) sp) λr s' hq=>?_)
 cases r with
 | error x=>exact hq.elim
 | ok fl=>
  cases fl with
  | ret w=>
   obtain⟨v',H2,I3,rv',rfl,dx,hd,ne,rfl⟩:=I2.after hq
   refine⟨rv',q e dx _ s' I3 ⟨?_,.none,zaw,.inl rfl⟩ zaw (by rw[zbc ne,zaw]) λb o z=>?_⟩
   ·cases y:X.s₀.heap.get? e with
    | none=>rfl
    | some ob=>
     obtain⟨o',z⟩:=I.base.there e ob y (by rw[hex];simp)
     have:=hm.new
     rw[show hh.get? e=some o' from z]at this
     cases this
   ·have n1:b≠e:=λy=>by rw[y,hHe]at z;cases z
    have n2:b≠dx:=λy=>by rw[y,hd]at z;cases z
    rw[zbc n1,zbc n2,zbc n1]
    exact z
  | next=>exact False.elim hq
  | brk=>exact False.elim hq
  | cont=>exact False.elim hq
noncomputable def Lvs(X:Cx)(E:XK):Prop:=∀(pins:List (Addr×Obj))(σ:St)(H1:Hp)(s1:Shared)(e C dx:Addr),Inv X pins σ H1 s1->Flt X.s₀.heap H1 e C dx->E (.ref C) (some dx) H1->X.xe (.ref e) s1
noncomputable def zafh(C:Addr)(E:XK)(te:TE):TS:=λ_ σ H=>te σ H λv H1=>atV v/\∀H' dx,Same H1 H'->H' dx=some (.xd [("at",v)])->E (.ref C) (some dx) H'
theorem zajl{E:XK}{x:Str}{np cpos pos:Pos}{a:Expr}{te:TE}(M:XMk X.K C f)(F:FnOk X.prog X.w X.K X.mg X.base CX0 k f fd ["self","at"] (spI C))(hr:Room (k+1) X.A)(hb:zno X.K fd ["self","at"] [])(hex:X.ex=[])(hc:X.calm=true)(hx:Lvs X E)
  (hg:Gl X x)(hm:X.mg x=some (.ref C))(ha:PE X a te)(hdb:(x==("__debug__":Str))=false:=by decide)(he:starEach [a] X.env=[(false,eval a X.env)]:=by rfl) :
  PS X (.Raise (some (.Call (.Name x np) [a] [] cpos)) none pos) (zafh C E te):=by
 intro pins s σ H D I h
 rw[arm_exec_Raise]
 refine qE (wpAny_standAt ?_)
 unfold raiseStmt
 simp only[evalOpt,Option.map]
 refine qE ?_
 have hcall:wpAny (model X.prog X.w) X.A (eval (.Call (.Name x np) [a] [] cpos) X.env) (λr s'=>∃e dx H' v H1,r=.ref e/\Inv X pins σ H' s'/\Flt X.s₀.heap H' e C dx/\H' e=some (.ext (xeD e C dx .none))/\H' dx=some (.xd [("at",v)])/\Same H1 H'/\∀H' dx,Same H1 H'->H' dx=some (.xd [("at",v)])->E (.ref C) (some dx) H') X.xe s:=by
  refine qAk (zkf I hg hm ?_ hdb)
  refine qBK (h₀:=X.base) I.ok.mod.kin M.kp (thn (zkg ha zob he cpos pins s σ H (λvs H1=>match vs with|[v]=>atV v/\∀H' dx,Same H1 H'->H' dx=some (.xd [("at",v)])->E (.ref C) (some dx) H'|_=>False) I h) λus s1 ⟨vs,H1,I1,r,q⟩=>⟨I1.kIn,?_⟩) he rfl
  match vs,q,r with
  | [v],q,r=>
   obtain⟨u,rfl,rv⟩:=zyd r
   exact zafg M F hr hb hex I1 rv q.1 λe dx H' s' I' fl he0 hd sm=>⟨e,dx,H',v,H1,rfl,I',fl,he0,hd,sm,q.2⟩
  | [],q,_=>exact q.elim
  | _::_::_,q,_=>exact q.elim
 refine qE (thn hcall λr s' hh=>?_)
 obtain⟨e,dx,H',v,H1,rfl,I',fl,he',hd,sm,q⟩:=hh
 refine qE (wpAny_standAt (qQ ?_))
 obtain⟨nm,qn,N,bs,bm,sn,sub,ab,col,dd,k0,k1,k2,k3,k5,hC,hbm,_,_⟩:=zpq I'.kIn M.cls M.tail
 have hcB:(Value.ref C::bm).contains (.type "BaseException")=true:=by rw[qAX,zfm (by decide) hbm,qAy]
 obtain⟨⟨vs,sl,oe,h1⟩,_,_⟩:=I'.hok e _ he'
 have hxe:=hx pins σ H' s' e C dx I' fl (q H' dx sm hd)
 have hh:=I'.ok.hd hc
 obtain⟨hp,g,d,tk,os⟩:=s'
 repeat (first|with_reducible refine qz oe ?_|with_reducible refine qz hC ?_|(with_reducible refine qAv hC ?_;rw[hcB])|wp_step)
 rw[h1]
 dsimp only
 refine qQ ?_
 rw[if_neg (by decide)]
 exact qQ (wpAny_raiseNew_none hh hxe)
end
section
variable{X:Cx}{pins:List (Addr×Obj)}{σ:St}{H:Hp}{s:Shared}{C f:Addr}{k:Nat}{fd:qw}
noncomputable def tMsg(te:TE):TE:=λσ H Q=>te σ H λv H1=>atV v/\∀m,Q (.str m) H1
theorem zafi:∀m<100,Nat.log2 m<1920:=by decide +kernel
theorem zrs:∀m<100,(Str.ofString (toString ((m:Nat):Int))).length<=10:=by decide +kernel
theorem zaob {v:V} {u:Value} {A:Around} {E:Value->Shared->Prop} {Q:Value->Shared->Prop} (r:RelV v u) (av:atV v) (q:∀(m:Str) t,m.length<=1000->Q (.str m s.toks) {s with toks:=t}) :
  wpAny (model X.prog X.w) A (pyReprObj u) Q E s:=by
 cases v with
 | non=>
  cases r
  exact qCD (T:="NoneType") rfl F.slot_NoneType_repr F.entry_NoneType_repr (by unfold argsOk;kernel_rfl) gives_none_repr (q "None" _ (by decide)) (hx:=by decide)
 | str x=>
  obtain⟨t,rfl⟩:=r
  exact qCD (T:="str") rfl PyProof.Rows.slot_str_repr PyProof.Rows.entry_str_repr (PyProof.Rows.args_str_repr _) (gives_str_repr x t) (q _ _ av) (hx:=qAD av (by rw[qA8];omega))
 | int n=>
  obtain⟨t,rfl⟩:=r
  obtain⟨n0,n1⟩:=av
  obtain⟨m,rfl⟩:∃m:Nat,n=(m:Int):=⟨n.toNat,by omega⟩
  have hm:m<100:=by omega
  have hb:(m:Int).natAbs.log2<1920:=by
   rw[Int.natAbs_natCast]
   exact zafi m hm
  exact qCD (T:="int") rfl F.slot_int_repr F.entry_int_repr (F.args_int_repr_1 _) (gives_int_repr (m:Int) t hb) (q _ _ (qAD (zrs m hm) (by decide))) (hx:=qAD (zrs m hm) (by rw[qA8];omega))
 | _=>exact av.elim
theorem zasn{c:Str}{j p a p2 pos te}(ha:PE X a te)(hc:c.length<=1000):PE X (.JoinedStr [.Constant (.str c) j p,.FormattedValue a 114 none p2] pos) (tMsg te):=by
 intro pins s σ H Q I h
 have la:∀x y:Str,(x++y).length=x.length+y.length:=λx y=>by show(x.cps++y.cps).size=x.cps.size+y.cps.size;exact Array.size_append
 have l0:(Str.empty).length=0:=rfl
 have big:(3000:Nat)<=qe:=by rw[qA8];omega
 refine wpAny_JoinedStr ?_
 show wpAny _ _ (eval (.Constant (.str c) j p) X.env) (λv s₁=>∃y t,v=.str y t/\(Str.empty++y).length<=qe/\wpAny _ _ (eval (.FormattedValue a 114 none p2) X.env) (λv s₂=>∃z t,v=.str z t/\((Str.empty++y)++z).length<=qe/\(((Str.empty++y)++z).length<=qe/\_)) _ s₁) _ s
 refine qCF ⟨c,_,rfl,by rw[la,l0];omega,?_⟩
 refine wpAny_FormattedValue_repr (thn (ha pins _ σ H _ (I.tok _) h) λu s1 ⟨v,H1,I1,r,av,q⟩=>zaob (X:=X) r av λm t hm=>?_)
 have lz:((Str.empty++c)++m).length<=qe:=by rw[la,la,l0];omega
 have fin:∀tk,EP X pins σ Q (.str ((Str.empty++c)++m) tk) {s1 with toks:=tk+1}:=λtk=>⟨.str _,H1,I1.tok _,⟨_,rfl⟩,q _⟩
 exact wpAny_formatField_str ⟨m,_,rfl,lz,lz,fin _⟩ ⟨m,_,rfl,lz,lz,fin _⟩ (by omega)
noncomputable def zall(C:Addr)(t:TA):TE:=λσ H Q=>t σ H λvs H1=>∃e m,vs=[.ref e,m]/\H1 e=some (.ext (xe0 e C))/\Q .non H1
theorem zys{K:qB}:PySem.W.findCls K (.type "ValueError") (.type "type") "__init__"=some (.val (.builtin "ValueError.__init__")):=by
 first|rfl|decide +kernel|kernel_rfl
theorem zpr:bootBuiltins "ValueError"=some (.type "ValueError"):=by decide +kernel
theorem zajm{p p2 pos:Pos}{e:Expr}{es:List Expr}{t:TA}{pl:Sem Bool}(M:XMk X.K C f)(hg:Gl X "ValueError")(hm:X.mg "ValueError"=none)(ha:PA X (e::es) t)
  (hst:starEach (e::es) X.env=(false,eval e X.env)::starEach es X.env:=by rfl)(hpl:(backTo pos (starEach es X.env)).any (·.1)=false:=by rfl)
  (ht:eval (.Call (.Attribute (.Name "ValueError" p) "__init__" p2) (e::es) [] pos) X.env=(do
   let ov <- eval (.Name "ValueError" p) X.env
   standAt p2.atName
   let(f,first) <- holding [ov] (getMethod ov "__init__" pl)
   callWith pos f first (backTo pos (starEach (e::es) X.env)) (backToKw pos (keywordEach [] X.env))):=by rfl) :
  PE X (.Call (.Attribute (.Name "ValueError" p) "__init__" p2) (e::es) [] pos) (zall C t):=by
 intro pins s σ H Q I h
 refine PySem.W.methodCall_KW (pl:=pl) (zoa I hg hm zpr ?_ (by decide) (by decide)) ht
 obtain⟨m,fr⟩:=I.fr
 refine PySem.W.method_type fr I.ok.mod.kin (by kernel_rfl) (by decide +kernel) zys (by decide +kernel) ?_
 have hA:=ha pos pins _ σ H _ (I.tok (s.toks+1)) h
 rw[hst]at hA ⊢
 refine qBz (by show(false||(backTo pos (starEach es X.env)).any (·.1))=false;rw[hpl]<;>rfl) (qCt ?_)
 refine thn hA λus s2 ⟨vs,H2,I2,r2,e',mv,ev,he,q⟩=>?_
 subst ev
 obtain⟨u1,u2,rfl,r1,r3⟩:=zaii r2
 cases r1
 obtain⟨nm,qn,N,bs,bm,sn,sub,ab,col,dd,k0,k1,k2,k3,k5,hC,hbm,_,_⟩:=zpq I2.kIn M.cls M.tail
 obtain⟨⟨vs,sl,oe,h1⟩,_,_⟩:=I2.hok e' _ he
 obtain⟨hh,g,d,tk,os⟩:=s2
 refine zauq hbm (by show 1<=qe;rw[qA8];omega) hC oe rfl rfl (Nat.lt_of_succ_lt (qAj.mp h1).1) λh' p' a1 a2=>?_
 refine⟨.non,H2,?_,rfl,q⟩
 have hup:upd H2 e' (.ext (xe0 e' C))=H2:=by
  funext b
  by_cases hb:b=e'
  ·subst hb;rw[zaw,he]
  ·rw[zbc hb]
 have:=I2.write (x:=e') (e:=e') (o:=.ext (xe0 e' C)) (h':=h') (t':=tk) (by rw[he];exact True.intro) (.inl rfl) (λb u hb z=>a2 b u hb z) ⟨_,a1⟩ (zaff ⟨_,_,a1,by rw[Array.getElem?_setIfInBounds_ne (by decide)];exact h1⟩)
 rw[hup]at this
 exact this
end
section
variable{X:Cx}{pins:List (Addr×Obj)}{σ:St}{H:Hp}{s:Shared}{C f:Addr}{k:Nat}{fd:qw}
noncomputable def tSat(C:Addr)(ta tv:TE):TS:=λD σ H=>tv σ H λv H1=>ta σ H1 λx H2=>∃e,x=.ref e/\H2 e=some (.ext (xe0 e C))/\∀dx,H2 dx=none->dx≠e->D.nx σ (upd (upd H2 dx (.xd [("at",v)])) e (.ext (xeD e C dx .none)))
theorem zaso{o value:Expr}{pos' pos:Pos}{ta tv:TE}(M:XMk X.K C f)(ha:PE X o ta)(hv:PE X value tv)(hs:swapsWith value (some (.Attribute o "at" pos')) pos.line X.env=pure false:=by rfl):PS X (.Assign [.Attribute o "at" pos'] value pos) (tSat C ta tv):=by
 intro pins s σ H D I h
 refine plainObj_wpAny_Assign_Attribute (thn (hv pins s σ H _ I h) λu s1 ⟨y,H1,I1,ry,q⟩=>thn (ha pins s1 σ H1 _ I1 q) λov s2 ⟨x,H2,I2,rx,e,ex,he,q2⟩=>?_) hs
 subst ex
 obtain rfl:ov=Value.ref e:=rx
 obtain⟨nm,qn,N,bs,bm,sn,sub,ab,col,dd,k0,k1,k2,k3,k5,hC,hbm,_,_⟩:=zpq I2.kIn M.cls M.tail
 obtain⟨⟨vs,sl,oe,h1⟩,_,_⟩:=I2.hok e _ he
 obtain⟨hh,g,d,tk,os⟩:=s2
 refine zasl hbm hC oe rfl (λc z=>by cases z) rfl (qA0 I2.kIn M.sa) (qA0 I2.kIn M.at_) λh' tk' dx a1 a2 a3 a4=>?_
 have hdx:H2 dx=none:=I2.hok.fresh a1
 have ne:dx≠e:=λz=>by rw[z,he]at hdx;cases hdx
 refine⟨σ,upd (upd H2 dx (.xd [("at",y)])) e (.ext (xeD e C dx .none)),?_,q2 dx hdx ne⟩
 have n2:∀b,b≠e->b≠dx->upd (upd H2 dx (.xd [("at",y)])) e (.ext (xeD e C dx .none)) b=H2 b:=λb p q=>by rw[zbc p,zbc q]
 have nb:∀b o,H2 b=some o->(∀φ,o≠.ext φ)->b≠e/\b≠dx:=λb o z n=>⟨λy=>(by rw[y,he]at z;cases z;exact n _ rfl),λy=>(by rw[y,hdx]at z;cases z)⟩
 have st:∀b o,H2 b=some o->(∀φ,o≠.ext φ)->upd (upd H2 dx (.xd [("at",y)])) e (.ext (xeD e C dx .none)) b=some o:=λb o z n=>by rw[n2 b (nb b o z n).1 (nb b o z n).2];exact z
 have lt:∀b u,hh.get? b=some u->b≠dx:=λb u z y=>by rw[y]at z;exact absurd (qU z) (Nat.not_lt.mpr a1)
 refine Inv.un (s:=⟨hh,g,d,tk,os⟩) I2 (h':=h') ⟨λb o z n _ _=>a4 b o (λy=>by rw[y,he]at n;cases n) z,λb o z n _ _=>⟨o.slots,a4 b o (λy=>by rw[y,he]at n;cases n) z⟩,λb o z n _=>?_,λb o z _=>?_,λb xs z=>st b _ z (λφ y=>by cases y),λb o u z=>st b _ z (λφ y=>by cases y),λb ps z=>⟨#[],by rw[st b _ z (λφ y=>by cases y)];simp⟩⟩ λb o z=>?_
 ·rw[n2 b (λy=>by rw[y,he]at n;cases n) (lt b o z)];exact n
 ·by_cases hb:b=e
  ·exact⟨_,by rw[hb];exact a3⟩
  ·exact⟨o,a4 b o hb z⟩
 ·by_cases hb:b=e
  ·subst hb
   rw[zaw]at z
   cases z
   exact zalj ⟨vs,sl,a3,h1⟩
  ·by_cases hd:b=dx
   ·subst hd
    rw[zbc hb,zaw]at z
    cases z
    refine⟨_,a2,λn=>?_⟩
    by_cases hn:n="at"
    ·subst hn
     exact ry
    ·have:List.lookup n [((("at":Str)),y)]=none:=by
      rw[qAp]
      have:(n==("at":Str))=false:=by rw[beq_eq_false_iff_ne];exact hn
      rw[this]
      rfl
     rw[this]
     show RelO none (if n=("at":Str)then _ else _)
     rw[if_neg hn]
     trivial
   ·rw[n2 b hb hd]at z
    refine(I2.hok b o z).stay (λc u hc y=>a4 c u ?_ y) (λc y=>st c _ y (λφ x=>by cases x)) (λc xs y=>st c _ y (λφ x=>by cases x))
    rcases hc with rfl|hc
    ·exact hb
    ·exact λx=>by rw[x,he]at hc;cases hc
noncomputable def tXat(C:Addr)(te:TE):TE:=λσ H Q=>te σ H λx H1=>∃e dx tv v,x=.ref e/\H1 e=some (.ext (xeD e C dx tv))/\H1 dx=some (.xd [("at",v)])/\Q v H1
theorem zasp{o:Expr}{pos:Pos}{te:TE}(M:XMk X.K C f)(ho:PE X o te)(hb:attributeBase o "at" X.env (eval o X.env)=eval o X.env:=by rfl):PE X (.Attribute o "at" pos) (tXat C te):=by
 intro pins s σ H Q I h
 refine zamv hb (thn (ho pins s σ H _ I h) λu s1 ⟨x,H1,I1,rx,e,dx,tv,v,ex,he,hd,q⟩=>?_)
 subst ex
 obtain rfl:u=Value.ref e:=rx
 obtain⟨nm,qn,N,bs,bm,sn,sub,ab,col,dd,k0,k1,k2,k3,k5,hC,hbm,_,_⟩:=zpq I1.kIn M.cls M.tail
 obtain⟨⟨vs,sl,oe,h1⟩,_,_⟩:=I1.hok e _ he
 obtain⟨mA,ns,rl⟩:=I1.hok dx _ hd
 have hv:∃w,mA "at"=some w/\RelV v w:=by
  have:=rl "at"
  rw[show List.lookup ("at":Str) [(("at":Str),v)]=some v from rfl]at this
  cases y:mA "at"with
  | none=>rw[y]at this;exact this.elim
  | some w=>rw[y]at this;exact⟨w,rfl,this⟩
 obtain⟨w,hw,rw'⟩:=hv
 obtain⟨hh,g,d,tk,os⟩:=s1
 refine zaup hbm hC oe rfl rfl rfl ns.ns hw (qA0 I1.kIn M.ga) (qA0 I1.kIn M.gh) (qA0 I1.kIn M.at_) (zadf rw') λtk'=>⟨v,H1,I1.tok _,rw',q⟩
end
noncomputable def zajn(c:Str)(p1 p2 p3 p4 p5 p6 p7 p8 p9 p10 p11 p12 p13:Pos):List Stmt:=
 [.Expr (.Call (.Attribute (.Name "ValueError" p1) "__init__" p2) [.Name "self" p3,.JoinedStr [.Constant (.str c) 0 p4,.FormattedValue (.Name "at" p5) 114 none p6] p7] [] p8) p9,
  .Assign [.Attribute (.Name "self" p10) "at" p11] (.Name "at" p12) p13]
noncomputable def zajo(c:Str)(p1 p2 p3 p4 p5 p6 p7 p8:Pos):Prop:=∀env:Env,∃pl:Sem Bool,eval (.Call (.Attribute (.Name "ValueError" p1) "__init__" p2) [.Name "self" p3,.JoinedStr [.Constant (.str c) 0 p4,.FormattedValue (.Name "at" p5) 114 none p6] p7] [] p8) env=(do
   let ov <- eval (.Name "ValueError" p1) env
   standAt p2.atName
   let(f,first) <- holding [ov] (getMethod ov "__init__" pl)
   callWith p8 f first (backTo p8 (starEach [.Name "self" p3,.JoinedStr [.Constant (.str c) 0 p4,.FormattedValue (.Name "at" p5) 114 none p6] p7] env)) (backToKw p8 (keywordEach [] env)))
theorem zafj{P:Program}{w:World}{K:qB}{mg:Str->Option Value}{base:Heap}{C f:Addr}{qual:Str}{st:Stmt}{fd:qw}{c:Str}{p1 p2 p3 p4 p5 p6 p7 p8 p9 p10 p11 p12 p13:Pos}(F:Fun K "__init__" qual st f fd)(M:XMk K C f)(hm:mg "ValueError"=none)
  (hb:zbm st=zajn c p1 p2 p3 p4 p5 p6 p7 p8 p9 p10 p11 p12 p13) (hsc:zam st={kind:=.function,names:=[("self",.local),("at",.local),("ValueError",.globalImplicit)],isGenerator:=false,isCoroutine:=false}) (hc:c.length<=1000) (ht:zajo c p1 p2 p3 p4 p5 p6 p7 p8) :
  FnOk P w K mg base CX0 1 f fd ["self","at"] (spI C):=by
 have nd:(["self","at"]:List Str).Nodup:=by decide +kernel
 have S:FnScope ["self","at"] ["self","at"] (zam st):=by rw[hsc];exact⟨rfl,rfl,rfl,nd,rfl,by decide +kernel,by decide +kernel⟩
 refine F.ok S (λvs H Q E h=>by obtain⟨e,v,rfl,_⟩:=h;rfl) λcdv A outer s H vs Q E hr h=>?_
 obtain⟨e,v,rfl,he,av,q⟩:=h
 have g0:visB (cxOf CX0 P w K mg base ["self","at"] qual (zam st) f cdv A outer s H E).nox.env.scope "self"=true:=by show visB (zam st) _=_;rw[hsc];decide +kernel
 have g1:visB (cxOf CX0 P w K mg base ["self","at"] qual (zam st) f cdv A outer s H E).nox.env.scope "at"=true:=by show visB (zam st) _=_;rw[hsc];decide +kernel
 have g2:Gl (cxOf CX0 P w K mg base ["self","at"] qual (zam st) f cdv A outer s H E).nox "ValueError":=by show(zam st).names.lookup _=_;rw[hsc];decide +kernel
 have e0:∀{p:Pos},PE (cxOf CX0 P w K mg base ["self","at"] qual (zam st) f cdv A outer s H E).nox (.Name "self" p) (tVar 0):=λ{p}=>pv 0 rfl g0
 have e1:∀{p:Pos},PE (cxOf CX0 P w K mg base ["self","at"] qual (zam st) f cdv A outer s H E).nox (.Name "at" p) (tVar 1):=λ{p}=>pv 1 rfl g1
 refine⟨tSeq (tDrop (zall C (tCons (tVar 0) (tCons (tMsg (tVar 1)) tNil)))) (tSat C (tVar 0) (tVar 1)),?_,?_⟩
 ·rw[hb]
  obtain⟨pl,ht⟩:=ht (cxOf CX0 P w K mg base ["self","at"] qual (zam st) f cdv A outer s H E).nox.env
  exact zlf (zsp (zajm (f:=f) (pl:=pl) M g2 hm (zkg e0 (zkg (zasn e1 hc) zob)) rfl rfl ht)) (zmf (zaso M e0 e1))
 ·exact⟨_,rfl,v,rfl,av,λm=>⟨e,_,rfl,he,v,rfl,_,rfl,e,rfl,he,q⟩⟩
noncomputable def atD:PyData->Bool
 | .none=>true
 | .str x=>decide ((PySem.reprText x).length<=1000)
 | .int n=>decide (0<=n/\n<100)
 | _=>false
theorem zaaa{d:PyData}(h:atD d=true):zex d=true:=by cases d<;>first|rfl|cases h
theorem zaur{H:Hp}{d:PyData}{v:V}(h:atD d=true)(r:Rp H d v):atV v:=by
 cases d with
 | none=>rw[zpa r];trivial
 | str x=>rw[zge r];show(PySem.reprText x).length<=1000;exact of_decide_eq_true h
 | int n=>rw[zcw r];show 0<=n/\n<100;exact of_decide_eq_true h
 | _=>cases h
noncomputable def RX(H0:Hp)(C:Addr)(d:PyData):XK:=λc od H'=>c=.ref C/\Same H0 H'/\zex d=true/\∃dx v,od=some dx/\H' dx=some (.xd [("at",v)])/\Rp H' d v
theorem RX.base{H0 H1:Hp}{C:Addr}{d:PyData}(s:Same H0 H1){c:Value}{od:Option Addr}{H':Hp}(h:RX H1 C d c od H'):RX H0 C d c od H':=
 let⟨a,b,r⟩:=h;⟨a,s.trans b,r⟩
theorem RX.stx{H0:Hp}{C:Addr}{d:PyData}{E:XK}(h:∀c od H',RX H0 C d c od H'->E c od H'){c:Value}{od:Option Addr}{H':Hp}(q:RX H0 C d c od H'):StX H0 E c od H':=by
 intro H3 r1 r2
 obtain⟨a,b,f,dx,v,e1,e2,e3⟩:=q
 exact h _ _ _ ⟨a,λx o z=>r1 x o z (b x o z),f,dx,v,e1,r2 _ _ e2 (λφ z=>by cases z),zkj f e3⟩
inductive OutX where
 | ok (o:Out)
 | rx (c:Str) (d:PyData)
noncomputable def SatX(cl:Str->Addr)(fx:Addr->Prop)(H0:Hp)(D:Ends)(E:XK):OutX->Prop
 | .ok o=>Sat fx H0 D o
 | .rx c d=>∀k od H',RX H0 (cl c) d k od H'->E k od H'
noncomputable abbrev SFX:=DEnv->Option OutX
noncomputable def SSx(cl:Str->Addr)(ts:XK->TS)(F:SFX):Prop:=∀(fx:Addr->Prop)(H0:Hp)(env:DEnv)(σ:St)(H:Hp)(D:Ends)(E:XK),EnvOk fx H0 env σ H->∀o,F env=some o->SatX cl fx H0 D E o->ts E D σ H
section
variable{cl:Str->Addr}
noncomputable def xOf(f:SF):SFX:=λenv=>(f env).map .ok
theorem zkp{t:TS}{f:SF}(h:SS t f):SSx cl (λ_=>t) (xOf f):=by
 intro fx H0 env σ H D E hE o e q
 obtain⟨o',e',rfl⟩:=qH.mp e
 exact h fx H0 env σ H D hE o' e' q
noncomputable def xSeq(f g:SFX):SFX:=λenv=>(f env).bind λo=>match o with
 | .ok (.nx env')=>g env'
 | o=>some o
theorem zjr{t u:XK->TS}{f g:SFX}(h1:SSx cl t f)(h2:SSx cl u g):SSx cl (λE=>tSeq (t E) (u E)) (xSeq f g):=by
 intro fx H0 env σ H D E hE o e q
 obtain⟨o1,e1,e⟩:=qA.mp e
 refine h1 fx H0 env σ H _ E hE o1 e1 ?_
 cases o1 with
 | rx c d=>cases e;exact q
 | ok o1=>
  cases o1 with
  | nx env'=>exact λσ' H' h'=>h2 fx H0 env' σ' H' D E h' o e q
  | bk env'=>cases e;exact q
  | ct env'=>cases e;exact q
  | rt d fr=>cases e;exact q
noncomputable def xIf(c:TF)(f g:SFX):SFX:=λenv=>(c env).bind λb=>if b=true then f env else g env
theorem zaab{tc:TT}{t u:XK->TS}{c:TF}{f g:SFX}(hc:ST tc c)(h1:SSx cl t f)(h2:SSx cl u g):SSx cl (λE=>tIfS tc (t E) (u E)) (xIf c f g):=by
 intro fx H0 env σ H D E h o e q
 obtain⟨b,eb,e⟩:=qA.mp e
 refine hc fx H0 env σ H h b eb _ λH' s=>?_
 cases b with
 | true=>exact iteT (h1 fx H0 env σ H' D E (h.up s) o e q)
 | false=>exact iteF (h2 fx H0 env σ H' D E (h.up s) o e q)
noncomputable def zlz(c:Str)(f:EF):SFX:=λenv=>(f env).bind λr=>if atD r.d=true then some (.rx c r.d)else none
theorem zmv{c:Str}{te:TE}{f:EF}(h1:SE te f):SSx cl (λE=>zafh (cl c) E te) (zlz c f):=by
 intro fx H0 env σ H D E h o e q
 obtain⟨r,er,e⟩:=qA.mp e
 split at e
 ·rename_i ha
  cases e
  refine h1 fx H0 env σ H h r er _ λv H' s hv=>⟨zaur ha hv.rp,λH2 dx s2 hd=>q _ _ _ ⟨rfl,(h.base.trans s).trans s2,zaaa ha,dx,v,rfl,hd,zkj (zaaa ha) hv.rp⟩⟩
 ·cases e
noncomputable def zvs(g:GT)(body:SFX):List PyData->DEnv->Option OutX
 | [],env=>some (.ok (.nx env))
 | d::ds,env=>(g d env).bind λe1=>(body e1).bind λo=>match o with
  | .ok (.nx e2)=>zvs g body ds e2
  | .ok (.ct e2)=>zvs g body ds e2
  | .ok (.bk e2)=>some (.ok (.nx e2))
  | .ok (.rt d fr)=>some (.ok (.rt d fr))
  | .rx c d=>some (.rx c d)
noncomputable def xFor(f:IF')(g:GT)(body:SFX):SFX:=λenv=>(f env).bind λz=>zvs g body z.1 (frzs env z.2)
theorem zafk{wi:TI}{g:TG}{tb:XK->TS}{f:IF'}{gf:GT}{body:SFX}(h1:SI wi f)(h2:SG g gf)(h3:SSx cl tb body):SSx cl (λE=>tFor wi g (tb E)) (xFor f gf body):=by
 intro fx H0 env σ H D E h o e q
 obtain⟨⟨ds,bs⟩,er,e⟩:=qA.mp e
 refine h1 fx H0 env σ H h ds bs er _ λJ H1 s yl=>?_
 have hE:=(h.up s).frzs bs
 have fl:=hE.floor
 refine⟨λi m σ' H'=>m=ds.length - i/\i<=ds.length/\∃env',zvs gf body (ds.drop i) env'=some o/\EnvOk fx (Offs (own (frzs env bs) σ) H1) env' σ' H',⟨ds.length,rfl,qAr _,_,e,hE.rebase⟩,?_⟩
 rintro i m σ' H' ⟨rfl,hi,env',e',h'⟩
 obtain⟨yi,ys⟩:=yl _ H' h'.all h'.seen
 by_cases hlt:i<ds.length
 ·obtain⟨yg,yy⟩:=yi i ds[i] (qF hlt)
  refine .inr ⟨yg,λσ'' H''=>i+1<=ds.length/\∃env'',zvs gf body (ds.drop (i+1)) env''=some o/\EnvOk fx (Offs (own (frzs env bs) σ) H1) env'' σ'' H'',?_,?_⟩
  ·rintro σ'' H'' ⟨hle,env'',e'',h''⟩
   exact⟨ds.length - (i+1),by omega,rfl,hle,env'',e'',h''⟩
  ·intro x H'' hy
   obtain⟨sy,ry⟩:=yy x H'' hy
   rw[qAm hlt]at e'
   obtain⟨e1,ee1,e'⟩:=qA.mp e'
   obtain⟨o1,eo1,e'⟩:=qA.mp e'
   refine h2 fx _ env' σ' H'' _ x (h'.up sy) ry e1 ee1 _ λσ2 h2'=>h3 fx _ e1 σ2 H'' _ E h2' o1 eo1 ?_
   cases o1 with
   | rx c d=>cases e';exact λk od H3 r=>q k od H3 (r.base fl)
   | ok o1=>
    cases o1 with
    | nx e2=>exact λσ3 H3 hh=>⟨hlt,e2,e',hh⟩
    | ct e2=>exact λσ3 H3 hh=>⟨hlt,e2,e',hh⟩
    | bk e2=>cases e';exact λσ3 H3 hh=>q σ3 H3 (hh.unbase fl)
    | rt d fr=>cases e';exact λv H3 sh rt=>q v H3 (fl.trans sh) (rt.unbase fl)
 ·have hi':i=ds.length:=by omega
  subst hi'
  rw[qBa]at e'
  cases e'
  exact .inl ⟨ys,q σ' H' (h'.unbase fl)⟩
inductive ResX where
 | ok (d:PyData) (fr:Bool)
 | rx (c:Str) (d:PyData)
noncomputable abbrev GFX:=List PyData->Option ResX
noncomputable def zaus(cl:Str->Addr)(fx:Addr->Prop)(H:Hp)(Q:VK)(E:XK):ResX->Prop
 | .ok d fr=>∀v H',Same H H'->zyi fx H d fr v H'->Q v H'
 | .rx c d=>∀k od H',RX H (cl c) d k od H'->E k od H'
noncomputable def spX(cl:Str->Addr)(n:Nat)(g:GFX):Sp:=λvs H Q E=>∃(fx:Addr->Prop)(ds:List PyData)(r:ResX),ds.length=n/\(∀b,fx b->∃o,H b=some o)/\Rps (Offs fx H) ds vs/\g ds=some r/\zaus cl fx H Q E r
theorem zafl{n:Nat}{g:GFX}{vs:List V}{H:Hp}{Q:VK}{E:XK}(h:spX cl n g vs H Q E):vs.length=n:=by
 obtain⟨fx,ds,r,hn,hf,rr,_⟩:=h
 rw[<- rr.length];exact hn
noncomputable def fnX(n:Nat)(f:SFX):GFX:=λds=>match f (zkl n ds)with
 | some (.ok (.rt d fr))=>some (.ok d fr)
 | some (.ok (.nx _))=>some (.ok .none false)
 | some (.rx c d)=>some (.rx c d)
 | _=>none
theorem fn_x{N:List Str}{n:Nat}{f:SFX}{t:XK->TS}(hs:SSx cl t f){vs:List V}{H:Hp}{Q:VK}{E:XK}(h:spX cl n (fnX N.length f) vs H Q E):t (StX H E) {nx:=λ_ H'=>Q .non H',rt:=Q} (start N vs) H:=by
 obtain⟨fx,ds,r,hn,hf,rr,g,k⟩:=h
 unfold fnX at g
 split at g
 ·rename_i d' fr' eo
  cases g
  exact hs fx H _ _ H _ _ (zjd hf rr) _ eo λv H' s rt=>k v H' s rt
 ·rename_i e' eo
  cases g
  exact hs fx H _ _ H _ _ (zjd hf rr) _ eo λσ H' hE=>k .non H' hE.base ⟨ziz,λz=>by cases z⟩
 ·rename_i c d eo
  cases g
  exact hs fx H _ _ H _ _ (zjd hf rr) _ eo λk' od H' q=>RX.stx k q
 ·cases g
end
noncomputable abbrev Cx.hold(X:Cx)(e:Addr):Cx:={X with A:=X.A.mark (some (.ref e)),calm:=false,xe:=λ_ _=>False}
section
variable{X:Cx}{pins:List (Addr×Obj)}{σ:St}{H:Hp}{s:Shared}
theorem Inv.hold(I:Inv X pins σ H s)(e:Addr):Inv (X.hold e) pins σ H s:=
 ⟨⟨I.ok.mod,I.ok.kind,I.ok.glob,I.ok.blt,I.ok.above,I.ok.inj,I.ok.has,I.ok.cab,(λz=>by cases z),I.ok.frames,I.ok.stk,I.ok.exf,I.ok.bs,I.ok.bsz,I.ok.noex,I.ok.exfs,I.ok.funs,I.ok.frf⟩,I.os,I.bare,I.base,I.loc,I.cell,I.free,I.freeC,I.pin,I.hok,I.len⟩
theorem Inv.unhold{e:Addr}(ok:X.Ok)(I:Inv (X.hold e) pins σ H s):Inv X pins σ H s:=
 ⟨ok,I.os,I.bare,I.base,I.loc,I.cell,I.free,I.freeC,I.pin,I.hok,I.len⟩
theorem zaoc{A:Around}{E:Value->Shared->Prop}{n:Str}{pos:Pos}{j:Nat}{Q:Unit->Shared->Prop}(I:Inv X pins σ H s)(hN:X.N.Nodup)(hj:X.N[j]?=some n)(hl:X.env.scope.names.lookup n=some .local)
  (h:∀s',Inv X pins (σ.set j none) H s'->Q () s'):wpAny (model X.prog X.w) A (do bindName X.env n .none;unbindBehindTheSuite X.env n pos) Q E s:=by
 obtain⟨m,hn,hlk⟩:=id I.loc
 have hcls:(X.env.scope.kind==.class||(X.env.scope.kind==.module&&X.env.locals != X.env.globals))=false:=by rw[I.ok.kind];rfl
 refine wpAny_nameGoes_keeps hl hn hcls λh' v ns sb=>h _ ?_
 have lo:∀b ob,X.s₀.heap.get? b=some ob->h'.get? b=s.heap.get? b:=λb ob e=>sb.2 b (qAG (qm (qU e) I.ok.above))
 have cne:=I.cne
 refine⟨I.ok,I.os,I.bare,⟨λb o e n hb hx=>(lo b o e).trans (I.base.keep b o e n hb hx),λb o e n hb hx=>?_,I.base.free,λb o e hx=>?_,I.base.tups,I.base.frzs,I.base.tbls⟩,⟨_,ns,λk y v' e1 e2 e3=>?_⟩,λy c e=>?_,I.free,I.freeC,λp hp=>?_,λb ob e=>?_,by simpa using I.len⟩
 ·obtain⟨sl,e1⟩:=I.base.slot b o e n hb hx
  exact⟨sl,(lo b o e).trans e1⟩
 ·obtain⟨o',e1⟩:=I.base.there b o e hx
  exact⟨o',(lo b o e).trans e1⟩
 ·by_cases hk:k=j
  ·subst hk
   rw[qAA (by have:=(qJ.mp hj).1;rw[I.len];exact this)]at e2
   cases e2
  ·rw[qO (qBA hk)]at e2
   obtain⟨u',r',q⟩:=hlk k y v' e1 e2 e3
   refine⟨u',r',?_⟩
   rcases q with⟨z,e⟩|⟨z,c,e,y'⟩
   ·refine .inl ⟨z,?_⟩
    have:y≠n:=λe=>hk (zso hN e1 (e▸hj))
    simp[this,e]
   ·exact .inr ⟨z,c,e,y'.sameBut sb (cne y c e)⟩
 ·obtain⟨w',z⟩:=I.cell y c e
  exact⟨w',z.sameBut sb (cne y c e)⟩
 ·obtain⟨e,n,ne,nf,d⟩:=I.pin p hp
  exact⟨(sb.2 p.1 ne).trans e,n,ne,nf,d⟩
 ·refine(I.hok b ob e).stay (λc w' hc q=>(sb.2 c ?_).trans q) (λ_ q=>q) λ_ _ q=>q
  rintro rfl
  rcases hc with hc|hc
  ·rw[<- hc,I.free]at e;cases e
  ·rw[I.free]at hc;cases hc
end
end L2
namespace PySem
open Sem (wp)
open Builtin Builtin.ObjectAttr
end PySem
namespace L2
open PySem PySem.Spec PyProof.Rows
noncomputable def DnX(P:Program)(w:World)(K:qB)(mg:Str->Option Value)(base:Heap)(x:Str)(ps:List Str)(k:Nat)(sp:Sp):Prop:=
 ∃f fd,FnOk P w K mg base (CXE P w) k f fd ps sp/\mg x=some (.ref f)/\qX K (.ref f)=true/\zno K fd ps []
section
variable{X:Cx}
noncomputable def XcOk(P:Program)(w:World)(K:qB)(mg:Str->Option Value)(base:Heap)(x:Str)(C:Addr):Prop:=
 ∃f fd,XMk K C f/\FnOk P w K mg base CX0 1 f fd ["self","at"] (spI C)/\zno K fd ["self","at"] []/\mg x=some (.ref C)/\PySem.W.findIn K (.ref C) "__class__"=some (some (.builtin "object.__class__"))/\PySem.W.exmOne K (.ref C) (.ref C)=some true
theorem zmw{E:XK}{C:Addr}{x:Str}{np cpos pos:Pos}{a:Expr}{te:TE}(M:XcOk X.prog X.w X.K X.mg X.base x C)(hr:Room 2 X.A)(hex:X.ex=[])(hc:X.calm=true)(hx:Lvs X E)(hg:Gl X x)(ha:Bx (PE X a te))
  (hdb:(x==("__debug__":Str))=false) (he:starEach [a] X.env=[(false,eval a X.env)]):Bx (PS X (.Raise (some (.Call (.Name x np) [a] [] cpos)) none pos) (zafh C E te)):=by
 obtain⟨f,fd,M,F,hb,hm,_⟩:=M
 exact⟨zajl M F hr hb hex hc hx hg hm ha.out hdb he⟩
end
theorem zaac{P:Program}{w:World}{K:qB}{mg:Str->Option Value}{base:Heap}{N:List Str}{qual:Str}{scope:Scope}{f:Addr}{cd:Value}{A:Around}{outer:List Env}{s:Shared}{H:Hp}{E:XK}(h0k:HOk P w H s.heap) :
  Lvs (cxOf (CXE P w) P w K mg base N qual scope f cd A outer s H E) (StX H E):=λpins σ H1 s1 e C dx I F q=>zasm I h0k F q
section
variable{X:Cx}{pins:List (Addr×Obj)}{σ:St}{H:Hp}{s:Shared}
theorem SP.unhold{e:Addr}{D:Ends}{f:Flow}(ok:X.Ok)(h:SP (X.hold e) pins D f s):SP X pins D f s:=by
 cases f with
 | next=>obtain⟨σ',H',I,q⟩:=h;exact⟨σ',H',Inv.unhold ok I,q⟩
 | brk=>obtain⟨σ',H',I,q⟩:=h;exact⟨σ',H',Inv.unhold ok I,q⟩
 | cont=>obtain⟨σ',H',I,q⟩:=h;exact⟨σ',H',Inv.unhold ok I,q⟩
 | ret u=>obtain⟨v,σ',H',I,r,q⟩:=h;exact⟨v,σ',H',Inv.unhold ok I,r,q⟩
noncomputable def zaod(C:Addr)(sp:Sp)(t:TA)(ts:TS):TS:=λD σ H=>t σ H λvs H1=>sp vs H1 (λ_ H2=>D.nx σ H2) λc od H2=>c=.ref C/\∃dx,od=some dx/\
 ∀e H3,(∀b o,H1 b=some o->H2 b=some o->H3 b=some o)->zafe H2 H3->(∃tv,H3 e=some (.ext (xeD e C dx tv)))->ts D σ H3
theorem zaoe{C f:Addr}{k:Nat}{fd:qw}{ps:List Str}{sp:Sp}{fn cn:Str}{p cpos pos epos hpos cp:Pos}{a:Expr}{as:List Expr}{st0:Stmt}{suite:List Stmt}{t:TA}{ts:TS}
  (F:FnOk X.prog X.w X.K X.mg X.base (CXE X.prog X.w) k f fd ps sp)(hr:Room k X.A)(hg:Gl X fn)(hm:X.mg fn=some (.ref f))(hk:qX X.K (.ref f)=true)(hb:zno X.K fd ps [])(ha:PA X.nox (a::as) t)
  (hst:X.stack=X.env::X.outer)(hfr:X.env.frame=some X.env.locals)(hgc:Gl X cn)(hmc:X.mg cn=some (.ref C))(hex:PySem.W.exmOne X.K (.ref C) (.ref C)=some true)(hs:∀e,PSs (X.hold e) (st0::suite) ts)
  (hdb:(fn==("__debug__":Str))=false:=by decide)(hdc:(cn==("__debug__":Str))=false:=by decide)(he:starEach (a::as) X.env=(false,eval a X.env)::starEach as X.env:=by rfl)(hpl:(backTo cpos (starEach as X.env)).any (·.1)=false:=by rfl)
  (hsw:swapsWith (.Call (.Name fn p) (a::as) [] cpos) none epos.line X.env=pure false:=by rfl) :
  PS X (.Try [.Expr (.Call (.Name fn p) (a::as) [] cpos) epos] [.ExceptHandler (some (.Name cn cp)) none (st0::suite) hpos] [] [] pos) (zaod C sp t ts):=by
 intro pins s σ H D I h
 refine qCb ?_
 refine qBh (qCu (qAk (zkf I hg hm ?_ hdb)) I.quiet hsw)
 refine qBK (h₀:=X.base) I.ok.mod.kin hk (qBI (ha cpos pins s σ H _ (I.wish _) h) (λus s1 ⟨vs,H1,I1,r,q⟩=>⟨I1.kIn,?_⟩) λ_ _ z=>z.elim) he hpl
 have I1:Inv X pins σ H1 s1:=I1.unwish
 have hl:us.length=ps.length:=by rw[<- r.length];exact F.len _ _ _ _ q
 refine qBm (qA6 (F.run X.A X.stack s1 H1 ⟨us,[]⟩ us vs _ _ hr I1.env0 (by have:=hb s1 us I1.kIn (by rw[qv];exact hl);rw[qv]at this;exact this) r q) λres s' hq=>?_)
 cases res with
 | ok fl=>
  cases fl with
  | ret u=>
   obtain⟨v,H2,I2,rv,q2⟩:=I1.after hq
   exact qAx (qAx ⟨_,H2,I2,q2⟩)
  | next=>exact False.elim hq
  | brk=>exact False.elim hq
  | cont=>exact False.elim hq
 | error ev=>
  obtain⟨e,C',dx,H2,rfl,os,bare,un,ok,fl,stx⟩:=hq
  have I2:=I1.call' (s':=s') os un ok bare (λb z=>absurd z (by simp))
  refine zpp I2 hst hfr (λb ob z=>un.there b ob z (by simp)) fl λs3 H3 I3 ⟨T,hT1,hT2,hT3,hT4⟩ ho hkx hz3=>?_
  obtain⟨eC,dx',edx,sq⟩:=stx H3 (λb o z1 z2=>ho b o _ (I1.hok b o z1).there.choose_spec z2) hkx
  cases eC
  cases edx
  obtain⟨⟨vs',sl,oe,h1⟩,_,_⟩:=I3.hok e _ hT1
  have tb:=(I3.hok T _ hT4).1
  have J3:=I3.hold e
  refine wpAny_handleBy_cons (codeAny_handlers_test (zkf J3 hgc hmc ?_ hdc)) (by intro z;cases z)
  have LT:PySem.W.Looks (model X.prog X.w) s3.heap (typeOf (.ref e)) (.ref C):=(qCW oe).andThen .now
  refine(PySem.W.exm_one (I3.kIn) LT hex).here ?_
  show codeAny _ _ _ _ _
  refine codeAny_handlers_suite (zvr oe rfl h1 tb λh' kp tb'=>?_)
  have hup:upd H3 T (.ext λh=>h.Tb T)=H3:=by
   funext b
   by_cases hb:b=T
   ·subst hb;rw[zaw,hT4]
   ·rw[zbc hb]
  have J4:Inv (X.hold e) pins σ H3 {s3 with heap:=h'}:=by
   have:=J3.write (x:=T) (e:=T) (o:=.ext λh=>h.Tb T) (h':=h') (t':=s3.toks) (by rw[hT4];exact True.intro) (.inl rfl) (λb u hb z=>kp b u hb z) (let⟨oT,_,z,_⟩:=tb';⟨oT,z⟩) (zzz tb')
   rw[hup]at this
   exact this
  exact qBI (hs e pins _ σ H3 D J4 (sq e H3 (λ_ _ _ z=>z) (λ_ _ z _=>z) ⟨_,hT1⟩)) (λfl s6 q6=>SP.unhold I.ok q6) λ_ _ z=>z.elim
end
noncomputable def insL{α:Type}(xs:List α)(k:Nat)(y:α):List α:=xs.take k++y::xs.drop k
theorem zajp{α:Type}{xs:List α}{k:Nat}{y:α}:(insL xs k y).length=xs.length+1:=by
 unfold insL
 rw[qI,qAc,qAN,qAi]
 omega
noncomputable def zafm:V->List V->Hp->VK->Prop:=λx vs H Q=>∃l xs,∃(k:Nat),∃y,x=.ref l/\vs=[.int (k:Int),y]/\H l=some (.lst xs)/\k<=xs.length/\xs.length<qe/\k<2 ^ 62/\Q .non (upd H l (.lst (insL xs k y)))
theorem zafn{X:Cx}:MtM X "list.insert" zafm:=by
 intro pins s σ H x vs v us Q I rx rv h
 obtain⟨l,xs,k,y,rfl,rfl,hH,hk,hz,hk2,q⟩:=h
 cases rx
 obtain⟨u1,u2,rfl,r1,r2⟩:=zaii rv
 obtain⟨t,rfl⟩:=r1
 obtain⟨z,its,n,r,hl,e⟩:=I.lstM hH
 have k1:(-(2 ^ 63):Int)<=(k:Int):=Int.le_trans (by decide) (Int.natCast_nonneg k)
 have k2:(k:Int)<2 ^ 63:=Int.lt_trans (Int.ofNat_lt.mpr hk2) (by decide)
 have hsz:its.toArray.size<=qe:=by rw[qL,<- hl];exact qBn hz
 obtain⟨x,hx⟩:∃x:Int,x=(k:Int):=⟨_,rfl⟩
 rw[<- hx]at k1 k2
 have hfit:¬(!Builtin.List.listFitsIndex x)=true:=by rw[qCv k1 k2];exact qP
 have M:=PySem.AutoSeq1.list_insert_list_int_val_1 l its.toArray n x t u2 hfit hsz
 rw[show(Value.int (k:Int) t)=Value.int x t by rw[hx]]
 refine qA9 F.slot_list_insert ⟨_,e,rfl⟩ F.entry_list_insert (F.args_list_insert_3 _ _ _) M ⟨e,?_⟩
 refine⟨.non,_,I.lset (its':=insL its k u2) hH e ?_ ((r.take k).append (.cons r2 (r.drop k))) ?_,rfl,q⟩
 ·have e0:(if x<0 then(x+((its.toArray.size:Nat):Int)).toNat else min x.toNat its.toArray.size)=k:=by
   rw[if_neg (by omega),qL];omega
  show(its.toArray.extract 0 (if x<0 then(x+((its.toArray.size:Nat):Int)).toNat else min x.toNat its.toArray.size)).push u2++its.toArray.extract (if x<0 then(x+((its.toArray.size:Nat):Int)).toNat else min x.toNat its.toArray.size)=(insL its k u2).toArray
  rw[e0]
  apply Array.ext'
  unfold insL
  simp
  exact qB1 (by rw[qAi];exact qM _)
 ·show(insL xs k y).length<=qe
  rw[zajp];omega
theorem Rps.ins{H:Hp}{ds:List PyData}{vs:List V}{d:PyData}{v:V}(h:Rps H ds vs)(k:Nat)(r:Rp H d v):Rps H (insL ds k d) (insL vs k v):=(h.take k).append (zfd r (h.drop k))
theorem EnvOk.kill{fx:Addr->Prop}{H0:Hp}{env:DEnv}{σ:St}{H:Hp}(h:EnvOk fx H0 env σ H)(x:Nat)(w:Option V):EnvOk fx H0 (env.set x .no) (σ.set x w) H:=by
 have get:∀{i:Nat}{s:Sl},(env.set x .no)[i]?=some s->s≠.no->i≠x/\env[i]?=some s:=λ{i s} e ns=>by
  rcases zcc e with⟨_,z⟩|⟨ne,e⟩
  ·exact absurd z ns
  ·exact⟨ne,e⟩
 have kept:∀{i:Nat},i≠x->(σ.set x w)[i]?=σ[i]?:=λ{i} ne=>qO (qBA ne)
 have ow:∀b,own (env.set x .no) (σ.set x w) b->own env σ b:=λb ⟨i,d,h1,h2⟩=>by
  obtain⟨ne,e⟩:=get h1 (by simp)
  rw[kept ne]at h2
  exact⟨i,d,e,h2⟩
 have so:Same (Offs (λa=>fx a\/own env σ a) H) (Offs (λa=>fx a\/own (env.set x .no) (σ.set x w) a) H):=Offs.sub λb z=>z.imp id (ow b)
 refine⟨by rw[qx,qx];exact h.len,λi d e=>?_,λi d e=>?_,λi j d e a h1 h2 h3 h4=>?_,h.base,h.fxs⟩
 ·obtain⟨ne,e⟩:=get e (by simp)
  obtain⟨v,h1,h2⟩:=h.pl i d e
  exact⟨v,by rw[kept ne];exact h1,Rp.same so d h2⟩
 ·obtain⟨ne,e⟩:=get e (by simp)
  obtain⟨a,h1,h2,h3,h4⟩:=h.ac i d e
  exact⟨a,by rw[kept ne];exact h1,h2,h3,h4.same so λ_ z=>z⟩
 ·obtain⟨n1,h1⟩:=get h1 (by simp)
  obtain⟨n2,h2⟩:=get h2 (by simp)
  rw[kept n1]at h3
  rw[kept n2]at h4
  exact h.inj i j d e a h1 h2 h3 h4
theorem EnvOk.notOwn{fx:Addr->Prop}{H0:Hp}{env:DEnv}{σ:St}{H:Hp}(h:EnvOk fx H0 env σ H){b:Addr}(f:fx b):¬own env σ b:=by
 rintro⟨i,d,h1,h2⟩
 obtain⟨c,g1,_,g3,_⟩:=h.ac i d h1
 rw[h2]at g1
 cases g1
 exact g3 f
inductive SV where
 | dt (d:PyData)
 | lo (n:Nat)
inductive SN where
 | ls (xs:List SV)
 | tp (xs:List SV)
structure SyT where
 sl:List (Option SV)
 hp:List SN
open Classical in
noncomputable def OffT(A:Addr->Prop)(H:Hp):Hp:=λb=>match H b with
 | some (.tup xs)=>some (.tup xs)
 | o=>if A b then none else o
theorem OffT.tup{A:Addr->Prop}{H:Hp}{b:Addr}{xs:List V}(h:H b=some (.tup xs)):OffT A H b=some (.tup xs):=by unfold OffT;rw[h]
theorem OffT.get{A:Addr->Prop}{H:Hp}{b:Addr}(h:¬A b):OffT A H b=H b:=by
 unfold OffT
 split
 ·rename_i xs e;exact e.symm
 ·exact if_neg h
theorem OffT.of{A:Addr->Prop}{H:Hp}{b:Addr}{o:HO}(h:OffT A H b=some o):H b=some o/\(¬A b\/∃xs,o=.tup xs):=by
 unfold OffT at h
 split at h
 ·rename_i xs e;cases h;exact⟨e,.inr ⟨xs,rfl⟩⟩
 ·by_cases a:A b
  ·rw[if_pos a]at h;cases h
  ·rw[if_neg a]at h;exact⟨h,.inl a⟩
theorem OffT.mono{A B:Addr->Prop}{H H':Hp}(s:Same H H')(h:∀b o,H b=some o->¬A b->¬B b):Same (OffT A H) (OffT B H'):=λb o e=>by
 obtain⟨e1,z⟩:=OffT.of e
 rcases z with z|⟨xs,rfl⟩
 ·rw[OffT.get (h b o e1 z)];exact s b o e1
 ·exact OffT.tup (s b _ e1)
theorem OffT.grow{A:Addr->Prop}{H H':Hp}(s:Same H H'):Same (OffT A H) (OffT A H'):=OffT.mono s λ_ _ _ z=>z
theorem OffT.sub{A B:Addr->Prop}{H:Hp}(h:∀b,B b->A b):Same (OffT A H) (OffT B H):=OffT.mono (Same.refl _) λb _ _ n z=>n (h b z)
theorem OffT.offs(A:Addr->Prop)(H:Hp):Same (Offs A H) (OffT A H):=λb o e=>by
 obtain⟨n,e⟩:=Offs.of e
 rw[OffT.get n];exact e
theorem OffT.upd{A:Addr->Prop}{H:Hp}{a:Addr}{xs ys:List V}(ha:A a)(h:H a=some (.lst xs)):OffT A (upd H a (.lst ys))=OffT A H:=by
 funext b
 by_cases e:b=a
 ·subst e
  have h1:L2.upd H b (.lst ys) b=some (.lst ys):=zaw
  unfold OffT
  rw[h1,h]
  dsimp only
  rw[if_pos ha,if_pos ha]
 ·have h1:L2.upd H a (.lst ys) b=H b:=zbc e
  unfold OffT
  rw[h1]
noncomputable def SVr(Ho:Hp)(as:List Addr):SV->V->Prop
 | .dt d,v=>Rp Ho d v
 | .lo n,v=>∃a,as[n]?=some a/\v=.ref a
theorem SVr.same{Ho Ho':Hp}{as:List Addr}(s:Same Ho Ho'):∀{x:SV}{v:V},SVr Ho as x v->SVr Ho' as x v
 | .dt d,_,h=>Rp.same s d h
 | .lo _,_,h=>h
theorem SVr.ext{Ho:Hp}{as bs:List Addr}:∀{x:SV}{v:V},SVr Ho as x v->SVr Ho (as++bs) x v
 | .dt _,_,h=>h
 | .lo n,_,⟨a,h1,h2⟩=>⟨a,by rw[qf (qJ.mp h1).1];exact h1,h2⟩
noncomputable def SNr(Ho H:Hp)(as:List Addr):SN->Addr->Prop
 | .ls xs,a=>∃vs,H a=some (.lst vs)/\Paired (SVr Ho as) xs vs
 | .tp xs,a=>∃vs,H a=some (.tup vs)/\Paired (SVr Ho as) xs vs
theorem SNr.mono{Ho Ho' H H':Hp}{as bs:List Addr}{s:SN}{a:Addr}(h:SNr Ho H as s a)(e:∀o,H a=some o->H' a=some o)(f:∀x v,SVr Ho as x v->SVr Ho' bs x v):SNr Ho' H' bs s a:=by
 cases s with
 | ls xs=>obtain⟨vs,h1,h2⟩:=h;exact⟨vs,e _ h1,Paired.mapP h2 f⟩
 | tp xs=>obtain⟨vs,h1,h2⟩:=h;exact⟨vs,e _ h1,Paired.mapP h2 f⟩
structure SymOk(fx:Addr->Prop)(as:List Addr)(H0:Hp)(env:DEnv)(σ:St)(H:Hp)(st:SyT):Prop where
 ok:EnvOk fx H0 env σ H
 nd:as.Nodup
 len:as.length=st.hp.length
 off:∀a∈as,fx a
 low:∀a∈as,H0 a=none
 nod:∀(n:Nat)(s:SN)(a:Addr),st.hp[n]?=some s->as[n]?=some a->SNr (OffT (λb=>fx b\/own env σ b) H) H as s a
 sl:∀(i:Nat)(x:SV),st.sl[i]?=some (some x)->env[i]?=some .no/\∃v,σ[i]?=some (some v)/\SVr (OffT (λb=>fx b\/own env σ b) H) as x v
noncomputable def HasF(H0:Hp)(env:DEnv)(σ:St)(H:Hp)(st:SyT):Prop:=∃fx as,SymOk fx as H0 env σ H st
section
variable{fx:Addr->Prop}{as:List Addr}{H0:Hp}{env:DEnv}{σ:St}{H H':Hp}{st:SyT}
theorem SymOk.up(h:SymOk fx as H0 env σ H st)(s:Same H H'):SymOk fx as H0 env σ H' st:=
 ⟨h.ok.up s,h.nd,h.len,h.off,h.low,λn x a e1 e2=>(h.nod n x a e1 e2).mono (λo z=>s a o z) λ_ _ z=>z.same (OffT.grow s),λi x e=>let⟨h1,v,h2,h3⟩:=h.sl i x e;⟨h1,v,h2,h3.same (OffT.grow s)⟩⟩
theorem HasF.up(h:HasF H0 env σ H st)(s:Same H H'):HasF H0 env σ H' st:=let⟨fx,as,k⟩:=h;⟨fx,as,k.up s⟩
theorem HasF.start(h:EnvOk fx H0 env σ H):HasF H0 env σ H ⟨[],[]⟩:=
 ⟨fx,[],h,.nil,rfl,λ_ z=>by(cases z),λ_ z=>by(cases z),λn s a e=>by(cases e),λi x e=>by(cases e)⟩
noncomputable def mapO{α β:Type}(f:α->Option β):List α->Option (List β)
 | []=>some []
 | x::xs=>(f x).bind λy=>(mapO f xs).map λys=>y::ys
noncomputable def rdV(hp:List SN):Nat->SV->Option PyData
 | _,.dt d=>some d
 | 0,.lo _=>none
 | k+1,.lo n=>match hp[n]? with
  | some (.ls xs)=>(mapO (rdV hp k) xs).map .list
  | some (.tp xs)=>(mapO (rdV hp k) xs).map .tuple
  | none=>none
theorem zto{f:SV->Option PyData}{F:SV->V->Prop}{G:Hp}(hf:∀x v d,F x v->f x=some d->Rp G d v):∀{xs:List SV}{vs:List V}{ds:List PyData},Paired F xs vs->mapO f xs=some ds->Rps G ds vs
 | _,_,ds,.nil,e=>by cases e;exact zet
 | _,_,ds,.cons r t,e=>by
  obtain⟨d,e1,e⟩:=qA.mp e
  obtain⟨ds',e2,rfl⟩:=qH.mp e
  exact zfd (hf _ _ _ r e1) (zto hf t e2)
theorem SymOk.offO(h:SymOk fx as H0 env σ H st):Same (OffT (λb=>fx b\/own env σ b) H) (Offs (own env σ) H):=λb o e=>by
 obtain⟨e1,z⟩:=OffT.of e
 rw[Offs.get]
 ·exact e1
 ·rintro⟨i,d,g1,g2⟩
  rcases z with z|⟨xs,rfl⟩
  ·exact z (.inr ⟨i,d,g1,g2⟩)
  ·obtain⟨a,k1,k2,k3,k4⟩:=h.ok.ac i d g1
   rw[g2]at k1
   cases k1
   cases d with
   | list ds=>obtain⟨ys,k5,_⟩:=k4;rw[e1]at k5;cases k5
   | dict ds=>obtain⟨ys,k5,_⟩:=k4;rw[e1]at k5;cases k5
   | _=>exact k4
theorem SymOk.rd(h:SymOk fx as H0 env σ H st):∀(k:Nat)(x:SV)(v:V)(d:PyData),SVr (OffT (λb=>fx b\/own env σ b) H) as x v->rdV st.hp k x=some d->Rp (Offs (own env σ) H) d v
 | k,.dt d,v,d',r,e=>by
  have e:some d=some d':=by cases k<;>exact e
  cases e
  exact Rp.same h.offO d r
 | 0,.lo n,v,d,r,e=>by cases e
 | k+1,.lo n,v,d,⟨a,h1,h2⟩,e=>by
  subst h2
  have no:¬own env σ a:=h.ok.notOwn (h.off a (qp h1))
  have ih:=h.rd k
  unfold rdV at e
  split at e
  ·rename_i xs en
   obtain⟨ds,e1,rfl⟩:=qH.mp e
   obtain⟨vs,g1,g2⟩:=h.nod n _ a en h1
   exact zja (by rw[Offs.get no];exact g1) (zto ih g2 e1)
  ·rename_i xs en
   obtain⟨ds,e1,rfl⟩:=qH.mp e
   obtain⟨vs,g1,g2⟩:=h.nod n _ a en h1
   exact zpb (by rw[Offs.get no];exact g1) (zto ih g2 e1)
  ·cases e
noncomputable def shS(hp:List SN)(s:Sl):Option SV->Sl
 | some x=>match rdV hp 9 x with
  | some d=>.pl d
  | none=>.no
 | none=>s
noncomputable def zfx(hp:List SN):DEnv->List (Option SV)->DEnv
 | [],_=>[]
 | s::env,[]=>s::env
 | s::env,o::sl=>shS hp s o::zfx hp env sl
theorem zvt{hp:List SN}:∀(env:DEnv)(sl:List (Option SV)),(zfx hp env sl).length=env.length
 | [],_=>rfl
 | s::env,[]=>rfl
 | s::env,o::sl=>by show(zfx hp env sl).length+1=_;rw[zvt env sl];rfl
theorem zmx{hp:List SN}:∀{env:DEnv}{sl:List (Option SV)}{i:Nat}{t:Sl},(zfx hp env sl)[i]?=some t->(∃x d,sl[i]?=some (some x)/\rdV hp 9 x=some d/\t=.pl d)\/env[i]?=some t\/t=.no
 | [],_,i,t,e=>by cases e
 | s::env,[],i,t,e=>.inr (.inl e)
 | s::env,o::sl,0,t,e=>by
  cases o with
  | none=>exact .inr (.inl e)
  | some x=>
   have e:shS hp s (some x)=t:=qy e
   unfold shS at e
   dsimp only at e
   split at e
   ·rename_i d ed;exact .inl ⟨x,d,rfl,ed,e.symm⟩
   ·exact .inr (.inr e.symm)
 | s::env,o::sl,i+1,t,e=>zmx (env:=env) (sl:=sl) (i:=i) e
theorem SymOk.view(h:SymOk fx as H0 env σ H st):EnvOk (λ_=>False) H0 (zfx st.hp env st.sl) σ H:=by
 have ow:∀a,own (zfx st.hp env st.sl) σ a->own env σ a:=λa ⟨i,d,e1,e2⟩=>by
  rcases zmx e1 with⟨x,d',_,_,z⟩|z|z
  ·cases z
  ·exact⟨i,d,z,e2⟩
  ·cases z
 have s1:Same (Offs (λb=>fx b\/own env σ b) H) (Offs (λb=>False\/own (zfx st.hp env st.sl) σ b) H):=Offs.sub λb z=>z.elim False.elim λy=>.inr (ow b y)
 have s2:Same (Offs (own env σ) H) (Offs (λb=>False\/own (zfx st.hp env st.sl) σ b) H):=Offs.sub λb z=>z.elim False.elim λy=>ow b y
 have ac:∀(i:Nat)(d:PyData),(zfx st.hp env st.sl)[i]?=some (.ac d)->env[i]?=some (.ac d):=λi d e=>by
  rcases zmx e with⟨x,d',_,_,z⟩|z|z
  ·cases z
  ·exact z
  ·cases z
 refine⟨by rw[zvt];exact h.ok.len,λi d e=>?_,λi d e=>?_,λi j d e a h1 h2=>h.ok.inj i j d e a (ac i d h1) (ac j e h2),h.ok.base,λb z=>z.elim⟩
 ·rcases zmx e with⟨x,d',e1,e2,z⟩|z|z
  ·cases z
   obtain⟨_,v,g1,g2⟩:=h.sl i x e1
   exact⟨v,g1,Rp.same s2 _ (h.rd 9 x v _ g2 e2)⟩
  ·obtain⟨v,g1,g2⟩:=h.ok.pl i d z
   exact⟨v,g1,Rp.same s1 _ g2⟩
  ·cases z
 ·obtain⟨a,g1,g2,g3,g4⟩:=h.ok.ac i d (ac i d e)
  exact⟨a,g1,g2,λz=>z,g4.same s1 λo z=>z⟩
end
noncomputable abbrev TFs:=DEnv->SyT->Option Bool
noncomputable def STs(tt:TT)(g:TFs):Prop:=∀(H0:Hp)(env:DEnv)(σ:St)(H:Hp)(st:SyT),HasF H0 env σ H st->∀b,g env st=some b->∀Q:Bool->Hp->Prop,(∀H',Same H H'->Q b H')->tt σ H Q
noncomputable def yT(c:TF):TFs:=λenv st=>c (zfx st.hp env st.sl)
theorem zvu{tt:TT}{c:TF}(h:ST tt c):STs tt (yT c):=λH0 env σ H st ⟨fx,as,k⟩ b e Q q=>h _ H0 _ σ H k.view b e Q q
noncomputable abbrev EFs:=DEnv->SyT->Option PyData
noncomputable def SEs(te:TE)(g:EFs):Prop:=∀(H0:Hp)(env:DEnv)(σ:St)(H:Hp)(st:SyT),HasF H0 env σ H st->∀d,g env st=some d->∀Q:VK,(∀v H',Same H H'->Rp H' d v->Q v H')->te σ H Q
noncomputable def yE(g:EF):EFs:=λenv st=>(g (zfx st.hp env st.sl)).map λr=>r.d
theorem zin{te:TE}{g:EF}(h:SE te g):SEs te (yE g):=λH0 env σ H st ⟨fx,as,k⟩ d e Q q=>by
 obtain⟨r,er,rfl⟩:=qH.mp e
 exact h _ H0 _ σ H k.view r er Q λv H' s hv=>q v H' s (Rp.same (Offs.same _ _) _ hv.rp)
inductive OutS where
 | nx (env:DEnv) (st:SyT)
 | bk (env:DEnv) (st:SyT)
 | ct (env:DEnv) (st:SyT)
 | rt (d:PyData)
noncomputable abbrev SFs:=DEnv->SyT->Option OutS
noncomputable def SatS(H0:Hp)(D:Ends):OutS->Prop
 | .nx env st=>∀σ H,HasF H0 env σ H st->D.nx σ H
 | .bk env st=>∀σ H,HasF H0 env σ H st->D.bk σ H
 | .ct env st=>∀σ H,HasF H0 env σ H st->D.ct σ H
 | .rt d=>∀v H,Same H0 H->zex d=true->Rp H d v->D.rt v H
noncomputable def SSs(ts:TS)(F:SFs):Prop:=∀(H0:Hp)(env:DEnv)(σ:St)(H:Hp)(st:SyT)(D:Ends),HasF H0 env σ H st->∀o,F env st=some o->SatS H0 D o->ts D σ H
noncomputable def yNil:SFs:=λenv st=>some (.nx env st)
theorem zps:SSs tNext yNil:=λH0 env σ H st D h o e q=>by cases e;exact q σ H h
noncomputable def ySeq(a b:SFs):SFs:=λenv st=>(a env st).bind λo=>match o with
 | .nx e s=>b e s
 | o=>some o
theorem zch{t u:TS}{a b:SFs}(h1:SSs t a)(h2:SSs u b):SSs (tSeq t u) (ySeq a b):=by
 intro H0 env σ H st D hh o e q
 unfold ySeq at e
 obtain⟨o1,e1,e⟩:=qA.mp e
 refine h1 H0 env σ H st _ hh o1 e1 ?_
 cases o1 with
 | nx e2 s2=>exact λσ' H' h'=>h2 H0 e2 σ' H' s2 D h' o e q
 | bk e2 s2=>cases e;exact q
 | ct e2 s2=>cases e;exact q
 | rt d=>cases e;exact q
noncomputable def yIf(c:TFs)(a b:SFs):SFs:=λenv st=>(c env st).bind λx=>if x=true then a env st else b env st
theorem zvv{tc:TT}{t u:TS}{c:TFs}{a b:SFs}(hc:STs tc c)(h1:SSs t a)(h2:SSs u b):SSs (tIfS tc t u) (yIf c a b):=by
 intro H0 env σ H st D hh o e q
 unfold yIf at e
 obtain⟨b',eb,e⟩:=qA.mp e
 refine hc H0 env σ H st hh b' eb _ λH' s=>?_
 cases b' with
 | true=>exact iteT (h1 H0 env σ H' st D (hh.up s) o e q)
 | false=>exact iteF (h2 H0 env σ H' st D (hh.up s) o e q)
noncomputable def yRet(g:EFs):SFs:=λenv st=>(g env st).bind λd=>if zex d=true then some (.rt d)else none
theorem zpt{te:TE}{g:EFs}(h:SEs te g):SSs (tRet te) (yRet g):=by
 intro H0 env σ H st D hh o e q
 unfold yRet at e
 obtain⟨d,ed,e⟩:=qA.mp e
 split at e
 ·rename_i hf
  cases e
  exact h H0 env σ H st hh d ed _ λv H' s r=>q v H' (let⟨fx,as,k⟩:=hh;k.ok.base.trans s) hf r
 ·cases e
noncomputable def slIn(f:List Nat)(sl:List (Option SV)):Bool:=(List.range sl.length).all λi=>match sl[i]? with
 | some (some _)=>f.contains i
 | _=>true
theorem zaof{f:List Nat}{sl:List (Option SV)}(h:slIn f sl=true){i:Nat}{x:SV}(e:sl[i]?=some (some x)):i∈f:=by
 have hi:i<sl.length:=(qJ.mp e).1
 have:=qs.mp h i (qAb.mpr hi)
 rw[e]at this
 exact List.contains_iff_mem.mp this
noncomputable def noAt(env:DEnv)(sl:List (Option SV)):Bool:=(List.range sl.length).all λi=>match sl[i]? with
 | some (some _)=>(match env[i]? with
  | some .no=>true
  | _=>false)
 | _=>true
theorem zaog{env:DEnv}{sl:List (Option SV)}(h:noAt env sl=true){i:Nat}{x:SV}(e:sl[i]?=some (some x)):env[i]?=some .no:=by
 have hi:i<sl.length:=(qJ.mp e).1
 have:=qs.mp h i (qAb.mpr hi)
 rw[e]at this
 dsimp only at this
 split at this
 ·assumption
 ·cases this
noncomputable def yS(f:List Nat)(F:SF):SFs:=λenv st=>if slIn f st.sl=true then(F env).bind λo=>match o with
 | .nx e=>if noAt e st.sl=true then some (.nx e st)else none
 | .bk e=>if noAt e st.sl=true then some (.bk e st)else none
 | .ct e=>if noAt e st.sl=true then some (.ct e st)else none
 | .rt d fr=>if zex d=true then some (.rt d)else none
 else none
theorem zjh{f:List Nat}{ts:TS}{F:SF}(h:SSk (λj=>j∈f) ts F):SSs ts (yS f F):=by
 rintro H0 env σ H st D ⟨fx,as,k⟩ o e q
 unfold yS at e
 split at e
 ·rename_i hin
  obtain⟨o1,e1,e⟩:=qA.mp e
  have fl:=k.ok.floor
  have st':∀{env':DEnv}{σ':St}{H':Hp},EnvOk fx (Offs (own env σ) H) env' σ' H'->(∀j,j∈f->σ'[j]?=σ[j]?)->noAt env' st.sl=true->HasF H0 env' σ' H' st:=λ{env' σ' H'} h' kp hn=>by
   have sn:Same (OffT (λb=>fx b\/own env σ b) H) (OffT (λb=>fx b\/own env' σ' b) H'):=λb o e=>by
    obtain⟨e1,z⟩:=OffT.of e
    rcases z with z|⟨xs,rfl⟩
    ·exact OffT.offs _ _ b o (h'.seen b o (by rw[Offs.get z];exact e1))
    ·have nb:¬own env σ b:=λ⟨i,d,g1,g2⟩=>by
      obtain⟨a,k1,k2,k3,k4⟩:=k.ok.ac i d g1
      rw[g2]at k1
      cases k1
      cases d with
      | list ds=>obtain⟨ys,k5,_⟩:=k4;rw[e1]at k5;cases k5
      | dict ds=>obtain⟨ys,k5,_⟩:=k4;rw[e1]at k5;cases k5
      | _=>exact k4
     exact OffT.tup (h'.base b _ (by rw[Offs.get nb];exact e1))
   exact⟨fx,as,h'.unbase fl,k.nd,k.len,k.off,k.low,λn s a e1 e2=>(k.nod n s a e1 e2).mono (λo z=>h'.base a o (by rw[Offs.get (k.ok.notOwn (k.off a (qp e2)))];exact z)) λ_ _ z=>z.same sn,
    λi x e=>let⟨_,v,h2,h3⟩:=k.sl i x e;⟨zaog hn e,v,(kp i (zaof hin e)).trans h2,h3.same sn⟩⟩
  refine h fx _ env σ H _ k.ok.rebase o1 e1 ?_
  cases o1 with
  | nx e2=>
   dsimp only at e
   split at e
   ·rename_i hn;cases e;exact λσ' H' h' kp=>q σ' H' (st' h' kp hn)
   ·cases e
  | bk e2=>
   dsimp only at e
   split at e
   ·rename_i hn;cases e;exact λσ' H' h' kp=>q σ' H' (st' h' kp hn)
   ·cases e
  | ct e2=>
   dsimp only at e
   split at e
   ·rename_i hn;cases e;exact λσ' H' h' kp=>q σ' H' (st' h' kp hn)
   ·cases e
  | rt d fr=>
   dsimp only at e
   split at e
   ·rename_i hf;cases e;exact λw H' s' rt=>q w H' (fl.trans s') hf (zkj hf rt.1)
   ·cases e
 ·cases e
theorem zaoh{env:DEnv}{σ:St}{i:Nat}{s:Sl}{w:Option V}(hs:∀d,s≠.ac d):∀a,own (env.set i s) (σ.set i w) a->own env σ a:=by
 rintro a ⟨j,d,e1,e2⟩
 rcases zcc e1 with⟨rfl,z⟩|⟨n,z⟩
 ·exact absurd z.symm (hs d)
 ·exact⟨j,d,z,by rw[qO λy=>n y.symm]at e2;exact e2⟩
section
variable{α β:Type}{F:α->β->Prop}
theorem zrt:∀{xs:List α}{vs:List β},Paired F xs vs->∀{j:Nat}{x:α},xs[j]?=some x->∃v,vs[j]?=some v/\F x v
 | _,_,.nil,j,x,e=>by cases e
 | _,_,.cons r t,0,x,e=>by cases e;exact⟨_,rfl,r⟩
 | _,_,.cons r t,j+1,x,e=>zrt t (j:=j) e
theorem znt:∀{xs:List α}{vs:List β}{ys:List α}{ws:List β},Paired F xs vs->Paired F ys ws->Paired F (xs++ys) (vs++ws)
 | _,_,_,_,.nil,h=>h
 | _,_,_,_,.cons r t,h=>.cons r (znt t h)
theorem zabw:∀{xs:List α}{vs:List β},Paired F xs vs->Paired F xs.reverse vs.reverse
 | _,_,.nil=>.nil
 | _,_,.cons r t=>by rw[List.reverse_cons,List.reverse_cons];exact znt (zabw t) (.cons r .nil)
theorem zof:∀{xs:List α}{vs:List β},Paired F xs vs->∀(j:Nat),Paired F (xs.eraseIdx j) (vs.eraseIdx j)
 | _,_,.nil,_=>.nil
 | _,_,.cons r t,0=>t
 | _,_,.cons r t,j+1=>.cons r (zof t j)
theorem zpu:∀{xs:List α}{vs:List β},Paired F xs vs->Paired F xs.dropLast vs.dropLast
 | _,_,.nil=>.nil
 | _,_,.cons r .nil=>.nil
 | _,_,.cons r (.cons r2 t)=>.cons r (zpu (.cons r2 t))
theorem zlk:∀{xs:List α}{vs:List β},Paired F xs vs->xs.length=vs.length
 | _,_,.nil=>rfl
 | _,_,.cons r t=>congrArg (·+1) (zlk t)
theorem zvw{xs:List α}{vs:List β}(h:Paired F xs vs){i:Int}{x:α}(e:atI xs i=some x):∃v,atI vs i=some v/\F x v:=by
 unfold atI at e ⊢
 rw[<- zlk h]
 cases g:ixN xs.length i with
 | none=>rw[g]at e;cases e
 | some j=>rw[g]at e;exact zrt h e
end
theorem zalm{α:Type}:∀{l:List α},l.Nodup->∀{i j:Nat}{a:α},l[i]?=some a->l[j]?=some a->i=j
 | [],_,i,j,a,e,_=>by cases e
 | x::l,h,0,0,a,_,_=>rfl
 | x::l,h,0,j+1,a,e1,e2=>by
  cases e1
  exact absurd (qp (l:=l) e2) (qt.mp h).1
 | x::l,h,i+1,0,a,e1,e2=>by
  cases e2
  exact absurd (qp (l:=l) e1) (qt.mp h).1
 | x::l,h,i+1,j+1,a,e1,e2=>congrArg (·+1) (zalm (qt.mp h).2 e1 e2)
noncomputable abbrev YF:=DEnv->SyT->Option SV
noncomputable def SYe(te:TE)(g:YF):Prop:=∀(fx:Addr->Prop)(as:List Addr)(H0:Hp)(env:DEnv)(σ:St)(H:Hp)(st:SyT),SymOk fx as H0 env σ H st->∀x,g env st=some x->∀Q:VK,
 (∀v H',Same H H'->SVr (OffT (λb=>fx b\/own env σ b) H') as x v->Q v H')->te σ H Q
noncomputable def yVar(i:Nat):YF:=λ_ st=>match st.sl[i]? with
 | some (some x)=>some x
 | _=>none
theorem zpv(i:Nat):SYe (tVar i) (yVar i):=by
 intro fx as H0 env σ H st h x e Q q
 unfold yVar at e
 split at e
 ·rename_i y ey
  cases e
  obtain⟨_,v,h1,h2⟩:=h.sl i _ ey
  exact⟨v,h1,q v H (Same.refl _) h2⟩
 ·cases e
noncomputable def yFl(g:EFs):YF:=λenv st=>(g env st).bind λd=>if zex d=true then some (.dt d)else none
theorem zaln{te:TE}{g:EFs}(h:SEs te g):SYe te (yFl g):=by
 intro fx as H0 env σ H st hh x e Q q
 unfold yFl at e
 obtain⟨d,ed,e⟩:=qA.mp e
 split at e
 ·rename_i hf;cases e
  exact h H0 env σ H st ⟨fx,as,hh⟩ d ed Q λv H' s r=>q v H' s (zkj hf r)
 ·cases e
noncomputable def inSN(hp:List SN):SV->Option (List SV)
 | .lo n=>match hp[n]? with
  | some (.ls xs)=>some xs
  | some (.tp xs)=>some xs
  | none=>none
 | .dt _=>none
noncomputable def yIx(g:YF)(t:EFs):YF:=λenv st=>(g env st).bind λx=>(inSN st.hp x).bind λxs=>(t env st).bind λd=>match d with
 | .int i=>atI xs i
 | _=>none
theorem zpw{K:qB}{ta tb:TE}{g:YF}{t:EFs}(ha:SYe ta g)(hb:SEs tb t):SYe (tOp (rIxU K) ta tb) (yIx g t):=by
 intro fx as H0 env σ H st hh x e Q q
 unfold yIx at e
 obtain⟨y,ey,e1⟩:=qA.mp e
 obtain⟨xs,ex,e2⟩:=qA.mp e1
 obtain⟨d,ed,e3⟩:=qA.mp e2
 clear e e1 e2
 refine ha fx as H0 env σ H st hh y ey _ λv H1 s1 r1=>hb H0 env σ H1 st ⟨fx,as,hh.up s1⟩ d ed _ λw H2 s2 r2=>?_
 cases d with
 | int i=>
  cases zcw r2
  cases y with
  | dt _=>cases ex
  | lo n=>
   obtain⟨a,g1,rfl⟩:=r1
   have hu:=hh.up (s1.trans s2)
   unfold inSN at ex
   dsimp only at ex
   split at ex
   ·rename_i ys en
    cases ex
    obtain⟨vs,k1,k2⟩:=hu.nod n _ a en g1
    obtain⟨u,k3,k4⟩:=zvw k2 e3
    exact⟨vs,u,.inl (SqL.of k1),k3,q u H2 (s1.trans s2) k4⟩
   ·rename_i ys en
    cases ex
    obtain⟨vs,k1,k2⟩:=hu.nod n _ a en g1
    obtain⟨u,k3,k4⟩:=zvw k2 e3
    exact⟨vs,u,.inr (SqT.of k1),k3,q u H2 (s1.trans s2) k4⟩
   ·cases ex
 | _=>cases e3
section
variable{fx:Addr->Prop}{as:List Addr}{H0:Hp}{env:DEnv}{σ:St}{H H':Hp}{st:SyT}
theorem SymOk.write (h:SymOk fx as H0 env σ H st) {n:Nat} {a:Addr} (ha:as[n]?=some a) {ys:List SV} (hn:st.hp[n]?=some (.ls ys)) {xs:List SV} {vs:List V} (hp:Paired (SVr (OffT (λb=>fx b\/own env σ b) H) as) xs vs) :
  SymOk fx as H0 env σ (upd H a (.lst vs)) ⟨st.sl,st.hp.set n (.ls xs)⟩:=by
 have fa:fx a:=h.off a (qp ha)
 have hO:Offs (λb=>fx b\/own env σ b) (upd H a (.lst vs))=Offs (λb=>fx b\/own env σ b) H:=Offs.upd (.inl fa)
 obtain⟨us,hus,_⟩:=h.nod n _ a hn ha
 have hT:OffT (λb=>fx b\/own env σ b) (upd H a (.lst vs))=OffT (λb=>fx b\/own env σ b) H:=OffT.upd (.inl fa) hus
 refine⟨⟨h.ok.len,λi d e=>?_,λi d e=>?_,h.ok.inj,λb o e=>?_,λb z=>?_⟩,h.nd,by rw[qx];exact h.len,h.off,h.low,λm s b e1 e2=>?_,λi x e=>?_⟩
 ·rw[hO];exact h.ok.pl i d e
 ·obtain⟨c,h1,h2,h3,h4⟩:=h.ok.ac i d e
  refine⟨c,h1,h2,h3,?_⟩
  rw[hO]
  exact h4.same (Same.refl _) λo z=>by rw[zbc λy=>h3 (by rw[y];exact fa)];exact z
 ·rw[zbc λy=>by rw[y,h.low a (qp ha)]at e;cases e];exact h.ok.base b o e
 ·by_cases y:b=a
  ·exact⟨_,by rw[y];exact zaw⟩
  ·obtain⟨o,e⟩:=h.ok.fxs b z
   exact⟨o,by rw[zbc y];exact e⟩
 ·rw[hT]
  rcases zcc e1 with⟨rfl,z⟩|⟨ne,z⟩
  ·rw[ha]at e2
   cases e2
   subst z
   exact⟨vs,zaw,hp⟩
  ·refine(h.nod m s b z e2).mono (λo y=>?_) λ_ _ y=>y
   rw[zbc λy=>?_];exact y
   exact ne (zalm h.nd e2 (by rw[ha,y]))
 ·rw[hT];exact h.sl i x e
end
noncomputable def lsAt(hp:List SN):SV->Option (Nat×List SV)
 | .lo n=>match hp[n]? with
  | some (.ls xs)=>some (n,xs)
  | _=>none
 | .dt _=>none
theorem zyt{hp:List SN}{x:SV}{n:Nat}{xs:List SV}(h:lsAt hp x=some (n,xs)):x=.lo n/\hp[n]?=some (.ls xs):=by
 cases x with
 | dt _=>cases h
 | lo m=>
  unfold lsAt at h
  dsimp only at h
  split at h
  ·rename_i ys e;cases h;exact⟨rfl,e⟩
  ·cases h
noncomputable def yApp(g h:YF):SFs:=λenv st=>(g env st).bind λx=>(lsAt st.hp x).bind λp=>if p.2.length<100000 then(h env st).bind λy=>some (.nx env ⟨st.sl,st.hp.set p.1 (.ls (p.2++[y]))⟩)else none
theorem zafo{K:qB}{ta tb:TE}{g h:YF}(h1:SYe ta g)(h2:SYe tb h):SSs (tDrop (tBM K "list" zsu ta (tCons tb tNil))) (yApp g h):=by
 rintro H0 env σ H st D ⟨fx,as,k⟩ o e q
 unfold yApp at e
 obtain⟨x,ex,e⟩:=qA.mp e
 obtain⟨⟨n,xs⟩,ep,e⟩:=qA.mp e
 dsimp only at e
 split at e
 ·rename_i hl
  obtain⟨y,ey,e⟩:=qA.mp e
  cases e
  obtain⟨rfl,en⟩:=zyt ep
  refine h1 fx as H0 env σ H st k _ ex _ λv H1 s1 r1=>?_
  obtain⟨a,ga,rfl⟩:=r1
  obtain⟨vs,k1,k2⟩:=(k.up s1).nod n _ a en ga
  refine⟨.inl ⟨rfl,vs,SqL.of k1⟩,h2 fx as H0 env σ H1 st (k.up s1) y ey _ λw H2 s2 r2=>?_⟩
  have ku:=(k.up s1).up s2
  obtain⟨us,k3,k4⟩:=ku.nod n _ a en ga
  exact⟨a,us,w,rfl,rfl,k3,znq (by rw[<- zlk k4];exact hl),q σ _ ⟨fx,as,ku.write ga en (znt k4 (.cons r2 .nil))⟩⟩
 ·cases e
noncomputable def yPop(g:YF):SFs:=λenv st=>(g env st).bind λx=>(lsAt st.hp x).bind λp=>if p.2.isEmpty=true then none else some (.nx env ⟨st.sl,st.hp.set p.1 (.ls p.2.dropLast)⟩)
theorem zafp{K:qB}{ta:TE}{g:YF}(h1:SYe ta g):SSs (tDrop (tBM0 K "list" rPop ta)) (yPop g):=by
 rintro H0 env σ H st D ⟨fx,as,k⟩ o e q
 unfold yPop at e
 obtain⟨x,ex,e⟩:=qA.mp e
 obtain⟨⟨n,xs⟩,ep,e⟩:=qA.mp e
 dsimp only at e
 split at e
 ·cases e
 ·rename_i hl
  cases e
  obtain⟨rfl,en⟩:=zyt ep
  refine h1 fx as H0 env σ H st k _ ex _ λv H1 s1 r1=>?_
  obtain⟨a,ga,rfl⟩:=r1
  obtain⟨vs,k1,k2⟩:=(k.up s1).nod n _ a en ga
  have hz:vs.length - 1<vs.length:=by
   have:=zlk k2
   have:xs.length≠0:=λz=>hl (by rw[qBN.mp z];rfl)
   omega
  exact⟨.inl ⟨rfl,vs,SqL.of k1⟩,a,vs,_,rfl,rfl,k1,qF hz,q σ _ ⟨fx,as,(k.up s1).write ga en (zpu k2)⟩⟩
noncomputable def yClr(g:YF):SFs:=λenv st=>(g env st).bind λx=>(lsAt st.hp x).bind λp=>some (.nx env ⟨st.sl,st.hp.set p.1 (.ls [])⟩)
theorem zaoi{K:qB}{ta:TE}{g:YF}(h1:SYe ta g):SSs (tDrop (tBM0 K "list" zadr ta)) (yClr g):=by
 rintro H0 env σ H st D ⟨fx,as,k⟩ o e q
 unfold yClr at e
 obtain⟨x,ex,e⟩:=qA.mp e
 obtain⟨⟨n,xs⟩,ep,e⟩:=qA.mp e
 cases e
 obtain⟨rfl,en⟩:=zyt ep
 refine h1 fx as H0 env σ H st k _ ex _ λv H1 s1 r1=>?_
 obtain⟨a,ga,rfl⟩:=r1
 obtain⟨vs,k1,k2⟩:=(k.up s1).nod n _ a en ga
 exact⟨.inl ⟨rfl,vs,SqL.of k1⟩,a,vs,rfl,rfl,k1,q σ _ ⟨fx,as,(k.up s1).write ga en .nil⟩⟩
section
variable{fx:Addr->Prop}{as:List Addr}{H0:Hp}{env:DEnv}{σ:St}{H H':Hp}{st:SyT}
theorem SymOk.setSy(h:SymOk fx as H0 env σ H st){x:SV}{v:V}(r:SVr (OffT (λb=>fx b\/own env σ b) H) as x v){i:Nat}(hi:i<env.length):SymOk fx as H0 (env.set i .no) (σ.set i (some v)) H ⟨(st.sl++List.replicate (env.length - st.sl.length) none).set i (some x),st.hp⟩:=by
 have so:Same (OffT (λb=>fx b\/own env σ b) H) (OffT (λb=>fx b\/own (env.set i .no) (σ.set i (some v)) b) H):=OffT.sub λb z=>z.imp (λy=>y) (zaoh (λ_ z=>by cases z) b)
 refine⟨h.ok.kill i (some v),h.nd,h.len,h.off,h.low,λn s a e1 e2=>(h.nod n s a e1 e2).mono (λ_ z=>z) λ_ _ z=>z.same so,λj y e=>?_⟩
 rcases zcc e with⟨rfl,z⟩|⟨ne,z⟩
 ·cases z
  exact⟨by rw[qAA hi],v,by rw[qAA (by rw[<- h.ok.len];exact hi)],r.same so⟩
 ·have z:st.sl[j]?=some (some y):=by
   by_cases lt:j<st.sl.length
   ·rw[qf lt]at z;exact z
   ·rw[qN (by omega),qA3]at z
    split at z<;>cases z
  obtain⟨h1,w,h2,h3⟩:=h.sl j y z
  exact⟨by rw[qO λy=>ne y.symm];exact h1,w,by rw[qO λy=>ne y.symm];exact h2,h3.same so⟩
end
noncomputable def zaoj(st:SyT)(n i:Nat)(x:SV):SyT:=⟨(st.sl++List.replicate (n - st.sl.length) none).set i (some x),st.hp⟩
inductive NT where
 | lf (d:PyData)
 | ls (ts:List NT)
 | tp (ts:List NT)
mutual
def NewT(L:PyData->V->Prop)(H:Hp):NT->V->List Addr->Prop
 | .lf d,v,as=>as=[]/\L d v
 | .ls ts,v,as=>∃a vs as1,v=.ref a/\H a=some (.lst vs)/\as=a::as1/\NewTs L H ts vs as1
 | .tp ts,v,as=>∃a vs as1,v=.ref a/\H a=some (.tup vs)/\as=a::as1/\NewTs L H ts vs as1
def NewTs(L:PyData->V->Prop)(H:Hp):List NT->List V->List Addr->Prop
 | [],vs,as=>vs=[]/\as=[]
 | t::ts,vs,as=>∃v vs' a1 a2,vs=v::vs'/\as=a1++a2/\NewT L H t v a1/\NewTs L H ts vs' a2
end
mutual
theorem NewT.mono{L L':PyData->V->Prop}{H H':Hp}(hL:∀d v,L d v->L' d v):∀(t:NT){v:V}{as:List Addr},NewT L H t v as->(∀a∈as,∀o,H a=some o->H' a=some o)->NewT L' H' t v as
 | .lf d,v,as,h,_=>by
  unfold NewT at h ⊢
  exact⟨h.1,hL _ _ h.2⟩
 | .ls ts,v,as,h,k=>by
  unfold NewT at h ⊢
  obtain⟨a,vs,as1,h1,h2,h3,h4⟩:=h
  exact⟨a,vs,as1,h1,k a (by rw[h3];exact .head _) _ h2,h3,NewTs.mono hL ts h4 λb hb=>k b (by rw[h3];exact .tail _ hb)⟩
 | .tp ts,v,as,h,k=>by
  unfold NewT at h ⊢
  obtain⟨a,vs,as1,h1,h2,h3,h4⟩:=h
  exact⟨a,vs,as1,h1,k a (by rw[h3];exact .head _) _ h2,h3,NewTs.mono hL ts h4 λb hb=>k b (by rw[h3];exact .tail _ hb)⟩
theorem NewTs.mono{L L':PyData->V->Prop}{H H':Hp}(hL:∀d v,L d v->L' d v):∀(ts:List NT){vs:List V}{as:List Addr},NewTs L H ts vs as->(∀a∈as,∀o,H a=some o->H' a=some o)->NewTs L' H' ts vs as
 | [],vs,as,h,_=>by unfold NewTs at h ⊢;exact h
 | t::ts,vs,as,h,k=>by
  unfold NewTs at h ⊢
  obtain⟨v,vs',a1,a2,h1,h2,h3,h4⟩:=h
  exact⟨v,vs',a1,a2,h1,h2,NewT.mono hL t h3 λb hb=>k b (by rw[h2];exact qAQ _ hb),NewTs.mono hL ts h4 λb hb=>k b (by rw[h2];exact qr _ hb)⟩
end
mutual
theorem NewT.live{L:PyData->V->Prop}{H:Hp}:∀(t:NT){v:V}{as:List Addr},NewT L H t v as->∀a∈as,∃o,H a=some o
 | .lf d,v,as,h=>by
  unfold NewT at h
  intro a ha;rw[h.1]at ha;cases ha
 | .ls ts,v,as,h=>by
  unfold NewT at h
  obtain⟨a,vs,as1,h1,h2,h3,h4⟩:=h
  intro b hb
  rw[h3]at hb
  rcases qW.mp hb with rfl|hb
  ·exact⟨_,h2⟩
  ·exact NewTs.live ts h4 b hb
 | .tp ts,v,as,h=>by
  unfold NewT at h
  obtain⟨a,vs,as1,h1,h2,h3,h4⟩:=h
  intro b hb
  rw[h3]at hb
  rcases qW.mp hb with rfl|hb
  ·exact⟨_,h2⟩
  ·exact NewTs.live ts h4 b hb
theorem NewTs.live{L:PyData->V->Prop}{H:Hp}:∀(ts:List NT){vs:List V}{as:List Addr},NewTs L H ts vs as->∀a∈as,∃o,H a=some o
 | [],vs,as,h=>by
  unfold NewTs at h
  intro a ha;rw[h.2]at ha;cases ha
 | t::ts,vs,as,h=>by
  unfold NewTs at h
  obtain⟨v,vs',a1,a2,h1,h2,h3,h4⟩:=h
  intro b hb
  rw[h2]at hb
  rcases qc.mp hb with hb|hb
  ·exact NewT.live t h3 b hb
  ·exact NewTs.live ts h4 b hb
end
theorem zkq{L:PyData->V->Prop}{H:Hp}:NewTs L H [] [] []:=by unfold NewTs;exact⟨rfl,rfl⟩
theorem zhv{L:PyData->V->Prop}{H:Hp}{t:NT}{ts:List NT}{v:V}{vs:List V}{a1 a2:List Addr}(h:NewT L H t v a1)(k:NewTs L H ts vs a2):NewTs L H (t::ts) (v::vs) (a1++a2):=by
 unfold NewTs;exact⟨v,vs,a1,a2,rfl,rfl,h,k⟩
theorem zvx{L:PyData->V->Prop}{H:Hp}:∀{ts us:List NT}{vs ws:List V}{a1 a2:List Addr},NewTs L H ts vs a1->NewTs L H us ws a2->NewTs L H (ts++us) (vs++ws) (a1++a2)
 | [],us,vs,ws,a1,a2,h,k=>by
  unfold NewTs at h
  rw[h.1,h.2];exact k
 | t::ts,us,vs,ws,a1,a2,h,k=>by
  unfold NewTs at h
  obtain⟨v,vs',b1,b2,h1,h2,h3,h4⟩:=h
  rw[h1,h2,qAf]
  exact zhv h3 (zvx h4 k)
theorem zmy{L:PyData->V->Prop}{H:Hp}:∀{ts:List NT}{vs:List V}{a1:List Addr},NewTs L H ts vs a1->ts.length=vs.length
 | [],vs,a1,h=>by
  unfold NewTs at h
  rw[h.1];rfl
 | t::ts,vs,a1,h=>by
  unfold NewTs at h
  obtain⟨v,vs',b1,b2,h1,h2,h3,h4⟩:=h
  rw[h1];exact congrArg (·+1) (zmy h4)
mutual
def al:NT->Nat->SV×List SN
 | .lf d,_=>(.dt d,[])
 | .ls ts,n=>(.lo n,.ls (als ts (n+1)).1::(als ts (n+1)).2)
 | .tp ts,n=>(.lo n,.tp (als ts (n+1)).1::(als ts (n+1)).2)
def als:List NT->Nat->List SV×List SN
 | [],_=>([],[])
 | t::ts,n=>((al t n).1::(als ts (n+(al t n).2.length)).1,(al t n).2++(als ts (n+(al t n).2.length)).2)
end
mutual
theorem zasq{Ho H:Hp}:∀(t:NT){v:V}{as:List Addr},NewT (Rp Ho) H t v as->∀(n:Nat)(L:List Addr),(∀(j:Nat)(a:Addr),as[j]?=some a->L[n+j]?=some a)->
  as.length=(al t n).2.length/\SVr Ho L (al t n).1 v/\∀(j:Nat)(s:SN)(a:Addr),(al t n).2[j]?=some s->as[j]?=some a->SNr Ho H L s a
 | .lf d,v,as,h,n,L,k=>by
  unfold NewT at h
  obtain⟨rfl,h⟩:=h
  unfold al
  exact⟨rfl,h,λj s a e=>by cases e⟩
 | .ls ts,v,as,h,n,L,k=>by
  unfold NewT at h
  obtain⟨a,vs,as1,rfl,h2,rfl,h4⟩:=h
  obtain⟨g1,g2,g3⟩:=als_ok ts h4 (n+1) L λj b e=>by
   have:=k (j+1) b e
   rw[show n+1+j=n+(j+1) by omega];exact this
  unfold al
  refine⟨congrArg (·+1) g1,⟨a,k 0 a rfl,rfl⟩,λj s b e1 e2=>?_⟩
  cases j with
  | zero=>cases e1;cases e2;exact⟨vs,h2,g2⟩
  | succ j=>exact g3 j s b e1 e2
 | .tp ts,v,as,h,n,L,k=>by
  unfold NewT at h
  obtain⟨a,vs,as1,rfl,h2,rfl,h4⟩:=h
  obtain⟨g1,g2,g3⟩:=als_ok ts h4 (n+1) L λj b e=>by
   have:=k (j+1) b e
   rw[show n+1+j=n+(j+1) by omega];exact this
  unfold al
  refine⟨congrArg (·+1) g1,⟨a,k 0 a rfl,rfl⟩,λj s b e1 e2=>?_⟩
  cases j with
  | zero=>cases e1;cases e2;exact⟨vs,h2,g2⟩
  | succ j=>exact g3 j s b e1 e2
theorem als_ok{Ho H:Hp}:∀(ts:List NT){vs:List V}{as:List Addr},NewTs (Rp Ho) H ts vs as->∀(n:Nat)(L:List Addr),(∀(j:Nat)(a:Addr),as[j]?=some a->L[n+j]?=some a)->
  as.length=(als ts n).2.length/\Paired (SVr Ho L) (als ts n).1 vs/\∀(j:Nat)(s:SN)(a:Addr),(als ts n).2[j]?=some s->as[j]?=some a->SNr Ho H L s a
 | [],vs,as,h,n,L,k=>by
  unfold NewTs at h
  obtain⟨rfl,rfl⟩:=h
  unfold als
  exact⟨rfl,.nil,λj s a e=>by cases e⟩
 | t::ts,vs,as,h,n,L,k=>by
  unfold NewTs at h
  obtain⟨v,vs',a1,a2,rfl,rfl,h3,h4⟩:=h
  obtain⟨g1,g2,g3⟩:=zasq t h3 n L λj b e=>k j b (by rw[qf (qJ.mp e).1];exact e)
  obtain⟨f1,f2,f3⟩:=als_ok ts h4 (n+(al t n).2.length) L λj b e=>by
   have:=k (a1.length+j) b (by rw[qN (Nat.le_add_right _ _),qBx];exact e)
   rw[<- g1,Nat.add_assoc];exact this
  unfold als
  refine⟨by rw[qI,qI,g1,f1],.cons g2 f2,λj s b e1 e2=>?_⟩
  by_cases lt:j<a1.length
  ·rw[qf lt]at e2
   rw[qf (by rw[<- g1];exact lt)]at e1
   exact g3 j s b e1 e2
  ·rw[qN (by omega)]at e2
   rw[qN (by rw[<- g1];omega)]at e1
   rw[g1]at e2
   exact f3 _ s b e1 e2
end
section
variable{fx:Addr->Prop}{as:List Addr}{H0:Hp}{env:DEnv}{σ:St}{H H':Hp}{st:SyT}
theorem EnvOk.more(h:EnvOk fx H0 env σ H)(s:Same H H'){as1:List Addr}(hn:∀a∈as1,H a=none)(hl:∀a∈as1,∃o,H' a=some o):EnvOk (λb=>fx b\/b∈as1) H0 env σ H':=
 h.grow s (λb o e n z=>z.elim n λy=>by rw[hn b y]at e;cases e) λb z=>z.elim (λy=>let⟨o,e⟩:=h.fxs b y;⟨o,s b o e⟩) (hl b)
theorem zafq(s:Same H H'){A:Addr->Prop}{as1:List Addr}(hn:∀a∈as1,H a=none):Same (Offs (λb=>fx b\/A b) H) (Offs (λb=>(fx b\/b∈as1)\/A b) H'):=
 Offs.mono s λb o e n z=>z.elim (λy=>y.elim (λx=>n (.inl x)) λx=>by rw[hn b x]at e;cases e) λy=>n (.inr y)
theorem zafr(s:Same H H'){A:Addr->Prop}{as1:List Addr}(hn:∀a∈as1,H a=none):Same (OffT (λb=>fx b\/A b) H) (OffT (λb=>(fx b\/b∈as1)\/A b) H'):=
 OffT.mono s λb o e n z=>z.elim (λy=>y.elim (λx=>n (.inl x)) λx=>by rw[hn b x]at e;cases e) λy=>n (.inr y)
theorem SymOk.intro (h:SymOk fx as H0 env σ H st) (s:Same H H') {t:NT} {v:V} {as1:List Addr} (k:NewT (Rp (OffT (λb=>(fx b\/b∈as1)\/own env σ b) H')) H' t v as1) (nd:as1.Nodup) (hn:∀a∈as1,H a=none) :
  SymOk (λb=>fx b\/b∈as1) (as++as1) H0 env σ H' ⟨st.sl,st.hp++(al t st.hp.length).2⟩/\SVr (OffT (λb=>(fx b\/b∈as1)\/own env σ b) H') (as++as1) (al t st.hp.length).1 v:=by
 have hl:=NewT.live t k
 have so:=zafr (A:=own env σ) (fx:=fx) s hn
 obtain⟨g1,g2,g3⟩:=zasq t k st.hp.length (as++as1) λj a e=>by
  rw[<- h.len,qN (Nat.le_add_right _ _),qBx];exact e
 refine⟨⟨h.ok.more s hn hl,?_,by rw[qI,qI,h.len,g1],λa ha=>?_,λa ha=>?_,λn x a e1 e2=>?_,λi x e=>?_⟩,g2⟩
 ·refine qAe.mpr ⟨h.nd,nd,λa ha b hb e=>?_⟩
  obtain⟨o,eo⟩:=h.ok.fxs a (h.off a ha)
  rw[e,hn b hb]at eo;cases eo
 ·exact(qc.mp ha).imp (h.off a) id
 ·exact(qc.mp ha).elim (h.low a) λz=>h.ok.base.free (hn a z)
 ·by_cases lt:n<st.hp.length
  ·rw[qf lt]at e1
   rw[qf (by rw[h.len];exact lt)]at e2
   exact(h.nod n x a e1 e2).mono (λo z=>s a o z) λ_ _ z=>(z.same so).ext
  ·rw[qN (by omega)]at e1
   rw[qN (by rw[h.len];omega),h.len]at e2
   exact g3 _ x a e1 e2
 ·obtain⟨h1,w,h2,h3⟩:=h.sl i x e
  exact⟨h1,w,h2,(h3.same so).ext⟩
end
noncomputable abbrev NTF:=DEnv->Option NT
noncomputable def SEt(te:TE)(g:NTF):Prop:=∀(fx:Addr->Prop)(H0:Hp)(env:DEnv)(σ:St)(H:Hp),EnvOk fx H0 env σ H->∀t,g env=some t->∀Q:VK,
 (∀v H' as,Same H H'->NewT (Rp (Offs (λb=>(fx b\/b∈as)\/own env σ b) H')) H' t v as->as.Nodup->(∀a∈as,H a=none)->Q v H')->te σ H Q
noncomputable abbrev NTFs:=DEnv->Option (List NT)
noncomputable def SAt(ta:TA)(g:NTFs):Prop:=∀(fx:Addr->Prop)(H0:Hp)(env:DEnv)(σ:St)(H:Hp),EnvOk fx H0 env σ H->∀ts,g env=some ts->∀Q:List V->Hp->Prop,
 (∀vs H' as,Same H H'->NewTs (Rp (Offs (λb=>(fx b\/b∈as)\/own env σ b) H')) H' ts vs as->as.Nodup->(∀a∈as,H a=none)->Q vs H')->ta σ H Q
noncomputable def pLf(g:EF):NTF:=λenv=>(g env).bind λr=>if r.bs.isEmpty=true then some (.lf r.d)else none
theorem zafs{te:TE}{g:EF}(h:SE te g):SEt te (pLf g):=by
 intro fx H0 env σ H hE t e Q q
 unfold pLf at e
 obtain⟨r,er,e⟩:=qA.mp e
 split at e
 ·rename_i hb
  cases e
  have hb:r.bs=[]:=qBZ.mp hb
  refine h fx H0 env σ H hE r er Q λv H' s hv=>q v H' [] s ?_ .nil λa z=>by cases z
  unfold NewT
  refine⟨rfl,Rp.same (Offs.sub λb z=>?_) _ hv.rp⟩
  rw[hb]
  exact zmg b (z.elim (λy=>y.elim .inl λx=>by cases x) .inr)
 ·cases e
theorem ztp{L:PyData->V->Prop}{G H:Hp}(hL:∀d v,Rp G d v->L d v):∀{ds:List PyData}{vs:List V},Rps G ds vs->NewTs L H (ds.map .lf) vs []
 | [],vs,h=>by unfold Rps at h;rw[h];exact zkq
 | d::ds,vs,h=>by
  unfold Rps at h
  obtain⟨v,vs',rfl,h1,h2⟩:=h
  exact zhv (a1:=[]) (a2:=[]) (by unfold NewT;exact⟨rfl,hL _ _ h1⟩) (ztp hL h2)
noncomputable def pFr(g:EF):NTF:=λenv=>(g env).bind λr=>if r.bs.isEmpty=true/\r.fr=true then(match r.d with
 | .list ds=>some (.ls (ds.map .lf))
 | _=>none)else none
theorem zalo{te:TE}{g:EF}(h:SE te g):SEt te (pFr g):=by
 intro fx H0 env σ H hE t e Q q
 unfold pFr at e
 obtain⟨r,er,e⟩:=qA.mp e
 split at e
 ·rename_i hb
  have hb1:r.bs=[]:=qBZ.mp hb.1
  split at e
  ·rename_i ds ed
   cases e
   refine h fx H0 env σ H hE r er Q λv H' s hv=>?_
   obtain⟨a,h1,h2,h3⟩:=hv.fr hb.2
   rw[ed]at h3
   obtain⟨xs,k1,k2⟩:=h3
   refine q v H' [a] s ?_ (qt.mpr ⟨(λz=>by cases z),qA1⟩) λb z=>by
    rcases qW.mp z with rfl|z
    ·exact h2
    ·cases z
   unfold NewT
   refine⟨a,xs,[],h1,k1,rfl,ztp (λd w y=>Rp.same (Offs.sub λb z=>?_) d y) k2⟩
   rw[hb1]
   rcases z with(z|z)|z
   ·exact .inl (zmg b (.inl z))
   ·exact .inr (by rcases qW.mp z with z|z;exact z;cases z)
   ·exact .inl (zmg b (.inr z))
  ·cases e
 ·cases e
noncomputable def zvy:NTFs:=λ_=>some []
theorem zaft:SAt tNil zvy:=by
 intro fx H0 env σ H hE t e Q q
 cases e
 exact q [] H [] (Same.refl _) zkq .nil λa z=>by cases z
noncomputable def zfa(g:NTF)(k:NTFs):NTFs:=λenv=>(g env).bind λt=>(k env).map λts=>t::ts
theorem zalp{as bs:List Addr}{H:Hp}(h1:as.Nodup)(h2:bs.Nodup)(hl:∀a∈as,∃o,H a=some o)(hn:∀a∈bs,H a=none):(as++bs).Nodup:=
 qAe.mpr ⟨h1,h2,λa ha b hb e=>by obtain⟨o,eo⟩:=hl a ha;rw[e,hn b hb]at eo;cases eo⟩
theorem zaut{p q r s t:Prop}(h:q↔r\/s):(p\/q)\/t↔((p\/r)\/s)\/t:=by rw[h,or_assoc (a:=p) (b:=r) (c:=s)]
theorem zot{te:TE}{ta:TA}{g:NTF}{k:NTFs}(h1:SEt te g)(h2:SAt ta k):SAt (tCons te ta) (zfa g k):=by
 intro fx H0 env σ H hE t e Q q
 unfold zfa at e
 obtain⟨t1,e1,e⟩:=qA.mp e
 obtain⟨ts,e2,rfl⟩:=qH.mp e
 refine h1 fx H0 env σ H hE t1 e1 _ λv H1 as1 s1 n1 d1 f1=>?_
 have l1:=NewT.live t1 n1
 refine h2 _ H0 env σ H1 (hE.more s1 f1 l1) ts e2 _ λvs H2 as2 s2 n2 d2 f2=>?_
 have sw:∀b,(fx b\/b∈as1++as2)\/own env σ b↔((fx b\/b∈as1)\/b∈as2)\/own env σ b:=λb=>zaut qc
 refine q (v::vs) H2 (as1++as2) (s1.trans s2) (zhv (NewT.mono (λd w y=>Rp.same (Same.trans (zafq s2 f2) (Offs.sub λb z=>(sw b).mp z)) d y) t1 n1 λa _ o z=>s2 a o z) (NewTs.mono (λd w y=>Rp.same (Offs.sub λb z=>(sw b).mp z) d y) ts n2 λ_ _ _ z=>z)) (zalp d1 d2 l1 f2) λa ha=>?_
 exact(qc.mp ha).elim (f1 a) λz=>s1.free (f2 a z)
noncomputable def pTup(k:NTFs):NTF:=λenv=>(k env).bind λts=>if ts.length<=100000 then some (.tp ts)else none
theorem zafu{ta:TA}{k:NTFs}(h:SAt ta k):SEt (tTup ta) (pTup k):=by
 intro fx H0 env σ H hE t e Q q
 unfold pTup at e
 obtain⟨ts,e1,e⟩:=qA.mp e
 split at e
 ·rename_i hl
  cases e
  refine h fx H0 env σ H hE ts e1 _ λvs H1 as1 s1 n1 d1 f1=>⟨zha (by rw[<- zmy n1];exact hl),λp hp=>?_⟩
  have l1:=NewTs.live ts n1
  have np:p∉as1:=λz=>by obtain⟨o,eo⟩:=l1 p z;rw[hp]at eo;cases eo
  refine q _ _ (p::as1) (s1.trans (Same.new hp)) ?_ (qt.mpr ⟨np,d1⟩) λa ha=>by
   rcases qW.mp ha with rfl|ha
   ·exact s1.free hp
   ·exact f1 a ha
  unfold NewT
  refine⟨p,vs,as1,rfl,zaw,rfl,NewTs.mono (λd w y=>Rp.same (Offs.mono (Same.new hp) λb o e n z=>?_) d y) ts n1 λa _ o z=>Same.new hp a o z⟩
  rcases z with(z|z)|z
  ·exact n (.inl (.inl z))
  ·rcases qW.mp z with rfl|z
   ·rw[hp]at e;cases e
   ·exact n (.inl (.inr z))
  ·exact n (.inr z)
 ·cases e
noncomputable def ztq(g:GT)(t:TF)(e:NTF)(env:DEnv):List PyData->Option (List NT)
 | []=>some []
 | d::ds=>(g d env).bind λe1=>(t e1).bind λb=>if b=true then(e e1).bind λr=>(ztq g t e env ds).map λrs=>r::rs else ztq g t e env ds
noncomputable def zabx(own:List Str)(fr:List Nat)(fi:IF')(g:GT)(t:TF)(e:NTF):NTF:=λenv=>(fi env).bind λz=>if z.1.length<100000/\z.2.isEmpty=true/\(capA fr env).isEmpty=true then
 (ztq g t e (envB own fr env) z.1).map .ls else none
theorem zaok{p:Prop}{as bs:List Addr}{b:Addr}:(p\/b∈as)\/b∈bs↔p\/b∈as++bs:=by rw[qc,or_assoc]
theorem zaad{own:List Str}{fr:List Nat}{wi:TI}{g:TG}{tt:TT}{te:TE}{fi:IF'}{gf:GT}{t:TF}{e:NTF}(h1:SI wi fi)(h2:SG g gf)(hx:GX own.length gf)(h3:ST tt t)(h4:SEt te e) :
  SEt (tComp1 wi g tt te own fr) (zabx own fr fi gf t e):=by
 intro fx H0 env σ H h rr hr Q q
 unfold zabx at hr
 obtain⟨⟨ds,bs⟩,ei,hr⟩:=qA.mp hr
 split at hr
 ·rename_i hc
  obtain⟨hlen,hb1,hb2⟩:=hc
  have hlen:ds.length<100000:=hlen
  have hb1:bs=[]:=qBZ.mp hb1
  have hb2:=qBZ.mp hb2
  subst hb1
  obtain⟨rs,ers,rfl⟩:=qH.mp hr
  refine h1 fx H0 env σ H h ds [] ei _ λJ H1 s yl=>λp hp=>?_
  have hB:=zvg h s hp own fr []
  rw[hb2]at hB
  generalize hA:(λb=>lim fx env σ ([]++[]) b)=A
  have hA':∀b,fx b\/L2.own env σ b↔A b:=λb=>by rw[<- hA];exact⟨zmg b,zpc b⟩
  have eA:(λb=>lim fx env σ ([]++[]) b\/b=p)=λb=>(A b\/b=p)\/b∈([]:List Addr):=by
   funext b;rw[<- hA];exact propext ⟨.inl,λz=>z.elim id λy=>by cases y⟩
  rw[eA]at hB
  have seen:∀{σ':St}{H':Hp}{as:List Addr},EnvOk (λb=>(A b\/b=p)\/b∈as) H1 (envB own fr env) σ' H'->(∀a∈as,H1 a=none/\a≠p)->Same (Offs (λb=>fx b\/L2.own (frzs env []) σ b) H1) (Offs (λb=>(A b\/b=p)\/b∈as) H'):=λ{σ' H' as} hE ha=>Offs.mono hE.base λb o eo n z=>by
   rcases z with(z|z)|z
   ·exact n ((hA' b).mpr z)
   ·rw[z,hp]at eo;cases eo
   ·rw[(ha b z).1]at eo;cases eo
  refine⟨λi m σ' H'=>m=ds.length - i/\i<=ds.length/\∃vs done rest as,H' p=some (.lst vs)/\NewTs (Rp (Offs (λb=>(A b\/b=p)\/b∈as) H')) H' done vs as/\as.Nodup/\(∀a∈as,H1 a=none/\a≠p)/\done.length<=i/\ztq gf t e (envB own fr env) (ds.drop i)=some rest/\done++rest=rs/\EnvOk (λb=>(A b\/b=p)\/b∈as) H1 (envB own fr env) σ' H',
   ⟨ds.length,rfl,qAr _,[],[],rs,[],zaw,zkq,.nil,λa z=>by(cases z),qAr _,ers,rfl,hB⟩,?_⟩
  rintro i m σ' H' ⟨rfl,hi,vs,done,rest,as,ep,rd,nd,ha,dl,ec,edr,hE⟩
  obtain⟨yi,ys⟩:=yl _ H' hE.fxs (seen hE ha)
  by_cases hlt:i<ds.length
  ·obtain⟨yg,yy⟩:=yi i ds[i] (qF hlt)
   refine .inr ⟨yg,λσ'' H''=>i+1<=ds.length/\∃vs done rest as,H'' p=some (.lst vs)/\NewTs (Rp (Offs (λb=>(A b\/b=p)\/b∈as) H'')) H'' done vs as/\as.Nodup/\(∀a∈as,H1 a=none/\a≠p)/\done.length<=i+1/\ztq gf t e (envB own fr env) (ds.drop (i+1))=some rest/\done++rest=rs/\EnvOk (λb=>(A b\/b=p)\/b∈as) H1 (envB own fr env) σ'' H'',?_,?_⟩
   ·rintro σ'' H'' ⟨hle,hh⟩
    exact⟨ds.length - (i+1),by omega,rfl,hle,hh⟩
   ·intro x H'' hy
    obtain⟨sy,ry⟩:=yy x H'' hy
    rw[qAm hlt]at ec
    obtain⟨e1,ee1,ec⟩:=qA.mp ec
    obtain⟨b,eb,ec⟩:=qA.mp ec
    have ry':Rp (Offs (λa=>((A a\/a=p)\/a∈as)\/L2.own (envB own fr env) σ' a) H'') ds[i] x:=Rp.same (Offs.sub λb z=>z.elim (λy=>y) λ⟨j,d',z,_⟩=>absurd z zkm) _ ry
    refine h2 _ H1 (envB own fr env) σ' H'' _ x (hE.up sy) ry' e1 ee1 _ λσ2 hE2=>?_
    refine h3 _ H1 e1 σ2 H'' hE2 b eb _ λH3 s3=>?_
    have hE3:=hE2.up s3
    obtain⟨gl,gk⟩:=hx _ _ _ ee1
    have back:∀{fx':Addr->Prop}{H4:Hp},EnvOk fx' H1 e1 σ2 H4->EnvOk fx' H1 (envB own fr env) σ2 H4:=λ{fx' H4} hh=>hh.weaken gl.symm (λj d' ej=>by
     by_cases hj:own.length<=j
     ·rw[gk j hj];exact ej
     ·obtain⟨_,k,rfl,_⟩:=zth ej;omega) λj d'=>zkm
    cases b with
    | false=>
     have ec:ztq gf t e (envB own fr env) (ds.drop (i+1))=some rest:=ec
     exact iteF ⟨hlt,vs,done,rest,as,s3 _ _ (sy _ _ ep),NewTs.mono (λd w y=>Rp.same (Offs.grow (sy.trans s3)) d y) done rd λa _ o z=>s3 a o (sy a o z),nd,ha,Nat.le_succ_of_le dl,ec,edr,back hE3⟩
    | true=>
     have ec:((e e1).bind λr=>(ztq gf t e (envB own fr env) (ds.drop (i+1))).map λrs=>r::rs)=some rest:=ec
     obtain⟨r,er,ec⟩:=qA.mp ec
     obtain⟨rest',er',rfl⟩:=qH.mp ec
     refine iteT (h4 _ H1 e1 σ2 H3 hE3 r er _ λv H4 as1 s4 n1 d1 f1=>?_)
     have t3:=sy.trans s3
     have t4:=t3.trans s4
     have l1:=NewT.live r n1
     have l0:=NewTs.live done rd
     have p3:H3 p=some (.lst vs):=t3 _ _ ep
     have np:∀a∈as1,a≠p:=λa z y=>by rw[y]at z;rw[f1 p z]at p3;cases p3
     have eF:(λb=>((A b\/b=p)\/b∈as)\/b∈as1)=λb=>(A b\/b=p)\/b∈as++as1:=funext λb=>propext zaok
     have hE4:=back (hE3.more s4 f1 l1)
     rw[eF]at hE4
     refine⟨vs,t4 _ _ ep,znq (by rw[<- zmy rd];omega),hlt,vs++[v],done++[r],rest',as++as1,zaw,?_,zalp nd d1 (λa z=>let⟨o,eo⟩:=l0 a z;⟨o,t3 a o eo⟩) f1,λa z=>?_,by rw[qI];simp;omega,er',by rw[<- edr];simp,hE4.updFx (.inl (.inr rfl)) hp⟩
     ·rw[Offs.upd (.inl (.inr rfl))]
      refine zvx (NewTs.mono (λd w y=>Rp.same (Offs.mono t4 λb o eo n z=>?_) d y) done rd λa z o eo=>?_) (by
       rw[show as1=as1++[] by simp]
       refine zhv (NewT.mono (λd w y=>Rp.same (Offs.sub λb z=>?_) d y) r n1 λa z o eo=>?_) zkq
       ·rw[qv]at z;exact .inl (zaok.mpr z)
       ·rw[zbc (np a z)];exact eo)
      ·rcases zaok.mpr z with z|z
       ·exact n z
       ·have y:=f1 b z;rw[t3 b o eo]at y;cases y
      ·rw[zbc (ha a z).2];exact t4 a o eo
     ·rcases qc.mp z with z|z
      ·exact ha a z
      ·exact⟨hE3.base.free (f1 a z),np a z⟩
  ·have hi':i=ds.length:=by omega
   subst hi'
   rw[qBa]at ec
   cases ec
   rw[qv]at edr
   subst edr
   refine .inl ⟨ys,q _ H' (p::as) (s.trans hE.base) ?_ (qt.mpr ⟨λz=>(ha p z).2 rfl,nd⟩) λa z=>?_⟩
   ·unfold NewT
    refine⟨p,vs,as,rfl,ep,rfl,NewTs.mono (λd w y=>Rp.same (Offs.sub λb z=>?_) d y) done rd λ_ _ _ z=>z⟩
    rcases z with(z|z)|z
    ·exact .inl (.inl ((hA' b).mp (.inl z)))
    ·exact(qW.mp z).elim (λy=>.inl (.inr y)) .inr
    ·exact .inl (.inl ((hA' b).mp (.inr z)))
   ·rcases qW.mp z with rfl|z
    ·exact s.free hp
    ·exact s.free (ha a z).1
 ·cases hr
noncomputable def tErr(Ok:Addr->Prop)(ts:Addr->TS)(j:Nat)(D:Ends)(σ:St)(H1:Hp):XK:=λc od H2=>∃C dx,c=.ref C/\Ok C/\od=some dx/\
 ∀e H3,(∀b o,H1 b=some o->H2 b=some o->H3 b=some o)->zafe H2 H3->(∃tv,H3 e=some (.ext (xeD e C dx tv)))->
  ts C {nx:=λσ' H'=>D.nx (σ'.set j none) H',rt:=λ_ _=>False} (σ.set j (some (.ref e))) H3
section
variable{X:Cx}{pins:List (Addr×Obj)}{σ:St}{H1:Hp}{s1:Shared}
theorem handled{Ok:Addr->Prop}{ts:Addr->TS}{B:Addr}{n cn:Str}{hpos cp:Pos}{st0:Stmt}{suite:List Stmt}{j:Nat}{D:Ends}{ev:Value}{s':Shared}
  (hN:X.N.Nodup)(hj:X.N[j]?=some n)(hn:X.env.scope.names.lookup n=some .local)(hst:X.stack=X.env::X.outer)(hfr:X.env.frame=some X.env.locals)(hgc:Gl X cn)(hmc:X.mg cn=some (.ref B))
  (hex:∀C,Ok C->PySem.W.exmOne X.K (.ref C) (.ref B)=some true)(hs:∀C,Ok C->∀e,PSs (X.hold e) (st0::suite) (ts C))(hdc:(cn==("__debug__":Str))=false)
  (I1:Inv X pins σ H1 s1)(hq:CXE X.prog X.w X.stack H1 s1 (tErr Ok ts j D σ H1) ev s') :
  wpAny (model X.prog X.w) X.A (noteFrame ev X.env) (λ_ s2=>wpAny (model X.prog X.w) X.A (setFlight ev none) (λ_ s3=>wpAny (model X.prog X.w) X.A (handleBy ev X.env [.ExceptHandler (some (.Name cn cp)) (some n) (st0::suite) hpos]) (SP X pins D) X.xe s3) X.xe s2) X.xe s':=by
 obtain⟨e,C',dx,H2,rfl,os,bare,un,ok,fl,stx⟩:=hq
 have I2:=I1.call' (s':=s') os un ok bare (λb z=>absurd z (by simp))
 refine zpp I2 hst hfr (λb ob z=>un.there b ob z (by simp)) fl λs3 H3 I3 ⟨T,hT1,hT2,hT3,hT4⟩ ho hkx hz3=>?_
 obtain⟨C,dx',eC,hOk,edx,sq⟩:=stx H3 (λb o z1 z2=>ho b o _ (I1.hok b o z1).there.choose_spec z2) hkx
 cases eC
 cases edx
 obtain⟨⟨vs',sl,oe,h1⟩,_,_⟩:=I3.hok e _ hT1
 have tb:=(I3.hok T _ hT4).1
 have J3:=I3.hold e
 refine wpAny_handleBy_cons (codeAny_handlers_test (zkf J3 hgc hmc ?_ hdc)) (by intro z;cases z)
 have LT:PySem.W.Looks (model X.prog X.w) s3.heap (typeOf (.ref e)) (.ref C'):=(qCW oe).andThen .now
 refine(PySem.W.exm_one (I3.kIn) LT (hex C' hOk)).here ?_
 show codeAny _ _ _ _ _
 refine codeAny_handlers_suite_as (zvr oe rfl h1 tb λh' kp tb'=>?_)
 have hup:upd H3 T (.ext λh=>h.Tb T)=H3:=by
  funext b
  by_cases hb:b=T
  ·subst hb;rw[zaw,hT4]
  ·rw[zbc hb]
 have J4:Inv (X.hold e) pins σ H3 {s3 with heap:=h'}:=by
  have:=J3.write (x:=T) (e:=T) (o:=.ext λh=>h.Tb T) (h':=h') (t':=s3.toks) (by rw[hT4];exact True.intro) (.inl rfl) (λb u hb z=>kp b u hb z) (let⟨oT,_,z,_⟩:=tb';⟨oT,z⟩) (zzz tb')
  rw[hup]at this
  exact this
 refine zmp (X:=X) (Inv.unhold I1.ok J4) hN hj (.inl hn) (show RelV (.ref e) (.ref e)from rfl) (λs5 J5=>?_) (.inr hn)
 refine qBI (hs C' hOk e pins s5 _ H3 _ (J5.hold e) (sq e H3 (λ_ _ _ z=>z) (λ_ _ z _=>z) ⟨_,hT1⟩)) (λfl s6 q6=>?_) λ_ _ z=>z.elim
 cases fl with
 | next=>
  obtain⟨σ',H',J6,q6⟩:=q6
  exact zaoc (Inv.unhold I1.ok J6) hN hj hn λs7 I7=>⟨_,_,I7,q6⟩
 | ret u=>obtain⟨v,σ',H',J6,_,q6⟩:=q6;exact q6.elim
 | brk=>obtain⟨σ',H',J6,q6⟩:=q6;exact q6.elim
 | cont=>obtain⟨σ',H',J6,q6⟩:=q6;exact q6.elim
noncomputable def zasr(Ok:Addr->Prop)(w:Str)(sp:Sp)(t:TA)(ts:Addr->TS)(i j:Nat):TS:=λD σ H=>t σ H λvs H1=>sp vs H1 (λv H2=>∀p,H2 p=none->D.nx (σ.set i (some (.ref p))) (upd H2 p (.tup [.str w,v]))) (tErr Ok ts j D σ H1)
theorem zaol{Ok:Addr->Prop}{f B:Addr}{k:Nat}{fd:qw}{ps:List Str}{sp:Sp}{wd fn x n cn:Str}{x1 x2:Nat}{p cpos wpos tpos pos pos' apos hpos cp:Pos}{a:Expr}{as:List Expr}{st0:Stmt}{suite:List Stmt}{t:TA}{ts:Addr->TS}{i j:Nat}
  (F:FnOk X.prog X.w X.K X.mg X.base (CXE X.prog X.w) k f fd ps sp)(hr:Room k X.A)(hg:Gl X fn)(hm:X.mg fn=some (.ref f))(hk:qX X.K (.ref f)=true)(hb:zno X.K fd ps [])(ha:PA X.nox (a::as) t)
  (hN:X.N.Nodup)(hi:X.N[i]?=some x)(hx:X.env.scope.names.lookup x=some .local)(hj:X.N[j]?=some n)(hn:X.env.scope.names.lookup n=some .local)
  (hst:X.stack=X.env::X.outer)(hfr:X.env.frame=some X.env.locals)(hgc:Gl X cn)(hmc:X.mg cn=some (.ref B))(hex:∀C,Ok C->PySem.W.exmOne X.K (.ref C) (.ref B)=some true)(hs:∀C,Ok C->∀e,PSs (X.hold e) (st0::suite) (ts C))
  (hdb:(fn==("__debug__":Str))=false)(hdc:(cn==("__debug__":Str))=false)(he:starEach (a::as) X.env=(false,eval a X.env)::starEach as X.env)(hpl:(backTo cpos (starEach as X.env)).any (·.1)=false)
  (hsw:swapsWith (.Tuple [.Constant (.str wd) x2 wpos,.Call (.Name fn p) (a::as) [] cpos] x1 tpos) (some (.Name x pos')) apos.line X.env=pure false) :
  PS X (.Try [.Assign [.Name x pos'] (.Tuple [.Constant (.str wd) x2 wpos,.Call (.Name fn p) (a::as) [] cpos] x1 tpos) apos] [.ExceptHandler (some (.Name cn cp)) (some n) (st0::suite) hpos] [] [] pos) (zasr Ok wd sp t ts i j):=by
 intro pins s σ H D I h
 refine qCb ?_
 refine qBh (wpAny_Assign_Name (wpAny_Tuple_spliced ?_) hsw)
 show wpAny _ _ (spliced ((false,eval (.Constant (.str wd) x2 wpos) X.env)::backTo tpos (starEach [.Call (.Name fn p) (a::as) [] cpos] X.env))) _ _ s
 refine qBM (qCF ?_)
 have I0:Inv X pins σ H {s with toks:=s.toks+1}:=I.tok _
 show wpAny _ _ (spliced ((false,eval (.Call (.Name fn p) (a::as) [] cpos) X.env)::backTo tpos (starEach [] X.env))) _ _ _
 refine qBM (qAk (zkf I0 hg hm ?_ hdb))
 refine qBK (h₀:=X.base) I.ok.mod.kin hk (qBI (ha cpos pins _ σ H _ (I0.wish _) h) (λus s1 ⟨vs,H1,I1,r,q⟩=>⟨I1.kIn,?_⟩) λ_ _ z=>z.elim) he hpl
 have I1:Inv X pins σ H1 s1:=I1.unwish
 have hl:us.length=ps.length:=by rw[<- r.length];exact F.len _ _ _ _ q
 refine qBm (qA6 (F.run X.A X.stack s1 H1 ⟨us,[]⟩ us vs _ _ hr I1.env0 (by have:=hb s1 us I1.kIn (by rw[qv];exact hl);rw[qv]at this;exact this) r q) λres s' hq=>?_)
 cases res with
 | ok fl=>
  cases fl with
  | ret u=>
   obtain⟨v,H2,I2,rv,q2⟩:=I1.after hq
   refine qBr ⟨by show 2<=qe;rw[qA8];omega,?_⟩
   have hf:H2 s'.heap.objs.size=none:=I2.hok.fresh (qM _)
   refine zmp (I2.laid (a:=s'.heap.objs.size) (o:=.tup [.str wd,v]) (t':=s'.toks) (λb u e=>qG _ e) (qM _) ?_) hN hi (.inl hx) (show RelV (.ref _) (.ref _)from rfl) (λs3 I3=>qAx (qAx ⟨_,_,I3,q2 _ hf⟩)) (.inr hx)
   exact⟨by show 2<=qe;rw[qA8];omega,[.str wd _,u],.cons ⟨_,rfl⟩ (.cons rv .nil),⟨_,qd _ rfl,rfl,_,rfl⟩⟩
  | next=>exact False.elim hq
  | brk=>exact False.elim hq
  | cont=>exact False.elim hq
 | error ev=>exact handled hN hj hn hst hfr hgc hmc hex hs hdc I1 hq
noncomputable def zaom(Ok:Addr->Prop)(sp:Sp)(t:TA)(ts:Addr->TS)(j:Nat):TS:=λD σ H=>t σ H λvs H1=>sp vs H1 (λ_ H2=>D.nx σ H2) (tErr Ok ts j D σ H1)
theorem zaon{Ok:Addr->Prop}{f B:Addr}{k:Nat}{fd:qw}{ps:List Str}{sp:Sp}{fn n cn:Str}{p cpos pos epos hpos cp:Pos}{a:Expr}{as:List Expr}{st0:Stmt}{suite:List Stmt}{t:TA}{ts:Addr->TS}{j:Nat}
  (F:FnOk X.prog X.w X.K X.mg X.base (CXE X.prog X.w) k f fd ps sp)(hr:Room k X.A)(hg:Gl X fn)(hm:X.mg fn=some (.ref f))(hk:qX X.K (.ref f)=true)(hb:zno X.K fd ps [])(ha:PA X.nox (a::as) t)
  (hN:X.N.Nodup)(hj:X.N[j]?=some n)(hn:X.env.scope.names.lookup n=some .local)
  (hst:X.stack=X.env::X.outer)(hfr:X.env.frame=some X.env.locals)(hgc:Gl X cn)(hmc:X.mg cn=some (.ref B))(hex:∀C,Ok C->PySem.W.exmOne X.K (.ref C) (.ref B)=some true)(hs:∀C,Ok C->∀e,PSs (X.hold e) (st0::suite) (ts C))
  (hdb:(fn==("__debug__":Str))=false)(hdc:(cn==("__debug__":Str))=false)(he:starEach (a::as) X.env=(false,eval a X.env)::starEach as X.env)(hpl:(backTo cpos (starEach as X.env)).any (·.1)=false)
  (hsw:swapsWith (.Call (.Name fn p) (a::as) [] cpos) none epos.line X.env=pure false) :
  PS X (.Try [.Expr (.Call (.Name fn p) (a::as) [] cpos) epos] [.ExceptHandler (some (.Name cn cp)) (some n) (st0::suite) hpos] [] [] pos) (zaom Ok sp t ts j):=by
 intro pins s σ H D I h
 refine qCb ?_
 refine qBh (qCu (qAk (zkf I hg hm ?_ hdb)) I.quiet hsw)
 refine qBK (h₀:=X.base) I.ok.mod.kin hk (qBI (ha cpos pins s σ H _ (I.wish _) h) (λus s1 ⟨vs,H1,I1,r,q⟩=>⟨I1.kIn,?_⟩) λ_ _ z=>z.elim) he hpl
 have I1:Inv X pins σ H1 s1:=I1.unwish
 have hl:us.length=ps.length:=by rw[<- r.length];exact F.len _ _ _ _ q
 refine qBm (qA6 (F.run X.A X.stack s1 H1 ⟨us,[]⟩ us vs _ _ hr I1.env0 (by have:=hb s1 us I1.kIn (by rw[qv];exact hl);rw[qv]at this;exact this) r q) λres s' hq=>?_)
 cases res with
 | ok fl=>
  cases fl with
  | ret u=>
   obtain⟨v,H2,I2,rv,q2⟩:=I1.after hq
   exact qAx (qAx ⟨_,H2,I2,q2⟩)
  | next=>exact False.elim hq
  | brk=>exact False.elim hq
  | cont=>exact False.elim hq
 | error ev=>exact handled hN hj hn hst hfr hgc hmc hex hs hdc I1 hq
end
structure ErrAt(H:Hp)(e C dx:Addr)(d:PyData):Prop where
 ex:∃tv,H e=some (.ext (xeD e C dx tv))
 at_:∃v,H dx=some (.xd [("at",v)])/\∀H',Rp H' d v
theorem ErrAt.up{H H':Hp}{e C dx:Addr}{d:PyData}(h:ErrAt H e C dx d)(s:Same H H'):ErrAt H' e C dx d:=
 ⟨let⟨tv,z⟩:=h.ex;⟨tv,s _ _ z⟩,let⟨v,z,r⟩:=h.at_;⟨v,s _ _ z,r⟩⟩
noncomputable def SEe(j:Nat)(C:Addr)(d:PyData)(te:TE)(f:EF):Prop:=∀(fx:Addr->Prop)(H0:Hp)(env:DEnv)(σ:St)(H:Hp)(e dx:Addr),EnvOk fx H0 env σ H->σ[j]?=some (some (.ref e))->ErrAt H e C dx d->∀r,f env=some r->∀Q:VK,(∀v H',Same H H'->ValOk (lim fx env σ r.bs) H H' r v->Q v H')->te σ H Q
noncomputable def SSe(j:Nat)(C:Addr)(d:PyData)(ts:TS)(F:SF):Prop:=∀(fx:Addr->Prop)(H0:Hp)(env:DEnv)(σ:St)(H:Hp)(D:Ends)(e dx:Addr),EnvOk fx H0 env σ H->σ[j]?=some (some (.ref e))->ErrAt H0 e C dx d->∀o,F env=some o->SatK fx H0 (λk=>k=j) σ D o->ts D σ H
section
variable{j:Nat}{C:Addr}{d:PyData}
theorem zass{te:TE}{f:EF}(h:SE te f):SEe j C d te f:=λfx H0 env σ H e dx hE _ _=>h fx H0 env σ H hE
theorem zalq:SEe j C d (tXat C (tVar j)) (eC d):=by
 intro fx H0 env σ H e dx h hj he r hr Q q
 cases hr
 obtain⟨tv,he1⟩:=he.ex
 obtain⟨v,hd,rv⟩:=he.at_
 exact⟨_,hj,e,dx,tv,v,rfl,he1,hd,q v H (Same.refl _) ⟨rv _,λz=>by cases z⟩⟩
theorem zast{r:R2}{f:OF}{ta tb:TE}{fa fb:EF}(ho:SO r f)(ha:SEe j C d ta fa)(hb:SEe j C d tb fb):SEe j C d (tOp r ta tb) (eOp f fa fb):=by
 intro fx H0 env σ H e dx h hj he rr hr Q q
 unfold eOp at hr
 obtain⟨x,ex,hr⟩:=qA.mp hr
 obtain⟨y,ey,hr⟩:=qA.mp hr
 obtain⟨⟨d',fr⟩,ez,hr⟩:=qA.mp hr
 cases hr
 refine ha fx H0 env σ H e dx h hj he x ex _ λv H1 s1 v1=>hb fx H0 env σ H1 e dx (h.up s1) hj (he.up s1) y ey _ λu H2 s2 v2=>?_
 have l1:∀b,lim fx env σ (x.bs++y.bs) b->lim fx env σ x.bs b:=zjp λi hi=>qAQ _ hi
 have l2:∀b,lim fx env σ (x.bs++y.bs) b->lim fx env σ y.bs b:=zjp λi hi=>qr _ hi
 refine ho (lim fx env σ (x.bs++y.bs)) H2 v u x.d y.d ((h.up (s1.trans s2)).lims _) (v1.later (Same.refl _) s2 l1).rp (v2.later (Same.refl _) (Same.refl _) l2).rp d' fr ez _ λw H3 s3 rp fr3=>q w H3 ((s1.trans s2).trans s3) ⟨zta rp,λe=>?_⟩
 obtain⟨a,g1,g2,g3⟩:=fr3 e
 refine⟨a,g1,(s1.trans s2).free g2,?_⟩
 have nf:zex d'=false:=by cases d'<;>first|rfl|exact g3.elim
 show zjb (Offs (λb=>lim fx env σ (bsOf d' (x.bs++y.bs)) b\/b=a) H3) H3 a d'
 rw[show bsOf d' (x.bs++y.bs)=x.bs++y.bs by unfold bsOf;rw[if_neg (by rw[nf];decide)]]
 exact g3
theorem zaoo{te:TE}{f:EF}{i:Nat}(h1:SEe j C d te f)(hJ:¬i=j):SSe j C d (tAsg te (gName i)) (sSet i f):=by
 intro fx H0 env σ H D e dx h hj he o er q
 unfold sSet at er
 obtain⟨r,er',rfl⟩:=qH.mp er
 exact h1 fx H0 env σ H e dx h hj (he.up h.base) r er' _ λv H' s hv=>q _ H' (h.put s hv i) λk hk=>qO λz=>hJ (by rw[z];exact hk)
end
noncomputable def zavl(CS:List Str)(i j:Nat)(w:Str)(n:Nat)(g:GFX)(f:AF)(hd:Str->PyData->SF):SF:=λenv=>(f env).bind λrs=>if rs.length=n then(g (zia rs)).bind λr=>match r with
 | .ok d fr=>some (.nx (putV env i ⟨.tuple [.str w,d],false,bss rs⟩))
 | .rx c d=>if c∈CS then(hd c d (env.set j .no)).bind λo=>match o with
  | .nx e=>some (.nx (e.set j .no))
  | _=>none else none else none
theorem EnvOk.setNo{fx:Addr->Prop}{H0:Hp}{env:DEnv}{σ:St}{H:Hp}(h:EnvOk fx H0 env σ H)(i:Nat)(v:Option V):EnvOk fx H0 (env.set i .no) (σ.set i v) H:=by
 have oN:∀b,own (env.set i .no) (σ.set i v) b->own env σ b:=λb ⟨k,d,h1,h2⟩=>by
  rcases zcc h1 with⟨_,z⟩|⟨n,z⟩
  ·cases z
  ·exact⟨k,d,z,by rw[qO (λy=>n y.symm)]at h2;exact h2⟩
 refine⟨by rw[qx,qx];exact h.len,λk d e=>?_,λk d e=>?_,λk l d d' a e1 e2 z1 z2=>?_,h.base,h.fxs⟩
 ·rcases zcc e with⟨_,z⟩|⟨n,z⟩
  ·cases z
  ·obtain⟨u,g1,g2⟩:=h.pl k d z
   exact⟨u,by rw[qO (λy=>n y.symm)];exact g1,Rp.same (Offs.sub λb y=>y.imp id (oN b)) _ g2⟩
 ·rcases zcc e with⟨_,z⟩|⟨n,z⟩
  ·cases z
  ·obtain⟨a,g1,g2,g3,g4⟩:=h.ac k d z
   exact⟨a,by rw[qO (λy=>n y.symm)];exact g1,g2,g3,g4.same (Offs.sub λb y=>y.imp id (oN b)) λo z=>z⟩
 ·rcases zcc e1 with⟨_,z⟩|⟨n1,y1⟩
  ·cases z
  ·rcases zcc e2 with⟨_,z⟩|⟨n2,y2⟩
   ·cases z
   ·rw[qO (λy=>n1 y.symm)]at z1
    rw[qO (λy=>n2 y.symm)]at z2
    exact h.inj k l d d' a y1 y2 z1 z2
theorem zasu{cl:Str->Addr}{CS:List Str}{fx:Addr->Prop}{H0:Hp}{env:DEnv}{σ:St}{H1:Hp}{D:Ends}{j:Nat}{hd:Str->PyData->SF}{ts:Addr->TS}{c:Str}{d:PyData}{o:Out}
  (h1:EnvOk fx H0 env σ H1) (hj:j<env.length) (hc:c∈CS) (hs:∀c∈CS,∀d,SSe j (cl c) d (ts (cl c)) (hd c d)) (e:((hd c d (env.set j .no)).bind λo=>match o with|.nx e=>some (Out.nx (e.set j .no))|_=>none)=some o) (q:Sat fx H0 D o) :
  ∀k od H',RX H1 (cl c) d k od H'->tErr (λC=>∃c∈CS,C=cl c) ts j D σ H1 k od H':=by
 rintro k od H2 ⟨rfl,s2,fl,dx,v,rfl,hdx,rp⟩
 obtain⟨o1,e1,e⟩:=qA.mp e
 refine⟨cl c,dx,rfl,⟨c,hc,rfl⟩,rfl,λea H3 q1 q2 ⟨tv,hea⟩=>?_⟩
 have s3:Same H1 H3:=λb o z=>q1 b o z (s2 b o z)
 have hd3:H3 dx=some (.xd [("at",v)]):=q2 _ _ hdx (λφ z=>by cases z)
 have h3:EnvOk fx H0 (env.set j .no) (σ.set j (some (.ref ea))) H3:=(h1.up s3).setNo j _
 have noown:∀b u,H3 b=some u->(∀xs,u≠.lst xs)->(∀xs,u≠.dK xs)->¬own (env.set j .no) (σ.set j (some (.ref ea))) b:=λb u hb n1 n2 ⟨k,d',y1,y2⟩=>by
  obtain⟨a,g1,g2,g3,g4⟩:=h3.ac k d' y1
  rw[y2]at g1
  cases g1
  cases d' with
  | list ds=>obtain⟨ys,z1,_⟩:=g4;rw[hb]at z1;cases z1;exact n1 _ rfl
  | dict ds=>obtain⟨ys,z1,_⟩:=g4;rw[hb]at z1;cases z1;exact n2 _ rfl
  | _=>exact g4.elim
 refine hs c hc d fx _ _ _ H3 _ ea dx h3.rebase (qAA (by rw[<- h1.len];exact hj)) ⟨⟨tv,by rw[Offs.get (noown _ _ hea (λ_ z=>by cases z) (λ_ z=>by cases z))];exact hea⟩,v,by rw[Offs.get (noown _ _ hd3 (λ_ z=>by cases z) (λ_ z=>by cases z))];exact hd3,λH'=>zkj fl rp⟩ o1 e1 ?_
 cases o1 with
 | nx e2=>
  cases e
  exact λσ' H' h' k=>q _ _ ((h'.unbase h3.floor).setNo j none)
 | bk e2=>cases e
 | ct e2=>cases e
 | rt d2 fr=>cases e
noncomputable def zajq(CS:List Str)(j:Nat)(n:Nat)(g:GFX)(f:AF)(hd:Str->PyData->SF):SF:=λenv=>(f env).bind λrs=>if rs.length=n then(g (zia rs)).bind λr=>match r with
 | .ok d fr=>some (.nx env)
 | .rx c d=>if c∈CS then(hd c d (env.set j .no)).bind λo=>match o with
  | .nx e=>some (.nx (e.set j .no))
  | _=>none else none else none
theorem zaop{cl:Str->Addr}{CS:List Str}{j n:Nat}{g:GFX}{f:AF}{hd:Str->PyData->SF}{ta:TA}{ts:Addr->TS}(N:Nat)(hj:j<N)(ha:SA ta f)(hs:∀c∈CS,∀d,SSe j (cl c) d (ts (cl c)) (hd c d)) :
  SS (zaom (λC=>∃c∈CS,C=cl c) (spX cl n g) ta ts j) (λenv=>if env.length=N then zajq CS j n g f hd env else none):=by
 intro fx H0 env σ H D h o e q
 dsimp only at e
 split at e
 ·rename_i hN
  unfold zajq at e
  obtain⟨rs,er,e⟩:=qA.mp e
  split at e
  ·rename_i hn
   obtain⟨r,ez,e⟩:=qA.mp e
   refine ha fx H0 env σ H h rs er _ λvs H1 s1 v1=>?_
   refine⟨lim fx env σ (bss rs),zia rs,r,by rw[zib];exact hn,(h.up s1).lims _,zho (λi hi=>hi) v1,ez,?_⟩
   cases r with
   | ok d fr=>
    cases e
    intro v H2 s2 rt
    exact q _ _ (h.up (s1.trans s2))
   | rx c d=>
    dsimp only at e
    split at e
    ·rename_i hc
     exact zasu (h.up s1) (by rw[hN];exact hj) hc hs e q
    ·cases e
  ·cases e
 ·cases e
noncomputable def xcB(C:Addr)(cd:ClassData)(sl:Array (Option Value)):Bool:=match cd.mro,sl.toList with
 | .ref C'::bm,[_,_,_,_,some (.builtin n),_]=>C'==C&&!cd.hasDel&&cd.hasDict&&n=="ValueError.__new__"&&bm.contains (.type "ValueError")&&bm.contains (.type "BaseException")&&!bm.contains (.type "AttributeError")&&!bm.contains (.type "NameError")&&zfw bm
 | _,_=>false
theorem zajr{K:qB}{C:Addr}{dd:Option Addr}{cd:ClassData}{sl:Array (Option Value)}(l:K.lookup C=some ⟨.type "type",dd,.cls cd,sl⟩)(h:xcB C cd sl=true):xcIn K C=true/\xcR K C=true:=by
 unfold xcB at h
 unfold xcIn xcR
 rw[l]
 split at h
 ·rename_i C' bm a0 a1 a2 a3 n a5 hm hs
  obtain⟨nm,bs,mro,ns,qn,hd,sn,sub,ab,col,del⟩:=cd
  obtain⟨sl⟩:=sl
  dsimp only at hm hs
  subst hm
  have hs:sl=[a0,a1,a2,a3,some (.builtin n),a5]:=hs
  subst hs
  rw[qb]at h
  exact h
 ·cases h
section
variable{K:qB}{C c:Addr}
theorem zafv{b:Bool}(h1:PySem.W.isClsIn K c=true)(h2:PySem.W.typeIn K (.ref c)=some (.type "type"))(h3:PySem.W.subIn K (.ref C) (.ref c)=some b):PySem.W.kitCls K (.ref C) (.ref c)=some b:=by
 unfold PySem.W.kitCls
 dsimp only
 have h1:(PySem.W.clsIn K c).isSome=true:=h1
 rw[if_pos (by rw[h1,h2];rfl)]
 exact h3
theorem zasv(h3:PySem.W.subIn K (.ref C) (.type "ValueError")=some true):PySem.W.kitOne K (.ref C) (.type "ValueError")=some true:=by
 unfold PySem.W.kitOne
 rw[if_neg (by intro e;cases beq_iff_eq.mp e)]
 unfold PySem.W.kitCls
 dsimp only
 rw[if_pos (show PySem.W.kitMeta "ValueError"=true by decide +kernel)]
 exact h3
theorem zalr(hb:PySem.W.subIn K (.ref C) (.type "BaseException")=some true)(h1:PySem.W.isClsIn K C=true)(h2:PySem.W.typeIn K (.ref C)=some (.type "type"))(h3:PySem.W.subIn K (.ref C) (.ref C)=some true):PySem.W.exmOne K (.ref C) (.ref C)=some true:=by
 unfold PySem.W.exmOne
 rw[hb,if_pos (by rfl)]
 exact zafv h1 h2 h3
end
structure XKit(P:Program)(w:World)(K:qB)(mg:Str->Option Value)(base:Heap)(cl:Str->Addr)(CS KS:List Str)(B:Str):Prop where
 ok:∀c∈CS,XcOk P w K mg base c (cl c)
 ex:∀c∈CS,PySem.W.exmOne K (.ref (cl c)) (.ref (cl B))=some true
 kit:∀c∈CS,∀k∈KS,PySem.W.kitOne K (.ref (cl c)) (.ref (cl k))=some (decide (c=k))
 val:∀c∈CS,PySem.W.kitOne K (.ref (cl c)) (.type "ValueError")=some true
 mgk:∀k∈KS,mg k=some (.ref (cl k))
 mgB:mg B=some (.ref (cl B))
 mgV:mg "ValueError"=none
theorem zru{p:Str->Prop}:∀c∈([]:List Str),p c:=λc h=>absurd h (by simp)
theorem ztr{p:Str->Prop}{a:Str}{l:List Str}(h:p a)(t:∀c∈l,p c):∀c∈a::l,p c:=λc hc=>(qW.mp hc).elim (λe=>e▸h) (t c)
section
variable{K:qB}{C c B:Addr}{a b:Str}
theorem zasw(hb:PySem.W.subIn K (.ref B) (.type "BaseException")=some true)(h1:PySem.W.isClsIn K B=true)(h2:PySem.W.typeIn K (.ref B)=some (.type "type"))(h3:PySem.W.subIn K (.ref C) (.ref B)=some true):PySem.W.exmOne K (.ref C) (.ref B)=some true:=by
 unfold PySem.W.exmOne
 rw[hb,if_pos (by rfl)]
 exact zafv h1 h2 h3
end
section
variable{X:Cx}
theorem zaoq{C f:Addr}{o:Expr}{pos:Pos}{te:TE}(M:XMk X.K C f)(ho:Bx (PE X o te))(hb:attributeBase o "at" X.env (eval o X.env)=eval o X.env):Bx (PE X (.Attribute o "at" pos) (tXat C te)):=⟨zasp M ho.out hb⟩
theorem zaae{K:qB}{C f:Addr}{o:Expr}{pos:Pos}{te:TE}(hK:X.K=K)(M:XMk K C f)(ho:Bx (PE X o te))(hb:attributeBase o "at" X.env (eval o X.env)=eval o X.env):Bx (PE X (.Attribute o "at" pos) (tXat C te)):=by
 subst hK;exact zaoq M ho hb
theorem zatu{cl:Str->Addr}{CS KS:List Str}{k:Nat}{ps:List Str}{sp:Sp}{wd fn x n cn:Str}{x1 x2:Nat}{p cpos wpos tpos pos pos' apos hpos cp:Pos}{a:Expr}{as:List Expr}{st0:Stmt}{suite:List Stmt}{t:TA}{ts:Addr->TS}{i j:Nat}
  (D:DnX X.prog X.w X.K X.mg X.base fn ps k sp)(XK:XKit X.prog X.w X.K X.mg X.base cl CS KS cn)(hr:Room k X.A)(hg:Gl X fn)(ha:Bx (PA X.nox (a::as) t))
  (hN:X.N.Nodup)(hi:X.N[i]?=some x)(hx:X.env.scope.names.lookup x=some .local)(hj:X.N[j]?=some n)(hn:X.env.scope.names.lookup n=some .local)
  (hst:X.stack=X.env::X.outer)(hfr:X.env.frame=some X.env.locals)(hgc:Gl X cn)
  (hs:∀C e f,XMk X.K C f->PySem.W.findIn X.K (.ref C) "__class__"=some (some (.builtin "object.__class__"))->Bx (PSs (X.hold e) (st0::suite) (ts C)))
  (hdb:(fn==("__debug__":Str))=false)(hdc:(cn==("__debug__":Str))=false)(he:starEach (a::as) X.env=(false,eval a X.env)::starEach as X.env)(hpl:(backTo cpos (starEach as X.env)).any (·.1)=false)
  (hsw:swapsWith (.Tuple [.Constant (.str wd) x2 wpos,.Call (.Name fn p) (a::as) [] cpos] x1 tpos) (some (.Name x pos')) apos.line X.env=pure false) :
  Bx (PS X (.Try [.Assign [.Name x pos'] (.Tuple [.Constant (.str wd) x2 wpos,.Call (.Name fn p) (a::as) [] cpos] x1 tpos) apos] [.ExceptHandler (some (.Name cn cp)) (some n) (st0::suite) hpos] [] [] pos) (zasr (λC=>∃c∈CS,C=cl c) wd sp t ts i j)):=by
 obtain⟨f,fd,F,hm,hk,hb⟩:=D
 refine⟨zaol F hr hg hm hk hb ha.out hN hi hx hj hn hst hfr hgc XK.mgB (λC ⟨c,hc,e⟩=>by subst e;exact XK.ex c hc) (λC ⟨c,hc,e⟩ ea=>?_) hdb hdc he hpl hsw⟩
 subst e
 obtain⟨f2,_,M,_,_,_,hcl,_⟩:=XK.ok c hc
 exact(hs _ ea f2 M hcl).out
theorem zajs{cl:Str->Addr}{CS KS:List Str}{k:Nat}{ps:List Str}{sp:Sp}{fn n cn:Str}{p cpos pos epos hpos cp:Pos}{a:Expr}{as:List Expr}{st0:Stmt}{suite:List Stmt}{t:TA}{ts:Addr->TS}{j:Nat}
  (D:DnX X.prog X.w X.K X.mg X.base fn ps k sp)(XK:XKit X.prog X.w X.K X.mg X.base cl CS KS cn)(hr:Room k X.A)(hg:Gl X fn)(ha:Bx (PA X.nox (a::as) t))
  (hN:X.N.Nodup)(hj:X.N[j]?=some n)(hn:X.env.scope.names.lookup n=some .local)
  (hst:X.stack=X.env::X.outer)(hfr:X.env.frame=some X.env.locals)(hgc:Gl X cn)
  (hs:∀C e f,XMk X.K C f->PySem.W.findIn X.K (.ref C) "__class__"=some (some (.builtin "object.__class__"))->Bx (PSs (X.hold e) (st0::suite) (ts C)))
  (hdb:(fn==("__debug__":Str))=false)(hdc:(cn==("__debug__":Str))=false)(he:starEach (a::as) X.env=(false,eval a X.env)::starEach as X.env)(hpl:(backTo cpos (starEach as X.env)).any (·.1)=false)
  (hsw:swapsWith (.Call (.Name fn p) (a::as) [] cpos) none epos.line X.env=pure false) :
  Bx (PS X (.Try [.Expr (.Call (.Name fn p) (a::as) [] cpos) epos] [.ExceptHandler (some (.Name cn cp)) (some n) (st0::suite) hpos] [] [] pos) (zaom (λC=>∃c∈CS,C=cl c) sp t ts j)):=by
 obtain⟨f,fd,F,hm,hk,hb⟩:=D
 refine⟨zaon F hr hg hm hk hb ha.out hN hj hn hst hfr hgc XK.mgB (λC ⟨c,hc,e⟩=>by subst e;exact XK.ex c hc) (λC ⟨c,hc,e⟩ ea=>?_) hdb hdc he hpl hsw⟩
 subst e
 obtain⟨f2,_,M,_,_,_,hcl,_⟩:=XK.ok c hc
 exact(hs _ ea f2 M hcl).out
end
noncomputable def sIns(i:Nat)(a:AF):SF:=λenv=>match env[i]? with
 | some (.ac (.list ds))=>(a env).bind λrs=>(match rs with
  | [k,r]=>(match k.d with
   | .int z=>if 0<=z/\z.toNat<=ds.length/\ds.length<100000/\i∉r.bs then some (.nx ((frzs env r.bs).set i (.ac (.list (insL ds z.toNat r.d)))))else none
   | _=>none)
  | _=>none)
 | _=>none
section
variable{X:Cx}
theorem zaaf{cl:Str->Addr}{k:Nat}{ps:List Str}{sp:Sp}{fn cn:Str}{p cpos pos epos hpos cp:Pos}{a:Expr}{as:List Expr}{st0:Stmt}{suite:List Stmt}{t:TA}{ts:TS}
  (D:DnX X.prog X.w X.K X.mg X.base fn ps k sp)(XO:XcOk X.prog X.w X.K X.mg X.base cn (cl cn))(hr:Room k X.A)(hg:Gl X fn)(ha:Bx (PA X.nox (a::as) t))
  (hst:X.stack=X.env::X.outer)(hfr:X.env.frame=some X.env.locals)(hgc:Gl X cn)(hs:∀e,Bx (PSs (X.hold e) (st0::suite) ts))
  (hdb:(fn==("__debug__":Str))=false)(hdc:(cn==("__debug__":Str))=false)(he:starEach (a::as) X.env=(false,eval a X.env)::starEach as X.env)(hpl:(backTo cpos (starEach as X.env)).any (·.1)=false)
  (hsw:swapsWith (.Call (.Name fn p) (a::as) [] cpos) none epos.line X.env=pure false) :
  Bx (PS X (.Try [.Expr (.Call (.Name fn p) (a::as) [] cpos) epos] [.ExceptHandler (some (.Name cn cp)) none (st0::suite) hpos] [] [] pos) (zaod (cl cn) sp t ts)):=by
 obtain⟨f,fd,F,hm,hk,hb⟩:=D
 obtain⟨f2,fd2,M2,F2,hb2,hm2,hc2,he2⟩:=XO
 exact⟨zaoe F hr hg hm hk hb ha.out hst hfr hgc hm2 he2 (λe=>(hs e).out) hdb hdc he hpl hsw⟩
end
noncomputable def zvz(c:Str)(n:Nat)(g:GFX)(f:AF)(hd:SF):SF:=λenv=>(f env).bind λrs=>if rs.length=n then(g (zia rs)).bind λr=>match r with
 | .ok _ _=>some (.nx env)
 | .rx c' _=>if c'=c then hd env else none else none
theorem zafw{cl:Str->Addr}{c:Str}{n:Nat}{g:GFX}{f:AF}{hd:SF}{ta:TA}{ts:TS}(ha:SA ta f)(hs:SS ts hd):SS (zaod (cl c) (spX cl n g) ta ts) (zvz c n g f hd):=by
 intro fx H0 env σ H D h o e q
 unfold zvz at e
 obtain⟨rs,er,e⟩:=qA.mp e
 split at e
 ·rename_i hn
  obtain⟨r,ez,e⟩:=qA.mp e
  refine ha fx H0 env σ H h rs er _ λvs H1 s1 v1=>?_
  refine⟨lim fx env σ (bss rs),zia rs,r,by rw[zib];exact hn,(h.up s1).lims _,zho (λi hi=>hi) v1,ez,?_⟩
  cases r with
  | ok d fr=>
   cases e
   intro v H2 s2 rt
   exact q _ _ (h.up (s1.trans s2))
  | rx c' d=>
   have e2:(if c'=c then hd env else none)=some o:=e
   by_cases hc:c'=c
   ·rw[if_pos hc]at e2
    subst hc
    rintro k od H2 ⟨rfl,s2,fl,dx,v,rfl,hdx,rp⟩
    refine⟨rfl,dx,rfl,λea H3 q1 q2 _=>?_⟩
    exact hs fx H0 env σ H3 D ((h.up s1).up λb o z=>q1 b o z (s2 b o z)) o e2 q
   ·rw[if_neg hc]at e2;cases e2
 ·cases e
noncomputable abbrev GFT:=List PyData->Option NT
noncomputable def spT(n:Nat)(g:GFT):Sp:=λvs H Q _=>∃(fx:Addr->Prop)(ds:List PyData)(t:NT),ds.length=n/\(∀b,fx b->∃o,H b=some o)/\Rps (Offs fx H) ds vs/\g ds=some t/\
 ∀v H' as,Same H H'->NewT (Rp (Offs (λb=>fx b\/b∈as) H')) H' t v as->as.Nodup->(∀a∈as,H a=none)->Q v H'
theorem zyu{n:Nat}{g:GFT}{vs:List V}{H:Hp}{Q:VK}{E:XK}(h:spT n g vs H Q E):vs.length=n:=by
 obtain⟨fx,ds,r,hn,hf,rr,_⟩:=h
 rw[<- rr.length];exact hn
noncomputable def fnT(n:Nat)(g:NTF):GFT:=λds=>g (zkl n ds)
noncomputable def SSq(ts:XK->TS)(F:NTF):Prop:=∀(fx:Addr->Prop)(H0:Hp)(env:DEnv)(σ:St)(H:Hp)(D:Ends)(E:XK),EnvOk fx H0 env σ H->∀t,F env=some t->
 (∀v H' as,Same H0 H'->NewT (Rp (Offs (λb=>fx b\/b∈as) H')) H' t v as->as.Nodup->(∀a∈as,H0 a=none)->D.rt v H')->ts E D σ H
theorem zafx{te:TE}{g:NTF}(h:SEt te g):SSq (λ_=>tRet te) g:=by
 intro fx H0 env σ H D E hE t e q
 exact h fx H0 env σ H hE t e _ λv H' as s n d f=>q v H' as (hE.base.trans s) (NewT.mono (λd w y=>Rp.same (Offs.sub λb z=>.inl z) d y) t n λ_ _ _ z=>z) d λa ha=>hE.base.free (f a ha)
noncomputable def qSeq(f:SFX)(g:NTF):NTF:=λenv=>(f env).bind λo=>match o with
 | .ok (.nx env')=>g env'
 | _=>none
noncomputable def zwa(f:SF)(g:NTF):NTF:=λenv=>(f env).bind λo=>match o with
 | .nx env'=>g env'
 | _=>none
theorem zou{t:TS}{u:XK->TS}{f:SF}{g:NTF}(h1:SS t f)(h2:SSq u g):SSq (λE=>tSeq t (u E)) (zwa f g):=by
 intro fx H0 env σ H D E hE r e q
 unfold zwa at e
 obtain⟨o,e1,e⟩:=qA.mp e
 cases o with
 | nx env'=>exact h1 fx H0 env σ H _ hE _ e1 λσ' H' h'=>h2 fx H0 env' σ' H' D E h' r e q
 | _=>cases e
theorem zaor{N:List Str}{n:Nat}{f:NTF}{t:XK->TS}(hs:SSq t f){vs:List V}{H:Hp}{Q:VK}{E E':XK}(h:spT n (fnT N.length f) vs H Q E):t E' {nx:=λ_ H'=>Q .non H',rt:=Q} (start N vs) H:=by
 obtain⟨fx,ds,r,hn,hf,rr,g,k⟩:=h
 exact hs fx H _ _ H _ _ (zjd hf rr) r g k
noncomputable def zafy(n:Nat)(g:GFT)(f:AF):NTF:=λenv=>(f env).bind λrs=>if rs.length=n/\(bss rs).isEmpty=true then g (zia rs)else none
theorem zajt{n:Nat}{g:GFT}{ta:TA}{f:AF}{E:XK}(ha:SA ta f):SEt (tCall (spT n g) [] E ta) (zafy n g f):=by
 intro fx H0 env σ H hE t e Q q
 unfold zafy at e
 obtain⟨rs,er,e⟩:=qA.mp e
 split at e
 ·rename_i hn
  have hb:=qBZ.mp hn.2
  refine ha fx H0 env σ H hE rs er _ λvs H1 s1 v1=>?_
  rw[qv]
  refine⟨lim fx env σ (bss rs),zia rs,t,by rw[zib];exact hn.1,(hE.up s1).lims _,zho (λi hi=>hi) v1,e,λv H' as s n d f=>q v H' as (s1.trans s) (NewT.mono (λd w y=>Rp.same (Offs.sub λb z=>?_) d y) t n λ_ _ _ z=>z) d λa ha=>s1.free (f a ha)⟩
  rw[hb]
  rcases z with(z|z)|z
  ·exact .inl (zmg b (.inl z))
  ·exact .inr z
  ·exact .inl (zmg b (.inr z))
 ·cases e
mutual
def rigD:PyData->Bool
 | .tuple ds=>rigDs ds
 | .list _=>false
 | .dict _=>false
 | _=>true
def rigDs:List PyData->Bool
 | []=>true
 | d::ds=>rigD d&&rigDs ds
end
mutual
theorem zals{G G':Hp}(h:∀b xs,G b=some (.tup xs)->G' b=some (.tup xs)):∀(d:PyData){v:V},rigD d=true->Rp G d v->Rp G' d v
 | .none,v,_,r=>by unfold Rp at r ⊢;exact r
 | .bool b,v,_,r=>by unfold Rp at r ⊢;exact r
 | .int i,v,_,r=>by unfold Rp at r ⊢;exact r
 | .str x,v,_,r=>by unfold Rp at r ⊢;exact r
 | .list ds,v,f,r=>by unfold rigD at f;cases f
 | .dict ds,v,f,r=>by unfold rigD at f;cases f
 | .tuple ds,v,f,r=>by
  unfold rigD at f
  unfold Rp at r ⊢
  obtain⟨a,xs,h1,h2,h3⟩:=r
  exact⟨a,xs,h1,h a xs h2,rig_rps h ds f h3⟩
theorem rig_rps{G G':Hp}(h:∀b xs,G b=some (.tup xs)->G' b=some (.tup xs)):∀(ds:List PyData){vs:List V},rigDs ds=true->Rps G ds vs->Rps G' ds vs
 | [],vs,_,r=>by unfold Rps at r ⊢;exact r
 | d::ds,vs,f,r=>by
  unfold rigDs at f
  rw[qb]at f
  unfold Rps at r ⊢
  obtain⟨v,vs',h1,h2,h3⟩:=r
  exact⟨v,vs',h1,zals h d f.1 h2,rig_rps h ds f.2 h3⟩
end
mutual
def zhq:NT->Bool
 | .lf d=>rigD d
 | .ls ts=>flatNs ts
 | .tp ts=>flatNs ts
def flatNs:List NT->Bool
 | []=>true
 | t::ts=>zhq t&&flatNs ts
end
mutual
theorem NewT.flat{L L':PyData->V->Prop}{H:Hp}(hL:∀d v,rigD d=true->L d v->L' d v):∀(t:NT){v:V}{as:List Addr},zhq t=true->NewT L H t v as->NewT L' H t v as
 | .lf d,v,as,f,h=>by
  unfold zhq at f
  unfold NewT at h ⊢
  exact⟨h.1,hL _ _ f h.2⟩
 | .ls ts,v,as,f,h=>by
  unfold zhq at f
  unfold NewT at h ⊢
  obtain⟨a,vs,as1,h1,h2,h3,h4⟩:=h
  exact⟨a,vs,as1,h1,h2,h3,NewTs.flat hL ts f h4⟩
 | .tp ts,v,as,f,h=>by
  unfold zhq at f
  unfold NewT at h ⊢
  obtain⟨a,vs,as1,h1,h2,h3,h4⟩:=h
  exact⟨a,vs,as1,h1,h2,h3,NewTs.flat hL ts f h4⟩
theorem NewTs.flat{L L':PyData->V->Prop}{H:Hp}(hL:∀d v,rigD d=true->L d v->L' d v):∀(ts:List NT){vs:List V}{as:List Addr},flatNs ts=true->NewTs L H ts vs as->NewTs L' H ts vs as
 | [],vs,as,f,h=>by unfold NewTs at h ⊢;exact h
 | t::ts,vs,as,f,h=>by
  unfold flatNs at f
  rw[qb]at f
  unfold NewTs at h ⊢
  obtain⟨v,vs',a1,a2,h1,h2,h3,h4⟩:=h
  exact⟨v,vs',a1,a2,h1,h2,NewT.flat hL t f.1 h3,NewTs.flat hL ts f.2 h4⟩
end
noncomputable def zio(i n:Nat)(g:GFT)(f:AF):SFs:=λenv st=>(f (zfx st.hp env st.sl)).bind λrs=>if rs.length=n/\i<env.length then(g (zia rs)).bind λt=>if zhq t=true then
 some (.nx (env.set i .no) (zaoj ⟨st.sl,st.hp++(al t st.hp.length).2⟩ env.length i (al t st.hp.length).1))else none else none
theorem zmz{i n:Nat}{g:GFT}{ta:TA}{f:AF}{E:XK}(ha:SA ta f):SSs (tAsg (tCall (spT n g) [] E ta) (gName i)) (zio i n g f):=by
 rintro H0 env σ H st D ⟨fx,as,k⟩ o e q
 unfold zio at e
 obtain⟨rs,er,e⟩:=qA.mp e
 split at e
 ·rename_i hn
  obtain⟨t,et,e⟩:=qA.mp e
  split at e
  ·rename_i hf
   cases e
   have hv:=k.view
   refine ha _ H0 _ σ H hv rs er _ λvs H1 s1 v1=>?_
   rw[qv]
   refine⟨lim (λ_=>False) (zfx st.hp env st.sl) σ (bss rs),zia rs,t,by rw[zib];exact hn.1,(hv.up s1).lims _,zho (λi hi=>hi) v1,et,λv H' as1 s n d f=>?_⟩
   obtain⟨g1,g2⟩:=k.intro (s1.trans s) (NewT.flat (λd w hd y=>zals (λb xs e=>OffT.tup (Offs.of e).2) d hd y) t hf n) d λa ha=>s1.free (f a ha)
   exact q _ H' ⟨_,_,g1.setSy g2 hn.2⟩
  ·cases e
 ·cases e
section
variable{j:Nat}{C:Addr}{d:PyData}
theorem zaos{ta tb:TE}{fa fb:EF}(ha:SEe j C d ta fa)(hb:SEe j C d tb fb):SEe j C d (tAndV ta tb) (eAnd fa fb):=by
 intro fx H0 env σ H e dx h hj he rr hr Q q
 unfold eAnd at hr
 obtain⟨x,ex,hr⟩:=qA.mp hr
 obtain⟨c,ec,hr⟩:=qA.mp hr
 refine ha fx H0 env σ H e dx h hj he _ ex _ λv H1 s1 v1=>⟨c,as_b v1.rp ec,?_⟩
 cases c with
 | true=>exact iteT (hb fx H0 env σ H1 e dx (h.up s1) hj (he.up s1) _ hr _ λu H2 s2 v2=>q u H2 (s1.trans s2) (v2.later s1 (Same.refl _) λ_ z=>z))
 | false=>cases hr;exact iteF (q _ H1 s1 ⟨zan,λz=>by cases z⟩)
theorem zaot{ta:TE}{fa:EF}(ha:SEe j C d ta fa):SEe j C d (tNotV ta) (eNot fa):=by
 intro fx H0 env σ H e dx h hj he rr hr Q q
 unfold eNot at hr
 obtain⟨x,ex,hr⟩:=qA.mp hr
 obtain⟨c,ec,rfl⟩:=qH.mp hr
 exact ha fx H0 env σ H e dx h hj he _ ex _ λv H1 s1 v1=>⟨c,as_b v1.rp ec,q _ H1 s1 ⟨zan,λz=>by cases z⟩⟩
theorem zaou{K:qB}{n:String}{te:TE}{f:EF}(h1:SEe j C d te f)(hk:∀d,PySem.W.kitOne K (.type (zlu d)) (.type n)=some (isiB n d)) :
  SEe j C d (tCB (λxs H Q=>∃x n t b,xs=[x,.ty n]/\TyOf K H x t/\PySem.W.kitOne K t (.type n)=some b/\Q (.bl b) H) (tCons te (tCons (tC (.ty n)) tNil))) (eIsi n f):=by
 intro fx H0 env σ H e dx h hj he rr hr Q q
 unfold eIsi at hr
 obtain⟨x,ex,rfl⟩:=qH.mp hr
 refine h1 fx H0 env σ H e dx h hj he _ ex _ λv H1 s1 v1=>?_
 exact⟨v,n,_,_,rfl,zary (Rp.same (Offs.same _ _) _ v1.rp),hk _,q _ H1 s1 ⟨zan,λz=>by cases z⟩⟩
end
theorem zaju{t:TS}{F:SFs}(hs:SSs t F){fx:Addr->Prop}{env:DEnv}{σ:St}{H0 H1:Hp}{Q:VK}{nx:St->Hp->Prop}(hE:EnvOk fx H0 env σ H1)(e:F env ⟨[],[]⟩=some (.rt (.bool true)))(k:∀H',Q (.bl true) H'):t {nx:=nx,rt:=Q} σ H1:=
 hs H0 env σ H1 _ _ (HasF.start hE) _ e λv H' s f r=>by
  have r:v=.bl true:=zis r
  rw[r];exact k H'
theorem zajv{X:Cx}{i:Nat}{x:Str}{e:Expr}{te:TE}{pos pos':Pos}(hN:X.N.Nodup)(hi:X.N[i]?=some x)(hx:Loc X.env.scope x)(he:Bx (PE X e te))(hf:X.fn x=true\/X.env.scope.names.lookup x=some .local) :
  Bx (PS X (.AugAssign (.Name x pos') .Mult e pos) (tAug i te (rI CMul λi j=>.int (i * j)))):=⟨zaqu hN hi hx he.out zams hf⟩
noncomputable def zaby(i:Nat)(f:EF):SF:=λenv=>match env[i]? with
 | some (.pl (.int a))=>(f env).bind λr=>match r.d with
  | .int b=>if -(2 ^ 60)<a/\a<2 ^ 60/\-(2 ^ 60)<b/\b<2 ^ 60 then some (.nx (env.set i (.pl (.int (a * b)))))else none
  | _=>none
 | _=>none
theorem zaov{i:Nat}{te:TE}{f:EF}(h1:SE te f):SS (tAug i te (rI CMul λi j=>.int (i * j))) (zaby i f):=by
 intro fx H0 env σ H D h o e q
 unfold zaby at e
 split at e
 ·rename_i a ei
  obtain⟨r,er,e⟩:=qA.mp e
  split at e
  ·rename_i b eb
   split at e
   ·rename_i hb
    cases e
    obtain⟨v,k1,k2⟩:=h.pl i _ ei
    cases zcw k2
    refine⟨_,k1,h1 fx H0 env σ H h r er _ λw H' s hv=>?_⟩
    have hw:=hv.rp
    rw[eb]at hw
    cases zcw hw
    exact⟨a,b,rfl,rfl,by unfold CMul;omega,q _ H' ((h.up s).setPl i zad)⟩
   ·cases e
  ·cases e
 ·cases e
noncomputable def SEo(te:TE)(g:NTF):Prop:=∀(fx:Addr->Prop)(H0:Hp)(env:DEnv)(σ:St)(H:Hp),EnvOk fx H0 env σ H->∀t,g env=some t->∀Q:VK,
 (∀v H' as,Same H H'->NewT (Rp (Offs (λb=>fx b\/b∈as) H')) H' t v as->as.Nodup->(∀a∈as,own env σ a\/H a=none)->Q v H')->te σ H Q
noncomputable def SAo(ta:TA)(g:NTFs):Prop:=∀(fx:Addr->Prop)(H0:Hp)(env:DEnv)(σ:St)(H:Hp),EnvOk fx H0 env σ H->∀ts,g env=some ts->∀Q:List V->Hp->Prop,
 (∀vs H' as,Same H H'->NewTs (Rp (Offs (λb=>fx b\/b∈as) H')) H' ts vs as->as.Nodup->(∀a∈as,own env σ a\/H a=none)->Q vs H')->ta σ H Q
theorem zajw{te:TE}{g:NTF}(h:SEo te g):SSq (λ_=>tRet te) g:=by
 intro fx H0 env σ H D E hE t e q
 refine h fx H0 env σ H hE t e _ λv H' as s n d f=>q v H' as (hE.base.trans s) n d λa ha=>?_
 rcases f a ha with⟨i,d,g1,g2⟩|z
 ·obtain⟨b,k1,k2,_,_⟩:=hE.ac i d g1
  rw[g2]at k1
  cases k1
  exact k2
 ·exact hE.base.free z
noncomputable def zaow(j:Nat):NTFs:=λenv=>match env[j]? with
 | some (.ac (.list ds))=>some [.ls (ds.map .lf)]
 | _=>none
theorem zaox(j:Nat):SAo (tCons (tVar j) tNil) (zaow j):=by
 intro fx H0 env σ H hE ts e Q q
 unfold zaow at e
 split at e
 ·rename_i ds ej
  cases e
  obtain⟨a,k1,k2,k3,k4⟩:=hE.ac j _ ej
  obtain⟨xs,k5,k6⟩:=k4
  refine⟨_,k1,q [.ref a] H [a] (Same.refl _) ?_ (qt.mpr ⟨(λz=>by cases z),qA1⟩) λb hb=>?_⟩
  ·refine zhv (a1:=[a]) (a2:=[]) ?_ zkq
   unfold NewT
   refine⟨a,xs,[],rfl,k5,rfl,ztp (λd w y=>Rp.same (Offs.sub λb z=>?_) d y) k6⟩
   rcases z with z|z
   ·exact .inl z
   ·rcases qW.mp z with rfl|z
    ·exact .inr ⟨j,_,ej,k1⟩
    ·cases z
  ·rcases qW.mp hb with rfl|hb
   ·exact .inl ⟨j,_,ej,k1⟩
   ·cases hb
 ·cases e
theorem zaag{te:TE}{ta:TA}{g:NTF}{k:NTFs}(h1:SEt te g)(h2:SAo ta k):SAo (tCons te ta) (zfa g k):=by
 intro fx H0 env σ H hE t e Q q
 unfold zfa at e
 obtain⟨t1,e1,e⟩:=qA.mp e
 obtain⟨ts,e2,rfl⟩:=qH.mp e
 refine h1 fx H0 env σ H hE t1 e1 _ λv H1 as1 s1 n1 d1 f1=>?_
 have l1:=NewT.live t1 n1
 have hE1:=hE.more s1 f1 l1
 refine h2 _ H0 env σ H1 hE1 ts e2 _ λvs H2 as2 s2 n2 d2 f2=>?_
 have sw:∀b,fx b\/b∈as1++as2↔(fx b\/b∈as1)\/b∈as2:=λb=>by rw[qc,or_assoc]
 refine q (v::vs) H2 (as1++as2) (s1.trans s2) (zhv (NewT.mono (λd w y=>Rp.same (Offs.mono s2 λb o eo n z=>?_) d y) t1 n1 λa _ o z=>s2 a o z) (NewTs.mono (λd w y=>Rp.same (Offs.sub λb z=>(sw b).mp z) d y) ts n2 λ_ _ _ z=>z)) (qAe.mpr ⟨d1,d2,λa ha b hb e=>?_⟩) λa ha=>?_
 ·rcases(sw b).mp z with z|z
  ·exact n (.inl z)
  ·rcases f2 b z with y|y
   ·exact n (.inr y)
   ·rw[eo]at y;cases y
 ·subst e
  rcases f2 a hb with y|y
  ·exact hE1.notOwn (.inr ha) y
  ·obtain⟨o,eo⟩:=l1 a ha;rw[y]at eo;cases eo
 ·rcases qc.mp ha with z|z
  ·exact .inr (f1 a z)
  ·exact(f2 a z).imp id s1.free
theorem zaoy{ta:TA}{k:NTFs}(h:SAo ta k):SEo (tTup ta) (pTup k):=by
 intro fx H0 env σ H hE t e Q q
 unfold pTup at e
 obtain⟨ts,e1,e⟩:=qA.mp e
 split at e
 ·rename_i hl
  cases e
  refine h fx H0 env σ H hE ts e1 _ λvs H1 as1 s1 n1 d1 f1=>⟨zha (by rw[<- zmy n1];exact hl),λp hp=>?_⟩
  have l1:=NewTs.live ts n1
  have np:p∉as1:=λz=>by obtain⟨o,eo⟩:=l1 p z;rw[hp]at eo;cases eo
  refine q _ _ (p::as1) (s1.trans (Same.new hp)) ?_ (qt.mpr ⟨np,d1⟩) λa ha=>by
   rcases qW.mp ha with rfl|ha
   ·exact .inr (s1.free hp)
   ·exact f1 a ha
  unfold NewT
  refine⟨p,vs,as1,rfl,zaw,rfl,NewTs.mono (λd w y=>Rp.same (Offs.mono (Same.new hp) λb o e n z=>?_) d y) ts n1 λa _ o z=>Same.new hp a o z⟩
  rcases z with z|z
  ·exact n (.inl z)
  ·rcases qW.mp z with rfl|z
   ·rw[hp]at e;cases e
   ·exact n (.inr z)
 ·cases e
section
variable{J:Nat->Prop}{K:qB}{i:Nat}
theorem zaoz:SSk J (tDrop (tBM0 K "list" zadr (tVar i))) (sClr i):=by
 intro fx H0 env σ H D h o e q
 unfold sClr at e
 split at e
 ·rename_i ds ei
  cases e
  obtain⟨a,g1,g2,g3,g4⟩:=h.ac i _ ei
  obtain⟨xs,hx,rx⟩:=g4
  exact⟨_,g1,.inl ⟨rfl,_,SqL.of hx⟩,a,xs,rfl,rfl,hx,q σ _ (h.mut ei g1 ⟨_,zaw,zet⟩) λ_ _=>rfl⟩
 ·cases e
theorem zapa{ta:TA}{g:AF}(h1:SA ta g):SSk J (tDrop (tBM K "list" zafm (tVar i) ta)) (sIns i g):=by
 intro fx H0 env σ H D h o e q
 unfold sIns at e
 split at e
 ·rename_i ds ei
  obtain⟨rs,er,e⟩:=qA.mp e
  split at e
  ·rename_i k r
   split at e
   ·rename_i z hz
    split at e
    ·rename_i hl
     cases e
     obtain⟨a,g1,g2,g3,g4⟩:=h.ac i _ ei
     obtain⟨xs0,hx0,rx0⟩:=g4
     refine⟨_,g1,.inl ⟨rfl,_,SqL.of hx0⟩,h1 fx H0 env σ H h _ er _ λvs H' s hv=>?_⟩
     cases hv with
     | cons hk t=>
      cases t with
      | cons hr t=>
       cases t
       have hk:=hk.rp
       rw[hz]at hk
       cases zcw hk
       have h':=(h.up s).frzs r.bs
       have ei':=ztg hl.2.2.2 ei
       obtain⟨a',z1,_,_,z4⟩:=h'.ac i _ ei'
       rw[g1]at z1
       cases z1
       obtain⟨xs,hx',rx'⟩:=z4
       refine⟨a,xs,z.toNat,_,rfl,by rw[Int.toNat_of_nonneg hl.1],hx',by rw[<- rx'.length];exact hl.2.1,znq (by rw[<- rx'.length];exact hl.2.2.1),by omega,?_⟩
       exact q σ _ (h'.mut ei' g1 ⟨_,zaw,rx'.ins z.toNat (Rp.same (Offs.sub zjq) _ hr.rp)⟩) λ_ _=>rfl
    ·cases e
   ·cases e
  ·cases e
 ·cases e
noncomputable def zabz(i:Nat)(g:EF):SF:=λenv=>match env[i]? with
 | some (.ac (.list ds))=>(g env).bind λr=>match r.d with
  | .int k=>(ixN ds.length k).bind λj=>if ds.length<=100000 then some (.nx (env.set i (.ac (.list (ds.eraseIdx j)))))else none
  | _=>none
 | _=>none
theorem zafz{H:Hp}{ds:List PyData}{vs:List V}(h:Rps H ds vs)(j:Nat):Rps H (ds.eraseIdx j) (vs.eraseIdx j):=zcb.mpr (zof (zcb.mp h) j)
theorem zajx{te:TE}{g:EF}(h1:SE te g):SSk J (tDrop (tBM K "list" zadq (tVar i) (tCons te tNil))) (zabz i g):=by
 intro fx H0 env σ H D h o e q
 unfold zabz at e
 split at e
 ·rename_i ds ei
  obtain⟨r,er,e⟩:=qA.mp e
  split at e
  ·rename_i k ek
   obtain⟨j,ej,e⟩:=qA.mp e
   split at e
   ·rename_i hl
    cases e
    obtain⟨a,g1,g2,g3,g4⟩:=h.ac i _ ei
    obtain⟨xs0,hx0,_⟩:=g4
    refine⟨_,g1,.inl ⟨rfl,_,SqL.of hx0⟩,h1 fx H0 env σ H h r er _ λw H' s hv=>?_⟩
    have hw:=hv.rp
    rw[ek]at hw
    cases zcw hw
    have h':=h.up s
    obtain⟨a',z1,_,z3,z4⟩:=h'.ac i _ ei
    rw[g1]at z1
    cases z1
    obtain⟨xs,hx,rx⟩:=z4
    have hlen:=rx.length
    obtain⟨c1,c2,c3,c4⟩:=zadm ej
    exact⟨a,xs,k,j,xs[j]'(by omega),rfl,rfl,hx,by omega,by omega,by rw[<- hlen];exact c1,qF _,q σ _ (h'.mut ei g1 ⟨_,zaw,zafz rx j⟩) λ_ _=>rfl⟩
   ·cases e
  ·cases e
 ·cases e
end
end L2
namespace Bc
open PySem L2
noncomputable def zji:SF:=(sRet (zgi ["name","elders"] [] (zbu (eVar 0)) (gT 2 (zaq 0 (zaq 1 zcq))) zdt (eVar 0)))
noncomputable def zfn:GF:=fnD 1 zji
noncomputable def zwb:SF:=(sSeq (sSet 2 (eLst aNil))
  (sSeq (sFor (zez (zac (eVar 1) aNil)) (gT 2 (zaq 3 (zaq 4 zcq)))
  (sSeq (sSet 5 (eSl (eVar 1) zds (zce (eVar 3))))
  (sSeq (sSet 6 (eOp zfg (eIxV 0 (eVar 3)) (eC (.int 5))))
  (sSeq (sSet 7 (eLst aNil))
  (sSeq (sFor (zfh (zac (eCB minD (zac (eOp modD (eIxV 0 (eVar 3)) (eC (.int 5))) (zac (eVar 3) aNil))) aNil)) (gN 8)
  (sSeq (sSet 9 (eOp modD (eVar 6) (eCB lenD (zac (eVar 5) aNil))))
  (sSeq (sSet 6 (eOp zfg (eVar 6) (eCB lenD (zac (eVar 5) aNil))))
  (zml 7 5 (eVar 9)))))
  (sApp 2 (eTup (zac (eVar 4) (zac (eVar 7) aNil)))))))))
  (zom 2)))
noncomputable def zkr:GF:=fnD 10 zwb
theorem zog{α:Type}{enc out:α->PyData}{g:GT}{t:TF}{e:EF}{env:DEnv}(p:α->Bool):∀{l:List α},(∀x∈l,∃e1,g (enc x) env=some e1/\t e1=some (p x)/\(p x=true->∃r,e e1=some r/\r.d=out x))->
  zje g t e env (l.map enc)=some ((l.filter p).map out)
 | [],_=>rfl
 | x::l,h=>by
  obtain⟨e1,h1,h2,h3⟩:=h x qk
  have ih:=zog (l:=l) p λy hy=>h y (qK _ hy)
  rw[qAV]
  unfold zje
  rw[h1,qC,h2,qC]
  cases hp:p x with
  | false=>
   rw[if_neg qP,ih,List.filter_cons,hp];rfl
  | true=>
   obtain⟨r,h4,h5⟩:=h3 hp
   rw[if_pos rfl,h4,qC,ih,List.filter_cons,hp]
   simp[h5]
theorem zfy{α:Type}{enc out:α->PyData}{g:GT}{t:TF}{e:EF}{env:DEnv}{l:List α}(h:∀x∈l,∃e1,g (enc x) env=some e1/\t e1=some true/\∃r,e e1=some r/\r.d=out x):zje g t e env (l.map enc)=some (l.map out):=by
 have q:=zog (enc:=enc) (out:=out) (g:=g) (t:=t) (e:=e) (env:=env) (λ_=>true) (l:=l) λx hx=>let⟨e1,h1,h2,h3⟩:=h x hx;⟨e1,h1,h2,λ_=>h3⟩
 rw[q]
 congr 2
 exact List.filter_eq_self.mpr λ_ _=>rfl
theorem zaah{α:Type}{enc:α->PyData}{g:GT}{body:SF}(I:List α->DEnv->Prop)(all:List α):∀(l pre:List α)(env:DEnv),pre++l=all->I pre env->
  (∀pre x post env,pre++x::post=all->I pre env->∃e1 e2,g (enc x) env=some e1/\(body e1=some (.nx e2)\/body e1=some (.ct e2))/\I (pre++[x]) e2)->∃env',forL g body (l.map enc) env=some (.nx env')/\I all env'
 | [],pre,env,hall,h0,hs=>by
  rw[qv]at hall
  subst hall
  exact⟨env,rfl,h0⟩
 | x::l,pre,env,hall,h0,hs=>by
  obtain⟨e1,e2,h1,h2,h3⟩:=hs pre x l env hall h0
  obtain⟨env',h4,h5⟩:=zaah I all l (pre++[x]) e2 (by rw[<- hall];simp) h3 hs
  refine⟨env',?_,h5⟩
  rw[qAV]
  unfold forL
  rw[h1,qC]
  rcases h2 with h2|h2<;>rw[h2,qC]<;>exact h4
theorem zid{α:Type}{enc:α->PyData}{g:GT}{body:SF}{l:List α}{env:DEnv}(I:List α->DEnv->Prop)(h0:I [] env)(hs:∀pre x post env,pre++x::post=l->I pre env->∃e1 e2,g (enc x) env=some e1/\(body e1=some (.nx e2)\/body e1=some (.ct e2))/\I (pre++[x]) e2) :
  ∃env',forL g body (l.map enc) env=some (.nx env')/\I l env':=zaah I l l [] env rfl h0 hs
noncomputable def zek(cs:List Int):PyData:=.list (cs.map .int)
theorem zaai{H:Hp}:∀(cs:List Int),Rps H (cs.map .int) (cs.map .int)
 | []=>zet
 | c::cs=>zfd zad (zaai cs)
noncomputable def envL(n:Nat)(cs:List Int):DEnv:=.no::.pl (zek cs)::List.replicate n .no
theorem zapb{H1:Hp}{a pc:Addr}{cs:List Int}{n:Nat}(e:H1 pc=some (.lst (cs.map .int))):EnvOk (λ_=>False) H1 (envL n cs) (some (.ref a)::some (.ref pc)::List.replicate n none) H1:=by
 have no:∀(i:Nat)(d:PyData),(envL n cs)[i]?≠some (Sl.ac d):=λi d=>by
  unfold envL
  cases i with
  | zero=>simp
  | succ i=>cases i with
   | zero=>simp
   | succ i=>simp[qA3]
 refine⟨by unfold envL;simp,λi d h=>?_,λi d h=>absurd h (no i d),λi j d e a h=>absurd h (no i d),Same.refl _,λb z=>z.elim⟩
 unfold envL at h
 cases i with
 | zero=>simp at h
 | succ i=>cases i with
  | zero=>
   simp at h
   subst h
   refine⟨.ref pc,rfl,zja ?_ (zaai cs)⟩
   rw[Offs.get]
   ·exact e
   ·rintro(z|⟨j,d',z,_⟩)
    ·exact z
    ·exact no j d' z
  | succ i=>simp[qA3]at h
theorem zbb{f g:SF}{env e1:DEnv}{o:Option Out}(h:f env=some (.nx e1))(k:g e1=o):sSeq f g env=o:=by unfold sSeq;rw[h];exact k
theorem zgf{f g:SF}{env:DEnv}{d:PyData}{fr:Bool}(h:f env=some (.rt d fr)):sSeq f g env=some (.rt d fr):=by unfold sSeq;rw[h];rfl
theorem zks{f:IF'}{g:GT}{b:SF}{env:DEnv}{ds:List PyData}{bs:List Nat}{o:Option Out}(h:f env=some (ds,bs))(k:forL g b ds (frzs env bs)=o):sFor f g b env=o:=by
 unfold sFor;rw[h];exact k
theorem if_t{c:TF}{f g:SF}{env:DEnv}{o:Option Out}(h:c env=some true)(k:f env=o):sIf c f g env=o:=by unfold sIf;rw[h];exact k
theorem if_f{c:TF}{f g:SF}{env:DEnv}{o:Option Out}(h:c env=some false)(k:g env=o):sIf c f g env=o:=by unfold sIf;rw[h];exact k
theorem zdz{i:Nat}{f:EF}{env:DEnv}{r:Val}(h:f env=some r):sSet i f env=some (.nx (putV env i r)):=by unfold sSet;rw[h];rfl
theorem zkt{f:EF}{env:DEnv}{d:PyData}{fr:Bool}{bs:List Nat}(h:f env=some ⟨d,fr,bs⟩):sRet f env=some (.rt d fr):=by unfold sRet;rw[h];rfl
theorem zcy{n:Nat}{g:GF}{f:AF}{env:DEnv}{rs:List Val}{d:PyData}{fr:Bool}(h:f env=some rs)(hn:rs.length=n)(k:g (zia rs)=some (d,fr)):zbl n g f env=some ⟨d,fr,bsOf d (bss rs)⟩:=by
 unfold zbl;rw[h,qC,if_pos hn,k];rfl
theorem zku{own:List Str}{fr:List Nat}{fi:IF'}{g:GT}{t:TF}{e:EF}{env:DEnv}{ds:List PyData}{bs:List Nat}{rs:List PyData}(h:fi env=some (ds,bs))(hl:ds.length<100000)(k:zje g t e (envB own fr env) ds=some rs) :
  zgi own fr fi g t e env=some ⟨.list rs,true,if zhh rs=true then[]else bs++capA fr env⟩:=by
 unfold zgi;rw[h,qC,if_pos hl,k];rfl
theorem zfi{n:Nat}{f:SF}{ds:List PyData}{env:DEnv}{d:PyData}{fr:Bool}(h:zkl n ds=env)(e:f env=some (.rt d fr)):fnD n f ds=some (d,fr):=by
 unfold fnD;rw[h,e]
theorem zpx(n:Int):neD (.int n) (.int n)=some (.bool false,false):=by
 have e:qZ (.int n) (.int n)=true:=by unfold qZ;exact beq_self_eq_true n
 show some (PyData.bool (!PyData.eqv (.int n) (.int n)),false)=_
 rw[e];rfl
noncomputable def zai(xs:List Str):PyData:=.list (xs.map .str)
noncomputable def rowD(p:Str×List Str):PyData:=.tuple [.str p.1,zai p.2]
noncomputable def webD(W:Web):PyData:=.list (W.map rowD)
theorem zrv(xs:List Str):zhh (xs.map .str)=true:=by
 unfold zhh
 rw[qB5]
 exact qs.mpr λ_ _=>rfl
theorem zaaj(xs:List Str)(x:Str):((xs.map PyData.str).any λe=>qZ e (.str x))=decide (x∈xs):=by
 rw[qCK,qAU,qBb,decide_eq_true_iff]
 constructor
 ·rintro⟨y,hy,h⟩
  have:y=x:=by simpa [qZ]using h
  rw[<- this];exact hy
 ·exact λh=>⟨x,h,by simp[qZ]⟩
theorem zapc(b:Bool)(xs:List Str)(x:Str):inD b (.str x) (zai xs)=some (.bool (if b then !decide (x∈xs)else decide (x∈xs)),false):=by
 unfold inD zai
 simp only[zim]
 rw[if_pos ⟨rfl,zrv xs⟩,zaaj]
theorem zaca{W:Web}(hl:W.length<100000):zfn [webD W]=some (zai (nm W),true):=by
 have c:zje (gT 2 (zaq 0 (zaq 1 zcq))) zdt (eVar 0) [.no,.no] (W.map rowD)=some (W.map λp=>PyData.str p.1):=zfy λp _=>⟨[.pl (.str p.1),.pl (zai p.2)],rfl,rfl,⟨.str p.1,false,[]⟩,rfl,rfl⟩
 have e:zji [.pl (webD W)]=some (.rt (zai (nm W)) true):=by
  unfold zji sRet zgi zbu
  simp only[eVar,qBO,qC,webD,zim,qB0,qD]
  rw[if_pos hl]
  show Option.map _ (Option.map _ (zje _ _ _ [.no,.no] _))=_
  rw[c]
  unfold zai nm
  simp
 show(match zji [.pl (webD W)]with|some (.rt d fr)=>some (d,fr)|some (.nx _)=>some (.none,false)|_=>none)=_
 rw[e]
noncomputable def upL(acc:List (Str×List Str))(e:Str):List Str:=(acc.lookup e).getD []
theorem zaga(W:Web)(p:Str×List Str):nm (W++[p])=nm W++[p.1]:=by unfold nm;rw[q0];rfl
theorem zajy{W:Web}(h:WebOk W){n:Str}{es:List Str}(hm:(n,es)∈W):∀e∈es,e∈nm W:=λe he=>by
 obtain⟨i,hi,e'⟩:=qAl hm
 have q:=h.el i n es (by rw[qF hi,e']) e he
 obtain⟨p,h1,h2⟩:=qAI.mp q
 exact qAI.mpr ⟨p,qAs h1,h2⟩
noncomputable def ltr(i:Int):Str:=⟨#[97+i.toNat]⟩
noncomputable def Low(x:Str):Prop:=∀c∈x.cps.toList,c<128
theorem zpy{x:Str}(h:Low x):qAT x=true:=by
 unfold qAT
 rw[<- Array.all_toList,qs]
 intro c hc
 have:=h c hc
 exact decide_eq_true (by omega)
theorem zhr(a b:Str):(a++b).cps.toList=a.cps.toList++b.cps.toList:=by
 show(a.cps++b.cps).toList=_
 simp
theorem Low.app{a b:Str}(h1:Low a)(h2:Low b):Low (a++b):=λc hc=>by
 rw[zhr]at hc
 exact(qc.mp hc).elim (h1 c) (h2 c)
theorem Low.slice{x:Str}(h:Low x)(l u:Option Int):Low (Txt.slice x l u):=λc hc=>by
 unfold Txt.slice at hc
 split at hc
 ·exact h c hc
 ·have hc:c∈(List.filterMap (x.cps[·]?) (Builtin.Str.strSliceIndices l u 1 x.length)):=by simpa using hc
  obtain⟨i,_,e⟩:=qBk.mp hc
  exact h c (by
   have:=qCn e
   simpa using this)
theorem Low.ltr{i:Int}(h0:0<=i)(h1:i<26):Low (ltr i):=λc hc=>by
 have:c=97+i.toNat:=by simpa [Bc.ltr]using hc
 omega
theorem foldl_rep(c:Nat):∀(n:Nat)(acc:Array Nat),((List.replicate n #[c]).foldl (·++·) acc).toList=acc.toList++List.replicate n c
 | 0,acc=>by simp
 | n+1,acc=>by
  rw[qAP,List.foldl_cons,foldl_rep c n,qAP]
  simp
theorem zll{c:Nat}{n:Int}(h:0<=n):(Txt.mul ⟨#[c]⟩ n).cps.toList=List.replicate n.toNat c:=by
 unfold Txt.mul
 split
 ·have:n.toNat=0:=by omega
  rw[this];rfl
 ·split
  ·rename_i h1 h2
   have:n=1:=by
    rcases qCB.mp h2 with z|z
    ·exact eq_of_beq z
    ·exact absurd z (by simp[Str.length])
   subst this
   rfl
  ·rw[foldl_rep];rfl
theorem Low.mul{c:Nat}(hc:c<128){n:Int}(h:0<=n):Low (Txt.mul ⟨#[c]⟩ n):=λd hd=>by
 rw[zll h]at hd
 rw[qAo hd];exact hc
theorem zagb{c:Nat}{n:Int}(h:0<=n):(Txt.mul ⟨#[c]⟩ n).length=n.toNat:=by
 have:=congrArg List.length (zll (c:=c) h)
 rw[qAJ]at this
 simpa [Str.length]using this
noncomputable def zjs(md o st:Int)(stem:Str)(at_:Int)(k:Nat):Str:=
 if md=0 then Txt.slice stem none (some at_)++ltr ((o+st * k) % 26)++Txt.slice stem (some at_) none
 else if md=1 then Txt.slice stem none (some (k * st % (stem.length+1)))++ltr ((o+st * k) % 26)
 else Txt.mul (ltr ((o+k / 8) % 26)) (1+k * st % 8)
theorem zagc{i j:Int}(h0:0<=i)(h1:0<=j)(h:ltr i=ltr j):i=j:=by
 unfold ltr at h
 have:#[97+i.toNat]=#[97+j.toNat]:=by injection h
 have:97+i.toNat=97+j.toNat:=by simpa using this
 omega
theorem zwc:∀st∈([1,3,5,7,9,11,15,17]:List Nat),∀a<16,∀b<16,st * a % 26=st * b % 26->a=b:=by decide +kernel
theorem zaak{o st:Int}(hs:st∈([1,3,5,7,9,11,15,17]:List Int)){a b:Nat}(ha:a<16)(hb:b<16)(h:(o+st * a) % 26=(o+st * b) % 26):a=b:=by
 have h2:=Int.emod_add_cancel_left.mp h
 simp only[qW,qBy,or_false]at hs
 rcases hs with rfl|rfl|rfl|rfl|rfl|rfl|rfl|rfl
 ·exact zwc 1 (by decide) a ha b hb (by exact_mod_cast h2)
 ·exact zwc 3 (by decide) a ha b hb (by exact_mod_cast h2)
 ·exact zwc 5 (by decide) a ha b hb (by exact_mod_cast h2)
 ·exact zwc 7 (by decide) a ha b hb (by exact_mod_cast h2)
 ·exact zwc 9 (by decide) a ha b hb (by exact_mod_cast h2)
 ·exact zwc 11 (by decide) a ha b hb (by exact_mod_cast h2)
 ·exact zwc 15 (by decide) a ha b hb (by exact_mod_cast h2)
 ·exact zwc 17 (by decide) a ha b hb (by exact_mod_cast h2)
theorem zapd{x y:Int}(hx:0<=x)(hy:0<=y)(h:97+x.toNat=97+y.toNat):x=y:=by omega
theorem zasx{x y:Int}(hx:0<=x)(hy:0<=y)(h:(1+x).toNat=(1+y).toNat):x=y:=by omega
theorem zagd{x:Int}(hx:0<=x):(1+x).toNat=x.toNat+1:=by omega
theorem tab8:∀st∈([1,3,5,7,9,11,15,17]:List Nat),∀a<16,∀b<16,a / 8=b / 8->a * st % 8=b * st % 8->a=b:=by decide +kernel
theorem zage{o st:Int}(hs:st∈([1,3,5,7,9,11,15,17]:List Int)){a b:Nat}(ha:a<16)(hb:b<16)(h:(o+(a:Int) / 8) % 26=(o+(b:Int) / 8) % 26)(h2:(a:Int) * st % 8=b * st % 8):a=b:=by
 have q1:a / 8=b / 8:=by omega
 simp only[qW,qBy,or_false]at hs
 rcases hs with rfl|rfl|rfl|rfl|rfl|rfl|rfl|rfl
 ·exact tab8 1 (by decide) a ha b hb q1 (by exact_mod_cast h2)
 ·exact tab8 3 (by decide) a ha b hb q1 (by exact_mod_cast h2)
 ·exact tab8 5 (by decide) a ha b hb q1 (by exact_mod_cast h2)
 ·exact tab8 7 (by decide) a ha b hb q1 (by exact_mod_cast h2)
 ·exact tab8 9 (by decide) a ha b hb q1 (by exact_mod_cast h2)
 ·exact tab8 11 (by decide) a ha b hb q1 (by exact_mod_cast h2)
 ·exact tab8 15 (by decide) a ha b hb q1 (by exact_mod_cast h2)
 ·exact tab8 17 (by decide) a ha b hb q1 (by exact_mod_cast h2)
theorem zagf{md o st at_:Int}{stem:Str}(hs:st∈([1,3,5,7,9,11,15,17]:List Int))(ho:0<=o){a b:Nat}(ha:a<16)(hb:b<16)(h:zjs md o st stem at_ a=zjs md o st stem at_ b):a=b:=by
 have st0:0<=st:=by
  simp only[qW,qBy,or_false]at hs
  rcases hs with rfl|rfl|rfl|rfl|rfl|rfl|rfl|rfl<;>decide
 have n26:∀z:Int,0<=z % 26:=λz=>qAE z (by decide)
 unfold zjs at h
 by_cases h0:md=0
 ·rw[if_pos h0,if_pos h0]at h
  have q:=congrArg (λx:Str=>x.cps.toList) h
  simp only[zhr]at q
  have q2:=List.append_cancel_right q
  have q3:=List.append_cancel_left q2
  have q4:ltr ((o+st * a) % 26)=ltr ((o+st * b) % 26):=by
   unfold ltr at q3 ⊢
   congr 1
   exact Array.toList_inj.mp q3
  exact zaak hs ha hb (zagc (n26 _) (n26 _) q4)
 ·rw[if_neg h0,if_neg h0]at h
  by_cases h1:md=1
  ·rw[if_pos h1,if_pos h1]at h
   have q:=congrArg (λx:Str=>x.cps.toList) h
   simp only[zhr]at q
   have q3:=(List.append_inj' q (by simp[ltr])).2
   have q4:ltr ((o+st * a) % 26)=ltr ((o+st * b) % 26):=by
    unfold ltr at q3 ⊢
    congr 1
    exact Array.toList_inj.mp q3
   exact zaak hs ha hb (zagc (n26 _) (n26 _) q4)
  ·rw[if_neg h1,if_neg h1]at h
   have m8:∀z:Int,0<=z % 8:=λz=>qAE z (by decide)
   have q:(Txt.mul (ltr ((o+(a:Int) / 8) % 26)) (1+a * st % 8)).cps.toList=(Txt.mul (ltr ((o+(b:Int) / 8) % 26)) (1+b * st % 8)).cps.toList:=by rw[h]
   have ea:∀k:Nat,(Txt.mul (ltr ((o+(k:Int) / 8) % 26)) (1+k * st % 8)).cps.toList=List.replicate (1+(k:Int) * st % 8).toNat (97+((o+(k:Int) / 8) % 26).toNat):=λk=>zll (by have:=m8 (k * st);omega)
   rw[ea a,ea b]at q
   have ql:=congrArg List.length q
   rw[qAJ,qAJ]at ql
   have w1:=m8 (a * st)
   have w2:=m8 (b * st)
   have hh:(97+((o+(a:Int) / 8) % 26).toNat)=(97+((o+(b:Int) / 8) % 26).toNat):=by
    have c1:(1+(a:Int) * st % 8).toNat=((a:Int) * st % 8).toNat+1:=zagd w1
    have c2:(1+(b:Int) * st % 8).toNat=((b:Int) * st % 8).toNat+1:=zagd w2
    rw[c1,c2,qAP,qAP]at q
    exact(List.cons.inj q).1
   have z1:=n26 (o+(a:Int) / 8)
   have z2:=n26 (o+(b:Int) / 8)
   exact zage (o:=o) hs ha hb (zapd z1 z2 hh) (zasx w1 w2 ql)
theorem zpz{α:Type}{f:Nat->α}{n:Nat}(h:∀a b,a<n->b<n->f a=f b->a=b):((List.range n).map f).Nodup:=by
 rw[List.nodup_iff_pairwise_ne,List.pairwise_map]
 refine List.Pairwise.imp_of_mem ?_ (List.pairwise_lt_range (n:=n))
 intro a b ha hb hab e
 have:=h a b (qAb.mp ha) (qAb.mp hb) e
 omega
theorem zagg{md o st at_:Int}{stem:Str}(hl:Low stem)(ho:0<=o)(hst:0<=st)(k:Nat):Low (zjs md o st stem at_ k):=by
 have n26:∀z:Int,0<=z % 26/\z % 26<26:=λz=>⟨qAE z (by decide),qAH z (by decide)⟩
 unfold zjs
 split
 ·exact((hl.slice _ _).app (Low.ltr (n26 _).1 (n26 _).2)).app (hl.slice _ _)
 ·split
  ·exact(hl.slice _ _).app (Low.ltr (n26 _).1 (n26 _).2)
  ·have:=qAE ((k:Int) * st) (show(8:Int)≠0 by decide)
   exact Low.mul (by have:=n26 (o+(k:Int) / 8);omega) (by omega)
noncomputable abbrev vi(i:Int):Val:=⟨.int i,false,[]⟩
noncomputable abbrev vs(x:Str):Val:=⟨.str x,false,[]⟩
noncomputable abbrev vb(b:Bool):Val:=⟨.bool b,false,[]⟩
section
variable{a b:EF}{env:DEnv}{i j:Int}
theorem ziw(ha:a env=some (vi i))(hb:b env=some (vi j))(h:0<j):eOp modD a b env=some (vi (i % j)):=by
 unfold eOp;rw[ha,hb];simp[modD,intD,h,bsOf,zex]
theorem zqa(ha:a env=some (vi i))(hb:b env=some (vi j))(h:0<j)(h2:j<1073741824):eOp zfg a b env=some (vi (i / j)):=by
 unfold eOp;rw[ha,hb];simp[zfg,intD,h,h2,bsOf,zex]
theorem zwd(ha:a env=some (vi i))(hb:b env=some (vi j)):eOp addD a b env=some (vi (i+j)):=by
 unfold eOp;rw[ha,hb];simp[addD,bsOf,zex]
theorem zape(ha:a env=some (vi i))(hb:b env=some (vi j))(h:(-(2 ^ 64)<i/\i<2 ^ 64)\/(-(2 ^ 64)<j/\j<2 ^ 64)):eOp mulD a b env=some (vi (i * j)):=by
 unfold eOp;rw[ha,hb]
 simp only[qC,mulD]
 rw[if_pos h];simp[bsOf,zex]
theorem zts(ha:a env=some (vi i))(hb:b env=some (vi j)):eOp eqD a b env=some (vb (i==j)):=by
 unfold eOp;rw[ha,hb];rfl
theorem zwe{x y:Str}(ha:a env=some (vs x))(hb:b env=some (vs y))(h:x.length+y.length<=100000):eOp addD a b env=some (vs (x++y)):=by
 unfold eOp;rw[ha,hb]
 simp only[qC,addD]
 rw[if_pos h];simp[bsOf,zex]
theorem zalt{x:Str}(ha:a env=some (vs x))(hb:b env=some (vi j))(h:x.length<=1000/\-1000<=j/\j<=1000):eOp mulD a b env=some (vs (Txt.mul x j)):=by
 unfold eOp;rw[ha,hb]
 simp only[qC,mulD]
 rw[if_pos h];simp[bsOf,zex]
theorem zapf{x:Str}{l h:PF'}{lo hi:Option Int}(ha:a env=some (vs x))(hl:l env=some lo)(hh:h env=some hi)(hz:x.length<=100000):eSl a l h env=some (vs (Txt.slice x lo hi)):=by
 unfold eSl;rw[ha,hl,hh]
 simp only[qC,slD]
 rw[if_pos hz];simp[bsOf,zex]
theorem zoh(ha:a env=some (vi i)):zce a env=some (some i):=by unfold zce;rw[ha];rfl
theorem zfb{c:Bool}(ha:a env=some (vb c)):zbq a env=some c:=by unfold zbq;rw[ha];rfl
theorem zed{r:Val}(ha:a env=some r):zac a aNil env=some [r]:=by unfold zac aNil;rw[ha];rfl
theorem zagh{x:Str}(ha:a env=some (vs x))(hz:x.length<=100000):eCB lenD (zac a aNil) env=some (vi x.length):=by
 unfold eCB
 rw[zed ha]
 simp[zia,lenD,hz,bsOf,zex]
theorem zkv{ds:List PyData}{fr:Bool}{bs:List Nat}(ha:a env=some ⟨.list ds,fr,bs⟩):eCB lenD (zac a aNil) env=some (vi ds.length):=by
 unfold eCB
 rw[zed ha]
 simp[zia,lenD,bsOf,zex]
theorem zwf{k n:Nat}{b:EF}{ds:List PyData}{d:PyData}(he:env[k]?=some (.pl (.list ds)))(hb:b env=some (vi (n:Int)))(hd:ds[n]?=some d):eIxV k b env=some ⟨d,false,[]⟩:=by
 unfold eIxV
 rw[he]
 unfold eOp eVar
 rw[he,hb]
 simp only[qC,ixD]
 rw[zyf hd]
 simp[bsOf]
end
noncomputable def abc:Str:="abcdefghijklmnopqrstuvwxyz"
theorem zapg:(List.range 26).all (λi=>abc.cps.toList[i]?==some (97+i))=true:=by decide +kernel
theorem zaph:abc.length=26:=by decide +kernel
theorem zasy{i:Int}(h0:0<=i)(h1:i<26):atI abc.cps.toList i=some (97+i.toNat):=by
 have q:=qs.mp zapg i.toNat (qAb.mpr (by omega))
 have e:((i.toNat:Nat):Int)=i:=by omega
 rw[<- e]
 have z:=zyf (eq_of_beq q)
 rw[e]at z ⊢
 exact z
theorem zapi{k:Nat}{b:EF}{env:DEnv}{i:Int}(he:env[k]?=some (.pl (.str abc)))(hb:b env=some (vi i))(h0:0<=i)(h1:i<26):eIxV k b env=some (vs (ltr i)):=by
 unfold eIxV
 rw[he]
 unfold eOp eVar
 rw[he,hb]
 simp only[qC,ixD]
 rw[if_pos (by rw[zaph];decide),zasy h0 h1]
 simp[bsOf,zex,ltr]
theorem zapj{i:Int}(h0:0<=i)(h1:i<8):∃st:Int,atI [PyData.int 1,.int 3,.int 5,.int 7,.int 9,.int 11,.int 15,.int 17] i=some (.int st)/\st∈([1,3,5,7,9,11,15,17]:List Int):=by
 rcases(show i=0\/i=1\/i=2\/i=3\/i=4\/i=5\/i=6\/i=7 by omega)with rfl|rfl|rfl|rfl|rfl|rfl|rfl|rfl
 all_goals exact⟨_,rfl,by decide⟩
theorem zrw{i:Nat}{f:EF}{env:DEnv}{ds:List PyData}{d:PyData}{fr:Bool}(he:env[i]?=some (.ac (.list ds)))(hf:f env=some ⟨d,fr,[]⟩)(hl:ds.length<100000):sApp i f env=some (.nx (env.set i (.ac (.list (ds++[d]))))):=by
 unfold sApp
 rw[he]
 simp only
 rw[hf]
 simp only[qC]
 rw[if_pos ⟨hl,by simp⟩];rfl
theorem zqb(n:Nat):zpi 0 n=(List.range n).map (λ(k:Nat)=>PyData.int (k:Int)):=by
 unfold zpi
 refine qBe λk _=>?_
 show PyData.int (0+(k:Int))=_
 rw[Int.zero_add]
theorem zmm(a b:Str):(a++b).length=a.length+b.length:=by
 have:=congrArg List.length (zhr a b)
 rw[qI]at this
 simpa [Str.length]using this
theorem zagi:WebOk []:=⟨qA1,λi n es e=>by simp at e,λp hp=>by simp at hp,by simp⟩
theorem zagj{W:Web}{p:Str×List Str}(h:WebOk W)(hn:p.1∉nm W)(he:∀e∈p.2,e∈nm W)(hf:p.2.length<=4)(hl:W.length<12):WebOk (W++[p]):=by
 refine⟨by rw[zaga];exact zadu h.nd hn,λi n es e=>?_,λq hq=>?_,by simp;omega⟩
 ·by_cases hi:i<W.length
  ·rw[qf hi]at e
   rw[qBY (by omega)]
   exact h.el i n es e
  ·rw[qN (by omega)]at e
   have hi2:i - W.length=0:=by
    have:=(qJ.mp e).1
    simp at this;omega
   rw[hi2]at e
   cases e
   have:i=W.length:=by omega
   subst this
   rw[qBY (qM _),List.take_length]
   exact he
 ·rcases qc.mp hq with hq|hq
  ·exact h.few q hq
  ·rw[q9.mp hq];exact hf
theorem zqc(ds:List PyData)(k:Nat)(h:k<=ds.length):cutD ds none (some (k:Int))=ds.take k:=by
 unfold cutD
 have e1:HT.sIx ds.length 0 none=0:=rfl
 rw[e1,HT.sIx_nat]
 simp
theorem zna{α:Type}(enc:α->PyData)(l:List α):zve (l.map enc)=(l.zipIdx).map λ(p:α×Nat)=>PyData.tuple [.int (p.2:Int),enc p.1]:=by
 unfold zve
 rw[List.zipIdx_map,qB4];rfl
theorem zalu{α:Type}{l:List α}(nd:l.Nodup){i j:Nat}{hi:i<l.length}{hj:j<l.length}(e:l[i]=l[j]):i=j:=by
 rcases Nat.lt_trichotomy i j with h|h|h
 ·exact absurd e (qCX.mp nd i j hi hj h)
 ·exact h
 ·exact absurd e.symm (qCX.mp nd j i hj hi h)
theorem zrx{α:Type}:∀(l:List α)(i:Nat)(h:i<l.length),(l[i]::l.eraseIdx i).Perm l
 | [],_,h=>by simp at h
 | a::l,0,_=>qC1 _
 | a::l,i+1,h=>by
  have hi:i<l.length:=by simpa using h
  have ih:=zrx l i hi
  show(l[i]::a::l.eraseIdx i).Perm (a::l)
  exact(List.Perm.swap a l[i] _).trans (List.Perm.cons a ih)
theorem zwg{α β:Type}(f:α->β):∀(l:List α)(i:Nat),(l.map f).eraseIdx i=(l.eraseIdx i).map f
 | [],_=>rfl
 | _::_,0=>rfl
 | a::l,i+1=>by
  show f a::(l.map f).eraseIdx i=f a::(l.eraseIdx i).map f
  rw[zwg f l i]
theorem zwh{A B C:Sl}{kk:Nat}{nn:Sl}{xs:List Str}(hx:xs.length<=12):∀(t:Nat)(ls es:List Str)(rs:Int)(s8 s9:Sl),(es++ls).Perm xs->t+es.length<=4->t<=ls.length->
  ∃es' s5 s6 s8' s9',forL (gN 8) (sSeq (sSet 9 (eOp modD (eVar 6) (eCB lenD (zac (eVar 5) aNil)))) (sSeq (sSet 6 (eOp zfg (eVar 6) (eCB lenD (zac (eVar 5) aNil)))) (zml 7 5 (eVar 9)))) ((List.range' es.length t).map λ(k:Nat)=>PyData.int (k:Int)) [A,B,C,.pl (.int (kk:Int)),nn,.ac (zai ls),.pl (.int rs),.ac (zai es),s8,s9] =
   some (.nx [A,B,C,.pl (.int (kk:Int)),nn,s5,s6,.ac (zai es'),s8',s9'])/\es'.Nodup=es'.Nodup/\(∃ls',(es'++ls').Perm xs)/\es'.length=t+es.length
 | 0,ls,es,rs,s8,s9,pm,_,_=>⟨es,_,_,s8,s9,rfl,rfl,⟨ls,pm⟩,by simp⟩
 | t+1,ls,es,rs,s8,s9,pm,h4,hl=>by
  have hls:0<ls.length:=by omega
  have pl:=pm.length_eq
  rw[qI]at pl
  have a0:=qAE rs (show((ls.length:Nat):Int)≠0 by omega)
  have a1:=qAH rs (show(0:Int)<((ls.length:Nat):Int) by omega)
  have hk:(rs % ((ls.length:Nat):Int)).toNat<ls.length:=by omega
  have e9:((rs % ((ls.length:Nat):Int)).toNat:Int)=rs % ((ls.length:Nat):Int):=by omega
  generalize eA:(rs % ((ls.length:Nat):Int)).toNat=at_ at hk e9
  have pm2:((es++[ls[at_]])++ls.eraseIdx at_).Perm xs:=by
   refine List.Perm.trans ?_ pm
   rw[qAf]
   exact List.Perm.append_left es (zrx ls at_ hk)
  obtain⟨es',s5,s6,s8',s9',q,_,hp,hlen⟩:=zwh (A:=A) (B:=B) (C:=C) (kk:=kk) (nn:=nn) hx t (ls.eraseIdx at_) (es++[ls[at_]]) (rs / ((ls.length:Nat):Int)) (.pl (.int (es.length:Int))) (.pl (.int (at_:Int))) pm2 (by simp;omega) (by rw[List.length_eraseIdx_of_lt hk];omega)
  refine⟨es',s5,s6,s8',s9',?_,rfl,hp,by rw[hlen];simp;omega⟩
  rw[List.range'_succ,qAV]
  unfold forL
  simp only[gN,qC,List.set_cons_succ,List.set_cons_zero]
  have st1:sSet 9 (eOp modD (eVar 6) (eCB lenD (zac (eVar 5) aNil))) [A,B,C,.pl (.int (kk:Int)),nn,.ac (zai ls),.pl (.int rs),.ac (zai es),.pl (.int (es.length:Int)),s9]=some (.nx [A,B,C,.pl (.int (kk:Int)),nn,.ac (zai ls),.pl (.int rs),.ac (zai es),.pl (.int (es.length:Int)),.pl (.int (at_:Int))]):=by
   have:=zdz (i:=9) (ziw (a:=eVar 6) (env:=[A,B,C,.pl (.int (kk:Int)),nn,.ac (zai ls),.pl (.int rs),.ac (zai es),.pl (.int (es.length:Int)),s9]) rfl (zkv (a:=eVar 5) rfl) (by rw[qD];omega))
   rw[this,qD,<- e9];rfl
  have st2:sSet 6 (eOp zfg (eVar 6) (eCB lenD (zac (eVar 5) aNil))) [A,B,C,.pl (.int (kk:Int)),nn,.ac (zai ls),.pl (.int rs),.ac (zai es),.pl (.int (es.length:Int)),.pl (.int (at_:Int))]=some (.nx [A,B,C,.pl (.int (kk:Int)),nn,.ac (zai ls),.pl (.int (rs / ((ls.length:Nat):Int))),.ac (zai es),.pl (.int (es.length:Int)),.pl (.int (at_:Int))]):=by
   have:=zdz (i:=6) (zqa (a:=eVar 6) (env:=[A,B,C,.pl (.int (kk:Int)),nn,.ac (zai ls),.pl (.int rs),.ac (zai es),.pl (.int (es.length:Int)),.pl (.int (at_:Int))]) rfl (zkv (a:=eVar 5) rfl) (by rw[qD];omega) (by rw[qD];omega))
   rw[this,qD];rfl
  have st3:zml 7 5 (eVar 9) [A,B,C,.pl (.int (kk:Int)),nn,.ac (zai ls),.pl (.int (rs / ((ls.length:Nat):Int))),.ac (zai es),.pl (.int (es.length:Int)),.pl (.int (at_:Int))]=some (.nx [A,B,C,.pl (.int (kk:Int)),nn,.ac (zai (ls.eraseIdx at_)),.pl (.int (rs / ((ls.length:Nat):Int))),.ac (zai (es++[ls[at_]])),.pl (.int (es.length:Int)),.pl (.int (at_:Int))]):=by
   simp only[zml,zai,eVar,qBP,qBO,qC]
   rw[if_pos ⟨by omega,by omega,by rw[qD];omega,by decide⟩,qAt,qT,qF hk]
   simp[zwg]
  rw[zbb st1 (zbb st2 st3),qC]
  rw[show(es++[ls[at_]]).length=es.length+1 by simp]at q
  exact q
section
variable{a b:EF}{env:DEnv}{x y:Str}
theorem zauu(ha:a env=some (vs x))(hb:b env=some (vs y)):eOp eqD a b env=some (vb (x==y)):=by
 unfold eOp;rw[ha,hb];rfl
theorem e_in{neg:Bool}{xs:List Str}{fr:Bool}{bs:List Nat}(ha:a env=some (vs x))(hb:b env=some ⟨zai xs,fr,bs⟩):eOp (inD neg) a b env=some (vb (if neg then !decide (x∈xs)else decide (x∈xs))):=by
 unfold eOp;rw[ha,hb];simp[zapc,bsOf,zex]
theorem zapk{α:Type}{l:List α}(h:l≠[]):atI l (-1)=some (l.getLast h):=by
 have:=zail l.dropLast (l.getLast h)
 rwa [List.dropLast_concat_getLast h]at this
theorem zapl{k:Nat}{ds:List PyData}(he:env[k]?=some (.pl (.list ds)))(h:ds≠[]):eIxV k (eNeg (eC (.int 1))) env=some ⟨ds.getLast h,false,[]⟩:=by
 unfold eIxV
 rw[he]
 unfold eOp eVar eNeg eC
 rw[he]
 simp only[qC,ixD]
 rw[zapk h]
 simp[bsOf]
end
theorem zba{a:EF}{f:AF}{env:DEnv}{r:Val}{rs:List Val}(ha:a env=some r)(hf:f env=some rs):zac a f env=some (r::rs):=by unfold zac;rw[ha,hf];rfl
theorem zie{f:EF}{env:DEnv}{c:Bool}(h:f env=some (vb c)):zbg (tTru f) env=some (!c):=by unfold zbg tTru;rw[h];rfl
theorem zaal(cs:List Int)(a b:Nat)(h:b<=cs.length)(hab:a<=b):cutD (cs.map .int) (some (a:Int)) (some (b:Int))=((cs.drop a).take (b - a)).map .int:=by
 unfold cutD
 have e1:min a cs.length=a:=by omega
 have e2:min b cs.length=b:=by omega
 rw[HT.sIx_nat,HT.sIx_nat,qD,e1,e2,<- qBw,<- qA2]
theorem znb{env:DEnv}{cs:List Int}{b:EF}{n:Nat}(h1:env[1]?=some (.pl (zek cs)))(hb:b env=some (vi (n:Int)))(hn:n<cs.length):eIxV 1 b env=some (vi (cs[n]'hn)):=
 zwf (ds:=cs.map .int) h1 hb (by rw[qT,qF hn];rfl)
theorem ztt:∀(xs:List Str),(∀x∈xs,qAT x=true)->qAd (xs.map .str)=true/\qAC (xs.map .str)=0
 | [],_=>⟨rfl,rfl⟩
 | x::xs,h=>by
  obtain⟨h1,h2⟩:=ztt xs λy hy=>h y (qK _ hy)
  rw[qAV]
  refine⟨?_,?_⟩
  ·show(qAT x&&qAd (xs.map .str))=true
   rw[h x qk,h1];rfl
  ·show max 0 (qAC (xs.map .str))=0
   rw[h2];rfl
theorem zapm{W:Web}(h:WebOk W)(hl:∀x∈nm W,Low x):∀p∈W,qAT p.1=true/\∀e∈p.2,qAT e=true:=λp hp=>
 ⟨zpy (hl _ (qAI.mpr ⟨p,hp,rfl⟩)),λe he=>zpy (hl e (zajy h (n:=p.1) (es:=p.2) hp e he))⟩
theorem zalv:∀(ks seen:List Key),unl seen ks<=ks.length
 | [],_=>qM _
 | k::ks,seen=>by
  unfold unl
  have:=zalv ks (k::seen)
  rw[qAc]
  split<;>omega
theorem zalw:∀(ks seen:List Key),unl seen ks=ks.length↔ks.Nodup/\∀k∈ks,k∉seen
 | [],_=>by simp[unl]
 | k::ks,seen=>by
  have l:=zalv ks (k::seen)
  have ih:=zalw ks (k::seen)
  unfold unl
  rw[qAc,qt]
  by_cases hk:k∈seen
  ·rw[if_pos hk]
   constructor
   ·intro z;omega
   ·intro z;exact absurd hk (z.2 k qk)
  ·rw[if_neg hk]
   constructor
   ·intro z
    obtain⟨n,a⟩:=ih.mp (by omega)
    exact⟨⟨λy=>a k y qk,n⟩,λx hx=>by
     rcases qW.mp hx with rfl|hx
     ·exact hk
     ·exact λy=>a x hx (qK _ y)⟩
   ·rintro⟨⟨n1,n2⟩,a⟩
    have:=ih.mpr ⟨n2,λx hx y=>by
     rcases qW.mp y with rfl|y
     ·exact n1 hx
     ·exact a x (qK _ hx) y⟩
    omega
theorem zwi:∀(xs:List Str),zyk (xs.map .str)=some (xs.map Sum.inr)
 | []=>rfl
 | x::xs=>by
  show((keyD (.str x)).bind λk=>(zyk (xs.map .str)).map λks=>k::ks)=_
  rw[zwi xs];rfl
theorem zagk:∀(xs:List Str),(xs.map (Sum.inr:Str->Key)).Nodup↔xs.Nodup
 | []=>by simp
 | x::xs=>by
  rw[qAV,qt,qt,zagk xs]
  simp
theorem zqd{α:Type}(f:α->Bool):∀(l:List α),zph (l.map λx=>.bool (f x))=some (l.map f)
 | []=>rfl
 | x::l=>by
  show(zph (l.map λx=>.bool (f x))).map _=_
  rw[zqd f l];rfl
theorem zajz{α:Type}{f:α->Bool}{l:List α}{a:EF}{env:DEnv}{fr:Bool}{bs:List Nat}(ha:a env=some ⟨.list (l.map λx=>.bool (f x)),fr,bs⟩):eCB (anyD λbs=>bs.all id) (zac a aNil) env=some (vb (l.all f)):=by
 unfold eCB
 rw[zed ha,qC]
 show((zph (l.map λx=>.bool (f x))).map _).bind _=_
 rw[zqd]
 simp only[qB0,qC,qB5]
 rfl
theorem zyv{α:Type}(f:α->Bool)(l:List α):zhh (l.map λx=>.bool (f x))=true:=by
 unfold zhh
 rw[qB5]
 exact qs.mpr λ_ _=>rfl
noncomputable def isH(W:Web)(k o:Str)(xs:List Str):Bool:=((xs.all λx=>decide (x∈nm W))&&decide xs.Nodup)&&((decide (k∈xs)&&!decide (o∈xs))&&xs.all λx=>(upL W x).all λe=>decide (e∈xs))
theorem zauv{a:EF}{env:DEnv}{b c:Bool}{neg:Bool}(h:a env=some (vb b)):eOp (isCD neg) a (eC (.bool c)) env=some (vb (if neg then !(isB (.bool b) c)else isB (.bool b) c)):=by
 unfold eOp;rw[h];rfl
noncomputable def zry:SF:=(sRet (eAnd (eIsi "int" (eVar 0)) (eNot (eIsi "bool" (eVar 0)))))
noncomputable def zlm:GF:=fnD 1 zry
noncomputable def zwj:SF:=(sSeq (sIf (tOrF (zbg (tTru (eIsi "str" (eVar 0)))) (zbg (zbq (zjz leD leD (eC (.int 1)) (eCB lenD (zac (eVar 0) aNil)) (eC (.int 8)))))) (sRet (eC (.bool false))) sNil)
  (sRet (eCB (anyD λbs=>bs.all id) (zac (zgi ["sign"] [] (zvm (eVar 0)) (gN 0) zdt (zjz leS leS (eC (.str "a")) (eVar 0) (eC (.str "z")))) aNil))))
noncomputable def zel:GF:=fnD 1 zwj
noncomputable def zka(c:Nat):Bool:=(!decide (([c]:List Nat)<("a":Str).cps.toList))&&(!decide (("z":Str).cps.toList<([c]:List Nat)))
theorem zacb{z:Str}(h:z.cps.toList.all (λc=>decide (c<128))=true):Low z:=λc hc=>of_decide_eq_true (qs.mp h c hc)
theorem zapn{b:EF}{env:DEnv}{i lo hi:Int}(h:b env=some (vi i)):zjz leD leD (eC (.int lo)) b (eC (.int hi)) env=some (vb (decide (lo<=i)&&decide (i<=hi))):=by
 unfold zjz
 rw[h]
 show(if decide (lo<=i)=true then _ else _)=_
 cases decide (lo<=i)<;>rfl
theorem zwk(t:Str)(hl:t.length<=1000):zel [.str t]=some (.bool ((decide (1<=(t.length:Int))&&decide ((t.length:Int)<=8))&&t.cps.toList.all zka),false):=by
 have e1:tOrF (zbg (tTru (eIsi "str" (eVar 0)))) (zbg (zbq (zjz leD leD (eC (.int 1)) (eCB lenD (zac (eVar 0) aNil)) (eC (.int 8))))) [.pl (.str t)]=some (!(decide (1<=(t.length:Int))&&decide ((t.length:Int)<=8))):=by
  show(zbg (zbq (zjz leD leD (eC (.int 1)) (eCB lenD (zac (eVar 0) aNil)) (eC (.int 8))))) [.pl (.str t)]=_
  unfold zbg
  rw[zfb (zapn (zagh rfl (by omega)))]
  rfl
 cases hc:(decide (1<=(t.length:Int))&&decide ((t.length:Int)<=8))with
 | false=>
  rw[hc]at e1
  exact zfi rfl (zgf (if_t e1 rfl))
 | true=>
  rw[hc]at e1
  refine zfi rfl (zbb (if_f e1 rfl) (zkt (bs:=[]) ?_))
  show eCB (anyD λbs=>bs.all id) (zac (zgi ["sign"] [] (zvm (eVar 0)) (gN 0) zdt (zjz leS leS (eC (.str "a")) (eVar 0) (eC (.str "z")))) aNil) [.pl (.str t)]=_
  refine zajz (f:=zka) (fr:=true) (bs:=[]) ?_
  have hf:zhh (t.cps.toList.map λc=>PyData.bool (zka c))=true:=zyv zka _
  have:=zku (own:=["sign"]) (fr:=[]) (fi:=zvm (eVar 0)) (g:=gN 0) (t:=zdt) (e:=zjz leS leS (eC (.str "a")) (eVar 0) (eC (.str "z"))) (env:=[.pl (.str t)]) (ds:=zpn t) (bs:=[]) (rs:=t.cps.toList.map λc=>PyData.bool (zka c)) rfl
   (by unfold zpn;rw[qD];have:t.cps.toList.length=t.length:=(by simp[Str.length]);omega) (zfy (enc:=λc=>PyData.str ⟨#[c]⟩) (out:=λc=>PyData.bool (zka c)) λc _=>⟨[.pl (.str ⟨#[c]⟩)],rfl,rfl,vb (zka c),?_,rfl⟩)
  ·rw[this,hf];rfl
  ·show(if(!decide (([c]:List Nat)<("a":Str).cps.toList))=true then _ else _)=_
   unfold zka
   cases(!decide (([c]:List Nat)<("a":Str).cps.toList))<;>rfl
theorem zwl{d:PyData}(h:isiB "str" d=false):zel [d]=some (.bool false,false):=by
 refine zfi rfl (zgf (if_t ?_ rfl))
 show(tOrF (zbg (tTru (eIsi "str" (eVar 0)))) _) [.pl d]=_
 unfold tOrF zbg tTru
 rw[show eIsi "str" (eVar 0) [.pl d]=some (vb (isiB "str" d))from rfl,h]
 rfl
theorem zaka{f g:TF}{env:DEnv}(h1:f env=some false)(h2:g env=some false):tOrF f g env=some false:=by unfold tOrF;rw[h1];exact h2
noncomputable def zif:SF:=(sSeq (sIf (zbg (tTru (eCB (anyD λbs=>bs.all id) (zac (zgi ["thing"] [0] (zbu (eVar 1)) (gN 0) zdt (eOp (inTD false) (eVar 0) (eVar 1))) aNil)))) (sRet (eC (.bool false))) sNil)
  (sRet (eOp eqD (zpl (eVar 1)) (eCB lenD (zac (eVar 1) aNil)))))
noncomputable def zdv:GF:=fnD 2 zif
noncomputable def zig:SF:=(sSeq (sSet 2 (eC (.str "abcdefghijklmnopqrstuvwxyz")))
  (sSeq (sSet 3 (eOp ixD (eTup (zac (eC (.int 1)) (zac (eC (.int 3)) (zac (eC (.int 5)) (zac (eC (.int 7)) (zac (eC (.int 9)) (zac (eC (.int 11)) (zac (eC (.int 15)) (zac (eC (.int 17)) aNil))))))))) (eOp modD (eOp zfg (eVar 1) (eC (.int 3))) (eC (.int 8)))))
  (sSeq (sSet 4 (eOp modD (eOp zfg (eVar 1) (eC (.int 24))) (eC (.int 26))))
  (sSeq (sSet 5 (eOp mulD (eIxV 2 (eOp modD (eOp zfg (eVar 1) (eC (.int 624))) (eC (.int 26)))) (eOp modD (eOp zfg (eVar 1) (eC (.int 16224))) (eC (.int 8)))))
  (sSeq (sSet 6 (eOp modD (eOp zfg (eVar 1) (eC (.int 129792))) (eOp addD (eCB lenD (zac (eVar 5) aNil)) (eC (.int 1)))))
  (sSeq (sSet 7 (eLst aNil))
  (sSeq (sFor (zfh (zac (eVar 0) aNil)) (gN 8)
  (sSeq (sSet 9 (eIxV 2 (eOp modD (eOp addD (eVar 4) (eOp mulD (eVar 3) (eVar 8))) (eC (.int 26)))))
  (sIf (zbq (eOp eqD (eOp modD (eVar 1) (eC (.int 3))) (eC (.int 0)))) (sApp 7 (eOp addD (eOp addD (eSl (eVar 5) zds (zce (eVar 6))) (eVar 9)) (eSl (eVar 5) (zce (eVar 6)) zds))) (sIf (zbq (eOp eqD (eOp modD (eVar 1) (eC (.int 3))) (eC (.int 1)))) (sApp 7 (eOp addD (eSl (eVar 5) zds (zce (eOp modD (eOp mulD (eVar 8) (eVar 3)) (eOp addD (eCB lenD (zac (eVar 5) aNil)) (eC (.int 1)))))) (eVar 9))) (sApp 7 (eOp mulD (eIxV 2 (eOp modD (eOp addD (eVar 4) (eOp zfg (eVar 8) (eC (.int 8)))) (eC (.int 26)))) (eOp addD (eC (.int 1)) (eOp modD (eOp mulD (eVar 8) (eVar 3)) (eC (.int 8))))))))))
  (sSeq (sIf (zbq (eOp eqD (eOp modD (eOp zfg (eVar 1) (eC (.int 1038336))) (eC (.int 6))) (eC (.int 5)))) (sSeq (sSet 10 (eLst (zac (eC (.str "none")) (zac (eC (.str "rule")) (zac (eC (.str "quarrel")) (zac (eC (.str "near")) (zac (eC (.str "far")) (zac (eC (.str "out")) aNil))))))))
  (sSeq (sSet 11 (eOp modD (eOp zfg (eVar 1) (eC (.int 6230016))) (eC (.int 6))))
  (sSet 7 (eSl (eOp addD (eOp addD (eSl (eVar 10) (zce (eVar 11)) zds) (eSl (eVar 10) zds (zce (eVar 11)))) (eSl (eVar 7) (zce (eC (.int 6))) zds)) zds (zce (eVar 0)))))) sNil)
  (zom 7)))))))))
noncomputable def zcu:GF:=fnD 12 zig
noncomputable def zkb:SF:=(sSeq (sIf (tOrF (zbg (tTru (eIsi "tuple" (eVar 1)))) (zbq (eOp neD (eCB lenD (zac (eVar 1) aNil)) (eC (.int 2))))) (sRet (eC (.bool false))) sNil)
  (sSeq (sAsg (eVar 1) (gT 2 (zaq 2 (zaq 3 zcq))))
  (sSeq (sIf (tOrF (zbg (tTru (zbl 1 zel (zac (eVar 2) aNil)))) (zbq (eOp (inD false) (eVar 2) (eVar 0)))) (sRet (eC (.bool false))) sNil)
  (sSeq (sIf (tOrF (zbg (tTru (eIsi "list" (eVar 3)))) (zbq (eOp gtD (eCB lenD (zac (eVar 3) aNil)) (eC (.int 4))))) (sRet (eC (.bool false))) sNil)
  (sRet (zbl 2 zdv (zac (eVar 0) (zac (eVar 3) aNil))))))))
noncomputable def zbx:GF:=fnD 4 zkb
noncomputable def znc:SF:=(sRet (zgi ["name","elders"] [] (zbu (eVar 0)) (gT 2 (zaq 0 (zaq 1 zcq))) zdt (eTup (zac (eVar 0) (zac (eCB zmi (zac (eVar 1) aNil)) aNil)))))
noncomputable def zdd:GF:=fnD 1 znc
noncomputable def zwm:SFX:=(xSeq (xIf (tOrF (zbg (tTru (eIsi "list" (eVar 0)))) (zbg (tTru (eVar 0)))) (zlz "NoWeb" (eC .none)) (xOf sNil))
  (xSeq (xOf (sSet 1 (eLst aNil)))
  (xSeq (xFor (zez (zac (eVar 0) aNil)) (gT 2 (zaq 2 (zaq 3 zcq)))
  (xSeq (xIf (tOrF (zbq (eOp geD (eVar 2) (eC (.int 10)))) (zbg (tTru (zbl 2 zbx (zac (eVar 1) (zac (eVar 3) aNil)))))) (zlz "NoWeb" (eVar 2)) (xOf sNil))
  (xOf (sApp 1 (eIxV 3 (eC (.int 0)))))))
  (xOf (sRet (zbl 1 zdd (zac (eVar 0) aNil)))))))
noncomputable def zjj:GFX:=fnX 4 zwm
noncomputable def zaam:SF:=(sSeq (zvz "NoWeb" 1 zjj (zac (eVar 0) aNil) (sRet (eC (.bool false))))
  (sRet (eC (.bool true))))
noncomputable def zhs:GF:=fnD 1 zaam
noncomputable def zaan:SF:=(sSeq (sIf (tOrF (zbg (tTru (eIsi "list" (eVar 0)))) (zbg (tTru (eVar 0)))) zoc sNil)
  (sSeq (sSet 1 (eLst aNil))
  (sSeq (sFor (zez (zac (eVar 0) aNil)) (gT 2 (zaq 2 (zaq 3 zcq)))
  (sSeq (sIf (tOrF (zbq (eOp geD (eVar 2) (eC (.int 10)))) (zbg (tTru (zbl 2 zbx (zac (eVar 1) (zac (eVar 3) aNil)))))) zoc sNil)
  (sApp 1 (eIxV 3 (eC (.int 0))))))
  (sRet (zbl 1 zdd (zac (eVar 0) aNil))))))
noncomputable def zaao:GF:=fnD 4 zaan
noncomputable def zma:NTF:=(zabx ["name","elders"] [] (zbu (eVar 0)) (gT 2 (zaq 0 (zaq 1 zcq))) zdt (pTup (zfa (pLf (eVar 0)) (zfa (pFr (eCB zmi (zac (eVar 1) aNil))) zvy))))
noncomputable def zfc:GFT:=fnT 1 zma
noncomputable def znd:SF:=(sSeq (sSet 2 (eC (.int 1)))
  (sSeq (sFor (zfh (zac (eVar 1) aNil)) (gN 3)
  (zaby 2 (eCB lenD (zac (eVar 0) aNil))))
  (zom 2)))
noncomputable def zht:GF:=fnD 4 znd
noncomputable def zrz:SF:=(sSeq (sIf (tOrF (zbg (tTru (zbl 1 zlm (zac (eVar 1) aNil)))) (zbg (zbq (zjz leD leD (eC (.int 1)) (eVar 1) (eC (.int 3)))))) (sRet (eC (.bool false))) sNil)
  (sRet (eOp leD (zbl 2 zht (zac (eVar 0) (zac (eVar 1) aNil))) (eC (.int 216)))))
noncomputable def zfo:GF:=fnD 2 zrz
noncomputable def zqe:SF:=(sSeq (sIf (tOrF (zbg (tTru (eIsi "tuple" (eVar 2)))) (zbq (eOp neD (eCB lenD (zac (eVar 2) aNil)) (eVar 1)))) (sRet (eC (.bool false))) sNil)
  (sRet (eCB (anyD λbs=>bs.all id) (zac (zgi ["name"] [0] (zbu (eVar 2)) (gN 0) zdt (eOp (inD false) (eVar 0) (eVar 1))) aNil))))
noncomputable def zih:GF:=fnD 3 zqe
noncomputable def zkc:SF:=(sSeq (sIf (tOrF (zbg (tTru (eIsi "tuple" (eVar 3)))) (zbq (eOp neD (eCB lenD (zac (eVar 3) aNil)) (eC (.int 2))))) (sRet (eC (.bool false))) sNil)
  (sSeq (sAsg (eVar 3) (gT 2 (zaq 4 (zaq 5 zcq))))
  (sSeq (sIf (tOrF (zbg (tTru (zbl 1 zel (zac (eVar 4) aNil)))) (zbq (eOp (inD false) (eVar 4) (zgi ["taken","others"] [] (zbu (eVar 2)) (gT 2 (zaq 0 (zaq 1 zcq))) zdt (eVar 0))))) (sRet (eC (.bool false))) sNil)
  (sSeq (sIf (zbg (tTru (zbl 3 zih (zac (eVar 0) (zac (eVar 1) (zac (eVar 5) aNil)))))) (sRet (eC (.bool false))) sNil)
  (sRet (eOp (inS true) (eVar 5) (zgi ["taken","others"] [] (zbu (eVar 2)) (gT 2 (zaq 0 (zaq 1 zcq))) zdt (eVar 1))))))))
noncomputable def zby:GF:=fnD 6 zkc
noncomputable def zwn:SF:=(sSeq (sIf (tOrF (zbg (tTru (zbl 1 zhs (zac (eVar 0) aNil)))) (tOrF (zbg (tTru (zbl 2 zfo (zac (eVar 0) (zac (eVar 1) aNil))))) (zbg (tTru (eIsi "list" (eVar 2)))))) zoc sNil)
  (sSeq (sSet 3 (zbl 1 zfn (zac (eVar 0) aNil)))
  (sSeq (sSet 4 (eLst aNil))
  (sSeq (sFor (zez (zac (eVar 2) aNil)) (gT 2 (zaq 5 (zaq 6 zcq)))
  (sSeq (sIf (tOrF (zbq (eOp geD (eVar 5) (eC (.int 12)))) (zbg (tTru (zbl 4 zby (zac (eVar 3) (zac (eVar 1) (zac (eVar 4) (zac (eVar 6) aNil)))))))) zoc sNil)
  (sApp 4 (eVar 6))))
  (sRet (eTup (zac (zbl 1 zdd (zac (eVar 0) aNil)) (zac (eVar 1) (zac (eVar 4) aNil)))))))))
noncomputable def zwo:GF:=fnD 7 zwn
noncomputable def zne:SFX:=(xSeq (xIf (tOrF (zbg (tTru (zbl 1 zhs (zac (eVar 0) aNil)))) (tOrF (zbg (tTru (zbl 2 zfo (zac (eVar 0) (zac (eVar 1) aNil))))) (zbg (tTru (eIsi "list" (eVar 2)))))) (zlz "NoBook" (eC .none)) (xOf sNil))
  (xSeq (xOf (sSet 3 (zbl 1 zfn (zac (eVar 0) aNil))))
  (xSeq (xOf (sSet 4 (eLst aNil)))
  (xSeq (xFor (zez (zac (eVar 2) aNil)) (gT 2 (zaq 5 (zaq 6 zcq)))
  (xSeq (xIf (tOrF (zbq (eOp geD (eVar 5) (eC (.int 12)))) (zbg (tTru (zbl 4 zby (zac (eVar 3) (zac (eVar 1) (zac (eVar 4) (zac (eVar 6) aNil)))))))) (zlz "NoBook" (eVar 5)) (xOf sNil))
  (xOf (sApp 4 (eVar 6)))))
  (xOf (sRet (eTup (zac (zbl 1 zdd (zac (eVar 0) aNil)) (zac (eVar 1) (zac (eVar 4) aNil))))))))))
noncomputable def zde:GFX:=fnX 7 zne
noncomputable def zwp:SF:=(sSeq (sIf (tOrF (zbg (tTru (eIsi "tuple" (eVar 0)))) (zbq (eOp neD (eCB lenD (zac (eVar 0) aNil)) (eC (.int 3))))) (sRet (eC (.bool false))) sNil)
  (sSeq (sAsg (eVar 0) (gT 3 (zaq 1 (zaq 2 (zaq 3 zcq)))))
  (sSeq (zvz "NoBook" 3 zde (zac (eVar 1) (zac (eVar 2) (zac (eVar 3) aNil))) (sRet (eC (.bool false))))
  (sRet (eC (.bool true))))))
noncomputable def znf:GF:=fnD 4 zwp
noncomputable def zkw:SF:=(sSeq (sSet 4 (eLst aNil))
  (sSeq (sFor (zez (zac (eVar 3) aNil)) (gT 2 (zaq 5 (zaq 6 zcq)))
  (sSeq (sSet 7 (eIxV 0 (eVar 5)))
  (sSeq (sSet 8 (eLst aNil))
  (sSeq (sFor (zfh (zac (eVar 2) aNil)) (gN 9)
  (sSeq (sApp 8 (eIxV 1 (eOp modD (eVar 7) (eCB lenD (zac (eVar 1) aNil)))))
  (sSet 7 (eOp zfg (eVar 7) (eCB lenD (zac (eVar 1) aNil))))))
  (sIf (zbq (eOp (inS true) (eCB zjx (zac (eVar 8) aNil)) (zgi ["_law_one","_law_row"] [] (zbu (eVar 4)) (gT 2 (zaq 0 (zaq 1 zcq))) zdt (eVar 1)))) (sApp 4 (eTup (zac (eVar 6) (zac (eCB zjx (zac (eVar 8) aNil)) aNil)))) sNil)))))
  (zom 4)))
noncomputable def zem:GF:=fnD 10 zkw
noncomputable def zkx:SF:=(sSeq (sIf (tOrF (zbg (tTru (eIsi "tuple" (eVar 0)))) (tOrF (zbq (eOp neD (eCB lenD (zac (eVar 0) aNil)) (eC (.int 3)))) (tOrF (tTru (eIsi "bool" (eIxV 0 (eC (.int 1))))) (zbq (eOp neD (eIxV 0 (eC (.int 1))) (eVar 2)))))) (sRet (eC (.bool false))) sNil)
  (sSeq (sIf (tOrF (zbg (tTru (eIsi "list" (eIxV 0 (eC (.int 0)))))) (tOrF (zbq (eOp neD (eCB lenD (zac (eIxV 0 (eC (.int 0))) aNil)) (eCB lenD (zac (eVar 1) aNil)))) (zbg (tTru (eIsi "list" (eIxV 0 (eC (.int 2)))))))) (sRet (eC (.bool false))) sNil)
  (sSeq (sFor (zez (zac (eIxV 0 (eC (.int 0))) aNil)) (gT 2 (zaq 4 (zaq 5 zcq)))
  (sIf (tOrF (zbg (tTru (eIsi "tuple" (eVar 5)))) (tOrF (zbg (tTru (eIsi "list" (eIxV 5 (eC (.int 1)))))) (zbq (eOp neD (eVar 5) (eIxV 1 (eVar 4)))))) (sRet (eC (.bool false))) sNil))
  (sSeq (sFor (zbu (eIxV 0 (eC (.int 2)))) (gN 6)
  (sIf (tOrF (zbg (tTru (eIsi "tuple" (eVar 6)))) (tOrF (zbq (eOp neD (eCB lenD (zac (eVar 6) aNil)) (eC (.int 2)))) (zbg (tTru (eIsi "tuple" (eIxV 6 (eC (.int 1)))))))) (sRet (eC (.bool false))) sNil))
  (sRet (eOp eqD (eIxV 0 (eC (.int 2))) (eVar 3)))))))
noncomputable def zbi:GF:=fnD 7 zkx
noncomputable def zjk:SF:=(sSeq (sSet 5 (eC (.bool false)))
  (sSeq (λenv=>if env.length=6 then zajq ["NoBook"] 4 3 zde (zac (eVar 0) (zac (eVar 1) (zac (eVar 2) aNil))) (λxc xd=>(sSet 5 (eAnd (eOp eqD (eC xd) (eVar 3)) (eNot (eIsi "bool" (eC xd)))))) env else none)
  (zom 5)))
noncomputable def zeo:GF:=fnD 6 zjk
noncomputable def zmb:SF:=(sRet (zgi ["_law_name","_law_elders"] [] (zbu (eVar 0)) (gT 2 (zaq 0 (zaq 1 zcq))) zdt (eTup (zac (eVar 0) (zac (eCB zmi (zac (eVar 1) aNil)) aNil)))))
noncomputable def zmc:GF:=fnD 1 zmb
noncomputable def zqf:SF:=(sSeq (sSet 5 (eIxV 0 (eOp modD (eVar 3) (eCB lenD (zac (eVar 0) aNil)))))
  (sSeq (sIf (zbq (eOp eqD (eVar 2) (eC (.int 0)))) (sRet (eTup (zac (eIxV 5 (eC (.int 0))) (zac (eVar 4) aNil)))) sNil)
  (sSeq (sIf (zbq (eOp eqD (eVar 2) (eC (.int 1)))) (sRet (eTup (zac (eVar 1) (zac (eIxV 5 (eC (.int 1))) aNil)))) sNil)
  (sRet (eTup (zac (eVar 1) (zac (eOp addE (eSlT (eVar 4) zds (zce (eNeg (eC (.int 1))))) (eTup (zac (eOp addD (eIxV 4 (eNeg (eC (.int 1)))) (eC (.str "A"))) aNil))) aNil)))))))
noncomputable def zii:GF:=fnD 6 zqf
noncomputable def zqg:SF:=(sSeq (sFor (zez (zac (eVar 0) aNil)) (gT 2 (zaq 2 (zaq 3 zcq)))
  (sSeq (sIf (tTru (eCB (anyD λbs=>bs.any id) (zac (zgi ["_law_one"] [3] (zbu (eSl (eVar 0) zds (zce (eVar 2)))) (gN 0) zdt (eOr (eOp eqD (eIxV 0 (eC (.int 0))) (eIxV 1 (eC (.int 0)))) (eOp eqD (eIxV 0 (eC (.int 1))) (eIxV 1 (eC (.int 1)))))) aNil))) (zom 2) sNil)
  (sIf (zbg (tTru (eCB (anyD λbs=>bs.all id) (zac (zgi ["_law_kind"] [1] (zbu (eIxV 3 (eC (.int 1)))) (gN 0) zdt (eOp (inD false) (eVar 0) (eVar 1))) aNil)))) (zom 2) sNil)))
  (sRet (eC .none)))
noncomputable def zjt:GF:=fnD 4 zqg
noncomputable def zsa:NTF:=(zwa (sIf (tOrF (zbg (tTru (zbl 1 zhs (zac (eVar 0) aNil)))) (tOrF (zbg (tTru (zbl 2 zfo (zac (eVar 0) (zac (eVar 1) aNil))))) (zbg (tTru (eIsi "list" (eVar 2)))))) zoc sNil)
  (zwa (sSet 3 (zbl 1 zfn (zac (eVar 0) aNil)))
  (zwa (sSet 4 (eLst aNil))
  (zwa (sFor (zez (zac (eVar 2) aNil)) (gT 2 (zaq 5 (zaq 6 zcq)))
  (sSeq (sIf (tOrF (zbq (eOp geD (eVar 5) (eC (.int 12)))) (zbg (tTru (zbl 4 zby (zac (eVar 3) (zac (eVar 1) (zac (eVar 4) (zac (eVar 6) aNil)))))))) zoc sNil)
  (sApp 4 (eVar 6))))
  (pTup (zfa (zafy 1 zfc (zac (eVar 0) aNil)) (zfa (pLf (eVar 1)) (zaow 4))))))))
noncomputable def zdn:GFT:=fnT 7 zsa
noncomputable def zqh:NTF:=(zabx ["_law_name","_law_elders"] [] (zbu (eVar 0)) (gT 2 (zaq 0 (zaq 1 zcq))) zdt (pTup (zfa (pLf (eVar 0)) (zfa (pFr (eCB zmi (zac (eVar 1) aNil))) zvy))))
noncomputable def zfj:GFT:=fnT 1 zqh
theorem zov:bootBuiltins "all"=some (.builtin "all"):=by decide +kernel
theorem zakb:bootBuiltins "any"=some (.builtin "any"):=by decide +kernel
theorem zqi:bootBuiltins "bool"=some (.type "bool"):=by decide +kernel
theorem zakc:bootBuiltins "int"=some (.type "int"):=by decide +kernel
theorem zar:bootBuiltins "isinstance"=some (.builtin "isinstance"):=by decide +kernel
theorem zbs:bootBuiltins "len"=some (.builtin "len"):=by decide +kernel
theorem zdf:bootBuiltins "list"=some (.type "list"):=by decide +kernel
theorem zakd:bootBuiltins "min"=some (.builtin "min"):=by decide +kernel
theorem zatv:bootBuiltins "set"=some (.type "set"):=by decide +kernel
theorem zake:bootBuiltins "str"=some (.type "str"):=by decide +kernel
theorem zdo:bootBuiltins "tuple"=some (.type "tuple"):=by decide +kernel
noncomputable def top(i:Nat):Stmt:=PySem.Challenge.pw_bestcalls_k13_books_made.main.body.getD i (.Pass ⟨0,0,0,0⟩)
structure Txt(mg:Str->Option Value):Prop where
 all:mg "all"=none
 any:mg "any"=none
 bool:mg "bool"=none
 enumerate:mg "enumerate"=none
 int:mg "int"=none
 isinstance:mg "isinstance"=none
 len:mg "len"=none
 list:mg "list"=none
 min:mg "min"=none
 range:mg "range"=none
 set:mg "set"=none
 str:mg "str"=none
 tuple:mg "tuple"=none
 MOST_CALLS:∃t,mg "MOST_CALLS"=some (.int 216 t)
 MOST_ELDERS:∃t,mg "MOST_ELDERS"=some (.int 4 t)
 MOST_KINDS:∃t,mg "MOST_KINDS"=some (.int 10 t)
 MOST_LETTERS:∃t,mg "MOST_LETTERS"=some (.int 8 t)
 MOST_PLACES:∃t,mg "MOST_PLACES"=some (.int 3 t)
 MOST_RULES:∃t,mg "MOST_RULES"=some (.int 12 t)
noncomputable abbrev zhw:Stmt:=top 8
noncomputable abbrev zsb:List Str:=["thing"]
theorem zyw:zsb.Nodup:=by decide +kernel
theorem zyx:FnScope zsb ["thing"] (zam zhw):=⟨rfl,rfl,rfl,zyw,rfl,by decide +kernel,by decide +kernel⟩
noncomputable abbrev zjl:Stmt:=top 9
noncomputable abbrev zwq:List Str:=["thing"]
theorem zacc:zwq.Nodup:=by decide +kernel
theorem zacd:FnScope zwq ["thing"] (zam zjl):=⟨rfl,rfl,rfl,zacc,rfl,by decide +kernel,by decide +kernel⟩
noncomputable abbrev zdp:Stmt:=top 10
noncomputable abbrev zky:List Str:=["known","things"]
theorem zoo:zky.Nodup:=by decide +kernel
theorem zop:FnScope zky ["known","things"] (zam zdp):=⟨rfl,rfl,rfl,zoo,rfl,by decide +kernel,by decide +kernel⟩
noncomputable abbrev zcz:Stmt:=top 11
noncomputable abbrev zkd:List Str:=["ahead","thing","name","elders"]
theorem zgk:zkd.Nodup:=by decide +kernel
theorem znu:FnScope zkd ["ahead","thing"] (zam zcz):=⟨rfl,rfl,rfl,zgk,rfl,by decide +kernel,by decide +kernel⟩
noncomputable abbrev zdw:Stmt:=top 12
noncomputable abbrev zng:List Str:=["web"]
theorem zrj:zng.Nodup:=by decide +kernel
theorem zmd:FnScope zng ["web"] (zam zdw):=⟨rfl,rfl,rfl,zrj,rfl,by decide +kernel,by decide +kernel⟩
noncomputable abbrev zln:Stmt:=top 13
noncomputable abbrev zaap:List Str:=["thing","ahead","number","entry"]
theorem znh:zaap.Nodup:=by decide +kernel
theorem zagl:FnScope zaap ["thing"] (zam zln):=⟨rfl,rfl,rfl,znh,rfl,by decide +kernel,by decide +kernel⟩
noncomputable abbrev zlo:Stmt:=top 14
noncomputable abbrev zaaq:List Str:=["thing"]
theorem zagm:zaaq.Nodup:=by decide +kernel
theorem zagn:FnScope zaaq ["thing"] (zam zlo):=⟨rfl,rfl,rfl,zagm,rfl,by decide +kernel,by decide +kernel⟩
noncomputable abbrev zhx:Stmt:=top 15
noncomputable abbrev zsc:List Str:=["web"]
theorem zyy:zsc.Nodup:=by decide +kernel
theorem zyz:FnScope zsc ["web"] (zam zhx):=⟨rfl,rfl,rfl,zyy,rfl,by decide +kernel,by decide +kernel⟩
noncomputable abbrev zep:Stmt:=top 20
noncomputable abbrev zni:List Str:=["web","places","count","place"]
theorem zgw:zni.Nodup:=by decide +kernel
theorem zrk:FnScope zni ["web","places"] (zam zep):=⟨rfl,rfl,rfl,zgw,rfl,by decide +kernel,by decide +kernel⟩
noncomputable abbrev zhy:Stmt:=top 21
noncomputable abbrev zsd:List Str:=["web","places"]
theorem zza:zsd.Nodup:=by decide +kernel
theorem zzb:FnScope zsd ["web","places"] (zam zhy):=⟨rfl,rfl,rfl,zza,rfl,by decide +kernel,by decide +kernel⟩
noncomputable abbrev zgl:Stmt:=top 22
noncomputable abbrev zqj:List Str:=["known","places","thing"]
theorem zwr:zqj.Nodup:=by decide +kernel
theorem zws:FnScope zqj ["known","places","thing"] (zam zgl):=⟨rfl,rfl,rfl,zwr,rfl,by decide +kernel,by decide +kernel⟩
noncomputable abbrev zda:Stmt:=top 23
noncomputable abbrev zke:List Str:=["known","places","ahead","thing","name","kinds"]
theorem zgm:zke.Nodup:=by decide +kernel
theorem znv:FnScope zke ["known","places","ahead","thing"] (zam zda):=⟨rfl,rfl,rfl,zgm,rfl,by decide +kernel,by decide +kernel⟩
noncomputable abbrev zij:Stmt:=top 24
noncomputable abbrev zwt:List Str:=["web","places","rules","known","ahead","number","rule"]
theorem zeq:zwt.Nodup:=by decide +kernel
theorem zse:FnScope zwt ["web","places","rules"] (zam zij):=⟨rfl,rfl,rfl,zeq,rfl,by decide +kernel,by decide +kernel⟩
noncomputable abbrev zjm:Stmt:=top 25
noncomputable abbrev zwu:List Str:=["thing","web","places","rules"]
theorem zlp:zwu.Nodup:=by decide +kernel
theorem zace:FnScope zwu ["thing"] (zam zjm):=⟨rfl,rfl,rfl,zlp,rfl,by decide +kernel,by decide +kernel⟩
noncomputable abbrev zgn:Stmt:=top 27
noncomputable abbrev zqk:List Str:=["_law_script","_law_many","_law_seed","_law_cell","_law_found","_law_k"]
theorem zfp:zqk.Nodup:=by decide +kernel
theorem zwv:FnScope zqk ["_law_script","_law_many"] (zam zgn):=⟨rfl,rfl,rfl,zfp,rfl,by decide +kernel,by decide +kernel⟩
noncomputable abbrev zgo:Stmt:=top 28
noncomputable abbrev zql:List Str:=["_law_many","_law_cell","_law_letters","_law_step","_law_origin","_law_stem","_law_at","_law_names_here","_law_k","_law_sign","_law_own","_law_turn"]
theorem zbz:zql.Nodup:=by decide +kernel
theorem zww:FnScope zql ["_law_many","_law_cell"] (zam zgo):=⟨rfl,rfl,rfl,zbz,rfl,by decide +kernel,by decide +kernel⟩
noncomputable abbrev zjn:Stmt:=top 29
noncomputable abbrev zwx:List Str:=["_law_cells","_law_names_here","_law_web_here","_law_k","_law_name","_law_left","_law_rest","_law_elders","_law_turn","_law_at"]
theorem zea:zwx.Nodup:=by decide +kernel
theorem zacf:FnScope zwx ["_law_cells","_law_names_here"] (zam zjn):=⟨rfl,rfl,rfl,zea,rfl,by decide +kernel,by decide +kernel⟩
noncomputable abbrev zgp:Stmt:=top 30
noncomputable abbrev zqm:List Str:=["_law_cells","_law_names_here","_law_places","_law_titles","_law_rules_here","_law_k","_law_title","_law_rest","_law_kinds","_law_place"]
theorem zdq:zqm.Nodup:=by decide +kernel
theorem zwy:FnScope zqm ["_law_cells","_law_names_here","_law_places","_law_titles"] (zam zgp):=⟨rfl,rfl,rfl,zdq,rfl,by decide +kernel,by decide +kernel⟩
noncomputable abbrev zgq:Stmt:=top 31
noncomputable abbrev zqn:List Str:=["_law_made","_law_web_here","_law_places","_law_rules_here","_law_k","_law_row","_law_rule"]
theorem ziq:zqn.Nodup:=by decide +kernel
theorem zwz:FnScope zqn ["_law_made","_law_web_here","_law_places","_law_rules_here"] (zam zgq):=⟨rfl,rfl,rfl,ziq,rfl,by decide +kernel,by decide +kernel⟩
noncomputable abbrev zer:Stmt:=top 32
noncomputable abbrev znj:List Str:=["_law_web_here","_law_places","_law_rules_here","_law_due","e","_law_told"]
theorem zgx:znj.Nodup:=by decide +kernel
theorem zrl:FnScope znj ["_law_web_here","_law_places","_law_rules_here","_law_due"] (zam zer):=⟨rfl,rfl,rfl,zgx,rfl,by decide +kernel,by decide +kernel⟩
noncomputable abbrev zgr:Stmt:=top 33
noncomputable abbrev zsf:List Str:=["_law_web_here"]
theorem zzc:zsf.Nodup:=by decide +kernel
theorem zqo:FnScope zsf ["_law_web_here"] (zam zgr):=⟨rfl,rfl,rfl,zzc,rfl,by decide +kernel,by decide +kernel⟩
noncomputable abbrev zgs:Stmt:=top 34
noncomputable abbrev zqp:List Str:=["_law_rules_here","_law_title","_law_choice","_law_cell","_law_kinds","_law_one"]
theorem zoi:zqp.Nodup:=by decide +kernel
theorem zxa:FnScope zqp ["_law_rules_here","_law_title","_law_choice","_law_cell","_law_kinds"] (zam zgs):=⟨rfl,rfl,rfl,zoi,rfl,by decide +kernel,by decide +kernel⟩
noncomputable abbrev zgt:Stmt:=top 35
noncomputable abbrev zqq:List Str:=["_law_row","_law_names_here","_law_k","_law_rule"]
theorem zkz:zqq.Nodup:=by decide +kernel
theorem zxb:FnScope zqq ["_law_row","_law_names_here"] (zam zgt):=⟨rfl,rfl,rfl,zkz,rfl,by decide +kernel,by decide +kernel⟩
noncomputable abbrev ztu:Stmt:=top 36
noncomputable abbrev zasz:List Str:=["_law_script","_law_cells","_law_places","_law_names_here","_law_titles","_law_web_here","_law_rules_here","_law_handed","_law_row","_law_first_here","_law_second","_law_kinds","_law_at","_law_wrong_here","_law_third"]
theorem zhj:zasz.Nodup:=by decide +kernel
theorem zata:FnScope zasz ["_law_script"] (zam ztu):=⟨rfl,rfl,rfl,zhj,rfl,by decide +kernel,by decide +kernel⟩
noncomputable abbrev zqr:Stmt:=top 13
noncomputable abbrev zqs:List Str:=["thing","ahead","number","entry"]
theorem zir:zqs.Nodup:=by decide +kernel
theorem zxc:FnScope zqs ["thing"] (zam zqr):=⟨rfl,rfl,rfl,zir,rfl,by decide +kernel,by decide +kernel⟩
noncomputable abbrev zoj:Stmt:=top 24
noncomputable abbrev zok:List Str:=["web","places","rules","known","ahead","number","rule"]
theorem zfz:zok.Nodup:=by decide +kernel
theorem ztv:FnScope zok ["web","places","rules"] (zam zoj):=⟨rfl,rfl,rfl,zfz,rfl,by decide +kernel,by decide +kernel⟩
theorem ztw:(["sign"]:List Str).Nodup:=by decide +kernel
theorem zmn:(["thing","known"]:List Str).Nodup:=by decide +kernel
theorem zes:(["name","elders"]:List Str).Nodup:=by decide +kernel
theorem zme:(["name","elders"]:List Str).Nodup:=by decide +kernel
theorem zqt:(["name","known"]:List Str).Nodup:=by decide +kernel
theorem zhk:(["taken","others"]:List Str).Nodup:=by decide +kernel
theorem zhl:(["taken","others"]:List Str).Nodup:=by decide +kernel
theorem zla:(["_law_one","_law_row"]:List Str).Nodup:=by decide +kernel
theorem zgy:(["_law_name","_law_elders"]:List Str).Nodup:=by decide +kernel
theorem zqu:(["_law_one","_law_rule"]:List Str).Nodup:=by decide +kernel
theorem zqv:(["_law_kind","_law_names_here"]:List Str).Nodup:=by decide +kernel
section
variable(P:Program)(w:World)(K:qB)(mg:Str->Option Value)(base:Heap)
noncomputable abbrev zsg:Prop:=Dn P w K mg base "is_whole" ["thing"] 1 (spD 1 zlm)
noncomputable abbrev zqw:Prop:=Dn P w K mg base "is_name" ["thing"] 1 (spD 1 zel)
noncomputable abbrev zlb:Prop:=Dn P w K mg base "are_unlike_of" ["known","things"] 1 (spD 2 zdv)
noncomputable abbrev zhf:Prop:=Dn P w K mg base "is_kind_behind" ["ahead","thing"] 2 (spD 2 zbx)
noncomputable abbrev zga:Prop:=Dn P w K mg base "copy_of_web" ["web"] 1 (spD 1 zdd)
noncomputable abbrev zakf:Prop:=Dn P w K mg base "web_of" ["thing"] 3 (spD 1 zaao)
noncomputable abbrev zqx(cl:Str->Addr):Prop:=DnX P w K mg base "web_of" ["thing"] 3 (spX cl 1 zjj)
noncomputable abbrev zow:Prop:=Dn P w K mg base "is_web" ["thing"] 4 (spD 1 zhs)
noncomputable abbrev zlq:Prop:=Dn P w K mg base "names_of" ["web"] 1 (spD 1 zfn)
noncomputable abbrev znk:Prop:=Dn P w K mg base "count_calls" ["web","places"] 1 (spD 2 zht)
noncomputable abbrev zlr:Prop:=Dn P w K mg base "has_room" ["web","places"] 2 (spD 2 zfo)
noncomputable abbrev zqy:Prop:=Dn P w K mg base "are_kinds" ["known","places","thing"] 1 (spD 3 zih)
noncomputable abbrev zff:Prop:=Dn P w K mg base "is_rule_behind" ["known","places","ahead","thing"] 2 (spD 4 zby)
noncomputable abbrev zxd:Prop:=Dn P w K mg base "book_of" ["web","places","rules"] 5 (spD 3 zwo)
noncomputable abbrev zlc(cl:Str->Addr):Prop:=DnX P w K mg base "book_of" ["web","places","rules"] 5 (spX cl 3 zde)
noncomputable abbrev zxe:Prop:=Dn P w K mg base "is_book" ["thing"] 6 (spD 1 znf)
noncomputable abbrev zqz:Prop:=Dn P w K mg base "_law_names" ["_law_many","_law_cell"] 1 (spD 2 zcu)
noncomputable abbrev zxf:Prop:=Dn P w K mg base "_law_web" ["_law_cells","_law_names_here"] 1 (spD 2 zkr)
noncomputable abbrev zra:Prop:=Dn P w K mg base "_law_rules" ["_law_cells","_law_names_here","_law_places","_law_titles"] 1 (spD 4 zem)
noncomputable abbrev zrb:Prop:=Dn P w K mg base "_law_alike" ["_law_made","_law_web_here","_law_places","_law_rules_here"] 1 (spD 4 zbi)
noncomputable abbrev znl:Prop:=Dn P w K mg base "_law_refused" ["_law_web_here","_law_places","_law_rules_here","_law_due"] 6 (spD 4 zeo)
noncomputable abbrev zsh:Prop:=Dn P w K mg base "_law_copy" ["_law_web_here"] 1 (spD 1 zmc)
noncomputable abbrev zrc:Prop:=Dn P w K mg base "_law_wrong" ["_law_rules_here","_law_title","_law_choice","_law_cell","_law_kinds"] 1 (spD 5 zii)
noncomputable abbrev zrd:Prop:=Dn P w K mg base "_law_first" ["_law_row","_law_names_here"] 1 (spD 2 zjt)
noncomputable abbrev zix:Prop:=Dn P w K mg base "copy_of_web" ["web"] 1 (spT 1 zfc)
noncomputable abbrev zsi:Prop:=Dn P w K mg base "book_of" ["web","places","rules"] 5 (spT 3 zdn)
noncomputable abbrev zre:Prop:=Dn P w K mg base "_law_copy" ["_law_web_here"] 1 (spT 1 zfj)
end
section
variable{P:Program}{w:World}{K:qB}{mg:Str->Option Value}{base:Heap}
theorem zzd {f:Addr} {fd:qw} (F:Fun K "is_whole" "is_whole" zhw f fd) (T:Txt mg)  : FnOk P w K mg base CX0 1 f fd ["thing"] (spD 1 zlm):=by
 refine F.ok zyx (λvs H Q E h=>zcx h) (λcdv A outer s H vs Q E hr h=>?_)
 have hu:=zgc hr
 apply Exists.intro
 apply And.intro
 ·refine' Bx.out (zaj (zav (zyo (bpeB (zbk (K:=K) rfl) T.isinstance zar (bpaC (bv 0) (bpaC (zca (v:=.ty "int") (by rfl) T.int zakc rfl (by decide) (by decide)) zae))) (ztn (zaey (bpeB (zbk (K:=K) rfl) T.isinstance zar (bpaC (bv 0) (bpaC (zca (v:=.ty "bool") (by rfl) T.bool zqi rfl (by decide) (by decide)) zae))))))))
 exact fn_d (f:=zry) ((zbv (zalc (zey (zaa 0) zann) (zarw (zey (zaa 0) ztf))))) h
theorem zacg {f:Addr} {fd:qw} (F:Fun K "is_name" "is_name" zjl f fd) (T:Txt mg)  : FnOk P w K mg base CX0 1 f fd ["thing"] (spD 1 zel):=by
 refine F.ok zacd (λvs H Q E h=>zcx h) (λcdv A outer s H vs Q E hr h=>?_)
 have hu:=zgc hr
 apply Exists.intro
 apply And.intro
 ·refine' Bx.out (zag (zbw (zcn (zbf (zao (K:=K) rfl (bpeB (zbk (K:=K) rfl) T.isinstance zar (bpaC (bv 0) (bpaC (zca (v:=.ty "str") (by rfl) T.str zake rfl (by decide) (by decide)) zae))) (λ_=>rfl))) (zcm (zbf (zvo zada zada zak (bpeB (zbj (K:=K) rfl) T.len zbs (bpaC (bv 0) zae)) (zfu (by rfl) T.MOST_LETTERS (by decide)) (by with_unfolding_all rfl))))).pt (zaj (zav zdy)) zbd)
 (zaj (zav (bpeB (zmr (K:=K) rfl rfl) T.all zov (bpaC (zdm (zdk (N':=["sign"]) (own:=["sign"]) (fr:=[]) (by kernel_rfl)) rfl (zanz (bv 0)) ?hb1 (by intro _;rfl)) zae)))))
  case hb1=>(intro cl C s H fp;refine'⟨Bx.out (bpgN (i:=0) ztw rfl (Or.inl rfl)),Bx.out zgj,Bx.out (zaez zvn zvn zhe (bv 0) zhe (by with_unfolding_all rfl))⟩)
 exact fn_d (f:=zwj) ((zaz (zfr (zeu (zbo (zbn (zey (zaa 0) zanm))) (zbo (st_t (zti zaed zaed (se_c λ_=>zad) (zec zei (zab (zaa 0) zal)) (se_c λ_=>zad))))) (zbv (se_c λ_=>zan)) zcs) (zbv (zec zvd (zab (zic (zasg (zaa 0)) zit (zpj (by decide)) zjf (zti zalg zalg (se_c λ_=>zcg) (zaa 0) (se_c λ_=>zcg))) zal))))) h
theorem zoq {f:Addr} {fd:qw} (F:Fun K "are_unlike_of" "are_unlike_of" zdp f fd) (T:Txt mg)  : FnOk P w K mg base CX0 1 f fd ["known","things"] (spD 2 zdv):=by
 refine F.ok zop (λvs H Q E h=>zcx h) (λcdv A outer s H vs Q E hr h=>?_)
 have hu:=zgc hr
 apply Exists.intro
 apply And.intro
 ·refine' Bx.out (zag (zbw (zbf (zao (K:=K) rfl (bpeB (zmr (K:=K) rfl rfl) T.all zov (bpaC (zdm (zdk (N':=["thing","known"]) (own:=["thing"]) (fr:=[0]) (by kernel_rfl)) rfl (zen (K:=K) rfl (bv 1)) ?hb1 (by intro _;rfl)) zae)) (λ_=>rfl))) (zaj (zav zdy)) zbd)
 (zaj (zav (zgv (zlv (K:=K) rfl hr.units) (zabu rfl (by rfl) T.len (by rfl) T.set (bv 1) (zap (by rfl))) (bpeB (zbj (K:=K) rfl) T.len zbs (bpaC (bv 1) zae)) (zdb _)))))
  case hb1=>(intro cl C s H fp;refine'⟨Bx.out (bpgN (i:=0) zmn rfl (Or.inl rfl)),Bx.out zgj,Bx.out (zgv (zanx (K:=K) rfl hr.units) (bv 0) (bv 1) (by rfl))⟩)
 exact fn_d (f:=zif) ((zaz (zfr (zbo (zbn (zec zvd (zab (zic (zjc (zaa 1)) zit (zpj (by decide)) zjf (zay zany (zaa 0) (zaa 1))) zal)))) (zbv (se_c λ_=>zan)) zcs) (zbv (zay zri (zaes (zaa 1)) (zec zei (zab (zaa 1) zal)))))) h
theorem znw{f:Addr}{fd:qw}(F:Fun K "is_kind_behind" "is_kind_behind" zcz f fd)(T:Txt mg)(D_are_unlike_of:zlb P w K mg base)(D_is_name:zqw P w K mg base):FnOk P w K mg base CX0 2 f fd ["ahead","thing"] (spD 2 zbx):=by
 refine F.ok znu (λvs H Q E h=>zcx h) (λcdv A outer s H vs Q E hr h=>?_)
 have hu:=zgc hr
 apply Exists.intro
 apply And.intro
 ·refine' Bx.out (zag (zbw (zcn (zbf (zao (K:=K) rfl (bpeB (zbk (K:=K) rfl) T.isinstance zar (bpaC (bv 1) (bpaC (zca (v:=.ty "tuple") (by rfl) T.tuple zdo rfl (by decide) (by decide)) zae))) (λ_=>rfl))) (zcm (zbr (zmt (K:=K) rfl hr.units) (bpeB (zbj (K:=K) rfl) T.len zbs (bpaC (bv 1) zae)) zak (zdb _)))).pt (zaj (zav zdy)) zbd)
 (zag (zyq (bv 1) (zcl (K:=K) (n:=2) rfl rfl (zau (bpgN (i:=2) zgk rfl (Or.inl rfl)) (zau (bpgN (i:=3) zgk rfl (Or.inl rfl)) zck (by rfl)) (by rfl)) (by rfl) (by rfl)) (by rfl) (by rfl) (by rfl))
 (zag (zbw (zcn (zbf (zao (K:=K) rfl (bpeD D_is_name hr (bpaC (bv 2) zae)) (λ_=>rfl))) (zcm (zbr (zzw (K:=K) rfl) (bv 2) (bv 0) (by rfl)))).pt (zaj (zav zdy)) zbd)
 (zag (zbw (zcn (zbf (zao (K:=K) rfl (bpeB (zbk (K:=K) rfl) T.isinstance zar (bpaC (bv 3) (bpaC (zca (v:=.ty "list") (by rfl) T.list zdf rfl (by decide) (by decide)) zae))) (λ_=>rfl))) (zcm (zbr zaqz (bpeB (zbj (K:=K) rfl) T.len zbs (bpaC (bv 3) zae)) (zfu (by rfl) T.MOST_ELDERS (by decide)) (zdb _)))).pt (zaj (zav zdy)) zbd)
 (zaj (zav (bpeD D_are_unlike_of hr (bpaC (bv 0) (bpaC (bv 3) zae)))))))))
 exact fn_d (f:=zkb) ((zaz (zfr (zeu (zbo (zbn (zey (zaa 1) zgz))) (st_t (zay ztc (zec zei (zab (zaa 1) zal)) (se_c λ_=>zad)))) (zbv (se_c λ_=>zan)) zcs) (zaz (zaei (zaa 1) (zfk (zax (zax zdl)))) (zaz (zfr (zeu (zbo (zbn (zbh (zab (zaa 2) zal)))) (st_t (zay zaiw (zaa 2) (zaa 0)))) (zbv (se_c λ_=>zan)) zcs) (zaz (zfr (zeu (zbo (zbn (zey (zaa 3) zhp))) (st_t (zay zarv (zec zei (zab (zaa 3) zal)) (se_c λ_=>zad)))) (zbv (se_c λ_=>zan)) zcs) (zbv (zbh (zab (zaa 0) (zab (zaa 3) zal))))))))) h
theorem zrm {f:Addr} {fd:qw} (F:Fun K "copy_of_web" "copy_of_web" zdw f fd) (T:Txt mg)  : FnOk P w K mg base CX0 1 f fd ["web"] (spD 1 zdd):=by
 refine F.ok zmd (λvs H Q E h=>zcx h) (λcdv A outer s H vs Q E hr h=>?_)
 have hu:=zgc hr
 apply Exists.intro
 apply And.intro
 ·refine' Bx.out (zaj (zav (zdm (zdk (N':=["name","elders"]) (own:=["name","elders"]) (fr:=[]) (by kernel_rfl)) rfl (zen (K:=K) rfl (bv 0)) ?hb1 (by intro _;rfl))))
  case hb1=>(intro cl C s H fp;refine'⟨Bx.out (zcl (K:=K) (n:=2) rfl rfl (zau (bpgN (i:=0) zes rfl (Or.inl rfl)) (zau (bpgN (i:=1) zes rfl (Or.inl rfl)) zck (by rfl)) (by rfl)) (by rfl) (by rfl)),Bx.out zgj,Bx.out (zdu (bpaC (bv 0) (bpaC (bpeT (ziy (K:=K) rfl) T.list zdf (bpaC (bv 1) zae)) zae)))⟩)
 exact fn_d (f:=znc) ((zbv (zic (zjc (zaa 0)) (zfk (zax (zax zdl))) (zod (zdi (by decide) (zdi (by decide) zkn))) zjf (zhi (zab (zaa 0) (zab (zec zpg (zab (zaa 1) zal)) zal)))))) h
theorem zago{f:Addr}{fd:qw}(F:Fun K "web_of" "web_of" zln f fd)(T:Txt mg)(D_copy_of_web:zga P w K mg base)(D_is_kind_behind:zhf P w K mg base):FnOk P w K mg base CX0 3 f fd ["thing"] (spD 1 zaao):=by
 refine F.ok zagl (λvs H Q E h=>zcx h) (λcdv A outer s H vs Q E hr h=>?_)
 have hu:=zgc hr
 apply Exists.intro
 apply And.intro
 ·refine' Bx.out (zag (zbw (zcn (zbf (zao (K:=K) rfl (bpeB (zbk (K:=K) rfl) T.isinstance zar (bpaC (bv 0) (bpaC (zca (v:=.ty "list") (by rfl) T.list zdf rfl (by decide) (by decide)) zae))) (λ_=>rfl))) (zcm (zbf (zao (K:=K) rfl (bv 0) (λ_=>rfl))))).pt (zaj zjg) zbd)
 (zag (bpsS (i:=1) znh rfl (Or.inl rfl) (zhd zae))
 (zag (zft qAO rfl (zfv (K:=K) rfl rfl T.enumerate (bpaC (bv 0) zae) (by rfl)) (zcl (K:=K) (n:=2) rfl rfl (zau (bpgN (i:=2) znh rfl (Or.inl rfl)) (zau (bpgN (i:=3) znh rfl (Or.inl rfl)) zck (by rfl)) (by rfl)) (by rfl) (by rfl))
  (zag (zbw (zcn (zbr zadb (bv 2) (zfu (by rfl) T.MOST_KINDS (by decide)) (zdb _)) (zcm (zbf (zao (K:=K) rfl (bpeD D_is_kind_behind hr (bpaC (bv 1) (bpaC (bv 3) zae))) (λ_=>rfl))))).pt (zaj zjg) zbd)
 (zaj (zcj (zej (K:=K) rfl qS qh qg zcf (bv 1) (bpaC (bpeX (zcd (K:=K) rfl) (bv 3) zak) zae) (by rfl) (by rfl) (by rfl) (zap (by rfl)) (by rfl)) (by rfl)))) (by intro _;rfl))
 (zaj (zav (bpeD D_copy_of_web hr (bpaC (bv 0) zae)))))))
 exact fn_d (f:=zaan) ((zaz (zfr (zeu (zbo (zbn (zey (zaa 0) zhp))) (zbo (zbn (zaa 0)))) zli zcs) (zaz (zct (zjw zal)) (zaz (zjy (zfs (zab (zaa 0) zal)) (zfk (zax (zax zdl))) (zaz (zfr (zeu (st_t (zay zaee (zaa 2) (se_c λ_=>zad))) (zbo (zbn (zbh (zab (zaa 1) (zab (zaa 3) zal)))))) zli zcs) (zkk (zbp (se_c λ_=>zad))))) (zbv (zbh (zab (zaa 0) zal))))))) h
theorem zxg{f:Addr}{fd:qw}{cl:Str->Addr}(F:Fun K "web_of" "web_of" zqr f fd)(T:Txt mg)(D_copy_of_web:zga P w K mg base)(D_is_kind_behind:zhf P w K mg base)(X_NoWeb:XcOk P w K mg base "NoWeb" (cl "NoWeb")):FnOk P w K mg base (CXE P w) 3 f fd ["thing"] (spX cl 1 zjj):=by
 refine zalk F zxc (λvs H Q E h=>zafl h) (λcdv A outer s H vs Q E hr h0k h=>?_)
 have hu:=zgc hr
 apply Exists.intro
 apply And.intro
 ·refine' Bx.out (zag (zbw (zcn (zbf (zao (K:=K) rfl (bpeB (zbk (K:=K) rfl) T.isinstance zar (bpaC (bv 0) (bpaC (zca (v:=.ty "list") (by rfl) T.list zdf rfl (by decide) (by decide)) zae))) (λ_=>rfl))) (zcm (zbf (zao (K:=K) rfl (bv 0) (λ_=>rfl))))).pt (zaj (zmw (C:=cl "NoWeb") X_NoWeb (hr.mono (by decide)) rfl rfl (zaac h0k) (by rfl) zyp (by decide) (by rfl))) zbd)
 (zag (bpsS (i:=1) zir rfl (Or.inl rfl) (zhd zae))
 (zag (zft qCl rfl (zfv (K:=K) rfl rfl T.enumerate (bpaC (bv 0) zae) (by rfl)) (zcl (K:=K) (n:=2) rfl rfl (zau (bpgN (i:=2) zir rfl (Or.inl rfl)) (zau (bpgN (i:=3) zir rfl (Or.inl rfl)) zck (by rfl)) (by rfl)) (by rfl) (by rfl))
  (zag (zbw (zcn (zbr zadb (bv 2) (zfu (by rfl) T.MOST_KINDS (by decide)) (zdb _)) (zcm (zbf (zao (K:=K) rfl (bpeD D_is_kind_behind hr (bpaC (bv 1) (bpaC (bv 3) zae))) (λ_=>rfl))))).pt (zaj (zmw (C:=cl "NoWeb") X_NoWeb (hr.mono (by decide)) rfl rfl (zaac h0k) (by rfl) (bv 2) (by decide) (by rfl))) zbd)
 (zaj (zcj (zej (K:=K) rfl qS qh qg zcf (bv 1) (bpaC (bpeX (zcd (K:=K) rfl) (bv 3) zak) zae) (by rfl) (by rfl) (by rfl) (zap (by rfl)) (by rfl)) (by rfl)))) (by intro _;rfl))
 (zaj (zav (bpeD D_copy_of_web hr (bpaC (bv 0) zae)))))))
 exact fn_x (f:=zwm) ((zjr (zaab (zeu (zbo (zbn (zey (zaa 0) zhp))) (zbo (zbn (zaa 0)))) (zmv (se_c λ_=>ziz)) (zkp zcs)) (zjr (zkp (zct (zjw zal))) (zjr (zafk (zfs (zab (zaa 0) zal)) (zfk (zax (zax zdl))) (zjr (zaab (zeu (st_t (zay zaee (zaa 2) (se_c λ_=>zad))) (zbo (zbn (zbh (zab (zaa 1) (zab (zaa 3) zal)))))) (zmv (zaa 2)) (zkp zcs)) (zkp (zkk (zbp (se_c λ_=>zad)))))) (zkp (zbv (zbh (zab (zaa 0) zal)))))))) h
theorem zagp {f:Addr} {fd:qw} {cl:Str->Addr} (F:Fun K "is_web" "is_web" zlo f fd) (T:Txt mg) (D_web_of__X:zqx P w K mg base cl)  (X_NoWeb:XcOk P w K mg base "NoWeb" (cl "NoWeb")):FnOk P w K mg base CX0 4 f fd ["thing"] (spD 1 zhs):=by
 refine F.ok zagn (λvs H Q E h=>zcx h) (λcdv A outer s H vs Q E hr h=>?_)
 have hu:=zgc hr
 apply Exists.intro
 apply And.intro
 ·refine' Bx.out (zag (zaaf D_web_of__X X_NoWeb (hr.mono (by decide)) (by rfl) (bpaC (bv 0) zae) rfl rfl (by rfl) (λ_=>(zaj (zav zdy))) (by decide) (by decide) (zap (by rfl)) (by rfl) (by rfl))
 (zaj (zav zdy)))
 exact fn_d (f:=zaam) ((zaz (zafw (cl:=cl) (zab (zaa 0) zal) (zbv (se_c λ_=>zan))) (zbv (se_c λ_=>zan)))) h
theorem zze {f:Addr} {fd:qw} (F:Fun K "names_of" "names_of" zhx f fd) (T:Txt mg)  : FnOk P w K mg base CX0 1 f fd ["web"] (spD 1 zfn):=by
 refine F.ok zyz (λvs H Q E h=>zcx h) (λcdv A outer s H vs Q E hr h=>?_)
 have hu:=zgc hr
 apply Exists.intro
 apply And.intro
 ·refine' Bx.out (zaj (zav (zdm (zdk (N':=["name","elders"]) (own:=["name","elders"]) (fr:=[]) (by kernel_rfl)) rfl (zen (K:=K) rfl (bv 0)) ?hb1 (by intro _;rfl))))
  case hb1=>(intro cl C s H fp;refine'⟨Bx.out (zcl (K:=K) (n:=2) rfl rfl (zau (bpgN (i:=0) zme rfl (Or.inl rfl)) (zau (bpgN (i:=1) zme rfl (Or.inl rfl)) zck (by rfl)) (by rfl)) (by rfl) (by rfl)),Bx.out zgj,Bx.out (bv 0)⟩)
 exact fn_d (f:=zji) ((zbv (zic (zjc (zaa 0)) (zfk (zax (zax zdl))) (zod (zdi (by decide) (zdi (by decide) zkn))) zjf (zaa 0)))) h
theorem zrn {f:Addr} {fd:qw} (F:Fun K "count_calls" "count_calls" zep f fd) (T:Txt mg)  : FnOk P w K mg base CX0 1 f fd ["web","places"] (spD 2 zht):=by
 refine F.ok zrk (λvs H Q E h=>zcx h) (λcdv A outer s H vs Q E hr h=>?_)
 have hu:=zgc hr
 apply Exists.intro
 apply And.intro
 ·refine' Bx.out (zag (bpsS (i:=2) zgw rfl (Or.inl rfl) zak)
 (zag (zft qAO rfl (zlj rfl T.range (bpaC (bv 1) zae) (by rfl)) (bpgN (i:=3) zgw rfl (Or.inl rfl))
  (zaj (zajv (i:=2) zgw rfl (Or.inl rfl) (bpeB (zbj (K:=K) rfl) T.len zbs (bpaC (bv 0) zae)) (.inl rfl))) (by intro _;rfl))
 (zaj (zav (bv 2)))))
 exact fn_d (f:=znd) ((zaz (zct (se_c λ_=>zad)) (zaz (zjy (zms (zab (zaa 1) zal)) zit (zaov (zec zei (zab (zaa 0) zal)))) zmj))) h
theorem zzf{f:Addr}{fd:qw}(F:Fun K "has_room" "has_room" zhy f fd)(T:Txt mg)(D_count_calls:znk P w K mg base)(D_is_whole:zsg P w K mg base):FnOk P w K mg base CX0 2 f fd ["web","places"] (spD 2 zfo):=by
 refine F.ok zzb (λvs H Q E h=>zcx h) (λcdv A outer s H vs Q E hr h=>?_)
 have hu:=zgc hr
 apply Exists.intro
 apply And.intro
 ·refine' Bx.out (zag (zbw (zcn (zbf (zao (K:=K) rfl (bpeD D_is_whole hr (bpaC (bv 1) zae)) (λ_=>rfl))) (zcm (zbf (zvo zada zada zak (bv 1) (zfu (by rfl) T.MOST_PLACES (by decide)) (by with_unfolding_all rfl))))).pt (zaj (zav zdy)) zbd)
 (zaj (zav (zgv zada (bpeD D_count_calls hr (bpaC (bv 0) (bpaC (bv 1) zae))) (zfu (by rfl) T.MOST_CALLS (by decide)) (zdb _)))))
 exact fn_d (f:=zrz) ((zaz (zfr (zeu (zbo (zbn (zbh (zab (zaa 1) zal)))) (zbo (st_t (zti zaed zaed (se_c λ_=>zad) (zaa 1) (se_c λ_=>zad))))) (zbv (se_c λ_=>zan)) zcs) (zbv (zay zaed (zbh (zab (zaa 0) (zab (zaa 1) zal))) (se_c λ_=>zad))))) h
theorem zxh {f:Addr} {fd:qw} (F:Fun K "are_kinds" "are_kinds" zgl f fd) (T:Txt mg)  : FnOk P w K mg base CX0 1 f fd ["known","places","thing"] (spD 3 zih):=by
 refine F.ok zws (λvs H Q E h=>zcx h) (λcdv A outer s H vs Q E hr h=>?_)
 have hu:=zgc hr
 apply Exists.intro
 apply And.intro
 ·refine' Bx.out (zag (zbw (zcn (zbf (zao (K:=K) rfl (bpeB (zbk (K:=K) rfl) T.isinstance zar (bpaC (bv 2) (bpaC (zca (v:=.ty "tuple") (by rfl) T.tuple zdo rfl (by decide) (by decide)) zae))) (λ_=>rfl))) (zcm (zbr (zmt (K:=K) rfl hr.units) (bpeB (zbj (K:=K) rfl) T.len zbs (bpaC (bv 2) zae)) (bv 1) (zdb _)))).pt (zaj (zav zdy)) zbd)
 (zaj (zav (bpeB (zmr (K:=K) rfl rfl) T.all zov (bpaC (zdm (zdk (N':=["name","known"]) (own:=["name"]) (fr:=[0]) (by kernel_rfl)) rfl (zen (K:=K) rfl (bv 2)) ?hb1 (by intro _;rfl)) zae)))))
  case hb1=>(intro cl C s H fp;refine'⟨Bx.out (bpgN (i:=0) zqt rfl (Or.inl rfl)),Bx.out zgj,Bx.out (zgv (zzw (K:=K) rfl) (bv 0) (bv 1) (by rfl))⟩)
 exact fn_d (f:=zqe) ((zaz (zfr (zeu (zbo (zbn (zey (zaa 2) zgz))) (st_t (zay ztc (zec zei (zab (zaa 2) zal)) (zaa 1)))) (zbv (se_c λ_=>zan)) zcs) (zbv (zec zvd (zab (zic (zjc (zaa 2)) zit (zpj (by decide)) zjf (zay zaiw (zaa 0) (zaa 1))) zal))))) h
theorem znx{f:Addr}{fd:qw}(F:Fun K "is_rule_behind" "is_rule_behind" zda f fd)(T:Txt mg)(D_are_kinds:zqy P w K mg base)(D_is_name:zqw P w K mg base):FnOk P w K mg base CX0 2 f fd ["known","places","ahead","thing"] (spD 4 zby):=by
 refine F.ok znv (λvs H Q E h=>zcx h) (λcdv A outer s H vs Q E hr h=>?_)
 have hu:=zgc hr
 apply Exists.intro
 apply And.intro
 ·refine' Bx.out (zag (zbw (zcn (zbf (zao (K:=K) rfl (bpeB (zbk (K:=K) rfl) T.isinstance zar (bpaC (bv 3) (bpaC (zca (v:=.ty "tuple") (by rfl) T.tuple zdo rfl (by decide) (by decide)) zae))) (λ_=>rfl))) (zcm (zbr (zmt (K:=K) rfl hr.units) (bpeB (zbj (K:=K) rfl) T.len zbs (bpaC (bv 3) zae)) zak (zdb _)))).pt (zaj (zav zdy)) zbd)
 (zag (zyq (bv 3) (zcl (K:=K) (n:=2) rfl rfl (zau (bpgN (i:=4) zgm rfl (Or.inl rfl)) (zau (bpgN (i:=5) zgm rfl (Or.inl rfl)) zck (by rfl)) (by rfl)) (by rfl) (by rfl)) (by rfl) (by rfl) (by rfl))
 (zag (zbw (zcn (zbf (zao (K:=K) rfl (bpeD D_is_name hr (bpaC (bv 4) zae)) (λ_=>rfl))) (zcm (zbr (zzw (K:=K) rfl) (bv 4) (zdm (zdk (N':=["taken","others"]) (own:=["taken","others"]) (fr:=[]) (by kernel_rfl)) rfl (zen (K:=K) rfl (bv 2)) ?hb1 (by intro _;rfl)) (by rfl)))).pt (zaj (zav zdy)) zbd)
 (zag (zbw (zbf (zao (K:=K) rfl (bpeD D_are_kinds hr (bpaC (bv 0) (bpaC (bv 1) (bpaC (bv 5) zae)))) (λ_=>rfl))) (zaj (zav zdy)) zbd)
 (zaj (zav (zgv (zvk (K:=K) rfl hr.units) (bv 5) (zdm (zdk (N':=["taken","others"]) (own:=["taken","others"]) (fr:=[]) (by kernel_rfl)) rfl (zen (K:=K) rfl (bv 2)) ?hb2 (by intro _;rfl)) (by rfl))))))))
  case hb1=>(intro cl C s H fp;refine'⟨Bx.out (zcl (K:=K) (n:=2) rfl rfl (zau (bpgN (i:=0) zhk rfl (Or.inl rfl)) (zau (bpgN (i:=1) zhk rfl (Or.inl rfl)) zck (by rfl)) (by rfl)) (by rfl) (by rfl)),Bx.out zgj,Bx.out (bv 0)⟩)
  case hb2=>(intro cl C s H fp;refine'⟨Bx.out (zcl (K:=K) (n:=2) rfl rfl (zau (bpgN (i:=0) zhl rfl (Or.inl rfl)) (zau (bpgN (i:=1) zhl rfl (Or.inl rfl)) zck (by rfl)) (by rfl)) (by rfl) (by rfl)),Bx.out zgj,Bx.out (bv 1)⟩)
 exact fn_d (f:=zkc) ((zaz (zfr (zeu (zbo (zbn (zey (zaa 3) zgz))) (st_t (zay ztc (zec zei (zab (zaa 3) zal)) (se_c λ_=>zad)))) (zbv (se_c λ_=>zan)) zcs) (zaz (zaei (zaa 3) (zfk (zax (zax zdl)))) (zaz (zfr (zeu (zbo (zbn (zbh (zab (zaa 4) zal)))) (st_t (zay zaiw (zaa 4) (zic (zjc (zaa 2)) (zfk (zax (zax zdl))) (zod (zdi (by decide) (zdi (by decide) zkn))) zjf (zaa 0))))) (zbv (se_c λ_=>zan)) zcs) (zaz (zfr (zbo (zbn (zbh (zab (zaa 0) (zab (zaa 1) (zab (zaa 5) zal)))))) (zbv (se_c λ_=>zan)) zcs) (zbv (zay zalf (zaa 5) (zic (zjc (zaa 2)) (zfk (zax (zax zdl))) (zod (zdi (by decide) (zdi (by decide) zkn))) zjf (zaa 1))))))))) h
theorem zach{f:Addr}{fd:qw}(F:Fun K "book_of" "book_of" zij f fd)(T:Txt mg)(D_copy_of_web:zga P w K mg base)(D_has_room:zlr P w K mg base)(D_is_rule_behind:zff P w K mg base)(D_is_web:zow P w K mg base)(D_names_of:zlq P w K mg base):FnOk P w K mg base CX0 5 f fd ["web","places","rules"] (spD 3 zwo):=by
 refine F.ok zse (λvs H Q E h=>zcx h) (λcdv A outer s H vs Q E hr h=>?_)
 have hu:=zgc hr
 apply Exists.intro
 apply And.intro
 ·refine' Bx.out (zag (zbw (zcn (zbf (zao (K:=K) rfl (bpeD D_is_web hr (bpaC (bv 0) zae)) (λ_=>rfl))) (zcn (zbf (zao (K:=K) rfl (bpeD D_has_room hr (bpaC (bv 0) (bpaC (bv 1) zae))) (λ_=>rfl))) (zcm (zbf (zao (K:=K) rfl (bpeB (zbk (K:=K) rfl) T.isinstance zar (bpaC (bv 2) (bpaC (zca (v:=.ty "list") (by rfl) T.list zdf rfl (by decide) (by decide)) zae))) (λ_=>rfl)))))).pt (zaj zjg) zbd)
 (zag (bpsS (i:=3) zeq rfl (Or.inl rfl) (bpeD D_names_of hr (bpaC (bv 0) zae)))
 (zag (bpsS (i:=4) zeq rfl (Or.inl rfl) (zhd zae))
 (zag (zft qAO rfl (zfv (K:=K) rfl rfl T.enumerate (bpaC (bv 2) zae) (by rfl)) (zcl (K:=K) (n:=2) rfl rfl (zau (bpgN (i:=5) zeq rfl (Or.inl rfl)) (zau (bpgN (i:=6) zeq rfl (Or.inl rfl)) zck (by rfl)) (by rfl)) (by rfl) (by rfl))
  (zag (zbw (zcn (zbr zadb (bv 5) (zfu (by rfl) T.MOST_RULES (by decide)) (zdb _)) (zcm (zbf (zao (K:=K) rfl (bpeD D_is_rule_behind hr (bpaC (bv 3) (bpaC (bv 1) (bpaC (bv 4) (bpaC (bv 6) zae))))) (λ_=>rfl))))).pt (zaj zjg) zbd)
 (zaj (zcj (zej (K:=K) rfl qS qh qg zcf (bv 4) (bpaC (bv 6) zae) (by rfl) (by rfl) (by rfl) (zap (by rfl)) (by rfl)) (by rfl)))) (by intro _;rfl))
 (zaj (zav (zdu (bpaC (bpeD D_copy_of_web hr (bpaC (bv 0) zae)) (bpaC (bv 1) (bpaC (bv 4) zae))))))))))
 exact fn_d (f:=zwn) ((zaz (zfr (zeu (zbo (zbn (zbh (zab (zaa 0) zal)))) (zeu (zbo (zbn (zbh (zab (zaa 0) (zab (zaa 1) zal))))) (zbo (zbn (zey (zaa 2) zhp))))) zli zcs) (zaz (zct (zbh (zab (zaa 0) zal))) (zaz (zct (zjw zal)) (zaz (zjy (zfs (zab (zaa 2) zal)) (zfk (zax (zax zdl))) (zaz (zfr (zeu (st_t (zay zaee (zaa 5) (se_c λ_=>zad))) (zbo (zbn (zbh (zab (zaa 3) (zab (zaa 1) (zab (zaa 4) (zab (zaa 6) zal)))))))) zli zcs) (zkk (zaa 6)))) (zbv (zhi (zab (zbh (zab (zaa 0) zal)) (zab (zaa 1) (zab (zaa 4) zal)))))))))) h
theorem ztx{f:Addr}{fd:qw}{cl:Str->Addr}(F:Fun K "book_of" "book_of" zoj f fd)(T:Txt mg)(D_copy_of_web:zga P w K mg base)(D_has_room:zlr P w K mg base)(D_is_rule_behind:zff P w K mg base)(D_is_web:zow P w K mg base)(D_names_of:zlq P w K mg base)(X_NoBook:XcOk P w K mg base "NoBook" (cl "NoBook")):FnOk P w K mg base (CXE P w) 5 f fd ["web","places","rules"] (spX cl 3 zde):=by
 refine zalk F ztv (λvs H Q E h=>zafl h) (λcdv A outer s H vs Q E hr h0k h=>?_)
 have hu:=zgc hr
 apply Exists.intro
 apply And.intro
 ·refine' Bx.out (zag (zbw (zcn (zbf (zao (K:=K) rfl (bpeD D_is_web hr (bpaC (bv 0) zae)) (λ_=>rfl))) (zcn (zbf (zao (K:=K) rfl (bpeD D_has_room hr (bpaC (bv 0) (bpaC (bv 1) zae))) (λ_=>rfl))) (zcm (zbf (zao (K:=K) rfl (bpeB (zbk (K:=K) rfl) T.isinstance zar (bpaC (bv 2) (bpaC (zca (v:=.ty "list") (by rfl) T.list zdf rfl (by decide) (by decide)) zae))) (λ_=>rfl)))))).pt (zaj (zmw (C:=cl "NoBook") X_NoBook (hr.mono (by decide)) rfl rfl (zaac h0k) (by rfl) zyp (by decide) (by rfl))) zbd)
 (zag (bpsS (i:=3) zfz rfl (Or.inl rfl) (bpeD D_names_of hr (bpaC (bv 0) zae)))
 (zag (bpsS (i:=4) zfz rfl (Or.inl rfl) (zhd zae))
 (zag (zft qCl rfl (zfv (K:=K) rfl rfl T.enumerate (bpaC (bv 2) zae) (by rfl)) (zcl (K:=K) (n:=2) rfl rfl (zau (bpgN (i:=5) zfz rfl (Or.inl rfl)) (zau (bpgN (i:=6) zfz rfl (Or.inl rfl)) zck (by rfl)) (by rfl)) (by rfl) (by rfl))
  (zag (zbw (zcn (zbr zadb (bv 5) (zfu (by rfl) T.MOST_RULES (by decide)) (zdb _)) (zcm (zbf (zao (K:=K) rfl (bpeD D_is_rule_behind hr (bpaC (bv 3) (bpaC (bv 1) (bpaC (bv 4) (bpaC (bv 6) zae))))) (λ_=>rfl))))).pt (zaj (zmw (C:=cl "NoBook") X_NoBook (hr.mono (by decide)) rfl rfl (zaac h0k) (by rfl) (bv 5) (by decide) (by rfl))) zbd)
 (zaj (zcj (zej (K:=K) rfl qS qh qg zcf (bv 4) (bpaC (bv 6) zae) (by rfl) (by rfl) (by rfl) (zap (by rfl)) (by rfl)) (by rfl)))) (by intro _;rfl))
 (zaj (zav (zdu (bpaC (bpeD D_copy_of_web hr (bpaC (bv 0) zae)) (bpaC (bv 1) (bpaC (bv 4) zae))))))))))
 exact fn_x (f:=zne) ((zjr (zaab (zeu (zbo (zbn (zbh (zab (zaa 0) zal)))) (zeu (zbo (zbn (zbh (zab (zaa 0) (zab (zaa 1) zal))))) (zbo (zbn (zey (zaa 2) zhp))))) (zmv (se_c λ_=>ziz)) (zkp zcs)) (zjr (zkp (zct (zbh (zab (zaa 0) zal)))) (zjr (zkp (zct (zjw zal))) (zjr (zafk (zfs (zab (zaa 2) zal)) (zfk (zax (zax zdl))) (zjr (zaab (zeu (st_t (zay zaee (zaa 5) (se_c λ_=>zad))) (zbo (zbn (zbh (zab (zaa 3) (zab (zaa 1) (zab (zaa 4) (zab (zaa 6) zal)))))))) (zmv (zaa 5)) (zkp zcs)) (zkp (zkk (zaa 6))))) (zkp (zbv (zhi (zab (zbh (zab (zaa 0) zal)) (zab (zaa 1) (zab (zaa 4) zal))))))))))) h
theorem zaci {f:Addr} {fd:qw} {cl:Str->Addr} (F:Fun K "is_book" "is_book" zjm f fd) (T:Txt mg) (D_book_of__X:zlc P w K mg base cl)  (X_NoBook:XcOk P w K mg base "NoBook" (cl "NoBook")):FnOk P w K mg base CX0 6 f fd ["thing"] (spD 1 znf):=by
 refine F.ok zace (λvs H Q E h=>zcx h) (λcdv A outer s H vs Q E hr h=>?_)
 have hu:=zgc hr
 apply Exists.intro
 apply And.intro
 ·refine' Bx.out (zag (zbw (zcn (zbf (zao (K:=K) rfl (bpeB (zbk (K:=K) rfl) T.isinstance zar (bpaC (bv 0) (bpaC (zca (v:=.ty "tuple") (by rfl) T.tuple zdo rfl (by decide) (by decide)) zae))) (λ_=>rfl))) (zcm (zbr (zmt (K:=K) rfl hr.units) (bpeB (zbj (K:=K) rfl) T.len zbs (bpaC (bv 0) zae)) zak (zdb _)))).pt (zaj (zav zdy)) zbd)
 (zag (zyq (bv 0) (zcl (K:=K) (n:=3) rfl rfl (zau (bpgN (i:=1) zlp rfl (Or.inl rfl)) (zau (bpgN (i:=2) zlp rfl (Or.inl rfl)) (zau (bpgN (i:=3) zlp rfl (Or.inl rfl)) zck (by rfl)) (by rfl)) (by rfl)) (by rfl) (by rfl)) (by rfl) (by rfl) (by rfl))
 (zag (zaaf D_book_of__X X_NoBook (hr.mono (by decide)) (by rfl) (bpaC (bv 1) (bpaC (bv 2) (bpaC (bv 3) zae))) rfl rfl (by rfl) (λ_=>(zaj (zav zdy))) (by decide) (by decide) (zap (by rfl)) (by rfl) (by rfl))
 (zaj (zav zdy)))))
 exact fn_d (f:=zwp) ((zaz (zfr (zeu (zbo (zbn (zey (zaa 0) zgz))) (st_t (zay ztc (zec zei (zab (zaa 0) zal)) (se_c λ_=>zad)))) (zbv (se_c λ_=>zan)) zcs) (zaz (zaei (zaa 0) (zfk (zax (zax (zax zdl))))) (zaz (zafw (cl:=cl) (zab (zaa 1) (zab (zaa 2) (zab (zaa 3) zal))) (zbv (se_c λ_=>zan))) (zbv (se_c λ_=>zan)))))) h
theorem zxi {f:Addr} {fd:qw} (F:Fun K "_law_names" "_law_names" zgo f fd) (T:Txt mg)  : FnOk P w K mg base CX0 1 f fd ["_law_many","_law_cell"] (spD 2 zcu):=by
 refine F.ok zww (λvs H Q E h=>zcx h) (λcdv A outer s H vs Q E hr h=>?_)
 have hu:=zgc hr
 apply Exists.intro
 apply And.intro
 ·refine' Bx.out (zag (bpsS (i:=2) zbz rfl (Or.inl rfl) zhe)
 (zag (bpsS (i:=3) zbz rfl (Or.inl rfl) (bpeX (zcd (K:=K) rfl) (zdu (bpaC zak (bpaC zak (bpaC zak (bpaC zak (bpaC zak (bpaC zak (bpaC zak (bpaC zak zae))))))))) (zbe zdh (zbe zgh (bv 1) zak) zak)))
 (zag (bpsS (i:=4) zbz rfl (Or.inl rfl) (zbe zdh (zbe zgh (bv 1) zak) zak))
 (zag (bpsS (i:=5) zbz rfl (Or.inl rfl) (zbe zjo (bpeX (zcd (K:=K) rfl) (bv 2) (zbe zdh (zbe zgh (bv 1) zak) zak)) (zbe zdh (zbe zgh (bv 1) zak) zak)))
 (zag (bpsS (i:=6) zbz rfl (Or.inl rfl) (zbe zdh (zbe zgh (bv 1) zak) (zbe (zco (K:=K) rfl) (bpeB (zbj (K:=K) rfl) T.len zbs (bpaC (bv 5) zae)) zak)))
 (zag (bpsS (i:=7) zbz rfl (Or.inl rfl) (zhd zae))
 (zag (zft qAO rfl (zlj rfl T.range (bpaC (bv 0) zae) (by rfl)) (bpgN (i:=8) zbz rfl (Or.inl rfl))
  (zag (bpsS (i:=9) zbz rfl (Or.inl rfl) (bpeX (zcd (K:=K) rfl) (bv 2) (zbe zdh (zbe (zco (K:=K) rfl) (bv 4) (zbe zjo (bv 3) (bv 8))) zak)))
 (zaj (zbw (zbr (zlv (K:=K) rfl hr.units) (zbe zdh (bv 1) zak) zak (zdb _)) (zaj (zcj (zej (K:=K) rfl qS qh qg zcf (bv 7) (bpaC (zbe (zco (K:=K) rfl) (zbe (zco (K:=K) rfl) (zdc (znp (K:=K) rfl) (bv 5) zfe (zdj (bv 6))) (bv 9)) (zdc (znp (K:=K) rfl) (bv 5) (zdj (bv 6)) zfe)) zae) (by rfl) (by rfl) (by rfl) (zap (by rfl)) (by rfl)) (by rfl))) (zaj (zbw (zbr (zlv (K:=K) rfl hr.units) (zbe zdh (bv 1) zak) zak (zdb _)) (zaj (zcj (zej (K:=K) rfl qS qh qg zcf (bv 7) (bpaC (zbe (zco (K:=K) rfl) (zdc (znp (K:=K) rfl) (bv 5) zfe (zdj (zbe zdh (zbe zjo (bv 8) (bv 3)) (zbe (zco (K:=K) rfl) (bpeB (zbj (K:=K) rfl) T.len zbs (bpaC (bv 5) zae)) zak)))) (bv 9)) zae) (by rfl) (by rfl) (by rfl) (zap (by rfl)) (by rfl)) (by rfl))) (zaj (zcj (zej (K:=K) rfl qS qh qg zcf (bv 7) (bpaC (zbe zjo (bpeX (zcd (K:=K) rfl) (bv 2) (zbe zdh (zbe (zco (K:=K) rfl) (bv 4) (zbe zgh (bv 8) zak)) zak)) (zbe (zco (K:=K) rfl) zak (zbe zdh (zbe zjo (bv 8) (bv 3)) zak))) zae) (by rfl) (by rfl) (by rfl) (zap (by rfl)) (by rfl)) (by rfl)))))))) (by intro _;rfl))
 (zag (zbw (zbr (zlv (K:=K) rfl hr.units) (zbe zdh (zbe zgh (bv 1) zak) zak) zak (zdb _)) (zag (bpsS (i:=10) zbz rfl (Or.inl rfl) (zhd (bpaC zhe (bpaC zhe (bpaC zhe (bpaC zhe (bpaC zhe (bpaC zhe zae))))))))
 (zag (bpsS (i:=11) zbz rfl (Or.inl rfl) (zbe zdh (zbe zgh (bv 1) zak) zak))
 (zaj (bpsS (i:=7) zbz rfl (Or.inl rfl) (zdc (znp (K:=K) rfl) (zbe (zco (K:=K) rfl) (zbe (zco (K:=K) rfl) (zdc (znp (K:=K) rfl) (bv 10) (zdj (bv 11)) zfe) (zdc (znp (K:=K) rfl) (bv 10) zfe (zdj (bv 11)))) (zdc (znp (K:=K) rfl) (bv 7) (zdj zak) zfe)) zfe (zdj (bv 0))))))) zbd)
 (zaj (zav (bv 7)))))))))))
 exact fn_d (f:=zig) ((zaz (zct (se_c λ_=>zcg)) (zaz (zct (zay zanj (zhi (zab (se_c λ_=>zad) (zab (se_c λ_=>zad) (zab (se_c λ_=>zad) (zab (se_c λ_=>zad) (zab (se_c λ_=>zad) (zab (se_c λ_=>zad) (zab (se_c λ_=>zad) (zab (se_c λ_=>zad) zal))))))))) (zay zeg (zay zhb (zaa 1) (se_c λ_=>zad)) (se_c λ_=>zad)))) (zaz (zct (zay zeg (zay zhb (zaa 1) (se_c λ_=>zad)) (se_c λ_=>zad))) (zaz (zct (zay zvb (zbp (zay zeg (zay zhb (zaa 1) (se_c λ_=>zad)) (se_c λ_=>zad))) (zay zeg (zay zhb (zaa 1) (se_c λ_=>zad)) (se_c λ_=>zad)))) (zaz (zct (zay zeg (zay zhb (zaa 1) (se_c λ_=>zad)) (zay zhg (zec zei (zab (zaa 5) zal)) (se_c λ_=>zad)))) (zaz (zct (zjw zal)) (zaz (zjy (zms (zab (zaa 0) zal)) zit (zaz (zct (zbp (zay zeg (zay zhg (zaa 4) (zay zvb (zaa 3) (zaa 8))) (se_c λ_=>zad)))) (zfr (st_t (zay zri (zay zeg (zaa 1) (se_c λ_=>zad)) (se_c λ_=>zad))) (zkk (zay zhg (zay zhg (zol (zaa 5) zhc (zev (zaa 6))) (zaa 9)) (zol (zaa 5) (zev (zaa 6)) zhc))) (zfr (st_t (zay zri (zay zeg (zaa 1) (se_c λ_=>zad)) (se_c λ_=>zad))) (zkk (zay zhg (zol (zaa 5) zhc (zev (zay zeg (zay zvb (zaa 8) (zaa 3)) (zay zhg (zec zei (zab (zaa 5) zal)) (se_c λ_=>zad))))) (zaa 9))) (zkk (zay zvb (zbp (zay zeg (zay zhg (zaa 4) (zay zhb (zaa 8) (se_c λ_=>zad))) (se_c λ_=>zad))) (zay zhg (se_c λ_=>zad) (zay zeg (zay zvb (zaa 8) (zaa 3)) (se_c λ_=>zad))))))))) (zaz (zfr (st_t (zay zri (zay zeg (zay zhb (zaa 1) (se_c λ_=>zad)) (se_c λ_=>zad)) (se_c λ_=>zad))) (zaz (zct (zjw (zab (se_c λ_=>zcg) (zab (se_c λ_=>zcg) (zab (se_c λ_=>zcg) (zab (se_c λ_=>zcg) (zab (se_c λ_=>zcg) (zab (se_c λ_=>zcg) zal)))))))) (zaz (zct (zay zeg (zay zhb (zaa 1) (se_c λ_=>zad)) (se_c λ_=>zad))) (zct (zol (zay zhg (zay zhg (zol (zaa 10) (zev (zaa 11)) zhc) (zol (zaa 10) zhc (zev (zaa 11)))) (zol (zaa 7) (zev (se_c λ_=>zad)) zhc)) zhc (zev (zaa 0)))))) zcs) zmj))))))))) h
theorem zacj {f:Addr} {fd:qw} (F:Fun K "_law_web" "_law_web" zjn f fd) (T:Txt mg)  : FnOk P w K mg base CX0 1 f fd ["_law_cells","_law_names_here"] (spD 2 zkr):=by
 refine F.ok zacf (λvs H Q E h=>zcx h) (λcdv A outer s H vs Q E hr h=>?_)
 have hu:=zgc hr
 apply Exists.intro
 apply And.intro
 ·refine' Bx.out (zag (bpsS (i:=2) zea rfl (Or.inl rfl) (zhd zae))
 (zag (zft qAO rfl (zfv (K:=K) rfl rfl T.enumerate (bpaC (bv 1) zae) (by rfl)) (zcl (K:=K) (n:=2) rfl rfl (zau (bpgN (i:=3) zea rfl (Or.inl rfl)) (zau (bpgN (i:=4) zea rfl (Or.inl rfl)) zck (by rfl)) (by rfl)) (by rfl) (by rfl))
  (zag (bpsS (i:=5) zea rfl (Or.inl rfl) (zdc (znp (K:=K) rfl) (bv 1) zfe (zdj (bv 3))))
 (zag (bpsS (i:=6) zea rfl (Or.inl rfl) (zbe zgh (bpeX (zcd (K:=K) rfl) (bv 0) (bv 3)) zak))
 (zag (bpsS (i:=7) zea rfl (Or.inl rfl) (zhd zae))
 (zag (zft qAO rfl (zlj rfl T.range (bpaC (bpeB (zadd rfl) T.min zakd (bpaC (zbe zdh (bpeX (zcd (K:=K) rfl) (bv 0) (bv 3)) zak) (bpaC (bv 3) zae))) zae) (by rfl)) (bpgN (i:=8) zea rfl (Or.inl rfl))
  (zag (bpsS (i:=9) zea rfl (Or.inl rfl) (zbe zdh (bv 6) (bpeB (zbj (K:=K) rfl) T.len zbs (bpaC (bv 5) zae))))
 (zag (bpsS (i:=6) zea rfl (Or.inl rfl) (zbe zgh (bv 6) (bpeB (zbj (K:=K) rfl) T.len zbs (bpaC (bv 5) zae))))
 (zaj (zcj (zej (K:=K) rfl qS qh qg zcf (bv 7) (bpaC (zej (K:=K) rfl qS qBU qBT zzu (bv 5) (bpaC (bv 9) zae) (by rfl) (by rfl) (by rfl) (zap (by rfl)) (by rfl)) zae) (by rfl) (by rfl) (by rfl) (zap (by rfl)) (by rfl)) (by rfl))))) (by intro _;rfl))
 (zaj (zcj (zej (K:=K) rfl qS qh qg zcf (bv 2) (bpaC (zdu (bpaC (bv 4) (bpaC (bv 7) zae))) zae) (by rfl) (by rfl) (by rfl) (zap (by rfl)) (by rfl)) (by rfl))))))) (by intro _;rfl))
 (zaj (zav (bv 2)))))
 exact fn_d (f:=zwb) ((zaz (zct (zjw zal)) (zaz (zjy (zfs (zab (zaa 1) zal)) (zfk (zax (zax zdl))) (zaz (zct (zol (zaa 1) zhc (zev (zaa 3)))) (zaz (zct (zay zhb (zbp (zaa 3)) (se_c λ_=>zad))) (zaz (zct (zjw zal)) (zaz (zjy (zms (zab (zec zarx (zab (zay zeg (zbp (zaa 3)) (se_c λ_=>zad)) (zab (zaa 3) zal))) zal)) zit (zaz (zct (zay zeg (zaa 6) (zec zei (zab (zaa 5) zal)))) (zaz (zct (zay zhb (zaa 6) (zec zei (zab (zaa 5) zal)))) (zaeo (zaa 9))))) (zkk (zhi (zab (zaa 4) (zab (zaa 7) zal))))))))) zmj))) h
theorem zxj {f:Addr} {fd:qw} (F:Fun K "_law_rules" "_law_rules" zgp f fd) (T:Txt mg)  : FnOk P w K mg base CX0 1 f fd ["_law_cells","_law_names_here","_law_places","_law_titles"] (spD 4 zem):=by
 refine F.ok zwy (λvs H Q E h=>zcx h) (λcdv A outer s H vs Q E hr h=>?_)
 have hu:=zgc hr
 apply Exists.intro
 apply And.intro
 ·refine' Bx.out (zag (bpsS (i:=4) zdq rfl (Or.inl rfl) (zhd zae))
 (zag (zft qAO rfl (zfv (K:=K) rfl rfl T.enumerate (bpaC (bv 3) zae) (by rfl)) (zcl (K:=K) (n:=2) rfl rfl (zau (bpgN (i:=5) zdq rfl (Or.inl rfl)) (zau (bpgN (i:=6) zdq rfl (Or.inl rfl)) zck (by rfl)) (by rfl)) (by rfl) (by rfl))
  (zag (bpsS (i:=7) zdq rfl (Or.inl rfl) (bpeX (zcd (K:=K) rfl) (bv 0) (bv 5)))
 (zag (bpsS (i:=8) zdq rfl (Or.inl rfl) (zhd zae))
 (zag (zft qAO rfl (zlj rfl T.range (bpaC (bv 2) zae) (by rfl)) (bpgN (i:=9) zdq rfl (Or.inl rfl))
  (zag (zcj (zej (K:=K) rfl qS qh qg zcf (bv 8) (bpaC (bpeX (zcd (K:=K) rfl) (bv 1) (zbe zdh (bv 7) (bpeB (zbj (K:=K) rfl) T.len zbs (bpaC (bv 1) zae)))) zae) (by rfl) (by rfl) (by rfl) (zap (by rfl)) (by rfl)) (by rfl))
 (zaj (bpsS (i:=7) zdq rfl (Or.inl rfl) (zbe zgh (bv 7) (bpeB (zbj (K:=K) rfl) T.len zbs (bpaC (bv 1) zae)))))) (by intro _;rfl))
 (zaj (zbw (zbr (zvk (K:=K) rfl hr.units) (bpeT (zmk (K:=K) rfl) T.tuple zdo (bpaC (bv 8) zae)) (zdm (zdk (N':=["_law_one","_law_row"]) (own:=["_law_one","_law_row"]) (fr:=[]) (by kernel_rfl)) rfl (zen (K:=K) rfl (bv 4)) ?hb1 (by intro _;rfl)) (by rfl)) (zaj (zcj (zej (K:=K) rfl qS qh qg zcf (bv 4) (bpaC (zdu (bpaC (bv 6) (bpaC (bpeT (zmk (K:=K) rfl) T.tuple zdo (bpaC (bv 8) zae)) zae))) zae) (by rfl) (by rfl) (by rfl) (zap (by rfl)) (by rfl)) (by rfl))) zbd))))) (by intro _;rfl))
 (zaj (zav (bv 4)))))
  case hb1=>(intro cl C s H fp;refine'⟨Bx.out (zcl (K:=K) (n:=2) rfl rfl (zau (bpgN (i:=0) zla rfl (Or.inl rfl)) (zau (bpgN (i:=1) zla rfl (Or.inl rfl)) zck (by rfl)) (by rfl)) (by rfl) (by rfl)),Bx.out zgj,Bx.out (bv 1)⟩)
 exact fn_d (f:=zkw) ((zaz (zct (zjw zal)) (zaz (zjy (zfs (zab (zaa 3) zal)) (zfk (zax (zax zdl))) (zaz (zct (zbp (zaa 5))) (zaz (zct (zjw zal)) (zaz (zjy (zms (zab (zaa 2) zal)) zit (zaz (zkk (zbp (zay zeg (zaa 7) (zec zei (zab (zaa 1) zal))))) (zct (zay zhb (zaa 7) (zec zei (zab (zaa 1) zal)))))) (zfr (st_t (zay zalf (zec zte (zab (zaa 8) zal)) (zic (zjc (zaa 4)) (zfk (zax (zax zdl))) (zod (zdi (by decide) (zdi (by decide) zkn))) zjf (zaa 1)))) (zkk (zhi (zab (zaa 6) (zab (zec zte (zab (zaa 8) zal)) zal)))) zcs))))) zmj))) h
theorem zxk {f:Addr} {fd:qw} (F:Fun K "_law_alike" "_law_alike" zgq f fd) (T:Txt mg)  : FnOk P w K mg base CX0 1 f fd ["_law_made","_law_web_here","_law_places","_law_rules_here"] (spD 4 zbi):=by
 refine F.ok zwz (λvs H Q E h=>zcx h) (λcdv A outer s H vs Q E hr h=>?_)
 have hu:=zgc hr
 apply Exists.intro
 apply And.intro
 ·refine' Bx.out (zag (zbw (zcn (zbf (zao (K:=K) rfl (bpeB (zbk (K:=K) rfl) T.isinstance zar (bpaC (bv 0) (bpaC (zca (v:=.ty "tuple") (by rfl) T.tuple zdo rfl (by decide) (by decide)) zae))) (λ_=>rfl))) (zcn (zbr (zmt (K:=K) rfl hr.units) (bpeB (zbj (K:=K) rfl) T.len zbs (bpaC (bv 0) zae)) zak (zdb _)) (zcn (zao (K:=K) rfl (bpeB (zbk (K:=K) rfl) T.isinstance zar (bpaC (bpeX (zcd (K:=K) rfl) (bv 0) zak) (bpaC (zca (v:=.ty "bool") (by rfl) T.bool zqi rfl (by decide) (by decide)) zae))) (λ_=>rfl)) (zcm (zbr (zmt (K:=K) rfl hr.units) (bpeX (zcd (K:=K) rfl) (bv 0) zak) (bv 2) (zdb _)))))).pt (zaj (zav zdy)) zbd)
 (zag (zbw (zcn (zbf (zao (K:=K) rfl (bpeB (zbk (K:=K) rfl) T.isinstance zar (bpaC (bpeX (zcd (K:=K) rfl) (bv 0) zak) (bpaC (zca (v:=.ty "list") (by rfl) T.list zdf rfl (by decide) (by decide)) zae))) (λ_=>rfl))) (zcn (zbr (zmt (K:=K) rfl hr.units) (bpeB (zbj (K:=K) rfl) T.len zbs (bpaC (bpeX (zcd (K:=K) rfl) (bv 0) zak) zae)) (bpeB (zbj (K:=K) rfl) T.len zbs (bpaC (bv 1) zae)) (zdb _)) (zcm (zbf (zao (K:=K) rfl (bpeB (zbk (K:=K) rfl) T.isinstance zar (bpaC (bpeX (zcd (K:=K) rfl) (bv 0) zak) (bpaC (zca (v:=.ty "list") (by rfl) T.list zdf rfl (by decide) (by decide)) zae))) (λ_=>rfl)))))).pt (zaj (zav zdy)) zbd)
 (zag (zft qAO rfl (zfv (K:=K) rfl rfl T.enumerate (bpaC (bpeX (zcd (K:=K) rfl) (bv 0) zak) zae) (by rfl)) (zcl (K:=K) (n:=2) rfl rfl (zau (bpgN (i:=4) ziq rfl (Or.inl rfl)) (zau (bpgN (i:=5) ziq rfl (Or.inl rfl)) zck (by rfl)) (by rfl)) (by rfl) (by rfl))
  (zaj (zbw (zcn (zbf (zao (K:=K) rfl (bpeB (zbk (K:=K) rfl) T.isinstance zar (bpaC (bv 5) (bpaC (zca (v:=.ty "tuple") (by rfl) T.tuple zdo rfl (by decide) (by decide)) zae))) (λ_=>rfl))) (zcn (zbf (zao (K:=K) rfl (bpeB (zbk (K:=K) rfl) T.isinstance zar (bpaC (bpeX (zcd (K:=K) rfl) (bv 5) zak) (bpaC (zca (v:=.ty "list") (by rfl) T.list zdf rfl (by decide) (by decide)) zae))) (λ_=>rfl))) (zcm (zbr (zmt (K:=K) rfl hr.units) (bv 5) (bpeX (zcd (K:=K) rfl) (bv 1) (bv 4)) (zdb _))))).pt (zaj (zav zdy)) zbd)) (by intro _;rfl))
 (zag (zft qAO rfl (zen (K:=K) rfl (bpeX (zcd (K:=K) rfl) (bv 0) zak)) (bpgN (i:=6) ziq rfl (Or.inl rfl))
  (zaj (zbw (zcn (zbf (zao (K:=K) rfl (bpeB (zbk (K:=K) rfl) T.isinstance zar (bpaC (bv 6) (bpaC (zca (v:=.ty "tuple") (by rfl) T.tuple zdo rfl (by decide) (by decide)) zae))) (λ_=>rfl))) (zcn (zbr (zmt (K:=K) rfl hr.units) (bpeB (zbj (K:=K) rfl) T.len zbs (bpaC (bv 6) zae)) zak (zdb _)) (zcm (zbf (zao (K:=K) rfl (bpeB (zbk (K:=K) rfl) T.isinstance zar (bpaC (bpeX (zcd (K:=K) rfl) (bv 6) zak) (bpaC (zca (v:=.ty "tuple") (by rfl) T.tuple zdo rfl (by decide) (by decide)) zae))) (λ_=>rfl)))))).pt (zaj (zav zdy)) zbd)) (by intro _;rfl))
 (zaj (zav (zgv (zlv (K:=K) rfl hr.units) (bpeX (zcd (K:=K) rfl) (bv 0) zak) (bv 3) (zdb _))))))))
 exact fn_d (f:=zkx) ((zaz (zfr (zeu (zbo (zbn (zey (zaa 0) zgz))) (zeu (st_t (zay ztc (zec zei (zab (zaa 0) zal)) (se_c λ_=>zad))) (zeu (zbn (zey (zbp (se_c λ_=>zad)) ztf)) (st_t (zay ztc (zbp (se_c λ_=>zad)) (zaa 2)))))) (zbv (se_c λ_=>zan)) zcs) (zaz (zfr (zeu (zbo (zbn (zey (zbp (se_c λ_=>zad)) zhp))) (zeu (st_t (zay ztc (zec zei (zab (zbp (se_c λ_=>zad)) zal)) (zec zei (zab (zaa 1) zal)))) (zbo (zbn (zey (zbp (se_c λ_=>zad)) zhp))))) (zbv (se_c λ_=>zan)) zcs) (zaz (zjy (zfs (zab (zbp (se_c λ_=>zad)) zal)) (zfk (zax (zax zdl))) (zfr (zeu (zbo (zbn (zey (zaa 5) zgz))) (zeu (zbo (zbn (zey (zbp (se_c λ_=>zad)) zhp))) (st_t (zay ztc (zaa 5) (zbp (zaa 4)))))) (zbv (se_c λ_=>zan)) zcs)) (zaz (zjy (zjc (zbp (se_c λ_=>zad))) zit (zfr (zeu (zbo (zbn (zey (zaa 6) zgz))) (zeu (st_t (zay ztc (zec zei (zab (zaa 6) zal)) (se_c λ_=>zad))) (zbo (zbn (zey (zbp (se_c λ_=>zad)) zgz))))) (zbv (se_c λ_=>zan)) zcs)) (zbv (zay zri (zbp (se_c λ_=>zad)) (zaa 3)))))))) h
theorem zro{f:Addr}{fd:qw}{cl:Str->Addr}(F:Fun K "_law_refused" "_law_refused" zer f fd)(T:Txt mg)(D_book_of__X:zlc P w K mg base cl)(XK:XKit P w K mg base cl ["NoBook"] [] "NoBook"):FnOk P w K mg base CX0 6 f fd ["_law_web_here","_law_places","_law_rules_here","_law_due"] (spD 4 zeo):=by
 refine F.ok zrl (λvs H Q E h=>zcx h) (λcdv A outer s H vs Q E hr h=>?_)
 have hu:=zgc hr
 apply Exists.intro
 apply And.intro
 ·refine' Bx.out (zag (bpsS (i:=5) zgx rfl (Or.inl rfl) zdy)
 (zag (zajs (j:=4) D_book_of__X XK (hr.mono (by decide)) (by rfl) (bpaC (bv 0) (bpaC (bv 1) (bpaC (bv 2) zae))) zgx rfl rfl rfl rfl (by rfl) (λ_ _ _ hxm hxcl=>(zaj (bpsS (i:=5) zgx rfl (Or.inl rfl) (zyo (zgv (zlv (K:=K) rfl hr.units) (zaae (K:=K) rfl hxm (bv 4) (by rfl)) (bv 3) (zdb _)) (ztn (zaey (bpeB (zbk (K:=K) rfl) T.isinstance zar (bpaC (zaae (K:=K) rfl hxm (bv 4) (by rfl)) (bpaC (zca (v:=.ty "bool") (by rfl) T.bool zqi rfl (by decide) (by decide)) zae))))))))) (by decide) (by decide) (zap (by rfl)) (by rfl) (by rfl))
 (zaj (zav (bv 5)))))
 exact fn_d (f:=zjk) ((zaz (zct (se_c λ_=>zan)) (zaz (zaop (cl:=cl) 6 (by decide) (zab (zaa 0) (zab (zaa 1) (zab (zaa 2) zal))) (by intro xc hxc xd;exact(zaoo (i:=5) (j:=4) (zaos (zast zri zalq (zass (zaa 3))) (zaot (zaou zalq ztf))) (by decide)))) zmj))) h
theorem zzg {f:Addr} {fd:qw} (F:Fun K "_law_copy" "_law_copy" zgr f fd) (T:Txt mg)  : FnOk P w K mg base CX0 1 f fd ["_law_web_here"] (spD 1 zmc):=by
 refine F.ok zqo (λvs H Q E h=>zcx h) (λcdv A outer s H vs Q E hr h=>?_)
 have hu:=zgc hr
 apply Exists.intro
 apply And.intro
 ·refine' Bx.out (zaj (zav (zdm (zdk (N':=["_law_name","_law_elders"]) (own:=["_law_name","_law_elders"]) (fr:=[]) (by kernel_rfl)) rfl (zen (K:=K) rfl (bv 0)) ?hb1 (by intro _;rfl))))
  case hb1=>(intro cl C s H fp;refine'⟨Bx.out (zcl (K:=K) (n:=2) rfl rfl (zau (bpgN (i:=0) zgy rfl (Or.inl rfl)) (zau (bpgN (i:=1) zgy rfl (Or.inl rfl)) zck (by rfl)) (by rfl)) (by rfl) (by rfl)),Bx.out zgj,Bx.out (zdu (bpaC (bv 0) (bpaC (bpeT (ziy (K:=K) rfl) T.list zdf (bpaC (bv 1) zae)) zae)))⟩)
 exact fn_d (f:=zmb) ((zbv (zic (zjc (zaa 0)) (zfk (zax (zax zdl))) (zod (zdi (by decide) (zdi (by decide) zkn))) zjf (zhi (zab (zaa 0) (zab (zec zpg (zab (zaa 1) zal)) zal)))))) h
theorem zxl {f:Addr} {fd:qw} (F:Fun K "_law_wrong" "_law_wrong" zgs f fd) (T:Txt mg)  : FnOk P w K mg base CX0 1 f fd ["_law_rules_here","_law_title","_law_choice","_law_cell","_law_kinds"] (spD 5 zii):=by
 refine F.ok zxa (λvs H Q E h=>zcx h) (λcdv A outer s H vs Q E hr h=>?_)
 have hu:=zgc hr
 apply Exists.intro
 apply And.intro
 ·refine' Bx.out (zag (bpsS (i:=5) zoi rfl (Or.inl rfl) (bpeX (zcd (K:=K) rfl) (bv 0) (zbe zdh (bv 3) (bpeB (zbj (K:=K) rfl) T.len zbs (bpaC (bv 0) zae)))))
 (zag (zbw (zbr (zlv (K:=K) rfl hr.units) (bv 2) zak (zdb _)) (zaj (zav (zdu (bpaC (bpeX (zcd (K:=K) rfl) (bv 5) zak) (bpaC (bv 4) zae))))) zbd)
 (zag (zbw (zbr (zlv (K:=K) rfl hr.units) (bv 2) zak (zdb _)) (zaj (zav (zdu (bpaC (bv 1) (bpaC (bpeX (zcd (K:=K) rfl) (bv 5) zak) zae))))) zbd)
 (zaj (zav (zdu (bpaC (bv 1) (bpaC (zbe (zafb (K:=K) rfl) (zdc (sl_W (K:=K) rfl) (bv 4) zfe (zdj (zafa zacy zak))) (zdu (bpaC (zbe (zco (K:=K) rfl) (bpeX (zcd (K:=K) rfl) (bv 4) (zafa zacy zak)) zhe) zae))) zae))))))))
 exact fn_d (f:=zqf) ((zaz (zct (zbp (zay zeg (zaa 3) (zec zei (zab (zaa 0) zal))))) (zaz (zfr (st_t (zay zri (zaa 2) (se_c λ_=>zad))) (zbv (zhi (zab (zbp (se_c λ_=>zad)) (zab (zaa 4) zal)))) zcs) (zaz (zfr (st_t (zay zri (zaa 2) (se_c λ_=>zad))) (zbv (zhi (zab (zaa 1) (zab (zbp (se_c λ_=>zad)) zal)))) zcs) (zbv (zhi (zab (zaa 1) (zab (zay zafc (zali (zaa 4) zhc (zev (zaen (se_c λ_=>zad)))) (zhi (zab (zay zhg (zbp (zaen (se_c λ_=>zad))) (se_c λ_=>zcg)) zal))) zal)))))))) h
theorem zxm {f:Addr} {fd:qw} (F:Fun K "_law_first" "_law_first" zgt f fd) (T:Txt mg)  : FnOk P w K mg base CX0 1 f fd ["_law_row","_law_names_here"] (spD 2 zjt):=by
 refine F.ok zxb (λvs H Q E h=>zcx h) (λcdv A outer s H vs Q E hr h=>?_)
 have hu:=zgc hr
 apply Exists.intro
 apply And.intro
 ·refine' Bx.out (zag (zft qAO rfl (zfv (K:=K) rfl rfl T.enumerate (bpaC (bv 0) zae) (by rfl)) (zcl (K:=K) (n:=2) rfl rfl (zau (bpgN (i:=2) zkz rfl (Or.inl rfl)) (zau (bpgN (i:=3) zkz rfl (Or.inr rfl)) zck (by rfl)) (by rfl)) (by rfl) (by rfl))
  (zag (zbw (zao (K:=K) rfl (bpeB (zaeb (K:=K) rfl rfl) T.any zakb (bpaC (zdm (zdk (N':=["_law_one","_law_rule"]) (own:=["_law_one"]) (fr:=[3]) (by kernel_rfl)) rfl (zen (K:=K) rfl (zdc (znp (K:=K) rfl) (bv 0) zfe (zdj (bv 2)))) ?hb1 (by intro _;rfl)) zae)) (λ_=>rfl)) (zaj (zav (bv 2))) zbd)
 (zaj (zbw (zbf (zao (K:=K) rfl (bpeB (zmr (K:=K) rfl rfl) T.all zov (bpaC (zdm (zdk (N':=["_law_kind","_law_names_here"]) (own:=["_law_kind"]) (fr:=[1]) (by kernel_rfl)) rfl (zen (K:=K) rfl (bpeX (zcd (K:=K) rfl) (bv 3) zak)) ?hb2 (by intro _;rfl)) zae)) (λ_=>rfl))) (zaj (zav (bv 2))) zbd))) (by intro _;rfl))
 (zaj (zav zyp)))
  case hb1=>(intro cl C s H fp;refine'⟨Bx.out (bpgN (i:=0) zqu rfl (Or.inl rfl)),Bx.out zgj,Bx.out (zash (zgv (zlv (K:=K) rfl hr.units) (bpeX (zcd (K:=K) rfl) (bv 0) zak) (bpeX (zcd (K:=K) rfl) (bv 1) zak) (zdb _)) (ztn (zgv (zlv (K:=K) rfl hr.units) (bpeX (zcd (K:=K) rfl) (bv 0) zak) (bpeX (zcd (K:=K) rfl) (bv 1) zak) (zdb _))))⟩)
  case hb2=>(intro cl C s H fp;refine'⟨Bx.out (bpgN (i:=0) zqv rfl (Or.inl rfl)),Bx.out zgj,Bx.out (zgv (zzw (K:=K) rfl) (bv 0) (bv 1) (by rfl))⟩)
 exact fn_d (f:=zqg) ((zaz (zjy (zfs (zab (zaa 0) zal)) (zfk (zax (zax zdl))) (zaz (zfr (zbn (zec zvd (zab (zic (zjc (zol (zaa 0) zhc (zev (zaa 2)))) zit (zpj (by decide)) zjf (zaul (zay zri (zbp (se_c λ_=>zad)) (zbp (se_c λ_=>zad))) (zay zri (zbp (se_c λ_=>zad)) (zbp (se_c λ_=>zad))))) zal))) zmj zcs) (zfr (zbo (zbn (zec zvd (zab (zic (zjc (zbp (se_c λ_=>zad))) zit (zpj (by decide)) zjf (zay zaiw (zaa 0) (zaa 1))) zal)))) zmj zcs))) (zbv (se_c λ_=>ziz)))) h
theorem zrf {f:Addr} {fd:qw} (F:Fun K "copy_of_web" "copy_of_web" zdw f fd) (T:Txt mg)  : FnOk P w K mg base CX0 1 f fd ["web"] (spT 1 zfc):=by
 refine F.ok zmd (λvs H Q E h=>zyu h) (λcdv A outer s H vs Q E hr h=>?_)
 have hu:=zgc hr
 apply Exists.intro
 apply And.intro
 ·refine' Bx.out (zaj (zav (zdm (zdk (N':=["name","elders"]) (own:=["name","elders"]) (fr:=[]) (by kernel_rfl)) rfl (zen (K:=K) rfl (bv 0)) ?hb1 (by intro _;rfl))))
  case hb1=>(intro cl C s H fp;refine'⟨Bx.out (zcl (K:=K) (n:=2) rfl rfl (zau (bpgN (i:=0) zes rfl (Or.inl rfl)) (zau (bpgN (i:=1) zes rfl (Or.inl rfl)) zck (by rfl)) (by rfl)) (by rfl) (by rfl)),Bx.out zgj,Bx.out (zdu (bpaC (bv 0) (bpaC (bpeT (ziy (K:=K) rfl) T.list zdf (bpaC (bv 1) zae)) zae)))⟩)
 exact zaor (E:=E) (E':=E0) (f:=zma) ((zafx (zaad (zjc (zaa 0)) (zfk (zax (zax zdl))) (zod (zdi (by decide) (zdi (by decide) zkn))) zjf (zafu (zot (zafs (zaa 0)) (zot (zalo (zec zpg (zab (zaa 1) zal))) zaft)))))) h
theorem zzh{f:Addr}{fd:qw}(F:Fun K "book_of" "book_of" zij f fd)(T:Txt mg)(DT_copy_of_web:zix P w K mg base)(D_has_room:zlr P w K mg base)(D_is_rule_behind:zff P w K mg base)(D_is_web:zow P w K mg base)(D_names_of:zlq P w K mg base):FnOk P w K mg base CX0 5 f fd ["web","places","rules"] (spT 3 zdn):=by
 refine F.ok zse (λvs H Q E h=>zyu h) (λcdv A outer s H vs Q E hr h=>?_)
 have hu:=zgc hr
 apply Exists.intro
 apply And.intro
 ·refine' Bx.out (zag (zbw (zcn (zbf (zao (K:=K) rfl (bpeD D_is_web hr (bpaC (bv 0) zae)) (λ_=>rfl))) (zcn (zbf (zao (K:=K) rfl (bpeD D_has_room hr (bpaC (bv 0) (bpaC (bv 1) zae))) (λ_=>rfl))) (zcm (zbf (zao (K:=K) rfl (bpeB (zbk (K:=K) rfl) T.isinstance zar (bpaC (bv 2) (bpaC (zca (v:=.ty "list") (by rfl) T.list zdf rfl (by decide) (by decide)) zae))) (λ_=>rfl)))))).pt (zaj zjg) zbd)
 (zag (bpsS (i:=3) zeq rfl (Or.inl rfl) (bpeD D_names_of hr (bpaC (bv 0) zae)))
 (zag (bpsS (i:=4) zeq rfl (Or.inl rfl) (zhd zae))
 (zag (zft qAO rfl (zfv (K:=K) rfl rfl T.enumerate (bpaC (bv 2) zae) (by rfl)) (zcl (K:=K) (n:=2) rfl rfl (zau (bpgN (i:=5) zeq rfl (Or.inl rfl)) (zau (bpgN (i:=6) zeq rfl (Or.inl rfl)) zck (by rfl)) (by rfl)) (by rfl) (by rfl))
  (zag (zbw (zcn (zbr zadb (bv 5) (zfu (by rfl) T.MOST_RULES (by decide)) (zdb _)) (zcm (zbf (zao (K:=K) rfl (bpeD D_is_rule_behind hr (bpaC (bv 3) (bpaC (bv 1) (bpaC (bv 4) (bpaC (bv 6) zae))))) (λ_=>rfl))))).pt (zaj zjg) zbd)
 (zaj (zcj (zej (K:=K) rfl qS qh qg zcf (bv 4) (bpaC (bv 6) zae) (by rfl) (by rfl) (by rfl) (zap (by rfl)) (by rfl)) (by rfl)))) (by intro _;rfl))
 (zaj (zav (zdu (bpaC (bpeD DT_copy_of_web hr (bpaC (bv 0) zae)) (bpaC (bv 1) (bpaC (bv 4) zae))))))))))
 exact zaor (E:=E) (E':=E0) (f:=zsa) ((zou (zfr (zeu (zbo (zbn (zbh (zab (zaa 0) zal)))) (zeu (zbo (zbn (zbh (zab (zaa 0) (zab (zaa 1) zal))))) (zbo (zbn (zey (zaa 2) zhp))))) zli zcs) (zou (zct (zbh (zab (zaa 0) zal))) (zou (zct (zjw zal)) (zou (zjy (zfs (zab (zaa 2) zal)) (zfk (zax (zax zdl))) (zaz (zfr (zeu (st_t (zay zaee (zaa 5) (se_c λ_=>zad))) (zbo (zbn (zbh (zab (zaa 3) (zab (zaa 1) (zab (zaa 4) (zab (zaa 6) zal)))))))) zli zcs) (zkk (zaa 6)))) (zajw (zaoy (zaag (zajt (zab (zaa 0) zal)) (zaag (zafs (zaa 1)) (zaox 4)))))))))) h
theorem zxn {f:Addr} {fd:qw} (F:Fun K "_law_copy" "_law_copy" zgr f fd) (T:Txt mg)  : FnOk P w K mg base CX0 1 f fd ["_law_web_here"] (spT 1 zfj):=by
 refine F.ok zqo (λvs H Q E h=>zyu h) (λcdv A outer s H vs Q E hr h=>?_)
 have hu:=zgc hr
 apply Exists.intro
 apply And.intro
 ·refine' Bx.out (zaj (zav (zdm (zdk (N':=["_law_name","_law_elders"]) (own:=["_law_name","_law_elders"]) (fr:=[]) (by kernel_rfl)) rfl (zen (K:=K) rfl (bv 0)) ?hb1 (by intro _;rfl))))
  case hb1=>(intro cl C s H fp;refine'⟨Bx.out (zcl (K:=K) (n:=2) rfl rfl (zau (bpgN (i:=0) zgy rfl (Or.inl rfl)) (zau (bpgN (i:=1) zgy rfl (Or.inl rfl)) zck (by rfl)) (by rfl)) (by rfl) (by rfl)),Bx.out zgj,Bx.out (zdu (bpaC (bv 0) (bpaC (bpeT (ziy (K:=K) rfl) T.list zdf (bpaC (bv 1) zae)) zae)))⟩)
 exact zaor (E:=E) (E':=E0) (f:=zqh) ((zafx (zaad (zjc (zaa 0)) (zfk (zax (zax zdl))) (zod (zdi (by decide) (zdi (by decide) zkn))) zjf (zafu (zot (zafs (zaa 0)) (zot (zalo (zec zpg (zab (zaa 1) zal))) zaft)))))) h
end
noncomputable def knB(N:List Str):PyData->Bool
 | .str z=>decide (z∈N)
 | _=>false
theorem zagq(N:List Str)(d:PyData):((N.map PyData.str).any λe=>qZ e d)=knB N d:=by
 cases d with
 | str z=>exact zaaj N z
 | _=>
  rw[qCK]
  exact List.any_eq_false.mpr λx _=>by simp[qZ]
section
variable{a b:EF}{env:DEnv}
theorem zauw{neg:Bool}{d c:PyData}{ds:List PyData}{f1 f2:Bool}{b1 b2:List Nat}(ha:a env=some ⟨d,f1,b1⟩)(hb:b env=some ⟨c,f2,b2⟩)(hi:zim c=some ds)(h:ztm d=true\/ds.all ztm=true):eOp (inTD neg) a b env=some (vb (if neg then !(ds.any λe=>qZ e d)else ds.any λe=>qZ e d)):=by
 unfold eOp;rw[ha,hb]
 simp only[qC,inTD]
 rw[hi]
 simp only
 rw[if_pos h];rfl
end
theorem zagr(xs:List Str):(xs.map PyData.str).all ztm=true:=by
 rw[qB5];exact qs.mpr λ_ _=>rfl
noncomputable def unS:List PyData->Option (List Str)
 | []=>some []
 | .str x::r=>(unS r).map λxs=>x::xs
 | _::_=>none
theorem zty:∀{ds:List PyData}{xs:List Str},unS ds=some xs->ds=xs.map .str
 | [],xs,h=>by cases h;rfl
 | d::r,xs,h=>by
  cases d with
  | str x=>
   obtain⟨ys,hy,rfl⟩:=qH.mp h
   rw[zty hy];rfl
  | _=>cases h
theorem zaar:∀{ds:List PyData},unS ds=none->∃d∈ds,ztm d=false
 | [],h=>by cases h
 | d::r,h=>by
  cases d with
  | str x=>
   have:unS r=none:=by
    cases hr:unS r with
    | none=>rfl
    | some xs=>unfold unS at h;rw[hr]at h;cases h
   obtain⟨e,he,f⟩:=zaar this
   exact⟨e,qK _ he,f⟩
  | _=>exact⟨_,qk,rfl⟩
noncomputable def zaux(W:Web)(k o:Str):PyData->Bool
 | .list ds=>match unS ds with
  | some xs=>isH W k o xs
  | none=>false
 | _=>false
theorem zxo{N:List Str}{ds:List PyData}(hl:ds.length<4000):zdv [zai N,.list ds]=some (.bool (match unS ds with|some xs=>(xs.all λx=>decide (x∈N))&&decide xs.Nodup|none=>false),false):=by
 have c:zje (gN 0) zdt (eOp (inTD false) (eVar 0) (eVar 1)) [.no,.pl (zai N)] (ds.map id)=some (ds.map λd=>PyData.bool (knB N d)):=by
  refine zfy (enc:=id) (out:=λd=>PyData.bool (knB N d)) λd _=>⟨[.pl d,.pl (zai N)],rfl,rfl,vb (knB N d),?_,rfl⟩
  rw[zauw (neg:=false) (c:=zai N) (ds:=N.map .str) (f1:=false) (f2:=false) (b1:=[]) (b2:=[]) rfl rfl rfl (.inr (zagr _)),zagq]
  rfl
 rw[List.map_id]at c
 have al:=zajz (f:=knB N) (zku (env:=[.pl (zai N),.pl (.list ds)]) (own:=["thing"]) (fr:=[0]) (fi:=zbu (eVar 1)) (ds:=ds) (bs:=[]) rfl (by omega) c)
 have t:=zie al
 cases hu:unS ds with
 | none=>
  obtain⟨d,hd,f⟩:=zaar hu
  have:ds.all (knB N)=false:=by
   rw[<- Bool.not_eq_true,qs]
   intro h
   have:=h d hd
   cases d<;>first|cases this|(exact absurd (show true=false from f) (by decide))
  rw[this]at t
  exact zfi rfl (zgf (if_t t rfl))
 | some xs=>
  have e:=zty hu
  subst e
  have ea:(xs.map PyData.str).all (knB N)=xs.all λx=>decide (x∈N):=by rw[qB5];rfl
  rw[ea]at t
  show _=some (PyData.bool ((xs.all λx=>decide (x∈N))&&decide xs.Nodup),false)
  cases hx:(xs.all λx=>decide (x∈N))with
  | false=>
   rw[hx]at t
   exact zfi rfl (zgf (if_t t rfl))
  | true=>
   rw[hx]at t
   refine zfi rfl (zbb (if_f t rfl) (zkt (bs:=[]) ?_))
   rw[qD]at hl
   show eOp eqD (zpl (eVar 1)) (eCB lenD (zac (eVar 1) aNil)) [.pl (zai N),.pl (zai xs)]=_
   have e1:zpl (eVar 1) [.pl (zai N),.pl (zai xs)]=some (vi (unl [] (xs.map Sum.inr))):=by
    show((zyk (xs.map .str)).bind λks=>if(xs.map PyData.str).length<4000 then some (⟨.int (unl [] ks),false,[]⟩:Val)else none)=_
    rw[zwi,qC,if_pos (by rw[qD];exact hl)]
   have e2:eCB lenD (zac (eVar 1) aNil) [.pl (zai N),.pl (zai xs)]=some (vi (xs.map PyData.str).length):=zkv rfl
   rw[zts e1 e2,qBR]
   have:(((unl [] (xs.map Sum.inr):Nat):Int)==(((xs.map PyData.str).length:Nat):Int))=decide xs.Nodup:=by
    rw[qAU,beq_iff_eq,decide_eq_true_iff,qD]
    have q:=zalw (xs.map Sum.inr) []
    rw[qD]at q
    constructor
    ·intro z;exact(zagk xs).mp (q.mp (by omega)).1
    ·intro z
     have:=q.mpr ⟨(zagk xs).mpr z,λ_ _ y=>by simp at y⟩
     omega
   rw[this]
noncomputable def zas(ks:List Str):PyData:=.tuple (ks.map .str)
noncomputable def zat(r:Str×List Str):PyData:=.tuple [.str r.1,zas r.2]
noncomputable def zaf(rs:List (Str×List Str)):PyData:=.list (rs.map zat)
noncomputable def zhu(W:Web)(p:Nat)(rs:List (Str×List Str)):PyData:=.tuple [webD W,.int p,zaf rs]
theorem ztz:∀(a b:List Str),PyData.eqvAll (a.map .str) (b.map .str)=(a==b)
 | [],[]=>rfl
 | [],_::_=>rfl
 | _::_,[]=>rfl
 | x::a,y::b=>by
  show(qZ (.str x) (.str y)&&PyData.eqvAll (a.map .str) (b.map .str))=_
  rw[ztz a b]
  show((x==y)&&(a==b))=_
  rfl
noncomputable def LowS(ks:List Str):Prop:=∀k∈ks,qAT k=true
theorem zld{ks:List Str}(h:LowS ks):qAM (zas ks)=true:=by
 obtain⟨h1,h2⟩:=ztt ks h
 unfold qAM zas
 rw[qb]
 refine⟨h1,decide_eq_true ?_⟩
 show qAC (ks.map .str)+1<=64
 omega
theorem zauy{α:Type}{f:α->Bool}{l:List α}{a:EF}{env:DEnv}{fr:Bool}{bs:List Nat}(ha:a env=some ⟨.list (l.map λx=>.bool (f x)),fr,bs⟩):eCB (anyD λbs=>bs.any id) (zac a aNil) env=some (vb (l.any f)):=by
 unfold eCB
 rw[zed ha,qC]
 show((zph (l.map λx=>.bool (f x))).map _).bind _=_
 rw[zqd]
 simp only[qB0,qC,qCK]
 rfl
noncomputable def Two(x:Str):Prop:=∃a b,∀c∈x.cps.toList,c=a\/c=b
theorem znm{x:Str}{l u:Option Int}{c:Nat}(h:c∈(Txt.slice x l u).cps.toList):c∈x.cps.toList:=by
 unfold Txt.slice at h
 split at h
 ·exact h
 ·have h:c∈(List.filterMap (x.cps[·]?) (Builtin.Str.strSliceIndices l u 1 x.length)):=by simpa using h
  obtain⟨i,_,e⟩:=qBk.mp h
  have:=qCn e
  simpa using this
theorem zalx{a b:EF}{env:DEnv}{x y:List Str}{f1 f2:Bool}{b1 b2:List Nat}(ha:a env=some ⟨zai x,f1,b1⟩)(hb:b env=some ⟨zai y,f2,b2⟩)(h:x.length+y.length<=100000):eOp addD a b env=some ⟨zai (x++y),true,b1++b2⟩:=by
 unfold eOp
 rw[ha,hb]
 show((if(x.map PyData.str).length+(y.map PyData.str).length<=100000 then some (PyData.list (x.map .str++y.map .str),true)else none).bind λz=>some (⟨z.1,z.2,bsOf z.1 (b1++b2)⟩:Val))=_
 rw[if_pos (by rw[qD,qD];exact h),<- q0]
 rfl
theorem zags{a:EF}{l h:PF'}{env:DEnv}{x y:List Str}{f:Bool}{bs:List Nat}{lo hi:Option Int}(ha:a env=some ⟨zai x,f,bs⟩)(hl:l env=some lo)(hh:h env=some hi)(e:cutD (x.map .str) lo hi=y.map .str):eSl a l h env=some ⟨zai y,true,bs⟩:=by
 unfold eSl
 rw[ha,hl,hh]
 show(some (PyData.list (cutD (x.map .str) lo hi),true)).bind (λz=>some (⟨z.1,z.2,bsOf z.1 bs⟩:Val))=_
 rw[e]
 rfl
theorem zagt{md o st at_:Int}{stem:Str}(h:∃a,∀x∈stem.cps.toList,x=a)(hst:0<=st)(k:Nat):Two (zjs md o st stem at_ k):=by
 obtain⟨a,ha⟩:=h
 have l1:∀(z:Int)(x:Nat),x∈(ltr z).cps.toList->x=97+z.toNat:=λz x hx=>by unfold ltr at hx;simpa using hx
 unfold zjs
 split
 ·refine⟨a,97+((o+st * k) % 26).toNat,λx hx=>?_⟩
  rw[zhr,zhr]at hx
  rcases qc.mp hx with hx|hx
  ·rcases qc.mp hx with hx|hx
   ·exact .inl (ha x (znm hx))
   ·exact .inr (l1 _ x hx)
  ·exact .inl (ha x (znm hx))
 ·split
  ·refine⟨a,97+((o+st * k) % 26).toNat,λx hx=>?_⟩
   rw[zhr]at hx
   rcases qc.mp hx with hx|hx
   ·exact .inl (ha x (znm hx))
   ·exact .inr (l1 _ x hx)
  ·refine⟨97+((o+(k:Int) / 8) % 26).toNat,0,λx hx=>.inl ?_⟩
   unfold ltr at hx
   have:=qAE ((k:Int) * st) (show(8:Int)≠0 by decide)
   rw[zll (by omega)]at hx
   exact qAo hx
noncomputable def zee:List Str:=["none","rule","quarrel","near","far","out"]
theorem zny{x:Str}{a b c:Nat}(h1:a∈x.cps.toList)(h2:b∈x.cps.toList)(h3:c∈x.cps.toList)(n1:a≠b)(n2:a≠c)(n3:b≠c):¬Two x:=by
 rintro⟨p,q,h⟩
 have:=h a h1
 have:=h b h2
 have:=h c h3
 omega
theorem zack:∀x∈zee,¬Two x:=by
 intro x hx
 unfold zee at hx
 simp only[qW,List.not_mem_nil,or_false]at hx
 rcases hx with rfl|rfl|rfl|rfl|rfl|rfl
 ·exact zny (a:=110) (b:=111) (c:=101) (by decide +kernel) (by decide +kernel) (by decide +kernel) (by decide) (by decide) (by decide)
 ·exact zny (a:=114) (b:=117) (c:=108) (by decide +kernel) (by decide +kernel) (by decide +kernel) (by decide) (by decide) (by decide)
 ·exact zny (a:=113) (b:=117) (c:=97) (by decide +kernel) (by decide +kernel) (by decide +kernel) (by decide) (by decide) (by decide)
 ·exact zny (a:=110) (b:=101) (c:=97) (by decide +kernel) (by decide +kernel) (by decide +kernel) (by decide) (by decide) (by decide)
 ·exact zny (a:=102) (b:=97) (c:=114) (by decide +kernel) (by decide +kernel) (by decide +kernel) (by decide) (by decide) (by decide)
 ·exact zny (a:=111) (b:=117) (c:=116) (by decide +kernel) (by decide +kernel) (by decide +kernel) (by decide) (by decide) (by decide)
theorem zakg:zee.Nodup:=by decide +kernel
theorem zagu:∀x∈zee,Low x:=by
 intro x hx
 unfold zee at hx
 simp only[qW,List.not_mem_nil,or_false]at hx
 unfold Low
 rcases hx with rfl|rfl|rfl|rfl|rfl|rfl<;>decide +kernel
theorem zzi(ds:List PyData)(k:Nat):cutD ds (some (k:Int)) none=ds.drop k:=by
 unfold cutD
 have e1:HT.sIx ds.length ds.length none=ds.length:=rfl
 rw[e1,HT.sIx_nat]
 rcases Nat.le_total k ds.length with h|h
 ·rw[Nat.min_eq_left h,qB1 (by rw[qAi];exact qM _)]
 ·rw[Nat.min_eq_right h,qBa,qCm h,List.take_nil]
theorem zagv{α:Type}(enc:α->PyData)(l:List α):zve (l.map enc)=((List.range l.length).zip l).map λz=>PyData.tuple [.int (z.1:Nat),enc z.2]:=by
 rw[zna]
 have:∀(l:List α)(k:Nat),(l.zipIdx k).map (λ(p:α×Nat)=>PyData.tuple [.int (p.2:Int),enc p.1])=(((List.range l.length).map (·+k)).zip l).map λz=>PyData.tuple [.int (z.1:Nat),enc z.2]:=by
  intro l
  induction l with
  | nil=>intro k;rfl
  | cons x l ih=>
   intro k
   rw[List.zipIdx_cons,qAV,ih,qAc,List.range_succ_eq_map,qAV,List.zip_cons_cons,qAV,qCy]
   congr 3
   rw[qB4]
   refine qBe λj _=>?_
   show j+(k+1)=j+1+k
   omega
 rw[this l 0]
 simp
theorem zapo{i:Nat}{f:EF}{env:DEnv}{ds:List PyData}{d:PyData}{fr:Bool}{bs:List Nat}(he:env[i]?=some (.ac (.list ds)))(hf:f env=some ⟨d,fr,bs⟩)(hl:ds.length<100000)(hi:i∉bs):sApp i f env=some (.nx ((frzs env bs).set i (.ac (.list (ds++[d]))))):=by
 unfold sApp
 rw[he,hf]
 show(if ds.length<100000/\i∉bs then _ else _)=_
 rw[if_pos ⟨hl,hi⟩]
theorem zauz{a b:EF}{env:DEnv}{i j:Int}(ha:a env=some (vi i))(hb:b env=some (vi j)):eOp gtD a b env=some (vb (decide (j<i))):=by
 unfold eOp;rw[ha,hb];rfl
theorem zxp:∀(l:List (List Str)),(∀ks∈l,LowS ks)->qAd (l.map zas)=true/\qAC (l.map zas)<=1
 | [],_=>⟨rfl,by simp[qAC]⟩
 | ks::l,h=>by
  obtain⟨h1,h2⟩:=zxp l λx hx=>h x (qK _ hx)
  obtain⟨g1,g2⟩:=ztt ks (h ks qk)
  constructor
  ·rw[qAV]
   simp only[qAd,zas,PyData.canLay0,qb]
   exact⟨g1,h1⟩
  ·rw[qAV]
   simp only[qAC,zas,PyData.depth]
   rw[g2]
   have:qAC (l.map λks=>PyData.tuple (ks.map .str))<=1:=h2
   omega
theorem zzj{l:List (List Str)}(h:∀ks∈l,LowS ks):qAM (.list (l.map zas))=true:=by
 obtain⟨h1,h2⟩:=zxp l h
 unfold qAM
 rw[qb]
 refine⟨by simpa [PyData.canLay0]using h1,decide_eq_true ?_⟩
 simp only[PyData.depth]
 omega
theorem zagw(l:List (List Str))(ks:List Str):((l.map zas).any λe=>qZ e (zas ks))=decide (ks∈l):=by
 rw[qCK,qAU,qBb,decide_eq_true_iff]
 have e:∀a b:List Str,qZ (zas a) (zas b)=(a==b):=λa b=>by
  unfold zas
  simp only[qZ]
  exact ztz a b
 constructor
 ·rintro⟨y,hy,h⟩
  have h:qZ (zas y) (zas ks)=true:=h
  rw[e,beq_iff_eq]at h
  rw[<- h];exact hy
 ·intro h
  refine⟨ks,h,?_⟩
  show qZ (zas ks) (zas ks)=true
  rw[e];exact beq_self_eq_true _
theorem zagx{neg:Bool}{l:List (List Str)}{ks:List Str}(h:∀x∈l,LowS x)(hk:LowS ks):inS neg (zas ks) (.list (l.map zas))=some (.bool (if neg then !decide (ks∈l)else decide (ks∈l)),false):=by
 unfold inS
 simp only[zim]
 rw[if_pos ⟨zld hk,zzj h⟩,zagw]
theorem zapp{W:Web}(lo:∀x∈nm W,Low x){ks:List Str}(h:∀k∈ks,k∈nm W):LowS ks:=λk hk=>zpy (lo k (h k hk))
noncomputable abbrev Rule:=Str×List Str
theorem zakh{d:PyData}(s:qAM d=true):eqD d d=some (.bool true,false):=by
 unfold eqD eqOk
 rw[s,qCi,qAy,if_pos rfl,qCP _ (qAY s)]
theorem zava{a b:EF}{env:DEnv}{d:PyData}{f1 f2:Bool}{b1 b2:List Nat}(ha:a env=some ⟨d,f1,b1⟩)(hb:b env=some ⟨d,f2,b2⟩)(s:qAM d=true):eOp eqD a b env=some (vb true):=by
 unfold eOp;rw[ha,hb]
 simp only[qC]
 rw[zakh s];rfl
theorem zagy(x:Str)(a b:Nat)(hb:b<=x.length):(((List.range (b - a)).map λk=>a+k).filterMap (x.cps[·]?)).length=b - a:=by
 have:((List.range (b - a)).map λk=>a+k).filterMap (x.cps[·]?)=((List.range (b - a)).map λk=>a+k).map λi=>x.cps[i]?.getD 0:=by
  have g:∀l:List Nat,(∀i∈l,i<x.cps.size)->l.filterMap (x.cps[·]?)=l.map λi=>x.cps[i]?.getD 0:=by
   intro l
   induction l with
   | nil=>intro _;rfl
   | cons i l ih=>
    intro h
    have hi:=h i qk
    rw[qBf,qBl hi,qAV,ih λj hj=>h j (qK _ hj),qBl hi]
    rfl
  refine g _ λi hi=>?_
  obtain⟨k,hk,rfl⟩:=qAI.mp hi
  have hk:=qAb.mp hk
  have:x.length=x.cps.size:=rfl
  omega
 rw[this,qD,qD,qBB]
theorem zapq(n a:Nat):Builtin.Str.strSliceIndices none (some (a:Int)) 1 n=(List.range (min a n - 0)).map λk=>0+k:=by
 unfold Builtin.Str.strSliceIndices sliceRange
 simp only[show(1:Int) > 0 by decide,if_true]
 rw[if_neg (show ¬((a:Int)<0) by omega)]
 have e:(max 0 (min (a:Int) (n:Int)))=((min a n:Nat):Int):=by omega
 rw[e]
 by_cases h:(0:Int)<((min a n:Nat):Int)
 ·rw[if_pos h]
  have e2:((((min a n:Nat):Int) - 0+1 - 1) / 1).toNat=min a n - 0:=by rw[qCz];omega
  rw[e2]
  exact qBe λk _=>by omega
 ·rw[if_neg h]
  have e2:min a n - 0=0:=by omega
  rw[e2];rfl
theorem zapr(n a:Nat):Builtin.Str.strSliceIndices (some (a:Int)) none 1 n=(List.range (n - min a n)).map λk=>min a n+k:=by
 unfold Builtin.Str.strSliceIndices sliceRange
 simp only[show(1:Int) > 0 by decide,if_true]
 rw[if_neg (show ¬((a:Int)<0) by omega)]
 have e:(max 0 (min (a:Int) (n:Int)))=((min a n:Nat):Int):=by omega
 rw[e]
 by_cases h:((min a n:Nat):Int)<(n:Int)
 ·rw[if_pos h]
  have e2:(((n:Int) - ((min a n:Nat):Int)+1 - 1) / 1).toNat=n - min a n:=by rw[qCz];omega
  rw[e2]
  exact qBe λk _=>by omega
 ·rw[if_neg h]
  have e2:n - min a n=0:=by omega
  rw[e2];rfl
theorem zagz(x:Str)(a:Nat):(Txt.slice x none (some (a:Int))).length=min a x.length:=by
 unfold Txt.slice
 rw[zapq]
 split
 ·rename_i h
  rw[qb,beq_iff_eq,beq_iff_eq,qD,qBB]at h
  omega
 ·show(List.filterMap _ _).toArray.size=_
  rw[qL,zagy x 0 (min a x.length) (by omega)];omega
theorem zaps(x:Str)(a:Nat):(Txt.slice x (some (a:Int)) none).length=x.length - min a x.length:=by
 unfold Txt.slice
 rw[zapr]
 split
 ·rename_i h
  rw[qb,beq_iff_eq,beq_iff_eq,qD,qBB]at h
  omega
 ·show(List.filterMap _ _).toArray.size=_
  rw[qL,zagy x (min a x.length) x.length (by omega)]
theorem zik{f g:SFX}{env e1:DEnv}{o:Option OutX}(h:f env=some (.ok (.nx e1)))(k:g e1=o):xSeq f g env=o:=by unfold xSeq;rw[h];exact k
theorem zua{f g:SFX}{env:DEnv}{c:Str}{d:PyData}(h:f env=some (.rx c d)):xSeq f g env=some (.rx c d):=by unfold xSeq;rw[h];rfl
theorem zatb{t:TF}{f g:SFX}{env:DEnv}{o:Option OutX}(h:t env=some true)(k:f env=o):xIf t f g env=o:=by unfold xIf;rw[h];exact k
theorem zapt{t:TF}{f g:SFX}{env:DEnv}{o:Option OutX}(h:t env=some false)(k:g env=o):xIf t f g env=o:=by unfold xIf;rw[h];exact k
theorem zsj{f:SF}{env:DEnv}{o:Out}(h:f env=some o):xOf f env=some (.ok o):=by unfold xOf;rw[h];rfl
theorem zxq{c:Str}{f:EF}{env:DEnv}{r:Val}(h:f env=some r)(ha:atD r.d=true):zlz c f env=some (.rx c r.d):=by unfold zlz;rw[h,qC,if_pos ha]
theorem zaly{n:Nat}{f:SFX}{ds:List PyData}{env:DEnv}{d:PyData}{fr:Bool}(h:zkl n ds=env)(e:f env=some (.ok (.rt d fr))):fnX n f ds=some (.ok d fr):=by unfold fnX;rw[h,e]
theorem zalz{n:Nat}{f:SFX}{ds:List PyData}{env:DEnv}{c:Str}{d:PyData}(h:zkl n ds=env)(e:f env=some (.rx c d)):fnX n f ds=some (.rx c d):=by unfold fnX;rw[h,e]
theorem zaha(a b:Nat):neD (.int (a:Int)) (.int (b:Int))=some (.bool (!decide (a=b)),false):=by
 by_cases e:a=b
 ·subst e
  rw[zpx,decide_eq_true rfl];rfl
 ·have:(a:Int)≠(b:Int):=λz=>e (Int.ofNat.inj z)
  rw[decide_eq_false e]
  show some (PyData.bool (!((a:Int)==(b:Int))),false)=_
  rw[beq_eq_false_iff_ne.mpr this]
noncomputable def shN(k:Nat)(d:PyData):Prop:=PyData.canLay0 d=true/\PyData.depth d<=k
theorem zahb{k:Nat}:∀{ds:List PyData},(∀d∈ds,shN k d)->qAd ds=true/\qAC ds<=k
 | [],_=>⟨by unfold qAd;rfl,by unfold qAC;omega⟩
 | d::ds,h=>by
  obtain⟨h1,h2⟩:=h d (by simp)
  obtain⟨h3,h4⟩:=zahb λx hx=>h x (qK _ hx)
  unfold qAd qAC
  exact⟨by rw[h1,h3];rfl,by omega⟩
theorem zahc{k:Nat}{ds:List PyData}(h:∀d∈ds,shN k d):shN (k+1) (.tuple ds):=by
 obtain⟨h1,h2⟩:=zahb h
 unfold shN PyData.canLay0 PyData.depth
 exact⟨h1,by omega⟩
theorem zama{k:Nat}{ds:List PyData}(h:∀d∈ds,shN k d):shN (k+1) (.list ds):=by
 obtain⟨h1,h2⟩:=zahb h
 unfold shN PyData.canLay0 PyData.depth
 exact⟨h1,by omega⟩
theorem zahd{k:Nat}{x:Str}(h:qAT x=true):shN k (.str x):=by unfold shN PyData.canLay0 PyData.depth;exact⟨h,by omega⟩
theorem zamb{k:Nat}:∀d∈([]:List PyData),shN k d:=λd h=>by cases h
theorem zub{k:Nat}{d:PyData}{ds:List PyData}(h:shN k d)(t:∀x∈ds,shN k x):∀x∈d::ds,shN k x:=λx hx=>(qW.mp hx).elim (λe=>e▸h) (t x)
theorem zxr{k:Nat}{d:PyData}(h:shN k d)(hk:k<=64):qAM d=true:=by
 unfold qAM
 rw[h.1,decide_eq_true (qAD h.2 hk)];rfl
theorem zahe{k:Nat}{xs:List Str}(h:LowS xs):∀d∈xs.map PyData.str,shN k d:=λd hd=>by
 obtain⟨x,hx,rfl⟩:=qAI.mp hd
 exact zahd (h x hx)
theorem zaas(d:PyData):bsOf d []=[]:=by unfold bsOf;split<;>rfl
theorem zamc{a b:EF}{env:DEnv}{x y:List PyData}{f1 f2:Bool}(ha:a env=some ⟨.tuple x,f1,[]⟩)(hb:b env=some ⟨.tuple y,f2,[]⟩)(h:x.length+y.length<=100000):eOp addE a b env=some ⟨.tuple (x++y),false,[]⟩:=by
 unfold eOp
 rw[ha,hb]
 show(addE (.tuple x) (.tuple y)).bind (λz=>some (⟨z.1,z.2,bsOf z.1 ([]++[])⟩:Val))=_
 have e:addE (.tuple x) (.tuple y)=some (.tuple (x++y),false):=by
  cases x with
  | nil=>rfl
  | cons p x=>exact if_pos ⟨rfl,h⟩
 rw[e,qC,qv,zaas]
theorem zatc{a:EF}{l h:PF'}{env:DEnv}{ds es:List PyData}{f:Bool}{lo hi:Option Int}(ha:a env=some ⟨.tuple ds,f,[]⟩)(hl:l env=some lo)(hh:h env=some hi)(e:cutD ds lo hi=es):eSlT a l h env=some ⟨.tuple es,false,[]⟩:=by
 unfold eSlT
 rw[ha,hl,hh]
 show some (⟨.tuple (cutD ds lo hi),false,[]⟩:Val)=_
 rw[e]
noncomputable def zgd(n:Str):Bool:=(decide (1<=(n.length:Int))&&decide ((n.length:Int)<=8))&&n.cps.toList.all zka
noncomputable def eldB(A:List Str)(es:List PyData):Bool:=match unS es with
 | some xs=>(xs.all λx=>decide (x∈A))&&decide xs.Nodup
 | none=>false
noncomputable def zle(A:List Str):PyData->Bool
 | .tuple [.str n,.list es]=>(zgd n&&!decide (n∈A))&&(decide (es.length<=4)&&eldB A es)
 | _=>false
noncomputable def zacl(e:PyData):Prop:=∀n el,e=.tuple [n,el]->(∀x,n=.str x->Low x/\x.length<=1000)/\∀es,el=.list es->es.length<300
theorem zamd{f g:TF}{env:DEnv}(h:f env=some true):tOrF f g env=some true:=by unfold tOrF;rw[h];rfl
theorem or_2{f g:TF}{env:DEnv}{b:Bool}(h1:f env=some false)(h2:g env=some b):tOrF f g env=some b:=by unfold tOrF;rw[h1];exact h2
theorem zatd {a b c:PyData} {ds:List PyData} {e:EF} {env:DEnv} (h:e env=some (vi ((a::b::c::ds).length:Nat))):zbq (eOp neD e (eC (.int 2))) env=some true:=by
 refine zfb ?_
 unfold eOp
 rw[h]
 show((neD (.int ((a::b::c::ds).length:Nat)) (.int (2:Nat))).bind λz=>some (⟨z.1,z.2,bsOf z.1 ([]++[])⟩:Val))=_
 rw[zaha,decide_eq_false (by simp)];rfl
theorem gt4{es:List PyData}{e:EF}{env:DEnv}(h:e env=some (vi (es.length:Nat))):zbq (eOp gtD e (eC (.int 4))) env=some (!decide (es.length<=4)):=by
 refine zfb ?_
 rw[zauz h rfl]
 congr 2
 rw[qAU]
 simp
 omega
theorem zuc{A:List Str}{e:PyData}(h:∀n es,e≠.tuple [.str n,.list es]):zle A e=false:=by
 unfold zle
 split
 ·exact absurd rfl (h _ _)
 ·rfl
theorem zud{A:List Str}{e:PyData}(h:zacl e):zbx [zai A,e]=some (.bool (zle A e),false):=by
 cases e with
 | tuple ds=>
  match ds,h with
  | [],_=>rfl
  | [a],_=>
   rw[zuc (λn es z=>by cases z)]
   rfl
  | a::b::c::ds,_=>
   rw[zuc (λn es z=>by cases z)]
   exact zfi (env:=[.pl (zai A),.pl (.tuple (a::b::c::ds)),.no,.no]) rfl (zgf (if_t (or_2 rfl (zatd (a:=a) (b:=b) (c:=c) (ds:=ds) rfl)) rfl))
  | [n,el],h=>
   obtain⟨h1,h2⟩:=h n el rfl
   have st:∀{o:Option Out}{k:SF},k [.pl (zai A),.pl (.tuple [n,el]),.pl n,.pl el]=o->sSeq (sIf (tOrF (zbg (tTru (eIsi "tuple" (eVar 1)))) (zbq (eOp neD (eCB lenD (zac (eVar 1) aNil)) (eC (.int 2))))) (sRet (eC (.bool false))) sNil) (sSeq (sAsg (eVar 1) (gT 2 (zaq 2 (zaq 3 zcq)))) k) [.pl (zai A),.pl (.tuple [n,el]),.no,.no]=o:=λhk=>zbb rfl (zbb rfl hk)
   by_cases hs:∃x,n=.str x
   ·obtain⟨x,rfl⟩:=hs
    obtain⟨lx,ll⟩:=h1 x rfl
    have gn:=zwk x ll
    have t1:zbg (tTru (zbl 1 zel (zac (eVar 2) aNil))) [.pl (zai A),.pl (.tuple [.str x,el]),.pl (.str x),.pl el]=some (!zgd x):=zie (zcy (n:=1) (rs:=[⟨.str x,false,[]⟩]) rfl rfl gn)
    have t2:zbq (eOp (inD false) (eVar 2) (eVar 0)) [.pl (zai A),.pl (.tuple [.str x,el]),.pl (.str x),.pl el]=some (decide (x∈A)):=zfb (e_in (neg:=false) rfl rfl)
    have t3:tOrF (zbg (tTru (zbl 1 zel (zac (eVar 2) aNil)))) (zbq (eOp (inD false) (eVar 2) (eVar 0))) [.pl (zai A),.pl (.tuple [.str x,el]),.pl (.str x),.pl el]=some (!(zgd x&&!decide (x∈A))):=by
     unfold tOrF
     rw[t1,t2]
     cases zgd x<;>cases decide (x∈A)<;>rfl
    cases hb:(zgd x&&!decide (x∈A))with
    | false=>
     rw[hb]at t3
     have gb:zle A (.tuple [.str x,el])=false:=by
      unfold zle
      split
      ·rename_i n es e2;cases e2;rw[hb];rfl
      ·rfl
     rw[gb]
     exact zfi (env:=[.pl (zai A),.pl (.tuple [.str x,el]),.no,.no]) rfl (st (zgf (if_t t3 rfl)))
    | true=>
     rw[hb]at t3
     by_cases hl:∃es,el=.list es
     ·obtain⟨es,rfl⟩:=hl
      have le:=h2 es rfl
      have gb:zle A (.tuple [.str x,.list es])=(decide (es.length<=4)&&eldB A es):=by
       show((zgd x&&!decide (x∈A))&&_)=_
       rw[hb,qBR]
      rw[gb]
      have t4:zbq (eOp gtD (eCB lenD (zac (eVar 3) aNil)) (eC (.int 4))) [.pl (zai A),.pl (.tuple [.str x,.list es]),.pl (.str x),.pl (.list es)]=some (!decide (es.length<=4)):=gt4 rfl
      cases h4:decide (es.length<=4)with
      | false=>
       rw[h4]at t4
       exact zfi (env:=[.pl (zai A),.pl (.tuple [.str x,.list es]),.no,.no]) rfl (st (zbb (if_f t3 rfl) (zgf (if_t (or_2 rfl t4) rfl))))
      | true=>
       rw[h4]at t4
       rw[qBR]
       have gu:=zxo (N:=A) (ds:=es) (by omega)
       exact zfi (env:=[.pl (zai A),.pl (.tuple [.str x,.list es]),.no,.no]) rfl (st (zbb (if_f t3 rfl) (zbb (if_f (or_2 rfl t4) rfl) (zkt (zcy (n:=2) (rs:=[⟨zai A,false,[]⟩,⟨.list es,false,[]⟩]) rfl rfl gu)))))
     ·have gb:zle A (.tuple [.str x,el])=false:=zuc λn es z=>by cases z;exact hl ⟨_,rfl⟩
      rw[gb]
      have t4:zbg (tTru (eIsi "list" (eVar 3))) [.pl (zai A),.pl (.tuple [.str x,el]),.pl (.str x),.pl el]=some true:=by
       cases el<;>first|rfl|exact absurd ⟨_,rfl⟩ hl
      exact zfi (env:=[.pl (zai A),.pl (.tuple [.str x,el]),.no,.no]) rfl (st (zbb (if_f t3 rfl) (zgf (if_t (zamd t4) rfl))))
   ·have gb:zle A (.tuple [n,el])=false:=zuc λn es z=>by cases z;exact hs ⟨_,rfl⟩
    rw[gb]
    have hi:isiB "str" n=false:=by cases n<;>first|rfl|exact absurd ⟨_,rfl⟩ hs
    have t1:zbg (tTru (zbl 1 zel (zac (eVar 2) aNil))) [.pl (zai A),.pl (.tuple [n,el]),.pl n,.pl el]=some true:=zie (zcy (n:=1) (rs:=[⟨n,false,[]⟩]) rfl rfl (zwl hi))
    exact zfi (env:=[.pl (zai A),.pl (.tuple [n,el]),.no,.no]) rfl (st (zgf (if_t (zamd t1) rfl)))
 | _=>rfl
noncomputable def zaat:PyData->Str
 | .tuple (.str n::_)=>n
 | _=>""
noncomputable def zdg:Nat->List Str->List PyData->Option Nat
 | _,_,[]=>none
 | i,A,e::es=>if(decide (i<10)&&zle A e)=true then zdg (i+1) (A++[zaat e]) es else some i
noncomputable def webR:PyData->ResX
 | .list []=>.rx "NoWeb" .none
 | .list (e::es)=>match zdg 0 [] (e::es)with
  | some i=>.rx "NoWeb" (.int (i:Int))
  | none=>.ok (.list (e::es)) true
 | _=>.rx "NoWeb" .none
noncomputable def zzk(d:PyData):Prop:=∀es,d=.list es->es.length<=90/\∀e∈es,zacl e
theorem zahf{A:List Str}{e:PyData}(h:zle A e=true):∃n xs,e=.tuple [.str n,zai xs]/\(∀x∈xs,x∈A):=by
 unfold zle at h
 split at h
 ·rename_i n es
  simp only[qb]at h
  obtain⟨_,_,h⟩:=h
  unfold eldB at h
  cases hu:unS es with
  | none=>rw[hu]at h;cases h
  | some xs=>
   rw[hu]at h
   simp only[qb,qs,decide_eq_true_eq]at h
   exact⟨n,xs,by rw[zty hu];rfl,h.1⟩
 ·cases h
theorem zate{a b:EF}{env:DEnv}{i j:Int}(ha:a env=some (vi i))(hb:b env=some (vi j)):eOp geD a b env=some (vb (decide (j<=i))):=by
 unfold eOp;rw[ha,hb];rfl
noncomputable abbrev encE(p:PyData×Nat):PyData:=.tuple [.int (p.2:Int),p.1]
noncomputable abbrev zxs:SFX:=(xSeq (xIf (tOrF (zbq (eOp geD (eVar 2) (eC (.int 10)))) (zbg (tTru (zbl 2 zbx (zac (eVar 1) (zac (eVar 3) aNil)))))) (zlz "NoWeb" (eVar 2)) (xOf sNil))
  (xOf (sApp 1 (eIxV 3 (eC (.int 0))))))
theorem zahg{T:Sl}:∀(es:List PyData)(k:Nat)(A:List Str)(s2 s3:Sl),(∀e∈es,zacl e)->A.length+es.length<1000->k+es.length<=95->
  ∃e',zvs (gT 2 (zaq 2 (zaq 3 zcq))) zxs ((es.zipIdx k).map encE) [T,.ac (zai A),s2,s3]=(match zdg k A es with|none=>some (.ok (.nx (T::e')))|some i=>some (.rx "NoWeb" (.int (i:Int))))
 | [],k,A,s2,s3,_,_,_=>⟨_,rfl⟩
 | e::es,k,A,s2,s3,h,hl,hk=>by
  have hl':A.length+(es.length+1)<1000:=hl
  have hk':k+(es.length+1)<=95:=hk
  have g:=zud (A:=A) (h e (by simp))
  have t1:zbq (eOp geD (eVar 2) (eC (.int 10))) [T,.ac (zai A),.pl (.int (k:Int)),.pl e]=some (!decide (k<10)):=by
   refine zfb ((zate rfl rfl).trans ?_)
   congr 2
   rw[qAU]
   simp
   omega
  have t2:zbg (tTru (zbl 2 zbx (zac (eVar 1) (zac (eVar 3) aNil)))) [T,.ac (zai A),.pl (.int (k:Int)),.pl e]=some (!zle A e):=zie (zcy (n:=2) (rs:=[⟨zai A,false,[1]⟩,⟨e,false,[]⟩]) rfl rfl g)
  have t3:tOrF (zbq (eOp geD (eVar 2) (eC (.int 10)))) (zbg (tTru (zbl 2 zbx (zac (eVar 1) (zac (eVar 3) aNil))))) [T,.ac (zai A),.pl (.int (k:Int)),.pl e]=some (!(decide (k<10)&&zle A e)):=by
   unfold tOrF
   rw[t1,t2]
   cases decide (k<10)<;>cases zle A e<;>rfl
  cases hb:(decide (k<10)&&zle A e)with
  | false=>
   rw[hb]at t3
   refine⟨[],?_⟩
   have f:zdg k A (e::es)=some k:=by unfold zdg;rw[hb];rfl
   rw[f]
   have b:zxs [T,.ac (zai A),.pl (.int (k:Int)),.pl e]=some (.rx "NoWeb" (.int (k:Int))):=zua (zatb t3 (zxq (r:=⟨.int (k:Int),false,[]⟩) rfl (decide_eq_true ⟨by omega,by omega⟩)))
   show((zxs [T,.ac (zai A),.pl (.int (k:Int)),.pl e]).bind _)=_
   rw[b];rfl
  | true=>
   rw[hb]at t3
   obtain⟨n,xs,rfl,_⟩:=zahf (qB9.mp hb).2
   obtain⟨e',ih⟩:=zahg es (k+1) (A++[n]) (.pl (.int (k:Int))) (.pl (.tuple [.str n,zai xs])) (λx hx=>h x (qK _ hx)) (by rw[qI];show _+1+_<_;omega) (by omega)
   refine⟨e',?_⟩
   have f:zdg k A (.tuple [.str n,zai xs]::es)=zdg (k+1) (A++[n]) es:=by rw[zdg,hb];rfl
   rw[f,<- ih]
   have b:zxs [T,.ac (zai A),.pl (.int (k:Int)),.pl (.tuple [.str n,zai xs])]=some (.ok (.nx [T,.ac (zai (A++[n])),.pl (.int (k:Int)),.pl (.tuple [.str n,zai xs])])):=by
    refine zik (zapt t3 rfl) (zsj ?_)
    rw[zrw (ds:=A.map .str) (d:=.str n) (fr:=false) rfl rfl (by rw[qD];omega)]
    congr 2
    unfold zai
    simp
   show((zxs [T,.ac (zai A),.pl (.int (k:Int)),.pl (.tuple [.str n,zai xs])]).bind _)=_
   rw[b];rfl
theorem zame:∀{es:List PyData}{k:Nat}{A:List Str},zdg k A es=none->(∀a∈A,Low a)->(∀e∈es,zacl e)->∀e∈es,∃n xs,e=.tuple [.str n,zai xs]/\Low n/\∀x∈xs,Low x
 | [],_,_,_,_,_,e,he=>by cases he
 | e::es,k,A,h,hA,hE,e',he=>by
  rw[zdg]at h
  split at h
  ·rename_i hb
   obtain⟨n,xs,rfl,hx⟩:=zahf (qB9.mp hb).2
   have ln:Low n:=((hE _ qk _ _ rfl).1 n rfl).1
   rcases qW.mp he with rfl|he
   ·exact⟨n,xs,rfl,ln,λx hx'=>hA x (hx x hx')⟩
   ·refine zame h (λa ha=>?_) (λz hz=>hE z (qK _ hz)) e' he
    rcases qc.mp ha with z|z
    ·exact hA a z
    ·have:a=n:=by simpa [zaat]using z
     rw[this];exact ln
  ·cases h
theorem zahh{es:List PyData}(hl:es.length<1000)(h:∀e∈es,∃n xs,e=.tuple [.str n,zai xs]/\Low n/\∀x∈xs,Low x):zdd [.list es]=some (.list es,true):=by
 have cm:zje (gT 2 (zaq 0 (zaq 1 zcq))) zdt (eTup (zac (eVar 0) (zac (eCB zmi (zac (eVar 1) aNil)) aNil))) [.no,.no] (es.map id)=some (es.map id):=
  zfy (enc:=id) (out:=id) λe he=>by
   obtain⟨n,xs,rfl,_⟩:=h e he
   exact⟨[.pl (.str n),.pl (zai xs)],rfl,rfl,⟨.tuple [.str n,zai xs],false,[]⟩,rfl,rfl⟩
 rw[List.map_id]at cm
 refine zfi (env:=[.pl (.list es)]) rfl ?_
 have:=zku (own:=["name","elders"]) (fr:=[]) (fi:=zbu (eVar 0)) (g:=gT 2 (zaq 0 (zaq 1 zcq))) (t:=zdt) (e:=eTup (zac (eVar 0) (zac (eCB zmi (zac (eVar 1) aNil)) aNil))) (env:=[.pl (.list es)]) (ds:=es) (bs:=[]) rfl (by omega) cm
 exact zkt this
theorem zatf{d:PyData}(h:zzk d):zjj [d]=some (webR d):=by
 cases d with
 | list es=>
  cases es with
  | nil=>rfl
  | cons e es=>
   obtain⟨h1,h2⟩:=h _ rfl
   have h1':es.length+1<=90:=h1
   obtain⟨e',lp⟩:=zahg (T:=.pl (.list (e::es))) (e::es) 0 [] .no .no h2 (by show 0+(es.length+1)<1000;omega) (by show 0+(es.length+1)<=95;omega)
   have it:zez (zac (eVar 0) aNil) [.pl (.list (e::es)),.ac (.list []),.no,.no]=some (((e::es).zipIdx 0).map encE,[]):=rfl
   have wr:webR (.list (e::es))=(match zdg 0 [] (e::es)with|some i=>.rx "NoWeb" (.int (i:Int))|none=>.ok (.list (e::es)) true):=rfl
   rw[wr]
   cases hf:zdg 0 [] (e::es)with
   | some i=>
    rw[hf]at lp
    refine zalz (env:=[.pl (.list (e::es)),.no,.no,.no]) rfl (zik (e1:=[.pl (.list (e::es)),.no,.no,.no]) rfl (zik (e1:=[.pl (.list (e::es)),.ac (.list []),.no,.no]) rfl (zua ?_)))
    unfold xFor
    rw[it]
    exact lp
   | none=>
    rw[hf]at lp
    have gc:=zahh (es:=e::es) (by omega) (zame hf (λa ha=>by cases ha) h2)
    refine zaly (env:=[.pl (.list (e::es)),.no,.no,.no]) rfl (zik (e1:=[.pl (.list (e::es)),.no,.no,.no]) rfl (zik (e1:=[.pl (.list (e::es)),.ac (.list []),.no,.no]) rfl (zik (e1:=.pl (.list (e::es))::e') ?_ (zsj (zkt (zcy (n:=1) (rs:=[⟨.list (e::es),false,[]⟩]) rfl rfl gc))))))
    unfold xFor
    rw[it]
    exact lp
 | _=>rfl
noncomputable def okB:ResX->Bool
 | .ok _ _=>true
 | .rx _ _=>false
theorem zahi{d:PyData}(h:zzk d):zhs [d]=some (.bool (okB (webR d)),false):=by
 have g:=zatf h
 have c:∀c x,webR d=.rx c x->c="NoWeb":=λc x hc=>by
  unfold webR at hc
  split at hc
  ·cases hc;rfl
  ·split at hc<;>cases hc;rfl
  ·cases hc;rfl
 cases hr:webR d with
 | ok x f=>
  rw[hr]at g
  refine zfi (env:=[.pl d]) rfl (zbb (e1:=[.pl d]) ?_ rfl)
  unfold zvz
  show(if 1=1 then(zjj [d]).bind _ else none)=_
  rw[if_pos rfl,g];rfl
 | rx c' x=>
  cases c c' x hr
  rw[hr]at g
  refine zfi (env:=[.pl d]) rfl (zgf ?_)
  unfold zvz
  show(if 1=1 then(zjj [d]).bind _ else none)=_
  rw[if_pos rfl,g];rfl
theorem zatg{i:Nat}{a:AF}{env:DEnv}{ds:List PyData}{k:Nat}{r:Val}(he:env[i]?=some (.ac (.list ds)))(ha:a env=some [vi (k:Int),r])(hk:k<=ds.length)(hl:ds.length<100000)(hb:r.bs=[]):sIns i a env=some (.nx (env.set i (.ac (.list (insL ds k r.d))))):=by
 unfold sIns
 rw[he]
 show(a env).bind _=_
 rw[ha]
 show(if 0<=(k:Int)/\(k:Int).toNat<=ds.length/\ds.length<100000/\i∉r.bs then _ else none)=_
 rw[if_pos ⟨by omega,by omega,hl,by rw[hb];simp⟩,hb,qAt]
 rfl
noncomputable def Az(x:Str):Prop:=∀c∈x.cps.toList,97<=c/\c<123
theorem zapu:∀c<123,97<=c->zka c=true:=by decide +kernel
theorem Az.app{a b:Str}(h1:Az a)(h2:Az b):Az (a++b):=λc hc=>by
 rw[zhr]at hc
 exact(qc.mp hc).elim (h1 c) (h2 c)
theorem Az.slice{x:Str}(h:Az x){l u:Option Int}:Az (Txt.slice x l u):=λc hc=>h c (znm hc)
theorem Az.ltr{i:Int}(h0:0<=i)(h1:i<26):Az (ltr i):=λc hc=>by
 have:c=97+i.toNat:=by simpa [Bc.ltr]using hc
 omega
theorem Az.mul{i n:Int}(h0:0<=i)(h1:i<26)(h:0<=n):Az (Txt.mul (Bc.ltr i) n):=λd hd=>by
 unfold Bc.ltr at hd
 rw[zll h]at hd
 have:=qAo hd
 omega
theorem zue{x:Str}(h1:1<=x.length)(h2:x.length<=8)(h:Az x):zgd x=true:=by
 unfold zgd
 rw[decide_eq_true (by omega),decide_eq_true (by omega),qs.mpr λc hc=>zapu c (h c hc).2 (h c hc).1]
 rfl
theorem zahj:∀x∈zee,zgd x=true:=by decide +kernel
theorem znn{m c:Int}(m0:0<=m)(m16:m<=16)(c0:0<=c):∃xs:List Str,zcu [.int m,.int c]=some (zai xs,true)/\xs.length=m.toNat/\xs.Nodup/\∀x∈xs,Low x/\zgd x=true:=by
 have md:∀(z j:Int),0<j->0<=z % j/\z % j<j:=λz j hj=>⟨qAE z (by omega),qAH z hj⟩
 have i8:=md (c / 3) 8 (by decide)
 obtain⟨st,hst,hmem⟩:=zapj i8.1 i8.2
 have st0:0<=st/\st<100:=by
  simp only[qW,qBy,or_false]at hmem
  rcases hmem with rfl|rfl|rfl|rfl|rfl|rfl|rfl|rfl<;>decide
 have o26:=md (c / 24) 26 (by decide)
 have j26:=md (c / 624) 26 (by decide)
 have n8:=md (c / 16224) 8 (by decide)
 have lowS:Low (Txt.mul (ltr (c / 624 % 26)) (c / 16224 % 8)):=Low.mul (by omega) n8.1
 have azS:Az (Txt.mul (ltr (c / 624 % 26)) (c / 16224 % 8)):=Az.mul j26.1 j26.2 n8.1
 have lenS:(Txt.mul (ltr (c / 624 % 26)) (c / 16224 % 8)).length<=7:=by unfold ltr;rw[zagb n8.1];omega
 have s3:sSet 3 (eOp ixD (eTup (zac (eC (.int 1)) (zac (eC (.int 3)) (zac (eC (.int 5)) (zac (eC (.int 7)) (zac (eC (.int 9)) (zac (eC (.int 11)) (zac (eC (.int 15)) (zac (eC (.int 17)) aNil))))))))) (eOp modD (eOp zfg (eVar 1) (eC (.int 3))) (eC (.int 8)))) [.pl (.int m),.pl (.int c),.pl (.str abc),.no,.no,.no,.no,.no,.no,.no,.no,.no]=some (.nx [.pl (.int m),.pl (.int c),.pl (.str abc),.pl (.int st),.no,.no,.no,.no,.no,.no,.no,.no]):=by
  refine zdz (r:=vi st) ?_
  unfold eOp
  show((some (⟨.tuple [PyData.int 1,.int 3,.int 5,.int 7,.int 9,.int 11,.int 15,.int 17],false,[]⟩:Val)).bind λx=>((some (vi (c / 3 % 8))).bind λy=>(ixD x.d y.d).bind λz=>some (⟨z.1,z.2,bsOf z.1 (x.bs++y.bs)⟩:Val)))=_
  simp only[qC,ixD]
  rw[hst];rfl
 have s5:sSet 5 (eOp mulD (eIxV 2 (eOp modD (eOp zfg (eVar 1) (eC (.int 624))) (eC (.int 26)))) (eOp modD (eOp zfg (eVar 1) (eC (.int 16224))) (eC (.int 8)))) [.pl (.int m),.pl (.int c),.pl (.str abc),.pl (.int st),.pl (.int (c / 24 % 26)),.no,.no,.no,.no,.no,.no,.no] =
   some (.nx [.pl (.int m),.pl (.int c),.pl (.str abc),.pl (.int st),.pl (.int (c / 24 % 26)),.pl (.str (Txt.mul (ltr (c / 624 % 26)) (c / 16224 % 8))),.no,.no,.no,.no,.no,.no]):=
  zdz (r:=vs _) (zalt (zapi rfl rfl j26.1 j26.2) rfl ⟨by show 1<=1000;decide,by omega,by omega⟩)
 have oneS:∃a,∀x∈(Txt.mul (ltr (c / 624 % 26)) (c / 16224 % 8)).cps.toList,x=a:=⟨_,λx hx=>by
  unfold ltr at hx
  rw[zll n8.1]at hx
  exact qAo hx⟩
 generalize hO:c / 24 % 26=o at o26 s5
 generalize Txt.mul (ltr (c / 624 % 26)) (c / 16224 % 8)=stem at lowS azS lenS s5 oneS
 clear j26 n8 i8
 have s6:∃at_:Int,(0<=at_/\at_<=stem.length)/\sSet 6 (eOp modD (eOp zfg (eVar 1) (eC (.int 129792))) (eOp addD (eCB lenD (zac (eVar 5) aNil)) (eC (.int 1)))) [.pl (.int m),.pl (.int c),.pl (.str abc),.pl (.int st),.pl (.int o),.pl (.str stem),.no,.no,.no,.no,.no,.no]=some (.nx [.pl (.int m),.pl (.int c),.pl (.str abc),.pl (.int st),.pl (.int o),.pl (.str stem),.pl (.int at_),.no,.no,.no,.no,.no]):=
  ⟨c / 129792 % ((stem.length:Int)+1),by(have:=md (c / 129792) ((stem.length:Int)+1) (by omega);omega),zdz (r:=vi _) (ziw rfl (zwd (zagh rfl (by omega)) rfl) (by omega))⟩
 obtain⟨at_,hat,s6⟩:=s6
 have loop:∃env',forL (gN 8) (sSeq (sSet 9 (eIxV 2 (eOp modD (eOp addD (eVar 4) (eOp mulD (eVar 3) (eVar 8))) (eC (.int 26)))))
  (sIf (zbq (eOp eqD (eOp modD (eVar 1) (eC (.int 3))) (eC (.int 0)))) (sApp 7 (eOp addD (eOp addD (eSl (eVar 5) zds (zce (eVar 6))) (eVar 9)) (eSl (eVar 5) (zce (eVar 6)) zds))) (sIf (zbq (eOp eqD (eOp modD (eVar 1) (eC (.int 3))) (eC (.int 1)))) (sApp 7 (eOp addD (eSl (eVar 5) zds (zce (eOp modD (eOp mulD (eVar 8) (eVar 3)) (eOp addD (eCB lenD (zac (eVar 5) aNil)) (eC (.int 1)))))) (eVar 9))) (sApp 7 (eOp mulD (eIxV 2 (eOp modD (eOp addD (eVar 4) (eOp zfg (eVar 8) (eC (.int 8)))) (eC (.int 26)))) (eOp addD (eC (.int 1)) (eOp modD (eOp mulD (eVar 8) (eVar 3)) (eC (.int 8)))))))))
   ((List.range m.toNat).map λ(k:Nat)=>PyData.int (k:Int)) [.pl (.int m),.pl (.int c),.pl (.str abc),.pl (.int st),.pl (.int o),.pl (.str stem),.pl (.int at_),.ac (.list []),.no,.no,.no,.no]=some (.nx env')/\
   ∃s8 s9,env'=[.pl (.int m),.pl (.int c),.pl (.str abc),.pl (.int st),.pl (.int o),.pl (.str stem),.pl (.int at_),.ac (zai ((List.range m.toNat).map (zjs (c % 3) o st stem at_))),s8,s9,.no,.no]:=by
  refine zid (λpre env=>∃s8 s9,env=[.pl (.int m),.pl (.int c),.pl (.str abc),.pl (.int st),.pl (.int o),.pl (.str stem),.pl (.int at_),.ac (zai (pre.map (zjs (c % 3) o st stem at_))),s8,s9,.no,.no]) ⟨_,_,rfl⟩ ?_
  rintro pre k post env hk ⟨s8,s9,rfl⟩
  have hkm:k<m.toNat:=qAb.mp (by rw[<- hk];simp)
  have hpl:pre.length<100:=by
   have:=congrArg List.length hk
   simp at this
   omega
  have b1:0<=st * (k:Int):=qCf st0.1 (Int.natCast_nonneg _)
  have s26:=md (o+st * (k:Int)) 26 (by decide)
  have sl:∀a b,(Txt.slice stem a b).length<=7:=λa b=>qAD (Txt.slice_le stem a b) lenS
  have lz:stem.length<=100000:=qAD lenS (by decide)
  have l1:(ltr ((o+st * (k:Int)) % 26)).length=1:=rfl
  refine⟨_,[.pl (.int m),.pl (.int c),.pl (.str abc),.pl (.int st),.pl (.int o),.pl (.str stem),.pl (.int at_),.ac (zai ((pre++[k]).map (zjs (c % 3) o st stem at_))),.pl (.int (k:Int)),.pl (.str (ltr ((o+st * (k:Int)) % 26))),.no,.no],rfl,.inl ?_,_,_,rfl⟩
  refine zbb (zdz (r:=vs _) (zapi rfl (ziw (zwd rfl (zape rfl rfl (.inl ⟨by omega,by omega⟩))) rfl (by decide)) s26.1 s26.2)) ?_
  have fin:∀x:Str,x=zjs (c % 3) o st stem at_ k->(PyData.list ((pre.map (zjs (c % 3) o st stem at_)).map PyData.str++[.str x]))=zai ((pre++[k]).map (zjs (c % 3) o st stem at_)):=λx e=>by
   unfold zai
   rw[q0,q0,e];rfl
  have lp:((pre.map (zjs (c % 3) o st stem at_)).map PyData.str).length<100000:=by rw[qD,qD];exact Nat.lt_trans hpl (by decide)
  by_cases h0:c % 3=0
  ·refine if_t (zfb (by rw[zts (ziw rfl rfl (by decide)) rfl];rw[h0];rfl)) ?_
   have z1:=sl none (some at_)
   have z2:=sl (some at_) none
   refine(zrw rfl (zwe (zwe (zapf rfl rfl (zoh rfl) lz) rfl (by omega)) (zapf rfl (zoh rfl) rfl lz) (by rw[zmm];omega)) lp).trans ?_
   rw[fin _ (by unfold zjs;rw[if_pos h0])];rfl
  ·refine if_f (zfb (by rw[zts (ziw rfl rfl (by decide)) rfl];rw[beq_eq_false_iff_ne.mpr h0])) ?_
   by_cases h1:c % 3=1
   ·refine if_t (zfb (by rw[zts (ziw rfl rfl (by decide)) rfl];rw[h1];rfl)) ?_
    have z1:=sl none (some ((k:Int) * st % ((stem.length:Int)+1)))
    refine(zrw rfl (zwe (zapf rfl rfl (zoh (ziw (zape rfl rfl (.inr ⟨by omega,by omega⟩)) (zwd (zagh rfl lz) rfl) (by omega))) lz) rfl (by omega)) lp).trans ?_
    rw[fin _ (by unfold zjs;rw[if_neg h0,if_pos h1])];rfl
   ·refine if_f (zfb (by rw[zts (ziw rfl rfl (by decide)) rfl];rw[beq_eq_false_iff_ne.mpr h1])) ?_
    have t26:=md (o+(k:Int) / 8) 26 (by decide)
    have u8:=md ((k:Int) * st) 8 (by decide)
    refine(zrw rfl (zalt (zapi rfl (ziw (zwd rfl (zqa rfl rfl (by decide) (by decide))) rfl (by decide)) t26.1 t26.2) (zwd rfl (ziw (zape rfl rfl (.inr ⟨by omega,by omega⟩)) rfl (by decide))) ⟨by show 1<=1000;decide,by omega,by omega⟩) lp).trans ?_
    rw[fin _ (by unfold zjs;rw[if_neg h0,if_neg h1])];rfl
 obtain⟨env',hl,s8,s9,rfl⟩:=loop
 generalize hN:(List.range m.toNat).map (zjs (c % 3) o st stem at_)=xs at hl
 have lx:xs.length=m.toNat:=by rw[<- hN];simp
 have nx:xs.Nodup:=by rw[<- hN];exact zpz λa b ha hb e=>zagf hmem o26.1 (by omega) (by omega) e
 have lo:∀x∈xs,Low x/\zgd x=true:=λx hx=>by
  rw[<- hN]at hx
  obtain⟨j,_,rfl⟩:=qAI.mp hx
  refine⟨zagg lowS o26.1 st0.1 j,?_⟩
  clear hl
  obtain⟨at',rfl⟩:=qAW hat.1
  have l1:∀i,(ltr i).length=1:=λ_=>rfl
  have q26:=md (o+st * (j:Int)) 26 (by decide)
  unfold zjs
  split
  ·refine zue ?_ ?_ (((Az.slice azS).app (Az.ltr q26.1 q26.2)).app (Az.slice azS))
   ·rw[zmm,zmm,l1];omega
   ·rw[zmm,zmm,l1,zagz,zaps];omega
  ·split
   ·obtain⟨a2,ha2⟩:=qAW (md ((j:Int) * st) ((stem.length:Int)+1) (by omega)).1
    rw[ha2]
    refine zue ?_ ?_ ((Az.slice azS).app (Az.ltr q26.1 q26.2))
    ·rw[zmm,l1];omega
    ·rw[zmm,l1,zagz];omega
   ·have u8:=md ((j:Int) * st) 8 (by decide)
    have t26:=md (o+(j:Int) / 8) 26 (by decide)
    have hm:(Txt.mul (ltr ((o+(j:Int) / 8) % 26)) (1+(j:Int) * st % 8)).length=(1+(j:Int) * st % 8).toNat:=by unfold ltr;exact zagb (by omega)
    exact zue (by rw[hm];omega) (by rw[hm];omega) (Az.mul t26.1 t26.2 (by omega))
 have tw:∀x∈xs,Two x:=λx hx=>by
  rw[<- hN]at hx
  obtain⟨j,_,rfl⟩:=qAI.mp hx
  exact zagt oneS st0.1 j
 have it:zfh (zac (eVar 0) aNil) [.pl (.int m),.pl (.int c),.pl (.str abc),.pl (.int st),.pl (.int o),.pl (.str stem),.pl (.int at_),.ac (.list []),.no,.no,.no,.no]=some ((List.range m.toNat).map λ(k:Nat)=>PyData.int (k:Int),[]):=by
  unfold zfh
  rw[zed (r:=vi m) rfl]
  simp only[qC]
  rw[if_pos ⟨by omega,by omega⟩,zqb]
 have run:∀o',(sSeq (sIf (zbq (eOp eqD (eOp modD (eOp zfg (eVar 1) (eC (.int 1038336))) (eC (.int 6))) (eC (.int 5)))) (sSeq (sSet 10 (eLst (zac (eC (.str "none")) (zac (eC (.str "rule")) (zac (eC (.str "quarrel")) (zac (eC (.str "near")) (zac (eC (.str "far")) (zac (eC (.str "out")) aNil))))))))
  (sSeq (sSet 11 (eOp modD (eOp zfg (eVar 1) (eC (.int 6230016))) (eC (.int 6))))
  (sSet 7 (eSl (eOp addD (eOp addD (eSl (eVar 10) (zce (eVar 11)) zds) (eSl (eVar 10) zds (zce (eVar 11)))) (eSl (eVar 7) (zce (eC (.int 6))) zds)) zds (zce (eVar 0)))))) sNil)
  (zom 7)) [.pl (.int m),.pl (.int c),.pl (.str abc),.pl (.int st),.pl (.int o),.pl (.str stem),.pl (.int at_),.ac (zai xs),s8,s9,.no,.no]=o'->(zig [.pl (.int m),.pl (.int c),.no,.no,.no,.no,.no,.no,.no,.no,.no,.no]=o'):=λo' e=>
  zbb rfl (zbb s3 (zbb (e1:=[.pl (.int m),.pl (.int c),.pl (.str abc),.pl (.int st),.pl (.int o),.no,.no,.no,.no,.no,.no,.no]) (by rw[<- hO];rfl) (zbb s5 (zbb s6 (zbb rfl (zbb (zks it hl) e))))))
 have t1:zbq (eOp eqD (eOp modD (eOp zfg (eVar 1) (eC (.int 1038336))) (eC (.int 6))) (eC (.int 5))) [.pl (.int m),.pl (.int c),.pl (.str abc),.pl (.int st),.pl (.int o),.pl (.str stem),.pl (.int at_),.ac (zai xs),s8,s9,.no,.no]=some (c / 1038336 % 6==5):=zfb (zts (ziw (zqa rfl rfl (by decide) (by decide)) rfl (by decide)) rfl)
 cases hb:(c / 1038336 % 6==5)with
 | false=>
  rw[hb]at t1
  exact⟨xs,zfi (env:=[.pl (.int m),.pl (.int c),.no,.no,.no,.no,.no,.no,.no,.no,.no,.no]) rfl (run _ (zbb (if_f t1 rfl) rfl)),lx,nx,lo⟩
 | true=>
  rw[hb]at t1
  have m6:=md (c / 6230016) 6 (by decide)
  obtain⟨q,hq,q6⟩:∃q:Nat,c / 6230016 % 6=(q:Int)/\q<=6:=⟨(c / 6230016 % 6).toNat,by omega,by omega⟩
  have e11:sSet 11 (eOp modD (eOp zfg (eVar 1) (eC (.int 6230016))) (eC (.int 6))) [.pl (.int m),.pl (.int c),.pl (.str abc),.pl (.int st),.pl (.int o),.pl (.str stem),.pl (.int at_),.ac (zai xs),s8,s9,.ac (zai zee),.no]=some (.nx [.pl (.int m),.pl (.int c),.pl (.str abc),.pl (.int st),.pl (.int o),.pl (.str stem),.pl (.int at_),.ac (zai xs),s8,s9,.ac (zai zee),.pl (.int (q:Int))]):=by
   rw[<- hq]
   exact zdz (r:=vi _) (ziw (zqa rfl rfl (by decide) (by decide)) rfl (by decide))
  have cutW1:cutD (zee.map .str) (some (q:Int)) none=(zee.drop q).map .str:=by rw[zzi,qBw]
  have cutW2:cutD (zee.map .str) none (some (q:Int))=(zee.take q).map .str:=by rw[zqc _ _ (by simpa [zee]using q6),qA2]
  have cutX:cutD (xs.map .str) (some ((6:Nat):Int)) none=(xs.drop 6).map .str:=by rw[zzi,qBw]
  have lW:(zee.drop q++zee.take q).length=6:=by rw[qI,qAi,qAN];show 6 - q+min q 6=6;omega
  have lR:((zee.drop q++zee.take q)++xs.drop 6).length>=m.toNat:=by rw[qI,lW,qAi,lx];omega
  have cutM:cutD (((zee.drop q++zee.take q)++xs.drop 6).map .str) none (some (m.toNat:Int))=(((zee.drop q++zee.take q)++xs.drop 6).take m.toNat).map .str:=by rw[zqc _ _ (by rw[qD];exact lR),qA2]
  have hm:(m.toNat:Int)=m:=by omega
  rw[hm]at cutM
  have wl:(zee.drop q).length+(zee.take q).length<=100000:=by rw[<- qI,lW];decide
  have a12:eOp addD (eSl (eVar 10) (zce (eVar 11)) zds) (eSl (eVar 10) zds (zce (eVar 11))) [.pl (.int m),.pl (.int c),.pl (.str abc),.pl (.int st),.pl (.int o),.pl (.str stem),.pl (.int at_),.ac (zai xs),s8,s9,.ac (zai zee),.pl (.int (q:Int))]=some ⟨zai (zee.drop q++zee.take q),true,[10]++[10]⟩:=
   zalx (zags (x:=zee) (f:=false) (bs:=[10]) rfl (zoh (i:=(q:Int)) rfl) rfl cutW1) (zags (x:=zee) (f:=false) (bs:=[10]) rfl rfl (zoh (i:=(q:Int)) rfl) cutW2) wl
  have a3:eSl (eVar 7) (zce (eC (.int 6))) zds [.pl (.int m),.pl (.int c),.pl (.str abc),.pl (.int st),.pl (.int o),.pl (.str stem),.pl (.int at_),.ac (zai xs),s8,s9,.ac (zai zee),.pl (.int (q:Int))]=some ⟨zai (xs.drop 6),true,[7]⟩:=zags (x:=xs) (f:=false) (bs:=[7]) rfl (zoh (i:=((6:Nat):Int)) rfl) rfl cutX
  have a4:=zags (l:=zds) (h:=zce (eVar 0)) (zalx a12 a3 (by rw[lW,qAi,lx];omega)) rfl (zoh (i:=m) rfl) cutM
  refine⟨((zee.drop q++zee.take q)++xs.drop 6).take m.toNat,zfi (env:=[.pl (.int m),.pl (.int c),.no,.no,.no,.no,.no,.no,.no,.no,.no,.no]) rfl (run _ (zbb (if_t t1 (zbb rfl (zbb e11 (zdz a4)))) rfl)),by rw[qAN];omega,?_,λx hx=>?_⟩
  ·refine List.Nodup.sublist (qBs _ _) ?_
   have pw:(zee.drop q++zee.take q).Perm zee:=by
    have:=List.perm_append_comm (l₁:=zee.drop q) (l₂:=zee.take q)
    rwa [qB3]at this
   refine qAe.mpr ⟨pw.nodup_iff.mpr zakg,nx.sublist (List.drop_sublist _ _),λa ha b hb e=>?_⟩
   subst e
   exact zack a (pw.mem_iff.mp ha) (tw a (qBF hb))
  ·rcases qc.mp (qAs hx)with z|z
   ·have hw:x∈zee:=?_
    exact⟨zagu x hw,zahj x hw⟩
    rcases qc.mp z with z|z
    ·exact qBF z
    ·exact qAs z
   ·exact lo x (qBF z)
theorem zacm{cs:List Int}{xs:List Str}(hle:xs.length<=cs.length)(h12:xs.length<=12)(nd:xs.Nodup):∃W,zkr [zek cs,zai xs]=some (webD W,true)/\nm W=xs/\WebOk W/\∀p∈W,p.2.Nodup:=by
 have loop:∃env',forL (gT 2 (zaq 3 (zaq 4 zcq))) (sSeq (sSet 5 (eSl (eVar 1) zds (zce (eVar 3))))
  (sSeq (sSet 6 (eOp zfg (eIxV 0 (eVar 3)) (eC (.int 5))))
  (sSeq (sSet 7 (eLst aNil))
  (sSeq (sFor (zfh (zac (eCB minD (zac (eOp modD (eIxV 0 (eVar 3)) (eC (.int 5))) (zac (eVar 3) aNil))) aNil)) (gN 8)
  (sSeq (sSet 9 (eOp modD (eVar 6) (eCB lenD (zac (eVar 5) aNil))))
  (sSeq (sSet 6 (eOp zfg (eVar 6) (eCB lenD (zac (eVar 5) aNil))))
  (zml 7 5 (eVar 9)))))
  (sApp 2 (eTup (zac (eVar 4) (zac (eVar 7) aNil)))))))) ((xs.zipIdx).map λ(p:Str×Nat)=>PyData.tuple [.int (p.2:Int),.str p.1]) [.pl (zek cs),.pl (zai xs),.ac (webD []),.no,.no,.no,.no,.no,.no,.no]=some (.nx env')/\
   ∃W s3 s4 s5 s6 s7 s8 s9,env'=[.pl (zek cs),.pl (zai xs),.ac (webD W),s3,s4,s5,s6,s7,s8,s9]/\nm W=(xs.zipIdx).map (λp:Str×Nat=>p.1)/\WebOk W/\∀p∈W,p.2.Nodup:=by
  refine zid (λpre env=>∃W s3 s4 s5 s6 s7 s8 s9,env=[.pl (zek cs),.pl (zai xs),.ac (webD W),s3,s4,s5,s6,s7,s8,s9]/\nm W=pre.map (λp:Str×Nat=>p.1)/\WebOk W/\∀p∈W,p.2.Nodup) ⟨[],_,_,_,_,_,_,_,rfl,rfl,zagi,λp hp=>by(cases hp)⟩ ?_
  rintro pre ⟨n,i⟩ post env hp ⟨W,s3,s4,s5,s6,s7,s8,s9,rfl,hnm,ok,ndA⟩
  have hz:(xs.zipIdx)[pre.length]?=some (n,i):=by rw[<- hp];simp
  rw[qB8]at hz
  have hi:i=pre.length/\xs[pre.length]?=some n:=by
   cases e:xs[pre.length]? with
   | none=>rw[e]at hz;cases hz
   | some y=>rw[e]at hz;simp at hz;exact⟨by omega,by rw[hz.1]⟩
  obtain⟨rfl,hn⟩:=hi
  have hix:pre.length<xs.length:=(qJ.mp hn).1
  have hic:pre.length<cs.length:=by omega
  have hpre:pre.map (λp:Str×Nat=>p.1)=xs.take pre.length:=by
   have e1:(xs.zipIdx).map (λp:Str×Nat=>p.1)=xs:=qC0 0 xs
   have e2:=congrArg (λl:List (Str×Nat)=>(l.map (λp:Str×Nat=>p.1)).take pre.length) hp
   simp only[e1]at e2
   rw[<- e2,q0,qBY (by simp),<- qA2,List.take_length]
  have hWl:W.length=pre.length:=by
   have:=congrArg List.length hnm
   unfold nm at this
   simpa using this
  have gc:∀{env:DEnv},env[0]?=some (.pl (zek cs))->env[3]?=some (.pl (.int (pre.length:Int)))->eIxV 0 (eVar 3) env=some (vi cs[pre.length]):=λ{env} h0 h3=>
   zwf (ds:=cs.map .int) h0 (by unfold eVar;rw[h3]) (by rw[qT,qF hic];rfl)
  have m5:=qAE cs[pre.length] (show(5:Int)≠0 by decide)
  have m5':=qAH cs[pre.length] (show(0:Int)<5 by decide)
  generalize eN:(if((pre.length:Nat):Int)<cs[pre.length] % 5 then((pre.length:Nat):Int)else cs[pre.length] % 5)=N
  have hN:0<=N/\N<=pre.length/\N<=4:=by rw[<- eN];split<;>omega
  have tl:(xs.take pre.length).length=pre.length:=by rw[qAN];omega
  obtain⟨es,s5',s6',s8',s9',q,_,⟨ls,pm⟩,hes⟩:=zwh (A:=.pl (zek cs)) (B:=.pl (zai xs)) (C:=.ac (webD W)) (kk:=pre.length) (nn:=.pl (.str n)) (xs:=xs.take pre.length) (by omega) N.toNat (xs.take pre.length) [] (cs[pre.length] / 5) s8 s9 (qC1 _) (by simp;omega) (by omega)
  have ndT:(xs.take pre.length).Nodup:=nd.sublist (qBs _ _)
  have ndE:es.Nodup:=(qAe.mp (pm.nodup_iff.mpr ndT)).1
  have subE:∀e∈es,e∈nm W:=λe he=>by rw[hnm,hpre];exact pm.mem_iff.mp (qAQ _ he)
  have nW:n∉nm W:=by
   rw[hnm,hpre]
   intro hm
   obtain⟨j,hj,ej⟩:=qAl hm
   rw[List.getElem_take]at ej
   obtain⟨hh,en⟩:=qJ.mp hn
   have:=zalu nd (ej.trans en.symm)
   rw[tl]at hj
   omega
  refine⟨_,[.pl (zek cs),.pl (zai xs),.ac (webD (W++[(n,es)])),.pl (.int (pre.length:Int)),.pl (.str n),s5',s6',.pl (zai es),s8',s9'],rfl,.inl ?_,W++[(n,es)],_,_,_,_,_,_,_,rfl,by rw[zaga,hnm];simp,zagj ok nW subE (by rw[hes];simp;omega) (by omega),λp hp=>(qc.mp hp).elim (ndA p) λz=>by(rw[q9.mp z];exact ndE)⟩
  have st5:sSet 5 (eSl (eVar 1) zds (zce (eVar 3))) [.pl (zek cs),.pl (zai xs),.ac (webD W),.pl (.int (pre.length:Int)),.pl (.str n),s5,s6,s7,s8,s9]=some (.nx [.pl (zek cs),.pl (zai xs),.ac (webD W),.pl (.int (pre.length:Int)),.pl (.str n),.ac (zai (xs.take pre.length)),s6,s7,s8,s9]):=by
   have:eSl (eVar 1) zds (zce (eVar 3)) [.pl (zek cs),.pl (zai xs),.ac (webD W),.pl (.int (pre.length:Int)),.pl (.str n),s5,s6,s7,s8,s9]=some ⟨zai (xs.take pre.length),true,[]⟩:=by
    simp only[eSl,eVar,zds,zce,qBP,qBO,qC,zai,slD]
    rw[zqc _ _ (by rw[qD];omega),<- qA2]
    simp[bsOf,zex]
   exact zdz this
  refine zbb st5 (zbb (zdz (r:=vi _) (zqa (gc rfl rfl) rfl (by decide) (by decide))) (zbb rfl (zbb (zks (ds:=(List.range' ([]:List Str).length N.toNat).map λ(k:Nat)=>PyData.int (k:Int)) (bs:=[]) ?_ q) ?_)))
  ·have:eCB minD (zac (eOp modD (eIxV 0 (eVar 3)) (eC (.int 5))) (zac (eVar 3) aNil)) [.pl (zek cs),.pl (zai xs),.ac (webD W),.pl (.int (pre.length:Int)),.pl (.str n),.ac (zai (xs.take pre.length)),.pl (.int (cs[pre.length] / 5)),.ac (.list []),s8,s9]=some (vi N):=by
    unfold eCB zac
    rw[ziw (gc rfl rfl) (j:=5) rfl (by decide)]
    show((minD [.int (cs[pre.length] % 5),.int ((pre.length:Nat):Int)]).bind λz=>some (⟨z.1,z.2,bsOf z.1 _⟩:Val))=_
    unfold minD
    simp only[qC]
    rw[eN];rfl
   show zfh _ [.pl (zek cs),.pl (zai xs),.ac (webD W),.pl (.int (pre.length:Int)),.pl (.str n),.ac (zai (xs.take pre.length)),.pl (.int (cs[pre.length] / 5)),.ac (.list []),s8,s9]=_
   unfold zfh
   rw[zed this]
   simp only[qC]
   rw[if_pos ⟨by omega,by omega⟩,zqb,List.range_eq_range']
   rfl
  ·have lz:(W.map rowD).length<100000:=by rw[qD];omega
   simp only[sApp,webD,eTup,zac,aNil,eVar,qBP,qBO,qC,qB0,zia,bss]
   rw[if_pos (by simp)]
   simp only[qC]
   rw[if_pos ⟨lz,by simp⟩]
   simp[frzs,frz1,rowD,zai]
 obtain⟨env',hl,W,s3,s4,s5,s6,s7,s8,s9,rfl,hnm,ok⟩:=loop
 refine⟨W,zfi (env:=[.pl (zek cs),.pl (zai xs),.no,.no,.no,.no,.no,.no,.no,.no]) rfl (zbb rfl (zbb (zks (ds:=(xs.zipIdx).map λ(p:Str×Nat)=>PyData.tuple [.int (p.2:Int),.str p.1]) (bs:=[]) ?_ hl) rfl)),hnm.trans (qC0 0 xs),ok⟩
 unfold zez
 rw[zed (r:=⟨zai xs,false,[]⟩) rfl]
 simp only[qC,zai]
 rw[zna]
structure WbK(W:Web):Prop where
 ok:WebOk W
 ne:W≠[]
 ten:W.length<=10
 el:∀p∈W,p.2.Nodup
 nam:∀x∈nm W,zgd x=true
 low:∀x∈nm W,Low x
theorem zaau:∀(xs:List Str),unS (xs.map .str)=some xs
 | []=>rfl
 | x::xs=>by show(unS (xs.map .str)).map _=_;rw[zaau xs];rfl
theorem zzl{W:Web}{i:Nat}{x:Str}(h:x∈nm (W.take i)):x∈nm W:=by
 unfold nm at h ⊢
 obtain⟨p,hp,e⟩:=qAI.mp h
 exact qAI.mpr ⟨p,qAs hp,e⟩
theorem WbK.elow{W:Web}(w:WbK W){p:Str×List Str}(hp:p∈W):(p.1∈nm W)/\∀x∈p.2,x∈nm W:=by
 refine⟨qAI.mpr ⟨p,hp,rfl⟩,λx hx=>?_⟩
 obtain⟨i,hi,e⟩:=qAl hp
 exact zzl (w.ok.el i p.1 p.2 (by rw[qF hi,e]) x hx)
theorem WbK.good{W:Web}(w:WbK W){i:Nat}{p:Str×List Str}(h:W[i]?=some p):zle (nm (W.take i)) (rowD p)=true:=by
 have hp:p∈W:=qp h
 have hn:p.1∉nm (W.take i):=λz=>by
  have nd:=w.ok.nd
  have h1:(nm W)[i]?=some p.1:=by unfold nm;rw[qT,h];rfl
  have e:nm (W.take i)=(nm W).take i:=by unfold nm;rw[qA2]
  rw[e]at z
  obtain⟨j,hj,ej⟩:=qAl z
  rw[List.getElem_take]at ej
  obtain⟨hi,ei⟩:=qJ.mp h1
  rw[qAN]at hj
  have:=zalu nd (ej.trans ei.symm)
  omega
 show((zgd p.1&&!decide (p.1∈nm (W.take i)))&&(decide ((p.2.map PyData.str).length<=4)&&eldB (nm (W.take i)) (p.2.map .str)))=true
 unfold eldB
 rw[zaau,w.nam p.1 (w.elow hp).1,decide_eq_false hn,qD,decide_eq_true (w.ok.few p hp)]
 dsimp only
 rw[decide_eq_true (w.el p hp)]
 simp only[Bool.not_false,Bool.and_true,qBR,qs,decide_eq_true_eq]
 exact w.ok.el i p.1 p.2 h
theorem zacn(p:Str×List Str):zaat (rowD p)=p.1:=rfl
theorem zamf{W:Web}(w:WbK W):∀(n i:Nat),n=W.length - i->i<=W.length->zdg i (nm (W.take i)) ((W.drop i).map rowD)=none
 | 0,i,e,h=>by
  rw[List.drop_eq_nil_of_le (by omega)];rfl
 | n+1,i,e,h=>by
  have hi:i<W.length:=by omega
  rw[qAm hi]
  show(if(decide (i<10)&&zle (nm (W.take i)) (rowD W[i]))=true then zdg (i+1) (nm (W.take i)++[zaat (rowD W[i])]) ((W.drop (i+1)).map rowD)else some i)=none
  have:=w.ten
  rw[if_pos (by rw[decide_eq_true (by omega),w.good (qF hi)];rfl),zacn,<- zuz (qF hi)]
  exact zamf w n (i+1) (by omega) hi
theorem zapv{W:Web}(w:WbK W):zdg 0 [] (W.map rowD)=none:=zamf w W.length 0 rfl (qAr _)
theorem zavb:∀{W:Web},W≠[]->∃e es,W.map rowD=e::es
 | [],h=>absurd rfl h
 | p::W,_=>⟨rowD p,W.map rowD,rfl⟩
theorem zapw{es:List PyData}(hne:es≠[])(h:zdg 0 [] es=none):webR (.list es)=.ok (.list es) true:=by
 cases es with
 | nil=>exact absurd rfl hne
 | cons e es=>show(match zdg 0 [] (e::es)with|some i=>_|none=>_)=_;rw[h]
theorem zapx{p:Str×List Str}(h1:Low p.1)(h2:p.1.length<=1000)(h3:p.2.length<300):zacl (rowD p):=by
 intro n el e
 cases e
 refine⟨λx hx=>?_,λes he=>?_⟩
 ·cases hx;exact⟨h1,h2⟩
 ·cases he;rw[qD];exact h3
theorem zuf{x:Str}(h:zgd x=true):x.length<=1000:=by
 unfold zgd at h
 simp only[qb,decide_eq_true_eq]at h
 omega
theorem WbK.ent{W:Web}(w:WbK W):∀e∈W.map rowD,zacl e:=λe he=>by
 obtain⟨p,hp,rfl⟩:=qAI.mp he
 have hn:=(w.elow hp).1
 exact zapx (w.low _ hn) (zuf (w.nam _ hn)) (by have:=w.ok.few p hp;omega)
theorem WbK.copy{W:Web}(w:WbK W):zdd [webD W]=some (webD W,true):=
 zahh (by rw[qD];have:=w.ten;omega) λe he=>by
  obtain⟨p,hp,rfl⟩:=qAI.mp he
  exact⟨p.1,p.2,rfl,w.low _ (w.elow hp).1,λx hx=>w.low x ((w.elow hp).2 x hx)⟩
noncomputable def rowT(p:Str×List Str):NT:=.tp [.lf (.str p.1),.ls (p.2.map λx=>.lf (.str x))]
noncomputable def zlt(W:Web):NT:=.ls (W.map rowT)
theorem zaco(W:Web):ztq (gT 2 (zaq 0 (zaq 1 zcq))) zdt (pTup (zfa (pLf (eVar 0)) (zfa (pFr (eCB zmi (zac (eVar 1) aNil))) zvy))) [.no,.no] (W.map rowD)=some (W.map rowT):=by
 induction W with
 | nil=>rfl
 | cons p W ih=>
  have hr:pTup (zfa (pLf (eVar 0)) (zfa (pFr (eCB zmi (zac (eVar 1) aNil))) zvy)) [.pl (.str p.1),.pl (zai p.2)]=some (rowT p):=by
   show some (NT.tp [.lf (.str p.1),.ls ((p.2.map PyData.str).map .lf)])=_
   unfold rowT
   rw[qB4];rfl
  show((pTup (zfa (pLf (eVar 0)) (zfa (pFr (eCB zmi (zac (eVar 1) aNil))) zvy)) [.pl (.str p.1),.pl (zai p.2)]).bind λr=>(ztq (gT 2 (zaq 0 (zaq 1 zcq))) zdt (pTup (zfa (pLf (eVar 0)) (zfa (pFr (eCB zmi (zac (eVar 1) aNil))) zvy))) [.no,.no] (W.map rowD)).map λrs=>r::rs)=_
  rw[hr,ih];rfl
theorem zxt{own:List Str}{env:DEnv}{k:Nat}{W:Web}(ho:own.length=2)(h:eVar k env=some ⟨webD W,false,[]⟩)(hl:W.length<100000) :
  zabx own [] (zbu (eVar k)) (gT 2 (zaq 0 (zaq 1 zcq))) zdt (pTup (zfa (pLf (eVar 0)) (zfa (pFr (eCB zmi (zac (eVar 1) aNil))) zvy))) env=some (zlt W):=by
 have hi:zbu (eVar k) env=some (W.map rowD,[]):=by unfold zbu;rw[h];rfl
 have hb:envB own [] env=[.no,.no]:=by
  match own,ho with
  | [_,_],_=>rfl
 unfold zabx
 rw[hi,qC,hb,if_pos ⟨by rw[qD];exact hl,rfl,rfl⟩,zaco];rfl
theorem WbK.copyT{W:Web}(w:WbK W):zfc [webD W]=some (zlt W):=by
 have:=w.ten
 exact zxt (env:=[.pl (webD W)]) (k:=0) rfl rfl (by omega)
theorem zaki{f:SF}{g:NTF}{env e1:DEnv}{o:Option NT}(h:f env=some (.nx e1))(k:g e1=o):zwa f g env=o:=by unfold zwa;rw[h];exact k
theorem zakj{d:PyData}(s:qAM d=true):neD d d=some (.bool false,false):=by
 unfold neD eqOk
 rw[s,qCi,qAy,if_pos rfl,qCP _ (qAY s)];rfl
theorem WbK.thing{W:Web}(w:WbK W):zzk (webD W):=λes he=>by
 cases he
 exact⟨by rw[qD];have:=w.ten;omega,w.ent⟩
theorem WbK.isweb{W:Web}(w:WbK W):zhs [webD W]=some (.bool true,false):=by
 rw[zahi w.thing]
 obtain⟨e,es,h⟩:=zavb w.ne
 have:=zapw (es:=W.map rowD) (by rw[h];exact λz=>by cases z) (zapv w)
 rw[show webR (webD W)=.ok (webD W) true from this];rfl
theorem lowA:Low ("A":Str):=zacb (by decide +kernel)
theorem zrg{α β:Type}{f:α->Option β}:∀{xs:List α}{ys:List β},xs.length=ys.length->(∀(i:Nat)(x:α)(y:β),xs[i]?=some x->ys[i]?=some y->f x=some y)->mapO f xs=some ys
 | [],[],_,_=>rfl
 | x::xs,y::ys,hl,h=>by
  unfold mapO
  rw[h 0 x y rfl rfl,zrg (xs:=xs) (ys:=ys) (Nat.succ.inj hl) λi a b h1 h2=>h (i+1) a b h1 h2];rfl
 | [],_::_,hl,_=>by cases hl
 | _::_,[],hl,_=>by cases hl
noncomputable def esS(es:List Str):List SV:=es.map λx=>.dt (.str x)
structure WbAt(hp:List SN)(b m:Nat)(ks:List Nat)(W:Web):Prop where
 top:hp[b]?=some (.ls (ks.map .lo))
 len:ks.length=W.length
 row:∀(i k:Nat)(p:Str×List Str),ks[i]?=some k->W[i]?=some p->hp[k]?=some (.tp [.dt (.str p.1),.lo (k+1)])/\hp[k+1]?=some (.ls (esS p.2))
 inn:∀k∈ks,b<k/\k+1<b+m
 nd:ks.Nodup
 odd:∀k∈ks,∀l∈ks,k≠l+1
 fit:b+m<=hp.length
 pos:0<m
section
variable{hp hp':List SN}{b m:Nat}{ks:List Nat}{W:Web}
theorem WbAt.frame(h:WbAt hp b m ks W)(e:∀n,b<=n->n<b+m->hp'[n]?=hp[n]?)(l:b+m<=hp'.length):WbAt hp' b m ks W:=by
 have:=h.pos
 refine⟨by rw[e b (qM _) (by omega)];exact h.top,h.len,λi k p h1 h2=>?_,h.inn,h.nd,h.odd,l,h.pos⟩
 have hk:=h.inn k (qp h1)
 obtain⟨g1,g2⟩:=h.row i k p h1 h2
 exact⟨by rw[e k (by omega) (by omega)];exact g1,by rw[e (k+1) (by omega) (by omega)];exact g2⟩
theorem WbAt.out(h:WbAt hp b m ks W){n:Nat}{s:SN}(hn:n<b\/b+m<=n):WbAt (hp.set n s) b m ks W:=
 h.frame (λi h1 h2=>qO (by omega)) (by rw[qx];exact h.fit)
theorem WbAt.more(h:WbAt hp b m ks W)(x:List SN):WbAt (hp++x) b m ks W:=by
 have:=h.fit
 exact h.frame (λi h1 h2=>qf (by omega)) (by rw[qI];omega)
theorem zath(hp:List SN)(k:Nat)(es:List Str):mapO (rdV hp k) (esS es)=some (es.map .str):=by
 refine zrg (by unfold esS;rw[qD,qD]) λi x y h1 h2=>?_
 unfold esS at h1
 rw[qT]at h1 h2
 cases e:es[i]? with
 | none=>rw[e]at h1;cases h1
 | some z=>rw[e]at h1 h2;cases h1;cases h2;cases k<;>rfl
theorem WbAt.rd(h:WbAt hp b m ks W):rdV hp 9 (.lo b)=some (webD W):=by
 have:mapO (rdV hp 8) (ks.map .lo)=some (W.map rowD):=by
  refine zrg (by rw[qD,qD];exact h.len) λi x y h1 h2=>?_
  rw[qT]at h1 h2
  cases ek:ks[i]? with
  | none=>rw[ek]at h1;cases h1
  | some k=>
   cases ep:W[i]? with
   | none=>rw[ep]at h2;cases h2
   | some p=>
    rw[ek]at h1;rw[ep]at h2
    cases h1;cases h2
    obtain⟨g1,g2⟩:=h.row i k p ek ep
    have r2:rdV hp 7 (.lo (k+1))=some (zai p.2):=by
     unfold rdV
     rw[g2]
     show(mapO (rdV hp 6) (esS p.2)).map _=_
     rw[zath];rfl
    have r1:mapO (rdV hp 7) [.dt (.str p.1),.lo (k+1)]=some [.str p.1,zai p.2]:=by
     unfold mapO mapO mapO
     rw[r2];rfl
    unfold rdV
    rw[g1]
    show(mapO (rdV hp 7) [.dt (.str p.1),.lo (k+1)]).map _=_
    rw[r1];rfl
 unfold rdV
 rw[h.top]
 show(mapO (rdV hp 8) (ks.map .lo)).map _=_
 rw[this];rfl
end
noncomputable def kz:Nat->Web->List Nat
 | _,[]=>[]
 | n,_::W=>n::kz (n+2) W
noncomputable def sz:Nat->Web->List SN
 | _,[]=>[]
 | n,p::W=>.tp [.dt (.str p.1),.lo (n+1)]::.ls (esS p.2)::sz (n+2) W
theorem zamg:∀(es:List Str)(n:Nat),als (es.map λx=>NT.lf (.str x)) n=(esS es,[])
 | [],n=>by unfold als;rfl
 | x::es,n=>by
  show als (NT.lf (.str x)::es.map λx=>NT.lf (.str x)) n=_
  unfold als
  have:al (NT.lf (.str x)) n=(.dt (.str x),[]):=by unfold al;rfl
  rw[this,zamg es];rfl
theorem zati(p:Str×List Str)(n:Nat):al (rowT p) n=(.lo n,[.tp [.dt (.str p.1),.lo (n+1)],.ls (esS p.2)]):=by
 have h1:al (NT.lf (.str p.1)) (n+1)=(.dt (.str p.1),[]):=by unfold al;rfl
 have h2:al (NT.ls (p.2.map λx=>NT.lf (.str x))) (n+1)=(.lo (n+1),[.ls (esS p.2)]):=by unfold al;rw[zamg]
 have h3:als [NT.lf (.str p.1),.ls (p.2.map λx=>NT.lf (.str x))] (n+1)=([.dt (.str p.1),.lo (n+1)],[.ls (esS p.2)]):=by
  unfold als
  rw[h1]
  show((SV.dt (.str p.1))::(als [NT.ls (p.2.map λx=>NT.lf (.str x))] (n+1)).1,[]++(als [NT.ls (p.2.map λx=>NT.lf (.str x))] (n+1)).2)=_
  unfold als
  rw[h2]
  unfold als
  rfl
 unfold rowT al
 rw[h3]
theorem zaav:∀(W:Web)(n:Nat),als (W.map rowT) n=((kz n W).map .lo,sz n W)
 | [],n=>by show als [] n=_;unfold als;rfl
 | p::W,n=>by
  show als (rowT p::W.map rowT) n=_
  unfold als
  rw[zati]
  show(SV.lo n::(als (W.map rowT) (n+2)).1,[SN.tp [.dt (.str p.1),.lo (n+1)],.ls (esS p.2)]++(als (W.map rowT) (n+2)).2)=_
  rw[zaav W (n+2)];rfl
theorem zug(W:Web)(n:Nat):al (zlt W) n=(.lo n,.ls ((kz (n+1) W).map .lo)::sz (n+1) W):=by
 unfold zlt al
 rw[zaav]
theorem zamh:∀(W:Web)(n:Nat),(kz n W).length=W.length
 | [],_=>rfl
 | _::W,n=>congrArg (·+1) (zamh W (n+2))
theorem zaaw:∀(W:Web)(n:Nat),(sz n W).length=2 * W.length
 | [],_=>rfl
 | _::W,n=>by
  show(sz (n+2) W).length+1+1=2 * (W.length+1)
  rw[zaaw W (n+2)];omega
theorem zaax:∀{W:Web}{n i k:Nat},(kz n W)[i]?=some k->k=n+2 * i/\i<W.length
 | [],n,i,k,h=>by cases h
 | p::W,n,0,k,h=>by cases h;exact⟨rfl,Nat.zero_lt_succ _⟩
 | p::W,n,i+1,k,h=>by
  obtain⟨h1,h2⟩:=zaax (W:=W) (n:=n+2) (i:=i) h
  exact⟨by omega,Nat.succ_lt_succ h2⟩
theorem zami:∀{W:Web}{n i:Nat}{p:Str×List Str},W[i]?=some p->(sz n W)[2 * i]?=some (.tp [.dt (.str p.1),.lo (n+2 * i+1)])/\(sz n W)[2 * i+1]?=some (.ls (esS p.2))
 | [],n,i,p,h=>by cases h
 | q::W,n,0,p,h=>by cases h;exact⟨rfl,rfl⟩
 | q::W,n,i+1,p,h=>by
  obtain⟨h1,h2⟩:=zami (W:=W) (n:=n+2) (i:=i) h
  refine⟨?_,?_⟩
  ·show(sz n (q::W))[2 * i+1+1]?=_
   show(sz (n+2) W)[2 * i]?=_
   rw[h1];congr 5;omega
  ·show(sz (n+2) W)[2 * i+1]?=_
   exact h2
theorem zatj:∀(W:Web)(n:Nat),(kz n W).Nodup
 | [],_=>qA1
 | p::W,n=>qt.mpr ⟨λz=>by
   obtain⟨i,hi,e⟩:=qAl z
   have:=zaax (W:=W) (n:=n+2) (i:=i) (k:=n) (by rw[qF hi,e])
   omega,zatj W (n+2)⟩
theorem zahk(hp:List SN)(W:Web):WbAt (hp++(al (zlt W) hp.length).2) hp.length (1+2 * W.length) (kz (hp.length+1) W) W:=by
 rw[zug]
 have hl:=zaaw W (hp.length+1)
 have mem:∀k∈kz (hp.length+1) W,∃i,k=hp.length+1+2 * i/\i<W.length:=λk hk=>by
  obtain⟨i,hi,e⟩:=qAl hk
  exact⟨i,zaax (by rw[qF hi,e])⟩
 refine⟨?_,zamh _ _,λi k p h1 h2=>?_,λk hk=>?_,?_,λk hk l hl=>?_,?_,by omega⟩
 ·rw[qN (qM _),qCM];rfl
 ·obtain⟨rfl,hi⟩:=zaax h1
  obtain⟨g1,g2⟩:=zami (n:=hp.length+1) h2
  refine⟨?_,?_⟩
  ·rw[qN (by omega),show hp.length+1+2 * i - hp.length=2 * i+1 by omega]
   exact g1
  ·rw[qN (by omega),show hp.length+1+2 * i+1 - hp.length=(2 * i+1)+1 by omega]
   exact g2
 ·obtain⟨i,rfl,hi⟩:=mem k hk;omega
 ·exact zatj _ _
 ·obtain⟨i,rfl,hi⟩:=mem k hk
  obtain⟨j,rfl,hj⟩:=mem l hl
  omega
 ·rw[qI]
  show _<=hp.length+((sz (hp.length+1) W).length+1)
  omega
theorem zahl:∀es:List Str,flatNs (es.map λx=>NT.lf (.str x))=true
 | []=>by show flatNs []=true;unfold flatNs;rfl
 | x::es=>by
  show flatNs (NT.lf (.str x)::es.map λx=>NT.lf (.str x))=true
  unfold flatNs
  rw[zahl es]
  have:zhq (NT.lf (.str x))=true:=by unfold zhq;rfl
  rw[this];rfl
theorem zakk(p:Str×List Str):zhq (rowT p)=true:=by
 have h1:zhq (NT.lf (.str p.1))=true:=by unfold zhq;rfl
 have h2:zhq (NT.ls (p.2.map λx=>NT.lf (.str x)))=true:=by unfold zhq;exact zahl _
 unfold rowT zhq flatNs
 rw[h1]
 unfold flatNs
 rw[h2]
 unfold flatNs
 rfl
theorem zxu:∀W:Web,flatNs (W.map rowT)=true
 | []=>by show flatNs []=true;unfold flatNs;rfl
 | p::W=>by
  show flatNs (rowT p::W.map rowT)=true
  unfold flatNs
  rw[zakk,zxu W];rfl
theorem zaay(W:Web):zhq (zlt W)=true:=by unfold zlt zhq;exact zxu W
theorem zci{a b:SFs}{env e:DEnv}{st s:SyT}{o:Option OutS}(h:a env st=some (.nx e s))(k:b e s=o):ySeq a b env st=o:=by unfold ySeq;rw[h];exact k
theorem znz{f:List Nat}{F:SF}{env e:DEnv}{st:SyT}(h1:slIn f st.sl=true)(h:F env=some (.nx e))(h2:noAt e st.sl=true):yS f F env st=some (.nx e st):=by
 unfold yS
 rw[if_pos h1,h,qC]
 exact if_pos h2
theorem zahm{c:TFs}{a:SFs}{env:DEnv}{st:SyT}(h:c env st=some false):yIf c a yNil env st=some (.nx env st):=by unfold yIf;rw[h];rfl
theorem zavc{hp:List SN}{s:Sl}{x:SV}{d:PyData}(h:rdV hp 9 x=some d):shS hp s (some x)=.pl d:=by unfold shS;dsimp only;rw[h]
theorem vw{E':DEnv}{j:Nat}{hp:List SN}{s:Sl}{x:SV}{d:PyData}(h:E'[j]?=some (shS hp s (some x)))(r:rdV hp 9 x=some d):eVar j E'=some ⟨d,false,[]⟩:=by unfold eVar;rw[h,zavc r]
theorem zahn{n j:Nat}(h:j<n):ixN n (j:Int)=some j:=by
 unfold ixN
 rw[if_pos (by omega),if_pos (by omega)]
 rfl
theorem zatk{α:Type}{xs:List α}{j:Nat}{x:α}(h:xs[j]?=some x):atI xs (j:Int)=some x:=by
 unfold atI
 rw[zahn (qJ.mp h).1];exact h
theorem zavd{a b:EF}{env:DEnv}{i j:Int}(ha:a env=some (vi i))(hb:b env=some (vi j)):eOp gtD a b env=some (vb (decide (j<i))):=by
 unfold eOp;rw[ha,hb];rfl
theorem zzm{A ks:List Str}{p:Nat}(hl:ks.length<300):zih [zai A,.int (p:Int),zas ks]=some (.bool (decide (ks.length=p)&&ks.all λk=>decide (k∈A)),false):=by
 have t1:zbq (eOp neD (eCB lenD (zac (eVar 2) aNil)) (eVar 1)) [.pl (zai A),.pl (.int (p:Int)),.pl (zas ks)]=some (!decide (ks.length=p)):=by
  refine zfb ?_
  unfold eOp
  show((neD (.int ((ks.map PyData.str).length:Nat)) (.int (p:Nat))).bind λz=>some (⟨z.1,z.2,bsOf z.1 ([]++[])⟩:Val))=_
  rw[zaha,qD];rfl
 have t2:tOrF (zbg (tTru (eIsi "tuple" (eVar 2)))) (zbq (eOp neD (eCB lenD (zac (eVar 2) aNil)) (eVar 1))) [.pl (zai A),.pl (.int (p:Int)),.pl (zas ks)]=some (!decide (ks.length=p)):=or_2 rfl t1
 cases hp:decide (ks.length=p)with
 | false=>
  rw[hp]at t2
  exact zfi (env:=[.pl (zai A),.pl (.int (p:Int)),.pl (zas ks)]) rfl (zgf (if_t t2 rfl))
 | true=>
  rw[hp]at t2
  have cm:zje (gN 0) zdt (eOp (inD false) (eVar 0) (eVar 1)) [.no,.pl (zai A)] (ks.map .str)=some (ks.map λk=>.bool (decide (k∈A))):=
   zfy (enc:=PyData.str) (out:=λk=>.bool (decide (k∈A))) λk _=>⟨[.pl (.str k),.pl (zai A)],rfl,rfl,vb (decide (k∈A)),(e_in (neg:=false) rfl rfl).trans rfl,rfl⟩
  have c2:=zku (own:=["name"]) (fr:=[0]) (fi:=zbu (eVar 2)) (g:=gN 0) (t:=zdt) (e:=eOp (inD false) (eVar 0) (eVar 1)) (env:=[.pl (zai A),.pl (.int (p:Int)),.pl (zas ks)]) (ds:=ks.map .str) (bs:=[]) rfl (by rw[qD];omega) cm
  exact zfi (env:=[.pl (zai A),.pl (.int (p:Int)),.pl (zas ks)]) rfl (zbb (if_f t2 rfl) (zkt (zajz (f:=λk=>decide (k∈A)) (l:=ks) c2)))
noncomputable def rlB(A:List Str)(p:Nat)(R:List Rule)(r:Rule):Bool:=
 (zgd r.1&&!decide (r.1∈R.map (·.1)))&&((decide (r.2.length=p)&&r.2.all λk=>decide (k∈A))&&!decide (r.2∈R.map (·.2)))
structure RuL(r:Rule):Prop where
 low:LowS r.2
 few:r.2.length<300
 nam:r.1.length<=1000
theorem zave{R:List Rule}{env:DEnv}{i:Nat}{s:Sl}(he:env[i]?=some s)(hs:s=.ac (zaf R)\/s=.pl (zaf R))(hl:R.length<300){own:List Str}(ho:own.length=2) :
  zgi own [] (zbu (eVar i)) (gT 2 (zaq 0 (zaq 1 zcq))) zdt (eVar 0) env=some ⟨zai (R.map (·.1)),true,[]⟩:=by
 have cm:zje (gT 2 (zaq 0 (zaq 1 zcq))) zdt (eVar 0) [.no,.no] (R.map zat)=some (R.map λr=>.str r.1):=
  zfy (enc:=zat) (out:=λr=>.str r.1) λr _=>⟨[.pl (.str r.1),.pl (zas r.2)],rfl,rfl,vs r.1,rfl,rfl⟩
 have hb:envB own [] env=[.no,.no]:=by
  match own,ho with
  | [_,_],_=>rfl
 have hi:∃bs,zbu (eVar i) env=some (R.map zat,bs):=by
  unfold zbu eVar
  rw[he]
  rcases hs with rfl|rfl
  ·exact⟨_,rfl⟩
  ·exact⟨_,rfl⟩
 obtain⟨bs,hi⟩:=hi
 have:=zku (own:=own) (fr:=[]) (env:=env) hi (by rw[qD];omega) (by rw[hb];exact cm)
 rw[this]
 have e:R.map (λr=>PyData.str r.1)=(R.map (·.1)).map .str:=by rw[qB4];rfl
 rw[e,if_pos (zrv _)];rfl
theorem zatl{R:List Rule}{env:DEnv}{i:Nat}{s:Sl}(he:env[i]?=some s)(hs:s=.ac (zaf R)\/s=.pl (zaf R))(hl:R.length<300){own:List Str}(ho:own.length=2) :
  ∃bs,zgi own [] (zbu (eVar i)) (gT 2 (zaq 0 (zaq 1 zcq))) zdt (eVar 1) env=some ⟨.list ((R.map (·.2)).map zas),true,bs⟩:=by
 have cm:zje (gT 2 (zaq 0 (zaq 1 zcq))) zdt (eVar 1) [.no,.no] (R.map zat)=some (R.map λr=>zas r.2):=
  zfy (enc:=zat) (out:=λr=>zas r.2) λr _=>⟨[.pl (.str r.1),.pl (zas r.2)],rfl,rfl,⟨zas r.2,false,[]⟩,rfl,rfl⟩
 have hb:envB own [] env=[.no,.no]:=by
  match own,ho with
  | [_,_],_=>rfl
 have hi:∃bs,zbu (eVar i) env=some (R.map zat,bs):=by
  unfold zbu eVar
  rw[he]
  rcases hs with rfl|rfl
  ·exact⟨_,rfl⟩
  ·exact⟨_,rfl⟩
 obtain⟨bs,hi⟩:=hi
 have:=zku (own:=own) (fr:=[]) (env:=env) hi (by rw[qD];omega) (by rw[hb];exact cm)
 rw[this,qB4]
 exact⟨_,rfl⟩
theorem zmo{f:OF}{a b:EF}{env:DEnv}{x y:PyData}{f1 f2:Bool}{b1 b2:List Nat}{c:Bool}(ha:a env=some ⟨x,f1,b1⟩)(hb:b env=some ⟨y,f2,b2⟩)(h:f x y=some (.bool c,false)):eOp f a b env=some (vb c):=by
 unfold eOp;rw[ha,hb];simp only[qC];rw[h];rfl
theorem zuh{A:List Str}{p:Nat}{R:List Rule}{r:Rule}(hr:RuL r)(hR:∀q∈R,LowS q.2)(hl:R.length<300) :
  zby [zai A,.int (p:Int),zaf R,zat r]=some (.bool (rlB A p R r),false):=by
 have gn:=zwk r.1 hr.nam
 have t1:zbg (tTru (zbl 1 zel (zac (eVar 4) aNil))) [.pl (zai A),.pl (.int (p:Int)),.pl (zaf R),.pl (zat r),.pl (.str r.1),.pl (zas r.2)]=some (!zgd r.1):=zie (zcy (n:=1) (rs:=[⟨.str r.1,false,[]⟩]) rfl rfl gn)
 have t2:zbq (eOp (inD false) (eVar 4) (zgi ["taken","others"] [] (zbu (eVar 2)) (gT 2 (zaq 0 (zaq 1 zcq))) zdt (eVar 0))) [.pl (zai A),.pl (.int (p:Int)),.pl (zaf R),.pl (zat r),.pl (.str r.1),.pl (zas r.2)]=some (decide (r.1∈R.map (·.1))):=zfb (e_in (neg:=false) rfl (zave rfl (.inr rfl) hl rfl))
 have t3:tOrF (zbg (tTru (zbl 1 zel (zac (eVar 4) aNil)))) (zbq (eOp (inD false) (eVar 4) (zgi ["taken","others"] [] (zbu (eVar 2)) (gT 2 (zaq 0 (zaq 1 zcq))) zdt (eVar 0)))) [.pl (zai A),.pl (.int (p:Int)),.pl (zaf R),.pl (zat r),.pl (.str r.1),.pl (zas r.2)]=some (!(zgd r.1&&!decide (r.1∈R.map (·.1)))):=by
  unfold tOrF
  rw[t1,t2]
  cases zgd r.1<;>cases decide (r.1∈R.map (·.1))<;>rfl
 have t4:zbg (tTru (zbl 3 zih (zac (eVar 0) (zac (eVar 1) (zac (eVar 5) aNil))))) [.pl (zai A),.pl (.int (p:Int)),.pl (zaf R),.pl (zat r),.pl (.str r.1),.pl (zas r.2)]=some (!(decide (r.2.length=p)&&r.2.all λk=>decide (k∈A))):=zie (zcy (n:=3) (rs:=[⟨zai A,false,[]⟩,⟨.int (p:Int),false,[]⟩,⟨zas r.2,false,[]⟩]) rfl rfl (zzm hr.few))
 have st:∀{o:Option Out}{k:SF},k [.pl (zai A),.pl (.int (p:Int)),.pl (zaf R),.pl (zat r),.pl (.str r.1),.pl (zas r.2)]=o->sSeq (sIf (tOrF (zbg (tTru (eIsi "tuple" (eVar 3)))) (zbq (eOp neD (eCB lenD (zac (eVar 3) aNil)) (eC (.int 2))))) (sRet (eC (.bool false))) sNil) (sSeq (sAsg (eVar 3) (gT 2 (zaq 4 (zaq 5 zcq)))) k) [.pl (zai A),.pl (.int (p:Int)),.pl (zaf R),.pl (zat r),.no,.no]=o:=λhk=>zbb rfl (zbb rfl hk)
 unfold rlB
 cases h1:(zgd r.1&&!decide (r.1∈R.map (·.1)))with
 | false=>
  rw[h1]at t3
  exact zfi (env:=[.pl (zai A),.pl (.int (p:Int)),.pl (zaf R),.pl (zat r),.no,.no]) rfl (st (zgf (if_t t3 rfl)))
 | true=>
  rw[h1]at t3
  cases h2:(decide (r.2.length=p)&&r.2.all λk=>decide (k∈A))with
  | false=>
   rw[h2]at t4
   exact zfi (env:=[.pl (zai A),.pl (.int (p:Int)),.pl (zaf R),.pl (zat r),.no,.no]) rfl (st (zbb (if_f t3 rfl) (zgf (if_t t4 rfl))))
  | true=>
   rw[h2]at t4
   obtain⟨bs,c2⟩:=zatl (R:=R) (i:=2) (env:=[.pl (zai A),.pl (.int (p:Int)),.pl (zaf R),.pl (zat r),.pl (.str r.1),.pl (zas r.2)]) (own:=["taken","others"]) rfl (.inr rfl) hl rfl
   have hin:=zagx (neg:=true) (l:=R.map (·.2)) (ks:=r.2) (λx hx=>by obtain⟨q,hq,rfl⟩:=qAI.mp hx;exact hR q hq) hr.low
   exact zfi (env:=[.pl (zai A),.pl (.int (p:Int)),.pl (zaf R),.pl (zat r),.no,.no]) rfl (st (zbb (if_f t3 rfl) (zbb (if_f t4 rfl) (zkt (zmo (f1:=false) (b1:=[]) rfl c2 hin)))))
theorem zatm{s p:Nat}(hs:s<=10)(hp:p<=3):s ^ p<=1000:=
 qAD (Nat.pow_le_pow_left hs p) (qAD (Nat.pow_le_pow_right (by decide) hp) (by decide))
theorem zatn{a:EF}{env:DEnv}{i:Int}{bs:List Nat}(ha:a env=some ⟨.int i,false,bs⟩)(h1:-4611686018427387904<=i)(h2:i<4611686018427387904):zfh (zac a aNil) env=some ((List.range i.toNat).map (λ(k:Nat)=>PyData.int (k:Int)),[]):=by
 unfold zfh
 rw[zed ha]
 simp only[qC]
 rw[if_pos ⟨h1,h2⟩,zqb]
theorem zaho{z:Nat}(h:z<=100000):-(2 ^ 60)<(z:Int)/\(z:Int)<2 ^ 60:=by
 have e:(2:Int) ^ 60=1152921504606846976:=by decide
 rw[e]
 omega
theorem zapy {i:Nat} {f:EF} {env:DEnv} {a b:Nat} (he:env[i]?=some (.pl (.int (a:Int)))) (hf:f env=some (vi (b:Int))) (ha:a<=100000) (hb:b<=100000):zaby i f env=some (.nx (env.set i (.pl (.int ((a * b:Nat):Int))))):=by
 have h1:=zaho ha
 have h2:=zaho hb
 unfold zaby
 rw[he]
 dsimp only
 rw[hf,qC]
 dsimp only
 rw[if_pos ⟨h1.1,h1.2,h2.1,h2.2⟩,Int.natCast_mul]
theorem zui{W:Web}{p:Nat}(hp:p<=3)(hw:W.length<=10):zht [webD W,.int (p:Int)]=some (.int ((W.length ^ p:Nat):Int),false):=by
 have lp:∃env',forL (gN 3) (zaby 2 (eCB lenD (zac (eVar 0) aNil))) ((List.range p).map λ(k:Nat)=>PyData.int (k:Int)) [.pl (webD W),.pl (.int (p:Int)),.pl (.int 1),.no]=some (.nx env')/\∃s3,env'=[.pl (webD W),.pl (.int (p:Int)),.pl (.int ((W.length ^ (List.range p).length:Nat):Int)),s3]:=by
  refine zid (λpre env=>∃s3,env=[.pl (webD W),.pl (.int (p:Int)),.pl (.int ((W.length ^ pre.length:Nat):Int)),s3]) ⟨_,rfl⟩ ?_
  rintro pre k post env hk ⟨s3,rfl⟩
  have hl:pre.length<p:=by
   have:=congrArg List.length hk
   simp at this
   omega
  refine⟨_,[.pl (webD W),.pl (.int (p:Int)),.pl (.int ((W.length ^ (pre++[k]).length:Nat):Int)),.pl (.int (k:Int))],rfl,.inl ?_,_,rfl⟩
  have b:=zatm (s:=W.length) (p:=pre.length) hw (by omega)
  have e1:eCB lenD (zac (eVar 0) aNil) [.pl (webD W),.pl (.int (p:Int)),.pl (.int ((W.length ^ pre.length:Nat):Int)),.pl (.int (k:Int))]=some (vi ((W.length:Nat):Int)):=by
   rw[zkv (ds:=W.map rowD) (fr:=false) (bs:=[]) rfl,qD]
  refine(zapy (a:=W.length ^ pre.length) (b:=W.length) rfl e1 (qAD b (by decide)) (qAD hw (by decide))).trans ?_
  have hz:W.length ^ (pre++[k]).length=W.length ^ pre.length * W.length:=by rw[qI];show _ ^ (pre.length+1)=_;exact Nat.pow_succ ..
  rw[hz];rfl
 obtain⟨env',lp,s3,rfl⟩:=lp
 rw[qBB]at lp
 refine zfi (env:=[.pl (webD W),.pl (.int (p:Int)),.no,.no]) rfl (zbb (e1:=[.pl (webD W),.pl (.int (p:Int)),.pl (.int 1),.no]) rfl (zbb (zks (ds:=(List.range p).map λ(k:Nat)=>PyData.int (k:Int)) (bs:=[]) ?_ lp) rfl))
 have it:=zatn (a:=eVar 1) (env:=[.pl (webD W),.pl (.int (p:Int)),.pl (.int 1),.no]) (i:=(p:Int)) (bs:=[]) rfl (by omega) (by omega)
 rw[qAt]at it
 exact it
theorem zacp{W:Web}{p:Nat}(h1:1<=p)(hp:p<=3)(hw:W.length<=10)(hz:W.length ^ p<=216):zfo [webD W,.int (p:Int)]=some (.bool true,false):=by
 have gc:=zui hp hw
 have t1:tOrF (zbg (tTru (zbl 1 zlm (zac (eVar 1) aNil)))) (zbg (zbq (zjz leD leD (eC (.int 1)) (eVar 1) (eC (.int 3))))) [.pl (webD W),.pl (.int (p:Int))]=some false:=by
  refine or_2 rfl ?_
  have:p=1\/p=2\/p=3:=by omega
  rcases this with rfl|rfl|rfl<;>rfl
 refine zfi (env:=[.pl (webD W),.pl (.int (p:Int))]) rfl (zbb (if_f t1 rfl) (zkt (zmo (zcy (n:=2) (rs:=[⟨webD W,false,[]⟩,⟨.int (p:Int),false,[]⟩]) rfl rfl gc) rfl ?_)))
 show some (PyData.bool (decide (((W.length ^ p:Nat):Int)<=216)),false)=_
 generalize W.length ^ p=z at hz
 rw[decide_eq_true (by omega)]
noncomputable def fbR(A:List Str)(p:Nat):Nat->List Rule->List Rule->Option Nat
 | _,_,[]=>none
 | i,R,r::rs=>if(decide (i<12)&&rlB A p R r)=true then fbR A p (i+1) (R++[r]) rs else some i
noncomputable abbrev encR(z:Rule×Nat):PyData:=.tuple [.int (z.2:Int),zat z.1]
noncomputable abbrev tR13:TF:=tOrF (zbq (eOp geD (eVar 5) (eC (.int 12)))) (zbg (tTru (zbl 4 zby (zac (eVar 3) (zac (eVar 1) (zac (eVar 4) (zac (eVar 6) aNil)))))))
noncomputable abbrev zzn:SFX:=(xSeq (xIf tR13 (zlz "NoBook" (eVar 5)) (xOf sNil)) (xOf (sApp 4 (eVar 6))))
noncomputable abbrev zakl:SF:=(sSeq (sIf tR13 zoc sNil) (sApp 4 (eVar 6)))
noncomputable abbrev bE13(T0 T2:Sl)(A:List Str)(p:Nat)(R:List Rule)(s5 s6:Sl):DEnv:=[T0,.pl (.int (p:Int)),T2,.ac (zai A),.ac (zaf R),s5,s6]
theorem zato{T0 T2:Sl}{A:List Str}{p k:Nat}{R:List Rule}{r:Rule}(hr:RuL r)(hR:∀q∈R,LowS q.2)(hl:R.length<300) :
  tR13 (bE13 T0 T2 A p R (.pl (.int (k:Int))) (.pl (zat r)))=some (!(decide (k<12)&&rlB A p R r)):=by
 have t1:zbq (eOp geD (eVar 5) (eC (.int 12))) (bE13 T0 T2 A p R (.pl (.int (k:Int))) (.pl (zat r)))=some (!decide (k<12)):=by
  refine zfb ((zate rfl rfl).trans ?_)
  congr 2
  rw[qAU]
  simp
  omega
 have t2:zbg (tTru (zbl 4 zby (zac (eVar 3) (zac (eVar 1) (zac (eVar 4) (zac (eVar 6) aNil)))))) (bE13 T0 T2 A p R (.pl (.int (k:Int))) (.pl (zat r)))=some (!rlB A p R r):=
  zie (zcy (n:=4) (rs:=[⟨zai A,false,[3]⟩,⟨.int (p:Int),false,[]⟩,⟨zaf R,false,[4]⟩,⟨zat r,false,[]⟩]) rfl rfl (zuh hr hR hl))
 unfold tR13 tOrF
 rw[t1,t2]
 cases decide (k<12)<;>cases rlB A p R r<;>rfl
theorem zatp{T0 T2 s5:Sl}{A:List Str}{p:Nat}{R:List Rule}{r:Rule}(hl:R.length<300):sApp 4 (eVar 6) (bE13 T0 T2 A p R s5 (.pl (zat r)))=some (.nx (bE13 T0 T2 A p (R++[r]) s5 (.pl (zat r)))):=by
 rw[zrw (ds:=R.map zat) (d:=zat r) (fr:=false) rfl rfl (by rw[qD];omega)]
 congr 2
 unfold bE13 zaf
 rw[q0];rfl
theorem zaaz{T0 T2:Sl}{A:List Str}{p:Nat}:∀(rs:List Rule)(k:Nat)(R:List Rule)(s5 s6:Sl),(∀r∈rs,RuL r)->(∀q∈R,LowS q.2)->R.length+rs.length<300->k+rs.length<=95->
  ∃e5 e6,zvs (gT 2 (zaq 5 (zaq 6 zcq))) zzn ((rs.zipIdx k).map encR) (bE13 T0 T2 A p R s5 s6)=(match fbR A p k R rs with|none=>some (.ok (.nx (bE13 T0 T2 A p (R++rs) e5 e6)))|some i=>some (.rx "NoBook" (.int (i:Int))))
 | [],k,R,s5,s6,_,_,_,_=>⟨s5,s6,by rw[qv];rfl⟩
 | r::rs,k,R,s5,s6,h,hR,hl,hk=>by
  have hl':R.length+(rs.length+1)<300:=hl
  have hk':k+(rs.length+1)<=95:=hk
  have t3:=zato (T0:=T0) (T2:=T2) (A:=A) (p:=p) (k:=k) (h r (by simp)) hR (by omega)
  cases hb:(decide (k<12)&&rlB A p R r)with
  | false=>
   rw[hb]at t3
   refine⟨s5,s6,?_⟩
   have f:fbR A p k R (r::rs)=some k:=by unfold fbR;rw[hb];rfl
   rw[f]
   have b:zzn (bE13 T0 T2 A p R (.pl (.int (k:Int))) (.pl (zat r)))=some (.rx "NoBook" (.int (k:Int))):=zua (zatb t3 (zxq (r:=⟨.int (k:Int),false,[]⟩) rfl (decide_eq_true ⟨by omega,by omega⟩)))
   show((zzn (bE13 T0 T2 A p R (.pl (.int (k:Int))) (.pl (zat r)))).bind _)=_
   rw[b];rfl
  | true=>
   rw[hb]at t3
   obtain⟨e5,e6,ih⟩:=zaaz rs (k+1) (R++[r]) (.pl (.int (k:Int))) (.pl (zat r)) (λx hx=>h x (qK _ hx)) (λq hq=>(qc.mp hq).elim (hR q) λz=>by(rw[q9.mp z];exact(h r (by simp)).low)) (by rw[qI];show _+1+_<_;omega) (by omega)
   refine⟨e5,e6,?_⟩
   have f:fbR A p k R (r::rs)=fbR A p (k+1) (R++[r]) rs:=by rw[fbR,hb];rfl
   rw[qAf]at ih
   rw[f]
   refine Eq.trans ?_ ih
   have b:zzn (bE13 T0 T2 A p R (.pl (.int (k:Int))) (.pl (zat r)))=some (.ok (.nx (bE13 T0 T2 A p (R++[r]) (.pl (.int (k:Int))) (.pl (zat r))))):=zik (zapt t3 rfl) (zsj (zatp (by omega)))
   show((zzn (bE13 T0 T2 A p R (.pl (.int (k:Int))) (.pl (zat r)))).bind _)=_
   rw[b];rfl
theorem zaba{T0 T2:Sl}{A:List Str}{p:Nat}:∀(rs:List Rule)(k:Nat)(R:List Rule)(s5 s6:Sl),(∀r∈rs,RuL r)->(∀q∈R,LowS q.2)->R.length+rs.length<300->fbR A p k R rs=none->
  ∃e5 e6,forL (gT 2 (zaq 5 (zaq 6 zcq))) zakl ((rs.zipIdx k).map encR) (bE13 T0 T2 A p R s5 s6)=some (.nx (bE13 T0 T2 A p (R++rs) e5 e6))
 | [],k,R,s5,s6,_,_,_,_=>⟨s5,s6,by rw[qv];rfl⟩
 | r::rs,k,R,s5,s6,h,hR,hl,hf=>by
  have hl':R.length+(rs.length+1)<300:=hl
  have t3:=zato (T0:=T0) (T2:=T2) (A:=A) (p:=p) (k:=k) (h r (by simp)) hR (by omega)
  rw[fbR]at hf
  split at hf
  ·rename_i hb
   rw[hb]at t3
   obtain⟨e5,e6,ih⟩:=zaba rs (k+1) (R++[r]) (.pl (.int (k:Int))) (.pl (zat r)) (λx hx=>h x (qK _ hx)) (λq hq=>(qc.mp hq).elim (hR q) λz=>by(rw[q9.mp z];exact(h r (by simp)).low)) (by rw[qI];show _+1+_<_;omega) hf
   refine⟨e5,e6,?_⟩
   rw[qAf]at ih
   refine Eq.trans ?_ ih
   have b:zakl (bE13 T0 T2 A p R (.pl (.int (k:Int))) (.pl (zat r)))=some (.nx (bE13 T0 T2 A p (R++[r]) (.pl (.int (k:Int))) (.pl (zat r)))):=zbb (if_f t3 rfl) (zatp (by omega))
   show((zakl (bE13 T0 T2 A p R (.pl (.int (k:Int))) (.pl (zat r)))).bind _)=_
   rw[b];rfl
  ·cases hf
theorem zrh{a:AF}{env:DEnv}{rs:List Val}(h:a env=some rs)(hl:rs.length<=100000):eTup a env=some ⟨.tuple (zia rs),false,bss rs⟩:=by unfold eTup;rw[h,qC,if_pos hl]
structure BkK(W:Web)(p:Nat):Prop where
 w:WbK W
 p1:1<=p
 p3:p<=3
 room:W.length ^ p<=216
section
variable{W:Web}{p:Nat}{rs:List Rule}
theorem BkK.test(b:BkK W p):tOrF (zbg (tTru (zbl 1 zhs (zac (eVar 0) aNil)))) (tOrF (zbg (tTru (zbl 2 zfo (zac (eVar 0) (zac (eVar 1) aNil))))) (zbg (tTru (eIsi "list" (eVar 2))))) [.pl (webD W),.pl (.int (p:Int)),.pl (zaf rs),.no,.no,.no,.no]=some false:=
 zaka (zie (zcy (n:=1) (rs:=[⟨webD W,false,[]⟩]) rfl rfl b.w.isweb)) (zaka (zie (zcy (n:=2) (rs:=[⟨webD W,false,[]⟩,⟨.int (p:Int),false,[]⟩]) rfl rfl (zacp b.p1 b.p3 b.w.ten b.room))) rfl)
theorem BkK.names(b:BkK W p):sSet 3 (zbl 1 zfn (zac (eVar 0) aNil)) [.pl (webD W),.pl (.int (p:Int)),.pl (zaf rs),.no,.no,.no,.no]=some (.nx [.pl (webD W),.pl (.int (p:Int)),.pl (zaf rs),.ac (zai (nm W)),.no,.no,.no]):=
 zdz (r:=⟨zai (nm W),true,[]⟩) (zcy (n:=1) (rs:=[⟨webD W,false,[]⟩]) rfl rfl (zaca (by have:=b.w.ten;omega)))
theorem zamj(T0:Sl)(A:List Str)(p:Nat)(rs R:List Rule):zez (zac (eVar 2) aNil) (bE13 T0 (.pl (zaf rs)) A p R .no .no)=some ((rs.zipIdx 0).map encR,[]):=by
 unfold zez
 rw[zed (r:=⟨zaf rs,false,[]⟩) rfl]
 simp only[qC,zaf]
 rw[zna]
theorem BkK.bookX(b:BkK W p)(hr:∀r∈rs,RuL r)(hl:rs.length<=90):∃fr,zde [webD W,.int (p:Int),zaf rs]=some (match fbR (nm W) p 0 [] rs with|none=>.ok (zhu W p rs) fr|some i=>.rx "NoBook" (.int (i:Int))):=by
 obtain⟨e5,e6,lp⟩:=zaaz (T0:=.pl (webD W)) (T2:=.pl (zaf rs)) (A:=nm W) (p:=p) rs 0 [] .no .no hr (λq z=>by cases z) (by show 0+_<_;omega) (by omega)
 have lpx:∀{o:Option OutX},zvs (gT 2 (zaq 5 (zaq 6 zcq))) zzn (List.map encR rs.zipIdx) (bE13 (.pl (webD W)) (.pl (zaf rs)) (nm W) p [] .no .no)=o->xFor (zez (zac (eVar 2) aNil)) (gT 2 (zaq 5 (zaq 6 zcq))) zzn (bE13 (.pl (webD W)) (.pl (zaf rs)) (nm W) p [] .no .no)=o:=λh=>by
  unfold xFor
  rw[zamj,qC]
  exact h
 have lp':=lpx lp
 have st:∀{o:Option OutX}{k:SFX},k (bE13 (.pl (webD W)) (.pl (zaf rs)) (nm W) p [] .no .no)=o->(xSeq (xIf (tOrF (zbg (tTru (zbl 1 zhs (zac (eVar 0) aNil)))) (tOrF (zbg (tTru (zbl 2 zfo (zac (eVar 0) (zac (eVar 1) aNil))))) (zbg (tTru (eIsi "list" (eVar 2)))))) (zlz "NoBook" (eC .none)) (xOf sNil)) (xSeq (xOf (sSet 3 (zbl 1 zfn (zac (eVar 0) aNil)))) (xSeq (xOf (sSet 4 (eLst aNil))) k))) [.pl (webD W),.pl (.int (p:Int)),.pl (zaf rs),.no,.no,.no,.no]=o:=λhk=>
  zik (zapt b.test (zsj rfl)) (zik (zsj b.names) (zik rfl hk))
 cases hf:fbR (nm W) p 0 [] rs with
 | some i=>
  rw[hf]at lp'
  exact⟨false,zalz (env:=[.pl (webD W),.pl (.int (p:Int)),.pl (zaf rs),.no,.no,.no,.no]) rfl (st (zua lp'))⟩
 | none=>
  rw[hf]at lp'
  refine⟨false,zaly (env:=[.pl (webD W),.pl (.int (p:Int)),.pl (zaf rs),.no,.no,.no,.no]) rfl (st (zik lp' (zsj (zkt (bs:=[4]) ?_))))⟩
  exact zrh (rs:=[⟨webD W,true,[]⟩,⟨.int (p:Int),false,[]⟩,⟨zaf rs,false,[4]⟩]) (zba (zcy (n:=1) (rs:=[⟨webD W,false,[]⟩]) rfl rfl b.w.copy) rfl) (by show 3<=100000;decide)
noncomputable def zju(W:Web)(p:Nat)(rs:List Rule):NT:=.tp [zlt W,.lf (.int (p:Int)),.ls ((rs.map zat).map .lf)]
theorem BkK.bookT(b:BkK W p)(hr:∀r∈rs,RuL r)(hl:rs.length<=90)(hf:fbR (nm W) p 0 [] rs=none):zdn [webD W,.int (p:Int),zaf rs]=some (zju W p rs):=by
 obtain⟨e5,e6,lp⟩:=zaba (T0:=.pl (webD W)) (T2:=.pl (zaf rs)) (A:=nm W) (p:=p) rs 0 [] .no .no hr (λq z=>by cases z) (by show 0+_<_;omega) hf
 have lp':sFor (zez (zac (eVar 2) aNil)) (gT 2 (zaq 5 (zaq 6 zcq))) zakl (bE13 (.pl (webD W)) (.pl (zaf rs)) (nm W) p [] .no .no)=_:=zks (zamj _ _ _ _ _) lp
 refine zaki (env:=[.pl (webD W),.pl (.int (p:Int)),.pl (zaf rs),.no,.no,.no,.no]) (if_f b.test rfl) (zaki b.names (zaki (e1:=bE13 (.pl (webD W)) (.pl (zaf rs)) (nm W) p [] .no .no) rfl (zaki lp' ?_)))
 have c1:zafy 1 zfc (zac (eVar 0) aNil) (bE13 (.pl (webD W)) (.pl (zaf rs)) (nm W) p ([]++rs) e5 e6)=some (zlt W):=by
  unfold zafy
  rw[zed (r:=⟨webD W,false,[]⟩) rfl]
  exact b.w.copyT
 unfold pTup zfa
 rw[c1]
 rfl
theorem BkK.isbook(b:BkK W p)(hr:∀r∈rs,RuL r)(hl:rs.length<=90){i:Nat}(hf:fbR (nm W) p 0 [] rs=some i):znf [zhu W p rs]=some (.bool false,false):=by
 obtain⟨fr,g⟩:=b.bookX hr hl
 rw[hf]at g
 have ht:zvz "NoBook" 3 zde (zac (eVar 1) (zac (eVar 2) (zac (eVar 3) aNil))) (sRet (eC (.bool false))) [.pl (zhu W p rs),.pl (webD W),.pl (.int (p:Int)),.pl (zaf rs)]=some (.rt (.bool false) false):=by
  unfold zvz
  show(some [_,_,_]).bind _=_
  rw[qC]
  show(if 3=3 then(zde [webD W,.int (p:Int),zaf rs]).bind _ else none)=_
  rw[if_pos rfl,g,qC]
  dsimp only
  rw[if_pos rfl];rfl
 exact zfi (env:=[.pl (zhu W p rs),.no,.no,.no]) rfl (zbb (e1:=[.pl (zhu W p rs),.no,.no,.no]) rfl (zbb (e1:=[.pl (zhu W p rs),.pl (webD W),.pl (.int (p:Int)),.pl (zaf rs)]) rfl (zgf ht)))
theorem BkK.refused(b:BkK W p)(hr:∀r∈rs,RuL r)(hl:rs.length<=90){i:Nat}(hf:fbR (nm W) p 0 [] rs=some i):zeo [webD W,.int (p:Int),zaf rs,.int (i:Int)]=some (.bool true,false):=by
 obtain⟨fr,g⟩:=b.bookX hr hl
 rw[hf]at g
 refine zfi (env:=[.pl (webD W),.pl (.int (p:Int)),.pl (zaf rs),.pl (.int (i:Int)),.no,.no]) rfl (zbb (e1:=[.pl (webD W),.pl (.int (p:Int)),.pl (zaf rs),.pl (.int (i:Int)),.no,.pl (.bool false)]) rfl (zbb (e1:=[.pl (webD W),.pl (.int (p:Int)),.pl (zaf rs),.pl (.int (i:Int)),.no,.pl (.bool true)]) ?_ rfl))
 refine(if_pos rfl).trans ?_
 unfold zajq
 show(some _).bind _=_
 rw[qC]
 show(if 3=3 then(zde [webD W,.int (p:Int),zaf rs]).bind _ else none)=_
 rw[if_pos rfl,g]
 have he:eAnd (eOp eqD (eC (.int (i:Int))) (eVar 3)) (eNot (eIsi "bool" (eC (.int (i:Int))))) [.pl (webD W),.pl (.int (p:Int)),.pl (zaf rs),.pl (.int (i:Int)),.no,.pl (.bool false)]=some (vb true):=by
  unfold eAnd
  rw[zts (i:=(i:Int)) (j:=(i:Int)) rfl rfl,beq_self_eq_true];rfl
 show(if("NoBook":Str)∈[("NoBook":Str)]then(sSet 5 (eAnd (eOp eqD (eC (.int (i:Int))) (eVar 3)) (eNot (eIsi "bool" (eC (.int (i:Int)))))) [.pl (webD W),.pl (.int (p:Int)),.pl (zaf rs),.pl (.int (i:Int)),.no,.pl (.bool false)]).bind _ else none)=_
 rw[if_pos (q9.mpr rfl),zdz he];rfl
end
theorem zahp{A:List Str}{p:Nat}:∀(rs:List Rule)(k:Nat)(R:List Rule),(∀r∈rs,zgd r.1=true/\r.2.length=p/\∀x∈r.2,x∈A)->((R++rs).map (·.1)).Nodup->((R++rs).map (·.2)).Nodup->k+rs.length<=12->fbR A p k R rs=none
 | [],_,_,_,_,_,_=>rfl
 | r::rs,k,R,h,n1,n2,hk=>by
  have hk':k+(rs.length+1)<=12:=hk
  obtain⟨a1,a2,a3⟩:=h r (by simp)
  have d1:r.1∉R.map (·.1):=λz=>by
   rw[q0]at n1
   exact(qAe.mp n1).2.2 _ z _ (by simp) rfl
  have d2:r.2∉R.map (·.2):=λz=>by
   rw[q0]at n2
   exact(qAe.mp n2).2.2 _ z _ (by simp) rfl
  have g:rlB A p R r=true:=by
   unfold rlB
   rw[a1,decide_eq_false d1,decide_eq_false d2,decide_eq_true a2,qs.mpr λx hx=>decide_eq_true (a3 x hx)];rfl
  rw[fbR,g,decide_eq_true (by omega),if_pos (show(true&&true)=true from rfl)]
  exact zahp rs (k+1) (R++[r]) (λq hq=>h q (qK _ hq)) (by rw[qAf];exact n1) (by rw[qAf];exact n2) (by omega)
theorem zahq{A:List Str}{p:Nat}:∀(rs:List Rule)(k:Nat)(R:List Rule),fbR A p k R rs=none->(R.map (·.1)).Nodup->(R.map (·.2)).Nodup->((R++rs).map (·.1)).Nodup/\((R++rs).map (·.2)).Nodup/\∀r∈rs,∀x∈r.2,x∈A
 | [],_,R,_,n1,n2=>⟨by rw[qv];exact n1,by rw[qv];exact n2,λr hr=>by cases hr⟩
 | r::rs,k,R,h,n1,n2=>by
  rw[fbR]at h
  split at h
  ·rename_i hb
   have g:=(qB9.mp hb).2
   unfold rlB at g
   simp only[qb,Bool.not_eq_true',decide_eq_false_iff_not,decide_eq_true_eq,qs]at g
   obtain⟨m1,m2,m3⟩:=zahq rs (k+1) (R++[r]) h (by
    rw[q0]
    exact qAe.mpr ⟨n1,qt.mpr ⟨(λz=>nomatch z),qA1⟩,λa ha b hb e=>g.1.2 (by have e2:a=r.1:=e.trans (q9.mp hb);exact e2▸ha)⟩) (by
    rw[q0]
    exact qAe.mpr ⟨n2,qt.mpr ⟨(λz=>nomatch z),qA1⟩,λa ha b hb e=>g.2.2 (by have e2:a=r.2:=e.trans (q9.mp hb);exact e2▸ha)⟩)
   rw[qAf]at m1 m2
   refine⟨m1,m2,λq hq=>?_⟩
   rcases qW.mp hq with rfl|hq
   ·exact g.2.1.2
   ·exact m3 q hq
  ·cases h
noncomputable def fsB(A:List Str)(R:List Rule)(r:Rule):Bool:=(R.any λq=>(q.1==r.1)||(q.2==r.2))||!(r.2.all λk=>decide (k∈A))
theorem zavf{A:List Str}{p:Nat}{R:List Rule}{r:Rule}(h1:zgd r.1=true)(h2:r.2.length=p):rlB A p R r=!fsB A R r:=by
 unfold rlB fsB
 rw[h1,decide_eq_true h2,qBR,qBR,Bool.not_or,Bool.not_not]
 have:(R.any λq=>(q.1==r.1)||(q.2==r.2))=(decide (r.1∈R.map (·.1))||decide (r.2∈R.map (·.2))):=by
  rw[qAU]
  simp only[qBb,Bool.or_eq_true,beq_iff_eq,decide_eq_true_eq,qAI]
  constructor
  ·rintro⟨q,hq,e|e⟩
   ·exact .inl ⟨q,hq,e⟩
   ·exact .inr ⟨q,hq,e⟩
  ·rintro(⟨q,hq,e⟩|⟨q,hq,e⟩)
   ·exact⟨q,hq,.inl e⟩
   ·exact⟨q,hq,.inr e⟩
 rw[this,Bool.not_or]
 cases decide (r.1∈R.map (·.1))<;>cases decide (r.2∈R.map (·.2))<;>cases r.2.all λk=>decide (k∈A)<;>rfl
structure MadeK(xs:List Str)(p:Nat)(ts:List Str)(rs:List Rule):Prop where
 kinds:∀r∈rs,∀k∈r.2,k∈xs
 size:∀r∈rs,r.2.length=p
 unl:(rs.map (·.2)).Nodup
 sub:(rs.map (·.1)).Sublist ts
noncomputable abbrev rE13(cs:List Int)(xs ts:List Str)(p:Nat)(s4 s5 s6 s7 s8 s9:Sl):DEnv:=[.pl (zek cs),.pl (zai xs),.pl (.int (p:Int)),.pl (zai ts),s4,s5,s6,s7,s8,s9]
theorem zahr{cs:List Int}{xs ts:List Str}{p:Nat}(hp:p<=3)(hx:0<xs.length)(hx2:xs.length<=1000)(hcs:∀z∈cs,0<=z)(hle:ts.length<=cs.length)(hts:ts.length<=16)(lo:∀x∈xs,qAT x=true) :
  ∃rs,zem [zek cs,zai xs,.int (p:Int),zai ts]=some (zaf rs,true)/\MadeK xs p ts rs:=by
 have it:zez (zac (eVar 3) aNil) (rE13 cs xs ts p (.ac (zaf [])) .no .no .no .no .no)=some (((List.range ts.length).zip ts).map λz=>PyData.tuple [.int (z.1:Nat),.str z.2],[]):=by
  unfold zez
  rw[zed (r:=⟨zai ts,false,[]⟩) rfl]
  simp only[qC,zai]
  rw[zagv]
 obtain⟨env',lp,rs,s5,s6,s7,s8,s9,rfl,ok⟩:=zid (enc:=λz:Nat×Str=>PyData.tuple [.int (z.1:Nat),.str z.2]) (g:=gT 2 (zaq 5 (zaq 6 zcq))) (l:=(List.range ts.length).zip ts) (env:=rE13 cs xs ts p (.ac (zaf [])) .no .no .no .no .no)
  (body:=(sSeq (sSet 7 (eIxV 0 (eVar 5)))
  (sSeq (sSet 8 (eLst aNil))
  (sSeq (sFor (zfh (zac (eVar 2) aNil)) (gN 9)
  (sSeq (sApp 8 (eIxV 1 (eOp modD (eVar 7) (eCB lenD (zac (eVar 1) aNil)))))
  (sSet 7 (eOp zfg (eVar 7) (eCB lenD (zac (eVar 1) aNil))))))
  (sIf (zbq (eOp (inS true) (eCB zjx (zac (eVar 8) aNil)) (zgi ["_law_one","_law_row"] [] (zbu (eVar 4)) (gT 2 (zaq 0 (zaq 1 zcq))) zdt (eVar 1)))) (sApp 4 (eTup (zac (eVar 6) (zac (eCB zjx (zac (eVar 8) aNil)) aNil)))) sNil)))))
  (λpre env=>∃(rs:List Rule) (s5 s6 s7 s8 s9:Sl),env=rE13 cs xs ts p (.ac (zaf rs)) s5 s6 s7 s8 s9/\MadeK xs p (pre.map (·.2)) rs)
  ⟨[],_,_,_,_,_,rfl,λr hr=>(nomatch hr),λr hr=>(nomatch hr),qA1,qCY _⟩ (by
   rintro pre ⟨i,t⟩ post env hpr ⟨rs,s5,s6,s7,s8,s9,rfl,ok⟩
   have hz:(i,t)∈(List.range ts.length).zip ts:=by rw[<- hpr];simp
   have hi:i<cs.length:=by
    have:=qAb.mp (qBd hz).1
    omega
   have hpl:pre.length<=16:=by
    have:=congrArg List.length hpr
    simp at this;omega
   have hrs:rs.length<=16:=by
    have:=ok.sub.length_le
    simp at this;omega
   have e7:sSet 7 (eIxV 0 (eVar 5)) (rE13 cs xs ts p (.ac (zaf rs)) (.pl (.int (i:Int))) (.pl (.str t)) s7 s8 s9)=some (.nx (rE13 cs xs ts p (.ac (zaf rs)) (.pl (.int (i:Int))) (.pl (.str t)) (.pl (.int cs[i])) s8 s9)):=
    zdz (r:=vi cs[i]) (zwf (n:=i) (ds:=cs.map .int) rfl rfl (by rw[qT,qF hi];rfl))
   have inn:∃env',forL (gN 9) (sSeq (sApp 8 (eIxV 1 (eOp modD (eVar 7) (eCB lenD (zac (eVar 1) aNil))))) (sSet 7 (eOp zfg (eVar 7) (eCB lenD (zac (eVar 1) aNil))))) ((List.range p).map λ(k:Nat)=>PyData.int (k:Int)) (rE13 cs xs ts p (.ac (zaf rs)) (.pl (.int (i:Int))) (.pl (.str t)) (.pl (.int cs[i])) (.ac (zai [])) s9)=some (.nx env')/\
     ∃(ks:List Str)(r:Int)(s9:Sl),env'=rE13 cs xs ts p (.ac (zaf rs)) (.pl (.int (i:Int))) (.pl (.str t)) (.pl (.int r)) (.ac (zai ks)) s9/\0<=r/\ks.length=(List.range p).length/\∀x∈ks,x∈xs:=by
    refine zid (λpre env=>∃(ks:List Str)(r:Int)(s9:Sl),env=rE13 cs xs ts p (.ac (zaf rs)) (.pl (.int (i:Int))) (.pl (.str t)) (.pl (.int r)) (.ac (zai ks)) s9/\0<=r/\ks.length=pre.length/\∀x∈ks,x∈xs) ⟨[],_,_,rfl,hcs _ (qAq _),rfl,λx z=>(nomatch z)⟩ ?_
    rintro pr k po env hk ⟨ks,r,s9,rfl,r0,kl,kx⟩
    have hl:pr.length<p:=by
     have:=congrArg List.length hk
     simp at this
     omega
    have a0:=qAE r (show((xs.length:Nat):Int)≠0 by omega)
    have a1:=qAH r (show(0:Int)<((xs.length:Nat):Int) by omega)
    obtain⟨j,hj⟩:=qAW a0
    have hjx:j<xs.length:=by omega
    have ln:∀{s7 s8 s9:Sl},eCB lenD (zac (eVar 1) aNil) (rE13 cs xs ts p (.ac (zaf rs)) (.pl (.int (i:Int))) (.pl (.str t)) s7 s8 s9)=some (vi ((xs.length:Nat):Int)):=λ{s7 s8 s9}=>by
     rw[zkv (ds:=xs.map .str) (fr:=false) (bs:=[]) rfl,qD]
    have ix:eIxV 1 (eOp modD (eVar 7) (eCB lenD (zac (eVar 1) aNil))) (rE13 cs xs ts p (.ac (zaf rs)) (.pl (.int (i:Int))) (.pl (.str t)) (.pl (.int r)) (.ac (zai ks)) (.pl (.int (k:Int))))=some (vs xs[j]):=
     zwf (ds:=xs.map .str) (n:=j) rfl (by rw[ziw rfl ln (by omega)];congr 2) (by rw[qT,qF hjx];rfl)
    refine⟨_,rE13 cs xs ts p (.ac (zaf rs)) (.pl (.int (i:Int))) (.pl (.str t)) (.pl (.int (r / ((xs.length:Nat):Int)))) (.ac (zai (ks++[xs[j]]))) (.pl (.int (k:Int))),rfl,.inl (zbb (e1:=rE13 cs xs ts p (.ac (zaf rs)) (.pl (.int (i:Int))) (.pl (.str t)) (.pl (.int r)) (.ac (zai (ks++[xs[j]]))) (.pl (.int (k:Int)))) ?_ (zdz (r:=vi _) (zqa rfl ln (by omega) (by omega)))),ks++[xs[j]],_,_,rfl,Int.ediv_nonneg r0 (by omega),by rw[qI,qI,kl];rfl,λx hx=>(qc.mp hx).elim (kx x) λz=>by(rw[q9.mp z];exact qAq _)⟩
    refine(zrw (ds:=ks.map .str) rfl ix (by rw[qD];omega)).trans ?_
    congr 2
    unfold zai
    rw[q0];rfl
   obtain⟨env',inn,ks,r',s9',rfl,_,hkl,hk⟩:=inn
   rw[qBB]at hkl
   have lk:LowS ks:=λx hx=>lo x (hk x hx)
   have tup:∀(E:DEnv),E[8]?=some (.ac (zai ks))->eCB zjx (zac (eVar 8) aNil) E=some ⟨zas ks,false,[8]⟩:=λE hE=>by
    unfold eCB
    rw[zed (r:=⟨zai ks,false,[8]⟩) (by unfold eVar;rw[hE])]
    rfl
   obtain⟨bs,cm2⟩:=zatl (R:=rs) (i:=4) (env:=rE13 cs xs ts p (.ac (zaf rs)) (.pl (.int (i:Int))) (.pl (.str t)) (.pl (.int r')) (.ac (zai ks)) s9') (own:=["_law_one","_law_row"]) rfl (.inl rfl) (by omega) rfl
   have tin:zbq (eOp (inS true) (eCB zjx (zac (eVar 8) aNil)) (zgi ["_law_one","_law_row"] [] (zbu (eVar 4)) (gT 2 (zaq 0 (zaq 1 zcq))) zdt (eVar 1))) (rE13 cs xs ts p (.ac (zaf rs)) (.pl (.int (i:Int))) (.pl (.str t)) (.pl (.int r')) (.ac (zai ks)) s9')=some (!decide (ks∈rs.map (·.2))):=
    zfb (zmo (tup _ rfl) cm2 (zagx (neg:=true) (λx hx=>by
     obtain⟨r,hr,rfl⟩:=qAI.mp hx
     exact λz hz=>lo z (ok.kinds r hr z hz)) lk))
   have itp:zfh (zac (eVar 2) aNil) (rE13 cs xs ts p (.ac (zaf rs)) (.pl (.int (i:Int))) (.pl (.str t)) (.pl (.int cs[i])) (.ac (zai [])) s9)=some ((List.range p).map λ(k:Nat)=>PyData.int (k:Int),[]):=by
    have it:=zatn (a:=eVar 2) (env:=rE13 cs xs ts p (.ac (zaf rs)) (.pl (.int (i:Int))) (.pl (.str t)) (.pl (.int cs[i])) (.ac (zai [])) s9) (i:=(p:Int)) (bs:=[]) rfl (by omega) (by omega)
    rw[qAt]at it
    exact it
   have hpm:(pre++[(i,t)]).map (·.2)=pre.map (·.2)++[t]:=by simp
   by_cases hin:ks∈rs.map (·.2)
   ·rw[decide_eq_true hin]at tin
    exact⟨_,_,rfl,.inl (zbb e7 (zbb rfl (zbb (zks itp inn) (if_f tin rfl)))),rs,_,_,_,_,_,rfl,ok.kinds,ok.size,ok.unl,by rw[hpm];exact ok.sub.trans (List.sublist_append_left _ _)⟩
   ·rw[decide_eq_false hin]at tin
    have et:eTup (zac (eVar 6) (zac (eCB zjx (zac (eVar 8) aNil)) aNil)) (rE13 cs xs ts p (.ac (zaf rs)) (.pl (.int (i:Int))) (.pl (.str t)) (.pl (.int r')) (.ac (zai ks)) s9')=some ⟨zat (t,ks),false,[8]⟩:=by
     unfold eTup
     rw[zba (r:=vs t) rfl (zed (tup _ rfl))]
     rfl
    have ap:sApp 4 (eTup (zac (eVar 6) (zac (eCB zjx (zac (eVar 8) aNil)) aNil))) (rE13 cs xs ts p (.ac (zaf rs)) (.pl (.int (i:Int))) (.pl (.str t)) (.pl (.int r')) (.ac (zai ks)) s9')=some (.nx (rE13 cs xs ts p (.ac (zaf (rs++[(t,ks)]))) (.pl (.int (i:Int))) (.pl (.str t)) (.pl (.int r')) (.pl (zai ks)) s9')):=by
     refine(zapo (i:=4) (ds:=rs.map zat) rfl et (by rw[qD];omega) (by decide)).trans ?_
     have er:zaf (rs++[(t,ks)])=.list (rs.map zat++[zat (t,ks)]):=by
      unfold zaf
      rw[q0];rfl
     rw[er]
     rfl
    refine⟨_,_,rfl,.inl (zbb e7 (zbb rfl (zbb (zks itp inn) (if_t tin ap)))),rs++[(t,ks)],_,_,_,_,_,rfl,λr hr=>?_,λr hr=>?_,?_,?_⟩
    ·rcases qc.mp hr with hr|hr
     ·exact ok.kinds r hr
     ·rw[q9.mp hr];exact hk
    ·rcases qc.mp hr with hr|hr
     ·exact ok.size r hr
     ·rw[q9.mp hr];exact hkl
    ·rw[q0]
     exact qAe.mpr ⟨ok.unl,by simp,λa ha b hb e=>hin (by
      have:b=ks:=by simpa using hb
      rw[<- this,<- e];exact ha)⟩
    ·rw[hpm,q0]
     exact ok.sub.append (qCY _))
 have hs:((List.range ts.length).zip ts).map (·.2)=ts:=by
  rw[show(λz:Nat×Str=>z.2)=Prod.snd from rfl,List.map_snd_zip (by rw[qBB];exact qM _)]
 rw[hs]at ok
 exact⟨rs,zfi (env:=rE13 cs xs ts p .no .no .no .no .no .no) rfl (zbb (e1:=rE13 cs xs ts p (.ac (zaf [])) .no .no .no .no .no) rfl (zbb (zks it lp) rfl)),ok⟩
theorem zakm{ks ls:List Str}(h1:LowS ks)(h2:LowS ls):eqD (zas ks) (zas ls)=some (.bool (ks==ls),false):=by
 unfold eqD eqOk
 rw[zld h1,zld h2,qCi,qAy,if_pos rfl]
 show some (PyData.bool (PyData.eqvAll (ks.map .str) (ls.map .str)),false)=_
 rw[ztz]
noncomputable abbrev zakn:SF:=(sSeq (sIf (tTru (eCB (anyD λbs=>bs.any id) (zac (zgi ["_law_one"] [3] (zbu (eSl (eVar 0) zds (zce (eVar 2)))) (gN 0) zdt (eOr (eOp eqD (eIxV 0 (eC (.int 0))) (eIxV 1 (eC (.int 0)))) (eOp eqD (eIxV 0 (eC (.int 1))) (eIxV 1 (eC (.int 1)))))) aNil))) (zom 2) sNil)
  (sIf (zbg (tTru (eCB (anyD λbs=>bs.all id) (zac (zgi ["_law_kind"] [1] (zbu (eIxV 3 (eC (.int 1)))) (gN 0) zdt (eOp (inD false) (eVar 0) (eVar 1))) aNil)))) (zom 2) sNil))
theorem zacq{row:List Rule}{A:List Str}{pre post:List Rule}{r:Rule}(hrow:pre++r::post=row)(hl:row.length<300)(hr:∀q∈row,RuL q) :
  zakn [.pl (zaf row),.pl (zai A),.pl (.int (pre.length:Int)),.pl (zat r)]=(if fsB A pre r=true then some (.rt (.int (pre.length:Int)) false)else some (.nx [.pl (zaf row),.pl (zai A),.pl (.int (pre.length:Int)),.pl (zat r)])):=by
 have hpl:pre.length<=row.length:=by rw[<- hrow,qI];omega
 have mr:r∈row:=by rw[<- hrow];simp
 have mp:∀q∈pre,q∈row:=λq hq=>by rw[<- hrow];exact qAQ _ hq
 have it:zbu (eSl (eVar 0) zds (zce (eVar 2))) [.pl (zaf row),.pl (zai A),.pl (.int (pre.length:Int)),.pl (zat r)]=some (pre.map zat,[]):=by
  have es:eSl (eVar 0) zds (zce (eVar 2)) [.pl (zaf row),.pl (zai A),.pl (.int (pre.length:Int)),.pl (zat r)]=some ⟨zaf pre,true,[]⟩:=by
   show((slD (.list (row.map zat)) none (some ((pre.length:Nat):Int))).bind λz=>some (⟨z.1,z.2,bsOf z.1 []⟩:Val))=_
   simp only[slD,qC]
   rw[zqc _ _ (by rw[qD];exact hpl),<- qA2,<- hrow,List.take_left,zaas];rfl
  unfold zbu
  rw[es];rfl
 have cm:zje (gN 0) zdt (eOr (eOp eqD (eIxV 0 (eC (.int 0))) (eIxV 1 (eC (.int 0)))) (eOp eqD (eIxV 0 (eC (.int 1))) (eIxV 1 (eC (.int 1))))) [.no,.pl (zat r)] (pre.map zat)=some (pre.map λq=>.bool ((q.1==r.1)||(q.2==r.2))):=
  zfy (enc:=zat) (out:=λq=>.bool ((q.1==r.1)||(q.2==r.2))) λq hq=>by
   refine⟨[.pl (zat q),.pl (zat r)],rfl,rfl,vb ((q.1==r.1)||(q.2==r.2)),?_,rfl⟩
   have e1:eOp eqD (eIxV 0 (eC (.int 0))) (eIxV 1 (eC (.int 0))) [.pl (zat q),.pl (zat r)]=some (vb (q.1==r.1)):=zauu rfl rfl
   have e2:eOp eqD (eIxV 0 (eC (.int 1))) (eIxV 1 (eC (.int 1))) [.pl (zat q),.pl (zat r)]=some (vb (q.2==r.2)):=zmo (x:=zas q.2) (y:=zas r.2) (f1:=false) (f2:=false) (b1:=[]) (b2:=[]) rfl rfl (zakm (hr q (mp q hq)).low (hr r mr).low)
   unfold eOr
   rw[e1,e2]
   cases(q.1==r.1)<;>rfl
 have c2:=zku (own:=["_law_one"]) (fr:=[3]) (env:=[.pl (zaf row),.pl (zai A),.pl (.int (pre.length:Int)),.pl (zat r)]) it (by rw[qD];omega) cm
 have t1:tTru (eCB (anyD λbs=>bs.any id) (zac (zgi ["_law_one"] [3] (zbu (eSl (eVar 0) zds (zce (eVar 2)))) (gN 0) zdt (eOr (eOp eqD (eIxV 0 (eC (.int 0))) (eIxV 1 (eC (.int 0)))) (eOp eqD (eIxV 0 (eC (.int 1))) (eIxV 1 (eC (.int 1)))))) aNil)) [.pl (zaf row),.pl (zai A),.pl (.int (pre.length:Int)),.pl (zat r)]=some (pre.any λq=>(q.1==r.1)||(q.2==r.2)):=by
  unfold tTru
  rw[zauy (f:=λq:Rule=>(q.1==r.1)||(q.2==r.2)) (l:=pre) c2];rfl
 have cm3:zje (gN 0) zdt (eOp (inD false) (eVar 0) (eVar 1)) [.no,.pl (zai A)] (r.2.map .str)=some (r.2.map λk=>.bool (decide (k∈A))):=
  zfy (enc:=PyData.str) (out:=λk=>.bool (decide (k∈A))) λk _=>⟨[.pl (.str k),.pl (zai A)],rfl,rfl,vb (decide (k∈A)),(e_in (neg:=false) rfl rfl).trans rfl,rfl⟩
 have c3:=zku (own:=["_law_kind"]) (fr:=[1]) (fi:=zbu (eIxV 3 (eC (.int 1)))) (env:=[.pl (zaf row),.pl (zai A),.pl (.int (pre.length:Int)),.pl (zat r)]) (ds:=r.2.map .str) (bs:=[]) rfl (by rw[qD];have:=(hr r mr).few;omega) cm3
 have t2:zbg (tTru (eCB (anyD λbs=>bs.all id) (zac (zgi ["_law_kind"] [1] (zbu (eIxV 3 (eC (.int 1)))) (gN 0) zdt (eOp (inD false) (eVar 0) (eVar 1))) aNil))) [.pl (zaf row),.pl (zai A),.pl (.int (pre.length:Int)),.pl (zat r)]=some (!(r.2.all λk=>decide (k∈A))):=zie (zajz (f:=λk=>decide (k∈A)) (l:=r.2) c3)
 unfold fsB
 cases h1:(pre.any λq=>(q.1==r.1)||(q.2==r.2))with
 | true=>rw[h1]at t1;rw[Bool.true_or,if_pos rfl];exact zgf (if_t t1 rfl)
 | false=>
  rw[h1]at t1
  rw[qCh]
  cases h2:(r.2.all λk=>decide (k∈A))with
  | true=>rw[h2]at t2;rw[if_neg (by decide)];exact zbb (if_f t1 rfl) (if_f t2 rfl)
  | false=>rw[h2]at t2;rw[if_pos (by decide)];exact zbb (if_f t1 rfl) (if_t t2 rfl)
noncomputable def fsR(A:List Str):List Rule->List Rule->Option Nat
 | _,[]=>none
 | R,r::rs=>if fsB A R r=true then some R.length else fsR A (R++[r]) rs
theorem zsk{row:List Rule}{A:List Str}(hl:row.length<300)(hr:∀q∈row,RuL q):∀(rs pre:List Rule)(s2 s3:Sl),pre++rs=row->
  ∃e2 e3,forL (gT 2 (zaq 2 (zaq 3 zcq))) zakn ((rs.zipIdx pre.length).map encR) [.pl (zaf row),.pl (zai A),s2,s3]=(match fsR A pre rs with|none=>some (.nx [.pl (zaf row),.pl (zai A),e2,e3])|some i=>some (.rt (.int (i:Int)) false))
 | [],pre,s2,s3,_=>⟨s2,s3,rfl⟩
 | r::rs,pre,s2,s3,h=>by
  have st:=zacq (A:=A) h hl hr
  cases hb:fsB A pre r with
  | true=>
   rw[hb,if_pos rfl]at st
   refine⟨s2,s3,?_⟩
   have f:fsR A pre (r::rs)=some pre.length:=by unfold fsR;rw[hb];rfl
   rw[f]
   show((zakn [.pl (zaf row),.pl (zai A),.pl (.int (pre.length:Int)),.pl (zat r)]).bind _)=_
   rw[st];rfl
  | false=>
   rw[hb,if_neg (by decide)]at st
   obtain⟨e2,e3,ih⟩:=zsk hl hr rs (pre++[r]) (.pl (.int (pre.length:Int))) (.pl (zat r)) (by rw[qAf];exact h)
   refine⟨e2,e3,?_⟩
   have f:fsR A pre (r::rs)=fsR A (pre++[r]) rs:=by rw[fsR,hb];rfl
   rw[f]
   rw[qI]at ih
   refine Eq.trans ?_ ih
   show((zakn [.pl (zaf row),.pl (zai A),.pl (.int (pre.length:Int)),.pl (zat r)]).bind _)=_
   rw[st];rfl
theorem zapz{row:List Rule}{A:List Str}(hl:row.length<300)(hr:∀q∈row,RuL q){i:Nat}(h:fsR A [] row=some i):zjt [zaf row,zai A]=some (.int (i:Int),false):=by
 obtain⟨e2,e3,lp⟩:=zsk (A:=A) hl hr row [] .no .no rfl
 rw[h]at lp
 refine zfi (env:=[.pl (zaf row),.pl (zai A),.no,.no]) rfl (zgf (zks (ds:=(row.zipIdx 0).map encR) (bs:=[]) ?_ lp))
 unfold zez
 rw[zed (r:=⟨zaf row,false,[]⟩) rfl]
 simp only[qC,zaf]
 rw[zna]
theorem zatq{A:List Str}{p:Nat}:∀(rs R:List Rule),(∀r∈rs,zgd r.1=true/\r.2.length=p)->R.length+rs.length<=12->fsR A R rs=fbR A p R.length R rs
 | [],_,_,_=>rfl
 | r::rs,R,h,hl=>by
  have hl':R.length+(rs.length+1)<=12:=hl
  obtain⟨h1,h2⟩:=h r (by simp)
  rw[fsR,fbR,zavf h1 h2,decide_eq_true (by omega),qBR]
  cases fsB A R r with
  | true=>rfl
  | false=>
   rw[if_neg (by decide),if_pos (by decide),zatq rs (R++[r]) (λq hq=>h q (qK _ hq)) (by rw[qI];show _+1+_<=_;omega),qI];rfl
theorem zaqa{p:Str×List Str}(h1:qAT p.1=true)(h2:∀e∈p.2,qAT e=true):shN 2 (rowD p):=
 zahc (zub (zahd h1) (zub (zama (zahe h2)) zamb))
theorem zako{r:Rule}(h1:qAT r.1=true)(h2:LowS r.2):shN 2 (zat r):=
 zahc (zub (zahd h1) (zub (zahc (zahe h2)) zamb))
theorem zuj{R:List Rule}(h:∀r∈R,qAT r.1=true/\LowS r.2):qAM (zaf R)=true:=
 zxr (k:=3) (zama λd hd=>by
  obtain⟨r,hr,rfl⟩:=qAI.mp hd
  exact zako (h r hr).1 (h r hr).2) (by decide)
theorem zahs{W:Web}{p:Nat}{R:List Rule}(w:WbK W)(h:∀r∈R,qAT r.1=true/\LowS r.2):zbi [zhu W p R,webD W,.int (p:Int),zaf R]=some (.bool true,false):=by
 have b0:∀{s4 s5 s6:Sl},eIxV 0 (eC (.int 0)) [.pl (zhu W p R),.pl (webD W),.pl (.int (p:Int)),.pl (zaf R),s4,s5,s6]=some ⟨webD W,false,[]⟩:=rfl
 have b2:∀{s4 s5 s6:Sl},eIxV 0 (eC (.int 2)) [.pl (zhu W p R),.pl (webD W),.pl (.int (p:Int)),.pl (zaf R),s4,s5,s6]=some ⟨zaf R,false,[]⟩:=rfl
 have t1:zbq (eOp neD (eIxV 0 (eC (.int 1))) (eVar 2)) [.pl (zhu W p R),.pl (webD W),.pl (.int (p:Int)),.pl (zaf R),.no,.no,.no]=some false:=zfb (zmo (x:=.int (p:Int)) (y:=.int (p:Int)) (f1:=false) (f2:=false) (b1:=[]) (b2:=[]) rfl rfl (zpx _))
 have t2:zbq (eOp neD (eCB lenD (zac (eIxV 0 (eC (.int 0))) aNil)) (eCB lenD (zac (eVar 1) aNil))) [.pl (zhu W p R),.pl (webD W),.pl (.int (p:Int)),.pl (zaf R),.no,.no,.no]=some false:=
  zfb (zmo (zkv (ds:=W.map rowD) (fr:=false) (bs:=[]) b0) (zkv (ds:=W.map rowD) (fr:=false) (bs:=[]) rfl) (zpx _))
 have lp1:∃env',forL (gT 2 (zaq 4 (zaq 5 zcq))) (sIf (tOrF (zbg (tTru (eIsi "tuple" (eVar 5)))) (tOrF (zbg (tTru (eIsi "list" (eIxV 5 (eC (.int 1)))))) (zbq (eOp neD (eVar 5) (eIxV 1 (eVar 4)))))) (sRet (eC (.bool false))) sNil)
   ((W.zipIdx).map λ(q:(Str×List Str)×Nat)=>PyData.tuple [.int (q.2:Int),rowD q.1]) [.pl (zhu W p R),.pl (webD W),.pl (.int (p:Int)),.pl (zaf R),.no,.no,.no]=some (.nx env')/\∃s4 s5,env'=[.pl (zhu W p R),.pl (webD W),.pl (.int (p:Int)),.pl (zaf R),s4,s5,.no]:=by
  refine zid (λpre env=>∃s4 s5,env=[.pl (zhu W p R),.pl (webD W),.pl (.int (p:Int)),.pl (zaf R),s4,s5,.no]) ⟨_,_,rfl⟩ ?_
  rintro pre ⟨q,i⟩ post env hp ⟨s4,s5,rfl⟩
  have hz:(W.zipIdx)[pre.length]?=some (q,i):=by rw[<- hp];simp
  rw[qB8]at hz
  have hi:i=pre.length/\W[pre.length]?=some q:=by
   cases e:W[pre.length]? with
   | none=>rw[e]at hz;cases hz
   | some y=>rw[e]at hz;simp at hz;exact⟨by omega,by rw[hz.1]⟩
  obtain⟨rfl,hn⟩:=hi
  have so:=zapm w.ok w.low q (qp hn)
  refine⟨_,[.pl (zhu W p R),.pl (webD W),.pl (.int (p:Int)),.pl (zaf R),.pl (.int ((pre.length:Nat):Int)),.pl (rowD q),.no],rfl,.inl ?_,_,_,rfl⟩
  have ix:eIxV 1 (eVar 4) [.pl (zhu W p R),.pl (webD W),.pl (.int (p:Int)),.pl (zaf R),.pl (.int ((pre.length:Nat):Int)),.pl (rowD q),.no]=some ⟨rowD q,false,[]⟩:=zwf (ds:=W.map rowD) rfl rfl (by rw[qT,hn];rfl)
  exact if_f (or_2 rfl (or_2 rfl (zfb (zmo (x:=rowD q) (f1:=false) (b1:=[]) rfl ix (zakj (zxr (zaqa so.1 so.2) (by decide))))))) rfl
 obtain⟨env',lp1,s4,s5,rfl⟩:=lp1
 have lp2:∃env',forL (gN 6) (sIf (tOrF (zbg (tTru (eIsi "tuple" (eVar 6)))) (tOrF (zbq (eOp neD (eCB lenD (zac (eVar 6) aNil)) (eC (.int 2)))) (zbg (tTru (eIsi "tuple" (eIxV 6 (eC (.int 1)))))))) (sRet (eC (.bool false))) sNil)
   (R.map zat) [.pl (zhu W p R),.pl (webD W),.pl (.int (p:Int)),.pl (zaf R),s4,s5,.no]=some (.nx env')/\∃s6,env'=[.pl (zhu W p R),.pl (webD W),.pl (.int (p:Int)),.pl (zaf R),s4,s5,s6]:=by
  refine zid (λpre env=>∃s6,env=[.pl (zhu W p R),.pl (webD W),.pl (.int (p:Int)),.pl (zaf R),s4,s5,s6]) ⟨_,rfl⟩ ?_
  rintro pre q post env hp ⟨s6,rfl⟩
  exact⟨_,[.pl (zhu W p R),.pl (webD W),.pl (.int (p:Int)),.pl (zaf R),s4,s5,.pl (zat q)],rfl,.inl rfl,_,rfl⟩
 obtain⟨env',lp2,s6,rfl⟩:=lp2
 refine zfi (env:=[.pl (zhu W p R),.pl (webD W),.pl (.int (p:Int)),.pl (zaf R),.no,.no,.no]) rfl (zbb (if_f (or_2 rfl (or_2 rfl (or_2 rfl t1))) rfl) (zbb (if_f (or_2 rfl (or_2 t2 rfl)) rfl) (zbb (zks (ds:=(W.zipIdx).map λ(q:(Str×List Str)×Nat)=>PyData.tuple [.int (q.2:Int),rowD q.1]) (bs:=[]) ?_ lp1) (zbb (zks (ds:=R.map zat) (bs:=[]) rfl lp2) (zkt (zava (d:=zaf R) (f1:=false) (b1:=[]) (f2:=false) (b2:=[]) rfl rfl (zuj h)))))))
 unfold zez
 rw[zed b0]
 simp only[qC,webD]
 rw[zna]
theorem zaqb{x:Str}:zgd (x++("A":Str))=false:=by
 have h:(x++("A":Str)).cps.toList.all zka=false:=by
  rw[zhr,List.all_append]
  have:("A":Str).cps.toList.all zka=false:=by decide +kernel
  rw[this,qCa]
 unfold zgd
 rw[h,qCa]
theorem zaht(ys:List PyData)(x:PyData):cutD (ys++[x]) none (some (-1))=ys:=by
 unfold cutD
 have e1:HT.sIx (ys++[x]).length 0 none=0:=rfl
 have e2:HT.sIx (ys++[x]).length (ys++[x]).length (some (-1))=ys.length:=by
  unfold HT.sIx
  simp
  omega
 rw[e1,e2]
 simp
theorem zakp{α:Type}(ys:List α)(x:α):atI (ys++[x]) (-1)=some x:=by
 have e:ixN (ys++[x]).length (-1)=some ys.length:=by
  unfold ixN
  rw[if_neg (by decide),qI,if_pos (by show -((ys.length+1:Nat):Int)<=-1;omega)]
  congr 1
  show(-1+((ys.length+1:Nat):Int)).toNat=_
  omega
 unfold atI
 rw[e,qC,qN (qM _),qCM];rfl
theorem zaqc {k:Nat} {env:DEnv} {ys:List PyData} {x:PyData} (he:env[k]?=some (.pl (.tuple (ys++[x])))):eIxV k (eNeg (eC (.int 1))) env=some ⟨x,false,[]⟩:=by
 have e1:eVar k env=some ⟨.tuple (ys++[x]),false,[]⟩:=by unfold eVar;rw[he]
 have e2:eNeg (eC (.int 1)) env=some (vi (-1)):=rfl
 unfold eIxV
 rw[he]
 show eOp ixD (eVar k) (eNeg (eC (.int 1))) env=_
 unfold eOp
 rw[e1,e2]
 simp only[qC,ixD]
 rw[zakp]
 show some (⟨x,false,bsOf x []⟩:Val)=_
 rw[zaas]
theorem zahu(p:Nat)(z:Str):zas (List.replicate (p+1) z)=.tuple ((List.replicate p z).map .str++[.str z]):=by
 unfold zas
 rw[List.replicate_succ',q0];rfl
theorem zaqd{rs:List Rule}{t z:Str}{ch c:Int}{p:Nat}(hne:0<rs.length)(hp:p<=3)(hz:z.length<=8):∃one∈rs,∃r:Rule,zii [zaf rs,.str t,.int ch,.int c,zas (List.replicate (p+1) z)]=some (zat r,false)/\
  (r=(one.1,List.replicate (p+1) z)\/r=(t,one.2)\/r=(t,List.replicate p z++[z++("A":Str)])):=by
 have a0:=qAE c (show((rs.length:Nat):Int)≠0 by omega)
 have a1:=qAH c (show(0:Int)<((rs.length:Nat):Int) by omega)
 obtain⟨j,hj⟩:=qAW a0
 have hjx:j<rs.length:=by omega
 have e5:sSet 5 (eIxV 0 (eOp modD (eVar 3) (eCB lenD (zac (eVar 0) aNil)))) [.pl (zaf rs),.pl (.str t),.pl (.int ch),.pl (.int c),.pl (zas (List.replicate (p+1) z)),.no]=some (.nx [.pl (zaf rs),.pl (.str t),.pl (.int ch),.pl (.int c),.pl (zas (List.replicate (p+1) z)),.pl (zat rs[j])]):=
  zdz (r:=⟨zat rs[j],false,[]⟩) (zwf (ds:=rs.map zat) (n:=j) rfl (by
   rw[ziw (j:=((rs.length:Nat):Int)) rfl (by rw[zkv (ds:=rs.map zat) (fr:=false) (bs:=[]) rfl,qD]) (by omega)]
   congr 2) (by rw[qT,qF hjx];rfl))
 have st:∀{d:PyData}{k:SF},k [.pl (zaf rs),.pl (.str t),.pl (.int ch),.pl (.int c),.pl (zas (List.replicate (p+1) z)),.pl (zat rs[j])]=some (.rt d false)->fnD 6 (sSeq (sSet 5 (eIxV 0 (eOp modD (eVar 3) (eCB lenD (zac (eVar 0) aNil))))) k) [zaf rs,.str t,.int ch,.int c,zas (List.replicate (p+1) z)]=some (d,false):=λhk=>zfi (env:=[.pl (zaf rs),.pl (.str t),.pl (.int ch),.pl (.int c),.pl (zas (List.replicate (p+1) z)),.no]) rfl (zbb e5 hk)
 refine⟨rs[j],qAq _,?_⟩
 have t0:zbq (eOp eqD (eVar 2) (eC (.int 0))) [.pl (zaf rs),.pl (.str t),.pl (.int ch),.pl (.int c),.pl (zas (List.replicate (p+1) z)),.pl (zat rs[j])]=some (ch==0):=zfb (zts rfl rfl)
 have t1:zbq (eOp eqD (eVar 2) (eC (.int 1))) [.pl (zaf rs),.pl (.str t),.pl (.int ch),.pl (.int c),.pl (zas (List.replicate (p+1) z)),.pl (zat rs[j])]=some (ch==1):=zfb (zts rfl rfl)
 cases h0:(ch==0)with
 | true=>
  rw[h0]at t0
  exact⟨(rs[j].1,List.replicate (p+1) z),st (zgf (if_t t0 rfl)),.inl rfl⟩
 | false=>
  rw[h0]at t0
  cases h1:(ch==1)with
  | true=>
   rw[h1]at t1
   exact⟨(t,rs[j].2),st (zbb (if_f t0 rfl) (zgf (if_t t1 rfl))),.inr (.inl rfl)⟩
  | false=>
   rw[h1]at t1
   refine⟨(t,List.replicate p z++[z++("A":Str)]),st (zbb (if_f t0 rfl) (zbb (if_f t1 rfl) ?_)),.inr (.inr rfl)⟩
   rw[zahu]
   have es:eSlT (eVar 4) zds (zce (eNeg (eC (.int 1)))) [.pl (zaf rs),.pl (.str t),.pl (.int ch),.pl (.int c),.pl (.tuple ((List.replicate p z).map .str++[.str z])),.pl (zat rs[j])]=some ⟨.tuple ((List.replicate p z).map .str),false,[]⟩:=zatc (ds:=(List.replicate p z).map .str++[.str z]) (f:=false) (lo:=none) (hi:=some (-1)) rfl rfl rfl (zaht _ _)
   have ea:eOp addD (eIxV 4 (eNeg (eC (.int 1)))) (eC (.str "A")) [.pl (zaf rs),.pl (.str t),.pl (.int ch),.pl (.int c),.pl (.tuple ((List.replicate p z).map .str++[.str z])),.pl (zat rs[j])]=some (vs (z++("A":Str))):=zwe (zaqc rfl) rfl (by show z.length+1<=100000;omega)
   have et:=zamc (a:=eSlT (eVar 4) zds (zce (eNeg (eC (.int 1))))) (b:=eTup (zac (eOp addD (eIxV 4 (eNeg (eC (.int 1)))) (eC (.str "A"))) aNil)) (y:=[.str (z++("A":Str))]) (f2:=false) es (by unfold eTup;rw[zed ea];rfl) (by rw[qD,qAJ];show p+1<=100000;omega)
   refine zkt (bs:=[]) ((zrh (rs:=[vs t,⟨.tuple ((List.replicate p z).map .str++[.str (z++("A":Str))]),false,[]⟩]) (zba rfl (zed et)) (by show 2<=100000;decide)).trans ?_)
   show some (⟨.tuple [.str t,.tuple ((List.replicate p z).map .str++[.str (z++("A":Str))])],false,[]⟩:Val)=some ⟨.tuple [.str t,zas (List.replicate p z++[z++("A":Str)])],false,[]⟩
   unfold zas
   rw[q0];rfl
structure BkAt(hp:List SN)(b m:Nat)(ks:List Nat)(W:Web)(p:Nat)(R:List PyData):Prop where
 top:hp[b]?=some (.tp [.lo (b+1),.dt (.int (p:Int)),.lo (b+1+m)])
 web:WbAt hp (b+1) m ks W
 rul:hp[b+1+m]?=some (.ls (R.map .dt))
section
variable{hp hp':List SN}{b m p:Nat}{ks:List Nat}{W:Web}{R:List PyData}
theorem BkAt.fit(h:BkAt hp b m ks W p R):b+1+m<hp.length:=(qJ.mp h.rul).1
theorem BkAt.frame(h:BkAt hp b m ks W p R)(e:∀n,b<=n->n<=b+1+m->hp'[n]?=hp[n]?)(l:b+1+m<hp'.length):BkAt hp' b m ks W p R:=
 ⟨by rw[e b (qM _) (by omega)];exact h.top,h.web.frame (λn h1 h2=>e n (by omega) (by omega)) (by omega),by rw[e _ (by omega) (qM _)];exact h.rul⟩
theorem BkAt.out(h:BkAt hp b m ks W p R){n:Nat}{s:SN}(hn:n<b\/b+1+m<n):BkAt (hp.set n s) b m ks W p R:=
 h.frame (λi h1 h2=>qO (by omega)) (by rw[qx];exact h.fit)
theorem BkAt.more(h:BkAt hp b m ks W p R)(x:List SN):BkAt (hp++x) b m ks W p R:=by
 have:=h.fit
 exact h.frame (λi h1 h2=>qf (by omega)) (by rw[qI];omega)
theorem WbAt.rdn(h:WbAt hp b m ks W)(n:Nat):rdV hp (n+4) (.lo b)=some (webD W):=by
 have:mapO (rdV hp (n+3)) (ks.map .lo)=some (W.map rowD):=by
  refine zrg (by rw[qD,qD];exact h.len) λi x y h1 h2=>?_
  rw[qT]at h1 h2
  cases ek:ks[i]? with
  | none=>rw[ek]at h1;cases h1
  | some k=>
   cases ep:W[i]? with
   | none=>rw[ep]at h2;cases h2
   | some p=>
    rw[ek]at h1;rw[ep]at h2
    cases h1;cases h2
    obtain⟨g1,g2⟩:=h.row i k p ek ep
    have r2:rdV hp (n+2) (.lo (k+1))=some (zai p.2):=by
     unfold rdV
     rw[g2]
     show(mapO (rdV hp (n+1)) (esS p.2)).map _=_
     rw[zath];rfl
    have r1:mapO (rdV hp (n+2)) [.dt (.str p.1),.lo (k+1)]=some [.str p.1,zai p.2]:=by
     unfold mapO mapO mapO
     rw[r2];rfl
    unfold rdV
    rw[g1]
    show(mapO (rdV hp (n+2)) [.dt (.str p.1),.lo (k+1)]).map _=_
    rw[r1];rfl
 unfold rdV
 rw[h.top]
 show(mapO (rdV hp (n+3)) (ks.map .lo)).map _=_
 rw[this];rfl
theorem zatr(hp:List SN)(k:Nat)(R:List PyData):mapO (rdV hp k) (R.map .dt)=some R:=by
 refine zrg (by rw[qD]) λi x y h1 h2=>?_
 rw[qT]at h1
 rw[h2]at h1
 cases h1;cases k<;>rfl
theorem BkAt.rd(h:BkAt hp b m ks W p R):rdV hp 9 (.lo b)=some (.tuple [webD W,.int (p:Int),.list R]):=by
 have r1:rdV hp 8 (.lo (b+1))=some (webD W):=h.web.rdn 4
 have r2:rdV hp 8 (.lo (b+1+m))=some (.list R):=by
  unfold rdV
  rw[h.rul]
  show(mapO (rdV hp 7) (R.map .dt)).map _=_
  rw[zatr];rfl
 have r3:rdV hp 8 (.dt (.int (p:Int)))=some (.int (p:Int)):=rfl
 unfold rdV
 rw[h.top]
 show(mapO (rdV hp 8) [.lo (b+1),.dt (.int (p:Int)),.lo (b+1+m)]).map _=_
 unfold mapO mapO mapO mapO
 rw[r1,r2,r3];rfl
end
theorem zahv:∀(ds:List PyData)(n:Nat),als (ds.map NT.lf) n=(ds.map .dt,[])
 | [],n=>by unfold als;rfl
 | d::ds,n=>by
  show als (NT.lf d::ds.map NT.lf) n=_
  unfold als
  have:al (NT.lf d) n=(.dt d,[]):=by unfold al;rfl
  rw[this,zahv ds];rfl
theorem zahw(W:Web)(p:Nat)(rs:List Rule)(n:Nat):al (zju W p rs) n=(.lo n,.tp [.lo (n+1),.dt (.int (p:Int)),.lo (n+1+(1+2 * W.length))]::((.ls ((kz (n+2) W).map .lo)::sz (n+2) W)++[.ls ((rs.map zat).map .dt)])):=by
 have h1:=zug W (n+1)
 have hl:(SN.ls ((kz (n+1+1) W).map .lo)::sz (n+1+1) W).length=1+2 * W.length:=by
  rw[qAc,zaaw];omega
 have h2:al (NT.lf (.int (p:Int))) (n+1+(1+2 * W.length))=(.dt (.int (p:Int)),[]):=by unfold al;rfl
 have h3:al (NT.ls ((rs.map zat).map .lf)) (n+1+(1+2 * W.length))=(.lo (n+1+(1+2 * W.length)),[.ls ((rs.map zat).map .dt)]):=by unfold al;rw[zahv]
 have h4:als [NT.ls ((rs.map zat).map .lf)] (n+1+(1+2 * W.length))=([.lo (n+1+(1+2 * W.length))],[.ls ((rs.map zat).map .dt)]):=by
  unfold als
  rw[h3]
  unfold als
  rfl
 have h5:als [NT.lf (.int (p:Int)),NT.ls ((rs.map zat).map .lf)] (n+1+(1+2 * W.length))=([.dt (.int (p:Int)),.lo (n+1+(1+2 * W.length))],[.ls ((rs.map zat).map .dt)]):=by
  rw[als.eq_2,h2]
  show((SV.dt (.int (p:Int)))::(als [NT.ls ((rs.map zat).map .lf)] (n+1+(1+2 * W.length)+0)).1,[]++(als [NT.ls ((rs.map zat).map .lf)] (n+1+(1+2 * W.length)+0)).2)=_
  rw[Nat.add_zero,h4];rfl
 have h6:als [zlt W,NT.lf (.int (p:Int)),NT.ls ((rs.map zat).map .lf)] (n+1)=([.lo (n+1),.dt (.int (p:Int)),.lo (n+1+(1+2 * W.length))],(.ls ((kz (n+1+1) W).map .lo)::sz (n+1+1) W)++[.ls ((rs.map zat).map .dt)]):=by
  rw[als.eq_2,h1]
  dsimp only
  rw[hl,h5]
 unfold zju
 rw[al.eq_3,h6]
theorem zuk(hp:List SN)(W:Web)(p:Nat)(rs:List Rule):BkAt (hp++(al (zju W p rs) hp.length).2) hp.length (1+2 * W.length) (kz (hp.length+2) W) W p (rs.map zat):=by
 rw[zahw]
 dsimp only
 have hs:=zaaw W (hp.length+2)
 have ea:hp++SN.tp [.lo (hp.length+1),.dt (.int (p:Int)),.lo (hp.length+1+(1+2 * W.length))]::((.ls ((kz (hp.length+2) W).map .lo)::sz (hp.length+2) W)++[.ls ((rs.map zat).map .dt)]) =
   ((hp++[SN.tp [.lo (hp.length+1),.dt (.int (p:Int)),.lo (hp.length+1+(1+2 * W.length))]])++(al (zlt W) (hp++[SN.tp [.lo (hp.length+1),.dt (.int (p:Int)),.lo (hp.length+1+(1+2 * W.length))]]).length).2)++[.ls ((rs.map zat).map .dt)]:=by
  rw[zug,qI]
  simp
 have wn:=(zahk (hp++[SN.tp [.lo (hp.length+1),.dt (.int (p:Int)),.lo (hp.length+1+(1+2 * W.length))]]) W).more [.ls ((rs.map zat).map .dt)]
 rw[<- ea]at wn
 have el:(hp++[SN.tp [.lo (hp.length+1),.dt (.int (p:Int)),.lo (hp.length+1+(1+2 * W.length))]]).length=hp.length+1:=by rw[qI];rfl
 rw[el]at wn
 refine⟨?_,wn,?_⟩
 ·rw[qN (qM _),qCM];rfl
 ·rw[qN (by omega),show hp.length+1+(1+2 * W.length) - hp.length=(1+2 * W.length)+1 by omega,qBP,qN (by rw[qAc];omega),qAc,show 1+2 * W.length - ((sz (hp.length+2) W).length+1)=0 by omega];rfl
theorem zabb:∀(ds:List PyData),(∀d∈ds,zhq (NT.lf d)=true)->flatNs (ds.map NT.lf)=true
 | [],_=>by unfold flatNs;rfl
 | d::ds,h=>by
  show flatNs (NT.lf d::ds.map NT.lf)=true
  unfold flatNs
  rw[h d (by simp),zabb ds λx hx=>h x (qK _ hx)];rfl
theorem zabc:∀ks:List Str,rigDs (ks.map .str)=true
 | []=>by show rigDs []=true;unfold rigDs;rfl
 | k::ks=>by
  show rigDs (PyData.str k::ks.map .str)=true
  unfold rigDs
  rw[zabc ks]
  have:rigD (PyData.str k)=true:=by unfold rigD;rfl
  rw[this];rfl
theorem zakq(r:Rule):rigD (zat r)=true:=by
 have h1:rigD (PyData.str r.1)=true:=by unfold rigD;rfl
 have h2:rigD (zas r.2)=true:=by unfold zas rigD;exact zabc _
 unfold zat rigD rigDs
 rw[h1]
 unfold rigDs
 rw[h2]
 unfold rigDs
 rfl
theorem zahx(W:Web)(p:Nat)(rs:List Rule):zhq (zju W p rs)=true:=by
 have h1:=zaay W
 have h2:zhq (NT.lf (.int (p:Int)))=true:=by unfold zhq rigD;rfl
 have h3:zhq (NT.ls ((rs.map zat).map .lf))=true:=by
  unfold zhq
  exact zabb _ λd hd=>by
   obtain⟨r,_,rfl⟩:=qAI.mp hd
   unfold zhq;exact zakq r
 unfold zju zhq flatNs
 rw[h1]
 unfold flatNs
 rw[h2]
 unfold flatNs
 rw[h3]
 unfold flatNs
 rfl
section
variable{hp:List SN}{b m p:Nat}{ks:List Nat}{W:Web}{R:List PyData}{env:DEnv}{sl:List (Option SV)}
theorem zamk(h:WbAt hp b m ks W){k kk:Nat}{q:Str×List Str}(hk:ks[k]?=some kk)(hq:W[k]?=some q){g:YF}{t:EF}(hg:g env ⟨sl,hp⟩=some (.lo b))(ht:t (zfx hp env sl)=some (vi (k:Int))) :
  yIx (yIx g (yE t)) (yE (eC (.int 1))) env ⟨sl,hp⟩=some (.lo (kk+1)):=by
 obtain⟨g1,g2⟩:=h.row k kk q hk hq
 have h2:inSN hp (.lo b)=some (ks.map .lo):=by unfold inSN;dsimp only;rw[h.top]
 have h3:yE t env ⟨sl,hp⟩=some (.int (k:Int)):=by unfold yE;dsimp only;rw[ht];rfl
 have h4:yIx g (yE t) env ⟨sl,hp⟩=some (.lo kk):=by
  unfold yIx
  rw[hg,qC,h2,qC,h3,qC]
  exact zatk (by rw[qT,hk];rfl)
 have h5:inSN hp (.lo kk)=some [.dt (.str q.1),.lo (kk+1)]:=by unfold inSN;dsimp only;rw[g1]
 unfold yIx
 show(yIx g (yE t) env ⟨sl,hp⟩).bind _=_
 rw[h4,qC,h5];rfl
theorem zahy{g:YF}{h:YF}{n:Nat}{xs:List SV}{y:SV}(hg:g env ⟨sl,hp⟩=some (.lo n))(hn:hp[n]?=some (.ls xs))(hl:xs.length<100000)(hh:h env ⟨sl,hp⟩=some y):yApp g h env ⟨sl,hp⟩=some (.nx env ⟨sl,hp.set n (.ls (xs++[y]))⟩):=by
 have h1:lsAt hp (.lo n)=some (n,xs):=by unfold lsAt;dsimp only;rw[hn]
 unfold yApp
 rw[hg,qC,h1,qC]
 dsimp only
 rw[if_pos hl,hh];rfl
theorem zahz{g:YF}{n:Nat}{xs:List SV}(hg:g env ⟨sl,hp⟩=some (.lo n))(hn:hp[n]?=some (.ls xs))(hl:xs≠[]):yPop g env ⟨sl,hp⟩=some (.nx env ⟨sl,hp.set n (.ls xs.dropLast)⟩):=by
 have h1:lsAt hp (.lo n)=some (n,xs):=by unfold lsAt;dsimp only;rw[hn]
 unfold yPop
 rw[hg,qC,h1,qC]
 dsimp only
 rw[if_neg (by simpa using hl)]
theorem zaqe{g:YF}{n:Nat}{xs:List SV}(hg:g env ⟨sl,hp⟩=some (.lo n))(hn:hp[n]?=some (.ls xs)):yClr g env ⟨sl,hp⟩=some (.nx env ⟨sl,hp.set n (.ls [])⟩):=by
 have h1:lsAt hp (.lo n)=some (n,xs):=by unfold lsAt;dsimp only;rw[hn]
 unfold yClr
 rw[hg,qC,h1];rfl
theorem bk_0(h:BkAt hp b m ks W p R){j:Nat}(hs:sl[j]?=some (some (.lo b))):yIx (yVar j) (yE (eC (.int 0))) env ⟨sl,hp⟩=some (.lo (b+1)):=by
 have h1:yVar j env ⟨sl,hp⟩=some (.lo b):=by unfold yVar;dsimp only;rw[hs]
 have h2:inSN hp (.lo b)=some [.lo (b+1),.dt (.int (p:Int)),.lo (b+1+m)]:=by unfold inSN;dsimp only;rw[h.top]
 unfold yIx
 rw[h1,qC,h2];rfl
theorem zul{rs:List Rule}(bk:BkK W p)(hr:∀r∈rs,RuL r)(hl:rs.length<=90)(hf:fbR (nm W) p 0 [] rs=none){i:Nat}{f:AF}{b1 b2 b3:List Nat}{f1 f2 f3:Bool}(h:f (zfx hp env sl)=some [⟨webD W,f1,b1⟩,⟨.int (p:Int),f2,b2⟩,⟨zaf rs,f3,b3⟩])(hi:i<env.length) :
  zio i 3 zdn f env ⟨sl,hp⟩=some (.nx (env.set i .no) (zaoj ⟨sl,hp++(al (zju W p rs) hp.length).2⟩ env.length i (.lo hp.length))):=by
 unfold zio
 dsimp only
 rw[h,qC,if_pos ⟨rfl,hi⟩]
 show(zdn [webD W,.int (p:Int),zaf rs]).bind _=_
 rw[bk.bookT hr hl hf,qC,if_pos (zahx W p rs),show(al (zju W p rs) hp.length).1=.lo hp.length by rw[zahw]]
theorem zakr(w:WbK W){i:Nat}{f:AF}{b1:List Nat}{f1:Bool}(h:f (zfx hp env sl)=some [⟨webD W,f1,b1⟩])(hi:i<env.length) :
  zio i 1 zfj f env ⟨sl,hp⟩=some (.nx (env.set i .no) (zaoj ⟨sl,hp++(al (zlt W) hp.length).2⟩ env.length i (.lo hp.length))):=by
 have:=w.ten
 have g:zfj [webD W]=some (zlt W):=zxt (env:=[.pl (webD W)]) (k:=0) rfl rfl (by omega)
 unfold zio
 dsimp only
 rw[h,qC,if_pos ⟨rfl,hi⟩]
 show(zfj [webD W]).bind _=_
 rw[g,qC,if_pos (zaay W),show(al (zlt W) hp.length).1=.lo hp.length by rw[zug]]
end
noncomputable def zxv:SFs:=(ySeq (yS [7,9,10,14] (sSet 2 (eOp addD (eC (.int 1)) (eOp modD (eIxV 1 (eC (.int 0))) (eC (.int 3))))))
  (ySeq (yS [7,9,10,14] (sSet 3 (zbl 2 zcu (zac (eOp addD (eC (.int 1)) (eOp modD (eOp zfg (eIxV 1 (eC (.int 0))) (eC (.int 3))) (eOp ixD (eTup (zac (eC (.int 10)) (zac (eC (.int 10)) (zac (eC (.int 6)) aNil)))) (eOp subD (eVar 2) (eC (.int 1)))))) (zac (eIxV 1 (eC (.int 1))) aNil)))))
  (ySeq (yS [7,9,10,14] (sSet 4 (zbl 2 zcu (zac (eC (.int 12)) (zac (eIxV 1 (eC (.int 2))) aNil)))))
  (ySeq (yS [7,9,10,14] (sSet 5 (zbl 2 zkr (zac (eSl (eVar 1) (zce (eC (.int 8))) (zce (eC (.int 18)))) (zac (eVar 3) aNil)))))
  (ySeq (yS [7,9,10,14] (sSet 6 (zbl 4 zem (zac (eSl (eVar 1) (zce (eC (.int 18))) (zce (eC (.int 29)))) (zac (eVar 3) (zac (eVar 2) (zac (eSl (eVar 4) zds (zce (eOp modD (eIxV 1 (eC (.int 3))) (eC (.int 12))))) aNil)))))))
  (ySeq (zio 7 1 zfj (zac (eVar 5) aNil))
  (ySeq (yS [7,9,10,14] (sSet 8 (eCB zmi (zac (eVar 6) aNil))))
  (ySeq (zio 9 3 zdn (zac (eVar 7) (zac (eVar 2) (zac (eVar 8) aNil))))
  (ySeq (zio 10 3 zdn (zac (eVar 7) (zac (eVar 2) (zac (eVar 8) aNil))))
  (ySeq (yIf (yT (tOrF (zbg (tTru (zbl 4 zbi (zac (eVar 9) (zac (eVar 5) (zac (eVar 2) (zac (eVar 6) aNil))))))) (zbg (tTru (zbl 4 zbi (zac (eVar 10) (zac (eVar 5) (zac (eVar 2) (zac (eVar 6) aNil))))))))) (yRet (yE (eC (.bool false)))) yNil)
  (ySeq (yApp (yIx (yIx (yIx (yVar 9) (yE (eC (.int 0)))) (yE (eOp modD (eIxV 1 (eC (.int 4))) (eCB lenD (zac (eVar 3) aNil))))) (yE (eC (.int 1)))) (yFl (yE (eC (.str "a")))))
  (ySeq (yPop (yIx (yVar 9) (yE (eC (.int 0)))))
  (ySeq (yApp (yIx (yVar 9) (yE (eC (.int 2)))) (yFl (yE (eIxV 4 (eC (.int 11))))))
  (ySeq (yIf (yT (tOrF (zbg (tTru (zbl 4 zbi (zac (eVar 10) (zac (eVar 5) (zac (eVar 2) (zac (eVar 6) aNil))))))) (zbg (tTru (zbl 4 zbi (zac (eTup (zac (eVar 7) (zac (eVar 2) (zac (eVar 8) aNil)))) (zac (eVar 5) (zac (eVar 2) (zac (eVar 6) aNil))))))))) (yRet (yE (eC (.bool false)))) yNil)
  (ySeq (yS [7,9,10,14] (sSet 11 (eCB zjx (zac (eOp repD (eLst (zac (eIxV 3 (eNeg (eC (.int 1)))) aNil)) (eVar 2)) aNil))))
  (ySeq (yS [7,9,10,14] (sSet 12 (eOp modD (eIxV 1 (eC (.int 5))) (eOp addD (eCB lenD (zac (eVar 6) aNil)) (eC (.int 1))))))
  (ySeq (yS [7,9,10,14] (sSet 13 (eTup (zac (eIxV 4 (eC (.int 11))) (zac (eOp addE (eSlT (eVar 11) (zce (eC (.int 1))) zds) (eTup (zac (eOp addD (eIxV 3 (eC (.int 0))) (eC (.str "A"))) aNil))) aNil)))))
  (ySeq (yIf (yT (zbq (eOp gtD (eCB lenD (zac (eVar 6) aNil)) (eC (.int 0))))) (yS [7,9,10,14] (sSet 13 (zbl 5 zii (zac (eVar 6) (zac (eIxV 4 (eC (.int 11))) (zac (eOp modD (eIxV 1 (eC (.int 7))) (eC (.int 3))) (zac (eIxV 1 (eC (.int 6))) (zac (eVar 11) aNil)))))))) yNil)
  (ySeq (yS [7,9,10,14] (sIns 8 (zac (eVar 12) (zac (eVar 13) aNil))))
  (ySeq (yIf (yT (zbg (tTru (zbl 4 zeo (zac (eVar 7) (zac (eVar 2) (zac (eVar 8) (zac (zbl 2 zjt (zac (eVar 8) (zac (eVar 3) aNil))) aNil)))))))) (yRet (yE (eC (.bool false)))) yNil)
  (ySeq (yIf (yT (zbq (eOp (isCD true) (zbl 1 znf (zac (eTup (zac (eVar 7) (zac (eVar 2) (zac (eVar 8) aNil)))) aNil)) (eC (.bool false))))) (yRet (yE (eC (.bool false)))) yNil)
  (ySeq (yS [7,9,10,14] (zabz 8 (eVar 12)))
  (ySeq (zio 14 3 zdn (zac (eVar 7) (zac (eVar 2) (zac (eVar 8) aNil))))
  (ySeq (yS [7,9,10,14] (sClr 8))
  (ySeq (yClr (yIx (yIx (yVar 7) (yE (eOp modD (eIxV 1 (eC (.int 4))) (eCB lenD (zac (eVar 3) aNil))))) (yE (eC (.int 1)))))
  (ySeq (yPop (yVar 7))
  (yRet (yE (eAnd (zbl 4 zbi (zac (eVar 14) (zac (eVar 5) (zac (eVar 2) (zac (eVar 6) aNil))))) (zbl 4 zbi (zac (eVar 10) (zac (eVar 5) (zac (eVar 2) (zac (eVar 6) aNil))))))))))))))))))))))))))))))))))
noncomputable abbrev E13(cs:List Int)(P:Nat)(xs ts:List Str)(W:Web)(s6 s8 s11 s12 s13:Sl):DEnv:=[.no,.pl (zek cs),.pl (.int ((P+1:Nat):Int)),.pl (zai xs),.pl (zai ts),.ac (webD W),s6,.no,s8,.no,.no,s11,s12,s13,.no]
noncomputable abbrev L13(s7 s9 s10 s14:Option SV):List (Option SV):=[none,none,none,none,none,none,none,s7,none,s9,s10,none,none,none,s14]
theorem zxw{α:Type}(xs:List α)(k:Nat)(y:α):(insL xs k y).Perm (y::xs):=by
 unfold insL
 refine List.perm_middle.trans ?_
 rw[qB3]
theorem zacr{α:Type}(xs:List α)(k:Nat)(y:α)(h:k<=xs.length):(insL xs k y).eraseIdx k=xs:=by
 unfold insL
 have hl:(xs.take k).length=k:=by rw[qAN];omega
 rw[List.eraseIdx_append_of_length_le (by omega),hl,qCM,List.eraseIdx_cons_zero,qB3]
theorem zabd{α β:Type}(f:α->β)(xs:List α)(k:Nat)(y:α):insL (xs.map f) k (f y)=(insL xs k y).map f:=by
 unfold insL
 rw[q0,qAV,qA2,qBw]
theorem zaqf{i:Nat}{g:EF}{env:DEnv}{ds:List PyData}{j:Nat}(he:env[i]?=some (.ac (.list ds)))(hg:g env=some (vi (j:Int)))(hj:j<ds.length)(hl:ds.length<=100000):zabz i g env=some (.nx (env.set i (.ac (.list (ds.eraseIdx j))))):=by
 unfold zabz
 rw[he]
 dsimp only
 rw[hg,qC]
 dsimp only
 rw[zahn hj,qC,if_pos hl]
structure Wrong(W:Web)(P:Nat)(R:List Rule)(r:Rule):Prop where
 nam:zgd r.1=true
 len:r.2.length=P+1
 low:LowS r.2
 bad:r.1∈R.map (·.1)\/r.2∈R.map (·.2)\/∃x∈r.2,x∉nm W
theorem Wrong.some{W:Web}{P:Nat}{R:List Rule}{r:Rule}(h:Wrong W P R r)(k:Nat):∃i,fbR (nm W) (P+1) 0 [] (insL R k r)=some i:=by
 cases hf:fbR (nm W) (P+1) 0 [] (insL R k r)with
 | some i=>exact⟨i,rfl⟩
 | none=>
  obtain⟨n1,n2,n3⟩:=zahq _ 0 [] hf qA1 qA1
  have pm:=zxw R k r
  have m1:((r::R).map (·.1)).Nodup:=(pm.map _).nodup_iff.mp n1
  have m2:((r::R).map (·.2)).Nodup:=(pm.map _).nodup_iff.mp n2
  exfalso
  rcases h.bad with z|z|⟨x,hx,z⟩
  ·exact(qt.mp m1).1 z
  ·exact(qt.mp m2).1 z
  ·exact z (n3 r (pm.mem_iff.mpr (by simp)) x hx)
theorem zsl{W:Web}{p:Nat}{R:List Rule}(w:WbK W)(h:∀r∈R,qAT r.1=true/\LowS r.2){E':DEnv}{a:EF}{f1:Bool}{b1 b5 b6:List Nat}(ha:a E'=some ⟨zhu W p R,f1,b1⟩)(h5:eVar 5 E'=some ⟨webD W,false,b5⟩)(h2:eVar 2 E'=some (vi (p:Int)))(h6:eVar 6 E'=some ⟨zaf R,false,b6⟩) :
  zbl 4 zbi (zac a (zac (eVar 5) (zac (eVar 2) (zac (eVar 6) aNil)))) E'=some (vb true):=
 zcy (n:=4) (rs:=[⟨zhu W p R,f1,b1⟩,⟨webD W,false,b5⟩,vi (p:Int),⟨zaf R,false,b6⟩]) (zba ha (zba h5 (zba h2 (zed h6)))) rfl (zahs w h)
theorem zsm{x:Str}(h:Low x):qAT x=true:=zapp (W:=[(x,[])]) (λz hz=>by
 have:z=x:=by simpa [nm]using hz
 rw[this];exact h) (ks:=[x]) (λk hk=>by rw[q9.mp hk];simp[nm]) x (by simp)
theorem zats{P s q:Nat}(hP:P<=2)(hq:(P<=1/\q=10)\/(P=2/\q=6))(hs:s<=q):s ^ (P+1)<=216:=by
 refine qAD (Nat.pow_le_pow_left hs _) ?_
 rcases hq with⟨h,rfl⟩|⟨rfl,rfl⟩
 ·have:P=0\/P=1:=by omega
  rcases this with rfl|rfl<;>decide
 ·decide
theorem zaks{cs:List Int}(hl:cs.length=30)(h0:∀c∈cs,0<=c):zxv (envL 13 cs) ⟨[],[]⟩=some (.rt (.bool true)):=by
 have gz:∀(i:Nat)(h:i<cs.length),0<=cs[i]:=λi h=>h0 _ (qAq _)
 have g0:=gz 0 (by omega)
 have g1:=gz 1 (by omega)
 have g2:=gz 2 (by omega)
 have m3:=qAE (cs[0]'(by omega)) (show(3:Int)≠0 by decide)
 have m3':=qAH (cs[0]'(by omega)) (show(0:Int)<3 by decide)
 obtain⟨P,hP⟩:=qAW m3
 have hP2:P<=2:=by omega
 have e2:sSet 2 (eOp addD (eC (.int 1)) (eOp modD (eIxV 1 (eC (.int 0))) (eC (.int 3)))) (envL 13 cs)=some (.nx ([.no,.pl (zek cs),.pl (.int ((P+1:Nat):Int)),.no,.no,.no,.no,.no,.no,.no,.no,.no,.no,.no,.no]:DEnv)):=by
  refine(zdz (r:=vi _) (zwd rfl (ziw (znb (n:=0) rfl rfl (by omega)) rfl (by decide)))).trans ?_
  rw[show(1:Int)+cs[0]'(by omega) % 3=((P+1:Nat):Int) by omega];rfl
 obtain⟨q,hq,eq⟩:∃q:Nat,((P<=1/\q=10)\/(P=2/\q=6))/\eOp ixD (eTup (zac (eC (.int 10)) (zac (eC (.int 10)) (zac (eC (.int 6)) aNil)))) (eOp subD (eVar 2) (eC (.int 1))) ([.no,.pl (zek cs),.pl (.int ((P+1:Nat):Int)),.no,.no,.no,.no,.no,.no,.no,.no,.no,.no,.no,.no]:DEnv)=some (vi (q:Int)):=by
  have:P=0\/P=1\/P=2:=by omega
  rcases this with rfl|rfl|rfl
  ·exact⟨10,.inl ⟨by decide,rfl⟩,rfl⟩
  ·exact⟨10,.inl ⟨by decide,rfl⟩,rfl⟩
  ·exact⟨6,.inr ⟨rfl,rfl⟩,rfl⟩
 have mq:=qAE (cs[0]'(by omega) / 3) (show(q:Int)≠0 by omega)
 have mq':=qAH (cs[0]'(by omega) / 3) (show(0:Int)<(q:Int) by omega)
 obtain⟨xs,gx,lx,nx,lo⟩:=znn (m:=1+cs[0]'(by omega) / 3 % (q:Int)) (c:=cs[1]'(by omega)) (by omega) (by omega) g1
 have hx:1<=xs.length/\xs.length<=q/\xs.length<=10:=by omega
 have e3:sSet 3 (zbl 2 zcu (zac (eOp addD (eC (.int 1)) (eOp modD (eOp zfg (eIxV 1 (eC (.int 0))) (eC (.int 3))) (eOp ixD (eTup (zac (eC (.int 10)) (zac (eC (.int 10)) (zac (eC (.int 6)) aNil)))) (eOp subD (eVar 2) (eC (.int 1)))))) (zac (eIxV 1 (eC (.int 1))) aNil))) ([.no,.pl (zek cs),.pl (.int ((P+1:Nat):Int)),.no,.no,.no,.no,.no,.no,.no,.no,.no,.no,.no,.no]:DEnv)=some (.nx ([.no,.pl (zek cs),.pl (.int ((P+1:Nat):Int)),.ac (zai xs),.no,.no,.no,.no,.no,.no,.no,.no,.no,.no,.no]:DEnv)):=
  zdz (r:=⟨zai xs,true,[]⟩) (zcy (n:=2) (rs:=[vi (1+cs[0]'(by omega) / 3 % (q:Int)),vi (cs[1]'(by omega))]) (zba (zwd rfl (ziw (zqa (znb (n:=0) rfl rfl (by omega)) rfl (by decide) (by decide)) eq (by omega))) (zed (znb (n:=1) rfl rfl (by omega)))) rfl gx)
 obtain⟨ts,gt,lt,nt,lot⟩:=znn (m:=12) (c:=cs[2]'(by omega)) (by omega) (by omega) g2
 have lt:ts.length=12:=lt
 have e4:sSet 4 (zbl 2 zcu (zac (eC (.int 12)) (zac (eIxV 1 (eC (.int 2))) aNil))) ([.no,.pl (zek cs),.pl (.int ((P+1:Nat):Int)),.ac (zai xs),.no,.no,.no,.no,.no,.no,.no,.no,.no,.no,.no]:DEnv)=some (.nx ([.no,.pl (zek cs),.pl (.int ((P+1:Nat):Int)),.ac (zai xs),.ac (zai ts),.no,.no,.no,.no,.no,.no,.no,.no,.no,.no]:DEnv)):=
  zdz (r:=⟨zai ts,true,[]⟩) (zcy (n:=2) (rs:=[vi 12,vi (cs[2]'(by omega))]) (zba rfl (zed (znb (n:=2) rfl rfl (by omega)))) rfl gt)
 obtain⟨W,gw,hnm,ok,ndE⟩:=zacm (cs:=(cs.drop 8).take 10) (xs:=xs) (by rw[qAN,qAi];omega) (by omega) nx
 have hWl:W.length=xs.length:=by
  have:=congrArg List.length hnm
  unfold nm at this
  simpa using this
 have w:WbK W:=⟨ok,λz=>by rw[z]at hWl;simp at hWl;omega,by omega,ndE,by rw[hnm];exact λx hx=>(lo x hx).2,by rw[hnm];exact λx hx=>(lo x hx).1⟩
 have e5:sSet 5 (zbl 2 zkr (zac (eSl (eVar 1) (zce (eC (.int 8))) (zce (eC (.int 18)))) (zac (eVar 3) aNil))) ([.no,.pl (zek cs),.pl (.int ((P+1:Nat):Int)),.ac (zai xs),.ac (zai ts),.no,.no,.no,.no,.no,.no,.no,.no,.no,.no]:DEnv)=some (.nx ([.no,.pl (zek cs),.pl (.int ((P+1:Nat):Int)),.pl (zai xs),.ac (zai ts),.ac (webD W),.no,.no,.no,.no,.no,.no,.no,.no,.no]:DEnv)):=by
  have es:eSl (eVar 1) (zce (eC (.int 8))) (zce (eC (.int 18))) ([.no,.pl (zek cs),.pl (.int ((P+1:Nat):Int)),.ac (zai xs),.ac (zai ts),.no,.no,.no,.no,.no,.no,.no,.no,.no,.no]:DEnv)=some ⟨zek ((cs.drop 8).take 10),true,[]⟩:=by
   show((slD (.list (cs.map .int)) (some ((8:Nat):Int)) (some ((18:Nat):Int))).bind λz=>some (⟨z.1,z.2,bsOf z.1 []⟩:Val))=_
   simp only[slD,qC]
   rw[zaal cs 8 18 (by omega) (by omega)]
   rfl
  exact zdz (r:=⟨webD W,true,[3]⟩) (zcy (n:=2) (rs:=[⟨zek ((cs.drop 8).take 10),true,[]⟩,⟨zai xs,false,[3]⟩]) (zba es (zed rfl)) rfl gw)
 have m12:=qAE (cs[3]'(by omega)) (show(12:Int)≠0 by decide)
 have m12':=qAH (cs[3]'(by omega)) (show(0:Int)<12 by decide)
 obtain⟨n3,hn3⟩:=qAW m12
 obtain⟨R,gr,mk⟩:=zahr (cs:=(cs.drop 18).take 11) (xs:=xs) (ts:=ts.take n3) (p:=P+1) (by omega) (by omega) (by omega) (λz hz=>h0 z (qBF (qAs hz))) (by rw[qAN,qAN,qAi];omega) (by rw[qAN];omega) (λx hx=>zsm (lo x hx).1)
 have hR11:R.length<=11:=by
  have:=mk.sub.length_le
  rw[qD,qAN]at this
  omega
 have e6:sSet 6 (zbl 4 zem (zac (eSl (eVar 1) (zce (eC (.int 18))) (zce (eC (.int 29)))) (zac (eVar 3) (zac (eVar 2) (zac (eSl (eVar 4) zds (zce (eOp modD (eIxV 1 (eC (.int 3))) (eC (.int 12))))) aNil))))) ([.no,.pl (zek cs),.pl (.int ((P+1:Nat):Int)),.pl (zai xs),.ac (zai ts),.ac (webD W),.no,.no,.no,.no,.no,.no,.no,.no,.no]:DEnv)=some (.nx (E13 cs P xs ts W (.ac (zaf R)) .no .no .no .no)):=by
  have es:eSl (eVar 1) (zce (eC (.int 18))) (zce (eC (.int 29))) ([.no,.pl (zek cs),.pl (.int ((P+1:Nat):Int)),.pl (zai xs),.ac (zai ts),.ac (webD W),.no,.no,.no,.no,.no,.no,.no,.no,.no]:DEnv)=some ⟨zek ((cs.drop 18).take 11),true,[]⟩:=by
   show((slD (.list (cs.map .int)) (some ((18:Nat):Int)) (some ((29:Nat):Int))).bind λz=>some (⟨z.1,z.2,bsOf z.1 []⟩:Val))=_
   simp only[slD,qC]
   rw[zaal cs 18 29 (by omega) (by omega)]
   rfl
  have ec:(eOp modD (eIxV 1 (eC (.int 3))) (eC (.int 12))) ([.no,.pl (zek cs),.pl (.int ((P+1:Nat):Int)),.pl (zai xs),.ac (zai ts),.ac (webD W),.no,.no,.no,.no,.no,.no,.no,.no,.no]:DEnv)=some (vi (n3:Int)):=by
   rw[ziw (znb (n:=3) rfl rfl (by omega)) rfl (by decide)]
   congr 2
  have et:=zags (a:=eVar 4) (l:=zds) (h:=zce (eOp modD (eIxV 1 (eC (.int 3))) (eC (.int 12)))) (env:=[.no,.pl (zek cs),.pl (.int ((P+1:Nat):Int)),.pl (zai xs),.ac (zai ts),.ac (webD W),.no,.no,.no,.no,.no,.no,.no,.no,.no]) (x:=ts) (y:=ts.take n3) (f:=false) (bs:=[4]) rfl rfl (zoh ec) (by rw[zqc _ _ (by rw[qD];omega),qA2])
  exact zdz (r:=⟨zaf R,true,[4]⟩) (zcy (n:=4) (rs:=[⟨zek ((cs.drop 18).take 11),true,[]⟩,⟨zai xs,false,[]⟩,vi ((P+1:Nat):Int),⟨zai (ts.take n3),true,[4]⟩]) (zba es (zba rfl (zba rfl (zed et)))) rfl gr)
 have bk:BkK W (P+1):=⟨w,by omega,by omega,by rw[hWl];exact zats hP2 hq hx.2.1⟩
 have nmR:∀r∈R,r.1∈ts:=λr hr=>qAs (mk.sub.subset (qAI.mpr ⟨r,hr,rfl⟩))
 have kdR:∀r∈R,LowS r.2:=λr hr k hk=>zsm (lo k (mk.kinds r hr k hk)).1
 have ruR:∀r∈R,RuL r:=λr hr=>⟨kdR r hr,by rw[mk.size r hr];omega,zuf (lot _ (nmR r hr)).2⟩
 have shR:∀r∈R,qAT r.1=true/\LowS r.2:=λr hr=>⟨zsm (lot _ (nmR r hr)).1,kdR r hr⟩
 have fbG:fbR (nm W) (P+1) 0 [] R=none:=zahp R 0 [] (λr hr=>⟨(lot _ (nmR r hr)).2,mk.size r hr,by rw[hnm];exact mk.kinds r hr⟩) (mk.sub.nodup (nt.sublist (qBs _ _))) mk.unl (by omega)
 have g7:=zakr w (hp:=[]) (sl:=[]) (i:=7) (f:=zac (eVar 5) aNil) (env:=E13 cs P xs ts W (.ac (zaf R)) .no .no .no .no) (f1:=false) (b1:=[5]) (zed rfl) (by show 7<15;decide)
 have A1:=zahk [] W
 have g7:zio 7 1 zfj (zac (eVar 5) aNil) (E13 cs P xs ts W (.ac (zaf R)) .no .no .no .no) ⟨[],[]⟩=some (.nx (E13 cs P xs ts W (.ac (zaf R)) .no .no .no .no) ⟨L13 (some (.lo 0)) none none none,[]++(al (zlt W) 0).2⟩):=g7
 have z0:([]:List SN).length=0:=rfl
 rw[z0]at A1
 generalize []++(al (zlt W) 0).2=hp1 at A1 g7
 generalize kz (0+1) W=ks at A1
 have e8:sSet 8 (eCB zmi (zac (eVar 6) aNil)) (E13 cs P xs ts W (.ac (zaf R)) .no .no .no .no)=some (.nx (E13 cs P xs ts W (.pl (zaf R)) (.ac (zaf R)) .no .no .no)):=by
  refine zdz (r:=⟨zaf R,true,[6]⟩) ?_
  unfold eCB
  rw[zed (r:=⟨zaf R,false,[6]⟩) rfl]
  rfl
 have v2:∀{hp:List SN}{s6 s8 s11 s12 s13:Sl}{t7 t9 t10 t14:Option SV},eVar 2 (zfx hp (E13 cs P xs ts W s6 s8 s11 s12 s13) (L13 t7 t9 t10 t14))=some (vi ((P+1:Nat):Int)):=rfl
 have v5:∀{hp:List SN}{s6 s8 s11 s12 s13:Sl}{t7 t9 t10 t14:Option SV},eVar 5 (zfx hp (E13 cs P xs ts W s6 s8 s11 s12 s13) (L13 t7 t9 t10 t14))=some ⟨webD W,false,[5]⟩:=rfl
 have v6:∀{hp:List SN}{s8 s11 s12 s13:Sl}{t7 t9 t10 t14:Option SV},eVar 6 (zfx hp (E13 cs P xs ts W (.pl (zaf R)) s8 s11 s12 s13) (L13 t7 t9 t10 t14))=some ⟨zaf R,false,[]⟩:=rfl
 have v8:∀{hp:List SN}{Q:List Rule}{s6 s11 s12 s13:Sl}{t7 t9 t10 t14:Option SV},eVar 8 (zfx hp (E13 cs P xs ts W s6 (.ac (zaf Q)) s11 s12 s13) (L13 t7 t9 t10 t14))=some ⟨zaf Q,false,[8]⟩:=rfl
 have v7:∀{hp:List SN}{b:Nat}{s6 s8 s11 s12 s13:Sl}{t9 t10 t14:Option SV}{d:PyData},rdV hp 9 (.lo b)=some d->eVar 7 (zfx hp (E13 cs P xs ts W s6 s8 s11 s12 s13) (L13 (some (.lo b)) t9 t10 t14))=some ⟨d,false,[]⟩:=λh=>vw (s:=.no) rfl h
 have v9:∀{hp:List SN}{b:Nat}{s6 s8 s11 s12 s13:Sl}{t7 t10 t14:Option SV}{d:PyData},rdV hp 9 (.lo b)=some d->eVar 9 (zfx hp (E13 cs P xs ts W s6 s8 s11 s12 s13) (L13 t7 (some (.lo b)) t10 t14))=some ⟨d,false,[]⟩:=λh=>vw (s:=.no) rfl h
 have v10:∀{hp:List SN}{b:Nat}{s6 s8 s11 s12 s13:Sl}{t7 t9 t14:Option SV}{d:PyData},rdV hp 9 (.lo b)=some d->eVar 10 (zfx hp (E13 cs P xs ts W s6 s8 s11 s12 s13) (L13 t7 t9 (some (.lo b)) t14))=some ⟨d,false,[]⟩:=λh=>vw (s:=.no) rfl h
 have v14:∀{hp:List SN}{b:Nat}{s6 s8 s11 s12 s13:Sl}{t7 t9 t10:Option SV}{d:PyData},rdV hp 9 (.lo b)=some d->eVar 14 (zfx hp (E13 cs P xs ts W s6 s8 s11 s12 s13) (L13 t7 t9 t10 (some (.lo b))))=some ⟨d,false,[]⟩:=λh=>vw (s:=.no) rfl h
 have A1f:=A1.fit
 have g9:=zul bk ruR (by omega) fbG (i:=9) (f:=zac (eVar 7) (zac (eVar 2) (zac (eVar 8) aNil))) (env:=E13 cs P xs ts W (.pl (zaf R)) (.ac (zaf R)) .no .no .no) (sl:=L13 (some (.lo 0)) none none none) (hp:=hp1) (zba (v7 A1.rd) (zba v2 (zed v8))) (by show 9<15;decide)
 have g9:zio 9 3 zdn (zac (eVar 7) (zac (eVar 2) (zac (eVar 8) aNil))) (E13 cs P xs ts W (.pl (zaf R)) (.ac (zaf R)) .no .no .no) ⟨L13 (some (.lo 0)) none none none,hp1⟩=some (.nx (E13 cs P xs ts W (.pl (zaf R)) (.ac (zaf R)) .no .no .no) ⟨L13 (some (.lo 0)) (some (.lo hp1.length)) none none,hp1++(al (zju W (P+1) R) hp1.length).2⟩):=g9
 have B2:=zuk hp1 W (P+1) R
 have A2:=A1.more (al (zju W (P+1) R) hp1.length).2
 generalize hn1:hp1.length=n1 at B2 A2 g9
 generalize hp1++(al (zju W (P+1) R) n1).2=hp2 at B2 A2 g9
 generalize kz (n1+2) W=ls at B2
 have B2f:=B2.fit
 have g10:=zul bk ruR (by omega) fbG (i:=10) (f:=zac (eVar 7) (zac (eVar 2) (zac (eVar 8) aNil))) (env:=E13 cs P xs ts W (.pl (zaf R)) (.ac (zaf R)) .no .no .no) (sl:=L13 (some (.lo 0)) (some (.lo n1)) none none) (hp:=hp2) (zba (v7 A2.rd) (zba v2 (zed v8))) (by show 10<15;decide)
 have g10:zio 10 3 zdn (zac (eVar 7) (zac (eVar 2) (zac (eVar 8) aNil))) (E13 cs P xs ts W (.pl (zaf R)) (.ac (zaf R)) .no .no .no) ⟨L13 (some (.lo 0)) (some (.lo n1)) none none,hp2⟩=some (.nx (E13 cs P xs ts W (.pl (zaf R)) (.ac (zaf R)) .no .no .no) ⟨L13 (some (.lo 0)) (some (.lo n1)) (some (.lo hp2.length)) none,hp2++(al (zju W (P+1) R) hp2.length).2⟩):=g10
 have C3:=zuk hp2 W (P+1) R
 have A3:=A2.more (al (zju W (P+1) R) hp2.length).2
 have B3:=B2.more (al (zju W (P+1) R) hp2.length).2
 generalize hn2:hp2.length=n2 at C3 A3 B3 g10
 generalize hp2++(al (zju W (P+1) R) n2).2=hp3 at C3 A3 B3 g10
 generalize kz (n2+2) W=ms at C3
 have a0:=qAE (cs[4]'(by omega)) (show((xs.length:Nat):Int)≠0 by omega)
 have a1:=qAH (cs[4]'(by omega)) (show(0:Int)<((xs.length:Nat):Int) by omega)
 obtain⟨k,hk⟩:=qAW a0
 have hkW:k<W.length:=by omega
 obtain⟨qq,hqq⟩:∃p,W[k]?=some p:=⟨_,qF hkW⟩
 have few:=w.ok.few qq (qp hqq)
 have ik:∀{hp:List SN}{s6 s8 s11 s12 s13:Sl}{t7 t9 t10 t14:Option SV},eOp modD (eIxV 1 (eC (.int 4))) (eCB lenD (zac (eVar 3) aNil)) (zfx hp (E13 cs P xs ts W s6 s8 s11 s12 s13) (L13 t7 t9 t10 t14))=some (vi (k:Int)):=λ{hp s6 s8 s11 s12 s13 t7 t9 t10 t14}=>by
  rw[ziw (znb (n:=4) rfl rfl (by omega)) (zkv (ds:=xs.map .str) (fr:=false) (bs:=[]) rfl) (by rw[qD];omega),qD]
  congr 2
 have C3f:=C3.fit
 obtain⟨kl,hkl⟩:∃kk,ls[k]?=some kk:=⟨_,qF (by have:=B3.web.len;omega)⟩
 have iB:=B3.web.inn kl (qp hkl)
 have ga:=zahy (env:=E13 cs P xs ts W (.pl (zaf R)) (.ac (zaf R)) .no .no .no) (sl:=L13 (some (.lo 0)) (some (.lo n1)) (some (.lo n2)) none) (hp:=hp3) (h:=yFl (yE (eC (.str "a")))) (y:=.dt (.str "a")) (zamk B3.web hkl hqq (bk_0 B3 (j:=9) rfl) ik) (B3.web.row k kl qq hkl hqq).2 (by unfold esS;rw[qD];omega) rfl
 have A4:=A3.out (n:=kl+1) (s:=.ls (esS qq.2++[.dt (.str "a")])) (.inr (by omega))
 have C4:=C3.out (n:=kl+1) (s:=.ls (esS qq.2++[.dt (.str "a")])) (.inl (by omega))
 have T4:(hp3.set (kl+1) (.ls (esS qq.2++[.dt (.str "a")])))[n1+1]?=some (.ls (ls.map .lo)):=by rw[qO (by omega)];exact B3.web.top
 have U4:(hp3.set (kl+1) (.ls (esS qq.2++[.dt (.str "a")])))[n1]?=some (.tp [.lo (n1+1),.dt (.int ((P+1:Nat):Int)),.lo (n1+1+(1+2 * W.length))]):=by rw[qO (by omega)];exact B3.top
 have R4:(hp3.set (kl+1) (.ls (esS qq.2++[.dt (.str "a")])))[n1+1+(1+2 * W.length)]?=some (.ls ((R.map zat).map .dt)):=by rw[qO (by omega)];exact B3.rul
 generalize hp3.set (kl+1) (.ls (esS qq.2++[.dt (.str "a")]))=hp4 at A4 C4 ga T4 U4 R4
 have ix9:∀{hp:List SN},hp[n1]?=some (.tp [.lo (n1+1),.dt (.int ((P+1:Nat):Int)),.lo (n1+1+(1+2 * W.length))])->∀{env:DEnv}{t7 t10 t14:Option SV},yIx (yVar 9) (yE (eC (.int 0))) env ⟨L13 t7 (some (.lo n1)) t10 t14,hp⟩=some (.lo (n1+1))/\yIx (yVar 9) (yE (eC (.int 2))) env ⟨L13 t7 (some (.lo n1)) t10 t14,hp⟩=some (.lo (n1+1+(1+2 * W.length))):=λ{hp} h {env t7 t10 t14}=>by
  have h1:yVar 9 env ⟨L13 t7 (some (.lo n1)) t10 t14,hp⟩=some (.lo n1):=rfl
  have h2:inSN hp (.lo n1)=some [.lo (n1+1),.dt (.int ((P+1:Nat):Int)),.lo (n1+1+(1+2 * W.length))]:=by unfold inSN;dsimp only;rw[h]
  refine⟨?_,?_⟩
  ·unfold yIx;rw[h1,qC,h2];rfl
  ·unfold yIx;rw[h1,qC,h2];rfl
 have gp:=zahz (env:=E13 cs P xs ts W (.pl (zaf R)) (.ac (zaf R)) .no .no .no) (sl:=L13 (some (.lo 0)) (some (.lo n1)) (some (.lo n2)) none) (hp:=hp4) (ix9 U4).1 T4 (λz=>by have:=B3.web.len;have h2:=congrArg List.length z;rw[qD]at h2;simp at h2;rw[h2]at this;simp at this;omega)
 have A5:=A4.out (n:=n1+1) (s:=.ls (ls.map SV.lo).dropLast) (.inr (by omega))
 have C5:=C4.out (n:=n1+1) (s:=.ls (ls.map SV.lo).dropLast) (.inl (by omega))
 have U5:(hp4.set (n1+1) (.ls (ls.map SV.lo).dropLast))[n1]?=some (.tp [.lo (n1+1),.dt (.int ((P+1:Nat):Int)),.lo (n1+1+(1+2 * W.length))]):=by rw[qO (by omega)];exact U4
 have R5:(hp4.set (n1+1) (.ls (ls.map SV.lo).dropLast))[n1+1+(1+2 * W.length)]?=some (.ls ((R.map zat).map .dt)):=by rw[qO (by omega)];exact R4
 generalize hp4.set (n1+1) (.ls (ls.map SV.lo).dropLast)=hp5 at A5 C5 gp U5 R5
 have t11:∀{E':DEnv},E'[4]?=some (.pl (zai ts))->eIxV 4 (eC (.int 11)) E'=some (vs (ts[11]'(by omega))):=λ{E'} h=>zwf (ds:=ts.map .str) (n:=11) h rfl (by rw[qT,qF (show 11<ts.length by omega)];rfl)
 have gq:=zahy (env:=E13 cs P xs ts W (.pl (zaf R)) (.ac (zaf R)) .no .no .no) (sl:=L13 (some (.lo 0)) (some (.lo n1)) (some (.lo n2)) none) (hp:=hp5) (h:=yFl (yE (eIxV 4 (eC (.int 11))))) (y:=.dt (.str (ts[11]'(by omega)))) (ix9 U5).2 R5 (by rw[qD,qD];omega) (by
  have:=t11 (E':=zfx hp5 (E13 cs P xs ts W (.pl (zaf R)) (.ac (zaf R)) .no .no .no) (L13 (some (.lo 0)) (some (.lo n1)) (some (.lo n2)) none)) rfl
  unfold yFl yE
  dsimp only
  rw[this];rfl)
 have A6:=A5.out (n:=n1+1+(1+2 * W.length)) (s:=.ls ((R.map zat).map SV.dt++[.dt (.str (ts[11]'(by omega)))])) (.inr (by omega))
 have C6:=C5.out (n:=n1+1+(1+2 * W.length)) (s:=.ls ((R.map zat).map SV.dt++[.dt (.str (ts[11]'(by omega)))])) (.inl (by omega))
 generalize hp5.set (n1+1+(1+2 * W.length)) (.ls ((R.map zat).map SV.dt++[.dt (.str (ts[11]'(by omega)))]))=hp6 at A6 C6 gq
 have hxe:xs≠[]:=λz=>by rw[z]at hx;simp at hx
 generalize hz:xs.getLast hxe=z
 have zx:z∈xs:=by rw[<- hz];exact List.getLast_mem _
 have e11:sSet 11 (eCB zjx (zac (eOp repD (eLst (zac (eIxV 3 (eNeg (eC (.int 1)))) aNil)) (eVar 2)) aNil)) (E13 cs P xs ts W (.pl (zaf R)) (.ac (zaf R)) .no .no .no)=some (.nx (E13 cs P xs ts W (.pl (zaf R)) (.ac (zaf R)) (.pl (zas (List.replicate (P+1) z))) .no .no)):=by
  have i1:eIxV 3 (eNeg (eC (.int 1))) (E13 cs P xs ts W (.pl (zaf R)) (.ac (zaf R)) .no .no .no)=some (vs z):=by
   rw[zapl (ds:=xs.map .str) rfl (by simpa using hxe),List.getLast_map,hz]
  have i2:eLst (zac (eIxV 3 (eNeg (eC (.int 1)))) aNil) (E13 cs P xs ts W (.pl (zaf R)) (.ac (zaf R)) .no .no .no)=some ⟨.list [.str z],true,[]⟩:=by
   unfold eLst
   rw[zed i1];rfl
  have i3:eOp repD (eLst (zac (eIxV 3 (eNeg (eC (.int 1)))) aNil)) (eVar 2) (E13 cs P xs ts W (.pl (zaf R)) (.ac (zaf R)) .no .no .no)=some ⟨zai (List.replicate (P+1) z),true,[]⟩:=by
   unfold eOp
   rw[i2]
   show((repD (.list [.str z]) (.int ((P+1:Nat):Int))).bind λy=>some (⟨y.1,y.2,bsOf y.1 []⟩:Val))=_
   unfold repD
   dsimp only
   rw[if_pos ⟨by omega,by omega,by show 1<=100;decide⟩,qC,zaas,qAt,List.flatten_replicate_singleton]
   unfold zai
   rw[List.map_replicate]
  refine zdz (r:=⟨zas (List.replicate (P+1) z),false,[]⟩) ?_
  unfold eCB
  rw[zed i3]
  rfl
 have p0:=qAE (cs[5]'(by omega)) (show((R.length:Nat):Int)+1≠0 by omega)
 have p1:=qAH (cs[5]'(by omega)) (show(0:Int)<((R.length:Nat):Int)+1 by omega)
 obtain⟨at_,hat⟩:=qAW p0
 have hatR:at_<=R.length:=by omega
 have e12:sSet 12 (eOp modD (eIxV 1 (eC (.int 5))) (eOp addD (eCB lenD (zac (eVar 6) aNil)) (eC (.int 1)))) (E13 cs P xs ts W (.pl (zaf R)) (.ac (zaf R)) (.pl (zas (List.replicate (P+1) z))) .no .no)=some (.nx (E13 cs P xs ts W (.pl (zaf R)) (.ac (zaf R)) (.pl (zas (List.replicate (P+1) z))) (.pl (.int (at_:Int))) .no)):=by
  refine zdz (r:=vi (at_:Int)) ?_
  rw[ziw (znb (n:=5) rfl rfl (by omega)) (zwd (zkv (ds:=R.map zat) (fr:=false) (bs:=[]) rfl) rfl) (by rw[qD];omega),qD]
  congr 2
 have lz:∀x∈xs,x.length<=8:=λx hx=>by
  have:=(lo x hx).2
  unfold zgd at this
  simp only[qb,decide_eq_true_eq]at this
  omega
 have hx0:0<xs.length:=by omega
 have e13:sSet 13 (eTup (zac (eIxV 4 (eC (.int 11))) (zac (eOp addE (eSlT (eVar 11) (zce (eC (.int 1))) zds) (eTup (zac (eOp addD (eIxV 3 (eC (.int 0))) (eC (.str "A"))) aNil))) aNil))) (E13 cs P xs ts W (.pl (zaf R)) (.ac (zaf R)) (.pl (zas (List.replicate (P+1) z))) (.pl (.int (at_:Int))) .no)=some (.nx (E13 cs P xs ts W (.pl (zaf R)) (.ac (zaf R)) (.pl (zas (List.replicate (P+1) z))) (.pl (.int (at_:Int))) (.pl (zat (ts[11]'(by omega),List.replicate P z++[xs[0]++("A":Str)]))))):=by
  have i1:eSlT (eVar 11) (zce (eC (.int 1))) zds (E13 cs P xs ts W (.pl (zaf R)) (.ac (zaf R)) (.pl (zas (List.replicate (P+1) z))) (.pl (.int (at_:Int))) .no)=some ⟨.tuple ((List.replicate P z).map .str),false,[]⟩:=zatc (ds:=(List.replicate (P+1) z).map .str) (f:=false) (lo:=some ((1:Nat):Int)) (hi:=none) rfl rfl rfl (by rw[zzi,<- qBw,List.drop_replicate];rfl)
  have i2:eOp addD (eIxV 3 (eC (.int 0))) (eC (.str "A")) (E13 cs P xs ts W (.pl (zaf R)) (.ac (zaf R)) (.pl (zas (List.replicate (P+1) z))) (.pl (.int (at_:Int))) .no)=some (vs (xs[0]++("A":Str))):=zwe (zwf (ds:=xs.map .str) (n:=0) rfl rfl (by rw[qT,qF hx0];rfl)) rfl (by have:=lz _ (qAq hx0);show _+1<=100000;omega)
  have i3:=zamc (a:=eSlT (eVar 11) (zce (eC (.int 1))) zds) (b:=eTup (zac (eOp addD (eIxV 3 (eC (.int 0))) (eC (.str "A"))) aNil)) (y:=[.str (xs[0]++("A":Str))]) (f2:=false) i1 (by unfold eTup;rw[zed i2];rfl) (by rw[qD,qAJ];show P+1<=100000;omega)
  refine zdz (r:=⟨zat (ts[11]'(by omega),List.replicate P z++[xs[0]++("A":Str)]),false,[]⟩) ((zrh (rs:=[vs (ts[11]'(by omega)),⟨.tuple ((List.replicate P z).map .str++[.str (xs[0]++("A":Str))]),false,[]⟩]) (zba (t11 rfl) (zed i3)) (by show 2<=100000;decide)).trans ?_)
  show some (⟨.tuple [.str (ts[11]'(by omega)),.tuple ((List.replicate P z).map .str++[.str (xs[0]++("A":Str))])],false,[]⟩:Val)=some ⟨.tuple [.str (ts[11]'(by omega)),zas (List.replicate P z++[xs[0]++("A":Str)])],false,[]⟩
  unfold zas
  rw[q0];rfl
 have tt:ts[11]'(by omega)∈ts:=qAq _
 have lowA':∀x∈xs,LowS (List.replicate P z++[x++("A":Str)]):=λx hx k hk=>by
  rcases qc.mp hk with q|q
  ·rw[qAo q];exact zsm (lo z zx).1
  ·rw[q9.mp q];exact zsm ((lo x hx).1.app lowA)
 have notA:∀x:Str,x++("A":Str)∉nm W:=λx hx=>by
  have:=w.nam _ hx
  rw[zaqb]at this;cases this
 obtain⟨wr,g13,wok⟩:∃wr:Rule,yIf (yT (zbq (eOp gtD (eCB lenD (zac (eVar 6) aNil)) (eC (.int 0))))) (yS [7,9,10,14] (sSet 13 (zbl 5 zii (zac (eVar 6) (zac (eIxV 4 (eC (.int 11))) (zac (eOp modD (eIxV 1 (eC (.int 7))) (eC (.int 3))) (zac (eIxV 1 (eC (.int 6))) (zac (eVar 11) aNil)))))))) yNil (E13 cs P xs ts W (.pl (zaf R)) (.ac (zaf R)) (.pl (zas (List.replicate (P+1) z))) (.pl (.int (at_:Int))) (.pl (zat (ts[11]'(by omega),List.replicate P z++[xs[0]++("A":Str)])))) ⟨L13 (some (.lo 0)) (some (.lo n1)) (some (.lo n2)) none,hp6⟩ =
   some (.nx (E13 cs P xs ts W (.pl (zaf R)) (.ac (zaf R)) (.pl (zas (List.replicate (P+1) z))) (.pl (.int (at_:Int))) (.pl (zat wr))) ⟨L13 (some (.lo 0)) (some (.lo n1)) (some (.lo n2)) none,hp6⟩)/\Wrong W P R wr:=by
  have tg:zbq (eOp gtD (eCB lenD (zac (eVar 6) aNil)) (eC (.int 0))) (zfx hp6 (E13 cs P xs ts W (.pl (zaf R)) (.ac (zaf R)) (.pl (zas (List.replicate (P+1) z))) (.pl (.int (at_:Int))) (.pl (zat (ts[11]'(by omega),List.replicate P z++[xs[0]++("A":Str)])))) (L13 (some (.lo 0)) (some (.lo n1)) (some (.lo n2)) none))=some (decide ((0:Int)<((R.map zat).length:Nat))):=zfb (zavd (zkv (ds:=R.map zat) (fr:=false) (bs:=[]) rfl) rfl)
  rw[qD]at tg
  by_cases hR:0<R.length
  ·rw[decide_eq_true (by omega)]at tg
   obtain⟨one,h1,wr,gw',hw⟩:=zaqd (rs:=R) (t:=ts[11]'(by omega)) (z:=z) (ch:=cs[7]'(by omega) % 3) (c:=cs[6]'(by omega)) (p:=P) hR (by omega) (lz z zx)
   refine⟨wr,?_,?_⟩
   ·unfold yIf yT
    dsimp only
    rw[tg,qC,if_pos rfl]
    exact znz rfl (zdz (r:=⟨zat wr,false,[]⟩) (zcy (n:=5) (rs:=[⟨zaf R,false,[]⟩,vs (ts[11]'(by omega)),vi (cs[7]'(by omega) % 3),vi (cs[6]'(by omega)),⟨zas (List.replicate (P+1) z),false,[]⟩]) (zba rfl (zba (t11 rfl) (zba (ziw (znb (n:=7) rfl rfl (by omega)) rfl (by decide)) (zba (znb (n:=6) rfl rfl (by omega)) (zed rfl))))) rfl gw')) rfl
   ·rcases hw with rfl|rfl|rfl
    ·exact⟨(lot _ (nmR one h1)).2,qAJ,λk hk=>by rw[qAo hk];exact zsm (lo z zx).1,.inl (qAI.mpr ⟨one,h1,rfl⟩)⟩
    ·exact⟨(lot _ tt).2,mk.size one h1,kdR one h1,.inr (.inl (qAI.mpr ⟨one,h1,rfl⟩))⟩
    ·exact⟨(lot _ tt).2,by rw[qI,qAJ];rfl,lowA' z zx,.inr (.inr ⟨_,by simp,notA z⟩)⟩
  ·rw[decide_eq_false (by omega)]at tg
   exact⟨_,zahm tg,(lot _ tt).2,by rw[qI,qAJ];rfl,lowA' _ (qAq _),.inr (.inr ⟨xs[0]++("A":Str),by simp,notA _⟩)⟩
 have g14:sIns 8 (zac (eVar 12) (zac (eVar 13) aNil)) (E13 cs P xs ts W (.pl (zaf R)) (.ac (zaf R)) (.pl (zas (List.replicate (P+1) z))) (.pl (.int (at_:Int))) (.pl (zat wr)))=some (.nx (E13 cs P xs ts W (.pl (zaf R)) (.ac (zaf (insL R at_ wr))) (.pl (zas (List.replicate (P+1) z))) (.pl (.int (at_:Int))) (.pl (zat wr)))):=by
  refine(zatg (ds:=R.map zat) (k:=at_) (r:=⟨zat wr,false,[]⟩) rfl rfl (by rw[qD];exact hatR) (by rw[qD];omega) rfl).trans ?_
  rw[zabd];rfl
 have pm:=zxw R at_ wr
 have lrow:(insL R at_ wr).length<=12:=by rw[pm.length_eq];show R.length+1<=12;omega
 have ruW:∀r∈insL R at_ wr,RuL r:=λr hr=>by
  rcases qW.mp (pm.mem_iff.mp hr)with rfl|h
  ·exact⟨wok.low,by rw[wok.len];omega,zuf wok.nam⟩
  ·exact ruR r h
 have nlW:∀r∈insL R at_ wr,zgd r.1=true/\r.2.length=P+1:=λr hr=>by
  rcases qW.mp (pm.mem_iff.mp hr)with rfl|h
  ·exact⟨wok.nam,wok.len⟩
  ·exact⟨(lot _ (nmR r h)).2,mk.size r h⟩
 obtain⟨i,hi⟩:=wok.some at_
 have fsE:=zatq (A:=nm W) (p:=P+1) (insL R at_ wr) [] nlW (by show 0+_<=12;omega)
 have fsI:fsR (nm W) [] (insL R at_ wr)=some i:=fsE.trans hi
 rw[hnm]at fsI
 have gf:=zapz (A:=xs) (by omega) ruW fsI
 have gpop:zabz 8 (eVar 12) (E13 cs P xs ts W (.pl (zaf R)) (.ac (zaf (insL R at_ wr))) (.pl (zas (List.replicate (P+1) z))) (.pl (.int (at_:Int))) (.pl (zat wr)))=some (.nx (E13 cs P xs ts W (.pl (zaf R)) (.ac (zaf R)) (.pl (zas (List.replicate (P+1) z))) (.pl (.int (at_:Int))) (.pl (zat wr)))):=by
  refine(zaqf (ds:=(insL R at_ wr).map zat) (j:=at_) rfl rfl (by rw[qD,pm.length_eq];show at_<R.length+1;omega) (by rw[qD];omega)).trans ?_
  rw[<- zabd,zacr _ _ _ (by rw[qD];exact hatR)];rfl
 have g15:=zul bk ruR (by omega) fbG (i:=14) (f:=zac (eVar 7) (zac (eVar 2) (zac (eVar 8) aNil))) (env:=E13 cs P xs ts W (.pl (zaf R)) (.ac (zaf R)) (.pl (zas (List.replicate (P+1) z))) (.pl (.int (at_:Int))) (.pl (zat wr))) (sl:=L13 (some (.lo 0)) (some (.lo n1)) (some (.lo n2)) none) (hp:=hp6) (zba (v7 A6.rd) (zba v2 (zed v8))) (by show 14<15;decide)
 have g15:zio 14 3 zdn (zac (eVar 7) (zac (eVar 2) (zac (eVar 8) aNil))) (E13 cs P xs ts W (.pl (zaf R)) (.ac (zaf R)) (.pl (zas (List.replicate (P+1) z))) (.pl (.int (at_:Int))) (.pl (zat wr))) ⟨L13 (some (.lo 0)) (some (.lo n1)) (some (.lo n2)) none,hp6⟩=some (.nx (E13 cs P xs ts W (.pl (zaf R)) (.ac (zaf R)) (.pl (zas (List.replicate (P+1) z))) (.pl (.int (at_:Int))) (.pl (zat wr))) ⟨L13 (some (.lo 0)) (some (.lo n1)) (some (.lo n2)) (some (.lo hp6.length)),hp6++(al (zju W (P+1) R) hp6.length).2⟩):=g15
 have D7:=zuk hp6 W (P+1) R
 have A6f:=A6.fit
 have C6f:=C6.fit
 have A7:=A6.more (al (zju W (P+1) R) hp6.length).2
 have C7:=C6.more (al (zju W (P+1) R) hp6.length).2
 generalize hn3':hp6.length=n6 at D7 A7 C7 g15
 generalize hp6++(al (zju W (P+1) R) n6).2=hp7 at D7 A7 C7 g15
 generalize kz (n6+2) W=us at D7
 obtain⟨kk,hkk⟩:∃kk,ks[k]?=some kk:=⟨_,qF (by have:=A7.len;omega)⟩
 have iA:=A7.inn kk (qp hkk)
 have gC:=zaqe (env:=E13 cs P xs ts W (.pl (zaf R)) (.ac (.list [])) (.pl (zas (List.replicate (P+1) z))) (.pl (.int (at_:Int))) (.pl (zat wr))) (sl:=L13 (some (.lo 0)) (some (.lo n1)) (some (.lo n2)) (some (.lo n6))) (hp:=hp7) (zamk A7 hkk hqq (g:=yVar 7) rfl ik) (A7.row k kk qq hkk hqq).2
 have C8:=C7.out (n:=kk+1) (s:=.ls []) (.inl (by omega))
 have D8:=D7.out (n:=kk+1) (s:=.ls []) (.inl (by omega))
 have T8:(hp7.set (kk+1) (.ls []))[0]?=some (.ls (ks.map .lo)):=by rw[qO (by omega)];exact A7.top
 have A7l:=A7.len
 generalize hp7.set (kk+1) (.ls [])=hp8 at C8 D8 T8 gC
 have gD:=zahz (env:=E13 cs P xs ts W (.pl (zaf R)) (.ac (.list [])) (.pl (zas (List.replicate (P+1) z))) (.pl (.int (at_:Int))) (.pl (zat wr))) (sl:=L13 (some (.lo 0)) (some (.lo n1)) (some (.lo n2)) (some (.lo n6))) (hp:=hp8) (g:=yVar 7) rfl T8 (λz=>by have h2:=congrArg List.length z;rw[qD]at h2;simp at h2;rw[h2]at A7l;simp at A7l;omega)
 have C9:=C8.out (n:=0) (s:=.ls (ks.map SV.lo).dropLast) (.inl (by omega))
 have D9:=D8.out (n:=0) (s:=.ls (ks.map SV.lo).dropLast) (.inl (by omega))
 generalize hp8.set 0 (.ls (ks.map SV.lo).dropLast)=hp9 at C9 D9 gD
 have eC:sClr 8 (E13 cs P xs ts W (.pl (zaf R)) (.ac (zaf R)) (.pl (zas (List.replicate (P+1) z))) (.pl (.int (at_:Int))) (.pl (zat wr)))=some (.nx (E13 cs P xs ts W (.pl (zaf R)) (.ac (.list [])) (.pl (zas (List.replicate (P+1) z))) (.pl (.int (at_:Int))) (.pl (zat wr)))):=rfl
 refine zci (znz rfl e2 rfl) (zci (znz rfl e3 rfl) (zci (znz rfl e4 rfl) (zci (znz rfl e5 rfl) (zci (znz rfl e6 rfl) (zci g7 (zci (znz rfl e8 rfl) (zci g9 (zci g10 ?_))))))))
 refine zci (zahm (zaka (zie (zsl w shR (v9 B3.rd) v5 v2 v6)) (zie (zsl w shR (v10 C3.rd) v5 v2 v6)))) (zci ga (zci gp (zci gq ?_)))
 refine zci (zahm (zaka (zie (zsl w shR (v10 C6.rd) v5 v2 v6)) (zie (zsl w shR (zrh (rs:=[⟨webD W,false,[]⟩,vi ((P+1:Nat):Int),⟨zaf R,false,[8]⟩]) (zba (v7 A6.rd) (zba v2 (zed v8))) (by show 3<=100000;decide)) v5 v2 v6)))) ?_
 refine zci (znz rfl e11 rfl) (zci (znz rfl e12 rfl) (zci (znz rfl e13 rfl) (zci g13 (zci (znz rfl g14 rfl) ?_))))
 refine zci (zahm (zie (zcy (n:=4) (rs:=[⟨webD W,false,[]⟩,vi ((P+1:Nat):Int),⟨zaf (insL R at_ wr),false,[8]⟩,vi (i:Int)]) (zba (v7 A6.rd) (zba v2 (zba v8 (zed (zcy (n:=2) (rs:=[⟨zaf (insL R at_ wr),false,[8]⟩,⟨zai xs,false,[]⟩]) (zba v8 (zed rfl)) rfl gf))))) rfl (bk.refused ruW (by omega) hi)))) ?_
 refine zci (zahm (zfb ((zauv (b:=false) (zcy (n:=1) (rs:=[⟨zhu W (P+1) (insL R at_ wr),false,[8]⟩]) (zed (zrh (rs:=[⟨webD W,false,[]⟩,vi ((P+1:Nat):Int),⟨zaf (insL R at_ wr),false,[8]⟩]) (zba (v7 A6.rd) (zba v2 (zed v8))) (by show 3<=100000;decide))) rfl (bk.isbook ruW (by omega) hi))).trans rfl))) ?_
 refine zci (znz rfl gpop rfl) (zci g15 (zci (znz rfl eC rfl) (zci gC (zci gD ?_))))
 have i14:=zsl w shR (v14 (s6:=.pl (zaf R)) (s8:=.ac (.list [])) (s11:=.pl (zas (List.replicate (P+1) z))) (s12:=.pl (.int (at_:Int))) (s13:=.pl (zat wr)) (t7:=some (.lo 0)) (t9:=some (.lo n1)) (t10:=some (.lo n2)) D9.rd) v5 v2 v6
 have i10:=zsl w shR (v10 (s6:=.pl (zaf R)) (s8:=.ac (.list [])) (s11:=.pl (zas (List.replicate (P+1) z))) (s12:=.pl (.int (at_:Int))) (s13:=.pl (zat wr)) (t7:=some (.lo 0)) (t9:=some (.lo n1)) (t14:=some (.lo n6)) C9.rd) v5 v2 v6
 have fin:eAnd (zbl 4 zbi (zac (eVar 14) (zac (eVar 5) (zac (eVar 2) (zac (eVar 6) aNil))))) (zbl 4 zbi (zac (eVar 10) (zac (eVar 5) (zac (eVar 2) (zac (eVar 6) aNil))))) (zfx hp9 (E13 cs P xs ts W (.pl (zaf R)) (.ac (.list [])) (.pl (zas (List.replicate (P+1) z))) (.pl (.int (at_:Int))) (.pl (zat wr))) (L13 (some (.lo 0)) (some (.lo n1)) (some (.lo n2)) (some (.lo n6))))=some (vb true):=by
  unfold eAnd
  rw[i14,qC]
  exact i10
 unfold yRet yE
 show(Option.map _ (eAnd _ _ (zfx hp9 (E13 cs P xs ts W (.pl (zaf R)) (.ac (.list [])) (.pl (zas (List.replicate (P+1) z))) (.pl (.int (at_:Int))) (.pl (zat wr))) (L13 (some (.lo 0)) (some (.lo n1)) (some (.lo n2)) (some (.lo n6)))))).bind _=_
 rw[fin];rfl
section
variable{P:Program}{w:World}{K:qB}{mg:Str->Option Value}{base:Heap}
theorem zavg{s k:Int}(h1:0<=s)(h2:s<2147483647)(h3:0<=k)(h4:k<=64):0<=s * (k+2)+7919 * k * k+11/\s * (k+2)+7919 * k * k+11<200000000000:=by
 have a1:0<=s * (k+2):=qCf h1 (by omega)
 have a2:s * (k+2)<=2147483647 * 66:=Int.mul_le_mul (by omega) (by omega) (by omega) (by omega)
 have a3:0<=7919 * k * k:=qCf (by omega) h3
 have a4:7919 * k * k<=7919 * 64 * 64:=Int.mul_le_mul (by omega) h4 h3 (by omega)
 omega
noncomputable def zzo(K:qB):Sp:=λvs H Q _=>∃(a:Addr)(ns:List Int)(m:Int),vs=[.ref a,.int m]/\SqL K H a (ns.map .int)/\0<=m/\m<=64/\
 ∀p H' (cs:List Int),H p=none->Same H H'->H' p=some (.lst (cs.map .int))->cs.length=m.toNat->(∀c∈cs,0<=c/\c<1000000000000)->Q (.ref p) H'
theorem zxx{f:Addr}{fd:qw}(F:Fun K "_law_draws" "_law_draws" zgn f fd)(T:Txt mg):FnOk P w K mg base CX0 1 f fd ["_law_script","_law_many"] (zzo K):=by
 refine F.ok zwv (λvs H Q E h=>?_) (λcdv A outer s H vs Q E hr h=>?_)
 ·obtain⟨a,ns,m,rfl,_⟩:=h
  rfl
 ·obtain⟨a,ns,m,rfl,hS,h0,h64,k⟩:=h
  apply Exists.intro
  apply And.intro
  ·refine'(zlf (zzp (i:=2) (hf:=Or.inl rfl) zfp rfl (Or.inl rfl) zil)
 (zlf (zacx qAO rfl (zaiu (K:=K) rfl (zzs (znp (K:=K) rfl) (pv 0) zadk (zadl zil))) (zya (i:=3) (hf:=Or.inl rfl) zfp rfl (Or.inl rfl))
  (zmf (zzp (i:=2) (hf:=Or.inl rfl) zfp rfl (Or.inl rfl) (zls zdh (zls (zco (K:=K) rfl) (zls zjo (pv 2) zil) (zls zdh (pv 3) zil)) zil))))
 (zlf (zzp (i:=4) (hf:=Or.inl rfl) zfp rfl (Or.inl rfl) (zakx zob))
 (zlf (zacx qAO rfl (zun rfl T.range (zkg (pv 1) zob)) (zya (i:=5) (hf:=Or.inl rfl) zfp rfl (Or.inl rfl))
  (zmf (zaqr (zadc zauc (pv 5) (zzr (zbj (K:=K) rfl) (by rfl) T.len zbs (zkg (pv 0) zob)) (zdb _)) (zmf (zsp (zaec (K:=K) rfl qS qh qg zcf (pv 4) (zkg (zls zdh (zarg (zcd (K:=K) rfl) (pv 0) (pv 5) (λ_ _=>rfl)) (zls zakw zil zil)) zob)))) (zmf (zsp (zaec (K:=K) rfl qS qh qg zcf (pv 4) (zkg (zls zgh (zls zdh (zls zakw (zls (zco (K:=K) rfl) (zls (zco (K:=K) rfl) (zls zjo (pv 2) (zls (zco (K:=K) rfl) (pv 5) zil)) (zls zjo (zls zjo zil (pv 5)) (pv 5))) zil) zil) zil) zil) zob)))))))
 (zmf (zakv (pv 4)))))))
  refine⟨_,rfl,_,rfl,a,_,rfl,hS,λp hp=>⟨p,rfl,⟨_,SqL.of zaw⟩,L2.for_list (xs:=cutV (ns.map V.int) none (some 63)) (λi σ H1=>∃(sd:Int)(v3:Option V),σ=[some (.ref a),some (.int m),some (.int sd),v3,none,none]/\H1=upd H p (.lst (cutV (ns.map V.int) none (some 63)))/\0<=sd/\sd<2147483647)
   ⟨7,none,rfl,rfl,by decide,by decide⟩ (λi σ H1 _ ⟨_,_,_,e,_⟩=>e▸SqL.of zaw) ?_ ?_⟩⟩
  ·rintro i x σ H1 hi ⟨sd,v3,rfl,rfl,b0,b1⟩
   obtain⟨z,rfl⟩:∃z,x=V.int z:=by
    have hm:=qp hi
    unfold cutV at hm
    obtain⟨z,_,e⟩:=qAI.mp (qBF (qAs hm))
    exact⟨z,e.symm⟩
   refine⟨_,rfl,.inl ⟨by omega,by omega⟩,_,rfl,_,_,rfl,rfl,(by show(0:Int)<2147483629;decide),_,_,rfl,rfl,(by show(0:Int)<2147483647;decide),?_⟩
   exact⟨_,_,rfl,rfl,qAE _ (by decide),qAH _ (by decide)⟩
  ·rintro σ H1 ⟨sd,v3,rfl,rfl,b0,b1⟩
   refine⟨qAr _,λq hq=>?_⟩
   have hqH:H q=none:=(Same.new hp).free hq
   have sH:∀o,Same H (upd (upd H p (.lst (cutV (ns.map V.int) none (some 63)))) q o):=λo=>(Same.new hp).upd hqH
   refine⟨_,rfl,m,rfl,by omega,by omega,L2.for_range (n:=m.toNat) (λi σ H2=>∃(cs:List Int)(v5:Option V),σ=[some (.ref a),some (.int m),some (.int sd),v3,some (.ref q),v5]/\H2=upd (upd H p (.lst (cutV (ns.map V.int) none (some 63)))) q (.lst (cs.map .int))/\cs.length=i/\∀c∈cs,0<=c/\c<1000000000000)
    ⟨[],none,rfl,rfl,rfl,λ_ h=>nomatch h⟩ ?_ ?_⟩
   ·rintro i σ H2 hi ⟨cs,v5,rfl,rfl,hc,hp0⟩
    have hi64:(i:Int)<=64:=by omega
    refine⟨_,rfl,_,rfl,_,_,rfl,.inl ⟨_,(sH _).seq hS,rfl⟩,_,_,rfl,rfl,_,rfl,?_⟩
    have lz:(cs.map V.int).length<qe:=by rw[qD,hc];exact qCH (show i<=64 by omega) (by decide)
    have fin:∀v:Int,0<=v->v<1000000000000->∃(cs':List Int)(v5:Option V),[some (.ref a),some (.int m),some (.int sd),v3,some (.ref q),some (.int (0+(i:Int)))]=[some (.ref a),some (.int m),some (.int sd),v3,some (.ref q),v5]/\
      upd (upd (upd H p (.lst (cutV (ns.map V.int) none (some 63)))) q (.lst (cs.map .int))) q (.lst (cs.map V.int++[.int v]))=upd (upd H p (.lst (cutV (ns.map V.int) none (some 63)))) q (.lst (cs'.map .int))/\cs'.length=i+1/\∀c∈cs',0<=c/\c<1000000000000:=λv hv hv2=>by
     refine⟨cs++[v],_,rfl,?_,by simp[hc],λc h=>?_⟩
     ·rw[zaml,q0];rfl
     ·rcases qc.mp h with h|h
      ·exact hp0 c h
      ·rw[q9.mp h];exact⟨hv,hv2⟩
    refine ite2 (λh=>?_) (λh=>?_)
    ·have h:(0:Int)+i<((ns.map V.int).length:Nat):=of_decide_eq_true h
     rw[qD]at h
     have hin:i<ns.length:=by omega
     have ga:atI (ns.map V.int) (0+(i:Int))=some (.int ns[i]):=by
      rw[Int.zero_add]
      exact zyf (by rw[qT,qF hin];rfl)
     refine⟨_,rfl,.inl ⟨rfl,_,SqL.of zaw⟩,_,rfl,_,rfl,_,_,.inl ((sH _).seq hS),ga,_,_,rfl,rfl,⟨by decide,by decide,by decide⟩,_,_,rfl,rfl,(by show(0:Int)<10 ^ 12;decide),q,_,_,rfl,rfl,zaw,lz,?_⟩
     exact fin _ (qAE _ (by decide)) (qAH _ (by decide))
    ·obtain⟨d1,d2⟩:=zavg (s:=sd) (k:=0+(i:Int)) b0 b1 (by omega) (by omega)
     refine⟨_,rfl,.inl ⟨rfl,_,SqL.of zaw⟩,_,rfl,_,rfl,.inl ⟨by omega,by omega⟩,_,rfl,.inl ⟨by decide,by decide⟩,_,rfl,.inr ⟨by omega,by omega⟩,?_⟩
     refine⟨_,_,rfl,rfl,⟨by decide,by decide,?_⟩,_,_,rfl,rfl,(by show(0:Int)<2147483647;decide),_,_,rfl,rfl,⟨by decide,by decide⟩,q,_,_,rfl,rfl,zaw,lz,?_⟩
     ·show(sd * (0+(i:Int)+2)+7919 * (0+(i:Int)) * (0+(i:Int))+11).natAbs<2 ^ 64
      omega
     ·refine fin _ (Int.ediv_nonneg (qAE _ (by decide)) (by decide)) ?_
      have h9:∀z:Int,z % 2147483647 / 7<1000000000000:=λz=>by have:=qAH z (show(0:Int)<2147483647 by decide);omega
      exact h9 _
   ·rintro σ H2 ⟨cs,v5,rfl,rfl,hc,hp0⟩
    exact⟨_,rfl,k q _ cs hqH (sH _) zaw hc hp0⟩
end
section
variable{P:Program}{w:World}{K:qB}{mg:Str->Option Value}{base:Heap}
noncomputable def zakt(K:qB):Sp:=λvs H Q _=>∃(a:Addr)(ns:List Int),vs=[.ref a]/\SqL K H a (ns.map V.int)/\∀H',Q (.bl true) H'
theorem zatt{f:Addr}{fd:qw}(F:Fun K "law" "law" ztu f fd)(T:Txt mg)(D_law_alike:zrb P w K mg base)(D_law_copy:zsh P w K mg base)(D_law_draws:Dn P w K mg base "_law_draws" ["_law_script","_law_many"] 1 (zzo K))(D_law_first:zrd P w K mg base)(D_law_names:zqz P w K mg base)(D_law_refused:znl P w K mg base)(D_law_rules:zra P w K mg base)(D_law_web:zxf P w K mg base)(D_law_wrong:zrc P w K mg base)(D_book_of:zxd P w K mg base)(D_is_book:zxe P w K mg base)(DT_copy_of_web:zix P w K mg base)(DT_book_of:zsi P w K mg base)(DT_law_copy:zre P w K mg base):FnOk P w K mg base CX0 7 f fd ["_law_script"] (zakt K):=by
 refine F.ok zata (λvs H Q E h=>?_) (λcdv A outer s H vs Q E hr h=>?_)
 ·obtain⟨a,ns,rfl,_⟩:=h
  rfl
 ·obtain⟨a,ns,rfl,hS,k⟩:=h
  have hu:=zgc hr
  apply Exists.intro
  apply And.intro
  ·refine' Bx.out (zag (zew (i:=1) zhj rfl (Or.inl rfl) (zfl D_law_draws (hr.mono (by decide)) (by rfl) (zah (bv 0) (zah zak zae (by rfl)) (by rfl)) (by decide) (zap (by rfl)) (by rfl)) (by rfl) (.inl rfl))
 (zag (zew (i:=2) zhj rfl (Or.inl rfl) (zbe (zco (K:=K) rfl) zak (zbe zdh (zeh (zcd (K:=K) rfl) (bv 1) zak (λ_ _=>rfl)) zak)) (by rfl) (.inl rfl))
 (zag (zew (i:=3) zhj rfl (Or.inl rfl) (zfl D_law_names (hr.mono (by decide)) (by rfl) (zah (zbe (zco (K:=K) rfl) zak (zbe zdh (zbe zgh (zeh (zcd (K:=K) rfl) (bv 1) zak (λ_ _=>rfl)) zak) (zeh (zcd (K:=K) rfl) (zdu (zah zak (zah zak (zah zak zae (by rfl)) (by rfl)) (by rfl))) (zbe zaqx (bv 2) zak) (λ_ _=>rfl)))) (zah (zeh (zcd (K:=K) rfl) (bv 1) zak (λ_ _=>rfl)) zae (by rfl)) (by rfl)) (by decide) (zap (by rfl)) (by rfl)) (by rfl) (.inl rfl))
 (zag (zew (i:=4) zhj rfl (Or.inl rfl) (zfl D_law_names (hr.mono (by decide)) (by rfl) (zah zak (zah (zeh (zcd (K:=K) rfl) (bv 1) zak (λ_ _=>rfl)) zae (by rfl)) (by rfl)) (by decide) (zap (by rfl)) (by rfl)) (by rfl) (.inl rfl))
 (zag (zew (i:=5) zhj rfl (Or.inl rfl) (zfl D_law_web (hr.mono (by decide)) (by rfl) (zah (zdc (znp (K:=K) rfl) (bv 1) (zdj zak) (zdj zak)) (zah (bv 3) zae (by rfl)) (by rfl)) (by decide) (zap (by rfl)) (by rfl)) (by rfl) (.inl rfl))
 (zag (zew (i:=6) zhj rfl (Or.inl rfl) (zfl D_law_rules (hr.mono (by decide)) (by rfl) (zah (zdc (znp (K:=K) rfl) (bv 1) (zdj zak) (zdj zak)) (zah (bv 3) (zah (bv 2) (zah (zdc (znp (K:=K) rfl) (bv 4) zfe (zdj (zbe zdh (zeh (zcd (K:=K) rfl) (bv 1) zak (λ_ _=>rfl)) zak))) zae (by rfl)) (by rfl)) (by rfl)) (by rfl)) (by decide) (zap (by rfl)) (by rfl)) (by rfl) (.inl rfl))
 (zag (zew (i:=7) zhj rfl (Or.inl rfl) (zfl DT_law_copy (hr.mono (by decide)) (by rfl) (zah (bv 5) zae (by rfl)) (by decide) (zap (by rfl)) (by rfl)) (by rfl) (.inl rfl))
 (zag (zew (i:=8) zhj rfl (Or.inl rfl) (zns (ziy (K:=K) rfl) (by rfl) T.list zdf (zah (bv 6) zae (by rfl)) (by decide) (by decide) (zap (by rfl)) (by rfl)) (by rfl) (.inl rfl))
 (zag (zew (i:=9) zhj rfl (Or.inl rfl) (zfl DT_book_of (hr.mono (by decide)) (by rfl) (zah (bv 7) (zah (bv 2) (zah (bv 8) zae (by rfl)) (by rfl)) (by rfl)) (by decide) (zap (by rfl)) (by rfl)) (by rfl) (.inl rfl))
 (zag (zew (i:=10) zhj rfl (Or.inl rfl) (zfl DT_book_of (hr.mono (by decide)) (by rfl) (zah (bv 7) (zah (bv 2) (zah (bv 8) zae (by rfl)) (by rfl)) (by rfl)) (by decide) (zap (by rfl)) (by rfl)) (by rfl) (.inl rfl))
 (zag (zbw (zcn (zbf (zao (K:=K) rfl (zfl D_law_alike (hr.mono (by decide)) (by rfl) (zah (bv 9) (zah (bv 5) (zah (bv 2) (zah (bv 6) zae (by rfl)) (by rfl)) (by rfl)) (by rfl)) (by decide) (zap (by rfl)) (by rfl)) (λ_=>rfl))) (zcm (zbf (zao (K:=K) rfl (zfl D_law_alike (hr.mono (by decide)) (by rfl) (zah (bv 10) (zah (bv 5) (zah (bv 2) (zah (bv 6) zae (by rfl)) (by rfl)) (by rfl)) (by rfl)) (by decide) (zap (by rfl)) (by rfl)) (λ_=>rfl))))).pt (zaj (zav zdy)) zbd)
 (zag (zcj (zej (K:=K) rfl qS qh qg zcf (zeh (zcd (K:=K) rfl) (zeh (zcd (K:=K) rfl) (zeh (zcd (K:=K) rfl) (bv 9) zak (λ_ _=>rfl)) (zbe zdh (zeh (zcd (K:=K) rfl) (bv 1) zak (λ_ _=>rfl)) (zko (zbj (K:=K) rfl) (by rfl) T.len zbs (zah (bv 3) zae (by rfl)) (by decide) (by decide) (zap (by rfl)) (by rfl))) (λ_ _=>rfl)) zak (λ_ _=>rfl)) (zah zhe zae (by rfl)) (by rfl) (by rfl) (by rfl) (zap (by rfl)) (by rfl)) (by rfl))
 (zag (zcj (zos (K:=K) rfl qS qBU qBT zakz (zeh (zcd (K:=K) rfl) (bv 9) zak (λ_ _=>rfl)) (by rfl) (by rfl)) (by rfl))
 (zag (zcj (zej (K:=K) rfl qS qh qg zcf (zeh (zcd (K:=K) rfl) (bv 9) zak (λ_ _=>rfl)) (zah (zeh (zcd (K:=K) rfl) (bv 4) zak (λ_ _=>rfl)) zae (by rfl)) (by rfl) (by rfl) (by rfl) (zap (by rfl)) (by rfl)) (by rfl))
 (zag (zbw (zcn (zbf (zao (K:=K) rfl (zfl D_law_alike (hr.mono (by decide)) (by rfl) (zah (bv 10) (zah (bv 5) (zah (bv 2) (zah (bv 6) zae (by rfl)) (by rfl)) (by rfl)) (by rfl)) (by decide) (zap (by rfl)) (by rfl)) (λ_=>rfl))) (zcm (zbf (zao (K:=K) rfl (zfl D_law_alike (hr.mono (by decide)) (by rfl) (zah (zdu (zah (bv 7) (zah (bv 2) (zah (bv 8) zae (by rfl)) (by rfl)) (by rfl))) (zah (bv 5) (zah (bv 2) (zah (bv 6) zae (by rfl)) (by rfl)) (by rfl)) (by rfl)) (by decide) (zap (by rfl)) (by rfl)) (λ_=>rfl))))).pt (zaj (zav zdy)) zbd)
 (zag (zew (i:=11) zhj rfl (Or.inl rfl) (zns (zmk (K:=K) rfl) (by rfl) T.tuple zdo (zah (zbe zarm (zhd (zah (zeh (zcd (K:=K) rfl) (bv 3) (zafa zacy zak) (λ_ _=>rfl)) zae (by rfl))) (bv 2)) zae (by rfl)) (by decide) (by decide) (zap (by rfl)) (by rfl)) (by rfl) (.inl rfl))
 (zag (zew (i:=12) zhj rfl (Or.inl rfl) (zbe zdh (zeh (zcd (K:=K) rfl) (bv 1) zak (λ_ _=>rfl)) (zbe (zco (K:=K) rfl) (zko (zbj (K:=K) rfl) (by rfl) T.len zbs (zah (bv 6) zae (by rfl)) (by decide) (by decide) (zap (by rfl)) (by rfl)) zak)) (by rfl) (.inl rfl))
 (zag (zew (i:=13) zhj rfl (Or.inl rfl) (zdu (zah (zeh (zcd (K:=K) rfl) (bv 4) zak (λ_ _=>rfl)) (zah (zbe (zafb (K:=K) rfl) (zdc (sl_W (K:=K) rfl) (bv 11) (zdj zak) zfe) (zdu (zah (zbe (zco (K:=K) rfl) (zeh (zcd (K:=K) rfl) (bv 3) zak (λ_ _=>rfl)) zhe) zae (by rfl)))) zae (by rfl)) (by rfl))) (by rfl) (.inl rfl))
 (zag (zbw (zbr zaqz (zko (zbj (K:=K) rfl) (by rfl) T.len zbs (zah (bv 6) zae (by rfl)) (by decide) (by decide) (zap (by rfl)) (by rfl)) zak (zdb _)) (zaj (zew (i:=13) zhj rfl (Or.inl rfl) (zfl D_law_wrong (hr.mono (by decide)) (by rfl) (zah (bv 6) (zah (zeh (zcd (K:=K) rfl) (bv 4) zak (λ_ _=>rfl)) (zah (zbe zdh (zeh (zcd (K:=K) rfl) (bv 1) zak (λ_ _=>rfl)) zak) (zah (zeh (zcd (K:=K) rfl) (bv 1) zak (λ_ _=>rfl)) (zah (bv 11) zae (by rfl)) (by rfl)) (by rfl)) (by rfl)) (by rfl)) (by decide) (zap (by rfl)) (by rfl)) (by rfl) (.inl rfl))) zbd)
 (zag (zcj (zej (K:=K) rfl qS PySem.F.slot_list_insert PySem.F.type_list_insert zafn (bv 8) (zah (bv 12) (zah (bv 13) zae (by rfl)) (by rfl)) (by rfl) (by rfl) (by rfl) (zap (by rfl)) (by rfl)) (by rfl))
 (zag (zbw (zbf (zao (K:=K) rfl (zfl D_law_refused (hr.mono (by decide)) (by rfl) (zah (bv 7) (zah (bv 2) (zah (bv 8) (zah (zfl D_law_first (hr.mono (by decide)) (by rfl) (zah (bv 8) (zah (bv 3) zae (by rfl)) (by rfl)) (by decide) (zap (by rfl)) (by rfl)) zae (by rfl)) (by rfl)) (by rfl)) (by rfl)) (by decide) (zap (by rfl)) (by rfl)) (λ_=>rfl))) (zaj (zav zdy)) zbd)
 (zag (zbw (zbr zaem (zfl D_is_book (hr.mono (by decide)) (by rfl) (zah (zdu (zah (bv 7) (zah (bv 2) (zah (bv 8) zae (by rfl)) (by rfl)) (by rfl))) zae (by rfl)) (by decide) (zap (by rfl)) (by rfl)) zdy (zdb _)) (zaj (zav zdy)) zbd)
 (zag (zcj (zej (K:=K) rfl qS qBU qBT zzu (bv 8) (zah (bv 12) zae (by rfl)) (by rfl) (by rfl) (by rfl) (zap (by rfl)) (by rfl)) (by rfl))
 (zag (zew (i:=14) zhj rfl (Or.inl rfl) (zfl DT_book_of (hr.mono (by decide)) (by rfl) (zah (bv 7) (zah (bv 2) (zah (bv 8) zae (by rfl)) (by rfl)) (by rfl)) (by decide) (zap (by rfl)) (by rfl)) (by rfl) (.inl rfl))
 (zag (zcj (zos (K:=K) rfl qS qCU qCT zzv (bv 8) (by rfl) (by rfl)) (by rfl))
 (zag (zcj (zos (K:=K) rfl qS qCU qCT zzv (zeh (zcd (K:=K) rfl) (zeh (zcd (K:=K) rfl) (bv 7) (zbe zdh (zeh (zcd (K:=K) rfl) (bv 1) zak (λ_ _=>rfl)) (zko (zbj (K:=K) rfl) (by rfl) T.len zbs (zah (bv 3) zae (by rfl)) (by decide) (by decide) (zap (by rfl)) (by rfl))) (λ_ _=>rfl)) zak (λ_ _=>rfl)) (by rfl) (by rfl)) (by rfl))
 (zag (zcj (zos (K:=K) rfl qS qBU qBT zakz (bv 7) (by rfl) (by rfl)) (by rfl))
 (zaj (zav (zyo (zfl D_law_alike (hr.mono (by decide)) (by rfl) (zah (bv 14) (zah (bv 5) (zah (bv 2) (zah (bv 6) zae (by rfl)) (by rfl)) (by rfl)) (by rfl)) (by decide) (zap (by rfl)) (by rfl)) (ztn (zfl D_law_alike (hr.mono (by decide)) (by rfl) (zah (bv 10) (zah (bv 5) (zah (bv 2) (zah (bv 6) zae (by rfl)) (by rfl)) (by rfl)) (by rfl)) (by decide) (zap (by rfl)) (by rfl)))))))))))))))))))))))))))))))))
  refine⟨_,rfl,a,ns,30,rfl,hS,by decide,by decide,λpc H1 cs hpc s1 e1 lc p1=>?_⟩
  exact zaju (F:=zxv) ((zch (zjh (ziv (zay zhg (se_c λ_=>zad) (zay zeg (zbp (se_c λ_=>zad)) (se_c λ_=>zad))) (by decide))) (zch (zjh (ziv (zbh (zab (zay zhg (se_c λ_=>zad) (zay zeg (zay zhb (zbp (se_c λ_=>zad)) (se_c λ_=>zad)) (zay zanj (zhi (zab (se_c λ_=>zad) (zab (se_c λ_=>zad) (zab (se_c λ_=>zad) zal)))) (zay zaru (zaa 2) (se_c λ_=>zad))))) (zab (zbp (se_c λ_=>zad)) zal))) (by decide))) (zch (zjh (ziv (zbh (zab (se_c λ_=>zad) (zab (zbp (se_c λ_=>zad)) zal))) (by decide))) (zch (zjh (ziv (zbh (zab (zol (zaa 1) (zev (se_c λ_=>zad)) (zev (se_c λ_=>zad))) (zab (zaa 3) zal))) (by decide))) (zch (zjh (ziv (zbh (zab (zol (zaa 1) (zev (se_c λ_=>zad)) (zev (se_c λ_=>zad))) (zab (zaa 3) (zab (zaa 2) (zab (zol (zaa 4) zhc (zev (zay zeg (zbp (se_c λ_=>zad)) (se_c λ_=>zad)))) zal))))) (by decide))) (zch (zmz (zab (zaa 5) zal)) (zch (zjh (ziv (zec zpg (zab (zaa 6) zal)) (by decide))) (zch (zmz (zab (zaa 7) (zab (zaa 2) (zab (zaa 8) zal)))) (zch (zmz (zab (zaa 7) (zab (zaa 2) (zab (zaa 8) zal)))) (zch (zvv (zvu (zeu (zbo (zbn (zbh (zab (zaa 9) (zab (zaa 5) (zab (zaa 2) (zab (zaa 6) zal))))))) (zbo (zbn (zbh (zab (zaa 10) (zab (zaa 5) (zab (zaa 2) (zab (zaa 6) zal))))))))) (zpt (zin (se_c λ_=>zan))) zps) (zch (zafo (zpw (zpw (zpw (zpv 9) (zin (se_c λ_=>zad))) (zin (zay zeg (zbp (se_c λ_=>zad)) (zec zei (zab (zaa 3) zal))))) (zin (se_c λ_=>zad))) (zaln (zin (se_c λ_=>zcg)))) (zch (zafp (zpw (zpv 9) (zin (se_c λ_=>zad)))) (zch (zafo (zpw (zpv 9) (zin (se_c λ_=>zad))) (zaln (zin (zbp (se_c λ_=>zad))))) (zch (zvv (zvu (zeu (zbo (zbn (zbh (zab (zaa 10) (zab (zaa 5) (zab (zaa 2) (zab (zaa 6) zal))))))) (zbo (zbn (zbh (zab (zhi (zab (zaa 7) (zab (zaa 2) (zab (zaa 8) zal)))) (zab (zaa 5) (zab (zaa 2) (zab (zaa 6) zal))))))))) (zpt (zin (se_c λ_=>zan))) zps) (zch (zjh (ziv (zec zte (zab (zay zasi (zjw (zab (zbp (zaen (se_c λ_=>zad))) zal)) (zaa 2)) zal)) (by decide))) (zch (zjh (ziv (zay zeg (zbp (se_c λ_=>zad)) (zay zhg (zec zei (zab (zaa 6) zal)) (se_c λ_=>zad))) (by decide))) (zch (zjh (ziv (zhi (zab (zbp (se_c λ_=>zad)) (zab (zay zafc (zali (zaa 11) (zev (se_c λ_=>zad)) zhc) (zhi (zab (zay zhg (zbp (se_c λ_=>zad)) (se_c λ_=>zcg)) zal))) zal))) (by decide))) (zch (zvv (zvu (st_t (zay zarv (zec zei (zab (zaa 6) zal)) (se_c λ_=>zad)))) (zjh (ziv (zbh (zab (zaa 6) (zab (zbp (se_c λ_=>zad)) (zab (zay zeg (zbp (se_c λ_=>zad)) (se_c λ_=>zad)) (zab (zbp (se_c λ_=>zad)) (zab (zaa 11) zal)))))) (by decide))) zps) (zch (zjh (zapa (zab (zaa 12) (zab (zaa 13) zal)))) (zch (zvv (zvu (zbo (zbn (zbh (zab (zaa 7) (zab (zaa 2) (zab (zaa 8) (zab (zbh (zab (zaa 8) (zab (zaa 3) zal))) zal)))))))) (zpt (zin (se_c λ_=>zan))) zps) (zch (zvv (zvu (st_t (zay zaun (zbh (zab (zhi (zab (zaa 7) (zab (zaa 2) (zab (zaa 8) zal)))) zal)) (se_c λ_=>zan)))) (zpt (zin (se_c λ_=>zan))) zps) (zch (zjh (zajx (zaa 12))) (zch (zmz (zab (zaa 7) (zab (zaa 2) (zab (zaa 8) zal)))) (zch (zjh zaoz) (zch (zaoi (zpw (zpw (zpv 7) (zin (zay zeg (zbp (se_c λ_=>zad)) (zec zei (zab (zaa 3) zal))))) (zin (se_c λ_=>zad)))) (zch (zafp (zpv 7)) (zpt (zin (zalc (zbh (zab (zaa 14) (zab (zaa 5) (zab (zaa 2) (zab (zaa 6) zal))))) (zbh (zab (zaa 10) (zab (zaa 5) (zab (zaa 2) (zab (zaa 6) zal))))))))))))))))))))))))))))))))))) (zapb (n:=13) e1) (zaks lc (λc h=>(p1 c h).1)) k
end
theorem us_s{us:List Value}{n:Nat}(h:us.length=n+1):∃a t,us=a::t/\t.length=n:=by
 cases us with
 | nil=>cases h
 | cons a t=>exact⟨a,t,rfl,Nat.succ.inj h⟩
theorem us_1{us:List Value}(h:us.length=1):∃a0,us=[a0]:=by
 obtain⟨a,t,rfl,h2⟩:=us_s h
 cases qBN.mp h2
 exact⟨a,rfl⟩
theorem us_2{us:List Value}(h:us.length=2):∃a0 a1,us=[a0,a1]:=by
 obtain⟨a0,t,rfl,h2⟩:=us_s h
 obtain⟨a1,rfl⟩:=us_1 h2
 exact⟨a0,a1,rfl⟩
theorem us_3{us:List Value}(h:us.length=3):∃a0 a1 a2,us=[a0,a1,a2]:=by
 obtain⟨a0,t,rfl,h2⟩:=us_s h
 obtain⟨a1,a2,rfl⟩:=us_2 h2
 exact⟨a0,a1,a2,rfl⟩
theorem us_4{us:List Value}(h:us.length=4):∃a0 a1 a2 a3,us=[a0,a1,a2,a3]:=by
 obtain⟨a0,t,rfl,h2⟩:=us_s h
 obtain⟨a1,a2,a3,rfl⟩:=us_3 h2
 exact⟨a0,a1,a2,a3,rfl⟩
theorem us_5{us:List Value}(h:us.length=5):∃a0 a1 a2 a3 a4,us=[a0,a1,a2,a3,a4]:=by
 obtain⟨a0,t,rfl,h2⟩:=us_s h
 obtain⟨a1,a2,a3,a4,rfl⟩:=us_4 h2
 exact⟨a0,a1,a2,a3,a4,rfl⟩
theorem all_mk{l:PySem.W.OpenLaw}{w:World}{K:qB}{h:Heap}{mg:Str->Option Value}{fa f1 f2 f3 f4 f5 f6 f7 f8 f9 f10 f11 f12 f13 f14 f15 f16 f17 f18 f19 f20 f21 f22 f23 f24:Addr}(X:K.In h)(G:h.Ns qR mg)(hfa:mg "law"=some (.ref fa))
  {od1 an1 od2 an2 od3 an3 od4 an4 od5 an5 od6 an6 od7 an7 od8 an8 od9 an9 od10 an10 od11 an11 od12 an12 od13 an13 od14 an14 od15 an15 od16 an16 od17 an17 od18 an18 od19 an19 od20 an20 od21 an21 od22 an22 od23 an23 od24 an24:Option Addr}{sl1 sl2 sl3 sl4 sl5 sl6 sl7 sl8 sl9 sl10 sl11 sl12 sl13 sl14 sl15 sl16 sl17 sl18 sl19 sl20 sl21 sl22 sl23 sl24:Array (Option Value)}{oc1 kV1 dc1 pm1 cd1 ct1 oc2 kV2 dc2 pm2 cd2 ct2 oc3 kV3 dc3 pm3 cd3 ct3 oc4 kV4 dc4 pm4 cd4 ct4 oc5 kV5 dc5 pm5 cd5 ct5 oc6 kV6 dc6 pm6 cd6 ct6 oc7 kV7 dc7 pm7 cd7 ct7 oc8 kV8 dc8 pm8 cd8 ct8 oc9 kV9 dc9 pm9 cd9 ct9 oc10 kV10 dc10 pm10 cd10 ct10 oc11 kV11 dc11 pm11 cd11 ct11 oc12 kV12 dc12 pm12 cd12 ct12 oc13 kV13 dc13 pm13 cd13 ct13 oc14 kV14 dc14 pm14 cd14 ct14 oc15 kV15 dc15 pm15 cd15 ct15 oc16 kV16 dc16 pm16 cd16 ct16 oc17 kV17 dc17 pm17 cd17 ct17 oc18 kV18 dc18 pm18 cd18 ct18 oc19 kV19 dc19 pm19 cd19 ct19 oc20 kV20 dc20 pm20 cd20 ct20 oc21 kV21 dc21 pm21 cd21 ct21 oc22 kV22 dc22 pm22 cd22 ct22 oc23 kV23 dc23 pm23 cd23 ct23 oc24 kV24 dc24 pm24 cd24 ct24:Value}
  (a1:qV K qR "is_whole"=some (some (.ref f1)))(l1:K.lookup f1=some ⟨oc1,od1,.func (qo "is_whole" "is_whole" (zbt zhw) (zbm zhw) (zam zhw) .none kV1 dc1 pm1 an1 cd1 ct1),sl1⟩)(c1:qi K cd1 "is_whole"=true)(k1:qX K (.ref f1)=true)
  (a2:qV K qR "is_name"=some (some (.ref f2)))(l2:K.lookup f2=some ⟨oc2,od2,.func (qo "is_name" "is_name" (zbt zjl) (zbm zjl) (zam zjl) .none kV2 dc2 pm2 an2 cd2 ct2),sl2⟩)(c2:qi K cd2 "is_name"=true)(k2:qX K (.ref f2)=true)
  (a3:qV K qR "are_unlike_of"=some (some (.ref f3)))(l3:K.lookup f3=some ⟨oc3,od3,.func (qo "are_unlike_of" "are_unlike_of" (zbt zdp) (zbm zdp) (zam zdp) .none kV3 dc3 pm3 an3 cd3 ct3),sl3⟩)(c3:qi K cd3 "are_unlike_of"=true)(k3:qX K (.ref f3)=true)
  (a4:qV K qR "is_kind_behind"=some (some (.ref f4)))(l4:K.lookup f4=some ⟨oc4,od4,.func (qo "is_kind_behind" "is_kind_behind" (zbt zcz) (zbm zcz) (zam zcz) .none kV4 dc4 pm4 an4 cd4 ct4),sl4⟩)(c4:qi K cd4 "is_kind_behind"=true)(k4:qX K (.ref f4)=true)
  (a5:qV K qR "copy_of_web"=some (some (.ref f5)))(l5:K.lookup f5=some ⟨oc5,od5,.func (qo "copy_of_web" "copy_of_web" (zbt zdw) (zbm zdw) (zam zdw) .none kV5 dc5 pm5 an5 cd5 ct5),sl5⟩)(c5:qi K cd5 "copy_of_web"=true)(k5:qX K (.ref f5)=true)
  (a6:qV K qR "web_of"=some (some (.ref f6)))(l6:K.lookup f6=some ⟨oc6,od6,.func (qo "web_of" "web_of" (zbt zln) (zbm zln) (zam zln) .none kV6 dc6 pm6 an6 cd6 ct6),sl6⟩)(c6:qi K cd6 "web_of"=true)(k6:qX K (.ref f6)=true)
  (a7:qV K qR "is_web"=some (some (.ref f7)))(l7:K.lookup f7=some ⟨oc7,od7,.func (qo "is_web" "is_web" (zbt zlo) (zbm zlo) (zam zlo) .none kV7 dc7 pm7 an7 cd7 ct7),sl7⟩)(c7:qi K cd7 "is_web"=true)(k7:qX K (.ref f7)=true)
  (a8:qV K qR "names_of"=some (some (.ref f8)))(l8:K.lookup f8=some ⟨oc8,od8,.func (qo "names_of" "names_of" (zbt zhx) (zbm zhx) (zam zhx) .none kV8 dc8 pm8 an8 cd8 ct8),sl8⟩)(c8:qi K cd8 "names_of"=true)(k8:qX K (.ref f8)=true)
  (a9:qV K qR "count_calls"=some (some (.ref f9)))(l9:K.lookup f9=some ⟨oc9,od9,.func (qo "count_calls" "count_calls" (zbt zep) (zbm zep) (zam zep) .none kV9 dc9 pm9 an9 cd9 ct9),sl9⟩)(c9:qi K cd9 "count_calls"=true)(k9:qX K (.ref f9)=true)
  (a10:qV K qR "has_room"=some (some (.ref f10)))(l10:K.lookup f10=some ⟨oc10,od10,.func (qo "has_room" "has_room" (zbt zhy) (zbm zhy) (zam zhy) .none kV10 dc10 pm10 an10 cd10 ct10),sl10⟩)(c10:qi K cd10 "has_room"=true)(k10:qX K (.ref f10)=true)
  (a11:qV K qR "are_kinds"=some (some (.ref f11)))(l11:K.lookup f11=some ⟨oc11,od11,.func (qo "are_kinds" "are_kinds" (zbt zgl) (zbm zgl) (zam zgl) .none kV11 dc11 pm11 an11 cd11 ct11),sl11⟩)(c11:qi K cd11 "are_kinds"=true)(k11:qX K (.ref f11)=true)
  (a12:qV K qR "is_rule_behind"=some (some (.ref f12)))(l12:K.lookup f12=some ⟨oc12,od12,.func (qo "is_rule_behind" "is_rule_behind" (zbt zda) (zbm zda) (zam zda) .none kV12 dc12 pm12 an12 cd12 ct12),sl12⟩)(c12:qi K cd12 "is_rule_behind"=true)(k12:qX K (.ref f12)=true)
  (a13:qV K qR "book_of"=some (some (.ref f13)))(l13:K.lookup f13=some ⟨oc13,od13,.func (qo "book_of" "book_of" (zbt zij) (zbm zij) (zam zij) .none kV13 dc13 pm13 an13 cd13 ct13),sl13⟩)(c13:qi K cd13 "book_of"=true)(k13:qX K (.ref f13)=true)
  (a14:qV K qR "is_book"=some (some (.ref f14)))(l14:K.lookup f14=some ⟨oc14,od14,.func (qo "is_book" "is_book" (zbt zjm) (zbm zjm) (zam zjm) .none kV14 dc14 pm14 an14 cd14 ct14),sl14⟩)(c14:qi K cd14 "is_book"=true)(k14:qX K (.ref f14)=true)
  (a15:qV K qR "_law_draws"=some (some (.ref f15)))(l15:K.lookup f15=some ⟨oc15,od15,.func (qo "_law_draws" "_law_draws" (zbt zgn) (zbm zgn) (zam zgn) .none kV15 dc15 pm15 an15 cd15 ct15),sl15⟩)(c15:qi K cd15 "_law_draws"=true)(k15:qX K (.ref f15)=true)
  (a16:qV K qR "_law_names"=some (some (.ref f16)))(l16:K.lookup f16=some ⟨oc16,od16,.func (qo "_law_names" "_law_names" (zbt zgo) (zbm zgo) (zam zgo) .none kV16 dc16 pm16 an16 cd16 ct16),sl16⟩)(c16:qi K cd16 "_law_names"=true)(k16:qX K (.ref f16)=true)
  (a17:qV K qR "_law_web"=some (some (.ref f17)))(l17:K.lookup f17=some ⟨oc17,od17,.func (qo "_law_web" "_law_web" (zbt zjn) (zbm zjn) (zam zjn) .none kV17 dc17 pm17 an17 cd17 ct17),sl17⟩)(c17:qi K cd17 "_law_web"=true)(k17:qX K (.ref f17)=true)
  (a18:qV K qR "_law_rules"=some (some (.ref f18)))(l18:K.lookup f18=some ⟨oc18,od18,.func (qo "_law_rules" "_law_rules" (zbt zgp) (zbm zgp) (zam zgp) .none kV18 dc18 pm18 an18 cd18 ct18),sl18⟩)(c18:qi K cd18 "_law_rules"=true)(k18:qX K (.ref f18)=true)
  (a19:qV K qR "_law_alike"=some (some (.ref f19)))(l19:K.lookup f19=some ⟨oc19,od19,.func (qo "_law_alike" "_law_alike" (zbt zgq) (zbm zgq) (zam zgq) .none kV19 dc19 pm19 an19 cd19 ct19),sl19⟩)(c19:qi K cd19 "_law_alike"=true)(k19:qX K (.ref f19)=true)
  (a20:qV K qR "_law_refused"=some (some (.ref f20)))(l20:K.lookup f20=some ⟨oc20,od20,.func (qo "_law_refused" "_law_refused" (zbt zer) (zbm zer) (zam zer) .none kV20 dc20 pm20 an20 cd20 ct20),sl20⟩)(c20:qi K cd20 "_law_refused"=true)(k20:qX K (.ref f20)=true)
  (a21:qV K qR "_law_copy"=some (some (.ref f21)))(l21:K.lookup f21=some ⟨oc21,od21,.func (qo "_law_copy" "_law_copy" (zbt zgr) (zbm zgr) (zam zgr) .none kV21 dc21 pm21 an21 cd21 ct21),sl21⟩)(c21:qi K cd21 "_law_copy"=true)(k21:qX K (.ref f21)=true)
  (a22:qV K qR "_law_wrong"=some (some (.ref f22)))(l22:K.lookup f22=some ⟨oc22,od22,.func (qo "_law_wrong" "_law_wrong" (zbt zgs) (zbm zgs) (zam zgs) .none kV22 dc22 pm22 an22 cd22 ct22),sl22⟩)(c22:qi K cd22 "_law_wrong"=true)(k22:qX K (.ref f22)=true)
  (a23:qV K qR "_law_first"=some (some (.ref f23)))(l23:K.lookup f23=some ⟨oc23,od23,.func (qo "_law_first" "_law_first" (zbt zgt) (zbm zgt) (zam zgt) .none kV23 dc23 pm23 an23 cd23 ct23),sl23⟩)(c23:qi K cd23 "_law_first"=true)(k23:qX K (.ref f23)=true)
  (a24:qV K qR "law"=some (some (.ref f24)))(l24:K.lookup f24=some ⟨oc24,od24,.func (qo "law" "law" (zbt ztu) (zbm ztu) (zam ztu) .none kV24 dc24 pm24 an24 cd24 ct24),sl24⟩)(c24:qi K cd24 "law"=true)(k24:qX K (.ref f24)=true)
  {y0 y1 fI:Addr}{xoc xkV xdc xpm xcd xct:Value}{xod xan:Option Addr}{xsl:Array (Option Value)}
  {xdd0:Option Addr}{xsl0:Array (Option Value)}{xcdt0:ClassData}
  {xdd1:Option Addr}{xsl1:Array (Option Value)}{xcdt1:ClassData}
  (xa0:qV K qR "NoBook"=some (some (.ref y0)))
  (xp0:PySem.W.isClsIn K y0=true)
  (xq0:PySem.W.typeIn K (.ref y0)=some (.type "type"))
  (xa1:qV K qR "NoWeb"=some (some (.ref y1)))
  (xp1:PySem.W.isClsIn K y1=true)
  (xq1:PySem.W.typeIn K (.ref y1)=some (.type "type"))
  (xz:qV K qR "ValueError"=some none)
  (xi0:PySem.W.findIn K (.ref y0) "__init__"=some (some (.ref fI)))
  (xi1:PySem.W.findIn K (.ref y1) "__init__"=some (some (.ref fI)))
  (xl:K.lookup fI=some ⟨xoc,xod,.func (qo "__init__" "CallError.__init__" (zbt (zsv (top 1) 0)) (zbm (zsv (top 1) 0)) (zam (zsv (top 1) 0)) .none xkV xdc xpm xan xcd xct),xsl⟩)
  (xc:qi K xcd "CallError.__init__"=true)
  (xk:qX K (.ref fI)=true)
  (xf:PySem.W.isFn K (.ref fI)=true)
  (xlc0:K.lookup y0=some ⟨.type "type",xdd0,.cls xcdt0,xsl0⟩)
  (xb0:xcB y0 xcdt0 xsl0=true)
  (xkp0:qX K (.ref y0)=true)
  (xsa0:PySem.W.findIn K (.ref y0) "__setattr__"=some (some (.builtin "object.__setattr__")))
  (xat0:PySem.W.findIn K (.ref y0) "at"=some (none))
  (xga0:PySem.W.findIn K (.ref y0) "__getattribute__"=some (some (.builtin "BaseException.__getattribute__")))
  (xgh0:PySem.W.findIn K (.ref y0) "__getattr__"=some (none))
  (xcl0:PySem.W.findIn K (.ref y0) "__class__"=some (some (.builtin "object.__class__")))
  (xs0_b:PySem.W.subIn K (.ref y0) (.type "BaseException")=some true)
  (xs0_v:PySem.W.subIn K (.ref y0) (.type "ValueError")=some true)
  (xs0_s:PySem.W.subIn K (.ref y0) (.ref y0)=some true)
  (xs0_B:PySem.W.subIn K (.ref y0) (.ref y0)=some true)
  (xlc1:K.lookup y1=some ⟨.type "type",xdd1,.cls xcdt1,xsl1⟩)
  (xb1:xcB y1 xcdt1 xsl1=true)
  (xkp1:qX K (.ref y1)=true)
  (xsa1:PySem.W.findIn K (.ref y1) "__setattr__"=some (some (.builtin "object.__setattr__")))
  (xat1:PySem.W.findIn K (.ref y1) "at"=some (none))
  (xga1:PySem.W.findIn K (.ref y1) "__getattribute__"=some (some (.builtin "BaseException.__getattribute__")))
  (xgh1:PySem.W.findIn K (.ref y1) "__getattr__"=some (none))
  (xcl1:PySem.W.findIn K (.ref y1) "__class__"=some (some (.builtin "object.__class__")))
  (xs1_b:PySem.W.subIn K (.ref y1) (.type "BaseException")=some true)
  (xs1_v:PySem.W.subIn K (.ref y1) (.type "ValueError")=some true)
  (xs1_s:PySem.W.subIn K (.ref y1) (.ref y1)=some true)
  (xBb:PySem.W.subIn K (.ref y0) (.type "BaseException")=some true)
  (z1:qV K qR "all"=some none)(z2:qV K qR "any"=some none)(z3:qV K qR "bool"=some none)(z4:qV K qR "enumerate"=some none)(z5:qV K qR "int"=some none)(z6:qV K qR "isinstance"=some none)(z7:qV K qR "len"=some none)(z8:qV K qR "list"=some none)(z9:qV K qR "min"=some none)(z10:qV K qR "range"=some none)(z11:qV K qR "set"=some none)(z12:qV K qR "str"=some none)(z13:qV K qR "tuple"=some none){gt1:Tok}(g1:qV K qR "MOST_CALLS"=some (some (.int 216 gt1))){gt2:Tok}(g2:qV K qR "MOST_ELDERS"=some (some (.int 4 gt2))){gt3:Tok}(g3:qV K qR "MOST_KINDS"=some (some (.int 10 gt3))){gt4:Tok}(g4:qV K qR "MOST_LETTERS"=some (some (.int 8 gt4))){gt5:Tok}(g5:qV K qR "MOST_PLACES"=some (some (.int 3 gt5))){gt6:Tok}(g6:qV K qR "MOST_RULES"=some (some (.int 12 gt6))) :
  ∃fd:qw,(∀(s:Shared)(v:Value),BindsTo s fd ⟨[v],[]⟩ [("_law_script",v)])/\∀base:Heap,K.In base->base.Ns qR mg->FnOk l.prog w K mg base CX0 7 fa fd ["_law_script"] (zakt K):=by
 have e:=hfa.symm.trans (qY X G a24)
 cases e
 have T:Txt mg:=⟨qAF X G z1,qAF X G z2,qAF X G z3,qAF X G z4,qAF X G z5,qAF X G z6,qAF X G z7,qAF X G z8,qAF X G z9,qAF X G z10,qAF X G z11,qAF X G z12,qAF X G z13,⟨_,qY X G g1⟩,⟨_,qY X G g2⟩,⟨_,qY X G g3⟩,⟨_,qY X G g4⟩,⟨_,qY X G g5⟩,⟨_,qY X G g6⟩⟩
 have F1:=zdx (st:=zhw) l1 c1 k1
 have b1:=F1.binds (ps:=["thing"]) λ_ _ _ _ _ _ us hl=>by obtain⟨_,rfl⟩:=us_1 hl;rfl
 have F2:=zdx (st:=zjl) l2 c2 k2
 have b2:=F2.binds (ps:=["thing"]) λ_ _ _ _ _ _ us hl=>by obtain⟨_,rfl⟩:=us_1 hl;rfl
 have F3:=zdx (st:=zdp) l3 c3 k3
 have b3:=F3.binds (ps:=["known","things"]) λ_ _ _ _ _ _ us hl=>by obtain⟨_,_,rfl⟩:=us_2 hl;rfl
 have F4:=zdx (st:=zcz) l4 c4 k4
 have b4:=F4.binds (ps:=["ahead","thing"]) λ_ _ _ _ _ _ us hl=>by obtain⟨_,_,rfl⟩:=us_2 hl;rfl
 have F5:=zdx (st:=zdw) l5 c5 k5
 have b5:=F5.binds (ps:=["web"]) λ_ _ _ _ _ _ us hl=>by obtain⟨_,rfl⟩:=us_1 hl;rfl
 have F6:=zdx (st:=zln) l6 c6 k6
 have b6:=F6.binds (ps:=["thing"]) λ_ _ _ _ _ _ us hl=>by obtain⟨_,rfl⟩:=us_1 hl;rfl
 have F7:=zdx (st:=zlo) l7 c7 k7
 have b7:=F7.binds (ps:=["thing"]) λ_ _ _ _ _ _ us hl=>by obtain⟨_,rfl⟩:=us_1 hl;rfl
 have F8:=zdx (st:=zhx) l8 c8 k8
 have b8:=F8.binds (ps:=["web"]) λ_ _ _ _ _ _ us hl=>by obtain⟨_,rfl⟩:=us_1 hl;rfl
 have F9:=zdx (st:=zep) l9 c9 k9
 have b9:=F9.binds (ps:=["web","places"]) λ_ _ _ _ _ _ us hl=>by obtain⟨_,_,rfl⟩:=us_2 hl;rfl
 have F10:=zdx (st:=zhy) l10 c10 k10
 have b10:=F10.binds (ps:=["web","places"]) λ_ _ _ _ _ _ us hl=>by obtain⟨_,_,rfl⟩:=us_2 hl;rfl
 have F11:=zdx (st:=zgl) l11 c11 k11
 have b11:=F11.binds (ps:=["known","places","thing"]) λ_ _ _ _ _ _ us hl=>by obtain⟨_,_,_,rfl⟩:=us_3 hl;rfl
 have F12:=zdx (st:=zda) l12 c12 k12
 have b12:=F12.binds (ps:=["known","places","ahead","thing"]) λ_ _ _ _ _ _ us hl=>by obtain⟨_,_,_,_,rfl⟩:=us_4 hl;rfl
 have F13:=zdx (st:=zij) l13 c13 k13
 have b13:=F13.binds (ps:=["web","places","rules"]) λ_ _ _ _ _ _ us hl=>by obtain⟨_,_,_,rfl⟩:=us_3 hl;rfl
 have F14:=zdx (st:=zjm) l14 c14 k14
 have b14:=F14.binds (ps:=["thing"]) λ_ _ _ _ _ _ us hl=>by obtain⟨_,rfl⟩:=us_1 hl;rfl
 have F15:=zdx (st:=zgn) l15 c15 k15
 have b15:=F15.binds (ps:=["_law_script","_law_many"]) λ_ _ _ _ _ _ us hl=>by obtain⟨_,_,rfl⟩:=us_2 hl;rfl
 have F16:=zdx (st:=zgo) l16 c16 k16
 have b16:=F16.binds (ps:=["_law_many","_law_cell"]) λ_ _ _ _ _ _ us hl=>by obtain⟨_,_,rfl⟩:=us_2 hl;rfl
 have F17:=zdx (st:=zjn) l17 c17 k17
 have b17:=F17.binds (ps:=["_law_cells","_law_names_here"]) λ_ _ _ _ _ _ us hl=>by obtain⟨_,_,rfl⟩:=us_2 hl;rfl
 have F18:=zdx (st:=zgp) l18 c18 k18
 have b18:=F18.binds (ps:=["_law_cells","_law_names_here","_law_places","_law_titles"]) λ_ _ _ _ _ _ us hl=>by obtain⟨_,_,_,_,rfl⟩:=us_4 hl;rfl
 have F19:=zdx (st:=zgq) l19 c19 k19
 have b19:=F19.binds (ps:=["_law_made","_law_web_here","_law_places","_law_rules_here"]) λ_ _ _ _ _ _ us hl=>by obtain⟨_,_,_,_,rfl⟩:=us_4 hl;rfl
 have F20:=zdx (st:=zer) l20 c20 k20
 have b20:=F20.binds (ps:=["_law_web_here","_law_places","_law_rules_here","_law_due"]) λ_ _ _ _ _ _ us hl=>by obtain⟨_,_,_,_,rfl⟩:=us_4 hl;rfl
 have F21:=zdx (st:=zgr) l21 c21 k21
 have b21:=F21.binds (ps:=["_law_web_here"]) λ_ _ _ _ _ _ us hl=>by obtain⟨_,rfl⟩:=us_1 hl;rfl
 have F22:=zdx (st:=zgs) l22 c22 k22
 have b22:=F22.binds (ps:=["_law_rules_here","_law_title","_law_choice","_law_cell","_law_kinds"]) λ_ _ _ _ _ _ us hl=>by obtain⟨_,_,_,_,_,rfl⟩:=us_5 hl;rfl
 have F23:=zdx (st:=zgt) l23 c23 k23
 have b23:=F23.binds (ps:=["_law_row","_law_names_here"]) λ_ _ _ _ _ _ us hl=>by obtain⟨_,_,rfl⟩:=us_2 hl;rfl
 have F24:=zdx (st:=ztu) l24 c24 k24
 refine⟨qo "law" "law" (zbt ztu) (zbm ztu) (zam ztu) .none kV24 dc24 pm24 an24 cd24 ct24,λs v=>.of_eq rfl,λbase _ _=>?_⟩
 have XF:=zdx (st:=zsv (top 1) 0) xl xc xk
 have xv:=qAF X G xz
 obtain⟨cl,cl0,cl1⟩:∃cl:Str->Addr,cl "NoBook"=y0/\cl "NoWeb"=y1:=⟨λs=>if s="NoBook"then y0 else if s="NoWeb"then y1 else 0,rfl,rfl⟩
 have XM0:XMk K y0 fI:=⟨(zajr xlc0 xb0).1,(zajr xlc0 xb0).2,xi0,xf,xkp0,xsa0,xat0,xga0,xgh0⟩
 have X_NoBook:XcOk l.prog w K mg base "NoBook" (cl "NoBook"):=by rw[cl0];exact⟨fI,_,XM0,zafj XF XM0 xv rfl rfl (by decide) (λ_=>⟨_,rfl⟩),XF.binds (ps:=["self","at"]) (λ_ _ _ _ _ _ us hl=>by obtain⟨_,_,rfl⟩:=us_2 hl;rfl),qY X G xa0,xcl0,zalr xs0_b xp0 xq0 xs0_s⟩
 have XM1:XMk K y1 fI:=⟨(zajr xlc1 xb1).1,(zajr xlc1 xb1).2,xi1,xf,xkp1,xsa1,xat1,xga1,xgh1⟩
 have X_NoWeb:XcOk l.prog w K mg base "NoWeb" (cl "NoWeb"):=by rw[cl1];exact⟨fI,_,XM1,zafj XF XM1 xv rfl rfl (by decide) (λ_=>⟨_,rfl⟩),XF.binds (ps:=["self","at"]) (λ_ _ _ _ _ _ us hl=>by obtain⟨_,_,rfl⟩:=us_2 hl;rfl),qY X G xa1,xcl1,zalr xs1_b xp1 xq1 xs1_s⟩
 have XK_law_refused:XKit l.prog w K mg base cl ["NoBook"] [] "NoBook":=by
  refine⟨(ztr X_NoBook zru),?_,?_,?_,?_,?_,xv⟩
  ·rw[cl0];exact(ztr (by rw[cl0];exact zasw xBb xp0 xq0 xs0_B) zru)
  ·exact(ztr zru zru)
  ·exact(ztr (by rw[cl0];exact zasv xs0_v) zru)
  ·exact zru
  ·rw[cl0];exact qY X G xa0
 have D_is_whole:zsg l.prog w K mg base:=⟨f1,_,zzd F1 T , qY X G a1,k1,b1⟩
 have D_is_name:zqw l.prog w K mg base:=⟨f2,_,zacg F2 T , qY X G a2,k2,b2⟩
 have D_are_unlike_of:zlb l.prog w K mg base:=⟨f3,_,zoq F3 T , qY X G a3,k3,b3⟩
 have D_is_kind_behind:zhf l.prog w K mg base:=⟨f4,_,znw F4 T D_are_unlike_of D_is_name,qY X G a4,k4,b4⟩
 have D_copy_of_web:zga l.prog w K mg base:=⟨f5,_,zrm F5 T , qY X G a5,k5,b5⟩
 have DT_copy_of_web:zix l.prog w K mg base:=⟨f5,_,zrf F5 T , qY X G a5,k5,b5⟩
 have D_web_of:zakf l.prog w K mg base:=⟨f6,_,zago F6 T D_copy_of_web D_is_kind_behind,qY X G a6,k6,b6⟩
 have D_web_of__X:zqx l.prog w K mg base cl:=⟨f6,_,zxg (cl:=cl) F6 T D_copy_of_web D_is_kind_behind X_NoWeb,qY X G a6,k6,b6⟩
 have D_is_web:zow l.prog w K mg base:=⟨f7,_,zagp (cl:=cl) F7 T D_web_of__X X_NoWeb,qY X G a7,k7,b7⟩
 have D_names_of:zlq l.prog w K mg base:=⟨f8,_,zze F8 T , qY X G a8,k8,b8⟩
 have D_count_calls:znk l.prog w K mg base:=⟨f9,_,zrn F9 T , qY X G a9,k9,b9⟩
 have D_has_room:zlr l.prog w K mg base:=⟨f10,_,zzf F10 T D_count_calls D_is_whole,qY X G a10,k10,b10⟩
 have D_are_kinds:zqy l.prog w K mg base:=⟨f11,_,zxh F11 T , qY X G a11,k11,b11⟩
 have D_is_rule_behind:zff l.prog w K mg base:=⟨f12,_,znx F12 T D_are_kinds D_is_name,qY X G a12,k12,b12⟩
 have D_book_of:zxd l.prog w K mg base:=⟨f13,_,zach F13 T D_copy_of_web D_has_room D_is_rule_behind D_is_web D_names_of,qY X G a13,k13,b13⟩
 have DT_book_of:zsi l.prog w K mg base:=⟨f13,_,zzh F13 T DT_copy_of_web D_has_room D_is_rule_behind D_is_web D_names_of,qY X G a13,k13,b13⟩
 have D_book_of__X:zlc l.prog w K mg base cl:=⟨f13,_,ztx (cl:=cl) F13 T D_copy_of_web D_has_room D_is_rule_behind D_is_web D_names_of X_NoBook,qY X G a13,k13,b13⟩
 have D_is_book:zxe l.prog w K mg base:=⟨f14,_,zaci (cl:=cl) F14 T D_book_of__X X_NoBook,qY X G a14,k14,b14⟩
 have D_law_draws:Dn l.prog w K mg base "_law_draws" ["_law_script","_law_many"] 1 (zzo K):=⟨f15,_,zxx F15 T , qY X G a15,k15,b15⟩
 have D_law_names:zqz l.prog w K mg base:=⟨f16,_,zxi F16 T , qY X G a16,k16,b16⟩
 have D_law_web:zxf l.prog w K mg base:=⟨f17,_,zacj F17 T , qY X G a17,k17,b17⟩
 have D_law_rules:zra l.prog w K mg base:=⟨f18,_,zxj F18 T , qY X G a18,k18,b18⟩
 have D_law_alike:zrb l.prog w K mg base:=⟨f19,_,zxk F19 T , qY X G a19,k19,b19⟩
 have D_law_refused:znl l.prog w K mg base:=⟨f20,_,zro (cl:=cl) F20 T D_book_of__X XK_law_refused,qY X G a20,k20,b20⟩
 have D_law_copy:zsh l.prog w K mg base:=⟨f21,_,zzg F21 T , qY X G a21,k21,b21⟩
 have DT_law_copy:zre l.prog w K mg base:=⟨f21,_,zxn F21 T , qY X G a21,k21,b21⟩
 have D_law_wrong:zrc l.prog w K mg base:=⟨f22,_,zxl F22 T , qY X G a22,k22,b22⟩
 have D_law_first:zrd l.prog w K mg base:=⟨f23,_,zxm F23 T , qY X G a23,k23,b23⟩
 exact zatt F24 T D_law_alike D_law_copy D_law_draws D_law_first D_law_names D_law_refused D_law_rules D_law_web D_law_wrong D_book_of D_is_book DT_copy_of_web DT_book_of DT_law_copy
theorem walk{l:PySem.W.OpenLaw}{q:Program}{loose:List Str}{XP:(Str->Option Value)->Heap->Prop}{YP:World->Heap->Prop}{d:DefRec}{K:Params->qB}(hn:l.most=some 63)(hdf:d.params.defaults=[])
  (hY:∀(w:World) (h:Heap),YP w h->(K w.params).In h)
  (F:∀(w:World)(mg:Str->Option Value)(fa:Addr)(h:Heap),(K w.params).In h->h.Ns qR mg->mg d.name=some (.ref fa)->
   ∃fd:qw,(∀(s:Shared)(u:Value),BindsTo s fd ⟨[u],[]⟩ [("_law_script",u)])/\∀base:Heap,(K w.params).In base->base.Ns qR mg->FnOk l.prog w (K w.params) mg base CX0 7 fa fd ["_law_script"] (zakt (K w.params))) :
  PySem.W.WalkO q loose XP YP l.row.toRowW d [] (λf vs=>PySem.call f vs):=
 L2.walk_of (n:=63) (k:=7) (x:="_law_script") (CX:=λ_=>CX0) (sp:=λw=>zakt (K w.params)) hn (by decide) hdf ⟨rfl,by decide,by decide,rfl⟩ hY F (λ_ _ a ns hl _ hS=>⟨a,ns,rfl,hS,λ_=>rfl⟩) λ_ _ _ _ _ z=>z
end Bc
theorem PySem.W.Fast.te1323821831116167883:True:=trivial
noncomputable def PySem.W.Fast.tw6542765285119910629:PySem.Program:=PySem.Challenge.pw_bestcalls_k13_books_made
theorem PySem.W.Fast.te6542765285119910629:PySem.Challenge.pw_bestcalls_k13_books_made=PySem.W.Fast.tw6542765285119910629:=rfl
open PySem PySem.W PyProof.Rows
set_option maxRecDepth 100000 in
set_option maxHeartbeats 0 in
theorem PySem.Challenge.cw_bestcalls_k13_books_made_holds : PySem.Challenge.rw_bestcalls_k13_books_made.Holds := by
 w_on;o_law;k_head;(case hw=>w_witness2)
 k_fill
 refine Bc.walk (l:=PySem.Challenge.rw_bestcalls_k13_books_made) rfl rfl (λw h Y=>PySem.W.kIn_of Y) ?F
 case F=>
  intro w mg fa h KX G hmg
  refine' Bc.all_mk KX G hmg ?a1 ?l1 ?c1 ?k1 ?a2 ?l2 ?c2 ?k2 ?a3 ?l3 ?c3 ?k3 ?a4 ?l4 ?c4 ?k4 ?a5 ?l5 ?c5 ?k5 ?a6 ?l6 ?c6 ?k6 ?a7 ?l7 ?c7 ?k7 ?a8 ?l8 ?c8 ?k8 ?a9 ?l9 ?c9 ?k9 ?a10 ?l10 ?c10 ?k10 ?a11 ?l11 ?c11 ?k11 ?a12 ?l12 ?c12 ?k12 ?a13 ?l13 ?c13 ?k13 ?a14 ?l14 ?c14 ?k14 ?a15 ?l15 ?c15 ?k15 ?a16 ?l16 ?c16 ?k16 ?a17 ?l17 ?c17 ?k17 ?a18 ?l18 ?c18 ?k18 ?a19 ?l19 ?c19 ?k19 ?a20 ?l20 ?c20 ?k20 ?a21 ?l21 ?c21 ?k21 ?a22 ?l22 ?c22 ?k22 ?a23 ?l23 ?c23 ?k23 ?a24 ?l24 ?c24 ?k24 ?xa0 ?xp0 ?xq0 ?xa1 ?xp1 ?xq1 ?xz ?xi0 ?xi1 ?xl ?xc ?xk ?xf ?xlc0 ?xb0 ?xkp0 ?xsa0 ?xat0 ?xga0 ?xgh0 ?xcl0 ?xs0_b ?xs0_v ?xs0_s ?xs0_B ?xlc1 ?xb1 ?xkp1 ?xsa1 ?xat1 ?xga1 ?xgh1 ?xcl1 ?xs1_b ?xs1_v ?xs1_s ?xBb ?z1 ?z2 ?z3 ?z4 ?z5 ?z6 ?z7 ?z8 ?z9 ?z10 ?z11 ?z12 ?z13 ?g1 ?g2 ?g3 ?g4 ?g5 ?g6
  (case a1=>k_is)
  (case l1=>k_is)
  (case c1=>k_is)
  (case k1=>k_is)
  (case a2=>k_is)
  (case l2=>k_is)
  (case c2=>k_is)
  (case k2=>k_is)
  (case a3=>k_is)
  (case l3=>k_is)
  (case c3=>k_is)
  (case k3=>k_is)
  (case a4=>k_is)
  (case l4=>k_is)
  (case c4=>k_is)
  (case k4=>k_is)
  (case a5=>k_is)
  (case l5=>k_is)
  (case c5=>k_is)
  (case k5=>k_is)
  (case a6=>k_is)
  (case l6=>k_is)
  (case c6=>k_is)
  (case k6=>k_is)
  (case a7=>k_is)
  (case l7=>k_is)
  (case c7=>k_is)
  (case k7=>k_is)
  (case a8=>k_is)
  (case l8=>k_is)
  (case c8=>k_is)
  (case k8=>k_is)
  (case a9=>k_is)
  (case l9=>k_is)
  (case c9=>k_is)
  (case k9=>k_is)
  (case a10=>k_is)
  (case l10=>k_is)
  (case c10=>k_is)
  (case k10=>k_is)
  (case a11=>k_is)
  (case l11=>k_is)
  (case c11=>k_is)
  (case k11=>k_is)
  (case a12=>k_is)
  (case l12=>k_is)
  (case c12=>k_is)
  (case k12=>k_is)
  (case a13=>k_is)
  (case l13=>k_is)
  (case c13=>k_is)
  (case k13=>k_is)
  (case a14=>k_is)
  (case l14=>k_is)
  (case c14=>k_is)
  (case k14=>k_is)
  (case a15=>k_is)
  (case l15=>k_is)
  (case c15=>k_is)
  (case k15=>k_is)
  (case a16=>k_is)
  (case l16=>k_is)
  (case c16=>k_is)
  (case k16=>k_is)
  (case a17=>k_is)
  (case l17=>k_is)
  (case c17=>k_is)
  (case k17=>k_is)
  (case a18=>k_is)
  (case l18=>k_is)
  (case c18=>k_is)
  (case k18=>k_is)
  (case a19=>k_is)
  (case l19=>k_is)
  (case c19=>k_is)
  (case k19=>k_is)
  (case a20=>k_is)
  (case l20=>k_is)
  (case c20=>k_is)
  (case k20=>k_is)
  (case a21=>k_is)
  (case l21=>k_is)
  (case c21=>k_is)
  (case k21=>k_is)
  (case a22=>k_is)
  (case l22=>k_is)
  (case c22=>k_is)
  (case k22=>k_is)
  (case a23=>k_is)
  (case l23=>k_is)
  (case c23=>k_is)
  (case k23=>k_is)
  (case a24=>k_is)
  (case l24=>k_is)
  (case c24=>k_is)
  (case k24=>k_is)
  (case xa0=>k_is)
  (case xp0=>k_is)
  (case xq0=>k_is)
  (case xa1=>k_is)
  (case xp1=>k_is)
  (case xq1=>k_is)
  (case xz=>k_is)
  (case xi0=>k_is)
  (case xi1=>k_is)
  (case xl=>k_is)
  (case xc=>k_is)
  (case xk=>k_is)
  (case xf=>k_is)
  (case xlc0=>k_is)
  (case xb0=>rfl)
  (case xkp0=>k_is)
  (case xsa0=>k_is)
  (case xat0=>k_is)
  (case xga0=>k_is)
  (case xgh0=>k_is)
  (case xcl0=>k_is)
  (case xs0_b=>k_is)
  (case xs0_v=>k_is)
  (case xs0_s=>k_is)
  (case xs0_B=>k_is)
  (case xlc1=>k_is)
  (case xb1=>rfl)
  (case xkp1=>k_is)
  (case xsa1=>k_is)
  (case xat1=>k_is)
  (case xga1=>k_is)
  (case xgh1=>k_is)
  (case xcl1=>k_is)
  (case xs1_b=>k_is)
  (case xs1_v=>k_is)
  (case xs1_s=>k_is)
  (case xBb=>k_is)
  (case z1=>k_is)
  (case z2=>k_is)
  (case z3=>k_is)
  (case z4=>k_is)
  (case z5=>k_is)
  (case z6=>k_is)
  (case z7=>k_is)
  (case z8=>k_is)
  (case z9=>k_is)
  (case z10=>k_is)
  (case z11=>k_is)
  (case z12=>k_is)
  (case z13=>k_is)
  (case g1=>k_is)
  (case g2=>k_is)
  (case g3=>k_is)
  (case g4=>k_is)
  (case g5=>k_is)
  (case g6=>k_is)
