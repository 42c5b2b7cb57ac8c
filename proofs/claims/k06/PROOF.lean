import PyProof.Rows.All
import Wide.All
import OpenK.AllK
import Wide.FinOn
import Lean
import PyProof.EqAt
import PyProof.EqKinds
import PyProof.TupleCall
import KE.KRevSl
import PyProof.MeetsStr
import PyProof.Rows.MinMaxN
import PyProof.ListRange
import KE.KTryOn
import PyProof.ExcInit
import PyProof.ExcClass3
import PyProof.ExcBaseAll.ValueError
import PyProof.InstStoreFacts
import ObjForm.Fk.InstStore
import PyProof.ExcArgsOwn
import PyProof.ExcAttrAll.ValueError
import PyProof.PureStr
import PyProof.FString2
import PyProof.Rows.FactsFmt
import PyProof.FactsAll.NoneType_2
import PyProof.NsDelKeeps
import PyProof.IsiBase
import PyProof.AutoListH
import PyProof.AutoSeq1
import PyProof.DictWalks
import PySem.Challenge.RW_bestcalls_k06_webs_made
set_option genSizeOf false
set_option Elab.async false
set_option linter.all false
set_option maxRecDepth 100000
noncomputable section
open Option renaming bind_eq_some_iff→qA,bind_some→qC,map_eq_some_iff→qG
open PySem.W renaming Frag→qB,nsIn→qk,keepIn→qm,mg_of→qt,fnOf→q0,mg_none_of→q9,codeIn→qAA,kia_one→qAO,looks_findIn→qAe,callWith_K→qAy,cellsFrom_some→qBT,codeRec_of→qCZ,kitx_list→qCc,kitx_dict→qCd
open List renaming length_map→qD,getElem?_eq_getElem→qF,getElem?_eq_some_iff→qI,getElem?_set_ne→qJ,mem_cons_of_mem→qL,size_toArray→qM,length_set→qN,getElem?_append_right→qP,mem_of_getElem?→qS,getElem?_map→qT,getElem?_append_left→qW,mem_cons→qX,length_append→qY,getElem?_set_self→qd,mem_cons_self→qf,mem_append_right→qg,all_eq_true→qr,nodup_cons→qu,mem_append→qv,append_nil→qw,length_eq_zero_iff→qAC,drop_eq_getElem_cons→qAD,getD_eq_getElem?_getD→qAF,mem_append_left→qAG,mem_map→qAH,contains_cons→qAI,lookup_cons→qAV,length_dropLast→qAW,mem_range→qAX,getElem_of_mem→qAY,length_replicate→qAb,map_cons→qAf,getElem?_replicate→qAg,mem_singleton→qAl,map_append→qAn,any_cons→qAp,all_cons→qAq,length_take→qAv,length_cons→qAw,take_append_of_le_length→qBC,isEmpty_iff→qBD,replicate_succ→qBG,filterMap_cons→qBH,mem_filterMap→qBK,getElem?_take→qBL,mem_or_eq_of_mem_set→qBO,getElem?_set→qBS,getElem?_cons_zero→qBW,getElem?_cons_succ→qBX,mem_nil_iff→qBZ,drop_length→qBa,of_mem_zip→qBf,getElem?_eq_none→qBg,dropLast_sublist→qBh,dropLast_eq_take→qBi,all_map→qBj,mem_of_mem_take→qBo,getElem?_zipIdx→qBp,nodup_nil→qBq,map_congr_left→qBs,map_take→qBx,nodup_append→qB1,length_range→qB2,eraseIdxIfInBounds_toArray→qB3,append_assoc→qB4,mem_flatMap→qB9,getElem_mem→qCA,mem_filter→qCD,pairwise_iff_getElem→qCK,eq_of_mem_replicate→qCQ,zipIdx_map_fst→qCg
open PySem.Heap renaming get?_push_of_some→qE,lt_size→qO,get?_push_size→qV,get?_update_other→qAM,get?_update_self→qAU,get?_none_of_le→qAr,size_push→qBP,get?_update_ne→qCi
open PySem renaming wpAny_bind→qH,Expr→qR,mainGlobals→qZ,sizeLine→qa,wpAny_pure→qc,Pos→qi,wpAny_loadPart_at→qs,starEach→qy,mem_of_lookup→qz,FuncData→qAB,wpAny_truthy_bool→qAP,wpAny_Call_Name_kw→qAT,wpAny_isSubtype_exc→qAZ,wpAny_execs_nil→qAa,codeAny_mono→qAj,sizeLine_eq→qAk,wpAny_field→qAs,wpAny_mono→qAu,codeAny_call_builtin→qAx,wpAny_setField→qAz,wpAny_loadPart'→qA9,wpAny_getItem_str_slice→qBA,call_meets→qBE,wpAny_execs_cons→qBJ,wpAny_call→qBN,wpAny_passesOwn→qBQ,wpAny_pyIter_tuple→qBV,wpAny_pyIter_list→qBc,wpAny_newObj_type→qBd,typeIs_str→qBe,wpAny_holding→qBk,wpAny_callSpecial?_slot→qBl,wpAny_isInstance→qBn,wpAny_pyReprObj_gives→qBu,post_val_or_str→qBv,wpAny_standAt→qCB,wpAny_call_entry→qCM,wpAny_Try_except→qCN,wpAny_of_eq→qCT,codeAny_builtin→qCU,wpAny_newFunctionEnv_cells→qCY,wpAny_Expr_any→qCb,wpAny_comprehension_free→qCf
open Bool renaming false_ne_true→qK,and_eq_true→qj,eq_iff_iff→qAQ,or_true→qAo,false_eq_true→qA2,and_eq_true_iff→qBF,and_false→qBr,or_eq_true_iff→qBt,true_and→qBz
open Nat renaming le_refl→qQ,lt_of_lt_of_le→qe,ne_of_lt→qx,le_trans→qAK,zero_le→qAR,lt_irrefl→qAh,add_sub_cancel_left→qBY,le_of_lt→qBm,lt_of_le_of_lt→qB0,le_of_succ_le→qB5,ne_of_gt→qB8,le_succ→qCH
open PySem.F renaming plainAttrs_list→qU,type_list_append→qo,slot_list_append→qp,slot_tuple_iterator_next→qAt,called_set→qA1,type_list_pop→qA5,slot_list_pop→qA6,excBase_ValueError→qBI,store_ValueError→qB6,args_tuple_add_2→qCC,entry_tuple_add→qCG,slot_tuple_add→qCJ,args_tuple_iterator_next_1→qCL,entry_tuple_iterator_next→qCS
open PySem.Str renaming ofString→qb
open PySem.PyData renaming eqv→qh,canLayAll0→qA4,strOk→qA8,depthAll→qB7
open Option.some renaming inj→qq
open Int renaming emod_nonneg→qAE,emod_lt_of_pos→qAL,eq_ofNat_of_zero_le→qA3,toNat_natCast→qBU,mul_nonneg→qCR
open PySem.Obj renaming data_mapFields→qAJ,isFreed_of_fields→qAd
open PySem.Builtin.SmallTypes renaming nextOf→qAN
open Array renaming getElem?_eq_some_iff→qAS,getElem?_eq_getElem→qBM,mem_of_getElem?→qCV,getElem?_toList→qCW,length_toList→qCe
open PySem.PassesOwn renaming never→qAc
open PySem.SeqAt renaming canLay_of_shaped→qAi,shaped→qBB
open Ne renaming symm→qAm
open PySem.Calls renaming spliced_cons→qA0,spliced_nil→qBR,callWith_builtin→qBb,Constant_str→qBw,Name_function_global→qCF,evalArgs_plain→qCa
open PyProof.Rows renaming callWith_type1→qA7
open PySem.Code renaming quiet_builtin→qBy
open PySem.Heap.SameBut renaming update→qCE
open PySem.W.Looks renaming ld→qCI
open PySem.SeqAt.EqAt renaming str_int→qCO,int_str→qCP
open PySem.Around renaming under_plainId→qCX
open List.Perm renaming refl→qCh
namespace L2
open PySem PySem.Spec PyProof.Rows
noncomputable abbrev Key:=Sum Int Str
noncomputable def zmw:Key->Value->Bool
 | .inl k,v=>Value.isInt k v
 | .inr x,v=>Value.isStrOf x v
noncomputable def keyH(w:World):Key->Int
 | .inl k=>hashInt k
 | .inr x=>hashStr w x
theorem zbu:∀{k:Key}{v:Value},zmw k v=true->(∃i t,k=Sum.inl i/\v=Value.int i t)\/(∃x t,k=Sum.inr x/\v=Value.str x t)
 | .inl i,v,h=>by
  obtain⟨t,e⟩:=Value.isInt_shape (k:=i) (v:=v) h
  exact .inl ⟨i,t,rfl,e⟩
 | .inr x,v,h=>by
  obtain⟨t,e⟩:=Value.isStrOf_shape (x:=x) (v:=v) h
  exact .inr ⟨x,t,rfl,e⟩
theorem zvm(i:Int)(t:Tok):zmw (.inl i) (.int i t)=true:=by simp[zmw,Value.isInt]
theorem zvn(x:Str)(t:Tok):zmw (.inr x) (.str x t)=true:=by simp[zmw,Value.isStrOf]
theorem zahg(a b:Int):decide ((Sum.inl a:Key)=Sum.inl b)=(a==b):=by
 by_cases e:a=b
 ·subst e;simp
 ·have h:¬(Sum.inl a:Key)=Sum.inl b:=λq=>e (Sum.inl.inj q)
  rw[decide_eq_false h]
  exact(beq_eq_false_iff_ne.mpr e).symm
theorem zahh(a b:Str):decide ((Sum.inr a:Key)=Sum.inr b)=decide (a=b):=by
 by_cases e:a=b
 ·subst e;simp
 ·have h:¬(Sum.inr a:Key)=Sum.inr b:=λq=>e (Sum.inr.inj q)
  rw[decide_eq_false h,decide_eq_false e]
theorem zahi(a:Int)(b:Str):decide ((Sum.inl a:Key)=Sum.inr b)=false:=decide_eq_false (λq=>nomatch q)
theorem zahj(a:Str)(b:Int):decide ((Sum.inr a:Key)=Sum.inl b)=false:=decide_eq_false (λq=>nomatch q)
noncomputable def zdo(prog:Program)(w:World):PySem.KeyKind prog w Key where
 is:=zmw
 hash:=keyH w
 inj:=λv a b ha hb=>by
  rcases zbu ha with⟨i,t,rfl,rfl⟩|⟨x,t,rfl,rfl⟩
  ·rcases zbu hb with⟨j,u,rfl,e⟩|⟨y,u,rfl,e⟩
   ·injection e with e1 _;rw[e1]
   ·exact nomatch e
  ·rcases zbu hb with⟨j,u,rfl,e⟩|⟨y,u,rfl,e⟩
   ·exact nomatch e
   ·injection e with e1 _;rw[e1]
 byValue:=λk v h=>by
  rcases zbu h with⟨i,t,rfl,rfl⟩|⟨x,t,rfl,rfl⟩<;>rfl
 pyHash:=λhv h=>by
  rcases zbu hv with⟨i,t,rfl,rfl⟩|⟨x,t,rfl,rfl⟩
  ·exact wpAny_pyHash_int h
  ·exact wpAny_pyHash_str h
 eqBool:=λhu hv h=>by
  rcases zbu hu with⟨i,t,rfl,rfl⟩|⟨x,t,rfl,rfl⟩
  ·rcases zbu hv with⟨j,u,rfl,rfl⟩|⟨y,u,rfl,rfl⟩
   ·rw[zahg]at h;exact wpAny_eqBool_int h
   ·rw[zahi]at h;exact qCP i t y u _ _ _ _ h
  ·rcases zbu hv with⟨j,u,rfl,rfl⟩|⟨y,u,rfl,rfl⟩
   ·rw[zahj]at h;exact qCO x t j u _ _ _ _ h
   ·rw[zahh]at h;exact wpAny_eqBool_str h
 «strs»:=λk x t v h=>by
  rcases zbu h with⟨i,u,rfl,e⟩|⟨y,u,rfl,e⟩
  ·exact nomatch e
  ·injection e with e1 _
   subst e1
   cases v<;>rfl
theorem zrq(prog:Program)(w:World)(i:Int)(t:Tok):(zdo prog w).is (.inl i) (.int i t)=true:=zvm i t
theorem zrr(prog:Program)(w:World)(x:Str)(t:Tok):(zdo prog w).is (.inr x) (.str x t)=true:=zvn x t
inductive V where
 | non|bl (b:Bool)|int (i:Int)|str (x:Str)|byt (b:Array UInt8)|flt (b:UInt64)|ref (a:Addr)|ty (n:String)
 deriving DecidableEq
noncomputable def RelV:V->Value->Prop
 | .non,u=>u=Value.none
 | .bl b,u=>u=Value.bool b
 | .int i,u=>∃t,u=Value.int i t
 | .str x,u=>∃t,u=Value.str x t
 | .byt b,u=>∃t,u=Value.bytes b t
 | .flt b,u=>∃t,u=Value.float b t
 | .ref a,u=>u=Value.ref a
 | .ty n,u=>u=Value.type n
noncomputable abbrev Vals:List V->List Value->Prop:=Paired RelV
theorem Vals.length{xs:List V}{us:List Value}(r:Vals xs us):xs.length=us.length:=Paired.length r
theorem Vals.get:∀{xs:List V}{us:List Value}{i:Nat}{x:V},Vals xs us->xs[i]?=some x->∃u,us[i]?=some u/\RelV x u
 | _,_,_,_,.nil,e=>by simp at e
 | _,_,0,_,.cons r _,e=>by simp at e;subst e;exact⟨_,rfl,r⟩
 | _,_,i+1,x,.cons _ t,e=>by
  obtain⟨u,h1,h2⟩:=Vals.get (i:=i) (x:=x) t (by simpa using e)
  exact⟨u,by simpa using h1,h2⟩
theorem Vals.set{x:V}{u:Value}(r:RelV x u):∀{xs:List V}{us:List Value}(i:Nat),Vals xs us->Vals (xs.set i x) (us.set i u)
 | _,_,_,.nil=>.nil
 | _,_,0,.cons _ t=>.cons r t
 | _,_,i+1,.cons q t=>.cons q (Vals.set r i t)
theorem Vals.append:∀{xs ys:List V}{us ws:List Value},Vals xs us->Vals ys ws->Vals (xs++ys) (us++ws)
 | _,_,_,_,.nil,s=>s
 | _,_,_,_,.cons r t,s=>.cons r (Vals.append t s)
theorem Vals.take:∀{xs:List V}{us:List Value}(n:Nat),Vals xs us->Vals (xs.take n) (us.take n)
 | _,_,0,_=>.nil
 | _,_,_+1,.nil=>.nil
 | _,_,n+1,.cons r t=>.cons r (Vals.take n t)
theorem Vals.drop:∀{xs:List V}{us:List Value}(n:Nat),Vals xs us->Vals (xs.drop n) (us.drop n)
 | _,_,0,r=>r
 | _,_,_+1,.nil=>.nil
 | _,_,n+1,.cons _ t=>Vals.drop n t
noncomputable def RelO:Option V->Option Value->Prop
 | some v,some u=>RelV v u
 | none,none=>True
 | _,_=>False
noncomputable def KV{κ:Type}:List (κ×V)->List (κ×Value)->Prop:=Paired λ(p:κ×V)(q:κ×Value)=>p.1=q.1/\RelV p.2 q.2
noncomputable def kV:Key->V
 | .inl i=>.int i
 | .inr x=>.str x
inductive HO where
  | lst (xs:List V)
  | tup (xs:List V)
  | dK (kvs:List (Key×V))|dT (kvs:List (List Key×V))
  | set (S:Int->Bool) (n:Nat)
  | ins (C dx:Addr) (fs:List (Str×V))
  | own (x:Addr)
  | xd (fs:List (Str×V))
  | met (f x:Addr)
  | rng (lo hi:Int)
  | frz (o:Obj) (u:HO)
  | tbl (ps:Array Value)
  | ext (φ:Heap->Prop)
noncomputable abbrev Hp:=Addr->Option HO
noncomputable def upd(H:Hp)(a:Addr)(o:HO):Hp:=λb=>if b=a then some o else H b
theorem zap{H:Hp}{a:Addr}{o:HO}:upd H a o a=some o:=by unfold upd;rw[if_pos rfl]
theorem zaq{H:Hp}{a b:Addr}{o:HO}(h:b≠a):upd H a o b=H b:=by unfold upd;rw[if_neg h]
theorem zadp{H:Hp}{a:Addr}{o u:HO}:upd (upd H a o) a u=upd H a u:=by
 funext b;unfold upd;split<;>rfl
theorem zbg{H:Hp}{a b:Addr}{o:HO}(h:H a=some o)(h':H b=none):a≠b:=by
 intro e;subst e;rw[h]at h';cases h'
section
variable(P:Program)(w:World)
noncomputable def zdp(H:Hp)(h:Heap)(a:Addr):HO->Prop
 | .lst xs=>xs.length<=qa/\∃(its:List Value)(n:Nat),Vals xs its/\h.get? a=some {cls:=.type "list",data:=.seq its.toArray n}
 | .tup xs=>xs.length<=qa/\∃its:List Value,Vals xs its/\IsTup h a its.toArray
 | .dK kvs=>kvs.length<=qa/\(a==sysModules)=false/\∃vs,KV kvs vs/\h.DictOf (zdo P w) a vs
 | .dT kvs=>kvs.length<=qa/\(a==sysModules)=false/\∃xs:List (List Key×Addr×Value),
   Paired (λ(p:List Key×V)(q:List Key×Addr×Value)=>p.1=q.1/\H q.2.1=some (.tup (p.1.map kV))/\RelV p.2 q.2.2) kvs xs/\
   ∃o es ep,h.get? a=some o/\o.ExactDict/\o.data=.dict es ep/\es.toList=xs.map (entryOfKey (tupleKind (zdo P w)))/\(xs.map (·.1)).Nodup
 | .set S n=>h.SetOf (intKind P w) a S n
 | .ins C dx fs=>H dx=some (.own a)/\fs.length<=1000/\dx≠a/\h.get? a=some (PySem.W.instObj C dx)/\
   ∃mA,h.Ns1 dx mA/\(∀f,RelO (fs.lookup f) (mA f))/\PySem.Within mA (fs.map (·.1))
 | .own _=>∃o,h.get? a=some o
 | .xd fs=>∃mA,h.Ns1 a mA/\∀f,RelO (fs.lookup f) (mA f)
 | .rng lo hi=>∃t u v,h.get? a=some {cls:=.type "range",data:=.fields #[.int lo t,.int hi u,.int 1 v]}
 | .frz o u=>h.get? a=some o/\zdp H h a u
 | .tbl ps=>h.get? a=some {cls:=.none,data:=.fields ps}
 | .met f x=>h.get? a=some (PySem.W.methodObj (.ref f) (.ref x))
 | .ext φ=>φ h/\(∃o,h.get? a=some o)/\∀h1 h2:Heap,φ h1->(∀o,h1.get? a=some o->h2.get? a=some o)->φ h2
noncomputable def HOk(H:Hp)(h:Heap):Prop:=∀a o,H a=some o->zdp P w H h a o
end
section
variable{P:Program}{w:World}{H H':Hp}{h h':Heap}{a:Addr}{o:HO}
theorem zdp.lt(x:zdp P w H h a o):a<h.objs.size:=by
 cases o with
 | lst xs=>obtain⟨_,_,_,_,e⟩:=x;exact qO e
 | tup xs=>obtain⟨_,_,_,p⟩:=x;exact p.lt
 | dK kvs=>obtain⟨_,_,_,_,o,_,_,e,_⟩:=x;exact qO e
 | dT kvs=>obtain⟨_,_,_,_,o,_,_,e,_⟩:=x;exact qO e
 | set S n=>obtain⟨o,_,_,_,e,_⟩:=x;exact qO e
 | ins C dx fs=>obtain⟨_,_,_,e,_⟩:=x;exact qO e
 | own y=>obtain⟨_,e⟩:=x;exact qO e
 | xd fs=>obtain⟨_,⟨_,_,_,e,_⟩,_⟩:=x;exact qO e
 | rng lo hi=>obtain⟨_,_,_,e⟩:=x;exact qO e
 | frz ob u=>obtain⟨e,_⟩:=x;exact qO e
 | tbl ps=>exact qO (show h.get? a=some _ from x)
 | met f y=>exact qO (show h.get? a=some _ from x)
 | ext φ=>obtain⟨_,⟨_,e⟩,_⟩:=x;exact qO e
theorem Paired.mapP{α β:Type}{F G:α->β->Prop}:∀{l₁:List α}{l₂:List β},Paired F l₁ l₂->(∀a b,F a b->G a b)->Paired G l₁ l₂
 | _,_,.nil,_=>.nil
 | _,_,.cons r t,f=>.cons (f _ _ r) (Paired.mapP t f)
theorem zdp.stay(x:zdp P w H h a o)(k:∀b u,(b=a\/H b=some (.own a))->h.get? b=some u->h'.get? b=some u)
  (ho:∀b,H b=some (.own a)->H' b=some (.own a))(ht:∀b xs,H b=some (.tup xs)->H' b=some (.tup xs)):zdp P w H' h' a o:=by
 induction o with
 | lst xs=>obtain⟨z,its,n,r,e⟩:=x;exact⟨z,its,n,r,k _ _ (.inl rfl) e⟩
 | tup xs=>obtain⟨z,its,r,ob,e,c⟩:=x;exact⟨z,its,r,ob,k _ _ (.inl rfl) e,c⟩
 | dK kvs=>obtain⟨z,y,vs,r,ob,es,ep,e,c⟩:=x;exact⟨z,y,vs,r,ob,es,ep,k _ _ (.inl rfl) e,c⟩
 | dT kvs=>
  obtain⟨z,y,xs,r,ob,es,ep,e,c⟩:=x
  exact⟨z,y,xs,Paired.mapP r λp q z=>⟨z.1,ht _ _ z.2.1,z.2.2⟩,ob,es,ep,k _ _ (.inl rfl) e,c⟩
 | set S n=>obtain⟨ob,es,ep,t,e,c⟩:=x;exact⟨ob,es,ep,t,k _ _ (.inl rfl) e,c⟩
 | ins C dx fs=>
  obtain⟨d,z,ne,e,mA,⟨od,es,ep,e2,c⟩,r⟩:=x
  exact⟨ho _ d,z,ne,k _ _ (.inl rfl) e,mA,⟨od,es,ep,k _ _ (.inr d) e2,c⟩,r⟩
 | own y=>obtain⟨ob,e⟩:=x;exact⟨ob,k _ _ (.inl rfl) e⟩
 | xd fs=>obtain⟨mA,⟨od,es,ep,e,c⟩,r⟩:=x;exact⟨mA,⟨od,es,ep,k _ _ (.inl rfl) e,c⟩,r⟩
 | rng lo hi=>obtain⟨t,u,v,e⟩:=x;exact⟨t,u,v,k _ _ (.inl rfl) e⟩
 | frz ob u ih=>obtain⟨e,q⟩:=x;exact⟨k _ _ (.inl rfl) e,ih q⟩
 | tbl ps=>
  have e:h.get? a=some {cls:=.none,data:=.fields ps}:=x
  show h'.get? a=some {cls:=.none,data:=.fields ps}
  exact k a _ (.inl rfl) e
 | met f y=>
  have e:h.get? a=some (PySem.W.methodObj (.ref f) (.ref y)):=x
  show h'.get? a=some (PySem.W.methodObj (.ref f) (.ref y))
  exact k a _ (.inl rfl) e
 | ext φ=>obtain⟨p,⟨o,e⟩,st⟩:=x;exact⟨st _ _ p λo q=>k _ _ (.inl rfl) q,⟨o,k _ _ (.inl rfl) e⟩,st⟩
theorem HOk.lt(x:HOk P w H h)(e:H a=some o):a<h.objs.size:=(x a o e).lt
theorem HOk.fresh(x:HOk P w H h)(e:h.objs.size<=a):H a=none:=by
 cases q:H a with
 | none=>rfl
 | some u=>exact absurd (qe (x.lt q) e) (qAh _)
theorem HOk.kept(x:HOk P w H h)(k:∀b u,h.get? b=some u->h'.get? b=some u):HOk P w H h':=λa o e=>
 (x a o e).stay (λb u _ q=>k b u q) (λ_ q=>q) λ_ _ q=>q
theorem HOk.laid(x:HOk P w H h)(k:∀b u,h.get? b=some u->h'.get? b=some u)(hp:h.objs.size<=a)(new:zdp P w (upd H a o) h' a o):HOk P w (upd H a o) h':=λb u e=>by
 have hn:=x.fresh hp
 by_cases hb:b=a
 ·subst hb;rw[zap]at e;cases e;exact new
 ·rw[zaq hb]at e
  exact(x b u e).stay (λc v _ q=>k c v q) (λc q=>by rw[zaq (zbg q hn)];exact q) λc xs q=>by rw[zaq (zbg q hn)];exact q
end
noncomputable def Rd(H:Hp)(a:Addr)(u:HO):Prop:=H a=some u\/∃o,H a=some (.frz o u)
theorem Rd.ok{P:Program}{w:World}{H:Hp}{h:Heap}{a:Addr}{u:HO}(r:Rd H a u)(x:HOk P w H h):zdp P w H h a u:=by
 rcases r with r|⟨o,r⟩
 ·exact x a u r
 ·obtain⟨_,q⟩:=x a _ r
  exact q
noncomputable def Mut:Option HO->Prop
 | some (.lst _)=>True
 | some (.dK _)=>True
 | some (.dT _)=>True
 | some (.set _ _)=>True
 | some (.ins _ _ _)=>True
 | some (.ext _)=>True
 | _=>False
section
variable{P:Program}{w:World}{H:Hp}{h h':Heap}{x e:Addr}{o':HO}
theorem HOk.write(ok:HOk P w H h)(mu:Mut (H x))(he:e=x\/H e=some (.own x))(k:∀b u,b≠e->h.get? b=some u->h'.get? b=some u)(heo:∃u,h'.get? e=some u)
  (new:zdp P w (upd H x o') h' x o'):HOk P w (upd H x o') h':=λb u q=>by
 have nown:∀c y,H c=some (.own y)->c≠x:=λc y r z=>by subst z;rw[r]at mu;exact mu
 have ntup:∀c xs,H c=some (.tup xs)->c≠x:=λc xs r z=>by subst z;rw[r]at mu;exact mu
 by_cases hb:b=x
 ·subst hb;rw[zap]at q;cases q;exact new
 ·rw[zaq hb]at q
  by_cases hbe:b=e
  ·have q':H b=some (.own x):=by
    rcases he with z|z
    ·exact absurd (hbe.trans z) hb
    ·rw[hbe];exact z
   rw[q]at q';cases q'
   obtain⟨v,hv⟩:=heo
   exact⟨v,by rw[hbe];exact hv⟩
  ·refine(ok b u q).stay (λc v hc r=>k c v ?_ r) (λc r=>by rw[zaq (nown c b r)];exact r) λc xs r=>by rw[zaq (ntup c xs r)];exact r
   rcases hc with rfl|hc
   ·exact hbe
   ·rintro rfl
    rcases he with z|z
    ·exact nown c b hc z
    ·rw[hc]at z;cases z;exact hb rfl
end
set_option genInjectivity false in
structure Un(fs ex:List Addr)(H H':Hp)(h h':Heap):Prop where
 keep:∀b o,h.get? b=some o->H b=none->b∉fs->b∉ex->h'.get? b=some o
 slot:∀b o,h.get? b=some o->H b=none->b∈fs->b∉ex->∃sl,h'.get? b=some {o with slots:=sl}
 free:∀b o,h.get? b=some o->H b=none->b∉ex->H' b=none
 there:∀b o,h.get? b=some o->b∉ex->∃o',h'.get? b=some o'
 tups:∀b xs,H b=some (.tup xs)->H' b=some (.tup xs)
 frzs:∀b o u,H b=some (.frz o u)->H' b=some (.frz o u)
 tbls:∀b ps,H b=some (.tbl ps)->∃more,H' b=some (.tbl (ps++more))
section
variable{fs fs' ex ex':List Addr}{H H1 H2:Hp}{h h1 h2 h':Heap}{a x e:Addr}{o:HO}
theorem Un.any(u:Un fs ex H H1 h h1){b:Addr}{ob:Obj}(q:h.get? b=some ob)(n:H b=none)(hx:b∉ex):∃sl,h1.get? b=some {ob with slots:=sl}:=by
 by_cases hb:b∈fs
 ·exact u.slot b ob q n hb hx
 ·exact⟨ob.slots,u.keep b ob q n hb hx⟩
theorem Un.kept(k:∀b u,h.get? b=some u->h'.get? b=some u):Un fs ex H H h h':=
 ⟨λb ob q _ _ _=>k b ob q,λb ob q _ _ _=>⟨ob.slots,k b ob q⟩,λ_ _ _ n _=>n,λb ob q _=>⟨ob,k b ob q⟩,λ_ _ q=>q,λ_ _ _ q=>q,λ_ ps q=>⟨#[],by rw[q];simp⟩⟩
theorem Un.refl:Un fs ex H H h h:=Un.kept λ_ _ q=>q
theorem Un.laid(k:∀b u,h.get? b=some u->h'.get? b=some u)(hp:h.objs.size<=a)(hn:H a=none):Un fs ex H (upd H a o) h h' where
 keep:=λb u q _ _ _=>k b u q
 slot:=λb u q _ _ _=>⟨u.slots,k b u q⟩
 free:=λb u q n _=>by rw[zaq (qx (qe (qO q) hp))];exact n
 there:=λb u q _=>⟨u,k b u q⟩
 tups:=λb xs q=>by rw[zaq (zbg q hn)];exact q
 frzs:=λb u xs q=>by rw[zaq (zbg q hn)];exact q
 tbls:=λb ps q=>⟨#[],by rw[zaq (zbg q hn),q];simp⟩
theorem Un.write(mu:Mut (H x))(he:e=x\/H e=some (.own x))(k:∀b u,b≠e->h.get? b=some u->h'.get? b=some u)(heo:∃u,h'.get? e=some u):Un fs ex H (upd H x o) h h':=by
 have hx:∀b,H b=none->b≠x:=λb n z=>by subst z;rw[n]at mu;exact mu
 have hb:∀b,H b=none->b≠e:=λb n z=>by
  subst z
  rcases he with r|r
  ·exact hx b n r
  ·rw[n]at r;cases r
 have hm:∀b u,H b=some u->¬Mut (some u)->b≠x:=λb u q nm z=>by subst z;rw[q]at mu;exact nm mu
 refine⟨λb u q n _ _=>k b u (hb b n) q,λb u q n _ _=>⟨u.slots,k b u (hb b n) q⟩,λb u q n _=>by rw[zaq (hx b n)];exact n,λb u q _=>?_,
  λb xs q=>by rw[zaq (hm b _ q λz=>z)];exact q,λb u xs q=>by rw[zaq (hm b _ q λz=>z)];exact q,λb ps q=>⟨#[],by rw[zaq (hm b _ q λz=>z),q];simp⟩⟩
 by_cases hbe:b=e
 ·subst hbe;exact heo
 ·exact⟨u,k b u hbe q⟩
end
noncomputable def trk(h:Heap)(H:Hp):List Addr:=(List.range h.objs.size).filter λa=>(H a).isSome
noncomputable def hidT(h:Heap)(H:Hp):Heap:=PySem.W.hideAll h (trk h H)
theorem zvo(h:Heap)(H:Hp):(hidT h H).objs.size=h.objs.size:=PySem.W.hideAll_size _ _
theorem zzy{h:Heap}{H:Hp}{b:Addr}{o:Obj}(e:h.get? b=some o)(n:H b=none):(hidT h H).get? b=some o:=
 PySem.W.hideAll_get _ e λhm=>by
  have q:(H b).isSome=true:=(qCD.mp hm).2
  rw[n]at q;simp at q
theorem zadq{h:Heap}{H:Hp}{b:Addr}{o:Obj}(e:(hidT h H).get? b=some o):h.get? b=some o/\H b=none:=by
 have e':h.get? b=some o:=PySem.W.of_hideAll (trk h H) e
 refine⟨e',?_⟩
 cases q:H b with
 | none=>rfl
 | some x=>
  have hm:b∈trk h H:=qCD.mpr ⟨qAX.mpr (qO e'),by simp[q]⟩
  have z:(hidT h H).get? b=none:=PySem.W.hideAll_none (trk h H) hm
  rw[z]at e;cases e
set_option genInjectivity false in
structure Mod(K:qB)(mg:Str->Option Value)(base:Heap):Prop where
 kin:K.In base
 glob:base.Ns qZ mg
 blt:∃mb,base.Ns builtinsNs mb/\∀x:Str,x≠"__name__"->mb x=bootBuiltins x
 nolimit:base.NoLimit
set_option genInjectivity false in
structure Cx where
 prog:Program
 w:World
 K:qB
 mg:Str->Option Value
 base:Heap
 A:Around
 N:List Str
 s₀:Shared
 H₀:Hp
 env:Env
 outer:List Env
 stack:List Env
 ex:List Addr
 fn:Str->Bool
 calm:Bool
 pn:List (Addr×Obj)
 xe:Value->Shared->Prop
noncomputable def frs(l:List Env):List Addr:=l.filterMap (·.frame)
noncomputable abbrev Cx.fs(X:Cx):List Addr:=frs X.outer
noncomputable def Vis(sc:Scope)(x:Str):Prop:=sc.names.lookup x=some .local\/sc.names.lookup x=some .cell\/sc.names.lookup x=some .free
noncomputable def visB(sc:Scope)(x:Str):Bool:=match sc.names.lookup x with
 | some .local=>true
 | some .cell=>true
 | some .free=>true
 | _=>false
theorem visB.of{sc:Scope}{x:Str}(h:visB sc x=true):Vis sc x:=by
 unfold visB at h
 cases e:sc.names.lookup x with
 | none=>rw[e]at h;cases h
 | some k=>rw[e]at h;cases k<;>first|exact .inl e|exact .inr (.inl e)|exact .inr (.inr e)|cases h
noncomputable def Loc(sc:Scope)(x:Str):Prop:=sc.names.lookup x=some .local\/sc.names.lookup x=some .cell
noncomputable def Look(env:Env)(h:Heap)(m:Str->Option Value)(x:Str)(u:Value):Prop:=
 (env.kindOf x=some .local/\m x=some u)\/((env.kindOf x=some .cell\/env.kindOf x=some .free)/\∃c,env.cells.lookup x=some c/\h.IsCell c (some u))
set_option genInjectivity false in
structure Cx.Ok(X:Cx):Prop where
 mod:Mod X.K X.mg X.base
 kind:X.env.scope.kind=.function
 glob:X.env.globals=qZ
 blt:X.env.builtins=builtinsNs
 above:X.s₀.heap.objs.size<=X.env.locals
 inj:∀x y c,X.env.cells.lookup x=some c->X.env.cells.lookup y=some c->x=y
 has:∀x,(X.env.kindOf x=some .cell\/X.env.kindOf x=some .free)->∃c,X.env.cells.lookup x=some c
 cab:∀x c,X.fn x=true->X.env.cells.lookup x=some c->X.s₀.heap.objs.size<=c
 hd:X.calm=true->X.A.handled=none
 frames:X.A.frames=some X.stack
 stk:X.stack=X.outer\/(X.stack=X.env::X.outer/\X.env.frame=some X.env.locals)
 exf:∀b∈X.ex,b≠X.env.locals/\∀x c,X.env.cells.lookup x=some c->c≠b
 bs:∀b o,X.base.get? b=some o->X.s₀.heap.get? b=some o/\X.H₀ b=none
 bsz:X.base.objs.size<=X.s₀.heap.objs.size
 noex:∀b o,X.base.get? b=some o->b∉X.ex
 exfs:∀b∈X.ex,b∉X.fs
 funs:X.s₀.heap.FunFrames X.base X.outer
 frf:∀b∈X.fs,X.H₀ b=none
set_option genInjectivity false in
structure Inv(X:Cx)(pins:List (Addr×Obj))(σ:List (Option V))(H:Hp)(s:Shared):Prop where
 ok:X.Ok
 os:s.os=X.s₀.os
 bare:AllBare s.gens
 base:Un X.fs X.ex X.H₀ H X.s₀.heap s.heap
 loc:∃m,s.heap.Ns X.env.locals m/\∀(i:Nat)(x:Str)(v:V),X.N[i]?=some x->σ[i]?=some (some v)->Vis X.env.scope x->∃u,RelV v u/\Look X.env s.heap m x u
 cell:∀x c,X.env.cells.lookup x=some c->∃v,s.heap.IsCell c v
 free:H X.env.locals=none
 freeC:∀x c,X.env.cells.lookup x=some c->H c=none
 pin:∀p∈X.pn++pins,s.heap.get? p.1=some p.2/\H p.1=none/\p.1≠X.env.locals/\p.1∉X.fs/\∀v,p.2.data≠.cell v
 hok:HOk X.prog X.w H s.heap
 len:σ.length=X.N.length
section
variable{X:Cx}{pins:List (Addr×Obj)}{σ:List (Option V)}{H H':Hp}{s:Shared}{h':Heap}
theorem Cx.Ok.nofr(ok:X.Ok){b:Addr}{o:Obj}(e:X.base.get? b=some o):b∉X.fs:=λhb=>by
 have:=(ok.funs.mem hb).1
 rw[e]at this;cases this
theorem Inv.bs(I:Inv X pins σ H s):∀b o,X.base.get? b=some o->s.heap.get? b=some o/\H b=none:=λb o e=>
 ⟨I.base.keep b o (I.ok.bs b o e).1 (I.ok.bs b o e).2 (I.ok.nofr e) (I.ok.noex b o e),I.base.free b o (I.ok.bs b o e).1 (I.ok.bs b o e).2 (I.ok.noex b o e)⟩
theorem Inv.bk(I:Inv X pins σ H s):∀b o,X.base.get? b=some o->s.heap.get? b=some o:=λb o e=>(I.bs b o e).1
theorem Inv.mod(I:Inv X pins σ H s):Mod X.K X.mg X.base:=I.ok.mod
theorem Inv.kIn(I:Inv X pins σ H s):X.K.In s.heap:=I.ok.mod.kin.keeps I.bk
theorem Inv.fr(I:Inv X pins σ H s):∃m,Fr X.base X.env.locals s.heap m:=
 let⟨m,hn,_⟩:=I.loc
 ⟨m,hn,I.bk,qAK I.ok.bsz I.ok.above⟩
theorem Inv.lt(I:Inv X pins σ H s):X.env.locals<s.heap.objs.size:=let⟨_,hn,_⟩:=I.loc;hn.lt
theorem Inv.sz(I:Inv X pins σ H s):X.s₀.heap.objs.size<=s.heap.objs.size:=qAK I.ok.above (qBm I.lt)
theorem Inv.nofs(I:Inv X pins σ H s){a:Addr}(h:s.heap.objs.size<=a):a∉X.fs:=λhb=>by
 obtain⟨_,o,ho,_⟩:=I.ok.funs.mem hb
 exact absurd (qe (qO ho) (qAK I.sz h)) (qAh _)
theorem Inv.cne(I:Inv X pins σ H s):∀x c,X.env.cells.lookup x=some c->c≠X.env.locals:=λx c e z=>by
 obtain⟨v,o,ho,hd⟩:=I.cell x c e
 obtain⟨m,⟨o',es,ep,ho',hd',_⟩,_⟩:=I.loc
 rw[z,ho']at ho;cases ho;rw[hd']at hd;cases hd
theorem Inv.funs(I:Inv X pins σ H s):s.heap.FunFrames X.base X.outer:=by
 have all:∀(l:List Env),(∀b∈frs l,b∈X.fs)->X.s₀.heap.FunFrames X.base l->s.heap.FunFrames X.base l:=by
  intro l
  induction l with
  | nil=>intro _ _;trivial
  | cons env r ih=>
   intro hs hl
   obtain⟨hk,⟨L,o,hf,hn,ho,hd⟩,hr⟩:=hl
   have hL:L∈X.fs:=hs L (by unfold frs;rw[qBH,hf];exact qf)
   obtain⟨sl,e⟩:=I.base.slot L o ho (I.ok.frf L hL) hL λz=>I.ok.exfs L z hL
   exact⟨hk,⟨L,_,hf,hn,e,hd⟩,ih (λb hb=>hs b (by unfold frs;rw[qBH,hf];exact qL _ hb)) hr⟩
 exact all X.outer (λ_ hb=>hb) I.ok.funs
theorem Inv.stack(I:Inv X pins σ H s):s.heap.FunFrames X.base X.stack:=by
 rcases I.ok.stk with e|⟨e,hf⟩
 ·rw[e];exact I.funs
 ·rw[e]
  obtain⟨m,hn,_⟩:=I.loc
  refine .cons (by rw[I.ok.kind];decide) hf hn ?_ I.funs
  exact qAr (qAK I.ok.bsz I.ok.above)
theorem Inv.stkSub(I:Inv X pins σ H s):∀b∈frs X.stack,b∈X.env.locals::X.fs:=λb hb=>by
 rcases I.ok.stk with e|⟨e,hf⟩
 ·rw[e]at hb;exact qL _ hb
 ·rw[e]at hb
  unfold frs at hb
  rw[qBH,hf]at hb
  exact hb
theorem Inv.stkFree(I:Inv X pins σ H s):∀b∈frs X.stack,H b=none:=λb hb=>by
 rcases qX.mp (I.stkSub b hb)with e|hb
 ·rw[e];exact I.free
 ·obtain⟨_,o,ho,_⟩:=I.ok.funs.mem hb
  exact I.base.free b o ho (I.ok.frf b hb) λz=>I.ok.exfs b z hb
theorem Inv.step{g':Array GenState}{t':Nat}{d':Drawn}{ch:List Addr}(I:Inv X pins σ H s)
  (hch:∀b∈ch,(b∈X.ex\/X.s₀.heap.objs.size<=b)/\b≠X.env.locals/\(∀x c,X.env.cells.lookup x=some c->c≠b)/\∀p∈X.pn++pins,p.1≠b)
  (keep:∀b o,b≠X.env.locals->b∉X.fs->b∉ch->s.heap.get? b=some o->H b=none->h'.get? b=some o)
  (slot:∀b o,b≠X.env.locals->b∈X.fs->b∉ch->s.heap.get? b=some o->H b=none->∃sl,h'.get? b=some {o with slots:=sl}) (free:∀b o,b∉ch->s.heap.get? b=some o->H b=none->H' b=none)
  (there:∀b o,b∉ch->s.heap.get? b=some o->∃o',h'.get? b=some o')
  (tups:∀b xs,H b=some (.tup xs)->H' b=some (.tup xs))(frzs:∀b o u,H b=some (.frz o u)->H' b=some (.frz o u))(tbls:∀b ps,H b=some (.tbl ps)->∃more,H' b=some (.tbl (ps++more)))
  (ns:∀m,s.heap.Ns X.env.locals m->h'.Ns X.env.locals m)(hok:HOk X.prog X.w H' h')(hg:AllBare g') :
  Inv X pins σ H' {s with heap:=h',gens:=g',drawn:=d',toks:=t'}:=by
 have neL:∀b o,X.s₀.heap.get? b=some o->b≠X.env.locals:=λb o e=>qx (qe (qO e) I.ok.above)
 have neC:∀b o,X.s₀.heap.get? b=some o->b∉X.ex->b∉ch:=λb o e hx hb=>by
  rcases(hch b hb).1 with z|z
  ·exact hx z
  ·exact absurd (qe (qO e) z) (qAh _)
 have cellK:∀x c,X.env.cells.lookup x=some c->∀v,s.heap.IsCell c v->h'.IsCell c v:=λx c e v ⟨o,ho,hd⟩=>by
  have nch:c∉ch:=λz=>(hch c z).2.2.1 x c e rfl
  by_cases hc:c∈X.fs
  ·obtain⟨sl,q⟩:=slot c o (I.cne x c e) hc nch ho (I.freeC x c e)
   exact⟨_,q,hd⟩
  ·exact⟨o,keep c o (I.cne x c e) hc nch ho (I.freeC x c e),hd⟩
 refine⟨I.ok,I.os,hg,⟨λb o e n hb hx=>?_,λb o e n hb hx=>?_,λb o e n hx=>?_,λb o e hx=>?_,λb xs e=>tups b xs (I.base.tups b xs e),λb o xs e=>frzs b o xs (I.base.frzs b o xs e),λb ps e=>?_⟩,?_,λx c e=>?_,?_,λx c e=>?_,λp hp=>?_,hok,I.len⟩
 ·exact keep b o (neL b o e) hb (neC b o e hx) (I.base.keep b o e n hb hx) (I.base.free b o e n hx)
 ·obtain⟨sl,e1⟩:=I.base.slot b o e n hb hx
  obtain⟨sl',e2⟩:=slot b _ (neL b o e) hb (neC b o e hx) e1 (I.base.free b o e n hx)
  exact⟨sl',e2⟩
 ·obtain⟨o',e1⟩:=I.base.there b o e hx
  exact free b o' (neC b o e hx) e1 (I.base.free b o e n hx)
 ·obtain⟨o',e1⟩:=I.base.there b o e hx
  exact there b o' (neC b o e hx) e1
 ·obtain⟨m1,e1⟩:=I.base.tbls b ps e
  obtain⟨m2,e2⟩:=tbls b _ e1
  exact⟨m1++m2,by rw[e2,Array.append_assoc]⟩
 ·obtain⟨m,hn,hl⟩:=I.loc
  refine⟨m,ns m hn,λi x v e1 e2 e3=>?_⟩
  obtain⟨u,r,l⟩:=hl i x v e1 e2 e3
  refine⟨u,r,?_⟩
  rcases l with l|⟨k,c,e,z⟩
  ·exact .inl l
  ·exact .inr ⟨k,c,e,cellK x c e _ z⟩
 ·obtain⟨v,z⟩:=I.cell x c e
  exact⟨v,cellK x c e v z⟩
 ·obtain⟨m,⟨o,_,_,ho,_⟩,_⟩:=I.loc
  exact free _ o (λz=>(hch _ z).2.1 rfl) ho I.free
 ·obtain⟨v,o,ho,hd⟩:=I.cell x c e
  exact free c o (λz=>(hch c z).2.2.1 x c e rfl) ho (I.freeC x c e)
 ·obtain⟨e,n,ne,nf,d⟩:=I.pin p hp
  have nch:p.1∉ch:=λz=>(hch p.1 z).2.2.2 p hp rfl
  exact⟨keep p.1 p.2 ne nf nch e n,free p.1 p.2 nch e n,ne,nf,d⟩
theorem Inv.un{t':Nat}(I:Inv X pins σ H s)(u:Un X.fs [] H H' s.heap h')(hok:HOk X.prog X.w H' h'):Inv X pins σ H' {s with heap:=h',toks:=t'}:=by
 obtain⟨m,⟨o,es,ep,ho,r⟩,_⟩:=id I.loc
 obtain⟨sl,hL⟩:=u.any ho I.free (by simp)
 exact I.step (g':=s.gens) (d':=s.drawn) (ch:=[]) (λ_ z=>nomatch z) (λb o _ hb _ e n=>u.keep b o e n hb (by simp)) (λb o _ hb _ e n=>u.slot b o e n hb (by simp)) (λb o _ e n=>u.free b o e n (by simp)) (λb o _ e=>u.there b o e (by simp)) u.tups u.frzs u.tbls (λm' hm=>by
  obtain⟨o',es',ep',ho',r'⟩:=hm
  rw[ho]at ho';cases ho'
  exact⟨_,es',ep',hL,r'⟩) hok I.bare
theorem Inv.call{g':Array GenState}{t':Nat}{d':Drawn}{ch:List Addr}(I:Inv X pins σ H s)(u:Un (frs X.stack) ch H H' s.heap h')(hok:HOk X.prog X.w H' h')(hg:AllBare g')
  (hch:∀b∈ch,(b∈X.ex\/X.s₀.heap.objs.size<=b)/\b≠X.env.locals/\(∀x c,X.env.cells.lookup x=some c->c≠b)/\∀p∈X.pn++pins,p.1≠b) :
  Inv X pins σ H' {s with heap:=h',gens:=g',drawn:=d',toks:=t'}:=by
 obtain⟨m,⟨o,es,ep,ho,r⟩,_⟩:=id I.loc
 obtain⟨sl,hL⟩:=u.any ho I.free λz=>(hch _ z).2.1 rfl
 exact I.step (ch:=ch) hch (λb o hL hb hc e n=>u.keep b o e n (λz=>(qX.mp (I.stkSub b z)).elim hL hb) hc) (λb o _ _ hc e n=>u.any e n hc) (λb o hc e n=>u.free b o e n hc) (λb o hc e=>u.there b o e hc) u.tups u.frzs u.tbls (λm' hm=>by
  obtain⟨o',es',ep',ho',r'⟩:=hm
  rw[ho]at ho';cases ho'
  exact⟨_,es',ep',hL,r'⟩) hok hg
theorem Inv.turned{t':Nat}{it:Addr}(I:Inv X pins σ H s)(k:∀b o,b≠it->s.heap.get? b=some o->h'.get? b=some o)(hn:H it=none)(hL:it≠X.env.locals)
  (h1:it∈X.ex\/X.s₀.heap.objs.size<=it) (h2:∀x c,X.env.cells.lookup x=some c->c≠it) (h3:∀p∈X.pn++pins,p.1≠it):Inv X pins σ H {s with heap:=h',toks:=t'}:=by
 have nit:∀b u,H b=some u->b≠it:=λb u e z=>by rw[z,hn]at e;cases e
 refine I.step (g':=s.gens) (d':=s.drawn) (ch:=[it]) (λb hb=>?_) (λb o _ _ hc e _=>k b o (λz=>hc (by simp[z])) e) (λb o _ _ hc e _=>⟨o.slots,k b o (λz=>hc (by simp[z])) e⟩) (λ_ _ _ _ n=>n)
  (λb o hc e=>⟨o,k b o (λz=>hc (by simp[z])) e⟩) (λ_ _ e=>e) (λ_ _ _ e=>e) (λb ps e=>⟨#[],by rw[e];simp⟩) (λm hm=>?_) (λb u e=>?_) I.bare
 ·have e:b=it:=by simpa using hb
  subst e
  exact⟨h1,hL,h2,h3⟩
 ·obtain⟨o,es,ep,ho,r⟩:=hm
  exact⟨o,es,ep,k _ o (qAm hL) ho,r⟩
 ·refine(I.hok b u e).stay (λc v hc q=>k c v ?_ q) (λ_ q=>q) λ_ _ q=>q
  rcases hc with z|z
  ·rw[z];exact nit b u e
  ·exact nit c _ z
theorem Inv.tok(I:Inv X pins σ H s)(t:Nat):Inv X pins σ H {s with toks:=t}:=I.un (h':=s.heap) (t':=t) Un.refl I.hok
theorem Inv.kept{t':Nat}(I:Inv X pins σ H s)(k:∀b u,s.heap.get? b=some u->h'.get? b=some u):Inv X pins σ H {s with heap:=h',toks:=t'}:=I.un (Un.kept k) (I.hok.kept k)
theorem Inv.laid{a:Addr}{o:HO}{t':Nat}(I:Inv X pins σ H s)(k:∀b u,s.heap.get? b=some u->h'.get? b=some u)(hp:s.heap.objs.size<=a)(new:zdp X.prog X.w (upd H a o) h' a o) :
  Inv X pins σ (upd H a o) {s with heap:=h',toks:=t'}:=I.un (Un.laid k hp (I.hok.fresh hp)) (I.hok.laid k hp new)
theorem Inv.write{x e:Addr}{o:HO}{t':Nat}(I:Inv X pins σ H s)(mu:Mut (H x))(he:e=x\/H e=some (.own x))(k:∀b u,b≠e->s.heap.get? b=some u->h'.get? b=some u)(heo:∃u,h'.get? e=some u)
  (new:zdp X.prog X.w (upd H x o) h' x o):Inv X pins σ (upd H x o) {s with heap:=h',toks:=t'}:=I.un (Un.write mu he k heo) (I.hok.write mu he k heo new)
theorem Inv.pins_of{pins':List (Addr×Obj)}(I:Inv X pins σ H s)(h:∀p∈pins',s.heap.get? p.1=some p.2/\H p.1=none/\p.1≠X.env.locals/\p.1∉X.fs/\∀v,p.2.data≠.cell v):Inv X pins' σ H s:=
 ⟨I.ok,I.os,I.bare,I.base,I.loc,I.cell,I.free,I.freeC,λp hp=>(qv.mp hp).elim (λz=>I.pin p (qAG _ z)) (h p),I.hok,I.len⟩
theorem zmx{N:List Str}(hN:N.Nodup){i j:Nat}{x:Str}(a:N[i]?=some x)(b:N[j]?=some x):i=j:=by
 obtain⟨h1,e1⟩:=qI.mp a
 obtain⟨h2,e2⟩:=qI.mp b
 exact(List.getElem_inj hN).mp (e1.trans e2.symm)
theorem zoj{M:Model}{A:Around}{E:Value->Shared->Prop}{i:Nat}{x:Str}{v:V}{u:Value}{Q:Unit->Shared->Prop}(I:Inv X pins σ H s)(hN:X.N.Nodup)(hi:X.N[i]?=some x)(hx:Loc X.env.scope x)(r:RelV v u)
  (h:∀s',Inv X pins (σ.set i (some v)) H s'->(∃a,Heap.SameBut a s.heap s'.heap/\(a=X.env.locals\/X.env.cells.lookup x=some a))->Q () s') (hf:X.fn x=true\/X.env.scope.names.lookup x=some .local:=by assumption):wpAny M A (storeName X.env x u) Q E s:=by
 obtain⟨m,hn,hl⟩:=id I.loc
 have hcls:(X.env.scope.kind==.class||(X.env.scope.kind==.module&&X.env.locals != X.env.globals))=false:=by rw[I.ok.kind];rfl
 have hiσ:i<σ.length:=by rw[I.len];exact(qI.mp hi).1
 have cne:=I.cne
 have tracked:∀{a:Addr}{h':Heap},(∃o,s.heap.get? a=some o/\H a=none)->Heap.SameBut a s.heap h'->HOk X.prog X.w H h':=λ{a h'} ha hs b ob e=>by
  obtain⟨_,_,hfree⟩:=ha
  refine(I.hok b ob e).stay (λc w' hc q=>(hs.2 c ?_).trans q) (λ_ q=>q) λ_ _ q=>q
  rintro rfl
  rcases hc with rfl|hc
  ·rw[hfree]at e;cases e
  ·rw[hfree]at hc;cases hc
 rcases hx with hk|hk
 ·refine wpAny_storeName_local hk hn (λh' hn' hs=>?_) hcls
  obtain⟨oL,_,_,hoL,_⟩:=id hn
  refine h _ ⟨I.ok,I.os,I.bare,⟨λb o e n hb hx=>?_,λb o e n hb hx=>?_,I.base.free,λb o e hx=>?_,I.base.tups,I.base.frzs,I.base.tbls⟩,⟨_,hn',λj y v' e1 e2 e3=>?_⟩,λy c e=>?_,I.free,I.freeC,λp hp=>?_,tracked ⟨oL,hoL,I.free⟩ hs,by simpa using I.len⟩ ⟨_,hs,.inl rfl⟩
  ·exact(hs.2 b (qx (qe (qO e) I.ok.above))).trans (I.base.keep b o e n hb hx)
  ·obtain⟨sl,e1⟩:=I.base.slot b o e n hb hx
   exact⟨sl,(hs.2 b (qx (qe (qO e) I.ok.above))).trans e1⟩
  ·obtain⟨o',e1⟩:=I.base.there b o e hx
   exact⟨o',(hs.2 b (qx (qe (qO e) I.ok.above))).trans e1⟩
  ·by_cases hj:j=i
   ·subst hj
    rw[hi]at e1;cases e1
    rw[qd hiσ]at e2
    cases e2
    exact⟨u,r,.inl ⟨hk,by simp⟩⟩
   ·rw[qJ (qAm hj)]at e2
    obtain⟨u',r',q⟩:=hl j y v' e1 e2 e3
    refine⟨u',r',?_⟩
    rcases q with⟨k,e⟩|⟨k,c,e,z⟩
    ·refine .inl ⟨k,?_⟩
     have:y≠x:=λe=>hj (zmx hN e1 (e▸hi))
     simp[this,e]
    ·exact .inr ⟨k,c,e,z.sameBut hs (cne y c e)⟩
  ·obtain⟨w',z⟩:=I.cell y c e
   exact⟨w',z.sameBut hs (cne y c e)⟩
  ·obtain⟨e,n,ne,nf,d⟩:=I.pin p hp
   exact⟨(hs.2 p.1 ne).trans e,n,ne,nf,d⟩
 ·have hfn:X.fn x=true:=by
   rcases hf with z|z
   ·exact z
   ·rw[z]at hk;cases hk
  obtain⟨c,hc⟩:=I.ok.has x (.inl hk)
  obtain⟨w',z⟩:=I.cell x c hc
  refine wpAny_storeName_cell I.ok.kind hk hc z (λh' hc' hs=>?_)
  obtain⟨oc,hoc,hocd⟩:=id z
  refine h {s with heap:=h'} ⟨I.ok,I.os,I.bare,⟨λb o e n hb hx=>?_,λb o e n hb hx=>?_,I.base.free,λb o e hx=>?_,I.base.tups,I.base.frzs,I.base.tbls⟩,⟨m,hn.sameBut hs (qAm (cne x c hc)),λj y v' e1 e2 e3=>?_⟩,λy c' e=>?_,I.free,I.freeC,λp hp=>?_,tracked ⟨oc,hoc,I.freeC x c hc⟩ hs,by simpa using I.len⟩ ⟨c,hs,.inr hc⟩
  ·exact(hs.2 b (qx (qe (qO e) (I.ok.cab x c hfn hc)))).trans (I.base.keep b o e n hb hx)
  ·obtain⟨sl,e1⟩:=I.base.slot b o e n hb hx
   exact⟨sl,(hs.2 b (qx (qe (qO e) (I.ok.cab x c hfn hc)))).trans e1⟩
  ·obtain⟨o',e1⟩:=I.base.there b o e hx
   exact⟨o',(hs.2 b (qx (qe (qO e) (I.ok.cab x c hfn hc)))).trans e1⟩
  ·by_cases hj:j=i
   ·subst hj
    rw[hi]at e1;cases e1
    rw[qd hiσ]at e2
    cases e2
    exact⟨u,r,.inr ⟨.inl hk,c,hc,hc'⟩⟩
   ·rw[qJ (qAm hj)]at e2
    obtain⟨u',r',q⟩:=hl j y v' e1 e2 e3
    refine⟨u',r',?_⟩
    rcases q with q|⟨k,c',e,z'⟩
    ·exact .inl q
    ·refine .inr ⟨k,c',e,z'.sameBut hs ?_⟩
     rintro rfl
     exact hj (zmx hN e1 (I.ok.inj _ _ _ e hc▸hi))
  ·by_cases hcc:c'=c
   ·subst hcc;exact⟨_,hc'⟩
   ·obtain⟨w2,z2⟩:=I.cell y c' e
    exact⟨w2,z2.sameBut hs hcc⟩
  ·obtain⟨e,n,ne,nf,d⟩:=I.pin p hp
   refine⟨(hs.2 p.1 ?_).trans e,n,ne,nf,d⟩
   intro q
   rw[q,hoc]at e
   have q':oc=p.2:=qq e
   exact d w' (by rw[<- q'];exact hocd)
theorem zkh{M:Model}{A:Around}{E:Value->Shared->Prop}{i:Nat}{x:Str}{v:V}{u:Value}{Q:Unit->Shared->Prop}(I:Inv X pins σ H s)(hN:X.N.Nodup)(hi:X.N[i]?=some x)(hx:Loc X.env.scope x)(r:RelV v u)
  (h:∀s',Inv X pins (σ.set i (some v)) H s'->Q () s') (hf:X.fn x=true\/X.env.scope.names.lookup x=some .local:=by assumption):wpAny M A (storeName X.env x u) Q E s:=
 zoj I hN hi hx r (λs' I' _=>h s' I') hf
theorem Inv.call'{s':Shared}{ch:List Addr}(I:Inv X pins σ H s)(ho:s'.os=s.os)(u:Un (frs X.stack) ch H H' s.heap s'.heap)(hok:HOk X.prog X.w H' s'.heap)(hg:AllBare s'.gens)
  (hch:∀b∈ch,(b∈X.ex\/X.s₀.heap.objs.size<=b)/\b≠X.env.locals/\(∀x c,X.env.cells.lookup x=some c->c≠b)/\∀p∈X.pn++pins,p.1≠b):Inv X pins σ H' s':=by
 obtain⟨h',g',d',t',o'⟩:=s'
 have e:o'=s.os:=ho
 subst e
 exact I.call (g':=g') (t':=t') (d':=d') u hok hg hch
end
noncomputable abbrev XK:=Value->Option Addr->Hp->Prop
noncomputable abbrev St:=List (Option V)
noncomputable abbrev VK:=V->Hp->Prop
noncomputable abbrev TE:=St->Hp->VK->Prop
noncomputable abbrev TT:=St->Hp->(Bool->Hp->Prop)->Prop
noncomputable abbrev TA:=St->Hp->(List V->Hp->Prop)->Prop
set_option genInjectivity false in
structure Ends where
 nx:St->Hp->Prop
 rt:VK
 bk:St->Hp->Prop:=λ_ _=>False
 ct:St->Hp->Prop:=λ_ _=>False
noncomputable abbrev TS:=Ends->St->Hp->Prop
noncomputable def EP(X:Cx)(pins:List (Addr×Obj))(σ:St)(Q:VK)(u:Value)(s':Shared):Prop:=∃v H',Inv X pins σ H' s'/\RelV v u/\Q v H'
noncomputable def TP(X:Cx)(pins:List (Addr×Obj))(σ:St)(Q:Bool->Hp->Prop)(b:Bool)(s':Shared):Prop:=∃H',Inv X pins σ H' s'/\Q b H'
noncomputable def AP(X:Cx)(pins:List (Addr×Obj))(σ:St)(Q:List V->Hp->Prop)(us:List Value)(s':Shared):Prop:=∃vs H',Inv X pins σ H' s'/\Vals vs us/\Q vs H'
noncomputable def SP(X:Cx)(pins:List (Addr×Obj))(D:Ends)(f:Flow)(s':Shared):Prop:=
 match f with
 | .next=>∃σ' H',Inv X pins σ' H' s'/\D.nx σ' H'
 | .brk=>∃σ' H',Inv X pins σ' H' s'/\D.bk σ' H'
 | .cont=>∃σ' H',Inv X pins σ' H' s'/\D.ct σ' H'
 | .ret u=>∃v σ' H',Inv X pins σ' H' s'/\RelV v u/\D.rt v H'
noncomputable def PE(X:Cx)(e:Expr)(t:TE):Prop:=
 ∀(pins:List (Addr×Obj))(s:Shared)(σ:St)(H:Hp)(Q:VK),Inv X pins σ H s->t σ H Q->wpAny (model X.prog X.w) X.A (eval e X.env) (EP X pins σ Q) X.xe s
noncomputable def PT(X:Cx)(e:Expr)(t:TT):Prop:=
 ∀(pins:List (Addr×Obj))(s:Shared)(σ:St)(H:Hp)(Q:Bool->Hp->Prop),Inv X pins σ H s->t σ H Q->wpAny (model X.prog X.w) X.A (isTrue e X.env (eval e X.env)) (TP X pins σ Q) X.xe s
noncomputable def PW(X:Cx)(e:Expr)(t:TT):Prop:=
 ∀(whole:Sem Value)(pins:List (Addr×Obj))(s:Shared)(σ:St)(H:Hp)(Q:Bool->Hp->Prop),Inv X pins σ H s->t σ H Q->wpAny (model X.prog X.w) X.A (isTrue e X.env whole) (TP X pins σ Q) X.xe s
theorem PW.pt{X:Cx}{e:Expr}{t:TT}(h:PW X e t):PT X e t:=h _
noncomputable def PA(X:Cx)(es:List Expr)(t:TA):Prop:=
 ∀(pos:Pos)(pins:List (Addr×Obj))(s:Shared)(σ:St)(H:Hp)(Q:List V->Hp->Prop),Inv X pins σ H s->t σ H Q->wpAny (model X.prog X.w) X.A (spliced (backTo pos (starEach es X.env))) (AP X pins σ Q) X.xe s
noncomputable def PS(X:Cx)(st:Stmt)(t:TS):Prop:=
 ∀(pins:List (Addr×Obj))(s:Shared)(σ:St)(H:Hp)(D:Ends),Inv X pins σ H s->t D σ H->wpAny (model X.prog X.w) X.A (exec st X.env) (SP X pins D) X.xe s
noncomputable def PSs(X:Cx)(st:List Stmt)(t:TS):Prop:=
 ∀(pins:List (Addr×Obj))(s:Shared)(σ:St)(H:Hp)(D:Ends),Inv X pins σ H s->t D σ H->wpAny (model X.prog X.w) X.A (execs st X.env) (SP X pins D) X.xe s
theorem thn{α:Type}{t:Sem α}{Q Q':α->Shared->Prop}{M:Model}{A:Around}{E:Value->Shared->Prop}{s:Shared}(h:wpAny M A t Q E s)(hQ:∀a s,Q a s->Q' a s):wpAny M A t Q' E s:=qAu h hQ λ_ _ x=>x
section
variable{X:Cx}
theorem bin{a b:Expr}{ta tb:TE}(ha:PE X a ta)(hb:PE X b tb){pins:List (Addr×Obj)}{s:Shared}{σ:St}{H:Hp}{R:V->V->Hp->Prop}(I:Inv X pins σ H s)(h:ta σ H λx H1=>tb σ H1 λy H2=>R x y H2)
  {α:Type}{Q:α->Shared->Prop}{f:Value->Value->Sem α}
  (hf:∀v u s2 x y H2,Inv X pins σ H2 s2->RelV x v->RelV y u->R x y H2->wpAny (model X.prog X.w) X.A (f v u) Q X.xe s2) :
  wpAny (model X.prog X.w) X.A (eval a X.env) (λv s₁=>wpAny (model X.prog X.w) X.A (eval b X.env) (λu s₂=>wpAny (model X.prog X.w) X.A (f v u) Q X.xe s₂) X.xe s₁) X.xe s:=by
 refine thn (ha pins s σ H _ I h) λv s1 ⟨x,H1,I1,r1,q1⟩=>?_
 refine thn (hb pins s1 σ H1 _ I1 q1) λu s2 ⟨y,H2,I2,r2,q2⟩=>?_
 exact hf v u s2 x y H2 I2 r1 r2 q2
noncomputable def tVar(i:Nat):TE:=λσ H Q=>∃v,σ[i]?=some (some v)/\Q v H
noncomputable def tC(v:V):TE:=λ_ H Q=>Q v H
theorem zacc{i:Nat}{x:Str}{pos:Pos}(hN:X.N[i]?=some x)(hv:Vis X.env.scope x)(hd:(x==("__debug__":Str))=false:=by decide)(hcd:(x==("__classdict__":Str))=false:=by decide):PE X (.Name x pos) (tVar i):=by
 intro pins s σ H Q I h
 obtain⟨v,e,h⟩:=h
 obtain⟨m,hn,hl⟩:=I.loc
 obtain⟨u,r,l⟩:=hl i x v hN e hv
 have fin:EP X pins σ Q u s:=⟨v,H,I,r,h⟩
 rcases l with⟨hk,hm⟩|⟨hk,c,hc,hcell⟩
 ·exact wpAny_Name (wpAny_loadName_local I.ok.kind hk hn hm fin) hd
 ·rcases hk with hk|hk
  ·exact wpAny_Name (wpAny_loadName_cell I.ok.kind hk hc hcell fin) hd
  ·exact wpAny_Name (wpAny_loadName_free I.ok.kind hk hc hcell fin hcd) hd
theorem zet{i j pos}:PE X (.Constant (.int i) j pos) (tC (.int i)):=λ_ _ _ H _ I h=>wpAny_Constant_int ⟨.int i,H,I.tok _,⟨_,rfl⟩,h⟩
theorem zakr{b j pos}:PE X (.Constant (.bool b) j pos) (tC (.bl b)):=λ_ _ _ H _ I h=>Constant_bool ⟨.bl b,H,I,rfl,h⟩
theorem zahk{j pos}:PE X (.Constant .none j pos) (tC .non):=λ_ _ _ H _ I h=>Constant_none ⟨.non,H,I,rfl,h⟩
theorem zahl{x j pos}:PE X (.Constant (.str x) j pos) (tC (.str x)):=λ_ _ _ H _ I h=>qBw ⟨.str x,H,I.tok _,⟨_,rfl⟩,h⟩
noncomputable def Gl(X:Cx)(x:Str):Prop:=X.env.kindOf x=some .globalImplicit
theorem zgd{E:Value->Shared->Prop}{pins:List (Addr×Obj)}{s:Shared}{σ:St}{H:Hp}{x:Str}{u:Value}{pos:Pos}{Q:Value->Shared->Prop}(I:Inv X pins σ H s)(hg:Gl X x)(hm:X.mg x=some u)(h:Q u s)
  (hd:(x==("__debug__":Str))=false:=by decide):wpAny (model X.prog X.w) X.A (eval (.Name x pos) X.env) Q E s:=
 qCF I.ok.kind hg (Calls.loadGlobal_global (by rw[I.ok.glob];exact I.mod.glob.keeps I.bk) hm h) hd
theorem zjt{E:Value->Shared->Prop}{pins:List (Addr×Obj)}{s:Shared}{σ:St}{H:Hp}{x:Str}{u:Value}{pos:Pos}{Q:Value->Shared->Prop}(I:Inv X pins σ H s)(hg:Gl X x)(hm:X.mg x=none)(hv:bootBuiltins x=some u)(h:Q u s)
  (hn:x≠"__name__":=by decide) (hd:(x==("__debug__":Str))=false:=by decide):wpAny (model X.prog X.w) X.A (eval (.Name x pos) X.env) Q E s:=by
 obtain⟨mb,h1,h2⟩:=I.mod.blt
 exact qCF I.ok.kind hg (Calls.loadGlobal_builtin (by rw[I.ok.glob];exact I.mod.glob.keeps I.bk) hm (by rw[I.ok.blt];exact h1.keeps I.bk) ((h2 x hn).trans hv) h) hd
theorem zadr{x:Str}{v:V}{u:Value}{pos:Pos}(hg:Gl X x)(hm:X.mg x=some u)(r:RelV v u)(hd:(x==("__debug__":Str))=false:=by decide):PE X (.Name x pos) (tC v):=
 λ_ _ _ H _ I h=>zgd I hg hm ⟨v,H,I,r,h⟩ hd
theorem zads{x:Str}{v:V}{u:Value}{pos:Pos}(hg:Gl X x)(hm:X.mg x=none)(hv:bootBuiltins x=some u)(r:RelV v u)(hn:x≠"__name__":=by decide)(hd:(x==("__debug__":Str))=false:=by decide):PE X (.Name x pos) (tC v):=
 λ_ _ _ H _ I h=>zjt I hg hm hv ⟨v,H,I,r,h⟩ hn hd
variable{a b:Expr}{ta tb:TE}{pos:Pos}
noncomputable def tB(t:TE):TT:=λσ H Q=>t σ H λx H1=>∃c,x=.bl c/\Q c H1
variable{tA tB':TT}{rest:List Expr}
noncomputable def tOr(t u:TT):TT:=λσ H Q=>t σ H λc H1=>if c=true then Q true H1 else u σ H1 Q
noncomputable def tNot(t:TT):TT:=λσ H Q=>t σ H λc H1=>Q (!c) H1
theorem zahm(ha:PT X a tA):PW X (.BoolOp .Or [a] pos) tA:=by
 intro wh pins s σ H Q I h
 refine isTrue_or (thn (ha pins s σ H Q I h) λc s1 e=>?_)
 cases c with
 | false=>exact isTrue_or_nil e
 | true=>exact e
theorem zaks(ha:PT X a tA)(hb:PW X (.BoolOp .Or (b::rest) pos) tB'):PW X (.BoolOp .Or (a::b::rest) pos) (tOr tA tB'):=by
 intro wh pins s σ H Q I h
 refine isTrue_or (thn (ha pins s σ H _ I h) λc s1 ⟨H1,I1,q1⟩=>?_)
 cases c with
 | true=>exact⟨H1,I1,q1⟩
 | false=>exact hb wh pins s1 σ H1 Q I1 q1
theorem zahn(ha:PT X a tA):PT X (.UnaryOp .Not a pos) (tNot tA):=by
 intro pins s σ H Q I h
 exact isTrue_not (ha pins s σ H (λc H1=>Q (!c) H1) I h)
noncomputable def tAndV(ta tb:TE):TE:=λσ H Q=>ta σ H λx H1=>∃c,x=.bl c/\if c=true then tb σ H1 Q else Q (.bl false) H1
noncomputable def tNotV(ta:TE):TE:=λσ H Q=>ta σ H λx H1=>∃c,x=.bl c/\Q (.bl (!c)) H1
theorem zaho{op}{t:TE}(h:PE X a t):PE X (.BoolOp op [a] pos) t:=λpins s σ H Q I hw=>BoolOp_one (h pins s σ H Q I hw)
theorem zahp(ha:PE X a ta)(hb:PE X (.BoolOp .And (b::rest) pos) tb):PE X (.BoolOp .And (a::b::rest) pos) (tAndV ta tb):=by
 intro pins s σ H Q I h
 refine BoolOp_and (thn (ha pins s σ H _ I h) λv s1 ⟨x,H1,I1,r1,q1⟩=>?_)
 obtain⟨c,rfl,q1⟩:=q1
 cases r1
 refine qAP ?_
 cases c with
 | true=>exact hb pins s1 σ H1 Q I1 q1
 | false=>exact⟨.bl false,H1,I1,rfl,q1⟩
theorem zahq(ha:PE X a ta):PE X (.UnaryOp .Not a pos) (tNotV ta):=by
 intro pins s σ H Q I h
 refine UnaryOp_ (thn (ha pins s σ H _ I h) λv s1 ⟨x,H1,I1,r1,q1⟩=>?_)
 obtain⟨c,rfl,q1⟩:=q1
 cases r1
 exact not_of (qAP ⟨.bl (!c),H1,I1,rfl,q1⟩)
end
noncomputable def SqL(K:qB)(H:Hp)(a:Addr)(xs:List V):Prop:=
 Rd H a (.lst xs)\/
  ∃(o:Obj)(its:Array Value)(n:Nat),K.lookup a=some o/\o.cls=.type "list"/\o.dict=none/\o.data=.seq its n/\its.size<=qa/\Vals xs its.toList
noncomputable def SqT(K:qB)(H:Hp)(a:Addr)(xs:List V):Prop:=
 Rd H a (.tup xs)\/
  ∃(o:Obj)(its:Array Value)(n:Nat),K.lookup a=some o/\o.cls=.type "tuple"/\o.data=.seq its n/\its.size<=qa/\Vals xs its.toList
noncomputable def absV:Value->Option V
 | .none=>some .non
 | .bool b=>some (.bl b)
 | .int i _=>some (.int i)
 | .str x _=>some (.str x)
 | .bytes b _=>some (.byt b)
 | .float b _=>some (.flt b)
 | .ref a=>some (.ref a)
 | .type n=>some (.ty n)
 | _=>none
theorem RelV.abs{x:V}{u:Value}(r:RelV x u):absV u=some x:=by
 cases x with
 | non=>cases r;rfl
 | bl _=>cases r;rfl
 | int _=>obtain⟨t,rfl⟩:=r;rfl
 | str _=>obtain⟨t,rfl⟩:=r;rfl
 | byt _=>obtain⟨t,rfl⟩:=r;rfl
 | flt _=>obtain⟨t,rfl⟩:=r;rfl
 | ref _=>cases r;rfl
 | ty _=>cases r;rfl
theorem RelV.inj{x y:V}{u:Value}(r:RelV x u)(q:RelV y u):x=y:=qq (r.abs.symm.trans q.abs)
theorem Vals.inj:∀{xs ys:List V}{us:List Value},Vals xs us->Vals ys us->xs=ys
 | _,_,_,.nil,.nil=>rfl
 | _,_,_,.cons r t,.cons r' t'=>by rw[r.inj r',Vals.inj t t']
section
variable{X:Cx}{pins:List (Addr×Obj)}{σ:St}{H:Hp}{s:Shared}{a:Addr}{xs ys:List V}
theorem SqL.of{K:qB}(h:H a=some (.lst xs)):SqL K H a xs:=.inl (.inl h)
theorem SqT.of{K:qB}(h:H a=some (.tup xs)):SqT K H a xs:=.inl (.inl h)
theorem Inv.list(I:Inv X pins σ H s)(h:SqL X.K H a xs):∃its:List Value,Vals xs its/\PlainL s.heap a its.toArray/\xs.length<=qa:=by
 rcases h with h|⟨o,its,n,hk,hc,hd,hs,hz,r⟩
 ·obtain⟨z,its,n,r,e⟩:=h.ok I.hok
  exact⟨its,r,⟨_,n,e,rfl,rfl,rfl⟩,z⟩
 ·refine⟨its.toList,r,⟨o,n,I.kIn a o hk,hc,hd,by simpa using hs⟩,?_⟩
  have e:=r.length
  simp only[qCe]at e
  omega
theorem Inv.tuple(I:Inv X pins σ H s)(h:SqT X.K H a xs):∃its:List Value,Vals xs its/\IsTup s.heap a its.toArray/\xs.length<=qa:=by
 rcases h with h|⟨o,its,n,hk,hc,hs,hz,r⟩
 ·obtain⟨z,its,r,p⟩:=h.ok I.hok
  exact⟨its,r,p,z⟩
 ·refine⟨its.toList,r,⟨o,I.kIn a o hk,hc,n,by simpa using hs⟩,?_⟩
  have e:=r.length
  simp only[qCe]at e
  omega
theorem Inv.list_inj(I:Inv X pins σ H s)(h:SqL X.K H a xs)(h':SqL X.K H a ys):xs=ys:=by
 obtain⟨its,r,⟨o,n,e,_,_,d⟩,_⟩:=I.list h
 obtain⟨its',r',⟨o',n',e',_,_,d'⟩,_⟩:=I.list h'
 rw[e]at e';cases e'
 rw[d]at d'
 injection d' with d1 _
 have:its=its':=by simpa using congrArg Array.toList d1
 subst this
 exact r.inj r'
theorem Inv.tuple_inj(I:Inv X pins σ H s)(h:SqT X.K H a xs)(h':SqT X.K H a ys):xs=ys:=by
 obtain⟨its,r,⟨o,e,_,n,d⟩,_⟩:=I.tuple h
 obtain⟨its',r',⟨o',e',_,n',d'⟩,_⟩:=I.tuple h'
 rw[e]at e';cases e'
 rw[d]at d'
 injection d' with d1 _
 have:its=its':=by simpa using congrArg Array.toList d1
 subst this
 exact r.inj r'
end
noncomputable abbrev Cx.wish(X:Cx)(E:Value->Shared->Prop):Cx:={X with xe:=E}
noncomputable abbrev Cx.nox(X:Cx):Cx:=X.wish λ_ _=>False
theorem Cx.Ok.wish{X:Cx}(ok:X.Ok)(E:Value->Shared->Prop):(X.wish E).Ok:=
 ⟨ok.mod,ok.kind,ok.glob,ok.blt,ok.above,ok.inj,ok.has,ok.cab,ok.hd,ok.frames,ok.stk,ok.exf,ok.bs,ok.bsz,ok.noex,ok.exfs,ok.funs,ok.frf⟩
theorem Cx.Ok.unwish{X:Cx}{E:Value->Shared->Prop}(ok:(X.wish E).Ok):X.Ok:=
 ⟨ok.mod,ok.kind,ok.glob,ok.blt,ok.above,ok.inj,ok.has,ok.cab,ok.hd,ok.frames,ok.stk,ok.exf,ok.bs,ok.bsz,ok.noex,ok.exfs,ok.funs,ok.frf⟩
section
variable{X:Cx}{pins:List (Addr×Obj)}{σ:St}{H:Hp}{s:Shared}{E:Value->Shared->Prop}
theorem Inv.wish(I:Inv X pins σ H s)(E:Value->Shared->Prop):Inv (X.wish E) pins σ H s:=⟨I.ok.wish E,I.os,I.bare,I.base,I.loc,I.cell,I.free,I.freeC,I.pin,I.hok,I.len⟩
theorem Inv.unwish(I:Inv (X.wish E) pins σ H s):Inv X pins σ H s:=⟨I.ok.unwish,I.os,I.bare,I.base,I.loc,I.cell,I.free,I.freeC,I.pin,I.hok,I.len⟩
theorem SP.unwish{D:Ends}{f:Flow}{s':Shared}(h:SP (X.wish E) pins D f s'):SP X pins D f s':=by
 cases f with
 | next=>obtain⟨σ',H',I,q⟩:=h;exact⟨σ',H',I.unwish,q⟩
 | brk=>obtain⟨σ',H',I,q⟩:=h;exact⟨σ',H',I.unwish,q⟩
 | cont=>obtain⟨σ',H',I,q⟩:=h;exact⟨σ',H',I.unwish,q⟩
 | ret u=>obtain⟨v,σ',H',I,r,q⟩:=h;exact⟨v,σ',H',I.unwish,r,q⟩
theorem PSs.nox{st:List Stmt}{t:TS}(h:PSs X.nox st t):PSs X st t:=λpins s σ H D I hw=>
 qAu (h pins s σ H D (I.wish _) hw) (λ_ _ q=>q.unwish) λ_ _ z=>False.elim z
end
section
variable{X:Cx}{st:Stmt}{rest:List Stmt}{t u:TS}{e:Expr}{te:TE}{pos:Pos}
noncomputable def tNext:TS:=λD σ H=>D.nx σ H
noncomputable def tSeq(t u:TS):TS:=λD σ H=>t {D with nx:=u D} σ H
theorem zadt:PSs X [] tNext:=λ_ _ σ H _ I h=>qAa ⟨σ,H,I,h⟩
theorem zhb(h1:PS X st t)(h2:PSs X rest u):PSs X (st::rest) (tSeq t u):=by
 intro pins s σ H D I h
 refine qBJ (thn (h1 pins s σ H {D with nx:=u D} I h) λf s1 q=>?_)
 cases f with
 | next=>
  obtain⟨σ',H',I',q⟩:=q
  exact h2 pins s1 σ' H' D I' q
 | ret v=>exact q
 | brk=>exact q
 | cont=>exact q
theorem zhy(h1:PS X st t):PSs X [st] t:=by
 intro pins s σ H D I h
 refine qBJ (thn (h1 pins s σ H D I h) λf s1 q=>?_)
 cases f with
 | next=>exact qAa q
 | ret v=>exact q
 | brk=>exact q
 | cont=>exact q
theorem Inv.quiet{pins:List (Addr×Obj)}{σ:St}{H:Hp}{s:Shared}(I:Inv X pins σ H s):interactive X.env=false:=by simp[interactive,I.ok.kind]
noncomputable def tDrop(te:TE):TS:=λD σ H=>te σ H λ_ H1=>D.nx σ H1
theorem zmy(he:PE X e te)(hs:swapsWith e none pos.line X.env=pure false:=by rfl):PS X (.Expr e pos) (tDrop te):=by
 intro pins s σ H D I h
 exact qCb (thn (he pins s σ H _ I h) λv s1 ⟨x,H1,I1,r1,q1⟩=>⟨σ,H1,I1,q1⟩) I.quiet hs
noncomputable def tRet(te:TE):TS:=λD σ H=>te σ H D.rt
theorem zacd(he:PE X e te):PS X (.Return (some e) pos) (tRet te):=by
 intro pins s σ H D I h
 exact wpAny_Return_some (thn (he pins s σ H _ I h) λv s1 ⟨x,H1,I1,r1,q1⟩=>⟨x,σ,H1,I1,r1,q1⟩)
noncomputable def tIfS(c:TT)(t u:TS):TS:=λD σ H=>c σ H λb H1=>if b=true then t D σ H1 else u D σ H1
theorem zahr{c:Expr}{a b:List Stmt}{tc:TT}(hc:PT X c tc)(ha:PSs X a t)(hb:PSs X b u):PS X (.If c a b pos) (tIfS tc t u):=by
 intro pins s σ H D I h
 refine wpAny_If (thn (hc pins s σ H _ I h) λd s1 ⟨H1,I1,q1⟩=>?_)
 cases d with
 | true=>exact ha pins s1 σ H1 D I1 q1
 | false=>exact hb pins s1 σ H1 D I1 q1
noncomputable def tNever:TS:=λ_ _ _=>False
theorem zzz:PS X st tNever:=λ_ _ _ _ _ _ h=>h.elim
end
noncomputable abbrev TG:=V->St->Hp->(St->Hp->Prop)->Prop
noncomputable abbrev TGs:=List V->St->Hp->(St->Hp->Prop)->Prop
noncomputable def PG(X:Cx)(target:Expr)(t:TG):Prop:=
 ∀(pins:List (Addr×Obj))(s:Shared)(σ:St)(H:Hp)(v:V)(u:Value)(Q:St->Hp->Prop),Inv X pins σ H s->RelV v u->t v σ H Q->
  wpAny (model X.prog X.w) X.A (assign target X.env u) (λ_ s'=>∃σ' H',Inv X pins σ' H' s'/\Q σ' H') X.xe s
noncomputable def PGs(X:Cx)(ts:List Expr)(t:TGs):Prop:=
 ∀(pins:List (Addr×Obj))(s:Shared)(σ:St)(H:Hp)(vs:List V)(us:List Value)(Q:St->Hp->Prop),Inv X pins σ H s->Vals vs us->t vs σ H Q->
  wpAny (model X.prog X.w) X.A (assignInOrder ((assignEach ts X.env).map (·.2)) us) (λ_ s'=>∃σ' H',Inv X pins σ' H' s'/\Q σ' H') X.xe s
section
variable{X:Cx}{pos:Pos}
noncomputable def gName(i:Nat):TG:=λv σ H Q=>Q (σ.set i (some v)) H
theorem zrs{i:Nat}{x:Str}(hN:X.N.Nodup)(hi:X.N[i]?=some x)(hx:Loc X.env.scope x)(hf:X.fn x=true\/X.env.scope.names.lookup x=some .local:=by assumption):PG X (.Name x pos) (gName i):=by
 intro pins s σ H v u Q I r h
 exact wpAny_assign_Name (zkh I hN hi hx r (λs' I'=>⟨_,H,I',h⟩) hf)
noncomputable def gNil:TGs:=λvs σ H Q=>vs=[]/\Q σ H
noncomputable def gCons(t:TG)(u:TGs):TGs:=λvs σ H Q=>∃v r,vs=v::r/\t v σ H λσ' H'=>u r σ' H' Q
theorem zadu:PGs X [] gNil:=by
 intro pins s σ H vs us Q I r h
 obtain⟨e,h⟩:=h
 subst e
 cases r
 exact assignInOrder_nil ⟨σ,H,I,h⟩
theorem zaaa{e:Expr}{es:List Expr}{t:TG}{u:TGs}(h1:PG X e t)(h2:PGs X es u)
  (hs:(assignEach (e::es) X.env).map (·.2)=assign e X.env::(assignEach es X.env).map (·.2):=by rfl):PGs X (e::es) (gCons t u):=by
 intro pins s σ H vs us Q I r h
 obtain⟨v,vr,e1,h⟩:=h
 subst e1
 cases r with
 | cons r rr=>
  rw[hs]
  refine assignInOrder_cons (thn (h1 pins s σ H _ _ _ I r h) λ_ s1 ⟨σ1,H1,I1,q1⟩=>?_)
  exact h2 pins s1 σ1 H1 _ _ Q I1 rr q1
noncomputable def gTup(K:qB)(n:Nat)(t:TGs):TG:=λv σ H Q=>∃a xs,v=.ref a/\SqT K H a xs/\xs.length=n/\t xs σ H Q
theorem zahs{es:List Expr}{k:Nat}{t:TGs}{n:Nat}(hc:X.calm=true)(h:PGs X es t)
  (hn:(assignEach es X.env).length=n:=by rfl) (hst:(assignEach es X.env).findIdx? (·.1)=none:=by rfl):PG X (.Tuple es k pos) (gTup X.K n t):=by
 intro pins s σ H v u Q I r hw
 obtain⟨a,xs,e1,hq,hl,hw⟩:=hw
 subst e1
 cases r
 obtain⟨its,rv,ht,hz⟩:=I.tuple hq
 refine assign_Tuple_tuple (I.ok.hd hc) ht (by simp[hn,<- hl,rv.length]) hst λh' hx=>?_
 have I1:Inv X pins σ H {s with heap:=h'}:=I.kept (t':=s.toks) λb o e=>hx b o (qx (qO e)) e
 exact h pins _ σ H xs _ Q I1 (by simpa using rv) hw
noncomputable def tAsg(te:TE)(g:TG):TS:=λD σ H=>te σ H λx H1=>g x σ H1 D.nx
theorem zaht{tg e:Expr}{te:TE}{g:TG}(he:PE X e te)(hg:PG X tg g)(hs:swapsWithSole [tg] e pos.line X.env=pure false:=by rfl)(hw:swappedStores [tg] e X.env=pure none:=by rfl)
  (h1:(assignEach [tg] X.env).map (·.2)=[assign tg X.env]:=by rfl):PS X (.Assign [tg] e pos) (tAsg te g):=by
 intro pins s σ H D I h
 refine wpAny_Assign_stores (thn (he pins s σ H _ I h) λv s1 ⟨x,H1,I1,r1,q1⟩=>?_) hs hw
 rw[h1]
 exact thn (hg pins s1 σ H1 x v _ I1 r1 q1) λ_ s2 q=>q
theorem zsx{i:Nat}{x:Str}{e:Expr}{te:TE}{pos':Pos}(hN:X.N.Nodup)(hi:X.N[i]?=some x)(hx:Loc X.env.scope x)(he:PE X e te)(hs:swapsWith e (some (.Name x pos')) pos.line X.env=pure false:=by rfl)(hf:X.fn x=true\/X.env.scope.names.lookup x=some .local:=by assumption) :
  PS X (.Assign [.Name x pos'] e pos) (tAsg te (gName i)):=by
 intro pins s σ H D I h
 refine wpAny_Assign_Name (thn (he pins s σ H _ I h) λv s1 ⟨y,H1,I1,r1,q1⟩=>?_) hs
 exact zkh I1 hN hi hx r1 (λs2 I2=>⟨_,H1,I2,q1⟩) hf
end
set_option genInjectivity false in
structure It where
 go:Nat->Hp->Prop
 yld:Nat->Hp->V->Hp->Prop
 stop:Nat->Hp->Prop
noncomputable def FpOk(X:Cx)(pins:List (Addr×Obj))(H:Hp)(b:Addr):Prop:=
 H b=none/\b≠X.env.locals/\b∉X.fs/\(b∈X.ex\/X.s₀.heap.objs.size<=b)/\(∀x c,X.env.cells.lookup x=some c->c≠b)/\∀p∈X.pn++pins,p.1≠b
theorem Inv.fpOk{X:Cx}{pins:List (Addr×Obj)}{σ:St}{H H':Hp}{s:Shared}{b:Addr}(I:Inv X pins σ H s)(hb:s.heap.objs.size<=b)(hn:H' b=none):FpOk X pins H' b:=by
 refine⟨hn,qB8 (qe I.lt hb),I.nofs hb,.inr (qAK I.sz hb),λx c e z=>?_,λp hp z=>?_⟩
 ·obtain⟨v,q⟩:=I.cell x c e
  exact absurd (qe q.lt (by rw[z];exact hb)) (qAh _)
 ·exact absurd (qe (qO (I.pin p hp).1) (by rw[z];exact hb)) (qAh _)
set_option genInjectivity false in
structure Turn(P:Program)(w:World)(K:qB)(tg:Expr)(J:It)(fp:List Addr)(it:Addr)(tn:Nat->Heap->Prop):Prop where
 mem:it∈fp
 obj:∀i h,tn i h->∀b∈fp,∃o,h.get? b=some o/\∀v,o.data≠.cell v
 keep:∀i h h',tn i h->(∀b∈fp,∀o,h.get? b=some o->h'.get? b=some o)->tn i h'
 item:∀(X:Cx),X.prog=P->X.w=w->X.K=K->X.calm=true->∀(i:Nat)(pins:List (Addr×Obj))(s:Shared)(σ:St)(H:Hp)(E:Value->Shared->Prop),Inv X pins σ H s->(∀b∈fp,FpOk X pins H b)->tn i s.heap->J.go i H->
  wpAny (model P w) X.A (pyNext (.ref it)) (λr s1=>∃u,r=some u/\
   wpAny (model P w) X.A (letOwnedTupleGo tg (.ref it) u) (λ_ s2=>∃x H',Inv X pins σ H' s2/\RelV x u/\J.yld i H x H'/\tn (i+1) s2.heap/\∀b∈fp,H' b=none) E s1) E s
 done:∀(X:Cx),X.prog=P->X.w=w->X.K=K->X.calm=true->∀(i:Nat)(pins:List (Addr×Obj))(s:Shared)(σ:St)(H:Hp)(E:Value->Shared->Prop),Inv X pins σ H s->(∀b∈fp,FpOk X pins H b)->tn i s.heap->J.stop i H->
  wpAny (model P w) X.A (pyNext (.ref it)) (λr s1=>r=none/\Inv X pins σ H s1) E s
 self:∀(A:Around)(i:Nat)(s:Shared)(Q:Value->Shared->Prop)(E:Value->Shared->Prop),tn i s.heap->Q (.ref it) s->wpAny (model P w) A (pyIter (.ref it)) Q E s
noncomputable abbrev TI:=St->Hp->(It->Hp->Prop)->Prop
noncomputable def PIE(X:Cx)(pins:List (Addr×Obj))(σ:St)(tg:Expr)(R:It->Hp->Prop)(itv:Value)(s2:Shared):Prop:=
 ∃(it:Addr)(fp:List Addr)(tn:Nat->Heap->Prop)(J:It)(H':Hp),itv=.ref it/\Inv X pins σ H' s2/\Turn X.prog X.w X.K tg J fp it tn/\tn 0 s2.heap/\(∀b∈fp,FpOk X pins H' b)/\R J H'
noncomputable def PI(X:Cx)(tg iter:Expr)(wi:TI):Prop:=
 ∀(pins:List (Addr×Obj))(s:Shared)(σ:St)(H:Hp)(R:It->Hp->Prop),Inv X pins σ H s->wi σ H R->
  wpAny (model X.prog X.w) X.A (eval iter X.env) (λv s1=>wpAny (model X.prog X.w) X.A (pyIter v) (PIE X pins σ tg R) X.xe s1) X.xe s
theorem zaab{M:Model}{A:Around}{E:Value->Shared->Prop}{s:Shared}{tg:Expr}{it:Addr}{u:Value}{o:Obj}{n:String}{vs:Array Value}{Q:Unit->Shared->Prop}(ho:s.heap.get? it=some o)(hc:o.cls=.type n)(hd:o.data=.fields vs)
  (hn:["enumerate","zip","dict_itemiterator","dict_reverseitemiterator","odict_iterator","itertools.zip_longest","itertools.pairwise"].contains n=false) (hQ:Q () s):wpAny M A (letOwnedTupleGo tg (.ref it) u) Q E s:=by
 unfold letOwnedTupleGo
 cases tg<;>first
  | exact qc hQ
  | (cases u<;>first
    | exact qc hQ
    | (refine qH (wpAny_load ho ?_)
       rw[hc,hd]
       show wpAny M A (if(["enumerate","zip","dict_itemiterator","dict_reverseitemiterator","odict_iterator","itertools.zip_longest","itertools.pairwise"].contains n&&vs[0]?==some (rawInt _))=true then _ else _) Q E s
       rw[if_neg (by intro h;rw[hn,Bool.false_and]at h;cases h)]
       exact qc hQ))
noncomputable def Itl(K:qB)(a:Addr):It:=
 ⟨λi H=>∃xs x,SqL K H a xs/\xs[i]?=some x,λi H x H'=>H'=H/\∀xs,SqL K H a xs->xs[i]?=some x,λi H=>∃xs,SqL K H a xs/\xs.length<=i⟩
noncomputable def Itt(K:qB)(a:Addr):It:=
 ⟨λi H=>∃xs x,SqT K H a xs/\xs[i]?=some x,λi H x H'=>H'=H/\∀xs,SqT K H a xs->xs[i]?=some x,λi H=>∃xs,SqT K H a xs/\xs.length<=i⟩
noncomputable def Itr(lo:Int)(n:Nat):It:=⟨λi _=>i<n,λi H x H'=>H'=H/\x=.int (lo+i),λi _=>n<=i⟩
theorem zok{P:Program}{w:World}{K:qB}{tg:Expr}(a it:Addr):Turn P w K tg (Itl K a) [it] it (λi h=>h.IsListIter it a i) where
 mem:=by simp
 obj:=λi h st b hb=>by
  have e:b=it:=by simpa using hb
  subst e
  obtain⟨o,e,c,d⟩:=st
  exact⟨o,e,λv z=>by rw[d]at z;cases z⟩
 keep:=λi h h' st k=>st.at λo e=>k it (by simp) o e
 item:=by
  intro X hP hw hK hc i pins s σ H E I hf st hg
  subst hP hw hK
  obtain⟨xs,x,hq,hx⟩:=hg
  obtain⟨its,rv,p,hz⟩:=I.list hq
  obtain⟨u,hu,ru⟩:=rv.get hx
  obtain⟨f0,f1,f2,f3,f4,f5⟩:=hf it (by simp)
  refine wpAny_pyNext_list_item st p.isList (x:=u) (by simpa using hu) λh' st' sb=>?_
  have I1:Inv X pins σ H {s with heap:=h'}:=I.turned (t':=s.toks) (λb o hb e=>(sb.2 b hb).trans e) f0 f1 f3 f4 f5
  obtain⟨o,e,c,d⟩:=id st'
  exact⟨u,rfl,zaab (s:={s with heap:=h'}) e c d (by decide) ⟨x,H,I1,ru,⟨rfl,λys hy=>by rw[I.list_inj hy hq];exact hx⟩,st',λb hb=>(hf b hb).1⟩⟩
 done:=by
  intro X hP hw hK hc i pins s σ H E I hf st hg
  subst hP hw hK
  obtain⟨xs,hq,hx⟩:=hg
  obtain⟨its,rv,p,hz⟩:=I.list hq
  obtain⟨f0,f1,f2,f3,f4,f5⟩:=hf it (by simp)
  have hl:=rv.length
  exact wpAny_pyNext_list_end (I.ok.hd hc) st p.isList (by simp;omega) λh' eb=>⟨rfl,I.turned (t':=s.toks) (λb o hb e=>eb b o hb e) f0 f1 f3 f4 f5⟩
 self:=λ_ _ _ _ _ st h=>wpAny_pyIter_listiter st h
theorem zuk{P:Program}{w:World}{K:qB}{tg:Expr}(a it:Addr):Turn P w K tg (Itt K a) [it] it (λi h=>h.IsTupleIter it a i) where
 mem:=by simp
 obj:=λi h st b hb=>by
  have e:b=it:=by simpa using hb
  subst e
  obtain⟨o,e,c,d⟩:=st
  exact⟨o,e,λv z=>by rw[d]at z;cases z⟩
 keep:=λi h h' st k=>st.at λo e=>k it (by simp) o e
 item:=by
  intro X hP hw hK hc i pins s σ H E I hf st hg
  subst hP hw hK
  obtain⟨xs,x,hq,hx⟩:=hg
  obtain⟨its,rv,p,hz⟩:=I.tuple hq
  obtain⟨u,hu,ru⟩:=rv.get hx
  obtain⟨f0,f1,f2,f3,f4,f5⟩:=hf it (by simp)
  refine wpAny_pyNext_tuple_item st (show s.heap.IsTuple a its.toArray from p) (x:=u) (by simpa using hu) λh' st' sb=>?_
  have I1:Inv X pins σ H {s with heap:=h'}:=I.turned (t':=s.toks) (λb o hb e=>(sb.2 b hb).trans e) f0 f1 f3 f4 f5
  obtain⟨o,e,c,d⟩:=id st'
  exact⟨u,rfl,zaab (s:={s with heap:=h'}) e c d (by decide) ⟨x,H,I1,ru,⟨rfl,λys hy=>by rw[I.tuple_inj hy hq];exact hx⟩,st',λb hb=>(hf b hb).1⟩⟩
 done:=by
  intro X hP hw hK hc i pins s σ H E I hf st hg
  subst hP hw hK
  obtain⟨xs,hq,hx⟩:=hg
  obtain⟨its,rv,p,hz⟩:=I.tuple hq
  obtain⟨f0,f1,f2,f3,f4,f5⟩:=hf it (by simp)
  have hl:=rv.length
  exact wpAny_pyNext_tuple_end (I.ok.hd hc) st (show s.heap.IsTuple a its.toArray from p) (by simp;omega) λh' eb=>⟨rfl,I.turned (t':=s.toks) (λb o hb e=>eb b o hb e) f0 f1 f3 f4 f5⟩
 self:=λ_ _ _ _ _ st h=>wpAny_pyIter_tupleiter st h
theorem zul{P:Program}{w:World}{K:qB}{tg:Expr}(it:Addr)(lo:Int)(n:Nat):Turn P w K tg (Itr lo n) [it] it (λi h=>IsRangeIter h it (lo+(i:Nat) * 1) ((n:Int) - (i:Nat)) 1) where
 mem:=by simp
 obj:=λi h st b hb=>by
  have e:b=it:=by simpa using hb
  subst e
  exact⟨_,st,λv z=>by
   have z':Data.fields _=Data.cell v:=z
   cases z'⟩
 keep:=λi h h' st k=>k it (by simp) _ st
 item:=by
  intro X hP hw hK hc i pins s σ H E I hf st hg
  subst hP hw hK
  obtain⟨f0,f1,f2,f3,f4,f5⟩:=hf it (by simp)
  have W:=Walks.range (prog:=X.prog) (w:=X.w) (I.ok.hd hc) it lo 1 n
  refine W.item i s _ _ hg st λv h' tk hv st' kk=>?_
  obtain⟨t,rfl⟩:=hv
  have I1:Inv X pins σ H {s with heap:=h',toks:=tk}:=I.turned (λb o hb e=>kk b o (by simpa using hb) e) f0 f1 f3 f4 f5
  refine⟨_,rfl,zaab (s:={s with heap:=h',toks:=tk}) (n:="range_iterator") st' rfl rfl (by decide) ⟨.int (lo+i),H,I1,⟨t,?_⟩,⟨rfl,rfl⟩,st',λb hb=>(hf b hb).1⟩⟩
  rw[Int.mul_one]
 done:=by
  intro X hP hw hK hc i pins s σ H E I hf st hg
  subst hP hw hK
  obtain⟨f0,f1,f2,f3,f4,f5⟩:=hf it (by simp)
  exact wpAny_pyNext_range_end (I.ok.hd hc) st (by have:n<=i:=hg;omega) λh' eb=>⟨rfl,I.turned (t':=s.toks) (λb o hb e=>eb b o hb e) f0 f1 f3 f4 f5⟩
 self:=λ_ _ _ _ _ st h=>wpAny_pyIter_rangeiter st h
section
variable{X:Cx}{tg:Expr}
noncomputable def zahu(K:qB)(tl:TE):TI:=λσ H R=>tl σ H λx H1=>∃a,x=.ref a/\(∃xs,SqL K H1 a xs)/\R (Itl K a) H1
theorem zadv{l:Expr}{tl:TE}(hl:PE X l tl):PI X tg l (zahu X.K tl):=by
 intro pins s σ H R I h
 refine thn (hl pins s σ H _ I h) λv s1 ⟨x,H1,I1,r1,q1⟩=>?_
 obtain⟨a,e,⟨xs,hq⟩,q⟩:=q1
 subst e
 cases r1
 obtain⟨its,rv,p,hz⟩:=I1.list hq
 refine qBc p.isList ?_
 refine⟨s1.heap.objs.size,[s1.heap.objs.size],_,_,H1,rfl,I1.kept (t':=s1.toks) λb o e=>qE _ e,zok a _,⟨_,qV _ rfl,rfl,rfl⟩,λb hb=>?_,q⟩
 have e:b=s1.heap.objs.size:=by simpa using hb
 subst e
 exact I1.fpOk (qQ _) (I1.hok.fresh (qQ _))
theorem zaac{pins:List (Addr×Obj)}{σ:St}{H:Hp}{s:Shared}{R:It->Hp->Prop}{E:Value->Shared->Prop}{lo hi:Int}{t u v:Tok}{tk:Nat}(I:Inv X pins σ H s)(h1:-(2 ^ 62)<=lo)(h2:lo<2 ^ 62)(h3:-(2 ^ 62)<=hi)(h4:hi<2 ^ 62)
  (q:R (Itr lo (hi - lo).toNat) H):wpAny (model X.prog X.w) X.A (pyIter (.ref s.heap.objs.size)) (PIE X pins σ tg R) E {s with heap:=s.heap.push {cls:=.type "range",data:=.fields #[.int lo t,.int hi u,.int 1 v]},toks:=tk}:=by
 refine wpAny_pyIter_range (IsRange.new ..) (small_one h1 h2 h3 h4) ?_
 have I1:Inv X pins σ H {s with heap:=s.heap.push {cls:=.type "range",data:=.fields #[.int lo t,.int hi u,.int 1 v]},toks:=tk}:=I.kept λb o e=>qE _ e
 refine⟨(s.heap.push {cls:=.type "range",data:=.fields #[.int lo t,.int hi u,.int 1 v]}).objs.size,[(s.heap.push {cls:=.type "range",data:=.fields #[.int lo t,.int hi u,.int 1 v]}).objs.size],_,_,H,rfl,
  I1.kept (t':=tk) λb o e=>qE _ e,zul _ lo (hi - lo).toNat,?_,λb hb=>?_,q⟩
 ·have e1:lo+((0:Nat):Int) * 1=lo:=by simp
  have e2:(((hi - lo).toNat:Nat):Int) - ((0:Nat):Int)=Builtin.Range.rangeSize lo hi 1:=by rw[rangeSize_one];split<;>omega
  show IsRangeIter _ _ (lo+((0:Nat):Int) * 1) ((((hi - lo).toNat:Nat):Int) - ((0:Nat):Int)) 1
  rw[e1,e2]
  exact qV _ rfl
 ·have e:b=(s.heap.push {cls:=.type "range",data:=.fields #[.int lo t,.int hi u,.int 1 v]}).objs.size:=by simpa using hb
  subst e
  exact I1.fpOk (qQ _) (I1.hok.fresh (qQ _))
noncomputable def iRng1(ta:TA):TI:=λσ H R=>ta σ H λvs H1=>∃j:Int,vs=[.int j]/\-(2 ^ 62)<=j/\j<2 ^ 62/\R (Itr 0 j.toNat) H1
theorem zol{a:Expr}{ta:TA}{p pos:Pos}(hg:Gl X "range")(hm:X.mg "range"=none)(ha:PA X [a] ta)(hs:starEach [a] X.env=[(false,eval a X.env)]:=by rfl):PI X tg (.Call (.Name "range" p) [a] [] pos) (iRng1 ta):=by
 intro pins s σ H R I h
 refine Call_ (zjt I hg hm boot_range (qA7 (thn (ha pos pins s σ H _ I h) λus s1 ⟨vs,H1,I1,r1,q1⟩=>?_) hs rfl))
 obtain⟨j,e,q1,q2,q⟩:=q1
 subst e
 cases r1 with
 | cons r rr=>
  cases rr
  obtain⟨t,rfl⟩:=r
  exact call_range_1 (zaac I1 (by omega) (by omega) q1 q2 (by simpa using q))
noncomputable def tFor(wi:TI)(g:TG)(tb:TS):TS:=λD σ H=>wi σ H λJ H1=>∃W:Nat->Nat->St->Hp->Prop,(∃m,W 0 m σ H1)/\∀i m σ H,W i m σ H->
 (J.stop i H/\D.nx σ H)\/(J.go i H/\∃N:St->Hp->Prop,(∀σ' H',N σ' H'->∃m',m'<m/\W (i+1) m' σ' H')/\∀x H',J.yld i H x H'->g x σ H' λσ2 H2=>tb {D with nx:=N,ct:=N,bk:=D.nx} σ2 H2)
noncomputable def zom(fp:List Addr)(h:Heap):List (Addr×Obj):=fp.filterMap λb=>(h.get? b).map λo=>(b,o)
theorem zhc{fp:List Addr}{h:Heap}{b:Addr}{o:Obj}(hb:b∈fp)(e:h.get? b=some o):(b,o)∈zom fp h:=qBK.mpr ⟨b,hb,by rw[e];rfl⟩
theorem zvp{fp:List Addr}{h:Heap}{p:Addr×Obj}(hp:p∈zom fp h):p.1∈fp/\h.get? p.1=some p.2:=by
 obtain⟨b,hb,e⟩:=qBK.mp hp
 cases q:h.get? b with
 | none=>rw[q]at e;cases e
 | some o=>
  rw[q]at e
  have e':(b,o)=p:=qq e
  subst e'
  exact⟨hb,q⟩
theorem Inv.pinned{pins:List (Addr×Obj)}{σ:St}{H:Hp}{s:Shared}{fp:List Addr}(I:Inv X pins σ H s)(hf:∀b∈fp,FpOk X pins H b)(ho:∀b∈fp,∃o,s.heap.get? b=some o/\∀v,o.data≠.cell v):Inv X (pins++zom fp s.heap) σ H s:=
 I.pins_of λp hp=>(qv.mp hp).elim (λz=>I.pin p (qg _ z)) λz=>by
  obtain⟨hb,e⟩:=zvp z
  obtain⟨f0,f1,f2,_⟩:=hf p.1 hb
  obtain⟨o,e',d⟩:=ho p.1 hb
  rw[e]at e';cases e'
  exact⟨e,f0,f1,f2,d⟩
theorem Inv.unpinned{pins pl:List (Addr×Obj)}{σ:St}{H:Hp}{s:Shared}(I:Inv X (pins++pl) σ H s):Inv X pins σ H s:=I.pins_of λp hp=>I.pin p (qg _ (qAG _ hp))
theorem zvq{iter:Expr}{body:List Stmt}{wi:TI}{g:TG}{tb:TS}{pos:Pos}(hp:PassesOwn (model X.prog X.w) X.A X.env X.xe)(hc:X.calm=true)(hi:PI X tg iter wi)(hg:PG X tg g)(hb:PSs X body tb)
  (hs:∀x,foldedSetIterable iter X.env x=pure x:=by intro _;rfl):PS X (.For tg iter body [] pos) (tFor wi g tb):=by
 intro pins s σ H D I h
 refine wpAny_For (thn (hi pins s σ H _ I h) λv s1 h1=>thn h1 λitv s2 h2=>?_) hs
 obtain⟨it,fp,tn,J,H2,e,I2,T,st2,f2,W,⟨m0,w0⟩,turn⟩:=h2
 subst e
 have stat:∀{H':Hp},(∀b∈fp,H' b=none)->∀b∈fp,FpOk X pins H' b:=λhn b hb=>⟨hn b hb,(f2 b hb).2⟩
 refine codeAny_forLoop_any (λn s'=>∃i σ' H',Inv X pins σ' H' s'/\tn i s'.heap/\(∀b∈fp,H' b=none)/\W i n σ' H') ?_ m0 ⟨0,σ,H2,I2,st2,λb hb=>(f2 b hb).1,w0⟩
 rintro n s3 ⟨i,σ3,H3,I3,st3,fr3,w3⟩
 rcases turn i n σ3 H3 w3 with⟨stop,qn⟩|⟨go,N,hN,step⟩
 ·refine qBQ hp (thn (T.done X rfl rfl rfl hc i pins s3 σ3 H3 X.xe I3 (stat fr3) st3 stop) λr s4 ⟨hr,I4⟩=>?_)
  subst hr
  exact qAa ⟨σ3,H3,I4,qn⟩
 ·refine qBQ hp (thn (T.item X rfl rfl rfl hc i pins s3 σ3 H3 X.xe I3 (stat fr3) st3 go) λr s4 ⟨u,hr,h4⟩=>?_)
  subst hr
  refine qBQ hp (thn h4 λ_ s5 ⟨x,H5,I5,r5,y5,st5,fr5⟩=>?_)
  have I5':=I5.pinned (stat fr5) (T.obj _ _ st5)
  refine qBQ hp (thn (hg _ s5 σ3 H5 x u _ I5' r5 (step x H5 y5)) λ_ s6 ⟨σ6,H6,I6,q6⟩=>?_)
  refine qBQ hp (thn (hb _ s6 σ6 H6 _ I6 q6) λf s7 q7=>?_)
  have again:∀{σ7:St}{H7:Hp},Inv X (pins++zom fp s5.heap) σ7 H7 s7->N σ7 H7->∃m,m<n/\∃i σ' H',Inv X pins σ' H' s7/\tn i s7.heap/\(∀b∈fp,H' b=none)/\W i m σ' H':=λ{σ7 H7} I7 n7=>by
   obtain⟨m',hm,w7⟩:=hN σ7 H7 n7
   refine⟨m',hm,i+1,σ7,H7,I7.unpinned,T.keep _ _ _ st5 λb hb o e=>(I7.pin (b,o) (qg _ (qg _ (zhc hb e)))).1,λb hb=>?_,w7⟩
   obtain⟨o,e,d⟩:=T.obj _ _ st5 b hb
   exact(I7.pin (b,o) (qg _ (qg _ (zhc hb e)))).2.1
  cases f with
  | next=>obtain⟨σ7,H7,I7,n7⟩:=q7;exact again I7 n7
  | cont=>obtain⟨σ7,H7,I7,n7⟩:=q7;exact again I7 n7
  | brk=>obtain⟨σ7,H7,I7,q7⟩:=q7;exact⟨σ7,H7,I7.unpinned,q7⟩
  | ret v=>obtain⟨x7,σ7,H7,I7,r7,q7⟩:=q7;exact⟨x7,σ7,H7,I7.unpinned,r7,q7⟩
end
theorem for_list{K:qB}{a:Addr}{xs:List V}{g:TG}{tb:TS}{D:Ends}{σ:St}{H:Hp}(Pv:Nat->St->Hp->Prop)(h0:Pv 0 σ H)(hl:∀i σ H,i<=xs.length->Pv i σ H->SqL K H a xs)
  (hs:∀i x σ H,xs[i]?=some x->Pv i σ H->g x σ H λσ2 H2=>tb {D with nx:=Pv (i+1),ct:=Pv (i+1),bk:=D.nx} σ2 H2) (hd:∀σ H,Pv xs.length σ H->D.nx σ H) :
  ∃W:Nat->Nat->St->Hp->Prop,(∃m,W 0 m σ H)/\∀i m σ H,W i m σ H->
   ((Itl K a).stop i H/\D.nx σ H)\/((Itl K a).go i H/\∃N:St->Hp->Prop,(∀σ' H',N σ' H'->∃m',m'<m/\W (i+1) m' σ' H')/\∀x H',(Itl K a).yld i H x H'->g x σ H' λσ2 H2=>tb {D with nx:=N,ct:=N,bk:=D.nx} σ2 H2):=by
 refine⟨λi m σ H=>m=xs.length - i/\i<=xs.length/\Pv i σ H,⟨xs.length,by simp,qAR _,h0⟩,?_⟩
 rintro i m σ H ⟨rfl,hi,p⟩
 have q:=hl i σ H hi p
 by_cases hlt:i<xs.length
 ·refine .inr ⟨⟨xs,xs[i],q,by simp[hlt]⟩,Pv (i+1),λσ' H' p'=>⟨xs.length - (i+1),by omega,rfl,hlt,p'⟩,λx H' y=>?_⟩
  obtain⟨e,y⟩:=y
  subst e
  exact hs i x σ _ (y xs q) p
 ·have e:i=xs.length:=by omega
  subst e
  exact .inl ⟨⟨xs,q,qQ _⟩,hd σ H p⟩
theorem for_range{lo:Int}{n:Nat}{g:TG}{tb:TS}{D:Ends}{σ:St}{H:Hp}(Pv:Nat->St->Hp->Prop)(h0:Pv 0 σ H)
  (hs:∀i σ H,i<n->Pv i σ H->g (.int (lo+i)) σ H λσ2 H2=>tb {D with nx:=Pv (i+1),ct:=Pv (i+1),bk:=D.nx} σ2 H2) (hd:∀σ H,Pv n σ H->D.nx σ H) :
  ∃W:Nat->Nat->St->Hp->Prop,(∃m,W 0 m σ H)/\∀i m σ H,W i m σ H->
   ((Itr lo n).stop i H/\D.nx σ H)\/((Itr lo n).go i H/\∃N:St->Hp->Prop,(∀σ' H',N σ' H'->∃m',m'<m/\W (i+1) m' σ' H')/\∀x H',(Itr lo n).yld i H x H'->g x σ H' λσ2 H2=>tb {D with nx:=N,ct:=N,bk:=D.nx} σ2 H2):=by
 refine⟨λi m σ H=>m=n - i/\i<=n/\Pv i σ H,⟨n,by simp,qAR _,h0⟩,?_⟩
 rintro i m σ H ⟨rfl,hi,p⟩
 by_cases hlt:i<n
 ·refine .inr ⟨hlt,Pv (i+1),λσ' H' p'=>⟨n - (i+1),by omega,rfl,hlt,p'⟩,λx H' y=>?_⟩
  obtain⟨e,y⟩:=y
  subst e y
  exact hs i σ _ hlt p
 ·have e:i=n:=by omega
  subst e
  exact .inl ⟨qQ _,hd σ H p⟩
noncomputable abbrev R2:=V->V->Hp->VK->Prop
noncomputable def OpR(X:Cx)(f:Value->Value->Sem Value)(r:R2):Prop:=
 ∀(pins:List (Addr×Obj))(s:Shared)(σ:St)(H:Hp)(x y:V)(v u:Value)(Q:VK),Inv X pins σ H s->RelV x v->RelV y u->r x y H Q->
  wpAny (model X.prog X.w) X.A (f v u) (EP X pins σ Q) X.xe s
noncomputable def CallR(X:Cx)(f:Value)(r:List V->Hp->VK->Prop):Prop:=
 ∀(pins:List (Addr×Obj))(s:Shared)(σ:St)(H:Hp)(xs:List V)(us:List Value)(Q:VK),Inv X pins σ H s->Vals xs us->r xs H Q->
  wpAny (model X.prog X.w) X.A (call f us) (EP X pins σ Q) X.xe s
noncomputable def TruR(X:Cx)(r:V->Hp->(Bool->Hp->Prop)->Prop):Prop:=
 ∀(pins:List (Addr×Obj))(s:Shared)(σ:St)(H:Hp)(x:V)(v:Value)(Q:Bool->Hp->Prop),Inv X pins σ H s->RelV x v->r x H Q->
  wpAny (model X.prog X.w) X.A (truthy v) (TP X pins σ Q) X.xe s
noncomputable def tOp(r:R2)(ta tb:TE):TE:=λσ H Q=>ta σ H λx H1=>tb σ H1 λy H2=>r x y H2 Q
noncomputable def rI(C:Int->Int->Prop)(g:Int->Int->V):R2:=λx y H Q=>∃i j,x=.int i/\y=.int j/\C i j/\Q (g i j) H
noncomputable def rI0(g:Int->Int->V):R2:=λx y H Q=>∃i j,x=.int i/\y=.int j/\Q (g i j) H
section
variable{X:Cx}{a b c:Expr}{ta tb tc:TE}{pos:Pos}
theorem binT(ha:PE X a ta)(hb:PE X b tb){pins:List (Addr×Obj)}{s:Shared}{σ:St}{H:Hp}{R:V->V->Hp->Prop}(I:Inv X pins σ H s)
  (h:ta σ H λx H1=>tb σ H1 λy H2=>R x y H2){Q:Value->Shared->Prop}{f:Value->Value->Sem Value}
  (hf:∀v u s2 x y H2,Inv X pins σ H2 s2->RelV x v->RelV y u->R x y H2->wpAny (model X.prog X.w) X.A (f v u) Q X.xe s2) :
  wpAny (model X.prog X.w) X.A (eval a X.env) (λv s₁=>wpAny (model X.prog X.w) X.A (eval b X.env) (λu s₂=>wpAny (model X.prog X.w) X.A (f v u) Q X.xe s₂) X.xe s₁) X.xe s:=by
 refine thn (ha pins s σ H _ I h) λv s1 ⟨x,H1,I1,r1,q1⟩=>?_
 refine thn (hb pins s1 σ H1 _ I1 q1) λu s2 ⟨y,H2,I2,r2,q2⟩=>?_
 exact hf v u s2 x y H2 I2 r1 r2 q2
theorem zhl{op:Operator}{r:R2}(ho:OpR X (binaryOp op) r)(ha:PE X a ta)(hb:PE X b tb):PE X (.BinOp a op b pos) (tOp r ta tb):=by
 intro pins s σ H Q I h
 exact wpAny_BinOp (binT ha hb I h λv u s2 x y H2 I2 rx ry q=>ho pins s2 σ H2 x y v u Q I2 rx ry q)
theorem opI{f:Value->Value->Sem Value}{C:Int->Int->Prop}{g:Int->Int->Int}
  (rule:∀(i j:Int)(t u:Tok)(s:Shared)(Q:Value->Shared->Prop)(E:Value->Shared->Prop),C i j->Q (.int (g i j) s.toks) {s with toks:=s.toks+1}->wpAny (model X.prog X.w) X.A (f (.int i t) (.int j u)) Q E s) :
  OpR X f (rI C λi j=>.int (g i j)):=by
 intro pins s σ H x y v u Q I rx ry h
 obtain⟨i,j,rfl,rfl,hc,q⟩:=h
 obtain⟨t,rfl⟩:=rx
 obtain⟨t',rfl⟩:=ry
 exact rule i j t t' s _ _ hc ⟨.int (g i j),H,I.tok _,⟨_,rfl⟩,q⟩
theorem opI0{f:Value->Value->Sem Value}{g:Int->Int->Int}
  (rule:∀(i j:Int)(t u:Tok)(s:Shared)(Q:Value->Shared->Prop)(E:Value->Shared->Prop),Q (.int (g i j) s.toks) {s with toks:=s.toks+1}->wpAny (model X.prog X.w) X.A (f (.int i t) (.int j u)) Q E s) :
  OpR X f (rI0 λi j=>.int (g i j)):=by
 intro pins s σ H x y v u Q I rx ry h
 obtain⟨i,j,rfl,rfl,q⟩:=h
 obtain⟨t,rfl⟩:=rx
 obtain⟨t',rfl⟩:=ry
 exact rule i j t t' s _ _ ⟨.int (g i j),H,I.tok _,⟨_,rfl⟩,q⟩
theorem opB0{f:Value->Value->Sem Value}{g:Int->Int->Bool}
  (rule:∀(i j:Int) (t u:Tok) (s:Shared) (Q:Value->Shared->Prop) (E:Value->Shared->Prop),Q (.bool (g i j)) s->wpAny (model X.prog X.w) X.A (f (.int i t) (.int j u)) Q E s) :
  OpR X f (rI0 λi j=>.bl (g i j)):=by
 intro pins s σ H x y v u Q I rx ry h
 obtain⟨i,j,rfl,rfl,q⟩:=h
 obtain⟨t,rfl⟩:=rx
 obtain⟨t',rfl⟩:=ry
 exact rule i j t t' s _ _ ⟨.bl (g i j),H,I,rfl,q⟩
noncomputable def CDiv(i j:Int):Prop:=0<j/\j<1073741824
noncomputable def CPow(i j:Int):Prop:=0<=j/\j<=1000000/\i.natAbs<2 ^ 64
noncomputable def CMul(i j:Int):Prop:=(-(2 ^ 64)<i/\i<2 ^ 64)\/(-(2 ^ 64)<j/\j<2 ^ 64)
theorem CMul.ok{i j:Int}(h:CMul i j):IntMulOk i j:=by
 rcases h with⟨h1,h2⟩|⟨h1,h2⟩
 ·exact .of_left (intBits_le_64 h1 h2)
 ·exact .of_right (intBits_le_64 h1 h2)
theorem zahv:OpR X (binaryOp .Add) (rI0 λi j=>.int (i+j)):=opI0 λ_ _ _ _ _ _ _ q=>add_int q
theorem zahw:OpR X (binaryOp .Mult) (rI CMul λi j=>.int (i * j)):=opI λ_ _ _ _ _ _ _ hc q=>mul_int q hc.ok
theorem zft:OpR X (binaryOp .FloorDiv) (rI CDiv λi j=>.int (i / j)):=opI λi j _ _ _ _ _ hc q=>by
 have h1:(0:Int)<j:=hc.1
 have h2:j<1073741824:=hc.2
 exact floordiv_int (by omega) (by rw[Int.fdiv_eq_ediv_of_nonneg i (by omega)];exact q) (.inl (PyProof.noPylong_small (by omega)))
theorem zcw:OpR X (binaryOp .Mod) (rI (λ_ j=>0<j) λi j=>.int (i % j)):=opI λi j _ _ _ _ _ hc q=>by
 have h1:(0:Int)<j:=hc
 exact mod_int' (by omega) (by rw[Int.fmod_eq_emod_of_nonneg i (by omega)];exact q)
theorem zace:OpR X (binaryOp .Pow) (rI CPow λi j=>.int (i ^ j.toNat)):=opI λ_ _ _ _ _ _ _ hc q=>pow_int_small hc.1 hc.2.1 hc.2.2 q
end
noncomputable def scal:V->V->Bool
 | .non,.non=>true|.non,.int _=>true|.int _,.non=>true|.non,.bl _=>true|.bl _,.non=>true|.non,.str _=>true|.str _,.non=>true
 | .int _,.int _=>true|.bl _,.bl _=>true|.str _,.str _=>true|.byt _,.byt _=>true
 | .int _,.str _=>true|.str _,.int _=>true|.bl _,.str _=>true|.str _,.bl _=>true
 | _,_=>false
noncomputable def rEq:R2:=λx y H Q=>scal x y=true/\Q (.bl (decide (x=y))) H
noncomputable def rNe:R2:=λx y H Q=>scal x y=true/\Q (.bl (!decide (x=y))) H
theorem zrt{i j:Int}:decide (V.int i=V.int j)=(i==j):=by
 rw[qAQ]
 simp
theorem zsy{i j:Bool}:decide (V.bl i=V.bl j)=(i==j):=by
 rw[qAQ]
 simp
theorem zru{i j:Str}:decide (V.str i=V.str j)=(i==j):=by
 rw[qAQ]
 simp
theorem zvr{i j:Array UInt8}:decide (V.byt i=V.byt j)=(i.toList==j.toList):=by
 rw[qAQ]
 cases i
 cases j
 simp
section
variable{X:Cx}{a b c:Expr}{ta tb tc:TE}{pos:Pos}
theorem zbi{pins:List (Addr×Obj)}{σ:St}{H:Hp}{s:Shared}{Q:VK}{k k':Bool}(I:Inv X pins σ H s)(q:Q (.bl k) H)(e:k=k'):EP X pins σ Q (.bool k') s:=by
 subst e
 exact⟨.bl k,H,I,rfl,q⟩
theorem zakt:OpR X (compareOp .Eq) rEq:=by
 intro pins s σ H x y v u Q I rx ry h
 obtain⟨hs,q⟩:=h
 cases x with
 | non=>
  cases rx
  cases y with
  | non=>cases ry;exact PySem.EqNone.eq_none_none (zbi I q (by simp))
  | bl j=>cases ry;exact PySem.EqNone.eq_none_bool (zbi I q (by simp))
  | int j=>obtain⟨t',rfl⟩:=ry;exact PySem.EqNone.eq_none_int (zbi I q (by simp))
  | str j=>obtain⟨t',rfl⟩:=ry;exact PySem.EqNone.eq_none_str (zbi I q (by simp))
  | _=>exact absurd (show false=true from hs) qK
 | bl i=>
  cases rx
  cases y with
  | non=>cases ry;exact PySem.EqNone.eq_bool_none (zbi I q (by simp))
  | bl j=>cases ry;exact eq_bool (zbi I q zsy)
  | str j=>obtain⟨t',rfl⟩:=ry;exact PySem.EqMixed.eq_bool_str (zbi I q (by simp))
  | _=>exact absurd (show false=true from hs) qK
 | int i=>
  obtain⟨t,rfl⟩:=rx
  cases y with
  | non=>cases ry;exact PySem.EqNone.eq_int_none (zbi I q (by simp))
  | int j=>obtain⟨t',rfl⟩:=ry;exact eq_int (zbi I q zrt)
  | str j=>obtain⟨t',rfl⟩:=ry;exact PySem.EqMixed.eq_int_str (zbi I q (by simp))
  | _=>exact absurd (show false=true from hs) qK
 | str i=>
  obtain⟨t,rfl⟩:=rx
  cases y with
  | non=>cases ry;exact PySem.EqNone.eq_str_none (zbi I q (by simp))
  | bl j=>cases ry;exact PySem.EqMixed.eq_str_bool (zbi I q (by simp))
  | int j=>obtain⟨t',rfl⟩:=ry;exact PySem.EqMixed.eq_str_int (zbi I q (by simp))
  | str j=>obtain⟨t',rfl⟩:=ry;exact eq_str (zbi I q zru)
  | _=>exact absurd (show false=true from hs) qK
 | byt i=>
  obtain⟨t,rfl⟩:=rx
  cases y with
  | byt j=>obtain⟨t',rfl⟩:=ry;exact PySem.W.eq_bytes (zbi I q zvr)
  | _=>exact absurd (show false=true from hs) qK
 | _=>cases y<;>exact absurd (show false=true from hs) qK
theorem zaku:OpR X (compareOp .NotEq) rNe:=by
 intro pins s σ H x y v u Q I rx ry h
 obtain⟨hs,q⟩:=h
 cases x with
 | non=>
  cases rx
  cases y with
  | non=>cases ry;exact PySem.EqNone.ne_none_none (zbi I q (by simp))
  | bl j=>cases ry;exact PySem.EqNone.ne_none_bool (zbi I q (by simp))
  | int j=>obtain⟨t',rfl⟩:=ry;exact PySem.EqNone.ne_none_int (zbi I q (by simp))
  | str j=>obtain⟨t',rfl⟩:=ry;exact PySem.EqNone.ne_none_str (zbi I q (by simp))
  | _=>exact absurd (show false=true from hs) qK
 | bl i=>
  cases rx
  cases y with
  | non=>cases ry;exact PySem.EqNone.ne_bool_none (zbi I q (by simp))
  | bl j=>cases ry;exact ne_bool (zbi I q (congrArg not zsy))
  | str j=>obtain⟨t',rfl⟩:=ry;exact PySem.EqMixed.ne_bool_str (zbi I q (by simp))
  | _=>exact absurd (show false=true from hs) qK
 | int i=>
  obtain⟨t,rfl⟩:=rx
  cases y with
  | non=>cases ry;exact PySem.EqNone.ne_int_none (zbi I q (by simp))
  | int j=>obtain⟨t',rfl⟩:=ry;exact ne_int (zbi I q (congrArg not zrt))
  | str j=>obtain⟨t',rfl⟩:=ry;exact PySem.EqMixed.ne_int_str (zbi I q (by simp))
  | _=>exact absurd (show false=true from hs) qK
 | str i=>
  obtain⟨t,rfl⟩:=rx
  cases y with
  | non=>cases ry;exact PySem.EqNone.ne_str_none (zbi I q (by simp))
  | bl j=>cases ry;exact PySem.EqMixed.ne_str_bool (zbi I q (by simp))
  | int j=>obtain⟨t',rfl⟩:=ry;exact PySem.EqMixed.ne_str_int (zbi I q (by simp))
  | str j=>obtain⟨t',rfl⟩:=ry;exact ne_str (zbi I q (congrArg not zru))
  | _=>exact absurd (show false=true from hs) qK
 | byt i=>
  obtain⟨t,rfl⟩:=rx
  cases y with
  | byt j=>obtain⟨t',rfl⟩:=ry;exact PySem.W.ne_bytes (zbi I q (congrArg not zvr))
  | _=>exact absurd (show false=true from hs) qK
 | _=>cases y<;>exact absurd (show false=true from hs) qK
theorem zakv:OpR X (compareOp .Lt) (rI0 λi j=>.bl (decide (i<j))):=opB0 λ_ _ _ _ _ _ _ q=>lt_int q
theorem zahx:OpR X (compareOp .LtE) (rI0 λi j=>.bl (decide (i<=j))):=opB0 λ_ _ _ _ _ _ _ q=>le_int q
theorem zahy:OpR X (compareOp .Gt) (rI0 λi j=>.bl (decide (j<i))):=opB0 λ_ _ _ _ _ _ _ q=>gt_int q
theorem zadw:OpR X (compareOp .GtE) (rI0 λi j=>.bl (decide (j<=i))):=opB0 λ_ _ _ _ _ _ _ q=>ge_int q
theorem OpR.or{f:Value->Value->Sem Value}{r r':R2}(h:OpR X f r)(h':OpR X f r'):OpR X f (λx y H Q=>r x y H Q\/r' x y H Q):=by
 intro pins s σ H x y v u Q I rx ry q
 rcases q with q|q
 ·exact h pins s σ H x y v u Q I rx ry q
 ·exact h' pins s σ H x y v u Q I rx ry q
theorem zdk(b:Expr){op:CmpOp}(h:op≠.In:=by decide)(h2:op≠.NotIn:=by decide):behindInMarks op b=false:=by
 have e1:(op==CmpOp.In)=false:=by cases op<;>first|rfl|exact absurd rfl h
 have e2:(op==CmpOp.NotIn)=false:=by cases op<;>first|rfl|exact absurd rfl h2
 cases b<;>simp[behindInMarks,e1,e2]
theorem zadx{op:CmpOp}{r:R2}(ho:OpR X (compareOp op) r)(ha:PE X a ta)(hb:PE X b tb)(hm:behindInMarks op b=false):PE X (.Compare a [op] [b] pos) (tOp r ta tb):=by
 intro pins s σ H Q I h
 exact wpAny_Compare1 (binT ha hb I h λv u s2 x y H2 I2 rx ry q=>ho pins s2 σ H2 x y v u Q I2 rx ry q) hm
noncomputable def tTest(t:TE):TT:=λσ H Q=>t σ H λx H'=>∃k,x=.bl k/\Q k H'
theorem zvs{op:CmpOp}{r:R2}(ho:OpR X (compareOp op) r)(ha:PE X a ta)(hb:PE X b tb)(hm:behindInMarks op b=false):PT X (.Compare a [op] [b] pos) (tTest (tOp r ta tb)):=by
 intro pins s σ H Q I h
 refine wpAny_isTrue_Compare1 (thn (ha pins s σ H _ I h) λv s1 ⟨x,H1,I1,r1,q1⟩=>thn (hb pins s1 σ H1 _ I1 q1) λu s2 ⟨y,H2,I2,r2,q2⟩=>
  thn (ho pins s2 σ H2 x y v u _ I2 r1 r2 q2) λc s3 ⟨z,H3,I3,r3,k,e,q3⟩=>?_) hm
 subst e
 cases r3
 exact qAP ⟨H3,I3,q3⟩
noncomputable def tChain(r r':R2)(ta tb tc:TE):TE:=λσ H Q=>ta σ H λx H1=>tb σ H1 λy H2=>r x y H2 λz H3=>∃k,z=.bl k/\
 (if k=true then tc σ H3 λw' H4=>r' y w' H4 Q else Q (.bl false) H3)
theorem zaad{op op':CmpOp}{r r':R2}(ho:OpR X (compareOp op) r)(ho':OpR X (compareOp op') r')(ha:PE X a ta)(hb:PE X b tb)(hc:PE X c tc)
  (hm:lastMarks [op,op'] [b,c]=false:=by with_unfolding_all rfl):PE X (.Compare a [op,op'] [b,c] pos) (tChain r r' ta tb tc):=by
 intro pins s σ H Q I h
 refine Compare_chain (thn (ha pins s σ H _ I h) λv s1 ⟨x,H1,I1,r1,q1⟩=>chain_link (thn (hb pins s1 σ H1 _ I1 q1) λu s2 ⟨y,H2,I2,r2,q2⟩=>
  thn (ho pins s2 σ H2 x y v u _ I2 r1 r2 q2) λd s3 ⟨z,H3,I3,r3,k,e,q3⟩=>?_)) hm
 subst e
 cases r3
 refine qAP ?_
 cases k with
 | false=>exact ite_ff ⟨.bl false,H3,I3,rfl,q3⟩
 | true=>exact ite_tt (chain_last (thn (hc pins s3 σ H3 _ I3 q3) λw' s4 ⟨z',H4,I4,r4,q4⟩=>ho' pins s4 σ H4 y z' u w' Q I4 r2 r4 q4))
theorem zaae{op op':CmpOp}{r r':R2}(ho:OpR X (compareOp op) r)(ho':OpR X (compareOp op') r')(ha:PE X a ta)(hb:PE X b tb)(hc:PE X c tc)
  (hm:lastMarks [op,op'] [b,c]=false:=by with_unfolding_all rfl):PT X (.Compare a [op,op'] [b,c] pos) (tTest (tChain r r' ta tb tc)):=by
 intro pins s σ H Q I h
 refine isTrue_chain (thn (ha pins s σ H _ I h) λv s1 ⟨x,H1,I1,r1,q1⟩=>test_link (thn (hb pins s1 σ H1 _ I1 q1) λu s2 ⟨y,H2,I2,r2,q2⟩=>
  thn (ho pins s2 σ H2 x y v u _ I2 r1 r2 q2) λd s3 ⟨z,H3,I3,r3,k,e,q3⟩=>?_)) hm
 subst e
 cases r3
 refine qAP ?_
 cases k with
 | false=>
  obtain⟨k',e',q'⟩:=q3
  cases e'
  exact ite_ff ⟨H3,I3,q'⟩
 | true=>
  refine ite_tt (test_last (thn (hc pins s3 σ H3 _ I3 q3) λw' s4 ⟨z',H4,I4,r4,q4⟩=>thn (ho' pins s4 σ H4 y z' u w' _ I4 r2 r4 q4) λd' s5 ⟨z2,H5,I5,r5,k2,e2,q5⟩=>?_))
  subst e2
  cases r5
  exact qAP ⟨H5,I5,q5⟩
noncomputable def TruV(K:qB)(x:V)(H:Hp)(k:Bool):Prop:=
 match x with
 | .non=>k=false
 | .bl b=>k=b
 | .int i=>k=(i != 0)
 | .str y=>y.length<=qa/\k=((y.length:Int) != 0)
 | .byt y=>y.size<=qa/\k=((y.size:Int) != 0)
 | .ref p=>(∃xs,SqL K H p xs/\k=!xs.isEmpty)\/(∃xs,SqT K H p xs/\k=!xs.isEmpty)\/∃kvs,H p=some (.dK kvs)/\k=!kvs.isEmpty
 | _=>False
theorem zum{κ:Type}{kvs:List (κ×V)}{vs:List (κ×Value)}(r:KV kvs vs):(!vs.isEmpty)=!kvs.isEmpty:=by
 cases r<;>rfl
theorem zmg{xs:List V}{its:List Value}(r:Vals xs its):(!its.toArray.isEmpty)=!xs.isEmpty:=by
 cases r<;>simp
theorem zon:(qa:Nat)<2 ^ 63:=by rw[qAk];decide
theorem zahz:TruR X (λx H Q=>∃k,TruV X.K x H k/\Q k H):=by
 intro pins s σ H x v Q I rx h
 obtain⟨k,e,q⟩:=h
 have hl:=zon
 have hs:qa=16777216:=qAk
 cases x with
 | non=>
  cases rx
  have e':k=false:=e
  subst e'
  exact truthy_none ⟨H,I,q⟩
 | bl b=>
  cases rx
  have e':k=b:=e
  subst e'
  exact qAP ⟨H,I,q⟩
 | int i=>
  obtain⟨t,rfl⟩:=rx
  have e':k=(i != 0):=e
  subst e'
  exact PySem.P.truthy_int ⟨H,I,q⟩
 | str y=>
  obtain⟨t,rfl⟩:=rx
  obtain⟨hy,e'⟩:y.length<=qa/\k=((y.length:Int) != 0):=e
  subst e'
  exact PySem.P.truthy_str (by omega) ⟨H,I.tok _,q⟩
 | byt y=>
  obtain⟨t,rfl⟩:=rx
  obtain⟨hy,e'⟩:y.size<=qa/\k=((y.size:Int) != 0):=e
  subst e'
  exact PySem.W.truthy_bytes (by omega) ⟨H,I.tok _,q⟩
 | ref p=>
  cases rx
  have e':(∃xs,SqL X.K H p xs/\k=!xs.isEmpty)\/(∃xs,SqT X.K H p xs/\k=!xs.isEmpty)\/∃kvs,H p=some (.dK kvs)/\k=!kvs.isEmpty:=e
  rcases e' with⟨xs,hx,e'⟩|⟨xs,hx,e'⟩|⟨kvs,hx,e'⟩
  ·subst e'
   obtain⟨its,r,pl,hz⟩:=I.list hx
   have hlen:=r.length
   exact wpAny_truthy_list pl.isList (by simp only[qM];omega) ⟨H,I.tok _,by rw[zmg r];exact q⟩
  ·subst e'
   obtain⟨its,r,pl,hz⟩:=I.tuple hx
   have hlen:=r.length
   exact truthy_tuple pl (by simp only[qM];omega) ⟨H,I.tok _,by rw[zmg r];exact q⟩
  ·subst e'
   obtain⟨hz,hS,vs,r,m⟩:kvs.length<=qa/\(p==sysModules)=false/\∃vs,KV kvs vs/\s.heap.DictOf (zdo X.prog X.w) p vs:=I.hok p _ hx
   have hlen:kvs.length=vs.length:=Paired.length r
   exact wpAny_truthy_dict hS m (by omega) ⟨H,I.tok _,by rw[zum r];exact q⟩
 | _=>exact(show False from e).elim
theorem zaaf(ha:PE X a ta)(he:∀whole,isTrue a X.env whole=(do let v <- whole;standAt a.pos;holding [v] (truthy v))) :
  PT X a (λσ H Q=>ta σ H λx H'=>∃k,TruV X.K x H' k/\Q k H'):=by
 intro pins s σ H Q I h
 exact isTrue_plain (thn (ha pins s σ H _ I h) λv s1 ⟨x,H1,I1,r1,q1⟩=>zahz pins s1 σ H1 x v Q I1 r1 q1) (he _)
theorem zun:OpR X (binaryOp .Add) (λx y H Q=>∃i j,x=.str i/\y=.str j/\i.length+j.length<=qa/\Q (.str (i++j)) H):=by
 intro pins s σ H x y v u Q I rx ry h
 obtain⟨i,j,rfl,rfl,hz,q⟩:=h
 obtain⟨t,rfl⟩:=rx
 obtain⟨t',rfl⟩:=ry
 exact add_str (λt' tk=>⟨.str (i++j),H,I.tok _,⟨_,rfl⟩,q⟩) hz
theorem zvt{x:V}{us:List Value}(r:Vals [x] us):∃u,us=[u]/\RelV x u:=by
 cases r with
 | cons r1 r2=>cases r2;exact⟨_,rfl,r1⟩
theorem zady{x y:V}{us:List Value}(r:Vals [x,y] us):∃u w',us=[u,w']/\RelV x u/\RelV y w':=by
 cases r with
 | cons r1 r2=>
  cases r2 with
  | cons r3 r4=>cases r4;exact⟨_,_,rfl,r1,r3⟩
theorem zvu(hc:X.calm=true):CallR X (.builtin "min") (λxs H Q=>∃i j,xs=[.int i,.int j]/\Q (.int (if j<i then j else i)) H):=by
 intro pins s σ H xs us Q I r h
 obtain⟨i,j,rfl,q⟩:=h
 obtain⟨u,w',rfl,⟨t,rfl⟩,⟨t',rfl⟩⟩:=zady r
 refine min_two_ints (I.ok.hd hc) λh' tk k=>⟨_,H,I.kept k,?_,q⟩
 by_cases hj:j<i
 ·rw[if_pos hj,if_pos hj];exact⟨_,rfl⟩
 ·rw[if_neg hj,if_neg hj];exact⟨_,rfl⟩
noncomputable def LenV(K:qB)(x:V)(H:Hp)(n:Nat):Prop:=
 match x with
 | .str y=>y.length<=qa/\n=y.length
 | .byt y=>y.size<=qa/\n=y.size
 | .ref p=>(∃xs,SqL K H p xs/\n=xs.length)\/∃xs,SqT K H p xs/\n=xs.length
 | _=>False
theorem zaag:CallR X (.builtin "len") (λxs H Q=>∃x n,xs=[x]/\LenV X.K x H n/\Q (.int n) H):=by
 intro pins s σ H xs us Q I r h
 obtain⟨x,n,rfl,e,q⟩:=h
 obtain⟨u,rfl,rx⟩:=zvt r
 have hl:=zon
 have hs:qa=16777216:=qAk
 cases x with
 | str y=>
  obtain⟨t,rfl⟩:=rx
  obtain⟨hy,e'⟩:y.length<=qa/\n=y.length:=e
  subst e'
  exact len_str (by omega) ⟨.int _,H,I.tok _,⟨_,rfl⟩,q⟩
 | byt y=>
  obtain⟨t,rfl⟩:=rx
  obtain⟨hy,e'⟩:y.size<=qa/\n=y.size:=e
  subst e'
  exact PySem.W.len_bytes (by omega) ⟨.int _,H,I.tok _,⟨_,rfl⟩,q⟩
 | ref p=>
  cases rx
  have e':(∃xs,SqL X.K H p xs/\n=xs.length)\/∃xs,SqT X.K H p xs/\n=xs.length:=e
  rcases e' with⟨xs,hx,e'⟩|⟨xs,hx,e'⟩
  ·subst e'
   obtain⟨its,r',pl,hz⟩:=I.list hx
   have hlen:=r'.length
   exact Calls.call_len_list pl.isList (by simp only[qM];omega) ⟨.int xs.length,H,I.tok _,⟨_,by simp only[qM];rw[hlen]⟩,q⟩
  ·subst e'
   obtain⟨its,r',pl,hz⟩:=I.tuple hx
   have hlen:=r'.length
   exact len_tuple pl (by simp only[qM];omega) ⟨.int xs.length,H,I.tok _,⟨_,by simp only[qM];rw[hlen]⟩,q⟩
 | _=>exact(show False from e).elim
end
set_option genInjectivity false in
structure ObjM(h:Heap)(x dx C:Addr)(mA:Str->Option Value):Prop where
 obj:h.get? x=some (PySem.W.instObj C dx)
 ns:h.Ns1 dx mA
 ne:dx≠x
theorem zvv{h:Heap}{dx:Addr}{mA:Str->Option Value}(n:h.Ns1 dx mA):∃od,h.get? dx=some od/\∀name,PySem.W.lookIn name od=some (mA name):=by
 obtain⟨o,es,ep,ho,hd,hk,_,hm⟩:=n
 refine⟨o,ho,λname=>?_⟩
 have e:=hm name
 unfold nsFind findBy at e
 rw[<- Array.find?_toList]at e
 unfold PySem.W.lookIn
 rw[hd]
 dsimp only
 split
 ·rename_i y q
  rw[q]at e
  exact congrArg some e
 ·rename_i q
  rw[q]at e
  have a:es.toList.any (·.refKey)=false:=by
   rw[List.any_eq_false]
   intro y hy
   obtain⟨z,t,hkey⟩:=hk y (Array.mem_toList_iff.mp hy)
   simp[DictEntry.refKey,hkey]
  have a':¬es.toList.any (·.refKey)=true:=by rw[a];exact qK
  rw[if_neg a']
  exact congrArg some e
theorem ObjM.look{h:Heap}{x dx C:Addr}{mA:Str->Option Value}(I:ObjM h x dx C mA):∃od,PySem.W.InstAt h x (PySem.W.instObj C dx) C (some od)/\∀name,PySem.W.lookIn name od=some (mA name):=
 let⟨od,ho,hl⟩:=zvv I.ns
 ⟨od,⟨I.obj,rfl,rfl,ho⟩,hl⟩
theorem zvw{v:V}{u:Value}(r:RelV v u):PySem.W.handedIn u=true:=by
 cases v with
 | non=>cases(show u=Value.none from r);rfl
 | bl b=>cases(show u=Value.bool b from r);rfl
 | int i=>obtain⟨t,e⟩:=(show ∃t,u=Value.int i t from r);cases e;rfl
 | str x=>obtain⟨t,e⟩:=(show ∃t,u=Value.str x t from r);cases e;rfl
 | byt b=>obtain⟨t,e⟩:=(show ∃t,u=Value.bytes b t from r);cases e;rfl
 | flt b=>obtain⟨t,e⟩:=(show ∃t,u=Value.float b t from r);cases e;rfl
 | ref a=>cases(show u=Value.ref a from r);rfl
 | ty n=>cases(show u=Value.type n from r);rfl
section
variable{P:Program}{w:World}{H H':Hp}{h h':Heap}{a C dx:Addr}{fs fs':List (Str×V)}
theorem zadz(hok:HOk P w H h)(e:H a=some (.ins C dx fs)):∃mA,ObjM h a dx C mA/\(∀f,RelO (fs.lookup f) (mA f))/\PySem.Within mA (fs.map (·.1))/\fs.length<=1000/\H dx=some (.own a):=by
 obtain⟨d,z,ne,ob,mA,n,r,q⟩:=(show zdp P w H h a (.ins C dx fs)from hok a _ e)
 exact⟨mA,⟨ob,n,ne⟩,r,q,z,d⟩
end
set_option genInjectivity false in
structure Cls(K:qB)(C:Addr):Prop where
 pg:PySem.W.plainGet K C Str.empty=true
 hd:PySem.W.hasDictIn K C=true
 po:PySem.W.plainOver K C=true
 sa:PySem.W.findIn K (.ref C) "__setattr__"=some (some (.builtin "object.__setattr__"))
theorem Cls.get{K:qB}{C:Addr}(c:Cls K C)(f:Str):PySem.W.plainGet K C f=true:=c.pg
set_option genInjectivity false in
set_option genInjectivity false in
section
variable{X:Cx}{pins:List (Addr×Obj)}{σ:St}{H:Hp}{s:Shared}{a C dx:Addr}{fs:List (Str×V)}{f:Str}{v:V}{A:Around}{E:Value->Shared->Prop}
theorem zaea{prog:Program}{w:World}{env:Env}{e:Expr}{f:Str}{pos:Pos}{s:Shared}{Q:Value->Shared->Prop}(hb:attributeBase e f env (eval e env)=eval e env)
  (h:wpAny (model prog w) A (eval e env) (λo s₁=>wpAny (model prog w) A (getAttr o f true) Q E s₁) E s):wpAny (model prog w) A (eval (.Attribute e f pos) env) Q E s:=
 Attribute_any_ h (by rw[arm_eval_Attribute,hb])
end
section
variable{X:Cx}{pins:List (Addr×Obj)}{σ:St}{H:Hp}{s:Shared}{A:Around}{E:Value->Shared->Prop}{Q:Value->Shared->Prop}{c:Value}{b:Bool}
inductive TyOf(K:qB)(H:Hp):V->Value->Prop where
 | non:TyOf K H .non (.type "NoneType")
 | bl (x:Bool):TyOf K H (.bl x) (.type "bool")
 | int (i:Int):TyOf K H (.int i) (.type "int")
 | str (x:Str):TyOf K H (.str x) (.type "str")
 | flt (x:UInt64):TyOf K H (.flt x) (.type "float")
 | lst {a:Addr} {xs:List V} (e:H a=some (.lst xs)):TyOf K H (.ref a) (.type "list")
 | frz {a:Addr} {o:Obj} {xs:List V} (e:H a=some (.frz o (.lst xs))):TyOf K H (.ref a) (.type "list")
 | tup {a:Addr} {xs:List V} (e:H a=some (.tup xs)):TyOf K H (.ref a) (.type "tuple")
 | dK {a:Addr} {kvs:List (Key×V)} (e:H a=some (.dK kvs)):TyOf K H (.ref a) (.type "dict")
 | dT {a:Addr} {kvs:List (List Key×V)} (e:H a=some (.dT kvs)):TyOf K H (.ref a) (.type "dict")
 | ins {a C dx:Addr} {fs:List (Str×V)} (e:H a=some (.ins C dx fs)) (cl:Cls K C) (ha:PySem.W.findIn K (.ref C) "__class__"=some (some (.builtin "object.__class__")))
   (hn:PySem.W.specialIn K (.builtin "object.__class__") "__get__"=some (some (.builtin "getset_descriptor.__get__")))(htk:PySem.W.takesIn K (.builtin "object.__class__")=some true)
   (hm:PySem.W.mroIn K C (.type "object")=some true):TyOf K H (.ref a) (.ref C)
theorem zvx {x:V} {u t:Value} (I:Inv X pins σ H s) (rx:RelV x u) (ty:TyOf X.K H x t) (e:PySem.W.kitOne X.K t c=some b) (h:∀tk,Q (.bool b) {s with toks:=tk}) :
  wpAny (model X.prog X.w) A (call (.builtin "isinstance") [u,c]) Q E s:=by
 cases ty with
 | non=>cases(show u=Value.none from rx);exact qAO PySem.W.kitx_none I.kIn True.intro e (λz=>nomatch z) h
 | bl y=>cases(show u=Value.bool y from rx);exact qAO PySem.W.kitx_bool I.kIn True.intro e (λz=>nomatch z) h
 | int i=>obtain⟨t,q⟩:=(show ∃t,u=Value.int i t from rx);cases q;exact qAO PySem.W.kitx_int I.kIn True.intro e (λz=>nomatch z) h
 | str y=>obtain⟨t,q⟩:=(show ∃t,u=Value.str y t from rx);cases q;exact qAO PySem.W.kitx_str I.kIn True.intro e (λz=>nomatch z) h
 | flt y=>obtain⟨t,q⟩:=(show ∃t,u=Value.float y t from rx);cases q;exact qAO PySem.W.kitx_float I.kIn True.intro e (λz=>nomatch z) h
 | @lst a xs ea=>
  cases(show u=Value.ref a from rx)
  obtain⟨_,_,n,_,h1⟩:=(show zdp X.prog X.w H s.heap a (.lst xs)from I.hok a _ ea)
  exact qAO qCc I.kIn ⟨_,h1,rfl⟩ e (λz=>nomatch z) h
 | @frz a ob xs ea=>
  cases(show u=Value.ref a from rx)
  obtain⟨_,_,_,n,_,h1⟩:=(show zdp X.prog X.w H s.heap a (.frz ob (.lst xs))from I.hok a _ ea)
  exact qAO qCc I.kIn ⟨_,h1,rfl⟩ e (λz=>nomatch z) h
 | @tup a xs ea=>
  cases(show u=Value.ref a from rx)
  obtain⟨_,_,_,p⟩:=(show zdp X.prog X.w H s.heap a (.tup xs)from I.hok a _ ea)
  obtain⟨o,h1,h2,_⟩:=p
  exact qAO PySem.W.kitx_tuple I.kIn ⟨o,h1,h2⟩ e (λz=>nomatch z) h
 | @dK a kvs ea=>
  cases(show u=Value.ref a from rx)
  obtain⟨_,_,vs,_,p⟩:=(show zdp X.prog X.w H s.heap a (.dK kvs)from I.hok a _ ea)
  obtain⟨o,es,ep,h1,h2,_⟩:=p
  exact qAO qCd I.kIn ⟨o,h1,h2.1⟩ e (λz=>nomatch z) h
 | @dT a kvs ea=>
  cases(show u=Value.ref a from rx)
  obtain⟨_,_,xs,_,o,es,ep,h1,h2,_⟩:=(show zdp X.prog X.w H s.heap a (.dT kvs)from I.hok a _ ea)
  exact qAO qCd I.kIn ⟨o,h1,h2.1⟩ e (λz=>nomatch z) h
 | @ins a C dx fs ea cl ha hn htk hm=>
  cases(show u=Value.ref a from rx)
  obtain⟨mA,O,_⟩:=zadz I.hok ea
  obtain⟨od,J,_⟩:=O.look
  exact qAO (PySem.W.kitx_own (cl.get _) cl.hd ha hn htk hm) I.kIn J e (λz=>nomatch z) h
end
set_option genInjectivity false in
structure Room(k:Nat)(A:Around):Prop where
 hd:A.handled=none
 dp:A.depth+3 * k+5<recursionLimit
 un:A.units+16 * k+200<cLine
 gd:A.guards=some []
theorem Room.mono{j k:Nat}{A:Around}(r:Room k A)(h:j<=k):Room j A:=⟨r.hd,by have:=r.dp;omega,by have:=r.un;omega,r.gd⟩
theorem Room.deeper{k:Nat}{A:Around}(r:Room (k+1) A)(env:Env):Room k (A.deeper env):=
 ⟨r.hd,by have:=r.dp;show A.depth+1+3 * k+5<_;omega,by have:=r.un;show A.units+3+16 * k+200<_;omega,r.gd⟩
theorem zuo{A:Around}{C:Addr}{us:List Value}{kw:List (Str×Value)}:(A.under (.builtin "type.__call__" ⟨.ref C::us,kw⟩)).depth=A.depth+1:=by
 first|rfl|simp[Around.under,Code.weight,Code.isCreation,Code.isGuard,Code.isCaller,Code.frames,Code.isFrame,guardIds]
theorem zup{A:Around}{C:Addr}{us:List Value}{kw:List (Str×Value)}:(A.under (.builtin "type.__call__" ⟨.ref C::us,kw⟩)).units=A.units+1:=by
 first|rfl|simp[Around.under,Code.cUnits,Code.frames,Code.isFrame]
theorem Room.make{k:Nat}{A:Around}(r:Room (k+1) A)(C:Addr)(us:List Value)(kw:List (Str×Value)):Room k (A.under (.builtin "type.__call__" ⟨.ref C::us,kw⟩)):=
 ⟨r.hd,by have:=r.dp;rw[zuo];omega,by have:=r.un;rw[zup];omega,by first|exact r.gd|(simpa [Around.under,Code.isGuard,Code.isFrame,guardIds]using r.gd)⟩
theorem Room.depth{k:Nat}{A:Around}(r:Room k A):A.depth<recursionLimit:=by have:=r.dp;omega
theorem Room.units{k:Nat}{A:Around}(r:Room k A):A.units+64<cLine:=by have:=r.un;omega
noncomputable def tNil:TA:=λ_ H Q=>Q [] H
noncomputable def tCons(ta:TE)(tr:TA):TA:=λσ H Q=>ta σ H λx H1=>tr σ H1 λxs H2=>Q (x::xs) H2
section
variable{X:Cx}{e:Expr}{es:List Expr}{te:TE}{t:TA}{pos:Pos}
theorem zju:PA X [] tNil:=λ_ _ _ _ H Q I h=>qBR ⟨[],H,I,.nil,h⟩
theorem zge(ha:PE X e te)(hr:PA X es t)(hs:starEach (e::es) X.env=(false,eval e X.env)::starEach es X.env:=by rfl):PA X (e::es) (tCons te t):=by
 intro pos pins s σ H Q I h
 rw[hs]
 show wpAny _ _ (spliced ((false,eval e X.env)::backTo pos (starEach es X.env))) _ _ s
 refine qA0 (thn (ha pins s σ H _ I h) λu s1 ⟨x,H1,I1,r1,q1⟩=>?_)
 exact thn (hr pos pins s1 σ H1 _ I1 q1) λus s2 ⟨xs,H2,I2,r2,q2⟩=>⟨x::xs,H2,I2,.cons r1 r2,q2⟩
noncomputable def tTup(t:TA):TE:=λσ H Q=>t σ H λxs H1=>xs.length<=qa/\∀p,H1 p=none->Q (.ref p) (upd H1 p (.tup xs))
noncomputable def tLst(t:TA):TE:=λσ H Q=>t σ H λxs H1=>xs.length<=qa/\∀p,H1 p=none->Q (.ref p) (upd H1 p (.lst xs))
theorem zaia{x1}(h:PA X es t):PE X (.Tuple es x1 pos) (tTup t):=by
 intro pins s σ H Q I hq
 refine wpAny_Tuple_spliced (thn (h pos pins s σ H _ I hq) λus s1 ⟨xs,H1,I1,r,z,q⟩=>⟨by rw[<- r.length];exact z,?_⟩)
 have hf:H1 s1.heap.objs.size=none:=I1.hok.fresh (qQ _)
 refine⟨.ref s1.heap.objs.size,upd H1 s1.heap.objs.size (.tup xs),I1.laid (t':=s1.toks) (λb u e=>qE _ e) (qQ _) ?_,rfl,q _ hf⟩
 exact⟨z,us,r,⟨_,qV _ rfl,rfl,_,rfl⟩⟩
theorem zacf(h:PA X es t):PE X (.List es pos) (tLst t):=by
 intro pins s σ H Q I hq
 refine wpAny_List_spliced (thn (h pos pins s σ H _ I hq) λus s1 ⟨xs,H1,I1,r,z,q⟩=>⟨by rw[<- r.length];exact z,?_⟩)
 have hf:H1 s1.heap.objs.size=none:=I1.hok.fresh (qQ _)
 refine⟨.ref s1.heap.objs.size,upd H1 s1.heap.objs.size (.lst xs),I1.laid (t':=s1.toks) (λb u e=>qE _ e) (qQ _) ?_,rfl,q _ hf⟩
 exact⟨z,us,0,r,qV _ rfl⟩
end
noncomputable abbrev Sp:=List V->Hp->VK->XK->Prop
noncomputable abbrev CXT:=List Env->Hp->Shared->XK->Value->Shared->Prop
set_option genInjectivity false in
structure Env0(P:Program)(w:World)(K:qB)(mg:Str->Option Value)(base:Heap)(A:Around)(outer:List Env)(s:Shared)(H:Hp):Prop where
 frames:A.frames=some outer
 mod:Mod K mg base
 bs:∀b o,base.get? b=some o->s.heap.get? b=some o/\H b=none
 bsz:base.objs.size<=s.heap.objs.size
 funs:s.heap.FunFrames base outer
 frf:∀b∈frs outer,H b=none
 hok:HOk P w H s.heap
 bare:AllBare s.gens
noncomputable def CE(outer:List Env)(P:Program)(w:World)(H:Hp)(s:Shared)(Q:VK)(u:Value)(s':Shared):Prop:=
 ∃v H',s'.os=s.os/\AllBare s'.gens/\Un (frs outer) [] H H' s.heap s'.heap/\HOk P w H' s'.heap/\RelV v u/\Q v H'
noncomputable def CR(CX:CXT)(outer:List Env)(P:Program)(w:World)(H:Hp)(s:Shared)(Q:VK)(E:XK)(r:Result)(s':Shared):Prop:=
 match r with
 | .ok (.ret u)=>CE outer P w H s Q u s'
 | .ok _=>False
 | .error e=>CX outer H s E e s'
set_option genInjectivity false in
structure FnOk(P:Program)(w:World)(K:qB)(mg:Str->Option Value)(base:Heap)(CX:CXT)(k:Nat)(f:Addr)(fd:qAB)(ps:List Str)(sp:Sp):Prop where
 len:∀vs H Q E,sp vs H Q E->vs.length=ps.length
 run:∀(A:Around)(outer:List Env)(s:Shared)(H:Hp)(args:Args)(us:List Value)(vs:List V)(Q:VK)(E:XK),Room k A->Env0 P w K mg base A outer s H->BindsTo s fd args (ps.zip us)->Vals vs us->sp vs H Q E->
  codeAny (model P w) A (.call (.ref f) args) (CR CX outer P w H s Q E) s
theorem Env0.make{P:Program}{w:World}{K:qB}{mg:Str->Option Value}{base:Heap}{A:Around}{outer:List Env}{s:Shared}{H:Hp}(e:Env0 P w K mg base A outer s H)(C:Addr)(us:List Value)(kw:List (Str×Value)) :
  Env0 P w K mg base (A.under (.builtin "type.__call__" ⟨.ref C::us,kw⟩)) outer s H:=⟨by first|exact e.frames|(simpa [Around.under,Code.envs,Code.isFrame,pushEnvs]using e.frames),e.mod,e.bs,e.bsz,e.funs,e.frf,e.hok,e.bare⟩
section
variable{X:Cx}{pins:List (Addr×Obj)}{σ:St}{H:Hp}{s s':Shared}
theorem Inv.env0(I:Inv X pins σ H s):Env0 X.prog X.w X.K X.mg X.base X.A X.stack s H:=
 ⟨I.ok.frames,I.ok.mod,I.bs,qAK I.ok.bsz I.sz,I.stack,I.stkFree,I.hok,I.bare⟩
theorem Inv.after{Q:VK}{u:Value}(I:Inv X pins σ H s)(h:CE X.stack X.prog X.w H s Q u s'):EP X pins σ Q u s':=by
 obtain⟨v,H',os,bare,un,hok,r,q⟩:=h
 obtain⟨hh,g,d,t,os'⟩:=s'
 obtain rfl:os'=s.os:=os
 exact⟨v,H',I.call (h':=hh) (g':=g) (d':=d) (t':=t) (ch:=[]) un hok bare (λb z=>absurd z (by simp)),r,q⟩
end
noncomputable def tCall(sp:Sp)(dvs:List V)(E:XK)(t:TA):TE:=λσ H Q=>t σ H λvs H1=>sp (vs++dvs) H1 Q E
noncomputable def zjf(K:qB)(fd:qAB)(ps:List Str)(ds:List Value):Prop:=
 ∀(s:Shared)(us:List Value),K.In s.heap->(us++ds).length=ps.length->BindsTo s fd ⟨us,[]⟩ (ps.zip (us++ds))
theorem zjf.all{K:qB}{fd:qAB}{ps:List Str}(h:∀us:List Value,us.length=ps.length->bindArgs fd ⟨us,[]⟩=pure (ps.zip us)):zjf K fd ps []:=λs us _ hl=>by
 rw[qw]at hl ⊢
 exact .of_eq (h us hl)
noncomputable def zvy(CX:CXT)(X:Cx)(E:XK):Prop:=∀(pins:List (Addr×Obj))(σ:St)(H:Hp)(s:Shared)(e:Value)(s':Shared),Inv X pins σ H s->CX X.stack H s E e s'->X.xe e s'
section
variable{X:Cx}{CX:CXT}{k:Nat}{f C:Addr}{fd:qAB}{ps:List Str}{sp:Sp}{dvs:List V}{ds:List Value}{E:XK}{x m:Str}{p pos apos:Pos}{e o:Expr}{es:List Expr}{ta:TE}{t:TA}
theorem zaib{pins:List (Addr×Obj)}{σ:St}{H:Hp}{s:Shared}{Q:VK}{us:List Value}{vs:List V}(F:FnOk X.prog X.w X.K X.mg X.base CX k f fd ps sp)(hr:Room k X.A)(hb:zjf X.K fd ps ds)(hd:Vals dvs ds)(hx:zvy CX X E)
  (I:Inv X pins σ H s) (r:Vals vs us) (h:sp (vs++dvs) H Q E):wpAny (model X.prog X.w) X.A (call (.ref f) us) (EP X pins σ Q) X.xe s:=by
 have r2:Vals (vs++dvs) (us++ds):=r.append hd
 have hl:(us++ds).length=ps.length:=by rw[<- r2.length];exact F.len _ _ _ _ h
 refine qBN (qAj (F.run X.A X.stack s H ⟨us,[]⟩ (us++ds) (vs++dvs) Q E hr I.env0 (hb s us I.kIn hl) r2 h) λr s' hq=>?_)
 cases r with
 | error e=>exact hx pins σ H s e s' I hq
 | ok fl=>
  cases fl with
  | ret u=>exact I.after hq
  | next=>exact False.elim hq
  | brk=>exact False.elim hq
  | cont=>exact False.elim hq
theorem zaeb(F:FnOk X.prog X.w X.K X.mg X.base CX k f fd ps sp)(hr:Room k X.A)(hg:Gl X x)(hm:X.mg x=some (.ref f))(hk:qm X.K (.ref f)=true)(hb:zjf X.K fd ps ds)(hd:Vals dvs ds)(hx:zvy CX X E)
  (ha:PA X (e::es) t)(hdb:(x==("__debug__":Str))=false:=by decide)(he:starEach (e::es) X.env=(false,eval e X.env)::starEach es X.env:=by rfl)(hpl:(backTo pos (starEach es X.env)).any (·.1)=false:=by rfl) :
  PE X (.Call (.Name x p) (e::es) [] pos) (tCall sp dvs E t):=by
 intro pins s σ H Q I h
 refine qAT (zgd I hg hm ?_ hdb)
 refine qAy (h₀:=X.base) I.ok.mod.kin hk (thn (ha pos pins s σ H _ I h) λus s1 ⟨vs,H1,I1,r,q⟩=>⟨I1.kIn,?_⟩) he hpl
 exact zaib F hr hb hd hx I1 r q
set_option genInjectivity false in
end
section
variable{X:Cx}{CX:CXT}{k:Nat}{f C:Addr}{fd:qAB}{ps ks:List Str}{sp:Sp}{E:XK}{x m:Str}{p pos apos kpos:Pos}{e o:Expr}{es:List Expr}{kws:List Keyword}{te ta:TE}{t tk:TA}{nm:Option Str}
set_option genInjectivity false in
variable{g:List Value->List Value->List Value}{gV:List V->List V->List V}
end
set_option genInjectivity false in
structure FnScope(N P:List Str)(sc:Scope):Prop where
 kind:sc.kind=.function
 co:sc.isCoroutine=false
 gen:sc.isGenerator=false
 nd:N.Nodup
 pre:N.take P.length=P
 par:∀x∈P,sc.names.lookup x=some .local\/sc.names.lookup x=some .cell
 nofree:∀y∈sc.names,y.2≠.free
theorem zoo{kindOf:Str->Option NameKind}{x:Str}:∀{binds:List (Str×Value)}{m:Str->Option Value},(∀v,(x,v)∉binds)->bindL kindOf binds m x=m x
 | [],_,_=>rfl
 | (n,v)::r,m,h=>by
  unfold bindL
  rw[zoo λw hw=>h w (qL _ hw)]
  split
  ·have:x≠n:=by rintro rfl;exact h v qf
   simp[this]
  ·rfl
theorem zop{kindOf:Str->Option NameKind}{x:Str}:∀{binds:List (Str×Value)}{m:Str->Option Value},(∀v,(x,v)∉binds)->bindC kindOf binds m x=m x
 | [],_,_=>rfl
 | (n,v)::r,m,h=>by
  unfold bindC
  rw[zop λw hw=>h w (qL _ hw)]
  split
  ·rfl
  ·have:x≠n:=by rintro rfl;exact h v qf
   simp[this]
theorem zoq{kindOf:Str->Option NameKind}{x:Str}{v:Value}:∀{P:List Str}{vs:List Value}{i:Nat}{m:Str->Option Value},P.Nodup->P[i]?=some x->vs[i]?=some v->kindOf x=some .local->
  bindL kindOf (P.zip vs) m x=some v
 | [],_,_,_,_,h,_,_=>by simp at h
 | _::_,[],_,_,_,_,h,_=>by simp at h
 | p::P,w::vs,0,m,nd,h1,h2,hk=>by
  simp at h1 h2;subst h1;subst h2
  show bindL kindOf ((p,w)::P.zip vs) m p=_
  unfold bindL
  rw[zoo λv hv=>(qu.mp nd).1 (qBf hv).1,if_pos hk]
  simp
 | p::P,w::vs,i+1,m,nd,h1,h2,hk=>by
  show bindL kindOf ((p,w)::P.zip vs) m x=_
  unfold bindL
  exact zoq (i:=i) (qu.mp nd).2 (by simpa using h1) (by simpa using h2) hk
theorem zor{kindOf:Str->Option NameKind}{x:Str}{v:Value}:∀{P:List Str}{vs:List Value}{i:Nat}{m:Str->Option Value},P.Nodup->P[i]?=some x->vs[i]?=some v->kindOf x≠some .local->
  bindC kindOf (P.zip vs) m x=some v
 | [],_,_,_,_,h,_,_=>by simp at h
 | _::_,[],_,_,_,_,h,_=>by simp at h
 | p::P,w::vs,0,m,nd,h1,h2,hk=>by
  simp at h1 h2;subst h1;subst h2
  show bindC kindOf ((p,w)::P.zip vs) m p=_
  unfold bindC
  rw[zop λv hv=>(qu.mp nd).1 (qBf hv).1,if_neg hk]
  simp
 | p::P,w::vs,i+1,m,nd,h1,h2,hk=>by
  show bindC kindOf ((p,w)::P.zip vs) m x=_
  unfold bindC
  exact zor (i:=i) (qu.mp nd).2 (by simpa using h1) (by simpa using h2) hk
noncomputable def start(N:List Str)(vs:List V):St:=vs.map some++List.replicate (N.length - vs.length) none
noncomputable def cxOf(CX:CXT)(P:Program)(w:World)(K:qB)(mg:Str->Option Value)(base:Heap)(N:List Str)(qual:Str)(scope:Scope)(f:Addr)(cd:Value)(A:Around)(outer:List Env)(s:Shared)(H:Hp)(E:XK):Cx where
 prog:=P
 w:=w
 K:=K
 mg:=mg
 base:=base
 A:=A.deeper (envOfC qual scope s.heap.objs.size f cd)
 N:=N
 s₀:=s
 H₀:=H
 env:=envOfC qual scope s.heap.objs.size f cd
 outer:=outer
 stack:=envOfC qual scope s.heap.objs.size f cd::outer
 ex:=[]
 calm:=true
 fn:=λ_=>true
 pn:=[]
 xe:=λe s'=>wpAny (model P w) (A.deeper (envOfC qual scope s.heap.objs.size f cd)) (leaving (envOfC qual scope s.heap.objs.size f cd) e) (λ_ s''=>CX outer H s E e s'') (λe' s''=>CX outer H s E e' s'') s'
theorem zmz{sc:Scope}{n:Nat}{x:Str}(h:sc.names.lookup x=some .cell):∃c,(cellsFrom n sc.names []).lookup x=some c:=by
 have q:=qBT sc.names n [] (.inl h)
 exact Option.isSome_iff_exists.mp q
theorem zos{CX:CXT}{P:Program}{w:World}{K:qB}{mg:Str->Option Value}{base:Heap}{N ps:List Str}{qual:Str}{scope:Scope}{f:Addr}{cd:Value}{A:Around}{outer:List Env}{s s1:Shared}{H:Hp}{E:XK}{us:List Value}{vs:List V}
  (S:FnScope N ps scope)(hd:A.handled=none)(e0:Env0 P w K mg base A outer s H)(hl:vs.length=ps.length)(r:Vals vs us)
  (x:InCallC s s.heap.objs.size (bindL (envOfC qual scope s.heap.objs.size f cd).kindOf (ps.zip us) λ_=>none) (cellsFrom (s.heap.objs.size+1) scope.names []) (bindC (envOfC qual scope s.heap.objs.size f cd).kindOf (ps.zip us) λ_=>none) s1) :
  Inv (cxOf CX P w K mg base N qual scope f cd A outer s H E) [] (start N vs) H s1:=by
 have hpl:ps.length<=N.length:=by have:=congrArg List.length S.pre;rw[qAv]at this;omega
 obtain⟨h1,tk,rfl,hk⟩:=x.done
 have noA:∀b:Addr,b∉(cxOf CX P w K mg base N qual scope f cd A outer s H E).ex:=λb z=>absurd (show b∈([]:List Addr)from z) (by simp)
 refine⟨⟨e0.mod,S.kind,rfl,rfl,qQ _,λy z c h1 h2=>?_,λy hy=>?_,λy c _ h=>?_,λ_=>hd,Around.frames_deeper e0.frames,.inr ⟨rfl,rfl⟩,λb z=>absurd z (noA b),e0.bs,e0.bsz,λb _ _=>noA b,λb z=>absurd z (noA b),e0.funs,e0.frf⟩,
  rfl,e0.bare,Un.kept hk,⟨_,x.toInCall.ns,λi y v h1 h2 h3=>?_⟩,λy c h=>⟨_,x.cell y c h⟩,e0.hok.fresh (qQ _),λy c h=>?_,λp hp=>absurd (show p∈([]:List (Addr×Obj))from hp) (by simp),e0.hok.kept hk,?_⟩
 ·exact name_of_addr x.apart (qz h1) (qz h2)
 ·have hy:scope.names.lookup y=some .cell\/scope.names.lookup y=some .free:=hy
  rcases hy with hy|hy
  ·exact zmz hy
  ·exact absurd rfl (S.nofree _ (qz hy))
 ·exact qBm (x.above y c (qz h))
 ·have hi:i<vs.length:=by
   unfold start at h2
   by_cases hi:i<vs.length
   ·exact hi
   ·rw[qP (by simpa using hi)]at h2
    rw[qAg]at h2
    split at h2<;>cases h2
  have ha:vs[i]?=some v:=by
   unfold start at h2
   rw[qW (by simpa using hi),qT]at h2
   cases e:vs[i]? with
   | none=>rw[e]at h2;cases h2
   | some a=>rw[e]at h2;cases h2;rfl
  obtain⟨u,hu,rv⟩:=r.get ha
  have hp:ps[i]?=some y:=by
   rw[<- S.pre,List.getElem?_take_of_lt (by omega)];exact h1
  have ndP:ps.Nodup:=by rw[<- S.pre];exact S.nd.sublist (List.take_sublist _ _)
  refine⟨u,rv,?_⟩
  rcases S.par y (qS hp)with k|k
  ·exact .inl ⟨k,zoq ndP hp hu k⟩
  ·obtain⟨c,e⟩:=zmz (n:=s.heap.objs.size+1) k
   refine .inr ⟨.inl k,c,e,?_⟩
   have q:=x.cell y c e
   rw[zor ndP hp hu (by show scope.names.lookup y≠_;rw[k];decide)]at q
   exact q
 ·exact e0.hok.fresh (qBm (x.above y c (qz h)))
 ·unfold start
  show _=N.length
  rw[qY,qD,qAb]
  omega
theorem zakw{CX:CXT}{P:Program}{w:World}{K:qB}{mg:Str->Option Value}{base:Heap}{k:Nat}{f:Addr}{name qual:Str}{params:Arguments}{body:List Stmt}{scope:Scope}{dV kV doc pm cdv ct oc:Value}{an od:Option Addr}
  {osl:Array (Option Value)}{N ps:List Str}{sp:Sp}(lk:K.lookup f=some ⟨oc,od,.func (q0 name qual params body scope dV kV doc pm an cdv ct),osl⟩)(hcd:qAA K cdv qual=true)(S:FnScope N ps scope)
  (len:∀vs H Q E,sp vs H Q E->vs.length=ps.length)
  (hbody:∀(A:Around)(outer:List Env)(s:Shared)(H:Hp)(vs:List V)(Q:VK)(E:XK),Room k (A.deeper (envOfC qual scope s.heap.objs.size f cdv))->sp vs H Q E->
   ∃t,PSs (cxOf CX P w K mg base N qual scope f cdv A outer s H E) body t/\t {nx:=λ_ H'=>Q .non H',rt:=Q} (start N vs) H) :
  FnOk P w K mg base CX (k+1) f (q0 name qual params body scope dV kV doc pm an cdv ct) ps sp:=by
 refine⟨len,λA outer s H args us vs Q E hr e0 hb r hsp=>?_⟩
 have hl:=len _ _ _ _ hsp
 have KX:K.In s.heap:=e0.mod.kin.keeps λb o e=>(e0.bs b o e).1
 have lim:s.heap.NoLimit:=e0.mod.nolimit.keeps λb o e=>(e0.bs b o e).1
 have hkind:∀y∈ps.zip us,scope.names.lookup y.1=some .local\/(scope.names.lookup y.1=some .cell/\((cellsFrom (s.heap.objs.size+1) scope.names []).lookup y.1).isSome=true):=λ⟨n,v⟩ hy=>by
  rcases S.par n (qBf hy).1 with q|q
  ·exact .inl q
  ·exact .inr ⟨q,qBT _ _ _ (.inl q)⟩
 refine codeAny_call_function hr.depth (KX _ _ lk) rfl S.co S.gen rfl (qCZ KX hcd) (hb _ _ _ _ ?_)
 refine qCY S.kind hkind λenv he s1 x=>?_
 subst he
 refine⟨lim.keeps x.toInCall.keep,codeAny_func ?_⟩
 obtain⟨t,ht,hq⟩:=hbody A outer s H vs Q E (hr.deeper _) hsp
 have I:Inv (cxOf CX P w K mg base N qual scope f cdv A outer s H E) [] (start N vs) H s1:=zos S hr.hd e0 hl r x
 refine qAu (ht [] s1 (start N vs) H _ I hq) (λfl s' hs=>?_) λe s' hs=>hs
 have fin:∀{σ':St}{H':Hp}{v:V}{u:Value},Inv (cxOf CX P w K mg base N qual scope f cdv A outer s H E) [] σ' H' s'->RelV v u->Q v H'->CE outer P w H s Q u s':=
  λ{σ' H' v u} J rv q=>⟨v,H',J.os,J.bare,J.base,J.hok,rv,q⟩
 cases fl with
 | ret u=>
  obtain⟨v,σ',H',J,rv,q⟩:=hs
  exact fin J rv q
 | next=>
  obtain⟨σ',H',J,q⟩:=hs
  exact fin (v:=V.non) (u:=Value.none) J rfl q
 | brk=>
  obtain⟨_,_,_,q⟩:=hs
  exact False.elim q
 | cont=>
  obtain⟨_,_,_,q⟩:=hs
  exact False.elim q
section
variable{X:Cx}{x:Str}{p pos:Pos}{e:Expr}{es:List Expr}{t:TA}{id T:String}{r:List V->Hp->VK->Prop}
noncomputable def tCB(r:List V->Hp->VK->Prop)(t:TA):TE:=λσ H Q=>t σ H λvs H1=>r vs H1 Q
theorem zsz(hc:CallR X (.builtin id) r)(hg:Gl X x)(hm:X.mg x=none)(hv:bootBuiltins x=some (.builtin id))(ha:PA X (e::es) t)(hn:x≠"__name__":=by decide)(hdb:(x==("__debug__":Str))=false:=by decide)
  (he:starEach (e::es) X.env=(false,eval e X.env)::starEach es X.env:=by rfl) (hpl:(backTo pos (starEach es X.env)).any (·.1)=false:=by rfl):PE X (.Call (.Name x p) (e::es) [] pos) (tCB r t):=by
 intro pins s σ H Q I h
 refine qAT (zjt I hg hm hv ?_ hn hdb)
 exact PyProof.Rows.callWith_builtin1 (thn (ha pos pins s σ H _ I h) λus s1 ⟨vs,H1,I1,r1,q1⟩=>hc pins s1 σ H1 vs us Q I1 r1 q1) he hpl
theorem zvz(hc:CallR X (.type T) r)(hg:Gl X x)(hm:X.mg x=none)(hv:bootBuiltins x=some (.type T))(ha:PA X (e::es) t)(hn:x≠"__name__":=by decide)(hdb:(x==("__debug__":Str))=false:=by decide)
  (he:starEach (e::es) X.env=(false,eval e X.env)::starEach es X.env:=by rfl) (hpl:(backTo pos (starEach es X.env)).any (·.1)=false:=by rfl):PE X (.Call (.Name x p) (e::es) [] pos) (tCB r t):=by
 intro pins s σ H Q I h
 refine qAT (zjt I hg hm hv ?_ hn hdb)
 exact qA7 (thn (ha pos pins s σ H _ I h) λus s1 ⟨vs,H1,I1,r1,q1⟩=>hc pins s1 σ H1 vs us Q I1 r1 q1) he hpl
end
end L2
namespace HT
open PySem PyProof.Rows
section
open PySem.SeqAt
open PySem.AutoSeq1 (wpAny_loadPart')
open PySem.MeetsSeq PySem.MeetsSeq2 PySem.MeetsSeq3
end
section
variable{prog:Program}{w:World}{A:Around}{E:Value->Shared->Prop}{s:Shared}
theorem cat_tup{t b:Addr}{vs ws:List Value}{Q:Value->Shared->Prop}(ht:IsTup s.heap t vs.toArray)(hb:IsTup s.heap b ws.toArray)(hv:vs≠[])
  (h1:ws=[]->Q (.ref t) s) (h2:ws≠[]->Q (.ref s.heap.objs.size) {s with heap:=s.heap.push {cls:=.type "tuple",data:=.seq (vs++ws).toArray}})
  (hsz:vs.length+ws.length<=qa):wpAny (model prog w) A (binaryOp .Add (.ref t) (.ref b)) Q E s:=by
 obtain⟨⟨cls,dd,data,sl⟩,ho,hc,n,hd⟩:=id ht
 obtain⟨⟨cls2,dd2,data2,sl2⟩,ho2,hc2,n2,hd2⟩:=id hb
 simp only at hc hd hc2 hd2
 subst hc hd hc2 hd2
 have e:vs.toArray++ws.toArray=(vs++ws).toArray:=by simp
 by_cases hw:ws=[]
 ·exact concat_meets ⟨_,ho,rfl⟩ ⟨_,ho2,rfl⟩ noFill_tuple_add seq_tuple_add qCJ qCG (qCC _ _)
   (tuple_addW1 t b vs.toArray ws.toArray n n2 dd dd2 sl sl2 (by simpa using hv) (by simp[hw])) ⟨ho,ho2,h1 hw⟩
 ·refine concat_meets ⟨_,ho,rfl⟩ ⟨_,ho2,rfl⟩ noFill_tuple_add seq_tuple_add qCJ qCG (qCC _ _)
   (tuple_addW2 t b vs.toArray ws.toArray n n2 dd dd2 sl sl2 (by simpa using hv) (by simpa using hw) (by rw[qM,qM];exact hsz)) ⟨ho,ho2,?_⟩
  rw[e]
  exact h2 hw
noncomputable def sIx(n d:Nat):Option Int->Nat
 | none=>d
 | some v=>if v<0 then(v+(n:Int)).toNat else min v.toNat n
theorem sIx_nat(n d k:Nat):sIx n d (some (k:Int))=min k n:=by
 show(if(k:Int)<0 then((k:Int)+(n:Int)).toNat else min (k:Int).toNat n)=min k n
 rw[if_neg (by omega),qBU]
end
end HT
namespace L2
open PySem PySem.Spec PyProof.Rows
noncomputable abbrev TO:=St->Hp->(Option Int->Hp->Prop)->Prop
noncomputable def PO(X:Cx)(e:Option Expr)(t:TO):Prop:=
 ∀(pins:List (Addr×Obj))(s:Shared)(σ:St)(H:Hp)(Q:Option Int->Hp->Prop),Inv X pins σ H s->t σ H Q->
  wpAny (model X.prog X.w) X.A (evalPart e X.env) (λu s'=>∃o H',Inv X pins σ H' s'/\IsPart u o/\Q o H') X.xe s
noncomputable def tNoPart:TO:=λ_ H Q=>Q none H
noncomputable def tPart(t:TE):TO:=λσ H Q=>t σ H λx H1=>∃i,x=.int i/\Q (some i) H1
section
variable{X:Cx}{e:Expr}{te:TE}{lo hi:Option Expr}{tl th:TO}{pos p2:Pos}
theorem zwa:PO X none tNoPart:=by
 intro pins s σ H Q I h
 rw[evalPart_none]
 exact qc ⟨none,H,I,.none,h⟩
theorem zwb(h:PE X e te):PO X (some e) (tPart te):=by
 intro pins s σ H Q I hw
 rw[evalPart_some]
 refine thn (h pins s σ H _ I hw) λu s1 ⟨x,H1,I1,r1,q1⟩=>?_
 obtain⟨i,rfl,q⟩:=q1
 obtain⟨t,rfl⟩:=r1
 exact⟨some i,H1,I1,.int i t,q⟩
noncomputable def SlR(X:Cx)(r:V->Option Int->Option Int->Hp->VK->Prop):Prop:=
 ∀(pins:List (Addr×Obj))(s:Shared)(σ:St)(H:Hp)(x:V)(v vl vu:Value)(lo hi:Option Int)(sl:Addr)(Q:VK),Inv X pins σ H s->RelV x v->s.heap.IsSliceOf sl vl vu .none->IsPart vl lo->IsPart vu hi->r x lo hi H Q->
  ∃T id,typeLookup (.type T) "__getitem__"=pure (some (.builtin id))/\s.TypeIs v T/\wpAny (model X.prog X.w) X.A (getItem v (.ref sl)) (EP X pins σ Q) X.xe s
noncomputable def tSl(r:V->Option Int->Option Int->Hp->VK->Prop)(te:TE)(tl th:TO):TE:=λσ H Q=>te σ H λx H1=>tl σ H1 λl H2=>th σ H2 λu H3=>r x l u H3 Q
theorem zta{r:V->Option Int->Option Int->Hp->VK->Prop}(hr:SlR X r)(he:PE X e te)(hl:PO X lo tl)(hu:PO X hi th):PE X (.Subscript e (.Slice lo hi none p2) pos) (tSl r te tl th):=by
 intro pins s σ H Q I h
 refine Subscript_ (thn (he pins s σ H _ I h) λv s1 ⟨x,H1,I1,r1,q1⟩=>?_)
 refine wpAny_Slice (thn (hl pins s1 σ H1 _ I1 q1) λvl s2 ⟨l,H2,I2,pl,q2⟩=>thn (hu pins s2 σ H2 _ I2 q2) λvu s3 ⟨u,H3,I3,pu,q3⟩=>?_)
 rw[evalPart_none]
 refine qc ?_
 have I4:Inv X pins σ H3 {s3 with heap:=s3.heap.push {cls:=.type "slice",data:=.fields #[vl,vu,.none]}}:=I3.kept (t':=s3.toks) λb ob q=>qE _ q
 obtain⟨T,id,hT,ht,hg⟩:=hr pins {s3 with heap:=s3.heap.push {cls:=.type "slice",data:=.fields #[vl,vu,.none]}} σ H3 x v vl vu l u s3.heap.objs.size Q I4 r1 (Heap.IsSliceOf.new ..) pl pu q3
 show wpAny (model X.prog X.w) X.A (subscriptTail e (.Slice lo hi none p2) v (.ref s3.heap.objs.size)) (EP X pins σ Q) X.xe {s3 with heap:=s3.heap.push {cls:=.type "slice",data:=.fields #[vl,vu,.none]}}
 exact tail_any (ops:=[.ref s3.heap.objs.size,v]) ht hT hg (by with_unfolding_all rfl)
noncomputable def cutV(xs:List V)(lo hi:Option Int):List V:=(xs.drop (HT.sIx xs.length 0 lo)).take (HT.sIx xs.length xs.length hi - HT.sIx xs.length 0 lo)
theorem zrv(xs:List V)(lo hi:Option Int):(cutV xs lo hi).length<=xs.length:=by
 unfold cutV
 rw[qAv,List.length_drop]
 omega
noncomputable def zaic(K:qB):R2:=λx y H Q=>∃a b xs ys,x=.ref a/\y=.ref b/\SqT K H a xs/\SqT K H b ys/\xs≠[]/\xs.length+ys.length<=qa/\
 (ys=[]->Q (.ref a) H)/\(ys≠[]->∀p,H p=none->Q (.ref p) (upd H p (.tup (xs++ys))))
theorem Vals.nil_iff{xs:List V}{us:List Value}(r:Vals xs us):us=[]↔xs=[]:=by
 cases r with
 | nil=>simp
 | cons _ _=>simp
theorem zaec:OpR X (binaryOp .Add) (zaic X.K):=by
 intro pins s σ H x y v u Q I rx ry h
 obtain⟨a,b,xs,ys,rfl,rfl,ha,hb,hx,hz,q1,q2⟩:=h
 cases rx
 cases ry
 obtain⟨its,r1,p1,_⟩:=I.tuple ha
 obtain⟨its2,r2,p2,_⟩:=I.tuple hb
 refine HT.cat_tup p1 p2 (λz=>hx (r1.nil_iff.mp z)) (λz=>⟨.ref a,H,I,rfl,q1 (r2.nil_iff.mp z)⟩) (λz=>?_) (by rw[<- r1.length,<- r2.length];exact hz)
 refine⟨.ref s.heap.objs.size,_,I.laid (t':=s.toks) (o:=.tup (xs++ys)) (λb ob q=>qE _ q) (qQ _) ?_,rfl,q2 (λw=>z (r2.nil_iff.mpr w)) _ (I.hok.fresh (qQ _))⟩
 exact⟨by rw[qY];exact hz,_,r1.append r2,IsTup.new _ _⟩
end
noncomputable def ixN(n:Nat)(i:Int):Option Nat:=if 0<=i then(if i<n then some i.toNat else none)else if -(n:Int)<=i then some (i+n).toNat else none
noncomputable def atI{α:Type}(xs:List α)(i:Int):Option α:=(ixN xs.length i).bind λj=>xs[j]?
theorem zwc{n:Nat}{i:Int}{j:Nat}(h:ixN n i=some j):seqIndex? i n=some j/\j<n/\-(n:Int)<=i/\i<n:=by
 unfold ixN at h
 by_cases h0:0<=i
 ·rw[if_pos h0]at h
  by_cases h1:i<n
  ·rw[if_pos h1]at h
   have e:i.toNat=j:=qq h
   exact⟨by rw[seqIndex_of h0 h1,e],by omega,by omega,h1⟩
  ·rw[if_neg h1]at h;cases h
 ·rw[if_neg h0]at h
  by_cases h1:-(n:Int)<=i
  ·rw[if_pos h1]at h
   have e:(i+n).toNat=j:=qq h
   exact⟨by rw[seqIndex_neg (by omega) h1,e],by omega,h1,by omega⟩
  ·rw[if_neg h1]at h;cases h
theorem zrw{α:Type}{xs:List α}{i:Int}{v:α}(h:atI xs i=some v):∃j,seqIndex? i xs.length=some j/\xs[j]?=some v/\j<xs.length/\-(xs.length:Int)<=i/\i<xs.length:=by
 unfold atI at h
 cases e:ixN xs.length i with
 | none=>rw[e]at h;cases h
 | some j=>
  rw[e]at h
  obtain⟨h1,h2,h3,h4⟩:=zwc e
  exact⟨j,h1,h,h2,h3,h4⟩
theorem zrx{α:Type}{xs:List α}{j:Nat}{v:α}(h:xs[j]?=some v):atI xs (j:Int)=some v:=by
 have hj:j<xs.length:=(qI.mp h).1
 have e:ixN xs.length (j:Int)=some j:=by
  unfold ixN
  rw[if_pos (by omega),if_pos (by omega)];simp
 unfold atI;rw[e];exact h
noncomputable def PlainIx(b:Expr):Prop:=∀o i,subscripted b false o i=operate [o,i] (getItem o i)
noncomputable def IxR(X:Cx)(r:R2):Prop:=
 ∀(value slice:Expr)(pins:List (Addr×Obj))(s:Shared)(σ:St)(H:Hp)(x y:V)(v u:Value)(Q:VK),Inv X pins σ H s->RelV x v->RelV y u->r x y H Q->
  subscripted slice false v u=operate [v,u] (getItem v u)->wpAny (model X.prog X.w) X.A (subscriptTail value slice v u) (EP X pins σ Q) X.xe s
noncomputable def MtR(X:Cx)(id:String)(r:V->List V->Hp->VK->Prop):Prop:=
 ∀(pins:List (Addr×Obj))(s:Shared)(σ:St)(H:Hp)(x:V)(xs:List V)(v:Value)(us:List Value)(Q:VK),Inv X pins σ H s->RelV x v->Vals xs us->r x xs H Q->
  wpAny (model X.prog X.w) X.A (call (.builtin id) (v::us)) (EP X pins σ Q) X.xe s
section
variable{X:Cx}{a b:Expr}{ta tb:TE}{pos:Pos}
theorem zaid{r:R2}(hr:IxR X r)(ha:PE X a ta)(hb:PE X b tb)(hs:PlainIx b):PE X (.Subscript a b pos) (tOp r ta tb):=by
 intro pins s σ H Q I h
 exact Subscript_ (binT ha hb I h λv u s2 x y H2 I2 rx ry q=>hr a b pins s2 σ H2 x y v u Q I2 rx ry q (hs _ _))
noncomputable def rIxL(K:qB):R2:=λx y H Q=>∃p xs i v,x=.ref p/\y=.int i/\SqL K H p xs/\atI xs i=some v/\Q v H
noncomputable def rIxT(K:qB):R2:=λx y H Q=>∃p xs i v,x=.ref p/\y=.int i/\SqT K H p xs/\atI xs i=some v/\Q v H
noncomputable def rIxS:R2:=λx y H Q=>∃z i c,x=.str z/\y=.int i/\z.length<=qa/\atI z.cps.toList i=some c/\Q (.str ⟨#[c]⟩) H
theorem zaed:IxR X (rIxL X.K):=by
 intro value slice pins s σ H x y v u Q I rx ry h hs
 obtain⟨p,xs,i,z,rfl,rfl,hq,he,q⟩:=h
 cases rx
 obtain⟨t,rfl⟩:=ry
 obtain⟨its,r,pl,hz⟩:=I.list hq
 obtain⟨j,h1,h2,h3,h4,h5⟩:=zrw he
 obtain⟨w,ew,rw'⟩:=r.get h2
 have hl:=r.length
 have hn:=zon
 have fin:EP X pins σ Q w s:=⟨z,H,I,rw',q⟩
 by_cases h0:0<=i
 ·have hj:i.toNat=j:=by
   rw[seqIndex_of h0 h5]at h1
   exact qq h1
  exact item_listR pl.isList h0 (by omega) (by rw[hj];simpa using ew) fin hs
 ·have hj:(i+(its.toArray.size:Int)).toNat=j:=by
   rw[seqIndex_neg (by omega) h4]at h1
   rw[qM,<- hl]
   exact qq h1
  exact subscriptTail_builtinR (x:=w) pl.isList.typeIs slot_list_getitem.lookup
   (wpAny_getItem_list_neg (Q:=λr s'=>r=w/\EP X pins σ Q r s') pl.isList (by omega) (by rw[qM]<;>omega) (by omega) (by rw[hj];simpa using ew) ⟨rfl,fin⟩) hs
theorem zaie:IxR X (rIxT X.K):=by
 intro value slice pins s σ H x y v u Q I rx ry h hs
 obtain⟨p,xs,i,z,rfl,rfl,hq,he,q⟩:=h
 cases rx
 obtain⟨t,rfl⟩:=ry
 obtain⟨its,r,pl,hz⟩:=I.tuple hq
 obtain⟨j,h1,h2,h3,h4,h5⟩:=zrw he
 obtain⟨w,ew,rw'⟩:=r.get h2
 have hl:=r.length
 have hn:=zon
 have fin:EP X pins σ Q w s:=⟨z,H,I,rw',q⟩
 exact subscriptTail_builtinR (x:=w) pl.typeIs slot_tuple_getitem.lookup
  (getItem_tuple (j:=j) (Q:=λr s'=>r=w/\EP X pins σ Q r s') pl (by omega) (by omega) (by rw[qM,<- hl];exact h1) (by simpa using ew) ⟨rfl,fin⟩) hs
theorem zaif:IxR X rIxS:=by
 intro value slice pins s σ H x y v u Q I rx ry h hs
 obtain⟨z,i,c,rfl,rfl,hz,he,q⟩:=h
 obtain⟨t,rfl⟩:=rx
 obtain⟨t',rfl⟩:=ry
 obtain⟨j,h1,h2,h3,h4,h5⟩:=zrw he
 have hl:z.cps.toList.length=z.length:=by simp[Str.length]
 rw[hl]at h1 h4 h5
 have hn:=zon
 exact tail_any (qBe s z t) slot_str_getitem.lookup (getItem_str (c:=c) (by
  have e1:decide (i < -(2 ^ 63:Int))=false:=decide_eq_false (by omega)
  have e2:decide (i>=2 ^ 63)=false:=decide_eq_false (by omega)
  rw[e1,e2,Bool.or_false]) (by rw[h1];simpa using h2) ⟨.str ⟨#[c]⟩,H,I.tok _,⟨_,rfl⟩,q⟩) hs
theorem zot(lo hi:Option Int)(n:Nat):(sliceBounds lo hi none n).1=((HT.sIx n 0 lo:Nat):Int)/\(sliceBounds lo hi none n).2.1=((HT.sIx n n hi:Nat):Int)/\(sliceBounds lo hi none n).2.2=1:=by
 refine⟨?_,?_,rfl⟩
 ·cases lo with
  | none=>simp[sliceBounds,HT.sIx]
  | some i=>
   simp only[sliceBounds,HT.sIx,Option.getD_none,show(1:Int) > 0 by decide,if_true]
   by_cases h:i<0
   ·simp only[h,if_true]<;>omega
   ·simp only[h,if_false]<;>omega
 ·cases hi with
  | none=>simp[sliceBounds,HT.sIx]
  | some i=>
   simp only[sliceBounds,HT.sIx,Option.getD_none,show(1:Int) > 0 by decide,if_true]
   by_cases h:i<0
   ·simp only[h,if_true]<;>omega
   ·simp only[h,if_false]<;>omega
theorem zna(its:List Value)(lo hi:Option Int):slicePick its.toArray lo hi none=((its.drop (HT.sIx its.length 0 lo)).take (HT.sIx its.length its.length hi - HT.sIx its.length 0 lo)).toArray:=by
 obtain⟨h1,h2,h3⟩:=zot lo hi its.toArray.size
 unfold slicePick
 rw[h1,h2,h3]
 simp only[sliceRange_one,pick_run,qM]<;>rfl
noncomputable def rSlL(K:qB):V->Option Int->Option Int->Hp->VK->Prop:=λx lo hi H Q=>∃a xs,x=.ref a/\SqL K H a xs/\∀p,H p=none->Q (.ref p) (upd H p (.lst (cutV xs lo hi)))
theorem zaee:SlR X (rSlL X.K):=by
 intro pins s σ H x v vl vu lo hi sl Q I rx hs pl pu h
 obtain⟨a,xs,rfl,hx,q⟩:=h
 cases rx
 obtain⟨its,r,ht,hz⟩:=I.list hx
 have hlen:=r.length
 refine⟨"list",_,slot_list_getitem.lookup,ht.isList.typeIs,?_⟩
 refine wpAny_getItem_list_slice ht.isList hs pl pu .none (by simp) ?_ (by rw[qM]<;>omega)
 rw[zna,<- hlen]
 refine⟨.ref s.heap.objs.size,_,I.laid (t':=s.toks) (o:=.lst (cutV xs lo hi)) (λb ob q=>qE _ q) (qQ _) ?_,rfl,q _ (I.hok.fresh (qQ _))⟩
 exact⟨qAK (zrv xs lo hi) hz,_,0,(r.drop (HT.sIx xs.length 0 lo)).take (HT.sIx xs.length xs.length hi - HT.sIx xs.length 0 lo),qV _ rfl⟩
noncomputable def zgf:V->Bool
 | .non=>true
 | .bl _=>true
 | .int _=>true
 | .str _=>true
 | _=>false
noncomputable def eqV:V->V->Bool
 | .non,.non=>true
 | .bl a,.bl b=>a==b
 | .bl a,.int b=>(if a then 1 else 0)==b
 | .int a,.bl b=>a==(if b then 1 else 0)
 | .int a,.int b=>a==b
 | .str a,.str b=>a==b
 | _,_=>false
theorem zwd{A:Around}{s:Shared}{y x:V}{u v:Value}(ry:RelV y u)(rx:RelV x v)(fy:zgf y=true)(fx:zgf x=true):SeqAt.EqAt A s u v (eqV y x):=by
 cases y with
 | non=>
  cases ry
  cases x with
  | non=>cases rx;exact SeqAt.EqAt.same _
  | bl b=>cases rx;exact SeqAt.EqAt.none_bool b
  | int b=>obtain⟨t,rfl⟩:=rx;exact SeqAt.EqAt.none_int b t
  | str b=>obtain⟨t,rfl⟩:=rx;exact SeqAt.EqAt.none_str b t
  | _=>exact absurd (show false=true from fx) qK
 | bl a=>
  cases ry
  cases x with
  | non=>cases rx;exact SeqAt.EqAt.bool_none a
  | bl b=>cases rx;exact SeqAt.EqAt.bool_bool a b
  | int b=>obtain⟨t,rfl⟩:=rx;exact SeqAt.EqAt.bool_int a b t
  | str b=>obtain⟨t,rfl⟩:=rx;exact SeqAt.EqAt.bool_str a b t
  | _=>exact absurd (show false=true from fx) qK
 | int a=>
  obtain⟨t',rfl⟩:=ry
  cases x with
  | non=>cases rx;exact SeqAt.EqAt.int_none a t'
  | bl b=>cases rx;exact SeqAt.EqAt.int_bool a t' b
  | int b=>obtain⟨t,rfl⟩:=rx;exact SeqAt.EqAt.int_int a t' b t
  | str b=>obtain⟨t,rfl⟩:=rx;exact qCP a t' b t
  | _=>exact absurd (show false=true from fx) qK
 | str a=>
  obtain⟨t',rfl⟩:=ry
  cases x with
  | non=>cases rx;exact SeqAt.EqAt.str_none a t'
  | bl b=>cases rx;exact SeqAt.EqAt.str_bool a t' b
  | int b=>obtain⟨t,rfl⟩:=rx;exact qCO a t' b t
  | str b=>obtain⟨t,rfl⟩:=rx;exact SeqAt.EqAt.str_str a t' b t
  | _=>exact absurd (show false=true from fx) qK
 | _=>exact absurd (show false=true from fy) qK
noncomputable def eqU(x:V)(u:Value):Bool:=match u with
 | .none=>eqV .non x
 | .bool b=>eqV (.bl b) x
 | .int i _=>eqV (.int i) x
 | .str z _=>eqV (.str z) x
 | _=>false
theorem zwe{x y:V}{u:Value}(r:RelV y u)(f:zgf y=true):eqU x u=eqV y x:=by
 cases y with
 | non=>cases r;rfl
 | bl b=>cases r;rfl
 | int i=>obtain⟨t,rfl⟩:=r;rfl
 | str z=>obtain⟨t,rfl⟩:=r;rfl
 | _=>exact absurd (show false=true from f) qK
theorem zry{x:V}:∀{xs:List V}{us:List Value},Vals xs us->xs.all zgf=true->us.any (eqU x)=xs.any λy=>eqV y x
 | _,_,.nil,_=>rfl
 | y::xs,u::us,.cons r t,f=>by
  rw[qAq,qj]at f
  rw[qAp,qAp,zwe r f.1,zry t f.2]
theorem znb{A:Around}{s:Shared}{x:V}{v:Value}(rx:RelV x v)(fx:zgf x=true):∀{xs:List V}{us:List Value},Vals xs us->xs.all zgf=true->∀u∈us,SeqAt.EqAt A s u v (eqU x u)
 | _,_,.nil,_=>λu hu=>by cases hu
 | y::xs,u::us,.cons r t,f=>λu' hu=>by
  rw[qAq,qj]at f
  rcases qX.mp hu with rfl|hu
  ·rw[zwe r f.1];exact zwd r rx f.1 fx
  ·exact znb rx fx t f.2 u' hu
noncomputable def inV(x:V)(xs:List V):Bool:=xs.any λy=>eqV y x
noncomputable def rIn(K:qB)(neg:Bool):R2:=λx y H Q=>∃p xs,y=.ref p/\(SqL K H p xs\/SqT K H p xs)/\zgf x=true/\xs.all zgf=true/\Q (.bl (if neg then !inV x xs else inV x xs)) H
theorem zwf:OpR X (compareOp .In) (rIn X.K false):=by
 intro pins s σ H x y v u Q I rx ry h
 obtain⟨p,xs,rfl,hq,fx,fs,q⟩:=h
 cases ry
 rcases hq with hq|hq
 ·obtain⟨its,r,pl,hz⟩:=I.list hq
  refine SeqAt.in_listAt (eqU x) pl.isList (λw hw=>znb rx fx r fs w (by simpa using hw)) ⟨.bl _,H,I,rfl,?_⟩
  rw[show its.toArray.any (eqU x)=its.any (eqU x) by simp,zry r fs]
  exact q
 ·obtain⟨its,r,pl,hz⟩:=I.tuple hq
  refine SeqAt.in_tupleAt (eqU x) pl (λw hw=>znb rx fx r fs w (by simpa using hw)) ⟨.bl _,H,I,rfl,?_⟩
  rw[show its.toArray.any (eqU x)=its.any (eqU x) by simp,zry r fs]
  exact q
theorem zou:CallR X (.type "list") (λxs H Q=>∃p ys,xs=[.ref p]/\(SqL X.K H p ys\/SqT X.K H p ys)/\∀l,H l=none->Q (.ref l) (upd H l (.lst ys))):=by
 intro pins s σ H xs us Q I r h
 obtain⟨p,ys,rfl,hq,q⟩:=h
 obtain⟨u,rfl,rx⟩:=zvt r
 cases rx
 have fin:∀(its:List Value),Vals ys its->ys.length<=qa->∀(h':Heap)(c':Nat),(∀b o',s.heap.get? b=some o'->h'.get? b=some o')->
   h'.get? s.heap.objs.size=some {cls:=.type "list",dict:=none,data:=.seq its.toArray c',slots:=#[]}->EP X pins σ Q (.ref s.heap.objs.size) {s with heap:=h'}:=λits r' hz h' c' kp e=>
  ⟨.ref s.heap.objs.size,_,I.laid (t':=s.toks) kp (qQ _) (show zdp X.prog X.w _ h' _ (.lst ys)from⟨hz,its,c',r',e⟩),rfl,q _ (I.hok.fresh (qQ _))⟩
 rcases hq with hq|hq
 ·obtain⟨its,r',pl,hz⟩:=I.list hq
  have hlen:=r'.length
  obtain⟨o,ho,hc,n,hd⟩:=pl.isList
  exact call_list_seq p (.inl rfl) ho hc hd (λh' c' kp e=>fin its r' hz h' c' kp e) (by simp only[qM]<;>omega)
 ·obtain⟨its,r',pl,hz⟩:=I.tuple hq
  have hlen:=r'.length
  obtain⟨o,ho,hc,n,hd⟩:=pl
  exact call_list_seq p (.inr rfl) ho hc hd (λh' c' kp e=>fin its r' hz h' c' kp e) (by simp only[qM]<;>omega)
noncomputable def tyV(K:qB)(T:String)(x:V)(H:Hp):Prop:=match x with
 | .str _=>T="str"
 | .int _=>T="int"
 | .ref p=>(T="list"/\∃xs,SqL K H p xs)\/(T="tuple"/\∃o,K.lookup p=some o/\o.cls=.type "tuple"/\o.dict=none)\/
   (T="dict"/\((∃kvs,H p=some (.dK kvs))\/∃kvs,H p=some (.dT kvs)))\/(T="set"/\∃S n,H p=some (.set S n))
 | _=>False
theorem zacg{pins:List (Addr×Obj)}{σ:St}{H:Hp}{s:Shared}{T:String}{x:V}{v:Value}(I:Inv X pins σ H s)(r:RelV x v)(ty:tyV X.K T x H) :
  s.TypeIs v T/\∀a,v=.ref a->∃ob,s.heap.get? a=some ob/\ob.dict=none:=by
 cases x with
 | str z=>
  obtain⟨t,rfl⟩:=r
  cases(show T="str"from ty)
  exact⟨qBe s z t,λ_ e=>nomatch e⟩
 | int i=>
  obtain⟨t,rfl⟩:=r
  cases(show T="int"from ty)
  exact⟨typeIs_int s i t,λ_ e=>nomatch e⟩
 | ref p=>
  cases r
  rcases ty with⟨rfl,xs,hq⟩|⟨rfl,o,hk,hc,hd⟩|⟨rfl,hk⟩|⟨rfl,S,n,hk⟩
  ·obtain⟨its,_,pl,_⟩:=I.list hq
   refine⟨pl.isList.typeIs,λa e=>?_⟩
   cases e
   obtain⟨o,n,e,c,hd,_⟩:=pl
   exact⟨o,e,hd⟩
  ·refine⟨⟨o,I.kIn p o hk,hc⟩,λa e=>?_⟩
   cases e
   exact⟨o,I.kIn _ o hk,hd⟩
  ·have z:∃o,s.heap.get? p=some o/\o.ExactDict:=by
    rcases hk with⟨kvs,hk⟩|⟨kvs,hk⟩
    ·obtain⟨_,_,_,_,o,_,_,e,ex,_⟩:=I.hok p _ hk
     exact⟨o,e,ex⟩
    ·obtain⟨_,_,_,_,o,_,_,e,ex,_⟩:=I.hok p _ hk
     exact⟨o,e,ex⟩
   obtain⟨o,e,ex⟩:=z
   refine⟨⟨o,e,ex.1⟩,λa e2=>?_⟩
   cases e2
   exact⟨o,e,ex.2.1⟩
  ·obtain⟨o,_,_,_,e,ex,_⟩:=I.hok p _ hk
   refine⟨⟨o,e,ex.1⟩,λa e2=>?_⟩
   cases e2
   exact⟨o,e,ex.2.1⟩
 | _=>exact False.elim ty
noncomputable def tBM0(K:qB)(T:String)(r:V->List V->Hp->VK->Prop)(to:TE):TE:=λσ H Q=>to σ H λx H1=>tyV K T x H1/\r x [] H1 Q
noncomputable def tBM(K:qB)(T:String)(r:V->List V->Hp->VK->Prop)(to:TE)(t:TA):TE:=λσ H Q=>to σ H λx H1=>tyV K T x H1/\t σ H1 λxs H2=>r x xs H2 Q
variable{o e:Expr}{es:List Expr}{to:TE}{t:TA}{name:Str}{apos cpos:Pos}{T id:String}{r:V->List V->Hp->VK->Prop}
theorem zaig(pa:PlainAttrs T)(slot:Slot T name id)(hty:typeOf (.builtin id)=pure (.type "method_descriptor"))(hm:MtR X id r)(ho:PE X o to)
  (hbase:attributeBase o name X.env (eval o X.env)=eval o X.env:=by rfl) (hline:(apos.endLine==cpos.line)=true:=by rfl):PE X (.Call (.Attribute o name apos) [] [] cpos) (tBM0 X.K T r to):=by
 intro pins s σ H Q I h
 refine wpAny_Call_method0_late hbase hline (thn (ho pins s σ H _ I h) λv s1 ⟨x,H1,I1,r1,ty,q1⟩=>?_)
 obtain⟨h1,h2⟩:=zacg I1 r1 ty
 exact⟨T,id,pa,slot,hty,h1,h2,qBb rfl (PySem.evalArgs_none (hm pins s1 σ H1 x [] v [] Q I1 r1 .nil q1))⟩
theorem zakx(pa:PlainAttrs T)(slot:Slot T name id)(hty:typeOf (.builtin id)=pure (.type "method_descriptor"))(hm:MtR X id r)(ho:PE X o to)(ha:PA X (e::es) t)
  (hbase:attributeBase o name X.env (eval o X.env)=eval o X.env:=by rfl)
  (hfew:((backTo cpos (starEach (e::es) X.env)).all (λx=>!x.1)&&(backToKw cpos (keywordEach [] X.env)).all (λx=>x.1.isSome)
   && decide ((e::es).length+([]:List Keyword).length+(if([]:List Keyword).isEmpty then 0 else 1)<30))=true:=by rfl)
  (hline:(apos.endLine==cpos.line)=true:=by rfl)(hs:starEach (e::es) X.env=(false,eval e X.env)::starEach es X.env:=by rfl)(hplain:(backTo cpos (starEach es X.env)).any (·.1)=false:=by rfl) :
  PE X (.Call (.Attribute o name apos) (e::es) [] cpos) (tBM X.K T r to t):=by
 intro pins s σ H Q I h
 refine wpAny_Call_method_late hbase hfew hline rfl (thn (ho pins s σ H _ I h) λv s1 ⟨x,H1,I1,r1,ty,q1⟩=>?_)
 obtain⟨h1,h2⟩:=zacg I1 r1 ty
 refine⟨T,id,pa,slot,hty,h1,h2,?_⟩
 have hA:=ha cpos pins s1 σ H1 _ I1 q1
 rw[hs]at hA ⊢
 refine qBb (by show(false||(backTo cpos (starEach es X.env)).any (·.1))=false;rw[hplain]<;>rfl) (qCa ?_)
 exact thn hA λus s2 ⟨vs,H2,I2,r2,q2⟩=>hm pins s2 σ H2 x vs v us Q I2 r1 r2 q2
end
noncomputable def MtM(X:Cx)(id:String)(r:V->List V->Hp->VK->Prop):Prop:=
 ∀(pins:List (Addr×Obj))(s:Shared)(σ:St)(H:Hp)(x:V)(xs:List V)(v:Value)(us:List Value)(Q:VK),Inv X pins σ H s->RelV x v->Vals xs us->r x xs H Q->
  wpAny (model X.prog X.w) X.A (call (.builtin id) (v::us)) (EP X pins σ Q) X.xe s
theorem Vals.one:∀{x:V}{us:List Value},Vals [x] us->∃u,us=[u]/\RelV x u
 | _,_,.cons r .nil=>⟨_,rfl,r⟩
theorem Vals.zero:∀{us:List Value},Vals [] us->us=[]
 | _,.nil=>rfl
theorem Vals.dropLast{xs:List V}{us:List Value}(h:Vals xs us):Vals xs.dropLast us.dropLast:=by
 induction h with
 | nil=>exact .nil
 | cons r t ih=>
  cases t with
  | nil=>exact .nil
  | cons q t'=>exact .cons r ih
theorem Vals.eraseIdx:∀{xs:List V}{us:List Value}(i:Nat),Vals xs us->Vals (xs.eraseIdx i) (us.eraseIdx i)
 | _,_,_,.nil=>.nil
 | _,_,0,.cons _ t=>t
 | _,_,i+1,.cons r t=>.cons r (Vals.eraseIdx i t)
theorem zuq{α:Type}(l:List α):l.eraseIdx (l.length - 1)=l.dropLast:=by
 induction l with
 | nil=>rfl
 | cons a r ih=>
  cases r with
  | nil=>rfl
  | cons b r=>
   have e:(a::b::r).length - 1=((b::r).length - 1)+1:=by
    have h1:(a::b::r).length=r.length+2:=rfl
    have h2:(b::r).length=r.length+1:=rfl
    omega
   rw[e,List.eraseIdx_cons_succ,ih]
   all_goals rfl
theorem zov{α:Type}:∀(l:List α)(i:Nat),(l.eraseIdx i).length<=l.length
 | [],_=>qQ _
 | _::_,0=>qCH _
 | _::r,i+1=>Nat.succ_le_succ (zov r i)
section
variable{X:Cx}{pins:List (Addr×Obj)}{σ:St}{H:Hp}{s:Shared}{l b:Addr}{xs ys zs:List V}
theorem Inv.lset{its its':List Value}{n:Nat}{f:Array Value->Array Value}{t':Nat}(I:Inv X pins σ H s)(hH:H l=some (.lst xs))
  (e:s.heap.get? l=some {cls:=.type "list",data:=.seq its.toArray n}) (hf:f its.toArray=its'.toArray) (hv:Vals ys its') (hz:ys.length<=qa) :
  Inv X pins σ (upd H l (.lst ys)) {s with heap:=s.heap.update l (Obj.mapSeq f),toks:=t'}:=by
 have q:=PySem.IsL.update e f
 rw[hf]at q
 refine I.write (x:=l) (e:=l) (by rw[hH];exact trivial) (.inl rfl) (λb' u hb hu=>(qAM s.heap (Obj.mapSeq f) (qAm hb)).trans hu) ⟨_,q⟩ ?_
 exact⟨hz,its',_,hv,q⟩
theorem Inv.lnew{its:List Value}{t':Nat}(I:Inv X pins σ H s)(hv:Vals ys its)(hz:ys.length<=qa) :
  Inv X pins σ (upd H s.heap.objs.size (.lst ys)) {s with heap:=s.heap.push {cls:=.type "list",data:=.seq its.toArray},toks:=t'}:=
 I.laid (λ_ _ q=>qE _ q) (qQ _) ⟨hz,its,0,hv,qV _ rfl⟩
theorem Inv.fresh(I:Inv X pins σ H s):H s.heap.objs.size=none:=I.hok.fresh (qQ _)
theorem Inv.lstM(I:Inv X pins σ H s)(hH:H l=some (.lst xs)):xs.length<=qa/\∃(its:List Value)(n:Nat),Vals xs its/\xs.length=its.length/\s.heap.get? l=some {cls:=.type "list",data:=.seq its.toArray n}:=by
 obtain⟨z,its,n,r,e⟩:=I.hok l _ hH
 exact⟨z,its,n,r,r.length,e⟩
theorem zaah{n:Nat}(h:n<=qa):Builtin.List.listTooLong n=false:=by
 unfold Builtin.List.listTooLong
 exact decide_eq_false (by omega)
end
section
variable{X:Cx}
noncomputable def znc:V->List V->Hp->VK->Prop:=λx vs H Q=>∃l xs y,x=.ref l/\vs=[y]/\H l=some (.lst xs)/\xs.length<qa/\Q .non (upd H l (.lst (xs++[y])))
theorem zbq:MtM X "list.append" znc:=by
 intro pins s σ H x vs v us Q I rx rv h
 obtain⟨l,xs,y,rfl,rfl,hH,hz,q⟩:=h
 cases rx
 obtain⟨u,rfl,ru⟩:=rv.one
 obtain⟨z,its,n,r,hl,e⟩:=I.lstM hH
 refine qBE F.slot_list_append ⟨_,e,rfl⟩ F.entry_list_append (F.args_list_append_2 _ _) (PySem.list_append l its.toArray n u (by rw[qM];omega)) ⟨e,?_⟩
 refine⟨.non,_,I.lset (its':=its++[u]) hH e (by simp) (r.append (.cons ru .nil)) ?_,rfl,q⟩
 rw[qY,List.length_singleton]
 omega
noncomputable def zaef:V->List V->Hp->VK->Prop:=λx vs H Q=>∃l b xs zs,x=.ref l/\vs=[.ref b]/\H l=some (.lst xs)/\H b=some (.lst zs)/\xs.length+zs.length<=qa/\Q .non (upd H l (.lst (xs++zs)))
theorem zaih:MtM X "list.extend" zaef:=by
 intro pins s σ H x vs v us Q I rx rv h
 obtain⟨l,b,xs,zs,rfl,rfl,hH,hB,hz,q⟩:=h
 cases rx
 obtain⟨u,rfl,ru⟩:=rv.one
 cases ru
 obtain⟨z,its,n,r,hl,e⟩:=I.lstM hH
 obtain⟨z2,its2,n2,r2,hl2,e2⟩:=I.lstM hB
 have hsz:its.toArray.size+its2.toArray.size<=qa:=by rw[qM,qM];omega
 have hlong:¬(!its.toArray.isEmpty&&Builtin.List.listTooLong (its.toArray.size+its2.toArray.size))=true:=by
  rw[zaah hsz,qBr]
  exact qK
 refine qBE F.slot_list_extend ⟨_,e,rfl⟩ F.entry_list_extend (F.args_list_extend_2 _ _)
  (AutoSeq1.list_extend_list_list_0 l its.toArray n b its2.toArray n2 hlong (by rw[qM];omega) (by omega)) ⟨e,e2,?_⟩
 refine⟨.non,_,I.lset (its':=its++its2) hH e (by simp) (r.append r2) ?_,rfl,q⟩
 rw[qY]
 omega
noncomputable def rPop:V->List V->Hp->VK->Prop:=λx vs H Q=>∃l xs y,x=.ref l/\vs=[]/\H l=some (.lst xs)/\xs[xs.length - 1]?=some y/\Q y (upd H l (.lst xs.dropLast))
theorem zach:MtM X "list.pop" rPop:=by
 intro pins s σ H x vs v us Q I rx rv h
 obtain⟨l,xs,y,rfl,rfl,hH,hy,q⟩:=h
 cases rx
 have hus:=rv.zero
 subst hus
 obtain⟨z,its,n,r,hl,e⟩:=I.lstM hH
 obtain⟨u,hu,ru⟩:=r.get hy
 have hy':its.toArray[its.toArray.size - 1]?=some u:=by
  show its.toArray[its.length - 1]?=some u
  rw[<- qCW,<- hl]
  exact hu
 refine qBE F.slot_list_pop ⟨_,e,rfl⟩ F.entry_list_pop (F.args_list_pop_1 _) (MeetsSeq.list_pop_last l its.toArray n u hy' (by rw[qM];omega)) ⟨e,?_⟩
 refine⟨y,_,I.lset (its':=its.dropLast) hH e ?_ r.dropLast ?_,ru,q⟩
 ·show its.toArray.eraseIdxIfInBounds (its.toArray.size - 1)=its.dropLast.toArray
  rw[qM,qB3,zuq]
 ·rw[qAW]
  omega
noncomputable def zwg:V->List V->Hp->VK->Prop:=λx vs H Q=>∃l xs i k y,x=.ref l/\vs=[.int i]/\H l=some (.lst xs)/\-(2 ^ 63)<=i/\i<2 ^ 63/\seqIndex? i xs.length=some k/\xs[k]?=some y/\Q y (upd H l (.lst (xs.eraseIdx k)))
theorem ztb:MtM X "list.pop" zwg:=by
 intro pins s σ H x vs v us Q I rx rv h
 obtain⟨l,xs,i,k,y,rfl,rfl,hH,h1,h2,hk,hy,q⟩:=h
 cases rx
 obtain⟨u,rfl,ru⟩:=rv.one
 obtain⟨t,rfl⟩:=ru
 obtain⟨z,its,n,r,hl,e⟩:=I.lstM hH
 obtain⟨w,hw,rw'⟩:=r.get hy
 refine qBE F.slot_list_pop ⟨_,e,rfl⟩ F.entry_list_pop (F.args_list_pop_2 _ _)
  (MeetsSeq.list_pop_at l its.toArray n i t k w (fitsIndex_both h1 h2) (by rw[qM,<- hl];exact hk) (by rw[<- qCW];exact hw) (by rw[qM];omega)) ⟨e,?_⟩
 refine⟨y,_,I.lset (its':=its.eraseIdx k) hH e ?_ (r.eraseIdx k) ?_,rw',q⟩
 ·show its.toArray.eraseIdxIfInBounds k=(its.eraseIdx k).toArray
  rw[qB3]
 ·have:=zov xs k
  omega
noncomputable def zaci:V->List V->Hp->VK->Prop:=λx vs H Q=>∃l xs,x=.ref l/\vs=[]/\H l=some (.lst xs)/\Q .non (upd H l (.lst []))
theorem zaai:MtM X "list.clear" zaci:=by
 intro pins s σ H x vs v us Q I rx rv h
 obtain⟨l,xs,rfl,rfl,hH,q⟩:=h
 cases rx
 have hus:=rv.zero
 subst hus
 obtain⟨z,its,n,r,hl,e⟩:=I.lstM hH
 refine qBE F.slot_list_clear ⟨_,e,rfl⟩ F.entry_list_clear (F.args_list_clear_1 _) (AutoSeq1.list_clear_list_0 l its.toArray n (by rw[qM];omega)) ⟨e,?_⟩
 exact⟨.non,_,I.lset (its':=[]) (ys:=[]) hH e rfl .nil (qAR _),rfl,q⟩
noncomputable def rCat:R2:=λx y H Q=>∃l b xs zs,x=.ref l/\y=.ref b/\H l=some (.lst xs)/\H b=some (.lst zs)/\xs.length+zs.length<=qa/\∀p,H p=none->Q (.ref p) (upd H p (.lst (xs++zs)))
theorem zaii:OpR X (binaryOp .Add) rCat:=by
 intro pins s σ H x y v u Q I rx ry h
 obtain⟨l,b,xs,zs,rfl,rfl,hH,hB,hz,q⟩:=h
 cases rx
 cases ry
 obtain⟨z,its,n,r,hl,e⟩:=I.lstM hH
 obtain⟨z2,its2,n2,r2,hl2,e2⟩:=I.lstM hB
 refine PySem.P.add_list e e2 ?_ (by rw[qM,qM];omega)
 have ea:its.toArray++its2.toArray=(its++its2).toArray:=by simp
 rw[ea]
 exact⟨.ref _,_,I.lnew (t':=s.toks) (r.append r2) (by rw[qY];omega),rfl,q _ I.fresh⟩
end
section
variable{prog:Program}{w:World}{A:Around}{E:Value->Shared->Prop}{s:Shared}
set_option maxRecDepth 100000 in
end
theorem zaky{P:Program}{w:World}{k:Key}{u:Value}(r:RelV (kV k) u):(zdo P w).is k u=true:=by
 cases k with
 | inl i=>obtain⟨t,e⟩:=(show ∃t,u=Value.int i t from r);subst e;exact zrq P w i t
 | inr x=>obtain⟨t,e⟩:=(show ∃t,u=Value.str x t from r);subst e;exact zrr P w x t
set_option genInjectivity false in
set_option genInjectivity false in
section
variable{X:Cx}{pins:List (Addr×Obj)}{σ:St}{H:Hp}{s:Shared}{a:Addr}{y d:V}{u r:Value}{o:Option V}{A:Around}{E:Value->Shared->Prop}
end
end L2
namespace Att
open PySem PySem.W PySem.Calls PyProof.Rows
theorem zkp{P:Params}{h:Heap}:∀(ns:List Int)(vs:List Value),WellAll P h vs (ns.map WData.int)->IntsAre vs ns:=by
 intro ns
 induction ns with
 | nil=>
  intro vs w
  rw[List.map_nil]at w
  cases w
  exact .nil
 | cons n ns ih=>
  intro vs w
  rw[qAf]at w
  cases w with
  | cons a b=>
   cases a
   exact .cons _ _ (ih _ b)
theorem zwh{l:OpenLaw}{n:Nat}(hn:l.most=some n){P:Params}{h:Heap}{args:List WData}{vals:List Value}
  (hpre:l.row.toRowW.claim.pre args=true)(hwl:WellAll P h vals args) :
  ∃a vs ns,vals=[Value.ref a]/\args=[WData.list (ns.map WData.int)]/\h.get? a=some {cls:=.type "list",data:=.seq vs.toArray}/\IntsAre vs ns/\ns.length<=n:=by
 have hsh:WShape.hasAll [] args [.list .int]=true:=(pre_splitW hpre).1
 have hc:l.pre.holds [] {args:=args}=true:=(pre_splitW hpre).2
 obtain⟨d,r,rfl,h1,h2⟩:=hasAllW_cons hsh
 obtain rfl:=hasAllW_nil h2
 obtain⟨xs,rfl,h3⟩:=hasW_list h1
 obtain⟨ns,rfl⟩:=items_int h3
 have hlen:ns.length<=n:=by
  unfold OpenLaw.pre at hc
  have h4:(WTm.not (.lt (.lit (.int (n:Int))) (.len (.arg 0)))).holds [] {args:=[.list (ns.map .int)]}=true:=by
   have h4:=(holds_andW hc).1
   rw[hn]at h4
   exact h4
  have h5:=condW_of h4 (w_not (w_lt w_lit (w_len_list (w_arg rfl))))
  rw[qD]at h5
  refine Nat.le_of_not_lt λq=>?_
  have q':(n:Int)<((ns.length:Nat):Int):=by omega
  first
   | (rw[decide_eq_true q']at h5;exact absurd h5 (by decide))
   | (simp at h5;omega)
 cases hwl with
 | cons w1 w2=>
  cases w2
  cases w1 with
  | list ho hall=>exact⟨_,_,ns,rfl,rfl,ho,zkp ns _ hall,hlen⟩
theorem zwi(l:OpenLaw)(args:List WData):l.row.toRowW.claim.post args (.bool true) args=true:=
 postW_of (r:=l.row.toRowW) (X:=(true==true))
  (show WShape.has [] (.bool true) .bool=true by first|rfl|decide|simp[WShape.has,WShape.arms,WShape.armsAll])
  (show(WTm.eq .res (.lit (.bool true))).value [] {args:=args,res:=some (.bool true),after:=args}=some (.bool (true==true))from w_eq_bool (w_res rfl) w_lit) rfl
theorem attach_call{l:OpenLaw}{n:Nat}{q:Program}{loose:List Str}{XP:(Str->Option Value)->Heap->Prop}{YP:World->Heap->Prop}{d:DefRec}
  (hn:l.most=some n)(hdf:d.params.defaults=[])
  (call:∀(w:World)(s₀ s₁:Shared)(mg mb:Str->Option Value)(fa:Addr)(o:Obj)(pm cd doc:Value)(a:Addr)(vs:List Value)(ns:List Int),
   Ground q loose [] XP w s₀ mg mb s₁.heap->YP w s₁.heap->
   s₁.heap.get? fa=some o->o.data=.func (docDef d.name d.params d.body d.scope pm cd doc)->s₁.heap.CodeRec cd d.name->mg d.name=some (.ref fa)->
   s₁.heap.get? a=some {cls:=.type "list",data:=.seq vs.toArray}->IntsAre vs ns->ns.length<=n->s₁.gens=#[]->
   codeAny (model l.prog w) callerA (.call (.ref fa) ⟨[.ref a],[]⟩) (λr s'=>r=.ok (.ret (.bool true))/\OldK s₁.heap s'.heap/\s'.os=s₁.os/\AllBare s'.gens) s₁) :
  WalkO q loose XP YP l.row.toRowW d [] (λf vs=>PySem.call f vs):=by
 intro w s₀ s₁ mg mb G Y fa o pm cd doc dV kV ho hd hcd hD hmg hg args vals as hpre hlay hrd hwl hlo
 obtain rfl:dV=.none:=Dflts.none hD hdf
 obtain rfl:kV=.none:=Dflts.noKw hD
 obtain⟨a,vs,ns,rfl,rfl,hobj,hints,hlen⟩:=zwh hn hpre hwl
 refine enter_call (qAj (call w s₀ s₁ mg mb fa o pm cd doc a vs ns G Y ho (fd_plain hd) hcd hmg hobj hints hlen hg) λr s' hq=>?_)
 obtain⟨rfl,h2,h3,h4⟩:=hq
 exact⟨.inl ⟨.bool true,.bool true,[],rfl,λ_=>rfl,.bool true,zwi l _,λ_=>⟨List.Pairwise.nil,λ_ hm=>(nomatch hm)⟩⟩,h2,h3,h4⟩
end Att
namespace L2
open PySem PySem.Spec PyProof.Rows
theorem zow:∀{vs:List Value}{ns:List Int},IntsAre vs ns->Vals (ns.map V.int) vs
 | _,_,.nil=>.nil
 | _,_,.cons n t h=>.cons ⟨t,rfl⟩ (zow h)
noncomputable def Only(H:Hp):Prop:=∀b,H b=none\/∃o xs,H b=some (.frz o (.lst xs))
theorem zaaj{P:Program}{w:World}{K:qB}{mg mb:Str->Option Value}{CX:CXT}{k:Nat}{fa a:Addr}{fd:qAB}{x:Str}{sp:Sp}{s₁:Shared}{vs:List Value}{ns:List Int}
  (KX:K.In s₁.heap)(hns:s₁.heap.Ns qZ mg)(hb:s₁.heap.Ns builtinsNs mb)(hbb:∀x:Str,x≠"__name__"->mb x=bootBuiltins x)(hlim:s₁.heap.NoLimit)(hg:s₁.gens=#[])
  (ha:s₁.heap.get? a=some {cls:=.type "list",data:=.seq vs.toArray}) (hi:IntsAre vs ns) (hl:ns.length<=qa) (hr:Room k callerA)
  (F:∀base:Heap,K.In base->base.Ns qZ mg->FnOk P w K mg base CX k fa fd [x] sp)(hbind:∀(s:Shared) (u:Value),BindsTo s fd ⟨[u],[]⟩ [(x,u)])
  (hsp:∀H:Hp,Only H->SqL K H a (ns.map V.int)->sp [.ref a] H (λv _=>v=.bl true) λ_ _ _=>False)
  (hCX:∀H e s',CX [] H s₁ (λ_ _ _=>False) e s'->False) :
  codeAny (model P w) callerA (.call (.ref fa) ⟨[.ref a],[]⟩) (λr s'=>r=.ok (.ret (.bool true))/\OldK s₁.heap s'.heap/\s'.os=s₁.os/\AllBare s'.gens) s₁:=by
 have rv:=zow hi
 have lenV:=hi.length
 have core:∀H:Hp,Only H->SqL K H a (ns.map V.int)->HOk P w H s₁.heap->(∀b,H b≠none->b=a)->(H a≠none->K.lookup a=none)->
   codeAny (model P w) callerA (.call (.ref fa) ⟨[.ref a],[]⟩) (λr s'=>r=.ok (.ret (.bool true))/\OldK s₁.heap s'.heap/\s'.os=s₁.os/\AllBare s'.gens) s₁:=by
  intro H hO hS hok hA hK
  have base_of:∀{b:Addr}{o:Obj},s₁.heap.get? b=some o->H b=none->(hidT s₁.heap H).get? b=some o:=λe n=>zzy e n
  have noA:∀{b:Addr}{o:Obj}{es:Array DictEntry}{ep:Nat},s₁.heap.get? b=some o->o.data=.dict es ep->H b=none:=λ{b o es ep} e d=>by
   cases q:H b with
   | none=>rfl
   | some u=>
    have e':b=a:=hA b (by rw[q];simp)
    subst e'
    rw[ha]at e;cases e
    have d':Data.seq vs.toArray _=Data.dict es ep:=d
    cases d'
  have nsK:∀{b:Addr}{m:Str->Option Value},s₁.heap.Ns b m->(hidT s₁.heap H).Ns b m:=λ{b m} ⟨o,es,ep,e,d,r⟩=>⟨o,es,ep,base_of e (noA e d),d,r⟩
  have hKb:K.In (hidT s₁.heap H):=λb o e=>base_of (KX b o e) (by
   cases q:H b with
   | none=>rfl
   | some u=>
    have e':b=a:=hA b (by rw[q];simp)
    subst e'
    rw[hK (by rw[q];simp)]at e;cases e)
  have hM:Mod K mg (hidT s₁.heap H):=⟨hKb,nsK hns,⟨mb,nsK hb,hbb⟩,let⟨mc,h1,h2⟩:=hlim;⟨mc,nsK h1,h2⟩⟩
  have e0:Env0 P w K mg (hidT s₁.heap H) callerA [] s₁ H:=⟨rfl,hM,λb o e=>zadq e,Nat.le_of_eq (zvo _ _),trivial,λb hb=>absurd (show b∈([]:List Addr)from hb) (by simp),hok,.of_eq hg⟩
  refine qAj ((F _ hKb (nsK hns)).run callerA [] s₁ H ⟨[.ref a],[]⟩ [.ref a] [.ref a] _ _ hr e0 (hbind s₁ (.ref a)) (.cons rfl .nil) (hsp H hO hS)) λr s' h=>?_
  cases r with
  | error e=>exact(hCX H e s' h).elim
  | ok fl=>
   cases fl with
   | next=>exact False.elim h
   | brk=>exact False.elim h
   | cont=>exact False.elim h
   | ret u=>
    obtain⟨v,H',os,bare,un,hok',r',q⟩:=h
    have q':v=.bl true:=q
    subst q'
    obtain rfl:u=Value.bool true:=r'
    refine⟨rfl,OldK.of_keep λb o e=>?_,os,bare⟩
    cases q:H b with
    | none=>exact un.keep b o e q (by intro z;exact absurd (show b∈([]:List Addr)from z) (by simp)) (by simp)
    | some u=>
     rcases hO b with z|⟨ob,xs,z⟩
     ·rw[q]at z;cases z
     ·have z2:=un.frzs b ob _ z
      obtain⟨e1,_⟩:=hok b _ z
      obtain⟨e2,_⟩:=hok' b _ z2
      rw[e]at e1;cases e1
      exact e2
 cases hk:K.lookup a with
 | some o=>
  have e:=KX a o hk
  rw[ha]at e
  cases e
  refine core (λ_=>none) (λ_=>.inl rfl) (.inr ⟨_,vs.toArray,_,hk,rfl,rfl,rfl,by rw[qM,lenV];exact hl,by simpa using rv⟩) (λb u z=>by have z':(none:Option HO)=some u:=z;cases z') (λb z=>absurd rfl z) λz=>absurd rfl z
 | none=>
  refine core (λb=>if b=a then some (.frz {cls:=.type "list",data:=.seq vs.toArray} (.lst (ns.map V.int)))else none) (λb=>?_) (.inl (.inr ⟨{cls:=.type "list",data:=.seq vs.toArray},if_pos rfl⟩)) (λb u z=>?_) (λb z=>?_) λ_=>hk
  ·by_cases hb:b=a
   ·exact .inr ⟨_,_,if_pos hb⟩
   ·exact .inl (if_neg hb)
  ·by_cases hb:b=a
   ·have z':=(if_pos hb).symm.trans z
    cases z'
    subst hb
    exact⟨ha,by rw[qD];exact hl,vs,_,rv,ha⟩
   ·have z':=(if_neg hb).symm.trans z
    cases z'
  ·by_cases hb:b=a
   ·exact hb
   ·exact absurd (if_neg hb) z
theorem walk_of{l:PySem.W.OpenLaw}{n k:Nat}{q:Program}{loose:List Str}{XP:(Str->Option Value)->Heap->Prop}{YP:World->Heap->Prop}{d:DefRec}{K:Params->qB}{CX:World->CXT}{sp:World->Sp}{x:Str}
  (hn:l.most=some n)(hn2:n<=qa)(hdf:d.params.defaults=[])(hr:Room k callerA)
  (hY:∀(w:World) (h:Heap),YP w h->(K w.params).In h)
  (F:∀(w:World)(mg:Str->Option Value)(fa:Addr)(h:Heap),(K w.params).In h->h.Ns qZ mg->mg d.name=some (.ref fa)->
   ∃fd:qAB,(∀(s:Shared)(u:Value),BindsTo s fd ⟨[u],[]⟩ [(x,u)])/\
    ∀base:Heap,(K w.params).In base->base.Ns qZ mg->FnOk l.prog w (K w.params) mg base (CX w) k fa fd [x] (sp w))
  (hsp:∀(w:World) (H:Hp) (a:Addr) (ns:List Int),ns.length<=n->Only H->SqL (K w.params) H a (ns.map V.int)->sp w [.ref a] H (λv _=>v=.bl true) λ_ _ _=>False)
  (hCX:∀(w:World) (H:Hp) (s:Shared) (e:Value) (s':Shared),CX w [] H s (λ_ _ _=>False) e s'->False) :
  PySem.W.WalkO q loose XP YP l.row.toRowW d [] (λf vs=>PySem.call f vs):=by
 refine Att.attach_call hn hdf λw s₀ s₁ mg mb fa o pm cd doc a vs ns G Y ho hd hcd hmg hobj hints hlen hg=>?_
 have KX:=hY w _ Y
 obtain⟨fd,hb,hF⟩:=F w mg fa _ KX G.T.g hmg
 exact zaaj KX G.T.g G.T.b G.T.builtins G.T.nolimit hg hobj hints (qAK hlen hn2) hr hF hb (λH hO hS=>hsp w H a ns hlen hO hS) λH e s'=>hCX w H s₁ e s'
end L2
namespace L2
open PySem PySem.Spec PyProof.Rows
noncomputable def znd(s:Stmt)(j:Nat):Stmt:=match s with
 | .ClassDef _ _ _ body _ _ _ _ _ _ _=>body.getD j (.Pass ⟨0,0,0,0⟩)
 | _=>.Pass ⟨0,0,0,0⟩
noncomputable def zcb(s:Stmt):Arguments:=match s with
 | .FunctionDef _ a _ _ _ _ _ _ _ _=>a
 | _=>{posonlyargs:=[],args:=[],vararg:=none,kwonlyargs:=[],kw_defaults:=[],kwarg:=none,defaults:=[]}
noncomputable def zbo(s:Stmt):List Stmt:=match s with
 | .FunctionDef _ _ b _ _ _ _ _ _ _=>b
 | _=>[]
noncomputable def zak(s:Stmt):Scope:=match s with
 | .FunctionDef _ _ _ _ _ _ sc _ _ _=>sc
 | _=>{kind:=.function,names:=[],isGenerator:=false,isCoroutine:=false}
noncomputable abbrev CX0:CXT:=λ_ _ _ _ _ _=>False
noncomputable abbrev E0:XK:=λ_ _ _=>False
theorem zakz{X:Cx}:zvy CX0 X E0:=λ_ _ _ _ _ _ _ h=>h.elim
set_option genInjectivity false in
structure Fun(K:qB)(x qual:Str)(st:Stmt)(f:Addr)(fd:qAB):Prop where
 ex:∃(oc:Value)(od:Option Addr)(kV doc pm:Value)(an:Option Addr)(cdv ct:Value)(osl:Array (Option Value)),
  fd=q0 x qual (zcb st) (zbo st) (zak st) .none kV doc pm an cdv ct/\K.lookup f=some ⟨oc,od,.func fd,osl⟩/\qAA K cdv qual=true
 kp:qm K (.ref f)=true
section
variable{P:Program}{w:World}{K:qB}{mg:Str->Option Value}{base:Heap}
theorem Fun.ok{x qual:Str}{st:Stmt}{f:Addr}{fd:qAB}{N ps:List Str}{k:Nat}{sp:Sp}(F:Fun K x qual st f fd)(S:FnScope N ps (zak st))(len:∀vs H Q E,sp vs H Q E->vs.length=ps.length)
  (hbody:∀(cdv:Value)(A:Around)(outer:List Env)(s:Shared)(H:Hp)(vs:List V)(Q:VK)(E:XK),Room k (A.deeper (envOfC qual (zak st) s.heap.objs.size f cdv))->sp vs H Q E->
   ∃t,PSs (cxOf CX0 P w K mg base N qual (zak st) f cdv A outer s H E).nox (zbo st) t/\t {nx:=λ_ H'=>Q .non H',rt:=Q} (start N vs) H):FnOk P w K mg base CX0 (k+1) f fd ps sp:=by
 obtain⟨oc,od,kV,doc,pm,an,cdv,ct,osl,rfl,lk,hcd⟩:=F.ex
 refine zakw lk hcd S len λA outer s H vs Q E hr hsp=>?_
 obtain⟨t,h,q⟩:=hbody cdv A outer s H vs Q E hr hsp
 exact⟨t,h.nox,q⟩
theorem Fun.binds{x qual:Str}{st:Stmt}{f:Addr}{fd:qAB}{ps:List Str}(F:Fun K x qual st f fd)
  (h:∀(kV doc pm:Value) (an:Option Addr) (cdv ct:Value) (us:List Value),us.length=ps.length->bindArgs (q0 x qual (zcb st) (zbo st) (zak st) .none kV doc pm an cdv ct) ⟨us,[]⟩=pure (ps.zip us)):zjf K fd ps []:=by
 obtain⟨oc,od,kV,doc,pm,an,cdv,ct,osl,rfl,lk,hcd⟩:=F.ex
 exact .all (h kV doc pm an cdv ct)
theorem zfe{x qual:Str}{st:Stmt}{f:Addr}{oc:Value}{od an:Option Addr}{osl:Array (Option Value)}{kV doc pm cdv ct:Value}(l:K.lookup f=some ⟨oc,od,.func (q0 x qual (zcb st) (zbo st) (zak st) .none kV doc pm an cdv ct),osl⟩)
  (c:qAA K cdv qual=true) (k:qm K (.ref f)=true):Fun K x qual st f (q0 x qual (zcb st) (zbo st) (zak st) .none kV doc pm an cdv ct):=⟨⟨oc,od,kV,doc,pm,an,cdv,ct,osl,rfl,l,c⟩,k⟩
end
theorem zih{A:Around}{k:Nat}(hr:Room k A):A.units+1<cLine:=qB0 (Nat.add_le_add_left (by decide:1<=64) _) hr.units
section
variable{X:Cx}
theorem pv(i:Nat){x:Str}{pos:Pos}(hN:X.N[i]?=some x:=by rfl)(hv:visB X.env.scope x=true:=by rfl)(hd:(x==("__debug__":Str))=false:=by decide)
  (hcd:(x==("__classdict__":Str))=false:=by decide):PE X (.Name x pos) (tVar i):=zacc hN (visB.of hv) hd hcd
end
theorem iteF{A B:Prop}(h:B):if false=true then A else B:=by
 rw[if_neg qK]
 exact h
theorem iteT{A B:Prop}(h:A):if true=true then A else B:=by
 rw[if_pos rfl]
 exact h
theorem ite2{c A B:Prop}[Decidable c](h1:c->A)(h2:¬c->B):if c then A else B:=by
 by_cases h:c
 ·rw[if_pos h]
  exact h1 h
 ·rw[if_neg h]
  exact h2 h
noncomputable def Same(H H':Hp):Prop:=∀b o,H b=some o->H' b=some o
theorem Same.refl(H:Hp):Same H H:=λ_ _ h=>h
theorem Same.trans{H H1 H2:Hp}(a:Same H H1)(b:Same H1 H2):Same H H2:=λc o h=>b c o (a c o h)
theorem Same.free{H H':Hp}(e:Same H H'){l:Addr}(h:H' l=Option.none):H l=Option.none:=by
 cases q:H l with
 | none=>rfl
 | some o=>
  rw[e l o q]at h
  cases h
theorem Same.seq{K:qB}{H H':Hp}{a:Addr}{xs:List V}(e:Same H H')(h:SqL K H a xs):SqL K H' a xs:=by
 rcases h with(h|⟨o,h⟩)|h
 ·exact .inl (.inl (e _ _ h))
 ·exact .inl (.inr ⟨o,e _ _ h⟩)
 ·exact .inr h
section
variable{κ:Type}[DecidableEq κ]
theorem zwj:∀{l:List κ}{k:κ},l.Nodup->¬k∈l->(l++[k]).Nodup
 | [],k,_,_=>by simp
 | a::r,k,h,hk=>by
  obtain⟨h1,h2⟩:=qu.mp h
  show(a::(r++[k])).Nodup
  refine qu.mpr ⟨λm=>?_,zwj h2 λm=>hk (qX.mpr (Or.inr m))⟩
  rcases qv.mp m with q|q
  ·exact h1 q
  ·exact hk (qX.mpr (Or.inl (qAl.mp q).symm))
end
end L2
set_option maxHeartbeats 4000000
namespace L2
open PySem PySem.Spec PyProof.Rows
noncomputable def clos(cells:List (Str×Addr)):List (Str×NameKind)->List (Str×Addr)->List (Str×Addr)
 | [],acc=>acc
 | (n,k)::r,acc=>if k==.free then clos cells r ((n,(cells.lookup n).getD 0)::acc)else clos cells r acc
theorem zne{cells:List (Str×Addr)}:∀{names:List (Str×NameKind)}{acc:List (Str×Addr)},(∀y∈names,y.2=.free->∃c,cells.lookup y.1=some c)->∀p∈clos cells names acc,p∈acc\/((p.1,NameKind.free)∈names/\cells.lookup p.1=some p.2)
 | [],acc,_,p,hp=>.inl hp
 | (n,k)::r,acc,h,p,hp=>by
  unfold clos at hp
  have hr:∀y∈r,y.2=.free->∃c,cells.lookup y.1=some c:=λy hy=>h y (qL _ hy)
  split at hp
  ·rename_i hk
   rcases zne hr p hp with q|q
   ·rcases qX.mp q with q|q
    ·subst q
     have hk':k=.free:=by simpa using hk
     subst hk'
     obtain⟨c,hc⟩:=h (n,.free) qf rfl
     exact .inr ⟨qf,by show cells.lookup n=some ((cells.lookup n).getD 0);rw[hc];rfl⟩
    ·exact .inl q
   ·exact .inr ⟨qL _ q.1,q.2⟩
  ·rcases zne hr p hp with q|q
   ·exact .inl q
   ·exact .inr ⟨qL _ q.1,q.2⟩
theorem znf{cells:List (Str×Addr)}:∀{names:List (Str×NameKind)}{acc:List (Str×Addr)},∀p∈acc,p∈clos cells names acc
 | [],acc,p,hp=>hp
 | (n,k)::r,acc,p,hp=>by
  unfold clos
  split
  ·exact znf p (qL _ hp)
  ·exact znf p hp
theorem zng{cells:List (Str×Addr)}{x:Str}:∀{names:List (Str×NameKind)}{acc:List (Str×Addr)},(x,NameKind.free)∈names->∃c,(x,c)∈clos cells names acc
 | [],_,h=>by simp at h
 | (n,k)::r,acc,h=>by
  unfold clos
  rcases qX.mp h with e|h
  ·cases e
   rw[if_pos (show(NameKind.free==NameKind.free)=true by decide)]
   exact⟨_,znf _ qf⟩
  ·split
   ·exact zng h
   ·exact zng h
theorem zii{α:Type}{x:Str}{c:α}:∀{l:List (Str×α)},(x,c)∈l->∃c',l.lookup x=some c'
 | [],h=>by simp at h
 | (k,v)::r,h=>by
  rw[qAV]
  cases hb:x==k with
  | true=>exact⟨v,rfl⟩
  | false=>
   rcases qX.mp h with e|h
   ·cases e;simp at hb
   ·exact zii h
theorem zij{scope:Scope}{env:Env}(h:∀y∈scope.names,y.2=.free->∃c,env.cells.lookup y.1=some c):closureFor scope env=pure (clos env.cells scope.names []):=by
 unfold closureFor
 have key:∀(names:List (Str×NameKind))(acc:List (Str×Addr)),(∀y∈names,y.2=.free->∃c,env.cells.lookup y.1=some c)->
   (forIn names acc (λ(x:Str×NameKind) (r:List (Str×Addr))=>(if(x.2==.free)=true then(do let a <- cellOf env x.1;pure (ForInStep.yield ((x.1,a)::r)))else pure (ForInStep.yield r):Sem (ForInStep (List (Str×Addr))))))=pure (clos env.cells names acc):=by
  intro names
  induction names with
  | nil=>intro acc _;rfl
  | cons y r ih=>
   intro acc hy
   obtain⟨n,k⟩:=y
   have hr:=λy (hm:y∈r)=>hy y (qL _ hm)
   rw[List.forIn_cons]
   unfold clos
   cases hk:(k==NameKind.free)with
   | true=>
    have hk':k=.free:=by simpa using hk
    subst hk'
    obtain⟨c,hc⟩:=hy (n,.free) qf rfl
    have e1:cellOf env n=pure c:=by unfold cellOf;rw[hc]
    simp only[if_true]
    have hc':env.cells.lookup n=some c:=hc
    rw[e1,hc']
    simp only[pure_bind,Option.getD_some]
    exact ih _ hr
   | false=>
    simp only[qA2,if_false,pure_bind]
    exact ih _ hr
 simpa using key scope.names [] h
theorem zeh:∀(names:List (Str×NameKind))(n:Nat)(acc:List (Str×Addr)),cellsFrom n names acc=cellsFrom n names []++acc
 | [],_,_=>rfl
 | (name,kind)::r,n,acc=>by
  unfold cellsFrom
  split
  ·rw[zeh r (n+1) ((name,n)::acc),zeh r (n+1) [(name,n)],qB4];rfl
  ·exact zeh r n acc
theorem zei{x:Str}{c:Addr}:∀(names:List (Str×NameKind))(n:Nat)(acc:List (Str×Addr)),(x,c)∈cellsFrom n names acc->(x,c)∈acc\/(x,NameKind.cell)∈names
 | [],_,_,h=>.inl h
 | (name,kind)::r,n,acc,h=>by
  unfold cellsFrom at h
  split at h
  ·rename_i hk
   have hk':kind=.cell:=by simpa using hk
   subst hk'
   rcases zei r _ _ h with q|q
   ·rcases qX.mp q with q|q
    ·cases q;exact .inr qf
    ·exact .inl q
   ·exact .inr (qL _ q)
  ·rcases zei r _ _ h with q|q
   ·exact .inl q
   ·exact .inr (qL _ q)
theorem zhd{α:Type}{x:Str}:∀{l r:List (Str×α)},(l++r).lookup x=(l.lookup x).or (r.lookup x)
 | [],_=>by simp
 | (k,v)::l,r=>by
  rw[List.cons_append,qAV,qAV]
  cases x==k with
  | true=>rfl
  | false=>exact zhd
theorem zdu{env:Env}{x:Str}{k':NameKind}:∀{names:List (Str×NameKind)},
  (names.map λ(n,k)=>if(k==NameKind.free&&env.scope.kind==.function&&env.kindOf n==some .cell)then(n,NameKind.cell)else(n,k)).lookup x=some k'->
  ∃k,names.lookup x=some k/\(k'=k\/(k=.free/\k'=.cell))
 | [],h=>by simp at h
 | (n,k)::r,h=>by
  rw[qAf]at h
  by_cases hc:(k==NameKind.free&&env.scope.kind==.function&&env.kindOf n==some .cell)=true
  ·simp only[hc,if_true]at h
   rw[qAV]at h ⊢
   cases hx:x==n with
   | true=>
    rw[hx]at h
    have hk:k=.free:=by simp at hc;exact hc.1.1
    exact⟨k,rfl,.inr ⟨hk,(qq h).symm⟩⟩
   | false=>rw[hx]at h;exact zdu h
  ·simp only[hc,qA2,if_false]at h
   rw[qAV]at h ⊢
   cases hx:x==n with
   | true=>rw[hx]at h;exact⟨k,rfl,.inl (qq h).symm⟩
   | false=>rw[hx]at h;exact zdu h
theorem zgg{env:Env}{x:Str}:∀{names:List (Str×NameKind)},names.lookup x=some .free->
  ((names.map λ(n,k)=>if(k==NameKind.free&&env.scope.kind==.function&&env.kindOf n==some .cell)then(n,NameKind.cell)else(n,k)).lookup x=some .free\/
   (names.map λ(n,k)=>if(k==NameKind.free&&env.scope.kind==.function&&env.kindOf n==some .cell)then(n,NameKind.cell)else(n,k)).lookup x=some .cell)
 | [],h=>by simp at h
 | (n,k)::r,h=>by
  rw[qAf]
  rw[qAV]at h
  by_cases hc:(k==NameKind.free&&env.scope.kind==.function&&env.kindOf n==some .cell)=true
  ·simp only[hc,if_true]
   rw[qAV]
   cases hx:x==n with
   | true=>exact .inr rfl
   | false=>rw[hx]at h;exact zgg h
  ·simp only[hc,qA2,if_false]
   rw[qAV]
   cases hx:x==n with
   | true=>rw[hx]at h;exact .inl h
   | false=>rw[hx]at h;exact zgg h
theorem zur{M:Model}{A:Around}{E:Value->Shared->Prop}{s:Shared}{scope:Scope}{globals:Addr}{cl:List (Str×Addr)}{qual:Str}{env:Env}{Q:Env->Shared->Prop}
  (hQ:∀h',(∀b o,s.heap.get? b=some o->h'.get? b=some o)->h'.Ns s.heap.objs.size (λ_=>none)->(∀n c,(n,c)∈cellsFrom (s.heap.objs.size+1) scope.names []->h'.IsCell c none/\s.heap.objs.size+1<=c)->
   ((cellsFrom (s.heap.objs.size+1) scope.names []).Pairwise λx y=>x.2≠y.2)->
   Q {scope:=scope,locals:=s.heap.objs.size,globals:=globals,cells:=cellsFrom (s.heap.objs.size+1) scope.names []++cl,qual:=qual,func:=none,code:=env.code,frame:=env.frame,builtins:=env.builtins} {s with heap:=h'}) :
  wpAny M A (newFunctionEnv scope globals cl [] qual none .none (some env)) Q E s:=by
 simp only[newFunctionEnv,Option.isSome_some,if_true]
 refine qH (wpAny_alloc ?_)
 refine qH (wpAny_layCells _ (λname kind cells=>by cases hkc:kind==NameKind.cell<;>simp[hkc]) _ _ _ _ ?_)
 have ok:=cellsFrom_ok scope.names (s.heap.push {cls:=.type "dict",data:=.dict #[]}) (s.heap.objs.size+1) [] ⟨λ_ _ hm=>(nomatch hm),List.Pairwise.nil⟩ (by rw[qBP];exact qQ _)
 rw[qBP]at ok
 rw[show({s with heap:=s.heap.push {cls:=.type "dict",data:=.dict #[]}}:Shared).heap.objs.size=s.heap.objs.size+1 from qBP ..]
 rw[zeh]
 refine qH ?_
 refine qc (qc ?_)
 exact hQ _ (λb o e=>pushCells_keeps _ _ b o (qE _ e)) ((Heap.Ns.new s.heap (.type "dict")).keeps (pushCells_keeps _ _)) ok.empty ok.apart
noncomputable def cxComp(X:Cx)(scope:Scope)(N' own:List Str)(cl:List (Str×Addr))(C:Addr)(s:Shared)(H:Hp)(fp:List Addr):Cx:=
 {X with N:=N',s₀:=s,H₀:=H,env:=compEnvC scope cl C X.env,outer:=X.stack,stack:=X.stack,ex:=fp,fn:=λx=>own.contains x,pn:=[],xe:=λ_ _=>False}
structure CompOk(X:Cx)(scope:Scope)(N' own:List Str)(fr:List Nat):Prop where
 kind:scope.kind=.function
 names:∀y∈scope.names,scope.names.lookup y.1=some y.2
 up:∀y∈scope.names,y.2=.free->(X.env.kindOf y.1=some .cell\/X.env.kindOf y.1=some .free)
 nm:N'=own++fr.map (λj=>X.N.getD j Str.empty)
 fr:∀j∈fr,j<X.N.length/\scope.names.lookup (X.N.getD j Str.empty)=some .free
 own:∀x∈own,scope.names.lookup x=some .local\/scope.names.lookup x=some .cell
noncomputable def tau(own:List Str)(fr:List Nat)(σ:St):St:=own.map (λ_=>none)++fr.map (λj=>σ.getD j none)
section
variable{X:Cx}{pins:List (Addr×Obj)}{σ:St}{H:Hp}{s:Shared}{scope:Scope}{N' own:List Str}{fr:List Nat}
theorem zjg(c:CompOk X scope N' own fr)(ok:X.Ok):∀y∈scope.names,y.2=.free->∃a,X.env.cells.lookup y.1=some a:=λy hy e=>ok.has y.1 (c.up y hy e)
theorem zaak{fp:List Addr}{h':Heap}(c:CompOk X scope N' own fr)(I:Inv X pins σ H s)
  (hf:∀b∈fp,FpOk X pins H b)(ho:∀b∈fp,∃o,s.heap.get? b=some o/\∀v,o.data≠.cell v)
  (keep:∀b o,s.heap.get? b=some o->h'.get? b=some o)(ns:h'.Ns s.heap.objs.size (λ_=>none))
  (cells:∀n c,(n,c)∈cellsFrom (s.heap.objs.size+1) scope.names []->h'.IsCell c none/\s.heap.objs.size+1<=c)
  (apart:(cellsFrom (s.heap.objs.size+1) scope.names []).Pairwise λx y=>x.2≠y.2) :
  Inv (cxComp X scope N' own (cellsFrom (s.heap.objs.size+1) scope.names []++clos X.env.cells scope.names []) s.heap.objs.size s H fp) [] (tau own fr σ) H {s with heap:=h'}:=by
 have found:=zjg c I.ok
 have clm:∀x a,(x,a)∈clos X.env.cells scope.names []->(x,NameKind.free)∈scope.names/\X.env.cells.lookup x=some a:=λx a hm=>by
  rcases zne found (x,a) hm with q|q
  ·simp at q
  ·exact q
 have look:∀x a,(cellsFrom (s.heap.objs.size+1) scope.names []++clos X.env.cells scope.names []).lookup x=some a->
   ((x,a)∈cellsFrom (s.heap.objs.size+1) scope.names []/\(x,NameKind.cell)∈scope.names)\/((x,NameKind.free)∈scope.names/\X.env.cells.lookup x=some a):=λx a e=>by
  rw[zhd]at e
  cases q:(cellsFrom (s.heap.objs.size+1) scope.names []).lookup x with
  | some b=>
   rw[q]at e
   cases e
   have hm:=qz q
   rcases zei _ _ _ hm with z|z
   ·simp at z
   ·exact .inl ⟨hm,z⟩
  | none=>
   rw[q]at e
   exact .inr (clm x a (qz e))
 have lookF:∀x a,(x,NameKind.free)∈scope.names->X.env.cells.lookup x=some a->(cellsFrom (s.heap.objs.size+1) scope.names []++clos X.env.cells scope.names []).lookup x=some a:=λx a hx e=>by
  rw[zhd]
  have q:(cellsFrom (s.heap.objs.size+1) scope.names []).lookup x=none:=by
   cases q:(cellsFrom (s.heap.objs.size+1) scope.names []).lookup x with
   | none=>rfl
   | some b=>
    rcases zei _ _ _ (qz q)with z|z
    ·simp at z
    ·have h1:=c.names _ hx
     have h2:=c.names _ z
     rw[h1]at h2
     cases h2
  rw[q]
  obtain⟨d,hd⟩:=zng (cells:=X.env.cells) (acc:=[]) hx
  obtain⟨d',hd'⟩:=zii hd
  have:=(clm x d' (qz hd')).2
  rw[e]at this
  cases this
  exact hd'
 have below:∀b o,s.heap.get? b=some o->b<s.heap.objs.size:=λb o e=>qO e
 have cold:∀x a,X.env.cells.lookup x=some a->a<s.heap.objs.size:=λx a e=>let⟨v,q⟩:=I.cell x a e;q.lt
 refine⟨⟨I.ok.mod,c.kind,I.ok.glob,I.ok.blt,qQ _,?inj,?has,?cab,I.ok.hd,I.ok.frames,.inl rfl,?exf,I.bs,qAK I.ok.bsz I.sz,?noex,?exfs,I.stack,I.stkFree⟩,
  rfl,I.bare,Un.kept keep,⟨_,ns,?loc⟩,?cell,I.hok.fresh (qQ _),?freeC,?pin,I.hok.kept keep,?len⟩
 case inj=>
  intro x y a h1 h2
  rcases look x a h1 with⟨m1,k1⟩|⟨k1,e1⟩<;>rcases look y a h2 with⟨m2,k2⟩|⟨k2,e2⟩
  ·exact name_of_addr apart m1 m2
  ·exact absurd (qe (cold y a e2) (qB5 (cells x a m1).2)) (qAh _)
  ·exact absurd (qe (cold x a e1) (qB5 (cells y a m2).2)) (qAh _)
  ·exact I.ok.inj x y a e1 e2
 case has=>
  intro x hx
  have hx':(∃k,scope.names.lookup x=some k/\(k=.cell\/k=.free)):=by
   rcases hx with hx|hx
   ·obtain⟨k,e,q⟩:=zdu (env:=X.env) (names:=scope.names) hx
    rcases q with q|⟨q,_⟩
    ·exact⟨k,e,.inl q.symm⟩
    ·exact⟨k,e,.inr q⟩
   ·obtain⟨k,e,q⟩:=zdu (env:=X.env) (names:=scope.names) hx
    rcases q with q|⟨q,_⟩
    ·exact⟨k,e,.inr q.symm⟩
    ·exact⟨k,e,.inr q⟩
  obtain⟨k,e,q⟩:=hx'
  show ∃a,(cellsFrom (s.heap.objs.size+1) scope.names []++clos X.env.cells scope.names []).lookup x=some a
  rcases q with rfl|rfl
  ·obtain⟨a,ha⟩:=zmz (n:=s.heap.objs.size+1) e
   exact⟨a,by rw[zhd,ha];rfl⟩
  ·obtain⟨a,ha⟩:=found _ (qz e) rfl
   exact⟨a,lookF x a (qz e) ha⟩
 case cab=>
  intro x a hx e
  have hx:own.contains x=true:=hx
  have hx':x∈own:=by simpa using hx
  rcases look x a e with⟨m1,_⟩|⟨k1,_⟩
  ·have:=(cells x a m1).2
   show s.heap.objs.size<=a
   omega
  ·have h1:=c.names _ k1
   rcases c.own x hx' with h2|h2
   ·rw[h1]at h2;cases h2
   ·rw[h1]at h2;cases h2
 case exf=>
  intro b hb
  obtain⟨o,e,d⟩:=ho b hb
  refine⟨qx (below b o e),λx a q z=>?_⟩
  subst z
  rcases look x a q with⟨m1,_⟩|⟨k1,e1⟩
  ·exact absurd (qe (below a o e) (qB5 (cells x a m1).2)) (qAh _)
  ·obtain⟨v,o',e',d'⟩:=I.cell x a e1
   rw[e]at e'
   cases e'
   exact d v d'
 case noex=>
  intro b o e hb
  rcases(hf b hb).2.2.2.1 with z|z
  ·exact I.ok.noex b o e z
  ·exact absurd (qe (qe (qO e) I.ok.bsz) z) (qAh _)
 case exfs=>
  intro b hb z
  rcases qX.mp (I.stkSub b z)with q|q
  ·exact(hf b hb).2.1 q
  ·exact(hf b hb).2.2.1 q
 case loc=>
  intro i x v h1 h2 h3
  have h1:N'[i]?=some x:=h1
  rw[c.nm]at h1
  unfold tau at h2
  by_cases hi:i<own.length
  ·rw[qW (by simpa using hi),qT]at h2
   cases q:own[i]? with
   | none=>rw[q]at h2;cases h2
   | some z=>rw[q]at h2;cases h2
  ·rw[qP (by simpa using hi),qT,qD]at h2
   rw[qP (by simpa using hi),qT]at h1
   cases q:fr[i - own.length]? with
   | none=>rw[q]at h2;cases h2
   | some j=>
    rw[q]at h1 h2
    have e1:X.N.getD j Str.empty=x:=qq h1
    have e2:σ.getD j none=some v:=qq h2
    obtain⟨hj,hfree⟩:=c.fr j (qS q)
    rw[e1]at hfree
    have hNj:X.N[j]?=some x:=by
     rw[<- e1,qAF,qF hj];rfl
    have hσj:σ[j]?=some (some v):=by
     rw[qAF]at e2
     cases z:σ[j]? with
     | none=>rw[z]at e2;cases e2
     | some w=>rw[z]at e2;rw[show w=some v from e2]
    have hmem:(x,NameKind.free)∈scope.names:=qz hfree
    have hup:=c.up _ hmem rfl
    obtain⟨m,hn,hl⟩:=I.loc
    obtain⟨u,ru,lk⟩:=hl j x v hNj hσj (by rcases hup with z|z;exact .inr (.inl z);exact .inr (.inr z))
    refine⟨u,ru,.inr ⟨?_,?_⟩⟩
    ·rcases zgg (env:=X.env) (names:=scope.names) hfree with z|z
     ·exact .inr z
     ·exact .inl z
    ·rcases lk with⟨k1,_⟩|⟨_,a,ha,hc⟩
     ·rcases hup with z|z
      ·rw[show X.env.kindOf x=some .cell from z]at k1;cases k1
      ·rw[show X.env.kindOf x=some .free from z]at k1;cases k1
     ·exact⟨a,lookF x a hmem ha,hc.keeps keep⟩
 case cell=>
  intro x a e
  rcases look x a e with⟨m1,_⟩|⟨k1,e1⟩
  ·exact⟨_,(cells x a m1).1⟩
  ·obtain⟨v,q⟩:=I.cell x a e1
   exact⟨v,q.keeps keep⟩
 case freeC=>
  intro x a e
  rcases look x a e with⟨m1,_⟩|⟨k1,e1⟩
  ·exact I.hok.fresh (by have:=(cells x a m1).2;omega)
  ·exact I.freeC x a e1
 case pin=>intro p hp;exact absurd (show p∈([]:List (Addr×Obj))from hp) (by simp)
 case len=>
  show(tau own fr σ).length=N'.length
  rw[c.nm];unfold tau;simp
end
noncomputable abbrev TM:=St->Hp->(St->Hp->Prop)->Prop
noncomputable def PM(X:Cx)(act:Sem Unit)(t:TM):Prop:=
 ∀(pins:List (Addr×Obj))(s:Shared)(σ:St)(H:Hp)(Q:St->Hp->Prop),Inv X pins σ H s->t σ H Q->wpAny (model X.prog X.w) X.A act (λ_ s'=>∃σ' H',Inv X pins σ' H' s'/\Q σ' H') X.xe s
noncomputable def PF(X:Cx)(ifs:List Expr)(t:TT):Prop:=
 ∀(pins:List (Addr×Obj))(s:Shared)(σ:St)(H:Hp)(Q:Bool->Hp->Prop),Inv X pins σ H s->t σ H Q->
  wpAny (model X.prog X.w) X.A (forIn ifs true λc r=>if r=true then do let ok <- isTrue c X.env (eval c X.env);pure (ForInStep.yield ok)else pure (ForInStep.yield r)) (TP X pins σ Q) X.xe s
noncomputable def tAll:TT:=λ_ H Q=>Q true H
section
variable{X:Cx}
theorem zaij:PF X [] tAll:=λ_ s σ H Q I h=>wpAny_tests_nil ⟨H,I,h⟩
noncomputable def zaeg(p:Addr)(te:TE):TM:=λσ H Q=>te σ H λv H1=>∃ys,H1 p=some (.lst ys)/\ys.length<qa/\Q σ (upd H1 p (.lst (ys++[v])))
theorem zwk{elt:Expr}{te:TE}{p:Addr}(h:PE X elt te):PM X (do let _ <- call (.builtin "list.append") [.ref p,<- eval elt X.env]) (zaeg p te):=by
 intro pins s σ H Q I q
 refine qH (thn (h pins s σ H _ I q) λu s1 ⟨v,H1,I1,r,ys,hp,hz,q1⟩=>?_)
 refine qH (thn (zbq pins s1 σ H1 (.ref p) [v] (.ref p) [u] (λ_ H2=>Q σ H2) I1 rfl (.cons r .nil) ⟨p,ys,v,rfl,rfl,hp,hz,q1⟩) λ_ s2 ⟨_,H2,I2,_,q2⟩=>?_)
 exact qc ⟨σ,H2,I2,q2⟩
noncomputable def zaeh(J:It)(g:TG)(tt:TT)(tm:TM):TM:=λσ H Q=>∃W:Nat->Nat->St->Hp->Prop,(∃m,W 0 m σ H)/\∀i m σ H,W i m σ H->
 (J.stop i H/\Q σ H)\/(J.go i H/\∃N:St->Hp->Prop,(∀σ' H',N σ' H'->∃m',m'<m/\W (i+1) m' σ' H')/\∀x H',J.yld i H x H'->g x σ H' λσ2 H2=>tt σ2 H2 λb H3=>if b=true then tm σ2 H3 N else N σ2 H3)
theorem zrz{elt0:Expr}{gens:List Comprehension}{scope:Scope}{cpos:Pos}{depth:Nat}{target:Expr}{ifs:List Expr}{emit:Sem Unit}{acc:Value}{ip:Pos}{it:Addr}{fp:List Addr}{tn:Nat->Heap->Prop}{J:It}{g:TG}{tt:TT}{tm:TM}{pins:List (Addr×Obj)}{σ:St}{H:Hp}{s:Shared}{Q:St->Hp->Prop}
  (hx:X.xe=λ_ _=>False)(hc:X.calm=true)
  (eq:compTurn (.ListComp elt0 gens scope cpos) depth (.ref it) acc X.env=(do
   standAt ip
   match <- pyNext (.ref it)with
   | none=>pure (.done .next)
   | some v=>
    letOwnedTupleGo target (.ref it) v
    assign target X.env v
    let mut ok:=true
    for c in ifs do
     if ok then ok <- isTrue c X.env (eval c X.env)
    if ok then emit
    again (.compLoop (.ListComp elt0 gens scope cpos) depth (.ref it) acc X.env)))
  (T:Turn X.prog X.w X.K target J fp it tn)(hg:PG X target g)(ht:PF X ifs tt)(hm:PM X emit tm)
  (I:Inv X pins σ H s)(st:tn 0 s.heap)(hf:∀b∈fp,FpOk X pins H b)(h:zaeh J g tt tm σ H Q) :
  codeAny (model X.prog X.w) X.A (.compLoop (.ListComp elt0 gens scope cpos) depth (.ref it) acc X.env) (λr s'=>r=.ok .next/\∃σ' H',Inv X pins σ' H' s'/\Q σ' H') s:=by
 obtain⟨W,⟨m0,w0⟩,turn⟩:=h
 have stat:∀{H':Hp},(∀b∈fp,H' b=none)->∀b∈fp,FpOk X pins H' b:=λhn b hb=>⟨hn b hb,(hf b hb).2⟩
 have xe:∀{α:Type}{m:Sem α}{Q':α->Shared->Prop}{E:Value->Shared->Prop}{s:Shared},wpAny (model X.prog X.w) X.A m Q' X.xe s->wpAny (model X.prog X.w) X.A m Q' E s:=λq=>qAu q (λ_ _ z=>z) λ_ _ z=>by rw[hx]at z;exact z.elim
 refine codeAny_loop rfl (λn s'=>∃i σ' H',Inv X pins σ' H' s'/\tn i s'.heap/\(∀b∈fp,H' b=none)/\W i n σ' H') ?_ m0 ⟨0,σ,H,I,st,λb hb=>(hf b hb).1,w0⟩
 rintro n s3 ⟨i,σ3,H3,I3,st3,fr3,w3⟩
 show wpAny _ X.A ((compTurn (.ListComp elt0 gens scope cpos) depth (.ref it) acc X.env).onRaise (λx=>do noteFrame x X.env;theTreesLotGoes x)) _ _ s3
 refine wpAny_noted ?_
 rw[eq]
 refine qH (qCB (qH ?_))
 rcases turn i n σ3 H3 w3 with⟨stop,qn⟩|⟨go,N,hN,step⟩
 ·refine thn (T.done X rfl rfl rfl hc i pins s3 σ3 H3 _ I3 (stat fr3) st3 stop) λr s4 ⟨hr,I4⟩=>?_
  subst hr
  exact qc ⟨rfl,σ3,H3,I4,qn⟩
 ·refine thn (T.item X rfl rfl rfl hc i pins s3 σ3 H3 _ I3 (stat fr3) st3 go) λr s4 ⟨u,hr,h4⟩=>?_
  subst hr
  refine qH (thn h4 λ_ s5 ⟨x,H5,I5,r5,y5,st5,fr5⟩=>?_)
  have I5':=I5.pinned (stat fr5) (T.obj _ _ st5)
  refine qH (xe (thn (hg _ s5 σ3 H5 x u _ I5' r5 (step x H5 y5)) λ_ s6 ⟨σ6,H6,I6,q6⟩=>?_))
  have again:∀{σ7:St}{H7:Hp}{s7:Shared},Inv X (pins++zom fp s5.heap) σ7 H7 s7->N σ7 H7->∃m,m<n/\∃i σ' H',Inv X pins σ' H' s7/\tn i s7.heap/\(∀b∈fp,H' b=none)/\W i m σ' H':=λ{σ7 H7 s7} I7 n7=>by
   obtain⟨m',hm,w7⟩:=hN σ7 H7 n7
   refine⟨m',hm,i+1,σ7,H7,I7.unpinned,T.keep _ _ _ st5 λb hb o e=>(I7.pin (b,o) (qg _ (qg _ (zhc hb e)))).1,λb hb=>?_,w7⟩
   obtain⟨o,e,d⟩:=T.obj _ _ st5 b hb
   exact(I7.pin (b,o) (qg _ (qg _ (zhc hb e)))).2.1
  refine qH (xe (thn (ht _ s6 σ6 H6 _ I6 q6) λok s7 ⟨H7,I7,q7⟩=>?_))
  cases ok with
  | false=>
   rw[if_neg (by decide)]at q7
   exact qc ⟨rfl,again I7 q7⟩
  | true=>
   rw[if_pos rfl]at q7
   refine qH (xe (thn (hm _ s7 σ6 H7 _ I7 q7) λ_ s8 ⟨σ8,H8,I8,q8⟩=>?_))
   exact qc ⟨rfl,again I8 q8⟩
end
section
variable{X:Cx}{pins:List (Addr×Obj)}{σ:St}{H:Hp}{s:Shared}{scope:Scope}{N' own:List Str}{fr:List Nat}
theorem zmh{elt0 target iter:Expr}{ifs:List Expr}{rest:List Comprehension}{cpos:Pos}{g:TG}{tt:TT}{tm:Addr->TM}{emit:Value->Env->Sem Unit}{it:Addr}{fp:List Addr}{tn:Nat->Heap->Prop}{J:It}{Q:VK}{E:Value->Shared->Prop}{RR:Value->Addr->Result->Shared->Prop}
  (c:CompOk X scope N' own fr)(hc:X.calm=true)
  (eq:∀it acc env,compTurn (.ListComp elt0 (⟨target,iter,ifs,0⟩::rest) scope cpos) 0 it acc env=(do
   standAt iter.pos
   match <- pyNext it with
   | none=>pure (.done .next)
   | some v=>
    letOwnedTupleGo target it v
    assign target env v
    let mut ok:=true
    for c in ifs do
     if ok then ok <- isTrue c env (eval c env)
    if ok then emit acc env
    again (.compLoop (.ListComp elt0 (⟨target,iter,ifs,0⟩::rest) scope cpos) 0 it acc env)))
  (T:Turn X.prog X.w X.K target J fp it tn)
  (hb:∀(cl:List (Str×Addr)) (C:Addr) (s:Shared) (H:Hp) (fp:List Addr) (p:Addr),PG (cxComp X scope N' own cl C s H fp) target g/\PF (cxComp X scope N' own cl C s H fp) ifs tt/\PM (cxComp X scope N' own cl C s H fp) (emit (.ref p) (compEnvC scope cl C X.env)) (tm p))
  (I:Inv X pins σ H s)(st:tn 0 s.heap)(hf:∀b∈fp,FpOk X pins H b)
  (h:∀p,H p=none->zaeh J g tt (tm p) (tau own fr σ) (upd H p (.lst [])) (λ_ H'=>Q (.ref p) H'))
  (hRR:∀(p C:Addr) (m:Str->Option Value) (H':Hp) (s':Shared),Inv X pins σ H' s'->s'.heap.Ns C m->FpOk X pins H' C->Q (.ref p) H'->RR (.ref p) C (.ok .next) s') :
  wpAny (model X.prog X.w) X.A (newList []) (λacc s₃=>wpAny (model X.prog X.w) X.A (newFunctionEnv scope X.env.globals (clos X.env.cells scope.names []) [] X.env.qual none .none (some X.env)) (λcenv s₄=>
   codeAny (model X.prog X.w) X.A (.compStart (.ListComp elt0 (⟨target,iter,ifs,0⟩::rest) scope cpos) 0 (.ref it) acc {cenv with scope:=relabel scope X.env}) (RR acc cenv.locals) s₄) E s₃) E s:=by
 refine qBd ?_
 have I3:Inv X pins σ (upd H s.heap.objs.size (.lst [])) {s with heap:=s.heap.push {cls:=.type "list",dict:=none,data:=.seq ([]:List Value).toArray}}:=I.lnew (t':=s.toks) .nil (qAR _)
 have hn0:H s.heap.objs.size=none:=I.hok.fresh (qQ _)
 generalize e3:({s with heap:=s.heap.push {cls:=.type "list",dict:=none,data:=.seq ([]:List Value).toArray}}:Shared)=s3 at I3 ⊢
 have k3:∀b o,s.heap.get? b=some o->s3.heap.get? b=some o:=λb o e=>by rw[<- e3];exact qE _ e
 have hne:∀b∈fp,b≠s.heap.objs.size:=λb hb=>by
  obtain⟨o,e,_⟩:=T.obj _ _ st b hb
  exact qx (qO e)
 have hf3:∀b∈fp,FpOk X pins (upd H s.heap.objs.size (.lst [])) b:=λb hb=>⟨by rw[zaq (hne b hb)];exact(hf b hb).1,(hf b hb).2⟩
 have st3:tn 0 s3.heap:=T.keep _ _ _ st λb _ o e=>k3 b o e
 refine zur λh' keep ns cells apart=>?_
 have I4:=zaak c I3 hf3 (T.obj _ _ st3) keep ns cells apart
 have st4:tn 0 h':=T.keep _ _ _ st3 λb _ o e=>keep b o e
 obtain⟨hg,ht,hm⟩:=hb (cellsFrom (s3.heap.objs.size+1) scope.names []++clos X.env.cells scope.names []) s3.heap.objs.size s3 (upd H s.heap.objs.size (.lst [])) fp s.heap.objs.size
 have hf4:∀b∈fp,FpOk (cxComp X scope N' own (cellsFrom (s3.heap.objs.size+1) scope.names []++clos X.env.cells scope.names []) s3.heap.objs.size s3 (upd H s.heap.objs.size (.lst [])) fp) [] (upd H s.heap.objs.size (.lst [])) b:=λb hb=>
  ⟨(hf3 b hb).1,(I4.ok.exf b hb).1,I4.ok.exfs b hb,.inl hb,(I4.ok.exf b hb).2,λp hp=>absurd (show p∈([]:List (Addr×Obj))from hp) (by simp)⟩
 have loop:codeAny (model X.prog X.w) X.A (.compLoop (.ListComp elt0 (⟨target,iter,ifs,0⟩::rest) scope cpos) 0 (.ref it) (.ref s.heap.objs.size) (compEnvC scope (cellsFrom (s3.heap.objs.size+1) scope.names []++clos X.env.cells scope.names []) s3.heap.objs.size X.env)) (RR (.ref s.heap.objs.size) s3.heap.objs.size) {s3 with heap:=h'}:=by
  refine qAj (zrz (X:=cxComp X scope N' own (cellsFrom (s3.heap.objs.size+1) scope.names []++clos X.env.cells scope.names []) s3.heap.objs.size s3 (upd H s.heap.objs.size (.lst [])) fp) (pins:=[]) rfl hc (eq _ _ _) T hg ht hm I4 st4 hf4 (h _ hn0)) λr s5 hr=>?_
  obtain⟨rfl,σ5,H5,I5,q5⟩:=hr
  obtain⟨m,hn,_⟩:=id I5.loc
  have u5:Un (frs X.stack) fp (upd H s.heap.objs.size (.lst [])) H5 s3.heap s5.heap:=I5.base
  have hok5:HOk X.prog X.w H5 s5.heap:=I5.hok
  have os5:s5.os=s3.os:=I5.os
  have bare5:=I5.bare
  have free5:H5 s3.heap.objs.size=none:=I5.free
  have hn:s5.heap.Ns s3.heap.objs.size m:=hn
  clear I5
  obtain⟨hh,gg,dd,tk,os'⟩:=s5
  obtain rfl:os'=s3.os:=os5
  have I6:Inv X pins σ H5 {s3 with heap:=hh,gens:=gg,drawn:=dd,toks:=tk}:=I3.call (ch:=fp) u5 hok5 bare5 λb hb=>⟨(hf3 b hb).2.2.2.1,(hf3 b hb).2.1,(hf3 b hb).2.2.2.2.1,(hf3 b hb).2.2.2.2.2⟩
  exact hRR _ _ m H5 _ I6 hn (I3.fpOk (qQ _) free5) q5
 exact codeAny_compStart_list loop (T.self _ 0 _ _ _ st4 loop)
noncomputable def zaei(wi:TI)(g:TG)(tt:TT)(tm:Addr->TM)(own:List Str)(fr:List Nat):TE:=λσ H Q=>wi σ H λJ H1=>∀p,H1 p=none->zaeh J g tt (tm p) (tau own fr σ) (upd H1 p (.lst [])) (λ_ H'=>Q (.ref p) H')
theorem zaal{elt0 target iter:Expr}{ifs:List Expr}{rest:List Comprehension}{cpos:Pos}{wi:TI}{g:TG}{tt:TT}{tm:Addr->TM}{emit:Value->Env->Sem Unit}(c:CompOk X scope N' own fr)(hc:X.calm=true)
  (eq:∀it acc env,compTurn (.ListComp elt0 (⟨target,iter,ifs,0⟩::rest) scope cpos) 0 it acc env=(do
   standAt iter.pos
   match <- pyNext it with
   | none=>pure (.done .next)
   | some v=>
    letOwnedTupleGo target it v
    assign target env v
    let mut ok:=true
    for c in ifs do
     if ok then ok <- isTrue c env (eval c env)
    if ok then emit acc env
    again (.compLoop (.ListComp elt0 (⟨target,iter,ifs,0⟩::rest) scope cpos) 0 it acc env)))
  (hi:PI X target iter wi)
  (hb:∀(cl:List (Str×Addr)) (C:Addr) (s:Shared) (H:Hp) (fp:List Addr) (p:Addr),PG (cxComp X scope N' own cl C s H fp) target g/\PF (cxComp X scope N' own cl C s H fp) ifs tt/\PM (cxComp X scope N' own cl C s H fp) (emit (.ref p) (compEnvC scope cl C X.env)) (tm p))
  (hs:∀x,foldedSetIterable iter X.env x=pure x:=by intro _;rfl) :
  PE X (.ListComp elt0 (⟨target,iter,ifs,0⟩::rest) scope cpos) (zaei wi g tt tm own fr):=by
 intro pins s σ H Q I h
 rw[eval_ListComp]
 refine qCf (use:=none) rfl hs (zij (zjg c I.ok)) c.kind (λy hy e=>(c.names y hy).trans (by rw[e])) ?_
 refine thn (hi pins s σ H _ I h) λv s1 h1=>thn h1 λitv s2 h2=>?_
 obtain⟨it,fp,tn,J,H2,e,I2,T,st2,f2,q⟩:=h2
 subst e
 refine zmh (Q:=Q) c hc eq T hb I2 st2 f2 q λp C m H' s' I' hn hC q'=>?_
 exact⟨m,hn,λh' sb=>⟨.ref p,H',I'.turned (t':=s'.toks) (λb o hb e=>(sb.2 b hb).trans e) hC.1 hC.2.1 hC.2.2.2.1 hC.2.2.2.2.1 hC.2.2.2.2.2,rfl,q'⟩⟩
noncomputable def zaik(wi:TI)(g:TG)(tt:TT)(tm:Addr->TM)(own:List Str)(fr:List Nat)(i:Nat):TS:=λD σ H=>zaei wi g tt tm own fr σ H λv H'=>D.nx (σ.set i (some v)) H'
theorem zaam{elt0 target iter:Expr}{ifs:List Expr}{rest:List Comprehension}{cpos spos py:Pos}{wi:TI}{g:TG}{tt:TT}{tm:Addr->TM}{emit:Value->Env->Sem Unit}{i:Nat}{y:Str}(c:CompOk X scope N' own fr)(hc:X.calm=true)
  (eq:∀it acc env,compTurn (.ListComp elt0 (⟨target,iter,ifs,0⟩::rest) scope cpos) 0 it acc env=(do
   standAt iter.pos
   match <- pyNext it with
   | none=>pure (.done .next)
   | some v=>
    letOwnedTupleGo target it v
    assign target env v
    let mut ok:=true
    for c in ifs do
     if ok then ok <- isTrue c env (eval c env)
    if ok then emit acc env
    again (.compLoop (.ListComp elt0 (⟨target,iter,ifs,0⟩::rest) scope cpos) 0 it acc env)))
  (hi:PI X target iter wi)
  (hb:∀(cl:List (Str×Addr)) (C:Addr) (s:Shared) (H:Hp) (fp:List Addr) (p:Addr),PG (cxComp X scope N' own cl C s H fp) target g/\PF (cxComp X scope N' own cl C s H fp) ifs tt/\PM (cxComp X scope N' own cl C s H fp) (emit (.ref p) (compEnvC scope cl C X.env)) (tm p))
  (hsw:swapsWith (.ListComp elt0 (⟨target,iter,ifs,0⟩::rest) scope cpos) (some (.Name y py)) spos.line X.env=pure true)
  (hN:X.N.Nodup)(hy:X.N[i]?=some y)(hl:X.env.scope.names.lookup y=some .local)
  (hs:∀x,foldedSetIterable iter X.env x=pure x:=by intro _;rfl) :
  PS X (.Assign [.Name y py] (.ListComp elt0 (⟨target,iter,ifs,0⟩::rest) scope cpos) spos) (zaik wi g tt tm own fr i):=by
 intro pins s σ H D I h
 rw[exec_Assign_Name_used _ _ _ _ hsw]
 refine qH (qCB (qH ?_))
 show wpAny _ X.A (do let _ <- comprehension (.ListComp elt0 (⟨target,iter,ifs,0⟩::rest) scope cpos) scope X.env _ (newList []) false (eval iter X.env) (some (assign (.Name y py) X.env))) _ _ s
 refine qH (thn (qCf (use:=some (assign (.Name y py) X.env)) (Q:=λ_ s'=>SP X pins D .next s') rfl hs (zij (zjg c I.ok)) c.kind (λy hy e=>(c.names y hy).trans (by rw[e])) ?_) λ_ s' q=>qc (qc q))
 refine thn (hi pins s σ H _ I h) λv s1 h1=>thn h1 λitv s2 h2=>?_
 obtain⟨it,fp,tn,J,H2,e,I2,T,st2,f2,q⟩:=h2
 subst e
 refine zmh (Q:=λv H'=>D.nx (σ.set i (some v)) H') c hc eq T hb I2 st2 f2 q λp C m H' s' I' hn hC q'=>?_
 show wpAny _ X.A (assign (.Name y py) X.env (.ref p)) _ _ _
 refine wpAny_assign_Name (zoj I' hN hy (.inl hl) (v:=.ref p) rfl (λs'' I'' ⟨a,sb,ha⟩=>?_) (.inr hl))
 have hCa:C≠a:=by
  rcases ha with rfl|ha
  ·exact hC.2.1
  ·exact qAm (hC.2.2.2.2.1 y a ha)
 refine⟨m,hn.sameBut sb hCa,λh' sb'=>⟨σ.set i (some (.ref p)),H',I''.turned (t':=s''.toks) (λb o hb e=>(sb'.2 b hb).trans e) hC.1 hC.2.1 hC.2.2.2.1 hC.2.2.2.2.1 hC.2.2.2.2.2,q'⟩⟩
end
section
variable{X:Cx}
section
variable{scope:Scope}{N' own:List Str}{fr:List Nat}{elt target iter:Expr}{ifs:List Expr}{cpos:Pos}{wi:TI}{g:TG}{tt:TT}{te:TE}
noncomputable def tComp1(wi:TI)(g:TG)(tt:TT)(te:TE)(own:List Str)(fr:List Nat):TE:=zaei wi g tt (λp=>zaeg p te) own fr
theorem zaan(c:CompOk X scope N' own fr)(hc:X.calm=true)(hi:PI X target iter wi)
  (hb:∀(cl:List (Str×Addr)) (C:Addr) (s:Shared) (H:Hp) (fp:List Addr),PG (cxComp X scope N' own cl C s H fp) target g/\PF (cxComp X scope N' own cl C s H fp) ifs tt/\PE (cxComp X scope N' own cl C s H fp) elt te)
  (hs:∀x,foldedSetIterable iter X.env x=pure x:=by intro _;rfl):PE X (.ListComp elt [⟨target,iter,ifs,0⟩] scope cpos) (tComp1 wi g tt te own fr):=
 zaal (emit:=λacc env=>do let _ <- call (.builtin "list.append") [acc,<- eval elt env]) c hc (λ_ _ _=>rfl) hi
  (λcl C s H fp p=>⟨(hb cl C s H fp).1,(hb cl C s H fp).2.1,zwk (hb cl C s H fp).2.2⟩) hs
noncomputable def tAsgC1(wi:TI)(g:TG)(tt:TT)(te:TE)(own:List Str)(fr:List Nat)(i:Nat):TS:=zaik wi g tt (λp=>zaeg p te) own fr i
theorem zaao{spos py:Pos}{i:Nat}{y:Str}(c:CompOk X scope N' own fr)(hc:X.calm=true)(hi:PI X target iter wi)
  (hb:∀(cl:List (Str×Addr)) (C:Addr) (s:Shared) (H:Hp) (fp:List Addr),PG (cxComp X scope N' own cl C s H fp) target g/\PF (cxComp X scope N' own cl C s H fp) ifs tt/\PE (cxComp X scope N' own cl C s H fp) elt te)
  (hsw:swapsWith (.ListComp elt [⟨target,iter,ifs,0⟩] scope cpos) (some (.Name y py)) spos.line X.env=pure true)
  (hN:X.N.Nodup)(hy:X.N[i]?=some y)(hl:X.env.scope.names.lookup y=some .local)
  (hs:∀x,foldedSetIterable iter X.env x=pure x:=by intro _;rfl):PS X (.Assign [.Name y py] (.ListComp elt [⟨target,iter,ifs,0⟩] scope cpos) spos) (tAsgC1 wi g tt te own fr i):=
 zaam (emit:=λacc env=>do let _ <- call (.builtin "list.append") [acc,<- eval elt env]) c hc (λ_ _ _=>rfl) hi
  (λcl C s H fp p=>⟨(hb cl C s H fp).1,(hb cl C s H fp).2.1,zwk (hb cl C s H fp).2.2⟩) hsw hN hy hl hs
end
noncomputable def zala:R2:=λx y H Q=>∃z n,x=.str z/\y=.int n/\z.length<=1000/\-1000<=n/\n<=1000/\Q (.str (Txt.mul z n)) H
theorem zaej:OpR X (binaryOp .Mult) zala:=by
 intro pins s σ H x y v u Q I rx ry h
 obtain⟨z,n,rfl,rfl,h1,h2,h3,q⟩:=h
 obtain⟨t,rfl⟩:=rx
 obtain⟨t',rfl⟩:=ry
 exact SB.mul (mulOk_of 1000 1000 h1 (by omega) (by omega) (by decide) (by decide)) λt' k=>⟨.str (Txt.mul z n),H,I.tok _,⟨_,rfl⟩,q⟩
noncomputable def rSlS:V->Option Int->Option Int->Hp->VK->Prop:=λx lo hi H Q=>∃z,x=.str z/\z.length<=qa/\Q (.str (Txt.slice z lo hi)) H
theorem zail:SlR X rSlS:=by
 intro pins s σ H x v vl vu lo hi sl Q I rx hs pl pu h
 obtain⟨z,rfl,hz,q⟩:=h
 obtain⟨t,rfl⟩:=rx
 refine⟨"str",_,F.slot_str_getitem.lookup,qBe _ _ _,?_⟩
 have fin:∀t' k,EP X pins σ Q (.str (Txt.slice z lo hi) t') {s with toks:=k}:=λt' k=>⟨.str (Txt.slice z lo hi),H,I.tok _,⟨_,rfl⟩,q⟩
 have fz:(Txt.slice z lo hi).length<=qa:=qAK (Txt.slice_le z _ _) hz
 cases pl with
 | none=>cases pu with
  | none=>exact qBA (l:=none) (u:=none) (st:=none) hs rfl (qBv ⟨fz,fin⟩)
  | int j tj=>exact qBA (l:=none) (u:=some (j,tj)) (st:=none) hs rfl (qBv ⟨fz,fin⟩)
 | int i ti=>cases pu with
  | none=>exact qBA (l:=some (i,ti)) (u:=none) (st:=none) hs rfl (qBv ⟨fz,fin⟩)
  | int j tj=>exact qBA (l:=some (i,ti)) (u:=some (j,tj)) (st:=none) hs rfl (qBv ⟨fz,fin⟩)
theorem zaap{id:String}(hid:id="isinstance"):CallR X (.builtin id) (λxs H Q=>∃x n t b,xs=[x,.ty n]/\TyOf X.K H x t/\PySem.W.kitOne X.K t (.type n)=some b/\Q (.bl b) H):=by
 subst hid
 intro pins s σ H xs us Q I r h
 obtain⟨x,n,t,b,rfl,ty,e,q⟩:=h
 obtain⟨u,w',rfl,rx,ry⟩:=zady r
 cases ry
 exact zvx I rx ty e λtk=>⟨.bl b,H,I.tok _,rfl,q⟩
end
mutual
def Rep(K:qB)(H:Hp):PyData->V->Prop
 | .none,v=>v=.non
 | .bool b,v=>v=.bl b
 | .int i,v=>v=.int i
 | .str x,v=>v=.str x
 | .list ds,v=>∃a xs,v=.ref a/\SqL K H a xs/\Reps K H ds xs
 | .tuple ds,v=>∃a xs,v=.ref a/\SqT K H a xs/\Reps K H ds xs
 | .dict _,_=>False
def Reps(K:qB)(H:Hp):List PyData->List V->Prop
 | [],xs=>xs=[]
 | d::ds,xs=>∃v vs,xs=v::vs/\Rep K H d v/\Reps K H ds vs
end
mutual
theorem zgh{X:Cx}{pins:List (Addr×Obj)}{σ:St}{H:Hp}{s:Shared}(I:Inv X pins σ H s):∀(d:PyData){v:V}{u:Value},Rep X.K H d v->RelV v u->∃as,Reads s.heap u d as
 | .none,v,u,h,r=>by unfold Rep at h;subst h;cases r;exact⟨_,.none⟩
 | .bool b,v,u,h,r=>by unfold Rep at h;subst h;cases r;exact⟨_,.bool b⟩
 | .int i,v,u,h,r=>by unfold Rep at h;subst h;obtain⟨t,rfl⟩:=r;exact⟨_,.int i t⟩
 | .str x,v,u,h,r=>by unfold Rep at h;subst h;obtain⟨t,rfl⟩:=r;exact⟨_,.str x t⟩
 | .list ds,v,u,h,r=>by
  unfold Rep at h
  obtain⟨a,xs,rfl,hq,hr⟩:=h
  cases r
  obtain⟨its,rv,p,hz⟩:=I.list hq
  obtain⟨as,q⟩:=reps_reads I ds hr rv
  obtain⟨o,h1,h2,n,h3⟩:=p.isList
  exact⟨_,reads_list_at h1 h2 h3 (by simpa using q)⟩
 | .tuple ds,v,u,h,r=>by
  unfold Rep at h
  obtain⟨a,xs,rfl,hq,hr⟩:=h
  cases r
  obtain⟨its,rv,p,hz⟩:=I.tuple hq
  obtain⟨as,q⟩:=reps_reads I ds hr rv
  obtain⟨o,h1,h2,n,h3⟩:=p
  exact⟨_,reads_tuple_at h1 h2 h3 (by simpa using q)⟩
 | .dict _,_,_,h,_=>by unfold Rep at h;exact h.elim
theorem reps_reads{X:Cx}{pins:List (Addr×Obj)}{σ:St}{H:Hp}{s:Shared}(I:Inv X pins σ H s):∀(ds:List PyData){vs:List V}{us:List Value},Reps X.K H ds vs->Vals vs us->∃as,ReadsAll s.heap us ds as
 | [],vs,us,h,r=>by unfold Reps at h;subst h;cases r;exact⟨_,.nil⟩
 | d::ds,vs,us,h,r=>by
  unfold Reps at h
  obtain⟨v,vs',rfl,h1,h2⟩:=h
  cases r with
  | cons r rr=>
   obtain⟨as,q1⟩:=zgh I d h1 r
   obtain⟨bs,q2⟩:=reps_reads I ds h2 rr
   exact⟨_,.cons q1 q2⟩
end
theorem SqT.same{K:qB}{H H':Hp}{a:Addr}{xs:List V}(h:Same H H')(q:SqT K H a xs):SqT K H' a xs:=by
 rcases q with(q|⟨o,q⟩)|q
 ·exact .inl (.inl (h _ _ q))
 ·exact .inl (.inr ⟨o,h _ _ q⟩)
 ·exact .inr q
section
variable{X:Cx}
noncomputable def rEqD(K:qB)(neg:Bool):R2:=λx y H Q=>∃d e,Rep K H d x/\Rep K H e y/\qBB d=true/\qBB e=true/\Q (.bl (if neg then !PyData.eqv d e else qh d e)) H
theorem zaim(hu:X.A.units+64<cLine):OpR X (compareOp .Eq) (rEqD X.K false):=by
 intro pins s σ H x y v u Q I rx ry h
 obtain⟨d,e,hd,he,sd,se,q⟩:=h
 obtain⟨as,r1⟩:=zgh I d hd rx
 obtain⟨bs,r2⟩:=zgh I e he ry
 exact eq_dataH r1 r2 sd se hu ⟨.bl (qh d e),H,I,rfl,q⟩
theorem zain(hu:X.A.units+64<cLine):OpR X (compareOp .NotEq) (rEqD X.K true):=by
 intro pins s σ H x y v u Q I rx ry h
 obtain⟨d,e,hd,he,sd,se,q⟩:=h
 obtain⟨as,r1⟩:=zgh I d hd rx
 obtain⟨bs,r2⟩:=zgh I e he ry
 exact ne_dataH r1 r2 sd se hu ⟨.bl (!PyData.eqv d e),H,I,rfl,q⟩
theorem zaek{bs:List Bool}:∀{its:List Value},Vals (bs.map V.bl) its->its=bs.map Value.bool:=by
 induction bs with
 | nil=>intro its r;cases r;rfl
 | cons b bs ih=>
  intro its r
  cases r with
  | cons r rr=>cases r;rw[ih rr];rfl
theorem zwl(bs:List Bool):(List.range bs.length).all (λi=>bs.getD i false)=bs.all id:=by
 rw[qAQ,qr,qr]
 constructor
 ·intro h b hb
  obtain⟨i,hi,e⟩:=qAY hb
  have q:=h i (qAX.mpr hi)
  rw[qAF,qF hi,e]at q
  exact q
 ·intro h i hi
  have hi:=qAX.mp hi
  have q:=h _ (qCA hi)
  rw[qAF,qF hi]
  exact q
noncomputable def rAny(K:qB)(f:List Bool->Bool):List V->Hp->VK->Prop:=λxs H Q=>∃p bs,xs=[.ref p]/\SqL K H p (bs.map V.bl)/\Q (.bl (f bs)) H
theorem zaaq(hc:X.calm=true):CallR X (.builtin "all") (rAny X.K λbs=>bs.all id):=by
 intro pins s σ H xs us Q I r h
 obtain⟨p,bs,rfl,hq,q⟩:=h
 obtain⟨u,rfl,ru⟩:=zvt r
 cases ru
 obtain⟨its,rv,pl,hz⟩:=I.list hq
 cases zaek rv
 have hne:p≠s.heap.objs.size:=by obtain⟨o,e,_⟩:=pl.isList;exact qx (qO e)
 refine call_all_walk (qBc pl.isList ⟨s.heap.objs.size,_,_,_,_,_,λi=>bs.getD i false,rfl,Walks.list (A:=X.A.in1) (show X.A.in1.handled=none from I.ok.hd hc) _ p hne (bs.map Value.bool).toArray,⟨⟨_,qV _ rfl,rfl,rfl⟩,?_⟩,?_,?_⟩)
 ·obtain⟨o,e,z⟩:=pl.isList
  exact⟨o,qE _ e,z⟩
 ·intro i v s' Q' E' hv hQ
  have hv:(bs.map Value.bool)[i]?=some v:=by simpa using hv
  rw[qT]at hv
  cases e:bs[i]? with
  | none=>rw[e]at hv;cases hv
  | some b=>
   rw[e]at hv
   cases hv
   have z:bs.getD i false=b:=by rw[qAF,e];rfl
   have hQ:Q' (bs.getD i false) s':=hQ
   rw[z]at hQ
   exact qAP hQ
 ·intro h' tk hk
  refine⟨.bl (bs.all id),H,?_,by rw[<- zwl bs];simp;rfl,q⟩
  exact I.kept (t':=tk) λb o e=>hk b o (by have:=qO e;simp;exact qx this) (qE _ e)
end
noncomputable def zwm(o:Option NameKind):Bool:=o==some .cell||o==some .free
noncomputable def zwn(sc:Scope)(N:List Str)(scope:Scope)(N' own:List Str)(fr:List Nat):Bool:=
 (scope.kind==.function)&&(scope.names.all λy=>scope.names.lookup y.1==some y.2)&&(scope.names.all λy=>!(y.2==.free)||zwm (sc.names.lookup y.1))&&
 (N'==own++fr.map λj=>N.getD j Str.empty)&&(fr.all λj=>decide (j<N.length)&&(scope.names.lookup (N.getD j Str.empty)==some .free))&&
 (own.all λx=>scope.names.lookup x==some .local||scope.names.lookup x==some .cell)
section
variable{X:Cx}
theorem zgi{scope:Scope}{N' own:List Str}{fr:List Nat}(h:zwn X.env.scope X.N scope N' own fr=true):CompOk X scope N' own fr:=by
 unfold zwn at h
 simp only[qj]at h
 obtain⟨⟨⟨⟨⟨h1,h2⟩,h3⟩,h4⟩,h5⟩,h6⟩:=h
 refine⟨eq_of_beq h1,λy hy=>eq_of_beq (qr.mp h2 y hy),λy hy e=>?_,eq_of_beq h4,λj hj=>?_,λx hx=>?_⟩
 ·have q:=qr.mp h3 y hy
  rw[e]at q
  have q:zwm (X.env.scope.names.lookup y.1)=true:=by simpa using q
  unfold zwm at q
  rcases qBt.mp q with z|z
  ·exact .inl (eq_of_beq z)
  ·exact .inr (eq_of_beq z)
 ·have q:=qr.mp h5 j hj
  rw[qj]at q
  exact⟨of_decide_eq_true q.1,eq_of_beq q.2⟩
 ·have q:=qr.mp h6 x hx
  rcases qBt.mp q with z|z
  ·exact .inl (eq_of_beq z)
  ·exact .inr (eq_of_beq z)
noncomputable def zael(K:qB):R2:=λx y H Q=>match x,y with
 | .int i,.int j=>Q (.int (i+j)) H
 | .str a,.str b=>a.length+b.length<=qa/\Q (.str (a++b)) H
 | .ref _,.ref _=>rCat x y H Q\/zaic K x y H Q
 | _,_=>False
theorem zaem:OpR X (binaryOp .Add) (zael X.K):=by
 intro pins s σ H x y v u Q I rx ry h
 cases x<;>cases y<;>first
  | exact h.elim
  | exact zahv pins s σ H _ _ v u Q I rx ry ⟨_,_,rfl,rfl,h⟩
  | exact zun pins s σ H _ _ v u Q I rx ry ⟨_,_,rfl,rfl,h.1,h.2⟩
  | exact(zaii.or zaec) pins s σ H _ _ v u Q I rx ry h
noncomputable def zaio:R2:=λx y H Q=>match x,y with
 | .int i,.int j=>CMul i j/\Q (.int (i * j)) H
 | .str z,.int n=>z.length<=1000/\-1000<=n/\n<=1000/\Q (.str (Txt.mul z n)) H
 | _,_=>False
theorem zfu:OpR X (binaryOp .Mult) zaio:=by
 intro pins s σ H x y v u Q I rx ry h
 cases x<;>cases y<;>first
  | exact h.elim
  | exact zahw pins s σ H _ _ v u Q I rx ry ⟨_,_,rfl,rfl,h.1,h.2⟩
  | exact zaej pins s σ H _ _ v u Q I rx ry ⟨_,_,rfl,rfl,h.1,h.2.1,h.2.2.1,h.2.2.2⟩
noncomputable def rIxU(K:qB):R2:=λx y H Q=>match x,y with
 | .str z,.int i=>z.length<=qa/\∃c,atI z.cps.toList i=some c/\Q (.str ⟨#[c]⟩) H
 | .ref p,.int i=>∃xs v,(SqL K H p xs\/SqT K H p xs)/\atI xs i=some v/\Q v H
 | _,_=>False
theorem ix_U:IxR X (rIxU X.K):=by
 intro value slice pins s σ H x y v u Q I rx ry h hs
 cases x<;>cases y<;>first
  | exact h.elim
  | (obtain⟨h1,c,h2,h3⟩:=h;exact zaif value slice pins s σ H _ _ v u Q I rx ry ⟨_,_,c,rfl,rfl,h1,h2,h3⟩ hs)
  | (obtain⟨xs,w,h1,h2,h3⟩:=h
     rcases h1 with h1|h1
     ·exact zaed value slice pins s σ H _ _ v u Q I rx ry ⟨_,xs,_,w,rfl,rfl,h1,h2,h3⟩ hs
     ·exact zaie value slice pins s σ H _ _ v u Q I rx ry ⟨_,xs,_,w,rfl,rfl,h1,h2,h3⟩ hs)
noncomputable def rSlU(K:qB):V->Option Int->Option Int->Hp->VK->Prop:=λx lo hi H Q=>match x with
 | .str z=>z.length<=qa/\Q (.str (Txt.slice z lo hi)) H
 | .ref _=>rSlL K x lo hi H Q
 | _=>False
theorem sl_U:SlR X (rSlU X.K):=by
 intro pins s σ H x v vl vu lo hi sl Q I rx hs pl pu h
 cases x<;>first
  | exact h.elim
  | exact zail pins s σ H _ v vl vu lo hi sl Q I rx hs pl pu ⟨_,rfl,h.1,h.2⟩
  | exact zaee pins s σ H _ v vl vu lo hi sl Q I rx hs pl pu h
noncomputable def Dn(P:Program)(w:World)(K:qB)(mg:Str->Option Value)(base:Heap)(x:Str)(ps:List Str)(k:Nat)(sp:Sp):Prop:=
 ∃f fd,FnOk P w K mg base CX0 k f fd ps sp/\mg x=some (.ref f)/\qm K (.ref f)=true/\zjf K fd ps []
theorem zalb{x:Str}{p pos:Pos}{e:Expr}{es:List Expr}{t:TA}{ps:List Str}{k:Nat}{sp:Sp}(D:Dn X.prog X.w X.K X.mg X.base x ps k sp)(hr:Room k X.A)(hg:Gl X x)(ha:PA X (e::es) t)
  (hdb:(x==("__debug__":Str))=false:=by decide)(he:starEach (e::es) X.env=(false,eval e X.env)::starEach es X.env:=by rfl)(hpl:(backTo pos (starEach es X.env)).any (·.1)=false:=by rfl) :
  PE X (.Call (.Name x p) (e::es) [] pos) (tCall sp [] E0 t):=by
 obtain⟨f,fd,F,hm,hk,hb⟩:=D
 exact zaeb F hr hg hm hk hb .nil zakz ha hdb he hpl
end
theorem Same.upd{H H':Hp}{p:Addr}{o:HO}(h:Same H H')(hp:H p=none):Same H (upd H' p o):=λb u e=>by rw[zaq (zbg e hp)];exact h b u e
theorem Same.new{H:Hp}{p:Addr}{o:HO}(hp:H p=none):Same H (L2.upd H p o):=(Same.refl H).upd hp
end L2
namespace Bc
open PySem L2
noncomputable abbrev Web:=List (Str×List Str)
noncomputable def nm(W:Web):List Str:=W.map (·.1)
structure WebOk(W:Web):Prop where
 nd:(nm W).Nodup
 el:∀i n es,W[i]?=some (n,es)->∀e∈es,e∈nm (W.take i)
 few:∀p∈W,p.2.length<=4
 len:W.length<=12
theorem zjv{W:Web}{i:Nat}{p:Str×List Str}(h:W[i]?=some p):nm (W.take (i+1))=nm (W.take i)++[p.1]:=by
 rw[List.take_add_one,h];unfold nm;simp
end Bc
namespace L2
open PySem PySem.Spec PyProof.Rows
section
variable{X:Cx}{K:qB}(hK:X.K=K)
include hK
theorem zaen{es:List Expr}{k:Nat}{t:TGs}{n:Nat}{pos:Pos}(hc:X.calm=true)(h:PGs X es t)
  (hn:(assignEach es X.env).length=n:=by rfl) (hst:(assignEach es X.env).findIdx? (·.1)=none:=by rfl):PG X (.Tuple es k pos) (gTup K n t):=by subst hK;exact zahs hc h hn hst
theorem zdc:IxR X (rIxU K):=by subst hK;exact ix_U
theorem zus:SlR X (rSlU K):=by subst hK;exact sl_U
theorem zcl:OpR X (binaryOp .Add) (zael K):=by subst hK;exact zaem
theorem zaip:OpR X (compareOp .In) (rIn K false):=by subst hK;exact zwf
theorem zbj:CallR X (.builtin "len") (λxs H Q=>∃x n,xs=[x]/\LenV K x H n/\Q (.int n) H):=by subst hK;exact zaag
theorem zox(hc:X.calm=true):CallR X (.builtin "all") (rAny K λbs=>bs.all id):=by subst hK;exact zaaq hc
theorem zch:CallR X (.builtin "isinstance") (λxs H Q=>∃x n t b,xs=[x,.ty n]/\TyOf K H x t/\PySem.W.kitOne K t (.type n)=some b/\Q (.bl b) H):=by subst hK;exact zaap rfl
theorem zjh:CallR X (.type "list") (λxs H Q=>∃p ys,xs=[.ref p]/\(SqL K H p ys\/SqT K H p ys)/\∀l,H l=none->Q (.ref l) (upd H l (.lst ys))):=by subst hK;exact zou
theorem zaar{tg l:Expr}{tl:TE}(hl:PE X l tl):PI X tg l (zahu K tl):=by subst hK;exact zadv hl
theorem zwo{T:String}{name:Str}{id:String}{r:V->List V->Hp->VK->Prop}{o e:Expr}{es:List Expr}{to:TE}{t:TA}{apos cpos:Pos}(pa:PlainAttrs T)(slot:Slot T name id)(hty:typeOf (.builtin id)=pure (.type "method_descriptor"))(hm:MtR X id r)(ho:PE X o to)(ha:PA X (e::es) t)
  (hbase:attributeBase o name X.env (eval o X.env)=eval o X.env:=by rfl)
  (hfew:((backTo cpos (starEach (e::es) X.env)).all (λx=>!x.1)&&(backToKw cpos (keywordEach [] X.env)).all (λx=>x.1.isSome)
   && decide ((e::es).length+([]:List Keyword).length+(if([]:List Keyword).isEmpty then 0 else 1)<30))=true:=by rfl)
  (hline:(apos.endLine==cpos.line)=true:=by rfl)(hs:starEach (e::es) X.env=(false,eval e X.env)::starEach es X.env:=by rfl)(hplain:(backTo cpos (starEach es X.env)).any (·.1)=false:=by rfl) :
  PE X (.Call (.Attribute o name apos) (e::es) [] cpos) (tBM K T r to t):=by subst hK;exact zakx pa slot hty hm ho ha hbase hfew hline hs hplain
end
noncomputable def keyD:PyData->Option Key
 | .int i=>some (Sum.inl i)
 | .str s=>some (Sum.inr s)
 | _=>none
mutual
def Rp(H:Hp):PyData->V->Prop
 | .none,v=>v=.non
 | .bool b,v=>v=.bl b
 | .int i,v=>v=.int i
 | .str x,v=>v=.str x
 | .list ds,v=>∃a xs,v=.ref a/\H a=some (.lst xs)/\Rps H ds xs
 | .tuple ds,v=>∃a xs,v=.ref a/\H a=some (.tup xs)/\Rps H ds xs
 | .dict kvs,v=>∃a ps,v=.ref a/\H a=some (.dK ps)/\Rpd H kvs ps
def Rps(H:Hp):List PyData->List V->Prop
 | [],xs=>xs=[]
 | d::ds,xs=>∃v vs,xs=v::vs/\Rp H d v/\Rps H ds vs
def Rpd(H:Hp):List (PyData×PyData)->List (Key×V)->Prop
 | [],ps=>ps=[]
 | (k,d)::r,ps=>∃k' v vs,ps=(k',v)::vs/\keyD k=some k'/\Rp H d v/\Rpd H r vs
end
mutual
theorem Rp.same{H H':Hp}(h:Same H H'):∀(d:PyData){v:V},Rp H d v->Rp H' d v
 | .none,v,q=>by unfold Rp at q ⊢;exact q
 | .bool b,v,q=>by unfold Rp at q ⊢;exact q
 | .int i,v,q=>by unfold Rp at q ⊢;exact q
 | .str x,v,q=>by unfold Rp at q ⊢;exact q
 | .list ds,v,q=>by
  unfold Rp at q ⊢
  obtain⟨a,xs,e,hq,hr⟩:=q
  exact⟨a,xs,e,h _ _ hq,Rps.same h ds hr⟩
 | .tuple ds,v,q=>by
  unfold Rp at q ⊢
  obtain⟨a,xs,e,hq,hr⟩:=q
  exact⟨a,xs,e,h _ _ hq,Rps.same h ds hr⟩
 | .dict kvs,v,q=>by
  unfold Rp at q ⊢
  obtain⟨a,xs,e,hq,hr⟩:=q
  exact⟨a,xs,e,h _ _ hq,Rpd.same h kvs hr⟩
theorem Rps.same{H H':Hp}(h:Same H H'):∀(ds:List PyData){vs:List V},Rps H ds vs->Rps H' ds vs
 | [],vs,q=>by unfold Rps at q ⊢;exact q
 | d::ds,vs,q=>by
  unfold Rps at q ⊢
  obtain⟨v,vs',e,h1,h2⟩:=q
  exact⟨v,vs',e,Rp.same h d h1,Rps.same h ds h2⟩
theorem Rpd.same{H H':Hp}(h:Same H H'):∀(ds:List (PyData×PyData)){vs:List (Key×V)},Rpd H ds vs->Rpd H' ds vs
 | [],vs,q=>by unfold Rpd at q ⊢;exact q
 | (k,d)::ds,vs,q=>by
  unfold Rpd at q ⊢
  obtain⟨k',v,vs',e,h0,h1,h2⟩:=q
  exact⟨k',v,vs',e,h0,Rp.same h d h1,Rpd.same h ds h2⟩
end
theorem zbh{H:Hp}:∀{ds:List PyData}{xs:List V},Rps H ds xs↔Paired (Rp H) ds xs
 | [],xs=>by
  constructor
  ·intro h;unfold Rps at h;subst h;exact .nil
  ·intro h;cases h;unfold Rps;rfl
 | d::ds,xs=>by
  constructor
  ·intro h
   unfold Rps at h
   obtain⟨v,vs,rfl,h1,h2⟩:=h
   exact .cons h1 (zbh.mp h2)
  ·intro h
   cases h with
   | cons h1 h2=>unfold Rps;exact⟨_,_,rfl,h1,zbh.mpr h2⟩
theorem Rps.length{H:Hp}{ds:List PyData}{xs:List V}(h:Rps H ds xs):ds.length=xs.length:=(zbh.mp h).length
theorem zcr{H:Hp}{ds:List PyData}{v:V}(h:Rp H (.list ds) v):∃a xs,v=.ref a/\H a=some (.lst xs)/\Rps H ds xs:=by unfold Rp at h;exact h
theorem zce{H:Hp}{ds:List PyData}{v:V}(h:Rp H (.tuple ds) v):∃a xs,v=.ref a/\H a=some (.tup xs)/\Rps H ds xs:=by unfold Rp at h;exact h
theorem zkq{H:Hp}{ds:List (PyData×PyData)}{v:V}(h:Rp H (.dict ds) v):∃a xs,v=.ref a/\H a=some (.dK xs)/\Rpd H ds xs:=by unfold Rp at h;exact h
theorem zbz{H:Hp}{i:Int}{v:V}(h:Rp H (.int i) v):v=.int i:=by unfold Rp at h;exact h
theorem zdl{H:Hp}{i:Str}{v:V}(h:Rp H (.str i) v):v=.str i:=by unfold Rp at h;exact h
theorem zey{H:Hp}{i:Bool}{v:V}(h:Rp H (.bool i) v):v=.bl i:=by unfold Rp at h;exact h
theorem zkr{H:Hp}{v:V}(h:Rp H .none v):v=.non:=by unfold Rp at h;exact h
theorem zaa{H:Hp}{i:Int}:Rp H (.int i) (.int i):=by unfold Rp;rfl
theorem zct{H:Hp}{i:Str}:Rp H (.str i) (.str i):=by unfold Rp;rfl
theorem zag{H:Hp}{i:Bool}:Rp H (.bool i) (.bl i):=by unfold Rp;rfl
theorem zji{H:Hp}:Rp H .none .non:=by unfold Rp;rfl
theorem zff{H:Hp}{ds:List PyData}{a:Addr}{xs:List V}(h:H a=some (.lst xs))(r:Rps H ds xs):Rp H (.list ds) (.ref a):=by unfold Rp;exact⟨a,xs,rfl,h,r⟩
theorem zks{H:Hp}{ds:List PyData}{a:Addr}{xs:List V}(h:H a=some (.tup xs))(r:Rps H ds xs):Rp H (.tuple ds) (.ref a):=by unfold Rp;exact⟨a,xs,rfl,h,r⟩
theorem zut{H:Hp}{ds:List (PyData×PyData)}{a:Addr}{xs:List (Key×V)}(h:H a=some (.dK xs))(r:Rpd H ds xs):Rp H (.dict ds) (.ref a):=by unfold Rp;exact⟨a,xs,rfl,h,r⟩
theorem zdd{H:Hp}:Rps H [] []:=by unfold Rps;rfl
theorem zde{H:Hp}{d:PyData}{ds:List PyData}{v:V}{vs:List V}(h:Rp H d v)(r:Rps H ds vs):Rps H (d::ds) (v::vs):=by
 show Rps H (d::ds) _
 unfold Rps;exact⟨v,vs,rfl,h,r⟩
theorem Rps.append{H:Hp}{ds es:List PyData}{vs ws:List V}(h:Rps H ds vs)(r:Rps H es ws):Rps H (ds++es) (vs++ws):=by
 replace h:=zbh.mp h
 refine zbh.mpr ?_
 induction h with
 | nil=>exact zbh.mp r
 | cons h _ ih=>exact .cons h ih
theorem Rps.get{H:Hp}{ds:List PyData}{vs:List V}(h:Rps H ds vs){i:Nat}{v:V}(e:vs[i]?=some v):∃d,ds[i]?=some d/\Rp H d v:=by
 replace h:=zbh.mp h
 induction h generalizing i with
 | nil=>simp at e
 | cons h _ ih=>
  cases i with
  | zero=>simp at e;subst e;exact⟨_,rfl,h⟩
  | succ i=>simpa using ih (by simpa using e)
theorem Rps.get2{H:Hp}{ds:List PyData}{vs:List V}(h:Rps H ds vs){i:Nat}{d:PyData}(e:ds[i]?=some d):∃v,vs[i]?=some v/\Rp H d v:=by
 replace h:=zbh.mp h
 induction h generalizing i with
 | nil=>simp at e
 | cons h _ ih=>
  cases i with
  | zero=>simp at e;subst e;exact⟨_,rfl,h⟩
  | succ i=>simpa using ih (by simpa using e)
open Classical in
noncomputable def Offs(A:Addr->Prop)(H:Hp):Hp:=λb=>if A b then none else H b
theorem Offs.get{A:Addr->Prop}{H:Hp}{b:Addr}(h:¬A b):Offs A H b=H b:=if_neg h
theorem Offs.out{A:Addr->Prop}{H:Hp}{b:Addr}(h:A b):Offs A H b=none:=if_pos h
theorem Offs.of{A:Addr->Prop}{H:Hp}{b:Addr}{o:HO}(h:Offs A H b=some o):¬A b/\H b=some o:=by
 by_cases hb:A b
 ·rw[Offs.out hb]at h;cases h
 ·rw[Offs.get hb]at h;exact⟨hb,h⟩
theorem Offs.mono{A B:Addr->Prop}{H H':Hp}(s:Same H H')(h:∀b o,H b=some o->¬A b->¬B b):Same (Offs A H) (Offs B H'):=λb o e=>by
 obtain⟨h1,h2⟩:=Offs.of e
 rw[Offs.get (h b o h2 h1)]
 exact s b o h2
theorem Offs.same(A:Addr->Prop)(H:Hp):Same (Offs A H) H:=λb o e=>(Offs.of e).2
theorem Offs.sub{A B:Addr->Prop}{H:Hp}(h:∀b,B b->A b):Same (Offs A H) (Offs B H):=Offs.mono (Same.refl _) λb _ _ n z=>n (h b z)
theorem Offs.grow{A:Addr->Prop}{H H':Hp}(s:Same H H'):Same (Offs A H) (Offs A H'):=Offs.mono s λ_ _ _ z=>z
theorem Offs.upd{A:Addr->Prop}{H:Hp}{a:Addr}{o:HO}(h:A a):Offs A (upd H a o)=Offs A H:=by
 funext b
 by_cases hb:A b
 ·rw[Offs.out hb,Offs.out hb]
 ·rw[Offs.get hb,Offs.get hb,zaq (λe=>hb (by rw[e];exact h))]
inductive Sl where
 | no
  | pl (d:PyData)
  | ac (d:PyData)
noncomputable abbrev DEnv:=List Sl
noncomputable def own(env:DEnv)(σ:St)(a:Addr):Prop:=∃(i:Nat)(d:PyData),env[i]?=some (.ac d)/\σ[i]?=some (some (.ref a))
noncomputable def zfg(Ho H:Hp)(a:Addr):PyData->Prop
 | .list ds=>∃xs,H a=some (.lst xs)/\Rps Ho ds xs
 | .dict kvs=>∃ps,H a=some (.dK ps)/\Rpd Ho kvs ps
 | _=>False
theorem zfg.rp{Ho H H':Hp}{a:Addr}{d:PyData}(h:zfg Ho H a d)(s:Same Ho H')(e:∀o,H a=some o->H' a=some o):Rp H' d (.ref a):=by
 cases d with
 | list ds=>
  obtain⟨xs,h1,h2⟩:=h
  exact zff (e _ h1) (Rps.same s _ h2)
 | dict ds=>
  obtain⟨xs,h1,h2⟩:=h
  exact zut (e _ h1) (Rpd.same s _ h2)
 | _=>exact h.elim
theorem zfg.same{Ho H Ho' H':Hp}{a:Addr}{d:PyData}(h:zfg Ho H a d)(s:Same Ho Ho')(e:∀o,H a=some o->H' a=some o):zfg Ho' H' a d:=by
 cases d with
 | list ds=>
  obtain⟨xs,h1,h2⟩:=h
  exact⟨xs,e _ h1,Rps.same s _ h2⟩
 | dict ds=>
  obtain⟨xs,h1,h2⟩:=h
  exact⟨xs,e _ h1,Rpd.same s _ h2⟩
 | _=>exact h.elim
theorem zfg.ex{Ho H:Hp}{a:Addr}{d:PyData}(h:zfg Ho H a d):∃o,H a=some o:=by
 cases d with
 | list ds=>obtain⟨xs,h1,h2⟩:=h;exact⟨_,h1⟩
 | dict ds=>obtain⟨xs,h1,h2⟩:=h;exact⟨_,h1⟩
 | _=>exact h.elim
structure EnvOk(fx:Addr->Prop)(H0:Hp)(env:DEnv)(σ:St)(H:Hp):Prop where
 len:env.length=σ.length
 pl:∀(i:Nat)(d:PyData),env[i]?=some (.pl d)->∃v,σ[i]?=some (some v)/\Rp (Offs (λa=>fx a\/own env σ a) H) d v
 ac:∀(i:Nat)(d:PyData),env[i]?=some (.ac d)->∃a,σ[i]?=some (some (.ref a))/\H0 a=none/\¬fx a/\zfg (Offs (λa=>fx a\/own env σ a) H) H a d
 inj:∀(i j:Nat)(d e:PyData)(a:Addr),env[i]?=some (.ac d)->env[j]?=some (.ac e)->σ[i]?=some (some (.ref a))->σ[j]?=some (some (.ref a))->i=j
 base:Same H0 H
 fxs:∀b,fx b->∃o,H b=some o
theorem EnvOk.grow{fx fx':Addr->Prop}{H0:Hp}{env:DEnv}{σ:St}{H H':Hp}(h:EnvOk fx H0 env σ H)(s:Same H H')(f:∀b o,H b=some o->¬fx b->¬fx' b)(g:∀b,fx' b->∃o,H' b=some o):EnvOk fx' H0 env σ H':=by
 have so:Same (Offs (λa=>fx a\/own env σ a) H) (Offs (λa=>fx' a\/own env σ a) H'):=Offs.mono s λb o e n=>λz=>z.elim (f b o e λy=>n (.inl y)) λy=>n (.inr y)
 refine⟨h.len,λi d e=>?_,λi d e=>?_,h.inj,h.base.trans s,g⟩
 ·obtain⟨v,h1,h2⟩:=h.pl i d e
  exact⟨v,h1,Rp.same so d h2⟩
 ·obtain⟨a,h1,h2,h3,h4⟩:=h.ac i d e
  obtain⟨o,ho⟩:=h4.ex
  exact⟨a,h1,h2,f a o ho h3,h4.same so λo=>s a o⟩
theorem EnvOk.up{fx:Addr->Prop}{H0:Hp}{env:DEnv}{σ:St}{H H':Hp}(h:EnvOk fx H0 env σ H)(s:Same H H'):EnvOk fx H0 env σ H':=
 h.grow s (λ_ _ _ z=>z) λb z=>let⟨o,e⟩:=h.fxs b z;⟨o,s b o e⟩
structure Val where
 d:PyData
 fr:Bool
 bs:List Nat
noncomputable def lim(fx:Addr->Prop)(env:DEnv)(σ:St)(bs:List Nat)(a:Addr):Prop:=fx a\/∃(i:Nat)(d:PyData),i∉bs/\env[i]?=some (.ac d)/\σ[i]?=some (some (.ref a))
structure ValOk(A:Addr->Prop)(H H':Hp)(r:Val)(v:V):Prop where
 rp:Rp (Offs A H') r.d v
 fr:r.fr=true->∃a,v=.ref a/\H a=none/\zfg (Offs (λb=>A b\/b=a) H') H' a r.d
theorem zfv{fx:Addr->Prop}{env:DEnv}{σ:St}{bs cs:List Nat}(h:∀i∈bs,i∈cs):∀a,lim fx env σ cs a->lim fx env σ bs a:=by
 rintro a (z|⟨i,d,h1,h2,h3⟩)
 ·exact .inl z
 ·exact .inr ⟨i,d,λq=>h1 (h i q),h2,h3⟩
theorem zkt{fx:Addr->Prop}{env:DEnv}{σ:St}{bs:List Nat}:∀a,lim fx env σ bs a->fx a\/own env σ a:=by
 rintro a (z|⟨i,d,h1,h2,h3⟩)
 ·exact .inl z
 ·exact .inr ⟨i,d,h2,h3⟩
theorem zhz{fx:Addr->Prop}{env:DEnv}{σ:St}:∀a,fx a\/own env σ a->lim fx env σ [] a:=by
 rintro a (z|⟨i,d,h2,h3⟩)
 ·exact .inl z
 ·exact .inr ⟨i,d,by simp,h2,h3⟩
theorem EnvOk.lims{fx:Addr->Prop}{H0:Hp}{env:DEnv}{σ:St}{H:Hp}(h:EnvOk fx H0 env σ H)(bs:List Nat):∀b,lim fx env σ bs b->∃o,H b=some o:=by
 rintro b (z|⟨i,d,h1,h2,h3⟩)
 ·exact h.fxs b z
 ·obtain⟨a,g1,g2,g3,g4⟩:=h.ac i d h2
  rw[h3]at g1
  cases g1
  exact g4.ex
theorem ValOk.later{A B:Addr->Prop}{H0 H H' H'':Hp}{r:Val}{v:V}(h:ValOk A H H' r v)(s0:Same H0 H)(s:Same H' H'')(hB:∀b,B b->A b):ValOk B H0 H'' r v:=by
 refine⟨Rp.same (Offs.mono s λb _ _ n z=>n (hB b z)) _ h.rp,λe=>?_⟩
 obtain⟨a,h1,h2,h3⟩:=h.fr e
 exact⟨a,h1,s0.free h2,h3.same (Offs.mono s λb _ _ n z=>n (z.elim (λy=>.inl (hB b y)) .inr)) λo=>s a o⟩
noncomputable def zci:PyData->Bool
 | .list _=>false
 | .tuple _=>false
 | .dict _=>false
 | _=>true
theorem zfw{H H':Hp}{d:PyData}{v:V}(f:zci d=true)(h:Rp H d v):Rp H' d v:=by
 cases d<;>first
  | (unfold Rp at h ⊢;exact h)
  | cases f
noncomputable def bsOf(d:PyData)(bs:List Nat):List Nat:=if zci d=true then[]else bs
theorem znh{fx:Addr->Prop}{env:DEnv}{σ:St}{bs:List Nat}{H:Hp}{d:PyData}{v:V}(h:Rp (Offs (lim fx env σ bs) H) d v):Rp (Offs (lim fx env σ (bsOf d bs)) H) d v:=by
 unfold bsOf
 split
 ·rename_i e;exact zfw e h
 ·exact h
noncomputable abbrev EF:=DEnv->Option Val
noncomputable def SE(te:TE)(f:EF):Prop:=∀(fx:Addr->Prop)(H0:Hp)(env:DEnv)(σ:St)(H:Hp),EnvOk fx H0 env σ H->∀r,f env=some r->∀Q:VK,(∀v H',Same H H'->ValOk (lim fx env σ r.bs) H H' r v->Q v H')->te σ H Q
noncomputable abbrev TF:=DEnv->Option Bool
noncomputable def ST(tt:TT)(f:TF):Prop:=∀(fx:Addr->Prop)(H0:Hp)(env:DEnv)(σ:St)(H:Hp),EnvOk fx H0 env σ H->∀b,f env=some b->∀Q:Bool->Hp->Prop,(∀H',Same H H'->Q b H')->tt σ H Q
noncomputable abbrev AF:=DEnv->Option (List Val)
noncomputable def SA(ta:TA)(f:AF):Prop:=∀(fx:Addr->Prop)(H0:Hp)(env:DEnv)(σ:St)(H:Hp),EnvOk fx H0 env σ H->∀rs,f env=some rs->∀Q:List V->Hp->Prop,
 (∀vs H',Same H H'->Paired (λr v=>ValOk (lim fx env σ r.bs) H H' r v) rs vs->Q vs H')->ta σ H Q
section
variable{X:Cx}
noncomputable def eVar(i:Nat):EF:=λenv=>match env[i]? with
 | some (.pl d)=>some ⟨d,false,[]⟩
 | some (.ac d)=>some ⟨d,false,[i]⟩
 | _=>none
theorem zab(i:Nat):SE (tVar i) (eVar i):=by
 intro fx H0 env σ H h r hr Q q
 unfold eVar at hr
 cases e:env[i]? with
 | none=>rw[e]at hr;cases hr
 | some sl=>
  rw[e]at hr
  cases sl with
  | no=>cases hr
  | pl d=>
   cases hr
   obtain⟨v,h1,h2⟩:=h.pl i d e
   exact⟨v,h1,q v H (Same.refl _) ⟨Rp.same (Offs.sub zkt) _ h2,λz=>by cases z⟩⟩
  | ac d=>
   cases hr
   obtain⟨a,h1,h2,h3,h4⟩:=h.ac i d e
   have hna:¬lim fx env σ [i] a:=by
    rintro(z|⟨j,d',g1,g2,g3⟩)
    ·exact h3 z
    ·exact g1 (qAl.mpr (h.inj j i d' d a g2 e g3 h1))
   exact⟨_,h1,q _ H (Same.refl _) ⟨h4.rp (Offs.sub zkt) λo z=>by rw[Offs.get hna];exact z,λz=>by cases z⟩⟩
noncomputable def eC(d:PyData):EF:=λ_=>some ⟨d,false,[]⟩
theorem se_c{d:PyData}{v:V}(h:∀H,Rp H d v):SE (tC v) (eC d):=by
 intro fx H0 env σ H _ r hr Q q
 cases hr
 exact q v H (Same.refl _) ⟨h _,λz=>by cases z⟩
noncomputable abbrev OF:=PyData->PyData->Option (PyData×Bool)
noncomputable def SO(r:R2)(f:OF):Prop:=∀(A:Addr->Prop)(H:Hp)(x y:V)(dx dy:PyData),(∀b,A b->∃o,H b=some o)->Rp (Offs A H) dx x->Rp (Offs A H) dy y->∀d fr,f dx dy=some (d,fr)->∀Q:VK,
 (∀v H',Same H H'->Rp (Offs A H') d v->(fr=true->∃a,v=.ref a/\H a=none/\zfg (Offs (λb=>A b\/b=a) H') H' a d)->Q v H')->r x y H Q
noncomputable def eOp(f:OF)(a b:EF):EF:=λenv=>(a env).bind λx=>(b env).bind λy=>(f x.d y.d).bind λz=>some ⟨z.1,z.2,bsOf z.1 (x.bs++y.bs)⟩
theorem zaw{r:R2}{f:OF}{ta tb:TE}{fa fb:EF}(ho:SO r f)(ha:SE ta fa)(hb:SE tb fb):SE (tOp r ta tb) (eOp f fa fb):=by
 intro fx H0 env σ H h rr hr Q q
 unfold eOp at hr
 obtain⟨x,ex,hr⟩:=qA.mp hr
 obtain⟨y,ey,hr⟩:=qA.mp hr
 obtain⟨⟨d,fr⟩,ez,hr⟩:=qA.mp hr
 cases hr
 refine ha fx H0 env σ H h x ex _ λv H1 s1 v1=>hb fx H0 env σ H1 (h.up s1) y ey _ λu H2 s2 v2=>?_
 have l1:∀b,lim fx env σ (x.bs++y.bs) b->lim fx env σ x.bs b:=zfv λi hi=>qAG _ hi
 have l2:∀b,lim fx env σ (x.bs++y.bs) b->lim fx env σ y.bs b:=zfv λi hi=>qg _ hi
 refine ho (lim fx env σ (x.bs++y.bs)) H2 v u x.d y.d ((h.up (s1.trans s2)).lims _) (v1.later (Same.refl _) s2 l1).rp (v2.later (Same.refl _) (Same.refl _) l2).rp d fr ez _ λw H3 s3 rp fr3=>q w H3 ((s1.trans s2).trans s3) ⟨znh rp,λe=>?_⟩
 obtain⟨a,g1,g2,g3⟩:=fr3 e
 refine⟨a,g1,(s1.trans s2).free g2,?_⟩
 have nf:zci d=false:=by cases d<;>first|rfl|exact g3.elim
 show zfg (Offs (λb=>lim fx env σ (bsOf d (x.bs++y.bs)) b\/b=a) H3) H3 a d
 rw[show bsOf d (x.bs++y.bs)=x.bs++y.bs by unfold bsOf;rw[if_neg (by rw[nf];decide)]]
 exact g3
end
theorem zez{n:Nat}(h:n<=100000):n<=qa:=qAK h (by decide)
theorem zku{n:Nat}(h:n<100000):n<qa:=Nat.lt_trans h (by decide)
theorem zgj{A:Addr->Prop}{H:Hp}(hA:∀b,A b->∃o,H b=some o){p:Addr}(hp:H p=none):¬A p:=λz=>by
 obtain⟨o,e⟩:=hA p z
 rw[hp]at e;cases e
theorem zni{A:Addr->Prop}{H:Hp}{p:Addr}{ds:List PyData}{xs:List V}(hp:H p=none)(r:Rps (Offs A H) ds xs):zfg (Offs (λb=>A b\/b=p) (upd H p (.lst xs))) (upd H p (.lst xs)) p (.list ds):=by
 refine⟨xs,zap,Rps.same (Offs.mono (Same.new hp) λb o e n z=>?_) _ r⟩
 rcases z with z|z
 ·exact n z
 ·rw[z,hp]at e;cases e
theorem ztc{A:Addr->Prop}{H:Hp}{p:Addr}{ds:List PyData}{xs:List V}(hp:H p=none)(hA:¬A p)(r:Rps (Offs A H) ds xs):Rp (Offs A (upd H p (.lst xs))) (.list ds) (.ref p):=
 zff (by rw[Offs.get hA];exact zap) (Rps.same (Offs.grow (Same.new hp)) _ r)
theorem zsa{A:Addr->Prop}{H:Hp}{p:Addr}{ds:List PyData}{xs:List V}(hp:H p=none)(hA:¬A p)(r:Rps (Offs A H) ds xs):Rp (Offs A (upd H p (.tup xs))) (.tuple ds) (.ref p):=
 zks (by rw[Offs.get hA];exact zap) (Rps.same (Offs.grow (Same.new hp)) _ r)
theorem zdm{A:Addr->Prop}{H:Hp}{a:Addr}{o:HO}(h:Offs A H a=some o):H a=some o:=(Offs.of h).2
noncomputable def addD:OF
 | .int i,.int j=>some (.int (i+j),false)
 | .str a,.str b=>if a.length+b.length<=100000 then some (.str (a++b),false)else none
 | .list a,.list b=>if a.length+b.length<=100000 then some (.list (a++b),true)else none
 | .tuple a,.tuple b=>if a.isEmpty=false/\a.length+b.length<=100000 then some (.tuple (a++b),false)else none
 | _,_=>none
theorem zik{K:qB}:SO (zael K) addD:=by
 intro A H x y dx dy hA rx ry d fr e Q q
 unfold addD at e
 split at e
 ·cases e
  cases zbz rx;cases zbz ry
  exact q _ H (Same.refl _) zaa (λz=>by cases z)
 ·split at e
  ·rename_i hl
   cases e
   cases zdl rx;cases zdl ry
   exact⟨zez hl,q _ H (Same.refl _) zct (λz=>by cases z)⟩
  ·cases e
 ·split at e
  ·rename_i hl
   cases e
   obtain⟨p,xs,rfl,hp,r1⟩:=zcr rx
   obtain⟨p',ys,rfl,hp',r2⟩:=zcr ry
   refine .inl ⟨p,p',xs,ys,rfl,rfl,zdm hp,zdm hp',zez (by rw[<- r1.length,<- r2.length];exact hl),λb hb=>?_⟩
   exact q _ _ (Same.new hb) (ztc hb (zgj hA hb) (r1.append r2)) λ_=>⟨b,rfl,hb,zni hb (r1.append r2)⟩
  ·cases e
 ·split at e
  ·rename_i hl
   cases e
   obtain⟨p,xs,rfl,hp,r1⟩:=zce rx
   obtain⟨p',ys,rfl,hp',r2⟩:=zce ry
   refine .inr ⟨p,p',xs,ys,rfl,rfl,SqT.of (zdm hp),SqT.of (zdm hp'),λz=>?_,zez (by rw[<- r1.length,<- r2.length];exact hl.2),λz=>?_,λ_ b hb=>?_⟩
   ·have h1:=r1.length
    have h0:=hl.1
    rw[z]at h1
    rw[List.isEmpty_eq_false_iff]at h0
    exact h0 (qAC.mp h1)
   ·have h2:=r2.length
    rw[z]at h2
    have:=qAC.mp h2
    subst this
    rw[qw]at q
    exact q _ H (Same.refl _) rx (λz=>by cases z)
   ·exact q _ _ (Same.new hb) (zsa hb (zgj hA hb) (r1.append r2)) (λz=>by cases z)
  ·cases e
 ·cases e
noncomputable def intD(c:Int->Int->Bool)(f:Int->Int->PyData):OF
 | .int i,.int j=>if c i j=true then some (f i j,false)else none
 | _,_=>none
theorem zacj{C:Int->Int->Prop}{g:Int->Int->V}{c:Int->Int->Bool}{f:Int->Int->PyData}(hc:∀i j,c i j=true->C i j)(hf:∀H i j,Rp H (f i j) (g i j)):SO (rI C g) (intD c f):=by
 intro A H x y dx dy hA rx ry d fr e Q q
 unfold intD at e
 split at e
 ·split at e
  ·rename_i h
   cases e
   cases zbz rx;cases zbz ry
   exact⟨_,_,rfl,rfl,hc _ _ h,q _ H (Same.refl _) (hf _ _ _) (λz=>by cases z)⟩
  ·cases e
 ·cases e
theorem zsb{g:Int->Int->V}{f:Int->Int->PyData}(hf:∀H i j,Rp H (f i j) (g i j)):SO (rI0 g) (intD (λ_ _=>true) f):=by
 intro A H x y dx dy hA rx ry d fr e Q q
 unfold intD at e
 split at e
 ·split at e
  ·cases e
   cases zbz rx;cases zbz ry
   exact⟨_,_,rfl,rfl,q _ H (Same.refl _) (hf _ _ _) (λz=>by cases z)⟩
  ·cases e
 ·cases e
noncomputable def leD:OF:=intD (λ_ _=>true) λi j=>.bool (decide (i<=j))
theorem zaiq:SO (rI0 λi j=>.bl (decide (i<=j))) leD:=zsb λ_ _ _=>zag
noncomputable def gtD:OF:=intD (λ_ _=>true) λi j=>.bool (decide (j<i))
theorem zair:SO (rI0 λi j=>.bl (decide (j<i))) gtD:=zsb λ_ _ _=>zag
noncomputable def geD:OF:=intD (λ_ _=>true) λi j=>.bool (decide (j<=i))
theorem zaeo:SO (rI0 λi j=>.bl (decide (j<=i))) geD:=zsb λ_ _ _=>zag
noncomputable def modD:OF:=intD (λ_ j=>decide (0<j)) λi j=>.int (i % j)
theorem zef:SO (rI (λ_ j=>0<j) λi j=>.int (i % j)) modD:=zacj (λ_ _ h=>of_decide_eq_true h) λ_ _ _=>zaa
noncomputable def zfh:OF:=intD (λ_ j=>decide (0<j/\j<1073741824)) λi j=>.int (i / j)
theorem zgk:SO (rI CDiv λi j=>.int (i / j)) zfh:=zacj (λi j h=>(of_decide_eq_true h:0<j/\j<1073741824)) λ_ _ _=>zaa
noncomputable def mulD:OF
 | .int i,.int j=>if(-(2 ^ 64)<i/\i<2 ^ 64)\/(-(2 ^ 64)<j/\j<2 ^ 64)then some (.int (i * j),false)else none
 | .str z,.int n=>if z.length<=1000/\-1000<=n/\n<=1000 then some (.str (Txt.mul z n),false)else none
 | _,_=>none
theorem zoy:SO zaio mulD:=by
 intro A H x y dx dy hA rx ry d fr e Q q
 unfold mulD at e
 split at e
 ·split at e
  ·rename_i h
   cases e
   cases zbz rx;cases zbz ry
   exact⟨h,q _ H (Same.refl _) zaa (λz=>by cases z)⟩
  ·cases e
 ·split at e
  ·rename_i h
   cases e
   cases zdl rx;cases zbz ry
   exact⟨h.1,h.2.1,h.2.2,q _ H (Same.refl _) zct (λz=>by cases z)⟩
  ·cases e
 ·cases e
mutual
theorem zoz{K:qB}{H:Hp}:∀{d:PyData}{v:V},d.canLay0=true->Rp H d v->Rep K H d v
 | .none,v,_,h=>by unfold Rp at h;unfold Rep;exact h
 | .bool b,v,_,h=>by unfold Rp at h;unfold Rep;exact h
 | .int i,v,_,h=>by unfold Rp at h;unfold Rep;exact h
 | .str x,v,_,h=>by unfold Rp at h;unfold Rep;exact h
 | .list ds,v,c,h=>by
  obtain⟨a,xs,e,h1,h2⟩:=zcr h
  unfold Rep
  exact⟨a,xs,e,SqL.of h1,rps_reps (by simpa [PyData.canLay0]using c) h2⟩
 | .tuple ds,v,c,h=>by
  obtain⟨a,xs,e,h1,h2⟩:=zce h
  unfold Rep
  exact⟨a,xs,e,SqT.of h1,rps_reps (by simpa [PyData.canLay0]using c) h2⟩
 | .dict _,v,c,h=>by simp[PyData.canLay0]at c
theorem rps_reps{K:qB}{H:Hp}:∀{ds:List PyData}{vs:List V},qA4 ds=true->Rps H ds vs->Reps K H ds vs
 | [],vs,_,h=>by unfold Rps at h;unfold Reps;exact h
 | d::ds,vs,c,h=>by
  unfold Rps at h
  obtain⟨v,ws,e,h1,h2⟩:=h
  have c:d.canLay0=true/\qA4 ds=true:=by simpa [qA4]using c
  unfold Reps
  exact⟨v,ws,e,zoz c.1 h1,rps_reps c.2 h2⟩
end
noncomputable def zaas:PyData->PyData->Bool
 | .none,.none=>true|.none,.int _=>true|.int _,.none=>true|.none,.bool _=>true|.bool _,.none=>true|.none,.str _=>true|.str _,.none=>true
 | .int _,.int _=>true|.bool _,.bool _=>true|.str _,.str _=>true
 | .int _,.str _=>true|.str _,.int _=>true|.bool _,.str _=>true|.str _,.bool _=>true
 | _,_=>false
noncomputable def eqOk(dx dy:PyData):Bool:=zaas dx dy||(qBB dx&&qBB dy)
noncomputable def eqD:OF:=λdx dy=>if eqOk dx dy=true then some (.bool (qh dx dy),false)else none
noncomputable def neD:OF:=λdx dy=>if eqOk dx dy=true then some (.bool (!PyData.eqv dx dy),false)else none
theorem zwp{H:Hp}{dx dy:PyData}{x y:V}(s:zaas dx dy=true)(rx:Rp H dx x)(ry:Rp H dy y):scal x y=true/\decide (x=y)=qh dx dy:=by
 cases dx<;>cases dy<;>first
  | (exact absurd (show false=true from s) qK)
  | (unfold Rp at rx ry;subst rx;subst ry;refine⟨rfl,?_⟩;first|rfl|exact zrt|exact zsy|exact zru|simp[qh])
theorem zwq{K:qB}:SO (λx y H Q=>rEq x y H Q\/rEqD K false x y H Q) eqD:=by
 intro A H x y dx dy hA rx ry d fr e Q q
 unfold eqD at e
 split at e
 ·rename_i h
  cases e
  cases hs:zaas dx dy with
  | true=>
   obtain⟨h1,h2⟩:=zwp hs rx ry
   exact .inl ⟨h1,by rw[h2];exact q _ H (Same.refl _) zag (λz=>by cases z)⟩
  | false=>
   unfold eqOk at h
   rw[hs,Bool.false_or,qj]at h
   have rx:=Rp.same (Offs.same A H) _ rx
   have ry:=Rp.same (Offs.same A H) _ ry
   exact .inr ⟨dx,dy,zoz (qAi h.1) rx,zoz (qAi h.2) ry,h.1,h.2,q _ H (Same.refl _) zag (λz=>by cases z)⟩
 ·cases e
theorem zwr{K:qB}:SO (λx y H Q=>rNe x y H Q\/rEqD K true x y H Q) neD:=by
 intro A H x y dx dy hA rx ry d fr e Q q
 unfold neD at e
 split at e
 ·rename_i h
  cases e
  cases hs:zaas dx dy with
  | true=>
   obtain⟨h1,h2⟩:=zwp hs rx ry
   exact .inl ⟨h1,by rw[h2];exact q _ H (Same.refl _) zag (λz=>by cases z)⟩
  | false=>
   unfold eqOk at h
   rw[hs,Bool.false_or,qj]at h
   have rx:=Rp.same (Offs.same A H) _ rx
   have ry:=Rp.same (Offs.same A H) _ ry
   exact .inr ⟨dx,dy,zoz (qAi h.1) rx,zoz (qAi h.2) ry,h.1,h.2,q _ H (Same.refl _) zag (λz=>by cases z)⟩
 ·cases e
noncomputable def zeg(ds:List PyData):Bool:=ds.all zci
theorem zack{H:Hp}{d:PyData}{v:V}(f:zci d=true)(h:Rp H d v):zgf v=true:=by
 cases d<;>first
  | (unfold Rp at h;subst h;rfl)
  | cases f
theorem zaep{H:Hp}{ds:List PyData}{vs:List V}(f:zeg ds=true)(h:Rps H ds vs):vs.all zgf=true:=by
 replace h:=zbh.mp h
 induction h with
 | nil=>rfl
 | cons h _ ih=>
  unfold zeg at f
  rw[qAq,qj]at f
  rw[qAq,zack f.1 h,ih f.2];rfl
theorem zaeq{H:Hp}{d e:PyData}{v u:V}(f:zci d=true)(g:zci e=true)(h:Rp H d v)(k:Rp H e u):eqV v u=qh d e:=by
 cases d<;>cases e<;>first
  | (unfold Rp at h k;subst h;subst k;rfl)
  | exact absurd (show false=true from f) qK
  | exact absurd (show false=true from g) qK
theorem zaer{H:Hp}{d:PyData}{v:V}(f:zci d=true)(h:Rp H d v){ds:List PyData}{vs:List V}(g:zeg ds=true)(r:Rps H ds vs):inV v vs=ds.any λe=>qh e d:=by
 replace r:=zbh.mp r
 unfold inV
 induction r with
 | nil=>rfl
 | cons r _ ih=>
  unfold zeg at g
  rw[qAq,qj]at g
  rw[qAp,qAp,zaeq g.1 f r h,ih g.2]
noncomputable def zil:PyData->Option (List PyData)
 | .list ds=>some ds
 | .tuple ds=>some ds
 | _=>none
noncomputable def inD(neg:Bool):OF:=λd c=>match zil c with
 | some ds=>if zci d=true/\zeg ds=true then some (.bool (if neg then !(ds.any λe=>qh e d)else ds.any λe=>qh e d),false)else none
 | none=>none
theorem znj{K:qB}{H:Hp}{c:PyData}{v:V}{ds:List PyData}(h:Rp H c v)(e:zil c=some ds):∃p xs,v=.ref p/\(SqL K H p xs\/SqT K H p xs)/\Rps H ds xs:=by
 cases c<;>first
  | cases e
  | skip
 ·obtain⟨a,xs,e,h1,h2⟩:=zcr h;exact⟨a,xs,e,.inl (SqL.of h1),h2⟩
 ·obtain⟨a,xs,e,h1,h2⟩:=zce h;exact⟨a,xs,e,.inr (SqT.of h1),h2⟩
theorem zalc{K:qB}{neg:Bool}:SO (rIn K neg) (inD neg):=by
 intro A H x y dx dy hA rx ry d fr e Q q
 unfold inD at e
 split at e
 ·rename_i ds hi
  split at e
  ·rename_i h
   cases e
   have rx:=Rp.same (Offs.same A H) _ rx
   obtain⟨p,xs,rfl,hq,r⟩:=znj (K:=K) (Rp.same (Offs.same A H) _ ry) hi
   refine⟨p,xs,rfl,hq,zack h.1 rx,zaep h.2 r,?_⟩
   rw[zaer h.1 rx h.2 r]
   refine q _ H (Same.refl _) ?_ (λz=>by cases z)
   cases neg<;>exact zag
  ·cases e
 ·cases e
noncomputable def ixD:OF
 | .str z,.int i=>if z.length<=100000 then(atI z.cps.toList i).map λc=>(.str ⟨#[c]⟩,false)else none
 | .list ds,.int i=>(atI ds i).map λd=>(d,false)
 | .tuple ds,.int i=>(atI ds i).map λd=>(d,false)
 | _,_=>none
theorem Rps.atI{H:Hp}{ds:List PyData}{vs:List V}(h:Rps H ds vs){i:Int}{d:PyData}(e:atI ds i=some d):∃v,L2.atI vs i=some v/\Rp H d v:=by
 unfold L2.atI at e ⊢
 rw[<- h.length]
 cases g:ixN ds.length i with
 | none=>rw[g]at e;cases e
 | some j=>
  rw[g]at e
  exact h.get2 e
theorem zaat{K:qB}:SO (rIxU K) ixD:=by
 intro A H x y dx dy hA rx ry d fr e Q q
 unfold ixD at e
 split at e
 ·split at e
  ·rename_i z i hl
   obtain⟨c,hc,e⟩:=qG.mp e
   cases e
   cases zdl rx;cases zbz ry
   exact⟨zez hl,c,hc,q _ H (Same.refl _) zct (λz=>by cases z)⟩
  ·cases e
 ·obtain⟨c,hc,e⟩:=qG.mp e
  cases e
  obtain⟨p,xs,rfl,hp,r⟩:=zcr rx
  cases zbz ry
  obtain⟨v,hv,rv⟩:=r.atI hc
  exact⟨xs,v,.inl (SqL.of (zdm hp)),hv,q _ H (Same.refl _) rv (λz=>by cases z)⟩
 ·obtain⟨c,hc,e⟩:=qG.mp e
  cases e
  obtain⟨p,xs,rfl,hp,r⟩:=zce rx
  cases zbz ry
  obtain⟨v,hv,rv⟩:=r.atI hc
  exact⟨xs,v,.inr (SqT.of (zdm hp)),hv,q _ H (Same.refl _) rv (λz=>by cases z)⟩
 ·cases e
noncomputable def zaes:List (PyData×PyData)->Key->Option PyData
 | [],_=>none
 | (k,d)::r,j=>if keyD k=some j then some d else zaes r j
noncomputable def zald(kvs:List (PyData×PyData))(k:PyData)(d:PyData):List (PyData×PyData):=
 if(kvs.any λkv=>decide (keyD kv.1=keyD k))=true then kvs.map (λkv=>if keyD kv.1=keyD k then(kv.1,d)else kv)else kvs++[(k,d)]
noncomputable def zaet(kvs more:List (PyData×PyData)):List (PyData×PyData):=more.foldl (λacc kv=>zald acc kv.1 kv.2) kvs
theorem zuu{H:Hp}{k d:PyData}{r:List (PyData×PyData)}{ps:List (Key×V)}(h:Rpd H ((k,d)::r) ps):∃k' v vs,ps=(k',v)::vs/\keyD k=some k'/\Rp H d v/\Rpd H r vs:=by
 unfold Rpd at h;exact h
theorem Rpd.length{H:Hp}:∀{kvs:List (PyData×PyData)}{ps:List (Key×V)},Rpd H kvs ps->kvs.length=ps.length
 | [],ps,h=>by unfold Rpd at h;subst h;rfl
 | (k,d)::r,ps,h=>by
  obtain⟨k',v,vs,rfl,_,_,h3⟩:=zuu h
  rw[qAw,qAw,h3.length]
noncomputable def zbv(f:EF):TF:=λenv=>(f env).bind λr=>match r.d with|.bool b=>some b|_=>none
theorem st_b{te:TE}{f:EF}(h:SE te f):ST (tB te) (zbv f):=by
 intro fx H0 env σ H hE b hb Q q
 unfold zbv at hb
 obtain⟨⟨d,fr,bs⟩,e,hb⟩:=qA.mp hb
 cases d with
 | bool c=>
  have hb:some c=some b:=hb
  cases hb
  exact h fx H0 env σ H hE _ e _ λv H' s v1=>⟨_,zey v1.rp,q H' s⟩
 | _=>cases hb
theorem st_t{te:TE}{f:EF}(h:SE te f):ST (tTest te) (zbv f):=st_b h
noncomputable def truD:PyData->Option Bool
 | .none=>some false
 | .bool b=>some b
 | .int i=>some (i != 0)
 | .str x=>if x.length<=100000 then some ((x.length:Int) != 0)else none
 | .list ds=>some (!ds.isEmpty)
 | .tuple ds=>some (!ds.isEmpty)
 | .dict ds=>some (!ds.isEmpty)
noncomputable def tTru(f:EF):TF:=λenv=>(f env).bind λr=>truD r.d
theorem zia{α β:Type}{xs:List α}{ys:List β}(h:xs.length=ys.length):xs.isEmpty=ys.isEmpty:=by
 cases xs<;>cases ys<;>simp at h<;>rfl
theorem zale{K:qB}{H:Hp}{d:PyData}{v:V}{b:Bool}(h:Rp H d v)(e:truD d=some b):TruV K v H b:=by
 cases d with
 | none=>cases e;cases zkr h;rfl
 | bool c=>cases e;cases zey h;rfl
 | int i=>cases e;cases zbz h;rfl
 | str x=>
  have e:(if x.length<=100000 then some ((x.length:Int) != 0)else none)=some b:=e
  split at e
  ·rename_i hl;cases e;cases zdl h;exact⟨zez hl,rfl⟩
  ·cases e
 | list ds=>cases e;obtain⟨a,xs,rfl,h1,h2⟩:=zcr h;exact .inl ⟨xs,SqL.of h1,by rw[zia h2.length]⟩
 | tuple ds=>cases e;obtain⟨a,xs,rfl,h1,h2⟩:=zce h;exact .inr (.inl ⟨xs,SqT.of h1,by rw[zia h2.length]⟩)
 | dict ds=>cases e;obtain⟨a,xs,rfl,h1,h2⟩:=zkq h;exact .inr (.inr ⟨xs,h1,by rw[zia h2.length]⟩)
theorem zbr{K:qB}{te:TE}{f:EF}(h:SE te f):ST (λσ H Q=>te σ H λx H1=>∃k,TruV K x H1 k/\Q k H1) (tTru f):=by
 intro fx H0 env σ H hE b hb Q q
 unfold tTru at hb
 obtain⟨r,e,hb⟩:=qA.mp hb
 exact h fx H0 env σ H hE _ e _ λv H' s v1=>⟨b,zale (Rp.same (Offs.same _ _) _ v1.rp) hb,q H' s⟩
noncomputable def tOrF(f g:TF):TF:=λenv=>(f env).bind λb=>if b=true then some true else g env
noncomputable def zbb(f:TF):TF:=λenv=>(f env).map λb=>!b
theorem zfi{t u:TT}{f g:TF}(h:ST t f)(k:ST u g):ST (tOr t u) (tOrF f g):=by
 intro fx H0 env σ H hE b hb Q q
 unfold tOrF at hb
 obtain⟨c,e,hb⟩:=qA.mp hb
 refine h fx H0 env σ H hE c e _ λH' s=>?_
 cases c with
 | false=>exact iteF (k fx H0 env σ H' (hE.up s) b hb _ λH'' s'=>q H'' (s.trans s'))
 | true=>cases hb;exact iteT (q H' s)
theorem zbp{t:TT}{f:TF}(h:ST t f):ST (tNot t) (zbb f):=by
 intro fx H0 env σ H hE b hb Q q
 unfold zbb at hb
 obtain⟨c,e,rfl⟩:=qG.mp hb
 exact h fx H0 env σ H hE c e _ λH' s=>q H' s
noncomputable def asB:PyData->Option Bool|.bool b=>some b|_=>none
noncomputable def eAnd(a b:EF):EF:=λenv=>(a env).bind λx=>(asB x.d).bind λc=>if c=true then b env else some ⟨.bool false,false,[]⟩
noncomputable def eNot(a:EF):EF:=λenv=>(a env).bind λx=>(asB x.d).map λc=>⟨.bool (!c),false,[]⟩
theorem as_b{H:Hp}{d:PyData}{v:V}{c:Bool}(h:Rp H d v)(e:asB d=some c):v=.bl c:=by
 cases d<;>first
  | (cases e;exact zey h)
  | cases e
theorem zais{ta tb:TE}{fa fb:EF}(ha:SE ta fa)(hb:SE tb fb):SE (tAndV ta tb) (eAnd fa fb):=by
 intro fx H0 env σ H h rr hr Q q
 unfold eAnd at hr
 obtain⟨x,ex,hr⟩:=qA.mp hr
 obtain⟨c,ec,hr⟩:=qA.mp hr
 refine ha fx H0 env σ H h _ ex _ λv H1 s1 v1=>⟨c,as_b v1.rp ec,?_⟩
 cases c with
 | true=>exact iteT (hb fx H0 env σ H1 (h.up s1) _ hr _ λu H2 s2 v2=>q u H2 (s1.trans s2) (v2.later s1 (Same.refl _) λ_ z=>z))
 | false=>cases hr;exact iteF (q _ H1 s1 ⟨zag,λz=>by cases z⟩)
noncomputable def aNil:AF:=λ_=>some []
noncomputable def zae(a:EF)(r:AF):AF:=λenv=>(a env).bind λx=>(r env).map λxs=>x::xs
theorem zao:SA tNil aNil:=by
 intro fx H0 env σ H h rs hr Q q
 cases hr
 exact q [] H (Same.refl _) .nil
theorem zaf{te:TE}{ta:TA}{f:EF}{g:AF}(h1:SE te f)(h2:SA ta g):SA (tCons te ta) (zae f g):=by
 intro fx H0 env σ H h rs hr Q q
 unfold zae at hr
 obtain⟨x,ex,hr⟩:=qA.mp hr
 obtain⟨xs,exs,rfl⟩:=qG.mp hr
 exact h1 fx H0 env σ H h x ex _ λv H1 s1 v1=>h2 fx H0 env σ H1 (h.up s1) xs exs _ λvs H2 s2 vs2=>q (v::vs) H2 (s1.trans s2)
  (.cons (v1.later (Same.refl _) s2 λ_ z=>z) (Paired.mapP vs2 λ_ _ z=>z.later s1 (Same.refl _) λ_ y=>y))
noncomputable def zer(rs:List Val):List PyData:=rs.map (·.d)
noncomputable def bss(rs:List Val):List Nat:=rs.flatMap (·.bs)
theorem zej{fx:Addr->Prop}{env:DEnv}{σ:St}{H H':Hp}:∀{rs:List Val}{vs:List V}{cs:List Nat},(∀i∈bss rs,i∈cs)->Paired (λr v=>ValOk (lim fx env σ r.bs) H H' r v) rs vs->Rps (Offs (lim fx env σ cs) H') (zer rs) vs
 | _,_,_,_,.nil=>zdd
 | r::rs,v::vs,cs,hc,.cons h t=>zde (Rp.same (Offs.sub (zfv λi hi=>hc i (qB9.mpr ⟨r,qf,hi⟩))) _ h.rp)
   (zej (λi hi=>hc i (by obtain⟨x,h1,h2⟩:=qB9.mp hi;exact qB9.mpr ⟨x,qL _ h1,h2⟩)) t)
noncomputable def eTup(f:AF):EF:=λenv=>(f env).bind λrs=>if rs.length<=100000 then some ⟨.tuple (zer rs),false,bss rs⟩else none
noncomputable def eLst(f:AF):EF:=λenv=>(f env).bind λrs=>if rs.length<=100000 then some ⟨.list (zer rs),true,bss rs⟩else none
theorem zen(rs:List Val):(zer rs).length=rs.length:=by unfold zer;rw[qD]
theorem zws{ta:TA}{f:AF}(ha:SA ta f):SE (tTup ta) (eTup f):=by
 intro fx H0 env σ H h rr hr Q q
 unfold eTup at hr
 obtain⟨rs,er,hr⟩:=qA.mp hr
 split at hr
 ·rename_i hl
  cases hr
  refine ha fx H0 env σ H h rs er _ λvs H1 s1 v1=>?_
  have r:=zej (λi hi=>hi) v1
  have hA:=(h.up s1).lims (bss rs)
  refine⟨zez (by rw[<- r.length,zen];exact hl),λp hp=>q _ _ (s1.trans (Same.new hp)) ⟨zsa hp (zgj hA hp) r,λz=>by cases z⟩⟩
 ·cases hr
theorem zmi{ta:TA}{f:AF}(ha:SA ta f):SE (tLst ta) (eLst f):=by
 intro fx H0 env σ H h rr hr Q q
 unfold eLst at hr
 obtain⟨rs,er,hr⟩:=qA.mp hr
 split at hr
 ·rename_i hl
  cases hr
  refine ha fx H0 env σ H h rs er _ λvs H1 s1 v1=>?_
  have r:=zej (λi hi=>hi) v1
  have hA:=(h.up s1).lims (bss rs)
  refine⟨zez (by rw[<- r.length,zen];exact hl),λp hp=>q _ _ (s1.trans (Same.new hp)) ⟨ztc hp (zgj hA hp) r,λ_=>⟨p,rfl,s1.free hp,zni hp r⟩⟩⟩
 ·cases hr
noncomputable abbrev GF:=List PyData->Option (PyData×Bool)
noncomputable def SC(r:List V->Hp->VK->Prop)(g:GF):Prop:=∀(A:Addr->Prop)(H:Hp)(vs:List V)(ds:List PyData),(∀b,A b->∃o,H b=some o)->Rps (Offs A H) ds vs->∀d fr,g ds=some (d,fr)->∀Q:VK,
 (∀v H',Same H H'->Rp (Offs A H') d v->(fr=true->∃a,v=.ref a/\H a=none/\zfg (Offs (λb=>A b\/b=a) H') H' a d)->Q v H')->r vs H Q
noncomputable def eCB(g:GF)(f:AF):EF:=λenv=>(f env).bind λrs=>(g (zer rs)).bind λz=>some ⟨z.1,z.2,bsOf z.1 (bss rs)⟩
theorem zfj{r:List V->Hp->VK->Prop}{g:GF}{ta:TA}{f:AF}(hc:SC r g)(ha:SA ta f):SE (tCB r ta) (eCB g f):=by
 intro fx H0 env σ H h rr hr Q q
 unfold eCB at hr
 obtain⟨rs,er,hr⟩:=qA.mp hr
 obtain⟨⟨d,fr⟩,ez,hr⟩:=qA.mp hr
 cases hr
 refine ha fx H0 env σ H h rs er _ λvs H1 s1 v1=>hc (lim fx env σ (bss rs)) H1 vs (zer rs) ((h.up s1).lims _) (zej (λi hi=>hi) v1) d fr ez _ λw H3 s3 rp fr3=>q w H3 (s1.trans s3) ⟨znh rp,λe=>?_⟩
 obtain⟨a,g1,g2,g3⟩:=fr3 e
 refine⟨a,g1,s1.free g2,?_⟩
 have nf:zci d=false:=by cases d<;>first|rfl|exact g3.elim
 show zfg (Offs (λb=>lim fx env σ (bsOf d (bss rs)) b\/b=a) H3) H3 a d
 rw[show bsOf d (bss rs)=bss rs by unfold bsOf;rw[if_neg (by rw[nf];decide)]]
 exact g3
theorem rps1{H:Hp}{d:PyData}{vs:List V}(h:Rps H [d] vs):∃v,vs=[v]/\Rp H d v:=by
 unfold Rps at h
 obtain⟨v,ws,rfl,h1,h2⟩:=h
 unfold Rps at h2
 subst h2
 exact⟨v,rfl,h1⟩
theorem rps2{H:Hp}{d e:PyData}{vs:List V}(h:Rps H [d,e] vs):∃v u,vs=[v,u]/\Rp H d v/\Rp H e u:=by
 unfold Rps at h
 obtain⟨v,ws,rfl,h1,h2⟩:=h
 obtain⟨u,rfl,h3⟩:=rps1 h2
 exact⟨v,u,rfl,h1,h3⟩
noncomputable def lenD:GF
 | [.str x]=>if x.length<=100000 then some (.int x.length,false)else none
 | [.list ds]=>some (.int ds.length,false)
 | [.tuple ds]=>some (.int ds.length,false)
 | _=>none
theorem zeu{K:qB}:SC (λxs H Q=>∃x n,xs=[x]/\LenV K x H n/\Q (.int n) H) lenD:=by
 intro A H vs ds hA rv d fr e Q q
 unfold lenD at e
 split at e
 ·split at e
  ·rename_i hl
   cases e
   obtain⟨v,rfl,r⟩:=rps1 rv
   cases zdl r
   exact⟨_,_,rfl,⟨zez hl,rfl⟩,q _ H (Same.refl _) zaa (λz=>by cases z)⟩
  ·cases e
 ·cases e
  obtain⟨v,rfl,r⟩:=rps1 rv
  obtain⟨a,xs,rfl,h1,h2⟩:=zcr r
  exact⟨_,_,rfl,.inl ⟨xs,SqL.of (zdm h1),rfl⟩,by rw[<- h2.length];exact q _ H (Same.refl _) zaa (λz=>by cases z)⟩
 ·cases e
  obtain⟨v,rfl,r⟩:=rps1 rv
  obtain⟨a,xs,rfl,h1,h2⟩:=zce r
  exact⟨_,_,rfl,.inr ⟨xs,SqT.of (zdm h1),rfl⟩,by rw[<- h2.length];exact q _ H (Same.refl _) zaa (λz=>by cases z)⟩
 ·cases e
noncomputable def minD:GF
 | [.int i,.int j]=>some (.int (if j<i then j else i),false)
 | _=>none
theorem zait:SC (λxs H Q=>∃i j,xs=[.int i,.int j]/\Q (.int (if j<i then j else i)) H) minD:=by
 intro A H vs ds hA rv d fr e Q q
 unfold minD at e
 split at e
 ·cases e
  obtain⟨v,u,rfl,r1,r2⟩:=rps2 rv
  cases zbz r1;cases zbz r2
  exact⟨_,_,rfl,q _ H (Same.refl _) zaa (λz=>by cases z)⟩
 ·cases e
noncomputable def zim:GF
 | [c]=>(zil c).map λds=>(.list ds,true)
 | _=>none
theorem zsc{K:qB}:SC (λxs H Q=>∃p ys,xs=[.ref p]/\(SqL K H p ys\/SqT K H p ys)/\∀l,H l=none->Q (.ref l) (upd H l (.lst ys))) zim:=by
 intro A H vs ds hA rv d fr e Q q
 unfold zim at e
 split at e
 ·obtain⟨es,he,e⟩:=qG.mp e
  cases e
  obtain⟨v,rfl,r1⟩:=rps1 rv
  obtain⟨p,xs,rfl,hq,r⟩:=znj (K:=K) r1 he
  refine⟨p,xs,rfl,hq.imp (Offs.same A H).seq (SqT.same (Offs.same A H)),λl hl=>?_⟩
  exact q _ _ (Same.new hl) (ztc hl (zgj hA hl) r) λ_=>⟨l,rfl,hl,zni hl r⟩
 ·cases e
noncomputable def zmj:List PyData->Option (List Bool)
 | []=>some []
 | .bool b::r=>(zmj r).map λbs=>b::bs
 | _=>none
theorem zpa{H:Hp}:∀{ds:List PyData}{vs:List V}{bs:List Bool},Rps H ds vs->zmj ds=some bs->vs=bs.map V.bl
 | [],vs,bs,h,e=>by unfold Rps at h;cases e;exact h
 | d::ds,vs,bs,h,e=>by
  unfold Rps at h
  obtain⟨v,ws,rfl,h1,h2⟩:=h
  cases d with
  | bool b=>
   obtain⟨cs,ec,rfl⟩:=qG.mp e
   rw[zey h1,zpa h2 ec];rfl
  | _=>cases e
noncomputable def anyD(f:List Bool->Bool):GF
 | [.list ds]=>(zmj ds).map λbs=>(.bool (f bs),false)
 | _=>none
theorem zacl{K:qB}{f:List Bool->Bool}:SC (rAny K f) (anyD f):=by
 intro A H vs ds hA rv d fr e Q q
 unfold anyD at e
 split at e
 ·obtain⟨bs,he,e⟩:=qG.mp e
  cases e
  obtain⟨v,rfl,r1⟩:=rps1 rv
  obtain⟨p,xs,rfl,h1,r⟩:=zcr r1
  cases zpa r he
  exact⟨p,bs,rfl,SqL.of (zdm h1),q _ H (Same.refl _) zag (λz=>by cases z)⟩
 ·cases e
noncomputable def zin:PyData->String
 | .none=>"NoneType"|.bool _=>"bool"|.int _=>"int"|.str _=>"str"|.list _=>"list"|.tuple _=>"tuple"|.dict _=>"dict"
theorem zaiu{K:qB}{H:Hp}{d:PyData}{v:V}(h:Rp H d v):TyOf K H v (.type (zin d)):=by
 cases d with
 | list ds=>obtain⟨a,xs,rfl,h1,_⟩:=zcr h;exact .lst h1
 | tuple ds=>obtain⟨a,xs,rfl,h1,_⟩:=zce h;exact .tup h1
 | dict ds=>obtain⟨a,xs,rfl,h1,_⟩:=zkq h;exact .dK h1
 | none=>cases zkr h;exact .non
 | bool b=>cases zey h;exact .bl _
 | int b=>cases zbz h;exact .int _
 | str b=>cases zdl h;exact .str _
noncomputable def isiB(n:String)(d:PyData):Bool:=zin d==n||(zin d=="bool"&&n=="int")
noncomputable def eIsi(n:String)(a:EF):EF:=λenv=>(a env).map λx=>⟨.bool (isiB n x.d),false,[]⟩
theorem zho{K:qB}{n:String}{te:TE}{f:EF}(h1:SE te f)(hk:∀d,PySem.W.kitOne K (.type (zin d)) (.type n)=some (isiB n d)) :
  SE (tCB (λxs H Q=>∃x n t b,xs=[x,.ty n]/\TyOf K H x t/\PySem.W.kitOne K t (.type n)=some b/\Q (.bl b) H) (tCons te (tCons (tC (.ty n)) tNil))) (eIsi n f):=by
 intro fx H0 env σ H h rr hr Q q
 unfold eIsi at hr
 obtain⟨x,ex,rfl⟩:=qG.mp hr
 refine h1 fx H0 env σ H h _ ex _ λv H1 s1 v1=>?_
 exact⟨v,n,_,_,rfl,zaiu (Rp.same (Offs.same _ _) _ v1.rp),hk _,q _ H1 s1 ⟨zag,λz=>by cases z⟩⟩
theorem zhe{K:qB}:∀d,PySem.W.kitOne K (.type (zin d)) (.type "list")=some (isiB "list" d):=by intro d;cases d<;>rfl
theorem zpb{K:qB}:∀d,PySem.W.kitOne K (.type (zin d)) (.type "tuple")=some (isiB "tuple" d):=by intro d;cases d<;>rfl
theorem zwt{K:qB}:∀d,PySem.W.kitOne K (.type (zin d)) (.type "str")=some (isiB "str" d):=by intro d;cases d<;>rfl
theorem zaau{K:qB}:∀d,PySem.W.kitOne K (.type (zin d)) (.type "bool")=some (isiB "bool" d):=by intro d;cases d<;>rfl
noncomputable abbrev PF':=DEnv->Option (Option Int)
noncomputable def SPt(t:TO)(f:PF'):Prop:=∀(fx:Addr->Prop)(H0:Hp)(env:DEnv)(σ:St)(H:Hp),EnvOk fx H0 env σ H->∀r,f env=some r->∀Q:Option Int->Hp->Prop,(∀H',Same H H'->Q r H')->t σ H Q
noncomputable def zkc:PF':=λ_=>some none
noncomputable def zfa(a:EF):PF':=λenv=>(a env).bind λx=>match x.d with|.int i=>some (some i)|_=>none
theorem znk:SPt tNoPart zkc:=by
 intro fx H0 env σ H h r hr Q q
 cases hr
 exact q H (Same.refl _)
theorem zjj{te:TE}{f:EF}(h1:SE te f):SPt (tPart te) (zfa f):=by
 intro fx H0 env σ H h r hr Q q
 unfold zfa at hr
 obtain⟨⟨d,fr,bs⟩,ex,hr⟩:=qA.mp hr
 cases d with
 | int i=>
  cases hr
  exact h1 fx H0 env σ H h _ ex _ λv H1 s1 v1=>⟨i,zbz v1.rp,q H1 s1⟩
 | _=>cases hr
noncomputable def cutD(xs:List PyData)(lo hi:Option Int):List PyData:=(xs.drop (HT.sIx xs.length 0 lo)).take (HT.sIx xs.length xs.length hi - HT.sIx xs.length 0 lo)
theorem Rps.drop{H:Hp}{ds:List PyData}{vs:List V}(h:Rps H ds vs)(n:Nat):Rps H (ds.drop n) (vs.drop n):=by
 induction n generalizing ds vs with
 | zero=>exact h
 | succ n ih=>
  cases ds with
  | nil=>unfold Rps at h;subst h;exact zdd
  | cons d ds=>unfold Rps at h;obtain⟨v,ws,rfl,h1,h2⟩:=h;exact ih h2
theorem Rps.take{H:Hp}{ds:List PyData}{vs:List V}(h:Rps H ds vs)(n:Nat):Rps H (ds.take n) (vs.take n):=by
 induction n generalizing ds vs with
 | zero=>exact zdd
 | succ n ih=>
  cases ds with
  | nil=>unfold Rps at h;subst h;exact zdd
  | cons d ds=>unfold Rps at h;obtain⟨v,ws,rfl,h1,h2⟩:=h;exact zde h1 (ih h2)
theorem Rps.cut{H:Hp}{ds:List PyData}{vs:List V}(h:Rps H ds vs)(lo hi:Option Int):Rps H (cutD ds lo hi) (cutV vs lo hi):=by
 unfold cutD cutV
 rw[<- h.length]
 exact(h.drop _).take _
noncomputable def slD(d:PyData)(lo hi:Option Int):Option (PyData×Bool):=match d with
 | .str z=>if z.length<=100000 then some (.str (Txt.slice z lo hi),false)else none
 | .list ds=>some (.list (cutD ds lo hi),true)
 | _=>none
noncomputable def eSl(a:EF)(l h:PF'):EF:=λenv=>(a env).bind λx=>(l env).bind λlo=>(h env).bind λhi=>(slD x.d lo hi).bind λz=>some ⟨z.1,z.2,bsOf z.1 x.bs⟩
theorem zwu{K:qB}{te:TE}{tl th:TO}{f:EF}{fl fh:PF'}(h1:SE te f)(h2:SPt tl fl)(h3:SPt th fh):SE (tSl (rSlU K) te tl th) (eSl f fl fh):=by
 intro fx H0 env σ H h rr hr Q q
 unfold eSl at hr
 obtain⟨⟨d,frd,bs⟩,ex,hr⟩:=qA.mp hr
 obtain⟨lo,el,hr⟩:=qA.mp hr
 obtain⟨hi,eh,hr⟩:=qA.mp hr
 obtain⟨⟨d',fr'⟩,ez,hr⟩:=qA.mp hr
 cases hr
 refine h1 fx H0 env σ H h _ ex _ λv H1 s1 v1=>h2 fx H0 env σ H1 (h.up s1) _ el _ λH2 s2=>h3 fx H0 env σ H2 (h.up (s1.trans s2)) _ eh _ λH3 s3=>?_
 have v3:=(v1.later (Same.refl _) (s2.trans s3) λ_ z=>z).rp
 have t3:=(s1.trans s2).trans s3
 cases d with
 | str z=>
  have ez:(if z.length<=100000 then some (PyData.str (Txt.slice z lo hi),false)else none)=some (d',fr'):=ez
  split at ez
  ·rename_i hl
   cases ez
   cases zdl v3
   exact⟨zez hl,q _ H3 t3 ⟨zct,λz=>by cases z⟩⟩
  ·cases ez
 | list ds=>
  cases ez
  obtain⟨p,xs,rfl,hp,r⟩:=zcr v3
  refine⟨p,xs,rfl,SqL.of (zdm hp),λl hl=>q _ _ (t3.trans (Same.new hl)) ?_⟩
  have hA:=(h.up t3).lims bs
  exact⟨ztc hl (zgj hA hl) (r.cut lo hi),λ_=>⟨l,rfl,t3.free hl,zni hl (r.cut lo hi)⟩⟩
 | _=>cases ez
noncomputable def zsd(fx:Addr->Prop)(H0:Hp)(d:PyData)(fr:Bool)(v:V)(H:Hp):Prop:=Rp (Offs fx H) d v/\(fr=true->∃a,v=.ref a/\H0 a=none/\zfg (Offs (λb=>fx b\/b=a) H) H a d)
noncomputable def spD(n:Nat)(g:GF):Sp:=λvs H Q _=>∃(fx:Addr->Prop)(ds:List PyData)(d:PyData)(fr:Bool),ds.length=n/\(∀b,fx b->∃o,H b=some o)/\Rps (Offs fx H) ds vs/\g ds=some (d,fr)/\∀v H',Same H H'->zsd fx H d fr v H'->Q v H'
noncomputable def zbt(n:Nat)(g:GF)(f:AF):EF:=λenv=>(f env).bind λrs=>if rs.length=n then(g (zer rs)).bind λz=>some ⟨z.1,z.2,bsOf z.1 (bss rs)⟩else none
theorem zbl{n:Nat}{g:GF}{ta:TA}{f:AF}(ha:SA ta f):SE (tCall (spD n g) [] E0 ta) (zbt n g f):=by
 intro fx H0 env σ H h rr hr Q q
 unfold zbt at hr
 obtain⟨rs,er,hr⟩:=qA.mp hr
 split at hr
 ·rename_i hn
  obtain⟨⟨d,fr⟩,ez,hr⟩:=qA.mp hr
  cases hr
  refine ha fx H0 env σ H h rs er _ λvs H1 s1 v1=>?_
  rw[qw]
  refine⟨lim fx env σ (bss rs),zer rs,d,fr,by rw[zen];exact hn,(h.up s1).lims _,zej (λi hi=>hi) v1,ez,λw H3 s3 ⟨rp,fr3⟩=>q w H3 (s1.trans s3) ⟨znh rp,λe=>?_⟩⟩
  obtain⟨a,g1,g2,g3⟩:=fr3 e
  refine⟨a,g1,s1.free g2,?_⟩
  have nf:zci d=false:=by cases d<;>first|rfl|exact g3.elim
  show zfg (Offs (λb=>lim fx env σ (bsOf d (bss rs)) b\/b=a) H3) H3 a d
  rw[show bsOf d (bss rs)=bss rs by unfold bsOf;rw[if_neg (by rw[nf];decide)]]
  exact g3
 ·cases hr
inductive Out where
 | nx (env:DEnv)
 | bk (env:DEnv)
 | ct (env:DEnv)
 | rt (d:PyData) (fr:Bool)
noncomputable def Sat(fx:Addr->Prop)(H0:Hp)(D:Ends):Out->Prop
 | .nx env=>∀σ H,EnvOk fx H0 env σ H->D.nx σ H
 | .bk env=>∀σ H,EnvOk fx H0 env σ H->D.bk σ H
 | .ct env=>∀σ H,EnvOk fx H0 env σ H->D.ct σ H
 | .rt d fr=>∀v H,Same H0 H->zsd fx H0 d fr v H->D.rt v H
noncomputable abbrev SF:=DEnv->Option Out
noncomputable def SS(ts:TS)(F:SF):Prop:=∀(fx:Addr->Prop)(H0:Hp)(env:DEnv)(σ:St)(H:Hp)(D:Ends),EnvOk fx H0 env σ H->∀o,F env=some o->Sat fx H0 D o->ts D σ H
noncomputable def frz1(env:DEnv)(i:Nat):DEnv:=match env[i]? with
 | some (.ac d)=>env.set i (.pl d)
 | _=>env
noncomputable def frzs(env:DEnv)(bs:List Nat):DEnv:=bs.foldl frz1 env
theorem ztd(env:DEnv)(i:Nat):(frz1 env i).length=env.length:=by
 unfold frz1;split
 ·rw[qN]
 ·rfl
theorem zbc{α:Type}{l:List α}{i j:Nat}{x y:α}(h:(l.set i x)[j]?=some y):(j=i/\y=x)\/(j≠i/\l[j]?=some y):=by
 rw[qBS]at h
 by_cases e:i=j
 ·subst e
  rw[if_pos rfl]at h
  split at h
  ·exact .inl ⟨rfl,(qq h).symm⟩
  ·cases h
 ·rw[if_neg e]at h
  exact .inr ⟨λz=>e z.symm,h⟩
theorem zjk{env:DEnv}{i j:Nat}{d:PyData}(h:(frz1 env i)[j]?=some (.ac d)):env[j]?=some (.ac d)/\j≠i:=by
 unfold frz1 at h
 split at h
 ·rcases zbc h with⟨_,e⟩|⟨e,h⟩
  ·cases e
  ·exact⟨h,e⟩
 ·rename_i hn
  refine⟨h,λe=>?_⟩
  subst e
  exact hn d h
theorem zaeu{env:DEnv}{i j:Nat}{d:PyData}(h:(frz1 env i)[j]?=some (.pl d)):env[j]?=some (.pl d)\/(j=i/\env[i]?=some (.ac d)):=by
 unfold frz1 at h
 split at h
 ·rename_i d' hd
  rcases zbc h with⟨e1,e⟩|⟨e,h⟩
  ·cases e;exact .inr ⟨e1,hd⟩
  ·exact .inl h
 ·exact .inl h
theorem zte{env:DEnv}{σ:St}{i:Nat}:∀a,own (frz1 env i) σ a->own env σ a:=by
 rintro a ⟨j,d,h1,h2⟩
 exact⟨j,d,(zjk h1).1,h2⟩
theorem EnvOk.frz1{fx:Addr->Prop}{H0:Hp}{env:DEnv}{σ:St}{H:Hp}(h:EnvOk fx H0 env σ H)(i:Nat):EnvOk fx H0 (frz1 env i) σ H:=by
 have so:Same (Offs (λa=>fx a\/own env σ a) H) (Offs (λa=>fx a\/own (L2.frz1 env i) σ a) H):=Offs.sub λb z=>z.imp (λy=>y) (zte b)
 refine⟨by rw[ztd];exact h.len,λj d e=>?_,λj d e=>?_,λj k d d' a h1 h2 h3 h4=>h.inj j k d d' a (zjk h1).1 (zjk h2).1 h3 h4,h.base,h.fxs⟩
 ·rcases zaeu e with e|⟨rfl,e⟩
  ·obtain⟨v,h1,h2⟩:=h.pl j d e
   exact⟨v,h1,Rp.same so _ h2⟩
  ·obtain⟨a,h1,h2,h3,h4⟩:=h.ac j d e
   refine⟨_,h1,h4.rp so λo eo=>?_⟩
   rw[Offs.get]
   ·exact eo
   ·rintro(z|⟨k,d',z1,z2⟩)
    ·exact h3 z
    ·obtain⟨z1,z3⟩:=zjk z1
     exact z3 (h.inj k j d' d a z1 e z2 h1)
 ·obtain⟨a,h1,h2,h3,h4⟩:=h.ac j d (zjk e).1
  exact⟨a,h1,h2,h3,h4.same so λo z=>z⟩
theorem EnvOk.frzs{fx:Addr->Prop}{H0:Hp}{σ:St}{H:Hp}:∀(bs:List Nat){env:DEnv},EnvOk fx H0 env σ H->EnvOk fx H0 (frzs env bs) σ H
 | [],_,h=>h
 | i::bs,_,h=>EnvOk.frzs bs (h.frz1 i)
theorem zwv:∀{bs:List Nat}{env:DEnv}{j:Nat}{d:PyData},(frzs env bs)[j]?=some (.ac d)->env[j]?=some (.ac d)/\j∉bs
 | [],_,_,_,h=>⟨h,by simp⟩
 | i::bs,env,j,d,h=>by
  obtain⟨h1,h2⟩:=zwv (bs:=bs) h
  obtain⟨h3,h4⟩:=zjk h1
  exact⟨h3,by simp[h4,h2]⟩
theorem zhf{fx:Addr->Prop}{env:DEnv}{σ:St}{bs:List Nat}:∀a,fx a\/own (frzs env bs) σ a->lim fx env σ bs a:=by
 rintro a (z|⟨i,d,h1,h2⟩)
 ·exact .inl z
 ·obtain⟨h3,h4⟩:=zwv h1
  exact .inr ⟨i,d,h4,h3,h2⟩
theorem znl:∀(bs:List Nat)(env:DEnv),(frzs env bs).length=env.length
 | [],_=>rfl
 | i::bs,env=>(znl bs _).trans (ztd env i)
theorem zww{env:DEnv}{σ:St}{i:Nat}{d:PyData}{v:V}:∀a,own (env.set i (.pl d)) (σ.set i (some v)) a->own env σ a:=by
 rintro a ⟨j,e,h1,h2⟩
 rcases zbc h1 with⟨_,z⟩|⟨ne,h1⟩
 ·cases z
 ·rcases zbc h2 with⟨z,_⟩|⟨_,h2⟩
  ·exact absurd z ne
  ·exact⟨j,e,h1,h2⟩
theorem EnvOk.setPl{fx:Addr->Prop}{H0:Hp}{env:DEnv}{σ:St}{H:Hp}(h:EnvOk fx H0 env σ H)(i:Nat){d:PyData}{v:V}(r:Rp (Offs (λa=>fx a\/own env σ a) H) d v):EnvOk fx H0 (env.set i (.pl d)) (σ.set i (some v)) H:=by
 have so:Same (Offs (λa=>fx a\/own env σ a) H) (Offs (λa=>fx a\/own (env.set i (.pl d)) (σ.set i (some v)) a) H):=Offs.sub λb z=>z.imp (λy=>y) (zww b)
 have kept:∀{j:Nat},j≠i->(σ.set i (some v))[j]?=σ[j]?:=λ{j} n=>qJ λz=>n z.symm
 refine⟨by rw[qN,qN];exact h.len,λj e hj=>?_,λj e hj=>?_,λj k d1 d2 a h1 h2 h3 h4=>?_,h.base,h.fxs⟩
 ·rcases zbc hj with⟨rfl,z⟩|⟨ne,hj'⟩
  ·cases z
   have hl:j<env.length:=by have:=(qI.mp hj).1;rwa [qN]at this
   exact⟨v,by rw[qd (by rw[<- h.len];exact hl)],Rp.same so _ r⟩
  ·obtain⟨u,h1,h2⟩:=h.pl j e hj'
   exact⟨u,by rw[kept ne];exact h1,Rp.same so _ h2⟩
 ·rcases zbc hj with⟨_,z⟩|⟨ne,hj'⟩
  ·cases z
  ·obtain⟨a,h1,h2,h3,h4⟩:=h.ac j e hj'
   exact⟨a,by rw[kept ne];exact h1,h2,h3,h4.same so λo z=>z⟩
 ·rcases zbc h1 with⟨_,z⟩|⟨n1,h1⟩
  ·cases z
  rcases zbc h2 with⟨_,z⟩|⟨n2,h2⟩
  ·cases z
  rw[kept n1]at h3
  rw[kept n2]at h4
  exact h.inj j k d1 d2 a h1 h2 h3 h4
theorem EnvOk.setAc {fx:Addr->Prop} {H0:Hp} {env:DEnv} {σ:St} {H:Hp} {a:Addr} (h:EnvOk (λb=>fx b\/b=a) H0 env σ H) (i:Nat) {d:PyData} (r:zfg (Offs (λb=>(fx b\/own env σ b)\/b=a) H) H a d) (h0:H0 a=none) (hf:¬fx a) :
  EnvOk fx H0 (env.set i (.ac d)) (σ.set i (some (.ref a))) H:=by
 have kept:∀{j:Nat},j≠i->(σ.set i (some (V.ref a)))[j]?=σ[j]?:=λ{j} n=>qJ λz=>n z.symm
 have sub:∀b,fx b\/own (env.set i (.ac d)) (σ.set i (some (.ref a))) b->(fx b\/b=a)\/own env σ b:=by
  rintro b (z|⟨j,e,h1,h2⟩)
  ·exact .inl (.inl z)
  ·rcases zbc h1 with⟨rfl,z⟩|⟨ne,h1⟩
   ·have hl:j<env.length:=by have:=(qI.mp ‹(env.set j (.ac d))[j]?=_›).1;rwa [qN]at this
    rw[qd (by rw[<- h.len];exact hl)]at h2
    cases h2
    exact .inl (.inr rfl)
   ·rw[kept ne]at h2
    exact .inr ⟨j,e,h1,h2⟩
 have so:Same (Offs (λb=>(fx b\/b=a)\/own env σ b) H) (Offs (λb=>fx b\/own (env.set i (.ac d)) (σ.set i (some (.ref a))) b) H):=Offs.sub sub
 have so2:Same (Offs (λb=>(fx b\/own env σ b)\/b=a) H) (Offs (λb=>fx b\/own (env.set i (.ac d)) (σ.set i (some (.ref a))) b) H):=Offs.sub λb z=>by
  rcases sub b z with(y|y)|y
  ·exact .inl (.inl y)
  ·exact .inr y
  ·exact .inl (.inr y)
 refine⟨by rw[qN,qN];exact h.len,λj e hj=>?_,λj e hj=>?_,λj k d1 d2 b h1 h2 h3 h4=>?_,h.base,λb z=>h.fxs b (.inl z)⟩
 ·rcases zbc hj with⟨_,z⟩|⟨ne,hj'⟩
  ·cases z
  ·obtain⟨u,h1,h2⟩:=h.pl j e hj'
   exact⟨u,by rw[kept ne];exact h1,Rp.same so _ h2⟩
 ·rcases zbc hj with⟨rfl,z⟩|⟨ne,hj'⟩
  ·cases z
   have hl:j<env.length:=by have:=(qI.mp hj).1;rwa [qN]at this
   exact⟨a,by rw[qd (by rw[<- h.len];exact hl)],h0,hf,r.same so2 λo z=>z⟩
  ·obtain⟨b,h1,h2,h3,h4⟩:=h.ac j e hj'
   exact⟨b,by rw[kept ne];exact h1,h2,λz=>h3 (.inl z),h4.same so λo z=>z⟩
 ·rcases zbc h1 with⟨e1,z1⟩|⟨n1,h1'⟩<;>rcases zbc h2 with⟨e2,z2⟩|⟨n2,h2'⟩
  ·rw[e1,e2]
  ·subst e1
   have hl:j<env.length:=by have:=(qI.mp h1).1;rwa [qN]at this
   rw[qd (by rw[<- h.len];exact hl)]at h3
   rw[kept n2]at h4
   cases h3
   obtain⟨b,g1,g2,g3,g4⟩:=h.ac k d2 h2'
   rw[h4]at g1
   cases g1
   exact absurd (.inr rfl) g3
  ·subst e2
   have hl:k<env.length:=by have:=(qI.mp h2).1;rwa [qN]at this
   rw[qd (by rw[<- h.len];exact hl)]at h4
   rw[kept n1]at h3
   cases h4
   obtain⟨b,g1,g2,g3,g4⟩:=h.ac j d1 h1'
   rw[h3]at g1
   cases g1
   exact absurd (.inr rfl) g3
  ·rw[kept n1]at h3
   rw[kept n2]at h4
   exact h.inj j k d1 d2 b h1' h2' h3 h4
noncomputable def slOf(r:Val):Sl:=if r.fr=true then .ac r.d else .pl r.d
noncomputable def putV(env:DEnv)(i:Nat)(r:Val):DEnv:=(frzs env r.bs).set i (slOf r)
theorem EnvOk.put{fx:Addr->Prop}{H0:Hp}{env:DEnv}{σ:St}{H H':Hp}(h:EnvOk fx H0 env σ H)(s:Same H H'){r:Val}{v:V}(hv:ValOk (lim fx env σ r.bs) H H' r v)(i:Nat):EnvOk fx H0 (putV env i r) (σ.set i (some v)) H':=by
 unfold putV slOf
 cases e:r.fr with
 | false=>
  rw[if_neg qK]
  exact((h.up s).frzs r.bs).setPl i (Rp.same (Offs.sub zhf) _ hv.rp)
 | true=>
  rw[if_pos rfl]
  obtain⟨a,rfl,ha,hacc⟩:=hv.fr e
  have nfx:¬fx a:=zgj h.fxs ha
  have g:EnvOk (λb=>fx b\/b=a) H0 env σ H':=h.grow s (λb o eo n z=>z.elim n λy=>by rw[y,ha]at eo;cases eo) λb z=>by
   rcases z with z|z
   ·obtain⟨o,eo⟩:=h.fxs b z;exact⟨o,s b o eo⟩
   ·rw[z];exact hacc.ex
  refine(g.frzs r.bs).setAc i (hacc.same (Offs.sub λb z=>?_) λo z=>z) (h.base.free ha) nfx
  rcases z with z|z
  ·exact .inl (zhf b z)
  ·exact .inr z
noncomputable def sNil:SF:=λenv=>some (.nx env)
noncomputable def sSeq(f g:SF):SF:=λenv=>(f env).bind λo=>match o with
 | .nx env'=>g env'
 | o=>some o
theorem zev:SS tNext sNil:=by
 intro fx H0 env σ H D h o e q
 cases e
 exact q σ H h
theorem zbe{t u:TS}{f g:SF}(h1:SS t f)(h2:SS u g):SS (tSeq t u) (sSeq f g):=by
 intro fx H0 env σ H D h o e q
 unfold sSeq at e
 obtain⟨o1,e1,e⟩:=qA.mp e
 refine h1 fx H0 env σ H _ h o1 e1 ?_
 cases o1 with
 | nx env'=>exact λσ' H' h'=>h2 fx H0 env' σ' H' D h' o e q
 | bk env'=>cases e;exact q
 | ct env'=>cases e;exact q
 | rt d fr=>cases e;exact q
noncomputable def zkv:SF:=λ_=>none
theorem zki:SS tNever zkv:=by
 intro fx H0 env σ H D h o e q
 cases e
noncomputable def sRet(f:EF):SF:=λenv=>(f env).map λr=>.rt r.d r.fr
theorem zdx{te:TE}{f:EF}(h1:SE te f):SS (tRet te) (sRet f):=by
 intro fx H0 env σ H D h o e q
 unfold sRet at e
 obtain⟨r,er,rfl⟩:=qG.mp e
 refine h1 fx H0 env σ H h r er _ λv H' s hv=>q v H' (h.base.trans s) ⟨Rp.same (Offs.sub λb z=>.inl z) _ hv.rp,λz=>?_⟩
 obtain⟨a,g1,g2,g3⟩:=hv.fr z
 exact⟨a,g1,h.base.free g2,g3.same (Offs.sub λb y=>y.imp .inl id) λo z=>z⟩
noncomputable def zwx(i:Nat):SF:=λenv=>match env[i]? with
 | some (.pl d)=>some (.rt d false)
 | some (.ac d)=>some (.rt d true)
 | _=>none
theorem zse{i:Nat}:SS (tRet (tVar i)) (zwx i):=by
 intro fx H0 env σ H D h o e q
 unfold zwx at e
 cases ei:env[i]? with
 | none=>rw[ei]at e;cases e
 | some sl=>
  rw[ei]at e
  cases sl with
  | no=>cases e
  | pl d=>
   cases e
   obtain⟨v,h1,h2⟩:=h.pl i d ei
   exact⟨v,h1,q v H h.base ⟨Rp.same (Offs.sub λb z=>.inl z) _ h2,λz=>by cases z⟩⟩
  | ac d=>
   cases e
   obtain⟨a,h1,h2,h3,h4⟩:=h.ac i d ei
   refine⟨_,h1,q _ H h.base ⟨h4.rp (Offs.sub λb z=>.inl z) λo eo=>by rw[Offs.get h3];exact eo,λ_=>⟨a,rfl,h2,h4.same (Offs.sub λb z=>?_) λo z=>z⟩⟩⟩
   rcases z with z|z
   ·exact .inl z
   ·rw[z];exact .inr ⟨i,d,ei,h1⟩
noncomputable def sIf(c:TF)(f g:SF):SF:=λenv=>(c env).bind λb=>if b=true then f env else g env
theorem zio{tc:TT}{t u:TS}{c:TF}{f g:SF}(hc:ST tc c)(h1:SS t f)(h2:SS u g):SS (tIfS tc t u) (sIf c f g):=by
 intro fx H0 env σ H D h o e q
 unfold sIf at e
 obtain⟨b,eb,e⟩:=qA.mp e
 refine hc fx H0 env σ H h b eb _ λH' s=>?_
 cases b with
 | true=>exact iteT (h1 fx H0 env σ H' D (h.up s) o e q)
 | false=>exact iteF (h2 fx H0 env σ H' D (h.up s) o e q)
noncomputable def sSet(i:Nat)(f:EF):SF:=λenv=>(f env).map λr=>.nx (putV env i r)
theorem zdy{te:TE}{f:EF}{i:Nat}(h1:SE te f):SS (tAsg te (gName i)) (sSet i f):=by
 intro fx H0 env σ H D h o e q
 unfold sSet at e
 obtain⟨r,er,rfl⟩:=qG.mp e
 exact h1 fx H0 env σ H h r er _ λv H' s hv=>q _ H' (h.put s hv i)
noncomputable abbrev GT:=PyData->DEnv->Option DEnv
noncomputable def SG(g:TG)(f:GT):Prop:=∀(fx:Addr->Prop)(H0:Hp)(env:DEnv)(σ:St)(H:Hp)(d:PyData)(v:V),EnvOk fx H0 env σ H->Rp (Offs (λa=>fx a\/own env σ a) H) d v->∀env',f d env=some env'->∀Q:St->Hp->Prop,
 (∀σ',EnvOk fx H0 env' σ' H->Q σ' H)->g v σ H Q
noncomputable abbrev GTs:=List PyData->DEnv->Option DEnv
noncomputable def SGs(g:TGs)(f:GTs):Prop:=∀(fx:Addr->Prop)(H0:Hp)(env:DEnv)(σ:St)(H:Hp)(ds:List PyData)(vs:List V),EnvOk fx H0 env σ H->Rps (Offs (λa=>fx a\/own env σ a) H) ds vs->∀env',f ds env=some env'->∀Q:St->Hp->Prop,
 (∀σ',EnvOk fx H0 env' σ' H->Q σ' H)->g vs σ H Q
noncomputable def gN(i:Nat):GT:=λd env=>some (env.set i (.pl d))
theorem znm{i:Nat}:SG (gName i) (gN i):=by
 intro fx H0 env σ H d v h r env' e Q q
 cases e
 exact q _ (h.setPl i r)
noncomputable def zek:GTs:=λds env=>match ds with|[]=>some env|_=>none
noncomputable def zau(i:Nat)(g:GTs):GTs:=λds env=>match ds with|d::r=>g r (env.set i (.pl d))|[]=>none
theorem zfx:SGs gNil zek:=by
 intro fx H0 env σ H ds vs h r env' e Q q
 cases ds with
 | nil=>cases e;unfold Rps at r;exact⟨r,q _ h⟩
 | cons _ _=>cases e
theorem zbk{i:Nat}{t:TGs}{g:GTs}(h1:SGs t g):SGs (gCons (gName i) t) (zau i g):=by
 intro fx H0 env σ H ds vs h r env' e Q q
 cases ds with
 | nil=>cases e
 | cons d ds=>
  unfold Rps at r
  obtain⟨v,ws,rfl,r1,r2⟩:=r
  refine⟨v,ws,rfl,h1 fx H0 (env.set i (.pl d)) _ H ds ws (h.setPl i r1) (Rps.same (Offs.sub λb z=>z.imp (λy=>y) (zww b)) _ r2) env' e Q q⟩
noncomputable def gT(n:Nat)(g:GTs):GT:=λd env=>match d with|.tuple ds=>if ds.length=n then g ds env else none|_=>none
theorem ziq{K:qB}{n:Nat}{t:TGs}{g:GTs}(h1:SGs t g):SG (gTup K n t) (gT n g):=by
 intro fx H0 env σ H d v h r env' e Q q
 unfold gT at e
 cases d with
 | tuple ds=>
  have e:(if ds.length=n then g ds env else none)=some env':=e
  split at e
  ·rename_i hn
   obtain⟨a,xs,rfl,ha,rs⟩:=zce r
   exact⟨a,xs,rfl,SqT.of (zdm ha),by rw[<- rs.length];exact hn,h1 fx H0 env σ H ds xs h rs env' e Q q⟩
  ·cases e
 | _=>cases e
noncomputable def sAsg(f:EF)(g:GT):SF:=λenv=>(f env).bind λr=>(g r.d (frzs env r.bs)).map .nx
theorem zaiv{te:TE}{f:EF}{g:TG}{gf:GT}(h1:SE te f)(h2:SG g gf):SS (tAsg te g) (sAsg f gf):=by
 intro fx H0 env σ H D h o e q
 unfold sAsg at e
 obtain⟨r,er,e⟩:=qA.mp e
 obtain⟨env',e',rfl⟩:=qG.mp e
 exact h1 fx H0 env σ H h r er _ λv H' s hv=>h2 fx H0 _ σ H' r.d v ((h.up s).frzs r.bs) (Rp.same (Offs.sub zhf) _ hv.rp) env' e' _ λσ' h'=>q σ' H' h'
theorem EnvOk.mut{fx:Addr->Prop}{H0:Hp}{env:DEnv}{σ:St}{H:Hp}(h:EnvOk fx H0 env σ H){i:Nat}{d d':PyData}{a:Addr}{o:HO}(e:env[i]?=some (.ac d))(ea:σ[i]?=some (some (.ref a)))
  (r:zfg (Offs (λb=>fx b\/own env σ b) H) (upd H a o) a d'):EnvOk fx H0 (env.set i (.ac d')) σ (upd H a o):=by
 have hl:i<env.length:=(qI.mp e).1
 have oa:own env σ a:=⟨i,d,e,ea⟩
 have ow:∀b,own (env.set i (.ac d')) σ b↔own env σ b:=by
  intro b
  constructor
  ·rintro⟨j,d1,h1,h2⟩
   rcases zbc h1 with⟨rfl,z⟩|⟨ne,h1⟩
   ·exact⟨j,d,e,h2⟩
   ·exact⟨j,d1,h1,h2⟩
  ·rintro⟨j,d1,h1,h2⟩
   by_cases hj:j=i
   ·subst hj;exact⟨j,d',by rw[qd hl],h2⟩
   ·exact⟨j,d1,by rw[qJ λz=>hj z.symm];exact h1,h2⟩
 have so:Same (Offs (λb=>fx b\/own env σ b) H) (Offs (λb=>fx b\/own (env.set i (.ac d')) σ b) (upd H a o)):=by
  have:Same (Offs (λb=>fx b\/own env σ b) (upd H a o)) (Offs (λb=>fx b\/own (env.set i (.ac d')) σ b) (upd H a o)):=Offs.sub λb z=>z.imp (λy=>y) (ow b).mp
  rw[Offs.upd (.inr oa)]at this
  exact this
 obtain⟨a',g1,g2,g3,g4⟩:=h.ac i d e
 rw[ea]at g1
 cases g1
 refine⟨by rw[qN];exact h.len,λj d1 hj=>?_,λj d1 hj=>?_,λj k d1 d2 b h1 h2 h3 h4=>?_,λb u eb=>by rw[zaq (zbg eb g2)];exact h.base b u eb,λb z=>?_⟩
 ·rcases zbc hj with⟨_,z⟩|⟨ne,hj'⟩
  ·cases z
  ·obtain⟨u,h1,h2⟩:=h.pl j d1 hj'
   exact⟨u,h1,Rp.same so _ h2⟩
 ·rcases zbc hj with⟨rfl,z⟩|⟨ne,hj'⟩
  ·cases z
   exact⟨a,ea,g2,g3,r.same so λo z=>z⟩
  ·obtain⟨b,h1,h2,h3,h4⟩:=h.ac j d1 hj'
   refine⟨b,h1,h2,h3,h4.same so λo' z=>?_⟩
   rw[zaq λy=>ne (h.inj j i d1 d a hj' e (by rw[<- y];exact h1) ea)]
   exact z
 ·have f:∀{j:Nat}{d1:PyData},(env.set i (.ac d'))[j]?=some (.ac d1)->∃d2,env[j]?=some (.ac d2):=λ{j d1} hj=>by
   rcases zbc hj with⟨rfl,z⟩|⟨ne,hj'⟩
   ·exact⟨d,e⟩
   ·exact⟨d1,hj'⟩
  obtain⟨e1,h1⟩:=f h1
  obtain⟨e2,h2⟩:=f h2
  exact h.inj j k e1 e2 b h1 h2 h3 h4
 ·obtain⟨u,eu⟩:=h.fxs b z
  exact⟨u,by rw[zaq λy=>g3 (by rw[<- y];exact z)];exact eu⟩
noncomputable def sApp(i:Nat)(f:EF):SF:=λenv=>match env[i]? with
 | some (.ac (.list ds))=>(f env).bind λr=>if ds.length<100000/\i∉r.bs then some (.nx ((frzs env r.bs).set i (.ac (.list (ds++[r.d])))))else none
 | _=>none
theorem ztf{env:DEnv}{i:Nat}{d:PyData}:∀{bs:List Nat},i∉bs->env[i]?=some (.ac d)->(frzs env bs)[i]?=some (.ac d):=by
 intro bs
 induction bs generalizing env with
 | nil=>intro _ e;exact e
 | cons j bs ih=>
  intro hn e
  have hj:i≠j:=λz=>hn (by simp[z])
  refine ih (λz=>hn (qL _ z)) ?_
  unfold frz1
  split
  ·rw[qJ λz=>hj z.symm];exact e
  ·exact e
theorem zkw{K:qB}{i:Nat}{te:TE}{f:EF}(h1:SE te f):SS (tDrop (tBM K "list" znc (tVar i) (tCons te tNil))) (sApp i f):=by
 intro fx H0 env σ H D h o e q
 unfold sApp at e
 split at e
 ·rename_i ds ei
  obtain⟨r,er,e⟩:=qA.mp e
  split at e
  ·rename_i hl
   cases e
   obtain⟨a,g1,g2,g3,g4⟩:=h.ac i _ ei
   obtain⟨xs,hx,rx⟩:=g4
   refine⟨_,g1,.inl ⟨rfl,_,SqL.of hx⟩,h1 fx H0 env σ H h r er _ λv H' s hv=>?_⟩
   have h':=(h.up s).frzs r.bs
   have ei':=ztf hl.2 ei
   have hx':=s _ _ hx
   have rx':Rps (Offs (λb=>fx b\/own (frzs env r.bs) σ b) H') ds xs:=by
    obtain⟨a',z1,_,_,z4⟩:=h'.ac i _ ei'
    rw[g1]at z1
    cases z1
    obtain⟨ys,y1,y2⟩:=z4
    rw[hx']at y1
    cases y1
    exact y2
   refine⟨a,xs,v,rfl,rfl,hx',zku (by rw[<- rx.length];exact hl.1),?_⟩
   refine q σ _ (h'.mut ei' g1 ⟨_,zap,rx'.append (zde (Rp.same (Offs.sub zhf) _ hv.rp) zdd)⟩)
  ·cases e
 ·cases e
theorem EnvOk.rebase{fx:Addr->Prop}{H0:Hp}{env:DEnv}{σ:St}{H:Hp}(h:EnvOk fx H0 env σ H):EnvOk fx (Offs (own env σ) H) env σ H:=by
 refine⟨h.len,h.pl,λi d e=>?_,h.inj,Offs.same _ _,h.fxs⟩
 obtain⟨a,h1,h2,h3,h4⟩:=h.ac i d e
 exact⟨a,h1,Offs.out ⟨i,d,e,h1⟩,h3,h4⟩
theorem EnvOk.floor{fx:Addr->Prop}{H0:Hp}{env:DEnv}{σ:St}{H:Hp}(h:EnvOk fx H0 env σ H):Same H0 (Offs (own env σ) H):=λb o e=>by
 rw[Offs.get]
 ·exact h.base b o e
 ·rintro⟨i,d,h1,h2⟩
  obtain⟨a,g1,g2,_⟩:=h.ac i d h1
  rw[h2]at g1
  cases g1
  rw[g2]at e
  cases e
theorem EnvOk.unbase{fx:Addr->Prop}{H0 F:Hp}{env:DEnv}{σ:St}{H:Hp}(h:EnvOk fx F env σ H)(s:Same H0 F):EnvOk fx H0 env σ H:=by
 refine⟨h.len,h.pl,λi d e=>?_,h.inj,s.trans h.base,h.fxs⟩
 obtain⟨a,h1,h2,h3,h4⟩:=h.ac i d e
 exact⟨a,h1,s.free h2,h3,h4⟩
theorem zsd.unbase{fx:Addr->Prop}{H0 F:Hp}{d:PyData}{fr:Bool}{v:V}{H:Hp}(h:zsd fx F d fr v H)(s:Same H0 F):zsd fx H0 d fr v H:=
 ⟨h.1,λe=>let⟨a,h1,h2,h3⟩:=h.2 e;⟨a,h1,s.free h2,h3⟩⟩
theorem EnvOk.seen{fx:Addr->Prop}{env env':DEnv}{σ σ':St}{H H':Hp}(h:EnvOk fx (Offs (own env σ) H) env' σ' H'):Same (Offs (λb=>fx b\/own env σ b) H) (Offs (λb=>fx b\/own env' σ' b) H'):=λb o e=>by
 obtain⟨h1,h2⟩:=Offs.of e
 have hF:Offs (own env σ) H b=some o:=by rw[Offs.get λz=>h1 (.inr z)];exact h2
 rw[Offs.get]
 ·exact h.base b o hF
 ·rintro(z|⟨i,d,g1,g2⟩)
  ·exact h1 (.inl z)
  ·obtain⟨a,k1,k2,_⟩:=h.ac i d g1
   rw[g2]at k1
   cases k1
   rw[k2]at hF
   cases hF
theorem EnvOk.all{fx:Addr->Prop}{H0:Hp}{env:DEnv}{σ:St}{H:Hp}(h:EnvOk fx H0 env σ H):∀b,fx b\/own env σ b->∃o,H b=some o:=λb z=>h.lims [] b (zhz b z)
noncomputable def Yl(A0:Addr->Prop)(H1:Hp)(J:It)(ds:List PyData):Prop:=∀(A:Addr->Prop)(H':Hp),(∀b,A b->∃o,H' b=some o)->Same (Offs A0 H1) (Offs A H')->
 (∀i d,ds[i]?=some d->J.go i H'/\∀x H'',J.yld i H' x H''->Same H' H''/\Rp (Offs A H'') d x)/\J.stop ds.length H'
noncomputable abbrev IF':=DEnv->Option (List PyData×List Nat)
noncomputable def SI(wi:TI)(f:IF'):Prop:=∀(fx:Addr->Prop)(H0:Hp)(env:DEnv)(σ:St)(H:Hp),EnvOk fx H0 env σ H->∀ds bs,f env=some (ds,bs)->∀R:It->Hp->Prop,
 (∀J H1,Same H H1->Yl (λb=>fx b\/own (frzs env bs) σ b) H1 J ds->R J H1)->wi σ H R
noncomputable def iSeq(K:qB)(te:TE):TI:=λσ H R=>te σ H λx H1=>∃a,x=.ref a/\((∃xs,SqL K H1 a xs)/\R (Itl K a) H1\/(∃xs,SqT K H1 a xs)/\R (Itt K a) H1)
theorem zaiw{X:Cx}{tg l:Expr}{tl:TE}(hl:PE X l tl):PI X tg l (iSeq X.K tl):=by
 intro pins s σ H R I h
 refine thn (hl pins s σ H _ I h) λv s1 ⟨x,H1,I1,r1,q1⟩=>?_
 obtain⟨a,e,q⟩:=q1
 subst e
 cases r1
 rcases q with⟨⟨xs,hq⟩,q⟩|⟨⟨xs,hq⟩,q⟩
 ·obtain⟨its,rv,p,hz⟩:=I1.list hq
  refine qBc p.isList ?_
  refine⟨s1.heap.objs.size,[s1.heap.objs.size],_,_,H1,rfl,I1.kept (t':=s1.toks) λb o e=>qE _ e,zok a _,⟨_,qV _ rfl,rfl,rfl⟩,λb hb=>?_,q⟩
  have e:b=s1.heap.objs.size:=by simpa using hb
  subst e
  exact I1.fpOk (qQ _) (I1.hok.fresh (qQ _))
 ·obtain⟨its,rv,p,hz⟩:=I1.tuple hq
  refine qBV (show s1.heap.IsTuple a its.toArray from p) ?_
  refine⟨s1.heap.objs.size,[s1.heap.objs.size],_,_,H1,rfl,I1.kept (t':=s1.toks) λb o e=>qE _ e,zuk a _,⟨_,qV _ rfl,rfl,rfl⟩,λb hb=>?_,q⟩
  have e:b=s1.heap.objs.size:=by simpa using hb
  subst e
  exact I1.fpOk (qQ _) (I1.hok.fresh (qQ _))
theorem zaev{X:Cx}{K:qB}(hK:X.K=K){tg l:Expr}{tl:TE}(hl:PE X l tl):PI X tg l (iSeq K tl):=by subst hK;exact zaiw hl
noncomputable def zfk(f:EF):IF':=λenv=>(f env).bind λr=>(zil r.d).map λds=>(ds,r.bs)
theorem zaew{K:qB}{A0:Addr->Prop}{H1:Hp}{a:Addr}{ds:List PyData}{xs:List V}(h:Offs A0 H1 a=some (.lst xs))(r:Rps (Offs A0 H1) ds xs):Yl A0 H1 (Itl K a) ds:=by
 intro A H' hA s
 have ha:=zdm (s _ _ h)
 have r':=Rps.same s _ r
 refine⟨λi d e=>?_,⟨xs,SqL.of ha,by rw[r.length];exact qQ _⟩⟩
 obtain⟨v,hv,rv⟩:=r'.get2 e
 refine⟨⟨xs,v,SqL.of ha,hv⟩,λx H'' y=>?_⟩
 obtain⟨rfl,y⟩:=y
 have:=y xs (SqL.of ha)
 rw[hv]at this
 cases this
 exact⟨Same.refl _,rv⟩
theorem zaix{K:qB}{A0:Addr->Prop}{H1:Hp}{a:Addr}{ds:List PyData}{xs:List V}(h:Offs A0 H1 a=some (.tup xs))(r:Rps (Offs A0 H1) ds xs):Yl A0 H1 (Itt K a) ds:=by
 intro A H' hA s
 have ha:=zdm (s _ _ h)
 have r':=Rps.same s _ r
 refine⟨λi d e=>?_,⟨xs,SqT.of ha,by rw[r.length];exact qQ _⟩⟩
 obtain⟨v,hv,rv⟩:=r'.get2 e
 refine⟨⟨xs,v,SqT.of ha,hv⟩,λx H'' y=>?_⟩
 obtain⟨rfl,y⟩:=y
 have:=y xs (SqT.of ha)
 rw[hv]at this
 cases this
 exact⟨Same.refl _,rv⟩
theorem ztg{K:qB}{te:TE}{f:EF}(h1:SE te f):SI (iSeq K te) (zfk f):=by
 intro fx H0 env σ H h ds bs e R q
 unfold zfk at e
 obtain⟨⟨d,fr,bs'⟩,er,e⟩:=qA.mp e
 obtain⟨es,he,e⟩:=qG.mp e
 cases e
 refine h1 fx H0 env σ H h _ er _ λv H1 s hv=>?_
 have rp:=Rp.same (Offs.sub (zhf (bs:=bs'))) _ hv.rp
 cases d with
 | list ds=>
  cases he
  obtain⟨a,xs,rfl,ha,r⟩:=zcr rp
  exact⟨a,rfl,.inl ⟨⟨xs,SqL.of (zdm ha)⟩,q _ H1 s (zaew ha r)⟩⟩
 | tuple ds=>
  cases he
  obtain⟨a,xs,rfl,ha,r⟩:=zce rp
  exact⟨a,rfl,.inr ⟨⟨xs,SqT.of (zdm ha)⟩,q _ H1 s (zaix ha r)⟩⟩
 | _=>cases he
noncomputable def zsf(ds:List PyData):List PyData:=ds.zipIdx.map λp=>.tuple [.int p.2,p.1]
noncomputable def zgl(f:AF):IF':=λenv=>(f env).bind λrs=>match rs with
 | [r]=>match r.d with
  | .list ds=>some (zsf ds,r.bs)
  | _=>none
 | _=>none
noncomputable def zkx(lo:Int)(n:Nat):List PyData:=(List.range n).map λ(k:Nat)=>.int (lo+(k:Int))
theorem zaav{A0:Addr->Prop}{H1:Hp}{lo:Int}{n:Nat}:Yl A0 H1 (Itr lo n) (zkx lo n):=by
 intro A H' hA s
 have hl:(zkx lo n).length=n:=by unfold zkx;simp
 refine⟨λi d e=>?_,by rw[hl];exact qQ _⟩
 unfold zkx at e
 rw[qT]at e
 by_cases hi:i<n
 ·rw[List.getElem?_range hi]at e
  cases e
  exact⟨hi,λx H'' ⟨e1,e2⟩=>by subst e1;subst e2;exact⟨Same.refl _,zaa⟩⟩
 ·rw[qBg (by simpa using hi)]at e
  cases e
noncomputable def zgm(f:AF):IF':=λenv=>(f env).bind λrs=>match rs with
 | [⟨.int j,_,_⟩]=>if -(2 ^ 62)<=j/\j<2 ^ 62 then some (zkx 0 j.toNat,[])else none
 | _=>none
theorem zpc{ta:TA}{f:AF}(h1:SA ta f):SI (iRng1 ta) (zgm f):=by
 intro fx H0 env σ H h ds bs e R q
 unfold zgm at e
 obtain⟨rs,er,e⟩:=qA.mp e
 split at e
 ·split at e
  ·rename_i hj
   cases e
   refine h1 fx H0 env σ H h _ er _ λvs H1 s hv=>?_
   cases hv with
   | cons hv t=>
    cases t
    cases zbz hv.rp
    exact⟨_,rfl,hj.1,hj.2,q _ H1 s zaav⟩
  ·cases e
 ·cases e
noncomputable def forL(g:GT)(body:SF):List PyData->DEnv->Option Out
 | [],env=>some (.nx env)
 | d::ds,env=>(g d env).bind λe1=>(body e1).bind λo=>match o with
  | .nx e2=>forL g body ds e2
  | .ct e2=>forL g body ds e2
  | .bk e2=>some (.nx e2)
  | .rt d fr=>some (.rt d fr)
noncomputable def sFor(f:IF')(g:GT)(body:SF):SF:=λenv=>(f env).bind λz=>forL g body z.1 (frzs env z.2)
theorem zmk{wi:TI}{g:TG}{tb:TS}{f:IF'}{gf:GT}{body:SF}(h1:SI wi f)(h2:SG g gf)(h3:SS tb body):SS (tFor wi g tb) (sFor f gf body):=by
 intro fx H0 env σ H D h o e q
 unfold sFor at e
 obtain⟨⟨ds,bs⟩,er,e⟩:=qA.mp e
 refine h1 fx H0 env σ H h ds bs er _ λJ H1 s yl=>?_
 have hE:=(h.up s).frzs bs
 have fl:=hE.floor
 refine⟨λi m σ' H'=>m=ds.length - i/\i<=ds.length/\∃env',forL gf body (ds.drop i) env'=some o/\EnvOk fx (Offs (own (frzs env bs) σ) H1) env' σ' H',⟨ds.length,rfl,qAR _,_,e,hE.rebase⟩,?_⟩
 rintro i m σ' H' ⟨rfl,hi,env',e',h'⟩
 obtain⟨yi,ys⟩:=yl _ H' h'.all h'.seen
 by_cases hlt:i<ds.length
 ·obtain⟨yg,yy⟩:=yi i ds[i] (qF hlt)
  refine .inr ⟨yg,λσ'' H''=>i+1<=ds.length/\∃env'',forL gf body (ds.drop (i+1)) env''=some o/\EnvOk fx (Offs (own (frzs env bs) σ) H1) env'' σ'' H'',?_,?_⟩
  ·rintro σ'' H'' ⟨hle,env'',e'',h''⟩
   exact⟨ds.length - (i+1),by omega,rfl,hle,env'',e'',h''⟩
  ·intro x H'' hy
   obtain⟨sy,ry⟩:=yy x H'' hy
   rw[qAD hlt]at e'
   obtain⟨e1,ee1,e'⟩:=qA.mp e'
   obtain⟨o1,eo1,e'⟩:=qA.mp e'
   refine h2 fx _ env' σ' H'' _ x (h'.up sy) ry e1 ee1 _ λσ2 h2'=>h3 fx _ e1 σ2 H'' _ h2' o1 eo1 ?_
   cases o1 with
   | nx e2=>exact λσ3 H3 hh=>⟨hlt,e2,e',hh⟩
   | ct e2=>exact λσ3 H3 hh=>⟨hlt,e2,e',hh⟩
   | bk e2=>cases e';exact λσ3 H3 hh=>q σ3 H3 (hh.unbase fl)
   | rt d fr=>cases e';exact λv H3 sh rt=>q v H3 (fl.trans sh) (rt.unbase fl)
 ·have hi':i=ds.length:=by omega
  subst hi'
  rw[qBa]at e'
  cases e'
  exact .inl ⟨ys,q σ' H' (h'.unbase fl)⟩
noncomputable def zgn(n:Nat)(ds:List PyData):DEnv:=ds.map .pl++List.replicate (n - ds.length) .no
noncomputable def fnD(n:Nat)(f:SF):GF:=λds=>match f (zgn n ds)with
 | some (.rt d fr)=>some (d,fr)
 | some (.nx _)=>some (.none,false)
 | _=>none
theorem zpd{ds:List PyData}{n i:Nat}{sl:Sl}(e:(zgn n ds)[i]?=some sl):(∃d,ds[i]?=some d/\sl=.pl d)\/sl=.no:=by
 unfold zgn at e
 by_cases hi:i<ds.length
 ·rw[qW (by simpa using hi),qT,qF hi]at e
  cases e
  exact .inl ⟨_,qF hi,rfl⟩
 ·rw[qP (by simpa using hi),qAg]at e
  split at e
  ·cases e;exact .inr rfl
  ·cases e
theorem zfl{fx:Addr->Prop}{H:Hp}{N:List Str}{ds:List PyData}{vs:List V}(hf:∀b,fx b->∃o,H b=some o)(r:Rps (Offs fx H) ds vs):EnvOk fx H (zgn N.length ds) (start N vs) H:=by
 have no:∀(i:Nat)(d:PyData),(zgn N.length ds)[i]?≠some (Sl.ac d):=λi d e=>by
  rcases zpd e with⟨d',_,z⟩|z<;>cases z
 refine⟨?_,λi d e=>?_,λi d e=>absurd e (no i d),λi j d e a h1=>absurd h1 (no i d),Same.refl _,hf⟩
 ·unfold zgn start
  rw[qY,qY,qD,qD,qAb,qAb,r.length]
 ·rcases zpd e with⟨d',hd,z⟩|z
  ·cases z
   obtain⟨v,hv,rv⟩:=r.get2 hd
   refine⟨v,?_,Rp.same (Offs.sub λb z=>?_) _ rv⟩
   ·unfold start
    have hi:i<vs.length:=(qI.mp hv).1
    rw[qW (by simpa using hi),qT,hv];rfl
   ·rcases z with z|⟨j,d',z,_⟩
    ·exact z
    ·exact absurd z (no j d')
  ·cases z
theorem fn_d{N:List Str}{n:Nat}{f:SF}{t:TS}(hs:SS t f){vs:List V}{H:Hp}{Q:VK}{E:XK}(h:spD n (fnD N.length f) vs H Q E):t {nx:=λ_ H'=>Q .non H',rt:=Q} (start N vs) H:=by
 obtain⟨fx,ds,d,fr,hn,hf,r,g,k⟩:=h
 unfold fnD at g
 split at g
 ·rename_i d' fr' eo
  cases g
  exact hs fx H _ _ H _ (zfl hf r) _ eo λv H' s rt=>k v H' s rt
 ·rename_i e' eo
  cases g
  exact hs fx H _ _ H _ (zfl hf r) _ eo λσ H' hE=>k .non H' hE.base ⟨zji,λz=>by cases z⟩
 ·cases g
theorem zfb{n:Nat}{g:GF}{vs:List V}{H:Hp}{Q:VK}{E:XK}(h:spD n g vs H Q E):vs.length=n:=by
 obtain⟨fx,ds,d,fr,hn,hf,r,_⟩:=h
 rw[<- r.length];exact hn
noncomputable def zaex:Sl->Sl
 | .ac d=>.pl d
 | s=>s
noncomputable def envB(own:List Str)(fr:List Nat)(env:DEnv):DEnv:=own.map (λ_=>Sl.no)++fr.map (λj=>zaex (env.getD j .no))
noncomputable def isAc:Option Sl->Bool
 | some (.ac _)=>true
 | _=>false
noncomputable def capA(fr:List Nat)(env:DEnv):List Nat:=fr.filter λj=>isAc env[j]?
theorem znn{own:List Str}{fr:List Nat}{env:DEnv}{i:Nat}{d:PyData}(e:(envB own fr env)[i]?=some (.pl d)):∃j k,i=own.length+k/\fr[k]?=some j/\(env[j]?=some (.pl d)\/env[j]?=some (.ac d)):=by
 unfold envB at e
 by_cases hi:i<own.length
 ·rw[qW (by simpa using hi),qT,qF hi]at e
  cases e
 ·rw[qP (by simpa using hi),qD,qT]at e
  cases ej:fr[i - own.length]? with
  | none=>rw[ej]at e;cases e
  | some j=>
   rw[ej]at e
   refine⟨j,i - own.length,by omega,ej,?_⟩
   have e:zaex (env.getD j .no)=.pl d:=qq e
   rw[qAF]at e
   cases ev:env[j]? with
   | none=>rw[ev]at e;cases e
   | some s=>
    rw[ev]at e
    cases s with
    | no=>cases e
    | pl d'=>cases e;exact .inl rfl
    | ac d'=>cases e;exact .inr rfl
theorem zgo{own:List Str}{fr:List Nat}{env:DEnv}{i:Nat}{d:PyData}:(envB own fr env)[i]?≠some (.ac d):=by
 intro e
 unfold envB at e
 by_cases hi:i<own.length
 ·rw[qW (by simpa using hi),qT,qF hi]at e
  cases e
 ·rw[qP (by simpa using hi),qD,qT]at e
  cases ej:fr[i - own.length]? with
  | none=>rw[ej]at e;cases e
  | some j=>
   rw[ej]at e
   have e:zaex (env.getD j .no)=.ac d:=qq e
   cases ev:env.getD j .no with
   | no=>rw[ev]at e;cases e
   | pl d'=>rw[ev]at e;cases e
   | ac d'=>rw[ev]at e;cases e
theorem zwy{own:List Str}{fr:List Nat}{σ:St}{k j:Nat}{v:V}(hk:fr[k]?=some j)(hv:σ[j]?=some (some v)):(tau own fr σ)[own.length+k]?=some (some v):=by
 unfold tau
 rw[qP (by simp),qD,qBY,qT,hk]
 show some (σ.getD j none)=_
 rw[qAF,hv];rfl
theorem zpe{fx:Addr->Prop}{H0:Hp}{env:DEnv}{σ:St}{H H1:Hp}{p:Addr}(h:EnvOk fx H0 env σ H)(s:Same H H1)(hp:H1 p=none)(own:List Str)(fr:List Nat)(bs:List Nat) :
  EnvOk (λb=>lim fx env σ (bs++capA fr env) b\/b=p) H1 (envB own fr env) (tau own fr σ) (upd H1 p (.lst [])):=by
 have h1:=h.up s
 have sp:Same H1 (upd H1 p (.lst [])):=Same.new hp
 have so:Same (Offs (λb=>fx b\/L2.own env σ b) H1) (Offs (λb=>(lim fx env σ (bs++capA fr env) b\/b=p)\/L2.own (envB own fr env) (tau own fr σ) b) (upd H1 p (.lst []))):=Offs.mono sp λb o e n z=>by
  rcases z with(z|z)|⟨i,d,z,_⟩
  ·exact n (zkt b z)
  ·rw[z,hp]at e;cases e
  ·exact absurd z zgo
 refine⟨?_,λi d e=>?_,λi d e=>absurd e zgo,λi j d e a z=>absurd z zgo,sp,λb z=>?_⟩
 ·unfold envB tau;simp
 ·obtain⟨j,k,rfl,hk,hj⟩:=znn e
  rcases hj with hj|hj
  ·obtain⟨v,h2,h3⟩:=h1.pl j d hj
   exact⟨v,zwy hk h2,Rp.same so _ h3⟩
  ·obtain⟨a,h2,h3,h4,h5⟩:=h1.ac j d hj
   refine⟨_,zwy hk h2,h5.rp so λo eo=>?_⟩
   rw[Offs.get]
   ·exact sp _ _ eo
   ·rintro((z|⟨i',d',z1,z2,z3⟩)|⟨i',d',z,_⟩)
    ·rcases z with z|⟨i',d',z1,z2,z3⟩
     ·exact h4 z
     ·have e2:=h1.inj i' j d' d a z2 hj z3 h2
      subst e2
      refine z1 (qg _ (qCD.mpr ⟨qS hk,?_⟩))
      rw[hj];rfl
    ·rw[hp]at eo;cases eo
    ·exact absurd z zgo
 ·rcases z with z|z
  ·obtain⟨o,e⟩:=h1.lims _ b z;exact⟨o,sp b o e⟩
  ·rw[z];exact⟨_,zap⟩
theorem EnvOk.weaken{fx:Addr->Prop}{H0:Hp}{env e1:DEnv}{σ:St}{H:Hp}(h:EnvOk fx H0 e1 σ H)(hl:env.length=e1.length)(hp:∀(i:Nat) (d:PyData),env[i]?=some (.pl d)->e1[i]?=some (.pl d))(ha:∀(i:Nat) (d:PyData),env[i]?≠some (.ac d)):EnvOk fx H0 env σ H:=by
 refine⟨hl.trans h.len,λi d e=>?_,λi d e=>absurd e (ha i d),λi j d e a z=>absurd z (ha i d),h.base,h.fxs⟩
 obtain⟨v,h1,h2⟩:=h.pl i d (hp i d e)
 exact⟨v,h1,Rp.same (Offs.sub λb z=>z.imp (λy=>y) λ⟨j,d',z,_⟩=>absurd z (ha j d')) _ h2⟩
theorem EnvOk.updFx{fx:Addr->Prop}{H0:Hp}{env:DEnv}{σ:St}{H:Hp}{p:Addr}{o:HO}(h:EnvOk fx H0 env σ H)(hp:fx p)(h0:H0 p=none):EnvOk fx H0 env σ (upd H p o):=by
 have so:Offs (λb=>fx b\/own env σ b) (upd H p o)=Offs (λb=>fx b\/own env σ b) H:=Offs.upd (.inl hp)
 refine⟨h.len,λi d e=>?_,λi d e=>?_,h.inj,λb u e=>by rw[zaq (zbg e h0)];exact h.base b u e,λb z=>?_⟩
 ·rw[so];exact h.pl i d e
 ·obtain⟨a,h1,h2,h3,h4⟩:=h.ac i d e
  rw[so]
  exact⟨a,h1,h2,h3,h4.same (Same.refl _) λu z=>by rw[zaq λy=>h3 (by rw[y];exact hp)];exact z⟩
 ·by_cases e:b=p
  ·rw[e];exact⟨_,zap⟩
  ·obtain⟨u,hu⟩:=h.fxs b z
   exact⟨u,by rw[zaq e];exact hu⟩
noncomputable def GX(n:Nat)(g:GT):Prop:=∀d env e1,g d env=some e1->e1.length=env.length/\∀i,n<=i->e1[i]?=env[i]?
noncomputable def GXs(n:Nat)(g:GTs):Prop:=∀ds env e1,g ds env=some e1->e1.length=env.length/\∀i,n<=i->e1[i]?=env[i]?
theorem zwz{n i:Nat}(h:i<n):GX n (gN i):=by
 intro d env e1 e
 cases e
 exact⟨qN,λj hj=>qJ (by omega)⟩
theorem zsg{n:Nat}:GXs n zek:=by
 intro ds env e1 e
 cases ds with
 | nil=>cases e;exact⟨rfl,λ_ _=>rfl⟩
 | cons _ _=>cases e
theorem zhg{n i:Nat}{g:GTs}(h:i<n)(hg:GXs n g):GXs n (zau i g):=by
 intro ds env e1 e
 cases ds with
 | nil=>cases e
 | cons d ds=>
  obtain⟨h1,h2⟩:=hg ds _ e1 e
  rw[qN]at h1
  exact⟨h1,λj hj=>(h2 j hj).trans (qJ (by omega))⟩
theorem zxa{n m:Nat}{g:GTs}(hg:GXs n g):GX n (gT m g):=by
 intro d env e1 e
 unfold gT at e
 cases d with
 | tuple ds=>
  have e:(if ds.length=m then g ds env else none)=some e1:=e
  split at e
  ·exact hg ds env e1 e
  ·cases e
 | _=>cases e
noncomputable def zjl(g:GT)(t:TF)(e:EF)(env:DEnv):List PyData->Option (List PyData)
 | []=>some []
 | d::ds=>(g d env).bind λe1=>(t e1).bind λb=>if b=true then(e e1).bind λr=>(zjl g t e env ds).map λrs=>r.d::rs else zjl g t e env ds
noncomputable def zpf(own:List Str)(fr:List Nat)(fi:IF')(g:GT)(t:TF)(e:EF):EF:=λenv=>(fi env).bind λz=>if z.1.length<100000 then
 (zjl g t e (envB own fr env) z.1).map λrs=>⟨.list rs,true,if zeg rs=true then[]else z.2++capA fr env⟩else none
theorem zpg{H H':Hp}{ds:List PyData}{vs:List V}(f:zeg ds=true)(h:Rps H ds vs):Rps H' ds vs:=by
 replace h:=zbh.mp h
 induction h with
 | nil=>exact zdd
 | cons h _ ih=>
  unfold zeg at f
  rw[qAq,qj]at f
  exact zde (zfw f.1 h) (ih f.2)
theorem zsh{own:List Str}{fr:List Nat}{wi:TI}{g:TG}{tt:TT}{te:TE}{fi:IF'}{gf:GT}{t:TF}{e:EF}(h1:SI wi fi)(h2:SG g gf)(hx:GX own.length gf)(h3:ST tt t)(h4:SE te e) :
  SE (tComp1 wi g tt te own fr) (zpf own fr fi gf t e):=by
 intro fx H0 env σ H h rr hr Q q
 unfold zpf at hr
 obtain⟨⟨ds,bs⟩,ei,hr⟩:=qA.mp hr
 split at hr
 ·rename_i hlen
  have hlen:ds.length<100000:=hlen
  obtain⟨rs,ers,rfl⟩:=qG.mp hr
  refine h1 fx H0 env σ H h ds bs ei _ λJ H1 s yl=>λp hp=>?_
  have hB:=zpe h s hp own fr bs
  generalize hA:(λb=>lim fx env σ (bs++capA fr env) b)=A
  have hA':∀b,lim fx env σ (bs++capA fr env) b↔A b:=λb=>by rw[<- hA]
  have eA:(λb=>lim fx env σ (bs++capA fr env) b\/b=p)=λb=>A b\/b=p:=by rw[<- hA]
  rw[eA]at hB
  have nA:¬A p:=λz=>by
   obtain⟨o,eo⟩:=(h.up s).lims _ p ((hA' p).mpr z)
   rw[hp]at eo;cases eo
  have seen:∀{σ':St}{H':Hp},EnvOk (λb=>A b\/b=p) H1 (envB own fr env) σ' H'->Same (Offs (λb=>fx b\/L2.own (frzs env bs) σ b) H1) (Offs (λb=>A b\/b=p) H'):=λ{σ' H'} hE=>Offs.mono hE.base λb o eo n z=>by
   rcases z with z|z
   ·rcases(hA' b).mpr z with z|⟨i,d,z1,z2,z3⟩
    ·exact n (.inl z)
    ·exact n (.inr ⟨i,d,ztf (λy=>z1 (qAG _ y)) z2,z3⟩)
   ·rw[z,hp]at eo;cases eo
  refine⟨λi m σ' H'=>m=ds.length - i/\i<=ds.length/\∃vs done rest,H' p=some (.lst vs)/\Rps (Offs (λb=>A b\/b=p) H') done vs/\done.length<=i/\zjl gf t e (envB own fr env) (ds.drop i)=some rest/\done++rest=rs/\EnvOk (λb=>A b\/b=p) H1 (envB own fr env) σ' H',
   ⟨ds.length,rfl,qAR _,[],[],rs,zap,zdd,qAR _,ers,rfl,hB⟩,?_⟩
  rintro i m σ' H' ⟨rfl,hi,vs,done,rest,ep,rd,dl,ec,edr,hE⟩
  obtain⟨yi,ys⟩:=yl _ H' hE.fxs (seen hE)
  by_cases hlt:i<ds.length
  ·obtain⟨yg,yy⟩:=yi i ds[i] (qF hlt)
   refine .inr ⟨yg,λσ'' H''=>i+1<=ds.length/\∃vs done rest,H'' p=some (.lst vs)/\Rps (Offs (λb=>A b\/b=p) H'') done vs/\done.length<=i+1/\zjl gf t e (envB own fr env) (ds.drop (i+1))=some rest/\done++rest=rs/\EnvOk (λb=>A b\/b=p) H1 (envB own fr env) σ'' H'',?_,?_⟩
   ·rintro σ'' H'' ⟨hle,hh⟩
    exact⟨ds.length - (i+1),by omega,rfl,hle,hh⟩
   ·intro x H'' hy
    obtain⟨sy,ry⟩:=yy x H'' hy
    rw[qAD hlt]at ec
    obtain⟨e1,ee1,ec⟩:=qA.mp ec
    obtain⟨b,eb,ec⟩:=qA.mp ec
    have ry':Rp (Offs (λa=>(A a\/a=p)\/L2.own (envB own fr env) σ' a) H'') ds[i] x:=Rp.same (Offs.sub λb z=>z.elim (λy=>y) λ⟨j,d',z,_⟩=>absurd z zgo) _ ry
    refine h2 _ H1 (envB own fr env) σ' H'' _ x (hE.up sy) ry' e1 ee1 _ λσ2 hE2=>?_
    refine h3 _ H1 e1 σ2 H'' hE2 b eb _ λH3 s3=>?_
    have hE3:=hE2.up s3
    obtain⟨gl,gk⟩:=hx _ _ _ ee1
    have back:∀{H4:Hp},EnvOk (λb=>A b\/b=p) H1 e1 σ2 H4->EnvOk (λb=>A b\/b=p) H1 (envB own fr env) σ2 H4:=λ{H4} hh=>hh.weaken gl.symm (λj d' ej=>by
     by_cases hj:own.length<=j
     ·rw[gk j hj];exact ej
     ·obtain⟨_,k,rfl,_⟩:=znn ej;omega) λj d'=>zgo
    cases b with
    | false=>
     have ec:zjl gf t e (envB own fr env) (ds.drop (i+1))=some rest:=ec
     exact iteF ⟨hlt,vs,done,rest,s3 _ _ (sy _ _ ep),Rps.same (Offs.grow (sy.trans s3)) _ rd,Nat.le_succ_of_le dl,ec,edr,back hE3⟩
    | true=>
     have ec:((e e1).bind λr=>(zjl gf t e (envB own fr env) (ds.drop (i+1))).map λrs=>r.d::rs)=some rest:=ec
     obtain⟨r,er,ec⟩:=qA.mp ec
     obtain⟨rest',er',rfl⟩:=qG.mp ec
     refine iteT (h4 _ H1 e1 σ2 H3 hE3 r er _ λv H4 s4 hv=>?_)
     have t4:=(sy.trans s3).trans s4
     refine⟨vs,t4 _ _ ep,zku (by rw[<- rd.length];omega),hlt,vs++[v],done++[r.d],rest',zap,?_,by rw[qY];simp;omega,er',by rw[<- edr];simp,(back (hE3.up s4)).updFx (.inr rfl) hp⟩
     rw[Offs.upd (.inr rfl)]
     exact(Rps.same (Offs.grow t4) _ rd).append (zde (Rp.same (Offs.sub λb z=>.inl z) _ hv.rp) zdd)
  ·have hi':i=ds.length:=by omega
   subst hi'
   rw[qBa]at ec
   cases ec
   rw[qw]at edr
   subst edr
   refine .inl ⟨ys,q _ H' (s.trans hE.base) ⟨?_,λ_=>⟨p,rfl,s.free hp,?_⟩⟩⟩
   ·show Rp (Offs (lim fx env σ (if zeg done=true then[]else bs++capA fr env)) H') (.list done) (.ref p)
    have nl:∀cs,¬lim fx env σ cs p:=λcs z=>by
     obtain⟨o,eo⟩:=(h.up s).lims _ p z
     rw[hp]at eo;cases eo
    refine zff (by rw[Offs.get (nl _)];exact ep) ?_
    split
    ·rename_i f;exact zpg f rd
    ·exact Rps.same (Offs.sub λb z=>.inl ((hA' b).mp z)) _ rd
   ·show zfg (Offs (λb=>lim fx env σ (if zeg done=true then[]else bs++capA fr env) b\/b=p) H') H' p (.list done)
    refine⟨vs,ep,?_⟩
    split
    ·rename_i f;exact zpg f rd
    ·exact Rps.same (Offs.sub λb z=>z.imp (hA' b).mp id) _ rd
 ·cases hr
section
variable{X:Cx}{K:qB}
theorem zxb(hK:X.K=K){a:Expr}{ta:TE}(ha:PE X a ta)(he:∀whole,isTrue a X.env whole=(do let v <- whole;standAt a.pos;holding [v] (truthy v))) :
  PT X a (λσ H Q=>ta σ H λx H'=>∃k,TruV K x H' k/\Q k H'):=by subst hK;exact zaaf ha he
theorem zph(hK:X.K=K)(hu:X.A.units+64<cLine):OpR X (compareOp .Eq) (λx y H Q=>rEq x y H Q\/rEqD K false x y H Q):=by subst hK;exact zakt.or (zaim hu)
theorem zpi(hK:X.K=K)(hu:X.A.units+64<cLine):OpR X (compareOp .NotEq) (λx y H Q=>rNe x y H Q\/rEqD K true x y H Q):=by subst hK;exact zaku.or (zain hu)
noncomputable def zhm:TF:=λ_=>some true
theorem zpj:ST tAll zhm:=by
 intro fx H0 env σ H hE b hb Q q
 cases hb
 exact q H (Same.refl _)
noncomputable def rIsC(neg:Bool):R2:=λx y H Q=>∃b,y=.bl b/\Q (.bl (if neg then !decide (x=y)else decide (x=y))) H
theorem zpk{x:V}{v:Value}{b:Bool}(r:RelV x v):(v==Value.bool b)=decide (x=.bl b):=by
 cases x with
 | non=>cases r;rfl
 | bl c=>cases r;cases b<;>cases c<;>rfl
 | int _=>obtain⟨t,rfl⟩:=r;rfl
 | str _=>obtain⟨t,rfl⟩:=r;rfl
 | byt _=>obtain⟨t,rfl⟩:=r;rfl
 | flt _=>obtain⟨t,rfl⟩:=r;rfl
 | ref _=>cases r;rfl
 | ty _=>cases r;rfl
theorem zml{x:V}{v:Value}{b:Bool}(r:RelV x v):plainIs v (.bool b)=true:=by
 cases x with
 | non=>cases r;rfl
 | bl c=>cases r;rfl
 | int _=>obtain⟨t,rfl⟩:=r;rfl
 | str _=>obtain⟨t,rfl⟩:=r;rfl
 | byt _=>obtain⟨t,rfl⟩:=r;rfl
 | flt _=>obtain⟨t,rfl⟩:=r;rfl
 | ref _=>cases r;rfl
 | ty _=>cases r;rfl
theorem zaiy:OpR X (compareOp .Is) (rIsC false):=by
 intro pins s σ H x y v u Q I rx ry h
 obtain⟨b,rfl,q⟩:=h
 cases ry
 exact wpAny_is_plain (zml rx) ⟨.bl _,H,I,by rw[zpk rx];rfl,q⟩
theorem zxc:OpR X (compareOp .IsNot) (rIsC true):=by
 intro pins s σ H x y v u Q I rx ry h
 obtain⟨b,rfl,q⟩:=h
 cases ry
 exact wpAny_isNot_plain (zml rx) ⟨.bl _,H,I,by rw[zpk rx];rfl,q⟩
noncomputable def isB:PyData->Bool->Bool
 | .bool c,b=>c==b
 | _,_=>false
noncomputable def isCD(neg:Bool):OF:=λd e=>match e with
 | .bool b=>some (.bool (if neg then !isB d b else isB d b),false)
 | _=>none
theorem zalf{H:Hp}{d:PyData}{v:V}{b:Bool}(h:Rp H d v):decide (v=.bl b)=isB d b:=by
 cases d with
 | list ds=>obtain⟨a,xs,rfl,_⟩:=zcr h;rfl
 | tuple ds=>obtain⟨a,xs,rfl,_⟩:=zce h;rfl
 | dict ds=>obtain⟨a,xs,rfl,_⟩:=zkq h;rfl
 | bool c=>cases zey h;exact zsy
 | _=>unfold Rp at h;subst h;rfl
theorem zaiz{neg:Bool}:SO (rIsC neg) (isCD neg):=by
 intro A H x y dx dy hA rx ry d fr e Q q
 unfold isCD at e
 split at e
 ·cases e
  cases zey ry
  refine⟨_,rfl,?_⟩
  rw[zalf rx]
  exact q _ H (Same.refl _) zag (λz=>by cases z)
 ·cases e
noncomputable def zhp(f g:OF)(a b c:EF):EF:=λenv=>(a env).bind λx=>(b env).bind λy=>(f x.d y.d).bind λz=>(asB z.1).bind λk=>if k=true then(c env).bind λw=>(g y.d w.d).bind λu=>if zci u.1=true then some ⟨u.1,false,[]⟩else none else some ⟨.bool false,false,[]⟩
theorem zth{r r':R2}{f g:OF}{ta tb tc:TE}{fa fb fc:EF}(ho:SO r f)(ho':SO r' g)(ha:SE ta fa)(hb:SE tb fb)(hc:SE tc fc):SE (tChain r r' ta tb tc) (zhp f g fa fb fc):=by
 intro fx H0 env σ H h rr hr Q q
 unfold zhp at hr
 obtain⟨x,ex,hr⟩:=qA.mp hr
 obtain⟨y,ey,hr⟩:=qA.mp hr
 obtain⟨⟨d,fr⟩,ez,hr⟩:=qA.mp hr
 obtain⟨k,ek,hr⟩:=qA.mp hr
 refine ha fx H0 env σ H h x ex _ λv H1 s1 v1=>hb fx H0 env σ H1 (h.up s1) y ey _ λu H2 s2 v2=>?_
 have l1:∀b,lim fx env σ (x.bs++y.bs) b->lim fx env σ x.bs b:=zfv λi hi=>qAG _ hi
 have l2:∀b,lim fx env σ (x.bs++y.bs) b->lim fx env σ y.bs b:=zfv λi hi=>qg _ hi
 refine ho (lim fx env σ (x.bs++y.bs)) H2 v u x.d y.d ((h.up (s1.trans s2)).lims _) (v1.later (Same.refl _) s2 l1).rp (v2.later (Same.refl _) (Same.refl _) l2).rp d fr ez _ λw H3 s3 rp _=>⟨k,as_b rp ek,?_⟩
 have t3:=(s1.trans s2).trans s3
 cases k with
 | false=>cases hr;exact iteF (q _ H3 t3 ⟨zag,λz=>by cases z⟩)
 | true=>
  have hr:((fc env).bind λw=>(g y.d w.d).bind λu=>if zci u.1=true then some (⟨u.1,false,[]⟩:Val)else none)=some rr:=hr
  obtain⟨w',ew,hr⟩:=qA.mp hr
  obtain⟨⟨d',fr'⟩,ez',hr⟩:=qA.mp hr
  split at hr
  ·rename_i hf
   cases hr
   refine iteT (hc fx H0 env σ H3 (h.up t3) w' ew _ λv' H4 s4 v4=>?_)
   have l3:∀b,lim fx env σ (y.bs++w'.bs) b->lim fx env σ y.bs b:=zfv λi hi=>qAG _ hi
   have l4:∀b,lim fx env σ (y.bs++w'.bs) b->lim fx env σ w'.bs b:=zfv λi hi=>qg _ hi
   exact ho' (lim fx env σ (y.bs++w'.bs)) H4 u v' y.d w'.d ((h.up (t3.trans s4)).lims _) (v2.later (Same.refl _) (s3.trans s4) l3).rp (v4.later (Same.refl _) (Same.refl _) l4).rp d' fr' ez' _ λw2 H5 s5 rp5 _=>
    q w2 H5 ((t3.trans s4).trans s5) ⟨zfw hf rp5,λz=>by cases z⟩
  ·cases hr
end
end L2
namespace PySem
open Sem (wp)
end PySem
namespace L2
open PySem PySem.Spec PyProof.Rows
theorem zjw{α β:Type}{F:α->β->Prop}:∀{l:List α}{r:List β}{i:Nat}{x:α},Paired F l r->l[i]?=some x->∃y,r[i]?=some y/\F x y
 | _,_,_,_,.nil,e=>by simp at e
 | _,_,0,_,.cons h _,e=>by simp at e;subst e;exact⟨_,rfl,h⟩
 | _,_,i+1,x,.cons _ t,e=>by
  obtain⟨y,h1,h2⟩:=zjw (i:=i) (x:=x) t (by simpa using e)
  exact⟨y,by simpa using h1,h2⟩
noncomputable def zacm:List PyData->Option (List (PyData×PyData))
 | []=>some []
 | .tuple [k,v]::r=>(keyD k).bind λ_=>(zacm r).map λps=>(k,v)::ps
 | _=>none
noncomputable def zaly:GF
 | [.list rows]=>(zacm rows).map λps=>(.dict (zaet [] ps),true)
 | _=>none
noncomputable def zib(i j:Nat)(f:EF):SF:=λenv=>match env[i]?,env[j]? with
 | some (.ac (.list ds)),some (.ac (.list es))=>(f env).bind λr=>match r.d with
  | .int k=>if 0<=k/\k<100000/\ds.length<100000/\i≠j then(es[k.toNat]?).bind λd=>some (.nx ((env.set j (.ac (.list (es.eraseIdx k.toNat)))).set i (.ac (.list (ds++[d])))))else none
  | _=>none
 | _,_=>none
theorem Rps.erase{H:Hp}{ds:List PyData}{vs:List V}(h:Rps H ds vs)(n:Nat):Rps H (ds.eraseIdx n) (vs.eraseIdx n):=by
 induction n generalizing ds vs with
 | zero=>
  cases ds with
  | nil=>unfold Rps at h;subst h;exact zdd
  | cons d ds=>unfold Rps at h;obtain⟨v,ws,rfl,h1,h2⟩:=h;exact h2
 | succ n ih=>
  cases ds with
  | nil=>unfold Rps at h;subst h;exact zdd
  | cons d ds=>unfold Rps at h;obtain⟨v,ws,rfl,h1,h2⟩:=h;exact zde h1 (ih h2)
theorem zxd{K:qB}{i j:Nat}{te:TE}{f:EF}(h1:SE te f):SS (tDrop (tBM K "list" znc (tVar i) (tCons (tBM K "list" zwg (tVar j) (tCons te tNil)) tNil))) (zib i j f):=by
 intro fx H0 env σ H D h o e q
 unfold zib at e
 split at e
 ·rename_i ds es ei ej
  obtain⟨⟨rd,rfr,rbs⟩,er,e⟩:=qA.mp e
  cases rd with
  | int k=>
   have e:(if 0<=k/\k<100000/\ds.length<100000/\i≠j then(es[k.toNat]?).bind λd=>some (Out.nx ((env.set j (.ac (.list (es.eraseIdx k.toNat)))).set i (.ac (.list (ds++[d])))))else none)=some o:=e
   split at e
   ·rename_i hl
    obtain⟨d,ed,e⟩:=qA.mp e
    cases e
    obtain⟨a,g1,g2,g3,g4⟩:=h.ac i _ ei
    obtain⟨xs,hx,rx⟩:=g4
    obtain⟨b,k1,k2,k3,k4⟩:=h.ac j _ ej
    obtain⟨ys,hy,ry⟩:=k4
    have hab:a≠b:=λz=>hl.2.2.2 (h.inj i j _ _ a ei ej g1 (by rw[z];exact k1))
    refine⟨_,g1,.inl ⟨rfl,_,SqL.of hx⟩,_,k1,.inl ⟨rfl,_,SqL.of hy⟩,h1 fx H0 env σ H h _ er _ λv H' s hv=>?_⟩
    cases zbz hv.rp
    have h':=h.up s
    have hy':=s _ _ hy
    have hx':=s _ _ hx
    have ry':Rps (Offs (λb=>fx b\/own env σ b) H') es ys:=Rps.same (Offs.grow s) _ ry
    have rx':Rps (Offs (λb=>fx b\/own env σ b) H') ds xs:=Rps.same (Offs.grow s) _ rx
    obtain⟨u,hu,ru⟩:=ry'.get2 ed
    have hlt:k.toNat<ys.length:=(qI.mp hu).1
    have hsq:seqIndex? k ys.length=some k.toNat:=seqIndex_of hl.1 (by omega)
    refine⟨b,ys,k,k.toNat,u,rfl,rfl,hy',by omega,by omega,hsq,hu,?_⟩
    have h2:=h'.mut ej k1 (d':=.list (es.eraseIdx k.toNat)) (o:=.lst (ys.eraseIdx k.toNat)) ⟨_,zap,ry'.erase _⟩
    have ei2:(env.set j (.ac (.list (es.eraseIdx k.toNat))))[i]?=some (.ac (.list ds)):=by rw[qJ (qAm hl.2.2.2)];exact ei
    have hx2:(upd H' b (.lst (ys.eraseIdx k.toNat))) a=some (.lst xs):=by rw[zaq hab];exact hx'
    obtain⟨a',z1,_,_,z4⟩:=h2.ac i _ ei2
    rw[g1]at z1
    cases z1
    obtain⟨zs,y1,y2⟩:=z4
    rw[hx2]at y1
    cases y1
    have ow:Same (Offs (λb=>fx b\/own env σ b) H') (Offs (λc=>fx c\/own (env.set j (.ac (.list (es.eraseIdx k.toNat)))) σ c) (upd H' b (.lst (ys.eraseIdx k.toNat)))):=by
     have t:Same (Offs (λb=>fx b\/own env σ b) (upd H' b (.lst (ys.eraseIdx k.toNat)))) (Offs (λc=>fx c\/own (env.set j (.ac (.list (es.eraseIdx k.toNat)))) σ c) (upd H' b (.lst (ys.eraseIdx k.toNat)))):=Offs.sub λc z=>z.imp (λy=>y) λ⟨m,d1,w1,w2⟩=>by
      rcases zbc w1 with⟨rfl,_⟩|⟨_,w1⟩
      ·exact⟨m,_,ej,w2⟩
      ·exact⟨m,d1,w1,w2⟩
     rw[Offs.upd (.inr ⟨j,_,ej,k1⟩)]at t
     exact t
    refine⟨a,xs,u,rfl,rfl,hx2,zku (by rw[<- rx.length];exact hl.2.2.1),?_⟩
    exact q σ _ (h2.mut ei2 g1 ⟨_,zap,y2.append (zde (Rp.same ow _ ru) zdd)⟩)
   ·cases e
  | _=>cases e
 ·cases e
theorem zaey{X:Cx}{K:qB}(hK:X.K=K){T:String}{name:Str}{id:String}{r:V->List V->Hp->VK->Prop}{o:Expr}{to:TE}{apos cpos:Pos}(pa:PlainAttrs T)(slot:Slot T name id)(hty:typeOf (.builtin id)=pure (.type "method_descriptor"))(hm:MtR X id r)(ho:PE X o to)
  (hbase:attributeBase o name X.env (eval o X.env)=eval o X.env:=by rfl)
  (hline:(apos.endLine==cpos.line)=true:=by rfl) :
  PE X (.Call (.Attribute o name apos) [] [] cpos) (tBM0 K T r to):=by subst hK;exact zaig pa slot hty hm ho hbase hline
noncomputable def zalx(i:Nat)(b:EF):EF:=λenv=>match env[i]? with
 | some (.pl (.dict kvs))=>(b env).bind λy=>(keyD y.d).bind λk=>(zaes kvs k).bind λd=>some ⟨d,false,[]⟩
 | some (.ac (.dict kvs))=>(b env).bind λy=>(keyD y.d).bind λk=>(zaes kvs k).bind λd=>some ⟨d,false,[]⟩
 | _=>none
noncomputable def eIxV(i:Nat)(b:EF):EF:=λenv=>match env[i]? with
 | some (.ac (.list ds))=>(b env).bind λy=>match y.d with
  | .int k=>(atI ds k).map λd=>⟨d,false,[]⟩
  | _=>none
 | _=>eOp ixD (eVar i) b env
theorem zdn{K:qB}{i:Nat}{tb:TE}{fb:EF}(hb:SE tb fb):SE (tOp (rIxU K) (tVar i) tb) (eIxV i fb):=by
 intro fx H0 env σ H h rr hr Q q
 unfold eIxV at hr
 split at hr
 ·rename_i ds ei
  obtain⟨⟨dy,fy,bys⟩,ey,hr⟩:=qA.mp hr
  cases dy with
  | int k=>
   obtain⟨d,ed,rfl⟩:=qG.mp hr
   obtain⟨a,h1,h2,h3,xs,ha,r⟩:=h.ac i _ ei
   refine⟨_,h1,hb fx H0 env σ H h _ ey _ λu H2 s2 v2=>?_⟩
   cases zbz v2.rp
   obtain⟨v,hv,rv⟩:=(Rps.same (Offs.grow s2) _ r).atI ed
   exact⟨xs,v,.inl (SqL.of (s2 _ _ ha)),hv,q _ H2 s2 ⟨Rp.same (Offs.sub zkt) _ rv,λz=>by cases z⟩⟩
  | _=>cases hr
 ·exact zaw zaat (zab i) hb fx H0 env σ H h rr hr Q q
end L2
namespace PySem
open Sem (wp)
theorem zfc:plainId "set.update.loop"=true:=by decide +kernel
theorem zhq:entryFor table "set.update.loop"=some Builtin.«set.update.loop»:=entryFor_of_fast (by kernel_rfl)
theorem zpl:isSubtype (.type "list") (.type "set")=pure false:=by rw[isSubtype_type];kernel_rfl
theorem zno:isSubtype (.type "list") (.type "frozenset")=pure false:=by rw[isSubtype_type];kernel_rfl
theorem zxe(a:Value):checkBuiltinCall "set.__new__" ⟨[.type "set",a],[]⟩=pure ():=by kernel_rfl
theorem zuv(a:Value):checkTypeCall "set" ⟨[a],[]⟩=pure ():=by kernel_rfl
end PySem
namespace L2
open PySem PySem.Spec PyProof.Rows
instance memKey (k:Key) (l:List Key):Decidable (k∈l):=decidable_of_iff (∃x,x∈l/\x=k) ⟨λ⟨x,h,e⟩=>e▸h,λh=>⟨k,h,rfl⟩⟩
noncomputable def unl(seen:List Key):List Key->Nat
 | []=>0
 | k::ks=>(if k∈seen then 0 else 1)+unl (k::seen) ks
theorem zaaw{prog:Program}{w:World}{A:Around}{R:Result->Shared->Prop}{d it l:Addr}{h0:Heap}{items:List Value}{ks:List Key}(hA:A.in1.handled=none)
  (pr:Paired (λ(v:Value) (k:Key)=>zmw k v=true/\v.scannable=true) items ks)(hl:h0.IsList l items.toArray)(hd:h0.get? d=none)(hi:h0.get? it=none)(hdi:d≠it)(hz:items.length<4000) :
  ∀(k i:Nat)(s:Shared)(seen:List Key)(n:Nat),items.length - i=k->i<=items.length->s.heap.IsListIter it l i->s.heap.SetOf (zdo prog w) d (λx=>decide (x∈seen)) n->(∀b o,h0.get? b=some o->s.heap.get? b=some o)->n<=i->
  (∀h' tk' S,h'.SetOf (zdo prog w) d S (n+unl seen (ks.drop i))->(∀b o,h0.get? b=some o->h'.get? b=some o)->R (.ok (.ret .none)) {s with heap:=h',toks:=tk'})->
  codeAny (model prog w) A (.builtin "set.update.loop" ⟨[.ref d,.ref it],[]⟩) R s:=by
 have hlen:=pr.length
 have keepL:∀{h:Heap},(∀b o,h0.get? b=some o->h.get? b=some o)->h.IsList l items.toArray:=λ{h} kp=>Heap.IsList.at hl λo e=>kp _ o e
 intro k
 induction k with
 | zero=>
  intro i s seen n hk hile hit hdo kp hn hR
  have hin:i=items.length:=by omega
  subst hin
  refine qCU zhq ?_
  rw[qCX zfc _]
  show wpAny _ A.in1 (pyNext (.ref it) >>=_) _ _ s
  refine qH (wpAny_pyNext_list_end hA hit (keepL kp) (by simp) λh' eb=>?_)
  refine qc ?_
  refine hR h' s.toks (λx=>decide (x∈seen)) ?_ λb o e=>eb b o (λz=>by rw[z,hi]at e;cases e) (kp b o e)
  rw[List.drop_of_length_le (by omega)]
  obtain⟨o,es,ep,t,q1,q⟩:=hdo
  exact⟨o,es,ep,t,eb _ _ hdi q1,q⟩
 | succ k ih=>
  intro i s seen n hk hile hit hdo kp hn hR
  have hlt:i<items.length:=by omega
  obtain⟨p,hp,hkey,hsc⟩:=zjw pr (qF hlt)
  refine qCU zhq ?_
  rw[qCX zfc _]
  show wpAny _ A.in1 (pyNext (.ref it) >>=_) _ _ s
  refine qH (wpAny_pyNext_list_item hit (keepL kp) (x:=items[i]) (by simp[hlt]) λh1 hit1 sb1=>?_)
  have kp1:∀b o,h0.get? b=some o->h1.get? b=some o:=λb o e=>(sb1.2 b (λz=>by rw[z,hi]at e;cases e)).trans (kp b o e)
  have hd1:h1.SetOf (zdo prog w) d (λx=>decide (x∈seen)) n:=by
   obtain⟨o,es,ep,t,q1,q⟩:=hdo
   exact⟨o,es,ep,t,(sb1.2 d hdi).trans q1,q⟩
  show wpAny _ _ (holding [items[i]] (setAdd d items[i]) >>=_) _ _ _
  refine qH (qBk ?_)
  unfold setAdd
  refine qBk (qH ((zdo prog w).pyHash hkey ?_))
  refine wpAny_setAddHashed_of (knd:=zdo prog w) (k:=p) hkey hsc hd1 (by show n+1<4096;omega) λh2 sb2 hd2=>?_
  have hit2:h2.IsListIter it l (i+1):=by obtain⟨o,q1,q2,q3⟩:=hit1;exact⟨o,(sb2.2 _ (qAm hdi)).trans q1,q2,q3⟩
  refine qc ⟨plainId_quiet zfc _,?_⟩
  have kp2:∀b o,h0.get? b=some o->h2.get? b=some o:=λb o e=>(sb2.2 b (λz=>by rw[z,hd]at e;cases e)).trans (kp1 b o e)
  have eS:(λk'=>decide (k'∈seen)||decide (k'=p))=λx=>decide (x∈p::seen):=by
   funext x;by_cases h1:x=p<;>by_cases h2:x∈seen<;>simp[h1,h2]
  rw[eS]at hd2
  refine ih (i+1) _ (p::seen) _ (by omega) hlt hit2 hd2 kp2 (by split<;>omega) λh' tk' S hS kp'=>?_
  refine hR h' tk' S ?_ kp'
  have e:ks.drop i=p::ks.drop (i+1):=by
   obtain⟨hh,e⟩:=qI.mp hp
   rw[<- e];exact qAD hh
  rw[e]
  unfold unl
  have:n+((if p∈seen then 0 else 1)+unl (p::seen) (ks.drop (i+1)))=(if decide (p∈seen)=true then n else n+1)+unl (p::seen) (ks.drop (i+1)):=by
   by_cases h:p∈seen<;>simp[h]<;>omega
  rw[this]
  exact hS
theorem zxf{prog:Program}{w:World}{A:Around}{E:Value->Shared->Prop}{s:Shared}(a:Value){Q₁:Value->Shared->Prop}
  (h:∀led:Bool,Q₁ (.ref s.heap.objs.size) {s with heap:=s.heap.push {cls:=.type "set",dict:=none,data:=.set #[] 0 (.fresh 0 0 led)}}) :
  codeAny (model prog w) A (.call (.builtin "set.__new__") ⟨[.type "set",a],[]⟩) (wants Q₁ E) s:=by
 refine qAx F.plain_set_new F.entry_set_new (qCT (zxe a) ?_)
 have hsub:=sub_set_self
 obtain⟨hp,g,d,tk,os⟩:=s
 unfold Builtin.«set.__new__» Builtin.Frozenset.newClass
 dsimp only
 wp_walk
 refine wpAny_askSetting (qc ?_)
 dsimp only
 simp only[newObj]
 refine qH (wpAny_alloc (qc ?_))
 exact qc (h _)
theorem zsi{M:Model}{A:Around}{E:Value->Shared->Prop}{s:Shared}{self v:Value}{Q:Unit->Shared->Prop}(hT:s.TypeIs self "set")(hQ:Q () s) :
  wpAny M A (checkBuiltinCall "set.__init__" ⟨[self,v],[]⟩) Q E s:=by
 simp only[checkBuiltinCall,kind_set_init,split_set_init,sig_set_init]
 refine qH (qBn hT sub_set_self ?_)
 simp only[Bool.not_true,qA2,if_false]
 unfold Bind.checkArgs
 dsimp only
 refine qH (m:=Bind.printed "set" true _ _) (printed_name (by decide) ?_)
 refine qH (m:=Bind.printed "*" false _ _) (printed_star (self:=self) rfl hT λshort=>?_)
 have e:(Manifest.Receiver.self==Manifest.Receiver.none)=false:=by decide
 have n:(if(Manifest.Receiver.self==Manifest.Receiver.none)=true then[self,v].length else[self,v].length - 1)=1:=by simp[e]
 rw[n]
 simp only[List.map_nil]
 have c:Bind.check ⟨.positional,"set","*",.self,[⟨"iterable",.posOnly,false⟩]⟩ "set" short 1 []=pure ():=by
  first|rfl|kernel_rfl
 rw[c]
 exact qc hQ
theorem zaez{prog:Program}{w:World}{h:Heap}{led:Bool}:(h.push {cls:=.type "set",dict:=none,data:=.set #[] 0 (.fresh 0 0 led)}).SetOf (zdo prog w) h.objs.size (λx=>decide (x∈([]:List Key))) 0:=by
 refine⟨_,#[],0,_,qV _ rfl,⟨rfl,rfl,rfl⟩,rfl,λe he=>?_,λk=>?_,by decide,by cases led<;>rfl,rfl⟩
 ·simp at he
 ·simp
theorem znp{prog:Program}{w:World}{A:Around}{E:Value->Shared->Prop}{s:Shared}{l:Addr}{items:List Value}{ks:List Key}{Q:Value->Shared->Prop}(hA:A.handled=none)
  (pr:Paired (λ(v:Value) (k:Key)=>zmw k v=true/\v.scannable=true) items ks)(hl:s.heap.IsList l items.toArray)(hz:items.length<4000)
  (h:∀h' tk S,h'.SetOf (zdo prog w) s.heap.objs.size S (unl [] ks)->(∀b o,s.heap.get? b=some o->h'.get? b=some o)->Q (.ref s.heap.objs.size) {s with heap:=h',toks:=tk}) :
  wpAny (model prog w) A (call (.type "set") [.ref l]) Q E s:=by
 obtain⟨c,tl,hmro⟩:=qA1.mro
 have hmade:=qA1.made
 have hsub:=qA1.sub
 refine qBN (codeAny_of_tree ?_)
 show wpAny _ _ (callAny (.type "set") _) _ _ _
 refine qc ⟨qBy _ (by decide +kernel),qCU F.entry_type_call ?_⟩
 rw[Around.under_plain (weight_type_call_type "set" [.ref l] []) rfl]
 have h1:=qA1.notType
 have h2:=qA1.canCreate
 have hct:=zuv (.ref l)
 repeat (any_goals (first|assumption|wp_step))
 refine qAj (zxf (E:=E) (.ref l) (Q₁:=λobj s₁=>∃led:Bool,obj=.ref s.heap.objs.size/\s₁={s with heap:=s.heap.push {cls:=.type "set",dict:=none,data:=.set #[] 0 (.fresh 0 0 led)}}) λled=>⟨led,rfl,rfl⟩) λr s₁ hr=>?_
 cases r with
 | error e=>exact hr
 | ok fl=>
  cases fl with
  | ret obj=>
   obtain⟨led,rfl,rfl⟩:=hr
   have hS:=zaez (prog:=prog) (w:=w) (h:=s.heap) (led:=led)
   have hT:Shared.TypeIs {s with heap:=s.heap.push {cls:=.type "set",dict:=none,data:=.set #[] 0 (.fresh 0 0 led)}} (.ref s.heap.objs.size) "set":=⟨_,qV _ rfl,rfl⟩
   have hli:=qA1.init.lookup
   have hbi:=qA1.init.bind (.ref s.heap.objs.size)
   repeat (any_goals (first|assumption|wp_step))
   refine qAj (qAx (R:=wants (λr s₂=>r=.none/\Q (.ref s.heap.objs.size) s₂) E) qA1.init.plain F.entry_set_init (zsi hT ?_)) λr₂ s₂ hr₂=>?_
   ·unfold Builtin.«set.__init__» noKeywords
    obtain⟨ol,g1,g2,n3,g3⟩:=id hl
    have hl':(s.heap.push {cls:=.type "set",dict:=none,data:=.set #[] 0 (.fresh 0 0 led)}).get? l=some ol:=qE _ g1
    have hTl:Shared.TypeIs {s with heap:=s.heap.push {cls:=.type "set",dict:=none,data:=.set #[] 0 (.fresh 0 0 led)}} (.ref l) "list":=⟨_,hl',g2⟩
    have n1:=zpl
    have n2:=zno
    have hst:∀{P:Bool->Shared->Prop}{E':Value->Shared->Prop}{A':Around},P false {s with heap:=s.heap.push {cls:=.type "set",dict:=none,data:=.set #[] 0 (.fresh 0 0 led)}}->wpAny (model prog w) A' (setUsed s.heap.objs.size) P E' {s with heap:=s.heap.push {cls:=.type "set",dict:=none,data:=.set #[] 0 (.fresh 0 0 led)}}:=λhP=>by
     unfold setUsed
     refine qH (wpAny_setState_of (qV _ rfl) rfl (by cases led<;>rfl) (qc ?_))
     cases led<;>exact hP
    refine qH (m:=(pure ():Sem Unit)) (qc ?_)
    refine qH ?_
    unfold typeNameOfCut shownTypeOf
    refine qH ?_
    refine thn (Q:=λa s'=>a=.type "set"/\s'={s with heap:=s.heap.push {cls:=.type "set",dict:=none,data:=.set #[] 0 (.fresh 0 0 led)}}) ?_ λa s' ha=>?_
    ·repeat (any_goals (first|assumption|wp_step))
     exact⟨rfl,rfl⟩
    obtain⟨rfl,rfl⟩:=ha
    refine qc ?_
    refine qH (qc ?_)
    refine qH (qc ?_)
    refine qH (hst ?_)
    show wpAny _ _ (Builtin.Frozenset.updateFrom "set.__init__" s.heap.objs.size (.ref l) >>=_) _ _ _
    unfold Builtin.Frozenset.updateFrom Builtin.Frozenset.isAnySet
    refine qH (qH (thn (Q:=λb s'=>b=false/\s'={s with heap:=s.heap.push {cls:=.type "set",dict:=none,data:=.set #[] 0 (.fresh 0 0 led)}}) ?_ λb s' hb=>?_))
    ·simp only[orM]
     refine qH (qBn hTl n1 ?_)
     exact qBn hTl n2 ⟨rfl,rfl⟩
    obtain⟨rfl,rfl⟩:=hb
    rw[if_neg (by decide)]
    refine qH (wpAny_typeOf hTl ?_)
    rw[if_neg (by decide)]
    have g0:∀b o,s.heap.get? b=some o->(s.heap.push {cls:=.type "set",dict:=none,data:=.set #[] 0 (.fresh 0 0 led)}).get? b=some o:=λb o e=>qE _ e
    refine qH (qBc (items:=items.toArray) ⟨ol,hl',g2,n3,g3⟩ ?_)
    have hsz:s.heap.objs.size<(s.heap.push {cls:=.type "set",dict:=none,data:=.set #[] 0 (.fresh 0 0 led)}).objs.size:=qO (qV _ rfl)
    refine qH (wpAny_runValue (zaaw (h0:=s.heap) (by exact hA) pr hl (qAr (qQ _)) (qAr (qBm hsz)) (qx hsz) hz items.length 0 _ [] 0 rfl (qAR _) ⟨_,qV _ rfl,rfl,rfl⟩ ?_ (λb o e=>qE _ (g0 b o e)) (qAR _) λh' tk' S hd' kp'=>?_))
    ·obtain⟨o,es,ep,t,q1,q⟩:=hS
     exact⟨o,es,ep,t,qE _ q1,q⟩
    ·refine qc ?_
     refine qc ⟨rfl,h h' tk' S ?_ kp'⟩
     rw[Nat.zero_add]at hd'
     exact hd'
   ·cases r₂ with
    | error e=>exact hr₂
    | ok fl₂=>
     cases fl₂ with
     | ret r=>
      obtain⟨rfl,hq⟩:=hr₂
      repeat (any_goals (first|assumption|wp_step))
     | _=>exact hr₂.elim
  | _=>exact hr.elim
noncomputable def tLenSet(te:TE):TE:=λσ H Q=>te σ H λx H1=>∃p vs ks,x=.ref p/\H1 p=some (.lst vs)/\vs=ks.map kV/\vs.length<4000/\Q (.int (unl [] ks)) H1
theorem zafa{k:Key}{u:Value}(r:RelV (kV k) u):u.scannable=true:=by
 cases k with
 | inl i=>obtain⟨t,e⟩:=(show ∃t,u=Value.int i t from r);subst e;rfl
 | inr x=>obtain⟨t,e⟩:=(show ∃t,u=Value.str x t from r);subst e;rfl
theorem zky{P:Program}{w:World}:∀{ks:List Key}{us:List Value},Vals (ks.map kV) us->Paired (λ(v:Value)(k:Key)=>zmw k v=true/\v.scannable=true) us ks
 | [],us,h=>by cases h;exact .nil
 | k::ks,us,h=>by cases h with|cons r t=>exact .cons ⟨zaky (P:=P) (w:=w) r,zafa r⟩ (zky (P:=P) (w:=w) t)
theorem zaja:bootBuiltins "len"=some (.builtin "len"):=by decide +kernel
theorem zajb:bootBuiltins "set"=some (.type "set"):=by decide +kernel
theorem zxg{X:Cx}{e:Expr}{te:TE}{p1 p2 pos1 pos2:Pos}(hc:X.calm=true)(hgl:Gl X "len")(hml:X.mg "len"=none)(hgs:Gl X "set")(hms:X.mg "set"=none)(he:PE X e te)
  (hs:starEach [e] X.env=(false,eval e X.env)::starEach [] X.env:=by rfl) :
  PE X (.Call (.Name "len" p1) [.Call (.Name "set" p2) [e] [] pos2] [] pos1) (tLenSet te):=by
 intro pins s σ H Q I h
 refine qAT (zjt I hgl hml zaja ?_ (by decide) (by decide))
 refine callWith_builtin1 ?_ rfl rfl
 show wpAny _ _ (spliced ((false,eval (.Call (.Name "set" p2) [e] [] pos2) X.env)::[])) _ _ s
 refine qA0 ?_
 refine qAT (zjt I hgs hms zajb ?_ (by decide) (by decide))
 refine callWith_type1 ?_ hs rfl
 rw[hs]
 show wpAny _ _ (spliced ((false,eval e X.env)::[])) _ _ s
 refine qA0 (thn (he pins s σ H _ I h) λu s1 z=>?_)
 obtain⟨x,H1,I1,r1,p,vs,ks,rfl,hp,rfl,hz,q⟩:=z
 cases r1
 refine qBR ?_
 obtain⟨hz',its,n,rv,hg⟩:=(show zdp X.prog X.w H1 s1.heap p (.lst (ks.map kV))from I1.hok p _ hp)
 have hl:=rv.length
 refine znp (I1.ok.hd hc) (zky (P:=X.prog) (w:=X.w) rv) ⟨_,hg,rfl,n,rfl⟩ (by omega) λh' tk S hS kp=>?_
 refine qBR ?_
 obtain⟨o,es,ep,t,ho,hex,hd,_,_,hb,hf,hn⟩:=hS
 refine call_len_set (s:={s1 with heap:=h',toks:=tk}) ho hex hd hf (by have:es.size<4096:=hb;omega) ?_
 exact⟨.int (unl [] ks),H1,I1.kept (t':=_) kp,⟨tk+1,by rw[hn]⟩,q⟩
noncomputable def zsj:List PyData->Option (List Key)
 | []=>some []
 | d::ds=>(keyD d).bind λk=>(zsj ds).map λks=>k::ks
noncomputable def zkz(f:EF):EF:=λenv=>(f env).bind λr=>match r.d with
 | .list ds=>(zsj ds).bind λks=>if ds.length<4000 then some ⟨.int (unl [] ks),false,[]⟩else none
 | _=>none
theorem zti{H:Hp}:∀{ds:List PyData}{vs:List V}{ks:List Key},Rps H ds vs->zsj ds=some ks->vs=ks.map kV
 | [],vs,ks,h,e=>by unfold Rps at h;cases e;subst h;rfl
 | d::ds,vs,ks,h,e=>by
  obtain⟨k,ek,e⟩:=qA.mp e
  obtain⟨ks',e',rfl⟩:=qG.mp e
  cases zbh.mp h with
  | cons h1 h2=>
   rename_i v vs'
   have:=zti (zbh.mpr h2) e'
   subst this
   cases d with
   | int i=>cases ek;unfold Rp at h1;subst h1;rfl
   | str x=>cases ek;unfold Rp at h1;subst h1;rfl
   | _=>cases ek
theorem zxh{te:TE}{f:EF}(h:SE te f):SE (tLenSet te) (zkz f):=by
 intro fx H0 env σ H hE rr hr Q q
 unfold zkz at hr
 obtain⟨⟨d,fr,bs⟩,er,hr⟩:=qA.mp hr
 cases d with
 | list ds=>
  have hr:((zsj ds).bind λks=>if ds.length<4000 then some (⟨.int (unl [] ks),false,[]⟩:Val)else none)=some rr:=hr
  obtain⟨ks,ek,hr⟩:=qA.mp hr
  split at hr
  ·rename_i hl
   cases hr
   refine h fx H0 env σ H hE _ er _ λv H1 s1 hv=>?_
   obtain⟨p,xs,rfl,h1,r⟩:=zcr hv.rp
   have e:=zti r ek
   refine⟨p,xs,ks,rfl,zdm h1,e,by rw[<- r.length];exact hl,q _ H1 s1 ⟨zaa,λz=>by cases z⟩⟩
  ·cases hr
 | _=>cases hr
end L2
namespace PySem
open Sem (wp)
noncomputable def SqIt(b:Bool)(h:Heap)(it l:Addr)(i:Nat):Prop:=match b with
 | true=>h.IsListIter it l i
 | false=>h.IsTupleIter it l i
noncomputable def zla(b:Bool)(h:Heap)(l:Addr)(xs:Array Value):Prop:=match b with
 | true=>h.IsList l xs
 | false=>h.IsTuple l xs
theorem SqIt.moved{b:Bool}{h h':Heap}{it l:Addr}{i:Nat}(x:SqIt b h it l i)(e:∀o,h.get? it=some o->h'.get? it=some o):SqIt b h' it l i:=by
 cases b with
 | true=>obtain⟨o,q,r⟩:=x;exact⟨o,e o q,r⟩
 | false=>obtain⟨o,q,r⟩:=x;exact⟨o,e o q,r⟩
theorem zla.moved{b:Bool}{h h':Heap}{l:Addr}{xs:Array Value}(x:zla b h l xs)(e:∀o,h.get? l=some o->h'.get? l=some o):zla b h' l xs:=by
 cases b with
 | true=>obtain⟨o,q,r⟩:=x;exact⟨o,e o q,r⟩
 | false=>obtain⟨o,q,r⟩:=x;exact⟨o,e o q,r⟩
theorem SqIt.obj{b:Bool}{h:Heap}{it l:Addr}{i:Nat}(x:SqIt b h it l i):∃o,h.get? it=some o/\∀v,o.data≠.cell v:=by
 cases b with
 | true=>obtain⟨o,q,_,r⟩:=x;exact⟨o,q,λv z=>by rw[r]at z;cases z⟩
 | false=>obtain⟨o,q,_,r⟩:=x;exact⟨o,q,λv z=>by rw[r]at z;cases z⟩
section
variable{prog:Program}{w:World}{A:Around}{E:Value->Shared->Prop}{s:Shared}
theorem znq{it l:Addr}{i:Nat}{items}{x:Value}{Q:Value->Shared->Prop}(hit:s.heap.IsTupleIter it l i)
  (hl:s.heap.IsTuple l items)(hx:items[i]?=some x)
  (hQ:∀h',h'.IsTupleIter it l (i+1)->Heap.SameBut it s.heap h'->Q x {s with heap:=h'}) :
  wpAny (model prog w) A (qAN (.ref it)) Q E s:=by
 obtain⟨o,ho,hc,hd⟩:=id hit
 obtain⟨ol,hol,_,nl,hdl⟩:=hl
 unfold qAN
 refine qH (qBl (name:=Str.ofString "__next__") hit.typeIs qAt
  (qCM qAt hit.typeIs qCS ?_ (qCL _)))
 show wpAny _ _ (field (.ref it) 0 >>=_) _ _ s
 refine qH (qAs ho hd (x:=.ref l) rfl ?_)
 show wpAny _ _ (if(Value.ref l==Value.none)=true then _ else _) _ _ s
 rw[if_neg (show ¬((Value.ref l==Value.none)=true)from qK)]
 show wpAny _ _ (field (.ref it) 1 >>=_) _ _ s
 refine qH (qAs ho hd (x:=.int i 0) rfl ?_)
 show wpAny _ _ (seqItems? (.ref l) >>=_) _ _ s
 refine qH (wpAny_seqItems hol hdl ?_)
 simp only[qBU,hx]
 refine qH (qAz ho hd (by simp) (qc ⟨x,rfl,qc (hQ _ ?_ (qCE ..))⟩))
 exact⟨_,qAU _ ho (qAd (qAJ hd _)),(Obj.cls_mapFields ..).trans hc,by
  rw[qAJ hd];simp[rawInt]⟩
theorem zpm{it l:Addr}{i:Nat}{items}{Q:Value->Shared->Prop}(hh:A.handled=none)
  (hit:s.heap.IsTupleIter it l i)(hl:s.heap.IsTuple l items)(hx:items[i]?=none)
  (hE:∀h' e,Heap.ExtBut it s.heap h'->(∃o,h'.get? e=some o/\o.cls=.type "StopIteration")->E (.ref e) {s with heap:=h'}) :
  wpAny (model prog w) A (qAN (.ref it)) Q E s:=by
 obtain⟨o,ho,hc,hd⟩:=id hit
 obtain⟨ol,hol,_,nl,hdl⟩:=hl
 unfold qAN
 refine qH (qBl (name:=Str.ofString "__next__") hit.typeIs qAt
  (qCM qAt hit.typeIs qCS ?_ (qCL _)))
 show wpAny _ _ (field (.ref it) 0 >>=_) _ _ s
 refine qH (qAs ho hd (x:=.ref l) rfl ?_)
 show wpAny _ _ (if(Value.ref l==Value.none)=true then _ else _) _ _ s
 rw[if_neg (show ¬((Value.ref l==Value.none)=true)from qK)]
 show wpAny _ _ (field (.ref it) 1 >>=_) _ _ s
 refine qH (qAs ho hd (x:=.int i 0) rfl ?_)
 show wpAny _ _ (seqItems? (.ref l) >>=_) _ _ s
 refine qH (wpAny_seqItems hol hdl ?_)
 simp only[qBU,hx]
 refine qH (wpAny_rule (qH (qAz ho hd (by simp) ?_)))
 show wpAny _ _ (newExc (.type "StopIteration") [] >>=_) _ _ _
 refine qH ?_
 simp only[newExc,newTuple]
 refine qH (qBd ?_ (by size_fits))
 refine qH (m:=firstArgMember _ _) (qCT (a:=Value.none) (by first|rfl|(simp only[firstArgMember];rfl)) ?_)
 refine qBd ?_ (by size_fits)
 simp only[raiseNew]
 refine qH (wpAny_handled ?_)
 first|rw[show A.in1.handled=none from hh]|rw[hh]
 refine qH (qc (wpAny_throw ?_))
 exact hE _ _ (((qCE ..).extBut.push _).push _) ⟨_,qV _ rfl,rfl⟩
theorem zafb{b:Bool}{it l:Addr}{i:Nat}{xs:Array Value}{x:Value}{Q:Value->Shared->Prop}(hit:SqIt b s.heap it l i)(hl:zla b s.heap l xs)(hx:xs[i]?=some x)
  (hQ:∀h',SqIt b h' it l (i+1)->Heap.SameBut it s.heap h'->Q x {s with heap:=h'}):wpAny (model prog w) A (qAN (.ref it)) Q E s:=by
 cases b with
 | true=>exact wpAny_nextOf_list_item hit hl hx hQ
 | false=>exact znq hit hl hx hQ
theorem zacn{b:Bool}{it l:Addr}{i:Nat}{xs:Array Value}{Q:Value->Shared->Prop}(hh:A.handled=none)(hit:SqIt b s.heap it l i)(hl:zla b s.heap l xs)(hx:xs[i]?=none)
  (hE:∀h' e,Heap.ExtBut it s.heap h'->(∃o,h'.get? e=some o/\o.cls=.type "StopIteration")->E (.ref e) {s with heap:=h'}):wpAny (model prog w) A (qAN (.ref it)) Q E s:=by
 cases b with
 | true=>exact wpAny_nextOf_list_end hh hit hl hx hE
 | false=>exact zpm hh hit hl hx hE
end
end PySem
namespace L2
open PySem PySem.Spec PyProof.Rows
noncomputable def SqX(b:Bool)(K:qB)(H:Hp)(a:Addr)(xs:List V):Prop:=match b with
 | true=>SqL K H a xs
 | false=>SqT K H a xs
section
variable{X:Cx}{pins:List (Addr×Obj)}{σ:St}{H:Hp}{s:Shared}
theorem Inv.sq{b:Bool}{a:Addr}{xs:List V}(I:Inv X pins σ H s)(h:SqX b X.K H a xs):∃its:List Value,Vals xs its/\zla b s.heap a its.toArray/\xs.length<=qa:=by
 cases b with
 | true=>obtain⟨its,r,p,z⟩:=I.list h;exact⟨its,r,p.isList,z⟩
 | false=>obtain⟨its,r,p,z⟩:=I.tuple h;exact⟨its,r,(show s.heap.IsTuple a its.toArray from p),z⟩
theorem Inv.sq_inj{b:Bool}{a:Addr}{xs ys:List V}(I:Inv X pins σ H s)(h:SqX b X.K H a xs)(h':SqX b X.K H a ys):xs=ys:=by
 cases b with
 | true=>exact I.list_inj h h'
 | false=>exact I.tuple_inj h h'
end
end L2
namespace PySem
open Sem (wp)
noncomputable def itO(b:Bool)(l:Addr):Obj:=match b with
 | true=>{cls:=.type "list_iterator",data:=.fields #[.ref l,.int 0 0]}
 | false=>{cls:=.type "tuple_iterator",data:=.fields #[.ref l,.int 0 0]}
theorem zaax{b:Bool}{h:Heap}{a l:Addr}(e:h.get? a=some (itO b l)):SqIt b h a l 0:=by
 cases b with
 | true=>exact⟨_,e,rfl,rfl⟩
 | false=>exact⟨_,e,rfl,rfl⟩
end PySem
namespace L2
open PySem PySem.Spec PyProof.Rows
theorem zla.there{b:Bool}{h:Heap}{l:Addr}{xs:Array Value}(x:zla b h l xs):l<h.objs.size:=by
 cases b with
 | true=>obtain⟨o,q,_⟩:=x;exact qO q
 | false=>obtain⟨o,q,_⟩:=x;exact qO q
theorem zajc{K:qB}{A:Addr->Prop}{H:Hp}{d:PyData}{ds:List PyData}{v:V}(h:Rp (Offs A H) d v)(e:zil d=some ds):∃(b:Bool)(a:Addr)(xs:List V),v=.ref a/\Rps (Offs A H) ds xs/\∀(B:Addr->Prop)(H':Hp),Same (Offs A H) (Offs B H')->SqX b K H' a xs:=by
 cases d with
 | list es=>
  cases e
  obtain⟨a,xs,rfl,ha,r⟩:=zcr h
  exact⟨true,a,xs,rfl,r,λB H' s=>SqL.of (zdm (s _ _ ha))⟩
 | tuple es=>
  cases e
  obtain⟨a,xs,rfl,ha,r⟩:=zce h
  exact⟨false,a,xs,rfl,r,λB H' s=>SqT.of (zdm (s _ _ ha))⟩
 | _=>cases e
end L2
namespace PySem
open Sem (wp)
open AutoSeq1 (wpAny_loadPart')
theorem zaay{prog:Program}{w:World}{A:Around}(hh:A.handled=none)(b:Bool)(it l:Addr)(hne:l≠it)(items:Array Value) :
  Draws prog w A it [it,l] items.size (λi v=>items[i]?=some v) (λi h=>SqIt b h it l i/\zla b h l items) where
 live:=λ_ _ st=>let⟨o,ho,_⟩:=st.1.obj;⟨o,ho⟩
 frame:=λ_ _ _ st hk=>⟨st.1.moved λo e=>hk it (by simp) o e,st.2.moved λo e=>hk l (by simp) o e⟩
 item:=λi s Q E hi st hQ=>by
  refine zafb st.1 st.2 (x:=items[i]) (by simp[hi]) λh' hit' hs'=>?_
  exact hQ _ h' s.toks (by simp[hi]) ⟨hit',st.2.moved λo e=>hs'.extBut _ o hne e⟩ hs'
 done:=λs Q E st hE=>zacn hh st.1 st.2 (by simp) hE
theorem zkd(l:Addr)(items:Array Value)(n:Nat)(dct:Option Addr)(sl:Array (Option Value)) :
  Meets (Builtin.«enumerate.__new__» ⟨[.type "enumerate",.ref l],[]⟩) (λ_ R s=>s.heap.get? l=some {cls:=.type "tuple",dict:=dct,data:=.seq items n,slots:=sl}/\
   R (.ok (.ret (.ref (s.heap.push (itO false l)).objs.size))) {s with heap:=(s.heap.push (itO false l)).push {cls:=.type "enumerate",data:=.fields #[.none,.bool false,.ref s.heap.objs.size,rawInt 0,.none,.none]}}):=
 .of_wp λprog w A R s h=>by
  obtain⟨hp,g,d,tk,os⟩:=s;obtain⟨hl,h⟩:=h
  have hsub:=sub_enumerate
  have e1:Heap.IsTuple (Shared.heap ⟨hp,g,d,tk,os⟩) l items:=⟨_,hl,rfl,n,rfl⟩
  wp_walk using qA9 hl
  refine wpAny_stack_any λst=>qc ?_
  split
  ·rename_i c _ _ _ _ _
   cases(c==Value.type "enumerate")
   ·wp_walk using qA9 hl,qBV e1
    exact⟨_,rfl,h⟩
   ·wp_walk using qA9 hl,qBV e1
    exact⟨_,rfl,h⟩
  ·wp_walk using qA9 hl,qBV e1
   exact⟨_,rfl,h⟩
theorem zpn{prog:Program}{w:World}{A:Around}{E:Value->Shared->Prop}{s:Shared}{b:Bool}{l:Addr}{items:Array Value}{Q:Value->Shared->Prop}(hL:zla b s.heap l items)
  (h:∀h',IsEnum h' (s.heap.objs.size+1) s.heap.objs.size 0 .none->SqIt b h' s.heap.objs.size l 0->(∀c o,s.heap.get? c=some o->h'.get? c=some o)->Q (.ref (s.heap.objs.size+1)) {s with heap:=h'}) :
  wpAny (model prog w) A (call (.type "enumerate") [.ref l]) Q E s:=by
 cases b with
 | true=>exact call_enumerate_list hL λh' e i _ k=>h h' e i k
 | false=>
  obtain⟨⟨c,dct,dt,sl⟩,hl,hc,n,hd⟩:=hL
  replace hc:c=.type "tuple":=hc
  replace hd:dt=.seq items n:=hd
  subst hc hd
  refine callType_new F.called_enumerate (by decide) (F.typeCall_enumerate_1 _) (F.newCall_enumerate_1 _) (λobj=>F.args_object_init_2 obj _) F.entry_enumerate_new (zkd l items n dct sl) ⟨hl,?_⟩
  have hz:(s.heap.push (itO false l)).objs.size=s.heap.objs.size+1:=qBP ..
  have he:=qV (s.heap.push (itO false l)) (o:={cls:=.type "enumerate",data:=.fields #[.none,.bool false,.ref s.heap.objs.size,rawInt 0,.none,.none]}) rfl
  show _/\_
  rw[hz]at he ⊢
  exact⟨⟨_,he,rfl⟩,h _ he (zaax (b:=false) (qE _ (qV _ rfl))) λc o x=>qE _ (qE _ x)⟩
end PySem
namespace L2
open PySem PySem.Spec PyProof.Rows
noncomputable def Itx(K:qB)(b:Bool)(a:Addr):It:=
 ⟨λi H=>∃xs x,SqX b K H a xs/\xs[i]?=some x,λi H x H'=>∃p y,x=.ref p/\H p=none/\H'=upd H p (.tup [.int i,y])/\∀xs,SqX b K H a xs->xs[i]?=some y,λi H=>∃xs,SqX b K H a xs/\xs.length<=i⟩
theorem zuw{P:Program}{w:World}{K:qB}{elts:List Expr}{x1}{tpos:Pos}{b:Bool}(a e it:Addr)(hne:e≠it)(hea:e≠a)(hai:a≠it) :
  Turn P w K (.Tuple elts x1 tpos) (Itx K b a) [e,it] e (λi h=>SqIt b h it a i/\∃old,IsEnum h e it (i:Int) old) where
 mem:=by simp
 obj:=λi h st c hc=>by
  obtain⟨h1,old,h4⟩:=st
  rcases qX.mp hc with rfl|hc
  ·exact⟨_,h4,λv z=>by simp at z⟩
  ·have q:c=it:=by simpa using hc
   subst q
   exact h1.obj
 keep:=λi h h' st k=>⟨st.1.moved λo q=>k it (by simp) o q,let⟨old,q⟩:=st.2;⟨old,k e (by simp) _ q⟩⟩
 item:=by
  intro X hP hw hK hc i pins s σ H E I hf st hg
  subst hP hw hK
  obtain⟨xs,x,hq,hx⟩:=hg
  obtain⟨its,rv,p,hz⟩:=I.sq hq
  obtain⟨u,hu,ru⟩:=rv.get hx
  obtain⟨hit,old,he⟩:=st
  have fe:=hf e (by simp)
  have fi:=hf it (by simp)
  have hlt:i<its.toArray.size:=by
   obtain⟨hh,_⟩:=qI.mp hu
   simpa using hh
  refine wpAny_pyNext_enum_itemD (zaay (by exact I.ok.hd hc) b it a hai its.toArray) he ⟨hit,p⟩ hlt hne (by simp[hne,hea]) λu' h1 tk pu e1 i1 t1 z1 k1=>?_
  have hu':u'=u:=by
   have pu:its.toArray[i]?=some u':=pu
   rw[List.getElem?_toArray,hu]at pu
   exact(qq pu).symm
  subst hu'
  refine⟨_,rfl,wpAny_letOwnedTupleGo_enum (s:={s with heap:=h1,toks:=tk+1}) e1 λh2 e2 sb2=>?_⟩
  have hp:H s.heap.objs.size=none:=I.hok.fresh (qQ _)
  have hes:e≠s.heap.objs.size:=qx (qO he)
  have k2:∀c o,c≠e->c≠it->s.heap.get? c=some o->h2.get? c=some o:=λc o q1 q2 q=>(sb2.2 c q1).trans (k1 c o q1 q2 q)
  have t2:h2.get? s.heap.objs.size=some {cls:=.type "tuple",data:=.seq #[.int i tk,u']}:=(sb2.2 _ (qAm hes)).trans t1
  have nch:∀c,c∉[e,it]->c≠e/\c≠it:=λc hb=>⟨λz=>hb (by simp[z]),λz=>hb (by simp[z])⟩
  refine⟨.ref s.heap.objs.size,upd H s.heap.objs.size (.tup [.int i,x]),?_,rfl,⟨_,x,rfl,hp,rfl,λys hy=>by rw[I.sq_inj hy hq];exact hx⟩,⟨?_,u',e2⟩,λc hb=>?_⟩
  ·refine Inv.step (s:=s) (h':=h2) (g':=s.gens) (d':=s.drawn) (t':=tk+1) (ch:=[e,it]) I (λc hb=>?_) (λc o _ _ hc q _=>k2 c o (nch c hc).1 (nch c hc).2 q) (λc o _ _ hc q _=>⟨o.slots,k2 c o (nch c hc).1 (nch c hc).2 q⟩)
    (λc o _ q n=>by rw[zaq (qx (qO q))];exact n) (λc o hc q=>⟨o,k2 c o (nch c hc).1 (nch c hc).2 q⟩)
    (λc xs q=>by rw[zaq (zbg q hp)];exact q) (λc o v q=>by rw[zaq (zbg q hp)];exact q) (λc ps q=>⟨#[],by rw[zaq (zbg q hp),q];simp⟩) (λm hm=>?_) (λc v q=>?_) I.bare
   ·rcases qX.mp hb with rfl|hb
    ·exact⟨fe.2.2.2.1,fe.2.1,fe.2.2.2.2.1,fe.2.2.2.2.2⟩
    ·have z:c=it:=by simpa using hb
     subst z
     exact⟨fi.2.2.2.1,fi.2.1,fi.2.2.2.2.1,fi.2.2.2.2.2⟩
   ·obtain⟨o,es,ep,ho,r⟩:=hm
    exact⟨o,es,ep,k2 _ o (qAm fe.2.1) (qAm fi.2.1) ho,r⟩
   ·by_cases hb:c=s.heap.objs.size
    ·subst hb
     rw[zap]at q
     cases q
     exact⟨by show 2<=qa;decide,[.int i tk,u'],.cons ⟨_,rfl⟩ (.cons ru .nil),_,t2,rfl,_,rfl⟩
    ·rw[zaq hb]at q
     have nt:∀c w',H c=some w'->c≠e/\c≠it:=λc w' z=>⟨(λy=>by rw[y,fe.1]at z;cases z),(λy=>by rw[y,fi.1]at z;cases z)⟩
     refine(I.hok c v q).stay (λc w' hc r=>?_) (λc r=>by rw[zaq (zbg r hp)];exact r) λc ys r=>by rw[zaq (zbg r hp)];exact r
     rcases hc with rfl|hc
     ·exact k2 c w' (nt c v q).1 (nt c v q).2 r
     ·exact k2 c w' (nt c _ hc).1 (nt c _ hc).2 r
  ·exact i1.1.moved λo q=>(sb2.2 _ (qAm hne)).trans q
  ·rcases qX.mp hb with rfl|hb
   ·rw[zaq hes];exact fe.1
   ·have z:c=it:=by simpa using hb
    subst z
    obtain⟨o,q1,_⟩:=hit.obj
    rw[zaq (qx (qO q1))]
    exact fi.1
 done:=by
  intro X hP hw hK hc i pins s σ H E I hf st hg
  subst hP hw hK
  obtain⟨xs,hq,hx⟩:=hg
  obtain⟨its,rv,p,hz⟩:=I.sq hq
  obtain⟨hit,old,he⟩:=st
  obtain⟨f0,f1,f2,f3,f4,f5⟩:=hf it (by simp)
  have hl:=rv.length
  have hT:s.TypeIs (.ref e) "enumerate":=⟨_,he,rfl⟩
  unfold pyNext
  refine qH (wpAny_attempt (qBl (name:=Str.ofString "__next__") hT F.slot_enumerate_next (qCM F.slot_enumerate_next hT F.entry_enumerate_next ?_ (F.args_enumerate_next_1 _))))
  show wpAny _ _ (field (.ref e) 2 >>=_) _ _ _
  refine qH (qAs he rfl (x:=.ref it) rfl ?_)
  refine qH (zacn (by exact I.ok.hd hc) hit p (by simp;omega) λh' x he' hx'=>?_)
  obtain⟨o,ho,hcl⟩:=hx'
  refine qH (qBn (T:="StopIteration") (b:=true) ⟨o,ho,hcl⟩ isSubtype_stop (qc ⟨rfl,?_⟩))
  exact I.turned (t':=s.toks) (λc o hb q=>he' c o hb q) f0 f1 f3 f4 f5
 self:=λ_ _ _ _ _ st h=>let⟨_,q⟩:=st.2;wpAny_pyIter_enum q h
noncomputable def iEnumX(K:qB)(ta:TA):TI:=λσ H R=>ta σ H λvs H1=>∃b a,vs=[.ref a]/\(∃xs,SqX b K H1 a xs)/\R (Itx K b a) H1
theorem zaaz{X:Cx}{K:qB}(hK:X.K=K){a:Expr}{ta:TA}{p pos:Pos}{elts:List Expr}{x1}{tpos:Pos}(hg:Gl X "enumerate")(hm:X.mg "enumerate"=none)(ha:PA X [a] ta)(hs:starEach [a] X.env=[(false,eval a X.env)]:=by rfl) :
  PI X (.Tuple elts x1 tpos) (.Call (.Name "enumerate" p) [a] [] pos) (iEnumX K ta):=by
 subst hK
 intro pins s σ H R I h
 refine Call_ (zjt I hg hm boot_enumerate (qA7 (thn (ha pos pins s σ H _ I h) λus s1 ⟨vs,H1,I1,r1,q1⟩=>?_) hs rfl))
 obtain⟨b,l,rfl,⟨xs,hq⟩,q⟩:=q1
 obtain⟨u,rfl,ru⟩:=zvt r1
 cases ru
 obtain⟨its,rv,pl,hz⟩:=I1.sq hq
 have lt:=zla.there pl
 refine zpn pl λh' he hit hk=>wpAny_pyIter_enum he ?_
 have I2:Inv X pins σ H1 {s1 with heap:=h'}:=I1.kept (t':=s1.toks) hk
 refine⟨s1.heap.objs.size+1,[s1.heap.objs.size+1,s1.heap.objs.size],_,_,H1,rfl,I2,zuw l _ _ (Nat.succ_ne_self _) (qB8 (Nat.lt_succ_of_lt lt)) (qx lt),⟨hit,_,he⟩,λc hb=>?_,q⟩
 rcases qX.mp hb with rfl|hb
 ·exact I1.fpOk (qCH _) (I1.hok.fresh (qCH _))
 ·have e:c=s1.heap.objs.size:=by simpa using hb
  subst e
  exact I1.fpOk (qQ _) (I1.hok.fresh (qQ _))
noncomputable def zxi(f:AF):IF':=λenv=>(f env).bind λrs=>match rs with
 | [r]=>(zil r.d).map λds=>(zsf ds,r.bs)
 | _=>none
theorem zaba{K:qB}{ta:TA}{f:AF}(h1:SA ta f):SI (iEnumX K ta) (zxi f):=by
 intro fx H0 env σ H h ds bs e R q
 unfold zxi at e
 obtain⟨rs,er,e⟩:=qA.mp e
 split at e
 ·rename_i r
  obtain⟨d1,ed1,e⟩:=qG.mp e
  cases e
  refine h1 fx H0 env σ H h _ er _ λvs H1 s hv=>?_
  cases hv with
  | cons hv t=>
   cases t
   obtain⟨b,a,xs,rfl,r1,e1⟩:=zajc (K:=K) (Rp.same (Offs.sub (zhf (bs:=r.bs))) _ hv.rp) ed1
   refine⟨b,a,rfl,⟨xs,e1 _ H1 (Same.refl _)⟩,q _ H1 s ?_⟩
   intro A H' hA ss
   have q1:=e1 A H' ss
   have r1':=Rps.same ss _ r1
   have hl:(zsf d1).length=d1.length:=by unfold zsf;simp
   refine⟨λi d e=>?_,⟨xs,q1,by rw[hl,r1.length];exact qQ _⟩⟩
   unfold zsf at e
   rw[qT,qBp]at e
   cases e0:d1[i]? with
   | none=>rw[e0]at e;cases e
   | some d0=>
    rw[e0]at e
    obtain⟨v,hv,rv⟩:=r1'.get2 e0
    have e:PyData.tuple [.int ((0+i:Nat):Int),d0]=d:=qq e
    rw[Nat.zero_add]at e
    subst e
    refine⟨⟨xs,v,q1,hv⟩,λx H'' y=>?_⟩
    obtain⟨p,y',rfl,hp,rfl,y⟩:=y
    have:=y xs q1
    rw[hv]at this
    cases this
    exact⟨Same.new hp,zsa hp (zgj hA hp) (zde zaa (zde rv zdd))⟩
 ·cases e
theorem zgp{K:qB}{ta:TA}{f:AF}(h1:SA ta f):SI (iEnumX K ta) (zgl f):=λfx H0 env σ H h ds bs e R q=>
 zaba h1 fx H0 env σ H h ds bs (by
  unfold zgl at e
  unfold zxi
  obtain⟨rs,er,e⟩:=qA.mp e
  rw[er]
  cases rs with
  | nil=>cases e
  | cons r t=>
   cases t with
   | nil=>
    obtain⟨d,fr,b⟩:=r
    cases d<;>first|exact e|cases e
   | cons _ _=>cases e) R q
noncomputable def Its(z:Str):It:=⟨λi _=>i<z.cps.size,λi H v H'=>H'=H/\∃c,z.cps[i]?=some c/\v=.str ⟨#[c]⟩,λi _=>z.cps.size<=i⟩
theorem zabb{P:Program}{w:World}{K:qB}{tg:Expr}(z:Str)(it:Addr){ty:String}{t:Tok}(hty:ty="str_ascii_iterator"\/ty="str_iterator"):Turn P w K tg (Its z) [it] it (λi h=>h.IsStrIter it ty z t i) where
 mem:=by simp
 obj:=λi h st b hb=>by
  have e:b=it:=by simpa using hb
  subst e
  obtain⟨o,e,c,d⟩:=st
  exact⟨o,e,λv z=>by rw[d]at z;cases z⟩
 keep:=λi h h' st k=>let⟨o,e,c,d⟩:=st;⟨o,k it (by simp) o e,c,d⟩
 item:=by
  intro X hP hw hK hc i pins s σ H E I hf st hg
  subst hP hw hK
  obtain⟨f0,f1,f2,f3,f4,f5⟩:=hf it (by simp)
  have W:Walks X.prog X.w X.A it [it] [it] z.cps.size (SignAt z) (λi h=>h.IsStrIter it ty z t i):=by
   rcases hty with rfl|rfl
   ·exact Walks.strAscii (I.ok.hd hc) it z t
   ·exact Walks.strWide (I.ok.hd hc) it z t
  refine W.item i s _ _ hg st λv h' tk hv st' kk=>?_
  obtain⟨c,u,e,rfl⟩:=hv
  have I1:Inv X pins σ H {s with heap:=h',toks:=tk}:=I.turned (λb o hb e=>kk b o (by simpa using hb) e) f0 f1 f3 f4 f5
  obtain⟨o,eo,co,dO⟩:=id st'
  refine⟨_,rfl,zaab (s:={s with heap:=h',toks:=tk}) eo co dO (by rcases hty with rfl|rfl<;>decide) ⟨.str ⟨#[c]⟩,H,I1,⟨u,rfl⟩,⟨rfl,c,e,rfl⟩,st',λb hb=>(hf b hb).1⟩⟩
 done:=by
  intro X hP hw hK hc i pins s σ H E I hf st hg
  subst hP hw hK
  obtain⟨f0,f1,f2,f3,f4,f5⟩:=hf it (by simp)
  have hx:z.cps[i]?=none:=by
   have:z.cps.size<=i:=hg
   simp[this]
  rcases hty with rfl|rfl
  ·exact wpAny_pyNext_ascii_end (I.ok.hd hc) st hx λh' eb=>⟨rfl,I.turned (t':=s.toks) (λb o hb e=>eb b o hb e) f0 f1 f3 f4 f5⟩
  ·exact wpAny_pyNext_wide_end (I.ok.hd hc) st hx λh' eb=>⟨rfl,I.turned (t':=s.toks) (λb o hb e=>eb b o hb e) f0 f1 f3 f4 f5⟩
 self:=λ_ _ _ _ _ st h=>by
  rcases hty with rfl|rfl
  ·exact wpAny_pyIter_striter_ascii st h
  ·exact wpAny_pyIter_striter_wide st h
noncomputable def iStr(te:TE):TI:=λσ H R=>te σ H λx H1=>∃z,x=.str z/\R (Its z) H1
theorem zajd{X:Cx}{tg l:Expr}{tl:TE}(hl:PE X l tl):PI X tg l (iStr tl):=by
 intro pins s σ H R I h
 refine thn (hl pins s σ H _ I h) λv s1 ⟨x,H1,I1,r1,q1⟩=>?_
 obtain⟨z,e,q⟩:=q1
 subst e
 obtain⟨t,rfl⟩:=r1
 have fin:∀(ty:String)(o:Obj),(ty="str_ascii_iterator"\/ty="str_iterator")->(s1.heap.push o).IsStrIter s1.heap.objs.size ty z t 0->PIE X pins σ tg R (.ref s1.heap.objs.size) {s1 with heap:=s1.heap.push o}:=by
  intro ty o hty st
  refine⟨s1.heap.objs.size,[s1.heap.objs.size],_,_,H1,rfl,I1.kept (t':=s1.toks) λb o e=>qE _ e,zabb z _ hty,st,λb hb=>?_,q⟩
  have e:b=s1.heap.objs.size:=by simpa using hb
  subst e
  exact I1.fpOk (qQ _) (I1.hok.fresh (qQ _))
 cases ha:z.cps.all (·<128)
 ·exact wpAny_pyIter_wide ha (fin "str_iterator" _ (.inr rfl) ⟨_,qV _ rfl,rfl,rfl⟩)
 ·exact wpAny_pyIter_ascii ha (fin "str_ascii_iterator" _ (.inl rfl) ⟨_,qV _ rfl,rfl,rfl⟩)
noncomputable def zlb(z:Str):List PyData:=z.cps.toList.map λc=>.str ⟨#[c]⟩
noncomputable def zpo(f:EF):IF':=λenv=>(f env).bind λr=>match r.d with
 | .str z=>some (zlb z,[])
 | _=>none
theorem zaje{A0:Addr->Prop}{H1:Hp}{z:Str}:Yl A0 H1 (Its z) (zlb z):=by
 intro A H' hA s
 have hl:(zlb z).length=z.cps.size:=by unfold zlb;simp
 refine⟨λi d e=>?_,by rw[hl];exact qQ _⟩
 unfold zlb at e
 rw[qT]at e
 by_cases hi:i<z.cps.size
 ·refine⟨hi,λx H'' y=>?_⟩
  obtain⟨rfl,c,ec,rfl⟩:=y
  have:z.cps.toList[i]?=some c:=by simpa using ec
  rw[this]at e
  cases e
  exact⟨Same.refl _,zct⟩
 ·rw[qBg (by simpa using hi)]at e
  cases e
theorem zajf{te:TE}{f:EF}(h1:SE te f):SI (iStr te) (zpo f):=by
 intro fx H0 env σ H h ds bs e R q
 unfold zpo at e
 obtain⟨⟨d,fr,bs'⟩,er,e⟩:=qA.mp e
 split at e
 ·rename_i z hz
  cases e
  refine h1 fx H0 env σ H h _ er _ λv H1 s hv=>?_
  have rp:=hv.rp
  have hz:d=.str z:=hz
  rw[hz]at rp
  exact⟨z,zdl rp,q _ H1 s zaje⟩
 ·cases e
theorem zpp{X:Cx}:OpR X (compareOp .LtE) (λx y H Q=>∃i j,x=.str i/\y=.str j/\Q (.bl (!decide (j.cps.toList<i.cps.toList))) H):=by
 intro pins s σ H x y v u Q I rx ry h
 obtain⟨i,j,rfl,rfl,q⟩:=h
 obtain⟨t,rfl⟩:=rx
 obtain⟨t',rfl⟩:=ry
 exact PySem.P.le_str (zbi I q rfl)
noncomputable def leS:OF
 | .str i,.str j=>some (.bool (!decide (j.cps.toList<i.cps.toList)),false)
 | _,_=>none
theorem zaco:SO (λx y H Q=>∃i j,x=.str i/\y=.str j/\Q (.bl (!decide (j.cps.toList<i.cps.toList))) H) leS:=by
 intro A H x y dx dy hA rx ry d fr e Q q
 unfold leS at e
 split at e
 ·cases e
  cases zdl rx;cases zdl ry
  exact⟨_,_,rfl,rfl,q _ H (Same.refl _) zag (λz=>by cases z)⟩
 ·cases e
theorem zabc{X:Cx}{x:Str}{i:Int}{pos:Pos}(hg:Gl X x)(hm:∃t,X.mg x=some (.int i t))(hd:(x==("__debug__":Str))=false:=by decide):PE X (.Name x pos) (tC (.int i)):=
 let⟨t,e⟩:=hm
 zadr hg e ⟨t,rfl⟩ hd
noncomputable def isStar:Expr->Bool
 | .Starred ..=>true
 | _=>false
theorem zai{e:Expr}{es:List Expr}{env:Env}(h:isStar e=false):starEach (e::es) env=(false,eval e env)::starEach es env:=by
 cases e<;>first
  | rfl
  | cases h
theorem zabd{X:Cx}{e:Expr}{es:List Expr}{te:TE}{t:TA}(ha:PE X e te)(hr:PA X es t)(hs:isStar e=false:=by rfl):PA X (e::es) (tCons te t):=zge ha hr (zai hs)
end L2
namespace PySem.SeqAt
open AutoSeq1 (wpAny_loadPart')
open MeetsSeq PyProof.Rows
section
variable{A:Around}{s:Shared}
theorem zhr(l:Addr)(es:Array DictEntry)(n:Nat)(dd:Option Addr)(sl:Array (Option Value))(b:Str)(u:Tok) :
  Meets (Builtin.«dict.__eq__» ⟨[.ref l,.str b u],[]⟩) (λ_ R s=>s.heap.get? l=some {cls:=.type "dict",dict:=dd,data:=.dict es n,slots:=sl}/\R (.ok (.ret .notImplemented)) s):=
 .of_wp λprog w A R s h=>by
  obtain⟨hp,g,d,tk,os⟩:=s
  obtain⟨hl,h⟩:=h
  have f1:=F.sub_str_dict
  wp_walk using qA9 hl
  exact⟨_,rfl,h⟩
theorem zhs(b:Str)(u:Tok)(l:Addr)(c:Value)(es:Array DictEntry)(n:Nat)(dd:Option Addr)(sl:Array (Option Value)) :
  Meets (Builtin.«str.__eq__» ⟨[.str b u,.ref l],[]⟩) (λ_ R s=>s.heap.get? l=some {cls:=c,dict:=dd,data:=.dict es n,slots:=sl}/\R (.ok (.ret .notImplemented)) s):=
 .of_wp λprog w A R s h=>by
  obtain⟨hp,g,d,tk,os⟩:=s
  obtain⟨hl,h⟩:=h
  wp_walk using qA9 hl,wpAny_load hl
  exact⟨_,rfl,h⟩
theorem rc_dict_str{l:Addr}{o:Obj}{es:Array DictEntry}{n:Nat}(b:Str)(u:Tok)(ho:s.heap.get? l=some o)(hc:o.cls=.type "dict")(hd:o.data=.dict es n)(hu:A.units<cLine):RcAt A s (.ref l) (.str b u) false:=λprog w E Q h=>by
 obtain⟨cls,dd,data,sl⟩:=o
 simp only at hc hd
 subst hc hd
 refine rc_eq_decline_or (k:=false) (Ta:="dict") (Tb:="str") ⟨_,ho,rfl⟩ (qBe s b u) (by decide) F.sub_str_dict F.slot_dict_eq F.slot_str_eq_refl (λ_ hq=>?_) (λ_ hq=>?_) (λ_ hq=>qCT (rfl:isSame (.ref l) (.str b u)=pure false) hq) (.inr hu) h
 ·exact qBE F.slot_dict_eq ⟨_,ho,rfl⟩ F.entry_dict_eq (F.args_dict_eq_2 _ _) (zhr l es n dd sl b u) ⟨ho,hq⟩
 ·exact qBE F.slot_str_eq_refl (qBe s b u) F.entry_str_eq (F.args_str_eq_2 _ _) (zhs b u l (.type "dict") es n dd sl) ⟨ho,hq⟩
theorem rc_str_dict{l:Addr}{o:Obj}{es:Array DictEntry}{n:Nat}(b:Str)(u:Tok)(ho:s.heap.get? l=some o)(hc:o.cls=.type "dict")(hd:o.data=.dict es n)(hu:A.units<cLine):RcAt A s (.str b u) (.ref l) false:=λprog w E Q h=>by
 obtain⟨cls,dd,data,sl⟩:=o
 simp only at hc hd
 subst hc hd
 refine rc_eq_decline_or (k:=false) (Ta:="str") (Tb:="dict") (qBe s b u) ⟨_,ho,rfl⟩ (by decide) F.sub_dict_str F.slot_str_eq F.slot_dict_eq_refl (λ_ hq=>?_) (λ_ hq=>?_) (λ_ hq=>qCT (rfl:isSame (.str b u) (.ref l)=pure false) hq) (.inr hu) h
 ·exact qBE F.slot_str_eq (qBe s b u) F.entry_str_eq (F.args_str_eq_2 _ _) (zhs b u l (.type "dict") es n dd sl) ⟨ho,hq⟩
 ·exact qBE F.slot_dict_eq_refl ⟨_,ho,rfl⟩ F.entry_dict_eq (F.args_dict_eq_2 _ _) (zhr l es n dd sl b u) ⟨ho,hq⟩
theorem eqAt_rs{l:Addr}{b:Str}{u:Tok}(h0:RcAt A s (.ref l) (.str b u) false):EqAt A s (.ref l) (.str b u) false:=λprog w E Q hq=>by
 unfold eqBool
 refine qBk (wpAny_ite_split (λhab=>absurd (eq_of_beq hab) nofun) (λ_=>?_))
 exact(qH (h0 prog w E _ (qAP hq)))
theorem eqAt_sr{l:Addr}{b:Str}{u:Tok}(h0:RcAt A s (.str b u) (.ref l) false):EqAt A s (.str b u) (.ref l) false:=λprog w E Q hq=>by
 unfold eqBool
 refine qBk (wpAny_ite_split (λhab=>absurd (eq_of_beq hab) nofun) (λ_=>?_))
 exact(qH (h0 prog w E _ (qAP hq)))
end
end PySem.SeqAt
namespace L2
open PySem PySem.Spec PyProof.Rows
noncomputable def znr:PyData->Bool|.str _=>true|_=>false
noncomputable def Odd(K:qB)(H:Hp)(v:V):Prop:=zgf v=true\/∃a,v=.ref a/\((∃xs,SqL K H a xs)\/(∃xs,SqT K H a xs)\/∃ps,H a=some (.dK ps))
theorem zacp{K:qB}{H:Hp}{d:PyData}{v:V}(h:Rp H d v):Odd K H v:=by
 cases d with
 | none=>rw[zkr h];exact .inl rfl
 | bool b=>rw[zey h];exact .inl rfl
 | int i=>rw[zbz h];exact .inl rfl
 | str x=>rw[zdl h];exact .inl rfl
 | list ds=>obtain⟨a,xs,rfl,ha,_⟩:=zcr h;exact .inr ⟨a,rfl,.inl ⟨xs,SqL.of ha⟩⟩
 | tuple ds=>obtain⟨a,xs,rfl,ha,_⟩:=zce h;exact .inr ⟨a,rfl,.inr (.inl ⟨xs,SqT.of ha⟩)⟩
 | dict ds=>obtain⟨a,xs,rfl,ha,_⟩:=zkq h;exact .inr ⟨a,rfl,.inr (.inr ⟨xs,ha⟩)⟩
section
variable{X:Cx}
theorem zafc{pins:List (Addr×Obj)}{s:Shared}{σ:St}{H:Hp}(I:Inv X pins σ H s){a:Addr}{ps:List (Key×V)}(h:H a=some (.dK ps)):∃o es n,s.heap.get? a=some o/\o.cls=.type "dict"/\o.data=.dict es n:=by
 obtain⟨_,_,vs,_,p⟩:=(show zdp X.prog X.w H s.heap a (.dK ps)from I.hok a _ h)
 obtain⟨o,es,ep,h1,h2,h3,_⟩:=p
 exact⟨o,es,ep,h1,h2.1,h3⟩
theorem ztj{A:Around}{pins:List (Addr×Obj)}{s:Shared}{σ:St}{H:Hp}(I:Inv X pins σ H s)(hu:A.units+2<cLine){y:V}{u:Value}(ry:RelV y u)(oy:Odd X.K H y)(z:Str)(t:Tok):SeqAt.EqAt A s u (.str z t) (eqV y (.str z))/\SeqAt.EqAt A s (.str z t) u (eqV (.str z) y):=by
 have hu0:A.units<cLine:=by omega
 have hu1:A.in1.units<cLine:=by show A.units+1<cLine;omega
 rcases oy with fy|⟨a,rfl,h⟩
 ·exact⟨zwd ry ⟨t,rfl⟩ fy rfl,zwd ⟨t,rfl⟩ ry rfl fy⟩
 ·cases ry
  rcases h with⟨xs,h⟩|⟨xs,h⟩|⟨ps,h⟩
  ·obtain⟨its,rv,p,hz⟩:=I.list h
   exact⟨SeqAt.EqAt.list_str z t p.isList hu0,SeqAt.EqAt.str_list z t p.isList hu0⟩
  ·obtain⟨its,rv,p,hz⟩:=I.tuple h
   exact⟨SeqAt.EqAt.tuple_str z t p hu0,SeqAt.EqAt.str_tuple z t p hu0⟩
  ·obtain⟨o,es,n,h1,h2,h3⟩:=zafc I h
   exact⟨SeqAt.eqAt_rs (SeqAt.rc_dict_str z t h1 h2 h3 hu0),SeqAt.eqAt_sr (SeqAt.rc_str_dict z t h1 h2 h3 hu0)⟩
noncomputable def rInT(K:qB)(neg:Bool):R2:=λx y H Q=>∃p xs,y=.ref p/\(SqL K H p xs\/SqT K H p xs)/\((∃z,x=.str z)/\(∀w∈xs,Odd K H w)\/Odd K H x/\∀w∈xs,∃z,w=.str z)/\Q (.bl (if neg then !inV x xs else inV x xs)) H
theorem zsk{x y:V}{u:Value}{K:qB}{H:Hp}(r:RelV y u)(o:Odd K H y)(hx:zgf x=true\/zgf y=true):eqU x u=eqV y x:=by
 rcases o with f|⟨a,rfl,_⟩
 ·exact zwe r f
 ·cases r
  cases x<;>rfl
theorem zsl{x:V}{K:qB}{H:Hp}:∀{xs:List V}{us:List Value},Vals xs us->(∀w∈xs,Odd K H w/\(zgf x=true\/zgf w=true))->us.any (eqU x)=inV x xs
 | _,_,.nil,_=>rfl
 | y::xs,u::us,.cons r t,f=>by
  unfold inV
  obtain⟨o,g⟩:=f y qf
  rw[qAp,qAp,zsk r o g]
  congr 1
  exact zsl t λw hw=>f w (qL _ hw)
theorem zsm{A:Around}{pins:List (Addr×Obj)}{s:Shared}{σ:St}{H:Hp}(I:Inv X pins σ H s)(hu:A.units+2<cLine){x:V}{v:Value}(rx:RelV x v):∀{xs:List V}{us:List Value},Vals xs us->((∃z,x=.str z)/\(∀w∈xs,Odd X.K H w)\/Odd X.K H x/\∀w∈xs,∃z,w=.str z)->∀u∈us,SeqAt.EqAt A s u v (eqU x u)
 | _,_,.nil,_=>λu hu=>by cases hu
 | y::xs,u::us,.cons r t,f=>λu' hu'=>by
  rcases qX.mp hu' with rfl|hm
  ·rcases f with⟨⟨z,rfl⟩,f⟩|⟨ox,f⟩
   ·obtain⟨tk,rfl⟩:=rx
    have oy:=f y qf
    rw[zsk r oy (.inl rfl)]
    exact(ztj I hu r oy z tk).1
   ·obtain⟨z,rfl⟩:=f y qf
    rw[zsk (K:=X.K) (H:=H) r (.inl rfl) (.inr rfl)]
    obtain⟨tk,rfl⟩:=r
    exact(ztj I hu rx ox z tk).2
  ·exact zsm I hu rx t (f.imp (λh=>⟨h.1,λw hw=>h.2 w (qL _ hw)⟩) (λh=>⟨h.1,λw hw=>h.2 w (qL _ hw)⟩)) u' hm
theorem zxj{x:V}{K:qB}{H:Hp}{xs:List V}(f:(∃z,x=.str z)/\(∀w∈xs,Odd K H w)\/Odd K H x/\∀w∈xs,∃z,w=.str z):∀w∈xs,Odd K H w/\(zgf x=true\/zgf w=true):=λw hw=>by
 rcases f with⟨⟨z,rfl⟩,f⟩|⟨ox,f⟩
 ·exact⟨f w hw,.inl rfl⟩
 ·obtain⟨z,rfl⟩:=f w hw
  exact⟨.inl rfl,.inr rfl⟩
theorem zafd{K:qB}(hK:X.K=K)(hu:X.A.units+64<cLine):OpR X (compareOp .In) (rInT K false):=by
 subst hK
 intro pins s σ H x y v u Q I rx ry h
 obtain⟨p,xs,rfl,hq,f,q⟩:=h
 cases ry
 have hu2:X.A.in1.units+2<cLine:=by show X.A.units+1+2<cLine;omega
 have q:EP X pins σ Q (.bool (inV x xs)) s:=⟨.bl (inV x xs),H,I,rfl,q⟩
 rcases hq with hq|hq
 ·obtain⟨its,r,pl,hz⟩:=I.list hq
  refine SeqAt.in_listAt (eqU x) pl.isList (λw hw=>zsm I hu2 rx r f w (by simpa using hw)) ?_
  rw[show its.toArray.any (eqU x)=its.any (eqU x) by simp,zsl r (zxj f)]
  exact q
 ·obtain⟨its,r,pl,hz⟩:=I.tuple hq
  refine SeqAt.in_tupleAt (eqU x) pl (λw hw=>zsm I hu2 rx r f w (by simpa using hw)) ?_
  rw[show its.toArray.any (eqU x)=its.any (eqU x) by simp,zsl r (zxj f)]
  exact q
end
theorem zkj{d:PyData}(h:znr d=true):∃z,d=.str z:=by
 cases d<;>first
  | exact⟨_,rfl⟩
  | exact absurd (show false=true from h) qK
theorem zxk{H:Hp}{d:PyData}{v:V}(h:Rp H d v)(z:Str):eqV v (.str z)=qh d (.str z)/\eqV (.str z) v=qh (.str z) d:=by
 cases d with
 | none=>rw[zkr h];exact⟨by simp[eqV,qh],by simp[eqV,qh]⟩
 | bool b=>rw[zey h];exact⟨by simp[eqV,qh],by simp[eqV,qh]⟩
 | int i=>rw[zbz h];exact⟨by simp[eqV,qh],by simp[eqV,qh]⟩
 | str x=>rw[zdl h];exact⟨by simp[eqV,qh],by simp[eqV,qh]⟩
 | list ds=>obtain⟨a,xs,rfl,ha,_⟩:=zcr h;exact⟨by simp[eqV,qh],by simp[eqV,qh]⟩
 | tuple ds=>obtain⟨a,xs,rfl,ha,_⟩:=zce h;exact⟨by simp[eqV,qh],by simp[eqV,qh]⟩
 | dict ds=>obtain⟨a,xs,rfl,ha,_⟩:=zkq h;exact⟨by simp[eqV,qh],by simp[eqV,qh]⟩
theorem zxl{H:Hp}{dx:PyData}{x:V}(rx:Rp H dx x):∀{ds:List PyData}{xs:List V},Rps H ds xs->(znr dx=true\/ds.all znr=true)->inV x xs=ds.any λe=>qh e dx
 | [],xs,h,_=>by unfold Rps at h;subst h;rfl
 | d::ds,xs,h,f=>by
  unfold Rps at h
  obtain⟨v,vs,rfl,h1,h2⟩:=h
  have ih:=zxl rx h2 (f.imp id λg=>by rw[qAq,qj]at g;exact g.2)
  unfold inV at ih ⊢
  rw[qAp,qAp,ih]
  congr 1
  rcases f with f|f
  ·obtain⟨z,rfl⟩:=zkj f
   have:=zdl rx
   subst this
   exact(zxk h1 _).1
  ·rw[qAq,qj]at f
   obtain⟨z,rfl⟩:=zkj f.1
   have:=zdl h1
   subst this
   exact(zxk rx _).2
theorem zxm{H:Hp}{ds:List PyData}{xs:List V}(h:Rps H ds xs){w:V}(hw:w∈xs):∃d∈ds,Rp H d w:=by
 obtain⟨i,hi⟩:=List.getElem?_of_mem hw
 obtain⟨d,hd,r⟩:=h.get hi
 exact⟨d,qS hd,r⟩
noncomputable def inTD(neg:Bool):OF:=λd c=>match zil c with
 | some ds=>if znr d=true\/ds.all znr=true then some (.bool (if neg then !(ds.any λe=>qh e d)else ds.any λe=>qh e d),false)else none
 | none=>none
theorem zafe{K:qB}{neg:Bool}:SO (rInT K neg) (inTD neg):=by
 intro A H x y dx dy hA rx ry d fr e Q q
 unfold inTD at e
 split at e
 ·rename_i ds hi
  split at e
  ·rename_i h
   cases e
   have rx:=Rp.same (Offs.same A H) _ rx
   obtain⟨p,xs,rfl,hq,r⟩:=znj (K:=K) (Rp.same (Offs.same A H) _ ry) hi
   refine⟨p,xs,rfl,hq,?_,?_⟩
   ·rcases h with h|h
    ·obtain⟨z,rfl⟩:=zkj h
     have:=zdl rx
     subst this
     exact .inl ⟨⟨_,rfl⟩,λw hw=>let⟨d,_,hd⟩:=zxm r hw;zacp hd⟩
    ·refine .inr ⟨zacp rx,λw hw=>?_⟩
     obtain⟨d,hm,hd⟩:=zxm r hw
     obtain⟨z,rfl⟩:=zkj (qr.mp h d hm)
     exact⟨_,zdl hd⟩
   ·rw[zxl rx r h]
    refine q _ H (Same.refl _) ?_ (λz=>by cases z)
    cases neg<;>exact zag
  ·cases e
 ·cases e
structure Bx(p:Prop):Prop where
 out:p
theorem Bx.pt{X:Cx}{e:Expr}{t:TT}(h:Bx (PW X e t)):Bx (PT X e t):=⟨h.out.pt⟩
theorem zam:∀{X:L2.Cx}{i:Int}{j:Nat}{pos:qi},L2.Bx (L2.PE X (qR.Constant (PySem.Const.int i) j pos) (L2.tC (L2.V.int i))):=by
 intro X i j pos
 exact⟨@zet X i j pos⟩
theorem zac:∀{X:L2.Cx},L2.Bx (L2.PA X [] L2.tNil):=by
 intro X
 exact⟨@zju X⟩
theorem zaj:∀{X:L2.Cx}{e:qR}{es:List qR}{te:L2.TE}{t:L2.TA},L2.Bx (L2.PE X e te)->L2.Bx (L2.PA X es t)->L2.isStar e=Bool.false->L2.Bx (L2.PA X (e::es) (L2.tCons te t)):=by
 intro X e es te t ha hr hs
 exact⟨@zabd X e es te t ha.out hr.out hs⟩
theorem zax:∀{X:L2.Cx}{a b:qR}{ta tb:L2.TE}{pos:qi}{op:PySem.Operator}{r:L2.R2},L2.OpR X (PySem.binaryOp op) r->L2.Bx (L2.PE X a ta)->L2.Bx (L2.PE X b tb)->L2.Bx (L2.PE X (a.BinOp op b pos) (L2.tOp r ta tb)):=by
 intro X a b ta tb pos op r ho ha hb
 exact⟨@zhl X a b ta tb pos op r ho ha.out hb.out⟩
theorem zal:∀{X:L2.Cx}{st:PySem.Stmt}{t:L2.TS},L2.Bx (L2.PS X st t)->L2.Bx (L2.PSs X [st] t):=by
 intro X st t h1
 exact⟨@zhy X st t h1.out⟩
theorem zad:∀{X:L2.Cx}{st:PySem.Stmt}{rest:List PySem.Stmt}{t u:L2.TS},L2.Bx (L2.PS X st t)->L2.Bx (L2.PSs X rest u)->L2.Bx (L2.PSs X (st::rest) (L2.tSeq t u)):=by
 intro X st rest t u h1 h2
 exact⟨@zhb X st rest t u h1.out h2.out⟩
theorem zcx:∀{X:L2.Cx}{x:PySem.Str}{p pos:qi}{e:qR}{es:List qR}{t:L2.TA}{ps:List PySem.Str}{k:Nat}{sp:L2.Sp},L2.Dn X.prog X.w X.K X.mg X.base x ps k sp->L2.Room k X.A->L2.Gl X x->L2.Bx (L2.PA X (e::es) t)->(x==qb "__debug__")=Bool.false->qy (e::es) X.env=(Bool.false,PySem.eval e X.env)::qy es X.env->((PySem.backTo pos (qy es X.env)).any λ(x:Bool×PySem.Sem PySem.Value)=>x.fst)=Bool.false->L2.Bx (L2.PE X ((qR.Name x p).Call (e::es) [] pos) (L2.tCall sp [] L2.E0 t)):=by
 intro X x p pos e es t ps k sp D hr hg ha hdb he hpl
 exact⟨@zalb X x p pos e es t ps k sp D hr hg ha.out hdb he hpl⟩
theorem zay:∀{X:L2.Cx}{e:qR}{te:L2.TE}{pos:qi},L2.Bx (L2.PE X e te)->L2.Bx (L2.PS X (PySem.Stmt.Return (Option.some e) pos) (L2.tRet te)):=by
 intro X e te pos he
 exact⟨@zacd X e te pos he.out⟩
theorem zgq:∀{X:L2.Cx}{pos:qi}{i:Nat}{x:PySem.Str}{e:qR}{te:L2.TE}{pos':qi},X.N.Nodup->X.N[i]?=Option.some x->L2.Loc X.env.scope x->L2.Bx (L2.PE X e te)->PySem.swapsWith e (Option.some (qR.Name x pos')) pos.line X.env=Pure.pure Bool.false->X.fn x=Bool.true\/List.lookup x X.env.scope.names=Option.some PySem.NameKind.local->L2.Bx (L2.PS X (PySem.Stmt.Assign [qR.Name x pos'] e pos) (L2.tAsg te (L2.gName i))):=by
 intro X pos i x e te pos' hN hi hx he hs hf
 exact⟨@zsx X pos i x e te pos' hN hi hx he.out hs hf⟩
theorem zir:∀{X:L2.Cx}{x:PySem.Str}{p pos:qi}{e:qR}{es:List qR}{t:L2.TA}{id:String}{r:List L2.V->L2.Hp->L2.VK->Prop},L2.CallR X (PySem.Value.builtin id) r->L2.Gl X x->X.mg x=Option.none->PySem.bootBuiltins x=Option.some (PySem.Value.builtin id)->L2.Bx (L2.PA X (e::es) t)->x≠qb "__name__"->(x==qb "__debug__")=Bool.false->qy (e::es) X.env=(Bool.false,PySem.eval e X.env)::qy es X.env->((PySem.backTo pos (qy es X.env)).any λ(x:Bool×PySem.Sem PySem.Value)=>x.fst)=Bool.false->L2.Bx (L2.PE X ((qR.Name x p).Call (e::es) [] pos) (L2.tCB r t)):=by
 intro X x p pos e es t id r hc hg hm hv ha hn hdb he hpl
 exact⟨@zsz X x p pos e es t id r hc hg hm hv ha.out hn hdb he hpl⟩
theorem zdf:∀{X:L2.Cx}{b:Bool}{j:Nat}{pos:qi},L2.Bx (L2.PE X (qR.Constant (PySem.Const.bool b) j pos) (L2.tC (L2.V.bl b))):=by
 intro X b j pos
 exact⟨@zakr X b j pos⟩
theorem zfm:∀{X:L2.Cx}{a b:qR}{ta tb:L2.TE}{pos:qi}{r:L2.R2},L2.IxR X r->L2.Bx (L2.PE X a ta)->L2.Bx (L2.PE X b tb)->L2.PlainIx b->L2.Bx (L2.PE X (a.Subscript b pos) (L2.tOp r ta tb)):=by
 intro X a b ta tb pos r hr ha hb hs
 exact⟨@zaid X a b ta tb pos r hr ha.out hb.out hs⟩
theorem zcu:∀{X:L2.Cx}{t u:L2.TS}{pos:qi}{c:qR}{a b:List PySem.Stmt}{tc:L2.TT},L2.Bx (L2.PT X c tc)->L2.Bx (L2.PSs X a t)->L2.Bx (L2.PSs X b u)->L2.Bx (L2.PS X (PySem.Stmt.If c a b pos) (L2.tIfS tc t u)):=by
 intro X t u pos c a b tc hc ha hb
 exact⟨@zahr X t u pos c a b tc hc.out ha.out hb.out⟩
theorem zbf:∀{X:L2.Cx},L2.Bx (L2.PSs X [] L2.tNext):=by
 intro X
 exact⟨@zadt X⟩
theorem zaz:∀{X:L2.Cx}{a:qR}{pos:qi}{tA:L2.TT},L2.Bx (L2.PT X a tA)->L2.Bx (L2.PT X (qR.UnaryOp PySem.UnaryOp.Not a pos) (L2.tNot tA)):=by
 intro X a pos tA ha
 exact⟨@zahn X a pos tA ha.out⟩
theorem zan:∀{X:L2.Cx}{K:qB},
 X.K=K->
  ∀{a:qR}{ta:L2.TE},
   L2.Bx (L2.PE X a ta)->
    (∀(whole:PySem.Sem PySem.Value),
      PySem.isTrue a X.env whole=do
       let v <- whole
       PySem.standAt a.pos
       PySem.holding [v] (PySem.truthy v))->
     L2.Bx (L2.PT X a λ(σ:L2.St)(H:L2.Hp)(Q:Bool->L2.Hp->Prop)=>ta σ H λ(x:L2.V)(H':L2.Hp)=>∃(k:Bool),L2.TruV K x H' k/\Q k H'):=by
 intro X K hK a ta ha he
 exact⟨@zxb X K hK a ta ha.out he⟩
theorem zns:∀{X:L2.Cx}{pos:qi}{i:Nat}{x:PySem.Str},X.N.Nodup->X.N[i]?=Option.some x->L2.Loc X.env.scope x->X.fn x=Bool.true\/List.lookup x X.env.scope.names=Option.some PySem.NameKind.local->L2.Bx (L2.PG X (qR.Name x pos) (L2.gName i)):=by
 intro X pos i x hN hi hx hf
 exact⟨@zrs X pos i x hN hi hx hf⟩
theorem zjm:∀{X:L2.Cx}{es:List qR}{t:L2.TA}{pos:qi},L2.Bx (L2.PA X es t)->L2.Bx (L2.PE X (qR.List es pos) (L2.tLst t)):=by
 intro X es t pos h
 exact⟨@zacf X es t pos h.out⟩
theorem zic:∀{X:L2.Cx}{tg iter:qR}{body:List PySem.Stmt}{wi:L2.TI}{g:L2.TG}{tb:L2.TS}{pos:qi},PySem.PassesOwn (PySem.model X.prog X.w) X.A X.env X.xe->X.calm=Bool.true->L2.Bx (L2.PI X tg iter wi)->L2.Bx (L2.PG X tg g)->L2.Bx (L2.PSs X body tb)->(∀(x:PySem.Value),PySem.foldedSetIterable iter X.env x=Pure.pure x)->L2.Bx (L2.PS X (PySem.Stmt.For tg iter body [] pos) (L2.tFor wi g tb)):=by
 intro X tg iter body wi g tb pos hp hc hi hg hb hs
 exact⟨@zvq X tg iter body wi g tb pos hp hc hi.out hg.out hb.out hs⟩
theorem zcm:∀{X:L2.Cx}{a b:qR}{ta tb:L2.TE}{pos:qi}{op:PySem.CmpOp}{r:L2.R2},L2.OpR X (PySem.compareOp op) r->L2.Bx (L2.PE X a ta)->L2.Bx (L2.PE X b tb)->PySem.behindInMarks op b=Bool.false->L2.Bx (L2.PT X (a.Compare [op] [b] pos) (L2.tTest (L2.tOp r ta tb))):=by
 intro X a b ta tb pos op r ho ha hb hm
 exact⟨@zvs X a b ta tb pos op r ho ha.out hb.out hm⟩
theorem zlc:∀{X:L2.Cx}{x:PySem.Str}{j:Nat}{pos:qi},L2.Bx (L2.PE X (qR.Constant (PySem.Const.str x) j pos) (L2.tC (L2.V.str x))):=by
 intro X x j pos
 exact⟨@zahl X x j pos⟩
theorem zcf:∀{X:L2.Cx}{e:qR}{te:L2.TE}{pos:qi},L2.Bx (L2.PE X e te)->PySem.swapsWith e Option.none pos.line X.env=Pure.pure Bool.false->L2.Bx (L2.PS X (PySem.Stmt.Expr e pos) (L2.tDrop te)):=by
 intro X e te pos he hs
 exact⟨@zmy X e te pos he.out hs⟩
theorem zld:∀{X:L2.Cx}{es:List qR}{t:L2.TA}{pos:qi}{x1:Nat},L2.Bx (L2.PA X es t)->L2.Bx (L2.PE X (qR.Tuple es x1 pos) (L2.tTup t)):=by
 intro X es t pos x1 h
 exact⟨@zaia X es t pos x1 h.out⟩
theorem zxn:∀{X:L2.Cx}{a:qR}{pos:qi}{op:PySem.BoolOp}{t:L2.TE},L2.Bx (L2.PE X a t)->L2.Bx (L2.PE X (qR.BoolOp op [a] pos) t):=by
 intro X a pos op t h
 exact⟨@zaho X a pos op t h.out⟩
theorem zhh:∀{X:L2.Cx}{a b:qR}{ta tb:L2.TE}{pos:qi}{op:PySem.CmpOp}{r:L2.R2},L2.OpR X (PySem.compareOp op) r->L2.Bx (L2.PE X a ta)->L2.Bx (L2.PE X b tb)->PySem.behindInMarks op b=Bool.false->L2.Bx (L2.PE X (a.Compare [op] [b] pos) (L2.tOp r ta tb)):=by
 intro X a b ta tb pos op r ho ha hb hm
 exact⟨@zadx X a b ta tb pos op r ho ha.out hb.out hm⟩
theorem zmm:∀{X:L2.Cx}{x:PySem.Str}{p pos:qi}{e:qR}{es:List qR}{t:L2.TA}{T:String}{r:List L2.V->L2.Hp->L2.VK->Prop},L2.CallR X (PySem.Value.type T) r->L2.Gl X x->X.mg x=Option.none->PySem.bootBuiltins x=Option.some (PySem.Value.type T)->L2.Bx (L2.PA X (e::es) t)->x≠qb "__name__"->(x==qb "__debug__")=Bool.false->qy (e::es) X.env=(Bool.false,PySem.eval e X.env)::qy es X.env->((PySem.backTo pos (qy es X.env)).any λ(x:Bool×PySem.Sem PySem.Value)=>x.fst)=Bool.false->L2.Bx (L2.PE X ((qR.Name x p).Call (e::es) [] pos) (L2.tCB r t)):=by
 intro X x p pos e es t T r hc hg hm hv ha hn hdb he hpl
 exact⟨@zvz X x p pos e es t T r hc hg hm hv ha.out hn hdb he hpl⟩
theorem zdg:∀{X:L2.Cx}{x:PySem.Str}{v:L2.V}{u:PySem.Value}{pos:qi},L2.Gl X x->X.mg x=Option.none->PySem.bootBuiltins x=Option.some u->L2.RelV v u->x≠qb "__name__"->(x==qb "__debug__")=Bool.false->L2.Bx (L2.PE X (qR.Name x pos) (L2.tC v)):=by
 intro X x v u pos hg hm hv r hn hd
 exact⟨@zads X x v u pos hg hm hv r hn hd⟩
theorem zcj:∀{X:L2.Cx}{a:qR}{pos:qi}{tA:L2.TT},L2.Bx (L2.PT X a tA)->L2.Bx (L2.PW X (qR.BoolOp PySem.BoolOp.Or [a] pos) tA):=by
 intro X a pos tA ha
 exact⟨@zahm X a pos tA ha.out⟩
theorem zcy:∀{X:L2.Cx}{a b:qR}{pos:qi}{tA tB':L2.TT}{rest:List qR},L2.Bx (L2.PT X a tA)->L2.Bx (L2.PW X (qR.BoolOp PySem.BoolOp.Or (b::rest) pos) tB')->L2.Bx (L2.PW X (qR.BoolOp PySem.BoolOp.Or (a::b::rest) pos) (L2.tOr tA tB')):=by
 intro X a b pos tA tB' rest ha hb
 exact⟨@zaks X a b pos tA tB' rest ha.out hb.out⟩
theorem zhi:∀{X:L2.Cx}{e:qR}{te:L2.TE},L2.Bx (L2.PE X e te)->L2.Bx (L2.PO X (Option.some e) (L2.tPart te)):=by
 intro X e te h
 exact⟨@zwb X e te h.out⟩
theorem zkk:∀{X:L2.Cx},L2.Bx (L2.PO X Option.none L2.tNoPart):=by
 intro X
 exact⟨@zwa X⟩
theorem zgr:∀{X:L2.Cx}{e:qR}{te:L2.TE}{lo hi:Option qR}{tl th:L2.TO}{pos p2:qi}{r:L2.V->Option Int->Option Int->L2.Hp->L2.VK->Prop},L2.SlR X r->L2.Bx (L2.PE X e te)->L2.Bx (L2.PO X lo tl)->L2.Bx (L2.PO X hi th)->L2.Bx (L2.PE X (e.Subscript (qR.Slice lo hi Option.none p2) pos) (L2.tSl r te tl th)):=by
 intro X e te lo hi tl th pos p2 r hr he hl hu
 exact⟨@zta X e te lo hi tl th pos p2 r hr he.out hl.out hu.out⟩
theorem zis:∀{X:L2.Cx}{scope:PySem.Scope}{N' own:List PySem.Str}{fr:List Nat}{elt target iter:qR}{ifs:List qR}{cpos:qi}{wi:L2.TI}{g:L2.TG}{tt:L2.TT}{te:L2.TE},L2.CompOk X scope N' own fr->X.calm=Bool.true->L2.Bx (L2.PI X target iter wi)->(∀(cl:List (PySem.Str×PySem.Addr))(C:PySem.Addr)(s:PySem.Shared)(H:L2.Hp)(fp:List PySem.Addr),L2.PG (L2.cxComp X scope N' own cl C s H fp) target g/\L2.PF (L2.cxComp X scope N' own cl C s H fp) ifs tt/\L2.PE (L2.cxComp X scope N' own cl C s H fp) elt te)->(∀(x:PySem.Value),PySem.foldedSetIterable iter X.env x=Pure.pure x)->L2.Bx (L2.PE X (elt.ListComp [{target:=target,iter:=iter,ifs:=ifs,is_async:=0}] scope cpos) (L2.tComp1 wi g tt te own fr)):=by
 intro X scope N' own fr elt target iter ifs cpos wi g tt te c hc hi hb hs
 exact⟨@zaan X scope N' own fr elt target iter ifs cpos wi g tt te c hc hi.out hb hs⟩
theorem zec:∀{X:L2.Cx}{K:qB},X.K=K->∀{T:String}{name:PySem.Str}{id:String}{r:L2.V->List L2.V->L2.Hp->L2.VK->Prop}{o e:qR}{es:List qR}{to:L2.TE}{t:L2.TA}{apos cpos:qi},PySem.PlainAttrs T->PySem.Slot T name id->PySem.typeOf (PySem.Value.builtin id)=Pure.pure (PySem.Value.type "method_descriptor")->L2.MtR X id r->L2.Bx (L2.PE X o to)->L2.Bx (L2.PA X (e::es) t)->PySem.attributeBase o name X.env (PySem.eval o X.env)=PySem.eval o X.env->((((PySem.backTo cpos (qy (e::es) X.env)).all λ(x:Bool×PySem.Sem PySem.Value)=>!x.fst)&&(PySem.backToKw cpos (PySem.keywordEach [] X.env)).all λ(x:Option PySem.Str×PySem.Sem PySem.Value)=>x.fst.isSome)&&Decidable.decide (((e::es).length+([]:List Keyword).length+if([]:List Keyword).isEmpty=Bool.true then 0 else 1)<30))=Bool.true->(apos.endLine==cpos.line)=Bool.true->qy (e::es) X.env=(Bool.false,PySem.eval e X.env)::qy es X.env->((PySem.backTo cpos (qy es X.env)).any λ(x:Bool×PySem.Sem PySem.Value)=>x.fst)=Bool.false->L2.Bx (L2.PE X ((o.Attribute name apos).Call (e::es) [] cpos) (L2.tBM K T r to t)):=by
 intro X K hK T name id r o e es to t apos cpos pa slot hty hm ho ha hbase hfew hline hs hplain
 exact⟨@zwo X K hK T name id r o e es to t apos cpos pa slot hty hm ho.out ha.out hbase hfew hline hs hplain⟩
theorem zxo:∀{X:L2.Cx}{a b:qR}{ta tb:L2.TE}{pos:qi}{rest:List qR},L2.Bx (L2.PE X a ta)->L2.Bx (L2.PE X (qR.BoolOp PySem.BoolOp.And (b::rest) pos) tb)->L2.Bx (L2.PE X (qR.BoolOp PySem.BoolOp.And (a::b::rest) pos) (L2.tAndV ta tb)):=by
 intro X a b ta tb pos rest ha hb
 exact⟨@zahp X a b ta tb pos rest ha.out hb.out⟩
theorem zaff:∀{X:L2.Cx}{tg l:qR}{tl:L2.TE},L2.Bx (L2.PE X l tl)->L2.Bx (L2.PI X tg l (L2.iStr tl)):=by
 intro X tg l tl hl
 exact⟨@zajd X tg l tl hl.out⟩
theorem zkl:∀{X:L2.Cx}{K:qB},X.K=K->∀{tg l:qR}{tl:L2.TE},L2.Bx (L2.PE X l tl)->L2.Bx (L2.PI X tg l (L2.iSeq K tl)):=by
 intro X K hK tg l tl hl
 exact⟨@zaev X K hK tg l tl hl.out⟩
theorem zmn:∀{X:L2.Cx}{tg a:qR}{ta:L2.TA}{p pos:qi},L2.Gl X (qb "range")->X.mg (qb "range")=Option.none->L2.Bx (L2.PA X [a] ta)->qy [a] X.env=[(Bool.false,PySem.eval a X.env)]->L2.Bx (L2.PI X tg ((qR.Name (qb "range") p).Call [a] [] pos) (L2.iRng1 ta)):=by
 intro X tg a ta p pos hg hm ha hs
 exact⟨@zol X tg a ta p pos hg hm ha.out hs⟩
theorem zle:∀{X:L2.Cx},L2.Bx (L2.PF X [] L2.tAll):=by
 intro X
 exact⟨@zaij X⟩
theorem zafg:∀{X:L2.Cx}{j:Nat}{pos:qi},L2.Bx (L2.PE X (qR.Constant PySem.Const.none j pos) (L2.tC L2.V.non)):=by
 intro X j pos
 exact⟨@zahk X j pos⟩
theorem zgs:∀{X:L2.Cx}{x:PySem.Str}{i:Int}{pos:qi},L2.Gl X x->(∃(t:PySem.Tok),X.mg x=Option.some (PySem.Value.int i t))->(x==qb "__debug__")=Bool.false->L2.Bx (L2.PE X (qR.Name x pos) (L2.tC (L2.V.int i))):=by
 intro X x i pos hg hm hd
 exact⟨@zabc X x i pos hg hm hd⟩
theorem zafh:∀{X:L2.Cx}{a:qR}{ta:L2.TE}{pos:qi},L2.Bx (L2.PE X a ta)->L2.Bx (L2.PE X (qR.UnaryOp PySem.UnaryOp.Not a pos) (L2.tNotV ta)):=by
 intro X a ta pos ha
 exact⟨@zahq X a ta pos ha.out⟩
theorem zxp:∀{X:L2.Cx}{a b c:qR}{ta tb tc:L2.TE}{pos:qi}{op op':PySem.CmpOp}{r r':L2.R2},L2.OpR X (PySem.compareOp op) r->L2.OpR X (PySem.compareOp op') r'->L2.Bx (L2.PE X a ta)->L2.Bx (L2.PE X b tb)->L2.Bx (L2.PE X c tc)->PySem.lastMarks [op,op'] [b,c]=Bool.false->L2.Bx (L2.PE X (a.Compare [op,op'] [b,c] pos) (L2.tChain r r' ta tb tc)):=by
 intro X a b c ta tb tc pos op op' r r' ho ho' ha hb hc hm
 exact⟨@zaad X a b c ta tb tc pos op op' r r' ho ho' ha.out hb.out hc.out hm⟩
theorem zxq:∀{X:L2.Cx}{a b c:qR}{ta tb tc:L2.TE}{pos:qi}{op op':PySem.CmpOp}{r r':L2.R2},L2.OpR X (PySem.compareOp op) r->L2.OpR X (PySem.compareOp op') r'->L2.Bx (L2.PE X a ta)->L2.Bx (L2.PE X b tb)->L2.Bx (L2.PE X c tc)->PySem.lastMarks [op,op'] [b,c]=Bool.false->L2.Bx (L2.PT X (a.Compare [op,op'] [b,c] pos) (L2.tTest (L2.tChain r r' ta tb tc))):=by
 intro X a b c ta tb tc pos op op' r r' ho ho' ha hb hc hm
 exact⟨@zaae X a b c ta tb tc pos op op' r r' ho ho' ha.out hb.out hc.out hm⟩
theorem zit:∀{X:L2.Cx}{st:PySem.Stmt},L2.Bx (L2.PS X st L2.tNever):=by
 intro X st
 exact⟨@zzz X st⟩
theorem zxr:∀{X:L2.Cx}{scope:PySem.Scope}{N' own:List PySem.Str}{fr:List Nat}{elt target iter:qR}{ifs:List qR}{cpos:qi}{wi:L2.TI}{g:L2.TG}{tt:L2.TT}{te:L2.TE}{spos py:qi}{i:Nat}{y:PySem.Str},L2.CompOk X scope N' own fr->X.calm=Bool.true->L2.Bx (L2.PI X target iter wi)->(∀(cl:List (PySem.Str×PySem.Addr))(C:PySem.Addr)(s:PySem.Shared)(H:L2.Hp)(fp:List PySem.Addr),L2.PG (L2.cxComp X scope N' own cl C s H fp) target g/\L2.PF (L2.cxComp X scope N' own cl C s H fp) ifs tt/\L2.PE (L2.cxComp X scope N' own cl C s H fp) elt te)->PySem.swapsWith (elt.ListComp [{target:=target,iter:=iter,ifs:=ifs,is_async:=0}] scope cpos) (Option.some (qR.Name y py)) spos.line X.env=Pure.pure Bool.true->X.N.Nodup->X.N[i]?=Option.some y->List.lookup y X.env.scope.names=Option.some PySem.NameKind.local->(∀(x:PySem.Value),PySem.foldedSetIterable iter X.env x=Pure.pure x)->L2.Bx (L2.PS X (PySem.Stmt.Assign [qR.Name y py] (elt.ListComp [{target:=target,iter:=iter,ifs:=ifs,is_async:=0}] scope cpos) spos) (L2.tAsgC1 wi g tt te own fr i)):=by
 intro X scope N' own fr elt target iter ifs cpos wi g tt te spos py i y c hc hi hb hsw hN hy hl hs
 exact⟨@zaao X scope N' own fr elt target iter ifs cpos wi g tt te spos py i y c hc hi.out hb hsw hN hy hl hs⟩
theorem zafi:∀{X:L2.Cx}{pos:qi}{tg e:qR}{te:L2.TE}{g:L2.TG},L2.Bx (L2.PE X e te)->L2.Bx (L2.PG X tg g)->PySem.swapsWithSole [tg] e pos.line X.env=Pure.pure Bool.false->PySem.swappedStores [tg] e X.env=Pure.pure Option.none->List.map (λ(x:Bool×(PySem.Value->PySem.Sem Unit))=>x.snd) (PySem.assignEach [tg] X.env)=[PySem.assign tg X.env]->L2.Bx (L2.PS X (PySem.Stmt.Assign [tg] e pos) (L2.tAsg te g)):=by
 intro X pos tg e te g he hg hs hw h1
 exact⟨@zaht X pos tg e te g he.out hg.out hs hw h1⟩
theorem zgt:∀{X:L2.Cx}{K:qB},X.K=K->∀{a:qR}{ta:L2.TA}{p pos:qi}{elts:List qR}{x1:Nat}{tpos:qi},L2.Gl X (qb "enumerate")->X.mg (qb "enumerate")=Option.none->L2.Bx (L2.PA X [a] ta)->qy [a] X.env=[(Bool.false,PySem.eval a X.env)]->L2.Bx (L2.PI X (qR.Tuple elts x1 tpos) ((qR.Name (qb "enumerate") p).Call [a] [] pos) (L2.iEnumX K ta)):=by
 intro X K hK a ta p pos elts x1 tpos hg hm ha hs
 exact⟨@zaaz X K hK a ta p pos elts x1 tpos hg hm ha.out hs⟩
theorem zel:∀{X:L2.Cx},L2.Bx (L2.PGs X [] L2.gNil):=by
 intro X
 exact⟨@zadu X⟩
theorem zba:∀{X:L2.Cx}{e:qR}{es:List qR}{t:L2.TG}{u:L2.TGs},L2.Bx (L2.PG X e t)->L2.Bx (L2.PGs X es u)->List.map (λ(x:Bool×(PySem.Value->PySem.Sem Unit))=>x.snd) (PySem.assignEach (e::es) X.env)=PySem.assign e X.env::List.map (λ(x:Bool×(PySem.Value->PySem.Sem Unit))=>x.snd) (PySem.assignEach es X.env)->L2.Bx (L2.PGs X (e::es) (L2.gCons t u)):=by
 intro X e es t u h1 h2 hs
 exact⟨@zaaa X e es t u h1.out h2.out hs⟩
theorem zem:∀{X:L2.Cx}{K:qB},X.K=K->∀{es:List qR}{k:Nat}{t:L2.TGs}{n:Nat}{pos:qi},X.calm=Bool.true->L2.Bx (L2.PGs X es t)->(PySem.assignEach es X.env).length=n->List.findIdx? (λ(x:Bool×(PySem.Value->PySem.Sem Unit))=>x.fst) (PySem.assignEach es X.env)=Option.none->L2.Bx (L2.PG X (qR.Tuple es k pos) (L2.gTup K n t)):=by
 intro X K hK es k t n pos hc h hn hst
 exact⟨@zaen X K hK es k t n pos hc h.out hn hst⟩
theorem zux:∀{X:L2.Cx}{e:qR}{te:L2.TE}{p1 p2 pos1 pos2:qi},X.calm=Bool.true->L2.Gl X (qb "len")->X.mg (qb "len")=Option.none->L2.Gl X (qb "set")->X.mg (qb "set")=Option.none->L2.Bx (L2.PE X e te)->qy [e] X.env=(Bool.false,PySem.eval e X.env)::qy [] X.env->L2.Bx (L2.PE X ((qR.Name (qb "len") p1).Call [(qR.Name (qb "set") p2).Call [e] [] pos2] [] pos1) (L2.tLenSet te)):=by
 intro X e te p1 p2 pos1 pos2 hc hgl hml hgs hms he hs
 exact⟨@zxg X e te p1 p2 pos1 pos2 hc hgl hml hgs hms he.out hs⟩
theorem znt:∀{X:L2.Cx}{K:qB},X.K=K->∀{T:String}{name:PySem.Str}{id:String}{r:L2.V->List L2.V->L2.Hp->L2.VK->Prop}{o:qR}{to:L2.TE}{apos cpos:qi},PySem.PlainAttrs T->PySem.Slot T name id->PySem.typeOf (PySem.Value.builtin id)=Pure.pure (PySem.Value.type "method_descriptor")->L2.MtR X id r->L2.Bx (L2.PE X o to)->PySem.attributeBase o name X.env (PySem.eval o X.env)=PySem.eval o X.env->(apos.endLine==cpos.line)=Bool.true->L2.Bx (L2.PE X ((o.Attribute name apos).Call [] [] cpos) (L2.tBM0 K T r to)):=by
 intro X K hK T name id r o to apos cpos pa slot hty hm ho hbase hline
 exact⟨@zaey X K hK T name id r o to apos cpos pa slot hty hm ho.out hbase hline⟩
theorem bv{X:Cx}(i:Nat){x:Str}{pos:Pos}(hN:X.N[i]?=some x:=by rfl)(hv:visB X.env.scope x=true:=by rfl)(hd:(x==("__debug__":Str))=false:=by decide)
  (hcd:(x==("__classdict__":Str))=false:=by decide):Bx (PE X (.Name x pos) (tVar i)):=⟨zacc hN (visB.of hv) hd hcd⟩
noncomputable def SatK(fx:Addr->Prop)(H0:Hp)(J:Nat->Prop)(σ0:St)(D:Ends):Out->Prop
 | .nx env=>∀σ H,EnvOk fx H0 env σ H->(∀j,J j->σ[j]?=σ0[j]?)->D.nx σ H
 | .bk env=>∀σ H,EnvOk fx H0 env σ H->(∀j,J j->σ[j]?=σ0[j]?)->D.bk σ H
 | .ct env=>∀σ H,EnvOk fx H0 env σ H->(∀j,J j->σ[j]?=σ0[j]?)->D.ct σ H
 | .rt d fr=>∀v H,Same H0 H->zsd fx H0 d fr v H->D.rt v H
noncomputable def SSk(J:Nat->Prop)(ts:TS)(F:SF):Prop:=∀(fx:Addr->Prop)(H0:Hp)(env:DEnv)(σ:St)(H:Hp)(D:Ends),EnvOk fx H0 env σ H->∀o,F env=some o->SatK fx H0 J σ D o->ts D σ H
section
variable{J:Nat->Prop}
theorem zsn{te:TE}{f:EF}{i:Nat}(h1:SE te f)(hJ:¬J i):SSk J (tAsg te (gName i)) (sSet i f):=by
 intro fx H0 env σ H D h o e q
 unfold sSet at e
 obtain⟨r,er,rfl⟩:=qG.mp e
 exact h1 fx H0 env σ H h r er _ λv H' s hv=>q _ H' (h.put s hv i) λj hj=>qJ λz=>hJ (by rw[z];exact hj)
end
end L2
namespace HT
open PySem PySem.Spec PyProof.Rows L2
end HT
namespace L2
open PySem PySem.Spec PyProof.Rows
end L2
namespace PySem
open Sem (wp)
end PySem
namespace L2
open PySem PySem.Spec PyProof.Rows
end L2
namespace PySem
open Sem (wp)
end PySem
namespace L2
open PySem PySem.Spec PyProof.Rows
section
theorem zafj{env:DEnv}{i j:Nat}(h:env[j]?=some .no):(frz1 env i)[j]?=some .no:=by
 unfold frz1
 split
 ·rename_i d e
  rw[qJ λz=>by subst z;rw[h]at e;cases e]
  exact h
 ·exact h
theorem zxs:∀(bs:List Nat){env:DEnv}{j:Nat},env[j]?=some .no->(frzs env bs)[j]?=some .no
 | [],_,_,h=>h
 | i::bs,_,_,h=>zxs bs (zafj h)
end
section
variable{X:Cx}
theorem bpaC{e:Expr}{es:List Expr}{te:TE}{t:TA}(h1:Bx (PE X e te))(h2:Bx (PA X es t))(h3:isStar e=false:=by rfl):Bx (PA X (e::es) (tCons te t)):=zaj h1 h2 h3
theorem bpeD{x:Str}{p pos:Pos}{e:Expr}{es:List Expr}{t:TA}{ps:List Str}{k m:Nat}{sp:Sp}(D:Dn X.prog X.w X.K X.mg X.base x ps k sp)(hr:Room m X.A)(ha:Bx (PA X (e::es) t))(hm:k<=m:=by decide)(hg:Gl X x:=by rfl)(hd:(x==("__debug__":Str))=false:=by decide)
  (hs:isStar e=false:=by rfl) (hp:((backTo pos (starEach es X.env)).any λx=>x.1)=false:=by rfl):Bx (PE X (.Call (.Name x p) (e::es) [] pos) (tCall sp [] E0 t)):=zcx D (hr.mono hm) hg ha hd (zai hs) hp
theorem bpeB{x:Str}{p pos:Pos}{e:Expr}{es:List Expr}{t:TA}{id:String}{r:List V->Hp->VK->Prop}(hc:CallR X (.builtin id) r)(hm:X.mg x=none)(hb:bootBuiltins x=some (.builtin id))(ha:Bx (PA X (e::es) t))(hg:Gl X x:=by rfl)(h1:x≠("__name__":Str):=by decide)(h2:(x==("__debug__":Str))=false:=by decide)
  (hs:isStar e=false:=by rfl) (hp:((backTo pos (starEach es X.env)).any λx=>x.1)=false:=by rfl):Bx (PE X (.Call (.Name x p) (e::es) [] pos) (tCB r t)):=zir hc hg hm hb ha h1 h2 (zai hs) hp
theorem bpeT{x:Str}{p pos:Pos}{e:Expr}{es:List Expr}{t:TA}{T:String}{r:List V->Hp->VK->Prop}(hc:CallR X (.type T) r)(hm:X.mg x=none)(hb:bootBuiltins x=some (.type T))(ha:Bx (PA X (e::es) t))(hg:Gl X x:=by rfl)(h1:x≠("__name__":Str):=by decide)(h2:(x==("__debug__":Str))=false:=by decide)
  (hs:isStar e=false:=by rfl) (hp:((backTo pos (starEach es X.env)).any λx=>x.1)=false:=by rfl):Bx (PE X (.Call (.Name x p) (e::es) [] pos) (tCB r t)):=zmm hc hg hm hb ha h1 h2 (zai hs) hp
theorem bpsS{pos:Pos}{i:Nat}{x:Str}{e:Expr}{te:TE}{pos':Pos}(hN:X.N.Nodup)(hi:X.N[i]?=some x)(hl:Loc X.env.scope x)(he:Bx (PE X e te))(hs:swapsWith e (some (.Name x pos')) pos.line X.env=pure false:=by rfl)(hf:X.fn x=true\/X.env.scope.names.lookup x=some .local:=by exact .inl rfl):Bx (PS X (.Assign [.Name x pos'] e pos) (tAsg te (gName i))):=zgq hN hi hl he hs hf
theorem bpeX{a b:Expr}{ta tb:TE}{pos:Pos}{r:R2}(hr:IxR X r)(h1:Bx (PE X a ta))(h2:Bx (PE X b tb))(hp:PlainIx b:=by exact λ_ _=>rfl):Bx (PE X (.Subscript a b pos) (tOp r ta tb)):=zfm hr h1 h2 hp
theorem bpgN{pos:Pos}{i:Nat}{x:Str}(hN:X.N.Nodup)(hi:X.N[i]?=some x)(hl:Loc X.env.scope x)(hf:X.fn x=true\/X.env.scope.names.lookup x=some .local:=by first|exact .inl rfl|exact .inr rfl|assumption):Bx (PG X (.Name x pos) (gName i)):=zns hN hi hl hf
end
noncomputable def xcIn(K:qB)(C:Addr):Bool:=match K.lookup C with
 | some ⟨.type "type",_,.cls cd,sl⟩=>(match cd.mro,sl.toList with
  | .ref C'::bm,[_,_,_,_,some (.builtin n),_]=>C'==C&&!cd.hasDel&&cd.hasDict&&n=="ValueError.__new__"&&bm.contains (.type "ValueError")&&bm.contains (.type "BaseException")&&!bm.contains (.type "AttributeError")&&!bm.contains (.type "NameError")
  | _,_=>false)
 | _=>false
theorem zajg{K:qB}{h:Heap}{C:Addr}(X:K.In h)(q:xcIn K C=true):∃nm qn N bs bm sn sub ab col dd k0 k1 k2 k3 k5,
  h.get? C=some (excClassObj nm qn C N bs bm true sn sub ab col dd k0 k1 k2 k3 k5 "ValueError.__new__")/\(Value.ref C::bm).contains (.type "ValueError")=true/\(Value.ref C::bm).contains (.type "BaseException")=true/\(Value.ref C::bm).contains (.type "AttributeError")=false/\(Value.ref C::bm).contains (.type "NameError")=false:=by
 unfold xcIn at q
 split at q
 ·rename_i dd cd sl ho
  split at q
  ·rename_i C' bm k0 k1 k2 k3 n k5 hm hs
   simp only[qj,beq_iff_eq,Bool.not_eq_true']at q
   obtain⟨⟨⟨⟨⟨⟨⟨rfl,hdel⟩,hdc⟩,rfl⟩,hv⟩,hb⟩,ha⟩,hn⟩:=q
   obtain⟨nm,bs,mro,ns,qn,hd,sn,sub,ab,col,del⟩:=cd
   dsimp only at hm hdel hdc
   subst hm hdel hdc
   have hsl:sl=#[k0,k1,k2,k3,some (.builtin "ValueError.__new__"),k5]:=by
    obtain⟨l⟩:=sl
    simp only at hs
    rw[hs]
   subst hsl
   refine⟨nm,qn,ns,bs,bm,sn,sub,ab,col,dd,k0,k1,k2,k3,k5,X _ _ ho,?_,?_,?_,?_⟩
   ·rw[qAI,hv,qAo]
   ·rw[qAI,hb,qAo]
   ·rw[qAI,ha];rfl
   ·rw[qAI,hn];rfl
  ·cases q
 ·cases q
end L2
namespace PySem
open Sem (wp)
section
variable{prog:Program}{w:World}{A:Around}{E:Value->Shared->Prop}{h:Heap}{g:Array GenState}{d:Drawn}{t:Nat}{os:OsState}
variable{nm q:Str}{C N:Addr}{bs bm:List Value}{sn:List Str}{sub:List Value}{ab:Bool}{col:Option Bool}{dd:Option Addr}{k0 k1 k2 k3 k5:Option Value}
theorem zuy{M:Model}{rest:List Value}{Q:Unit->Shared->Prop}(hC:h.get? C=some (excClassObj nm q C N bs bm true sn sub ab col dd k0 k1 k2 k3 k5 "ValueError.__new__"))(hv:(Value.ref C::bm).contains (.type "ValueError")=true)
  (hq:Q () ⟨h,g,d,t,os⟩):wpAny M A (checkBuiltinCall "ValueError.__new__" ⟨.ref C::rest,[]⟩) Q E ⟨h,g,d,t,os⟩:=by
 have F:=qBI
 have f0:=F.noStar
 simp only[checkBuiltinCall,F.newKind,F.newSplit,F.newRow]
 repeat (first|refine qs hC ?_|(refine qAZ hC ?_;rw[hv])|refine wpAny_staticBase_exc hC ?_|refine wpAny_madeBy_exc hC ?_|simp only[bne_self_eq_false,qA2,if_false]|wp_step)
 exact hq
theorem zxt{rest:List Value}{R:Result->Shared->Prop}(hC:h.get? C=some (excClassObj nm q C N bs bm true sn sub ab col dd k0 k1 k2 k3 k5 "ValueError.__new__"))(hv:(Value.ref C::bm).contains (.type "ValueError")=true)(ha:(Value.ref C::bm).contains (.type "AttributeError")=false)(hn:(Value.ref C::bm).contains (.type "NameError")=false)
  (hq:R (.ok (.ret (.ref (h.objs.size+1)))) ⟨(h.push {cls:=.type "tuple",data:=.seq rest.toArray}).push {cls:=.ref C,data:=.fields #[.ref h.objs.size,.none,.none,.none,.bool false,.none]},g,d,t,os⟩) (hr:rest.length<=qa) :
  codeAny (model prog w) A (.builtin "ValueError.__new__" ⟨.ref C::rest,[]⟩) R ⟨h,g,d,t,os⟩:=by
 have F:=qBI
 have f0:=F.ends
 refine codeAny_builtinAt F.entry ?_
 unfold Builtin.«BaseException.__new__»
 refine wpAt_bind ?_
 show wpAt _ _ _ (stack >>=_) _ _ _
 refine wpAt_bind (wpAt_stack λp below=>wpAt_of_wpAny ?_)
 wp_walk
 refine wpAt_of_wpAny ?_
 rw[F.owner]
 repeat (first|with_reducible refine wpAny_madeHere_exc F.canon hC ?_|with_reducible refine qs hC ?_|(with_reducible refine qAZ hC ?_;first|rw[hv]|rw[ha]|rw[hn])|wp_step)
 show R _ _
 rw[qBP]
 exact hq
theorem zalg{rest:List Value}{fI:Addr}{oI:Obj}{Q:Value->Shared->Prop}(hC:h.get? C=some (excClassObj nm q C N bs bm true sn sub ab col dd k0 k1 k2 k3 k5 "ValueError.__new__"))(hv:(Value.ref C::bm).contains (.type "ValueError")=true)(ha:(Value.ref C::bm).contains (.type "AttributeError")=false)(hn:(Value.ref C::bm).contains (.type "NameError")=false)
  (LI:W.Looks (model prog w) h (typeLookup (.ref C) "__init__") (some (.ref fI)))(hfI:h.get? fI=some oI)(hfc:oI.cls=.type "function")(hr:rest.length<=qa)
  (hq:∀h' e,Heap.MadeExcOf h h' e (.ref C) rest->wpAny (model prog w) (A.under (.builtin "type.__call__" ⟨.ref C::rest,[]⟩)) (call (.ref fI) (.ref e::rest)) (λr s'=>r=.none/\Q (.ref e) s') E ⟨h',g,d,t,os⟩) :
  wpAny (model prog w) A (call (.ref C) rest) Q E ⟨h,g,d,t,os⟩:=by
 have F:=qBI
 have f1:=tc_lookup
 have f2:=tc_bind (.ref C)
 have hT:(⟨h,g,d,t,os⟩:Shared).TypeIs (.ref C) "type":=⟨_,hC,rfl⟩
 refine qBN (codeAny_of_tree ?_)
 show wpAny _ _ (callAny (.ref C) _) _ _ _
 repeat (any_goals (first|assumption|with_reducible refine qs hC ?_|wp_step))
 refine⟨rfl,?_⟩
 refine codeAny_call_builtin_at (qBy _ (by decide +kernel)) entry_typeCall (wpAny_check_type_call_sub hC ?_)
 repeat (first|with_reducible refine qs hC ?_|with_reducible refine wpAny_madeBy_exc hC ?_|wp_step)
 refine codeAny_call_builtin_code (qBy _ F.quiet) (zuy hC hv ?_)
 refine zxt hC hv ha hn ?_ hr
 show wpAny _ _ _ _ _ _
 have kp:∀b o,h.get? b=some o->((h.push {cls:=.type "tuple",data:=.seq rest.toArray}).push {cls:=.ref C,data:=.fields #[.ref h.objs.size,.none,.none,.none,.bool false,.none]}).get? b=some o:=λb o e=>qE _ (qE _ e)
 have hC1:=kp _ _ hC
 have he:((h.push {cls:=.type "tuple",data:=.seq rest.toArray}).push {cls:=.ref C,data:=.fields #[.ref h.objs.size,.none,.none,.none,.bool false,.none]}).get? (h.objs.size+1)=some {cls:=.ref C,data:=.fields #[.ref h.objs.size,.none,.none,.none,.bool false,.none]}:=by heap_get
 have hcC:(Value.ref C::bm).contains (.ref C)=true:=by simp
 unfold isInstance
 repeat (first|with_reducible refine qs he ?_|(refine qAZ hC1 ?_;rw[hcC])|wp_step)
 show wpAny _ _ (typeLookup (.ref C) _) _ _ _
 refine(LI.keeps kp).here ?_
 refine qBk (qH ?_)
 unfold bindSpecial
 refine qH (wpAny_typeOf (T:="function") ⟨_,kp _ _ hfI,hfc⟩ ?_)
 rw[if_pos (by decide)]
 refine qc (qH (qAu (hq _ (h.objs.size+1) ⟨kp,qAr (qCH _),h.objs.size,he,qAr (qQ _),?_⟩) (λr s' hh=>?_) λ_ _ x=>x))
 ·exact qE _ (Heap.get?_push_at rfl rfl)
 ·obtain⟨rfl,hQ⟩:=hh
  wp_walk
  exact hQ
end
open Builtin Builtin.ObjectAttr
noncomputable def vmro:List Value:=[.type "ValueError",.type "Exception",.type "BaseException",.type "object"]
noncomputable def zdh:List Value->Bool
 | .ref _::r=>zdh r
 | l=>l==vmro
theorem ziu(self:Value)(what:Str):∀{l:List Value},zdh l=true->refuseLoop self what l=refuseLoop self what vmro
 | [],h=>by cases h
 | v::r,h=>by
  cases v with
  | ref a=>rw[refuseLoop_ref];exact ziu self what h
  | _=>rw[eq_of_beq (show(_==vmro)=true from h)]
theorem zcz{T:Value}(hT:vmro.contains T=true):∀{l:List Value},zdh l=true->l.contains T=true
 | [],h=>by cases h
 | v::r,h=>by
  cases v with
  | ref a=>rw[qAI,zcz hT (l:=r) h,qAo]
  | _=>rw[eq_of_beq (show(_==vmro)=true from h)];exact hT
section
variable{prog:Program}{w:World}{A:Around}{E:Value->Shared->Prop}{h:Heap}{g:Array GenState}{d:Drawn}{t:Nat}{os:OsState}
variable{nm q:Str}{C N x:Addr}{bs bm:List Value}{sn:List Str}{sub:List Value}{ab:Bool}{col:Option Bool}{dd:Option Addr}{k0 k1 k2 k3 k5:Option Value}{newId:String}{name:Str}{v:Value}
theorem zpq{M:Model}{o:Obj}{nameV:Value}{Q:Unit->Shared->Prop}(hr:zdh bm=true)
  (hC:h.get? C=some (excClassObj nm q C N bs bm true sn sub ab col dd k0 k1 k2 k3 k5 newId))(hx:h.get? x=some o)(hc:o.cls=.ref C)(hq:Q () ⟨h,g,d,t,os⟩) :
  wpAny M A (checkBuiltinCall "object.__setattr__" ⟨[.ref x,nameV,v],[]⟩) Q E ⟨h,g,d,t,os⟩:=by
 have SF:=qB6
 have hcB:(Value.ref C::bm).contains (.type "object")=true:=by rw[qAI,zcz (by decide) hr,qAo]
 have ha:=SF.args (.ref x) nameV v
 simp only[checkBuiltinCall,SF.kind,SF.split]
 refine qH ?_
 ·unfold isInstance
  repeat (first|(with_reducible refine qs hx ?_;rw[hc])|(with_reducible refine qAZ hC ?_;rw[hcB])|wp_step)
  exact hq
theorem zpr{tk:Tok}{Q:Fin->Shared->Prop}{o:Obj}(hr:zdh bm=true)
  (hC:h.get? C=some (excClassObj nm q C N bs bm true sn sub ab col dd k0 k1 k2 k3 k5 newId))(hx:h.get? x=some o)(hc:o.cls=.ref C)(hnc:∀c,o.data≠.cls c)(hdn:o.dict=none)
  (LA:W.Looks (model prog w) h (typeLookup (.ref C) name) none)
  (hq:∀h' tk' dx,h.objs.size<=dx->h'.Ns1 dx (λy=>if y=name then some v else none)->h'.get? x=some {o with dict:=some dx}->
   (∀b o,b≠x->h.get? b=some o->h'.get? b=some o)->Q (.done (.ret .none)) ⟨h',g,d,tk',os⟩) :
  wpAny (model prog w) A (Builtin.«object.__setattr__» ⟨[.ref x,.str name tk,v],[]⟩) Q E ⟨h,g,d,t,os⟩:=by
 have SF:=qB6
 have hpass:refuseLoop (.ref x) "__setattr__" bm=pure ():=by rw[ziu _ _ hr];exact SF.passes (.ref x)
 unfold Builtin.«object.__setattr__»
 repeat (first|rw[refuse_eq]|(rw[refuseLoop_ref,hpass])|(with_reducible refine qs hx ?_;rw[hc])|with_reducible refine wpAny_mroOf_exc hC ?_|(with_reducible refine LA.here ?_)|wp_step)
 rw[hdn,if_neg (by simp[typeHasDict])]
 split
 ·rename_i hcd
  cases hcd
 split
 ·rename_i c hcd
  exact absurd hcd (hnc c)
 ·have hx₁:(h.push {cls:=.type "dict",data:=.dict #[]}).get? x=some o:=qE _ hx
  have hxs:x≠h.objs.size:=qx (qO hx)
  refine qH (wpAny_alloc' ?_)
  refine qH (wpAny_update' hx₁ ?_)
  refine qc ?_
  have hgd:((h.push {cls:=.type "dict",data:=.dict #[]}).update x λo=>{cls:=o.cls,dict:=some h.objs.size,data:=o.data,slots:=o.slots}).get? h.objs.size
    = some {cls:=.type "dict",data:=.dict #[]}:=
   (qCi _ _ _ _ hxs.symm).trans (Heap.get?_push_at rfl rfl)
  have hnd:((h.push {cls:=.type "dict",data:=.dict #[]}).update x λo=>{cls:=o.cls,dict:=some h.objs.size,data:=o.data,slots:=o.slots}).Ns h.objs.size (λ_=>none):=
   ⟨_,#[],_,hgd,rfl,λe he=>absurd he (by simp),λ_=>rfl⟩
  show wpAny _ _ (storeInDict h.objs.size (.str name tk) name v) _ _ _
  unfold storeInDict newKeyGuard
  refine qH (qc (qH (wpAny_nsSet1EFk (Heap.Ns1.of_empty hnd) λh' hn' hs hkeepD=>?_)))
  obtain⟨oD,esD,epD,hoD,hdD,hcD⟩:=hn'.count (Within.cons name v Within.nil)
  refine qH (wpAny_lookBehind hoD (by rw[hdD];exact pastItsLine_dict (qAK hcD (by rw[qAw,List.length_nil,qAk];omega))) ?_)
  wp_walk
  refine hq h' _ h.objs.size (qQ _) hn' ?_ (λb ob hbx hb=>?_)
  ·refine(hs.2 x hxs).trans (qAU _ hx₁ ?_)
   have hfr:=(Heap.get?_some_iff.mp hx).2
   obtain⟨oc,od,odt,osl⟩:=o
   cases odt<;>first|rfl|exact hfr
  ·exact(hs.2 b (qx (qO hb))).trans ((qCi _ _ _ _ hbx).trans (qE _ hb))
theorem zajh{Q:Unit->Shared->Prop}{o:Obj}(hr:zdh bm=true)
  (hC:h.get? C=some (excClassObj nm q C N bs bm true sn sub ab col dd k0 k1 k2 k3 k5 newId))(hx:h.get? x=some o)(hc:o.cls=.ref C)(hnc:∀c,o.data≠.cls c)(hdn:o.dict=none)
  (LS:W.Looks (model prog w) h (typeLookup (.ref C) "__setattr__") (some (.builtin "object.__setattr__")))(LA:W.Looks (model prog w) h (typeLookup (.ref C) name) none)
  (hq:∀h' tk' dx,h.objs.size<=dx->h'.Ns1 dx (λy=>if y=name then some v else none)->h'.get? x=some {o with dict:=some dx}->
   (∀b o,b≠x->h.get? b=some o->h'.get? b=some o)->Q () ⟨h',g,d,tk',os⟩) :
  wpAny (model prog w) A (setAttr (.ref x) name v) Q E ⟨h,g,d,t,os⟩:=by
 have SF:=qB6
 have f3:=SF.slot.bind (.ref x)
 unfold setAttr callSpecial? specialOf
 repeat (any_goals (first|assumption|(with_reducible refine qs hx ?_;rw[hc])|(with_reducible refine LS.here ?_)|wp_step))
 refine qAx SF.slot.plain SF.entry (zpq hr hC hx hc (zpr hr hC hx hc hnc hdn LA λh' tk' dx a1 a2 a3 a4=>?_))
 repeat (any_goals (first|assumption|wp_step))
 exact hq h' tk' dx a1 a2 a3 a4
theorem zalh{Q:Value->Shared->Prop}{o:Obj}{dx:Addr}{vs:Array Value}{mA:Str->Option Value}{expr:Bool}(hr:zdh bm=true)
  (hC:h.get? C=some (excClassObj nm q C N bs bm true sn sub ab col dd k0 k1 k2 k3 k5 newId))(hx:h.get? x=some o)(hc:o.cls=.ref C)(hd:o.data=.fields vs)(hdd:o.dict=some dx)
  (hns:h.Ns dx mA)(hv:mA name=some v)
  (LG:W.Looks (model prog w) h (typeLookup (.ref C) "__getattribute__") (some (.builtin "BaseException.__getattribute__")))(LH:W.Looks (model prog w) h (typeLookup (.ref C) "__getattr__") none)(LA:W.Looks (model prog w) h (typeLookup (.ref C) name) none)
  (hh:W.handedIn v=true)(hq:∀tk',Q v ⟨h,g,d,tk',os⟩) :
  wpAny (model prog w) A (getAttr (.ref x) name expr) Q E ⟨h,g,d,t,os⟩:=by
 have hk:builtinKind "BaseException.__getattribute__"=some .slot:=by decide +kernel
 have hsplit:splitId "BaseException.__getattribute__"=some ("BaseException","__getattribute__"):=by decide +kernel
 have hcB:(Value.ref C::bm).contains (.type "BaseException")=true:=by rw[qAI,zcz (by decide) hr,qAo]
 have hx0:(expr&&onTheHeap (Value.builtin "BaseException.__getattribute__"))=false:=by cases expr<;>rfl
 have hx2:(Value.builtin "BaseException.__getattribute__"==Value.builtin "object.__getattribute__")=false:=by decide +kernel
 have hx1:(onTheHeap (Value.ref C)&&Value.builtin "BaseException.__getattribute__"==Value.builtin "object.__getattribute__")=false:=by rw[hx2];rfl
 have FB:=F.attr_ValueError
 have f3:=FB.ga.bind (.ref x)
 have ha:=F.args_bexc_ga (.ref x)
 unfold getAttr getAttrBy
 repeat (any_goals (first|assumption|(with_reducible refine qs hx ?_;rw[hc])|(with_reducible refine LG.here ?_)|(with_reducible refine LH.here ?_)|wp_step))
 refine qAx FB.ga.plain F.entry_bexc_ga ?_
 simp only[checkBuiltinCall,hk,hsplit]
 refine qH ?_
 unfold isInstance
 repeat (first|(with_reducible refine qs hx ?_;rw[hc])|(with_reducible refine qAZ hC ?_;rw[hcB])|wp_step)
 repeat (any_goals (first|assumption|(with_reducible refine qs hx ?_;rw[hc])|(with_reducible refine LA.here ?_)|wp_step))
 rw[hd]
 dsimp only
 unfold instanceDict
 repeat (any_goals (first|assumption|(with_reducible refine qs hx ?_;rw[hc])|(with_reducible refine qs hC ?_)|wp_step))
 rw[hdd]
 dsimp only
 refine qc ?_
 unfold inDict
 refine wpAny_nsGet hns ?_
 rw[hv]
 dsimp only
 repeat (any_goals (first|assumption|wp_step))
 show wpAny _ _ (handedOut v) _ _ _
 rw[W.handedOut_of hh]
 exact qc (hq _)
theorem zali{Q:Value->Shared->Prop}{o:Obj}{vs:Array Value}{rest:List Value}(hr:zdh bm=true)(hl:rest.length<=qa)
  (hC:h.get? C=some (excClassObj nm q C N bs bm true sn sub ab col dd k0 k1 k2 k3 k5 newId))(hx:h.get? x=some o)(hc:o.cls=.ref C)(hd:o.data=.fields vs)(hs:0<vs.size)
  (hq:∀h' p,h'.get? x=some {o with data:=.fields (vs.setIfInBounds 0 (.ref p))}->(∀b o,b≠x->h.get? b=some o->h'.get? b=some o)->Q .none ⟨h',g,d,t,os⟩) :
  wpAny (model prog w) A (call (.builtin "ValueError.__init__") (.ref x::rest)) Q E ⟨h,g,d,t,os⟩:=by
 have F:=qBI
 have hcB:(Value.ref C::bm).contains (.type "ValueError")=true:=by rw[qAI,zcz (by decide) hr,qAo]
 have hshort:=F.noStar
 refine qBN (qAx F.init.plain F.initEntry ?_)
 simp only[checkBuiltinCall,F.initKind,F.initSplit,F.initRow]
 repeat (first|(with_reducible refine qs hx ?_;rw[hc])|with_reducible refine qs hC ?_|(with_reducible refine qAZ hC ?_;rw[hcB])|wp_step)
 refine wpAny_onRaise ?_
 rw[show ∀(a b:String)(n:Nat),Bind.check ⟨.positional,"*","ValueError",.self,[⟨"args",.varPos,false⟩]⟩ a b n (List.map (λx=>x.fst) ({pos:=Value.ref x::rest}:Args).kw)=pure ()from
  λa b n=>check_star_args _ _ _ _ _ _]
 refine qc ?_
 unfold Builtin.«BaseException.__init__»
 repeat (any_goals (first|assumption|wp_step))
 rw[hd]
 dsimp only
 refine qc ?_
 rw[qBM hs]
 dsimp only
 refine qc (qH ?_)
 have hx':(h.push {cls:=.type "tuple",data:=.seq rest.toArray}).get? x=some o:=qE _ hx
 refine qAz hx' hd hs ?_
 have fin:Q .none ⟨(h.push {cls:=.type "tuple",data:=.seq rest.toArray}).update x (Obj.mapFields (·.setIfInBounds 0 (Value.ref h.objs.size))),g,d,t,os⟩:=by
  refine hq _ h.objs.size ?_ λb ob hb e=>by rw[qAM _ _ (qAm hb)];exact qE _ e
  have hd₃:=qAJ hd (·.setIfInBounds 0 (Value.ref h.objs.size))
  rw[qAU _ hx' (qAd hd₃)]
  unfold Obj.mapFields
  obtain⟨oc,od,odt,osl⟩:=o
  cases hd
  rfl
 cases vs[0]<;>(repeat (any_goals (first|exact fin|assumption|wp_step)))
end
noncomputable def Heap.Tb(h:Heap)(T:Addr):Prop:=∃oT ts,h.get? T=some oT/\oT.data=.fields ts/\ts[3]?=some .none
section
variable{M:Model}{A:Around}{E:Value->Shared->Prop}{s:Shared}{base:Heap}{env:Env}{outer:List Env}{L e:Addr}{oe:Obj}{vs:Array Value}
theorem mapf{o:Obj}{vs:Array Value}(hd:o.data=.fields vs)(f:Array Value->Array Value):Obj.mapFields f o={o with data:=.fields (f vs)}:=by
 unfold Obj.mapFields
 obtain⟨oc,od,odt,osl⟩:=o
 cases hd
 rfl
theorem zlf{head:Value}{hadNext:Bool}{Q:Unit->Shared->Prop}
  (hfr:A.frames=some (env::outer))(hl:s.heap.FunFrames base (env::outer))(hf:env.frame=some L)(he:s.heap.get? e=some oe)(hd:oe.data=.fields vs)(hsz:1<vs.size)
  (hQ:∀h' T,s.heap.objs.size<=T->T≠e->(∀b o,b≠e->b∉(env::outer).filterMap (·.frame)->s.heap.get? b=some o->h'.get? b=some o)->
   (∀b o,b≠e->s.heap.get? b=some o->∃sl,h'.get? b=some {o with slots:=sl})->h'.get? e=some {oe with data:=.fields (vs.setIfInBounds 1 (.ref T))}->h'.Tb T->Q () {s with heap:=h'}) :
  wpAny M A (do let a <- frameOf env;let pl <- entryPlaceOf L hadNext;let b <- EntryCells.newEntry head a .none (rawInt L) .none pl;setField (.ref e) 1 b) (λ_ s'=>wpAny M A (setFlight (.ref e) none) Q E s') E s:=by
 have hene:e∉(env::outer).filterMap (·.frame):=λhm=>by
  obtain⟨_,o,ho,hnf⟩:=hl.mem hm
  rw[he]at ho;injection ho with ho;subst ho;exact hnf vs hd
 refine qH (wpAny_frameOf_fun hfr hl hf λh₁ hs₁=>?_)
 refine qH (wpAny_entryPlaceOf λpl hpl=>?_)
 unfold EntryCells.newEntry newFields
 refine qH (qBd ?_ (hpl.sizeOk5 _ _ _ _ _))
 have he₁:h₁.get? e=some oe:=(hs₁.2.1 e hene).trans he
 have he₂:=qE (h:=h₁) {cls:=.type "traceback",dict:=none,data:=.fields ([head,.ref L,.none,rawInt L,.none]++(if pl.isEmpty then List.replicate 6 Value.none else pl)).toArray} he₁
 refine qAz he₂ hd hsz ?_
 have hTe:h₁.objs.size≠e:=qB8 (qO he₁)
 have hd₃:=qAJ hd (·.setIfInBounds 1 (Value.ref h₁.objs.size))
 have he₃:=qAU (Obj.mapFields (·.setIfInBounds 1 (Value.ref h₁.objs.size))) he₂ (qAd hd₃)
 have hT₃:=(qAM (h₁.push {cls:=.type "traceback",dict:=none,data:=.fields ([head,.ref L,.none,rawInt L,.none]++(if pl.isEmpty then List.replicate 6 Value.none else pl)).toArray})
  (Obj.mapFields (·.setIfInBounds 1 (Value.ref h₁.objs.size))) (qAm hTe)).trans (qV h₁ rfl)
 unfold setFlight
 refine qH (qAs he₃ hd₃ (x:=.ref h₁.objs.size) (by simp[hsz]) ?_)
 rw[if_pos (show(Value.ref h₁.objs.size != Value.none)=true from by simp)]
 refine qAz hT₃ rfl (by simp only[qM,qY,qAw,List.length_nil]<;>omega) ?_
 have keep:∀b o,b≠e->h₁.get? b=some o->
   (((h₁.push {cls:=.type "traceback",dict:=none,data:=.fields ([head,.ref L,.none,rawInt L,.none]++(if pl.isEmpty then List.replicate 6 Value.none else pl)).toArray}).update e (Obj.mapFields (·.setIfInBounds 1 (Value.ref h₁.objs.size)))).update h₁.objs.size
    (Obj.mapFields (·.setIfInBounds 3 ((none:Option Addr).elim Value.none λf=>rawInt f)))).get? b=some o:=λb o hbe hb=>by
  have hbT:h₁.objs.size≠b:=qB8 (qO hb)
  rw[qAM _ _ hbT,qAM _ _ (qAm hbe)]
  exact qE _ hb
 refine hQ _ h₁.objs.size (Nat.le_of_eq hs₁.1.symm) hTe (λb o hb hn ho=>keep b o hb ((hs₁.2.1 b hn).trans ho)) (λb o hb ho=>?_) ?_ ?_
 ·obtain⟨sl,hs⟩:=hs₁.2.2 b o ho
  exact⟨sl,keep b _ hb hs⟩
 ·rw[qAM _ _ hTe,he₃,mapf hd]
 ·exact⟨_,_,qAU _ hT₃ (qAd (qAJ rfl _)),qAJ rfl _,by first|(simp;done)|(rcases hpl with rfl|⟨_,_,_,_,_,_,_,rfl⟩<;>simp)⟩
theorem zso{Q:Unit->Shared->Prop}
  (hfr:A.frames=some (env::outer))(hl:s.heap.FunFrames base (env::outer))(hf:env.frame=some L)(he:s.heap.get? e=some oe)(hd:oe.data=.fields vs)
  (h1:vs[1]?=some .none\/∃T,vs[1]?=some (.ref T)/\T≠e/\s.heap.Tb T)
  (hQ:∀h' T,s.heap.objs.size<=T->T≠e->(∀b o,b≠e->vs[1]?≠some (.ref b)->b∉(env::outer).filterMap (·.frame)->s.heap.get? b=some o->h'.get? b=some o)->
   (∀b o,b≠e->vs[1]?≠some (.ref b)->s.heap.get? b=some o->∃sl,h'.get? b=some {o with slots:=sl})->(∀b,vs[1]?=some (.ref b)->h'.Tb b)->
   h'.get? e=some {oe with data:=.fields (vs.setIfInBounds 1 (.ref T))}->h'.Tb T->Q () {s with heap:=h'}) :
  wpAny M A (noteFrame (.ref e) env) (λ_ s'=>wpAny M A (setFlight (.ref e) none) Q E s') E s:=by
 unfold noteFrame
 simp only[hf]
 rcases h1 with h1|⟨T,h1,hTe,oT,ts,hT,hdT,h3⟩
 ·refine(qH (qAs he hd h1 ?_))
  rw[if_neg (by decide)]
  exact zlf hfr hl hf he hd (qAS.mp h1).1 λh' T a1 a2 a3 a4 a5 a6=>hQ h' T a1 a2 (λb o q _=>a3 b o q) (λb o q _=>a4 b o q) (λb q=>by rw[h1]at q;cases q) a5 a6
 ·refine(qH (qAs he hd h1 ?_))
  rw[if_pos (show(Value.ref T != Value.none)=true from by simp)]
  refine qH (qAs hT hdT h3 ?_)
  rw[if_neg (show ¬((Value.none==rawInt L)=true)from by simp[rawInt])]
  have hsz3:=(qAS.mp h3).1
  refine qH (qAz hT hdT hsz3 ?_)
  have other:∀b,b≠T->(s.heap.update T (Obj.mapFields (·.setIfInBounds 3 Value.none))).get? b=s.heap.get? b:=λb hb=>qAM _ _ (qAm hb)
  have hT':=qAU (Obj.mapFields (·.setIfInBounds 3 Value.none)) hT (qAd (qAJ hdT _))
  have noRecord:∀b o,s.heap.get? b=some o->(∀vs,o.data≠.fields vs)->b≠T:=λb o hb hnf q=>by
   rw[q,hT]at hb;injection hb with hb;subst hb;exact hnf ts hdT
  have ne:∀{b:Addr},vs[1]?≠some (.ref b)->b≠T:=λq z=>q (by rw[h1,z])
  refine zlf hfr (hl.of_keeps λb o hb hnf=>⟨o,(other b (noRecord b o hb hnf)).trans hb,rfl⟩) hf ((other e (qAm hTe)).trans he) hd (qAS.mp h1).1 λh' T' a1 a2 a3 a4 a5 a6=>?_
  refine hQ h' T' (by rw[Heap.size_update]at a1;exact a1) a2 (λb o q n z ho=>a3 b o q z ((other b (ne n)).trans ho)) (λb o q n ho=>a4 b o q ((other b (ne n)).trans ho)) (λb q=>?_) a5 a6
  rw[h1]at q
  cases q
  obtain⟨sl,hs⟩:=a4 T _ hTe hT'
  exact⟨_,_,hs,qAJ hdT _,by simp[hsz3]⟩
theorem zps{Q:Unit->Shared->Prop}{T:Addr}(he:s.heap.get? e=some oe)(hd:oe.data=.fields vs)(h1:vs[1]?=some (.ref T))(hT:s.heap.Tb T)
  (hQ:∀h',(∀b o,b≠T->s.heap.get? b=some o->h'.get? b=some o)->h'.Tb T->Q () {s with heap:=h'}):wpAny M A (setFlight (.ref e) none) Q E s:=by
 obtain⟨oT,ts,hT,hdT,h3⟩:=hT
 have hsz3:=(qAS.mp h3).1
 unfold setFlight
 refine qH (qAs he hd h1 ?_)
 rw[if_pos (show(Value.ref T != Value.none)=true from by simp)]
 refine qAz hT hdT hsz3 (hQ _ (λb o hb ho=>by rw[qAM _ _ (qAm hb)];exact ho) ?_)
 exact⟨_,_,qAU _ hT (qAd (qAJ hdT _)),qAJ hdT _,by simp[hsz3]⟩
end
end PySem
namespace L2
open PySem PySem.Spec PyProof.Rows
noncomputable def xeD(e C dx:Addr)(tv:Value)(h:Heap):Prop:=∃vs sl,h.get? e=some {cls:=.ref C,dict:=some dx,data:=.fields vs,slots:=sl}/\vs[1]?=some tv
theorem xeD.stay{e C dx:Addr}{tv:Value}(h1 h2:Heap)(h:xeD e C dx tv h1)(k:∀o,h1.get? e=some o->h2.get? e=some o):xeD e C dx tv h2:=
 let⟨vs,sl,a,b⟩:=h;⟨vs,sl,k _ a,b⟩
theorem zafk{T:Addr}(h1 h2:Heap)(h:h1.Tb T)(k:∀o,h1.get? T=some o->h2.get? T=some o):h2.Tb T:=
 let⟨oT,ts,a,b⟩:=h;⟨oT,ts,k _ a,b⟩
theorem zacq{P:Program}{w:World}{H:Hp}{h:Heap}{e C dx:Addr}{tv:Value}(q:xeD e C dx tv h):zdp P w H h e (.ext (xeD e C dx tv)):=
 ⟨q,let⟨_,_,a,_⟩:=q;⟨_,a⟩,λh1 h2=>xeD.stay h1 h2⟩
theorem ztk{P:Program}{w:World}{H:Hp}{h:Heap}{T:Addr}(q:h.Tb T):zdp P w H h T (.ext λh=>h.Tb T):=
 ⟨q,let⟨_,_,a,_⟩:=q;⟨_,a⟩,λh1 h2=>zafk h1 h2⟩
theorem zdp.there{P:Program}{w:World}{H:Hp}{h:Heap}{a:Addr}{o:HO}(x:zdp P w H h a o):∃ob,h.get? a=some ob:=by
 cases o with
 | lst xs=>obtain⟨_,_,_,_,e⟩:=x;exact⟨_,e⟩
 | tup xs=>obtain⟨_,_,_,ob,e,_⟩:=x;exact⟨_,e⟩
 | dK kvs=>obtain⟨_,_,_,_,o,_,_,e,_⟩:=x;exact⟨_,e⟩
 | dT kvs=>obtain⟨_,_,_,_,o,_,_,e,_⟩:=x;exact⟨_,e⟩
 | set S n=>obtain⟨o,_,_,_,e,_⟩:=x;exact⟨_,e⟩
 | ins C dx fs=>obtain⟨_,_,_,e,_⟩:=x;exact⟨_,e⟩
 | own y=>exact x
 | xd fs=>obtain⟨_,⟨_,_,_,e,_⟩,_⟩:=x;exact⟨_,e⟩
 | rng lo hi=>obtain⟨_,_,_,e⟩:=x;exact⟨_,e⟩
 | frz ob u=>obtain⟨e,_⟩:=x;exact⟨_,e⟩
 | tbl ps=>exact⟨_,x⟩
 | met f y=>exact⟨_,x⟩
 | ext φ=>exact x.2.1
theorem HOk.no{P:Program}{w:World}{H:Hp}{h:Heap}{a:Addr}(x:HOk P w H h)(n:h.get? a=none):H a=none:=by
 cases q:H a with
 | none=>rfl
 | some u=>obtain⟨ob,z⟩:=(x a u q).there;rw[n]at z;cases z
noncomputable def zxu(H H':Hp):Prop:=∀b o,H b=some o->(∀φ,o≠.ext φ)->H' b=some o
noncomputable def StX(H0:Hp)(E:XK):XK:=λc dx H'=>∀H3,(∀b o,H0 b=some o->H' b=some o->H3 b=some o)->zxu H' H3->E c dx H3
structure Flt(h:Heap)(H':Hp)(e C dx:Addr):Prop where
 new:h.get? e=none
 st:∃tv,H' e=some (.ext (xeD e C dx tv))/\(tv=.none\/∃T,tv=.ref T/\T≠e/\h.get? T=none/\H' T=some (.ext λh=>h.Tb T))
noncomputable def CXE(P:Program)(w:World):CXT:=λouter H s E e s'=>∃ea C dx H',e=.ref ea/\s'.os=s.os/\AllBare s'.gens/\Un (frs outer) [] H H' s.heap s'.heap/\HOk P w H' s'.heap/\Flt s.heap H' ea C dx/\StX H E (.ref C) (some dx) H'
section
variable{X:Cx}{pins:List (Addr×Obj)}{σ:St}{H1:Hp}{s:Shared}{e C dx:Addr}{E:Value->Shared->Prop}
theorem zlg{h0:Heap}{Q:Unit->Shared->Prop}(I:Inv X pins σ H1 s)(hst:X.stack=X.env::X.outer)(hfr:X.env.frame=some X.env.locals)(hz:∀b ob,h0.get? b=some ob->∃o',s.heap.get? b=some o')(F:Flt h0 H1 e C dx)
  (k:∀s' H2,Inv X pins σ H2 s'->(∃T,H2 e=some (.ext (xeD e C dx (.ref T)))/\T≠e/\h0.get? T=none/\H2 T=some (.ext λh=>h.Tb T))->
   (∀b o ob,h0.get? b=some ob->H1 b=some o->H2 b=some o)->zxu H1 H2->(s.heap.objs.size<=s'.heap.objs.size)->Q () s') :
  wpAny (model X.prog X.w) X.A (noteFrame (.ref e) X.env) (λ_ s'=>wpAny (model X.prog X.w) X.A (setFlight (.ref e) none) Q E s') E s:=by
 obtain⟨tv,he,ht⟩:=F.st
 obtain⟨⟨vs,sl,oe,h1⟩,_,_⟩:=I.hok e _ he
 have hfs:∀b,b∈(X.env::X.outer).filterMap (·.frame)->H1 b=none:=λb hb=>I.stkFree b (by unfold frs;rw[hst];exact hb)
 have hT1:tv=.none\/∃T,tv=.ref T/\T≠e/\s.heap.Tb T:=ht.imp id λ⟨T,a,b,c,d⟩=>⟨T,a,b,(I.hok T _ d).1⟩
 refine zso (base:=X.base) (L:=X.env.locals) (by rw[<- hst];exact I.ok.frames) (by rw[<- hst];exact I.stack) hfr oe rfl (hT1.imp (λz=>by rw[h1,z]) λ⟨T,a,b,c⟩=>⟨T,by rw[h1,a],b,c⟩) λh' T a1 a2 a3 a4 a5 a6 a7=>?_
 have nT:H1 T=none:=I.hok.fresh a1
 have tr:∀b,vs[1]?=some (.ref b)->H1 b=some (.ext λh=>h.Tb b)/\b≠e/\h0.get? b=none:=λb q=>by
  rw[h1]at q
  rcases ht with z|⟨T0,z,b1,c1,d1⟩
  ·rw[z]at q;cases q
  ·rw[z]at q;cases q;exact⟨d1,b1,c1⟩
 let H2:Hp:=upd (upd H1 T (.ext λh=>h.Tb T)) e (.ext (xeD e C dx (.ref T)))
 have h2:∀b,b≠e->b≠T->H2 b=H1 b:=λb q z=>by show upd _ _ _ b=_;rw[zaq q,zaq z]
 have h2e:H2 e=some (.ext (xeD e C dx (.ref T))):=zap
 have h2T:H2 T=some (.ext λh=>h.Tb T):=by show upd _ _ _ T=_;rw[zaq a2,zap]
 have ext2:∀b o,H1 b=some o->(∀φ,o≠.ext φ)->H2 b=some o:=λb o q n=>by
  rw[h2 b (λz=>by rw[z,he]at q;cases q;exact n _ rfl) (λz=>by rw[z,nT]at q;cases q)];exact q
 have kp:∀b o,H1 b=some o->b≠e->vs[1]?≠some (.ref b)->∀u,s.heap.get? b=some u->h'.get? b=some u:=λb o q n n2 u z=>a3 b u n n2 (λm=>by rw[hfs b m]at q;cases q) z
 have hsz1:1<vs.size:=(qAS.mp h1).1
 have ok2:HOk X.prog X.w H2 h':=λb o q=>by
  by_cases hb:b=e
  ·subst hb
   rw[h2e]at q
   cases q
   exact zacq ⟨_,_,a6,by rw[Array.getElem?_setIfInBounds_self_of_lt hsz1]⟩
  ·by_cases hbT:b=T
   ·subst hbT
    rw[h2T]at q
    cases q
    exact ztk a7
   ·rw[h2 b hb hbT]at q
    by_cases hv:vs[1]?=some (.ref b)
    ·rw[(tr b hv).1]at q
     cases q
     exact ztk (a5 b hv)
    ·refine(I.hok b o q).stay (λc u hc z=>?_) (λc z=>ext2 c _ z (λφ y=>by cases y)) (λc xs z=>ext2 c _ z (λφ y=>by cases y))
     rcases hc with rfl|hc
     ·exact kp c o q hb hv u z
     ·exact kp c _ hc (λy=>by rw[y,he]at hc;cases hc) (λy=>by rw[(tr c y).1]at hc;cases hc) u z
 have un:Un (frs X.stack) [] H1 H2 s.heap h':=by
  have nb:∀b,H1 b=none->b≠e/\vs[1]?≠some (.ref b):=λb n=>⟨λy=>(by rw[y,he]at n;cases n),λy=>(by rw[(tr b y).1]at n;cases n)⟩
  have hfs':∀b,b∈frs X.stack↔b∈(X.env::X.outer).filterMap (·.frame):=λb=>by unfold frs;rw[hst]
  refine⟨λb o q n hb _=>a3 b o (nb b n).1 (nb b n).2 (λm=>hb ((hfs' b).mpr m)) q,λb o q n hb _=>a4 b o (nb b n).1 (nb b n).2 q,λb o q n _=>?_,λb o q _=>?_,λb xs q=>ext2 b _ q (λφ y=>by cases y),λb o u q=>ext2 b _ q (λφ y=>by cases y),λb ps q=>⟨#[],by rw[ext2 b _ q (λφ y=>by cases y)];simp⟩⟩
  ·rw[h2 b (nb b n).1 (λy=>by rw[y]at q;exact absurd (qO q) (Nat.not_lt.mpr a1))];exact n
  ·by_cases hb:b=e
   ·exact⟨_,by rw[hb];exact a6⟩
   ·by_cases hv:vs[1]?=some (.ref b)
    ·obtain⟨oT,_,z,_⟩:=a5 b hv;exact⟨oT,z⟩
    ·obtain⟨sl,z⟩:=a4 b o hb hv q;exact⟨_,z⟩
 have n0:h0.get? T=none:=by
  cases y:h0.get? T with
  | none=>rfl
  | some ob=>obtain⟨o',z⟩:=hz T ob y;exact absurd (qO z) (Nat.not_lt.mpr a1)
 have hs:s.heap.objs.size<=h'.objs.size:=qBm (qB0 a1 (let⟨_,_,z,_⟩:=a7;qO z))
 refine k _ H2 (I.call' (s':={s with heap:=h'}) rfl un ok2 I.bare (λb z=>absurd z (by simp))) ⟨T,h2e,a2,n0,h2T⟩ (λb o ob q z=>?_) ext2 hs
 rw[h2 b (λy=>by rw[y,F.new]at q;cases q) (λy=>by rw[y,nT]at z;cases z)]
 exact z
theorem zabe{h0:Heap}{Q:Unit->Shared->Prop}(I:Inv X pins σ H1 s)(hst:X.stack=X.env::X.outer)(hfr:X.env.frame=some X.env.locals)(hz:∀b ob,h0.get? b=some ob->∃o',s.heap.get? b=some o')(F:Flt h0 H1 e C dx)
  (k:∀s' H2,Inv X pins σ H2 s'->(∃T,H2 e=some (.ext (xeD e C dx (.ref T)))/\T≠e/\h0.get? T=none/\H2 T=some (.ext λh=>h.Tb T))->
   (∀b o ob,h0.get? b=some ob->H1 b=some o->H2 b=some o)->zxu H1 H2->(s.heap.objs.size<=s'.heap.objs.size)->Q () s') :
  wpAny (model X.prog X.w) X.A (leaving X.env (.ref e)) Q E s:=by
 unfold leaving
 exact qH (zlg I hst hfr hz F k)
end
theorem zaji{P:Program}{w:World}{K:qB}{mg:Str->Option Value}{base:Heap}{N:List Str}{qual:Str}{scope:Scope}{f:Addr}{cd:Value}{A:Around}{outer:List Env}{s:Shared}{H:Hp}{E:XK}
  {pins:List (Addr×Obj)}{σ:St}{H1:Hp}{s1:Shared}{e C dx:Addr}(I:Inv (cxOf (CXE P w) P w K mg base N qual scope f cd A outer s H E) pins σ H1 s1)(h0k:HOk P w H s.heap)(F:Flt s.heap H1 e C dx)(q:StX H E (.ref C) (some dx) H1) :
  (cxOf (CXE P w) P w K mg base N qual scope f cd A outer s H E).xe (.ref e) s1:=by
 refine zabe (X:=cxOf (CXE P w) P w K mg base N qual scope f cd A outer s H E) I rfl rfl (λb ob z=>I.base.there b ob z (λy=>absurd (show b∈([]:List Addr)from y) (by simp))) F λs' H2 I2 ht hk hx _=>?_
 refine⟨e,C,dx,H2,rfl,I2.os,I2.bare,I2.base,I2.hok,⟨F.new,_,ht.choose_spec.1,.inr ⟨_,rfl,ht.choose_spec.2⟩⟩,λH3 r1 r2=>q H3 (λb o z1 z2=>?_) (λb o z n=>r2 b o (hx b o z n) n)⟩
 obtain⟨ob,y⟩:=(h0k b o z1).there
 exact r1 b o z1 (hk b o ob y z2)
theorem zajj{CX:CXT}{P:Program}{w:World}{K:qB}{mg:Str->Option Value}{base:Heap}{x qual:Str}{st:Stmt}{f:Addr}{fd:qAB}{N ps:List Str}{k:Nat}{sp:Sp}(Fu:Fun K x qual st f fd)(S:FnScope N ps (zak st))(len:∀vs H Q E,sp vs H Q E->vs.length=ps.length)
  (hbody:∀(cdv:Value)(A:Around)(outer:List Env)(s:Shared)(H:Hp)(vs:List V)(Q:VK)(E:XK),Room k (A.deeper (envOfC qual (zak st) s.heap.objs.size f cdv))->HOk P w H s.heap->sp vs H Q E->
   ∃t,PSs (cxOf CX P w K mg base N qual (zak st) f cdv A outer s H E) (zbo st) t/\t {nx:=λ_ H'=>Q .non H',rt:=Q} (start N vs) H):FnOk P w K mg base CX (k+1) f fd ps sp:=by
 refine⟨len,λA outer s H args us vs Q E hr e0 hb r hsp=>?_⟩
 obtain⟨oc,od,kV,doc,pm,an,cdv,ct,osl,rfl,lk,hcd⟩:=Fu.ex
 have KX:K.In s.heap:=e0.mod.kin.keeps λb o e=>(e0.bs b o e).1
 refine codeAny_call_function hr.depth (KX _ _ lk) rfl S.co S.gen rfl (qCZ KX hcd) (hb _ _ _ _ (qCY S.kind (λ⟨n,v⟩ hy=>?_) λenv he s1 x=>?_))
 ·rcases S.par n (qBf hy).1 with q|q
  ·exact .inl q
  ·exact .inr ⟨q,qBT _ _ _ (.inl q)⟩
 ·subst he
  obtain⟨t,ht,hq⟩:=hbody cdv A outer s H vs Q E (hr.deeper _) e0.hok hsp
  have I:=zos (CX:=CX) (E:=E) S hr.hd e0 (len _ _ _ _ hsp) r x
  refine⟨(e0.mod.nolimit.keeps λb o e=>(e0.bs b o e).1).keeps x.toInCall.keep,codeAny_func (qAu (ht [] s1 (start N vs) H _ I hq) (λfl s' hs=>?_) λe s' hs=>hs)⟩
  cases fl with
  | ret u=>obtain⟨v,σ',H',J,rv,q⟩:=hs;exact⟨v,H',J.os,J.bare,J.base,J.hok,rv,q⟩
  | next=>obtain⟨σ',H',J,q⟩:=hs;exact⟨.non,H',J.os,J.bare,J.base,J.hok,rfl,q⟩
  | brk=>obtain⟨_,_,_,q⟩:=hs;exact q.elim
  | cont=>obtain⟨_,_,_,q⟩:=hs;exact q.elim
noncomputable def xcR(K:qB)(C:Addr):Bool:=match K.lookup C with
 | some ⟨_,_,.cls cd,_⟩=>(match cd.mro with|_::bm=>zdh bm|_=>false)
 | _=>false
theorem zlh{K:qB}{h:Heap}{C:Addr}(X:K.In h)(q:xcIn K C=true)(q2:xcR K C=true):∃nm qn N bs bm sn sub ab col dd k0 k1 k2 k3 k5,
  h.get? C=some (excClassObj nm qn C N bs bm true sn sub ab col dd k0 k1 k2 k3 k5 "ValueError.__new__")/\zdh bm=true/\(Value.ref C::bm).contains (.type "AttributeError")=false/\(Value.ref C::bm).contains (.type "NameError")=false:=by
 obtain⟨nm,qn,N,bs,bm,sn,sub,ab,col,dd,k0,k1,k2,k3,k5,hC,_,_,ha,hn⟩:=zajg X q
 refine⟨nm,qn,N,bs,bm,sn,sub,ab,col,dd,k0,k1,k2,k3,k5,hC,?_,ha,hn⟩
 unfold xcR at q2
 split at q2
 ·rename_i a b cd sl ho
  have:=X _ _ ho
  rw[hC]at this
  have e:=qq this
  unfold excClassObj at e
  injection e with _ _ e _
  injection e with e
  subst e
  exact q2
 ·cases q2
structure XMk(K:qB)(C f:Addr):Prop where
 cls:xcIn K C=true
 tail:xcR K C=true
 init:PySem.W.findIn K (.ref C) "__init__"=some (some (.ref f))
 fn:PySem.W.isFn K (.ref f)=true
 kp:qm K (.ref C)=true
 sa:PySem.W.findIn K (.ref C) "__setattr__"=some (some (.builtin "object.__setattr__"))
 at_:PySem.W.findIn K (.ref C) "at"=some none
 ga:PySem.W.findIn K (.ref C) "__getattribute__"=some (some (.builtin "BaseException.__getattribute__"))
 gh:PySem.W.findIn K (.ref C) "__getattr__"=some none
noncomputable def atV:V->Prop
 | .non=>True
 | .str x=>(PySem.reprText x).length<=1000
 | .int n=>0<=n/\n<100
 | _=>False
noncomputable def xe0(e C:Addr)(h:Heap):Prop:=∃vs sl,h.get? e=some {cls:=.ref C,dict:=none,data:=.fields vs,slots:=sl}/\vs[1]?=some .none
theorem zxv{P:Program}{w:World}{H:Hp}{h:Heap}{e C:Addr}(q:xe0 e C h):zdp P w H h e (.ext (xe0 e C)):=
 ⟨q,(let⟨_,_,a,_⟩:=q;⟨_,a⟩),λh1 h2 ⟨vs,sl,a,b⟩ k=>⟨vs,sl,k _ a,b⟩⟩
noncomputable def spI(C:Addr):Sp:=λvs H Q _=>∃e v,vs=[.ref e,v]/\H e=some (.ext (xe0 e C))/\atV v/\∀dx,H dx=none->dx≠e->Q .non (upd (upd H dx (.xd [("at",v)])) e (.ext (xeD e C dx .none)))
section
variable{X:Cx}{pins:List (Addr×Obj)}{σ:St}{H:Hp}{s:Shared}{C f:Addr}{k:Nat}{fd:qAB}
theorem Inv.new{h':Heap}{a:Addr}{o:HO}{t':Nat}(I:Inv X pins σ H s)(k:∀b u,s.heap.get? b=some u->h'.get? b=some u)(hn:s.heap.get? a=none)(new:zdp X.prog X.w (upd H a o) h' a o):Inv X pins σ (upd H a o) {s with heap:=h',toks:=t'}:=by
 have hH:=HOk.no I.hok hn
 have ne:∀b u,s.heap.get? b=some u->b≠a:=λb u q z=>by rw[z,hn]at q;cases q
 have neH:∀b u,H b=some u->b≠a:=λb u q z=>by rw[z,hH]at q;cases q
 refine I.un (h':=h') ⟨λb o q _ _ _=>k b o q,λb o q _ _ _=>⟨o.slots,k b o q⟩,λb o q n _=>by rw[zaq (ne b o q)];exact n,λb o q _=>⟨o,k b o q⟩,λb xs q=>by rw[zaq (neH b _ q)];exact q,λb o u q=>by rw[zaq (neH b _ q)];exact q,λb ps q=>⟨#[],by rw[zaq (neH b _ q),q];simp⟩⟩ λb u q=>?_
 by_cases hb:b=a
 ·subst hb;rw[zap]at q;cases q;exact new
 ·rw[zaq hb]at q
  exact(I.hok b u q).stay (λc v _ q=>k c v q) (λc q=>by rw[zaq (neH c _ q)];exact q) λc xs q=>by rw[zaq (neH c _ q)];exact q
theorem zxw{v:V}{u:Value}(M:XMk X.K C f)(F:FnOk X.prog X.w X.K X.mg X.base CX0 k f fd ["self","at"] (spI C))(hr:Room (k+1) X.A)(hb:zjf X.K fd ["self","at"] [])(hex:X.ex=[])(I:Inv X pins σ H s)(rv:RelV v u)(av:atV v)
  {Q:Value->Shared->Prop}(q:∀e dx H' s',Inv X pins σ H' s'->Flt X.s₀.heap H' e C dx->H' e=some (.ext (xeD e C dx .none))->H' dx=some (.xd [("at",v)])->Same H H'->Q (.ref e) s') :
  wpAny (model X.prog X.w) X.A (call (.ref C) [u]) Q X.xe s:=by
 obtain⟨nm,qn,N,bs,bm,sn,sub,ab,col,dd,k0,k1,k2,k3,k5,hC,hbm,ha,hn⟩:=zlh I.kIn M.cls M.tail
 obtain⟨hh,g,d,tk,os⟩:=s
 obtain⟨oI,hfI,hfc⟩:∃oI,hh.get? f=some oI/\oI.cls=.type "function":=by
  have z:(X.K.lookup f).map (·.cls)=some (.type "function"):=beq_iff_eq.mp M.fn
  cases y:X.K.lookup f with
  | none=>rw[y]at z;cases z
  | some o=>rw[y]at z;exact⟨o,I.kIn _ _ y,qq z⟩
 refine zalg (C:=C) hC (by rw[qAI,zcz (by decide) hbm,qAo]) ha hn (qAe I.kIn M.init) hfI hfc (by show 1<=qa;rw[qAk];omega) λh' e hm=>?_
 obtain⟨t,he,htn,ht⟩:=hm.there
 have I2:=Inv.new (h':=h') (a:=e) (o:=.ext (xe0 e C)) (t':=tk) I hm.keeps hm.new (zxv ⟨_,_,he,rfl⟩)
 have hHe:H e=none:=HOk.no I.hok hm.new
 have sp:spI C [.ref e,v] (upd H e (.ext (xe0 e C))) (λr H2=>r=.non/\∃dx,H dx=none/\dx≠e/\H2=upd (upd (upd H e (.ext (xe0 e C))) dx (.xd [("at",v)])) e (.ext (xeD e C dx .none))) E0:=
  ⟨e,v,rfl,zap,av,λdx hd ne=>⟨rfl,dx,by rw[zaq ne]at hd;exact hd,ne,rfl⟩⟩
 refine qBN (qAj (F.run _ X.stack _ _ ⟨[.ref e,u],[]⟩ [.ref e,u] _ _ E0 (hr.make C [u] []) (I2.env0.make C [u] []) (by have:=hb ⟨h',g,d,tk,os⟩ [.ref e,u] I2.kIn rfl;rw[qw]at this;exact this) (show Vals [V.ref e,v] [Value.ref e,u]from .cons rfl (.cons rv .nil)) sp) λr s' hq=>?_)
 cases r with
 | error x=>exact hq.elim
 | ok fl=>
  cases fl with
  | ret w=>
   obtain⟨v',H2,I3,rv',rfl,dx,hd,ne,rfl⟩:=I2.after hq
   refine⟨rv',q e dx _ s' I3 ⟨?_,.none,zap,.inl rfl⟩ zap (by rw[zaq ne,zap]) λb o z=>?_⟩
   ·cases y:X.s₀.heap.get? e with
    | none=>rfl
    | some ob=>
     obtain⟨o',z⟩:=I.base.there e ob y (by rw[hex];simp)
     have:=hm.new
     rw[show hh.get? e=some o' from z]at this
     cases this
   ·have n1:b≠e:=λy=>by rw[y,hHe]at z;cases z
    have n2:b≠dx:=λy=>by rw[y,hd]at z;cases z
    rw[zaq n1,zaq n2,zaq n1]
    exact z
  | next=>exact False.elim hq
  | brk=>exact False.elim hq
  | cont=>exact False.elim hq
noncomputable def Lvs(X:Cx)(E:XK):Prop:=∀(pins:List (Addr×Obj))(σ:St)(H1:Hp)(s1:Shared)(e C dx:Addr),Inv X pins σ H1 s1->Flt X.s₀.heap H1 e C dx->E (.ref C) (some dx) H1->X.xe (.ref e) s1
noncomputable def zxx(C:Addr)(E:XK)(te:TE):TS:=λ_ σ H=>te σ H λv H1=>atV v/\∀H' dx,Same H1 H'->H' dx=some (.xd [("at",v)])->E (.ref C) (some dx) H'
theorem zabf{E:XK}{x:Str}{np cpos pos:Pos}{a:Expr}{te:TE}(M:XMk X.K C f)(F:FnOk X.prog X.w X.K X.mg X.base CX0 k f fd ["self","at"] (spI C))(hr:Room (k+1) X.A)(hb:zjf X.K fd ["self","at"] [])(hex:X.ex=[])(hc:X.calm=true)(hx:Lvs X E)
  (hg:Gl X x)(hm:X.mg x=some (.ref C))(ha:PE X a te)(hdb:(x==("__debug__":Str))=false:=by decide)(he:starEach [a] X.env=[(false,eval a X.env)]:=by rfl) :
  PS X (.Raise (some (.Call (.Name x np) [a] [] cpos)) none pos) (zxx C E te):=by
 intro pins s σ H D I h
 rw[arm_exec_Raise]
 refine qH (qCB ?_)
 unfold raiseStmt
 simp only[evalOpt,Option.map]
 refine qH ?_
 have hcall:wpAny (model X.prog X.w) X.A (eval (.Call (.Name x np) [a] [] cpos) X.env) (λr s'=>∃e dx H' v H1,r=.ref e/\Inv X pins σ H' s'/\Flt X.s₀.heap H' e C dx/\H' e=some (.ext (xeD e C dx .none))/\H' dx=some (.xd [("at",v)])/\Same H1 H'/\∀H' dx,Same H1 H'->H' dx=some (.xd [("at",v)])->E (.ref C) (some dx) H') X.xe s:=by
  refine qAT (zgd I hg hm ?_ hdb)
  refine qAy (h₀:=X.base) I.ok.mod.kin M.kp (thn (zge ha zju he cpos pins s σ H (λvs H1=>match vs with|[v]=>atV v/\∀H' dx,Same H1 H'->H' dx=some (.xd [("at",v)])->E (.ref C) (some dx) H'|_=>False) I h) λus s1 ⟨vs,H1,I1,r,q⟩=>⟨I1.kIn,?_⟩) he rfl
  match vs,q,r with
  | [v],q,r=>
   obtain⟨u,rfl,rv⟩:=zvt r
   exact zxw M F hr hb hex I1 rv q.1 λe dx H' s' I' fl he0 hd sm=>⟨e,dx,H',v,H1,rfl,I',fl,he0,hd,sm,q.2⟩
  | [],q,_=>exact q.elim
  | _::_::_,q,_=>exact q.elim
 refine qH (thn hcall λr s' hh=>?_)
 obtain⟨e,dx,H',v,H1,rfl,I',fl,he',hd,sm,q⟩:=hh
 refine qH (qCB (qc ?_))
 obtain⟨nm,qn,N,bs,bm,sn,sub,ab,col,dd,k0,k1,k2,k3,k5,hC,hbm,_,_⟩:=zlh I'.kIn M.cls M.tail
 have hcB:(Value.ref C::bm).contains (.type "BaseException")=true:=by rw[qAI,zcz (by decide) hbm,qAo]
 obtain⟨⟨vs,sl,oe,h1⟩,_,_⟩:=I'.hok e _ he'
 have hxe:=hx pins σ H' s' e C dx I' fl (q H' dx sm hd)
 have hh:=I'.ok.hd hc
 obtain⟨hp,g,d,tk,os⟩:=s'
 repeat (first|with_reducible refine qs oe ?_|with_reducible refine qs hC ?_|(with_reducible refine qAZ hC ?_;rw[hcB])|wp_step)
 rw[h1]
 dsimp only
 refine qc ?_
 rw[if_neg (by decide)]
 exact qc (wpAny_raiseNew_none hh hxe)
end
section
variable{X:Cx}{pins:List (Addr×Obj)}{σ:St}{H:Hp}{s:Shared}{C f:Addr}{k:Nat}{fd:qAB}
noncomputable def tMsg(te:TE):TE:=λσ H Q=>te σ H λv H1=>atV v/\∀m,Q (.str m) H1
theorem zxy:∀m<100,Nat.log2 m<1920:=by decide +kernel
theorem zmo:∀m<100,(Str.ofString (toString ((m:Nat):Int))).length<=10:=by decide +kernel
theorem zafl {v:V} {u:Value} {A:Around} {E:Value->Shared->Prop} {Q:Value->Shared->Prop} (r:RelV v u) (av:atV v) (q:∀(m:Str) t,m.length<=1000->Q (.str m s.toks) {s with toks:=t}) :
  wpAny (model X.prog X.w) A (pyReprObj u) Q E s:=by
 cases v with
 | non=>
  cases r
  exact qBu (T:="NoneType") rfl F.slot_NoneType_repr F.entry_NoneType_repr (by unfold argsOk;kernel_rfl) gives_none_repr (q "None" _ (by decide)) (hx:=by decide)
 | str x=>
  obtain⟨t,rfl⟩:=r
  exact qBu (T:="str") rfl PyProof.Rows.slot_str_repr PyProof.Rows.entry_str_repr (PyProof.Rows.args_str_repr _) (gives_str_repr x t) (q _ _ av) (hx:=qAK av (by rw[qAk];omega))
 | int n=>
  obtain⟨t,rfl⟩:=r
  obtain⟨n0,n1⟩:=av
  obtain⟨m,rfl⟩:∃m:Nat,n=(m:Int):=⟨n.toNat,by omega⟩
  have hm:m<100:=by omega
  have hb:(m:Int).natAbs.log2<1920:=by
   rw[Int.natAbs_natCast]
   exact zxy m hm
  exact qBu (T:="int") rfl F.slot_int_repr F.entry_int_repr (F.args_int_repr_1 _) (gives_int_repr (m:Int) t hb) (q _ _ (qAK (zmo m hm) (by decide))) (hx:=qAK (zmo m hm) (by rw[qAk];omega))
 | _=>exact av.elim
theorem zajk{c:Str}{j p a p2 pos te}(ha:PE X a te)(hc:c.length<=1000):PE X (.JoinedStr [.Constant (.str c) j p,.FormattedValue a 114 none p2] pos) (tMsg te):=by
 intro pins s σ H Q I h
 have la:∀x y:Str,(x++y).length=x.length+y.length:=λx y=>by show(x.cps++y.cps).size=x.cps.size+y.cps.size;exact Array.size_append
 have l0:(Str.empty).length=0:=rfl
 have big:(3000:Nat)<=qa:=by rw[qAk];omega
 refine wpAny_JoinedStr ?_
 show wpAny _ _ (eval (.Constant (.str c) j p) X.env) (λv s₁=>∃y t,v=.str y t/\(Str.empty++y).length<=qa/\wpAny _ _ (eval (.FormattedValue a 114 none p2) X.env) (λv s₂=>∃z t,v=.str z t/\((Str.empty++y)++z).length<=qa/\(((Str.empty++y)++z).length<=qa/\_)) _ s₁) _ s
 refine qBw ⟨c,_,rfl,by rw[la,l0];omega,?_⟩
 refine wpAny_FormattedValue_repr (thn (ha pins _ σ H _ (I.tok _) h) λu s1 ⟨v,H1,I1,r,av,q⟩=>zafl (X:=X) r av λm t hm=>?_)
 have lz:((Str.empty++c)++m).length<=qa:=by rw[la,la,l0];omega
 have fin:∀tk,EP X pins σ Q (.str ((Str.empty++c)++m) tk) {s1 with toks:=tk+1}:=λtk=>⟨.str _,H1,I1.tok _,⟨_,rfl⟩,q _⟩
 exact wpAny_formatField_str ⟨m,_,rfl,lz,lz,fin _⟩ ⟨m,_,rfl,lz,lz,fin _⟩ (by omega)
noncomputable def zacr(C:Addr)(t:TA):TE:=λσ H Q=>t σ H λvs H1=>∃e m,vs=[.ref e,m]/\H1 e=some (.ext (xe0 e C))/\Q .non H1
theorem zsp{K:qB}:PySem.W.findCls K (.type "ValueError") (.type "type") "__init__"=some (.val (.builtin "ValueError.__init__")):=by
 first|rfl|decide +kernel|kernel_rfl
theorem zli:bootBuiltins "ValueError"=some (.type "ValueError"):=by decide +kernel
theorem zabg{p p2 pos:Pos}{e:Expr}{es:List Expr}{t:TA}{pl:Sem Bool}(M:XMk X.K C f)(hg:Gl X "ValueError")(hm:X.mg "ValueError"=none)(ha:PA X (e::es) t)
  (hst:starEach (e::es) X.env=(false,eval e X.env)::starEach es X.env:=by rfl)(hpl:(backTo pos (starEach es X.env)).any (·.1)=false:=by rfl)
  (ht:eval (.Call (.Attribute (.Name "ValueError" p) "__init__" p2) (e::es) [] pos) X.env=(do
   let ov <- eval (.Name "ValueError" p) X.env
   standAt p2.atName
   let(f,first) <- holding [ov] (getMethod ov "__init__" pl)
   callWith pos f first (backTo pos (starEach (e::es) X.env)) (backToKw pos (keywordEach [] X.env))):=by rfl) :
  PE X (.Call (.Attribute (.Name "ValueError" p) "__init__" p2) (e::es) [] pos) (zacr C t):=by
 intro pins s σ H Q I h
 refine PySem.W.methodCall_KW (pl:=pl) (zjt I hg hm zli ?_ (by decide) (by decide)) ht
 obtain⟨m,fr⟩:=I.fr
 refine PySem.W.method_type fr I.ok.mod.kin (by kernel_rfl) (by decide +kernel) zsp (by decide +kernel) ?_
 have hA:=ha pos pins _ σ H _ (I.tok (s.toks+1)) h
 rw[hst]at hA ⊢
 refine qBb (by show(false||(backTo pos (starEach es X.env)).any (·.1))=false;rw[hpl]<;>rfl) (qCa ?_)
 refine thn hA λus s2 ⟨vs,H2,I2,r2,e',mv,ev,he,q⟩=>?_
 subst ev
 obtain⟨u1,u2,rfl,r1,r3⟩:=zady r2
 cases r1
 obtain⟨nm,qn,N,bs,bm,sn,sub,ab,col,dd,k0,k1,k2,k3,k5,hC,hbm,_,_⟩:=zlh I2.kIn M.cls M.tail
 obtain⟨⟨vs,sl,oe,h1⟩,_,_⟩:=I2.hok e' _ he
 obtain⟨hh,g,d,tk,os⟩:=s2
 refine zali hbm (by show 1<=qa;rw[qAk];omega) hC oe rfl rfl (Nat.lt_of_succ_lt (qAS.mp h1).1) λh' p' a1 a2=>?_
 refine⟨.non,H2,?_,rfl,q⟩
 have hup:upd H2 e' (.ext (xe0 e' C))=H2:=by
  funext b
  by_cases hb:b=e'
  ·subst hb;rw[zap,he]
  ·rw[zaq hb]
 have:=I2.write (x:=e') (e:=e') (o:=.ext (xe0 e' C)) (h':=h') (t':=tk) (by rw[he];exact True.intro) (.inl rfl) (λb u hb z=>a2 b u hb z) ⟨_,a1⟩ (zxv ⟨_,_,a1,by rw[Array.getElem?_setIfInBounds_ne (by decide)];exact h1⟩)
 rw[hup]at this
 exact this
end
section
variable{X:Cx}{pins:List (Addr×Obj)}{σ:St}{H:Hp}{s:Shared}{C f:Addr}{k:Nat}{fd:qAB}
noncomputable def tSat(C:Addr)(ta tv:TE):TS:=λD σ H=>tv σ H λv H1=>ta σ H1 λx H2=>∃e,x=.ref e/\H2 e=some (.ext (xe0 e C))/\∀dx,H2 dx=none->dx≠e->D.nx σ (upd (upd H2 dx (.xd [("at",v)])) e (.ext (xeD e C dx .none)))
theorem zajl{o value:Expr}{pos' pos:Pos}{ta tv:TE}(M:XMk X.K C f)(ha:PE X o ta)(hv:PE X value tv)(hs:swapsWith value (some (.Attribute o "at" pos')) pos.line X.env=pure false:=by rfl):PS X (.Assign [.Attribute o "at" pos'] value pos) (tSat C ta tv):=by
 intro pins s σ H D I h
 refine plainObj_wpAny_Assign_Attribute (thn (hv pins s σ H _ I h) λu s1 ⟨y,H1,I1,ry,q⟩=>thn (ha pins s1 σ H1 _ I1 q) λov s2 ⟨x,H2,I2,rx,e,ex,he,q2⟩=>?_) hs
 subst ex
 obtain rfl:ov=Value.ref e:=rx
 obtain⟨nm,qn,N,bs,bm,sn,sub,ab,col,dd,k0,k1,k2,k3,k5,hC,hbm,_,_⟩:=zlh I2.kIn M.cls M.tail
 obtain⟨⟨vs,sl,oe,h1⟩,_,_⟩:=I2.hok e _ he
 obtain⟨hh,g,d,tk,os⟩:=s2
 refine zajh hbm hC oe rfl (λc z=>by cases z) rfl (qAe I2.kIn M.sa) (qAe I2.kIn M.at_) λh' tk' dx a1 a2 a3 a4=>?_
 have hdx:H2 dx=none:=I2.hok.fresh a1
 have ne:dx≠e:=λz=>by rw[z,he]at hdx;cases hdx
 refine⟨σ,upd (upd H2 dx (.xd [("at",y)])) e (.ext (xeD e C dx .none)),?_,q2 dx hdx ne⟩
 have n2:∀b,b≠e->b≠dx->upd (upd H2 dx (.xd [("at",y)])) e (.ext (xeD e C dx .none)) b=H2 b:=λb p q=>by rw[zaq p,zaq q]
 have nb:∀b o,H2 b=some o->(∀φ,o≠.ext φ)->b≠e/\b≠dx:=λb o z n=>⟨λy=>(by rw[y,he]at z;cases z;exact n _ rfl),λy=>(by rw[y,hdx]at z;cases z)⟩
 have st:∀b o,H2 b=some o->(∀φ,o≠.ext φ)->upd (upd H2 dx (.xd [("at",y)])) e (.ext (xeD e C dx .none)) b=some o:=λb o z n=>by rw[n2 b (nb b o z n).1 (nb b o z n).2];exact z
 have lt:∀b u,hh.get? b=some u->b≠dx:=λb u z y=>by rw[y]at z;exact absurd (qO z) (Nat.not_lt.mpr a1)
 refine Inv.un (s:=⟨hh,g,d,tk,os⟩) I2 (h':=h') ⟨λb o z n _ _=>a4 b o (λy=>by rw[y,he]at n;cases n) z,λb o z n _ _=>⟨o.slots,a4 b o (λy=>by rw[y,he]at n;cases n) z⟩,λb o z n _=>?_,λb o z _=>?_,λb xs z=>st b _ z (λφ y=>by cases y),λb o u z=>st b _ z (λφ y=>by cases y),λb ps z=>⟨#[],by rw[st b _ z (λφ y=>by cases y)];simp⟩⟩ λb o z=>?_
 ·rw[n2 b (λy=>by rw[y,he]at n;cases n) (lt b o z)];exact n
 ·by_cases hb:b=e
  ·exact⟨_,by rw[hb];exact a3⟩
  ·exact⟨o,a4 b o hb z⟩
 ·by_cases hb:b=e
  ·subst hb
   rw[zap]at z
   cases z
   exact zacq ⟨vs,sl,a3,h1⟩
  ·by_cases hd:b=dx
   ·subst hd
    rw[zaq hb,zap]at z
    cases z
    refine⟨_,a2,λn=>?_⟩
    by_cases hn:n="at"
    ·subst hn
     exact ry
    ·have:List.lookup n [((("at":Str)),y)]=none:=by
      rw[qAV]
      have:(n==("at":Str))=false:=by rw[beq_eq_false_iff_ne];exact hn
      rw[this]
      rfl
     rw[this]
     show RelO none (if n=("at":Str)then _ else _)
     rw[if_neg hn]
     trivial
   ·rw[n2 b hb hd]at z
    refine(I2.hok b o z).stay (λc u hc y=>a4 c u ?_ y) (λc y=>st c _ y (λφ x=>by cases x)) (λc xs y=>st c _ y (λφ x=>by cases x))
    rcases hc with rfl|hc
    ·exact hb
    ·exact λx=>by rw[x,he]at hc;cases hc
noncomputable def tXat(C:Addr)(te:TE):TE:=λσ H Q=>te σ H λx H1=>∃e dx tv v,x=.ref e/\H1 e=some (.ext (xeD e C dx tv))/\H1 dx=some (.xd [("at",v)])/\Q v H1
theorem zajm{o:Expr}{pos:Pos}{te:TE}(M:XMk X.K C f)(ho:PE X o te)(hb:attributeBase o "at" X.env (eval o X.env)=eval o X.env:=by rfl):PE X (.Attribute o "at" pos) (tXat C te):=by
 intro pins s σ H Q I h
 refine zaea hb (thn (ho pins s σ H _ I h) λu s1 ⟨x,H1,I1,rx,e,dx,tv,v,ex,he,hd,q⟩=>?_)
 subst ex
 obtain rfl:u=Value.ref e:=rx
 obtain⟨nm,qn,N,bs,bm,sn,sub,ab,col,dd,k0,k1,k2,k3,k5,hC,hbm,_,_⟩:=zlh I1.kIn M.cls M.tail
 obtain⟨⟨vs,sl,oe,h1⟩,_,_⟩:=I1.hok e _ he
 obtain⟨mA,ns,rl⟩:=I1.hok dx _ hd
 have hv:∃w,mA "at"=some w/\RelV v w:=by
  have:=rl "at"
  rw[show List.lookup ("at":Str) [(("at":Str),v)]=some v from rfl]at this
  cases y:mA "at"with
  | none=>rw[y]at this;exact this.elim
  | some w=>rw[y]at this;exact⟨w,rfl,this⟩
 obtain⟨w,hw,rw'⟩:=hv
 obtain⟨hh,g,d,tk,os⟩:=s1
 refine zalh hbm hC oe rfl rfl rfl ns.ns hw (qAe I1.kIn M.ga) (qAe I1.kIn M.gh) (qAe I1.kIn M.at_) (zvw rw') λtk'=>⟨v,H1,I1.tok _,rw',q⟩
end
noncomputable def zabh(c:Str)(p1 p2 p3 p4 p5 p6 p7 p8 p9 p10 p11 p12 p13:Pos):List Stmt:=
 [.Expr (.Call (.Attribute (.Name "ValueError" p1) "__init__" p2) [.Name "self" p3,.JoinedStr [.Constant (.str c) 0 p4,.FormattedValue (.Name "at" p5) 114 none p6] p7] [] p8) p9,
  .Assign [.Attribute (.Name "self" p10) "at" p11] (.Name "at" p12) p13]
noncomputable def zabi(c:Str)(p1 p2 p3 p4 p5 p6 p7 p8:Pos):Prop:=∀env:Env,∃pl:Sem Bool,eval (.Call (.Attribute (.Name "ValueError" p1) "__init__" p2) [.Name "self" p3,.JoinedStr [.Constant (.str c) 0 p4,.FormattedValue (.Name "at" p5) 114 none p6] p7] [] p8) env=(do
   let ov <- eval (.Name "ValueError" p1) env
   standAt p2.atName
   let(f,first) <- holding [ov] (getMethod ov "__init__" pl)
   callWith p8 f first (backTo p8 (starEach [.Name "self" p3,.JoinedStr [.Constant (.str c) 0 p4,.FormattedValue (.Name "at" p5) 114 none p6] p7] env)) (backToKw p8 (keywordEach [] env)))
theorem zafm{P:Program}{w:World}{K:qB}{mg:Str->Option Value}{base:Heap}{C f:Addr}{qual:Str}{st:Stmt}{fd:qAB}{c:Str}{p1 p2 p3 p4 p5 p6 p7 p8 p9 p10 p11 p12 p13:Pos}(F:Fun K "__init__" qual st f fd)(M:XMk K C f)(hm:mg "ValueError"=none)
  (hb:zbo st=zabh c p1 p2 p3 p4 p5 p6 p7 p8 p9 p10 p11 p12 p13) (hsc:zak st={kind:=.function,names:=[("self",.local),("at",.local),("ValueError",.globalImplicit)],isGenerator:=false,isCoroutine:=false}) (hc:c.length<=1000) (ht:zabi c p1 p2 p3 p4 p5 p6 p7 p8) :
  FnOk P w K mg base CX0 1 f fd ["self","at"] (spI C):=by
 have nd:(["self","at"]:List Str).Nodup:=by decide +kernel
 have S:FnScope ["self","at"] ["self","at"] (zak st):=by rw[hsc];exact⟨rfl,rfl,rfl,nd,rfl,by decide +kernel,by decide +kernel⟩
 refine F.ok S (λvs H Q E h=>by obtain⟨e,v,rfl,_⟩:=h;rfl) λcdv A outer s H vs Q E hr h=>?_
 obtain⟨e,v,rfl,he,av,q⟩:=h
 have g0:visB (cxOf CX0 P w K mg base ["self","at"] qual (zak st) f cdv A outer s H E).nox.env.scope "self"=true:=by show visB (zak st) _=_;rw[hsc];decide +kernel
 have g1:visB (cxOf CX0 P w K mg base ["self","at"] qual (zak st) f cdv A outer s H E).nox.env.scope "at"=true:=by show visB (zak st) _=_;rw[hsc];decide +kernel
 have g2:Gl (cxOf CX0 P w K mg base ["self","at"] qual (zak st) f cdv A outer s H E).nox "ValueError":=by show(zak st).names.lookup _=_;rw[hsc];decide +kernel
 have e0:∀{p:Pos},PE (cxOf CX0 P w K mg base ["self","at"] qual (zak st) f cdv A outer s H E).nox (.Name "self" p) (tVar 0):=λ{p}=>pv 0 rfl g0
 have e1:∀{p:Pos},PE (cxOf CX0 P w K mg base ["self","at"] qual (zak st) f cdv A outer s H E).nox (.Name "at" p) (tVar 1):=λ{p}=>pv 1 rfl g1
 refine⟨tSeq (tDrop (zacr C (tCons (tVar 0) (tCons (tMsg (tVar 1)) tNil)))) (tSat C (tVar 0) (tVar 1)),?_,?_⟩
 ·rw[hb]
  obtain⟨pl,ht⟩:=ht (cxOf CX0 P w K mg base ["self","at"] qual (zak st) f cdv A outer s H E).nox.env
  exact zhb (zmy (zabg (f:=f) (pl:=pl) M g2 hm (zge e0 (zge (zajk e1 hc) zju)) rfl rfl ht)) (zhy (zajl M e0 e1))
 ·exact⟨_,rfl,v,rfl,av,λm=>⟨e,_,rfl,he,v,rfl,_,rfl,e,rfl,he,q⟩⟩
noncomputable def atD:PyData->Bool
 | .none=>true
 | .str x=>decide ((PySem.reprText x).length<=1000)
 | .int n=>decide (0<=n/\n<100)
 | _=>false
theorem ztl{d:PyData}(h:atD d=true):zci d=true:=by cases d<;>first|rfl|cases h
theorem zalj{H:Hp}{d:PyData}{v:V}(h:atD d=true)(r:Rp H d v):atV v:=by
 cases d with
 | none=>rw[zkr r];trivial
 | str x=>rw[zdl r];show(PySem.reprText x).length<=1000;exact of_decide_eq_true h
 | int n=>rw[zbz r];show 0<=n/\n<100;exact of_decide_eq_true h
 | _=>cases h
noncomputable def RX(H0:Hp)(C:Addr)(d:PyData):XK:=λc od H'=>c=.ref C/\Same H0 H'/\zci d=true/\∃dx v,od=some dx/\H' dx=some (.xd [("at",v)])/\Rp H' d v
theorem RX.base{H0 H1:Hp}{C:Addr}{d:PyData}(s:Same H0 H1){c:Value}{od:Option Addr}{H':Hp}(h:RX H1 C d c od H'):RX H0 C d c od H':=
 let⟨a,b,r⟩:=h;⟨a,s.trans b,r⟩
theorem RX.stx{H0:Hp}{C:Addr}{d:PyData}{E:XK}(h:∀c od H',RX H0 C d c od H'->E c od H'){c:Value}{od:Option Addr}{H':Hp}(q:RX H0 C d c od H'):StX H0 E c od H':=by
 intro H3 r1 r2
 obtain⟨a,b,f,dx,v,e1,e2,e3⟩:=q
 exact h _ _ _ ⟨a,λx o z=>r1 x o z (b x o z),f,dx,v,e1,r2 _ _ e2 (λφ z=>by cases z),zfw f e3⟩
inductive OutX where
 | ok (o:Out)
 | rx (c:Str) (d:PyData)
noncomputable def SatX(cl:Str->Addr)(fx:Addr->Prop)(H0:Hp)(D:Ends)(E:XK):OutX->Prop
 | .ok o=>Sat fx H0 D o
 | .rx c d=>∀k od H',RX H0 (cl c) d k od H'->E k od H'
noncomputable abbrev SFX:=DEnv->Option OutX
noncomputable def SSx(cl:Str->Addr)(ts:XK->TS)(F:SFX):Prop:=∀(fx:Addr->Prop)(H0:Hp)(env:DEnv)(σ:St)(H:Hp)(D:Ends)(E:XK),EnvOk fx H0 env σ H->∀o,F env=some o->SatX cl fx H0 D E o->ts E D σ H
section
variable{cl:Str->Addr}
noncomputable def xOf(f:SF):SFX:=λenv=>(f env).map .ok
theorem zpt{t:TS}{f:SF}(h:SS t f):SSx cl (λ_=>t) (xOf f):=by
 intro fx H0 env σ H D E hE o e q
 obtain⟨o',e',rfl⟩:=qG.mp e
 exact h fx H0 env σ H D hE o' e' q
noncomputable def xSeq(f g:SFX):SFX:=λenv=>(f env).bind λo=>match o with
 | .ok (.nx env')=>g env'
 | o=>some o
theorem znu{t u:XK->TS}{f g:SFX}(h1:SSx cl t f)(h2:SSx cl u g):SSx cl (λE=>tSeq (t E) (u E)) (xSeq f g):=by
 intro fx H0 env σ H D E hE o e q
 obtain⟨o1,e1,e⟩:=qA.mp e
 refine h1 fx H0 env σ H _ E hE o1 e1 ?_
 cases o1 with
 | rx c d=>cases e;exact q
 | ok o1=>
  cases o1 with
  | nx env'=>exact λσ' H' h'=>h2 fx H0 env' σ' H' D E h' o e q
  | bk env'=>cases e;exact q
  | ct env'=>cases e;exact q
  | rt d fr=>cases e;exact q
noncomputable def xIf(c:TF)(f g:SFX):SFX:=λenv=>(c env).bind λb=>if b=true then f env else g env
theorem zacs{tc:TT}{t u:XK->TS}{c:TF}{f g:SFX}(hc:ST tc c)(h1:SSx cl t f)(h2:SSx cl u g):SSx cl (λE=>tIfS tc (t E) (u E)) (xIf c f g):=by
 intro fx H0 env σ H D E h o e q
 obtain⟨b,eb,e⟩:=qA.mp e
 refine hc fx H0 env σ H h b eb _ λH' s=>?_
 cases b with
 | true=>exact iteT (h1 fx H0 env σ H' D E (h.up s) o e q)
 | false=>exact iteF (h2 fx H0 env σ H' D E (h.up s) o e q)
noncomputable def zmp(c:Str)(f:EF):SFX:=λenv=>(f env).bind λr=>if atD r.d=true then some (.rx c r.d)else none
theorem zpu{c:Str}{te:TE}{f:EF}(h1:SE te f):SSx cl (λE=>zxx (cl c) E te) (zmp c f):=by
 intro fx H0 env σ H D E h o e q
 obtain⟨r,er,e⟩:=qA.mp e
 split at e
 ·rename_i ha
  cases e
  refine h1 fx H0 env σ H h r er _ λv H' s hv=>⟨zalj ha hv.rp,λH2 dx s2 hd=>q _ _ _ ⟨rfl,(h.base.trans s).trans s2,ztl ha,dx,v,rfl,hd,zfw (ztl ha) hv.rp⟩⟩
 ·cases e
noncomputable def zuz(g:GT)(body:SFX):List PyData->DEnv->Option OutX
 | [],env=>some (.ok (.nx env))
 | d::ds,env=>(g d env).bind λe1=>(body e1).bind λo=>match o with
  | .ok (.nx e2)=>zuz g body ds e2
  | .ok (.ct e2)=>zuz g body ds e2
  | .ok (.bk e2)=>some (.ok (.nx e2))
  | .ok (.rt d fr)=>some (.ok (.rt d fr))
  | .rx c d=>some (.rx c d)
noncomputable def xFor(f:IF')(g:GT)(body:SFX):SFX:=λenv=>(f env).bind λz=>zuz g body z.1 (frzs env z.2)
theorem zafn{wi:TI}{g:TG}{tb:XK->TS}{f:IF'}{gf:GT}{body:SFX}(h1:SI wi f)(h2:SG g gf)(h3:SSx cl tb body):SSx cl (λE=>tFor wi g (tb E)) (xFor f gf body):=by
 intro fx H0 env σ H D E h o e q
 obtain⟨⟨ds,bs⟩,er,e⟩:=qA.mp e
 refine h1 fx H0 env σ H h ds bs er _ λJ H1 s yl=>?_
 have hE:=(h.up s).frzs bs
 have fl:=hE.floor
 refine⟨λi m σ' H'=>m=ds.length - i/\i<=ds.length/\∃env',zuz gf body (ds.drop i) env'=some o/\EnvOk fx (Offs (own (frzs env bs) σ) H1) env' σ' H',⟨ds.length,rfl,qAR _,_,e,hE.rebase⟩,?_⟩
 rintro i m σ' H' ⟨rfl,hi,env',e',h'⟩
 obtain⟨yi,ys⟩:=yl _ H' h'.all h'.seen
 by_cases hlt:i<ds.length
 ·obtain⟨yg,yy⟩:=yi i ds[i] (qF hlt)
  refine .inr ⟨yg,λσ'' H''=>i+1<=ds.length/\∃env'',zuz gf body (ds.drop (i+1)) env''=some o/\EnvOk fx (Offs (own (frzs env bs) σ) H1) env'' σ'' H'',?_,?_⟩
  ·rintro σ'' H'' ⟨hle,env'',e'',h''⟩
   exact⟨ds.length - (i+1),by omega,rfl,hle,env'',e'',h''⟩
  ·intro x H'' hy
   obtain⟨sy,ry⟩:=yy x H'' hy
   rw[qAD hlt]at e'
   obtain⟨e1,ee1,e'⟩:=qA.mp e'
   obtain⟨o1,eo1,e'⟩:=qA.mp e'
   refine h2 fx _ env' σ' H'' _ x (h'.up sy) ry e1 ee1 _ λσ2 h2'=>h3 fx _ e1 σ2 H'' _ E h2' o1 eo1 ?_
   cases o1 with
   | rx c d=>cases e';exact λk od H3 r=>q k od H3 (r.base fl)
   | ok o1=>
    cases o1 with
    | nx e2=>exact λσ3 H3 hh=>⟨hlt,e2,e',hh⟩
    | ct e2=>exact λσ3 H3 hh=>⟨hlt,e2,e',hh⟩
    | bk e2=>cases e';exact λσ3 H3 hh=>q σ3 H3 (hh.unbase fl)
    | rt d fr=>cases e';exact λv H3 sh rt=>q v H3 (fl.trans sh) (rt.unbase fl)
 ·have hi':i=ds.length:=by omega
  subst hi'
  rw[qBa]at e'
  cases e'
  exact .inl ⟨ys,q σ' H' (h'.unbase fl)⟩
inductive ResX where
 | ok (d:PyData) (fr:Bool)
 | rx (c:Str) (d:PyData)
noncomputable abbrev GFX:=List PyData->Option ResX
noncomputable def zalk(cl:Str->Addr)(fx:Addr->Prop)(H:Hp)(Q:VK)(E:XK):ResX->Prop
 | .ok d fr=>∀v H',Same H H'->zsd fx H d fr v H'->Q v H'
 | .rx c d=>∀k od H',RX H (cl c) d k od H'->E k od H'
noncomputable def spX(cl:Str->Addr)(n:Nat)(g:GFX):Sp:=λvs H Q E=>∃(fx:Addr->Prop)(ds:List PyData)(r:ResX),ds.length=n/\(∀b,fx b->∃o,H b=some o)/\Rps (Offs fx H) ds vs/\g ds=some r/\zalk cl fx H Q E r
theorem zafo{n:Nat}{g:GFX}{vs:List V}{H:Hp}{Q:VK}{E:XK}(h:spX cl n g vs H Q E):vs.length=n:=by
 obtain⟨fx,ds,r,hn,hf,rr,_⟩:=h
 rw[<- rr.length];exact hn
noncomputable def fnX(n:Nat)(f:SFX):GFX:=λds=>match f (zgn n ds)with
 | some (.ok (.rt d fr))=>some (.ok d fr)
 | some (.ok (.nx _))=>some (.ok .none false)
 | some (.rx c d)=>some (.rx c d)
 | _=>none
theorem fn_x{N:List Str}{n:Nat}{f:SFX}{t:XK->TS}(hs:SSx cl t f){vs:List V}{H:Hp}{Q:VK}{E:XK}(h:spX cl n (fnX N.length f) vs H Q E):t (StX H E) {nx:=λ_ H'=>Q .non H',rt:=Q} (start N vs) H:=by
 obtain⟨fx,ds,r,hn,hf,rr,g,k⟩:=h
 unfold fnX at g
 split at g
 ·rename_i d' fr' eo
  cases g
  exact hs fx H _ _ H _ _ (zfl hf rr) _ eo λv H' s rt=>k v H' s rt
 ·rename_i e' eo
  cases g
  exact hs fx H _ _ H _ _ (zfl hf rr) _ eo λσ H' hE=>k .non H' hE.base ⟨zji,λz=>by cases z⟩
 ·rename_i c d eo
  cases g
  exact hs fx H _ _ H _ _ (zfl hf rr) _ eo λk' od H' q=>RX.stx k q
 ·cases g
end
noncomputable abbrev Cx.hold(X:Cx)(e:Addr):Cx:={X with A:=X.A.mark (some (.ref e)),calm:=false,xe:=λ_ _=>False}
section
variable{X:Cx}{pins:List (Addr×Obj)}{σ:St}{H:Hp}{s:Shared}
theorem Inv.hold(I:Inv X pins σ H s)(e:Addr):Inv (X.hold e) pins σ H s:=
 ⟨⟨I.ok.mod,I.ok.kind,I.ok.glob,I.ok.blt,I.ok.above,I.ok.inj,I.ok.has,I.ok.cab,(λz=>by cases z),I.ok.frames,I.ok.stk,I.ok.exf,I.ok.bs,I.ok.bsz,I.ok.noex,I.ok.exfs,I.ok.funs,I.ok.frf⟩,I.os,I.bare,I.base,I.loc,I.cell,I.free,I.freeC,I.pin,I.hok,I.len⟩
theorem Inv.unhold{e:Addr}(ok:X.Ok)(I:Inv (X.hold e) pins σ H s):Inv X pins σ H s:=
 ⟨ok,I.os,I.bare,I.base,I.loc,I.cell,I.free,I.freeC,I.pin,I.hok,I.len⟩
theorem zafp{A:Around}{E:Value->Shared->Prop}{n:Str}{pos:Pos}{j:Nat}{Q:Unit->Shared->Prop}(I:Inv X pins σ H s)(hN:X.N.Nodup)(hj:X.N[j]?=some n)(hl:X.env.scope.names.lookup n=some .local)
  (h:∀s',Inv X pins (σ.set j none) H s'->Q () s'):wpAny (model X.prog X.w) A (do bindName X.env n .none;unbindBehindTheSuite X.env n pos) Q E s:=by
 obtain⟨m,hn,hlk⟩:=id I.loc
 have hcls:(X.env.scope.kind==.class||(X.env.scope.kind==.module&&X.env.locals != X.env.globals))=false:=by rw[I.ok.kind];rfl
 refine wpAny_nameGoes_keeps hl hn hcls λh' v ns sb=>h _ ?_
 have lo:∀b ob,X.s₀.heap.get? b=some ob->h'.get? b=s.heap.get? b:=λb ob e=>sb.2 b (qx (qe (qO e) I.ok.above))
 have cne:=I.cne
 refine⟨I.ok,I.os,I.bare,⟨λb o e n hb hx=>(lo b o e).trans (I.base.keep b o e n hb hx),λb o e n hb hx=>?_,I.base.free,λb o e hx=>?_,I.base.tups,I.base.frzs,I.base.tbls⟩,⟨_,ns,λk y v' e1 e2 e3=>?_⟩,λy c e=>?_,I.free,I.freeC,λp hp=>?_,λb ob e=>?_,by simpa using I.len⟩
 ·obtain⟨sl,e1⟩:=I.base.slot b o e n hb hx
  exact⟨sl,(lo b o e).trans e1⟩
 ·obtain⟨o',e1⟩:=I.base.there b o e hx
  exact⟨o',(lo b o e).trans e1⟩
 ·by_cases hk:k=j
  ·subst hk
   rw[qd (by have:=(qI.mp hj).1;rw[I.len];exact this)]at e2
   cases e2
  ·rw[qJ (qAm hk)]at e2
   obtain⟨u',r',q⟩:=hlk k y v' e1 e2 e3
   refine⟨u',r',?_⟩
   rcases q with⟨z,e⟩|⟨z,c,e,y'⟩
   ·refine .inl ⟨z,?_⟩
    have:y≠n:=λe=>hk (zmx hN e1 (e▸hj))
    simp[this,e]
   ·exact .inr ⟨z,c,e,y'.sameBut sb (cne y c e)⟩
 ·obtain⟨w',z⟩:=I.cell y c e
  exact⟨w',z.sameBut sb (cne y c e)⟩
 ·obtain⟨e,n,ne,nf,d⟩:=I.pin p hp
  exact⟨(sb.2 p.1 ne).trans e,n,ne,nf,d⟩
 ·refine(I.hok b ob e).stay (λc w' hc q=>(sb.2 c ?_).trans q) (λ_ q=>q) λ_ _ q=>q
  rintro rfl
  rcases hc with hc|hc
  ·rw[<- hc,I.free]at e;cases e
  ·rw[I.free]at hc;cases hc
end
end L2
namespace PySem
open Sem (wp)
open Builtin Builtin.ObjectAttr
end PySem
namespace L2
open PySem PySem.Spec PyProof.Rows
noncomputable def DnX(P:Program)(w:World)(K:qB)(mg:Str->Option Value)(base:Heap)(x:Str)(ps:List Str)(k:Nat)(sp:Sp):Prop:=
 ∃f fd,FnOk P w K mg base (CXE P w) k f fd ps sp/\mg x=some (.ref f)/\qm K (.ref f)=true/\zjf K fd ps []
section
variable{X:Cx}
noncomputable def XcOk(P:Program)(w:World)(K:qB)(mg:Str->Option Value)(base:Heap)(x:Str)(C:Addr):Prop:=
 ∃f fd,XMk K C f/\FnOk P w K mg base CX0 1 f fd ["self","at"] (spI C)/\zjf K fd ["self","at"] []/\mg x=some (.ref C)/\PySem.W.findIn K (.ref C) "__class__"=some (some (.builtin "object.__class__"))/\PySem.W.exmOne K (.ref C) (.ref C)=some true
theorem zpv{E:XK}{C:Addr}{x:Str}{np cpos pos:Pos}{a:Expr}{te:TE}(M:XcOk X.prog X.w X.K X.mg X.base x C)(hr:Room 2 X.A)(hex:X.ex=[])(hc:X.calm=true)(hx:Lvs X E)(hg:Gl X x)(ha:Bx (PE X a te))
  (hdb:(x==("__debug__":Str))=false) (he:starEach [a] X.env=[(false,eval a X.env)]):Bx (PS X (.Raise (some (.Call (.Name x np) [a] [] cpos)) none pos) (zxx C E te)):=by
 obtain⟨f,fd,M,F,hb,hm,_⟩:=M
 exact⟨zabf M F hr hb hex hc hx hg hm ha.out hdb he⟩
end
theorem zact{P:Program}{w:World}{K:qB}{mg:Str->Option Value}{base:Heap}{N:List Str}{qual:Str}{scope:Scope}{f:Addr}{cd:Value}{A:Around}{outer:List Env}{s:Shared}{H:Hp}{E:XK}(h0k:HOk P w H s.heap) :
  Lvs (cxOf (CXE P w) P w K mg base N qual scope f cd A outer s H E) (StX H E):=λpins σ H1 s1 e C dx I F q=>zaji I h0k F q
section
variable{X:Cx}{pins:List (Addr×Obj)}{σ:St}{H:Hp}{s:Shared}
theorem SP.unhold{e:Addr}{D:Ends}{f:Flow}(ok:X.Ok)(h:SP (X.hold e) pins D f s):SP X pins D f s:=by
 cases f with
 | next=>obtain⟨σ',H',I,q⟩:=h;exact⟨σ',H',Inv.unhold ok I,q⟩
 | brk=>obtain⟨σ',H',I,q⟩:=h;exact⟨σ',H',Inv.unhold ok I,q⟩
 | cont=>obtain⟨σ',H',I,q⟩:=h;exact⟨σ',H',Inv.unhold ok I,q⟩
 | ret u=>obtain⟨v,σ',H',I,r,q⟩:=h;exact⟨v,σ',H',Inv.unhold ok I,r,q⟩
noncomputable def zafq(C:Addr)(sp:Sp)(t:TA)(ts:TS):TS:=λD σ H=>t σ H λvs H1=>sp vs H1 (λ_ H2=>D.nx σ H2) λc od H2=>c=.ref C/\∃dx,od=some dx/\
 ∀e H3,(∀b o,H1 b=some o->H2 b=some o->H3 b=some o)->zxu H2 H3->(∃tv,H3 e=some (.ext (xeD e C dx tv)))->ts D σ H3
theorem zafr{C f:Addr}{k:Nat}{fd:qAB}{ps:List Str}{sp:Sp}{fn cn:Str}{p cpos pos epos hpos cp:Pos}{a:Expr}{as:List Expr}{st0:Stmt}{suite:List Stmt}{t:TA}{ts:TS}
  (F:FnOk X.prog X.w X.K X.mg X.base (CXE X.prog X.w) k f fd ps sp)(hr:Room k X.A)(hg:Gl X fn)(hm:X.mg fn=some (.ref f))(hk:qm X.K (.ref f)=true)(hb:zjf X.K fd ps [])(ha:PA X.nox (a::as) t)
  (hst:X.stack=X.env::X.outer)(hfr:X.env.frame=some X.env.locals)(hgc:Gl X cn)(hmc:X.mg cn=some (.ref C))(hex:PySem.W.exmOne X.K (.ref C) (.ref C)=some true)(hs:∀e,PSs (X.hold e) (st0::suite) ts)
  (hdb:(fn==("__debug__":Str))=false:=by decide)(hdc:(cn==("__debug__":Str))=false:=by decide)(he:starEach (a::as) X.env=(false,eval a X.env)::starEach as X.env:=by rfl)(hpl:(backTo cpos (starEach as X.env)).any (·.1)=false:=by rfl)
  (hsw:swapsWith (.Call (.Name fn p) (a::as) [] cpos) none epos.line X.env=pure false:=by rfl) :
  PS X (.Try [.Expr (.Call (.Name fn p) (a::as) [] cpos) epos] [.ExceptHandler (some (.Name cn cp)) none (st0::suite) hpos] [] [] pos) (zafq C sp t ts):=by
 intro pins s σ H D I h
 refine qCN ?_
 refine qBJ (qCb (qAT (zgd I hg hm ?_ hdb)) I.quiet hsw)
 refine qAy (h₀:=X.base) I.ok.mod.kin hk (qAu (ha cpos pins s σ H _ (I.wish _) h) (λus s1 ⟨vs,H1,I1,r,q⟩=>⟨I1.kIn,?_⟩) λ_ _ z=>z.elim) he hpl
 have I1:Inv X pins σ H1 s1:=I1.unwish
 have hl:us.length=ps.length:=by rw[<- r.length];exact F.len _ _ _ _ q
 refine qBN (qAj (F.run X.A X.stack s1 H1 ⟨us,[]⟩ us vs _ _ hr I1.env0 (by have:=hb s1 us I1.kIn (by rw[qw];exact hl);rw[qw]at this;exact this) r q) λres s' hq=>?_)
 cases res with
 | ok fl=>
  cases fl with
  | ret u=>
   obtain⟨v,H2,I2,rv,q2⟩:=I1.after hq
   exact qAa (qAa ⟨_,H2,I2,q2⟩)
  | next=>exact False.elim hq
  | brk=>exact False.elim hq
  | cont=>exact False.elim hq
 | error ev=>
  obtain⟨e,C',dx,H2,rfl,os,bare,un,ok,fl,stx⟩:=hq
  have I2:=I1.call' (s':=s') os un ok bare (λb z=>absurd z (by simp))
  refine zlg I2 hst hfr (λb ob z=>un.there b ob z (by simp)) fl λs3 H3 I3 ⟨T,hT1,hT2,hT3,hT4⟩ ho hkx hz3=>?_
  obtain⟨eC,dx',edx,sq⟩:=stx H3 (λb o z1 z2=>ho b o _ (I1.hok b o z1).there.choose_spec z2) hkx
  cases eC
  cases edx
  obtain⟨⟨vs',sl,oe,h1⟩,_,_⟩:=I3.hok e _ hT1
  have tb:=(I3.hok T _ hT4).1
  have J3:=I3.hold e
  refine wpAny_handleBy_cons (codeAny_handlers_test (zgd J3 hgc hmc ?_ hdc)) (by intro z;cases z)
  have LT:PySem.W.Looks (model X.prog X.w) s3.heap (typeOf (.ref e)) (.ref C):=(qCI oe).andThen .now
  refine(PySem.W.exm_one (I3.kIn) LT hex).here ?_
  show codeAny _ _ _ _ _
  refine codeAny_handlers_suite (zps oe rfl h1 tb λh' kp tb'=>?_)
  have hup:upd H3 T (.ext λh=>h.Tb T)=H3:=by
   funext b
   by_cases hb:b=T
   ·subst hb;rw[zap,hT4]
   ·rw[zaq hb]
  have J4:Inv (X.hold e) pins σ H3 {s3 with heap:=h'}:=by
   have:=J3.write (x:=T) (e:=T) (o:=.ext λh=>h.Tb T) (h':=h') (t':=s3.toks) (by rw[hT4];exact True.intro) (.inl rfl) (λb u hb z=>kp b u hb z) (let⟨oT,_,z,_⟩:=tb';⟨oT,z⟩) (ztk tb')
   rw[hup]at this
   exact this
  exact qAu (hs e pins _ σ H3 D J4 (sq e H3 (λ_ _ _ z=>z) (λ_ _ z _=>z) ⟨_,hT1⟩)) (λfl s6 q6=>SP.unhold I.ok q6) λ_ _ z=>z.elim
end
theorem EnvOk.kill{fx:Addr->Prop}{H0:Hp}{env:DEnv}{σ:St}{H:Hp}(h:EnvOk fx H0 env σ H)(x:Nat)(w:Option V):EnvOk fx H0 (env.set x .no) (σ.set x w) H:=by
 have get:∀{i:Nat}{s:Sl},(env.set x .no)[i]?=some s->s≠.no->i≠x/\env[i]?=some s:=λ{i s} e ns=>by
  rcases zbc e with⟨_,z⟩|⟨ne,e⟩
  ·exact absurd z ns
  ·exact⟨ne,e⟩
 have kept:∀{i:Nat},i≠x->(σ.set x w)[i]?=σ[i]?:=λ{i} ne=>qJ (qAm ne)
 have ow:∀b,own (env.set x .no) (σ.set x w) b->own env σ b:=λb ⟨i,d,h1,h2⟩=>by
  obtain⟨ne,e⟩:=get h1 (by simp)
  rw[kept ne]at h2
  exact⟨i,d,e,h2⟩
 have so:Same (Offs (λa=>fx a\/own env σ a) H) (Offs (λa=>fx a\/own (env.set x .no) (σ.set x w) a) H):=Offs.sub λb z=>z.imp id (ow b)
 refine⟨by rw[qN,qN];exact h.len,λi d e=>?_,λi d e=>?_,λi j d e a h1 h2 h3 h4=>?_,h.base,h.fxs⟩
 ·obtain⟨ne,e⟩:=get e (by simp)
  obtain⟨v,h1,h2⟩:=h.pl i d e
  exact⟨v,by rw[kept ne];exact h1,Rp.same so d h2⟩
 ·obtain⟨ne,e⟩:=get e (by simp)
  obtain⟨a,h1,h2,h3,h4⟩:=h.ac i d e
  exact⟨a,by rw[kept ne];exact h1,h2,h3,h4.same so λ_ z=>z⟩
 ·obtain⟨n1,h1⟩:=get h1 (by simp)
  obtain⟨n2,h2⟩:=get h2 (by simp)
  rw[kept n1]at h3
  rw[kept n2]at h4
  exact h.inj i j d e a h1 h2 h3 h4
theorem EnvOk.notOwn{fx:Addr->Prop}{H0:Hp}{env:DEnv}{σ:St}{H:Hp}(h:EnvOk fx H0 env σ H){b:Addr}(f:fx b):¬own env σ b:=by
 rintro⟨i,d,h1,h2⟩
 obtain⟨c,g1,_,g3,_⟩:=h.ac i d h1
 rw[h2]at g1
 cases g1
 exact g3 f
inductive SV where
 | dt (d:PyData)
 | lo (n:Nat)
inductive SN where
 | ls (xs:List SV)
 | tp (xs:List SV)
structure SyT where
 sl:List (Option SV)
 hp:List SN
noncomputable def SVr(Ho:Hp)(as:List Addr):SV->V->Prop
 | .dt d,v=>Rp Ho d v
 | .lo n,v=>∃a,as[n]?=some a/\v=.ref a
theorem SVr.same{Ho Ho':Hp}{as:List Addr}(s:Same Ho Ho'):∀{x:SV}{v:V},SVr Ho as x v->SVr Ho' as x v
 | .dt d,_,h=>Rp.same s d h
 | .lo _,_,h=>h
theorem SVr.ext{Ho:Hp}{as bs:List Addr}:∀{x:SV}{v:V},SVr Ho as x v->SVr Ho (as++bs) x v
 | .dt _,_,h=>h
 | .lo n,_,⟨a,h1,h2⟩=>⟨a,by rw[qW (qI.mp h1).1];exact h1,h2⟩
noncomputable def SNr(Ho H:Hp)(as:List Addr):SN->Addr->Prop
 | .ls xs,a=>∃vs,H a=some (.lst vs)/\Paired (SVr Ho as) xs vs
 | .tp xs,a=>∃vs,H a=some (.tup vs)/\Paired (SVr Ho as) xs vs
theorem SNr.mono{Ho Ho' H H':Hp}{as bs:List Addr}{s:SN}{a:Addr}(h:SNr Ho H as s a)(e:∀o,H a=some o->H' a=some o)(f:∀x v,SVr Ho as x v->SVr Ho' bs x v):SNr Ho' H' bs s a:=by
 cases s with
 | ls xs=>obtain⟨vs,h1,h2⟩:=h;exact⟨vs,e _ h1,Paired.mapP h2 f⟩
 | tp xs=>obtain⟨vs,h1,h2⟩:=h;exact⟨vs,e _ h1,Paired.mapP h2 f⟩
structure SymOk(fx:Addr->Prop)(as:List Addr)(H0:Hp)(env:DEnv)(σ:St)(H:Hp)(st:SyT):Prop where
 ok:EnvOk fx H0 env σ H
 nd:as.Nodup
 len:as.length=st.hp.length
 off:∀a∈as,fx a
 low:∀a∈as,H0 a=none
 nod:∀(n:Nat)(s:SN)(a:Addr),st.hp[n]?=some s->as[n]?=some a->SNr (Offs (λb=>fx b\/own env σ b) H) H as s a
 sl:∀(i:Nat)(x:SV),st.sl[i]?=some (some x)->env[i]?=some .no/\∃v,σ[i]?=some (some v)/\SVr (Offs (λb=>fx b\/own env σ b) H) as x v
noncomputable def HasF(H0:Hp)(env:DEnv)(σ:St)(H:Hp)(st:SyT):Prop:=∃fx as,SymOk fx as H0 env σ H st
section
variable{fx:Addr->Prop}{as:List Addr}{H0:Hp}{env:DEnv}{σ:St}{H H':Hp}{st:SyT}
theorem SymOk.up(h:SymOk fx as H0 env σ H st)(s:Same H H'):SymOk fx as H0 env σ H' st:=
 ⟨h.ok.up s,h.nd,h.len,h.off,h.low,λn x a e1 e2=>(h.nod n x a e1 e2).mono (λo z=>s a o z) λ_ _ z=>z.same (Offs.grow s),λi x e=>let⟨h1,v,h2,h3⟩:=h.sl i x e;⟨h1,v,h2,h3.same (Offs.grow s)⟩⟩
theorem HasF.up(h:HasF H0 env σ H st)(s:Same H H'):HasF H0 env σ H' st:=let⟨fx,as,k⟩:=h;⟨fx,as,k.up s⟩
theorem HasF.start(h:EnvOk fx H0 env σ H):HasF H0 env σ H ⟨[],[]⟩:=
 ⟨fx,[],h,.nil,rfl,λ_ z=>by(cases z),λ_ z=>by(cases z),λn s a e=>by(cases e),λi x e=>by(cases e)⟩
noncomputable def mapO{α β:Type}(f:α->Option β):List α->Option (List β)
 | []=>some []
 | x::xs=>(f x).bind λy=>(mapO f xs).map λys=>y::ys
noncomputable def rdV(hp:List SN):Nat->SV->Option PyData
 | _,.dt d=>some d
 | 0,.lo _=>none
 | k+1,.lo n=>match hp[n]? with
  | some (.ls xs)=>(mapO (rdV hp k) xs).map .list
  | some (.tp xs)=>(mapO (rdV hp k) xs).map .tuple
  | none=>none
theorem znv{f:SV->Option PyData}{F:SV->V->Prop}{G:Hp}(hf:∀x v d,F x v->f x=some d->Rp G d v):∀{xs:List SV}{vs:List V}{ds:List PyData},Paired F xs vs->mapO f xs=some ds->Rps G ds vs
 | _,_,ds,.nil,e=>by cases e;exact zdd
 | _,_,ds,.cons r t,e=>by
  obtain⟨d,e1,e⟩:=qA.mp e
  obtain⟨ds',e2,rfl⟩:=qG.mp e
  exact zde (hf _ _ _ r e1) (znv hf t e2)
theorem SymOk.rd(h:SymOk fx as H0 env σ H st):∀(k:Nat)(x:SV)(v:V)(d:PyData),SVr (Offs (λb=>fx b\/own env σ b) H) as x v->rdV st.hp k x=some d->Rp (Offs (own env σ) H) d v
 | k,.dt d,v,d',r,e=>by
  have e:some d=some d':=by cases k<;>exact e
  cases e
  exact Rp.same (Offs.sub λb z=>.inr z) d r
 | 0,.lo n,v,d,r,e=>by cases e
 | k+1,.lo n,v,d,⟨a,h1,h2⟩,e=>by
  subst h2
  have no:¬own env σ a:=h.ok.notOwn (h.off a (qS h1))
  have ih:=h.rd k
  unfold rdV at e
  split at e
  ·rename_i xs en
   obtain⟨ds,e1,rfl⟩:=qG.mp e
   obtain⟨vs,g1,g2⟩:=h.nod n _ a en h1
   exact zff (by rw[Offs.get no];exact g1) (znv ih g2 e1)
  ·rename_i xs en
   obtain⟨ds,e1,rfl⟩:=qG.mp e
   obtain⟨vs,g1,g2⟩:=h.nod n _ a en h1
   exact zks (by rw[Offs.get no];exact g1) (znv ih g2 e1)
  ·cases e
noncomputable def shS(hp:List SN)(s:Sl):Option SV->Sl
 | some x=>match rdV hp 9 x with
  | some d=>.pl d
  | none=>.no
 | none=>s
noncomputable def zdi(hp:List SN):DEnv->List (Option SV)->DEnv
 | [],_=>[]
 | s::env,[]=>s::env
 | s::env,o::sl=>shS hp s o::zdi hp env sl
theorem zpw{hp:List SN}:∀(env:DEnv)(sl:List (Option SV)),(zdi hp env sl).length=env.length
 | [],_=>rfl
 | s::env,[]=>rfl
 | s::env,o::sl=>by show(zdi hp env sl).length+1=_;rw[zpw env sl];rfl
theorem ziv{hp:List SN}:∀{env:DEnv}{sl:List (Option SV)}{i:Nat}{t:Sl},(zdi hp env sl)[i]?=some t->(∃x d,sl[i]?=some (some x)/\rdV hp 9 x=some d/\t=.pl d)\/env[i]?=some t\/t=.no
 | [],_,i,t,e=>by cases e
 | s::env,[],i,t,e=>.inr (.inl e)
 | s::env,o::sl,0,t,e=>by
  cases o with
  | none=>exact .inr (.inl e)
  | some x=>
   have e:shS hp s (some x)=t:=qq e
   unfold shS at e
   dsimp only at e
   split at e
   ·rename_i d ed;exact .inl ⟨x,d,rfl,ed,e.symm⟩
   ·exact .inr (.inr e.symm)
 | s::env,o::sl,i+1,t,e=>ziv (env:=env) (sl:=sl) (i:=i) e
theorem SymOk.view(h:SymOk fx as H0 env σ H st):EnvOk (λ_=>False) H0 (zdi st.hp env st.sl) σ H:=by
 have ow:∀a,own (zdi st.hp env st.sl) σ a->own env σ a:=λa ⟨i,d,e1,e2⟩=>by
  rcases ziv e1 with⟨x,d',_,_,z⟩|z|z
  ·cases z
  ·exact⟨i,d,z,e2⟩
  ·cases z
 have s1:Same (Offs (λb=>fx b\/own env σ b) H) (Offs (λb=>False\/own (zdi st.hp env st.sl) σ b) H):=Offs.sub λb z=>z.elim False.elim λy=>.inr (ow b y)
 have s2:Same (Offs (own env σ) H) (Offs (λb=>False\/own (zdi st.hp env st.sl) σ b) H):=Offs.sub λb z=>z.elim False.elim λy=>ow b y
 have ac:∀(i:Nat)(d:PyData),(zdi st.hp env st.sl)[i]?=some (.ac d)->env[i]?=some (.ac d):=λi d e=>by
  rcases ziv e with⟨x,d',_,_,z⟩|z|z
  ·cases z
  ·exact z
  ·cases z
 refine⟨by rw[zpw];exact h.ok.len,λi d e=>?_,λi d e=>?_,λi j d e a h1 h2=>h.ok.inj i j d e a (ac i d h1) (ac j e h2),h.ok.base,λb z=>z.elim⟩
 ·rcases ziv e with⟨x,d',e1,e2,z⟩|z|z
  ·cases z
   obtain⟨_,v,g1,g2⟩:=h.sl i x e1
   exact⟨v,g1,Rp.same s2 _ (h.rd 9 x v _ g2 e2)⟩
  ·obtain⟨v,g1,g2⟩:=h.ok.pl i d z
   exact⟨v,g1,Rp.same s1 _ g2⟩
  ·cases z
 ·obtain⟨a,g1,g2,g3,g4⟩:=h.ok.ac i d (ac i d e)
  exact⟨a,g1,g2,λz=>z,g4.same s1 λo z=>z⟩
end
noncomputable abbrev TFs:=DEnv->SyT->Option Bool
noncomputable def STs(tt:TT)(g:TFs):Prop:=∀(H0:Hp)(env:DEnv)(σ:St)(H:Hp)(st:SyT),HasF H0 env σ H st->∀b,g env st=some b->∀Q:Bool->Hp->Prop,(∀H',Same H H'->Q b H')->tt σ H Q
noncomputable def yT(c:TF):TFs:=λenv st=>c (zdi st.hp env st.sl)
theorem zpx{tt:TT}{c:TF}(h:ST tt c):STs tt (yT c):=λH0 env σ H st ⟨fx,as,k⟩ b e Q q=>h _ H0 _ σ H k.view b e Q q
noncomputable abbrev EFs:=DEnv->SyT->Option PyData
noncomputable def SEs(te:TE)(g:EFs):Prop:=∀(H0:Hp)(env:DEnv)(σ:St)(H:Hp)(st:SyT),HasF H0 env σ H st->∀d,g env st=some d->∀Q:VK,(∀v H',Same H H'->Rp H' d v->Q v H')->te σ H Q
noncomputable def yE(g:EF):EFs:=λenv st=>(g (zdi st.hp env st.sl)).map λr=>r.d
theorem zdz{te:TE}{g:EF}(h:SE te g):SEs te (yE g):=λH0 env σ H st ⟨fx,as,k⟩ d e Q q=>by
 obtain⟨r,er,rfl⟩:=qG.mp e
 exact h _ H0 _ σ H k.view r er Q λv H' s hv=>q v H' s (Rp.same (Offs.same _ _) _ hv.rp)
inductive OutS where
 | nx (env:DEnv) (st:SyT)
 | bk (env:DEnv) (st:SyT)
 | ct (env:DEnv) (st:SyT)
 | rt (d:PyData)
noncomputable abbrev SFs:=DEnv->SyT->Option OutS
noncomputable def SatS(H0:Hp)(D:Ends):OutS->Prop
 | .nx env st=>∀σ H,HasF H0 env σ H st->D.nx σ H
 | .bk env st=>∀σ H,HasF H0 env σ H st->D.bk σ H
 | .ct env st=>∀σ H,HasF H0 env σ H st->D.ct σ H
 | .rt d=>∀v H,Same H0 H->zci d=true->Rp H d v->D.rt v H
noncomputable def SSs(ts:TS)(F:SFs):Prop:=∀(H0:Hp)(env:DEnv)(σ:St)(H:Hp)(st:SyT)(D:Ends),HasF H0 env σ H st->∀o,F env st=some o->SatS H0 D o->ts D σ H
noncomputable def yNil:SFs:=λenv st=>some (.nx env st)
theorem zlj:SSs tNext yNil:=λH0 env σ H st D h o e q=>by cases e;exact q σ H h
noncomputable def ySeq(a b:SFs):SFs:=λenv st=>(a env st).bind λo=>match o with
 | .nx e s=>b e s
 | o=>some o
theorem zcc{t u:TS}{a b:SFs}(h1:SSs t a)(h2:SSs u b):SSs (tSeq t u) (ySeq a b):=by
 intro H0 env σ H st D hh o e q
 unfold ySeq at e
 obtain⟨o1,e1,e⟩:=qA.mp e
 refine h1 H0 env σ H st _ hh o1 e1 ?_
 cases o1 with
 | nx e2 s2=>exact λσ' H' h'=>h2 H0 e2 σ' H' s2 D h' o e q
 | bk e2 s2=>cases e;exact q
 | ct e2 s2=>cases e;exact q
 | rt d=>cases e;exact q
noncomputable def yIf(c:TFs)(a b:SFs):SFs:=λenv st=>(c env st).bind λx=>if x=true then a env st else b env st
theorem zpy{tc:TT}{t u:TS}{c:TFs}{a b:SFs}(hc:STs tc c)(h1:SSs t a)(h2:SSs u b):SSs (tIfS tc t u) (yIf c a b):=by
 intro H0 env σ H st D hh o e q
 unfold yIf at e
 obtain⟨b',eb,e⟩:=qA.mp e
 refine hc H0 env σ H st hh b' eb _ λH' s=>?_
 cases b' with
 | true=>exact iteT (h1 H0 env σ H' st D (hh.up s) o e q)
 | false=>exact iteF (h2 H0 env σ H' st D (hh.up s) o e q)
noncomputable def yRet(g:EFs):SFs:=λenv st=>(g env st).bind λd=>if zci d=true then some (.rt d)else none
theorem zjn{te:TE}{g:EFs}(h:SEs te g):SSs (tRet te) (yRet g):=by
 intro H0 env σ H st D hh o e q
 unfold yRet at e
 obtain⟨d,ed,e⟩:=qA.mp e
 split at e
 ·rename_i hf
  cases e
  exact h H0 env σ H st hh d ed _ λv H' s r=>q v H' (let⟨fx,as,k⟩:=hh;k.ok.base.trans s) hf r
 ·cases e
noncomputable def slIn(f:List Nat)(sl:List (Option SV)):Bool:=(List.range sl.length).all λi=>match sl[i]? with
 | some (some _)=>f.contains i
 | _=>true
theorem zafs{f:List Nat}{sl:List (Option SV)}(h:slIn f sl=true){i:Nat}{x:SV}(e:sl[i]?=some (some x)):i∈f:=by
 have hi:i<sl.length:=(qI.mp e).1
 have:=qr.mp h i (qAX.mpr hi)
 rw[e]at this
 exact List.contains_iff_mem.mp this
noncomputable def noAt(env:DEnv)(sl:List (Option SV)):Bool:=(List.range sl.length).all λi=>match sl[i]? with
 | some (some _)=>(match env[i]? with
  | some .no=>true
  | _=>false)
 | _=>true
theorem zaft{env:DEnv}{sl:List (Option SV)}(h:noAt env sl=true){i:Nat}{x:SV}(e:sl[i]?=some (some x)):env[i]?=some .no:=by
 have hi:i<sl.length:=(qI.mp e).1
 have:=qr.mp h i (qAX.mpr hi)
 rw[e]at this
 dsimp only at this
 split at this
 ·assumption
 ·cases this
noncomputable def yS(f:List Nat)(F:SF):SFs:=λenv st=>if slIn f st.sl=true then(F env).bind λo=>match o with
 | .nx e=>if noAt e st.sl=true then some (.nx e st)else none
 | .bk e=>if noAt e st.sl=true then some (.bk e st)else none
 | .ct e=>if noAt e st.sl=true then some (.ct e st)else none
 | .rt d fr=>if zci d=true then some (.rt d)else none
 else none
theorem zxz{f:List Nat}{ts:TS}{F:SF}(h:SSk (λj=>j∈f) ts F):SSs ts (yS f F):=by
 rintro H0 env σ H st D ⟨fx,as,k⟩ o e q
 unfold yS at e
 split at e
 ·rename_i hin
  obtain⟨o1,e1,e⟩:=qA.mp e
  have fl:=k.ok.floor
  have st':∀{env':DEnv}{σ':St}{H':Hp},EnvOk fx (Offs (own env σ) H) env' σ' H'->(∀j,j∈f->σ'[j]?=σ[j]?)->noAt env' st.sl=true->HasF H0 env' σ' H' st:=λ{env' σ' H'} h' kp hn=>by
   have sn:=h'.seen
   exact⟨fx,as,h'.unbase fl,k.nd,k.len,k.off,k.low,λn s a e1 e2=>(k.nod n s a e1 e2).mono (λo z=>h'.base a o (by rw[Offs.get (k.ok.notOwn (k.off a (qS e2)))];exact z)) λ_ _ z=>z.same sn,
    λi x e=>let⟨_,v,h2,h3⟩:=k.sl i x e;⟨zaft hn e,v,(kp i (zafs hin e)).trans h2,h3.same sn⟩⟩
  refine h fx _ env σ H _ k.ok.rebase o1 e1 ?_
  cases o1 with
  | nx e2=>
   dsimp only at e
   split at e
   ·rename_i hn;cases e;exact λσ' H' h' kp=>q σ' H' (st' h' kp hn)
   ·cases e
  | bk e2=>
   dsimp only at e
   split at e
   ·rename_i hn;cases e;exact λσ' H' h' kp=>q σ' H' (st' h' kp hn)
   ·cases e
  | ct e2=>
   dsimp only at e
   split at e
   ·rename_i hn;cases e;exact λσ' H' h' kp=>q σ' H' (st' h' kp hn)
   ·cases e
  | rt d fr=>
   dsimp only at e
   split at e
   ·rename_i hf;cases e;exact λw H' s' rt=>q w H' (fl.trans s') hf (zfw hf rt.1)
   ·cases e
 ·cases e
theorem zafu{env:DEnv}{σ:St}{i:Nat}{s:Sl}{w:Option V}(hs:∀d,s≠.ac d):∀a,own (env.set i s) (σ.set i w) a->own env σ a:=by
 rintro a ⟨j,d,e1,e2⟩
 rcases zbc e1 with⟨rfl,z⟩|⟨n,z⟩
 ·exact absurd z.symm (hs d)
 ·exact⟨j,d,z,by rw[qJ λy=>n y.symm]at e2;exact e2⟩
section
variable{α β:Type}{F:α->β->Prop}
theorem zmq:∀{xs:List α}{vs:List β},Paired F xs vs->∀{j:Nat}{x:α},xs[j]?=some x->∃v,vs[j]?=some v/\F x v
 | _,_,.nil,j,x,e=>by cases e
 | _,_,.cons r t,0,x,e=>by cases e;exact⟨_,rfl,r⟩
 | _,_,.cons r t,j+1,x,e=>zmq t (j:=j) e
theorem zjo:∀{xs:List α}{vs:List β}{ys:List α}{ws:List β},Paired F xs vs->Paired F ys ws->Paired F (xs++ys) (vs++ws)
 | _,_,_,_,.nil,h=>h
 | _,_,_,_,.cons r t,h=>.cons r (zjo t h)
theorem zva:∀{xs:List α}{vs:List β},Paired F xs vs->Paired F xs.reverse vs.reverse
 | _,_,.nil=>.nil
 | _,_,.cons r t=>by rw[List.reverse_cons,List.reverse_cons];exact zjo (zva t) (.cons r .nil)
theorem zjx:∀{xs:List α}{vs:List β},Paired F xs vs->∀(j:Nat),Paired F (xs.eraseIdx j) (vs.eraseIdx j)
 | _,_,.nil,_=>.nil
 | _,_,.cons r t,0=>t
 | _,_,.cons r t,j+1=>.cons r (zjx t j)
theorem zlk:∀{xs:List α}{vs:List β},Paired F xs vs->Paired F xs.dropLast vs.dropLast
 | _,_,.nil=>.nil
 | _,_,.cons r .nil=>.nil
 | _,_,.cons r (.cons r2 t)=>.cons r (zlk (.cons r2 t))
theorem zfn:∀{xs:List α}{vs:List β},Paired F xs vs->xs.length=vs.length
 | _,_,.nil=>rfl
 | _,_,.cons r t=>congrArg (·+1) (zfn t)
theorem zpz{xs:List α}{vs:List β}(h:Paired F xs vs){i:Int}{x:α}(e:atI xs i=some x):∃v,atI vs i=some v/\F x v:=by
 unfold atI at e ⊢
 rw[<- zfn h]
 cases g:ixN xs.length i with
 | none=>rw[g]at e;cases e
 | some j=>rw[g]at e;exact zmq h e
end
theorem zya{α:Type}:∀{l:List α},l.Nodup->∀{i j:Nat}{a:α},l[i]?=some a->l[j]?=some a->i=j
 | [],_,i,j,a,e,_=>by cases e
 | x::l,h,0,0,a,_,_=>rfl
 | x::l,h,0,j+1,a,e1,e2=>by
  cases e1
  exact absurd (qS (l:=l) e2) (qu.mp h).1
 | x::l,h,i+1,0,a,e1,e2=>by
  cases e2
  exact absurd (qS (l:=l) e1) (qu.mp h).1
 | x::l,h,i+1,j+1,a,e1,e2=>congrArg (·+1) (zya (qu.mp h).2 e1 e2)
noncomputable abbrev YF:=DEnv->SyT->Option SV
noncomputable def SYe(te:TE)(g:YF):Prop:=∀(fx:Addr->Prop)(as:List Addr)(H0:Hp)(env:DEnv)(σ:St)(H:Hp)(st:SyT),SymOk fx as H0 env σ H st->∀x,g env st=some x->∀Q:VK,
 (∀v H',Same H H'->SVr (Offs (λb=>fx b\/own env σ b) H') as x v->Q v H')->te σ H Q
noncomputable def yVar(i:Nat):YF:=λ_ st=>match st.sl[i]? with
 | some (some x)=>some x
 | _=>none
theorem zjp(i:Nat):SYe (tVar i) (yVar i):=by
 intro fx as H0 env σ H st h x e Q q
 unfold yVar at e
 split at e
 ·rename_i y ey
  cases e
  obtain⟨_,v,h1,h2⟩:=h.sl i _ ey
  exact⟨v,h1,q v H (Same.refl _) h2⟩
 ·cases e
noncomputable def yFl(g:EFs):YF:=λenv st=>(g env st).bind λd=>if zci d=true then some (.dt d)else none
theorem zacu{te:TE}{g:EFs}(h:SEs te g):SYe te (yFl g):=by
 intro fx as H0 env σ H st hh x e Q q
 unfold yFl at e
 obtain⟨d,ed,e⟩:=qA.mp e
 split at e
 ·rename_i hf;cases e
  exact h H0 env σ H st ⟨fx,as,hh⟩ d ed Q λv H' s r=>q v H' s (zfw hf r)
 ·cases e
noncomputable def inSN(hp:List SN):SV->Option (List SV)
 | .lo n=>match hp[n]? with
  | some (.ls xs)=>some xs
  | some (.tp xs)=>some xs
  | none=>none
 | .dt _=>none
noncomputable def yIx(g:YF)(t:EFs):YF:=λenv st=>(g env st).bind λx=>(inSN st.hp x).bind λxs=>(t env st).bind λd=>match d with
 | .int i=>atI xs i
 | _=>none
theorem zjy{K:qB}{ta tb:TE}{g:YF}{t:EFs}(ha:SYe ta g)(hb:SEs tb t):SYe (tOp (rIxU K) ta tb) (yIx g t):=by
 intro fx as H0 env σ H st hh x e Q q
 unfold yIx at e
 obtain⟨y,ey,e1⟩:=qA.mp e
 obtain⟨xs,ex,e2⟩:=qA.mp e1
 obtain⟨d,ed,e3⟩:=qA.mp e2
 clear e e1 e2
 refine ha fx as H0 env σ H st hh y ey _ λv H1 s1 r1=>hb H0 env σ H1 st ⟨fx,as,hh.up s1⟩ d ed _ λw H2 s2 r2=>?_
 cases d with
 | int i=>
  cases zbz r2
  cases y with
  | dt _=>cases ex
  | lo n=>
   obtain⟨a,g1,rfl⟩:=r1
   have hu:=hh.up (s1.trans s2)
   unfold inSN at ex
   dsimp only at ex
   split at ex
   ·rename_i ys en
    cases ex
    obtain⟨vs,k1,k2⟩:=hu.nod n _ a en g1
    obtain⟨u,k3,k4⟩:=zpz k2 e3
    exact⟨vs,u,.inl (SqL.of k1),k3,q u H2 (s1.trans s2) k4⟩
   ·rename_i ys en
    cases ex
    obtain⟨vs,k1,k2⟩:=hu.nod n _ a en g1
    obtain⟨u,k3,k4⟩:=zpz k2 e3
    exact⟨vs,u,.inr (SqT.of k1),k3,q u H2 (s1.trans s2) k4⟩
   ·cases ex
 | _=>cases e3
section
variable{fx:Addr->Prop}{as:List Addr}{H0:Hp}{env:DEnv}{σ:St}{H H':Hp}{st:SyT}
theorem SymOk.write (h:SymOk fx as H0 env σ H st) {n:Nat} {a:Addr} (ha:as[n]?=some a) {xs:List SV} {vs:List V} (hp:Paired (SVr (Offs (λb=>fx b\/own env σ b) H) as) xs vs) :
  SymOk fx as H0 env σ (upd H a (.lst vs)) ⟨st.sl,st.hp.set n (.ls xs)⟩:=by
 have fa:fx a:=h.off a (qS ha)
 have hO:Offs (λb=>fx b\/own env σ b) (upd H a (.lst vs))=Offs (λb=>fx b\/own env σ b) H:=Offs.upd (.inl fa)
 refine⟨⟨h.ok.len,λi d e=>?_,λi d e=>?_,h.ok.inj,λb o e=>?_,λb z=>?_⟩,h.nd,by rw[qN];exact h.len,h.off,h.low,λm s b e1 e2=>?_,λi x e=>?_⟩
 ·rw[hO];exact h.ok.pl i d e
 ·obtain⟨c,h1,h2,h3,h4⟩:=h.ok.ac i d e
  refine⟨c,h1,h2,h3,?_⟩
  rw[hO]
  exact h4.same (Same.refl _) λo z=>by rw[zaq λy=>h3 (by rw[y];exact fa)];exact z
 ·rw[zaq λy=>by rw[y,h.low a (qS ha)]at e;cases e];exact h.ok.base b o e
 ·by_cases y:b=a
  ·exact⟨_,by rw[y];exact zap⟩
  ·obtain⟨o,e⟩:=h.ok.fxs b z
   exact⟨o,by rw[zaq y];exact e⟩
 ·rw[hO]
  rcases zbc e1 with⟨rfl,z⟩|⟨ne,z⟩
  ·rw[ha]at e2
   cases e2
   subst z
   exact⟨vs,zap,hp⟩
  ·refine(h.nod m s b z e2).mono (λo y=>?_) λ_ _ y=>y
   rw[zaq λy=>?_];exact y
   exact ne (zya h.nd e2 (by rw[ha,y]))
 ·rw[hO];exact h.sl i x e
end
noncomputable def lsAt(hp:List SN):SV->Option (Nat×List SV)
 | .lo n=>match hp[n]? with
  | some (.ls xs)=>some (n,xs)
  | _=>none
 | .dt _=>none
theorem znw{hp:List SN}{x:SV}{n:Nat}{xs:List SV}(h:lsAt hp x=some (n,xs)):x=.lo n/\hp[n]?=some (.ls xs):=by
 cases x with
 | dt _=>cases h
 | lo m=>
  unfold lsAt at h
  dsimp only at h
  split at h
  ·rename_i ys e;cases h;exact⟨rfl,e⟩
  ·cases h
noncomputable def yApp(g h:YF):SFs:=λenv st=>(g env st).bind λx=>(lsAt st.hp x).bind λp=>if p.2.length<100000 then(h env st).bind λy=>some (.nx env ⟨st.sl,st.hp.set p.1 (.ls (p.2++[y]))⟩)else none
theorem zyb{K:qB}{ta tb:TE}{g h:YF}(h1:SYe ta g)(h2:SYe tb h):SSs (tDrop (tBM K "list" znc ta (tCons tb tNil))) (yApp g h):=by
 rintro H0 env σ H st D ⟨fx,as,k⟩ o e q
 unfold yApp at e
 obtain⟨x,ex,e⟩:=qA.mp e
 obtain⟨⟨n,xs⟩,ep,e⟩:=qA.mp e
 dsimp only at e
 split at e
 ·rename_i hl
  obtain⟨y,ey,e⟩:=qA.mp e
  cases e
  obtain⟨rfl,en⟩:=znw ep
  refine h1 fx as H0 env σ H st k _ ex _ λv H1 s1 r1=>?_
  obtain⟨a,ga,rfl⟩:=r1
  obtain⟨vs,k1,k2⟩:=(k.up s1).nod n _ a en ga
  refine⟨.inl ⟨rfl,vs,SqL.of k1⟩,h2 fx as H0 env σ H1 st (k.up s1) y ey _ λw H2 s2 r2=>?_⟩
  have ku:=(k.up s1).up s2
  obtain⟨us,k3,k4⟩:=ku.nod n _ a en ga
  exact⟨a,us,w,rfl,rfl,k3,zku (by rw[<- zfn k4];exact hl),q σ _ ⟨fx,as,ku.write ga (zjo k4 (.cons r2 .nil))⟩⟩
 ·cases e
noncomputable def yPop(g:YF):SFs:=λenv st=>(g env st).bind λx=>(lsAt st.hp x).bind λp=>if p.2.isEmpty=true then none else some (.nx env ⟨st.sl,st.hp.set p.1 (.ls p.2.dropLast)⟩)
theorem zyc{K:qB}{ta:TE}{g:YF}(h1:SYe ta g):SSs (tDrop (tBM0 K "list" rPop ta)) (yPop g):=by
 rintro H0 env σ H st D ⟨fx,as,k⟩ o e q
 unfold yPop at e
 obtain⟨x,ex,e⟩:=qA.mp e
 obtain⟨⟨n,xs⟩,ep,e⟩:=qA.mp e
 dsimp only at e
 split at e
 ·cases e
 ·rename_i hl
  cases e
  obtain⟨rfl,en⟩:=znw ep
  refine h1 fx as H0 env σ H st k _ ex _ λv H1 s1 r1=>?_
  obtain⟨a,ga,rfl⟩:=r1
  obtain⟨vs,k1,k2⟩:=(k.up s1).nod n _ a en ga
  have hz:vs.length - 1<vs.length:=by
   have:=zfn k2
   have:xs.length≠0:=λz=>hl (by rw[qAC.mp z];rfl)
   omega
  exact⟨.inl ⟨rfl,vs,SqL.of k1⟩,a,vs,_,rfl,rfl,k1,qF hz,q σ _ ⟨fx,as,(k.up s1).write ga (zlk k2)⟩⟩
noncomputable def zyd(g:YF)(t:EFs):SFs:=λenv st=>(g env st).bind λx=>(lsAt st.hp x).bind λp=>(t env st).bind λd=>match d with
 | .int i=>(ixN p.2.length i).bind λj=>if p.2.length<=100000 then some (.nx env ⟨st.sl,st.hp.set p.1 (.ls (p.2.eraseIdx j))⟩)else none
 | _=>none
theorem zabj{K:qB}{ta tb:TE}{g:YF}{t:EFs}(h1:SYe ta g)(h2:SEs tb t):SSs (tDrop (tBM K "list" zwg ta (tCons tb tNil))) (zyd g t):=by
 rintro H0 env σ H st D ⟨fx,as,k⟩ o e q
 unfold zyd at e
 obtain⟨x,ex,e⟩:=qA.mp e
 obtain⟨⟨n,xs⟩,ep,e⟩:=qA.mp e
 obtain⟨d,ed,e⟩:=qA.mp e
 dsimp only at e
 cases d with
 | int i=>
  dsimp only at e
  obtain⟨j,ej,e⟩:=qA.mp e
  split at e
  ·rename_i hl
   cases e
   obtain⟨rfl,en⟩:=znw ep
   refine h1 fx as H0 env σ H st k _ ex _ λv H1 s1 r1=>?_
   obtain⟨a,ga,rfl⟩:=r1
   obtain⟨vs,k1,k2⟩:=(k.up s1).nod n _ a en ga
   refine⟨.inl ⟨rfl,vs,SqL.of k1⟩,h2 H0 env σ H1 st ⟨fx,as,k.up s1⟩ _ ed _ λw H2 s2 r2=>?_⟩
   cases zbz r2
   have ku:=(k.up s1).up s2
   obtain⟨us,k3,k4⟩:=ku.nod n _ a en ga
   have hlen:=zfn k4
   obtain⟨c1,c2,c3,c4⟩:=zwc ej
   refine⟨a,us,i,j,us[j]'(by omega),rfl,rfl,k3,by omega,by omega,by rw[<- hlen];exact c1,qF _,q σ _ ⟨fx,as,ku.write ga (zjx k4 j)⟩⟩
  ·cases e
 | _=>cases e
noncomputable def yClr(g:YF):SFs:=λenv st=>(g env st).bind λx=>(lsAt st.hp x).bind λp=>some (.nx env ⟨st.sl,st.hp.set p.1 (.ls [])⟩)
theorem zafv{K:qB}{ta:TE}{g:YF}(h1:SYe ta g):SSs (tDrop (tBM0 K "list" zaci ta)) (yClr g):=by
 rintro H0 env σ H st D ⟨fx,as,k⟩ o e q
 unfold yClr at e
 obtain⟨x,ex,e⟩:=qA.mp e
 obtain⟨⟨n,xs⟩,ep,e⟩:=qA.mp e
 cases e
 obtain⟨rfl,en⟩:=znw ep
 refine h1 fx as H0 env σ H st k _ ex _ λv H1 s1 r1=>?_
 obtain⟨a,ga,rfl⟩:=r1
 obtain⟨vs,k1,k2⟩:=(k.up s1).nod n _ a en ga
 exact⟨.inl ⟨rfl,vs,SqL.of k1⟩,a,vs,rfl,rfl,k1,q σ _ ⟨fx,as,(k.up s1).write ga .nil⟩⟩
section
variable{fx:Addr->Prop}{as:List Addr}{H0:Hp}{env:DEnv}{σ:St}{H H':Hp}{st:SyT}
theorem SymOk.setSy(h:SymOk fx as H0 env σ H st){x:SV}{v:V}(r:SVr (Offs (λb=>fx b\/own env σ b) H) as x v){i:Nat}(hi:i<env.length):SymOk fx as H0 (env.set i .no) (σ.set i (some v)) H ⟨(st.sl++List.replicate (env.length - st.sl.length) none).set i (some x),st.hp⟩:=by
 have so:Same (Offs (λb=>fx b\/own env σ b) H) (Offs (λb=>fx b\/own (env.set i .no) (σ.set i (some v)) b) H):=Offs.sub λb z=>z.imp (λy=>y) (zafu (λ_ z=>by cases z) b)
 refine⟨h.ok.kill i (some v),h.nd,h.len,h.off,h.low,λn s a e1 e2=>(h.nod n s a e1 e2).mono (λ_ z=>z) λ_ _ z=>z.same so,λj y e=>?_⟩
 rcases zbc e with⟨rfl,z⟩|⟨ne,z⟩
 ·cases z
  exact⟨by rw[qd hi],v,by rw[qd (by rw[<- h.ok.len];exact hi)],r.same so⟩
 ·have z:st.sl[j]?=some (some y):=by
   by_cases lt:j<st.sl.length
   ·rw[qW lt]at z;exact z
   ·rw[qP (by omega),qAg]at z
    split at z<;>cases z
  obtain⟨h1,w,h2,h3⟩:=h.sl j y z
  exact⟨by rw[qJ λy=>ne y.symm];exact h1,w,by rw[qJ λy=>ne y.symm];exact h2,h3.same so⟩
end
noncomputable def zabk(st:SyT)(n i:Nat)(x:SV):SyT:=⟨(st.sl++List.replicate (n - st.sl.length) none).set i (some x),st.hp⟩
inductive NT where
 | lf (d:PyData)
 | ls (ts:List NT)
 | tp (ts:List NT)
mutual
def NewT(L:PyData->V->Prop)(H:Hp):NT->V->List Addr->Prop
 | .lf d,v,as=>as=[]/\L d v
 | .ls ts,v,as=>∃a vs as1,v=.ref a/\H a=some (.lst vs)/\as=a::as1/\NewTs L H ts vs as1
 | .tp ts,v,as=>∃a vs as1,v=.ref a/\H a=some (.tup vs)/\as=a::as1/\NewTs L H ts vs as1
def NewTs(L:PyData->V->Prop)(H:Hp):List NT->List V->List Addr->Prop
 | [],vs,as=>vs=[]/\as=[]
 | t::ts,vs,as=>∃v vs' a1 a2,vs=v::vs'/\as=a1++a2/\NewT L H t v a1/\NewTs L H ts vs' a2
end
mutual
theorem NewT.mono{L L':PyData->V->Prop}{H H':Hp}(hL:∀d v,L d v->L' d v):∀(t:NT){v:V}{as:List Addr},NewT L H t v as->(∀a∈as,∀o,H a=some o->H' a=some o)->NewT L' H' t v as
 | .lf d,v,as,h,_=>by
  unfold NewT at h ⊢
  exact⟨h.1,hL _ _ h.2⟩
 | .ls ts,v,as,h,k=>by
  unfold NewT at h ⊢
  obtain⟨a,vs,as1,h1,h2,h3,h4⟩:=h
  exact⟨a,vs,as1,h1,k a (by rw[h3];exact .head _) _ h2,h3,NewTs.mono hL ts h4 λb hb=>k b (by rw[h3];exact .tail _ hb)⟩
 | .tp ts,v,as,h,k=>by
  unfold NewT at h ⊢
  obtain⟨a,vs,as1,h1,h2,h3,h4⟩:=h
  exact⟨a,vs,as1,h1,k a (by rw[h3];exact .head _) _ h2,h3,NewTs.mono hL ts h4 λb hb=>k b (by rw[h3];exact .tail _ hb)⟩
theorem NewTs.mono{L L':PyData->V->Prop}{H H':Hp}(hL:∀d v,L d v->L' d v):∀(ts:List NT){vs:List V}{as:List Addr},NewTs L H ts vs as->(∀a∈as,∀o,H a=some o->H' a=some o)->NewTs L' H' ts vs as
 | [],vs,as,h,_=>by unfold NewTs at h ⊢;exact h
 | t::ts,vs,as,h,k=>by
  unfold NewTs at h ⊢
  obtain⟨v,vs',a1,a2,h1,h2,h3,h4⟩:=h
  exact⟨v,vs',a1,a2,h1,h2,NewT.mono hL t h3 λb hb=>k b (by rw[h2];exact qAG _ hb),NewTs.mono hL ts h4 λb hb=>k b (by rw[h2];exact qg _ hb)⟩
end
mutual
theorem NewT.live{L:PyData->V->Prop}{H:Hp}:∀(t:NT){v:V}{as:List Addr},NewT L H t v as->∀a∈as,∃o,H a=some o
 | .lf d,v,as,h=>by
  unfold NewT at h
  intro a ha;rw[h.1]at ha;cases ha
 | .ls ts,v,as,h=>by
  unfold NewT at h
  obtain⟨a,vs,as1,h1,h2,h3,h4⟩:=h
  intro b hb
  rw[h3]at hb
  rcases qX.mp hb with rfl|hb
  ·exact⟨_,h2⟩
  ·exact NewTs.live ts h4 b hb
 | .tp ts,v,as,h=>by
  unfold NewT at h
  obtain⟨a,vs,as1,h1,h2,h3,h4⟩:=h
  intro b hb
  rw[h3]at hb
  rcases qX.mp hb with rfl|hb
  ·exact⟨_,h2⟩
  ·exact NewTs.live ts h4 b hb
theorem NewTs.live{L:PyData->V->Prop}{H:Hp}:∀(ts:List NT){vs:List V}{as:List Addr},NewTs L H ts vs as->∀a∈as,∃o,H a=some o
 | [],vs,as,h=>by
  unfold NewTs at h
  intro a ha;rw[h.2]at ha;cases ha
 | t::ts,vs,as,h=>by
  unfold NewTs at h
  obtain⟨v,vs',a1,a2,h1,h2,h3,h4⟩:=h
  intro b hb
  rw[h2]at hb
  rcases qv.mp hb with hb|hb
  ·exact NewT.live t h3 b hb
  ·exact NewTs.live ts h4 b hb
end
theorem ziw{L:PyData->V->Prop}{H:Hp}:NewTs L H [] [] []:=by unfold NewTs;exact⟨rfl,rfl⟩
theorem zhj{L:PyData->V->Prop}{H:Hp}{t:NT}{ts:List NT}{v:V}{vs:List V}{a1 a2:List Addr}(h:NewT L H t v a1)(k:NewTs L H ts vs a2):NewTs L H (t::ts) (v::vs) (a1++a2):=by
 unfold NewTs;exact⟨v,vs,a1,a2,rfl,rfl,h,k⟩
theorem zqa{L:PyData->V->Prop}{H:Hp}:∀{ts us:List NT}{vs ws:List V}{a1 a2:List Addr},NewTs L H ts vs a1->NewTs L H us ws a2->NewTs L H (ts++us) (vs++ws) (a1++a2)
 | [],us,vs,ws,a1,a2,h,k=>by
  unfold NewTs at h
  rw[h.1,h.2];exact k
 | t::ts,us,vs,ws,a1,a2,h,k=>by
  unfold NewTs at h
  obtain⟨v,vs',b1,b2,h1,h2,h3,h4⟩:=h
  rw[h1,h2,qB4]
  exact zhj h3 (zqa h4 k)
theorem zll{L:PyData->V->Prop}{H:Hp}:∀{ts:List NT}{vs:List V}{a1:List Addr},NewTs L H ts vs a1->ts.length=vs.length
 | [],vs,a1,h=>by
  unfold NewTs at h
  rw[h.1];rfl
 | t::ts,vs,a1,h=>by
  unfold NewTs at h
  obtain⟨v,vs',b1,b2,h1,h2,h3,h4⟩:=h
  rw[h1];exact congrArg (·+1) (zll h4)
mutual
def al:NT->Nat->SV×List SN
 | .lf d,_=>(.dt d,[])
 | .ls ts,n=>(.lo n,.ls (als ts (n+1)).1::(als ts (n+1)).2)
 | .tp ts,n=>(.lo n,.tp (als ts (n+1)).1::(als ts (n+1)).2)
def als:List NT->Nat->List SV×List SN
 | [],_=>([],[])
 | t::ts,n=>((al t n).1::(als ts (n+(al t n).2.length)).1,(al t n).2++(als ts (n+(al t n).2.length)).2)
end
mutual
theorem zajn{Ho H:Hp}:∀(t:NT){v:V}{as:List Addr},NewT (Rp Ho) H t v as->∀(n:Nat)(L:List Addr),(∀(j:Nat)(a:Addr),as[j]?=some a->L[n+j]?=some a)->
  as.length=(al t n).2.length/\SVr Ho L (al t n).1 v/\∀(j:Nat)(s:SN)(a:Addr),(al t n).2[j]?=some s->as[j]?=some a->SNr Ho H L s a
 | .lf d,v,as,h,n,L,k=>by
  unfold NewT at h
  obtain⟨rfl,h⟩:=h
  unfold al
  exact⟨rfl,h,λj s a e=>by cases e⟩
 | .ls ts,v,as,h,n,L,k=>by
  unfold NewT at h
  obtain⟨a,vs,as1,rfl,h2,rfl,h4⟩:=h
  obtain⟨g1,g2,g3⟩:=als_ok ts h4 (n+1) L λj b e=>by
   have:=k (j+1) b e
   rw[show n+1+j=n+(j+1) by omega];exact this
  unfold al
  refine⟨congrArg (·+1) g1,⟨a,k 0 a rfl,rfl⟩,λj s b e1 e2=>?_⟩
  cases j with
  | zero=>cases e1;cases e2;exact⟨vs,h2,g2⟩
  | succ j=>exact g3 j s b e1 e2
 | .tp ts,v,as,h,n,L,k=>by
  unfold NewT at h
  obtain⟨a,vs,as1,rfl,h2,rfl,h4⟩:=h
  obtain⟨g1,g2,g3⟩:=als_ok ts h4 (n+1) L λj b e=>by
   have:=k (j+1) b e
   rw[show n+1+j=n+(j+1) by omega];exact this
  unfold al
  refine⟨congrArg (·+1) g1,⟨a,k 0 a rfl,rfl⟩,λj s b e1 e2=>?_⟩
  cases j with
  | zero=>cases e1;cases e2;exact⟨vs,h2,g2⟩
  | succ j=>exact g3 j s b e1 e2
theorem als_ok{Ho H:Hp}:∀(ts:List NT){vs:List V}{as:List Addr},NewTs (Rp Ho) H ts vs as->∀(n:Nat)(L:List Addr),(∀(j:Nat)(a:Addr),as[j]?=some a->L[n+j]?=some a)->
  as.length=(als ts n).2.length/\Paired (SVr Ho L) (als ts n).1 vs/\∀(j:Nat)(s:SN)(a:Addr),(als ts n).2[j]?=some s->as[j]?=some a->SNr Ho H L s a
 | [],vs,as,h,n,L,k=>by
  unfold NewTs at h
  obtain⟨rfl,rfl⟩:=h
  unfold als
  exact⟨rfl,.nil,λj s a e=>by cases e⟩
 | t::ts,vs,as,h,n,L,k=>by
  unfold NewTs at h
  obtain⟨v,vs',a1,a2,rfl,rfl,h3,h4⟩:=h
  obtain⟨g1,g2,g3⟩:=zajn t h3 n L λj b e=>k j b (by rw[qW (qI.mp e).1];exact e)
  obtain⟨f1,f2,f3⟩:=als_ok ts h4 (n+(al t n).2.length) L λj b e=>by
   have:=k (a1.length+j) b (by rw[qP (Nat.le_add_right _ _),qBY];exact e)
   rw[<- g1,Nat.add_assoc];exact this
  unfold als
  refine⟨by rw[qY,qY,g1,f1],.cons g2 f2,λj s b e1 e2=>?_⟩
  by_cases lt:j<a1.length
  ·rw[qW lt]at e2
   rw[qW (by rw[<- g1];exact lt)]at e1
   exact g3 j s b e1 e2
  ·rw[qP (by omega)]at e2
   rw[qP (by rw[<- g1];omega)]at e1
   rw[g1]at e2
   exact f3 _ s b e1 e2
end
section
variable{fx:Addr->Prop}{as:List Addr}{H0:Hp}{env:DEnv}{σ:St}{H H':Hp}{st:SyT}
theorem EnvOk.more(h:EnvOk fx H0 env σ H)(s:Same H H'){as1:List Addr}(hn:∀a∈as1,H a=none)(hl:∀a∈as1,∃o,H' a=some o):EnvOk (λb=>fx b\/b∈as1) H0 env σ H':=
 h.grow s (λb o e n z=>z.elim n λy=>by rw[hn b y]at e;cases e) λb z=>z.elim (λy=>let⟨o,e⟩:=h.fxs b y;⟨o,s b o e⟩) (hl b)
theorem zqb(s:Same H H'){A:Addr->Prop}{as1:List Addr}(hn:∀a∈as1,H a=none):Same (Offs (λb=>fx b\/A b) H) (Offs (λb=>(fx b\/b∈as1)\/A b) H'):=
 Offs.mono s λb o e n z=>z.elim (λy=>y.elim (λx=>n (.inl x)) λx=>by rw[hn b x]at e;cases e) λy=>n (.inr y)
theorem SymOk.intro (h:SymOk fx as H0 env σ H st) (s:Same H H') {t:NT} {v:V} {as1:List Addr} (k:NewT (Rp (Offs (λb=>(fx b\/b∈as1)\/own env σ b) H')) H' t v as1) (nd:as1.Nodup) (hn:∀a∈as1,H a=none) :
  SymOk (λb=>fx b\/b∈as1) (as++as1) H0 env σ H' ⟨st.sl,st.hp++(al t st.hp.length).2⟩/\SVr (Offs (λb=>(fx b\/b∈as1)\/own env σ b) H') (as++as1) (al t st.hp.length).1 v:=by
 have hl:=NewT.live t k
 have so:=zqb (A:=own env σ) (fx:=fx) s hn
 obtain⟨g1,g2,g3⟩:=zajn t k st.hp.length (as++as1) λj a e=>by
  rw[<- h.len,qP (Nat.le_add_right _ _),qBY];exact e
 refine⟨⟨h.ok.more s hn hl,?_,by rw[qY,qY,h.len,g1],λa ha=>?_,λa ha=>?_,λn x a e1 e2=>?_,λi x e=>?_⟩,g2⟩
 ·refine qB1.mpr ⟨h.nd,nd,λa ha b hb e=>?_⟩
  obtain⟨o,eo⟩:=h.ok.fxs a (h.off a ha)
  rw[e,hn b hb]at eo;cases eo
 ·exact(qv.mp ha).imp (h.off a) id
 ·exact(qv.mp ha).elim (h.low a) λz=>h.ok.base.free (hn a z)
 ·by_cases lt:n<st.hp.length
  ·rw[qW lt]at e1
   rw[qW (by rw[h.len];exact lt)]at e2
   exact(h.nod n x a e1 e2).mono (λo z=>s a o z) λ_ _ z=>(z.same so).ext
  ·rw[qP (by omega)]at e1
   rw[qP (by rw[h.len];omega),h.len]at e2
   exact g3 _ x a e1 e2
 ·obtain⟨h1,w,h2,h3⟩:=h.sl i x e
  exact⟨h1,w,h2,(h3.same so).ext⟩
end
noncomputable abbrev NTF:=DEnv->Option NT
noncomputable def SEt(te:TE)(g:NTF):Prop:=∀(fx:Addr->Prop)(H0:Hp)(env:DEnv)(σ:St)(H:Hp),EnvOk fx H0 env σ H->∀t,g env=some t->∀Q:VK,
 (∀v H' as,Same H H'->NewT (Rp (Offs (λb=>(fx b\/b∈as)\/own env σ b) H')) H' t v as->as.Nodup->(∀a∈as,H a=none)->Q v H')->te σ H Q
noncomputable abbrev NTFs:=DEnv->Option (List NT)
noncomputable def SAt(ta:TA)(g:NTFs):Prop:=∀(fx:Addr->Prop)(H0:Hp)(env:DEnv)(σ:St)(H:Hp),EnvOk fx H0 env σ H->∀ts,g env=some ts->∀Q:List V->Hp->Prop,
 (∀vs H' as,Same H H'->NewTs (Rp (Offs (λb=>(fx b\/b∈as)\/own env σ b) H')) H' ts vs as->as.Nodup->(∀a∈as,H a=none)->Q vs H')->ta σ H Q
noncomputable def pLf(g:EF):NTF:=λenv=>(g env).bind λr=>if r.bs.isEmpty=true then some (.lf r.d)else none
theorem zacv{te:TE}{g:EF}(h:SE te g):SEt te (pLf g):=by
 intro fx H0 env σ H hE t e Q q
 unfold pLf at e
 obtain⟨r,er,e⟩:=qA.mp e
 split at e
 ·rename_i hb
  cases e
  have hb:r.bs=[]:=qBD.mp hb
  refine h fx H0 env σ H hE r er Q λv H' s hv=>q v H' [] s ?_ .nil λa z=>by cases z
  unfold NewT
  refine⟨rfl,Rp.same (Offs.sub λb z=>?_) _ hv.rp⟩
  rw[hb]
  exact zhz b (z.elim (λy=>y.elim .inl λx=>by cases x) .inr)
 ·cases e
theorem ztm{L:PyData->V->Prop}{G H:Hp}(hL:∀d v,Rp G d v->L d v):∀{ds:List PyData}{vs:List V},Rps G ds vs->NewTs L H (ds.map .lf) vs []
 | [],vs,h=>by unfold Rps at h;rw[h];exact ziw
 | d::ds,vs,h=>by
  unfold Rps at h
  obtain⟨v,vs',rfl,h1,h2⟩:=h
  exact zhj (a1:=[]) (a2:=[]) (by unfold NewT;exact⟨rfl,hL _ _ h1⟩) (ztm hL h2)
noncomputable def pFr(g:EF):NTF:=λenv=>(g env).bind λr=>if r.bs.isEmpty=true/\r.fr=true then(match r.d with
 | .list ds=>some (.ls (ds.map .lf))
 | _=>none)else none
theorem zacw{te:TE}{g:EF}(h:SE te g):SEt te (pFr g):=by
 intro fx H0 env σ H hE t e Q q
 unfold pFr at e
 obtain⟨r,er,e⟩:=qA.mp e
 split at e
 ·rename_i hb
  have hb1:r.bs=[]:=qBD.mp hb.1
  split at e
  ·rename_i ds ed
   cases e
   refine h fx H0 env σ H hE r er Q λv H' s hv=>?_
   obtain⟨a,h1,h2,h3⟩:=hv.fr hb.2
   rw[ed]at h3
   obtain⟨xs,k1,k2⟩:=h3
   refine q v H' [a] s ?_ (qu.mpr ⟨(λz=>by cases z),qBq⟩) λb z=>by
    rcases qX.mp z with rfl|z
    ·exact h2
    ·cases z
   unfold NewT
   refine⟨a,xs,[],h1,k1,rfl,ztm (λd w y=>Rp.same (Offs.sub λb z=>?_) d y) k2⟩
   rw[hb1]
   rcases z with(z|z)|z
   ·exact .inl (zhz b (.inl z))
   ·exact .inr (by rcases qX.mp z with z|z;exact z;cases z)
   ·exact .inl (zhz b (.inr z))
  ·cases e
 ·cases e
noncomputable def zmb:NTFs:=λ_=>some []
theorem zye:SAt tNil zmb:=by
 intro fx H0 env σ H hE t e Q q
 cases e
 exact q [] H [] (Same.refl _) ziw .nil λa z=>by cases z
noncomputable def zda(g:NTF)(k:NTFs):NTFs:=λenv=>(g env).bind λt=>(k env).map λts=>t::ts
theorem zacx{as bs:List Addr}{H:Hp}(h1:as.Nodup)(h2:bs.Nodup)(hl:∀a∈as,∃o,H a=some o)(hn:∀a∈bs,H a=none):(as++bs).Nodup:=
 qB1.mpr ⟨h1,h2,λa ha b hb e=>by obtain⟨o,eo⟩:=hl a ha;rw[e,hn b hb]at eo;cases eo⟩
theorem zall{p q r s t:Prop}(h:q↔r\/s):(p\/q)\/t↔((p\/r)\/s)\/t:=by rw[h,or_assoc (a:=p) (b:=r) (c:=s)]
theorem zkm{te:TE}{ta:TA}{g:NTF}{k:NTFs}(h1:SEt te g)(h2:SAt ta k):SAt (tCons te ta) (zda g k):=by
 intro fx H0 env σ H hE t e Q q
 unfold zda at e
 obtain⟨t1,e1,e⟩:=qA.mp e
 obtain⟨ts,e2,rfl⟩:=qG.mp e
 refine h1 fx H0 env σ H hE t1 e1 _ λv H1 as1 s1 n1 d1 f1=>?_
 have l1:=NewT.live t1 n1
 refine h2 _ H0 env σ H1 (hE.more s1 f1 l1) ts e2 _ λvs H2 as2 s2 n2 d2 f2=>?_
 have sw:∀b,(fx b\/b∈as1++as2)\/own env σ b↔((fx b\/b∈as1)\/b∈as2)\/own env σ b:=λb=>zall qv
 refine q (v::vs) H2 (as1++as2) (s1.trans s2) (zhj (NewT.mono (λd w y=>Rp.same (Same.trans (zqb s2 f2) (Offs.sub λb z=>(sw b).mp z)) d y) t1 n1 λa _ o z=>s2 a o z) (NewTs.mono (λd w y=>Rp.same (Offs.sub λb z=>(sw b).mp z) d y) ts n2 λ_ _ _ z=>z)) (zacx d1 d2 l1 f2) λa ha=>?_
 exact(qv.mp ha).elim (f1 a) λz=>s1.free (f2 a z)
noncomputable def pTup(k:NTFs):NTF:=λenv=>(k env).bind λts=>if ts.length<=100000 then some (.tp ts)else none
theorem zyf{ta:TA}{k:NTFs}(h:SAt ta k):SEt (tTup ta) (pTup k):=by
 intro fx H0 env σ H hE t e Q q
 unfold pTup at e
 obtain⟨ts,e1,e⟩:=qA.mp e
 split at e
 ·rename_i hl
  cases e
  refine h fx H0 env σ H hE ts e1 _ λvs H1 as1 s1 n1 d1 f1=>⟨zez (by rw[<- zll n1];exact hl),λp hp=>?_⟩
  have l1:=NewTs.live ts n1
  have np:p∉as1:=λz=>by obtain⟨o,eo⟩:=l1 p z;rw[hp]at eo;cases eo
  refine q _ _ (p::as1) (s1.trans (Same.new hp)) ?_ (qu.mpr ⟨np,d1⟩) λa ha=>by
   rcases qX.mp ha with rfl|ha
   ·exact s1.free hp
   ·exact f1 a ha
  unfold NewT
  refine⟨p,vs,as1,rfl,zap,rfl,NewTs.mono (λd w y=>Rp.same (Offs.mono (Same.new hp) λb o e n z=>?_) d y) ts n1 λa _ o z=>Same.new hp a o z⟩
  rcases z with(z|z)|z
  ·exact n (.inl (.inl z))
  ·rcases qX.mp z with rfl|z
   ·rw[hp]at e;cases e
   ·exact n (.inl (.inr z))
  ·exact n (.inr z)
 ·cases e
noncomputable def zyg(fz:List Nat)(i:Nat)(g:NTF):SFs:=λenv st=>(g (frzs env fz)).bind λt=>if i<env.length then some (.nx ((frzs env fz).set i .no) (zabk ⟨st.sl,st.hp++(al t st.hp.length).2⟩ env.length i (al t st.hp.length).1))else none
theorem ztn{σ:St}:∀{fz:List Nat}{env:DEnv}(a:Addr),own (frzs env fz) σ a->own env σ a
 | [],_,_,h=>h
 | i::fz,env,a,h=>zte a (ztn (fz:=fz) (env:=frz1 env i) a h)
theorem SymOk.frzs{fx:Addr->Prop}{as:List Addr}{H0:Hp}{env:DEnv}{σ:St}{H:Hp}{st:SyT}(h:SymOk fx as H0 env σ H st)(fz:List Nat):SymOk fx as H0 (frzs env fz) σ H st:=by
 have so:Same (Offs (λb=>fx b\/own env σ b) H) (Offs (λb=>fx b\/own (L2.frzs env fz) σ b) H):=Offs.sub λb z=>z.imp id (ztn b)
 exact⟨h.ok.frzs fz,h.nd,h.len,h.off,h.low,λn s a e1 e2=>(h.nod n s a e1 e2).mono (λ_ z=>z) λ_ _ z=>z.same so,λi x e=>let⟨h1,v,h2,h3⟩:=h.sl i x e;⟨zxs _ h1,v,h2,h3.same so⟩⟩
theorem zabl{te:TE}{g:NTF}{fz:List Nat}{i:Nat}(h1:SEt te g):SSs (tAsg te (gName i)) (zyg fz i g):=by
 rintro H0 env σ H st D ⟨fx,as,k⟩ o e q
 unfold zyg at e
 obtain⟨t,et,e⟩:=qA.mp e
 split at e
 ·rename_i hi
  cases e
  have k':=k.frzs fz
  refine h1 fx H0 _ σ H k'.ok t et _ λv H' as1 s n d f=>?_
  obtain⟨g1,g2⟩:=k'.intro s n d f
  have:=g1.setSy g2 (i:=i) (by rw[znl];exact hi)
  rw[znl]at this
  exact q _ H' ⟨_,_,this⟩
 ·cases e
noncomputable def znx(g:GT)(t:TF)(e:NTF)(env:DEnv):List PyData->Option (List NT)
 | []=>some []
 | d::ds=>(g d env).bind λe1=>(t e1).bind λb=>if b=true then(e e1).bind λr=>(znx g t e env ds).map λrs=>r::rs else znx g t e env ds
noncomputable def zqc(own:List Str)(fr:List Nat)(fi:IF')(g:GT)(t:TF)(e:NTF):NTF:=λenv=>(fi env).bind λz=>if z.1.length<100000/\z.2.isEmpty=true/\(capA fr env).isEmpty=true then
 (znx g t e (envB own fr env) z.1).map .ls else none
theorem zafw{p:Prop}{as bs:List Addr}{b:Addr}:(p\/b∈as)\/b∈bs↔p\/b∈as++bs:=by rw[qv,or_assoc]
theorem zto{own:List Str}{fr:List Nat}{wi:TI}{g:TG}{tt:TT}{te:TE}{fi:IF'}{gf:GT}{t:TF}{e:NTF}(h1:SI wi fi)(h2:SG g gf)(hx:GX own.length gf)(h3:ST tt t)(h4:SEt te e) :
  SEt (tComp1 wi g tt te own fr) (zqc own fr fi gf t e):=by
 intro fx H0 env σ H h rr hr Q q
 unfold zqc at hr
 obtain⟨⟨ds,bs⟩,ei,hr⟩:=qA.mp hr
 split at hr
 ·rename_i hc
  obtain⟨hlen,hb1,hb2⟩:=hc
  have hlen:ds.length<100000:=hlen
  have hb1:bs=[]:=qBD.mp hb1
  have hb2:=qBD.mp hb2
  subst hb1
  obtain⟨rs,ers,rfl⟩:=qG.mp hr
  refine h1 fx H0 env σ H h ds [] ei _ λJ H1 s yl=>λp hp=>?_
  have hB:=zpe h s hp own fr []
  rw[hb2]at hB
  generalize hA:(λb=>lim fx env σ ([]++[]) b)=A
  have hA':∀b,fx b\/L2.own env σ b↔A b:=λb=>by rw[<- hA];exact⟨zhz b,zkt b⟩
  have eA:(λb=>lim fx env σ ([]++[]) b\/b=p)=λb=>(A b\/b=p)\/b∈([]:List Addr):=by
   funext b;rw[<- hA];exact propext ⟨.inl,λz=>z.elim id λy=>by cases y⟩
  rw[eA]at hB
  have seen:∀{σ':St}{H':Hp}{as:List Addr},EnvOk (λb=>(A b\/b=p)\/b∈as) H1 (envB own fr env) σ' H'->(∀a∈as,H1 a=none/\a≠p)->Same (Offs (λb=>fx b\/L2.own (frzs env []) σ b) H1) (Offs (λb=>(A b\/b=p)\/b∈as) H'):=λ{σ' H' as} hE ha=>Offs.mono hE.base λb o eo n z=>by
   rcases z with(z|z)|z
   ·exact n ((hA' b).mpr z)
   ·rw[z,hp]at eo;cases eo
   ·rw[(ha b z).1]at eo;cases eo
  refine⟨λi m σ' H'=>m=ds.length - i/\i<=ds.length/\∃vs done rest as,H' p=some (.lst vs)/\NewTs (Rp (Offs (λb=>(A b\/b=p)\/b∈as) H')) H' done vs as/\as.Nodup/\(∀a∈as,H1 a=none/\a≠p)/\done.length<=i/\znx gf t e (envB own fr env) (ds.drop i)=some rest/\done++rest=rs/\EnvOk (λb=>(A b\/b=p)\/b∈as) H1 (envB own fr env) σ' H',
   ⟨ds.length,rfl,qAR _,[],[],rs,[],zap,ziw,.nil,λa z=>by(cases z),qAR _,ers,rfl,hB⟩,?_⟩
  rintro i m σ' H' ⟨rfl,hi,vs,done,rest,as,ep,rd,nd,ha,dl,ec,edr,hE⟩
  obtain⟨yi,ys⟩:=yl _ H' hE.fxs (seen hE ha)
  by_cases hlt:i<ds.length
  ·obtain⟨yg,yy⟩:=yi i ds[i] (qF hlt)
   refine .inr ⟨yg,λσ'' H''=>i+1<=ds.length/\∃vs done rest as,H'' p=some (.lst vs)/\NewTs (Rp (Offs (λb=>(A b\/b=p)\/b∈as) H'')) H'' done vs as/\as.Nodup/\(∀a∈as,H1 a=none/\a≠p)/\done.length<=i+1/\znx gf t e (envB own fr env) (ds.drop (i+1))=some rest/\done++rest=rs/\EnvOk (λb=>(A b\/b=p)\/b∈as) H1 (envB own fr env) σ'' H'',?_,?_⟩
   ·rintro σ'' H'' ⟨hle,hh⟩
    exact⟨ds.length - (i+1),by omega,rfl,hle,hh⟩
   ·intro x H'' hy
    obtain⟨sy,ry⟩:=yy x H'' hy
    rw[qAD hlt]at ec
    obtain⟨e1,ee1,ec⟩:=qA.mp ec
    obtain⟨b,eb,ec⟩:=qA.mp ec
    have ry':Rp (Offs (λa=>((A a\/a=p)\/a∈as)\/L2.own (envB own fr env) σ' a) H'') ds[i] x:=Rp.same (Offs.sub λb z=>z.elim (λy=>y) λ⟨j,d',z,_⟩=>absurd z zgo) _ ry
    refine h2 _ H1 (envB own fr env) σ' H'' _ x (hE.up sy) ry' e1 ee1 _ λσ2 hE2=>?_
    refine h3 _ H1 e1 σ2 H'' hE2 b eb _ λH3 s3=>?_
    have hE3:=hE2.up s3
    obtain⟨gl,gk⟩:=hx _ _ _ ee1
    have back:∀{fx':Addr->Prop}{H4:Hp},EnvOk fx' H1 e1 σ2 H4->EnvOk fx' H1 (envB own fr env) σ2 H4:=λ{fx' H4} hh=>hh.weaken gl.symm (λj d' ej=>by
     by_cases hj:own.length<=j
     ·rw[gk j hj];exact ej
     ·obtain⟨_,k,rfl,_⟩:=znn ej;omega) λj d'=>zgo
    cases b with
    | false=>
     have ec:znx gf t e (envB own fr env) (ds.drop (i+1))=some rest:=ec
     exact iteF ⟨hlt,vs,done,rest,as,s3 _ _ (sy _ _ ep),NewTs.mono (λd w y=>Rp.same (Offs.grow (sy.trans s3)) d y) done rd λa _ o z=>s3 a o (sy a o z),nd,ha,Nat.le_succ_of_le dl,ec,edr,back hE3⟩
    | true=>
     have ec:((e e1).bind λr=>(znx gf t e (envB own fr env) (ds.drop (i+1))).map λrs=>r::rs)=some rest:=ec
     obtain⟨r,er,ec⟩:=qA.mp ec
     obtain⟨rest',er',rfl⟩:=qG.mp ec
     refine iteT (h4 _ H1 e1 σ2 H3 hE3 r er _ λv H4 as1 s4 n1 d1 f1=>?_)
     have t3:=sy.trans s3
     have t4:=t3.trans s4
     have l1:=NewT.live r n1
     have l0:=NewTs.live done rd
     have p3:H3 p=some (.lst vs):=t3 _ _ ep
     have np:∀a∈as1,a≠p:=λa z y=>by rw[y]at z;rw[f1 p z]at p3;cases p3
     have eF:(λb=>((A b\/b=p)\/b∈as)\/b∈as1)=λb=>(A b\/b=p)\/b∈as++as1:=funext λb=>propext zafw
     have hE4:=back (hE3.more s4 f1 l1)
     rw[eF]at hE4
     refine⟨vs,t4 _ _ ep,zku (by rw[<- zll rd];omega),hlt,vs++[v],done++[r],rest',as++as1,zap,?_,zacx nd d1 (λa z=>let⟨o,eo⟩:=l0 a z;⟨o,t3 a o eo⟩) f1,λa z=>?_,by rw[qY];simp;omega,er',by rw[<- edr];simp,hE4.updFx (.inl (.inr rfl)) hp⟩
     ·rw[Offs.upd (.inl (.inr rfl))]
      refine zqa (NewTs.mono (λd w y=>Rp.same (Offs.mono t4 λb o eo n z=>?_) d y) done rd λa z o eo=>?_) (by
       rw[show as1=as1++[] by simp]
       refine zhj (NewT.mono (λd w y=>Rp.same (Offs.sub λb z=>?_) d y) r n1 λa z o eo=>?_) ziw
       ·rw[qw]at z;exact .inl (zafw.mpr z)
       ·rw[zaq (np a z)];exact eo)
      ·rcases zafw.mpr z with z|z
       ·exact n z
       ·have y:=f1 b z;rw[t3 b o eo]at y;cases y
      ·rw[zaq (ha a z).2];exact t4 a o eo
     ·rcases qv.mp z with z|z
      ·exact ha a z
      ·exact⟨hE3.base.free (f1 a z),np a z⟩
  ·have hi':i=ds.length:=by omega
   subst hi'
   rw[qBa]at ec
   cases ec
   rw[qw]at edr
   subst edr
   refine .inl ⟨ys,q _ H' (p::as) (s.trans hE.base) ?_ (qu.mpr ⟨λz=>(ha p z).2 rfl,nd⟩) λa z=>?_⟩
   ·unfold NewT
    refine⟨p,vs,as,rfl,ep,rfl,NewTs.mono (λd w y=>Rp.same (Offs.sub λb z=>?_) d y) done rd λ_ _ _ z=>z⟩
    rcases z with(z|z)|z
    ·exact .inl (.inl ((hA' b).mp (.inl z)))
    ·exact(qX.mp z).elim (λy=>.inl (.inr y)) .inr
    ·exact .inl (.inl ((hA' b).mp (.inr z)))
   ·rcases qX.mp z with rfl|z
    ·exact s.free hp
    ·exact s.free (ha a z).1
 ·cases hr
noncomputable def tErr(Ok:Addr->Prop)(ts:Addr->TS)(j:Nat)(D:Ends)(σ:St)(H1:Hp):XK:=λc od H2=>∃C dx,c=.ref C/\Ok C/\od=some dx/\
 ∀e H3,(∀b o,H1 b=some o->H2 b=some o->H3 b=some o)->zxu H2 H3->(∃tv,H3 e=some (.ext (xeD e C dx tv)))->
  ts C {nx:=λσ' H'=>D.nx (σ'.set j none) H',rt:=λ_ _=>False} (σ.set j (some (.ref e))) H3
section
variable{X:Cx}{pins:List (Addr×Obj)}{σ:St}{H1:Hp}{s1:Shared}
theorem handled{Ok:Addr->Prop}{ts:Addr->TS}{B:Addr}{n cn:Str}{hpos cp:Pos}{st0:Stmt}{suite:List Stmt}{j:Nat}{D:Ends}{ev:Value}{s':Shared}
  (hN:X.N.Nodup)(hj:X.N[j]?=some n)(hn:X.env.scope.names.lookup n=some .local)(hst:X.stack=X.env::X.outer)(hfr:X.env.frame=some X.env.locals)(hgc:Gl X cn)(hmc:X.mg cn=some (.ref B))
  (hex:∀C,Ok C->PySem.W.exmOne X.K (.ref C) (.ref B)=some true)(hs:∀C,Ok C->∀e,PSs (X.hold e) (st0::suite) (ts C))(hdc:(cn==("__debug__":Str))=false)
  (I1:Inv X pins σ H1 s1)(hq:CXE X.prog X.w X.stack H1 s1 (tErr Ok ts j D σ H1) ev s') :
  wpAny (model X.prog X.w) X.A (noteFrame ev X.env) (λ_ s2=>wpAny (model X.prog X.w) X.A (setFlight ev none) (λ_ s3=>wpAny (model X.prog X.w) X.A (handleBy ev X.env [.ExceptHandler (some (.Name cn cp)) (some n) (st0::suite) hpos]) (SP X pins D) X.xe s3) X.xe s2) X.xe s':=by
 obtain⟨e,C',dx,H2,rfl,os,bare,un,ok,fl,stx⟩:=hq
 have I2:=I1.call' (s':=s') os un ok bare (λb z=>absurd z (by simp))
 refine zlg I2 hst hfr (λb ob z=>un.there b ob z (by simp)) fl λs3 H3 I3 ⟨T,hT1,hT2,hT3,hT4⟩ ho hkx hz3=>?_
 obtain⟨C,dx',eC,hOk,edx,sq⟩:=stx H3 (λb o z1 z2=>ho b o _ (I1.hok b o z1).there.choose_spec z2) hkx
 cases eC
 cases edx
 obtain⟨⟨vs',sl,oe,h1⟩,_,_⟩:=I3.hok e _ hT1
 have tb:=(I3.hok T _ hT4).1
 have J3:=I3.hold e
 refine wpAny_handleBy_cons (codeAny_handlers_test (zgd J3 hgc hmc ?_ hdc)) (by intro z;cases z)
 have LT:PySem.W.Looks (model X.prog X.w) s3.heap (typeOf (.ref e)) (.ref C'):=(qCI oe).andThen .now
 refine(PySem.W.exm_one (I3.kIn) LT (hex C' hOk)).here ?_
 show codeAny _ _ _ _ _
 refine codeAny_handlers_suite_as (zps oe rfl h1 tb λh' kp tb'=>?_)
 have hup:upd H3 T (.ext λh=>h.Tb T)=H3:=by
  funext b
  by_cases hb:b=T
  ·subst hb;rw[zap,hT4]
  ·rw[zaq hb]
 have J4:Inv (X.hold e) pins σ H3 {s3 with heap:=h'}:=by
  have:=J3.write (x:=T) (e:=T) (o:=.ext λh=>h.Tb T) (h':=h') (t':=s3.toks) (by rw[hT4];exact True.intro) (.inl rfl) (λb u hb z=>kp b u hb z) (let⟨oT,_,z,_⟩:=tb';⟨oT,z⟩) (ztk tb')
  rw[hup]at this
  exact this
 refine zkh (X:=X) (Inv.unhold I1.ok J4) hN hj (.inl hn) (show RelV (.ref e) (.ref e)from rfl) (λs5 J5=>?_) (.inr hn)
 refine qAu (hs C' hOk e pins s5 _ H3 _ (J5.hold e) (sq e H3 (λ_ _ _ z=>z) (λ_ _ z _=>z) ⟨_,hT1⟩)) (λfl s6 q6=>?_) λ_ _ z=>z.elim
 cases fl with
 | next=>
  obtain⟨σ',H',J6,q6⟩:=q6
  exact zafp (Inv.unhold I1.ok J6) hN hj hn λs7 I7=>⟨_,_,I7,q6⟩
 | ret u=>obtain⟨v,σ',H',J6,_,q6⟩:=q6;exact q6.elim
 | brk=>obtain⟨σ',H',J6,q6⟩:=q6;exact q6.elim
 | cont=>obtain⟨σ',H',J6,q6⟩:=q6;exact q6.elim
noncomputable def zajo(Ok:Addr->Prop)(w:Str)(sp:Sp)(t:TA)(ts:Addr->TS)(i j:Nat):TS:=λD σ H=>t σ H λvs H1=>sp vs H1 (λv H2=>∀p,H2 p=none->D.nx (σ.set i (some (.ref p))) (upd H2 p (.tup [.str w,v]))) (tErr Ok ts j D σ H1)
theorem zafx{Ok:Addr->Prop}{f B:Addr}{k:Nat}{fd:qAB}{ps:List Str}{sp:Sp}{wd fn x n cn:Str}{x1 x2:Nat}{p cpos wpos tpos pos pos' apos hpos cp:Pos}{a:Expr}{as:List Expr}{st0:Stmt}{suite:List Stmt}{t:TA}{ts:Addr->TS}{i j:Nat}
  (F:FnOk X.prog X.w X.K X.mg X.base (CXE X.prog X.w) k f fd ps sp)(hr:Room k X.A)(hg:Gl X fn)(hm:X.mg fn=some (.ref f))(hk:qm X.K (.ref f)=true)(hb:zjf X.K fd ps [])(ha:PA X.nox (a::as) t)
  (hN:X.N.Nodup)(hi:X.N[i]?=some x)(hx:X.env.scope.names.lookup x=some .local)(hj:X.N[j]?=some n)(hn:X.env.scope.names.lookup n=some .local)
  (hst:X.stack=X.env::X.outer)(hfr:X.env.frame=some X.env.locals)(hgc:Gl X cn)(hmc:X.mg cn=some (.ref B))(hex:∀C,Ok C->PySem.W.exmOne X.K (.ref C) (.ref B)=some true)(hs:∀C,Ok C->∀e,PSs (X.hold e) (st0::suite) (ts C))
  (hdb:(fn==("__debug__":Str))=false)(hdc:(cn==("__debug__":Str))=false)(he:starEach (a::as) X.env=(false,eval a X.env)::starEach as X.env)(hpl:(backTo cpos (starEach as X.env)).any (·.1)=false)
  (hsw:swapsWith (.Tuple [.Constant (.str wd) x2 wpos,.Call (.Name fn p) (a::as) [] cpos] x1 tpos) (some (.Name x pos')) apos.line X.env=pure false) :
  PS X (.Try [.Assign [.Name x pos'] (.Tuple [.Constant (.str wd) x2 wpos,.Call (.Name fn p) (a::as) [] cpos] x1 tpos) apos] [.ExceptHandler (some (.Name cn cp)) (some n) (st0::suite) hpos] [] [] pos) (zajo Ok wd sp t ts i j):=by
 intro pins s σ H D I h
 refine qCN ?_
 refine qBJ (wpAny_Assign_Name (wpAny_Tuple_spliced ?_) hsw)
 show wpAny _ _ (spliced ((false,eval (.Constant (.str wd) x2 wpos) X.env)::backTo tpos (starEach [.Call (.Name fn p) (a::as) [] cpos] X.env))) _ _ s
 refine qA0 (qBw ?_)
 have I0:Inv X pins σ H {s with toks:=s.toks+1}:=I.tok _
 show wpAny _ _ (spliced ((false,eval (.Call (.Name fn p) (a::as) [] cpos) X.env)::backTo tpos (starEach [] X.env))) _ _ _
 refine qA0 (qAT (zgd I0 hg hm ?_ hdb))
 refine qAy (h₀:=X.base) I.ok.mod.kin hk (qAu (ha cpos pins _ σ H _ (I0.wish _) h) (λus s1 ⟨vs,H1,I1,r,q⟩=>⟨I1.kIn,?_⟩) λ_ _ z=>z.elim) he hpl
 have I1:Inv X pins σ H1 s1:=I1.unwish
 have hl:us.length=ps.length:=by rw[<- r.length];exact F.len _ _ _ _ q
 refine qBN (qAj (F.run X.A X.stack s1 H1 ⟨us,[]⟩ us vs _ _ hr I1.env0 (by have:=hb s1 us I1.kIn (by rw[qw];exact hl);rw[qw]at this;exact this) r q) λres s' hq=>?_)
 cases res with
 | ok fl=>
  cases fl with
  | ret u=>
   obtain⟨v,H2,I2,rv,q2⟩:=I1.after hq
   refine qBR ⟨by show 2<=qa;rw[qAk];omega,?_⟩
   have hf:H2 s'.heap.objs.size=none:=I2.hok.fresh (qQ _)
   refine zkh (I2.laid (a:=s'.heap.objs.size) (o:=.tup [.str wd,v]) (t':=s'.toks) (λb u e=>qE _ e) (qQ _) ?_) hN hi (.inl hx) (show RelV (.ref _) (.ref _)from rfl) (λs3 I3=>qAa (qAa ⟨_,_,I3,q2 _ hf⟩)) (.inr hx)
   exact⟨by show 2<=qa;rw[qAk];omega,[.str wd _,u],.cons ⟨_,rfl⟩ (.cons rv .nil),⟨_,qV _ rfl,rfl,_,rfl⟩⟩
  | next=>exact False.elim hq
  | brk=>exact False.elim hq
  | cont=>exact False.elim hq
 | error ev=>exact handled hN hj hn hst hfr hgc hmc hex hs hdc I1 hq
noncomputable def zafy(Ok:Addr->Prop)(sp:Sp)(t:TA)(ts:Addr->TS)(j:Nat):TS:=λD σ H=>t σ H λvs H1=>sp vs H1 (λ_ H2=>D.nx σ H2) (tErr Ok ts j D σ H1)
theorem zafz{Ok:Addr->Prop}{f B:Addr}{k:Nat}{fd:qAB}{ps:List Str}{sp:Sp}{fn n cn:Str}{p cpos pos epos hpos cp:Pos}{a:Expr}{as:List Expr}{st0:Stmt}{suite:List Stmt}{t:TA}{ts:Addr->TS}{j:Nat}
  (F:FnOk X.prog X.w X.K X.mg X.base (CXE X.prog X.w) k f fd ps sp)(hr:Room k X.A)(hg:Gl X fn)(hm:X.mg fn=some (.ref f))(hk:qm X.K (.ref f)=true)(hb:zjf X.K fd ps [])(ha:PA X.nox (a::as) t)
  (hN:X.N.Nodup)(hj:X.N[j]?=some n)(hn:X.env.scope.names.lookup n=some .local)
  (hst:X.stack=X.env::X.outer)(hfr:X.env.frame=some X.env.locals)(hgc:Gl X cn)(hmc:X.mg cn=some (.ref B))(hex:∀C,Ok C->PySem.W.exmOne X.K (.ref C) (.ref B)=some true)(hs:∀C,Ok C->∀e,PSs (X.hold e) (st0::suite) (ts C))
  (hdb:(fn==("__debug__":Str))=false)(hdc:(cn==("__debug__":Str))=false)(he:starEach (a::as) X.env=(false,eval a X.env)::starEach as X.env)(hpl:(backTo cpos (starEach as X.env)).any (·.1)=false)
  (hsw:swapsWith (.Call (.Name fn p) (a::as) [] cpos) none epos.line X.env=pure false) :
  PS X (.Try [.Expr (.Call (.Name fn p) (a::as) [] cpos) epos] [.ExceptHandler (some (.Name cn cp)) (some n) (st0::suite) hpos] [] [] pos) (zafy Ok sp t ts j):=by
 intro pins s σ H D I h
 refine qCN ?_
 refine qBJ (qCb (qAT (zgd I hg hm ?_ hdb)) I.quiet hsw)
 refine qAy (h₀:=X.base) I.ok.mod.kin hk (qAu (ha cpos pins s σ H _ (I.wish _) h) (λus s1 ⟨vs,H1,I1,r,q⟩=>⟨I1.kIn,?_⟩) λ_ _ z=>z.elim) he hpl
 have I1:Inv X pins σ H1 s1:=I1.unwish
 have hl:us.length=ps.length:=by rw[<- r.length];exact F.len _ _ _ _ q
 refine qBN (qAj (F.run X.A X.stack s1 H1 ⟨us,[]⟩ us vs _ _ hr I1.env0 (by have:=hb s1 us I1.kIn (by rw[qw];exact hl);rw[qw]at this;exact this) r q) λres s' hq=>?_)
 cases res with
 | ok fl=>
  cases fl with
  | ret u=>
   obtain⟨v,H2,I2,rv,q2⟩:=I1.after hq
   exact qAa (qAa ⟨_,H2,I2,q2⟩)
  | next=>exact False.elim hq
  | brk=>exact False.elim hq
  | cont=>exact False.elim hq
 | error ev=>exact handled hN hj hn hst hfr hgc hmc hex hs hdc I1 hq
end
structure ErrAt(H:Hp)(e C dx:Addr)(d:PyData):Prop where
 ex:∃tv,H e=some (.ext (xeD e C dx tv))
 at_:∃v,H dx=some (.xd [("at",v)])/\∀H',Rp H' d v
theorem ErrAt.up{H H':Hp}{e C dx:Addr}{d:PyData}(h:ErrAt H e C dx d)(s:Same H H'):ErrAt H' e C dx d:=
 ⟨let⟨tv,z⟩:=h.ex;⟨tv,s _ _ z⟩,let⟨v,z,r⟩:=h.at_;⟨v,s _ _ z,r⟩⟩
noncomputable def SEe(j:Nat)(C:Addr)(d:PyData)(te:TE)(f:EF):Prop:=∀(fx:Addr->Prop)(H0:Hp)(env:DEnv)(σ:St)(H:Hp)(e dx:Addr),EnvOk fx H0 env σ H->σ[j]?=some (some (.ref e))->ErrAt H e C dx d->∀r,f env=some r->∀Q:VK,(∀v H',Same H H'->ValOk (lim fx env σ r.bs) H H' r v->Q v H')->te σ H Q
noncomputable def SSe(j:Nat)(C:Addr)(d:PyData)(ts:TS)(F:SF):Prop:=∀(fx:Addr->Prop)(H0:Hp)(env:DEnv)(σ:St)(H:Hp)(D:Ends)(e dx:Addr),EnvOk fx H0 env σ H->σ[j]?=some (some (.ref e))->ErrAt H0 e C dx d->∀o,F env=some o->SatK fx H0 (λk=>k=j) σ D o->ts D σ H
section
variable{j:Nat}{C:Addr}{d:PyData}
theorem zajp{te:TE}{f:EF}(h:SE te f):SEe j C d te f:=λfx H0 env σ H e dx hE _ _=>h fx H0 env σ H hE
theorem zacy:SEe j C d (tXat C (tVar j)) (eC d):=by
 intro fx H0 env σ H e dx h hj he r hr Q q
 cases hr
 obtain⟨tv,he1⟩:=he.ex
 obtain⟨v,hd,rv⟩:=he.at_
 exact⟨_,hj,e,dx,tv,v,rfl,he1,hd,q v H (Same.refl _) ⟨rv _,λz=>by cases z⟩⟩
theorem zajq{r:R2}{f:OF}{ta tb:TE}{fa fb:EF}(ho:SO r f)(ha:SEe j C d ta fa)(hb:SEe j C d tb fb):SEe j C d (tOp r ta tb) (eOp f fa fb):=by
 intro fx H0 env σ H e dx h hj he rr hr Q q
 unfold eOp at hr
 obtain⟨x,ex,hr⟩:=qA.mp hr
 obtain⟨y,ey,hr⟩:=qA.mp hr
 obtain⟨⟨d',fr⟩,ez,hr⟩:=qA.mp hr
 cases hr
 refine ha fx H0 env σ H e dx h hj he x ex _ λv H1 s1 v1=>hb fx H0 env σ H1 e dx (h.up s1) hj (he.up s1) y ey _ λu H2 s2 v2=>?_
 have l1:∀b,lim fx env σ (x.bs++y.bs) b->lim fx env σ x.bs b:=zfv λi hi=>qAG _ hi
 have l2:∀b,lim fx env σ (x.bs++y.bs) b->lim fx env σ y.bs b:=zfv λi hi=>qg _ hi
 refine ho (lim fx env σ (x.bs++y.bs)) H2 v u x.d y.d ((h.up (s1.trans s2)).lims _) (v1.later (Same.refl _) s2 l1).rp (v2.later (Same.refl _) (Same.refl _) l2).rp d' fr ez _ λw H3 s3 rp fr3=>q w H3 ((s1.trans s2).trans s3) ⟨znh rp,λe=>?_⟩
 obtain⟨a,g1,g2,g3⟩:=fr3 e
 refine⟨a,g1,(s1.trans s2).free g2,?_⟩
 have nf:zci d'=false:=by cases d'<;>first|rfl|exact g3.elim
 show zfg (Offs (λb=>lim fx env σ (bsOf d' (x.bs++y.bs)) b\/b=a) H3) H3 a d'
 rw[show bsOf d' (x.bs++y.bs)=x.bs++y.bs by unfold bsOf;rw[if_neg (by rw[nf];decide)]]
 exact g3
theorem zaga{te:TE}{f:EF}{i:Nat}(h1:SEe j C d te f)(hJ:¬i=j):SSe j C d (tAsg te (gName i)) (sSet i f):=by
 intro fx H0 env σ H D e dx h hj he o er q
 unfold sSet at er
 obtain⟨r,er',rfl⟩:=qG.mp er
 exact h1 fx H0 env σ H e dx h hj (he.up h.base) r er' _ λv H' s hv=>q _ H' (h.put s hv i) λk hk=>qJ λz=>hJ (by rw[z];exact hk)
end
noncomputable def zalz(CS:List Str)(i j:Nat)(w:Str)(n:Nat)(g:GFX)(f:AF)(hd:Str->PyData->SF):SF:=λenv=>(f env).bind λrs=>if rs.length=n then(g (zer rs)).bind λr=>match r with
 | .ok d fr=>some (.nx (putV env i ⟨.tuple [.str w,d],false,bss rs⟩))
 | .rx c d=>if c∈CS then(hd c d (env.set j .no)).bind λo=>match o with
  | .nx e=>some (.nx (e.set j .no))
  | _=>none else none else none
theorem EnvOk.setNo{fx:Addr->Prop}{H0:Hp}{env:DEnv}{σ:St}{H:Hp}(h:EnvOk fx H0 env σ H)(i:Nat)(v:Option V):EnvOk fx H0 (env.set i .no) (σ.set i v) H:=by
 have oN:∀b,own (env.set i .no) (σ.set i v) b->own env σ b:=λb ⟨k,d,h1,h2⟩=>by
  rcases zbc h1 with⟨_,z⟩|⟨n,z⟩
  ·cases z
  ·exact⟨k,d,z,by rw[qJ (λy=>n y.symm)]at h2;exact h2⟩
 refine⟨by rw[qN,qN];exact h.len,λk d e=>?_,λk d e=>?_,λk l d d' a e1 e2 z1 z2=>?_,h.base,h.fxs⟩
 ·rcases zbc e with⟨_,z⟩|⟨n,z⟩
  ·cases z
  ·obtain⟨u,g1,g2⟩:=h.pl k d z
   exact⟨u,by rw[qJ (λy=>n y.symm)];exact g1,Rp.same (Offs.sub λb y=>y.imp id (oN b)) _ g2⟩
 ·rcases zbc e with⟨_,z⟩|⟨n,z⟩
  ·cases z
  ·obtain⟨a,g1,g2,g3,g4⟩:=h.ac k d z
   exact⟨a,by rw[qJ (λy=>n y.symm)];exact g1,g2,g3,g4.same (Offs.sub λb y=>y.imp id (oN b)) λo z=>z⟩
 ·rcases zbc e1 with⟨_,z⟩|⟨n1,y1⟩
  ·cases z
  ·rcases zbc e2 with⟨_,z⟩|⟨n2,y2⟩
   ·cases z
   ·rw[qJ (λy=>n1 y.symm)]at z1
    rw[qJ (λy=>n2 y.symm)]at z2
    exact h.inj k l d d' a y1 y2 z1 z2
theorem zajr{cl:Str->Addr}{CS:List Str}{fx:Addr->Prop}{H0:Hp}{env:DEnv}{σ:St}{H1:Hp}{D:Ends}{j:Nat}{hd:Str->PyData->SF}{ts:Addr->TS}{c:Str}{d:PyData}{o:Out}
  (h1:EnvOk fx H0 env σ H1) (hj:j<env.length) (hc:c∈CS) (hs:∀c∈CS,∀d,SSe j (cl c) d (ts (cl c)) (hd c d)) (e:((hd c d (env.set j .no)).bind λo=>match o with|.nx e=>some (Out.nx (e.set j .no))|_=>none)=some o) (q:Sat fx H0 D o) :
  ∀k od H',RX H1 (cl c) d k od H'->tErr (λC=>∃c∈CS,C=cl c) ts j D σ H1 k od H':=by
 rintro k od H2 ⟨rfl,s2,fl,dx,v,rfl,hdx,rp⟩
 obtain⟨o1,e1,e⟩:=qA.mp e
 refine⟨cl c,dx,rfl,⟨c,hc,rfl⟩,rfl,λea H3 q1 q2 ⟨tv,hea⟩=>?_⟩
 have s3:Same H1 H3:=λb o z=>q1 b o z (s2 b o z)
 have hd3:H3 dx=some (.xd [("at",v)]):=q2 _ _ hdx (λφ z=>by cases z)
 have h3:EnvOk fx H0 (env.set j .no) (σ.set j (some (.ref ea))) H3:=(h1.up s3).setNo j _
 have noown:∀b u,H3 b=some u->(∀xs,u≠.lst xs)->(∀xs,u≠.dK xs)->¬own (env.set j .no) (σ.set j (some (.ref ea))) b:=λb u hb n1 n2 ⟨k,d',y1,y2⟩=>by
  obtain⟨a,g1,g2,g3,g4⟩:=h3.ac k d' y1
  rw[y2]at g1
  cases g1
  cases d' with
  | list ds=>obtain⟨ys,z1,_⟩:=g4;rw[hb]at z1;cases z1;exact n1 _ rfl
  | dict ds=>obtain⟨ys,z1,_⟩:=g4;rw[hb]at z1;cases z1;exact n2 _ rfl
  | _=>exact g4.elim
 refine hs c hc d fx _ _ _ H3 _ ea dx h3.rebase (qd (by rw[<- h1.len];exact hj)) ⟨⟨tv,by rw[Offs.get (noown _ _ hea (λ_ z=>by cases z) (λ_ z=>by cases z))];exact hea⟩,v,by rw[Offs.get (noown _ _ hd3 (λ_ z=>by cases z) (λ_ z=>by cases z))];exact hd3,λH'=>zfw fl rp⟩ o1 e1 ?_
 cases o1 with
 | nx e2=>
  cases e
  exact λσ' H' h' k=>q _ _ ((h'.unbase h3.floor).setNo j none)
 | bk e2=>cases e
 | ct e2=>cases e
 | rt d2 fr=>cases e
noncomputable def zabm(CS:List Str)(j:Nat)(n:Nat)(g:GFX)(f:AF)(hd:Str->PyData->SF):SF:=λenv=>(f env).bind λrs=>if rs.length=n then(g (zer rs)).bind λr=>match r with
 | .ok d fr=>some (.nx env)
 | .rx c d=>if c∈CS then(hd c d (env.set j .no)).bind λo=>match o with
  | .nx e=>some (.nx (e.set j .no))
  | _=>none else none else none
theorem zagb{cl:Str->Addr}{CS:List Str}{j n:Nat}{g:GFX}{f:AF}{hd:Str->PyData->SF}{ta:TA}{ts:Addr->TS}(N:Nat)(hj:j<N)(ha:SA ta f)(hs:∀c∈CS,∀d,SSe j (cl c) d (ts (cl c)) (hd c d)) :
  SS (zafy (λC=>∃c∈CS,C=cl c) (spX cl n g) ta ts j) (λenv=>if env.length=N then zabm CS j n g f hd env else none):=by
 intro fx H0 env σ H D h o e q
 dsimp only at e
 split at e
 ·rename_i hN
  unfold zabm at e
  obtain⟨rs,er,e⟩:=qA.mp e
  split at e
  ·rename_i hn
   obtain⟨r,ez,e⟩:=qA.mp e
   refine ha fx H0 env σ H h rs er _ λvs H1 s1 v1=>?_
   refine⟨lim fx env σ (bss rs),zer rs,r,by rw[zen];exact hn,(h.up s1).lims _,zej (λi hi=>hi) v1,ez,?_⟩
   cases r with
   | ok d fr=>
    cases e
    intro v H2 s2 rt
    exact q _ _ (h.up (s1.trans s2))
   | rx c d=>
    dsimp only at e
    split at e
    ·rename_i hc
     exact zajr (h.up s1) (by rw[hN];exact hj) hc hs e q
    ·cases e
  ·cases e
 ·cases e
noncomputable def xcB(C:Addr)(cd:ClassData)(sl:Array (Option Value)):Bool:=match cd.mro,sl.toList with
 | .ref C'::bm,[_,_,_,_,some (.builtin n),_]=>C'==C&&!cd.hasDel&&cd.hasDict&&n=="ValueError.__new__"&&bm.contains (.type "ValueError")&&bm.contains (.type "BaseException")&&!bm.contains (.type "AttributeError")&&!bm.contains (.type "NameError")&&zdh bm
 | _,_=>false
theorem zajs{K:qB}{C:Addr}{dd:Option Addr}{cd:ClassData}{sl:Array (Option Value)}(l:K.lookup C=some ⟨.type "type",dd,.cls cd,sl⟩)(h:xcB C cd sl=true):xcIn K C=true/\xcR K C=true:=by
 unfold xcB at h
 unfold xcIn xcR
 rw[l]
 split at h
 ·rename_i C' bm a0 a1 a2 a3 n a5 hm hs
  obtain⟨nm,bs,mro,ns,qn,hd,sn,sub,ab,col,del⟩:=cd
  obtain⟨sl⟩:=sl
  dsimp only at hm hs
  subst hm
  have hs:sl=[a0,a1,a2,a3,some (.builtin n),a5]:=hs
  subst hs
  rw[qj]at h
  exact h
 ·cases h
section
variable{K:qB}{C c:Addr}
theorem zyh{b:Bool}(h1:PySem.W.isClsIn K c=true)(h2:PySem.W.typeIn K (.ref c)=some (.type "type"))(h3:PySem.W.subIn K (.ref C) (.ref c)=some b):PySem.W.kitCls K (.ref C) (.ref c)=some b:=by
 unfold PySem.W.kitCls
 dsimp only
 have h1:(PySem.W.clsIn K c).isSome=true:=h1
 rw[if_pos (by rw[h1,h2];rfl)]
 exact h3
theorem zajt(h3:PySem.W.subIn K (.ref C) (.type "ValueError")=some true):PySem.W.kitOne K (.ref C) (.type "ValueError")=some true:=by
 unfold PySem.W.kitOne
 rw[if_neg (by intro e;cases beq_iff_eq.mp e)]
 unfold PySem.W.kitCls
 dsimp only
 rw[if_pos (show PySem.W.kitMeta "ValueError"=true by decide +kernel)]
 exact h3
theorem zaju(hb:PySem.W.subIn K (.ref C) (.type "BaseException")=some true)(h1:PySem.W.isClsIn K C=true)(h2:PySem.W.typeIn K (.ref C)=some (.type "type"))(h3:PySem.W.subIn K (.ref C) (.ref C)=some true):PySem.W.exmOne K (.ref C) (.ref C)=some true:=by
 unfold PySem.W.exmOne
 rw[hb,if_pos (by rfl)]
 exact zyh h1 h2 h3
end
structure XKit(P:Program)(w:World)(K:qB)(mg:Str->Option Value)(base:Heap)(cl:Str->Addr)(CS KS:List Str)(B:Str):Prop where
 ok:∀c∈CS,XcOk P w K mg base c (cl c)
 ex:∀c∈CS,PySem.W.exmOne K (.ref (cl c)) (.ref (cl B))=some true
 kit:∀c∈CS,∀k∈KS,PySem.W.kitOne K (.ref (cl c)) (.ref (cl k))=some (decide (c=k))
 val:∀c∈CS,PySem.W.kitOne K (.ref (cl c)) (.type "ValueError")=some true
 mgk:∀k∈KS,mg k=some (.ref (cl k))
 mgB:mg B=some (.ref (cl B))
 mgV:mg "ValueError"=none
theorem zmr{p:Str->Prop}:∀c∈([]:List Str),p c:=λc h=>absurd h (by simp)
theorem zny{p:Str->Prop}{a:Str}{l:List Str}(h:p a)(t:∀c∈l,p c):∀c∈a::l,p c:=λc hc=>(qX.mp hc).elim (λe=>e▸h) (t c)
section
variable{K:qB}{C c B:Addr}{a b:Str}
theorem zajv(hb:PySem.W.subIn K (.ref B) (.type "BaseException")=some true)(h1:PySem.W.isClsIn K B=true)(h2:PySem.W.typeIn K (.ref B)=some (.type "type"))(h3:PySem.W.subIn K (.ref C) (.ref B)=some true):PySem.W.exmOne K (.ref C) (.ref B)=some true:=by
 unfold PySem.W.exmOne
 rw[hb,if_pos (by rfl)]
 exact zyh h1 h2 h3
end
section
variable{X:Cx}
theorem zagc{C f:Addr}{o:Expr}{pos:Pos}{te:TE}(M:XMk X.K C f)(ho:Bx (PE X o te))(hb:attributeBase o "at" X.env (eval o X.env)=eval o X.env):Bx (PE X (.Attribute o "at" pos) (tXat C te)):=⟨zajm M ho.out hb⟩
theorem ztp{K:qB}{C f:Addr}{o:Expr}{pos:Pos}{te:TE}(hK:X.K=K)(M:XMk K C f)(ho:Bx (PE X o te))(hb:attributeBase o "at" X.env (eval o X.env)=eval o X.env):Bx (PE X (.Attribute o "at" pos) (tXat C te)):=by
 subst hK;exact zagc M ho hb
theorem zakp{cl:Str->Addr}{CS KS:List Str}{k:Nat}{ps:List Str}{sp:Sp}{wd fn x n cn:Str}{x1 x2:Nat}{p cpos wpos tpos pos pos' apos hpos cp:Pos}{a:Expr}{as:List Expr}{st0:Stmt}{suite:List Stmt}{t:TA}{ts:Addr->TS}{i j:Nat}
  (D:DnX X.prog X.w X.K X.mg X.base fn ps k sp)(XK:XKit X.prog X.w X.K X.mg X.base cl CS KS cn)(hr:Room k X.A)(hg:Gl X fn)(ha:Bx (PA X.nox (a::as) t))
  (hN:X.N.Nodup)(hi:X.N[i]?=some x)(hx:X.env.scope.names.lookup x=some .local)(hj:X.N[j]?=some n)(hn:X.env.scope.names.lookup n=some .local)
  (hst:X.stack=X.env::X.outer)(hfr:X.env.frame=some X.env.locals)(hgc:Gl X cn)
  (hs:∀C e f,XMk X.K C f->PySem.W.findIn X.K (.ref C) "__class__"=some (some (.builtin "object.__class__"))->Bx (PSs (X.hold e) (st0::suite) (ts C)))
  (hdb:(fn==("__debug__":Str))=false)(hdc:(cn==("__debug__":Str))=false)(he:starEach (a::as) X.env=(false,eval a X.env)::starEach as X.env)(hpl:(backTo cpos (starEach as X.env)).any (·.1)=false)
  (hsw:swapsWith (.Tuple [.Constant (.str wd) x2 wpos,.Call (.Name fn p) (a::as) [] cpos] x1 tpos) (some (.Name x pos')) apos.line X.env=pure false) :
  Bx (PS X (.Try [.Assign [.Name x pos'] (.Tuple [.Constant (.str wd) x2 wpos,.Call (.Name fn p) (a::as) [] cpos] x1 tpos) apos] [.ExceptHandler (some (.Name cn cp)) (some n) (st0::suite) hpos] [] [] pos) (zajo (λC=>∃c∈CS,C=cl c) wd sp t ts i j)):=by
 obtain⟨f,fd,F,hm,hk,hb⟩:=D
 refine⟨zafx F hr hg hm hk hb ha.out hN hi hx hj hn hst hfr hgc XK.mgB (λC ⟨c,hc,e⟩=>by subst e;exact XK.ex c hc) (λC ⟨c,hc,e⟩ ea=>?_) hdb hdc he hpl hsw⟩
 subst e
 obtain⟨f2,_,M,_,_,_,hcl,_⟩:=XK.ok c hc
 exact(hs _ ea f2 M hcl).out
theorem zabn{cl:Str->Addr}{CS KS:List Str}{k:Nat}{ps:List Str}{sp:Sp}{fn n cn:Str}{p cpos pos epos hpos cp:Pos}{a:Expr}{as:List Expr}{st0:Stmt}{suite:List Stmt}{t:TA}{ts:Addr->TS}{j:Nat}
  (D:DnX X.prog X.w X.K X.mg X.base fn ps k sp)(XK:XKit X.prog X.w X.K X.mg X.base cl CS KS cn)(hr:Room k X.A)(hg:Gl X fn)(ha:Bx (PA X.nox (a::as) t))
  (hN:X.N.Nodup)(hj:X.N[j]?=some n)(hn:X.env.scope.names.lookup n=some .local)
  (hst:X.stack=X.env::X.outer)(hfr:X.env.frame=some X.env.locals)(hgc:Gl X cn)
  (hs:∀C e f,XMk X.K C f->PySem.W.findIn X.K (.ref C) "__class__"=some (some (.builtin "object.__class__"))->Bx (PSs (X.hold e) (st0::suite) (ts C)))
  (hdb:(fn==("__debug__":Str))=false)(hdc:(cn==("__debug__":Str))=false)(he:starEach (a::as) X.env=(false,eval a X.env)::starEach as X.env)(hpl:(backTo cpos (starEach as X.env)).any (·.1)=false)
  (hsw:swapsWith (.Call (.Name fn p) (a::as) [] cpos) none epos.line X.env=pure false) :
  Bx (PS X (.Try [.Expr (.Call (.Name fn p) (a::as) [] cpos) epos] [.ExceptHandler (some (.Name cn cp)) (some n) (st0::suite) hpos] [] [] pos) (zafy (λC=>∃c∈CS,C=cl c) sp t ts j)):=by
 obtain⟨f,fd,F,hm,hk,hb⟩:=D
 refine⟨zafz F hr hg hm hk hb ha.out hN hj hn hst hfr hgc XK.mgB (λC ⟨c,hc,e⟩=>by subst e;exact XK.ex c hc) (λC ⟨c,hc,e⟩ ea=>?_) hdb hdc he hpl hsw⟩
 subst e
 obtain⟨f2,_,M,_,_,_,hcl,_⟩:=XK.ok c hc
 exact(hs _ ea f2 M hcl).out
end
section
variable{X:Cx}
theorem zabo{cl:Str->Addr}{k:Nat}{ps:List Str}{sp:Sp}{fn cn:Str}{p cpos pos epos hpos cp:Pos}{a:Expr}{as:List Expr}{st0:Stmt}{suite:List Stmt}{t:TA}{ts:TS}
  (D:DnX X.prog X.w X.K X.mg X.base fn ps k sp)(XO:XcOk X.prog X.w X.K X.mg X.base cn (cl cn))(hr:Room k X.A)(hg:Gl X fn)(ha:Bx (PA X.nox (a::as) t))
  (hst:X.stack=X.env::X.outer)(hfr:X.env.frame=some X.env.locals)(hgc:Gl X cn)(hs:∀e,Bx (PSs (X.hold e) (st0::suite) ts))
  (hdb:(fn==("__debug__":Str))=false)(hdc:(cn==("__debug__":Str))=false)(he:starEach (a::as) X.env=(false,eval a X.env)::starEach as X.env)(hpl:(backTo cpos (starEach as X.env)).any (·.1)=false)
  (hsw:swapsWith (.Call (.Name fn p) (a::as) [] cpos) none epos.line X.env=pure false) :
  Bx (PS X (.Try [.Expr (.Call (.Name fn p) (a::as) [] cpos) epos] [.ExceptHandler (some (.Name cn cp)) none (st0::suite) hpos] [] [] pos) (zafq (cl cn) sp t ts)):=by
 obtain⟨f,fd,F,hm,hk,hb⟩:=D
 obtain⟨f2,fd2,M2,F2,hb2,hm2,hc2,he2⟩:=XO
 exact⟨zafr F hr hg hm hk hb ha.out hst hfr hgc hm2 he2 (λe=>(hs e).out) hdb hdc he hpl hsw⟩
end
noncomputable def zyi(c:Str)(n:Nat)(g:GFX)(f:AF)(hd:SF):SF:=λenv=>(f env).bind λrs=>if rs.length=n then(g (zer rs)).bind λr=>match r with
 | .ok _ _=>some (.nx env)
 | .rx c' _=>if c'=c then hd env else none else none
theorem zagd{cl:Str->Addr}{c:Str}{n:Nat}{g:GFX}{f:AF}{hd:SF}{ta:TA}{ts:TS}(ha:SA ta f)(hs:SS ts hd):SS (zafq (cl c) (spX cl n g) ta ts) (zyi c n g f hd):=by
 intro fx H0 env σ H D h o e q
 unfold zyi at e
 obtain⟨rs,er,e⟩:=qA.mp e
 split at e
 ·rename_i hn
  obtain⟨r,ez,e⟩:=qA.mp e
  refine ha fx H0 env σ H h rs er _ λvs H1 s1 v1=>?_
  refine⟨lim fx env σ (bss rs),zer rs,r,by rw[zen];exact hn,(h.up s1).lims _,zej (λi hi=>hi) v1,ez,?_⟩
  cases r with
  | ok d fr=>
   cases e
   intro v H2 s2 rt
   exact q _ _ (h.up (s1.trans s2))
  | rx c' d=>
   have e2:(if c'=c then hd env else none)=some o:=e
   by_cases hc:c'=c
   ·rw[if_pos hc]at e2
    subst hc
    rintro k od H2 ⟨rfl,s2,fl,dx,v,rfl,hdx,rp⟩
    refine⟨rfl,dx,rfl,λea H3 q1 q2 _=>?_⟩
    exact hs fx H0 env σ H3 D ((h.up s1).up λb o z=>q1 b o z (s2 b o z)) o e2 q
   ·rw[if_neg hc]at e2;cases e2
 ·cases e
noncomputable abbrev GFT:=List PyData->Option NT
noncomputable def spT(n:Nat)(g:GFT):Sp:=λvs H Q _=>∃(fx:Addr->Prop)(ds:List PyData)(t:NT),ds.length=n/\(∀b,fx b->∃o,H b=some o)/\Rps (Offs fx H) ds vs/\g ds=some t/\
 ∀v H' as,Same H H'->NewT (Rp (Offs (λb=>fx b\/b∈as) H')) H' t v as->as.Nodup->(∀a∈as,H a=none)->Q v H'
theorem zyj{n:Nat}{g:GFT}{vs:List V}{H:Hp}{Q:VK}{E:XK}(h:spT n g vs H Q E):vs.length=n:=by
 obtain⟨fx,ds,r,hn,hf,rr,_⟩:=h
 rw[<- rr.length];exact hn
noncomputable def fnT(n:Nat)(g:NTF):GFT:=λds=>g (zgn n ds)
noncomputable def SSq(ts:XK->TS)(F:NTF):Prop:=∀(fx:Addr->Prop)(H0:Hp)(env:DEnv)(σ:St)(H:Hp)(D:Ends)(E:XK),EnvOk fx H0 env σ H->∀t,F env=some t->
 (∀v H' as,Same H0 H'->NewT (Rp (Offs (λb=>fx b\/b∈as) H')) H' t v as->as.Nodup->(∀a∈as,H0 a=none)->D.rt v H')->ts E D σ H
theorem zyk{te:TE}{g:NTF}(h:SEt te g):SSq (λ_=>tRet te) g:=by
 intro fx H0 env σ H D E hE t e q
 exact h fx H0 env σ H hE t e _ λv H' as s n d f=>q v H' as (hE.base.trans s) (NewT.mono (λd w y=>Rp.same (Offs.sub λb z=>.inl z) d y) t n λ_ _ _ z=>z) d λa ha=>hE.base.free (f a ha)
noncomputable def qSeq(f:SFX)(g:NTF):NTF:=λenv=>(f env).bind λo=>match o with
 | .ok (.nx env')=>g env'
 | _=>none
noncomputable def zsq(f:SF)(g:NTF):NTF:=λenv=>(f env).bind λo=>match o with
 | .nx env'=>g env'
 | _=>none
theorem znz{t:TS}{u:XK->TS}{f:SF}{g:NTF}(h1:SS t f)(h2:SSq u g):SSq (λE=>tSeq t (u E)) (zsq f g):=by
 intro fx H0 env σ H D E hE r e q
 unfold zsq at e
 obtain⟨o,e1,e⟩:=qA.mp e
 cases o with
 | nx env'=>exact h1 fx H0 env σ H _ hE _ e1 λσ' H' h'=>h2 fx H0 env' σ' H' D E h' r e q
 | _=>cases e
theorem zajw{N:List Str}{n:Nat}{f:NTF}{t:XK->TS}(hs:SSq t f){vs:List V}{H:Hp}{Q:VK}{E E':XK}(h:spT n (fnT N.length f) vs H Q E):t E' {nx:=λ_ H'=>Q .non H',rt:=Q} (start N vs) H:=by
 obtain⟨fx,ds,r,hn,hf,rr,g,k⟩:=h
 exact hs fx H _ _ H _ _ (zfl hf rr) r g k
noncomputable def zabp(n:Nat)(g:GFT)(f:AF):NTF:=λenv=>(f env).bind λrs=>if rs.length=n/\(bss rs).isEmpty=true then g (zer rs)else none
theorem zabq{n:Nat}{g:GFT}{ta:TA}{f:AF}{E:XK}(ha:SA ta f):SEt (tCall (spT n g) [] E ta) (zabp n g f):=by
 intro fx H0 env σ H hE t e Q q
 unfold zabp at e
 obtain⟨rs,er,e⟩:=qA.mp e
 split at e
 ·rename_i hn
  have hb:=qBD.mp hn.2
  refine ha fx H0 env σ H hE rs er _ λvs H1 s1 v1=>?_
  rw[qw]
  refine⟨lim fx env σ (bss rs),zer rs,t,by rw[zen];exact hn.1,(hE.up s1).lims _,zej (λi hi=>hi) v1,e,λv H' as s n d f=>q v H' as (s1.trans s) (NewT.mono (λd w y=>Rp.same (Offs.sub λb z=>?_) d y) t n λ_ _ _ z=>z) d λa ha=>s1.free (f a ha)⟩
  rw[hb]
  rcases z with(z|z)|z
  ·exact .inl (zhz b (.inl z))
  ·exact .inr z
  ·exact .inl (zhz b (.inr z))
 ·cases e
mutual
def zhn:NT->Bool
 | .lf d=>zci d
 | .ls ts=>flatNs ts
 | .tp ts=>flatNs ts
def flatNs:List NT->Bool
 | []=>true
 | t::ts=>zhn t&&flatNs ts
end
mutual
theorem NewT.flat{L L':PyData->V->Prop}{H:Hp}(hL:∀d v,zci d=true->L d v->L' d v):∀(t:NT){v:V}{as:List Addr},zhn t=true->NewT L H t v as->NewT L' H t v as
 | .lf d,v,as,f,h=>by
  unfold zhn at f
  unfold NewT at h ⊢
  exact⟨h.1,hL _ _ f h.2⟩
 | .ls ts,v,as,f,h=>by
  unfold zhn at f
  unfold NewT at h ⊢
  obtain⟨a,vs,as1,h1,h2,h3,h4⟩:=h
  exact⟨a,vs,as1,h1,h2,h3,NewTs.flat hL ts f h4⟩
 | .tp ts,v,as,f,h=>by
  unfold zhn at f
  unfold NewT at h ⊢
  obtain⟨a,vs,as1,h1,h2,h3,h4⟩:=h
  exact⟨a,vs,as1,h1,h2,h3,NewTs.flat hL ts f h4⟩
theorem NewTs.flat{L L':PyData->V->Prop}{H:Hp}(hL:∀d v,zci d=true->L d v->L' d v):∀(ts:List NT){vs:List V}{as:List Addr},flatNs ts=true->NewTs L H ts vs as->NewTs L' H ts vs as
 | [],vs,as,f,h=>by unfold NewTs at h ⊢;exact h
 | t::ts,vs,as,f,h=>by
  unfold flatNs at f
  rw[qj]at f
  unfold NewTs at h ⊢
  obtain⟨v,vs',a1,a2,h1,h2,h3,h4⟩:=h
  exact⟨v,vs',a1,a2,h1,h2,NewT.flat hL t f.1 h3,NewTs.flat hL ts f.2 h4⟩
end
noncomputable def zht(i n:Nat)(g:GFT)(f:AF):SFs:=λenv st=>(f (zdi st.hp env st.sl)).bind λrs=>if rs.length=n/\i<env.length then(g (zer rs)).bind λt=>if zhn t=true then
 some (.nx (env.set i .no) (zabk ⟨st.sl,st.hp++(al t st.hp.length).2⟩ env.length i (al t st.hp.length).1))else none else none
theorem zlm{i n:Nat}{g:GFT}{ta:TA}{f:AF}{E:XK}(ha:SA ta f):SSs (tAsg (tCall (spT n g) [] E ta) (gName i)) (zht i n g f):=by
 rintro H0 env σ H st D ⟨fx,as,k⟩ o e q
 unfold zht at e
 obtain⟨rs,er,e⟩:=qA.mp e
 split at e
 ·rename_i hn
  obtain⟨t,et,e⟩:=qA.mp e
  split at e
  ·rename_i hf
   cases e
   have hv:=k.view
   refine ha _ H0 _ σ H hv rs er _ λvs H1 s1 v1=>?_
   rw[qw]
   refine⟨lim (λ_=>False) (zdi st.hp env st.sl) σ (bss rs),zer rs,t,by rw[zen];exact hn.1,(hv.up s1).lims _,zej (λi hi=>hi) v1,et,λv H' as1 s n d f=>?_⟩
   obtain⟨g1,g2⟩:=k.intro (s1.trans s) (NewT.flat (λd w hd y=>zfw hd y) t hf n) d λa ha=>s1.free (f a ha)
   exact q _ H' ⟨_,_,g1.setSy g2 hn.2⟩
  ·cases e
 ·cases e
section
variable{j:Nat}{C:Addr}{d:PyData}
theorem zage{ta tb:TE}{fa fb:EF}(ha:SEe j C d ta fa)(hb:SEe j C d tb fb):SEe j C d (tAndV ta tb) (eAnd fa fb):=by
 intro fx H0 env σ H e dx h hj he rr hr Q q
 unfold eAnd at hr
 obtain⟨x,ex,hr⟩:=qA.mp hr
 obtain⟨c,ec,hr⟩:=qA.mp hr
 refine ha fx H0 env σ H e dx h hj he _ ex _ λv H1 s1 v1=>⟨c,as_b v1.rp ec,?_⟩
 cases c with
 | true=>exact iteT (hb fx H0 env σ H1 e dx (h.up s1) hj (he.up s1) _ hr _ λu H2 s2 v2=>q u H2 (s1.trans s2) (v2.later s1 (Same.refl _) λ_ z=>z))
 | false=>cases hr;exact iteF (q _ H1 s1 ⟨zag,λz=>by cases z⟩)
theorem zagf{ta:TE}{fa:EF}(ha:SEe j C d ta fa):SEe j C d (tNotV ta) (eNot fa):=by
 intro fx H0 env σ H e dx h hj he rr hr Q q
 unfold eNot at hr
 obtain⟨x,ex,hr⟩:=qA.mp hr
 obtain⟨c,ec,rfl⟩:=qG.mp hr
 exact ha fx H0 env σ H e dx h hj he _ ex _ λv H1 s1 v1=>⟨c,as_b v1.rp ec,q _ H1 s1 ⟨zag,λz=>by cases z⟩⟩
theorem zagg{K:qB}{n:String}{te:TE}{f:EF}(h1:SEe j C d te f)(hk:∀d,PySem.W.kitOne K (.type (zin d)) (.type n)=some (isiB n d)) :
  SEe j C d (tCB (λxs H Q=>∃x n t b,xs=[x,.ty n]/\TyOf K H x t/\PySem.W.kitOne K t (.type n)=some b/\Q (.bl b) H) (tCons te (tCons (tC (.ty n)) tNil))) (eIsi n f):=by
 intro fx H0 env σ H e dx h hj he rr hr Q q
 unfold eIsi at hr
 obtain⟨x,ex,rfl⟩:=qG.mp hr
 refine h1 fx H0 env σ H e dx h hj he _ ex _ λv H1 s1 v1=>?_
 exact⟨v,n,_,_,rfl,zaiu (Rp.same (Offs.same _ _) _ v1.rp),hk _,q _ H1 s1 ⟨zag,λz=>by cases z⟩⟩
end
theorem zabr{t:TS}{F:SFs}(hs:SSs t F){fx:Addr->Prop}{env:DEnv}{σ:St}{H0 H1:Hp}{Q:VK}{nx:St->Hp->Prop}(hE:EnvOk fx H0 env σ H1)(e:F env ⟨[],[]⟩=some (.rt (.bool true)))(k:∀H',Q (.bl true) H'):t {nx:=nx,rt:=Q} σ H1:=
 hs H0 env σ H1 _ _ (HasF.start hE) _ e λv H' s f r=>by
  have r:v=.bl true:=zey r
  rw[r];exact k H'
end L2
namespace Bc
open PySem L2
noncomputable def zln:SF:=(sSeq (sSet 2 (eC (.str "abcdefghijklmnopqrstuvwxyz")))
  (sSeq (sSet 3 (eOp ixD (eTup (zae (eC (.int 1)) (zae (eC (.int 3)) (zae (eC (.int 5)) (zae (eC (.int 7)) (zae (eC (.int 9)) (zae (eC (.int 11)) (zae (eC (.int 15)) (zae (eC (.int 17)) aNil))))))))) (eOp modD (eOp zfh (eVar 1) (eC (.int 3))) (eC (.int 8)))))
  (sSeq (sSet 4 (eOp modD (eOp zfh (eVar 1) (eC (.int 24))) (eC (.int 26))))
  (sSeq (sSet 5 (eOp mulD (eIxV 2 (eOp modD (eOp zfh (eVar 1) (eC (.int 624))) (eC (.int 26)))) (eOp modD (eOp zfh (eVar 1) (eC (.int 16224))) (eC (.int 8)))))
  (sSeq (sSet 6 (eOp modD (eOp zfh (eVar 1) (eC (.int 129792))) (eOp addD (eCB lenD (zae (eVar 5) aNil)) (eC (.int 1)))))
  (sSeq (sSet 7 (eLst aNil))
  (sSeq (sFor (zgm (zae (eVar 0) aNil)) (gN 8)
  (sSeq (sSet 9 (eIxV 2 (eOp modD (eOp addD (eVar 4) (eOp mulD (eVar 3) (eVar 8))) (eC (.int 26)))))
  (sIf (zbv (eOp eqD (eOp modD (eVar 1) (eC (.int 3))) (eC (.int 0)))) (sApp 7 (eOp addD (eOp addD (eSl (eVar 5) zkc (zfa (eVar 6))) (eVar 9)) (eSl (eVar 5) (zfa (eVar 6)) zkc))) (sIf (zbv (eOp eqD (eOp modD (eVar 1) (eC (.int 3))) (eC (.int 1)))) (sApp 7 (eOp addD (eSl (eVar 5) zkc (zfa (eOp modD (eOp mulD (eVar 8) (eVar 3)) (eOp addD (eCB lenD (zae (eVar 5) aNil)) (eC (.int 1)))))) (eVar 9))) (sApp 7 (eOp mulD (eIxV 2 (eOp modD (eOp addD (eVar 4) (eOp zfh (eVar 8) (eC (.int 8)))) (eC (.int 26)))) (eOp addD (eC (.int 1)) (eOp modD (eOp mulD (eVar 8) (eVar 3)) (eC (.int 8))))))))))
  (zwx 7))))))))
noncomputable def zeo:GF:=fnD 10 zln
noncomputable def zqd:SF:=(sSeq (sSet 2 (eLst aNil))
  (sSeq (sFor (zgl (zae (eVar 1) aNil)) (gT 2 (zau 3 (zau 4 zek)))
  (sSeq (sSet 5 (eSl (eVar 1) zkc (zfa (eVar 3))))
  (sSeq (sSet 6 (eOp zfh (eIxV 0 (eVar 3)) (eC (.int 5))))
  (sSeq (sSet 7 (eLst aNil))
  (sSeq (sFor (zgm (zae (eCB minD (zae (eOp modD (eIxV 0 (eVar 3)) (eC (.int 5))) (zae (eVar 3) aNil))) aNil)) (gN 8)
  (sSeq (sSet 9 (eOp modD (eVar 6) (eCB lenD (zae (eVar 5) aNil))))
  (sSeq (sSet 6 (eOp zfh (eVar 6) (eCB lenD (zae (eVar 5) aNil))))
  (zib 7 5 (eVar 9)))))
  (sApp 2 (eTup (zae (eVar 4) (zae (eVar 7) aNil)))))))))
  (zwx 2)))
noncomputable def zgu:GF:=fnD 10 zqd
theorem zjz{α:Type}{enc out:α->PyData}{g:GT}{t:TF}{e:EF}{env:DEnv}(p:α->Bool):∀{l:List α},(∀x∈l,∃e1,g (enc x) env=some e1/\t e1=some (p x)/\(p x=true->∃r,e e1=some r/\r.d=out x))->
  zjl g t e env (l.map enc)=some ((l.filter p).map out)
 | [],_=>rfl
 | x::l,h=>by
  obtain⟨e1,h1,h2,h3⟩:=h x qf
  have ih:=zjz (l:=l) p λy hy=>h y (qL _ hy)
  rw[qAf]
  unfold zjl
  rw[h1,qC,h2,qC]
  cases hp:p x with
  | false=>
   rw[if_neg qK,ih,List.filter_cons,hp];rfl
  | true=>
   obtain⟨r,h4,h5⟩:=h3 hp
   rw[if_pos rfl,h4,qC,ih,List.filter_cons,hp]
   simp[h5]
theorem zlo{α:Type}{enc out:α->PyData}{g:GT}{t:TF}{e:EF}{env:DEnv}{l:List α}(h:∀x∈l,∃e1,g (enc x) env=some e1/\t e1=some true/\∃r,e e1=some r/\r.d=out x):zjl g t e env (l.map enc)=some (l.map out):=by
 have q:=zjz (enc:=enc) (out:=out) (g:=g) (t:=t) (e:=e) (env:=env) (λ_=>true) (l:=l) λx hx=>let⟨e1,h1,h2,h3⟩:=h x hx;⟨e1,h1,h2,λ_=>h3⟩
 rw[q]
 congr 2
 exact List.filter_eq_self.mpr λ_ _=>rfl
theorem ztq{α:Type}{enc:α->PyData}{g:GT}{body:SF}(I:List α->DEnv->Prop)(all:List α):∀(l pre:List α)(env:DEnv),pre++l=all->I pre env->
  (∀pre x post env,pre++x::post=all->I pre env->∃e1 e2,g (enc x) env=some e1/\(body e1=some (.nx e2)\/body e1=some (.ct e2))/\I (pre++[x]) e2)->∃env',forL g body (l.map enc) env=some (.nx env')/\I all env'
 | [],pre,env,hall,h0,hs=>by
  rw[qw]at hall
  subst hall
  exact⟨env,rfl,h0⟩
 | x::l,pre,env,hall,h0,hs=>by
  obtain⟨e1,e2,h1,h2,h3⟩:=hs pre x l env hall h0
  obtain⟨env',h4,h5⟩:=ztq I all l (pre++[x]) e2 (by rw[<- hall];simp) h3 hs
  refine⟨env',?_,h5⟩
  rw[qAf]
  unfold forL
  rw[h1,qC]
  rcases h2 with h2|h2<;>rw[h2,qC]<;>exact h4
theorem zlp{α:Type}{enc:α->PyData}{g:GT}{body:SF}{l:List α}{env:DEnv}(I:List α->DEnv->Prop)(h0:I [] env)(hs:∀pre x post env,pre++x::post=l->I pre env->∃e1 e2,g (enc x) env=some e1/\(body e1=some (.nx e2)\/body e1=some (.ct e2))/\I (pre++[x]) e2) :
  ∃env',forL g body (l.map enc) env=some (.nx env')/\I l env':=ztq I l l [] env rfl h0 hs
noncomputable def zed(cs:List Int):PyData:=.list (cs.map .int)
theorem ztr{H:Hp}:∀(cs:List Int),Rps H (cs.map .int) (cs.map .int)
 | []=>zdd
 | c::cs=>zde zaa (ztr cs)
noncomputable def envL(n:Nat)(cs:List Int):DEnv:=.no::.pl (zed cs)::List.replicate n .no
theorem zagh{H1:Hp}{a pc:Addr}{cs:List Int}{n:Nat}(e:H1 pc=some (.lst (cs.map .int))):EnvOk (λ_=>False) H1 (envL n cs) (some (.ref a)::some (.ref pc)::List.replicate n none) H1:=by
 have no:∀(i:Nat)(d:PyData),(envL n cs)[i]?≠some (Sl.ac d):=λi d=>by
  unfold envL
  cases i with
  | zero=>simp
  | succ i=>cases i with
   | zero=>simp
   | succ i=>simp[qAg]
 refine⟨by unfold envL;simp,λi d h=>?_,λi d h=>absurd h (no i d),λi j d e a h=>absurd h (no i d),Same.refl _,λb z=>z.elim⟩
 unfold envL at h
 cases i with
 | zero=>simp at h
 | succ i=>cases i with
  | zero=>
   simp at h
   subst h
   refine⟨.ref pc,rfl,zff ?_ (ztr cs)⟩
   rw[Offs.get]
   ·exact e
   ·rintro(z|⟨j,d',z,_⟩)
    ·exact z
    ·exact no j d' z
  | succ i=>simp[qAg]at h
theorem zbd{f g:SF}{env e1:DEnv}{o:Option Out}(h:f env=some (.nx e1))(k:g e1=o):sSeq f g env=o:=by unfold sSeq;rw[h];exact k
theorem zhu{f g:SF}{env:DEnv}{d:PyData}{fr:Bool}(h:f env=some (.rt d fr)):sSeq f g env=some (.rt d fr):=by unfold sSeq;rw[h];rfl
theorem zqe{f:IF'}{g:GT}{b:SF}{env:DEnv}{ds:List PyData}{bs:List Nat}{o:Option Out}(h:f env=some (ds,bs))(k:forL g b ds (frzs env bs)=o):sFor f g b env=o:=by
 unfold sFor;rw[h];exact k
theorem if_t{c:TF}{f g:SF}{env:DEnv}{o:Option Out}(h:c env=some true)(k:f env=o):sIf c f g env=o:=by unfold sIf;rw[h];exact k
theorem if_f{c:TF}{f g:SF}{env:DEnv}{o:Option Out}(h:c env=some false)(k:g env=o):sIf c f g env=o:=by unfold sIf;rw[h];exact k
theorem zga{i:Nat}{f:EF}{env:DEnv}{r:Val}(h:f env=some r):sSet i f env=some (.nx (putV env i r)):=by unfold sSet;rw[h];rfl
theorem zms{f:EF}{env:DEnv}{d:PyData}{fr:Bool}{bs:List Nat}(h:f env=some ⟨d,fr,bs⟩):sRet f env=some (.rt d fr):=by unfold sRet;rw[h];rfl
theorem zcs{n:Nat}{g:GF}{f:AF}{env:DEnv}{rs:List Val}{d:PyData}{fr:Bool}(h:f env=some rs)(hn:rs.length=n)(k:g (zer rs)=some (d,fr)):zbt n g f env=some ⟨d,fr,bsOf d (bss rs)⟩:=by
 unfold zbt;rw[h,qC,if_pos hn,k];rfl
theorem zsr{own:List Str}{fr:List Nat}{fi:IF'}{g:GT}{t:TF}{e:EF}{env:DEnv}{ds:List PyData}{bs:List Nat}{rs:List PyData}(h:fi env=some (ds,bs))(hl:ds.length<100000)(k:zjl g t e (envB own fr env) ds=some rs) :
  zpf own fr fi g t e env=some ⟨.list rs,true,if zeg rs=true then[]else bs++capA fr env⟩:=by
 unfold zpf;rw[h,qC,if_pos hl,k];rfl
theorem zfo{n:Nat}{f:SF}{ds:List PyData}{env:DEnv}{d:PyData}{fr:Bool}(h:zgn n ds=env)(e:f env=some (.rt d fr)):fnD n f ds=some (d,fr):=by
 unfold fnD;rw[h,e]
theorem zqf(n:Int):neD (.int n) (.int n)=some (.bool false,false):=by
 have e:qh (.int n) (.int n)=true:=by unfold qh;exact beq_self_eq_true n
 show some (PyData.bool (!PyData.eqv (.int n) (.int n)),false)=_
 rw[e];rfl
noncomputable def zah(xs:List Str):PyData:=.list (xs.map .str)
noncomputable def rowD(p:Str×List Str):PyData:=.tuple [.str p.1,zah p.2]
noncomputable def webD(W:Web):PyData:=.list (W.map rowD)
theorem zvb(xs:List Str):zeg (xs.map .str)=true:=by
 unfold zeg
 rw[qBj]
 exact qr.mpr λ_ _=>rfl
theorem zts(xs:List Str)(x:Str):((xs.map PyData.str).any λe=>qh e (.str x))=decide (x∈xs):=by
 rw[List.any_map,qAQ,List.any_eq_true,decide_eq_true_iff]
 constructor
 ·rintro⟨y,hy,h⟩
  have:y=x:=by simpa [qh]using h
  rw[<- this];exact hy
 ·exact λh=>⟨x,h,by simp[qh]⟩
theorem zagi(b:Bool)(xs:List Str)(x:Str):inD b (.str x) (zah xs)=some (.bool (if b then !decide (x∈xs)else decide (x∈xs)),false):=by
 unfold inD zah
 simp only[zil]
 rw[if_pos ⟨rfl,zvb xs⟩,zts]
noncomputable def upL(acc:List (Str×List Str))(e:Str):List Str:=(acc.lookup e).getD []
theorem zyl(W:Web)(p:Str×List Str):nm (W++[p])=nm W++[p.1]:=by unfold nm;rw[qAn];rfl
theorem zabs{W:Web}(h:WebOk W){n:Str}{es:List Str}(hm:(n,es)∈W):∀e∈es,e∈nm W:=λe he=>by
 obtain⟨i,hi,e'⟩:=qAY hm
 have q:=h.el i n es (by rw[qF hi,e']) e he
 obtain⟨p,h1,h2⟩:=qAH.mp q
 exact qAH.mpr ⟨p,qBo h1,h2⟩
noncomputable def ltr(i:Int):Str:=⟨#[97+i.toNat]⟩
noncomputable def Low(x:Str):Prop:=∀c∈x.cps.toList,c<128
theorem zqg{x:Str}(h:Low x):qA8 x=true:=by
 unfold qA8
 rw[<- Array.all_toList,qr]
 intro c hc
 have:=h c hc
 exact decide_eq_true (by omega)
theorem zix(a b:Str):(a++b).cps.toList=a.cps.toList++b.cps.toList:=by
 show(a.cps++b.cps).toList=_
 simp
theorem Low.app{a b:Str}(h1:Low a)(h2:Low b):Low (a++b):=λc hc=>by
 rw[zix]at hc
 exact(qv.mp hc).elim (h1 c) (h2 c)
theorem Low.slice{x:Str}(h:Low x)(l u:Option Int):Low (Txt.slice x l u):=λc hc=>by
 unfold Txt.slice at hc
 split at hc
 ·exact h c hc
 ·have hc:c∈(List.filterMap (x.cps[·]?) (Builtin.Str.strSliceIndices l u 1 x.length)):=by simpa using hc
  obtain⟨i,_,e⟩:=qBK.mp hc
  exact h c (by
   have:=qCV e
   simpa using this)
theorem Low.ltr{i:Int}(h0:0<=i)(h1:i<26):Low (ltr i):=λc hc=>by
 have:c=97+i.toNat:=by simpa [Bc.ltr]using hc
 omega
theorem zqh(c:Nat):∀(n:Nat)(acc:Array Nat),((List.replicate n #[c]).foldl (·++·) acc).toList=acc.toList++List.replicate n c
 | 0,acc=>by simp
 | n+1,acc=>by
  rw[qBG,List.foldl_cons,zqh c n,qBG]
  simp
theorem zkn{c:Nat}{n:Int}(h:0<=n):(Txt.mul ⟨#[c]⟩ n).cps.toList=List.replicate n.toNat c:=by
 unfold Txt.mul
 split
 ·have:n.toNat=0:=by omega
  rw[this];rfl
 ·split
  ·rename_i h1 h2
   have:n=1:=by
    rcases qBt.mp h2 with z|z
    ·exact eq_of_beq z
    ·exact absurd z (by simp[Str.length])
   subst this
   rfl
  ·rw[zqh];rfl
theorem Low.mul{c:Nat}(hc:c<128){n:Int}(h:0<=n):Low (Txt.mul ⟨#[c]⟩ n):=λd hd=>by
 rw[zkn h]at hd
 rw[qCQ hd];exact hc
theorem zym{c:Nat}{n:Int}(h:0<=n):(Txt.mul ⟨#[c]⟩ n).length=n.toNat:=by
 have:=congrArg List.length (zkn (c:=c) h)
 rw[qAb]at this
 simpa [Str.length]using this
noncomputable def zgv(md o st:Int)(stem:Str)(at_:Int)(k:Nat):Str:=
 if md=0 then Txt.slice stem none (some at_)++ltr ((o+st * k) % 26)++Txt.slice stem (some at_) none
 else if md=1 then Txt.slice stem none (some (k * st % (stem.length+1)))++ltr ((o+st * k) % 26)
 else Txt.mul (ltr ((o+k / 8) % 26)) (1+k * st % 8)
theorem zyn{i j:Int}(h0:0<=i)(h1:0<=j)(h:ltr i=ltr j):i=j:=by
 unfold ltr at h
 have:#[97+i.toNat]=#[97+j.toNat]:=by injection h
 have:97+i.toNat=97+j.toNat:=by simpa using this
 omega
theorem zqi:∀st∈([1,3,5,7,9,11,15,17]:List Nat),∀a<16,∀b<16,st * a % 26=st * b % 26->a=b:=by decide +kernel
theorem ztt{o st:Int}(hs:st∈([1,3,5,7,9,11,15,17]:List Int)){a b:Nat}(ha:a<16)(hb:b<16)(h:(o+st * a) % 26=(o+st * b) % 26):a=b:=by
 have h2:=Int.emod_add_cancel_left.mp h
 simp only[qX,qBZ,or_false]at hs
 rcases hs with rfl|rfl|rfl|rfl|rfl|rfl|rfl|rfl
 ·exact zqi 1 (by decide) a ha b hb (by exact_mod_cast h2)
 ·exact zqi 3 (by decide) a ha b hb (by exact_mod_cast h2)
 ·exact zqi 5 (by decide) a ha b hb (by exact_mod_cast h2)
 ·exact zqi 7 (by decide) a ha b hb (by exact_mod_cast h2)
 ·exact zqi 9 (by decide) a ha b hb (by exact_mod_cast h2)
 ·exact zqi 11 (by decide) a ha b hb (by exact_mod_cast h2)
 ·exact zqi 15 (by decide) a ha b hb (by exact_mod_cast h2)
 ·exact zqi 17 (by decide) a ha b hb (by exact_mod_cast h2)
theorem zagj{x y:Int}(hx:0<=x)(hy:0<=y)(h:97+x.toNat=97+y.toNat):x=y:=by omega
theorem zajx{x y:Int}(hx:0<=x)(hy:0<=y)(h:(1+x).toNat=(1+y).toNat):x=y:=by omega
theorem zyo{x:Int}(hx:0<=x):(1+x).toNat=x.toNat+1:=by omega
theorem tab8:∀st∈([1,3,5,7,9,11,15,17]:List Nat),∀a<16,∀b<16,a / 8=b / 8->a * st % 8=b * st % 8->a=b:=by decide +kernel
theorem zyp{o st:Int}(hs:st∈([1,3,5,7,9,11,15,17]:List Int)){a b:Nat}(ha:a<16)(hb:b<16)(h:(o+(a:Int) / 8) % 26=(o+(b:Int) / 8) % 26)(h2:(a:Int) * st % 8=b * st % 8):a=b:=by
 have q1:a / 8=b / 8:=by omega
 simp only[qX,qBZ,or_false]at hs
 rcases hs with rfl|rfl|rfl|rfl|rfl|rfl|rfl|rfl
 ·exact tab8 1 (by decide) a ha b hb q1 (by exact_mod_cast h2)
 ·exact tab8 3 (by decide) a ha b hb q1 (by exact_mod_cast h2)
 ·exact tab8 5 (by decide) a ha b hb q1 (by exact_mod_cast h2)
 ·exact tab8 7 (by decide) a ha b hb q1 (by exact_mod_cast h2)
 ·exact tab8 9 (by decide) a ha b hb q1 (by exact_mod_cast h2)
 ·exact tab8 11 (by decide) a ha b hb q1 (by exact_mod_cast h2)
 ·exact tab8 15 (by decide) a ha b hb q1 (by exact_mod_cast h2)
 ·exact tab8 17 (by decide) a ha b hb q1 (by exact_mod_cast h2)
theorem zyq{md o st at_:Int}{stem:Str}(hs:st∈([1,3,5,7,9,11,15,17]:List Int))(ho:0<=o){a b:Nat}(ha:a<16)(hb:b<16)(h:zgv md o st stem at_ a=zgv md o st stem at_ b):a=b:=by
 have st0:0<=st:=by
  simp only[qX,qBZ,or_false]at hs
  rcases hs with rfl|rfl|rfl|rfl|rfl|rfl|rfl|rfl<;>decide
 have n26:∀z:Int,0<=z % 26:=λz=>qAE z (by decide)
 unfold zgv at h
 by_cases h0:md=0
 ·rw[if_pos h0,if_pos h0]at h
  have q:=congrArg (λx:Str=>x.cps.toList) h
  simp only[zix]at q
  have q2:=List.append_cancel_right q
  have q3:=List.append_cancel_left q2
  have q4:ltr ((o+st * a) % 26)=ltr ((o+st * b) % 26):=by
   unfold ltr at q3 ⊢
   congr 1
   exact Array.toList_inj.mp q3
  exact ztt hs ha hb (zyn (n26 _) (n26 _) q4)
 ·rw[if_neg h0,if_neg h0]at h
  by_cases h1:md=1
  ·rw[if_pos h1,if_pos h1]at h
   have q:=congrArg (λx:Str=>x.cps.toList) h
   simp only[zix]at q
   have q3:=(List.append_inj' q (by simp[ltr])).2
   have q4:ltr ((o+st * a) % 26)=ltr ((o+st * b) % 26):=by
    unfold ltr at q3 ⊢
    congr 1
    exact Array.toList_inj.mp q3
   exact ztt hs ha hb (zyn (n26 _) (n26 _) q4)
  ·rw[if_neg h1,if_neg h1]at h
   have m8:∀z:Int,0<=z % 8:=λz=>qAE z (by decide)
   have q:(Txt.mul (ltr ((o+(a:Int) / 8) % 26)) (1+a * st % 8)).cps.toList=(Txt.mul (ltr ((o+(b:Int) / 8) % 26)) (1+b * st % 8)).cps.toList:=by rw[h]
   have ea:∀k:Nat,(Txt.mul (ltr ((o+(k:Int) / 8) % 26)) (1+k * st % 8)).cps.toList=List.replicate (1+(k:Int) * st % 8).toNat (97+((o+(k:Int) / 8) % 26).toNat):=λk=>zkn (by have:=m8 (k * st);omega)
   rw[ea a,ea b]at q
   have ql:=congrArg List.length q
   rw[qAb,qAb]at ql
   have w1:=m8 (a * st)
   have w2:=m8 (b * st)
   have hh:(97+((o+(a:Int) / 8) % 26).toNat)=(97+((o+(b:Int) / 8) % 26).toNat):=by
    have c1:(1+(a:Int) * st % 8).toNat=((a:Int) * st % 8).toNat+1:=zyo w1
    have c2:(1+(b:Int) * st % 8).toNat=((b:Int) * st % 8).toNat+1:=zyo w2
    rw[c1,c2,qBG,qBG]at q
    exact(List.cons.inj q).1
   have z1:=n26 (o+(a:Int) / 8)
   have z2:=n26 (o+(b:Int) / 8)
   exact zyp (o:=o) hs ha hb (zagj z1 z2 hh) (zajx w1 w2 ql)
theorem zlq{α:Type}{f:Nat->α}{n:Nat}(h:∀a b,a<n->b<n->f a=f b->a=b):((List.range n).map f).Nodup:=by
 rw[List.nodup_iff_pairwise_ne,List.pairwise_map]
 refine List.Pairwise.imp_of_mem ?_ (List.pairwise_lt_range (n:=n))
 intro a b ha hb hab e
 have:=h a b (qAX.mp ha) (qAX.mp hb) e
 omega
theorem zyr{md o st at_:Int}{stem:Str}(hl:Low stem)(ho:0<=o)(hst:0<=st)(k:Nat):Low (zgv md o st stem at_ k):=by
 have n26:∀z:Int,0<=z % 26/\z % 26<26:=λz=>⟨qAE z (by decide),qAL z (by decide)⟩
 unfold zgv
 split
 ·exact((hl.slice _ _).app (Low.ltr (n26 _).1 (n26 _).2)).app (hl.slice _ _)
 ·split
  ·exact(hl.slice _ _).app (Low.ltr (n26 _).1 (n26 _).2)
  ·have:=qAE ((k:Int) * st) (show(8:Int)≠0 by decide)
   exact Low.mul (by have:=n26 (o+(k:Int) / 8);omega) (by omega)
noncomputable abbrev vi(i:Int):Val:=⟨.int i,false,[]⟩
noncomputable abbrev vs(x:Str):Val:=⟨.str x,false,[]⟩
noncomputable abbrev vb(b:Bool):Val:=⟨.bool b,false,[]⟩
section
variable{a b:EF}{env:DEnv}{i j:Int}
theorem ziy(ha:a env=some (vi i))(hb:b env=some (vi j))(h:0<j):eOp modD a b env=some (vi (i % j)):=by
 unfold eOp;rw[ha,hb];simp[modD,intD,h,bsOf,zci]
theorem zys(ha:a env=some (vi i))(hb:b env=some (vi j))(h:0<j)(h2:j<1073741824):eOp zfh a b env=some (vi (i / j)):=by
 unfold eOp;rw[ha,hb];simp[zfh,intD,h,h2,bsOf,zci]
theorem zvc(ha:a env=some (vi i))(hb:b env=some (vi j)):eOp addD a b env=some (vi (i+j)):=by
 unfold eOp;rw[ha,hb];simp[addD,bsOf,zci]
theorem zagk(ha:a env=some (vi i))(hb:b env=some (vi j))(h:(-(2 ^ 64)<i/\i<2 ^ 64)\/(-(2 ^ 64)<j/\j<2 ^ 64)):eOp mulD a b env=some (vi (i * j)):=by
 unfold eOp;rw[ha,hb]
 simp only[qC,mulD]
 rw[if_pos h];simp[bsOf,zci]
theorem zvd(ha:a env=some (vi i))(hb:b env=some (vi j)):eOp eqD a b env=some (vb (i==j)):=by
 unfold eOp;rw[ha,hb];rfl
theorem zyt{x y:Str}(ha:a env=some (vs x))(hb:b env=some (vs y))(h:x.length+y.length<=100000):eOp addD a b env=some (vs (x++y)):=by
 unfold eOp;rw[ha,hb]
 simp only[qC,addD]
 rw[if_pos h];simp[bsOf,zci]
theorem zacz{x:Str}(ha:a env=some (vs x))(hb:b env=some (vi j))(h:x.length<=1000/\-1000<=j/\j<=1000):eOp mulD a b env=some (vs (Txt.mul x j)):=by
 unfold eOp;rw[ha,hb]
 simp only[qC,mulD]
 rw[if_pos h];simp[bsOf,zci]
theorem zagl{x:Str}{l h:PF'}{lo hi:Option Int}(ha:a env=some (vs x))(hl:l env=some lo)(hh:h env=some hi)(hz:x.length<=100000):eSl a l h env=some (vs (Txt.slice x lo hi)):=by
 unfold eSl;rw[ha,hl,hh]
 simp only[qC,slD]
 rw[if_pos hz];simp[bsOf,zci]
theorem zyu(ha:a env=some (vi i)):zfa a env=some (some i):=by unfold zfa;rw[ha];rfl
theorem zew{c:Bool}(ha:a env=some (vb c)):zbv a env=some c:=by unfold zbv;rw[ha];rfl
theorem zfp{r:Val}(ha:a env=some r):zae a aNil env=some [r]:=by unfold zae aNil;rw[ha];rfl
theorem zyv{x:Str}(ha:a env=some (vs x))(hz:x.length<=100000):eCB lenD (zae a aNil) env=some (vi x.length):=by
 unfold eCB
 rw[zfp ha]
 simp[zer,lenD,hz,bsOf,zci]
theorem zka{ds:List PyData}{fr:Bool}{bs:List Nat}(ha:a env=some ⟨.list ds,fr,bs⟩):eCB lenD (zae a aNil) env=some (vi ds.length):=by
 unfold eCB
 rw[zfp ha]
 simp[zer,lenD,bsOf,zci]
theorem zagm{k n:Nat}{b:EF}{ds:List PyData}{d:PyData}(he:env[k]?=some (.pl (.list ds)))(hb:b env=some (vi (n:Int)))(hd:ds[n]?=some d):eIxV k b env=some ⟨d,false,[]⟩:=by
 unfold eIxV
 rw[he]
 unfold eOp eVar
 rw[he,hb]
 simp only[qC,ixD]
 rw[zrx hd]
 simp[bsOf]
end
noncomputable def abc:Str:="abcdefghijklmnopqrstuvwxyz"
theorem zagn:(List.range 26).all (λi=>abc.cps.toList[i]?==some (97+i))=true:=by decide +kernel
theorem zago:abc.length=26:=by decide +kernel
theorem zajy{i:Int}(h0:0<=i)(h1:i<26):atI abc.cps.toList i=some (97+i.toNat):=by
 have q:=qr.mp zagn i.toNat (qAX.mpr (by omega))
 have e:((i.toNat:Nat):Int)=i:=by omega
 rw[<- e]
 have z:=zrx (eq_of_beq q)
 rw[e]at z ⊢
 exact z
theorem zagp{k:Nat}{b:EF}{env:DEnv}{i:Int}(he:env[k]?=some (.pl (.str abc)))(hb:b env=some (vi i))(h0:0<=i)(h1:i<26):eIxV k b env=some (vs (ltr i)):=by
 unfold eIxV
 rw[he]
 unfold eOp eVar
 rw[he,hb]
 simp only[qC,ixD]
 rw[if_pos (by rw[zago];decide),zajy h0 h1]
 simp[bsOf,zci,ltr]
theorem zagq{i:Int}(h0:0<=i)(h1:i<8):∃st:Int,atI [PyData.int 1,.int 3,.int 5,.int 7,.int 9,.int 11,.int 15,.int 17] i=some (.int st)/\st∈([1,3,5,7,9,11,15,17]:List Int):=by
 rcases(show i=0\/i=1\/i=2\/i=3\/i=4\/i=5\/i=6\/i=7 by omega)with rfl|rfl|rfl|rfl|rfl|rfl|rfl|rfl
 all_goals exact⟨_,rfl,by decide⟩
theorem zqj{i:Nat}{f:EF}{env:DEnv}{ds:List PyData}{d:PyData}{fr:Bool}(he:env[i]?=some (.ac (.list ds)))(hf:f env=some ⟨d,fr,[]⟩)(hl:ds.length<100000):sApp i f env=some (.nx (env.set i (.ac (.list (ds++[d]))))):=by
 unfold sApp
 rw[he]
 simp only
 rw[hf]
 simp only[qC]
 rw[if_pos ⟨hl,by simp⟩];rfl
theorem zqk(n:Nat):zkx 0 n=(List.range n).map (λ(k:Nat)=>PyData.int (k:Int)):=by
 unfold zkx
 refine qBs λk _=>?_
 show PyData.int (0+(k:Int))=_
 rw[Int.zero_add]
theorem zid(a b:Str):(a++b).length=a.length+b.length:=by
 have:=congrArg List.length (zix a b)
 rw[qY]at this
 simpa [Str.length]using this
theorem zyw:WebOk []:=⟨qBq,λi n es e=>by simp at e,λp hp=>by simp at hp,by simp⟩
theorem zyx{W:Web}{p:Str×List Str}(h:WebOk W)(hn:p.1∉nm W)(he:∀e∈p.2,e∈nm W)(hf:p.2.length<=4)(hl:W.length<12):WebOk (W++[p]):=by
 refine⟨by rw[zyl];exact zwj h.nd hn,λi n es e=>?_,λq hq=>?_,by simp;omega⟩
 ·by_cases hi:i<W.length
  ·rw[qW hi]at e
   rw[qBC (by omega)]
   exact h.el i n es e
  ·rw[qP (by omega)]at e
   have hi2:i - W.length=0:=by
    have:=(qI.mp e).1
    simp at this;omega
   rw[hi2]at e
   cases e
   have:i=W.length:=by omega
   subst this
   rw[qBC (qQ _),List.take_length]
   exact he
 ·rcases qv.mp hq with hq|hq
  ·exact h.few q hq
  ·rw[qAl.mp hq];exact hf
theorem zagr(ds:List PyData)(k:Nat)(h:k<=ds.length):cutD ds none (some (k:Int))=ds.take k:=by
 unfold cutD
 have e1:HT.sIx ds.length 0 none=0:=rfl
 rw[e1,HT.sIx_nat]
 simp
theorem ztu{α:Type}(enc:α->PyData)(l:List α):zsf (l.map enc)=(l.zipIdx).map λ(p:α×Nat)=>PyData.tuple [.int (p.2:Int),enc p.1]:=by
 unfold zsf
 rw[List.zipIdx_map,List.map_map];rfl
theorem zada{α:Type}{l:List α}(nd:l.Nodup){i j:Nat}{hi:i<l.length}{hj:j<l.length}(e:l[i]=l[j]):i=j:=by
 rcases Nat.lt_trichotomy i j with h|h|h
 ·exact absurd e (qCK.mp nd i j hi hj h)
 ·exact h
 ·exact absurd e.symm (qCK.mp nd j i hj hi h)
theorem zmt{α:Type}:∀(l:List α)(i:Nat)(h:i<l.length),(l[i]::l.eraseIdx i).Perm l
 | [],_,h=>by simp at h
 | a::l,0,_=>qCh _
 | a::l,i+1,h=>by
  have hi:i<l.length:=by simpa using h
  have ih:=zmt l i hi
  show(l[i]::a::l.eraseIdx i).Perm (a::l)
  exact(List.Perm.swap a l[i] _).trans (List.Perm.cons a ih)
theorem zql{α β:Type}(f:α->β):∀(l:List α)(i:Nat),(l.map f).eraseIdx i=(l.eraseIdx i).map f
 | [],_=>rfl
 | _::_,0=>rfl
 | a::l,i+1=>by
  show f a::(l.map f).eraseIdx i=f a::(l.eraseIdx i).map f
  rw[zql f l i]
theorem zqm{A B C:Sl}{kk:Nat}{nn:Sl}{xs:List Str}(hx:xs.length<=12):∀(t:Nat)(ls es:List Str)(rs:Int)(s8 s9:Sl),(es++ls).Perm xs->t+es.length<=4->t<=ls.length->
  ∃es' s5 s6 s8' s9',forL (gN 8) (sSeq (sSet 9 (eOp modD (eVar 6) (eCB lenD (zae (eVar 5) aNil)))) (sSeq (sSet 6 (eOp zfh (eVar 6) (eCB lenD (zae (eVar 5) aNil)))) (zib 7 5 (eVar 9)))) ((List.range' es.length t).map λ(k:Nat)=>PyData.int (k:Int)) [A,B,C,.pl (.int (kk:Int)),nn,.ac (zah ls),.pl (.int rs),.ac (zah es),s8,s9] =
   some (.nx [A,B,C,.pl (.int (kk:Int)),nn,s5,s6,.ac (zah es'),s8',s9'])/\es'.Nodup=es'.Nodup/\(∃ls',(es'++ls').Perm xs)/\es'.length=t+es.length
 | 0,ls,es,rs,s8,s9,pm,_,_=>⟨es,_,_,s8,s9,rfl,rfl,⟨ls,pm⟩,by simp⟩
 | t+1,ls,es,rs,s8,s9,pm,h4,hl=>by
  have hls:0<ls.length:=by omega
  have pl:=pm.length_eq
  rw[qY]at pl
  have a0:=qAE rs (show((ls.length:Nat):Int)≠0 by omega)
  have a1:=qAL rs (show(0:Int)<((ls.length:Nat):Int) by omega)
  have hk:(rs % ((ls.length:Nat):Int)).toNat<ls.length:=by omega
  have e9:((rs % ((ls.length:Nat):Int)).toNat:Int)=rs % ((ls.length:Nat):Int):=by omega
  generalize eA:(rs % ((ls.length:Nat):Int)).toNat=at_ at hk e9
  have pm2:((es++[ls[at_]])++ls.eraseIdx at_).Perm xs:=by
   refine List.Perm.trans ?_ pm
   rw[qB4]
   exact List.Perm.append_left es (zmt ls at_ hk)
  obtain⟨es',s5,s6,s8',s9',q,_,hp,hlen⟩:=zqm (A:=A) (B:=B) (C:=C) (kk:=kk) (nn:=nn) hx t (ls.eraseIdx at_) (es++[ls[at_]]) (rs / ((ls.length:Nat):Int)) (.pl (.int (es.length:Int))) (.pl (.int (at_:Int))) pm2 (by simp;omega) (by rw[List.length_eraseIdx_of_lt hk];omega)
  refine⟨es',s5,s6,s8',s9',?_,rfl,hp,by rw[hlen];simp;omega⟩
  rw[List.range'_succ,qAf]
  unfold forL
  simp only[gN,qC,List.set_cons_succ,List.set_cons_zero]
  have st1:sSet 9 (eOp modD (eVar 6) (eCB lenD (zae (eVar 5) aNil))) [A,B,C,.pl (.int (kk:Int)),nn,.ac (zah ls),.pl (.int rs),.ac (zah es),.pl (.int (es.length:Int)),s9]=some (.nx [A,B,C,.pl (.int (kk:Int)),nn,.ac (zah ls),.pl (.int rs),.ac (zah es),.pl (.int (es.length:Int)),.pl (.int (at_:Int))]):=by
   have:=zga (i:=9) (ziy (a:=eVar 6) (env:=[A,B,C,.pl (.int (kk:Int)),nn,.ac (zah ls),.pl (.int rs),.ac (zah es),.pl (.int (es.length:Int)),s9]) rfl (zka (a:=eVar 5) rfl) (by rw[qD];omega))
   rw[this,qD,<- e9];rfl
  have st2:sSet 6 (eOp zfh (eVar 6) (eCB lenD (zae (eVar 5) aNil))) [A,B,C,.pl (.int (kk:Int)),nn,.ac (zah ls),.pl (.int rs),.ac (zah es),.pl (.int (es.length:Int)),.pl (.int (at_:Int))]=some (.nx [A,B,C,.pl (.int (kk:Int)),nn,.ac (zah ls),.pl (.int (rs / ((ls.length:Nat):Int))),.ac (zah es),.pl (.int (es.length:Int)),.pl (.int (at_:Int))]):=by
   have:=zga (i:=6) (zys (a:=eVar 6) (env:=[A,B,C,.pl (.int (kk:Int)),nn,.ac (zah ls),.pl (.int rs),.ac (zah es),.pl (.int (es.length:Int)),.pl (.int (at_:Int))]) rfl (zka (a:=eVar 5) rfl) (by rw[qD];omega) (by rw[qD];omega))
   rw[this,qD];rfl
  have st3:zib 7 5 (eVar 9) [A,B,C,.pl (.int (kk:Int)),nn,.ac (zah ls),.pl (.int (rs / ((ls.length:Nat):Int))),.ac (zah es),.pl (.int (es.length:Int)),.pl (.int (at_:Int))]=some (.nx [A,B,C,.pl (.int (kk:Int)),nn,.ac (zah (ls.eraseIdx at_)),.pl (.int (rs / ((ls.length:Nat):Int))),.ac (zah (es++[ls[at_]])),.pl (.int (es.length:Int)),.pl (.int (at_:Int))]):=by
   simp only[zib,zah,eVar,qBX,qBW,qC]
   rw[if_pos ⟨by omega,by omega,by rw[qD];omega,by decide⟩,qBU,qT,qF hk]
   simp[zql]
  rw[zbd st1 (zbd st2 st3),qC]
  rw[show(es++[ls[at_]]).length=es.length+1 by simp]at q
  exact q
section
variable{a b:EF}{env:DEnv}{x y:Str}
theorem zalm(ha:a env=some (vs x))(hb:b env=some (vs y)):eOp neD a b env=some (vb (!(x==y))):=by
 unfold eOp;rw[ha,hb];rfl
theorem e_in{neg:Bool}{xs:List Str}{fr:Bool}{bs:List Nat}(ha:a env=some (vs x))(hb:b env=some ⟨zah xs,fr,bs⟩):eOp (inD neg) a b env=some (vb (if neg then !decide (x∈xs)else decide (x∈xs))):=by
 unfold eOp;rw[ha,hb];simp[zagi,bsOf,zci]
end
theorem zgw{a:EF}{f:AF}{env:DEnv}{r:Val}{rs:List Val}(ha:a env=some r)(hf:f env=some rs):zae a f env=some (r::rs):=by unfold zae;rw[ha,hf];rfl
theorem zkb{f:EF}{env:DEnv}{c:Bool}(h:f env=some (vb c)):zbb (tTru f) env=some (!c):=by unfold zbb tTru;rw[h];rfl
theorem zabt(cs:List Int)(a b:Nat)(h:b<=cs.length)(hab:a<=b):cutD (cs.map .int) (some (a:Int)) (some (b:Int))=((cs.drop a).take (b - a)).map .int:=by
 unfold cutD
 have e1:min a cs.length=a:=by omega
 have e2:min b cs.length=b:=by omega
 rw[HT.sIx_nat,HT.sIx_nat,qD,e1,e2,<- List.map_drop,<- qBx]
theorem ztv{env:DEnv}{cs:List Int}{b:EF}{n:Nat}(h1:env[1]?=some (.pl (zed cs)))(hb:b env=some (vi (n:Int)))(hn:n<cs.length):eIxV 1 b env=some (vi (cs[n]'hn)):=
 zagm (ds:=cs.map .int) h1 hb (by rw[qT,qF hn];rfl)
theorem ztw:∀(xs:List Str),(∀x∈xs,qA8 x=true)->qA4 (xs.map .str)=true/\qB7 (xs.map .str)=0
 | [],_=>⟨rfl,rfl⟩
 | x::xs,h=>by
  obtain⟨h1,h2⟩:=ztw xs λy hy=>h y (qL _ hy)
  rw[qAf]
  refine⟨?_,?_⟩
  ·show(qA8 x&&qA4 (xs.map .str))=true
   rw[h x qf,h1];rfl
  ·show max 0 (qB7 (xs.map .str))=0
   rw[h2];rfl
theorem zags{W:Web}(h:WebOk W)(hl:∀x∈nm W,Low x):∀p∈W,qA8 p.1=true/\∀e∈p.2,qA8 e=true:=λp hp=>
 ⟨zqg (hl _ (qAH.mpr ⟨p,hp,rfl⟩)),λe he=>zqg (hl e (zabs h (n:=p.1) (es:=p.2) hp e he))⟩
theorem zadb:∀(ks seen:List Key),unl seen ks<=ks.length
 | [],_=>qQ _
 | k::ks,seen=>by
  unfold unl
  have:=zadb ks (k::seen)
  rw[qAw]
  split<;>omega
theorem zadc:∀(ks seen:List Key),unl seen ks=ks.length↔ks.Nodup/\∀k∈ks,k∉seen
 | [],_=>by simp[unl]
 | k::ks,seen=>by
  have l:=zadb ks (k::seen)
  have ih:=zadc ks (k::seen)
  unfold unl
  rw[qAw,qu]
  by_cases hk:k∈seen
  ·rw[if_pos hk]
   constructor
   ·intro z;omega
   ·intro z;exact absurd hk (z.2 k qf)
  ·rw[if_neg hk]
   constructor
   ·intro z
    obtain⟨n,a⟩:=ih.mp (by omega)
    exact⟨⟨λy=>a k y qf,n⟩,λx hx=>by
     rcases qX.mp hx with rfl|hx
     ·exact hk
     ·exact λy=>a x hx (qL _ y)⟩
   ·rintro⟨⟨n1,n2⟩,a⟩
    have:=ih.mpr ⟨n2,λx hx y=>by
     rcases qX.mp y with rfl|y
     ·exact n1 hx
     ·exact a x (qL _ hx) y⟩
    omega
theorem zqn:∀(xs:List Str),zsj (xs.map .str)=some (xs.map Sum.inr)
 | []=>rfl
 | x::xs=>by
  show((keyD (.str x)).bind λk=>(zsj (xs.map .str)).map λks=>k::ks)=_
  rw[zqn xs];rfl
theorem zyy:∀(xs:List Str),(xs.map (Sum.inr:Str->Key)).Nodup↔xs.Nodup
 | []=>by simp
 | x::xs=>by
  rw[qAf,qu,qu,zyy xs]
  simp
theorem zqo{α:Type}(f:α->Bool):∀(l:List α),zmj (l.map λx=>.bool (f x))=some (l.map f)
 | []=>rfl
 | x::l=>by
  show(zmj (l.map λx=>.bool (f x))).map _=_
  rw[zqo f l];rfl
theorem zajz{α:Type}{f:α->Bool}{l:List α}{a:EF}{env:DEnv}{fr:Bool}{bs:List Nat}(ha:a env=some ⟨.list (l.map λx=>.bool (f x)),fr,bs⟩):eCB (anyD λbs=>bs.all id) (zae a aNil) env=some (vb (l.all f)):=by
 unfold eCB
 rw[zfp ha,qC]
 show((zmj (l.map λx=>.bool (f x))).map _).bind _=_
 rw[zqo]
 simp only[Option.map_some,qC,qBj]
 rfl
theorem zss{α:Type}(f:α->Bool)(l:List α):zeg (l.map λx=>.bool (f x))=true:=by
 unfold zeg
 rw[qBj]
 exact qr.mpr λ_ _=>rfl
noncomputable def isH(W:Web)(k o:Str)(xs:List Str):Bool:=((xs.all λx=>decide (x∈nm W))&&decide xs.Nodup)&&((decide (k∈xs)&&!decide (o∈xs))&&xs.all λx=>(upL W x).all λe=>decide (e∈xs))
theorem zaka{a:EF}{env:DEnv}{b c:Bool}{neg:Bool}(h:a env=some (vb b)):eOp (isCD neg) a (eC (.bool c)) env=some (vb (if neg then !(isB (.bool b) c)else isB (.bool b) c)):=by
 unfold eOp;rw[h];rfl
noncomputable def zqp:SF:=(sSeq (sIf (tOrF (zbb (tTru (eIsi "str" (eVar 0)))) (zbb (zbv (zhp leD leD (eC (.int 1)) (eCB lenD (zae (eVar 0) aNil)) (eC (.int 8)))))) (sRet (eC (.bool false))) sNil)
  (sRet (eCB (anyD λbs=>bs.all id) (zae (zpf ["sign"] [] (zpo (eVar 0)) (gN 0) zhm (zhp leS leS (eC (.str "a")) (eVar 0) (eC (.str "z")))) aNil))))
noncomputable def zea:GF:=fnD 1 zqp
noncomputable def zhv(c:Nat):Bool:=(!decide (([c]:List Nat)<("a":Str).cps.toList))&&(!decide (("z":Str).cps.toList<([c]:List Nat)))
theorem zagt{b:EF}{env:DEnv}{i lo hi:Int}(h:b env=some (vi i)):zhp leD leD (eC (.int lo)) b (eC (.int hi)) env=some (vb (decide (lo<=i)&&decide (i<=hi))):=by
 unfold zhp
 rw[h]
 show(if decide (lo<=i)=true then _ else _)=_
 cases decide (lo<=i)<;>rfl
theorem zyz(t:Str)(hl:t.length<=1000):zea [.str t]=some (.bool ((decide (1<=(t.length:Int))&&decide ((t.length:Int)<=8))&&t.cps.toList.all zhv),false):=by
 have e1:tOrF (zbb (tTru (eIsi "str" (eVar 0)))) (zbb (zbv (zhp leD leD (eC (.int 1)) (eCB lenD (zae (eVar 0) aNil)) (eC (.int 8))))) [.pl (.str t)]=some (!(decide (1<=(t.length:Int))&&decide ((t.length:Int)<=8))):=by
  show(zbb (zbv (zhp leD leD (eC (.int 1)) (eCB lenD (zae (eVar 0) aNil)) (eC (.int 8))))) [.pl (.str t)]=_
  unfold zbb
  rw[zew (zagt (zyv rfl (by omega)))]
  rfl
 cases hc:(decide (1<=(t.length:Int))&&decide ((t.length:Int)<=8))with
 | false=>
  rw[hc]at e1
  exact zfo rfl (zhu (if_t e1 rfl))
 | true=>
  rw[hc]at e1
  refine zfo rfl (zbd (if_f e1 rfl) (zms (bs:=[]) ?_))
  show eCB (anyD λbs=>bs.all id) (zae (zpf ["sign"] [] (zpo (eVar 0)) (gN 0) zhm (zhp leS leS (eC (.str "a")) (eVar 0) (eC (.str "z")))) aNil) [.pl (.str t)]=_
  refine zajz (f:=zhv) (fr:=true) (bs:=[]) ?_
  have hf:zeg (t.cps.toList.map λc=>PyData.bool (zhv c))=true:=zss zhv _
  have:=zsr (own:=["sign"]) (fr:=[]) (fi:=zpo (eVar 0)) (g:=gN 0) (t:=zhm) (e:=zhp leS leS (eC (.str "a")) (eVar 0) (eC (.str "z"))) (env:=[.pl (.str t)]) (ds:=zlb t) (bs:=[]) (rs:=t.cps.toList.map λc=>PyData.bool (zhv c)) rfl
   (by unfold zlb;rw[qD];have:t.cps.toList.length=t.length:=(by simp[Str.length]);omega) (zlo (enc:=λc=>PyData.str ⟨#[c]⟩) (out:=λc=>PyData.bool (zhv c)) λc _=>⟨[.pl (.str ⟨#[c]⟩)],rfl,rfl,vb (zhv c),?_,rfl⟩)
  ·rw[this,hf];rfl
  ·show(if(!decide (([c]:List Nat)<("a":Str).cps.toList))=true then _ else _)=_
   unfold zhv
   cases(!decide (([c]:List Nat)<("a":Str).cps.toList))<;>rfl
theorem zqq{d:PyData}(h:isiB "str" d=false):zea [d]=some (.bool false,false):=by
 refine zfo rfl (zhu (if_t ?_ rfl))
 show(tOrF (zbb (tTru (eIsi "str" (eVar 0)))) _) [.pl d]=_
 unfold tOrF zbb tTru
 rw[show eIsi "str" (eVar 0) [.pl d]=some (vb (isiB "str" d))from rfl,h]
 rfl
theorem zza{f g:TF}{env:DEnv}(h1:f env=some false)(h2:g env=some false):tOrF f g env=some false:=by unfold tOrF;rw[h1];exact h2
noncomputable def zep:SF:=(sSeq (sIf (zbb (tTru (eCB (anyD λbs=>bs.all id) (zae (zpf ["thing"] [0] (zfk (eVar 1)) (gN 0) zhm (eOp (inTD false) (eVar 0) (eVar 1))) aNil)))) (sRet (eC (.bool false))) sNil)
  (sRet (eOp eqD (zkz (eVar 1)) (eCB lenD (zae (eVar 1) aNil)))))
noncomputable def zbw:GF:=fnD 2 zep
noncomputable def zgb:SF:=(sSeq (sIf (tOrF (zbb (tTru (eIsi "tuple" (eVar 1)))) (zbv (eOp neD (eCB lenD (zae (eVar 1) aNil)) (eC (.int 2))))) (sRet (eC (.bool false))) sNil)
  (sSeq (sAsg (eVar 1) (gT 2 (zau 2 (zau 3 zek))))
  (sSeq (sIf (tOrF (zbb (tTru (zbt 1 zea (zae (eVar 2) aNil)))) (zbv (eOp (inD false) (eVar 2) (eVar 0)))) (sRet (eC (.bool false))) sNil)
  (sSeq (sIf (tOrF (zbb (tTru (eIsi "list" (eVar 3)))) (zbv (eOp gtD (eCB lenD (zae (eVar 3) aNil)) (eC (.int 4))))) (sRet (eC (.bool false))) sNil)
  (sRet (zbt 2 zbw (zae (eVar 0) (zae (eVar 3) aNil))))))))
noncomputable def zar:GF:=fnD 4 zgb
noncomputable def ziz:SF:=(sRet (zpf ["name","elders"] [] (zfk (eVar 0)) (gT 2 (zau 0 (zau 1 zek))) zhm (eTup (zae (eVar 0) (zae (eCB zim (zae (eVar 1) aNil)) aNil)))))
noncomputable def zcn:GF:=fnD 1 ziz
noncomputable def zqr:SFX:=(xSeq (xIf (tOrF (zbb (tTru (eIsi "list" (eVar 0)))) (zbb (tTru (eVar 0)))) (zmp "NoWeb" (eC .none)) (xOf sNil))
  (xSeq (xOf (sSet 1 (eLst aNil)))
  (xSeq (xFor (zgl (zae (eVar 0) aNil)) (gT 2 (zau 2 (zau 3 zek)))
  (xSeq (xIf (tOrF (zbv (eOp geD (eVar 2) (eC (.int 10)))) (zbb (tTru (zbt 2 zar (zae (eVar 1) (zae (eVar 3) aNil)))))) (zmp "NoWeb" (eVar 2)) (xOf sNil))
  (xOf (sApp 1 (eIxV 3 (eC (.int 0)))))))
  (xOf (sRet (zbt 1 zcn (zae (eVar 0) aNil)))))))
noncomputable def zeb:GFX:=fnX 4 zqr
noncomputable def ztx:SF:=(sSeq (zyi "NoWeb" 1 zeb (zae (eVar 0) aNil) (sRet (eC (.bool false))))
  (sRet (eC (.bool true))))
noncomputable def zcg:GF:=fnD 1 ztx
noncomputable def zty:SF:=(sSeq (sIf (tOrF (zbb (tTru (eIsi "list" (eVar 0)))) (zbb (tTru (eVar 0)))) zkv sNil)
  (sSeq (sSet 1 (eLst aNil))
  (sSeq (sFor (zgl (zae (eVar 0) aNil)) (gT 2 (zau 2 (zau 3 zek)))
  (sSeq (sIf (tOrF (zbv (eOp geD (eVar 2) (eC (.int 10)))) (zbb (tTru (zbt 2 zar (zae (eVar 1) (zae (eVar 3) aNil)))))) zkv sNil)
  (sApp 1 (eIxV 3 (eC (.int 0))))))
  (sRet (zbt 1 zcn (zae (eVar 0) aNil))))))
noncomputable def zko:GF:=fnD 4 zty
noncomputable def zgx:SF:=(sSeq (sIf (tOrF (zbb (tTru (eIsi "list" (eVar 0)))) (zbv (eOp neD (eCB lenD (zae (eVar 0) aNil)) (eCB lenD (zae (eVar 1) aNil))))) (sRet (eC (.bool false))) sNil)
  (sSeq (sFor (zgl (zae (eVar 0) aNil)) (gT 2 (zau 2 (zau 3 zek)))
  (sSeq (sIf (tOrF (zbb (tTru (eIsi "tuple" (eVar 3)))) (tOrF (zbv (eOp neD (eCB lenD (zae (eVar 3) aNil)) (eC (.int 2)))) (zbb (tTru (eIsi "list" (eIxV 3 (eC (.int 1)))))))) (sRet (eC (.bool false))) sNil)
  (sIf (tOrF (zbb (tTru (eIsi "str" (eIxV 3 (eC (.int 0)))))) (tOrF (zbv (eOp neD (eIxV 3 (eC (.int 0))) (eOp ixD (eIxV 1 (eVar 2)) (eC (.int 0))))) (zbv (eOp neD (eIxV 3 (eC (.int 1))) (eOp ixD (eIxV 1 (eVar 2)) (eC (.int 1))))))) (sRet (eC (.bool false))) sNil)))
  (sRet (eC (.bool true)))))
noncomputable def zas:GF:=fnD 4 zgx
noncomputable def zfq:SF:=(sSeq (sSet 3 (eC (.bool false)))
  (sSeq (λenv=>if env.length=4 then zabm ["NoWeb"] 2 1 zeb (zae (eVar 0) aNil) (λxc xd=>(sSet 3 (eAnd (eOp eqD (eC xd) (eVar 1)) (eNot (eIsi "bool" (eC xd)))))) env else none)
  (zwx 3)))
noncomputable def zco:GF:=fnD 4 zfq
noncomputable def zhw:NTF:=(zqc ["name","elders"] [] (zfk (eVar 0)) (gT 2 (zau 0 (zau 1 zek))) zhm (pTup (zda (pLf (eVar 0)) (zda (pFr (eCB zim (zae (eVar 1) aNil))) zmb))))
noncomputable def zdv:GFT:=fnT 1 zhw
noncomputable def zqs:NTF:=(zsq (sIf (tOrF (zbb (tTru (eIsi "list" (eVar 0)))) (zbb (tTru (eVar 0)))) zkv sNil)
  (zsq (sSet 1 (eLst aNil))
  (zsq (sFor (zgl (zae (eVar 0) aNil)) (gT 2 (zau 2 (zau 3 zek)))
  (sSeq (sIf (tOrF (zbv (eOp geD (eVar 2) (eC (.int 10)))) (zbb (tTru (zbt 2 zar (zae (eVar 1) (zae (eVar 3) aNil)))))) zkv sNil)
  (sApp 1 (eIxV 3 (eC (.int 0))))))
  (zabp 1 zdv (zae (eVar 0) aNil)))))
noncomputable def zck:GFT:=fnT 4 zqs
theorem ztz:bootBuiltins "all"=some (.builtin "all"):=by decide +kernel
theorem zzb:bootBuiltins "bool"=some (.type "bool"):=by decide +kernel
theorem zat:bootBuiltins "isinstance"=some (.builtin "isinstance"):=by decide +kernel
theorem zbx:bootBuiltins "len"=some (.builtin "len"):=by decide +kernel
theorem zdj:bootBuiltins "list"=some (.type "list"):=by decide +kernel
theorem zabu:bootBuiltins "min"=some (.builtin "min"):=by decide +kernel
theorem zakq:bootBuiltins "set"=some (.type "set"):=by decide +kernel
theorem zua:bootBuiltins "str"=some (.type "str"):=by decide +kernel
theorem zmu:bootBuiltins "tuple"=some (.type "tuple"):=by decide +kernel
noncomputable def top(i:Nat):Stmt:=PySem.Challenge.pw_bestcalls_k06_webs_made.main.body.getD i (.Pass ⟨0,0,0,0⟩)
structure Txt(mg:Str->Option Value):Prop where
 all:mg "all"=none
 bool:mg "bool"=none
 enumerate:mg "enumerate"=none
 isinstance:mg "isinstance"=none
 len:mg "len"=none
 list:mg "list"=none
 min:mg "min"=none
 range:mg "range"=none
 set:mg "set"=none
 str:mg "str"=none
 tuple:mg "tuple"=none
 MOST_ELDERS:∃t,mg "MOST_ELDERS"=some (.int 4 t)
 MOST_KINDS:∃t,mg "MOST_KINDS"=some (.int 10 t)
 MOST_LETTERS:∃t,mg "MOST_LETTERS"=some (.int 8 t)
noncomputable abbrev zfr:Stmt:=top 7
noncomputable abbrev zqt:List Str:=["thing"]
theorem zve:zqt.Nodup:=by decide +kernel
theorem zvf:FnScope zqt ["thing"] (zak zfr):=⟨rfl,rfl,rfl,zve,rfl,by decide +kernel,by decide +kernel⟩
noncomputable abbrev zbs:Stmt:=top 8
noncomputable abbrev zgy:List Str:=["known","things"]
theorem zke:zgy.Nodup:=by decide +kernel
theorem zkf:FnScope zgy ["known","things"] (zak zbs):=⟨rfl,rfl,rfl,zke,rfl,by decide +kernel,by decide +kernel⟩
noncomputable abbrev zbm:Stmt:=top 9
noncomputable abbrev zgc:List Str:=["ahead","thing","name","elders"]
theorem zdq:zgc.Nodup:=by decide +kernel
theorem zjq:FnScope zgc ["ahead","thing"] (zak zbm):=⟨rfl,rfl,rfl,zdq,rfl,by decide +kernel,by decide +kernel⟩
noncomputable abbrev zby:Stmt:=top 10
noncomputable abbrev zja:List Str:=["web"]
theorem zmc:zja.Nodup:=by decide +kernel
theorem zhx:FnScope zja ["web"] (zak zby):=⟨rfl,rfl,rfl,zmc,rfl,by decide +kernel,by decide +kernel⟩
noncomputable abbrev zfy:Stmt:=top 11
noncomputable abbrev zub:List Str:=["thing","ahead","number","entry"]
theorem zeq:zub.Nodup:=by decide +kernel
theorem zqu:FnScope zub ["thing"] (zak zfy):=⟨rfl,rfl,rfl,zeq,rfl,by decide +kernel,by decide +kernel⟩
noncomputable abbrev zhk:Stmt:=top 12
noncomputable abbrev zuc:List Str:=["thing"]
theorem zzc:zuc.Nodup:=by decide +kernel
theorem zzd:FnScope zuc ["thing"] (zak zhk):=⟨rfl,rfl,rfl,zzc,rfl,by decide +kernel,by decide +kernel⟩
noncomputable abbrev zdr:Stmt:=top 14
noncomputable abbrev zlr:List Str:=["_law_script","_law_many","_law_seed","_law_cell","_law_found","_law_k"]
theorem zdb:zlr.Nodup:=by decide +kernel
theorem zqv:FnScope zlr ["_law_script","_law_many"] (zak zdr):=⟨rfl,rfl,rfl,zdb,rfl,by decide +kernel,by decide +kernel⟩
noncomputable abbrev zds:Stmt:=top 15
noncomputable abbrev zls:List Str:=["_law_many","_law_cell","_law_letters","_law_step","_law_origin","_law_stem","_law_at","_law_names_here","_law_k","_law_sign"]
theorem zbn:zls.Nodup:=by decide +kernel
theorem zqw:FnScope zls ["_law_many","_law_cell"] (zak zds):=⟨rfl,rfl,rfl,zbn,rfl,by decide +kernel,by decide +kernel⟩
noncomputable abbrev zfs:Stmt:=top 16
noncomputable abbrev zqx:List Str:=["_law_cells","_law_names_here","_law_web_here","_law_k","_law_name","_law_left","_law_rest","_law_elders","_law_turn","_law_at"]
theorem zca:zqx.Nodup:=by decide +kernel
theorem zvg:FnScope zqx ["_law_cells","_law_names_here"] (zak zfs):=⟨rfl,rfl,rfl,zca,rfl,by decide +kernel,by decide +kernel⟩
noncomputable abbrev zdt:Stmt:=top 17
noncomputable abbrev zlt:List Str:=["_law_made","_law_web_here","_law_k","_law_row"]
theorem zgz:zlt.Nodup:=by decide +kernel
theorem zqy:FnScope zlt ["_law_made","_law_web_here"] (zak zdt):=⟨rfl,rfl,rfl,zgz,rfl,by decide +kernel,by decide +kernel⟩
noncomputable abbrev zcp:Stmt:=top 18
noncomputable abbrev zjb:List Str:=["_law_thing","_law_place","e","_law_told"]
theorem zdw:zjb.Nodup:=by decide +kernel
theorem zmd:FnScope zjb ["_law_thing","_law_place"] (zak zcp):=⟨rfl,rfl,rfl,zdw,rfl,by decide +kernel,by decide +kernel⟩
noncomputable abbrev zoa:Stmt:=top 19
noncomputable abbrev zakb:List Str:=["_law_script","_law_cells","_law_names_here","_law_web_here","_law_place","_law_handed","_law_first","_law_second","_law_third"]
theorem zjc:zakb.Nodup:=by decide +kernel
theorem zakc:FnScope zakb ["_law_script"] (zak zoa):=⟨rfl,rfl,rfl,zjc,rfl,by decide +kernel,by decide +kernel⟩
noncomputable abbrev zlu:Stmt:=top 11
noncomputable abbrev zlv:List Str:=["thing","ahead","number","entry"]
theorem zex:zlv.Nodup:=by decide +kernel
theorem zqz:FnScope zlv ["thing"] (zak zlu):=⟨rfl,rfl,rfl,zex,rfl,by decide +kernel,by decide +kernel⟩
theorem zob:(["sign"]:List Str).Nodup:=by decide +kernel
theorem zie:(["thing","known"]:List Str).Nodup:=by decide +kernel
theorem zcq:(["name","elders"]:List Str).Nodup:=by decide +kernel
theorem zra:(["_law_name","_law_elders"]:List Str).Nodup:=by decide +kernel
section
variable(P:Program)(w:World)(K:qB)(mg:Str->Option Value)(base:Heap)
noncomputable abbrev zrb:Prop:=Dn P w K mg base "is_name" ["thing"] 1 (spD 1 zea)
noncomputable abbrev zha:Prop:=Dn P w K mg base "are_unlike_of" ["known","things"] 1 (spD 2 zbw)
noncomputable abbrev zcv:Prop:=Dn P w K mg base "is_kind_behind" ["ahead","thing"] 2 (spD 2 zar)
noncomputable abbrev zfz:Prop:=Dn P w K mg base "copy_of_web" ["web"] 1 (spD 1 zcn)
noncomputable abbrev zud:Prop:=Dn P w K mg base "web_of" ["thing"] 3 (spD 1 zko)
noncomputable abbrev zif(cl:Str->Addr):Prop:=DnX P w K mg base "web_of" ["thing"] 3 (spX cl 1 zeb)
noncomputable abbrev zue:Prop:=Dn P w K mg base "is_web" ["thing"] 4 (spD 1 zcg)
noncomputable abbrev zlw:Prop:=Dn P w K mg base "_law_names" ["_law_many","_law_cell"] 1 (spD 2 zeo)
noncomputable abbrev zrc:Prop:=Dn P w K mg base "_law_web" ["_law_cells","_law_names_here"] 1 (spD 2 zgu)
noncomputable abbrev zlx:Prop:=Dn P w K mg base "_law_alike" ["_law_made","_law_web_here"] 1 (spD 2 zas)
noncomputable abbrev zjd:Prop:=Dn P w K mg base "_law_refused" ["_law_thing","_law_place"] 4 (spD 2 zco)
noncomputable abbrev zfd:Prop:=Dn P w K mg base "copy_of_web" ["web"] 1 (spT 1 zdv)
noncomputable abbrev zrd:Prop:=Dn P w K mg base "web_of" ["thing"] 3 (spT 1 zck)
end
section
variable{P:Program}{w:World}{K:qB}{mg:Str->Option Value}{base:Heap}
theorem zvh {f:Addr} {fd:qAB} (F:Fun K "is_name" "is_name" zfr f fd) (T:Txt mg)  : FnOk P w K mg base CX0 1 f fd ["thing"] (spD 1 zea):=by
 refine F.ok zvf (λvs H Q E h=>zfb h) (λcdv A outer s H vs Q E hr h=>?_)
 have hu:=zih hr
 apply Exists.intro
 apply And.intro
 ·refine' Bx.out (zad (zcu (zcy (zaz (zan (K:=K) rfl (bpeB (zch (K:=K) rfl) T.isinstance zat (bpaC (bv 0) (bpaC (zdg (v:=.ty "str") (by rfl) T.str zua rfl (by decide) (by decide)) zac))) (λ_=>rfl))) (zcj (zaz (zxq zahx zahx zam (bpeB (zbj (K:=K) rfl) T.len zbx (bpaC (bv 0) zac)) (zgs (by rfl) T.MOST_LETTERS (by decide)) (by with_unfolding_all rfl))))).pt (zal (zay zdf)) zbf)
 (zal (zay (bpeB (zox (K:=K) rfl rfl) T.all ztz (bpaC (zis (zgi (N':=["sign"]) (own:=["sign"]) (fr:=[]) (by kernel_rfl)) rfl (zaff (bv 0)) ?hb1 (by intro _;rfl)) zac)))))
  case hb1=>(intro cl C s H fp;refine'⟨Bx.out (bpgN (i:=0) zob rfl (Or.inl rfl)),Bx.out zle,Bx.out (zxp zpp zpp zlc (bv 0) zlc (by with_unfolding_all rfl))⟩)
 exact fn_d (f:=zqp) ((zbe (zio (zfi (zbp (zbr (zho (zab 0) zwt))) (zbp (st_t (zth zaiq zaiq (se_c λ_=>zaa) (zfj zeu (zaf (zab 0) zao)) (se_c λ_=>zaa))))) (zdx (se_c λ_=>zag)) zev) (zdx (zfj zacl (zaf (zsh (zajf (zab 0)) znm (zwz (by decide)) zpj (zth zaco zaco (se_c λ_=>zct) (zab 0) (se_c λ_=>zct))) zao))))) h
theorem zkg {f:Addr} {fd:qAB} (F:Fun K "are_unlike_of" "are_unlike_of" zbs f fd) (T:Txt mg)  : FnOk P w K mg base CX0 1 f fd ["known","things"] (spD 2 zbw):=by
 refine F.ok zkf (λvs H Q E h=>zfb h) (λcdv A outer s H vs Q E hr h=>?_)
 have hu:=zih hr
 apply Exists.intro
 apply And.intro
 ·refine' Bx.out (zad (zcu (zaz (zan (K:=K) rfl (bpeB (zox (K:=K) rfl rfl) T.all ztz (bpaC (zis (zgi (N':=["thing","known"]) (own:=["thing"]) (fr:=[0]) (by kernel_rfl)) rfl (zkl (K:=K) rfl (bv 1)) ?hb1 (by intro _;rfl)) zac)) (λ_=>rfl))) (zal (zay zdf)) zbf)
 (zal (zay (zhh (zph (K:=K) rfl hr.units) (zux rfl (by rfl) T.len (by rfl) T.set (bv 1) (zai (by rfl))) (bpeB (zbj (K:=K) rfl) T.len zbx (bpaC (bv 1) zac)) (zdk _)))))
  case hb1=>(intro cl C s H fp;refine'⟨Bx.out (bpgN (i:=0) zie rfl (Or.inl rfl)),Bx.out zle,Bx.out (zhh (zafd (K:=K) rfl hr.units) (bv 0) (bv 1) (by rfl))⟩)
 exact fn_d (f:=zep) ((zbe (zio (zbp (zbr (zfj zacl (zaf (zsh (ztg (zab 1)) znm (zwz (by decide)) zpj (zaw zafe (zab 0) (zab 1))) zao)))) (zdx (se_c λ_=>zag)) zev) (zdx (zaw zwq (zxh (zab 1)) (zfj zeu (zaf (zab 1) zao)))))) h
theorem zjr{f:Addr}{fd:qAB}(F:Fun K "is_kind_behind" "is_kind_behind" zbm f fd)(T:Txt mg)(D_are_unlike_of:zha P w K mg base)(D_is_name:zrb P w K mg base):FnOk P w K mg base CX0 2 f fd ["ahead","thing"] (spD 2 zar):=by
 refine F.ok zjq (λvs H Q E h=>zfb h) (λcdv A outer s H vs Q E hr h=>?_)
 have hu:=zih hr
 apply Exists.intro
 apply And.intro
 ·refine' Bx.out (zad (zcu (zcy (zaz (zan (K:=K) rfl (bpeB (zch (K:=K) rfl) T.isinstance zat (bpaC (bv 1) (bpaC (zdg (v:=.ty "tuple") (by rfl) T.tuple zmu rfl (by decide) (by decide)) zac))) (λ_=>rfl))) (zcj (zcm (zpi (K:=K) rfl hr.units) (bpeB (zbj (K:=K) rfl) T.len zbx (bpaC (bv 1) zac)) zam (zdk _)))).pt (zal (zay zdf)) zbf)
 (zad (zafi (bv 1) (zem (K:=K) (n:=2) rfl rfl (zba (bpgN (i:=2) zdq rfl (Or.inl rfl)) (zba (bpgN (i:=3) zdq rfl (Or.inl rfl)) zel (by rfl)) (by rfl)) (by rfl) (by rfl)) (by rfl) (by rfl) (by rfl))
 (zad (zcu (zcy (zaz (zan (K:=K) rfl (bpeD D_is_name hr (bpaC (bv 2) zac)) (λ_=>rfl))) (zcj (zcm (zaip (K:=K) rfl) (bv 2) (bv 0) (by rfl)))).pt (zal (zay zdf)) zbf)
 (zad (zcu (zcy (zaz (zan (K:=K) rfl (bpeB (zch (K:=K) rfl) T.isinstance zat (bpaC (bv 3) (bpaC (zdg (v:=.ty "list") (by rfl) T.list zdj rfl (by decide) (by decide)) zac))) (λ_=>rfl))) (zcj (zcm zahy (bpeB (zbj (K:=K) rfl) T.len zbx (bpaC (bv 3) zac)) (zgs (by rfl) T.MOST_ELDERS (by decide)) (zdk _)))).pt (zal (zay zdf)) zbf)
 (zal (zay (bpeD D_are_unlike_of hr (bpaC (bv 0) (bpaC (bv 3) zac)))))))))
 exact fn_d (f:=zgb) ((zbe (zio (zfi (zbp (zbr (zho (zab 1) zpb))) (st_t (zaw zwr (zfj zeu (zaf (zab 1) zao)) (se_c λ_=>zaa)))) (zdx (se_c λ_=>zag)) zev) (zbe (zaiv (zab 1) (ziq (zbk (zbk zfx)))) (zbe (zio (zfi (zbp (zbr (zbl (zaf (zab 2) zao)))) (st_t (zaw zalc (zab 2) (zab 0)))) (zdx (se_c λ_=>zag)) zev) (zbe (zio (zfi (zbp (zbr (zho (zab 3) zhe))) (st_t (zaw zair (zfj zeu (zaf (zab 3) zao)) (se_c λ_=>zaa)))) (zdx (se_c λ_=>zag)) zev) (zdx (zbl (zaf (zab 0) (zaf (zab 3) zao))))))))) h
theorem zme {f:Addr} {fd:qAB} (F:Fun K "copy_of_web" "copy_of_web" zby f fd) (T:Txt mg)  : FnOk P w K mg base CX0 1 f fd ["web"] (spD 1 zcn):=by
 refine F.ok zhx (λvs H Q E h=>zfb h) (λcdv A outer s H vs Q E hr h=>?_)
 have hu:=zih hr
 apply Exists.intro
 apply And.intro
 ·refine' Bx.out (zal (zay (zis (zgi (N':=["name","elders"]) (own:=["name","elders"]) (fr:=[]) (by kernel_rfl)) rfl (zkl (K:=K) rfl (bv 0)) ?hb1 (by intro _;rfl))))
  case hb1=>(intro cl C s H fp;refine'⟨Bx.out (zem (K:=K) (n:=2) rfl rfl (zba (bpgN (i:=0) zcq rfl (Or.inl rfl)) (zba (bpgN (i:=1) zcq rfl (Or.inl rfl)) zel (by rfl)) (by rfl)) (by rfl) (by rfl)),Bx.out zle,Bx.out (zld (bpaC (bv 0) (bpaC (bpeT (zjh (K:=K) rfl) T.list zdj (bpaC (bv 1) zac)) zac)))⟩)
 exact fn_d (f:=ziz) ((zdx (zsh (ztg (zab 0)) (ziq (zbk (zbk zfx))) (zxa (zhg (by decide) (zhg (by decide) zsg))) zpj (zws (zaf (zab 0) (zaf (zfj zsc (zaf (zab 1) zao)) zao)))))) h
theorem zze{f:Addr}{fd:qAB}(F:Fun K "web_of" "web_of" zfy f fd)(T:Txt mg)(D_copy_of_web:zfz P w K mg base)(D_is_kind_behind:zcv P w K mg base):FnOk P w K mg base CX0 3 f fd ["thing"] (spD 1 zko):=by
 refine F.ok zqu (λvs H Q E h=>zfb h) (λcdv A outer s H vs Q E hr h=>?_)
 have hu:=zih hr
 apply Exists.intro
 apply And.intro
 ·refine' Bx.out (zad (zcu (zcy (zaz (zan (K:=K) rfl (bpeB (zch (K:=K) rfl) T.isinstance zat (bpaC (bv 0) (bpaC (zdg (v:=.ty "list") (by rfl) T.list zdj rfl (by decide) (by decide)) zac))) (λ_=>rfl))) (zcj (zaz (zan (K:=K) rfl (bv 0) (λ_=>rfl))))).pt (zal zit) zbf)
 (zad (bpsS (i:=1) zeq rfl (Or.inl rfl) (zjm zac))
 (zad (zic qAc rfl (zgt (K:=K) rfl rfl T.enumerate (bpaC (bv 0) zac) (by rfl)) (zem (K:=K) (n:=2) rfl rfl (zba (bpgN (i:=2) zeq rfl (Or.inl rfl)) (zba (bpgN (i:=3) zeq rfl (Or.inl rfl)) zel (by rfl)) (by rfl)) (by rfl) (by rfl))
  (zad (zcu (zcy (zcm zadw (bv 2) (zgs (by rfl) T.MOST_KINDS (by decide)) (zdk _)) (zcj (zaz (zan (K:=K) rfl (bpeD D_is_kind_behind hr (bpaC (bv 1) (bpaC (bv 3) zac))) (λ_=>rfl))))).pt (zal zit) zbf)
 (zal (zcf (zec (K:=K) rfl qU qp qo zbq (bv 1) (bpaC (bpeX (zdc (K:=K) rfl) (bv 3) zam) zac) (by rfl) (by rfl) (by rfl) (zai (by rfl)) (by rfl)) (by rfl)))) (by intro _;rfl))
 (zal (zay (bpeD D_copy_of_web hr (bpaC (bv 0) zac)))))))
 exact fn_d (f:=zty) ((zbe (zio (zfi (zbp (zbr (zho (zab 0) zhe))) (zbp (zbr (zab 0)))) zki zev) (zbe (zdy (zmi zao)) (zbe (zmk (zgp (zaf (zab 0) zao)) (ziq (zbk (zbk zfx))) (zbe (zio (zfi (st_t (zaw zaeo (zab 2) (se_c λ_=>zaa))) (zbp (zbr (zbl (zaf (zab 1) (zaf (zab 3) zao)))))) zki zev) (zkw (zdn (se_c λ_=>zaa))))) (zdx (zbl (zaf (zab 0) zao))))))) h
theorem zre{f:Addr}{fd:qAB}{cl:Str->Addr}(F:Fun K "web_of" "web_of" zlu f fd)(T:Txt mg)(D_copy_of_web:zfz P w K mg base)(D_is_kind_behind:zcv P w K mg base)(X_NoWeb:XcOk P w K mg base "NoWeb" (cl "NoWeb")):FnOk P w K mg base (CXE P w) 3 f fd ["thing"] (spX cl 1 zeb):=by
 refine zajj F zqz (λvs H Q E h=>zafo h) (λcdv A outer s H vs Q E hr h0k h=>?_)
 have hu:=zih hr
 apply Exists.intro
 apply And.intro
 ·refine' Bx.out (zad (zcu (zcy (zaz (zan (K:=K) rfl (bpeB (zch (K:=K) rfl) T.isinstance zat (bpaC (bv 0) (bpaC (zdg (v:=.ty "list") (by rfl) T.list zdj rfl (by decide) (by decide)) zac))) (λ_=>rfl))) (zcj (zaz (zan (K:=K) rfl (bv 0) (λ_=>rfl))))).pt (zal (zpv (C:=cl "NoWeb") X_NoWeb (hr.mono (by decide)) rfl rfl (zact h0k) (by rfl) zafg (by decide) (by rfl))) zbf)
 (zad (bpsS (i:=1) zex rfl (Or.inl rfl) (zjm zac))
 (zad (zic PassesOwn.leaving rfl (zgt (K:=K) rfl rfl T.enumerate (bpaC (bv 0) zac) (by rfl)) (zem (K:=K) (n:=2) rfl rfl (zba (bpgN (i:=2) zex rfl (Or.inl rfl)) (zba (bpgN (i:=3) zex rfl (Or.inl rfl)) zel (by rfl)) (by rfl)) (by rfl) (by rfl))
  (zad (zcu (zcy (zcm zadw (bv 2) (zgs (by rfl) T.MOST_KINDS (by decide)) (zdk _)) (zcj (zaz (zan (K:=K) rfl (bpeD D_is_kind_behind hr (bpaC (bv 1) (bpaC (bv 3) zac))) (λ_=>rfl))))).pt (zal (zpv (C:=cl "NoWeb") X_NoWeb (hr.mono (by decide)) rfl rfl (zact h0k) (by rfl) (bv 2) (by decide) (by rfl))) zbf)
 (zal (zcf (zec (K:=K) rfl qU qp qo zbq (bv 1) (bpaC (bpeX (zdc (K:=K) rfl) (bv 3) zam) zac) (by rfl) (by rfl) (by rfl) (zai (by rfl)) (by rfl)) (by rfl)))) (by intro _;rfl))
 (zal (zay (bpeD D_copy_of_web hr (bpaC (bv 0) zac)))))))
 exact fn_x (f:=zqr) ((znu (zacs (zfi (zbp (zbr (zho (zab 0) zhe))) (zbp (zbr (zab 0)))) (zpu (se_c λ_=>zji)) (zpt zev)) (znu (zpt (zdy (zmi zao))) (znu (zafn (zgp (zaf (zab 0) zao)) (ziq (zbk (zbk zfx))) (znu (zacs (zfi (st_t (zaw zaeo (zab 2) (se_c λ_=>zaa))) (zbp (zbr (zbl (zaf (zab 1) (zaf (zab 3) zao)))))) (zpu (zab 2)) (zpt zev)) (zpt (zkw (zdn (se_c λ_=>zaa)))))) (zpt (zdx (zbl (zaf (zab 0) zao)))))))) h
theorem zzf {f:Addr} {fd:qAB} {cl:Str->Addr} (F:Fun K "is_web" "is_web" zhk f fd) (T:Txt mg) (D_web_of__X:zif P w K mg base cl)  (X_NoWeb:XcOk P w K mg base "NoWeb" (cl "NoWeb")):FnOk P w K mg base CX0 4 f fd ["thing"] (spD 1 zcg):=by
 refine F.ok zzd (λvs H Q E h=>zfb h) (λcdv A outer s H vs Q E hr h=>?_)
 have hu:=zih hr
 apply Exists.intro
 apply And.intro
 ·refine' Bx.out (zad (zabo D_web_of__X X_NoWeb (hr.mono (by decide)) (by rfl) (bpaC (bv 0) zac) rfl rfl (by rfl) (λ_=>(zal (zay zdf))) (by decide) (by decide) (zai (by rfl)) (by rfl) (by rfl))
 (zal (zay zdf)))
 exact fn_d (f:=ztx) ((zbe (zagd (cl:=cl) (zaf (zab 0) zao) (zdx (se_c λ_=>zag))) (zdx (se_c λ_=>zag)))) h
theorem zrf {f:Addr} {fd:qAB} (F:Fun K "_law_names" "_law_names" zds f fd) (T:Txt mg)  : FnOk P w K mg base CX0 1 f fd ["_law_many","_law_cell"] (spD 2 zeo):=by
 refine F.ok zqw (λvs H Q E h=>zfb h) (λcdv A outer s H vs Q E hr h=>?_)
 have hu:=zih hr
 apply Exists.intro
 apply And.intro
 ·refine' Bx.out (zad (bpsS (i:=2) zbn rfl (Or.inl rfl) zlc)
 (zad (bpsS (i:=3) zbn rfl (Or.inl rfl) (bpeX (zdc (K:=K) rfl) (zld (bpaC zam (bpaC zam (bpaC zam (bpaC zam (bpaC zam (bpaC zam (bpaC zam (bpaC zam zac))))))))) (zax zcw (zax zft (bv 1) zam) zam)))
 (zad (bpsS (i:=4) zbn rfl (Or.inl rfl) (zax zcw (zax zft (bv 1) zam) zam))
 (zad (bpsS (i:=5) zbn rfl (Or.inl rfl) (zax zfu (bpeX (zdc (K:=K) rfl) (bv 2) (zax zcw (zax zft (bv 1) zam) zam)) (zax zcw (zax zft (bv 1) zam) zam)))
 (zad (bpsS (i:=6) zbn rfl (Or.inl rfl) (zax zcw (zax zft (bv 1) zam) (zax (zcl (K:=K) rfl) (bpeB (zbj (K:=K) rfl) T.len zbx (bpaC (bv 5) zac)) zam)))
 (zad (bpsS (i:=7) zbn rfl (Or.inl rfl) (zjm zac))
 (zad (zic qAc rfl (zmn rfl T.range (bpaC (bv 0) zac) (by rfl)) (bpgN (i:=8) zbn rfl (Or.inl rfl))
  (zad (bpsS (i:=9) zbn rfl (Or.inl rfl) (bpeX (zdc (K:=K) rfl) (bv 2) (zax zcw (zax (zcl (K:=K) rfl) (bv 4) (zax zfu (bv 3) (bv 8))) zam)))
 (zal (zcu (zcm (zph (K:=K) rfl hr.units) (zax zcw (bv 1) zam) zam (zdk _)) (zal (zcf (zec (K:=K) rfl qU qp qo zbq (bv 7) (bpaC (zax (zcl (K:=K) rfl) (zax (zcl (K:=K) rfl) (zgr (zus (K:=K) rfl) (bv 5) zkk (zhi (bv 6))) (bv 9)) (zgr (zus (K:=K) rfl) (bv 5) (zhi (bv 6)) zkk)) zac) (by rfl) (by rfl) (by rfl) (zai (by rfl)) (by rfl)) (by rfl))) (zal (zcu (zcm (zph (K:=K) rfl hr.units) (zax zcw (bv 1) zam) zam (zdk _)) (zal (zcf (zec (K:=K) rfl qU qp qo zbq (bv 7) (bpaC (zax (zcl (K:=K) rfl) (zgr (zus (K:=K) rfl) (bv 5) zkk (zhi (zax zcw (zax zfu (bv 8) (bv 3)) (zax (zcl (K:=K) rfl) (bpeB (zbj (K:=K) rfl) T.len zbx (bpaC (bv 5) zac)) zam)))) (bv 9)) zac) (by rfl) (by rfl) (by rfl) (zai (by rfl)) (by rfl)) (by rfl))) (zal (zcf (zec (K:=K) rfl qU qp qo zbq (bv 7) (bpaC (zax zfu (bpeX (zdc (K:=K) rfl) (bv 2) (zax zcw (zax (zcl (K:=K) rfl) (bv 4) (zax zft (bv 8) zam)) zam)) (zax (zcl (K:=K) rfl) zam (zax zcw (zax zfu (bv 8) (bv 3)) zam))) zac) (by rfl) (by rfl) (by rfl) (zai (by rfl)) (by rfl)) (by rfl)))))))) (by intro _;rfl))
 (zal (zay (bv 7))))))))))
 exact fn_d (f:=zln) ((zbe (zdy (se_c λ_=>zct)) (zbe (zdy (zaw zaat (zws (zaf (se_c λ_=>zaa) (zaf (se_c λ_=>zaa) (zaf (se_c λ_=>zaa) (zaf (se_c λ_=>zaa) (zaf (se_c λ_=>zaa) (zaf (se_c λ_=>zaa) (zaf (se_c λ_=>zaa) (zaf (se_c λ_=>zaa) zao))))))))) (zaw zef (zaw zgk (zab 1) (se_c λ_=>zaa)) (se_c λ_=>zaa)))) (zbe (zdy (zaw zef (zaw zgk (zab 1) (se_c λ_=>zaa)) (se_c λ_=>zaa))) (zbe (zdy (zaw zoy (zdn (zaw zef (zaw zgk (zab 1) (se_c λ_=>zaa)) (se_c λ_=>zaa))) (zaw zef (zaw zgk (zab 1) (se_c λ_=>zaa)) (se_c λ_=>zaa)))) (zbe (zdy (zaw zef (zaw zgk (zab 1) (se_c λ_=>zaa)) (zaw zik (zfj zeu (zaf (zab 5) zao)) (se_c λ_=>zaa)))) (zbe (zdy (zmi zao)) (zbe (zmk (zpc (zaf (zab 0) zao)) znm (zbe (zdy (zdn (zaw zef (zaw zik (zab 4) (zaw zoy (zab 3) (zab 8))) (se_c λ_=>zaa)))) (zio (st_t (zaw zwq (zaw zef (zab 1) (se_c λ_=>zaa)) (se_c λ_=>zaa))) (zkw (zaw zik (zaw zik (zwu (zab 5) znk (zjj (zab 6))) (zab 9)) (zwu (zab 5) (zjj (zab 6)) znk))) (zio (st_t (zaw zwq (zaw zef (zab 1) (se_c λ_=>zaa)) (se_c λ_=>zaa))) (zkw (zaw zik (zwu (zab 5) znk (zjj (zaw zef (zaw zoy (zab 8) (zab 3)) (zaw zik (zfj zeu (zaf (zab 5) zao)) (se_c λ_=>zaa))))) (zab 9))) (zkw (zaw zoy (zdn (zaw zef (zaw zik (zab 4) (zaw zgk (zab 8) (se_c λ_=>zaa))) (se_c λ_=>zaa))) (zaw zik (se_c λ_=>zaa) (zaw zef (zaw zoy (zab 8) (zab 3)) (se_c λ_=>zaa))))))))) zse)))))))) h
theorem zvi {f:Addr} {fd:qAB} (F:Fun K "_law_web" "_law_web" zfs f fd) (T:Txt mg)  : FnOk P w K mg base CX0 1 f fd ["_law_cells","_law_names_here"] (spD 2 zgu):=by
 refine F.ok zvg (λvs H Q E h=>zfb h) (λcdv A outer s H vs Q E hr h=>?_)
 have hu:=zih hr
 apply Exists.intro
 apply And.intro
 ·refine' Bx.out (zad (bpsS (i:=2) zca rfl (Or.inl rfl) (zjm zac))
 (zad (zic qAc rfl (zgt (K:=K) rfl rfl T.enumerate (bpaC (bv 1) zac) (by rfl)) (zem (K:=K) (n:=2) rfl rfl (zba (bpgN (i:=3) zca rfl (Or.inl rfl)) (zba (bpgN (i:=4) zca rfl (Or.inl rfl)) zel (by rfl)) (by rfl)) (by rfl) (by rfl))
  (zad (bpsS (i:=5) zca rfl (Or.inl rfl) (zgr (zus (K:=K) rfl) (bv 1) zkk (zhi (bv 3))))
 (zad (bpsS (i:=6) zca rfl (Or.inl rfl) (zax zft (bpeX (zdc (K:=K) rfl) (bv 0) (bv 3)) zam))
 (zad (bpsS (i:=7) zca rfl (Or.inl rfl) (zjm zac))
 (zad (zic qAc rfl (zmn rfl T.range (bpaC (bpeB (zvu rfl) T.min zabu (bpaC (zax zcw (bpeX (zdc (K:=K) rfl) (bv 0) (bv 3)) zam) (bpaC (bv 3) zac))) zac) (by rfl)) (bpgN (i:=8) zca rfl (Or.inl rfl))
  (zad (bpsS (i:=9) zca rfl (Or.inl rfl) (zax zcw (bv 6) (bpeB (zbj (K:=K) rfl) T.len zbx (bpaC (bv 5) zac))))
 (zad (bpsS (i:=6) zca rfl (Or.inl rfl) (zax zft (bv 6) (bpeB (zbj (K:=K) rfl) T.len zbx (bpaC (bv 5) zac))))
 (zal (zcf (zec (K:=K) rfl qU qp qo zbq (bv 7) (bpaC (zec (K:=K) rfl qU qA6 qA5 ztb (bv 5) (bpaC (bv 9) zac) (by rfl) (by rfl) (by rfl) (zai (by rfl)) (by rfl)) zac) (by rfl) (by rfl) (by rfl) (zai (by rfl)) (by rfl)) (by rfl))))) (by intro _;rfl))
 (zal (zcf (zec (K:=K) rfl qU qp qo zbq (bv 2) (bpaC (zld (bpaC (bv 4) (bpaC (bv 7) zac))) zac) (by rfl) (by rfl) (by rfl) (zai (by rfl)) (by rfl)) (by rfl))))))) (by intro _;rfl))
 (zal (zay (bv 2)))))
 exact fn_d (f:=zqd) ((zbe (zdy (zmi zao)) (zbe (zmk (zgp (zaf (zab 1) zao)) (ziq (zbk (zbk zfx))) (zbe (zdy (zwu (zab 1) znk (zjj (zab 3)))) (zbe (zdy (zaw zgk (zdn (zab 3)) (se_c λ_=>zaa))) (zbe (zdy (zmi zao)) (zbe (zmk (zpc (zaf (zfj zait (zaf (zaw zef (zdn (zab 3)) (se_c λ_=>zaa)) (zaf (zab 3) zao))) zao)) znm (zbe (zdy (zaw zef (zab 6) (zfj zeu (zaf (zab 5) zao)))) (zbe (zdy (zaw zgk (zab 6) (zfj zeu (zaf (zab 5) zao)))) (zxd (zab 9))))) (zkw (zws (zaf (zab 4) (zaf (zab 7) zao))))))))) zse))) h
theorem zrg {f:Addr} {fd:qAB} (F:Fun K "_law_alike" "_law_alike" zdt f fd) (T:Txt mg)  : FnOk P w K mg base CX0 1 f fd ["_law_made","_law_web_here"] (spD 2 zas):=by
 refine F.ok zqy (λvs H Q E h=>zfb h) (λcdv A outer s H vs Q E hr h=>?_)
 have hu:=zih hr
 apply Exists.intro
 apply And.intro
 ·refine' Bx.out (zad (zcu (zcy (zaz (zan (K:=K) rfl (bpeB (zch (K:=K) rfl) T.isinstance zat (bpaC (bv 0) (bpaC (zdg (v:=.ty "list") (by rfl) T.list zdj rfl (by decide) (by decide)) zac))) (λ_=>rfl))) (zcj (zcm (zpi (K:=K) rfl hr.units) (bpeB (zbj (K:=K) rfl) T.len zbx (bpaC (bv 0) zac)) (bpeB (zbj (K:=K) rfl) T.len zbx (bpaC (bv 1) zac)) (zdk _)))).pt (zal (zay zdf)) zbf)
 (zad (zic qAc rfl (zgt (K:=K) rfl rfl T.enumerate (bpaC (bv 0) zac) (by rfl)) (zem (K:=K) (n:=2) rfl rfl (zba (bpgN (i:=2) zgz rfl (Or.inl rfl)) (zba (bpgN (i:=3) zgz rfl (Or.inl rfl)) zel (by rfl)) (by rfl)) (by rfl) (by rfl))
  (zad (zcu (zcy (zaz (zan (K:=K) rfl (bpeB (zch (K:=K) rfl) T.isinstance zat (bpaC (bv 3) (bpaC (zdg (v:=.ty "tuple") (by rfl) T.tuple zmu rfl (by decide) (by decide)) zac))) (λ_=>rfl))) (zcy (zcm (zpi (K:=K) rfl hr.units) (bpeB (zbj (K:=K) rfl) T.len zbx (bpaC (bv 3) zac)) zam (zdk _)) (zcj (zaz (zan (K:=K) rfl (bpeB (zch (K:=K) rfl) T.isinstance zat (bpaC (bpeX (zdc (K:=K) rfl) (bv 3) zam) (bpaC (zdg (v:=.ty "list") (by rfl) T.list zdj rfl (by decide) (by decide)) zac))) (λ_=>rfl)))))).pt (zal (zay zdf)) zbf)
 (zal (zcu (zcy (zaz (zan (K:=K) rfl (bpeB (zch (K:=K) rfl) T.isinstance zat (bpaC (bpeX (zdc (K:=K) rfl) (bv 3) zam) (bpaC (zdg (v:=.ty "str") (by rfl) T.str zua rfl (by decide) (by decide)) zac))) (λ_=>rfl))) (zcy (zcm (zpi (K:=K) rfl hr.units) (bpeX (zdc (K:=K) rfl) (bv 3) zam) (bpeX (zdc (K:=K) rfl) (bpeX (zdc (K:=K) rfl) (bv 1) (bv 2)) zam) (zdk _)) (zcj (zcm (zpi (K:=K) rfl hr.units) (bpeX (zdc (K:=K) rfl) (bv 3) zam) (bpeX (zdc (K:=K) rfl) (bpeX (zdc (K:=K) rfl) (bv 1) (bv 2)) zam) (zdk _))))).pt (zal (zay zdf)) zbf))) (by intro _;rfl))
 (zal (zay zdf))))
 exact fn_d (f:=zgx) ((zbe (zio (zfi (zbp (zbr (zho (zab 0) zhe))) (st_t (zaw zwr (zfj zeu (zaf (zab 0) zao)) (zfj zeu (zaf (zab 1) zao))))) (zdx (se_c λ_=>zag)) zev) (zbe (zmk (zgp (zaf (zab 0) zao)) (ziq (zbk (zbk zfx))) (zbe (zio (zfi (zbp (zbr (zho (zab 3) zpb))) (zfi (st_t (zaw zwr (zfj zeu (zaf (zab 3) zao)) (se_c λ_=>zaa))) (zbp (zbr (zho (zdn (se_c λ_=>zaa)) zhe))))) (zdx (se_c λ_=>zag)) zev) (zio (zfi (zbp (zbr (zho (zdn (se_c λ_=>zaa)) zwt))) (zfi (st_t (zaw zwr (zdn (se_c λ_=>zaa)) (zaw zaat (zdn (zab 2)) (se_c λ_=>zaa)))) (st_t (zaw zwr (zdn (se_c λ_=>zaa)) (zaw zaat (zdn (zab 2)) (se_c λ_=>zaa)))))) (zdx (se_c λ_=>zag)) zev))) (zdx (se_c λ_=>zag))))) h
theorem zmf{f:Addr}{fd:qAB}{cl:Str->Addr}(F:Fun K "_law_refused" "_law_refused" zcp f fd)(T:Txt mg)(D_web_of__X:zif P w K mg base cl)(XK:XKit P w K mg base cl ["NoWeb"] [] "NoWeb"):FnOk P w K mg base CX0 4 f fd ["_law_thing","_law_place"] (spD 2 zco):=by
 refine F.ok zmd (λvs H Q E h=>zfb h) (λcdv A outer s H vs Q E hr h=>?_)
 have hu:=zih hr
 apply Exists.intro
 apply And.intro
 ·refine' Bx.out (zad (bpsS (i:=3) zdw rfl (Or.inl rfl) zdf)
 (zad (zabn (j:=2) D_web_of__X XK (hr.mono (by decide)) (by rfl) (bpaC (bv 0) zac) zdw rfl rfl rfl rfl (by rfl) (λ_ _ _ hxm hxcl=>(zal (bpsS (i:=3) zdw rfl (Or.inl rfl) (zxo (zhh (zph (K:=K) rfl hr.units) (ztp (K:=K) rfl hxm (bv 2) (by rfl)) (bv 1) (zdk _)) (zxn (zafh (bpeB (zch (K:=K) rfl) T.isinstance zat (bpaC (ztp (K:=K) rfl hxm (bv 2) (by rfl)) (bpaC (zdg (v:=.ty "bool") (by rfl) T.bool zzb rfl (by decide) (by decide)) zac))))))))) (by decide) (by decide) (zai (by rfl)) (by rfl) (by rfl))
 (zal (zay (bv 3)))))
 exact fn_d (f:=zfq) ((zbe (zdy (se_c λ_=>zag)) (zbe (zagb (cl:=cl) 4 (by decide) (zaf (zab 0) zao) (by intro xc hxc xd;exact(zaga (i:=3) (j:=2) (zage (zajq zwq zacy (zajp (zab 1))) (zagf (zagg zacy zaau))) (by decide)))) zse))) h
theorem zly {f:Addr} {fd:qAB} (F:Fun K "copy_of_web" "copy_of_web" zby f fd) (T:Txt mg)  : FnOk P w K mg base CX0 1 f fd ["web"] (spT 1 zdv):=by
 refine F.ok zhx (λvs H Q E h=>zyj h) (λcdv A outer s H vs Q E hr h=>?_)
 have hu:=zih hr
 apply Exists.intro
 apply And.intro
 ·refine' Bx.out (zal (zay (zis (zgi (N':=["name","elders"]) (own:=["name","elders"]) (fr:=[]) (by kernel_rfl)) rfl (zkl (K:=K) rfl (bv 0)) ?hb1 (by intro _;rfl))))
  case hb1=>(intro cl C s H fp;refine'⟨Bx.out (zem (K:=K) (n:=2) rfl rfl (zba (bpgN (i:=0) zcq rfl (Or.inl rfl)) (zba (bpgN (i:=1) zcq rfl (Or.inl rfl)) zel (by rfl)) (by rfl)) (by rfl) (by rfl)),Bx.out zle,Bx.out (zld (bpaC (bv 0) (bpaC (bpeT (zjh (K:=K) rfl) T.list zdj (bpaC (bv 1) zac)) zac)))⟩)
 exact zajw (E:=E) (E':=E0) (f:=zhw) ((zyk (zto (ztg (zab 0)) (ziq (zbk (zbk zfx))) (zxa (zhg (by decide) (zhg (by decide) zsg))) zpj (zyf (zkm (zacv (zab 0)) (zkm (zacw (zfj zsc (zaf (zab 1) zao))) zye)))))) h
theorem zvj{f:Addr}{fd:qAB}(F:Fun K "web_of" "web_of" zfy f fd)(T:Txt mg)(DT_copy_of_web:zfd P w K mg base)(D_is_kind_behind:zcv P w K mg base):FnOk P w K mg base CX0 3 f fd ["thing"] (spT 1 zck):=by
 refine F.ok zqu (λvs H Q E h=>zyj h) (λcdv A outer s H vs Q E hr h=>?_)
 have hu:=zih hr
 apply Exists.intro
 apply And.intro
 ·refine' Bx.out (zad (zcu (zcy (zaz (zan (K:=K) rfl (bpeB (zch (K:=K) rfl) T.isinstance zat (bpaC (bv 0) (bpaC (zdg (v:=.ty "list") (by rfl) T.list zdj rfl (by decide) (by decide)) zac))) (λ_=>rfl))) (zcj (zaz (zan (K:=K) rfl (bv 0) (λ_=>rfl))))).pt (zal zit) zbf)
 (zad (bpsS (i:=1) zeq rfl (Or.inl rfl) (zjm zac))
 (zad (zic qAc rfl (zgt (K:=K) rfl rfl T.enumerate (bpaC (bv 0) zac) (by rfl)) (zem (K:=K) (n:=2) rfl rfl (zba (bpgN (i:=2) zeq rfl (Or.inl rfl)) (zba (bpgN (i:=3) zeq rfl (Or.inl rfl)) zel (by rfl)) (by rfl)) (by rfl) (by rfl))
  (zad (zcu (zcy (zcm zadw (bv 2) (zgs (by rfl) T.MOST_KINDS (by decide)) (zdk _)) (zcj (zaz (zan (K:=K) rfl (bpeD D_is_kind_behind hr (bpaC (bv 1) (bpaC (bv 3) zac))) (λ_=>rfl))))).pt (zal zit) zbf)
 (zal (zcf (zec (K:=K) rfl qU qp qo zbq (bv 1) (bpaC (bpeX (zdc (K:=K) rfl) (bv 3) zam) zac) (by rfl) (by rfl) (by rfl) (zai (by rfl)) (by rfl)) (by rfl)))) (by intro _;rfl))
 (zal (zay (bpeD DT_copy_of_web hr (bpaC (bv 0) zac)))))))
 exact zajw (E:=E) (E':=E0) (f:=zqs) ((znz (zio (zfi (zbp (zbr (zho (zab 0) zhe))) (zbp (zbr (zab 0)))) zki zev) (znz (zdy (zmi zao)) (znz (zmk (zgp (zaf (zab 0) zao)) (ziq (zbk (zbk zfx))) (zbe (zio (zfi (st_t (zaw zaeo (zab 2) (se_c λ_=>zaa))) (zbp (zbr (zbl (zaf (zab 1) (zaf (zab 3) zao)))))) zki zev) (zkw (zdn (se_c λ_=>zaa))))) (zyk (zabq (zaf (zab 0) zao))))))) h
end
noncomputable def knB(N:List Str):PyData->Bool
 | .str z=>decide (z∈N)
 | _=>false
theorem zzg(N:List Str)(d:PyData):((N.map PyData.str).any λe=>qh e d)=knB N d:=by
 cases d with
 | str z=>exact zts N z
 | _=>
  rw[List.any_map]
  exact List.any_eq_false.mpr λx _=>by simp[qh]
section
variable{a b:EF}{env:DEnv}
theorem zaln{neg:Bool}{d c:PyData}{ds:List PyData}{f1 f2:Bool}{b1 b2:List Nat}(ha:a env=some ⟨d,f1,b1⟩)(hb:b env=some ⟨c,f2,b2⟩)(hi:zil c=some ds)(h:znr d=true\/ds.all znr=true):eOp (inTD neg) a b env=some (vb (if neg then !(ds.any λe=>qh e d)else ds.any λe=>qh e d)):=by
 unfold eOp;rw[ha,hb]
 simp only[qC,inTD]
 rw[hi]
 simp only
 rw[if_pos h];rfl
end
theorem zzh(xs:List Str):(xs.map PyData.str).all znr=true:=by
 rw[qBj];exact qr.mpr λ_ _=>rfl
noncomputable def unS:List PyData->Option (List Str)
 | []=>some []
 | .str x::r=>(unS r).map λxs=>x::xs
 | _::_=>none
theorem zoc:∀{ds:List PyData}{xs:List Str},unS ds=some xs->ds=xs.map .str
 | [],xs,h=>by cases h;rfl
 | d::r,xs,h=>by
  cases d with
  | str x=>
   obtain⟨ys,hy,rfl⟩:=qG.mp h
   rw[zoc hy];rfl
  | _=>cases h
theorem zuf:∀{ds:List PyData},unS ds=none->∃d∈ds,znr d=false
 | [],h=>by cases h
 | d::r,h=>by
  cases d with
  | str x=>
   have:unS r=none:=by
    cases hr:unS r with
    | none=>rfl
    | some xs=>unfold unS at h;rw[hr]at h;cases h
   obtain⟨e,he,f⟩:=zuf this
   exact⟨e,qL _ he,f⟩
  | _=>exact⟨_,qf,rfl⟩
noncomputable def zalo(W:Web)(k o:Str):PyData->Bool
 | .list ds=>match unS ds with
  | some xs=>isH W k o xs
  | none=>false
 | _=>false
theorem zrh{N:List Str}{ds:List PyData}(hl:ds.length<4000):zbw [zah N,.list ds]=some (.bool (match unS ds with|some xs=>(xs.all λx=>decide (x∈N))&&decide xs.Nodup|none=>false),false):=by
 have c:zjl (gN 0) zhm (eOp (inTD false) (eVar 0) (eVar 1)) [.no,.pl (zah N)] (ds.map id)=some (ds.map λd=>PyData.bool (knB N d)):=by
  refine zlo (enc:=id) (out:=λd=>PyData.bool (knB N d)) λd _=>⟨[.pl d,.pl (zah N)],rfl,rfl,vb (knB N d),?_,rfl⟩
  rw[zaln (neg:=false) (c:=zah N) (ds:=N.map .str) (f1:=false) (f2:=false) (b1:=[]) (b2:=[]) rfl rfl rfl (.inr (zzh _)),zzg]
  rfl
 rw[List.map_id]at c
 have al:=zajz (f:=knB N) (zsr (env:=[.pl (zah N),.pl (.list ds)]) (own:=["thing"]) (fr:=[0]) (fi:=zfk (eVar 1)) (ds:=ds) (bs:=[]) rfl (by omega) c)
 have t:=zkb al
 cases hu:unS ds with
 | none=>
  obtain⟨d,hd,f⟩:=zuf hu
  have:ds.all (knB N)=false:=by
   rw[<- Bool.not_eq_true,qr]
   intro h
   have:=h d hd
   cases d<;>first|cases this|(exact absurd (show true=false from f) (by decide))
  rw[this]at t
  exact zfo rfl (zhu (if_t t rfl))
 | some xs=>
  have e:=zoc hu
  subst e
  have ea:(xs.map PyData.str).all (knB N)=xs.all λx=>decide (x∈N):=by rw[qBj];rfl
  rw[ea]at t
  show _=some (PyData.bool ((xs.all λx=>decide (x∈N))&&decide xs.Nodup),false)
  cases hx:(xs.all λx=>decide (x∈N))with
  | false=>
   rw[hx]at t
   exact zfo rfl (zhu (if_t t rfl))
  | true=>
   rw[hx]at t
   refine zfo rfl (zbd (if_f t rfl) (zms (bs:=[]) ?_))
   rw[qD]at hl
   show eOp eqD (zkz (eVar 1)) (eCB lenD (zae (eVar 1) aNil)) [.pl (zah N),.pl (zah xs)]=_
   have e1:zkz (eVar 1) [.pl (zah N),.pl (zah xs)]=some (vi (unl [] (xs.map Sum.inr))):=by
    show((zsj (xs.map .str)).bind λks=>if(xs.map PyData.str).length<4000 then some (⟨.int (unl [] ks),false,[]⟩:Val)else none)=_
    rw[zqn,qC,if_pos (by rw[qD];exact hl)]
   have e2:eCB lenD (zae (eVar 1) aNil) [.pl (zah N),.pl (zah xs)]=some (vi (xs.map PyData.str).length):=zka rfl
   rw[zvd e1 e2,qBz]
   have:(((unl [] (xs.map Sum.inr):Nat):Int)==(((xs.map PyData.str).length:Nat):Int))=decide xs.Nodup:=by
    rw[qAQ,beq_iff_eq,decide_eq_true_iff,qD]
    have q:=zadc (xs.map Sum.inr) []
    rw[qD]at q
    constructor
    ·intro z;exact(zyy xs).mp (q.mp (by omega)).1
    ·intro z
     have:=q.mpr ⟨(zyy xs).mpr z,λ_ _ y=>by simp at y⟩
     omega
   rw[this]
theorem zzi{x:Str}{l u:Option Int}{c:Nat}(h:c∈(Txt.slice x l u).cps.toList):c∈x.cps.toList:=by
 unfold Txt.slice at h
 split at h
 ·exact h
 ·have h:c∈(List.filterMap (x.cps[·]?) (Builtin.Str.strSliceIndices l u 1 x.length)):=by simpa using h
  obtain⟨i,_,e⟩:=qBK.mp h
  have:=qCV e
  simpa using this
theorem zalp{a b:EF}{env:DEnv}{i j:Int}(ha:a env=some (vi i))(hb:b env=some (vi j)):eOp gtD a b env=some (vb (decide (j<i))):=by
 unfold eOp;rw[ha,hb];rfl
theorem zzj(x:Str)(a b:Nat)(hb:b<=x.length):(((List.range (b - a)).map λk=>a+k).filterMap (x.cps[·]?)).length=b - a:=by
 have:((List.range (b - a)).map λk=>a+k).filterMap (x.cps[·]?)=((List.range (b - a)).map λk=>a+k).map λi=>x.cps[i]?.getD 0:=by
  have g:∀l:List Nat,(∀i∈l,i<x.cps.size)->l.filterMap (x.cps[·]?)=l.map λi=>x.cps[i]?.getD 0:=by
   intro l
   induction l with
   | nil=>intro _;rfl
   | cons i l ih=>
    intro h
    have hi:=h i qf
    rw[qBH,qBM hi,qAf,ih λj hj=>h j (qL _ hj),qBM hi]
    rfl
  refine g _ λi hi=>?_
  obtain⟨k,hk,rfl⟩:=qAH.mp hi
  have hk:=qAX.mp hk
  have:x.length=x.cps.size:=rfl
  omega
 rw[this,qD,qD,qB2]
theorem zagu(n a:Nat):Builtin.Str.strSliceIndices none (some (a:Int)) 1 n=(List.range (min a n - 0)).map λk=>0+k:=by
 unfold Builtin.Str.strSliceIndices sliceRange
 simp only[show(1:Int) > 0 by decide,if_true]
 rw[if_neg (show ¬((a:Int)<0) by omega)]
 have e:(max 0 (min (a:Int) (n:Int)))=((min a n:Nat):Int):=by omega
 rw[e]
 by_cases h:(0:Int)<((min a n:Nat):Int)
 ·rw[if_pos h]
  have e2:((((min a n:Nat):Int) - 0+1 - 1) / 1).toNat=min a n - 0:=by rw[Int.ediv_one];omega
  rw[e2]
  exact qBs λk _=>by omega
 ·rw[if_neg h]
  have e2:min a n - 0=0:=by omega
  rw[e2];rfl
theorem zagv(n a:Nat):Builtin.Str.strSliceIndices (some (a:Int)) none 1 n=(List.range (n - min a n)).map λk=>min a n+k:=by
 unfold Builtin.Str.strSliceIndices sliceRange
 simp only[show(1:Int) > 0 by decide,if_true]
 rw[if_neg (show ¬((a:Int)<0) by omega)]
 have e:(max 0 (min (a:Int) (n:Int)))=((min a n:Nat):Int):=by omega
 rw[e]
 by_cases h:((min a n:Nat):Int)<(n:Int)
 ·rw[if_pos h]
  have e2:(((n:Int) - ((min a n:Nat):Int)+1 - 1) / 1).toNat=n - min a n:=by rw[Int.ediv_one];omega
  rw[e2]
  exact qBs λk _=>by omega
 ·rw[if_neg h]
  have e2:n - min a n=0:=by omega
  rw[e2];rfl
theorem zzk(x:Str)(a:Nat):(Txt.slice x none (some (a:Int))).length=min a x.length:=by
 unfold Txt.slice
 rw[zagu]
 split
 ·rename_i h
  rw[qj,beq_iff_eq,beq_iff_eq,qD,qB2]at h
  omega
 ·show(List.filterMap _ _).toArray.size=_
  rw[qM,zzj x 0 (min a x.length) (by omega)];omega
theorem zagw(x:Str)(a:Nat):(Txt.slice x (some (a:Int)) none).length=x.length - min a x.length:=by
 unfold Txt.slice
 rw[zagv]
 split
 ·rename_i h
  rw[qj,beq_iff_eq,beq_iff_eq,qD,qB2]at h
  omega
 ·show(List.filterMap _ _).toArray.size=_
  rw[qM,zzj x (min a x.length) x.length (by omega)]
theorem zjs{f g:SFX}{env e1:DEnv}{o:Option OutX}(h:f env=some (.ok (.nx e1)))(k:g e1=o):xSeq f g env=o:=by unfold xSeq;rw[h];exact k
theorem zzl{f g:SFX}{env:DEnv}{c:Str}{d:PyData}(h:f env=some (.rx c d)):xSeq f g env=some (.rx c d):=by unfold xSeq;rw[h];rfl
theorem zalq{t:TF}{f g:SFX}{env:DEnv}{o:Option OutX}(h:t env=some true)(k:f env=o):xIf t f g env=o:=by unfold xIf;rw[h];exact k
theorem zalr{t:TF}{f g:SFX}{env:DEnv}{o:Option OutX}(h:t env=some false)(k:g env=o):xIf t f g env=o:=by unfold xIf;rw[h];exact k
theorem zadd{f:SF}{env:DEnv}{o:Out}(h:f env=some o):xOf f env=some (.ok o):=by unfold xOf;rw[h];rfl
theorem zzm{c:Str}{f:EF}{env:DEnv}{r:Val}(h:f env=some r)(ha:atD r.d=true):zmp c f env=some (.rx c r.d):=by unfold zmp;rw[h,qC,if_pos ha]
theorem zakd{n:Nat}{f:SFX}{ds:List PyData}{env:DEnv}{d:PyData}{fr:Bool}(h:zgn n ds=env)(e:f env=some (.ok (.rt d fr))):fnX n f ds=some (.ok d fr):=by unfold fnX;rw[h,e]
theorem zake{n:Nat}{f:SFX}{ds:List PyData}{env:DEnv}{c:Str}{d:PyData}(h:zgn n ds=env)(e:f env=some (.rx c d)):fnX n f ds=some (.rx c d):=by unfold fnX;rw[h,e]
theorem zagx(a b:Nat):neD (.int (a:Int)) (.int (b:Int))=some (.bool (!decide (a=b)),false):=by
 by_cases e:a=b
 ·subst e
  rw[zqf,decide_eq_true rfl];rfl
 ·have:(a:Int)≠(b:Int):=λz=>e (Int.ofNat.inj z)
  rw[decide_eq_false e]
  show some (PyData.bool (!((a:Int)==(b:Int))),false)=_
  rw[beq_eq_false_iff_ne.mpr this]
noncomputable def zig(n:Str):Bool:=(decide (1<=(n.length:Int))&&decide ((n.length:Int)<=8))&&n.cps.toList.all zhv
noncomputable def eldB(A:List Str)(es:List PyData):Bool:=match unS es with
 | some xs=>(xs.all λx=>decide (x∈A))&&decide xs.Nodup
 | none=>false
noncomputable def zes(A:List Str):PyData->Bool
 | .tuple [.str n,.list es]=>(zig n&&!decide (n∈A))&&(decide (es.length<=4)&&eldB A es)
 | _=>false
noncomputable def zst(e:PyData):Prop:=∀n el,e=.tuple [n,el]->(∀x,n=.str x->Low x/\x.length<=1000)/\∀es,el=.list es->es.length<300
theorem zade{f g:TF}{env:DEnv}(h:f env=some true):tOrF f g env=some true:=by unfold tOrF;rw[h];rfl
theorem or_2{f g:TF}{env:DEnv}{b:Bool}(h1:f env=some false)(h2:g env=some b):tOrF f g env=some b:=by unfold tOrF;rw[h1];exact h2
theorem zakf {a b c:PyData} {ds:List PyData} {e:EF} {env:DEnv} (h:e env=some (vi ((a::b::c::ds).length:Nat))):zbv (eOp neD e (eC (.int 2))) env=some true:=by
 refine zew ?_
 unfold eOp
 rw[h]
 show((neD (.int ((a::b::c::ds).length:Nat)) (.int (2:Nat))).bind λz=>some (⟨z.1,z.2,bsOf z.1 ([]++[])⟩:Val))=_
 rw[zagx,decide_eq_false (by simp)];rfl
theorem gt4{es:List PyData}{e:EF}{env:DEnv}(h:e env=some (vi (es.length:Nat))):zbv (eOp gtD e (eC (.int 4))) env=some (!decide (es.length<=4)):=by
 refine zew ?_
 rw[zalp h rfl]
 congr 2
 rw[qAQ]
 simp
 omega
theorem zod{A:List Str}{e:PyData}(h:∀n es,e≠.tuple [.str n,.list es]):zes A e=false:=by
 unfold zes
 split
 ·exact absurd rfl (h _ _)
 ·rfl
theorem zje{A:List Str}{e:PyData}(h:zst e):zar [zah A,e]=some (.bool (zes A e),false):=by
 cases e with
 | tuple ds=>
  match ds,h with
  | [],_=>rfl
  | [a],_=>
   rw[zod (λn es z=>by cases z)]
   rfl
  | a::b::c::ds,_=>
   rw[zod (λn es z=>by cases z)]
   exact zfo (env:=[.pl (zah A),.pl (.tuple (a::b::c::ds)),.no,.no]) rfl (zhu (if_t (or_2 rfl (zakf (a:=a) (b:=b) (c:=c) (ds:=ds) rfl)) rfl))
  | [n,el],h=>
   obtain⟨h1,h2⟩:=h n el rfl
   have st:∀{o:Option Out}{k:SF},k [.pl (zah A),.pl (.tuple [n,el]),.pl n,.pl el]=o->sSeq (sIf (tOrF (zbb (tTru (eIsi "tuple" (eVar 1)))) (zbv (eOp neD (eCB lenD (zae (eVar 1) aNil)) (eC (.int 2))))) (sRet (eC (.bool false))) sNil) (sSeq (sAsg (eVar 1) (gT 2 (zau 2 (zau 3 zek)))) k) [.pl (zah A),.pl (.tuple [n,el]),.no,.no]=o:=λhk=>zbd rfl (zbd rfl hk)
   by_cases hs:∃x,n=.str x
   ·obtain⟨x,rfl⟩:=hs
    obtain⟨lx,ll⟩:=h1 x rfl
    have gn:=zyz x ll
    have t1:zbb (tTru (zbt 1 zea (zae (eVar 2) aNil))) [.pl (zah A),.pl (.tuple [.str x,el]),.pl (.str x),.pl el]=some (!zig x):=zkb (zcs (n:=1) (rs:=[⟨.str x,false,[]⟩]) rfl rfl gn)
    have t2:zbv (eOp (inD false) (eVar 2) (eVar 0)) [.pl (zah A),.pl (.tuple [.str x,el]),.pl (.str x),.pl el]=some (decide (x∈A)):=zew (e_in (neg:=false) rfl rfl)
    have t3:tOrF (zbb (tTru (zbt 1 zea (zae (eVar 2) aNil)))) (zbv (eOp (inD false) (eVar 2) (eVar 0))) [.pl (zah A),.pl (.tuple [.str x,el]),.pl (.str x),.pl el]=some (!(zig x&&!decide (x∈A))):=by
     unfold tOrF
     rw[t1,t2]
     cases zig x<;>cases decide (x∈A)<;>rfl
    cases hb:(zig x&&!decide (x∈A))with
    | false=>
     rw[hb]at t3
     have gb:zes A (.tuple [.str x,el])=false:=by
      unfold zes
      split
      ·rename_i n es e2;cases e2;rw[hb];rfl
      ·rfl
     rw[gb]
     exact zfo (env:=[.pl (zah A),.pl (.tuple [.str x,el]),.no,.no]) rfl (st (zhu (if_t t3 rfl)))
    | true=>
     rw[hb]at t3
     by_cases hl:∃es,el=.list es
     ·obtain⟨es,rfl⟩:=hl
      have le:=h2 es rfl
      have gb:zes A (.tuple [.str x,.list es])=(decide (es.length<=4)&&eldB A es):=by
       show((zig x&&!decide (x∈A))&&_)=_
       rw[hb,qBz]
      rw[gb]
      have t4:zbv (eOp gtD (eCB lenD (zae (eVar 3) aNil)) (eC (.int 4))) [.pl (zah A),.pl (.tuple [.str x,.list es]),.pl (.str x),.pl (.list es)]=some (!decide (es.length<=4)):=gt4 rfl
      cases h4:decide (es.length<=4)with
      | false=>
       rw[h4]at t4
       exact zfo (env:=[.pl (zah A),.pl (.tuple [.str x,.list es]),.no,.no]) rfl (st (zbd (if_f t3 rfl) (zhu (if_t (or_2 rfl t4) rfl))))
      | true=>
       rw[h4]at t4
       rw[qBz]
       have gu:=zrh (N:=A) (ds:=es) (by omega)
       exact zfo (env:=[.pl (zah A),.pl (.tuple [.str x,.list es]),.no,.no]) rfl (st (zbd (if_f t3 rfl) (zbd (if_f (or_2 rfl t4) rfl) (zms (zcs (n:=2) (rs:=[⟨zah A,false,[]⟩,⟨.list es,false,[]⟩]) rfl rfl gu)))))
     ·have gb:zes A (.tuple [.str x,el])=false:=zod λn es z=>by cases z;exact hl ⟨_,rfl⟩
      rw[gb]
      have t4:zbb (tTru (eIsi "list" (eVar 3))) [.pl (zah A),.pl (.tuple [.str x,el]),.pl (.str x),.pl el]=some true:=by
       cases el<;>first|rfl|exact absurd ⟨_,rfl⟩ hl
      exact zfo (env:=[.pl (zah A),.pl (.tuple [.str x,el]),.no,.no]) rfl (st (zbd (if_f t3 rfl) (zhu (if_t (zade t4) rfl))))
   ·have gb:zes A (.tuple [n,el])=false:=zod λn es z=>by cases z;exact hs ⟨_,rfl⟩
    rw[gb]
    have hi:isiB "str" n=false:=by cases n<;>first|rfl|exact absurd ⟨_,rfl⟩ hs
    have t1:zbb (tTru (zbt 1 zea (zae (eVar 2) aNil))) [.pl (zah A),.pl (.tuple [n,el]),.pl n,.pl el]=some true:=zkb (zcs (n:=1) (rs:=[⟨n,false,[]⟩]) rfl rfl (zqq hi))
    exact zfo (env:=[.pl (zah A),.pl (.tuple [n,el]),.no,.no]) rfl (st (zhu (if_t (zade t1) rfl)))
 | _=>rfl
noncomputable def zri:PyData->Str
 | .tuple (.str n::_)=>n
 | _=>""
noncomputable def zav:Nat->List Str->List PyData->Option Nat
 | _,_,[]=>none
 | i,A,e::es=>if(decide (i<10)&&zes A e)=true then zav (i+1) (A++[zri e]) es else some i
noncomputable def webR:PyData->ResX
 | .list []=>.rx "NoWeb" .none
 | .list (e::es)=>match zav 0 [] (e::es)with
  | some i=>.rx "NoWeb" (.int (i:Int))
  | none=>.ok (.list (e::es)) true
 | _=>.rx "NoWeb" .none
noncomputable def zoe(d:PyData):Prop:=∀es,d=.list es->es.length<=90/\∀e∈es,zst e
theorem zsu{A:List Str}{e:PyData}(h:zes A e=true):∃n xs,e=.tuple [.str n,zah xs]/\(∀x∈xs,x∈A):=by
 unfold zes at h
 split at h
 ·rename_i n es
  simp only[qj]at h
  obtain⟨_,_,h⟩:=h
  unfold eldB at h
  cases hu:unS es with
  | none=>rw[hu]at h;cases h
  | some xs=>
   rw[hu]at h
   simp only[qj,qr,decide_eq_true_eq]at h
   exact⟨n,xs,by rw[zoc hu];rfl,h.1⟩
 ·cases h
theorem zakg{a b:EF}{env:DEnv}{i j:Int}(ha:a env=some (vi i))(hb:b env=some (vi j)):eOp geD a b env=some (vb (decide (j<=i))):=by
 unfold eOp;rw[ha,hb];rfl
noncomputable abbrev encE(p:PyData×Nat):PyData:=.tuple [.int (p.2:Int),p.1]
noncomputable abbrev zrj:SFX:=(xSeq (xIf (tOrF (zbv (eOp geD (eVar 2) (eC (.int 10)))) (zbb (tTru (zbt 2 zar (zae (eVar 1) (zae (eVar 3) aNil)))))) (zmp "NoWeb" (eVar 2)) (xOf sNil))
  (xOf (sApp 1 (eIxV 3 (eC (.int 0))))))
theorem zzn{T:Sl}:∀(es:List PyData)(k:Nat)(A:List Str)(s2 s3:Sl),(∀e∈es,zst e)->A.length+es.length<1000->k+es.length<=95->
  ∃e',zuz (gT 2 (zau 2 (zau 3 zek))) zrj ((es.zipIdx k).map encE) [T,.ac (zah A),s2,s3]=(match zav k A es with|none=>some (.ok (.nx (T::e')))|some i=>some (.rx "NoWeb" (.int (i:Int))))
 | [],k,A,s2,s3,_,_,_=>⟨_,rfl⟩
 | e::es,k,A,s2,s3,h,hl,hk=>by
  have hl':A.length+(es.length+1)<1000:=hl
  have hk':k+(es.length+1)<=95:=hk
  have g:=zje (A:=A) (h e (by simp))
  have t1:zbv (eOp geD (eVar 2) (eC (.int 10))) [T,.ac (zah A),.pl (.int (k:Int)),.pl e]=some (!decide (k<10)):=by
   refine zew ((zakg rfl rfl).trans ?_)
   congr 2
   rw[qAQ]
   simp
   omega
  have t2:zbb (tTru (zbt 2 zar (zae (eVar 1) (zae (eVar 3) aNil)))) [T,.ac (zah A),.pl (.int (k:Int)),.pl e]=some (!zes A e):=zkb (zcs (n:=2) (rs:=[⟨zah A,false,[1]⟩,⟨e,false,[]⟩]) rfl rfl g)
  have t3:tOrF (zbv (eOp geD (eVar 2) (eC (.int 10)))) (zbb (tTru (zbt 2 zar (zae (eVar 1) (zae (eVar 3) aNil))))) [T,.ac (zah A),.pl (.int (k:Int)),.pl e]=some (!(decide (k<10)&&zes A e)):=by
   unfold tOrF
   rw[t1,t2]
   cases decide (k<10)<;>cases zes A e<;>rfl
  cases hb:(decide (k<10)&&zes A e)with
  | false=>
   rw[hb]at t3
   refine⟨[],?_⟩
   have f:zav k A (e::es)=some k:=by unfold zav;rw[hb];rfl
   rw[f]
   have b:zrj [T,.ac (zah A),.pl (.int (k:Int)),.pl e]=some (.rx "NoWeb" (.int (k:Int))):=zzl (zalq t3 (zzm (r:=⟨.int (k:Int),false,[]⟩) rfl (decide_eq_true ⟨by omega,by omega⟩)))
   show((zrj [T,.ac (zah A),.pl (.int (k:Int)),.pl e]).bind _)=_
   rw[b];rfl
  | true=>
   rw[hb]at t3
   obtain⟨n,xs,rfl,_⟩:=zsu (qBF.mp hb).2
   obtain⟨e',ih⟩:=zzn es (k+1) (A++[n]) (.pl (.int (k:Int))) (.pl (.tuple [.str n,zah xs])) (λx hx=>h x (qL _ hx)) (by rw[qY];show _+1+_<_;omega) (by omega)
   refine⟨e',?_⟩
   have f:zav k A (.tuple [.str n,zah xs]::es)=zav (k+1) (A++[n]) es:=by rw[zav,hb];rfl
   rw[f,<- ih]
   have b:zrj [T,.ac (zah A),.pl (.int (k:Int)),.pl (.tuple [.str n,zah xs])]=some (.ok (.nx [T,.ac (zah (A++[n])),.pl (.int (k:Int)),.pl (.tuple [.str n,zah xs])])):=by
    refine zjs (zalr t3 rfl) (zadd ?_)
    rw[zqj (ds:=A.map .str) (d:=.str n) (fr:=false) rfl rfl (by rw[qD];omega)]
    congr 2
    unfold zah
    simp
   show((zrj [T,.ac (zah A),.pl (.int (k:Int)),.pl (.tuple [.str n,zah xs])]).bind _)=_
   rw[b];rfl
theorem zadf:∀{es:List PyData}{k:Nat}{A:List Str},zav k A es=none->(∀a∈A,Low a)->(∀e∈es,zst e)->∀e∈es,∃n xs,e=.tuple [.str n,zah xs]/\Low n/\∀x∈xs,Low x
 | [],_,_,_,_,_,e,he=>by cases he
 | e::es,k,A,h,hA,hE,e',he=>by
  rw[zav]at h
  split at h
  ·rename_i hb
   obtain⟨n,xs,rfl,hx⟩:=zsu (qBF.mp hb).2
   have ln:Low n:=((hE _ qf _ _ rfl).1 n rfl).1
   rcases qX.mp he with rfl|he
   ·exact⟨n,xs,rfl,ln,λx hx'=>hA x (hx x hx')⟩
   ·refine zadf h (λa ha=>?_) (λz hz=>hE z (qL _ hz)) e' he
    rcases qv.mp ha with z|z
    ·exact hA a z
    ·have:a=n:=by simpa [zri]using z
     rw[this];exact ln
  ·cases h
theorem zzo{es:List PyData}(hl:es.length<1000)(h:∀e∈es,∃n xs,e=.tuple [.str n,zah xs]/\Low n/\∀x∈xs,Low x):zcn [.list es]=some (.list es,true):=by
 have cm:zjl (gT 2 (zau 0 (zau 1 zek))) zhm (eTup (zae (eVar 0) (zae (eCB zim (zae (eVar 1) aNil)) aNil))) [.no,.no] (es.map id)=some (es.map id):=
  zlo (enc:=id) (out:=id) λe he=>by
   obtain⟨n,xs,rfl,_⟩:=h e he
   exact⟨[.pl (.str n),.pl (zah xs)],rfl,rfl,⟨.tuple [.str n,zah xs],false,[]⟩,rfl,rfl⟩
 rw[List.map_id]at cm
 refine zfo (env:=[.pl (.list es)]) rfl ?_
 have:=zsr (own:=["name","elders"]) (fr:=[]) (fi:=zfk (eVar 0)) (g:=gT 2 (zau 0 (zau 1 zek))) (t:=zhm) (e:=eTup (zae (eVar 0) (zae (eCB zim (zae (eVar 1) aNil)) aNil))) (env:=[.pl (.list es)]) (ds:=es) (bs:=[]) rfl (by omega) cm
 exact zms this
theorem zadg{d:PyData}(h:zoe d):zeb [d]=some (webR d):=by
 cases d with
 | list es=>
  cases es with
  | nil=>rfl
  | cons e es=>
   obtain⟨h1,h2⟩:=h _ rfl
   have h1':es.length+1<=90:=h1
   obtain⟨e',lp⟩:=zzn (T:=.pl (.list (e::es))) (e::es) 0 [] .no .no h2 (by show 0+(es.length+1)<1000;omega) (by show 0+(es.length+1)<=95;omega)
   have it:zgl (zae (eVar 0) aNil) [.pl (.list (e::es)),.ac (.list []),.no,.no]=some (((e::es).zipIdx 0).map encE,[]):=rfl
   have wr:webR (.list (e::es))=(match zav 0 [] (e::es)with|some i=>.rx "NoWeb" (.int (i:Int))|none=>.ok (.list (e::es)) true):=rfl
   rw[wr]
   cases hf:zav 0 [] (e::es)with
   | some i=>
    rw[hf]at lp
    refine zake (env:=[.pl (.list (e::es)),.no,.no,.no]) rfl (zjs (e1:=[.pl (.list (e::es)),.no,.no,.no]) rfl (zjs (e1:=[.pl (.list (e::es)),.ac (.list []),.no,.no]) rfl (zzl ?_)))
    unfold xFor
    rw[it]
    exact lp
   | none=>
    rw[hf]at lp
    have gc:=zzo (es:=e::es) (by omega) (zadf hf (λa ha=>by cases ha) h2)
    refine zakd (env:=[.pl (.list (e::es)),.no,.no,.no]) rfl (zjs (e1:=[.pl (.list (e::es)),.no,.no,.no]) rfl (zjs (e1:=[.pl (.list (e::es)),.ac (.list []),.no,.no]) rfl (zjs (e1:=.pl (.list (e::es))::e') ?_ (zadd (zms (zcs (n:=1) (rs:=[⟨.list (e::es),false,[]⟩]) rfl rfl gc))))))
    unfold xFor
    rw[it]
    exact lp
 | _=>rfl
noncomputable def okB:ResX->Bool
 | .ok _ _=>true
 | .rx _ _=>false
theorem zlz{d:PyData}(h:zoe d):zcg [d]=some (.bool (okB (webR d)),false):=by
 have g:=zadg h
 have c:∀c x,webR d=.rx c x->c="NoWeb":=λc x hc=>by
  unfold webR at hc
  split at hc
  ·cases hc;rfl
  ·split at hc<;>cases hc;rfl
  ·cases hc;rfl
 cases hr:webR d with
 | ok x f=>
  rw[hr]at g
  refine zfo (env:=[.pl d]) rfl (zbd (e1:=[.pl d]) ?_ rfl)
  unfold zyi
  show(if 1=1 then(zeb [d]).bind _ else none)=_
  rw[if_pos rfl,g];rfl
 | rx c' x=>
  cases c c' x hr
  rw[hr]at g
  refine zfo (env:=[.pl d]) rfl (zhu ?_)
  unfold zyi
  show(if 1=1 then(zeb [d]).bind _ else none)=_
  rw[if_pos rfl,g];rfl
noncomputable def Az(x:Str):Prop:=∀c∈x.cps.toList,97<=c/\c<123
theorem zagy:∀c<123,97<=c->zhv c=true:=by decide +kernel
theorem Az.app{a b:Str}(h1:Az a)(h2:Az b):Az (a++b):=λc hc=>by
 rw[zix]at hc
 exact(qv.mp hc).elim (h1 c) (h2 c)
theorem Az.slice{x:Str}(h:Az x){l u:Option Int}:Az (Txt.slice x l u):=λc hc=>h c (zzi hc)
theorem Az.ltr{i:Int}(h0:0<=i)(h1:i<26):Az (ltr i):=λc hc=>by
 have:c=97+i.toNat:=by simpa [Bc.ltr]using hc
 omega
theorem Az.mul{i n:Int}(h0:0<=i)(h1:i<26)(h:0<=n):Az (Txt.mul (Bc.ltr i) n):=λd hd=>by
 unfold Bc.ltr at hd
 rw[zkn h]at hd
 have:=qCQ hd
 omega
theorem zof{x:Str}(h1:1<=x.length)(h2:x.length<=8)(h:Az x):zig x=true:=by
 unfold zig
 rw[decide_eq_true (by omega),decide_eq_true (by omega),qr.mpr λc hc=>zagy c (h c hc).2 (h c hc).1]
 rfl
theorem zrk{m c:Int}(m0:0<=m)(m16:m<=16)(c0:0<=c):∃xs:List Str,zeo [.int m,.int c]=some (zah xs,true)/\xs.length=m.toNat/\xs.Nodup/\(∀x∈xs,Low x)/\∀x∈xs,zig x=true:=by
 have md:∀(z j:Int),0<j->0<=z % j/\z % j<j:=λz j hj=>⟨qAE z (by omega),qAL z hj⟩
 have i8:=md (c / 3) 8 (by decide)
 obtain⟨st,hst,hmem⟩:=zagq i8.1 i8.2
 have st0:0<=st/\st<100:=by
  simp only[qX,qBZ,or_false]at hmem
  rcases hmem with rfl|rfl|rfl|rfl|rfl|rfl|rfl|rfl<;>decide
 have o26:=md (c / 24) 26 (by decide)
 have j26:=md (c / 624) 26 (by decide)
 have n8:=md (c / 16224) 8 (by decide)
 have lowS:Low (Txt.mul (ltr (c / 624 % 26)) (c / 16224 % 8)):=Low.mul (by omega) n8.1
 have azS:Az (Txt.mul (ltr (c / 624 % 26)) (c / 16224 % 8)):=Az.mul j26.1 j26.2 n8.1
 have lenS:(Txt.mul (ltr (c / 624 % 26)) (c / 16224 % 8)).length<=7:=by unfold ltr;rw[zym n8.1];omega
 have s3:sSet 3 (eOp ixD (eTup (zae (eC (.int 1)) (zae (eC (.int 3)) (zae (eC (.int 5)) (zae (eC (.int 7)) (zae (eC (.int 9)) (zae (eC (.int 11)) (zae (eC (.int 15)) (zae (eC (.int 17)) aNil))))))))) (eOp modD (eOp zfh (eVar 1) (eC (.int 3))) (eC (.int 8)))) [.pl (.int m),.pl (.int c),.pl (.str abc),.no,.no,.no,.no,.no,.no,.no]=some (.nx [.pl (.int m),.pl (.int c),.pl (.str abc),.pl (.int st),.no,.no,.no,.no,.no,.no]):=by
  refine zga (r:=vi st) ?_
  unfold eOp
  show((some (⟨.tuple [PyData.int 1,.int 3,.int 5,.int 7,.int 9,.int 11,.int 15,.int 17],false,[]⟩:Val)).bind λx=>((some (vi (c / 3 % 8))).bind λy=>(ixD x.d y.d).bind λz=>some (⟨z.1,z.2,bsOf z.1 (x.bs++y.bs)⟩:Val)))=_
  simp only[qC,ixD]
  rw[hst];rfl
 have s5:sSet 5 (eOp mulD (eIxV 2 (eOp modD (eOp zfh (eVar 1) (eC (.int 624))) (eC (.int 26)))) (eOp modD (eOp zfh (eVar 1) (eC (.int 16224))) (eC (.int 8)))) [.pl (.int m),.pl (.int c),.pl (.str abc),.pl (.int st),.pl (.int (c / 24 % 26)),.no,.no,.no,.no,.no] =
   some (.nx [.pl (.int m),.pl (.int c),.pl (.str abc),.pl (.int st),.pl (.int (c / 24 % 26)),.pl (.str (Txt.mul (ltr (c / 624 % 26)) (c / 16224 % 8))),.no,.no,.no,.no]):=
  zga (r:=vs _) (zacz (zagp rfl rfl j26.1 j26.2) rfl ⟨by show 1<=1000;decide,by omega,by omega⟩)
 generalize hO:c / 24 % 26=o at o26 s5
 generalize Txt.mul (ltr (c / 624 % 26)) (c / 16224 % 8)=stem at lowS azS lenS s5
 have s6:∃at_:Int,(0<=at_/\at_<=stem.length)/\sSet 6 (eOp modD (eOp zfh (eVar 1) (eC (.int 129792))) (eOp addD (eCB lenD (zae (eVar 5) aNil)) (eC (.int 1)))) [.pl (.int m),.pl (.int c),.pl (.str abc),.pl (.int st),.pl (.int o),.pl (.str stem),.no,.no,.no,.no]=some (.nx [.pl (.int m),.pl (.int c),.pl (.str abc),.pl (.int st),.pl (.int o),.pl (.str stem),.pl (.int at_),.no,.no,.no]):=
  ⟨c / 129792 % ((stem.length:Int)+1),by(have:=md (c / 129792) ((stem.length:Int)+1) (by omega);omega),zga (r:=vi _) (ziy rfl (zvc (zyv rfl (by omega)) rfl) (by omega))⟩
 obtain⟨at_,hat,s6⟩:=s6
 have loop:∃env',forL (gN 8) (sSeq (sSet 9 (eIxV 2 (eOp modD (eOp addD (eVar 4) (eOp mulD (eVar 3) (eVar 8))) (eC (.int 26)))))
  (sIf (zbv (eOp eqD (eOp modD (eVar 1) (eC (.int 3))) (eC (.int 0)))) (sApp 7 (eOp addD (eOp addD (eSl (eVar 5) zkc (zfa (eVar 6))) (eVar 9)) (eSl (eVar 5) (zfa (eVar 6)) zkc))) (sIf (zbv (eOp eqD (eOp modD (eVar 1) (eC (.int 3))) (eC (.int 1)))) (sApp 7 (eOp addD (eSl (eVar 5) zkc (zfa (eOp modD (eOp mulD (eVar 8) (eVar 3)) (eOp addD (eCB lenD (zae (eVar 5) aNil)) (eC (.int 1)))))) (eVar 9))) (sApp 7 (eOp mulD (eIxV 2 (eOp modD (eOp addD (eVar 4) (eOp zfh (eVar 8) (eC (.int 8)))) (eC (.int 26)))) (eOp addD (eC (.int 1)) (eOp modD (eOp mulD (eVar 8) (eVar 3)) (eC (.int 8)))))))))
   ((List.range m.toNat).map λ(k:Nat)=>PyData.int (k:Int)) [.pl (.int m),.pl (.int c),.pl (.str abc),.pl (.int st),.pl (.int o),.pl (.str stem),.pl (.int at_),.ac (.list []),.no,.no]=some (.nx env')/\
   ∃s8 s9,env'=[.pl (.int m),.pl (.int c),.pl (.str abc),.pl (.int st),.pl (.int o),.pl (.str stem),.pl (.int at_),.ac (zah ((List.range m.toNat).map (zgv (c % 3) o st stem at_))),s8,s9]:=by
  refine zlp (λpre env=>∃s8 s9,env=[.pl (.int m),.pl (.int c),.pl (.str abc),.pl (.int st),.pl (.int o),.pl (.str stem),.pl (.int at_),.ac (zah (pre.map (zgv (c % 3) o st stem at_))),s8,s9]) ⟨_,_,rfl⟩ ?_
  rintro pre k post env hk ⟨s8,s9,rfl⟩
  have hkm:k<m.toNat:=qAX.mp (by rw[<- hk];simp)
  have hpl:pre.length<100:=by
   have:=congrArg List.length hk
   simp at this
   omega
  have b1:0<=st * (k:Int):=qCR st0.1 (by omega)
  have s26:=md (o+st * (k:Int)) 26 (by decide)
  have sl:∀a b,(Txt.slice stem a b).length<=7:=λa b=>qAK (Txt.slice_le stem a b) lenS
  have lz:stem.length<=100000:=by omega
  have l1:(ltr ((o+st * (k:Int)) % 26)).length=1:=rfl
  refine⟨_,[.pl (.int m),.pl (.int c),.pl (.str abc),.pl (.int st),.pl (.int o),.pl (.str stem),.pl (.int at_),.ac (zah ((pre++[k]).map (zgv (c % 3) o st stem at_))),.pl (.int (k:Int)),.pl (.str (ltr ((o+st * (k:Int)) % 26)))],rfl,.inl ?_,_,_,rfl⟩
  refine zbd (zga (r:=vs _) (zagp rfl (ziy (zvc rfl (zagk rfl rfl (.inl ⟨by omega,by omega⟩))) rfl (by decide)) s26.1 s26.2)) ?_
  have fin:∀x:Str,x=zgv (c % 3) o st stem at_ k->(PyData.list ((pre.map (zgv (c % 3) o st stem at_)).map PyData.str++[.str x]))=zah ((pre++[k]).map (zgv (c % 3) o st stem at_)):=λx e=>by
   unfold zah
   rw[qAn,qAn,e];rfl
  have lp:((pre.map (zgv (c % 3) o st stem at_)).map PyData.str).length<100000:=by rw[qD,qD];omega
  by_cases h0:c % 3=0
  ·refine if_t (zew (by rw[zvd (ziy rfl rfl (by decide)) rfl];rw[h0];rfl)) ?_
   have z1:=sl none (some at_)
   have z2:=sl (some at_) none
   refine(zqj rfl (zyt (zyt (zagl rfl rfl (zyu rfl) lz) rfl (by omega)) (zagl rfl (zyu rfl) rfl lz) (by rw[zid];omega)) lp).trans ?_
   rw[fin _ (by unfold zgv;rw[if_pos h0])];rfl
  ·refine if_f (zew (by rw[zvd (ziy rfl rfl (by decide)) rfl];rw[beq_eq_false_iff_ne.mpr h0])) ?_
   by_cases h1:c % 3=1
   ·refine if_t (zew (by rw[zvd (ziy rfl rfl (by decide)) rfl];rw[h1];rfl)) ?_
    have z1:=sl none (some ((k:Int) * st % ((stem.length:Int)+1)))
    refine(zqj rfl (zyt (zagl rfl rfl (zyu (ziy (zagk rfl rfl (.inr ⟨by omega,by omega⟩)) (zvc (zyv rfl lz) rfl) (by omega))) lz) rfl (by omega)) lp).trans ?_
    rw[fin _ (by unfold zgv;rw[if_neg h0,if_pos h1])];rfl
   ·refine if_f (zew (by rw[zvd (ziy rfl rfl (by decide)) rfl];rw[beq_eq_false_iff_ne.mpr h1])) ?_
    have t26:=md (o+(k:Int) / 8) 26 (by decide)
    have u8:=md ((k:Int) * st) 8 (by decide)
    refine(zqj rfl (zacz (zagp rfl (ziy (zvc rfl (zys rfl rfl (by decide) (by decide))) rfl (by decide)) t26.1 t26.2) (zvc rfl (ziy (zagk rfl rfl (.inr ⟨by omega,by omega⟩)) rfl (by decide))) ⟨by show 1<=1000;decide,by omega,by omega⟩) lp).trans ?_
    rw[fin _ (by unfold zgv;rw[if_neg h0,if_neg h1])];rfl
 obtain⟨env',hl,s8,s9,rfl⟩:=loop
 refine⟨(List.range m.toNat).map (zgv (c % 3) o st stem at_),?_,by simp,zlq λa b ha hb e=>zyq hmem o26.1 (by omega) (by omega) e,λx hx=>?_,λx hx=>?_⟩
 ·refine zfo (env:=[.pl (.int m),.pl (.int c),.no,.no,.no,.no,.no,.no,.no,.no]) rfl (zbd rfl (zbd s3 (zbd (e1:=[.pl (.int m),.pl (.int c),.pl (.str abc),.pl (.int st),.pl (.int o),.no,.no,.no,.no,.no]) (by rw[<- hO];rfl) (zbd s5 (zbd s6 (zbd rfl (zbd (zqe (ds:=(List.range m.toNat).map λ(k:Nat)=>PyData.int (k:Int)) (bs:=[]) ?_ hl) rfl)))))))
  unfold zgm
  rw[zfp (r:=vi m) rfl]
  simp only[qC]
  rw[if_pos ⟨by omega,by omega⟩,zqk]
 ·obtain⟨j,_,rfl⟩:=qAH.mp hx
  exact zyr lowS o26.1 st0.1 j
 ·obtain⟨j,_,rfl⟩:=qAH.mp hx
  obtain⟨at',rfl⟩:=qA3 hat.1
  have l1:∀i,(ltr i).length=1:=λ_=>rfl
  have q26:=md (o+st * (j:Int)) 26 (by decide)
  unfold zgv
  split
  ·refine zof ?_ ?_ (((Az.slice azS).app (Az.ltr q26.1 q26.2)).app (Az.slice azS))
   ·rw[zid,zid,l1];omega
   ·rw[zid,zid,l1,zzk,zagw];omega
  ·split
   ·obtain⟨a2,ha2⟩:=qA3 (md ((j:Int) * st) ((stem.length:Int)+1) (by omega)).1
    rw[ha2]
    refine zof ?_ ?_ ((Az.slice azS).app (Az.ltr q26.1 q26.2))
    ·rw[zid,l1];omega
    ·rw[zid,l1,zzk];omega
   ·have u8:=md ((j:Int) * st) 8 (by decide)
    have t26:=md (o+(j:Int) / 8) 26 (by decide)
    have hm:(Txt.mul (ltr ((o+(j:Int) / 8) % 26)) (1+(j:Int) * st % 8)).length=(1+(j:Int) * st % 8).toNat:=by unfold ltr;exact zym (by omega)
    exact zof (by rw[hm];omega) (by rw[hm];omega) (Az.mul t26.1 t26.2 (by omega))
theorem zvk{cs:List Int}{xs:List Str}(hle:xs.length<=cs.length)(h12:xs.length<=12)(nd:xs.Nodup):∃W,zgu [zed cs,zah xs]=some (webD W,true)/\nm W=xs/\WebOk W/\∀p∈W,p.2.Nodup:=by
 have loop:∃env',forL (gT 2 (zau 3 (zau 4 zek))) (sSeq (sSet 5 (eSl (eVar 1) zkc (zfa (eVar 3))))
  (sSeq (sSet 6 (eOp zfh (eIxV 0 (eVar 3)) (eC (.int 5))))
  (sSeq (sSet 7 (eLst aNil))
  (sSeq (sFor (zgm (zae (eCB minD (zae (eOp modD (eIxV 0 (eVar 3)) (eC (.int 5))) (zae (eVar 3) aNil))) aNil)) (gN 8)
  (sSeq (sSet 9 (eOp modD (eVar 6) (eCB lenD (zae (eVar 5) aNil))))
  (sSeq (sSet 6 (eOp zfh (eVar 6) (eCB lenD (zae (eVar 5) aNil))))
  (zib 7 5 (eVar 9)))))
  (sApp 2 (eTup (zae (eVar 4) (zae (eVar 7) aNil)))))))) ((xs.zipIdx).map λ(p:Str×Nat)=>PyData.tuple [.int (p.2:Int),.str p.1]) [.pl (zed cs),.pl (zah xs),.ac (webD []),.no,.no,.no,.no,.no,.no,.no]=some (.nx env')/\
   ∃W s3 s4 s5 s6 s7 s8 s9,env'=[.pl (zed cs),.pl (zah xs),.ac (webD W),s3,s4,s5,s6,s7,s8,s9]/\nm W=(xs.zipIdx).map (λp:Str×Nat=>p.1)/\WebOk W/\∀p∈W,p.2.Nodup:=by
  refine zlp (λpre env=>∃W s3 s4 s5 s6 s7 s8 s9,env=[.pl (zed cs),.pl (zah xs),.ac (webD W),s3,s4,s5,s6,s7,s8,s9]/\nm W=pre.map (λp:Str×Nat=>p.1)/\WebOk W/\∀p∈W,p.2.Nodup) ⟨[],_,_,_,_,_,_,_,rfl,rfl,zyw,λp hp=>by(cases hp)⟩ ?_
  rintro pre ⟨n,i⟩ post env hp ⟨W,s3,s4,s5,s6,s7,s8,s9,rfl,hnm,ok,ndA⟩
  have hz:(xs.zipIdx)[pre.length]?=some (n,i):=by rw[<- hp];simp
  rw[qBp]at hz
  have hi:i=pre.length/\xs[pre.length]?=some n:=by
   cases e:xs[pre.length]? with
   | none=>rw[e]at hz;cases hz
   | some y=>rw[e]at hz;simp at hz;exact⟨by omega,by rw[hz.1]⟩
  obtain⟨rfl,hn⟩:=hi
  have hix:pre.length<xs.length:=(qI.mp hn).1
  have hic:pre.length<cs.length:=by omega
  have hpre:pre.map (λp:Str×Nat=>p.1)=xs.take pre.length:=by
   have e1:(xs.zipIdx).map (λp:Str×Nat=>p.1)=xs:=qCg 0 xs
   have e2:=congrArg (λl:List (Str×Nat)=>(l.map (λp:Str×Nat=>p.1)).take pre.length) hp
   simp only[e1]at e2
   rw[<- e2,qAn,qBC (by simp),<- qBx,List.take_length]
  have hWl:W.length=pre.length:=by
   have:=congrArg List.length hnm
   unfold nm at this
   simpa using this
  have gc:∀{env:DEnv},env[0]?=some (.pl (zed cs))->env[3]?=some (.pl (.int (pre.length:Int)))->eIxV 0 (eVar 3) env=some (vi cs[pre.length]):=λ{env} h0 h3=>
   zagm (ds:=cs.map .int) h0 (by unfold eVar;rw[h3]) (by rw[qT,qF hic];rfl)
  have m5:=qAE cs[pre.length] (show(5:Int)≠0 by decide)
  have m5':=qAL cs[pre.length] (show(0:Int)<5 by decide)
  generalize eN:(if((pre.length:Nat):Int)<cs[pre.length] % 5 then((pre.length:Nat):Int)else cs[pre.length] % 5)=N
  have hN:0<=N/\N<=pre.length/\N<=4:=by rw[<- eN];split<;>omega
  have tl:(xs.take pre.length).length=pre.length:=by rw[qAv];omega
  obtain⟨es,s5',s6',s8',s9',q,_,⟨ls,pm⟩,hes⟩:=zqm (A:=.pl (zed cs)) (B:=.pl (zah xs)) (C:=.ac (webD W)) (kk:=pre.length) (nn:=.pl (.str n)) (xs:=xs.take pre.length) (by omega) N.toNat (xs.take pre.length) [] (cs[pre.length] / 5) s8 s9 (qCh _) (by simp;omega) (by omega)
  have ndT:(xs.take pre.length).Nodup:=nd.sublist (List.take_sublist _ _)
  have ndE:es.Nodup:=(qB1.mp (pm.nodup_iff.mpr ndT)).1
  have subE:∀e∈es,e∈nm W:=λe he=>by rw[hnm,hpre];exact pm.mem_iff.mp (qAG _ he)
  have nW:n∉nm W:=by
   rw[hnm,hpre]
   intro hm
   obtain⟨j,hj,ej⟩:=qAY hm
   rw[List.getElem_take]at ej
   obtain⟨hh,en⟩:=qI.mp hn
   have:=zada nd (ej.trans en.symm)
   rw[tl]at hj
   omega
  refine⟨_,[.pl (zed cs),.pl (zah xs),.ac (webD (W++[(n,es)])),.pl (.int (pre.length:Int)),.pl (.str n),s5',s6',.pl (zah es),s8',s9'],rfl,.inl ?_,W++[(n,es)],_,_,_,_,_,_,_,rfl,by rw[zyl,hnm];simp,zyx ok nW subE (by rw[hes];simp;omega) (by omega),λp hp=>(qv.mp hp).elim (ndA p) λz=>by(rw[qAl.mp z];exact ndE)⟩
  have st5:sSet 5 (eSl (eVar 1) zkc (zfa (eVar 3))) [.pl (zed cs),.pl (zah xs),.ac (webD W),.pl (.int (pre.length:Int)),.pl (.str n),s5,s6,s7,s8,s9]=some (.nx [.pl (zed cs),.pl (zah xs),.ac (webD W),.pl (.int (pre.length:Int)),.pl (.str n),.ac (zah (xs.take pre.length)),s6,s7,s8,s9]):=by
   have:eSl (eVar 1) zkc (zfa (eVar 3)) [.pl (zed cs),.pl (zah xs),.ac (webD W),.pl (.int (pre.length:Int)),.pl (.str n),s5,s6,s7,s8,s9]=some ⟨zah (xs.take pre.length),true,[]⟩:=by
    simp only[eSl,eVar,zkc,zfa,qBX,qBW,qC,zah,slD]
    rw[zagr _ _ (by rw[qD];omega),<- qBx]
    simp[bsOf,zci]
   exact zga this
  refine zbd st5 (zbd (zga (r:=vi _) (zys (gc rfl rfl) rfl (by decide) (by decide))) (zbd rfl (zbd (zqe (ds:=(List.range' ([]:List Str).length N.toNat).map λ(k:Nat)=>PyData.int (k:Int)) (bs:=[]) ?_ q) ?_)))
  ·have:eCB minD (zae (eOp modD (eIxV 0 (eVar 3)) (eC (.int 5))) (zae (eVar 3) aNil)) [.pl (zed cs),.pl (zah xs),.ac (webD W),.pl (.int (pre.length:Int)),.pl (.str n),.ac (zah (xs.take pre.length)),.pl (.int (cs[pre.length] / 5)),.ac (.list []),s8,s9]=some (vi N):=by
    unfold eCB zae
    rw[ziy (gc rfl rfl) (j:=5) rfl (by decide)]
    show((minD [.int (cs[pre.length] % 5),.int ((pre.length:Nat):Int)]).bind λz=>some (⟨z.1,z.2,bsOf z.1 _⟩:Val))=_
    unfold minD
    simp only[qC]
    rw[eN];rfl
   show zgm _ [.pl (zed cs),.pl (zah xs),.ac (webD W),.pl (.int (pre.length:Int)),.pl (.str n),.ac (zah (xs.take pre.length)),.pl (.int (cs[pre.length] / 5)),.ac (.list []),s8,s9]=_
   unfold zgm
   rw[zfp this]
   simp only[qC]
   rw[if_pos ⟨by omega,by omega⟩,zqk,List.range_eq_range']
   rfl
  ·have lz:(W.map rowD).length<100000:=by rw[qD];omega
   simp only[sApp,webD,eTup,zae,aNil,eVar,qBX,qBW,qC,Option.map_some,zer,bss]
   rw[if_pos (by simp)]
   simp only[qC]
   rw[if_pos ⟨lz,by simp⟩]
   simp[frzs,frz1,rowD,zah]
 obtain⟨env',hl,W,s3,s4,s5,s6,s7,s8,s9,rfl,hnm,ok⟩:=loop
 refine⟨W,zfo (env:=[.pl (zed cs),.pl (zah xs),.no,.no,.no,.no,.no,.no,.no,.no]) rfl (zbd rfl (zbd (zqe (ds:=(xs.zipIdx).map λ(p:Str×Nat)=>PyData.tuple [.int (p.2:Int),.str p.1]) (bs:=[]) ?_ hl) rfl)),hnm.trans (qCg 0 xs),ok⟩
 unfold zgl
 rw[zfp (r:=⟨zah xs,false,[]⟩) rfl]
 simp only[qC,zah]
 rw[ztu]
structure WbK(W:Web):Prop where
 ok:WebOk W
 ne:W≠[]
 ten:W.length<=10
 el:∀p∈W,p.2.Nodup
 nam:∀x∈nm W,zig x=true
 low:∀x∈nm W,Low x
theorem zog:∀(xs:List Str),unS (xs.map .str)=some xs
 | []=>rfl
 | x::xs=>by show(unS (xs.map .str)).map _=_;rw[zog xs];rfl
theorem zma{W:Web}{i:Nat}{x:Str}(h:x∈nm (W.take i)):x∈nm W:=by
 unfold nm at h ⊢
 obtain⟨p,hp,e⟩:=qAH.mp h
 exact qAH.mpr ⟨p,qBo hp,e⟩
theorem WbK.elow{W:Web}(w:WbK W){p:Str×List Str}(hp:p∈W):(p.1∈nm W)/\∀x∈p.2,x∈nm W:=by
 refine⟨qAH.mpr ⟨p,hp,rfl⟩,λx hx=>?_⟩
 obtain⟨i,hi,e⟩:=qAY hp
 exact zma (w.ok.el i p.1 p.2 (by rw[qF hi,e]) x hx)
theorem WbK.good{W:Web}(w:WbK W){i:Nat}{p:Str×List Str}(h:W[i]?=some p):zes (nm (W.take i)) (rowD p)=true:=by
 have hp:p∈W:=qS h
 have hn:p.1∉nm (W.take i):=λz=>by
  have nd:=w.ok.nd
  have h1:(nm W)[i]?=some p.1:=by unfold nm;rw[qT,h];rfl
  have e:nm (W.take i)=(nm W).take i:=by unfold nm;rw[qBx]
  rw[e]at z
  obtain⟨j,hj,ej⟩:=qAY z
  rw[List.getElem_take]at ej
  obtain⟨hi,ei⟩:=qI.mp h1
  rw[qAv]at hj
  have:=zada nd (ej.trans ei.symm)
  omega
 show((zig p.1&&!decide (p.1∈nm (W.take i)))&&(decide ((p.2.map PyData.str).length<=4)&&eldB (nm (W.take i)) (p.2.map .str)))=true
 unfold eldB
 rw[zog,w.nam p.1 (w.elow hp).1,decide_eq_false hn,qD,decide_eq_true (w.ok.few p hp)]
 dsimp only
 rw[decide_eq_true (w.el p hp)]
 simp only[Bool.not_false,Bool.and_true,qBz,qr,decide_eq_true_eq]
 exact w.ok.el i p.1 p.2 h
theorem zmv(p:Str×List Str):zri (rowD p)=p.1:=rfl
theorem zadh{W:Web}(w:WbK W):∀(n i:Nat),n=W.length - i->i<=W.length->zav i (nm (W.take i)) ((W.drop i).map rowD)=none
 | 0,i,e,h=>by
  rw[List.drop_eq_nil_of_le (by omega)];rfl
 | n+1,i,e,h=>by
  have hi:i<W.length:=by omega
  rw[qAD hi]
  show(if(decide (i<10)&&zes (nm (W.take i)) (rowD W[i]))=true then zav (i+1) (nm (W.take i)++[zri (rowD W[i])]) ((W.drop (i+1)).map rowD)else some i)=none
  have:=w.ten
  rw[if_pos (by rw[decide_eq_true (by omega),w.good (qF hi)];rfl),zmv,<- zjv (qF hi)]
  exact zadh w n (i+1) (by omega) hi
theorem zzp{W:Web}(w:WbK W):zav 0 [] (W.map rowD)=none:=zadh w W.length 0 rfl (qAR _)
theorem zadi{W:Web}(w:WbK W){k:Nat}{p:Str×List Str}(hk:k<W.length)(hb:zes (nm (W.take k)) (rowD p)=false):∀(n i:Nat),n=k - i->i<=k->zav i (nm (W.take i)) (((W.set k p).drop i).map rowD)=some k
 | 0,i,e,h=>by
  have:i=k:=by omega
  subst this
  rw[qAD (by rw[qN];exact hk),List.getElem_set_self]
  show(if(decide (i<10)&&zes (nm (W.take i)) (rowD p))=true then _ else some i)=some i
  rw[if_neg (by rw[hb,qBr];decide)]
 | n+1,i,e,h=>by
  have hi:i<k:=by omega
  have hi':i<W.length:=by omega
  rw[qAD (by rw[qN];exact hi'),List.getElem_set_ne (by omega)]
  show(if(decide (i<10)&&zes (nm (W.take i)) (rowD W[i]))=true then zav (i+1) (nm (W.take i)++[zri (rowD W[i])]) (((W.set k p).drop (i+1)).map rowD)else some i)=some k
  have:=w.ten
  rw[if_pos (by rw[decide_eq_true (by omega),w.good (qF hi')];rfl),zmv,<- zjv (qF hi')]
  exact zadi w hk hb n (i+1) (by omega) hi
theorem zakh:∀{W:Web},W≠[]->∃e es,W.map rowD=e::es
 | [],h=>absurd rfl h
 | p::W,_=>⟨rowD p,W.map rowD,rfl⟩
theorem zagz{es:List PyData}(hne:es≠[])(h:zav 0 [] es=none):webR (.list es)=.ok (.list es) true:=by
 cases es with
 | nil=>exact absurd rfl hne
 | cons e es=>show(match zav 0 [] (e::es)with|some i=>_|none=>_)=_;rw[h]
theorem zabv{es:List PyData}(hne:es≠[]){k:Nat}(h:zav 0 [] es=some k):webR (.list es)=.rx "NoWeb" (.int (k:Int)):=by
 cases es with
 | nil=>exact absurd rfl hne
 | cons e es=>show(match zav 0 [] (e::es)with|some i=>_|none=>_)=_;rw[h]
noncomputable abbrev zug:SF:=(sSeq (sIf (tOrF (zbv (eOp geD (eVar 2) (eC (.int 10)))) (zbb (tTru (zbt 2 zar (zae (eVar 1) (zae (eVar 3) aNil)))))) zkv sNil)
  (sApp 1 (eIxV 3 (eC (.int 0)))))
theorem zzq{T:Sl}:∀(es:List PyData)(k:Nat)(A:List Str)(s2 s3:Sl),(∀e∈es,zst e)->A.length+es.length<1000->zav k A es=none->
  ∃e',forL (gT 2 (zau 2 (zau 3 zek))) zug ((es.zipIdx k).map encE) [T,.ac (zah A),s2,s3]=some (.nx (T::e'))
 | [],k,A,s2,s3,_,_,_=>⟨_,rfl⟩
 | e::es,k,A,s2,s3,h,hl,hf=>by
  have hl':A.length+(es.length+1)<1000:=hl
  have g:=zje (A:=A) (h e (by simp))
  have t1:zbv (eOp geD (eVar 2) (eC (.int 10))) [T,.ac (zah A),.pl (.int (k:Int)),.pl e]=some (!decide (k<10)):=by
   refine zew ((zakg rfl rfl).trans ?_)
   congr 2
   rw[qAQ]
   simp
   omega
  have t2:zbb (tTru (zbt 2 zar (zae (eVar 1) (zae (eVar 3) aNil)))) [T,.ac (zah A),.pl (.int (k:Int)),.pl e]=some (!zes A e):=zkb (zcs (n:=2) (rs:=[⟨zah A,false,[1]⟩,⟨e,false,[]⟩]) rfl rfl g)
  rw[zav]at hf
  split at hf
  ·rename_i hb
   have t3:tOrF (zbv (eOp geD (eVar 2) (eC (.int 10)))) (zbb (tTru (zbt 2 zar (zae (eVar 1) (zae (eVar 3) aNil))))) [T,.ac (zah A),.pl (.int (k:Int)),.pl e]=some false:=by
    have hb':=qBF.mp hb
    unfold tOrF
    rw[t1,t2,hb'.1,hb'.2];rfl
   obtain⟨n,xs,rfl,_⟩:=zsu (qBF.mp hb).2
   obtain⟨e',ih⟩:=zzq es (k+1) (A++[n]) (.pl (.int (k:Int))) (.pl (.tuple [.str n,zah xs])) (λx hx=>h x (qL _ hx)) (by rw[qY];show _+1+_<_;omega) hf
   refine⟨e',?_⟩
   rw[<- ih]
   have b:zug [T,.ac (zah A),.pl (.int (k:Int)),.pl (.tuple [.str n,zah xs])]=some (.nx [T,.ac (zah (A++[n])),.pl (.int (k:Int)),.pl (.tuple [.str n,zah xs])]):=by
    refine zbd (if_f t3 rfl) ?_
    rw[zqj (ds:=A.map .str) (d:=.str n) (fr:=false) rfl rfl (by rw[qD];omega)]
    congr 2
    unfold zah
    simp
   show((zug [T,.ac (zah A),.pl (.int (k:Int)),.pl (.tuple [.str n,zah xs])]).bind _)=_
   rw[b];rfl
  ·cases hf
theorem zzr{p:Str×List Str}(h1:Low p.1)(h2:p.1.length<=1000)(h3:p.2.length<300):zst (rowD p):=by
 intro n el e
 cases e
 refine⟨λx hx=>?_,λes he=>?_⟩
 ·cases hx;exact⟨h1,h2⟩
 ·cases he;rw[qD];exact h3
theorem zuh{x:Str}(h:zig x=true):x.length<=1000:=by
 unfold zig at h
 simp only[qj,decide_eq_true_eq]at h
 omega
theorem WbK.ent{W:Web}(w:WbK W):∀e∈W.map rowD,zst e:=λe he=>by
 obtain⟨p,hp,rfl⟩:=qAH.mp he
 have hn:=(w.elow hp).1
 exact zzr (w.low _ hn) (zuh (w.nam _ hn)) (by have:=w.ok.few p hp;omega)
theorem WbK.loop{W:Web}(w:WbK W):∃e',sFor (zgl (zae (eVar 0) aNil)) (gT 2 (zau 2 (zau 3 zek))) zug [.pl (webD W),.ac (.list []),.no,.no]=some (.nx (.pl (webD W)::e')):=by
 have:=w.ten
 obtain⟨e',lp⟩:=zzq (T:=.pl (webD W)) (W.map rowD) 0 [] .no .no w.ent (by rw[qD];show 0+_<_;omega) (zzp w)
 exact⟨e',zqe (ds:=((W.map rowD).zipIdx 0).map encE) (bs:=[]) rfl lp⟩
theorem WbK.copy{W:Web}(w:WbK W):zcn [webD W]=some (webD W,true):=
 zzo (by rw[qD];have:=w.ten;omega) λe he=>by
  obtain⟨p,hp,rfl⟩:=qAH.mp he
  exact⟨p.1,p.2,rfl,w.low _ (w.elow hp).1,λx hx=>w.low x ((w.elow hp).2 x hx)⟩
theorem WbK.first{W:Web}(w:WbK W):sIf (tOrF (zbb (tTru (eIsi "list" (eVar 0)))) (zbb (tTru (eVar 0)))) zkv sNil [.pl (webD W),.no,.no,.no]=some (.nx [.pl (webD W),.no,.no,.no]):=by
 obtain⟨e,es,h⟩:=zakh w.ne
 unfold webD
 rw[h]
 rfl
theorem WbK.web_of{W:Web}(w:WbK W):zko [webD W]=some (webD W,true):=by
 obtain⟨e',lp⟩:=w.loop
 exact zfo (env:=[.pl (webD W),.no,.no,.no]) rfl (zbd w.first (zbd (e1:=[.pl (webD W),.ac (.list []),.no,.no]) rfl (zbd lp (zms (zcs (n:=1) (rs:=[⟨webD W,false,[]⟩]) rfl rfl w.copy)))))
noncomputable def rowT(p:Str×List Str):NT:=.tp [.lf (.str p.1),.ls (p.2.map λx=>.lf (.str x))]
noncomputable def zee(W:Web):NT:=.ls (W.map rowT)
theorem zvl(W:Web):znx (gT 2 (zau 0 (zau 1 zek))) zhm (pTup (zda (pLf (eVar 0)) (zda (pFr (eCB zim (zae (eVar 1) aNil))) zmb))) [.no,.no] (W.map rowD)=some (W.map rowT):=by
 induction W with
 | nil=>rfl
 | cons p W ih=>
  have hr:pTup (zda (pLf (eVar 0)) (zda (pFr (eCB zim (zae (eVar 1) aNil))) zmb)) [.pl (.str p.1),.pl (zah p.2)]=some (rowT p):=by
   show some (NT.tp [.lf (.str p.1),.ls ((p.2.map PyData.str).map .lf)])=_
   unfold rowT
   rw[List.map_map];rfl
  show((pTup (zda (pLf (eVar 0)) (zda (pFr (eCB zim (zae (eVar 1) aNil))) zmb)) [.pl (.str p.1),.pl (zah p.2)]).bind λr=>(znx (gT 2 (zau 0 (zau 1 zek))) zhm (pTup (zda (pLf (eVar 0)) (zda (pFr (eCB zim (zae (eVar 1) aNil))) zmb))) [.no,.no] (W.map rowD)).map λrs=>r::rs)=_
  rw[hr,ih];rfl
theorem zrl{own:List Str}{env:DEnv}{k:Nat}{W:Web}(ho:own.length=2)(h:eVar k env=some ⟨webD W,false,[]⟩)(hl:W.length<100000) :
  zqc own [] (zfk (eVar k)) (gT 2 (zau 0 (zau 1 zek))) zhm (pTup (zda (pLf (eVar 0)) (zda (pFr (eCB zim (zae (eVar 1) aNil))) zmb))) env=some (zee W):=by
 have hi:zfk (eVar k) env=some (W.map rowD,[]):=by unfold zfk;rw[h];rfl
 have hb:envB own [] env=[.no,.no]:=by
  match own,ho with
  | [_,_],_=>rfl
 unfold zqc
 rw[hi,qC,hb,if_pos ⟨by rw[qD];exact hl,rfl,rfl⟩,zvl];rfl
theorem WbK.copyT{W:Web}(w:WbK W):zdv [webD W]=some (zee W):=by
 have:=w.ten
 exact zrl (env:=[.pl (webD W)]) (k:=0) rfl rfl (by omega)
theorem zaha{f:SF}{g:NTF}{env e1:DEnv}{o:Option NT}(h:f env=some (.nx e1))(k:g e1=o):zsq f g env=o:=by unfold zsq;rw[h];exact k
theorem WbK.web_ofT{W:Web}(w:WbK W):zck [webD W]=some (zee W):=by
 obtain⟨e',lp⟩:=w.loop
 refine zaha (env:=[.pl (webD W),.no,.no,.no]) w.first (zaha (e1:=[.pl (webD W),.ac (.list []),.no,.no]) rfl (zaha lp ?_))
 unfold zabp
 rw[zfp (r:=⟨webD W,false,[]⟩) rfl]
 exact w.copyT
theorem zabw{d:PyData}(s:qBB d=true):neD d d=some (.bool false,false):=by
 unfold neD eqOk
 rw[s,Bool.and_self,qAo,if_pos rfl,PySem.SeqAt.eqv_refl _ (qAi s)];rfl
theorem zrm{xs:List Str}(h:∀x∈xs,qA8 x=true):qBB (zah xs)=true:=by
 obtain⟨h1,h2⟩:=ztw xs h
 unfold qBB zah
 rw[qj]
 refine⟨h1,decide_eq_true ?_⟩
 show qB7 (xs.map .str)+1<=64
 omega
theorem zaki{f:OF}{a b:EF}{env:DEnv}{x y:Val}{c:Bool}(ha:a env=some x)(hb:b env=some y)(h:f x.d y.d=some (.bool c,false)):eOp f a b env=some (vb c):=by
 unfold eOp;rw[ha,hb];simp only[qC];rw[h];rfl
theorem WbK.alike{W:Web}(w:WbK W):zas [webD W,webD W]=some (.bool true,false):=by
 have ten:=w.ten
 have hlen:zbv (eOp neD (eCB lenD (zae (eVar 0) aNil)) (eCB lenD (zae (eVar 1) aNil))) [.pl (webD W),.pl (webD W),.no,.no]=some false:=by
  refine zew ?_
  unfold eOp
  rw[zka (ds:=W.map rowD) (fr:=false) (bs:=[]) rfl,zka (ds:=W.map rowD) (fr:=false) (bs:=[]) rfl]
  simp only[qC]
  rw[zqf];rfl
 have lp:∃env',forL (gT 2 (zau 2 (zau 3 zek))) (sSeq (sIf (tOrF (zbb (tTru (eIsi "tuple" (eVar 3)))) (tOrF (zbv (eOp neD (eCB lenD (zae (eVar 3) aNil)) (eC (.int 2)))) (zbb (tTru (eIsi "list" (eIxV 3 (eC (.int 1)))))))) (sRet (eC (.bool false))) sNil)
  (sIf (tOrF (zbb (tTru (eIsi "str" (eIxV 3 (eC (.int 0)))))) (tOrF (zbv (eOp neD (eIxV 3 (eC (.int 0))) (eOp ixD (eIxV 1 (eVar 2)) (eC (.int 0))))) (zbv (eOp neD (eIxV 3 (eC (.int 1))) (eOp ixD (eIxV 1 (eVar 2)) (eC (.int 1))))))) (sRet (eC (.bool false))) sNil))
   ((W.zipIdx).map λ(p:(Str×List Str)×Nat)=>PyData.tuple [.int (p.2:Int),rowD p.1]) [.pl (webD W),.pl (webD W),.no,.no]=some (.nx env')/\∃s2 s3,env'=[.pl (webD W),.pl (webD W),s2,s3]:=by
  refine zlp (λpre env=>∃s2 s3,env=[.pl (webD W),.pl (webD W),s2,s3]) ⟨_,_,rfl⟩ ?_
  rintro pre ⟨p,i⟩ post env hp ⟨s2,s3,rfl⟩
  have hz:(W.zipIdx)[pre.length]?=some (p,i):=by rw[<- hp];simp
  rw[qBp]at hz
  have hi:i=pre.length/\W[pre.length]?=some p:=by
   cases e:W[pre.length]? with
   | none=>rw[e]at hz;cases hz
   | some y=>rw[e]at hz;simp at hz;exact⟨by omega,by rw[hz.1]⟩
  obtain⟨rfl,hn⟩:=hi
  have hpW:p∈W:=qS hn
  have so:=zags w.ok w.low p hpW
  refine⟨[.pl (webD W),.pl (webD W),.pl (.int ((pre.length:Nat):Int)),.pl (rowD p)],[.pl (webD W),.pl (webD W),.pl (.int ((pre.length:Nat):Int)),.pl (rowD p)],rfl,.inl ?_,_,_,rfl⟩
  have ix1:eIxV 1 (eVar 2) [.pl (webD W),.pl (webD W),.pl (.int ((pre.length:Nat):Int)),.pl (rowD p)]=some ⟨rowD p,false,[]⟩:=zagm (ds:=W.map rowD) rfl rfl (by rw[qT,hn];rfl)
  have i0:eOp ixD (eIxV 1 (eVar 2)) (eC (.int 0)) [.pl (webD W),.pl (webD W),.pl (.int ((pre.length:Nat):Int)),.pl (rowD p)]=some (vs p.1):=by unfold eOp;rw[ix1];rfl
  have i1:eOp ixD (eIxV 1 (eVar 2)) (eC (.int 1)) [.pl (webD W),.pl (webD W),.pl (.int ((pre.length:Nat):Int)),.pl (rowD p)]=some ⟨zah p.2,false,[]⟩:=by unfold eOp;rw[ix1];rfl
  have r1:eIxV 3 (eC (.int 1)) [.pl (webD W),.pl (webD W),.pl (.int ((pre.length:Nat):Int)),.pl (rowD p)]=some ⟨zah p.2,false,[]⟩:=rfl
  refine zbd (if_f rfl rfl) (if_f (or_2 rfl (or_2 (zew ((zalm (x:=p.1) rfl i0).trans ?_)) (zew ?_))) rfl)
  ·rw[beq_self_eq_true];rfl
  ·exact zaki r1 i1 (zabw (zrm so.2))
 obtain⟨env',lp,s2,s3,rfl⟩:=lp
 refine zfo (env:=[.pl (webD W),.pl (webD W),.no,.no]) rfl (zbd (if_f (or_2 rfl hlen) rfl) (zbd (zqe (ds:=(W.zipIdx).map λ(p:(Str×List Str)×Nat)=>PyData.tuple [.int (p.2:Int),rowD p.1]) (bs:=[]) ?_ lp) rfl))
 unfold zgl
 rw[zfp (r:=⟨webD W,false,[]⟩) rfl]
 simp only[qC,webD]
 rw[ztu]
theorem WbK.thing{W:Web}(w:WbK W):zoe (webD W):=λes he=>by
 cases he
 exact⟨by rw[qD];have:=w.ten;omega,w.ent⟩
theorem WbK.isweb{W:Web}(w:WbK W):zcg [webD W]=some (.bool true,false):=by
 rw[zlz w.thing]
 obtain⟨e,es,h⟩:=zakh w.ne
 have:=zagz (es:=W.map rowD) (by rw[h];exact λz=>by cases z) (zzp w)
 rw[show webR (webD W)=.ok (webD W) true from this];rfl
theorem zakj:zcg [webD []]=some (.bool false,false):=by
 rw[zlz (d:=webD []) λes he=>by cases he;exact⟨by show 0<=90;omega,λe z=>by cases z⟩];rfl
theorem zals:zig ("A":Str)=false:=by decide +kernel
noncomputable def bad(W:Web)(k:Nat)(p:Str×List Str):Web:=W.set k (p.1,p.2++[("A":Str)])
theorem WbK.bad_row{W:Web}(w:WbK W){k:Nat}{p:Str×List Str}(h:W[k]?=some p):zes (nm (W.take k)) (rowD (p.1,p.2++[("A":Str)]))=false:=by
 have hA:("A":Str)∉nm (W.take k):=λz=>by
  have:=w.nam _ (zma z)
  rw[zals]at this;cases this
 show((zig p.1&&!decide (p.1∈nm (W.take k)))&&(decide (((p.2++[("A":Str)]).map PyData.str).length<=4)&&eldB (nm (W.take k)) ((p.2++[("A":Str)]).map .str)))=false
 have:eldB (nm (W.take k)) ((p.2++[("A":Str)]).map .str)=false:=by
  unfold eldB
  rw[zog]
  dsimp only
  rw[List.all_append]
  simp[hA]
 rw[this,qBr,qBr]
theorem WbK.bad_fb{W:Web}(w:WbK W){k:Nat}{p:Str×List Str}(h:W[k]?=some p):zav 0 [] ((bad W k p).map rowD)=some k:=
 zadi w (qI.mp h).1 (w.bad_row h) k 0 rfl (qAR _)
theorem WbK.bad_thing{W:Web}(w:WbK W){k:Nat}{p:Str×List Str}(h:W[k]?=some p):zoe (webD (bad W k p)):=λes he=>by
 cases he
 refine⟨by rw[qD];unfold bad;rw[qN];have:=w.ten;omega,λe he=>?_⟩
 obtain⟨q,hq,rfl⟩:=qAH.mp he
 have hp:p∈W:=qS h
 rcases qBO hq with z|rfl
 ·exact w.ent _ (qAH.mpr ⟨q,z,rfl⟩)
 ·exact zzr (w.low _ (w.elow hp).1) (zuh (w.nam _ (w.elow hp).1)) (by have:=w.ok.few p hp;rw[qY];show _+1<300;omega)
theorem WbK.bad_web{W:Web}(w:WbK W){k:Nat}{p:Str×List Str}(h:W[k]?=some p):webR (webD (bad W k p))=.rx "NoWeb" (.int (k:Int)):=
 zabv (λz=>by
  have:=congrArg List.length z
  unfold bad at this
  rw[qD,qN]at this
  exact w.ne (qAC.mp this)) (w.bad_fb h)
theorem WbK.bad_is{W:Web}(w:WbK W){k:Nat}{p:Str×List Str}(h:W[k]?=some p):zcg [webD (bad W k p)]=some (.bool false,false):=by
 rw[zlz (w.bad_thing h),w.bad_web h];rfl
theorem WbK.refused{W:Web}(w:WbK W){k:Nat}{p:Str×List Str}(h:W[k]?=some p):zco [webD (bad W k p),.int (k:Int)]=some (.bool true,false):=by
 have g:=zadg (w.bad_thing h)
 rw[w.bad_web h]at g
 generalize webD (bad W k p)=d at g
 refine zfo (env:=[.pl d,.pl (.int (k:Int)),.no,.no]) rfl (zbd (e1:=[.pl d,.pl (.int (k:Int)),.no,.pl (.bool false)]) rfl (zbd (e1:=[.pl d,.pl (.int (k:Int)),.no,.pl (.bool true)]) ?_ rfl))
 refine(if_pos rfl).trans ?_
 unfold zabm
 show(some _).bind _=_
 rw[qC]
 show(if 1=1 then(zeb [d]).bind _ else none)=_
 rw[if_pos rfl,g]
 have he:eAnd (eOp eqD (eC (.int (k:Int))) (eVar 1)) (eNot (eIsi "bool" (eC (.int (k:Int))))) [.pl d,.pl (.int (k:Int)),.no,.pl (.bool false)]=some (vb true):=by
  unfold eAnd
  rw[zvd (i:=(k:Int)) (j:=(k:Int)) rfl rfl,beq_self_eq_true];rfl
 show(if("NoWeb":Str)∈[("NoWeb":Str)]then(sSet 3 (eAnd (eOp eqD (eC (.int (k:Int))) (eVar 1)) (eNot (eIsi "bool" (eC (.int (k:Int)))))) [.pl d,.pl (.int (k:Int)),.no,.pl (.bool false)]).bind _ else none)=_
 rw[if_pos (qAl.mpr rfl),zga he];rfl
theorem zadj{W:Web}{k:Nat}{p q:Str×List Str}(h:W[k]?=some p)(e:q.1=p.1):nm (W.set k q)=nm W:=by
 unfold nm
 rw[List.map_set,e]
 refine List.ext_getElem? λi=>?_
 rw[qBS]
 split
 ·rename_i hi
  subst hi
  split
  ·rw[qT,h];rfl
  ·rename_i hl;rw[qBg (by simpa using hl)]
 ·rfl
theorem WbK.clear{W:Web}(w:WbK W){k:Nat}{p:Str×List Str}(h:W[k]?=some p):WbK (W.set k (p.1,[])):=by
 have hn:nm (W.set k (p.1,[]))=nm W:=zadj h rfl
 refine⟨⟨by rw[hn];exact w.ok.nd,λi n es e x hx=>?_,λq hq=>?_,by rw[qN];exact w.ok.len⟩,λz=>?_,by rw[qN];exact w.ten,λq hq=>?_,by rw[hn];exact w.nam,by rw[hn];exact w.low⟩
 ·rw[qBS]at e
  split at e
  ·split at e
   ·cases e;cases hx
   ·cases e
  ·rename_i hk
   have:=w.ok.el i n es e x hx
   rw[List.take_set]
   by_cases lt:k<i
   ·rw[zadj (p:=p) (q:=(p.1,[])) (by rw[qBL,if_pos lt];exact h) rfl];exact this
   ·rw[List.set_eq_of_length_le (by rw[qAv];omega)];exact this
 ·rcases qBO hq with z|rfl
  ·exact w.ok.few q z
  ·exact qAR _
 ·have:=congrArg List.length z
  rw[qN]at this
  exact w.ne (qAC.mp this)
 ·rcases qBO hq with z|rfl
  ·exact w.el q z
  ·exact qBq
theorem WbK.drop{W:Web}(w:WbK W)(h:1<W.length):WbK W.dropLast:=by
 have ed:W.dropLast=W.take (W.length - 1):=qBi
 have sub:∀p∈W.dropLast,p∈W:=λp hp=>(qBh W).subset hp
 have subn:∀x∈nm W.dropLast,x∈nm W:=λx hx=>by
  unfold nm at hx ⊢
  obtain⟨p,hp,e⟩:=qAH.mp hx
  exact qAH.mpr ⟨p,sub p hp,e⟩
 refine⟨⟨?_,λi n es e x hx=>?_,λp hp=>w.ok.few p (sub p hp),by rw[qAW];have:=w.ok.len;omega⟩,λz=>?_,by rw[qAW];have:=w.ten;omega,λp hp=>w.el p (sub p hp),λx hx=>w.nam x (subn x hx),λx hx=>w.low x (subn x hx)⟩
 ·unfold nm
  rw[List.map_dropLast]
  exact w.ok.nd.sublist (qBh _)
 ·rw[ed]at e ⊢
  rw[qBL]at e
  split at e
  ·rename_i hi
   rw[List.take_take,Nat.min_eq_left (by omega)]
   exact w.ok.el i n es e x hx
  ·cases e
 ·have:=congrArg List.length z
  rw[qAW]at this
  simp at this
  omega
theorem WbK.popped{W:Web}(w:WbK W):zcg [webD W.dropLast]=some (.bool (decide (1<W.length)),false):=by
 by_cases h:1<W.length
 ·rw[(w.drop h).isweb,decide_eq_true h]
 ·have:W.length≠0:=λz=>w.ne (qAC.mp z)
  have e:W.dropLast=[]:=qAC.mp (by rw[qAW];omega)
  rw[e,zakj,decide_eq_false h]
theorem zsv{α β:Type}{f:α->Option β}:∀{xs:List α}{ys:List β},xs.length=ys.length->(∀(i:Nat)(x:α)(y:β),xs[i]?=some x->ys[i]?=some y->f x=some y)->mapO f xs=some ys
 | [],[],_,_=>rfl
 | x::xs,y::ys,hl,h=>by
  unfold mapO
  rw[h 0 x y rfl rfl,zsv (xs:=xs) (ys:=ys) (Nat.succ.inj hl) λi a b h1 h2=>h (i+1) a b h1 h2];rfl
 | [],_::_,hl,_=>by cases hl
 | _::_,[],hl,_=>by cases hl
noncomputable def esS(es:List Str):List SV:=es.map λx=>.dt (.str x)
structure WbAt(hp:List SN)(b m:Nat)(ks:List Nat)(W:Web):Prop where
 top:hp[b]?=some (.ls (ks.map .lo))
 len:ks.length=W.length
 row:∀(i k:Nat)(p:Str×List Str),ks[i]?=some k->W[i]?=some p->hp[k]?=some (.tp [.dt (.str p.1),.lo (k+1)])/\hp[k+1]?=some (.ls (esS p.2))
 inn:∀k∈ks,b<k/\k+1<b+m
 nd:ks.Nodup
 odd:∀k∈ks,∀l∈ks,k≠l+1
 fit:b+m<=hp.length
 pos:0<m
section
variable{hp hp':List SN}{b m:Nat}{ks:List Nat}{W:Web}
theorem WbAt.frame(h:WbAt hp b m ks W)(e:∀n,b<=n->n<b+m->hp'[n]?=hp[n]?)(l:b+m<=hp'.length):WbAt hp' b m ks W:=by
 have:=h.pos
 refine⟨by rw[e b (qQ _) (by omega)];exact h.top,h.len,λi k p h1 h2=>?_,h.inn,h.nd,h.odd,l,h.pos⟩
 have hk:=h.inn k (qS h1)
 obtain⟨g1,g2⟩:=h.row i k p h1 h2
 exact⟨by rw[e k (by omega) (by omega)];exact g1,by rw[e (k+1) (by omega) (by omega)];exact g2⟩
theorem WbAt.out(h:WbAt hp b m ks W){n:Nat}{s:SN}(hn:n<b\/b+m<=n):WbAt (hp.set n s) b m ks W:=
 h.frame (λi h1 h2=>qJ (by omega)) (by rw[qN];exact h.fit)
theorem WbAt.more(h:WbAt hp b m ks W)(x:List SN):WbAt (hp++x) b m ks W:=by
 have:=h.fit
 exact h.frame (λi h1 h2=>qW (by omega)) (by rw[qY];omega)
theorem zalt(hp:List SN)(k:Nat)(es:List Str):mapO (rdV hp k) (esS es)=some (es.map .str):=by
 refine zsv (by unfold esS;rw[qD,qD]) λi x y h1 h2=>?_
 unfold esS at h1
 rw[qT]at h1 h2
 cases e:es[i]? with
 | none=>rw[e]at h1;cases h1
 | some z=>rw[e]at h1 h2;cases h1;cases h2;cases k<;>rfl
theorem WbAt.rd(h:WbAt hp b m ks W):rdV hp 9 (.lo b)=some (webD W):=by
 have:mapO (rdV hp 8) (ks.map .lo)=some (W.map rowD):=by
  refine zsv (by rw[qD,qD];exact h.len) λi x y h1 h2=>?_
  rw[qT]at h1 h2
  cases ek:ks[i]? with
  | none=>rw[ek]at h1;cases h1
  | some k=>
   cases ep:W[i]? with
   | none=>rw[ep]at h2;cases h2
   | some p=>
    rw[ek]at h1;rw[ep]at h2
    cases h1;cases h2
    obtain⟨g1,g2⟩:=h.row i k p ek ep
    have r2:rdV hp 7 (.lo (k+1))=some (zah p.2):=by
     unfold rdV
     rw[g2]
     show(mapO (rdV hp 6) (esS p.2)).map _=_
     rw[zalt];rfl
    have r1:mapO (rdV hp 7) [.dt (.str p.1),.lo (k+1)]=some [.str p.1,zah p.2]:=by
     unfold mapO mapO mapO
     rw[r2];rfl
    unfold rdV
    rw[g1]
    show(mapO (rdV hp 7) [.dt (.str p.1),.lo (k+1)]).map _=_
    rw[r1];rfl
 unfold rdV
 rw[h.top]
 show(mapO (rdV hp 8) (ks.map .lo)).map _=_
 rw[this];rfl
theorem WbAt.els(h:WbAt hp b m ks W){j k:Nat}{p:Str×List Str}(hk:ks[j]?=some k)(hp':W[j]?=some p)(es:List Str):WbAt (hp.set (k+1) (.ls (esS es))) b m ks (W.set j (p.1,es)):=by
 have mk:=qS hk
 have ik:=h.inn k mk
 have fit:=h.fit
 refine⟨by rw[qJ (by omega)];exact h.top,by rw[qN];exact h.len,λi l q h1 h2=>?_,h.inn,h.nd,h.odd,by rw[qN];exact h.fit,h.pos⟩
 have ml:=qS h1
 by_cases e:i=j
 ·subst e
  rw[hk]at h1
  cases h1
  rw[qd (qI.mp hp').1]at h2
  cases h2
  exact⟨by rw[qJ (by omega)];exact(h.row i k p hk hp').1,by rw[qd (by omega)]⟩
 ·rw[qJ λz=>e z.symm]at h2
  obtain⟨g1,g2⟩:=h.row i l q h1 h2
  have o1:=h.odd l ml k mk
  have o2:l≠k:=λz=>e (zya h.nd h1 (by rw[z];exact hk))
  exact⟨by rw[qJ (by omega)];exact g1,by rw[qJ (by omega)];exact g2⟩
theorem WbAt.pops(h:WbAt hp b m ks W){ks':List Nat}{W':Web}(sub:ks'.Sublist ks)(len:ks'.length=W'.length)(at_:∀(i k:Nat) (p:Str×List Str),ks'[i]?=some k->W'[i]?=some p->∃j:Nat,ks[j]?=some k/\W[j]?=some p):WbAt (hp.set b (.ls (ks'.map .lo))) b m ks' W':=by
 have fit:=h.fit
 have pos:=h.pos
 refine⟨by rw[qd (by omega)],len,λi k p h1 h2=>?_,λk hk=>h.inn k (sub.subset hk),h.nd.sublist sub,λk hk l hl=>h.odd k (sub.subset hk) l (sub.subset hl),by rw[qN];exact fit,pos⟩
 obtain⟨j,g1,g2⟩:=at_ i k p h1 h2
 have ik:=h.inn k (qS g1)
 obtain⟨f1,f2⟩:=h.row j k p g1 g2
 exact⟨by rw[qJ (by omega)];exact f1,by rw[qJ (by omega)];exact f2⟩
theorem WbAt.pop(h:WbAt hp b m ks W):WbAt (hp.set b (.ls ((ks.map SV.lo).dropLast))) b m ks.dropLast W.dropLast:=by
 rw[<- List.map_dropLast]
 refine h.pops (qBh _) (by rw[qAW,qAW,h.len]) λi k p h1 h2=>⟨i,?_,?_⟩
 ·rw[qBi,qBL]at h1
  split at h1
  ·exact h1
  ·cases h1
 ·rw[qBi,qBL]at h2
  split at h2
  ·exact h2
  ·cases h2
end
noncomputable def kz:Nat->Web->List Nat
 | _,[]=>[]
 | n,_::W=>n::kz (n+2) W
noncomputable def sz:Nat->Web->List SN
 | _,[]=>[]
 | n,p::W=>.tp [.dt (.str p.1),.lo (n+1)]::.ls (esS p.2)::sz (n+2) W
theorem zadk:∀(es:List Str)(n:Nat),als (es.map λx=>NT.lf (.str x)) n=(esS es,[])
 | [],n=>by unfold als;rfl
 | x::es,n=>by
  show als (NT.lf (.str x)::es.map λx=>NT.lf (.str x)) n=_
  unfold als
  have:al (NT.lf (.str x)) n=(.dt (.str x),[]):=by unfold al;rfl
  rw[this,zadk es];rfl
theorem zakk(p:Str×List Str)(n:Nat):al (rowT p) n=(.lo n,[.tp [.dt (.str p.1),.lo (n+1)],.ls (esS p.2)]):=by
 have h1:al (NT.lf (.str p.1)) (n+1)=(.dt (.str p.1),[]):=by unfold al;rfl
 have h2:al (NT.ls (p.2.map λx=>NT.lf (.str x))) (n+1)=(.lo (n+1),[.ls (esS p.2)]):=by unfold al;rw[zadk]
 have h3:als [NT.lf (.str p.1),.ls (p.2.map λx=>NT.lf (.str x))] (n+1)=([.dt (.str p.1),.lo (n+1)],[.ls (esS p.2)]):=by
  unfold als
  rw[h1]
  show((SV.dt (.str p.1))::(als [NT.ls (p.2.map λx=>NT.lf (.str x))] (n+1)).1,[]++(als [NT.ls (p.2.map λx=>NT.lf (.str x))] (n+1)).2)=_
  unfold als
  rw[h2]
  unfold als
  rfl
 unfold rowT al
 rw[h3]
theorem zui:∀(W:Web)(n:Nat),als (W.map rowT) n=((kz n W).map .lo,sz n W)
 | [],n=>by show als [] n=_;unfold als;rfl
 | p::W,n=>by
  show als (rowT p::W.map rowT) n=_
  unfold als
  rw[zakk]
  show(SV.lo n::(als (W.map rowT) (n+2)).1,[SN.tp [.dt (.str p.1),.lo (n+1)],.ls (esS p.2)]++(als (W.map rowT) (n+2)).2)=_
  rw[zui W (n+2)];rfl
theorem zzs(W:Web)(n:Nat):al (zee W) n=(.lo n,.ls ((kz (n+1) W).map .lo)::sz (n+1) W):=by
 unfold zee al
 rw[zui]
theorem zadl:∀(W:Web)(n:Nat),(kz n W).length=W.length
 | [],_=>rfl
 | _::W,n=>congrArg (·+1) (zadl W (n+2))
theorem zadm:∀(W:Web)(n:Nat),(sz n W).length=2 * W.length
 | [],_=>rfl
 | _::W,n=>by
  show(sz (n+2) W).length+1+1=2 * (W.length+1)
  rw[zadm W (n+2)];omega
theorem zuj:∀{W:Web}{n i k:Nat},(kz n W)[i]?=some k->k=n+2 * i/\i<W.length
 | [],n,i,k,h=>by cases h
 | p::W,n,0,k,h=>by cases h;exact⟨rfl,Nat.zero_lt_succ _⟩
 | p::W,n,i+1,k,h=>by
  obtain⟨h1,h2⟩:=zuj (W:=W) (n:=n+2) (i:=i) h
  exact⟨by omega,Nat.succ_lt_succ h2⟩
theorem zadn:∀{W:Web}{n i:Nat}{p:Str×List Str},W[i]?=some p->(sz n W)[2 * i]?=some (.tp [.dt (.str p.1),.lo (n+2 * i+1)])/\(sz n W)[2 * i+1]?=some (.ls (esS p.2))
 | [],n,i,p,h=>by cases h
 | q::W,n,0,p,h=>by cases h;exact⟨rfl,rfl⟩
 | q::W,n,i+1,p,h=>by
  obtain⟨h1,h2⟩:=zadn (W:=W) (n:=n+2) (i:=i) h
  refine⟨?_,?_⟩
  ·show(sz n (q::W))[2 * i+1+1]?=_
   show(sz (n+2) W)[2 * i]?=_
   rw[h1];congr 5;omega
  ·show(sz (n+2) W)[2 * i+1]?=_
   exact h2
theorem zakl:∀(W:Web)(n:Nat),(kz n W).Nodup
 | [],_=>qBq
 | p::W,n=>qu.mpr ⟨λz=>by
   obtain⟨i,hi,e⟩:=qAY z
   have:=zuj (W:=W) (n:=n+2) (i:=i) (k:=n) (by rw[qF hi,e])
   omega,zakl W (n+2)⟩
theorem zoh(hp:List SN)(W:Web):WbAt (hp++(al (zee W) hp.length).2) hp.length (1+2 * W.length) (kz (hp.length+1) W) W:=by
 rw[zzs]
 have hl:=zadm W (hp.length+1)
 have mem:∀k∈kz (hp.length+1) W,∃i,k=hp.length+1+2 * i/\i<W.length:=λk hk=>by
  obtain⟨i,hi,e⟩:=qAY hk
  exact⟨i,zuj (by rw[qF hi,e])⟩
 refine⟨?_,zadl _ _,λi k p h1 h2=>?_,λk hk=>?_,?_,λk hk l hl=>?_,?_,by omega⟩
 ·rw[qP (qQ _),Nat.sub_self];rfl
 ·obtain⟨rfl,hi⟩:=zuj h1
  obtain⟨g1,g2⟩:=zadn (n:=hp.length+1) h2
  refine⟨?_,?_⟩
  ·rw[qP (by omega),show hp.length+1+2 * i - hp.length=2 * i+1 by omega]
   exact g1
  ·rw[qP (by omega),show hp.length+1+2 * i+1 - hp.length=(2 * i+1)+1 by omega]
   exact g2
 ·obtain⟨i,rfl,hi⟩:=mem k hk;omega
 ·exact zakl _ _
 ·obtain⟨i,rfl,hi⟩:=mem k hk
  obtain⟨j,rfl,hj⟩:=mem l hl
  omega
 ·rw[qY]
  show _<=hp.length+((sz (hp.length+1) W).length+1)
  omega
theorem zzt:∀es:List Str,flatNs (es.map λx=>NT.lf (.str x))=true
 | []=>by show flatNs []=true;unfold flatNs;rfl
 | x::es=>by
  show flatNs (NT.lf (.str x)::es.map λx=>NT.lf (.str x))=true
  unfold flatNs
  rw[zzt es]
  have:zhn (NT.lf (.str x))=true:=by unfold zhn;rfl
  rw[this];rfl
theorem zabx(p:Str×List Str):zhn (rowT p)=true:=by
 have h1:zhn (NT.lf (.str p.1))=true:=by unfold zhn;rfl
 have h2:zhn (NT.ls (p.2.map λx=>NT.lf (.str x)))=true:=by unfold zhn;exact zzt _
 unfold rowT zhn flatNs
 rw[h1]
 unfold flatNs
 rw[h2]
 unfold flatNs
 rfl
theorem zrn:∀W:Web,flatNs (W.map rowT)=true
 | []=>by show flatNs []=true;unfold flatNs;rfl
 | p::W=>by
  show flatNs (rowT p::W.map rowT)=true
  unfold flatNs
  rw[zabx,zrn W];rfl
theorem zaby(W:Web):zhn (zee W)=true:=by unfold zee zhn;exact zrn W
noncomputable def zro:SFs:=(ySeq (yS [5,6,7,8] (sSet 2 (zbt 2 zeo (zae (eOp addD (eC (.int 1)) (eOp modD (eIxV 1 (eC (.int 0))) (eC (.int 10)))) (zae (eIxV 1 (eC (.int 1))) aNil)))))
  (ySeq (yS [5,6,7,8] (sSet 3 (zbt 2 zgu (zae (eSl (eVar 1) (zfa (eC (.int 5))) (zfa (eC (.int 15)))) (zae (eVar 2) aNil)))))
  (ySeq (yS [5,6,7,8] (sSet 4 (eOp modD (eIxV 1 (eC (.int 2))) (eCB lenD (zae (eVar 2) aNil)))))
  (ySeq (zyg [3] 5 (zqc ["_law_name","_law_elders"] [] (zfk (eVar 3)) (gT 2 (zau 0 (zau 1 zek))) zhm (pTup (zda (pLf (eVar 0)) (zda (pFr (eCB zim (zae (eVar 1) aNil))) zmb)))))
  (ySeq (zht 6 1 zck (zae (eVar 5) aNil))
  (ySeq (zht 7 1 zck (zae (eVar 5) aNil))
  (ySeq (yIf (yT (tOrF (zbb (tTru (zbt 2 zas (zae (eVar 6) (zae (eVar 3) aNil))))) (zbb (tTru (zbt 2 zas (zae (eVar 7) (zae (eVar 3) aNil))))))) (yRet (yE (eC (.bool false)))) yNil)
  (ySeq (yApp (yIx (yIx (yVar 6) (yE (eVar 4))) (yE (eC (.int 1)))) (yFl (yE (eC (.str "a")))))
  (ySeq (zyd (yVar 6) (yE (eOp modD (eIxV 1 (eC (.int 3))) (eCB lenD (zae (eVar 6) aNil)))))
  (ySeq (yIf (yT (tOrF (zbb (tTru (zbt 2 zas (zae (eVar 7) (zae (eVar 3) aNil))))) (tOrF (zbb (tTru (zbt 2 zas (zae (eVar 5) (zae (eVar 3) aNil))))) (zbb (tTru (zbt 2 zas (zae (zbt 1 zko (zae (eVar 5) aNil)) (zae (eVar 3) aNil)))))))) (yRet (yE (eC (.bool false)))) yNil)
  (ySeq (yApp (yIx (yIx (yVar 5) (yE (eVar 4))) (yE (eC (.int 1)))) (yFl (yE (eC (.str "A")))))
  (ySeq (yIf (yT (tOrF (zbb (tTru (zbt 2 zco (zae (eVar 5) (zae (eVar 4) aNil))))) (zbb (tTru (zbt 2 zas (zae (eVar 7) (zae (eVar 3) aNil))))))) (yRet (yE (eC (.bool false)))) yNil)
  (ySeq (yIf (yT (zbv (eOp (isCD true) (zbt 1 zcg (zae (eVar 5) aNil)) (eC (.bool false))))) (yRet (yE (eC (.bool false)))) yNil)
  (ySeq (yPop (yIx (yIx (yVar 5) (yE (eVar 4))) (yE (eC (.int 1)))))
  (ySeq (zht 8 1 zck (zae (eVar 5) aNil))
  (ySeq (yClr (yIx (yIx (yVar 5) (yE (eVar 4))) (yE (eC (.int 1)))))
  (ySeq (yPop (yVar 5))
  (ySeq (yIf (yT (tOrF (zbb (tTru (zbt 2 zas (zae (eVar 8) (zae (eVar 3) aNil))))) (zbb (tTru (zbt 2 zas (zae (eVar 7) (zae (eVar 3) aNil))))))) (yRet (yE (eC (.bool false)))) yNil)
  (yRet (yE (eAnd (eOp eqD (zbt 1 zcg (zae (eVar 5) aNil)) (eOp gtD (eCB lenD (zae (eVar 2) aNil)) (eC (.int 1)))) (eOp (isCD false) (zbt 1 zcg (zae (eVar 7) aNil)) (eC (.bool true))))))))))))))))))))))))
theorem zcd{a b:SFs}{env e:DEnv}{st s:SyT}{o:Option OutS}(h:a env st=some (.nx e s))(k:b e s=o):ySeq a b env st=o:=by unfold ySeq;rw[h];exact k
theorem zahb{f:List Nat}{F:SF}{env e:DEnv}{st:SyT}(h1:slIn f st.sl=true)(h:F env=some (.nx e))(h2:noAt e st.sl=true):yS f F env st=some (.nx e st):=by
 unfold yS
 rw[if_pos h1,h,qC]
 exact if_pos h2
theorem zzu{c:TFs}{a:SFs}{env:DEnv}{st:SyT}(h:c env st=some false):yIf c a yNil env st=some (.nx env st):=by unfold yIf;rw[h];rfl
theorem zalu{hp:List SN}{s:Sl}{x:SV}{d:PyData}(h:rdV hp 9 x=some d):shS hp s (some x)=.pl d:=by unfold shS;dsimp only;rw[h]
theorem vw{E':DEnv}{j:Nat}{hp:List SN}{s:Sl}{x:SV}{d:PyData}(h:E'[j]?=some (shS hp s (some x)))(r:rdV hp 9 x=some d):eVar j E'=some ⟨d,false,[]⟩:=by unfold eVar;rw[h,zalu r]
theorem zzv{n j:Nat}(h:j<n):ixN n (j:Int)=some j:=by
 unfold ixN
 rw[if_pos (by omega),if_pos (by omega)]
 rfl
theorem zakm{α:Type}{xs:List α}{j:Nat}{x:α}(h:xs[j]?=some x):atI xs (j:Int)=some x:=by
 unfold atI
 rw[zzv (qI.mp h).1];exact h
theorem t_al{W:Web}(w:WbK W){E':DEnv}{j:Nat}(h:eVar j E'=some ⟨webD W,false,[]⟩)(h3:eVar 3 E'=some ⟨webD W,false,[]⟩):zbb (tTru (zbt 2 zas (zae (eVar j) (zae (eVar 3) aNil)))) E'=some false:=
 zkb (zcs (n:=2) (rs:=[⟨webD W,false,[]⟩,⟨webD W,false,[]⟩]) (zgw h (zfp h3)) rfl w.alike)
theorem zoi{W:Web}(w:WbK W){i:Nat}{f:AF}{env:DEnv}{st:SyT}{bs:List Nat}{fr:Bool}(h:f (zdi st.hp env st.sl)=some [⟨webD W,fr,bs⟩])(hi:i<env.length) :
  zht i 1 zck f env st=some (.nx (env.set i .no) (zabk ⟨st.sl,st.hp++(al (zee W) st.hp.length).2⟩ env.length i (.lo st.hp.length))):=by
 unfold zht
 rw[h,qC,if_pos ⟨rfl,hi⟩]
 show(zck [webD W]).bind _=_
 rw[w.web_ofT,qC,if_pos (zaby W)]
 congr 3
theorem zahc{hp:List SN}{b m:Nat}{ks:List Nat}{W:Web}(h:WbAt hp b m ks W){k kk j:Nat}{p:Str×List Str}(hk:ks[k]?=some kk)(hp':W[k]?=some p){env:DEnv}{sl:List (Option SV)}(hs:sl[j]?=some (some (.lo b)))(hv:eVar 4 (zdi hp env sl)=some (vi (k:Int))) :
  yIx (yIx (yVar j) (yE (eVar 4))) (yE (eC (.int 1))) env ⟨sl,hp⟩=some (.lo (kk+1)):=by
 obtain⟨g1,g2⟩:=h.row k kk p hk hp'
 have h1:yVar j env ⟨sl,hp⟩=some (.lo b):=by unfold yVar;dsimp only;rw[hs]
 have h2:inSN hp (.lo b)=some (ks.map .lo):=by unfold inSN;dsimp only;rw[h.top]
 have h3:yE (eVar 4) env ⟨sl,hp⟩=some (.int (k:Int)):=by unfold yE;dsimp only;rw[hv];rfl
 have h4:yIx (yVar j) (yE (eVar 4)) env ⟨sl,hp⟩=some (.lo kk):=by
  unfold yIx
  rw[h1,qC,h2,qC,h3,qC]
  exact zakm (by rw[qT,hk];rfl)
 have h5:inSN hp (.lo kk)=some [.dt (.str p.1),.lo (kk+1)]:=by unfold inSN;dsimp only;rw[g1]
 unfold yIx
 show(yIx (yVar j) (yE (eVar 4)) env ⟨sl,hp⟩).bind _=_
 rw[h4,qC,h5];rfl
theorem zahd{hp:List SN}{b m:Nat}{ks:List Nat}{W:Web}(h:WbAt hp b m ks W){k kk:Nat}{p:Str×List Str}(hk:ks[k]?=some kk)(hp':W[k]?=some p):lsAt hp (.lo (kk+1))=some (kk+1,esS p.2):=by
 unfold lsAt;dsimp only;rw[(h.row k kk p hk hp').2]
theorem zado{hp:List SN}{b m:Nat}{ks:List Nat}{W:Web}(h:WbAt hp b m ks W):lsAt hp (.lo b)=some (b,ks.map .lo):=by
 unfold lsAt;dsimp only;rw[h.top]
theorem zzw{hp:List SN}{b m:Nat}{ks:List Nat}{W:Web}(h:WbAt hp b m ks W){k kk j:Nat}{p:Str×List Str}(hk:ks[k]?=some kk)(hp':W[k]?=some p)(hf:p.2.length<=4){env:DEnv}{sl:List (Option SV)}(hs:sl[j]?=some (some (.lo b)))(hv:eVar 4 (zdi hp env sl)=some (vi (k:Int)))(z:Str) :
  yApp (yIx (yIx (yVar j) (yE (eVar 4))) (yE (eC (.int 1)))) (yFl (yE (eC (.str z)))) env ⟨sl,hp⟩=some (.nx env ⟨sl,hp.set (kk+1) (.ls (esS (p.2++[z])))⟩):=by
 unfold yApp
 rw[zahc h hk hp' hs hv,qC,zahd h hk hp',qC]
 dsimp only
 rw[if_pos (by unfold esS;rw[qD];omega)]
 show some _=_
 unfold esS
 rw[qAn];rfl
theorem zahe{hp:List SN}{b m:Nat}{ks:List Nat}{W:Web}(h:WbAt hp b m ks W){k kk j:Nat}{p:Str×List Str}(hk:ks[k]?=some kk)(hp':W[k]?=some p){env:DEnv}{sl:List (Option SV)}(hs:sl[j]?=some (some (.lo b)))(hv:eVar 4 (zdi hp env sl)=some (vi (k:Int))) :
  yClr (yIx (yIx (yVar j) (yE (eVar 4))) (yE (eC (.int 1)))) env ⟨sl,hp⟩=some (.nx env ⟨sl,hp.set (kk+1) (.ls (esS []))⟩):=by
 unfold yClr
 rw[zahc h hk hp' hs hv,qC,zahd h hk hp'];rfl
theorem zahf{hp:List SN}{b m:Nat}{ks:List Nat}{W:Web}(h:WbAt hp b m ks W){k kk j:Nat}{n z:Str}{es:List Str}(hk:ks[k]?=some kk)(hp':W[k]?=some (n,es++[z])){env:DEnv}{sl:List (Option SV)}(hs:sl[j]?=some (some (.lo b)))(hv:eVar 4 (zdi hp env sl)=some (vi (k:Int))) :
  yPop (yIx (yIx (yVar j) (yE (eVar 4))) (yE (eC (.int 1)))) env ⟨sl,hp⟩=some (.nx env ⟨sl,hp.set (kk+1) (.ls (esS es))⟩):=by
 unfold yPop
 rw[zahc h hk hp' hs hv,qC,zahd h hk hp',qC]
 dsimp only
 have e:esS (es++[z])=esS es++[.dt (.str z)]:=by unfold esS;rw[qAn];rfl
 rw[e,if_neg (by simp),List.dropLast_concat]
theorem zabz{hp:List SN}{b m:Nat}{ks:List Nat}{W:Web}(h:WbAt hp b m ks W)(ne:W≠[]){j:Nat}{env:DEnv}{sl:List (Option SV)}(hs:sl[j]?=some (some (.lo b))) :
  yPop (yVar j) env ⟨sl,hp⟩=some (.nx env ⟨sl,hp.set b (.ls ((ks.map SV.lo).dropLast))⟩):=by
 unfold yPop
 have h1:yVar j env ⟨sl,hp⟩=some (.lo b):=by unfold yVar;dsimp only;rw[hs]
 have hne:ks≠[]:=λz=>by
  have:=h.len
  rw[z]at this
  exact ne (qAC.mp this.symm)
 rw[h1,qC,zado h,qC]
 dsimp only
 rw[if_neg (by simpa using hne)]
theorem zzx{hp:List SN}{b m:Nat}{ks:List Nat}{W:Web}(h:WbAt hp b m ks W){j i:Nat}{t:EF}{env:DEnv}{sl:List (Option SV)}(hs:sl[j]?=some (some (.lo b)))(ht:t (zdi hp env sl)=some (vi (i:Int)))(hi:i<W.length)(hl:W.length<=100000) :
  zyd (yVar j) (yE t) env ⟨sl,hp⟩=some (.nx env ⟨sl,hp.set b (.ls ((ks.map SV.lo).eraseIdx i))⟩):=by
 unfold zyd
 have h1:yVar j env ⟨sl,hp⟩=some (.lo b):=by unfold yVar;dsimp only;rw[hs]
 have h3:yE t env ⟨sl,hp⟩=some (.int (i:Int)):=by unfold yE;dsimp only;rw[ht];rfl
 rw[h1,qC,zado h,qC,h3,qC]
 dsimp only
 rw[qD,h.len,zzv hi,qC,if_pos hl]
noncomputable abbrev E6(cs:List Int)(xs:List Str)(W:Web)(k:Nat):DEnv:=[.no,.pl (zed cs),.pl (zah xs),.pl (webD W),.pl (.int (k:Int)),.no,.no,.no,.no]
noncomputable abbrev L6(s5 s6 s7 s8:Option SV):List (Option SV):=[none,none,none,none,none,s5,s6,s7,s8]
theorem zalv{a b:EF}{env:DEnv}{i j:Int}(ha:a env=some (vi i))(hb:b env=some (vi j)):eOp gtD a b env=some (vb (decide (j<i))):=by
 unfold eOp;rw[ha,hb];rfl
theorem zakn{a b:EF}{env:DEnv}{c:Bool}(ha:a env=some (vb c))(hb:b env=some (vb c)):eOp eqD a b env=some (vb true):=by
 unfold eOp;rw[ha,hb];cases c<;>rfl
theorem zaca{cs:List Int}(hl:cs.length=16)(h0:∀c∈cs,0<=c):zro (envL 7 cs) ⟨[],[]⟩=some (.rt (.bool true)):=by
 have g0:0<=cs[0]'(by omega):=h0 _ (qCA _)
 have g1:0<=cs[1]'(by omega):=h0 _ (qCA _)
 have m10:=qAE (cs[0]'(by omega)) (show(10:Int)≠0 by decide)
 have m10':=qAL (cs[0]'(by omega)) (show(0:Int)<10 by decide)
 obtain⟨xs,gx,lx,nx,lo,na⟩:=zrk (m:=1+cs[0]'(by omega) % 10) (c:=cs[1]'(by omega)) (by omega) (by omega) g1
 have hx:1<=xs.length/\xs.length<=10:=by omega
 obtain⟨W,gw,hnm,ok,ndE⟩:=zvk (cs:=(cs.drop 5).take 10) (xs:=xs) (by rw[qAv,List.length_drop];omega) (by omega) nx
 have hWl:W.length=xs.length:=by
  have:=congrArg List.length hnm
  unfold nm at this
  simpa using this
 have w:WbK W:=⟨ok,λz=>by rw[z]at hWl;simp at hWl;omega,by omega,ndE,by rw[hnm];exact na,by rw[hnm];exact lo⟩
 have e2:sSet 2 (zbt 2 zeo (zae (eOp addD (eC (.int 1)) (eOp modD (eIxV 1 (eC (.int 0))) (eC (.int 10)))) (zae (eIxV 1 (eC (.int 1))) aNil))) (envL 7 cs)=some (.nx [.no,.pl (zed cs),.ac (zah xs),.no,.no,.no,.no,.no,.no]):=
  zga (r:=⟨zah xs,true,[]⟩) (zcs (n:=2) (rs:=[vi (1+cs[0]'(by omega) % 10),vi (cs[1]'(by omega))]) (zgw (zvc rfl (ziy (ztv (n:=0) rfl rfl (by omega)) rfl (by decide))) (zfp (ztv (n:=1) rfl rfl (by omega)))) rfl gx)
 have e3:sSet 3 (zbt 2 zgu (zae (eSl (eVar 1) (zfa (eC (.int 5))) (zfa (eC (.int 15)))) (zae (eVar 2) aNil))) [.no,.pl (zed cs),.ac (zah xs),.no,.no,.no,.no,.no,.no]=some (.nx [.no,.pl (zed cs),.pl (zah xs),.ac (webD W),.no,.no,.no,.no,.no]):=by
  have es:eSl (eVar 1) (zfa (eC (.int 5))) (zfa (eC (.int 15))) [.no,.pl (zed cs),.ac (zah xs),.no,.no,.no,.no,.no,.no]=some ⟨zed ((cs.drop 5).take 10),true,[]⟩:=by
   show((slD (.list (cs.map .int)) (some ((5:Nat):Int)) (some ((15:Nat):Int))).bind λz=>some (⟨z.1,z.2,bsOf z.1 []⟩:Val))=_
   simp only[slD,qC]
   rw[zabt cs 5 15 (by omega) (by omega)]
   rfl
  exact zga (r:=⟨webD W,true,[2]⟩) (zcs (n:=2) (rs:=[⟨zed ((cs.drop 5).take 10),true,[]⟩,⟨zah xs,false,[2]⟩]) (zgw es (zfp rfl)) rfl gw)
 have a0:=qAE (cs[2]'(by omega)) (show((xs.length:Nat):Int)≠0 by omega)
 have a1:=qAL (cs[2]'(by omega)) (show(0:Int)<((xs.length:Nat):Int) by omega)
 obtain⟨k,hk⟩:=qA3 a0
 have hkW:k<W.length:=by omega
 have e4:sSet 4 (eOp modD (eIxV 1 (eC (.int 2))) (eCB lenD (zae (eVar 2) aNil))) [.no,.pl (zed cs),.pl (zah xs),.ac (webD W),.no,.no,.no,.no,.no]=some (.nx [.no,.pl (zed cs),.pl (zah xs),.ac (webD W),.pl (.int (k:Int)),.no,.no,.no,.no]):=by
  refine zga (r:=vi (k:Int)) ?_
  rw[ziy (ztv (n:=2) rfl rfl (by omega)) (zka (ds:=xs.map .str) rfl) (by rw[qD];omega),qD]
  congr 2
 obtain⟨p,hp⟩:∃p,W[k]?=some p:=⟨_,qF hkW⟩
 have pW:p∈W:=qS hp
 have few:=w.ok.few p pW
 have A1:=zoh [] W
 have gT5:zyg [3] 5 (zqc ["_law_name","_law_elders"] [] (zfk (eVar 3)) (gT 2 (zau 0 (zau 1 zek))) zhm (pTup (zda (pLf (eVar 0)) (zda (pFr (eCB zim (zae (eVar 1) aNil))) zmb)))) [.no,.pl (zed cs),.pl (zah xs),.ac (webD W),.pl (.int (k:Int)),.no,.no,.no,.no] ⟨[],[]⟩=some (.nx (E6 cs xs W k) ⟨L6 (some (.lo 0)) none none none,[]++(al (zee W) 0).2⟩):=by
  unfold zyg
  have:=zrl (own:=["_law_name","_law_elders"]) (env:=E6 cs xs W k) (k:=3) (W:=W) rfl rfl (by have:=w.ten;omega)
  show(zqc ["_law_name","_law_elders"] [] (zfk (eVar 3)) (gT 2 (zau 0 (zau 1 zek))) zhm (pTup (zda (pLf (eVar 0)) (zda (pFr (eCB zim (zae (eVar 1) aNil))) zmb))) (E6 cs xs W k)).bind _=_
  rw[this,qC,if_pos (by show 5<9;decide)]
  show some (OutS.nx (E6 cs xs W k) (zabk ⟨[],[]++(al (zee W) 0).2⟩ 9 5 (al (zee W) 0).1))=_
  rw[show(al (zee W) 0).1=.lo 0 by rw[zzs]];rfl
 generalize []++(al (zee W) 0).2=hp1 at A1 gT5
 generalize hks:kz (([]:List SN).length+1) W=ks at A1
 have l1:ks.length=W.length:=A1.len
 obtain⟨kk,hkk⟩:∃kk,ks[k]?=some kk:=⟨_,qF (by omega)⟩
 have A1f:=A1.fit
 have g6:=zoi w (i:=6) (f:=zae (eVar 5) aNil) (env:=E6 cs xs W k) (st:=⟨L6 (some (.lo 0)) none none none,hp1⟩) (fr:=false) (bs:=[]) (zfp (vw (hp:=hp1) (s:=.no) (x:=.lo 0) rfl A1.rd)) (by show 6<9;decide)
 have B1:=zoh hp1 W
 have A2:=A1.more (al (zee W) hp1.length).2
 have g6:zht 6 1 zck (zae (eVar 5) aNil) (E6 cs xs W k) ⟨L6 (some (.lo 0)) none none none,hp1⟩=some (.nx (E6 cs xs W k) ⟨L6 (some (.lo 0)) (some (.lo hp1.length)) none none,hp1++(al (zee W) hp1.length).2⟩):=g6
 generalize hn1:hp1.length=n1 at B1 A2 g6
 generalize hp1++(al (zee W) n1).2=hp2 at B1 A2 g6
 generalize kz (n1+1) W=ls at B1
 obtain⟨kl,hkl⟩:∃kk,ls[k]?=some kk:=⟨_,qF (by have:=B1.len;omega)⟩
 have B1f:=B1.fit
 have g7:=zoi w (i:=7) (f:=zae (eVar 5) aNil) (env:=E6 cs xs W k) (st:=⟨L6 (some (.lo 0)) (some (.lo n1)) none none,hp2⟩) (fr:=false) (bs:=[]) (zfp (vw (hp:=hp2) (s:=.no) (x:=.lo 0) rfl A2.rd)) (by show 7<9;decide)
 have g7:zht 7 1 zck (zae (eVar 5) aNil) (E6 cs xs W k) ⟨L6 (some (.lo 0)) (some (.lo n1)) none none,hp2⟩=some (.nx (E6 cs xs W k) ⟨L6 (some (.lo 0)) (some (.lo n1)) (some (.lo hp2.length)) none,hp2++(al (zee W) hp2.length).2⟩):=g7
 have C1:=zoh hp2 W
 have A3:=A2.more (al (zee W) hp2.length).2
 have B3:=B1.more (al (zee W) hp2.length).2
 generalize hn2:hp2.length=n2 at C1 A3 B3 g7
 generalize hp2++(al (zee W) n2).2=hp3 at C1 A3 B3 g7
 generalize kz (n2+1) W=ms at C1
 have C1f:=C1.fit
 have v3:∀{hp:List SN}{s5 s6 s7 s8:Option SV},eVar 3 (zdi hp (E6 cs xs W k) (L6 s5 s6 s7 s8))=some ⟨webD W,false,[]⟩:=rfl
 have v4:∀{hp:List SN}{s5 s6 s7 s8:Option SV},eVar 4 (zdi hp (E6 cs xs W k) (L6 s5 s6 s7 s8))=some (vi (k:Int)):=rfl
 have v5:∀{hp:List SN}{b:Nat}{s6 s7 s8:Option SV}{V:Web},rdV hp 9 (.lo b)=some (webD V)->eVar 5 (zdi hp (E6 cs xs W k) (L6 (some (.lo b)) s6 s7 s8))=some ⟨webD V,false,[]⟩:=λh=>vw (s:=.no) rfl h
 have v6:∀{hp:List SN}{b:Nat}{s5 s7 s8:Option SV}{V:Web},rdV hp 9 (.lo b)=some (webD V)->eVar 6 (zdi hp (E6 cs xs W k) (L6 s5 (some (.lo b)) s7 s8))=some ⟨webD V,false,[]⟩:=λh=>vw (s:=.no) rfl h
 have v7:∀{hp:List SN}{b:Nat}{s5 s6 s8:Option SV}{V:Web},rdV hp 9 (.lo b)=some (webD V)->eVar 7 (zdi hp (E6 cs xs W k) (L6 s5 s6 (some (.lo b)) s8))=some ⟨webD V,false,[]⟩:=λh=>vw (s:=.no) rfl h
 have v8:∀{hp:List SN}{b:Nat}{s5 s6 s7:Option SV}{V:Web},rdV hp 9 (.lo b)=some (webD V)->eVar 8 (zdi hp (E6 cs xs W k) (L6 s5 s6 s7 (some (.lo b))))=some ⟨webD V,false,[]⟩:=λh=>vw (s:=.no) rfl h
 have iB:=B3.inn kl (qS hkl)
 have B4:=B3.els hkl hp (p.2++[("a":Str)])
 have A4:=A3.out (n:=kl+1) (s:=.ls (esS (p.2++[("a":Str)]))) (.inr (by omega))
 have C4:=C1.out (n:=kl+1) (s:=.ls (esS (p.2++[("a":Str)]))) (.inl (by omega))
 have ga:=zzw B3 hkl hp few (j:=6) (env:=E6 cs xs W k) (sl:=L6 (some (.lo 0)) (some (.lo n1)) (some (.lo n2)) none) rfl v4 ("a":Str)
 generalize hp3.set (kl+1) (.ls (esS (p.2++[("a":Str)])))=hp4 at A4 B4 C4 ga
 have b0:=qAE (cs[3]'(by omega)) (show((W.length:Nat):Int)≠0 by omega)
 have b1:=qAL (cs[3]'(by omega)) (show(0:Int)<((W.length:Nat):Int) by omega)
 obtain⟨q,hq⟩:=qA3 b0
 have gp:=zzx B4 (j:=6) (i:=q) (t:=eOp modD (eIxV 1 (eC (.int 3))) (eCB lenD (zae (eVar 6) aNil))) (env:=E6 cs xs W k) (sl:=L6 (some (.lo 0)) (some (.lo n1)) (some (.lo n2)) none) rfl (by
  rw[ziy (ztv (n:=3) rfl rfl (by omega)) (zka (ds:=(W.set k (p.1,p.2++[("a":Str)])).map rowD) (fr:=false) (bs:=[]) (v6 B4.rd)) (by rw[qD,qN];omega),qD,qN]
  congr 2) (by rw[qN];omega) (by rw[qN];omega)
 have A5:=A4.out (n:=n1) (s:=.ls ((ls.map SV.lo).eraseIdx q)) (.inr (by omega))
 have C5:=C4.out (n:=n1) (s:=.ls ((ls.map SV.lo).eraseIdx q)) (.inl (by omega))
 generalize hp4.set n1 (.ls ((ls.map SV.lo).eraseIdx q))=hp5 at A5 C5 gp
 have iA:=A5.inn kk (qS hkk)
 have A6:=A5.els hkk hp (p.2++[("A":Str)])
 have C6:=C5.out (n:=kk+1) (s:=.ls (esS (p.2++[("A":Str)]))) (.inl (by omega))
 have gA:=zzw A5 hkk hp few (j:=5) (env:=E6 cs xs W k) (sl:=L6 (some (.lo 0)) (some (.lo n1)) (some (.lo n2)) none) rfl v4 ("A":Str)
 generalize hp5.set (kk+1) (.ls (esS (p.2++[("A":Str)])))=hp6 at A6 C6 gA
 have hpb:(W.set k (p.1,p.2++[("A":Str)]))[k]?=some (p.1,p.2++[("A":Str)]):=qd hkW
 have A7:=A6.els hkk hpb p.2
 have C7:=C6.out (n:=kk+1) (s:=.ls (esS p.2)) (.inl (by omega))
 have gP:=zahf A6 hkk hpb (j:=5) (env:=E6 cs xs W k) (sl:=L6 (some (.lo 0)) (some (.lo n1)) (some (.lo n2)) none) rfl v4
 generalize hp6.set (kk+1) (.ls (esS p.2))=hp7 at A7 C7 gP
 have eW:(W.set k (p.1,p.2++[("A":Str)])).set k (p.1,p.2)=W:=by
  rw[List.set_set]
  refine List.ext_getElem? λi=>?_
  rw[qBS]
  split
  ·rename_i e;subst e;rw[hp]
  ·rfl
 rw[eW]at A7
 have g8:=zoi w (i:=8) (f:=zae (eVar 5) aNil) (env:=E6 cs xs W k) (st:=⟨L6 (some (.lo 0)) (some (.lo n1)) (some (.lo n2)) none,hp7⟩) (fr:=false) (bs:=[]) (zfp (v5 A7.rd)) (by show 8<9;decide)
 have g8:zht 8 1 zck (zae (eVar 5) aNil) (E6 cs xs W k) ⟨L6 (some (.lo 0)) (some (.lo n1)) (some (.lo n2)) none,hp7⟩=some (.nx (E6 cs xs W k) ⟨L6 (some (.lo 0)) (some (.lo n1)) (some (.lo n2)) (some (.lo hp7.length)),hp7++(al (zee W) hp7.length).2⟩):=g8
 have A7f:=A7.fit
 have C7f:=C7.fit
 have D1:=zoh hp7 W
 have A8:=A7.more (al (zee W) hp7.length).2
 have C8:=C7.more (al (zee W) hp7.length).2
 generalize hn3:hp7.length=n3 at D1 A8 C8 g8
 generalize hp7++(al (zee W) n3).2=hp8 at D1 A8 C8 g8
 generalize kz (n3+1) W=ts at D1
 have A9:=A8.els hkk hp []
 have C9:=C8.out (n:=kk+1) (s:=.ls (esS [])) (.inl (by omega))
 have D9:=D1.out (n:=kk+1) (s:=.ls (esS [])) (.inl (by omega))
 have gC:=zahe A8 hkk hp (j:=5) (env:=E6 cs xs W k) (sl:=L6 (some (.lo 0)) (some (.lo n1)) (some (.lo n2)) (some (.lo n3))) rfl v4
 generalize hp8.set (kk+1) (.ls (esS []))=hp9 at A9 C9 D9 gC
 have wc:=w.clear hp
 have gD:=zabz A9 wc.ne (j:=5) (env:=E6 cs xs W k) (sl:=L6 (some (.lo 0)) (some (.lo n1)) (some (.lo n2)) (some (.lo n3))) rfl
 have A10:=A9.pop
 have C10:=C9.out (n:=0) (s:=.ls ((ks.map SV.lo).dropLast)) (.inl (by omega))
 have D10:=D9.out (n:=0) (s:=.ls ((ks.map SV.lo).dropLast)) (.inl (by omega))
 have z0:([]:List SN).length=0:=rfl
 rw[z0]at A10 gD
 generalize hp9.set 0 (.ls ((ks.map SV.lo).dropLast))=hp10 at A10 C10 D10 gD
 refine zcd (zahb rfl e2 rfl) (zcd (zahb rfl e3 rfl) (zcd (zahb rfl e4 rfl) (zcd gT5 (zcd g6 (zcd g7 ?_)))))
 refine zcd (zzu (zza (t_al w (v6 B3.rd) v3) (t_al w (v7 C1.rd) v3))) (zcd ga (zcd gp ?_))
 refine zcd (zzu (zza (t_al w (v7 C5.rd) v3) (zza (t_al w (v5 A5.rd) v3) (zkb (zcs (n:=2) (rs:=[⟨webD W,true,[]⟩,⟨webD W,false,[]⟩]) (zgw (zcs (n:=1) (rs:=[⟨webD W,false,[]⟩]) (zfp (v5 A5.rd)) rfl w.web_of) (zfp v3)) rfl w.alike))))) (zcd gA ?_)
 refine zcd (zzu (zza (zkb (zcs (n:=2) (rs:=[⟨webD (bad W k p),false,[]⟩,⟨.int (k:Int),false,[]⟩]) (zgw (v5 A6.rd) (zfp v4)) rfl (w.refused hp))) (t_al w (v7 C6.rd) v3))) ?_
 refine zcd (zzu (zew ((zaka (b:=false) (zcs (n:=1) (rs:=[⟨webD (bad W k p),false,[]⟩]) (zfp (v5 A6.rd)) rfl (w.bad_is hp))).trans rfl))) (zcd gP (zcd g8 (zcd gC (zcd gD ?_))))
 refine zcd (zzu (zza (t_al w (v8 D10.rd) v3) (t_al w (v7 C10.rd) v3))) ?_
 have i5:=zcs (n:=1) (g:=zcg) (rs:=[⟨webD ((W.set k (p.1,[])).dropLast),false,[]⟩]) (zfp (v5 (s6:=some (.lo n1)) (s7:=some (.lo n2)) (s8:=some (.lo n3)) A10.rd)) rfl wc.popped
 have i7:=zcs (n:=1) (g:=zcg) (rs:=[⟨webD W,false,[]⟩]) (zfp (v7 (s5:=some (.lo 0)) (s6:=some (.lo n1)) (s8:=some (.lo n3)) C10.rd)) rfl w.isweb
 have ig:eOp gtD (eCB lenD (zae (eVar 2) aNil)) (eC (.int 1)) (zdi hp10 (E6 cs xs W k) (L6 (some (.lo 0)) (some (.lo n1)) (some (.lo n2)) (some (.lo n3))))=some (vb (decide (1<W.length))):=by
  have e1:eCB lenD (zae (eVar 2) aNil) (zdi hp10 (E6 cs xs W k) (L6 (some (.lo 0)) (some (.lo n1)) (some (.lo n2)) (some (.lo n3))))=some (vi ((xs.length:Nat):Int)):=by
   rw[zka (ds:=xs.map .str) (fr:=false) (bs:=[]) rfl,qD]
  rw[zalv e1 (j:=1) rfl,hWl]
  congr 2
  rw[qAQ]
  simp
  omega
 have iq:=zakn i5 (ig.trans (by rw[show W.length=(W.set k (p.1,([]:List Str))).length by rw[qN]]))
 have ir:=zaka (neg:=false) (c:=true) i7
 have fin:eAnd (eOp eqD (zbt 1 zcg (zae (eVar 5) aNil)) (eOp gtD (eCB lenD (zae (eVar 2) aNil)) (eC (.int 1)))) (eOp (isCD false) (zbt 1 zcg (zae (eVar 7) aNil)) (eC (.bool true))) (zdi hp10 (E6 cs xs W k) (L6 (some (.lo 0)) (some (.lo n1)) (some (.lo n2)) (some (.lo n3))))=some (vb true):=by
  unfold eAnd
  rw[iq,qC]
  exact ir
 unfold yRet yE
 show(Option.map _ (eAnd _ _ (zdi hp10 (E6 cs xs W k) (L6 (some (.lo 0)) (some (.lo n1)) (some (.lo n2)) (some (.lo n3)))))).bind _=_
 rw[fin];rfl
section
variable{P:Program}{w:World}{K:qB}{mg:Str->Option Value}{base:Heap}
theorem zalw{s k:Int}(h1:0<=s)(h2:s<2147483647)(h3:0<=k)(h4:k<=64):0<=s * (k+2)+7919 * k * k+11/\s * (k+2)+7919 * k * k+11<200000000000:=by
 have a1:0<=s * (k+2):=qCR h1 (by omega)
 have a2:s * (k+2)<=2147483647 * 66:=Int.mul_le_mul (by omega) (by omega) (by omega) (by omega)
 have a3:0<=7919 * k * k:=qCR (by omega) h3
 have a4:7919 * k * k<=7919 * 64 * 64:=Int.mul_le_mul (by omega) h4 h3 (by omega)
 omega
noncomputable def zsw(K:qB):Sp:=λvs H Q _=>∃(a:Addr)(ns:List Int)(m:Int),vs=[.ref a,.int m]/\SqL K H a (ns.map .int)/\0<=m/\m<=64/\
 ∀p H' (cs:List Int),H p=none->Same H H'->H' p=some (.lst (cs.map .int))->cs.length=m.toNat->(∀c∈cs,0<=c/\c<1000000000000)->Q (.ref p) H'
theorem zrp{f:Addr}{fd:qAB}(F:Fun K "_law_draws" "_law_draws" zdr f fd)(T:Txt mg):FnOk P w K mg base CX0 1 f fd ["_law_script","_law_many"] (zsw K):=by
 refine F.ok zqv (λvs H Q E h=>?_) (λcdv A outer s H vs Q E hr h=>?_)
 ·obtain⟨a,ns,m,rfl,_⟩:=h
  rfl
 ·obtain⟨a,ns,m,rfl,hS,h0,h64,k⟩:=h
  apply Exists.intro
  apply And.intro
  ·refine'(zhb (zsx (i:=2) (hf:=Or.inl rfl) zdb rfl (Or.inl rfl) zet)
 (zhb (zvq qAc rfl (zaar (K:=K) rfl (zta (zus (K:=K) rfl) (pv 0) zwa (zwb zet))) (zrs (i:=3) (hf:=Or.inl rfl) zdb rfl (Or.inl rfl))
  (zhy (zsx (i:=2) (hf:=Or.inl rfl) zdb rfl (Or.inl rfl) (zhl zcw (zhl (zcl (K:=K) rfl) (zhl zfu (pv 2) zet) (zhl zcw (pv 3) zet)) zet))))
 (zhb (zsx (i:=4) (hf:=Or.inl rfl) zdb rfl (Or.inl rfl) (zacf zju))
 (zhb (zvq qAc rfl (zol rfl T.range (zge (pv 1) zju)) (zrs (i:=5) (hf:=Or.inl rfl) zdb rfl (Or.inl rfl))
  (zhy (zahr (zvs zakv (pv 5) (zsz (zbj (K:=K) rfl) (by rfl) T.len zbx (zge (pv 0) zju)) (zdk _)) (zhy (zmy (zwo (K:=K) rfl qU qp qo zbq (pv 4) (zge (zhl zcw (zaid (zdc (K:=K) rfl) (pv 0) (pv 5) (λ_ _=>rfl)) (zhl zace zet zet)) zju)))) (zhy (zmy (zwo (K:=K) rfl qU qp qo zbq (pv 4) (zge (zhl zft (zhl zcw (zhl zace (zhl (zcl (K:=K) rfl) (zhl (zcl (K:=K) rfl) (zhl zfu (pv 2) (zhl (zcl (K:=K) rfl) (pv 5) zet)) (zhl zfu (zhl zfu zet (pv 5)) (pv 5))) zet) zet) zet) zet) zju)))))))
 (zhy (zacd (pv 4)))))))
  refine⟨_,rfl,_,rfl,a,_,rfl,hS,λp hp=>⟨p,rfl,⟨_,SqL.of zap⟩,L2.for_list (xs:=cutV (ns.map V.int) none (some 63)) (λi σ H1=>∃(sd:Int)(v3:Option V),σ=[some (.ref a),some (.int m),some (.int sd),v3,none,none]/\H1=upd H p (.lst (cutV (ns.map V.int) none (some 63)))/\0<=sd/\sd<2147483647)
   ⟨7,none,rfl,rfl,by decide,by decide⟩ (λi σ H1 _ ⟨_,_,_,e,_⟩=>e▸SqL.of zap) ?_ ?_⟩⟩
  ·rintro i x σ H1 hi ⟨sd,v3,rfl,rfl,b0,b1⟩
   obtain⟨z,rfl⟩:∃z,x=V.int z:=by
    have hm:=qS hi
    unfold cutV at hm
    obtain⟨z,_,e⟩:=qAH.mp (List.mem_of_mem_drop (qBo hm))
    exact⟨z,e.symm⟩
   refine⟨_,rfl,.inl ⟨by omega,by omega⟩,_,rfl,_,_,rfl,rfl,(by show(0:Int)<2147483629;decide),_,_,rfl,rfl,(by show(0:Int)<2147483647;decide),?_⟩
   exact⟨_,_,rfl,rfl,qAE _ (by decide),qAL _ (by decide)⟩
  ·rintro σ H1 ⟨sd,v3,rfl,rfl,b0,b1⟩
   refine⟨qAR _,λq hq=>?_⟩
   have hqH:H q=none:=(Same.new hp).free hq
   have sH:∀o,Same H (upd (upd H p (.lst (cutV (ns.map V.int) none (some 63)))) q o):=λo=>(Same.new hp).upd hqH
   refine⟨_,rfl,m,rfl,by omega,by omega,L2.for_range (n:=m.toNat) (λi σ H2=>∃(cs:List Int)(v5:Option V),σ=[some (.ref a),some (.int m),some (.int sd),v3,some (.ref q),v5]/\H2=upd (upd H p (.lst (cutV (ns.map V.int) none (some 63)))) q (.lst (cs.map .int))/\cs.length=i/\∀c∈cs,0<=c/\c<1000000000000)
    ⟨[],none,rfl,rfl,rfl,λ_ h=>nomatch h⟩ ?_ ?_⟩
   ·rintro i σ H2 hi ⟨cs,v5,rfl,rfl,hc,hp0⟩
    have hi64:(i:Int)<=64:=by omega
    refine⟨_,rfl,_,rfl,_,_,rfl,.inl ⟨_,(sH _).seq hS,rfl⟩,_,_,rfl,rfl,_,rfl,?_⟩
    have lz:(cs.map V.int).length<qa:=by rw[qD,hc];exact qB0 (show i<=64 by omega) (by decide)
    have fin:∀v:Int,0<=v->v<1000000000000->∃(cs':List Int)(v5:Option V),[some (.ref a),some (.int m),some (.int sd),v3,some (.ref q),some (.int (0+(i:Int)))]=[some (.ref a),some (.int m),some (.int sd),v3,some (.ref q),v5]/\
      upd (upd (upd H p (.lst (cutV (ns.map V.int) none (some 63)))) q (.lst (cs.map .int))) q (.lst (cs.map V.int++[.int v]))=upd (upd H p (.lst (cutV (ns.map V.int) none (some 63)))) q (.lst (cs'.map .int))/\cs'.length=i+1/\∀c∈cs',0<=c/\c<1000000000000:=λv hv hv2=>by
     refine⟨cs++[v],_,rfl,?_,by simp[hc],λc h=>?_⟩
     ·rw[zadp,qAn];rfl
     ·rcases qv.mp h with h|h
      ·exact hp0 c h
      ·rw[qAl.mp h];exact⟨hv,hv2⟩
    refine ite2 (λh=>?_) (λh=>?_)
    ·have h:(0:Int)+i<((ns.map V.int).length:Nat):=of_decide_eq_true h
     rw[qD]at h
     have hin:i<ns.length:=by omega
     have ga:atI (ns.map V.int) (0+(i:Int))=some (.int ns[i]):=by
      rw[Int.zero_add]
      exact zrx (by rw[qT,qF hin];rfl)
     refine⟨_,rfl,.inl ⟨rfl,_,SqL.of zap⟩,_,rfl,_,rfl,_,_,.inl ((sH _).seq hS),ga,_,_,rfl,rfl,⟨by decide,by decide,by decide⟩,_,_,rfl,rfl,(by show(0:Int)<10 ^ 12;decide),q,_,_,rfl,rfl,zap,lz,?_⟩
     exact fin _ (qAE _ (by decide)) (qAL _ (by decide))
    ·obtain⟨d1,d2⟩:=zalw (s:=sd) (k:=0+(i:Int)) b0 b1 (by omega) (by omega)
     refine⟨_,rfl,.inl ⟨rfl,_,SqL.of zap⟩,_,rfl,_,rfl,.inl ⟨by omega,by omega⟩,_,rfl,.inl ⟨by decide,by decide⟩,_,rfl,.inr ⟨by omega,by omega⟩,?_⟩
     refine⟨_,_,rfl,rfl,⟨by decide,by decide,?_⟩,_,_,rfl,rfl,(by show(0:Int)<2147483647;decide),_,_,rfl,rfl,⟨by decide,by decide⟩,q,_,_,rfl,rfl,zap,lz,?_⟩
     ·show(sd * (0+(i:Int)+2)+7919 * (0+(i:Int)) * (0+(i:Int))+11).natAbs<2 ^ 64
      omega
     ·refine fin _ (Int.ediv_nonneg (qAE _ (by decide)) (by decide)) ?_
      have h9:∀z:Int,z % 2147483647 / 7<1000000000000:=λz=>by have:=qAL z (show(0:Int)<2147483647 by decide);omega
      exact h9 _
   ·rintro σ H2 ⟨cs,v5,rfl,rfl,hc,hp0⟩
    exact⟨_,rfl,k q _ cs hqH (sH _) zap hc hp0⟩
end
section
variable{P:Program}{w:World}{K:qB}{mg:Str->Option Value}{base:Heap}
noncomputable def zacb(K:qB):Sp:=λvs H Q _=>∃(a:Addr)(ns:List Int),vs=[.ref a]/\SqL K H a (ns.map V.int)/\∀H',Q (.bl true) H'
theorem zako{f:Addr}{fd:qAB}(F:Fun K "law" "law" zoa f fd)(T:Txt mg)(D_law_alike:zlx P w K mg base)(D_law_draws:Dn P w K mg base "_law_draws" ["_law_script","_law_many"] 1 (zsw K))(D_law_names:zlw P w K mg base)(D_law_refused:zjd P w K mg base)(D_law_web:zrc P w K mg base)(D_is_web:zue P w K mg base)(D_web_of:zud P w K mg base)(DT_copy_of_web:zfd P w K mg base)(DT_web_of:zrd P w K mg base):FnOk P w K mg base CX0 5 f fd ["_law_script"] (zacb K):=by
 refine F.ok zakc (λvs H Q E h=>?_) (λcdv A outer s H vs Q E hr h=>?_)
 ·obtain⟨a,ns,rfl,_⟩:=h
  rfl
 ·obtain⟨a,ns,rfl,hS,k⟩:=h
  have hu:=zih hr
  apply Exists.intro
  apply And.intro
  ·refine' Bx.out (zad (zgq (i:=1) zjc rfl (Or.inl rfl) (zcx D_law_draws (hr.mono (by decide)) (by rfl) (zaj (bv 0) (zaj zam zac (by rfl)) (by rfl)) (by decide) (zai (by rfl)) (by rfl)) (by rfl) (.inl rfl))
 (zad (zgq (i:=2) zjc rfl (Or.inl rfl) (zcx D_law_names (hr.mono (by decide)) (by rfl) (zaj (zax (zcl (K:=K) rfl) zam (zax zcw (zfm (zdc (K:=K) rfl) (bv 1) zam (λ_ _=>rfl)) zam)) (zaj (zfm (zdc (K:=K) rfl) (bv 1) zam (λ_ _=>rfl)) zac (by rfl)) (by rfl)) (by decide) (zai (by rfl)) (by rfl)) (by rfl) (.inl rfl))
 (zad (zgq (i:=3) zjc rfl (Or.inl rfl) (zcx D_law_web (hr.mono (by decide)) (by rfl) (zaj (zgr (zus (K:=K) rfl) (bv 1) (zhi zam) (zhi zam)) (zaj (bv 2) zac (by rfl)) (by rfl)) (by decide) (zai (by rfl)) (by rfl)) (by rfl) (.inl rfl))
 (zad (zgq (i:=4) zjc rfl (Or.inl rfl) (zax zcw (zfm (zdc (K:=K) rfl) (bv 1) zam (λ_ _=>rfl)) (zir (zbj (K:=K) rfl) (by rfl) T.len zbx (zaj (bv 2) zac (by rfl)) (by decide) (by decide) (zai (by rfl)) (by rfl))) (by rfl) (.inl rfl))
 (zad (zxr (i:=5) (zgi (N':=["_law_name","_law_elders"]) (own:=["_law_name","_law_elders"]) (fr:=[]) (by kernel_rfl)) rfl (zkl (K:=K) rfl (bv 3)) ?hb1 (by rfl) zjc rfl rfl (by intro _;rfl))
 (zad (zgq (i:=6) zjc rfl (Or.inl rfl) (zcx DT_web_of (hr.mono (by decide)) (by rfl) (zaj (bv 5) zac (by rfl)) (by decide) (zai (by rfl)) (by rfl)) (by rfl) (.inl rfl))
 (zad (zgq (i:=7) zjc rfl (Or.inl rfl) (zcx DT_web_of (hr.mono (by decide)) (by rfl) (zaj (bv 5) zac (by rfl)) (by decide) (zai (by rfl)) (by rfl)) (by rfl) (.inl rfl))
 (zad (zcu (zcy (zaz (zan (K:=K) rfl (zcx D_law_alike (hr.mono (by decide)) (by rfl) (zaj (bv 6) (zaj (bv 3) zac (by rfl)) (by rfl)) (by decide) (zai (by rfl)) (by rfl)) (λ_=>rfl))) (zcj (zaz (zan (K:=K) rfl (zcx D_law_alike (hr.mono (by decide)) (by rfl) (zaj (bv 7) (zaj (bv 3) zac (by rfl)) (by rfl)) (by decide) (zai (by rfl)) (by rfl)) (λ_=>rfl))))).pt (zal (zay zdf)) zbf)
 (zad (zcf (zec (K:=K) rfl qU qp qo zbq (zfm (zdc (K:=K) rfl) (zfm (zdc (K:=K) rfl) (bv 6) (bv 4) (λ_ _=>rfl)) zam (λ_ _=>rfl)) (zaj zlc zac (by rfl)) (by rfl) (by rfl) (by rfl) (zai (by rfl)) (by rfl)) (by rfl))
 (zad (zcf (zec (K:=K) rfl qU qA6 qA5 ztb (bv 6) (zaj (zax zcw (zfm (zdc (K:=K) rfl) (bv 1) zam (λ_ _=>rfl)) (zir (zbj (K:=K) rfl) (by rfl) T.len zbx (zaj (bv 6) zac (by rfl)) (by decide) (by decide) (zai (by rfl)) (by rfl))) zac (by rfl)) (by rfl) (by rfl) (by rfl) (zai (by rfl)) (by rfl)) (by rfl))
 (zad (zcu (zcy (zaz (zan (K:=K) rfl (zcx D_law_alike (hr.mono (by decide)) (by rfl) (zaj (bv 7) (zaj (bv 3) zac (by rfl)) (by rfl)) (by decide) (zai (by rfl)) (by rfl)) (λ_=>rfl))) (zcy (zaz (zan (K:=K) rfl (zcx D_law_alike (hr.mono (by decide)) (by rfl) (zaj (bv 5) (zaj (bv 3) zac (by rfl)) (by rfl)) (by decide) (zai (by rfl)) (by rfl)) (λ_=>rfl))) (zcj (zaz (zan (K:=K) rfl (zcx D_law_alike (hr.mono (by decide)) (by rfl) (zaj (zcx D_web_of (hr.mono (by decide)) (by rfl) (zaj (bv 5) zac (by rfl)) (by decide) (zai (by rfl)) (by rfl)) (zaj (bv 3) zac (by rfl)) (by rfl)) (by decide) (zai (by rfl)) (by rfl)) (λ_=>rfl)))))).pt (zal (zay zdf)) zbf)
 (zad (zcf (zec (K:=K) rfl qU qp qo zbq (zfm (zdc (K:=K) rfl) (zfm (zdc (K:=K) rfl) (bv 5) (bv 4) (λ_ _=>rfl)) zam (λ_ _=>rfl)) (zaj zlc zac (by rfl)) (by rfl) (by rfl) (by rfl) (zai (by rfl)) (by rfl)) (by rfl))
 (zad (zcu (zcy (zaz (zan (K:=K) rfl (zcx D_law_refused (hr.mono (by decide)) (by rfl) (zaj (bv 5) (zaj (bv 4) zac (by rfl)) (by rfl)) (by decide) (zai (by rfl)) (by rfl)) (λ_=>rfl))) (zcj (zaz (zan (K:=K) rfl (zcx D_law_alike (hr.mono (by decide)) (by rfl) (zaj (bv 7) (zaj (bv 3) zac (by rfl)) (by rfl)) (by decide) (zai (by rfl)) (by rfl)) (λ_=>rfl))))).pt (zal (zay zdf)) zbf)
 (zad (zcu (zcm zxc (zcx D_is_web (hr.mono (by decide)) (by rfl) (zaj (bv 5) zac (by rfl)) (by decide) (zai (by rfl)) (by rfl)) zdf (zdk _)) (zal (zay zdf)) zbf)
 (zad (zcf (znt (K:=K) rfl qU qA6 qA5 zach (zfm (zdc (K:=K) rfl) (zfm (zdc (K:=K) rfl) (bv 5) (bv 4) (λ_ _=>rfl)) zam (λ_ _=>rfl)) (by rfl) (by rfl)) (by rfl))
 (zad (zgq (i:=8) zjc rfl (Or.inl rfl) (zcx DT_web_of (hr.mono (by decide)) (by rfl) (zaj (bv 5) zac (by rfl)) (by decide) (zai (by rfl)) (by rfl)) (by rfl) (.inl rfl))
 (zad (zcf (znt (K:=K) rfl qU PySem.F.slot_list_clear PySem.F.type_list_clear zaai (zfm (zdc (K:=K) rfl) (zfm (zdc (K:=K) rfl) (bv 5) (bv 4) (λ_ _=>rfl)) zam (λ_ _=>rfl)) (by rfl) (by rfl)) (by rfl))
 (zad (zcf (znt (K:=K) rfl qU qA6 qA5 zach (bv 5) (by rfl) (by rfl)) (by rfl))
 (zad (zcu (zcy (zaz (zan (K:=K) rfl (zcx D_law_alike (hr.mono (by decide)) (by rfl) (zaj (bv 8) (zaj (bv 3) zac (by rfl)) (by rfl)) (by decide) (zai (by rfl)) (by rfl)) (λ_=>rfl))) (zcj (zaz (zan (K:=K) rfl (zcx D_law_alike (hr.mono (by decide)) (by rfl) (zaj (bv 7) (zaj (bv 3) zac (by rfl)) (by rfl)) (by decide) (zai (by rfl)) (by rfl)) (λ_=>rfl))))).pt (zal (zay zdf)) zbf)
 (zal (zay (zxo (zhh (zph (K:=K) rfl hr.units) (zcx D_is_web (hr.mono (by decide)) (by rfl) (zaj (bv 5) zac (by rfl)) (by decide) (zai (by rfl)) (by rfl)) (zhh zahy (zir (zbj (K:=K) rfl) (by rfl) T.len zbx (zaj (bv 2) zac (by rfl)) (by decide) (by decide) (zai (by rfl)) (by rfl)) zam (zdk _)) (zdk _)) (zxn (zhh zaiy (zcx D_is_web (hr.mono (by decide)) (by rfl) (zaj (bv 7) zac (by rfl)) (by decide) (zai (by rfl)) (by rfl)) zdf (zdk _)))))))))))))))))))))))))
   case hb1=>(intro cl C s H fp;refine'⟨Bx.out (zem (K:=K) (n:=2) rfl rfl (zba (zns (i:=0) zra rfl (Or.inl rfl) (by first|exact .inl rfl|exact .inr rfl|assumption)) (zba (zns (i:=1) zra rfl (Or.inl rfl) (by first|exact .inl rfl|exact .inr rfl|assumption)) zel (by rfl)) (by rfl)) (by rfl) (by rfl)),Bx.out zle,Bx.out (zld (zaj (bv 0) (zaj (zmm (zjh (K:=K) rfl) (by rfl) T.list zdj (zaj (bv 1) zac (by rfl)) (by decide) (by decide) (zai (by rfl)) (by rfl)) zac (by rfl)) (by rfl)))⟩)
  refine⟨_,rfl,a,ns,16,rfl,hS,by decide,by decide,λpc H1 cs hpc s1 e1 lc p1=>?_⟩
  exact zabr (F:=zro) ((zcc (zxz (zsn (zbl (zaf (zaw zik (se_c λ_=>zaa) (zaw zef (zdn (se_c λ_=>zaa)) (se_c λ_=>zaa))) (zaf (zdn (se_c λ_=>zaa)) zao))) (by decide))) (zcc (zxz (zsn (zbl (zaf (zwu (zab 1) (zjj (se_c λ_=>zaa)) (zjj (se_c λ_=>zaa))) (zaf (zab 2) zao))) (by decide))) (zcc (zxz (zsn (zaw zef (zdn (se_c λ_=>zaa)) (zfj zeu (zaf (zab 2) zao))) (by decide))) (zcc (zabl (zto (ztg (zab 3)) (ziq (zbk (zbk zfx))) (zxa (zhg (by decide) (zhg (by decide) zsg))) zpj (zyf (zkm (zacv (zab 0)) (zkm (zacw (zfj zsc (zaf (zab 1) zao))) zye))))) (zcc (zlm (zaf (zab 5) zao)) (zcc (zlm (zaf (zab 5) zao)) (zcc (zpy (zpx (zfi (zbp (zbr (zbl (zaf (zab 6) (zaf (zab 3) zao))))) (zbp (zbr (zbl (zaf (zab 7) (zaf (zab 3) zao))))))) (zjn (zdz (se_c λ_=>zag))) zlj) (zcc (zyb (zjy (zjy (zjp 6) (zdz (zab 4))) (zdz (se_c λ_=>zaa))) (zacu (zdz (se_c λ_=>zct)))) (zcc (zabj (zjp 6) (zdz (zaw zef (zdn (se_c λ_=>zaa)) (zfj zeu (zaf (zab 6) zao))))) (zcc (zpy (zpx (zfi (zbp (zbr (zbl (zaf (zab 7) (zaf (zab 3) zao))))) (zfi (zbp (zbr (zbl (zaf (zab 5) (zaf (zab 3) zao))))) (zbp (zbr (zbl (zaf (zbl (zaf (zab 5) zao)) (zaf (zab 3) zao)))))))) (zjn (zdz (se_c λ_=>zag))) zlj) (zcc (zyb (zjy (zjy (zjp 5) (zdz (zab 4))) (zdz (se_c λ_=>zaa))) (zacu (zdz (se_c λ_=>zct)))) (zcc (zpy (zpx (zfi (zbp (zbr (zbl (zaf (zab 5) (zaf (zab 4) zao))))) (zbp (zbr (zbl (zaf (zab 7) (zaf (zab 3) zao))))))) (zjn (zdz (se_c λ_=>zag))) zlj) (zcc (zpy (zpx (st_t (zaw zaiz (zbl (zaf (zab 5) zao)) (se_c λ_=>zag)))) (zjn (zdz (se_c λ_=>zag))) zlj) (zcc (zyc (zjy (zjy (zjp 5) (zdz (zab 4))) (zdz (se_c λ_=>zaa)))) (zcc (zlm (zaf (zab 5) zao)) (zcc (zafv (zjy (zjy (zjp 5) (zdz (zab 4))) (zdz (se_c λ_=>zaa)))) (zcc (zyc (zjp 5)) (zcc (zpy (zpx (zfi (zbp (zbr (zbl (zaf (zab 8) (zaf (zab 3) zao))))) (zbp (zbr (zbl (zaf (zab 7) (zaf (zab 3) zao))))))) (zjn (zdz (se_c λ_=>zag))) zlj) (zjn (zdz (zais (zaw zwq (zbl (zaf (zab 5) zao)) (zaw zair (zfj zeu (zaf (zab 2) zao)) (se_c λ_=>zaa))) (zaw zaiz (zbl (zaf (zab 7) zao)) (se_c λ_=>zag)))))))))))))))))))))))) (zagh (n:=7) e1) (zaca lc (λc h=>(p1 c h).1)) k
end
theorem us_s{us:List Value}{n:Nat}(h:us.length=n+1):∃a t,us=a::t/\t.length=n:=by
 cases us with
 | nil=>cases h
 | cons a t=>exact⟨a,t,rfl,Nat.succ.inj h⟩
theorem us_1{us:List Value}(h:us.length=1):∃a0,us=[a0]:=by
 obtain⟨a,t,rfl,h2⟩:=us_s h
 cases qAC.mp h2
 exact⟨a,rfl⟩
theorem us_2{us:List Value}(h:us.length=2):∃a0 a1,us=[a0,a1]:=by
 obtain⟨a0,t,rfl,h2⟩:=us_s h
 obtain⟨a1,rfl⟩:=us_1 h2
 exact⟨a0,a1,rfl⟩
theorem all_mk{l:PySem.W.OpenLaw}{w:World}{K:qB}{h:Heap}{mg:Str->Option Value}{fa f1 f2 f3 f4 f5 f6 f7 f8 f9 f10 f11 f12:Addr}(X:K.In h)(G:h.Ns qZ mg)(hfa:mg "law"=some (.ref fa))
  {od1 an1 od2 an2 od3 an3 od4 an4 od5 an5 od6 an6 od7 an7 od8 an8 od9 an9 od10 an10 od11 an11 od12 an12:Option Addr}{sl1 sl2 sl3 sl4 sl5 sl6 sl7 sl8 sl9 sl10 sl11 sl12:Array (Option Value)}{oc1 kV1 dc1 pm1 cd1 ct1 oc2 kV2 dc2 pm2 cd2 ct2 oc3 kV3 dc3 pm3 cd3 ct3 oc4 kV4 dc4 pm4 cd4 ct4 oc5 kV5 dc5 pm5 cd5 ct5 oc6 kV6 dc6 pm6 cd6 ct6 oc7 kV7 dc7 pm7 cd7 ct7 oc8 kV8 dc8 pm8 cd8 ct8 oc9 kV9 dc9 pm9 cd9 ct9 oc10 kV10 dc10 pm10 cd10 ct10 oc11 kV11 dc11 pm11 cd11 ct11 oc12 kV12 dc12 pm12 cd12 ct12:Value}
  (a1:qk K qZ "is_name"=some (some (.ref f1)))(l1:K.lookup f1=some ⟨oc1,od1,.func (q0 "is_name" "is_name" (zcb zfr) (zbo zfr) (zak zfr) .none kV1 dc1 pm1 an1 cd1 ct1),sl1⟩)(c1:qAA K cd1 "is_name"=true)(k1:qm K (.ref f1)=true)
  (a2:qk K qZ "are_unlike_of"=some (some (.ref f2)))(l2:K.lookup f2=some ⟨oc2,od2,.func (q0 "are_unlike_of" "are_unlike_of" (zcb zbs) (zbo zbs) (zak zbs) .none kV2 dc2 pm2 an2 cd2 ct2),sl2⟩)(c2:qAA K cd2 "are_unlike_of"=true)(k2:qm K (.ref f2)=true)
  (a3:qk K qZ "is_kind_behind"=some (some (.ref f3)))(l3:K.lookup f3=some ⟨oc3,od3,.func (q0 "is_kind_behind" "is_kind_behind" (zcb zbm) (zbo zbm) (zak zbm) .none kV3 dc3 pm3 an3 cd3 ct3),sl3⟩)(c3:qAA K cd3 "is_kind_behind"=true)(k3:qm K (.ref f3)=true)
  (a4:qk K qZ "copy_of_web"=some (some (.ref f4)))(l4:K.lookup f4=some ⟨oc4,od4,.func (q0 "copy_of_web" "copy_of_web" (zcb zby) (zbo zby) (zak zby) .none kV4 dc4 pm4 an4 cd4 ct4),sl4⟩)(c4:qAA K cd4 "copy_of_web"=true)(k4:qm K (.ref f4)=true)
  (a5:qk K qZ "web_of"=some (some (.ref f5)))(l5:K.lookup f5=some ⟨oc5,od5,.func (q0 "web_of" "web_of" (zcb zfy) (zbo zfy) (zak zfy) .none kV5 dc5 pm5 an5 cd5 ct5),sl5⟩)(c5:qAA K cd5 "web_of"=true)(k5:qm K (.ref f5)=true)
  (a6:qk K qZ "is_web"=some (some (.ref f6)))(l6:K.lookup f6=some ⟨oc6,od6,.func (q0 "is_web" "is_web" (zcb zhk) (zbo zhk) (zak zhk) .none kV6 dc6 pm6 an6 cd6 ct6),sl6⟩)(c6:qAA K cd6 "is_web"=true)(k6:qm K (.ref f6)=true)
  (a7:qk K qZ "_law_draws"=some (some (.ref f7)))(l7:K.lookup f7=some ⟨oc7,od7,.func (q0 "_law_draws" "_law_draws" (zcb zdr) (zbo zdr) (zak zdr) .none kV7 dc7 pm7 an7 cd7 ct7),sl7⟩)(c7:qAA K cd7 "_law_draws"=true)(k7:qm K (.ref f7)=true)
  (a8:qk K qZ "_law_names"=some (some (.ref f8)))(l8:K.lookup f8=some ⟨oc8,od8,.func (q0 "_law_names" "_law_names" (zcb zds) (zbo zds) (zak zds) .none kV8 dc8 pm8 an8 cd8 ct8),sl8⟩)(c8:qAA K cd8 "_law_names"=true)(k8:qm K (.ref f8)=true)
  (a9:qk K qZ "_law_web"=some (some (.ref f9)))(l9:K.lookup f9=some ⟨oc9,od9,.func (q0 "_law_web" "_law_web" (zcb zfs) (zbo zfs) (zak zfs) .none kV9 dc9 pm9 an9 cd9 ct9),sl9⟩)(c9:qAA K cd9 "_law_web"=true)(k9:qm K (.ref f9)=true)
  (a10:qk K qZ "_law_alike"=some (some (.ref f10)))(l10:K.lookup f10=some ⟨oc10,od10,.func (q0 "_law_alike" "_law_alike" (zcb zdt) (zbo zdt) (zak zdt) .none kV10 dc10 pm10 an10 cd10 ct10),sl10⟩)(c10:qAA K cd10 "_law_alike"=true)(k10:qm K (.ref f10)=true)
  (a11:qk K qZ "_law_refused"=some (some (.ref f11)))(l11:K.lookup f11=some ⟨oc11,od11,.func (q0 "_law_refused" "_law_refused" (zcb zcp) (zbo zcp) (zak zcp) .none kV11 dc11 pm11 an11 cd11 ct11),sl11⟩)(c11:qAA K cd11 "_law_refused"=true)(k11:qm K (.ref f11)=true)
  (a12:qk K qZ "law"=some (some (.ref f12)))(l12:K.lookup f12=some ⟨oc12,od12,.func (q0 "law" "law" (zcb zoa) (zbo zoa) (zak zoa) .none kV12 dc12 pm12 an12 cd12 ct12),sl12⟩)(c12:qAA K cd12 "law"=true)(k12:qm K (.ref f12)=true)
  {y0 fI:Addr}{xoc xkV xdc xpm xcd xct:Value}{xod xan:Option Addr}{xsl:Array (Option Value)}
  {xdd0:Option Addr}{xsl0:Array (Option Value)}{xcdt0:ClassData}
  (xa0:qk K qZ "NoWeb"=some (some (.ref y0)))
  (xp0:PySem.W.isClsIn K y0=true)
  (xq0:PySem.W.typeIn K (.ref y0)=some (.type "type"))
  (xz:qk K qZ "ValueError"=some none)
  (xi0:PySem.W.findIn K (.ref y0) "__init__"=some (some (.ref fI)))
  (xl:K.lookup fI=some ⟨xoc,xod,.func (q0 "__init__" "CallError.__init__" (zcb (znd (top 1) 0)) (zbo (znd (top 1) 0)) (zak (znd (top 1) 0)) .none xkV xdc xpm xan xcd xct),xsl⟩)
  (xc:qAA K xcd "CallError.__init__"=true)
  (xk:qm K (.ref fI)=true)
  (xf:PySem.W.isFn K (.ref fI)=true)
  (xlc0:K.lookup y0=some ⟨.type "type",xdd0,.cls xcdt0,xsl0⟩)
  (xb0:xcB y0 xcdt0 xsl0=true)
  (xkp0:qm K (.ref y0)=true)
  (xsa0:PySem.W.findIn K (.ref y0) "__setattr__"=some (some (.builtin "object.__setattr__")))
  (xat0:PySem.W.findIn K (.ref y0) "at"=some (none))
  (xga0:PySem.W.findIn K (.ref y0) "__getattribute__"=some (some (.builtin "BaseException.__getattribute__")))
  (xgh0:PySem.W.findIn K (.ref y0) "__getattr__"=some (none))
  (xcl0:PySem.W.findIn K (.ref y0) "__class__"=some (some (.builtin "object.__class__")))
  (xs0_b:PySem.W.subIn K (.ref y0) (.type "BaseException")=some true)
  (xs0_v:PySem.W.subIn K (.ref y0) (.type "ValueError")=some true)
  (xs0_s:PySem.W.subIn K (.ref y0) (.ref y0)=some true)
  (xs0_B:PySem.W.subIn K (.ref y0) (.ref y0)=some true)
  (xBb:PySem.W.subIn K (.ref y0) (.type "BaseException")=some true)
  (z1:qk K qZ "all"=some none)(z2:qk K qZ "bool"=some none)(z3:qk K qZ "enumerate"=some none)(z4:qk K qZ "isinstance"=some none)(z5:qk K qZ "len"=some none)(z6:qk K qZ "list"=some none)(z7:qk K qZ "min"=some none)(z8:qk K qZ "range"=some none)(z9:qk K qZ "set"=some none)(z10:qk K qZ "str"=some none)(z11:qk K qZ "tuple"=some none){gt1:Tok}(g1:qk K qZ "MOST_ELDERS"=some (some (.int 4 gt1))){gt2:Tok}(g2:qk K qZ "MOST_KINDS"=some (some (.int 10 gt2))){gt3:Tok}(g3:qk K qZ "MOST_LETTERS"=some (some (.int 8 gt3))) :
  ∃fd:qAB,(∀(s:Shared)(v:Value),BindsTo s fd ⟨[v],[]⟩ [("_law_script",v)])/\∀base:Heap,K.In base->base.Ns qZ mg->FnOk l.prog w K mg base CX0 5 fa fd ["_law_script"] (zacb K):=by
 have e:=hfa.symm.trans (qt X G a12)
 cases e
 have T:Txt mg:=⟨q9 X G z1,q9 X G z2,q9 X G z3,q9 X G z4,q9 X G z5,q9 X G z6,q9 X G z7,q9 X G z8,q9 X G z9,q9 X G z10,q9 X G z11,⟨_,qt X G g1⟩,⟨_,qt X G g2⟩,⟨_,qt X G g3⟩⟩
 have F1:=zfe (st:=zfr) l1 c1 k1
 have b1:=F1.binds (ps:=["thing"]) λ_ _ _ _ _ _ us hl=>by obtain⟨_,rfl⟩:=us_1 hl;rfl
 have F2:=zfe (st:=zbs) l2 c2 k2
 have b2:=F2.binds (ps:=["known","things"]) λ_ _ _ _ _ _ us hl=>by obtain⟨_,_,rfl⟩:=us_2 hl;rfl
 have F3:=zfe (st:=zbm) l3 c3 k3
 have b3:=F3.binds (ps:=["ahead","thing"]) λ_ _ _ _ _ _ us hl=>by obtain⟨_,_,rfl⟩:=us_2 hl;rfl
 have F4:=zfe (st:=zby) l4 c4 k4
 have b4:=F4.binds (ps:=["web"]) λ_ _ _ _ _ _ us hl=>by obtain⟨_,rfl⟩:=us_1 hl;rfl
 have F5:=zfe (st:=zfy) l5 c5 k5
 have b5:=F5.binds (ps:=["thing"]) λ_ _ _ _ _ _ us hl=>by obtain⟨_,rfl⟩:=us_1 hl;rfl
 have F6:=zfe (st:=zhk) l6 c6 k6
 have b6:=F6.binds (ps:=["thing"]) λ_ _ _ _ _ _ us hl=>by obtain⟨_,rfl⟩:=us_1 hl;rfl
 have F7:=zfe (st:=zdr) l7 c7 k7
 have b7:=F7.binds (ps:=["_law_script","_law_many"]) λ_ _ _ _ _ _ us hl=>by obtain⟨_,_,rfl⟩:=us_2 hl;rfl
 have F8:=zfe (st:=zds) l8 c8 k8
 have b8:=F8.binds (ps:=["_law_many","_law_cell"]) λ_ _ _ _ _ _ us hl=>by obtain⟨_,_,rfl⟩:=us_2 hl;rfl
 have F9:=zfe (st:=zfs) l9 c9 k9
 have b9:=F9.binds (ps:=["_law_cells","_law_names_here"]) λ_ _ _ _ _ _ us hl=>by obtain⟨_,_,rfl⟩:=us_2 hl;rfl
 have F10:=zfe (st:=zdt) l10 c10 k10
 have b10:=F10.binds (ps:=["_law_made","_law_web_here"]) λ_ _ _ _ _ _ us hl=>by obtain⟨_,_,rfl⟩:=us_2 hl;rfl
 have F11:=zfe (st:=zcp) l11 c11 k11
 have b11:=F11.binds (ps:=["_law_thing","_law_place"]) λ_ _ _ _ _ _ us hl=>by obtain⟨_,_,rfl⟩:=us_2 hl;rfl
 have F12:=zfe (st:=zoa) l12 c12 k12
 refine⟨q0 "law" "law" (zcb zoa) (zbo zoa) (zak zoa) .none kV12 dc12 pm12 an12 cd12 ct12,λs v=>.of_eq rfl,λbase _ _=>?_⟩
 have XF:=zfe (st:=znd (top 1) 0) xl xc xk
 have xv:=q9 X G xz
 obtain⟨cl,cl0⟩:∃cl:Str->Addr,cl "NoWeb"=y0:=⟨λs=>if s="NoWeb"then y0 else 0,rfl⟩
 have XM0:XMk K y0 fI:=⟨(zajs xlc0 xb0).1,(zajs xlc0 xb0).2,xi0,xf,xkp0,xsa0,xat0,xga0,xgh0⟩
 have X_NoWeb:XcOk l.prog w K mg base "NoWeb" (cl "NoWeb"):=by rw[cl0];exact⟨fI,_,XM0,zafm XF XM0 xv rfl rfl (by decide) (λ_=>⟨_,rfl⟩),XF.binds (ps:=["self","at"]) (λ_ _ _ _ _ _ us hl=>by obtain⟨_,_,rfl⟩:=us_2 hl;rfl),qt X G xa0,xcl0,zaju xs0_b xp0 xq0 xs0_s⟩
 have XK_law_refused:XKit l.prog w K mg base cl ["NoWeb"] [] "NoWeb":=by
  refine⟨(zny X_NoWeb zmr),?_,?_,?_,?_,?_,xv⟩
  ·rw[cl0];exact(zny (by rw[cl0];exact zajv xBb xp0 xq0 xs0_B) zmr)
  ·exact(zny zmr zmr)
  ·exact(zny (by rw[cl0];exact zajt xs0_v) zmr)
  ·exact zmr
  ·rw[cl0];exact qt X G xa0
 have D_is_name:zrb l.prog w K mg base:=⟨f1,_,zvh F1 T , qt X G a1,k1,b1⟩
 have D_are_unlike_of:zha l.prog w K mg base:=⟨f2,_,zkg F2 T , qt X G a2,k2,b2⟩
 have D_is_kind_behind:zcv l.prog w K mg base:=⟨f3,_,zjr F3 T D_are_unlike_of D_is_name,qt X G a3,k3,b3⟩
 have D_copy_of_web:zfz l.prog w K mg base:=⟨f4,_,zme F4 T , qt X G a4,k4,b4⟩
 have DT_copy_of_web:zfd l.prog w K mg base:=⟨f4,_,zly F4 T , qt X G a4,k4,b4⟩
 have D_web_of:zud l.prog w K mg base:=⟨f5,_,zze F5 T D_copy_of_web D_is_kind_behind,qt X G a5,k5,b5⟩
 have DT_web_of:zrd l.prog w K mg base:=⟨f5,_,zvj F5 T DT_copy_of_web D_is_kind_behind,qt X G a5,k5,b5⟩
 have D_web_of__X:zif l.prog w K mg base cl:=⟨f5,_,zre (cl:=cl) F5 T D_copy_of_web D_is_kind_behind X_NoWeb,qt X G a5,k5,b5⟩
 have D_is_web:zue l.prog w K mg base:=⟨f6,_,zzf (cl:=cl) F6 T D_web_of__X X_NoWeb,qt X G a6,k6,b6⟩
 have D_law_draws:Dn l.prog w K mg base "_law_draws" ["_law_script","_law_many"] 1 (zsw K):=⟨f7,_,zrp F7 T , qt X G a7,k7,b7⟩
 have D_law_names:zlw l.prog w K mg base:=⟨f8,_,zrf F8 T , qt X G a8,k8,b8⟩
 have D_law_web:zrc l.prog w K mg base:=⟨f9,_,zvi F9 T , qt X G a9,k9,b9⟩
 have D_law_alike:zlx l.prog w K mg base:=⟨f10,_,zrg F10 T , qt X G a10,k10,b10⟩
 have D_law_refused:zjd l.prog w K mg base:=⟨f11,_,zmf (cl:=cl) F11 T D_web_of__X XK_law_refused,qt X G a11,k11,b11⟩
 exact zako F12 T D_law_alike D_law_draws D_law_names D_law_refused D_law_web D_is_web D_web_of DT_copy_of_web DT_web_of
theorem walk{l:PySem.W.OpenLaw}{q:Program}{loose:List Str}{XP:(Str->Option Value)->Heap->Prop}{YP:World->Heap->Prop}{d:DefRec}{K:Params->qB}(hn:l.most=some 63)(hdf:d.params.defaults=[])
  (hY:∀(w:World) (h:Heap),YP w h->(K w.params).In h)
  (F:∀(w:World)(mg:Str->Option Value)(fa:Addr)(h:Heap),(K w.params).In h->h.Ns qZ mg->mg d.name=some (.ref fa)->
   ∃fd:qAB,(∀(s:Shared)(u:Value),BindsTo s fd ⟨[u],[]⟩ [("_law_script",u)])/\∀base:Heap,(K w.params).In base->base.Ns qZ mg->FnOk l.prog w (K w.params) mg base CX0 5 fa fd ["_law_script"] (zacb (K w.params))) :
  PySem.W.WalkO q loose XP YP l.row.toRowW d [] (λf vs=>PySem.call f vs):=
 L2.walk_of (n:=63) (k:=5) (x:="_law_script") (CX:=λ_=>CX0) (sp:=λw=>zacb (K w.params)) hn (by decide) hdf ⟨rfl,by decide,by decide,rfl⟩ hY F (λ_ _ a ns hl _ hS=>⟨a,ns,rfl,hS,λ_=>rfl⟩) λ_ _ _ _ _ z=>z
end Bc
theorem PySem.W.Fast.te6567487048398335210:True:=trivial
noncomputable def PySem.W.Fast.tw7369133545203499729:PySem.Program:=PySem.Challenge.pw_bestcalls_k06_webs_made
theorem PySem.W.Fast.te7369133545203499729:PySem.Challenge.pw_bestcalls_k06_webs_made=PySem.W.Fast.tw7369133545203499729:=rfl
open PySem PySem.W PyProof.Rows
set_option maxRecDepth 100000 in
set_option maxHeartbeats 0 in
theorem PySem.Challenge.cw_bestcalls_k06_webs_made_holds : PySem.Challenge.rw_bestcalls_k06_webs_made.Holds := by
 w_on;o_law;k_head;(case hw=>w_witness2)
 k_fill
 refine Bc.walk (l:=PySem.Challenge.rw_bestcalls_k06_webs_made) rfl rfl (λw h Y=>PySem.W.kIn_of Y) ?F
 case F=>
  intro w mg fa h KX G hmg
  refine' Bc.all_mk KX G hmg ?a1 ?l1 ?c1 ?k1 ?a2 ?l2 ?c2 ?k2 ?a3 ?l3 ?c3 ?k3 ?a4 ?l4 ?c4 ?k4 ?a5 ?l5 ?c5 ?k5 ?a6 ?l6 ?c6 ?k6 ?a7 ?l7 ?c7 ?k7 ?a8 ?l8 ?c8 ?k8 ?a9 ?l9 ?c9 ?k9 ?a10 ?l10 ?c10 ?k10 ?a11 ?l11 ?c11 ?k11 ?a12 ?l12 ?c12 ?k12 ?xa0 ?xp0 ?xq0 ?xz ?xi0 ?xl ?xc ?xk ?xf ?xlc0 ?xb0 ?xkp0 ?xsa0 ?xat0 ?xga0 ?xgh0 ?xcl0 ?xs0_b ?xs0_v ?xs0_s ?xs0_B ?xBb ?z1 ?z2 ?z3 ?z4 ?z5 ?z6 ?z7 ?z8 ?z9 ?z10 ?z11 ?g1 ?g2 ?g3
  (case a1=>k_is)
  (case l1=>k_is)
  (case c1=>k_is)
  (case k1=>k_is)
  (case a2=>k_is)
  (case l2=>k_is)
  (case c2=>k_is)
  (case k2=>k_is)
  (case a3=>k_is)
  (case l3=>k_is)
  (case c3=>k_is)
  (case k3=>k_is)
  (case a4=>k_is)
  (case l4=>k_is)
  (case c4=>k_is)
  (case k4=>k_is)
  (case a5=>k_is)
  (case l5=>k_is)
  (case c5=>k_is)
  (case k5=>k_is)
  (case a6=>k_is)
  (case l6=>k_is)
  (case c6=>k_is)
  (case k6=>k_is)
  (case a7=>k_is)
  (case l7=>k_is)
  (case c7=>k_is)
  (case k7=>k_is)
  (case a8=>k_is)
  (case l8=>k_is)
  (case c8=>k_is)
  (case k8=>k_is)
  (case a9=>k_is)
  (case l9=>k_is)
  (case c9=>k_is)
  (case k9=>k_is)
  (case a10=>k_is)
  (case l10=>k_is)
  (case c10=>k_is)
  (case k10=>k_is)
  (case a11=>k_is)
  (case l11=>k_is)
  (case c11=>k_is)
  (case k11=>k_is)
  (case a12=>k_is)
  (case l12=>k_is)
  (case c12=>k_is)
  (case k12=>k_is)
  (case xa0=>k_is)
  (case xp0=>k_is)
  (case xq0=>k_is)
  (case xz=>k_is)
  (case xi0=>k_is)
  (case xl=>k_is)
  (case xc=>k_is)
  (case xk=>k_is)
  (case xf=>k_is)
  (case xlc0=>k_is)
  (case xb0=>rfl)
  (case xkp0=>k_is)
  (case xsa0=>k_is)
  (case xat0=>k_is)
  (case xga0=>k_is)
  (case xgh0=>k_is)
  (case xcl0=>k_is)
  (case xs0_b=>k_is)
  (case xs0_v=>k_is)
  (case xs0_s=>k_is)
  (case xs0_B=>k_is)
  (case xBb=>k_is)
  (case z1=>k_is)
  (case z2=>k_is)
  (case z3=>k_is)
  (case z4=>k_is)
  (case z5=>k_is)
  (case z6=>k_is)
  (case z7=>k_is)
  (case z8=>k_is)
  (case z9=>k_is)
  (case z10=>k_is)
  (case z11=>k_is)
  (case g1=>k_is)
  (case g2=>k_is)
  (case g3=>k_is)
