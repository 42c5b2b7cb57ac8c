import PyProof.Rows.All
import Wide.All
import OpenK.AllK
import Wide.FinOn
import Lean
import PyProof.EqAt
import PyProof.EqKinds
import PyProof.TupleCall
import KE.KRevSl
import PyProof.MeetsStr
import PyProof.Rows.MinMaxN
import KE.KTryOn
import PyProof.ExcInit
import PyProof.ExcClass3
import PyProof.ExcBaseAll.ValueError
import PyProof.InstStoreFacts
import ObjForm.Fk.InstStore
import PyProof.ExcArgsOwn
import PyProof.ExcAttrAll.ValueError
import PyProof.PureStr
import PyProof.FString2
import PyProof.Rows.FactsFmt
import PyProof.FactsAll.NoneType_2
import PyProof.NsDelKeeps
import PyProof.IsiBase
import PyProof.DictWalks
import PyProof.AutoListH
import PyProof.AutoSeq1
import PyProof.ListRange
import PySem.Challenge.RW_bestcalls_k44_walked_by_levels
set_option genSizeOf false
set_option Elab.async false
set_option linter.all false
set_option maxRecDepth 100000
noncomputable section
open Option renaming bind_eq_some_iff→qA,map_eq_some_iff→qH,bind_some→qJ,map_some→qCD
open PySem.W renaming Frag→qC,keepIn→qY,nsIn→qZ,mg_of→qf,codeIn→qp,fnOf→qt,mg_none_of→qAJ,kia_one→qAV,looks_findIn→qAW,cellsFrom_some→qBe,callWith_K→qBv,codeRec_of→qCj,kitx_list→qCm,kitx_dict→qCn
open List renaming length_map→qD,getElem?_eq_getElem→qF,length_append→qI,getD_eq_getElem?_getD→qK,size_toArray→qO,getElem?_set_ne→qP,mem_cons_of_mem→qR,mem_singleton→qS,length_range→qT,length_cons→qV,getElem?_eq_some_iff→qW,getElem?_map→qa,mem_cons_self→qc,mem_append→qd,getElem?_append_right→qh,mem_cons→qi,mem_map→qv,map_append→qw,mem_append_right→qy,length_set→qAA,getElem?_set_self→qAB,map_cons→qAE,getElem_mem→qAG,all_eq_true→qAK,append_nil→qAL,getElem?_append_left→qAN,contains_cons→qAR,drop_eq_getElem_cons→qAY,mem_append_left→qAb,replicate_succ→qAf,lookup_cons→qAh,length_take→qAi,mem_range→qAk,take_of_length_le→qAp,map_map→qAr,mem_of_getElem?→qAv,append_assoc→qAw,not_mem_nil→qAz,drop_length→qA0,length_nil→qA5,flatten_cons→qA7,length_drop→qBC,mem_filter→qBF,length_eq_zero_iff→qBG,flatMap_cons→qBI,mem_flatMap→qBQ,all_cons→qBS,nodup_cons→qBV,getElem?_replicate→qBi,of_mem_zip→qBm,length_replicate→qBn,getElem?_eq_none→qBo,drop_zero→qBw,getElem?_range→qBz,filterMap_cons→qB0,mem_filterMap→qB4,findIdx?_eq_some_iff_getElem→qB5,any_cons→qB6,zipIdx_cons→qCG,forIn_cons→qCH,exists_cons_of_ne_nil→qCM,getElem?_take_of_lt→qCX,map_take→qCZ,getElem?_cons_zero→qCa,drop_of_length_le→qCg,getElem?_zipIdx→qCp,map_congr_left→qCt,length_pos_iff→qCu,flatMap_append→qCv
open PySem renaming wpAny_bind→qE,wpAny_pure→qM,Expr→qU,mainGlobals→qX,sizeLine→qb,wpAny_loadPart_at→qj,Pos→qs,FuncData→qAF,starEach→qAH,mem_of_lookup→qAM,wpAny_field→qAS,wpAny_isSubtype_exc→qAa,wpAny_callSpecial?_slot→qAd,wpAny_pyIter_tuple→qAj,wpAny_newObj_type→qAq,wpAny_Call_Name_kw→qAu,sizeLine_eq→qA1,wpAny_call_entry→qA3,wpAny_seqItems→qA4,wpAny_setField_rec→qA6,wpAny_passesOwn→qA8,wpAny_standAt→qBA,wpAny_pyIter_list→qBB,codeAny_call_builtin→qBD,wpAny_setField→qBE,wpAny_loadPart'→qBJ,wpAny_holding→qBK,wpAny_getItem_str_slice→qBL,wpAny_execs_nil→qBM,wpAny_truthy_bool→qBR,codeAny_mono→qBT,wpAny_mono→qBZ,call_meets→qBl,wpAny_onRaise→qBp,wpAny_pyReprObj_gives→qB1,post_val_or_str→qB2,wpAny_updateSeq_pair→qB8,wpAny_rule→qCK,wpAny_call→qCL,wpAny_typeOf→qCN,wpAny_execs_cons→qCR,noFill_tuple_add→qCS,seqIndex_of→qCd,wpAny_newFunctionEnv_cells→qCi,wpAny_comprehension_free→qCr,typeIs_str→qCs
open PySem.Heap renaming get?_push_of_some→qG,lt_size→qN,get?_push_size→qe,get?_update_other→qAT,get?_update_self→qAZ,size_push→qAl,get?_none_of_le→qBu,get?_update_ne→qCw
open Nat renaming le_refl→qL,lt_of_lt_of_le→qg,ne_of_lt→qz,le_trans→qAC,zero_le→qAt,lt_irrefl→qAy,le_succ_of_le→qBN,le_succ→qBO,ne_of_gt→qBP,le_of_succ_le→qBg,min_eq_right→qBj,le_add_right→qBk,min_le_left→qBq,min_eq_left→qBr,le_of_lt→qBs,sub_zero→qCE,sub_self→qCF,add_sub_cancel_left→qCf,zero_add→qCo
open Bool renaming false_ne_true→qQ,and_eq_true→qr,or_true→qAm,eq_iff_iff→qAx,false_eq_true→qBY,true_or→qCC,or_eq_true_iff→qCy
open PySem.PyData renaming eqv→qk,depthAll→qu,canLayAll0→qAQ,strOk→qA2
open PySem.F renaming plainAttrs_list→qm,type_list_append→qAO,slot_list_append→qAP,slot_tuple_iterator_next→qA9,excBase_ValueError→qBW,args_tuple_add_2→qBX,type_list_index→qBb,slot_list_index→qBc,entry_tuple_add→qBd,slot_tuple_add→qBf,typeOf_object_class→qBx,slot_zip_next→qBy,store_ValueError→qCA,args_tuple_iterator_next_1→qCQ,type_list_pop→qCV,slot_list_pop→qCW,entry_tuple_iterator_next→qCY,slot_gs_get→qCq
open Option.some renaming inj→qo
open PySem.SeqAt renaming shaped→qx,canLay_of_shaped→qAe
open PySem.Str renaming ofString→q9
open PySem.Builtin.SmallTypes renaming nextOf→qAD
open PySem.PassesOwn renaming never→qAI,leaving→qCe
open PyProof.Rows renaming slot_tuple_getitem→qAU,callWith_type1→qBH
open PySem.Obj renaming data_mapFields→qAX,isFreed_of_fields→qAs
open Array renaming getElem?_eq_some_iff→qAc,size_append→qAn,length_toList→qBU,getElem?_toList→qCh,mem_toList_iff→qCl
open Ne renaming symm→qAg
open Int renaming toNat_natCast→qAo,emod_lt_of_pos→qBa,emod_nonneg→qBt
open Nat.succ renaming inj→qBh
open PySem.Calls renaming spliced_cons→qB3,spliced_nil→qB9,Name_function_global→qCJ,callWith_builtin→qCc,evalArgs_plain→qCk,Constant_str→qCx
open PySem.Code renaming quiet_builtin→qB7
open Classical renaming byContradiction→qCB
open PySem.Heap.SameBut renaming update→qCI
open PySem.W.Looks renaming ld→qCO
open PySem.Heap.IsTuple renaming push→qCP
open PySem.SeqAt.EqAt renaming str_int→qCT,int_str→qCU
open PySem.Heap.IsList renaming push→qCb
namespace L2
open PySem PySem.Spec PyProof.Rows
noncomputable abbrev Key:=Sum Int Str
noncomputable def zang:Key->Value->Bool
 | .inl k,v=>Value.isInt k v
 | .inr x,v=>Value.isStrOf x v
noncomputable def keyH(w:World):Key->Int
 | .inl k=>hashInt k
 | .inr x=>hashStr w x
theorem zdh:∀{k:Key}{v:Value},zang k v=true->(∃i t,k=Sum.inl i/\v=Value.int i t)\/(∃x t,k=Sum.inr x/\v=Value.str x t)
 | .inl i,v,h=>by
  obtain⟨t,e⟩:=Value.isInt_shape (k:=i) (v:=v) h
  exact .inl ⟨i,t,rfl,e⟩
 | .inr x,v,h=>by
  obtain⟨t,e⟩:=Value.isStrOf_shape (x:=x) (v:=v) h
  exact .inr ⟨x,t,rfl,e⟩
theorem zanh(a b:Int):decide ((Sum.inl a:Key)=Sum.inl b)=(a==b):=by
 by_cases e:a=b
 ·subst e;simp
 ·have h:¬(Sum.inl a:Key)=Sum.inl b:=λq=>e (Sum.inl.inj q)
  rw[decide_eq_false h]
  exact(beq_eq_false_iff_ne.mpr e).symm
theorem zani(a b:Str):decide ((Sum.inr a:Key)=Sum.inr b)=decide (a=b):=by
 by_cases e:a=b
 ·subst e;simp
 ·have h:¬(Sum.inr a:Key)=Sum.inr b:=λq=>e (Sum.inr.inj q)
  rw[decide_eq_false h,decide_eq_false e]
theorem zanj(a:Int)(b:Str):decide ((Sum.inl a:Key)=Sum.inr b)=false:=decide_eq_false (λq=>nomatch q)
theorem zank(a:Str)(b:Int):decide ((Sum.inr a:Key)=Sum.inl b)=false:=decide_eq_false (λq=>nomatch q)
noncomputable def zwn(prog:Program)(w:World):PySem.KeyKind prog w Key where
 is:=zang
 hash:=keyH w
 inj:=λv a b ha hb=>by
  rcases zdh ha with⟨i,t,rfl,rfl⟩|⟨x,t,rfl,rfl⟩
  ·rcases zdh hb with⟨j,u,rfl,e⟩|⟨y,u,rfl,e⟩
   ·injection e with e1 _;rw[e1]
   ·exact nomatch e
  ·rcases zdh hb with⟨j,u,rfl,e⟩|⟨y,u,rfl,e⟩
   ·exact nomatch e
   ·injection e with e1 _;rw[e1]
 byValue:=λk v h=>by
  rcases zdh h with⟨i,t,rfl,rfl⟩|⟨x,t,rfl,rfl⟩<;>rfl
 pyHash:=λhv h=>by
  rcases zdh hv with⟨i,t,rfl,rfl⟩|⟨x,t,rfl,rfl⟩
  ·exact wpAny_pyHash_int h
  ·exact wpAny_pyHash_str h
 eqBool:=λhu hv h=>by
  rcases zdh hu with⟨i,t,rfl,rfl⟩|⟨x,t,rfl,rfl⟩
  ·rcases zdh hv with⟨j,u,rfl,rfl⟩|⟨y,u,rfl,rfl⟩
   ·rw[zanh]at h;exact wpAny_eqBool_int h
   ·rw[zanj]at h;exact qCU i t y u _ _ _ _ h
  ·rcases zdh hv with⟨j,u,rfl,rfl⟩|⟨y,u,rfl,rfl⟩
   ·rw[zank]at h;exact qCT x t j u _ _ _ _ h
   ·rw[zani]at h;exact wpAny_eqBool_str h
 «strs»:=λk x t v h=>by
  rcases zdh h with⟨i,u,rfl,e⟩|⟨y,u,rfl,e⟩
  ·exact nomatch e
  ·injection e with e1 _
   subst e1
   cases v<;>rfl
inductive V where
 | non|bl (b:Bool)|int (i:Int)|str (x:Str)|byt (b:Array UInt8)|flt (b:UInt64)|ref (a:Addr)|ty (n:String)
 deriving DecidableEq
noncomputable def RelV:V->Value->Prop
 | .non,u=>u=Value.none
 | .bl b,u=>u=Value.bool b
 | .int i,u=>∃t,u=Value.int i t
 | .str x,u=>∃t,u=Value.str x t
 | .byt b,u=>∃t,u=Value.bytes b t
 | .flt b,u=>∃t,u=Value.float b t
 | .ref a,u=>u=Value.ref a
 | .ty n,u=>u=Value.type n
noncomputable abbrev Vals:List V->List Value->Prop:=Paired RelV
theorem Vals.length{xs:List V}{us:List Value}(r:Vals xs us):xs.length=us.length:=Paired.length r
theorem Vals.get:∀{xs:List V}{us:List Value}{i:Nat}{x:V},Vals xs us->xs[i]?=some x->∃u,us[i]?=some u/\RelV x u
 | _,_,_,_,.nil,e=>by simp at e
 | _,_,0,_,.cons r _,e=>by simp at e;subst e;exact⟨_,rfl,r⟩
 | _,_,i+1,x,.cons _ t,e=>by
  obtain⟨u,h1,h2⟩:=Vals.get (i:=i) (x:=x) t (by simpa using e)
  exact⟨u,by simpa using h1,h2⟩
theorem Vals.set{x:V}{u:Value}(r:RelV x u):∀{xs:List V}{us:List Value}(i:Nat),Vals xs us->Vals (xs.set i x) (us.set i u)
 | _,_,_,.nil=>.nil
 | _,_,0,.cons _ t=>.cons r t
 | _,_,i+1,.cons q t=>.cons q (Vals.set r i t)
theorem Vals.append:∀{xs ys:List V}{us ws:List Value},Vals xs us->Vals ys ws->Vals (xs++ys) (us++ws)
 | _,_,_,_,.nil,s=>s
 | _,_,_,_,.cons r t,s=>.cons r (Vals.append t s)
theorem Vals.take:∀{xs:List V}{us:List Value}(n:Nat),Vals xs us->Vals (xs.take n) (us.take n)
 | _,_,0,_=>.nil
 | _,_,_+1,.nil=>.nil
 | _,_,n+1,.cons r t=>.cons r (Vals.take n t)
theorem Vals.drop:∀{xs:List V}{us:List Value}(n:Nat),Vals xs us->Vals (xs.drop n) (us.drop n)
 | _,_,0,r=>r
 | _,_,_+1,.nil=>.nil
 | _,_,n+1,.cons _ t=>Vals.drop n t
noncomputable def RelO:Option V->Option Value->Prop
 | some v,some u=>RelV v u
 | none,none=>True
 | _,_=>False
noncomputable def KV{κ:Type}:List (κ×V)->List (κ×Value)->Prop:=Paired λ(p:κ×V)(q:κ×Value)=>p.1=q.1/\RelV p.2 q.2
noncomputable def kV:Key->V
 | .inl i=>.int i
 | .inr x=>.str x
inductive HO where
  | lst (xs:List V)
  | tup (xs:List V)
  | dK (kvs:List (Key×V))|dT (kvs:List (List Key×V))
  | set (S:Int->Bool) (n:Nat)
  | ins (C dx:Addr) (fs:List (Str×V))
  | own (x:Addr)
  | xd (fs:List (Str×V))
  | met (f x:Addr)
  | rng (lo hi:Int)
  | frz (o:Obj) (u:HO)
  | tbl (ps:Array Value)
  | ext (φ:Heap->Prop)
noncomputable abbrev Hp:=Addr->Option HO
noncomputable def upd(H:Hp)(a:Addr)(o:HO):Hp:=λb=>if b=a then some o else H b
theorem zaz{H:Hp}{a:Addr}{o:HO}:upd H a o a=some o:=by unfold upd;rw[if_pos rfl]
theorem zax{H:Hp}{a b:Addr}{o:HO}(h:b≠a):upd H a o b=H b:=by unfold upd;rw[if_neg h]
theorem zbn{H:Hp}{a b:Addr}{o:HO}(h:H a=some o)(h':H b=none):a≠b:=by
 intro e;subst e;rw[h]at h';cases h'
section
variable(P:Program)(w:World)
noncomputable def zfv(H:Hp)(h:Heap)(a:Addr):HO->Prop
 | .lst xs=>xs.length<=qb/\∃(its:List Value)(n:Nat),Vals xs its/\h.get? a=some {cls:=.type "list",data:=.seq its.toArray n}
 | .tup xs=>xs.length<=qb/\∃its:List Value,Vals xs its/\IsTup h a its.toArray
 | .dK kvs=>kvs.length<=qb/\(a==sysModules)=false/\∃vs,KV kvs vs/\h.DictOf (zwn P w) a vs
 | .dT kvs=>kvs.length<=qb/\(a==sysModules)=false/\∃xs:List (List Key×Addr×Value),
   Paired (λ(p:List Key×V)(q:List Key×Addr×Value)=>p.1=q.1/\H q.2.1=some (.tup (p.1.map kV))/\RelV p.2 q.2.2) kvs xs/\
   ∃o es ep,h.get? a=some o/\o.ExactDict/\o.data=.dict es ep/\es.toList=xs.map (entryOfKey (tupleKind (zwn P w)))/\(xs.map (·.1)).Nodup
 | .set S n=>h.SetOf (intKind P w) a S n
 | .ins C dx fs=>H dx=some (.own a)/\fs.length<=1000/\dx≠a/\h.get? a=some (PySem.W.instObj C dx)/\
   ∃mA,h.Ns1 dx mA/\(∀f,RelO (fs.lookup f) (mA f))/\PySem.Within mA (fs.map (·.1))
 | .own _=>∃o,h.get? a=some o
 | .xd fs=>∃mA,h.Ns1 a mA/\∀f,RelO (fs.lookup f) (mA f)
 | .rng lo hi=>∃t u v,h.get? a=some {cls:=.type "range",data:=.fields #[.int lo t,.int hi u,.int 1 v]}
 | .frz o u=>h.get? a=some o/\zfv H h a u
 | .tbl ps=>h.get? a=some {cls:=.none,data:=.fields ps}
 | .met f x=>h.get? a=some (PySem.W.methodObj (.ref f) (.ref x))
 | .ext φ=>φ h/\(∃o,h.get? a=some o)/\∀h1 h2:Heap,φ h1->(∀o,h1.get? a=some o->h2.get? a=some o)->φ h2
noncomputable def HOk(H:Hp)(h:Heap):Prop:=∀a o,H a=some o->zfv P w H h a o
end
section
variable{P:Program}{w:World}{H H':Hp}{h h':Heap}{a:Addr}{o:HO}
theorem zfv.lt(x:zfv P w H h a o):a<h.objs.size:=by
 cases o with
 | lst xs=>obtain⟨_,_,_,_,e⟩:=x;exact qN e
 | tup xs=>obtain⟨_,_,_,p⟩:=x;exact p.lt
 | dK kvs=>obtain⟨_,_,_,_,o,_,_,e,_⟩:=x;exact qN e
 | dT kvs=>obtain⟨_,_,_,_,o,_,_,e,_⟩:=x;exact qN e
 | set S n=>obtain⟨o,_,_,_,e,_⟩:=x;exact qN e
 | ins C dx fs=>obtain⟨_,_,_,e,_⟩:=x;exact qN e
 | own y=>obtain⟨_,e⟩:=x;exact qN e
 | xd fs=>obtain⟨_,⟨_,_,_,e,_⟩,_⟩:=x;exact qN e
 | rng lo hi=>obtain⟨_,_,_,e⟩:=x;exact qN e
 | frz ob u=>obtain⟨e,_⟩:=x;exact qN e
 | tbl ps=>exact qN (show h.get? a=some _ from x)
 | met f y=>exact qN (show h.get? a=some _ from x)
 | ext φ=>obtain⟨_,⟨_,e⟩,_⟩:=x;exact qN e
theorem Paired.mapP{α β:Type}{F G:α->β->Prop}:∀{l₁:List α}{l₂:List β},Paired F l₁ l₂->(∀a b,F a b->G a b)->Paired G l₁ l₂
 | _,_,.nil,_=>.nil
 | _,_,.cons r t,f=>.cons (f _ _ r) (Paired.mapP t f)
theorem zfv.stay(x:zfv P w H h a o)(k:∀b u,(b=a\/H b=some (.own a))->h.get? b=some u->h'.get? b=some u)
  (ho:∀b,H b=some (.own a)->H' b=some (.own a))(ht:∀b xs,H b=some (.tup xs)->H' b=some (.tup xs)):zfv P w H' h' a o:=by
 induction o with
 | lst xs=>obtain⟨z,its,n,r,e⟩:=x;exact⟨z,its,n,r,k _ _ (.inl rfl) e⟩
 | tup xs=>obtain⟨z,its,r,ob,e,c⟩:=x;exact⟨z,its,r,ob,k _ _ (.inl rfl) e,c⟩
 | dK kvs=>obtain⟨z,y,vs,r,ob,es,ep,e,c⟩:=x;exact⟨z,y,vs,r,ob,es,ep,k _ _ (.inl rfl) e,c⟩
 | dT kvs=>
  obtain⟨z,y,xs,r,ob,es,ep,e,c⟩:=x
  exact⟨z,y,xs,Paired.mapP r λp q z=>⟨z.1,ht _ _ z.2.1,z.2.2⟩,ob,es,ep,k _ _ (.inl rfl) e,c⟩
 | set S n=>obtain⟨ob,es,ep,t,e,c⟩:=x;exact⟨ob,es,ep,t,k _ _ (.inl rfl) e,c⟩
 | ins C dx fs=>
  obtain⟨d,z,ne,e,mA,⟨od,es,ep,e2,c⟩,r⟩:=x
  exact⟨ho _ d,z,ne,k _ _ (.inl rfl) e,mA,⟨od,es,ep,k _ _ (.inr d) e2,c⟩,r⟩
 | own y=>obtain⟨ob,e⟩:=x;exact⟨ob,k _ _ (.inl rfl) e⟩
 | xd fs=>obtain⟨mA,⟨od,es,ep,e,c⟩,r⟩:=x;exact⟨mA,⟨od,es,ep,k _ _ (.inl rfl) e,c⟩,r⟩
 | rng lo hi=>obtain⟨t,u,v,e⟩:=x;exact⟨t,u,v,k _ _ (.inl rfl) e⟩
 | frz ob u ih=>obtain⟨e,q⟩:=x;exact⟨k _ _ (.inl rfl) e,ih q⟩
 | tbl ps=>
  have e:h.get? a=some {cls:=.none,data:=.fields ps}:=x
  show h'.get? a=some {cls:=.none,data:=.fields ps}
  exact k a _ (.inl rfl) e
 | met f y=>
  have e:h.get? a=some (PySem.W.methodObj (.ref f) (.ref y)):=x
  show h'.get? a=some (PySem.W.methodObj (.ref f) (.ref y))
  exact k a _ (.inl rfl) e
 | ext φ=>obtain⟨p,⟨o,e⟩,st⟩:=x;exact⟨st _ _ p λo q=>k _ _ (.inl rfl) q,⟨o,k _ _ (.inl rfl) e⟩,st⟩
theorem HOk.lt(x:HOk P w H h)(e:H a=some o):a<h.objs.size:=(x a o e).lt
theorem HOk.fresh(x:HOk P w H h)(e:h.objs.size<=a):H a=none:=by
 cases q:H a with
 | none=>rfl
 | some u=>exact absurd (qg (x.lt q) e) (qAy _)
theorem HOk.kept(x:HOk P w H h)(k:∀b u,h.get? b=some u->h'.get? b=some u):HOk P w H h':=λa o e=>
 (x a o e).stay (λb u _ q=>k b u q) (λ_ q=>q) λ_ _ q=>q
theorem HOk.laid(x:HOk P w H h)(k:∀b u,h.get? b=some u->h'.get? b=some u)(hp:h.objs.size<=a)(new:zfv P w (upd H a o) h' a o):HOk P w (upd H a o) h':=λb u e=>by
 have hn:=x.fresh hp
 by_cases hb:b=a
 ·subst hb;rw[zaz]at e;cases e;exact new
 ·rw[zax hb]at e
  exact(x b u e).stay (λc v _ q=>k c v q) (λc q=>by rw[zax (zbn q hn)];exact q) λc xs q=>by rw[zax (zbn q hn)];exact q
end
noncomputable def Rd(H:Hp)(a:Addr)(u:HO):Prop:=H a=some u\/∃o,H a=some (.frz o u)
theorem Rd.ok{P:Program}{w:World}{H:Hp}{h:Heap}{a:Addr}{u:HO}(r:Rd H a u)(x:HOk P w H h):zfv P w H h a u:=by
 rcases r with r|⟨o,r⟩
 ·exact x a u r
 ·obtain⟨_,q⟩:=x a _ r
  exact q
noncomputable def Mut:Option HO->Prop
 | some (.lst _)=>True
 | some (.dK _)=>True
 | some (.dT _)=>True
 | some (.set _ _)=>True
 | some (.ins _ _ _)=>True
 | some (.ext _)=>True
 | _=>False
section
variable{P:Program}{w:World}{H:Hp}{h h':Heap}{x e:Addr}{o':HO}
theorem HOk.write(ok:HOk P w H h)(mu:Mut (H x))(he:e=x\/H e=some (.own x))(k:∀b u,b≠e->h.get? b=some u->h'.get? b=some u)(heo:∃u,h'.get? e=some u)
  (new:zfv P w (upd H x o') h' x o'):HOk P w (upd H x o') h':=λb u q=>by
 have nown:∀c y,H c=some (.own y)->c≠x:=λc y r z=>by subst z;rw[r]at mu;exact mu
 have ntup:∀c xs,H c=some (.tup xs)->c≠x:=λc xs r z=>by subst z;rw[r]at mu;exact mu
 by_cases hb:b=x
 ·subst hb;rw[zaz]at q;cases q;exact new
 ·rw[zax hb]at q
  by_cases hbe:b=e
  ·have q':H b=some (.own x):=by
    rcases he with z|z
    ·exact absurd (hbe.trans z) hb
    ·rw[hbe];exact z
   rw[q]at q';cases q'
   obtain⟨v,hv⟩:=heo
   exact⟨v,by rw[hbe];exact hv⟩
  ·refine(ok b u q).stay (λc v hc r=>k c v ?_ r) (λc r=>by rw[zax (nown c b r)];exact r) λc xs r=>by rw[zax (ntup c xs r)];exact r
   rcases hc with rfl|hc
   ·exact hbe
   ·rintro rfl
    rcases he with z|z
    ·exact nown c b hc z
    ·rw[hc]at z;cases z;exact hb rfl
end
set_option genInjectivity false in
structure Un(fs ex:List Addr)(H H':Hp)(h h':Heap):Prop where
 keep:∀b o,h.get? b=some o->H b=none->b∉fs->b∉ex->h'.get? b=some o
 slot:∀b o,h.get? b=some o->H b=none->b∈fs->b∉ex->∃sl,h'.get? b=some {o with slots:=sl}
 free:∀b o,h.get? b=some o->H b=none->b∉ex->H' b=none
 there:∀b o,h.get? b=some o->b∉ex->∃o',h'.get? b=some o'
 tups:∀b xs,H b=some (.tup xs)->H' b=some (.tup xs)
 frzs:∀b o u,H b=some (.frz o u)->H' b=some (.frz o u)
 tbls:∀b ps,H b=some (.tbl ps)->∃more,H' b=some (.tbl (ps++more))
section
variable{fs fs' ex ex':List Addr}{H H1 H2:Hp}{h h1 h2 h':Heap}{a x e:Addr}{o:HO}
theorem Un.any(u:Un fs ex H H1 h h1){b:Addr}{ob:Obj}(q:h.get? b=some ob)(n:H b=none)(hx:b∉ex):∃sl,h1.get? b=some {ob with slots:=sl}:=by
 by_cases hb:b∈fs
 ·exact u.slot b ob q n hb hx
 ·exact⟨ob.slots,u.keep b ob q n hb hx⟩
theorem Un.kept(k:∀b u,h.get? b=some u->h'.get? b=some u):Un fs ex H H h h':=
 ⟨λb ob q _ _ _=>k b ob q,λb ob q _ _ _=>⟨ob.slots,k b ob q⟩,λ_ _ _ n _=>n,λb ob q _=>⟨ob,k b ob q⟩,λ_ _ q=>q,λ_ _ _ q=>q,λ_ ps q=>⟨#[],by rw[q];simp⟩⟩
theorem Un.refl:Un fs ex H H h h:=Un.kept λ_ _ q=>q
theorem Un.laid(k:∀b u,h.get? b=some u->h'.get? b=some u)(hp:h.objs.size<=a)(hn:H a=none):Un fs ex H (upd H a o) h h' where
 keep:=λb u q _ _ _=>k b u q
 slot:=λb u q _ _ _=>⟨u.slots,k b u q⟩
 free:=λb u q n _=>by rw[zax (qz (qg (qN q) hp))];exact n
 there:=λb u q _=>⟨u,k b u q⟩
 tups:=λb xs q=>by rw[zax (zbn q hn)];exact q
 frzs:=λb u xs q=>by rw[zax (zbn q hn)];exact q
 tbls:=λb ps q=>⟨#[],by rw[zax (zbn q hn),q];simp⟩
theorem Un.write(mu:Mut (H x))(he:e=x\/H e=some (.own x))(k:∀b u,b≠e->h.get? b=some u->h'.get? b=some u)(heo:∃u,h'.get? e=some u):Un fs ex H (upd H x o) h h':=by
 have hx:∀b,H b=none->b≠x:=λb n z=>by subst z;rw[n]at mu;exact mu
 have hb:∀b,H b=none->b≠e:=λb n z=>by
  subst z
  rcases he with r|r
  ·exact hx b n r
  ·rw[n]at r;cases r
 have hm:∀b u,H b=some u->¬Mut (some u)->b≠x:=λb u q nm z=>by subst z;rw[q]at mu;exact nm mu
 refine⟨λb u q n _ _=>k b u (hb b n) q,λb u q n _ _=>⟨u.slots,k b u (hb b n) q⟩,λb u q n _=>by rw[zax (hx b n)];exact n,λb u q _=>?_,
  λb xs q=>by rw[zax (hm b _ q λz=>z)];exact q,λb u xs q=>by rw[zax (hm b _ q λz=>z)];exact q,λb ps q=>⟨#[],by rw[zax (hm b _ q λz=>z),q];simp⟩⟩
 by_cases hbe:b=e
 ·subst hbe;exact heo
 ·exact⟨u,k b u hbe q⟩
end
noncomputable def trk(h:Heap)(H:Hp):List Addr:=(List.range h.objs.size).filter λa=>(H a).isSome
noncomputable def hidT(h:Heap)(H:Hp):Heap:=PySem.W.hideAll h (trk h H)
theorem zabh(h:Heap)(H:Hp):(hidT h H).objs.size=h.objs.size:=PySem.W.hideAll_size _ _
theorem zafr{h:Heap}{H:Hp}{b:Addr}{o:Obj}(e:h.get? b=some o)(n:H b=none):(hidT h H).get? b=some o:=
 PySem.W.hideAll_get _ e λhm=>by
  have q:(H b).isSome=true:=(qBF.mp hm).2
  rw[n]at q;simp at q
theorem zajx{h:Heap}{H:Hp}{b:Addr}{o:Obj}(e:(hidT h H).get? b=some o):h.get? b=some o/\H b=none:=by
 have e':h.get? b=some o:=PySem.W.of_hideAll (trk h H) e
 refine⟨e',?_⟩
 cases q:H b with
 | none=>rfl
 | some x=>
  have hm:b∈trk h H:=qBF.mpr ⟨qAk.mpr (qN e'),by simp[q]⟩
  have z:(hidT h H).get? b=none:=PySem.W.hideAll_none (trk h H) hm
  rw[z]at e;cases e
set_option genInjectivity false in
structure Mod(K:qC)(mg:Str->Option Value)(base:Heap):Prop where
 kin:K.In base
 glob:base.Ns qX mg
 blt:∃mb,base.Ns builtinsNs mb/\∀x:Str,x≠"__name__"->mb x=bootBuiltins x
 nolimit:base.NoLimit
set_option genInjectivity false in
structure Cx where
 prog:Program
 w:World
 K:qC
 mg:Str->Option Value
 base:Heap
 A:Around
 N:List Str
 s₀:Shared
 H₀:Hp
 env:Env
 outer:List Env
 stack:List Env
 ex:List Addr
 fn:Str->Bool
 calm:Bool
 pn:List (Addr×Obj)
 xe:Value->Shared->Prop
noncomputable def frs(l:List Env):List Addr:=l.filterMap (·.frame)
noncomputable abbrev Cx.fs(X:Cx):List Addr:=frs X.outer
noncomputable def Vis(sc:Scope)(x:Str):Prop:=sc.names.lookup x=some .local\/sc.names.lookup x=some .cell\/sc.names.lookup x=some .free
noncomputable def visB(sc:Scope)(x:Str):Bool:=match sc.names.lookup x with
 | some .local=>true
 | some .cell=>true
 | some .free=>true
 | _=>false
theorem visB.of{sc:Scope}{x:Str}(h:visB sc x=true):Vis sc x:=by
 unfold visB at h
 cases e:sc.names.lookup x with
 | none=>rw[e]at h;cases h
 | some k=>rw[e]at h;cases k<;>first|exact .inl e|exact .inr (.inl e)|exact .inr (.inr e)|cases h
noncomputable def Loc(sc:Scope)(x:Str):Prop:=sc.names.lookup x=some .local\/sc.names.lookup x=some .cell
noncomputable def Look(env:Env)(h:Heap)(m:Str->Option Value)(x:Str)(u:Value):Prop:=
 (env.kindOf x=some .local/\m x=some u)\/((env.kindOf x=some .cell\/env.kindOf x=some .free)/\∃c,env.cells.lookup x=some c/\h.IsCell c (some u))
set_option genInjectivity false in
structure Cx.Ok(X:Cx):Prop where
 mod:Mod X.K X.mg X.base
 kind:X.env.scope.kind=.function
 glob:X.env.globals=qX
 blt:X.env.builtins=builtinsNs
 above:X.s₀.heap.objs.size<=X.env.locals
 inj:∀x y c,X.env.cells.lookup x=some c->X.env.cells.lookup y=some c->x=y
 has:∀x,(X.env.kindOf x=some .cell\/X.env.kindOf x=some .free)->∃c,X.env.cells.lookup x=some c
 cab:∀x c,X.fn x=true->X.env.cells.lookup x=some c->X.s₀.heap.objs.size<=c
 hd:X.calm=true->X.A.handled=none
 frames:X.A.frames=some X.stack
 stk:X.stack=X.outer\/(X.stack=X.env::X.outer/\X.env.frame=some X.env.locals)
 exf:∀b∈X.ex,b≠X.env.locals/\∀x c,X.env.cells.lookup x=some c->c≠b
 bs:∀b o,X.base.get? b=some o->X.s₀.heap.get? b=some o/\X.H₀ b=none
 bsz:X.base.objs.size<=X.s₀.heap.objs.size
 noex:∀b o,X.base.get? b=some o->b∉X.ex
 exfs:∀b∈X.ex,b∉X.fs
 funs:X.s₀.heap.FunFrames X.base X.outer
 frf:∀b∈X.fs,X.H₀ b=none
set_option genInjectivity false in
structure Inv(X:Cx)(pins:List (Addr×Obj))(σ:List (Option V))(H:Hp)(s:Shared):Prop where
 ok:X.Ok
 os:s.os=X.s₀.os
 bare:AllBare s.gens
 base:Un X.fs X.ex X.H₀ H X.s₀.heap s.heap
 loc:∃m,s.heap.Ns X.env.locals m/\∀(i:Nat)(x:Str)(v:V),X.N[i]?=some x->σ[i]?=some (some v)->Vis X.env.scope x->∃u,RelV v u/\Look X.env s.heap m x u
 cell:∀x c,X.env.cells.lookup x=some c->∃v,s.heap.IsCell c v
 free:H X.env.locals=none
 freeC:∀x c,X.env.cells.lookup x=some c->H c=none
 pin:∀p∈X.pn++pins,s.heap.get? p.1=some p.2/\H p.1=none/\p.1≠X.env.locals/\p.1∉X.fs/\∀v,p.2.data≠.cell v
 hok:HOk X.prog X.w H s.heap
 len:σ.length=X.N.length
section
variable{X:Cx}{pins:List (Addr×Obj)}{σ:List (Option V)}{H H':Hp}{s:Shared}{h':Heap}
theorem Cx.Ok.nofr(ok:X.Ok){b:Addr}{o:Obj}(e:X.base.get? b=some o):b∉X.fs:=λhb=>by
 have:=(ok.funs.mem hb).1
 rw[e]at this;cases this
theorem Inv.bs(I:Inv X pins σ H s):∀b o,X.base.get? b=some o->s.heap.get? b=some o/\H b=none:=λb o e=>
 ⟨I.base.keep b o (I.ok.bs b o e).1 (I.ok.bs b o e).2 (I.ok.nofr e) (I.ok.noex b o e),I.base.free b o (I.ok.bs b o e).1 (I.ok.bs b o e).2 (I.ok.noex b o e)⟩
theorem Inv.bk(I:Inv X pins σ H s):∀b o,X.base.get? b=some o->s.heap.get? b=some o:=λb o e=>(I.bs b o e).1
theorem Inv.mod(I:Inv X pins σ H s):Mod X.K X.mg X.base:=I.ok.mod
theorem Inv.kIn(I:Inv X pins σ H s):X.K.In s.heap:=I.ok.mod.kin.keeps I.bk
theorem Inv.fr(I:Inv X pins σ H s):∃m,Fr X.base X.env.locals s.heap m:=
 let⟨m,hn,_⟩:=I.loc
 ⟨m,hn,I.bk,qAC I.ok.bsz I.ok.above⟩
theorem Inv.lt(I:Inv X pins σ H s):X.env.locals<s.heap.objs.size:=let⟨_,hn,_⟩:=I.loc;hn.lt
theorem Inv.sz(I:Inv X pins σ H s):X.s₀.heap.objs.size<=s.heap.objs.size:=qAC I.ok.above (qBs I.lt)
theorem Inv.nofs(I:Inv X pins σ H s){a:Addr}(h:s.heap.objs.size<=a):a∉X.fs:=λhb=>by
 obtain⟨_,o,ho,_⟩:=I.ok.funs.mem hb
 exact absurd (qg (qN ho) (qAC I.sz h)) (qAy _)
theorem Inv.cne(I:Inv X pins σ H s):∀x c,X.env.cells.lookup x=some c->c≠X.env.locals:=λx c e z=>by
 obtain⟨v,o,ho,hd⟩:=I.cell x c e
 obtain⟨m,⟨o',es,ep,ho',hd',_⟩,_⟩:=I.loc
 rw[z,ho']at ho;cases ho;rw[hd']at hd;cases hd
theorem Inv.funs(I:Inv X pins σ H s):s.heap.FunFrames X.base X.outer:=by
 have all:∀(l:List Env),(∀b∈frs l,b∈X.fs)->X.s₀.heap.FunFrames X.base l->s.heap.FunFrames X.base l:=by
  intro l
  induction l with
  | nil=>intro _ _;trivial
  | cons env r ih=>
   intro hs hl
   obtain⟨hk,⟨L,o,hf,hn,ho,hd⟩,hr⟩:=hl
   have hL:L∈X.fs:=hs L (by unfold frs;rw[qB0,hf];exact qc)
   obtain⟨sl,e⟩:=I.base.slot L o ho (I.ok.frf L hL) hL λz=>I.ok.exfs L z hL
   exact⟨hk,⟨L,_,hf,hn,e,hd⟩,ih (λb hb=>hs b (by unfold frs;rw[qB0,hf];exact qR _ hb)) hr⟩
 exact all X.outer (λ_ hb=>hb) I.ok.funs
theorem Inv.stack(I:Inv X pins σ H s):s.heap.FunFrames X.base X.stack:=by
 rcases I.ok.stk with e|⟨e,hf⟩
 ·rw[e];exact I.funs
 ·rw[e]
  obtain⟨m,hn,_⟩:=I.loc
  refine .cons (by rw[I.ok.kind];decide) hf hn ?_ I.funs
  exact qBu (qAC I.ok.bsz I.ok.above)
theorem Inv.stkSub(I:Inv X pins σ H s):∀b∈frs X.stack,b∈X.env.locals::X.fs:=λb hb=>by
 rcases I.ok.stk with e|⟨e,hf⟩
 ·rw[e]at hb;exact qR _ hb
 ·rw[e]at hb
  unfold frs at hb
  rw[qB0,hf]at hb
  exact hb
theorem Inv.stkFree(I:Inv X pins σ H s):∀b∈frs X.stack,H b=none:=λb hb=>by
 rcases qi.mp (I.stkSub b hb)with e|hb
 ·rw[e];exact I.free
 ·obtain⟨_,o,ho,_⟩:=I.ok.funs.mem hb
  exact I.base.free b o ho (I.ok.frf b hb) λz=>I.ok.exfs b z hb
theorem Inv.step{g':Array GenState}{t':Nat}{d':Drawn}{ch:List Addr}(I:Inv X pins σ H s)
  (hch:∀b∈ch,(b∈X.ex\/X.s₀.heap.objs.size<=b)/\b≠X.env.locals/\(∀x c,X.env.cells.lookup x=some c->c≠b)/\∀p∈X.pn++pins,p.1≠b)
  (keep:∀b o,b≠X.env.locals->b∉X.fs->b∉ch->s.heap.get? b=some o->H b=none->h'.get? b=some o)
  (slot:∀b o,b≠X.env.locals->b∈X.fs->b∉ch->s.heap.get? b=some o->H b=none->∃sl,h'.get? b=some {o with slots:=sl}) (free:∀b o,b∉ch->s.heap.get? b=some o->H b=none->H' b=none)
  (there:∀b o,b∉ch->s.heap.get? b=some o->∃o',h'.get? b=some o')
  (tups:∀b xs,H b=some (.tup xs)->H' b=some (.tup xs))(frzs:∀b o u,H b=some (.frz o u)->H' b=some (.frz o u))(tbls:∀b ps,H b=some (.tbl ps)->∃more,H' b=some (.tbl (ps++more)))
  (ns:∀m,s.heap.Ns X.env.locals m->h'.Ns X.env.locals m)(hok:HOk X.prog X.w H' h')(hg:AllBare g') :
  Inv X pins σ H' {s with heap:=h',gens:=g',drawn:=d',toks:=t'}:=by
 have neL:∀b o,X.s₀.heap.get? b=some o->b≠X.env.locals:=λb o e=>qz (qg (qN e) I.ok.above)
 have neC:∀b o,X.s₀.heap.get? b=some o->b∉X.ex->b∉ch:=λb o e hx hb=>by
  rcases(hch b hb).1 with z|z
  ·exact hx z
  ·exact absurd (qg (qN e) z) (qAy _)
 have cellK:∀x c,X.env.cells.lookup x=some c->∀v,s.heap.IsCell c v->h'.IsCell c v:=λx c e v ⟨o,ho,hd⟩=>by
  have nch:c∉ch:=λz=>(hch c z).2.2.1 x c e rfl
  by_cases hc:c∈X.fs
  ·obtain⟨sl,q⟩:=slot c o (I.cne x c e) hc nch ho (I.freeC x c e)
   exact⟨_,q,hd⟩
  ·exact⟨o,keep c o (I.cne x c e) hc nch ho (I.freeC x c e),hd⟩
 refine⟨I.ok,I.os,hg,⟨λb o e n hb hx=>?_,λb o e n hb hx=>?_,λb o e n hx=>?_,λb o e hx=>?_,λb xs e=>tups b xs (I.base.tups b xs e),λb o xs e=>frzs b o xs (I.base.frzs b o xs e),λb ps e=>?_⟩,?_,λx c e=>?_,?_,λx c e=>?_,λp hp=>?_,hok,I.len⟩
 ·exact keep b o (neL b o e) hb (neC b o e hx) (I.base.keep b o e n hb hx) (I.base.free b o e n hx)
 ·obtain⟨sl,e1⟩:=I.base.slot b o e n hb hx
  obtain⟨sl',e2⟩:=slot b _ (neL b o e) hb (neC b o e hx) e1 (I.base.free b o e n hx)
  exact⟨sl',e2⟩
 ·obtain⟨o',e1⟩:=I.base.there b o e hx
  exact free b o' (neC b o e hx) e1 (I.base.free b o e n hx)
 ·obtain⟨o',e1⟩:=I.base.there b o e hx
  exact there b o' (neC b o e hx) e1
 ·obtain⟨m1,e1⟩:=I.base.tbls b ps e
  obtain⟨m2,e2⟩:=tbls b _ e1
  exact⟨m1++m2,by rw[e2,Array.append_assoc]⟩
 ·obtain⟨m,hn,hl⟩:=I.loc
  refine⟨m,ns m hn,λi x v e1 e2 e3=>?_⟩
  obtain⟨u,r,l⟩:=hl i x v e1 e2 e3
  refine⟨u,r,?_⟩
  rcases l with l|⟨k,c,e,z⟩
  ·exact .inl l
  ·exact .inr ⟨k,c,e,cellK x c e _ z⟩
 ·obtain⟨v,z⟩:=I.cell x c e
  exact⟨v,cellK x c e v z⟩
 ·obtain⟨m,⟨o,_,_,ho,_⟩,_⟩:=I.loc
  exact free _ o (λz=>(hch _ z).2.1 rfl) ho I.free
 ·obtain⟨v,o,ho,hd⟩:=I.cell x c e
  exact free c o (λz=>(hch c z).2.2.1 x c e rfl) ho (I.freeC x c e)
 ·obtain⟨e,n,ne,nf,d⟩:=I.pin p hp
  have nch:p.1∉ch:=λz=>(hch p.1 z).2.2.2 p hp rfl
  exact⟨keep p.1 p.2 ne nf nch e n,free p.1 p.2 nch e n,ne,nf,d⟩
theorem Inv.un{t':Nat}(I:Inv X pins σ H s)(u:Un X.fs [] H H' s.heap h')(hok:HOk X.prog X.w H' h'):Inv X pins σ H' {s with heap:=h',toks:=t'}:=by
 obtain⟨m,⟨o,es,ep,ho,r⟩,_⟩:=id I.loc
 obtain⟨sl,hL⟩:=u.any ho I.free (by simp)
 exact I.step (g':=s.gens) (d':=s.drawn) (ch:=[]) (λ_ z=>nomatch z) (λb o _ hb _ e n=>u.keep b o e n hb (by simp)) (λb o _ hb _ e n=>u.slot b o e n hb (by simp)) (λb o _ e n=>u.free b o e n (by simp)) (λb o _ e=>u.there b o e (by simp)) u.tups u.frzs u.tbls (λm' hm=>by
  obtain⟨o',es',ep',ho',r'⟩:=hm
  rw[ho]at ho';cases ho'
  exact⟨_,es',ep',hL,r'⟩) hok I.bare
theorem Inv.call{g':Array GenState}{t':Nat}{d':Drawn}{ch:List Addr}(I:Inv X pins σ H s)(u:Un (frs X.stack) ch H H' s.heap h')(hok:HOk X.prog X.w H' h')(hg:AllBare g')
  (hch:∀b∈ch,(b∈X.ex\/X.s₀.heap.objs.size<=b)/\b≠X.env.locals/\(∀x c,X.env.cells.lookup x=some c->c≠b)/\∀p∈X.pn++pins,p.1≠b) :
  Inv X pins σ H' {s with heap:=h',gens:=g',drawn:=d',toks:=t'}:=by
 obtain⟨m,⟨o,es,ep,ho,r⟩,_⟩:=id I.loc
 obtain⟨sl,hL⟩:=u.any ho I.free λz=>(hch _ z).2.1 rfl
 exact I.step (ch:=ch) hch (λb o hL hb hc e n=>u.keep b o e n (λz=>(qi.mp (I.stkSub b z)).elim hL hb) hc) (λb o _ _ hc e n=>u.any e n hc) (λb o hc e n=>u.free b o e n hc) (λb o hc e=>u.there b o e hc) u.tups u.frzs u.tbls (λm' hm=>by
  obtain⟨o',es',ep',ho',r'⟩:=hm
  rw[ho]at ho';cases ho'
  exact⟨_,es',ep',hL,r'⟩) hok hg
theorem Inv.turned{t':Nat}{it:Addr}(I:Inv X pins σ H s)(k:∀b o,b≠it->s.heap.get? b=some o->h'.get? b=some o)(hn:H it=none)(hL:it≠X.env.locals)
  (h1:it∈X.ex\/X.s₀.heap.objs.size<=it) (h2:∀x c,X.env.cells.lookup x=some c->c≠it) (h3:∀p∈X.pn++pins,p.1≠it):Inv X pins σ H {s with heap:=h',toks:=t'}:=by
 have nit:∀b u,H b=some u->b≠it:=λb u e z=>by rw[z,hn]at e;cases e
 refine I.step (g':=s.gens) (d':=s.drawn) (ch:=[it]) (λb hb=>?_) (λb o _ _ hc e _=>k b o (λz=>hc (by simp[z])) e) (λb o _ _ hc e _=>⟨o.slots,k b o (λz=>hc (by simp[z])) e⟩) (λ_ _ _ _ n=>n)
  (λb o hc e=>⟨o,k b o (λz=>hc (by simp[z])) e⟩) (λ_ _ e=>e) (λ_ _ _ e=>e) (λb ps e=>⟨#[],by rw[e];simp⟩) (λm hm=>?_) (λb u e=>?_) I.bare
 ·have e:b=it:=by simpa using hb
  subst e
  exact⟨h1,hL,h2,h3⟩
 ·obtain⟨o,es,ep,ho,r⟩:=hm
  exact⟨o,es,ep,k _ o (qAg hL) ho,r⟩
 ·refine(I.hok b u e).stay (λc v hc q=>k c v ?_ q) (λ_ q=>q) λ_ _ q=>q
  rcases hc with z|z
  ·rw[z];exact nit b u e
  ·exact nit c _ z
theorem Inv.tok(I:Inv X pins σ H s)(t:Nat):Inv X pins σ H {s with toks:=t}:=I.un (h':=s.heap) (t':=t) Un.refl I.hok
theorem Inv.kept{t':Nat}(I:Inv X pins σ H s)(k:∀b u,s.heap.get? b=some u->h'.get? b=some u):Inv X pins σ H {s with heap:=h',toks:=t'}:=I.un (Un.kept k) (I.hok.kept k)
theorem Inv.laid{a:Addr}{o:HO}{t':Nat}(I:Inv X pins σ H s)(k:∀b u,s.heap.get? b=some u->h'.get? b=some u)(hp:s.heap.objs.size<=a)(new:zfv X.prog X.w (upd H a o) h' a o) :
  Inv X pins σ (upd H a o) {s with heap:=h',toks:=t'}:=I.un (Un.laid k hp (I.hok.fresh hp)) (I.hok.laid k hp new)
theorem Inv.write{x e:Addr}{o:HO}{t':Nat}(I:Inv X pins σ H s)(mu:Mut (H x))(he:e=x\/H e=some (.own x))(k:∀b u,b≠e->s.heap.get? b=some u->h'.get? b=some u)(heo:∃u,h'.get? e=some u)
  (new:zfv X.prog X.w (upd H x o) h' x o):Inv X pins σ (upd H x o) {s with heap:=h',toks:=t'}:=I.un (Un.write mu he k heo) (I.hok.write mu he k heo new)
theorem Inv.pins_of{pins':List (Addr×Obj)}(I:Inv X pins σ H s)(h:∀p∈pins',s.heap.get? p.1=some p.2/\H p.1=none/\p.1≠X.env.locals/\p.1∉X.fs/\∀v,p.2.data≠.cell v):Inv X pins' σ H s:=
 ⟨I.ok,I.os,I.bare,I.base,I.loc,I.cell,I.free,I.freeC,λp hp=>(qd.mp hp).elim (λz=>I.pin p (qAb _ z)) (h p),I.hok,I.len⟩
theorem zsp{N:List Str}(hN:N.Nodup){i j:Nat}{x:Str}(a:N[i]?=some x)(b:N[j]?=some x):i=j:=by
 obtain⟨h1,e1⟩:=qW.mp a
 obtain⟨h2,e2⟩:=qW.mp b
 exact(List.getElem_inj hN).mp (e1.trans e2.symm)
theorem zuf{M:Model}{A:Around}{E:Value->Shared->Prop}{i:Nat}{x:Str}{v:V}{u:Value}{Q:Unit->Shared->Prop}(I:Inv X pins σ H s)(hN:X.N.Nodup)(hi:X.N[i]?=some x)(hx:Loc X.env.scope x)(r:RelV v u)
  (h:∀s',Inv X pins (σ.set i (some v)) H s'->(∃a,Heap.SameBut a s.heap s'.heap/\(a=X.env.locals\/X.env.cells.lookup x=some a))->Q () s') (hf:X.fn x=true\/X.env.scope.names.lookup x=some .local:=by assumption):wpAny M A (storeName X.env x u) Q E s:=by
 obtain⟨m,hn,hl⟩:=id I.loc
 have hcls:(X.env.scope.kind==.class||(X.env.scope.kind==.module&&X.env.locals != X.env.globals))=false:=by rw[I.ok.kind];rfl
 have hiσ:i<σ.length:=by rw[I.len];exact(qW.mp hi).1
 have cne:=I.cne
 have tracked:∀{a:Addr}{h':Heap},(∃o,s.heap.get? a=some o/\H a=none)->Heap.SameBut a s.heap h'->HOk X.prog X.w H h':=λ{a h'} ha hs b ob e=>by
  obtain⟨_,_,hfree⟩:=ha
  refine(I.hok b ob e).stay (λc w' hc q=>(hs.2 c ?_).trans q) (λ_ q=>q) λ_ _ q=>q
  rintro rfl
  rcases hc with rfl|hc
  ·rw[hfree]at e;cases e
  ·rw[hfree]at hc;cases hc
 rcases hx with hk|hk
 ·refine wpAny_storeName_local hk hn (λh' hn' hs=>?_) hcls
  obtain⟨oL,_,_,hoL,_⟩:=id hn
  refine h _ ⟨I.ok,I.os,I.bare,⟨λb o e n hb hx=>?_,λb o e n hb hx=>?_,I.base.free,λb o e hx=>?_,I.base.tups,I.base.frzs,I.base.tbls⟩,⟨_,hn',λj y v' e1 e2 e3=>?_⟩,λy c e=>?_,I.free,I.freeC,λp hp=>?_,tracked ⟨oL,hoL,I.free⟩ hs,by simpa using I.len⟩ ⟨_,hs,.inl rfl⟩
  ·exact(hs.2 b (qz (qg (qN e) I.ok.above))).trans (I.base.keep b o e n hb hx)
  ·obtain⟨sl,e1⟩:=I.base.slot b o e n hb hx
   exact⟨sl,(hs.2 b (qz (qg (qN e) I.ok.above))).trans e1⟩
  ·obtain⟨o',e1⟩:=I.base.there b o e hx
   exact⟨o',(hs.2 b (qz (qg (qN e) I.ok.above))).trans e1⟩
  ·by_cases hj:j=i
   ·subst hj
    rw[hi]at e1;cases e1
    rw[qAB hiσ]at e2
    cases e2
    exact⟨u,r,.inl ⟨hk,by simp⟩⟩
   ·rw[qP (qAg hj)]at e2
    obtain⟨u',r',q⟩:=hl j y v' e1 e2 e3
    refine⟨u',r',?_⟩
    rcases q with⟨k,e⟩|⟨k,c,e,z⟩
    ·refine .inl ⟨k,?_⟩
     have:y≠x:=λe=>hj (zsp hN e1 (e▸hi))
     simp[this,e]
    ·exact .inr ⟨k,c,e,z.sameBut hs (cne y c e)⟩
  ·obtain⟨w',z⟩:=I.cell y c e
   exact⟨w',z.sameBut hs (cne y c e)⟩
  ·obtain⟨e,n,ne,nf,d⟩:=I.pin p hp
   exact⟨(hs.2 p.1 ne).trans e,n,ne,nf,d⟩
 ·have hfn:X.fn x=true:=by
   rcases hf with z|z
   ·exact z
   ·rw[z]at hk;cases hk
  obtain⟨c,hc⟩:=I.ok.has x (.inl hk)
  obtain⟨w',z⟩:=I.cell x c hc
  refine wpAny_storeName_cell I.ok.kind hk hc z (λh' hc' hs=>?_)
  obtain⟨oc,hoc,hocd⟩:=id z
  refine h {s with heap:=h'} ⟨I.ok,I.os,I.bare,⟨λb o e n hb hx=>?_,λb o e n hb hx=>?_,I.base.free,λb o e hx=>?_,I.base.tups,I.base.frzs,I.base.tbls⟩,⟨m,hn.sameBut hs (qAg (cne x c hc)),λj y v' e1 e2 e3=>?_⟩,λy c' e=>?_,I.free,I.freeC,λp hp=>?_,tracked ⟨oc,hoc,I.freeC x c hc⟩ hs,by simpa using I.len⟩ ⟨c,hs,.inr hc⟩
  ·exact(hs.2 b (qz (qg (qN e) (I.ok.cab x c hfn hc)))).trans (I.base.keep b o e n hb hx)
  ·obtain⟨sl,e1⟩:=I.base.slot b o e n hb hx
   exact⟨sl,(hs.2 b (qz (qg (qN e) (I.ok.cab x c hfn hc)))).trans e1⟩
  ·obtain⟨o',e1⟩:=I.base.there b o e hx
   exact⟨o',(hs.2 b (qz (qg (qN e) (I.ok.cab x c hfn hc)))).trans e1⟩
  ·by_cases hj:j=i
   ·subst hj
    rw[hi]at e1;cases e1
    rw[qAB hiσ]at e2
    cases e2
    exact⟨u,r,.inr ⟨.inl hk,c,hc,hc'⟩⟩
   ·rw[qP (qAg hj)]at e2
    obtain⟨u',r',q⟩:=hl j y v' e1 e2 e3
    refine⟨u',r',?_⟩
    rcases q with q|⟨k,c',e,z'⟩
    ·exact .inl q
    ·refine .inr ⟨k,c',e,z'.sameBut hs ?_⟩
     rintro rfl
     exact hj (zsp hN e1 (I.ok.inj _ _ _ e hc▸hi))
  ·by_cases hcc:c'=c
   ·subst hcc;exact⟨_,hc'⟩
   ·obtain⟨w2,z2⟩:=I.cell y c' e
    exact⟨w2,z2.sameBut hs hcc⟩
  ·obtain⟨e,n,ne,nf,d⟩:=I.pin p hp
   refine⟨(hs.2 p.1 ?_).trans e,n,ne,nf,d⟩
   intro q
   rw[q,hoc]at e
   have q':oc=p.2:=qo e
   exact d w' (by rw[<- q'];exact hocd)
theorem zsq{M:Model}{A:Around}{E:Value->Shared->Prop}{i:Nat}{x:Str}{v:V}{u:Value}{Q:Unit->Shared->Prop}(I:Inv X pins σ H s)(hN:X.N.Nodup)(hi:X.N[i]?=some x)(hx:Loc X.env.scope x)(r:RelV v u)
  (h:∀s',Inv X pins (σ.set i (some v)) H s'->Q () s') (hf:X.fn x=true\/X.env.scope.names.lookup x=some .local:=by assumption):wpAny M A (storeName X.env x u) Q E s:=
 zuf I hN hi hx r (λs' I' _=>h s' I') hf
theorem Inv.call'{s':Shared}{ch:List Addr}(I:Inv X pins σ H s)(ho:s'.os=s.os)(u:Un (frs X.stack) ch H H' s.heap s'.heap)(hok:HOk X.prog X.w H' s'.heap)(hg:AllBare s'.gens)
  (hch:∀b∈ch,(b∈X.ex\/X.s₀.heap.objs.size<=b)/\b≠X.env.locals/\(∀x c,X.env.cells.lookup x=some c->c≠b)/\∀p∈X.pn++pins,p.1≠b):Inv X pins σ H' s':=by
 obtain⟨h',g',d',t',o'⟩:=s'
 have e:o'=s.os:=ho
 subst e
 exact I.call (g':=g') (t':=t') (d':=d') u hok hg hch
end
noncomputable abbrev XK:=Value->Option Addr->Hp->Prop
noncomputable abbrev St:=List (Option V)
noncomputable abbrev VK:=V->Hp->Prop
noncomputable abbrev TE:=St->Hp->VK->Prop
noncomputable abbrev TT:=St->Hp->(Bool->Hp->Prop)->Prop
noncomputable abbrev TA:=St->Hp->(List V->Hp->Prop)->Prop
set_option genInjectivity false in
structure Ends where
 nx:St->Hp->Prop
 rt:VK
 bk:St->Hp->Prop:=λ_ _=>False
 ct:St->Hp->Prop:=λ_ _=>False
noncomputable abbrev TS:=Ends->St->Hp->Prop
noncomputable def EP(X:Cx)(pins:List (Addr×Obj))(σ:St)(Q:VK)(u:Value)(s':Shared):Prop:=∃v H',Inv X pins σ H' s'/\RelV v u/\Q v H'
noncomputable def TP(X:Cx)(pins:List (Addr×Obj))(σ:St)(Q:Bool->Hp->Prop)(b:Bool)(s':Shared):Prop:=∃H',Inv X pins σ H' s'/\Q b H'
noncomputable def AP(X:Cx)(pins:List (Addr×Obj))(σ:St)(Q:List V->Hp->Prop)(us:List Value)(s':Shared):Prop:=∃vs H',Inv X pins σ H' s'/\Vals vs us/\Q vs H'
noncomputable def SP(X:Cx)(pins:List (Addr×Obj))(D:Ends)(f:Flow)(s':Shared):Prop:=
 match f with
 | .next=>∃σ' H',Inv X pins σ' H' s'/\D.nx σ' H'
 | .brk=>∃σ' H',Inv X pins σ' H' s'/\D.bk σ' H'
 | .cont=>∃σ' H',Inv X pins σ' H' s'/\D.ct σ' H'
 | .ret u=>∃v σ' H',Inv X pins σ' H' s'/\RelV v u/\D.rt v H'
noncomputable def PE(X:Cx)(e:Expr)(t:TE):Prop:=
 ∀(pins:List (Addr×Obj))(s:Shared)(σ:St)(H:Hp)(Q:VK),Inv X pins σ H s->t σ H Q->wpAny (model X.prog X.w) X.A (eval e X.env) (EP X pins σ Q) X.xe s
noncomputable def PT(X:Cx)(e:Expr)(t:TT):Prop:=
 ∀(pins:List (Addr×Obj))(s:Shared)(σ:St)(H:Hp)(Q:Bool->Hp->Prop),Inv X pins σ H s->t σ H Q->wpAny (model X.prog X.w) X.A (isTrue e X.env (eval e X.env)) (TP X pins σ Q) X.xe s
noncomputable def PW(X:Cx)(e:Expr)(t:TT):Prop:=
 ∀(whole:Sem Value)(pins:List (Addr×Obj))(s:Shared)(σ:St)(H:Hp)(Q:Bool->Hp->Prop),Inv X pins σ H s->t σ H Q->wpAny (model X.prog X.w) X.A (isTrue e X.env whole) (TP X pins σ Q) X.xe s
theorem PW.pt{X:Cx}{e:Expr}{t:TT}(h:PW X e t):PT X e t:=h _
noncomputable def PA(X:Cx)(es:List Expr)(t:TA):Prop:=
 ∀(pos:Pos)(pins:List (Addr×Obj))(s:Shared)(σ:St)(H:Hp)(Q:List V->Hp->Prop),Inv X pins σ H s->t σ H Q->wpAny (model X.prog X.w) X.A (spliced (backTo pos (starEach es X.env))) (AP X pins σ Q) X.xe s
noncomputable def PS(X:Cx)(st:Stmt)(t:TS):Prop:=
 ∀(pins:List (Addr×Obj))(s:Shared)(σ:St)(H:Hp)(D:Ends),Inv X pins σ H s->t D σ H->wpAny (model X.prog X.w) X.A (exec st X.env) (SP X pins D) X.xe s
noncomputable def PSs(X:Cx)(st:List Stmt)(t:TS):Prop:=
 ∀(pins:List (Addr×Obj))(s:Shared)(σ:St)(H:Hp)(D:Ends),Inv X pins σ H s->t D σ H->wpAny (model X.prog X.w) X.A (execs st X.env) (SP X pins D) X.xe s
theorem thn{α:Type}{t:Sem α}{Q Q':α->Shared->Prop}{M:Model}{A:Around}{E:Value->Shared->Prop}{s:Shared}(h:wpAny M A t Q E s)(hQ:∀a s,Q a s->Q' a s):wpAny M A t Q' E s:=qBZ h hQ λ_ _ x=>x
section
variable{X:Cx}
theorem bin{a b:Expr}{ta tb:TE}(ha:PE X a ta)(hb:PE X b tb){pins:List (Addr×Obj)}{s:Shared}{σ:St}{H:Hp}{R:V->V->Hp->Prop}(I:Inv X pins σ H s)(h:ta σ H λx H1=>tb σ H1 λy H2=>R x y H2)
  {α:Type}{Q:α->Shared->Prop}{f:Value->Value->Sem α}
  (hf:∀v u s2 x y H2,Inv X pins σ H2 s2->RelV x v->RelV y u->R x y H2->wpAny (model X.prog X.w) X.A (f v u) Q X.xe s2) :
  wpAny (model X.prog X.w) X.A (eval a X.env) (λv s₁=>wpAny (model X.prog X.w) X.A (eval b X.env) (λu s₂=>wpAny (model X.prog X.w) X.A (f v u) Q X.xe s₂) X.xe s₁) X.xe s:=by
 refine thn (ha pins s σ H _ I h) λv s1 ⟨x,H1,I1,r1,q1⟩=>?_
 refine thn (hb pins s1 σ H1 _ I1 q1) λu s2 ⟨y,H2,I2,r2,q2⟩=>?_
 exact hf v u s2 x y H2 I2 r1 r2 q2
noncomputable def tVar(i:Nat):TE:=λσ H Q=>∃v,σ[i]?=some (some v)/\Q v H
noncomputable def tC(v:V):TE:=λ_ H Q=>Q v H
theorem zajb{i:Nat}{x:Str}{pos:Pos}(hN:X.N[i]?=some x)(hv:Vis X.env.scope x)(hd:(x==("__debug__":Str))=false:=by decide)(hcd:(x==("__classdict__":Str))=false:=by decide):PE X (.Name x pos) (tVar i):=by
 intro pins s σ H Q I h
 obtain⟨v,e,h⟩:=h
 obtain⟨m,hn,hl⟩:=I.loc
 obtain⟨u,r,l⟩:=hl i x v hN e hv
 have fin:EP X pins σ Q u s:=⟨v,H,I,r,h⟩
 rcases l with⟨hk,hm⟩|⟨hk,c,hc,hcell⟩
 ·exact wpAny_Name (wpAny_loadName_local I.ok.kind hk hn hm fin) hd
 ·rcases hk with hk|hk
  ·exact wpAny_Name (wpAny_loadName_cell I.ok.kind hk hc hcell fin) hd
  ·exact wpAny_Name (wpAny_loadName_free I.ok.kind hk hc hcell fin hcd) hd
theorem zanl{i j pos}:PE X (.Constant (.int i) j pos) (tC (.int i)):=λ_ _ _ H _ I h=>wpAny_Constant_int ⟨.int i,H,I.tok _,⟨_,rfl⟩,h⟩
theorem zaqz{b j pos}:PE X (.Constant (.bool b) j pos) (tC (.bl b)):=λ_ _ _ H _ I h=>Constant_bool ⟨.bl b,H,I,rfl,h⟩
theorem zanm{j pos}:PE X (.Constant .none j pos) (tC .non):=λ_ _ _ H _ I h=>Constant_none ⟨.non,H,I,rfl,h⟩
theorem zann{x j pos}:PE X (.Constant (.str x) j pos) (tC (.str x)):=λ_ _ _ H _ I h=>qCx ⟨.str x,H,I.tok _,⟨_,rfl⟩,h⟩
noncomputable def Gl(X:Cx)(x:Str):Prop:=X.env.kindOf x=some .globalImplicit
theorem zom{E:Value->Shared->Prop}{pins:List (Addr×Obj)}{s:Shared}{σ:St}{H:Hp}{x:Str}{u:Value}{pos:Pos}{Q:Value->Shared->Prop}(I:Inv X pins σ H s)(hg:Gl X x)(hm:X.mg x=some u)(h:Q u s)
  (hd:(x==("__debug__":Str))=false:=by decide):wpAny (model X.prog X.w) X.A (eval (.Name x pos) X.env) Q E s:=
 qCJ I.ok.kind hg (Calls.loadGlobal_global (by rw[I.ok.glob];exact I.mod.glob.keeps I.bk) hm h) hd
theorem zlv{E:Value->Shared->Prop}{pins:List (Addr×Obj)}{s:Shared}{σ:St}{H:Hp}{x:Str}{u:Value}{pos:Pos}{Q:Value->Shared->Prop}(I:Inv X pins σ H s)(hg:Gl X x)(hm:X.mg x=none)(hv:bootBuiltins x=some u)(h:Q u s)
  (hn:x≠"__name__":=by decide) (hd:(x==("__debug__":Str))=false:=by decide):wpAny (model X.prog X.w) X.A (eval (.Name x pos) X.env) Q E s:=by
 obtain⟨mb,h1,h2⟩:=I.mod.blt
 exact qCJ I.ok.kind hg (Calls.loadGlobal_builtin (by rw[I.ok.glob];exact I.mod.glob.keeps I.bk) hm (by rw[I.ok.blt];exact h1.keeps I.bk) ((h2 x hn).trans hv) h) hd
theorem zajy{x:Str}{v:V}{u:Value}{pos:Pos}(hg:Gl X x)(hm:X.mg x=none)(hv:bootBuiltins x=some u)(r:RelV v u)(hn:x≠"__name__":=by decide)(hd:(x==("__debug__":Str))=false:=by decide):PE X (.Name x pos) (tC v):=
 λ_ _ _ H _ I h=>zlv I hg hm hv ⟨v,H,I,r,h⟩ hn hd
variable{a b:Expr}{ta tb:TE}{pos:Pos}
noncomputable def tB(t:TE):TT:=λσ H Q=>t σ H λx H1=>∃c,x=.bl c/\Q c H1
variable{tA tB':TT}{rest:List Expr}
noncomputable def tAnd(t u:TT):TT:=λσ H Q=>t σ H λc H1=>if c=true then u σ H1 Q else Q false H1
noncomputable def tOr(t u:TT):TT:=λσ H Q=>t σ H λc H1=>if c=true then Q true H1 else u σ H1 Q
noncomputable def tNot(t:TT):TT:=λσ H Q=>t σ H λc H1=>Q (!c) H1
theorem zajz(ha:PT X a tA):PW X (.BoolOp .And [a] pos) tA:=by
 intro wh pins s σ H Q I h
 refine isTrue_and (thn (ha pins s σ H Q I h) λc s1 e=>?_)
 cases c with
 | true=>exact isTrue_and_nil e
 | false=>exact e
theorem zano(ha:PT X a tA):PW X (.BoolOp .Or [a] pos) tA:=by
 intro wh pins s σ H Q I h
 refine isTrue_or (thn (ha pins s σ H Q I h) λc s1 e=>?_)
 cases c with
 | false=>exact isTrue_or_nil e
 | true=>exact e
theorem zanp(ha:PT X a tA)(hb:PW X (.BoolOp .And (b::rest) pos) tB'):PW X (.BoolOp .And (a::b::rest) pos) (tAnd tA tB'):=by
 intro wh pins s σ H Q I h
 refine isTrue_and (thn (ha pins s σ H _ I h) λc s1 ⟨H1,I1,q1⟩=>?_)
 cases c with
 | true=>exact hb wh pins s1 σ H1 Q I1 q1
 | false=>exact⟨H1,I1,q1⟩
theorem zara(ha:PT X a tA)(hb:PW X (.BoolOp .Or (b::rest) pos) tB'):PW X (.BoolOp .Or (a::b::rest) pos) (tOr tA tB'):=by
 intro wh pins s σ H Q I h
 refine isTrue_or (thn (ha pins s σ H _ I h) λc s1 ⟨H1,I1,q1⟩=>?_)
 cases c with
 | true=>exact⟨H1,I1,q1⟩
 | false=>exact hb wh pins s1 σ H1 Q I1 q1
theorem zanq(ha:PT X a tA):PT X (.UnaryOp .Not a pos) (tNot tA):=by
 intro pins s σ H Q I h
 exact isTrue_not (ha pins s σ H (λc H1=>Q (!c) H1) I h)
noncomputable def tAndV(ta tb:TE):TE:=λσ H Q=>ta σ H λx H1=>∃c,x=.bl c/\if c=true then tb σ H1 Q else Q (.bl false) H1
noncomputable def tNotV(ta:TE):TE:=λσ H Q=>ta σ H λx H1=>∃c,x=.bl c/\Q (.bl (!c)) H1
theorem zanr{op}{t:TE}(h:PE X a t):PE X (.BoolOp op [a] pos) t:=λpins s σ H Q I hw=>BoolOp_one (h pins s σ H Q I hw)
theorem zans(ha:PE X a ta)(hb:PE X (.BoolOp .And (b::rest) pos) tb):PE X (.BoolOp .And (a::b::rest) pos) (tAndV ta tb):=by
 intro pins s σ H Q I h
 refine BoolOp_and (thn (ha pins s σ H _ I h) λv s1 ⟨x,H1,I1,r1,q1⟩=>?_)
 obtain⟨c,rfl,q1⟩:=q1
 cases r1
 refine qBR ?_
 cases c with
 | true=>exact hb pins s1 σ H1 Q I1 q1
 | false=>exact⟨.bl false,H1,I1,rfl,q1⟩
theorem zant(ha:PE X a ta):PE X (.UnaryOp .Not a pos) (tNotV ta):=by
 intro pins s σ H Q I h
 refine UnaryOp_ (thn (ha pins s σ H _ I h) λv s1 ⟨x,H1,I1,r1,q1⟩=>?_)
 obtain⟨c,rfl,q1⟩:=q1
 cases r1
 exact not_of (qBR ⟨.bl (!c),H1,I1,rfl,q1⟩)
end
noncomputable def SqL(K:qC)(H:Hp)(a:Addr)(xs:List V):Prop:=
 Rd H a (.lst xs)\/
  ∃(o:Obj)(its:Array Value)(n:Nat),K.lookup a=some o/\o.cls=.type "list"/\o.dict=none/\o.data=.seq its n/\its.size<=qb/\Vals xs its.toList
noncomputable def SqT(K:qC)(H:Hp)(a:Addr)(xs:List V):Prop:=
 Rd H a (.tup xs)\/
  ∃(o:Obj)(its:Array Value)(n:Nat),K.lookup a=some o/\o.cls=.type "tuple"/\o.data=.seq its n/\its.size<=qb/\Vals xs its.toList
noncomputable def absV:Value->Option V
 | .none=>some .non
 | .bool b=>some (.bl b)
 | .int i _=>some (.int i)
 | .str x _=>some (.str x)
 | .bytes b _=>some (.byt b)
 | .float b _=>some (.flt b)
 | .ref a=>some (.ref a)
 | .type n=>some (.ty n)
 | _=>none
theorem RelV.abs{x:V}{u:Value}(r:RelV x u):absV u=some x:=by
 cases x with
 | non=>cases r;rfl
 | bl _=>cases r;rfl
 | int _=>obtain⟨t,rfl⟩:=r;rfl
 | str _=>obtain⟨t,rfl⟩:=r;rfl
 | byt _=>obtain⟨t,rfl⟩:=r;rfl
 | flt _=>obtain⟨t,rfl⟩:=r;rfl
 | ref _=>cases r;rfl
 | ty _=>cases r;rfl
theorem RelV.inj{x y:V}{u:Value}(r:RelV x u)(q:RelV y u):x=y:=qo (r.abs.symm.trans q.abs)
theorem Vals.inj:∀{xs ys:List V}{us:List Value},Vals xs us->Vals ys us->xs=ys
 | _,_,_,.nil,.nil=>rfl
 | _,_,_,.cons r t,.cons r' t'=>by rw[r.inj r',Vals.inj t t']
section
variable{X:Cx}{pins:List (Addr×Obj)}{σ:St}{H:Hp}{s:Shared}{a:Addr}{xs ys:List V}
theorem SqL.of{K:qC}(h:H a=some (.lst xs)):SqL K H a xs:=.inl (.inl h)
theorem SqT.of{K:qC}(h:H a=some (.tup xs)):SqT K H a xs:=.inl (.inl h)
theorem Inv.list(I:Inv X pins σ H s)(h:SqL X.K H a xs):∃its:List Value,Vals xs its/\PlainL s.heap a its.toArray/\xs.length<=qb:=by
 rcases h with h|⟨o,its,n,hk,hc,hd,hs,hz,r⟩
 ·obtain⟨z,its,n,r,e⟩:=h.ok I.hok
  exact⟨its,r,⟨_,n,e,rfl,rfl,rfl⟩,z⟩
 ·refine⟨its.toList,r,⟨o,n,I.kIn a o hk,hc,hd,by simpa using hs⟩,?_⟩
  have e:=r.length
  simp only[qBU]at e
  omega
theorem Inv.tuple(I:Inv X pins σ H s)(h:SqT X.K H a xs):∃its:List Value,Vals xs its/\IsTup s.heap a its.toArray/\xs.length<=qb:=by
 rcases h with h|⟨o,its,n,hk,hc,hs,hz,r⟩
 ·obtain⟨z,its,r,p⟩:=h.ok I.hok
  exact⟨its,r,p,z⟩
 ·refine⟨its.toList,r,⟨o,I.kIn a o hk,hc,n,by simpa using hs⟩,?_⟩
  have e:=r.length
  simp only[qBU]at e
  omega
theorem Inv.list_inj(I:Inv X pins σ H s)(h:SqL X.K H a xs)(h':SqL X.K H a ys):xs=ys:=by
 obtain⟨its,r,⟨o,n,e,_,_,d⟩,_⟩:=I.list h
 obtain⟨its',r',⟨o',n',e',_,_,d'⟩,_⟩:=I.list h'
 rw[e]at e';cases e'
 rw[d]at d'
 injection d' with d1 _
 have:its=its':=by simpa using congrArg Array.toList d1
 subst this
 exact r.inj r'
theorem Inv.tuple_inj(I:Inv X pins σ H s)(h:SqT X.K H a xs)(h':SqT X.K H a ys):xs=ys:=by
 obtain⟨its,r,⟨o,e,_,n,d⟩,_⟩:=I.tuple h
 obtain⟨its',r',⟨o',e',_,n',d'⟩,_⟩:=I.tuple h'
 rw[e]at e';cases e'
 rw[d]at d'
 injection d' with d1 _
 have:its=its':=by simpa using congrArg Array.toList d1
 subst this
 exact r.inj r'
end
noncomputable abbrev Cx.wish(X:Cx)(E:Value->Shared->Prop):Cx:={X with xe:=E}
noncomputable abbrev Cx.nox(X:Cx):Cx:=X.wish λ_ _=>False
theorem Cx.Ok.wish{X:Cx}(ok:X.Ok)(E:Value->Shared->Prop):(X.wish E).Ok:=
 ⟨ok.mod,ok.kind,ok.glob,ok.blt,ok.above,ok.inj,ok.has,ok.cab,ok.hd,ok.frames,ok.stk,ok.exf,ok.bs,ok.bsz,ok.noex,ok.exfs,ok.funs,ok.frf⟩
theorem Cx.Ok.unwish{X:Cx}{E:Value->Shared->Prop}(ok:(X.wish E).Ok):X.Ok:=
 ⟨ok.mod,ok.kind,ok.glob,ok.blt,ok.above,ok.inj,ok.has,ok.cab,ok.hd,ok.frames,ok.stk,ok.exf,ok.bs,ok.bsz,ok.noex,ok.exfs,ok.funs,ok.frf⟩
section
variable{X:Cx}{pins:List (Addr×Obj)}{σ:St}{H:Hp}{s:Shared}{E:Value->Shared->Prop}
theorem Inv.wish(I:Inv X pins σ H s)(E:Value->Shared->Prop):Inv (X.wish E) pins σ H s:=⟨I.ok.wish E,I.os,I.bare,I.base,I.loc,I.cell,I.free,I.freeC,I.pin,I.hok,I.len⟩
theorem Inv.unwish(I:Inv (X.wish E) pins σ H s):Inv X pins σ H s:=⟨I.ok.unwish,I.os,I.bare,I.base,I.loc,I.cell,I.free,I.freeC,I.pin,I.hok,I.len⟩
theorem SP.unwish{D:Ends}{f:Flow}{s':Shared}(h:SP (X.wish E) pins D f s'):SP X pins D f s':=by
 cases f with
 | next=>obtain⟨σ',H',I,q⟩:=h;exact⟨σ',H',I.unwish,q⟩
 | brk=>obtain⟨σ',H',I,q⟩:=h;exact⟨σ',H',I.unwish,q⟩
 | cont=>obtain⟨σ',H',I,q⟩:=h;exact⟨σ',H',I.unwish,q⟩
 | ret u=>obtain⟨v,σ',H',I,r,q⟩:=h;exact⟨v,σ',H',I.unwish,r,q⟩
theorem PSs.nox{st:List Stmt}{t:TS}(h:PSs X.nox st t):PSs X st t:=λpins s σ H D I hw=>
 qBZ (h pins s σ H D (I.wish _) hw) (λ_ _ q=>q.unwish) λ_ _ z=>False.elim z
end
section
variable{X:Cx}{st:Stmt}{rest:List Stmt}{t u:TS}{e:Expr}{te:TE}{pos:Pos}
noncomputable def tNext:TS:=λD σ H=>D.nx σ H
noncomputable def tSeq(t u:TS):TS:=λD σ H=>t {D with nx:=u D} σ H
theorem zaka:PSs X [] tNext:=λ_ _ σ H _ I h=>qBM ⟨σ,H,I,h⟩
theorem zyq(h1:PS X st t)(h2:PSs X rest u):PSs X (st::rest) (tSeq t u):=by
 intro pins s σ H D I h
 refine qCR (thn (h1 pins s σ H {D with nx:=u D} I h) λf s1 q=>?_)
 cases f with
 | next=>
  obtain⟨σ',H',I',q⟩:=q
  exact h2 pins s1 σ' H' D I' q
 | ret v=>exact q
 | brk=>exact q
 | cont=>exact q
theorem zabi(h1:PS X st t):PSs X [st] t:=by
 intro pins s σ H D I h
 refine qCR (thn (h1 pins s σ H D I h) λf s1 q=>?_)
 cases f with
 | next=>exact qBM q
 | ret v=>exact q
 | brk=>exact q
 | cont=>exact q
theorem Inv.quiet{pins:List (Addr×Obj)}{σ:St}{H:Hp}{s:Shared}(I:Inv X pins σ H s):interactive X.env=false:=by simp[interactive,I.ok.kind]
noncomputable def tDrop(te:TE):TS:=λD σ H=>te σ H λ_ H1=>D.nx σ H1
theorem zabj(he:PE X e te)(hs:swapsWith e none pos.line X.env=pure false:=by rfl):PS X (.Expr e pos) (tDrop te):=by
 intro pins s σ H D I h
 exact wpAny_Expr_any (thn (he pins s σ H _ I h) λv s1 ⟨x,H1,I1,r1,q1⟩=>⟨σ,H1,I1,q1⟩) I.quiet hs
noncomputable def tRet(te:TE):TS:=λD σ H=>te σ H D.rt
theorem zanu(he:PE X e te):PS X (.Return (some e) pos) (tRet te):=by
 intro pins s σ H D I h
 exact wpAny_Return_some (thn (he pins s σ H _ I h) λv s1 ⟨x,H1,I1,r1,q1⟩=>⟨x,σ,H1,I1,r1,q1⟩)
noncomputable def tIfS(c:TT)(t u:TS):TS:=λD σ H=>c σ H λb H1=>if b=true then t D σ H1 else u D σ H1
theorem zarb{c:Expr}{a b:List Stmt}{tc:TT}(hc:PT X c tc)(ha:PSs X a t)(hb:PSs X b u):PS X (.If c a b pos) (tIfS tc t u):=by
 intro pins s σ H D I h
 refine wpAny_If (thn (hc pins s σ H _ I h) λd s1 ⟨H1,I1,q1⟩=>?_)
 cases d with
 | true=>exact ha pins s1 σ H1 D I1 q1
 | false=>exact hb pins s1 σ H1 D I1 q1
noncomputable def tNever:TS:=λ_ _ _=>False
theorem zafs:PS X st tNever:=λ_ _ _ _ _ _ h=>h.elim
end
noncomputable abbrev TG:=V->St->Hp->(St->Hp->Prop)->Prop
noncomputable abbrev TGs:=List V->St->Hp->(St->Hp->Prop)->Prop
noncomputable def PG(X:Cx)(target:Expr)(t:TG):Prop:=
 ∀(pins:List (Addr×Obj))(s:Shared)(σ:St)(H:Hp)(v:V)(u:Value)(Q:St->Hp->Prop),Inv X pins σ H s->RelV v u->t v σ H Q->
  wpAny (model X.prog X.w) X.A (assign target X.env u) (λ_ s'=>∃σ' H',Inv X pins σ' H' s'/\Q σ' H') X.xe s
noncomputable def PGs(X:Cx)(ts:List Expr)(t:TGs):Prop:=
 ∀(pins:List (Addr×Obj))(s:Shared)(σ:St)(H:Hp)(vs:List V)(us:List Value)(Q:St->Hp->Prop),Inv X pins σ H s->Vals vs us->t vs σ H Q->
  wpAny (model X.prog X.w) X.A (assignInOrder ((assignEach ts X.env).map (·.2)) us) (λ_ s'=>∃σ' H',Inv X pins σ' H' s'/\Q σ' H') X.xe s
noncomputable abbrev TSet:=V->V->V->Hp->(Hp->Prop)->Prop
noncomputable def PSet(X:Cx)(t:TSet):Prop:=
 ∀(pins:List (Addr×Obj))(s:Shared)(σ:St)(H:Hp)(o i v:V)(ov iv u:Value)(Q:Hp->Prop),Inv X pins σ H s->RelV o ov->RelV i iv->RelV v u->t o i v H Q->
  wpAny (model X.prog X.w) X.A (setItem ov iv u) (λ_ s'=>∃H',Inv X pins σ H' s'/\Q H') X.xe s
section
variable{X:Cx}{pos:Pos}
noncomputable def gName(i:Nat):TG:=λv σ H Q=>Q (σ.set i (some v)) H
theorem zakb{i:Nat}{x:Str}(hN:X.N.Nodup)(hi:X.N[i]?=some x)(hx:Loc X.env.scope x)(hf:X.fn x=true\/X.env.scope.names.lookup x=some .local:=by assumption):PG X (.Name x pos) (gName i):=by
 intro pins s σ H v u Q I r h
 exact wpAny_assign_Name (zsq I hN hi hx r (λs' I'=>⟨_,H,I',h⟩) hf)
noncomputable def gNil:TGs:=λvs σ H Q=>vs=[]/\Q σ H
noncomputable def gCons(t:TG)(u:TGs):TGs:=λvs σ H Q=>∃v r,vs=v::r/\t v σ H λσ' H'=>u r σ' H' Q
theorem zakc:PGs X [] gNil:=by
 intro pins s σ H vs us Q I r h
 obtain⟨e,h⟩:=h
 subst e
 cases r
 exact assignInOrder_nil ⟨σ,H,I,h⟩
theorem zaft{e:Expr}{es:List Expr}{t:TG}{u:TGs}(h1:PG X e t)(h2:PGs X es u)
  (hs:(assignEach (e::es) X.env).map (·.2)=assign e X.env::(assignEach es X.env).map (·.2):=by rfl):PGs X (e::es) (gCons t u):=by
 intro pins s σ H vs us Q I r h
 obtain⟨v,vr,e1,h⟩:=h
 subst e1
 cases r with
 | cons r rr=>
  rw[hs]
  refine assignInOrder_cons (thn (h1 pins s σ H _ _ _ I r h) λ_ s1 ⟨σ1,H1,I1,q1⟩=>?_)
  exact h2 pins s1 σ1 H1 _ _ Q I1 rr q1
noncomputable def gTup(K:qC)(n:Nat)(t:TGs):TG:=λv σ H Q=>∃a xs,v=.ref a/\SqT K H a xs/\xs.length=n/\t xs σ H Q
theorem zanv{es:List Expr}{k:Nat}{t:TGs}{n:Nat}(hc:X.calm=true)(h:PGs X es t)
  (hn:(assignEach es X.env).length=n:=by rfl) (hst:(assignEach es X.env).findIdx? (·.1)=none:=by rfl):PG X (.Tuple es k pos) (gTup X.K n t):=by
 intro pins s σ H v u Q I r hw
 obtain⟨a,xs,e1,hq,hl,hw⟩:=hw
 subst e1
 cases r
 obtain⟨its,rv,ht,hz⟩:=I.tuple hq
 refine assign_Tuple_tuple (I.ok.hd hc) ht (by simp[hn,<- hl,rv.length]) hst λh' hx=>?_
 have I1:Inv X pins σ H {s with heap:=h'}:=I.kept (t':=s.toks) λb o e=>hx b o (qz (qN e)) e
 exact h pins _ σ H xs _ Q I1 (by simpa using rv) hw
noncomputable def gSub(to ti:TE)(t:TSet):TG:=λv σ H Q=>to σ H λo H1=>ti σ H1 λi H2=>t o i v H2 λH3=>Q σ H3
theorem zanw{o i:Expr}{to ti:TE}{t:TSet}(ho:PE X o to)(hi:PE X i ti)(hs:PSet X t)
  (ha:∀v,assign (.Subscript o i pos) X.env v=(do
   let ov <- holding [v] (eval o X.env)
   let iv <- holding [v,ov] (eval i X.env)
   standAt pos
   holding [v,ov,iv] (setItem ov iv v)
   release [v,ov,iv] []):=by intro _;rfl):PG X (.Subscript o i pos) (gSub to ti t):=by
 intro pins s σ H v u Q I r h
 rw[ha]
 refine qE (qBK (thn (ho pins s σ H _ I h) λov s1 ⟨x,H1,I1,r1,q1⟩=>?_))
 refine qE (qBK (thn (hi pins s1 σ H1 _ I1 q1) λiv s2 ⟨y,H2,I2,r2,q2⟩=>?_))
 refine qE (qBA (qE (qBK (thn (hs pins s2 σ H2 x y v ov iv u _ I2 r1 r2 r q2) λ_ s3 ⟨H3,I3,q3⟩=>?_))))
 exact wpAny_release ⟨σ,H3,I3,q3⟩
noncomputable def tAsg(te:TE)(g:TG):TS:=λD σ H=>te σ H λx H1=>g x σ H1 D.nx
theorem zajc{tg e:Expr}{te:TE}{g:TG}(he:PE X e te)(hg:PG X tg g)(hs:swapsWithSole [tg] e pos.line X.env=pure false:=by rfl)(hw:swappedStores [tg] e X.env=pure none:=by rfl)
  (h1:(assignEach [tg] X.env).map (·.2)=[assign tg X.env]:=by rfl):PS X (.Assign [tg] e pos) (tAsg te g):=by
 intro pins s σ H D I h
 refine wpAny_Assign_stores (thn (he pins s σ H _ I h) λv s1 ⟨x,H1,I1,r1,q1⟩=>?_) hs hw
 rw[h1]
 exact thn (hg pins s1 σ H1 x v _ I1 r1 q1) λ_ s2 q=>q
theorem zanx{i:Nat}{x:Str}{e:Expr}{te:TE}{pos':Pos}(hN:X.N.Nodup)(hi:X.N[i]?=some x)(hx:Loc X.env.scope x)(he:PE X e te)(hs:swapsWith e (some (.Name x pos')) pos.line X.env=pure false:=by rfl)(hf:X.fn x=true\/X.env.scope.names.lookup x=some .local:=by assumption) :
  PS X (.Assign [.Name x pos'] e pos) (tAsg te (gName i)):=by
 intro pins s σ H D I h
 refine wpAny_Assign_Name (thn (he pins s σ H _ I h) λv s1 ⟨y,H1,I1,r1,q1⟩=>?_) hs
 exact zsq I1 hN hi hx r1 (λs2 I2=>⟨_,H1,I2,q1⟩) hf
end
section
variable{X:Cx}{pos:Pos}
noncomputable def tWhile(c:TT)(tb:TS):TS:=λD σ H=>∃W:Nat->St->Hp->Prop,(∃m,W m σ H)/\∀m σ H,W m σ H->
 c σ H λb H1=>if b=true then ∃N:St->Hp->Prop,(∀σ' H',N σ' H'->∃m',m'<m/\W m' σ' H')/\tb {D with nx:=N,ct:=N,bk:=D.nx} σ H1 else D.nx σ H1
theorem zafu{c:Expr}{body:List Stmt}{tc:TT}{tb:TS}(hp:PassesOwn (model X.prog X.w) X.A X.env X.xe)(hc:PT X c tc)(hb:PSs X body tb):PS X (.While c body [] pos) (tWhile tc tb):=by
 intro pins s σ H D I h
 obtain⟨W,⟨m0,w0⟩,turn⟩:=h
 refine wpAny_While (codeAny_whileLoop (λn s'=>∃σ' H',Inv X pins σ' H' s'/\W n σ' H') ?_ m0 ⟨σ,H,I,w0⟩)
 rintro n s1 ⟨σ1,H1,I1,w1⟩
 refine qA8 hp (thn (hc pins s1 σ1 H1 _ I1 (turn n σ1 H1 w1)) λb s2 ⟨H2,I2,q2⟩=>?_)
 cases b with
 | true=>
  obtain⟨N,hN,q2⟩:=q2
  rw[if_pos rfl]
  refine qA8 hp (thn (hb pins s2 σ1 H2 _ I2 q2) λf s3 q3=>?_)
  cases f with
  | next=>
   obtain⟨σ3,H3,I3,n3⟩:=q3
   obtain⟨m',hm,w3⟩:=hN σ3 H3 n3
   exact⟨m',hm,σ3,H3,I3,w3⟩
  | cont=>
   obtain⟨σ3,H3,I3,n3⟩:=q3
   obtain⟨m',hm,w3⟩:=hN σ3 H3 n3
   exact⟨m',hm,σ3,H3,I3,w3⟩
  | brk=>exact q3
  | ret v=>exact q3
 | false=>
  rw[if_neg qQ]
  exact qBM ⟨σ1,H2,I2,q2⟩
end
set_option genInjectivity false in
structure It where
 go:Nat->Hp->Prop
 yld:Nat->Hp->V->Hp->Prop
 stop:Nat->Hp->Prop
noncomputable def FpOk(X:Cx)(pins:List (Addr×Obj))(H:Hp)(b:Addr):Prop:=
 H b=none/\b≠X.env.locals/\b∉X.fs/\(b∈X.ex\/X.s₀.heap.objs.size<=b)/\(∀x c,X.env.cells.lookup x=some c->c≠b)/\∀p∈X.pn++pins,p.1≠b
theorem Inv.fpOk{X:Cx}{pins:List (Addr×Obj)}{σ:St}{H H':Hp}{s:Shared}{b:Addr}(I:Inv X pins σ H s)(hb:s.heap.objs.size<=b)(hn:H' b=none):FpOk X pins H' b:=by
 refine⟨hn,qBP (qg I.lt hb),I.nofs hb,.inr (qAC I.sz hb),λx c e z=>?_,λp hp z=>?_⟩
 ·obtain⟨v,q⟩:=I.cell x c e
  exact absurd (qg q.lt (by rw[z];exact hb)) (qAy _)
 ·exact absurd (qg (qN (I.pin p hp).1) (by rw[z];exact hb)) (qAy _)
set_option genInjectivity false in
structure Turn(P:Program)(w:World)(K:qC)(tg:Expr)(J:It)(fp:List Addr)(it:Addr)(tn:Nat->Heap->Prop):Prop where
 mem:it∈fp
 obj:∀i h,tn i h->∀b∈fp,∃o,h.get? b=some o/\∀v,o.data≠.cell v
 keep:∀i h h',tn i h->(∀b∈fp,∀o,h.get? b=some o->h'.get? b=some o)->tn i h'
 item:∀(X:Cx),X.prog=P->X.w=w->X.K=K->X.calm=true->∀(i:Nat)(pins:List (Addr×Obj))(s:Shared)(σ:St)(H:Hp)(E:Value->Shared->Prop),Inv X pins σ H s->(∀b∈fp,FpOk X pins H b)->tn i s.heap->J.go i H->
  wpAny (model P w) X.A (pyNext (.ref it)) (λr s1=>∃u,r=some u/\
   wpAny (model P w) X.A (letOwnedTupleGo tg (.ref it) u) (λ_ s2=>∃x H',Inv X pins σ H' s2/\RelV x u/\J.yld i H x H'/\tn (i+1) s2.heap/\∀b∈fp,H' b=none) E s1) E s
 done:∀(X:Cx),X.prog=P->X.w=w->X.K=K->X.calm=true->∀(i:Nat)(pins:List (Addr×Obj))(s:Shared)(σ:St)(H:Hp)(E:Value->Shared->Prop),Inv X pins σ H s->(∀b∈fp,FpOk X pins H b)->tn i s.heap->J.stop i H->
  wpAny (model P w) X.A (pyNext (.ref it)) (λr s1=>r=none/\Inv X pins σ H s1) E s
 self:∀(A:Around)(i:Nat)(s:Shared)(Q:Value->Shared->Prop)(E:Value->Shared->Prop),tn i s.heap->Q (.ref it) s->wpAny (model P w) A (pyIter (.ref it)) Q E s
noncomputable abbrev TI:=St->Hp->(It->Hp->Prop)->Prop
noncomputable def PIE(X:Cx)(pins:List (Addr×Obj))(σ:St)(tg:Expr)(R:It->Hp->Prop)(itv:Value)(s2:Shared):Prop:=
 ∃(it:Addr)(fp:List Addr)(tn:Nat->Heap->Prop)(J:It)(H':Hp),itv=.ref it/\Inv X pins σ H' s2/\Turn X.prog X.w X.K tg J fp it tn/\tn 0 s2.heap/\(∀b∈fp,FpOk X pins H' b)/\R J H'
noncomputable def PI(X:Cx)(tg iter:Expr)(wi:TI):Prop:=
 ∀(pins:List (Addr×Obj))(s:Shared)(σ:St)(H:Hp)(R:It->Hp->Prop),Inv X pins σ H s->wi σ H R->
  wpAny (model X.prog X.w) X.A (eval iter X.env) (λv s1=>wpAny (model X.prog X.w) X.A (pyIter v) (PIE X pins σ tg R) X.xe s1) X.xe s
theorem zafv{M:Model}{A:Around}{E:Value->Shared->Prop}{s:Shared}{tg:Expr}{it:Addr}{u:Value}{o:Obj}{n:String}{vs:Array Value}{Q:Unit->Shared->Prop}(ho:s.heap.get? it=some o)(hc:o.cls=.type n)(hd:o.data=.fields vs)
  (hn:["enumerate","zip","dict_itemiterator","dict_reverseitemiterator","odict_iterator","itertools.zip_longest","itertools.pairwise"].contains n=false) (hQ:Q () s):wpAny M A (letOwnedTupleGo tg (.ref it) u) Q E s:=by
 unfold letOwnedTupleGo
 cases tg<;>first
  | exact qM hQ
  | (cases u<;>first
    | exact qM hQ
    | (refine qE (wpAny_load ho ?_)
       rw[hc,hd]
       show wpAny M A (if(["enumerate","zip","dict_itemiterator","dict_reverseitemiterator","odict_iterator","itertools.zip_longest","itertools.pairwise"].contains n&&vs[0]?==some (rawInt _))=true then _ else _) Q E s
       rw[if_neg (by intro h;rw[hn,Bool.false_and]at h;cases h)]
       exact qM hQ))
noncomputable def Itl(K:qC)(a:Addr):It:=
 ⟨λi H=>∃xs x,SqL K H a xs/\xs[i]?=some x,λi H x H'=>H'=H/\∀xs,SqL K H a xs->xs[i]?=some x,λi H=>∃xs,SqL K H a xs/\xs.length<=i⟩
noncomputable def Itt(K:qC)(a:Addr):It:=
 ⟨λi H=>∃xs x,SqT K H a xs/\xs[i]?=some x,λi H x H'=>H'=H/\∀xs,SqT K H a xs->xs[i]?=some x,λi H=>∃xs,SqT K H a xs/\xs.length<=i⟩
noncomputable def Itr(lo:Int)(n:Nat):It:=⟨λi _=>i<n,λi H x H'=>H'=H/\x=.int (lo+i),λi _=>n<=i⟩
theorem zabk{P:Program}{w:World}{K:qC}{tg:Expr}(a it:Addr):Turn P w K tg (Itl K a) [it] it (λi h=>h.IsListIter it a i) where
 mem:=by simp
 obj:=λi h st b hb=>by
  have e:b=it:=by simpa using hb
  subst e
  obtain⟨o,e,c,d⟩:=st
  exact⟨o,e,λv z=>by rw[d]at z;cases z⟩
 keep:=λi h h' st k=>st.at λo e=>k it (by simp) o e
 item:=by
  intro X hP hw hK hc i pins s σ H E I hf st hg
  subst hP hw hK
  obtain⟨xs,x,hq,hx⟩:=hg
  obtain⟨its,rv,p,hz⟩:=I.list hq
  obtain⟨u,hu,ru⟩:=rv.get hx
  obtain⟨f0,f1,f2,f3,f4,f5⟩:=hf it (by simp)
  refine wpAny_pyNext_list_item st p.isList (x:=u) (by simpa using hu) λh' st' sb=>?_
  have I1:Inv X pins σ H {s with heap:=h'}:=I.turned (t':=s.toks) (λb o hb e=>(sb.2 b hb).trans e) f0 f1 f3 f4 f5
  obtain⟨o,e,c,d⟩:=id st'
  exact⟨u,rfl,zafv (s:={s with heap:=h'}) e c d (by decide) ⟨x,H,I1,ru,⟨rfl,λys hy=>by rw[I.list_inj hy hq];exact hx⟩,st',λb hb=>(hf b hb).1⟩⟩
 done:=by
  intro X hP hw hK hc i pins s σ H E I hf st hg
  subst hP hw hK
  obtain⟨xs,hq,hx⟩:=hg
  obtain⟨its,rv,p,hz⟩:=I.list hq
  obtain⟨f0,f1,f2,f3,f4,f5⟩:=hf it (by simp)
  have hl:=rv.length
  exact wpAny_pyNext_list_end (I.ok.hd hc) st p.isList (by simp;omega) λh' eb=>⟨rfl,I.turned (t':=s.toks) (λb o hb e=>eb b o hb e) f0 f1 f3 f4 f5⟩
 self:=λ_ _ _ _ _ st h=>wpAny_pyIter_listiter st h
theorem zzy{P:Program}{w:World}{K:qC}{tg:Expr}(a it:Addr):Turn P w K tg (Itt K a) [it] it (λi h=>h.IsTupleIter it a i) where
 mem:=by simp
 obj:=λi h st b hb=>by
  have e:b=it:=by simpa using hb
  subst e
  obtain⟨o,e,c,d⟩:=st
  exact⟨o,e,λv z=>by rw[d]at z;cases z⟩
 keep:=λi h h' st k=>st.at λo e=>k it (by simp) o e
 item:=by
  intro X hP hw hK hc i pins s σ H E I hf st hg
  subst hP hw hK
  obtain⟨xs,x,hq,hx⟩:=hg
  obtain⟨its,rv,p,hz⟩:=I.tuple hq
  obtain⟨u,hu,ru⟩:=rv.get hx
  obtain⟨f0,f1,f2,f3,f4,f5⟩:=hf it (by simp)
  refine wpAny_pyNext_tuple_item st (show s.heap.IsTuple a its.toArray from p) (x:=u) (by simpa using hu) λh' st' sb=>?_
  have I1:Inv X pins σ H {s with heap:=h'}:=I.turned (t':=s.toks) (λb o hb e=>(sb.2 b hb).trans e) f0 f1 f3 f4 f5
  obtain⟨o,e,c,d⟩:=id st'
  exact⟨u,rfl,zafv (s:={s with heap:=h'}) e c d (by decide) ⟨x,H,I1,ru,⟨rfl,λys hy=>by rw[I.tuple_inj hy hq];exact hx⟩,st',λb hb=>(hf b hb).1⟩⟩
 done:=by
  intro X hP hw hK hc i pins s σ H E I hf st hg
  subst hP hw hK
  obtain⟨xs,hq,hx⟩:=hg
  obtain⟨its,rv,p,hz⟩:=I.tuple hq
  obtain⟨f0,f1,f2,f3,f4,f5⟩:=hf it (by simp)
  have hl:=rv.length
  exact wpAny_pyNext_tuple_end (I.ok.hd hc) st (show s.heap.IsTuple a its.toArray from p) (by simp;omega) λh' eb=>⟨rfl,I.turned (t':=s.toks) (λb o hb e=>eb b o hb e) f0 f1 f3 f4 f5⟩
 self:=λ_ _ _ _ _ st h=>wpAny_pyIter_tupleiter st h
theorem zzz{P:Program}{w:World}{K:qC}{tg:Expr}(it:Addr)(lo:Int)(n:Nat):Turn P w K tg (Itr lo n) [it] it (λi h=>IsRangeIter h it (lo+(i:Nat) * 1) ((n:Int) - (i:Nat)) 1) where
 mem:=by simp
 obj:=λi h st b hb=>by
  have e:b=it:=by simpa using hb
  subst e
  exact⟨_,st,λv z=>by
   have z':Data.fields _=Data.cell v:=z
   cases z'⟩
 keep:=λi h h' st k=>k it (by simp) _ st
 item:=by
  intro X hP hw hK hc i pins s σ H E I hf st hg
  subst hP hw hK
  obtain⟨f0,f1,f2,f3,f4,f5⟩:=hf it (by simp)
  have W:=Walks.range (prog:=X.prog) (w:=X.w) (I.ok.hd hc) it lo 1 n
  refine W.item i s _ _ hg st λv h' tk hv st' kk=>?_
  obtain⟨t,rfl⟩:=hv
  have I1:Inv X pins σ H {s with heap:=h',toks:=tk}:=I.turned (λb o hb e=>kk b o (by simpa using hb) e) f0 f1 f3 f4 f5
  refine⟨_,rfl,zafv (s:={s with heap:=h',toks:=tk}) (n:="range_iterator") st' rfl rfl (by decide) ⟨.int (lo+i),H,I1,⟨t,?_⟩,⟨rfl,rfl⟩,st',λb hb=>(hf b hb).1⟩⟩
  rw[Int.mul_one]
 done:=by
  intro X hP hw hK hc i pins s σ H E I hf st hg
  subst hP hw hK
  obtain⟨f0,f1,f2,f3,f4,f5⟩:=hf it (by simp)
  exact wpAny_pyNext_range_end (I.ok.hd hc) st (by have:n<=i:=hg;omega) λh' eb=>⟨rfl,I.turned (t':=s.toks) (λb o hb e=>eb b o hb e) f0 f1 f3 f4 f5⟩
 self:=λ_ _ _ _ _ st h=>wpAny_pyIter_rangeiter st h
section
variable{X:Cx}{tg:Expr}
theorem zafw{pins:List (Addr×Obj)}{σ:St}{H:Hp}{s:Shared}{R:It->Hp->Prop}{E:Value->Shared->Prop}{lo hi:Int}{t u v:Tok}{tk:Nat}(I:Inv X pins σ H s)(h1:-(2 ^ 62)<=lo)(h2:lo<2 ^ 62)(h3:-(2 ^ 62)<=hi)(h4:hi<2 ^ 62)
  (q:R (Itr lo (hi - lo).toNat) H):wpAny (model X.prog X.w) X.A (pyIter (.ref s.heap.objs.size)) (PIE X pins σ tg R) E {s with heap:=s.heap.push {cls:=.type "range",data:=.fields #[.int lo t,.int hi u,.int 1 v]},toks:=tk}:=by
 refine wpAny_pyIter_range (IsRange.new ..) (small_one h1 h2 h3 h4) ?_
 have I1:Inv X pins σ H {s with heap:=s.heap.push {cls:=.type "range",data:=.fields #[.int lo t,.int hi u,.int 1 v]},toks:=tk}:=I.kept λb o e=>qG _ e
 refine⟨(s.heap.push {cls:=.type "range",data:=.fields #[.int lo t,.int hi u,.int 1 v]}).objs.size,[(s.heap.push {cls:=.type "range",data:=.fields #[.int lo t,.int hi u,.int 1 v]}).objs.size],_,_,H,rfl,
  I1.kept (t':=tk) λb o e=>qG _ e,zzz _ lo (hi - lo).toNat,?_,λb hb=>?_,q⟩
 ·have e1:lo+((0:Nat):Int) * 1=lo:=by simp
  have e2:(((hi - lo).toNat:Nat):Int) - ((0:Nat):Int)=Builtin.Range.rangeSize lo hi 1:=by rw[rangeSize_one];split<;>omega
  show IsRangeIter _ _ (lo+((0:Nat):Int) * 1) ((((hi - lo).toNat:Nat):Int) - ((0:Nat):Int)) 1
  rw[e1,e2]
  exact qe _ rfl
 ·have e:b=(s.heap.push {cls:=.type "range",data:=.fields #[.int lo t,.int hi u,.int 1 v]}).objs.size:=by simpa using hb
  subst e
  exact I1.fpOk (qL _) (I1.hok.fresh (qL _))
noncomputable def iRng1(ta:TA):TI:=λσ H R=>ta σ H λvs H1=>∃j:Int,vs=[.int j]/\-(2 ^ 62)<=j/\j<2 ^ 62/\R (Itr 0 j.toNat) H1
theorem zabl{a:Expr}{ta:TA}{p pos:Pos}(hg:Gl X "range")(hm:X.mg "range"=none)(ha:PA X [a] ta)(hs:starEach [a] X.env=[(false,eval a X.env)]:=by rfl):PI X tg (.Call (.Name "range" p) [a] [] pos) (iRng1 ta):=by
 intro pins s σ H R I h
 refine Call_ (zlv I hg hm boot_range (qBH (thn (ha pos pins s σ H _ I h) λus s1 ⟨vs,H1,I1,r1,q1⟩=>?_) hs rfl))
 obtain⟨j,e,q1,q2,q⟩:=q1
 subst e
 cases r1 with
 | cons r rr=>
  cases rr
  obtain⟨t,rfl⟩:=r
  exact call_range_1 (zafw I1 (by omega) (by omega) q1 q2 (by simpa using q))
noncomputable def tFor(wi:TI)(g:TG)(tb:TS):TS:=λD σ H=>wi σ H λJ H1=>∃W:Nat->Nat->St->Hp->Prop,(∃m,W 0 m σ H1)/\∀i m σ H,W i m σ H->
 (J.stop i H/\D.nx σ H)\/(J.go i H/\∃N:St->Hp->Prop,(∀σ' H',N σ' H'->∃m',m'<m/\W (i+1) m' σ' H')/\∀x H',J.yld i H x H'->g x σ H' λσ2 H2=>tb {D with nx:=N,ct:=N,bk:=D.nx} σ2 H2)
noncomputable def zug(fp:List Addr)(h:Heap):List (Addr×Obj):=fp.filterMap λb=>(h.get? b).map λo=>(b,o)
theorem zkw{fp:List Addr}{h:Heap}{b:Addr}{o:Obj}(hb:b∈fp)(e:h.get? b=some o):(b,o)∈zug fp h:=qB4.mpr ⟨b,hb,by rw[e];rfl⟩
theorem zabm{fp:List Addr}{h:Heap}{p:Addr×Obj}(hp:p∈zug fp h):p.1∈fp/\h.get? p.1=some p.2:=by
 obtain⟨b,hb,e⟩:=qB4.mp hp
 cases q:h.get? b with
 | none=>rw[q]at e;cases e
 | some o=>
  rw[q]at e
  have e':(b,o)=p:=qo e
  subst e'
  exact⟨hb,q⟩
theorem Inv.pinned{pins:List (Addr×Obj)}{σ:St}{H:Hp}{s:Shared}{fp:List Addr}(I:Inv X pins σ H s)(hf:∀b∈fp,FpOk X pins H b)(ho:∀b∈fp,∃o,s.heap.get? b=some o/\∀v,o.data≠.cell v):Inv X (pins++zug fp s.heap) σ H s:=
 I.pins_of λp hp=>(qd.mp hp).elim (λz=>I.pin p (qy _ z)) λz=>by
  obtain⟨hb,e⟩:=zabm z
  obtain⟨f0,f1,f2,_⟩:=hf p.1 hb
  obtain⟨o,e',d⟩:=ho p.1 hb
  rw[e]at e';cases e'
  exact⟨e,f0,f1,f2,d⟩
theorem Inv.unpinned{pins pl:List (Addr×Obj)}{σ:St}{H:Hp}{s:Shared}(I:Inv X (pins++pl) σ H s):Inv X pins σ H s:=I.pins_of λp hp=>I.pin p (qy _ (qAb _ hp))
theorem zany{iter:Expr}{body:List Stmt}{wi:TI}{g:TG}{tb:TS}{pos:Pos}(hp:PassesOwn (model X.prog X.w) X.A X.env X.xe)(hc:X.calm=true)(hi:PI X tg iter wi)(hg:PG X tg g)(hb:PSs X body tb)
  (hs:∀x,foldedSetIterable iter X.env x=pure x:=by intro _;rfl):PS X (.For tg iter body [] pos) (tFor wi g tb):=by
 intro pins s σ H D I h
 refine wpAny_For (thn (hi pins s σ H _ I h) λv s1 h1=>thn h1 λitv s2 h2=>?_) hs
 obtain⟨it,fp,tn,J,H2,e,I2,T,st2,f2,W,⟨m0,w0⟩,turn⟩:=h2
 subst e
 have stat:∀{H':Hp},(∀b∈fp,H' b=none)->∀b∈fp,FpOk X pins H' b:=λhn b hb=>⟨hn b hb,(f2 b hb).2⟩
 refine codeAny_forLoop_any (λn s'=>∃i σ' H',Inv X pins σ' H' s'/\tn i s'.heap/\(∀b∈fp,H' b=none)/\W i n σ' H') ?_ m0 ⟨0,σ,H2,I2,st2,λb hb=>(f2 b hb).1,w0⟩
 rintro n s3 ⟨i,σ3,H3,I3,st3,fr3,w3⟩
 rcases turn i n σ3 H3 w3 with⟨stop,qn⟩|⟨go,N,hN,step⟩
 ·refine qA8 hp (thn (T.done X rfl rfl rfl hc i pins s3 σ3 H3 X.xe I3 (stat fr3) st3 stop) λr s4 ⟨hr,I4⟩=>?_)
  subst hr
  exact qBM ⟨σ3,H3,I4,qn⟩
 ·refine qA8 hp (thn (T.item X rfl rfl rfl hc i pins s3 σ3 H3 X.xe I3 (stat fr3) st3 go) λr s4 ⟨u,hr,h4⟩=>?_)
  subst hr
  refine qA8 hp (thn h4 λ_ s5 ⟨x,H5,I5,r5,y5,st5,fr5⟩=>?_)
  have I5':=I5.pinned (stat fr5) (T.obj _ _ st5)
  refine qA8 hp (thn (hg _ s5 σ3 H5 x u _ I5' r5 (step x H5 y5)) λ_ s6 ⟨σ6,H6,I6,q6⟩=>?_)
  refine qA8 hp (thn (hb _ s6 σ6 H6 _ I6 q6) λf s7 q7=>?_)
  have again:∀{σ7:St}{H7:Hp},Inv X (pins++zug fp s5.heap) σ7 H7 s7->N σ7 H7->∃m,m<n/\∃i σ' H',Inv X pins σ' H' s7/\tn i s7.heap/\(∀b∈fp,H' b=none)/\W i m σ' H':=λ{σ7 H7} I7 n7=>by
   obtain⟨m',hm,w7⟩:=hN σ7 H7 n7
   refine⟨m',hm,i+1,σ7,H7,I7.unpinned,T.keep _ _ _ st5 λb hb o e=>(I7.pin (b,o) (qy _ (qy _ (zkw hb e)))).1,λb hb=>?_,w7⟩
   obtain⟨o,e,d⟩:=T.obj _ _ st5 b hb
   exact(I7.pin (b,o) (qy _ (qy _ (zkw hb e)))).2.1
  cases f with
  | next=>obtain⟨σ7,H7,I7,n7⟩:=q7;exact again I7 n7
  | cont=>obtain⟨σ7,H7,I7,n7⟩:=q7;exact again I7 n7
  | brk=>obtain⟨σ7,H7,I7,q7⟩:=q7;exact⟨σ7,H7,I7.unpinned,q7⟩
  | ret v=>obtain⟨x7,σ7,H7,I7,r7,q7⟩:=q7;exact⟨x7,σ7,H7,I7.unpinned,r7,q7⟩
end
noncomputable abbrev R2:=V->V->Hp->VK->Prop
noncomputable def OpR(X:Cx)(f:Value->Value->Sem Value)(r:R2):Prop:=
 ∀(pins:List (Addr×Obj))(s:Shared)(σ:St)(H:Hp)(x y:V)(v u:Value)(Q:VK),Inv X pins σ H s->RelV x v->RelV y u->r x y H Q->
  wpAny (model X.prog X.w) X.A (f v u) (EP X pins σ Q) X.xe s
noncomputable def UnR(X:Cx)(f:Value->Sem Value)(r:V->Hp->VK->Prop):Prop:=
 ∀(pins:List (Addr×Obj))(s:Shared)(σ:St)(H:Hp)(x:V)(v:Value)(Q:VK),Inv X pins σ H s->RelV x v->r x H Q->
  wpAny (model X.prog X.w) X.A (f v) (EP X pins σ Q) X.xe s
noncomputable def CallR(X:Cx)(f:Value)(r:List V->Hp->VK->Prop):Prop:=
 ∀(pins:List (Addr×Obj))(s:Shared)(σ:St)(H:Hp)(xs:List V)(us:List Value)(Q:VK),Inv X pins σ H s->Vals xs us->r xs H Q->
  wpAny (model X.prog X.w) X.A (call f us) (EP X pins σ Q) X.xe s
noncomputable def TruR(X:Cx)(r:V->Hp->(Bool->Hp->Prop)->Prop):Prop:=
 ∀(pins:List (Addr×Obj))(s:Shared)(σ:St)(H:Hp)(x:V)(v:Value)(Q:Bool->Hp->Prop),Inv X pins σ H s->RelV x v->r x H Q->
  wpAny (model X.prog X.w) X.A (truthy v) (TP X pins σ Q) X.xe s
noncomputable def tOp(r:R2)(ta tb:TE):TE:=λσ H Q=>ta σ H λx H1=>tb σ H1 λy H2=>r x y H2 Q
noncomputable def tUn(r:V->Hp->VK->Prop)(ta:TE):TE:=λσ H Q=>ta σ H λx H1=>r x H1 Q
noncomputable def rI(C:Int->Int->Prop)(g:Int->Int->V):R2:=λx y H Q=>∃i j,x=.int i/\y=.int j/\C i j/\Q (g i j) H
noncomputable def rI0(g:Int->Int->V):R2:=λx y H Q=>∃i j,x=.int i/\y=.int j/\Q (g i j) H
noncomputable def rU(g:Int->V):V->Hp->VK->Prop:=λx H Q=>∃i,x=.int i/\Q (g i) H
section
variable{X:Cx}{a b c:Expr}{ta tb tc:TE}{pos:Pos}
theorem binT(ha:PE X a ta)(hb:PE X b tb){pins:List (Addr×Obj)}{s:Shared}{σ:St}{H:Hp}{R:V->V->Hp->Prop}(I:Inv X pins σ H s)
  (h:ta σ H λx H1=>tb σ H1 λy H2=>R x y H2){Q:Value->Shared->Prop}{f:Value->Value->Sem Value}
  (hf:∀v u s2 x y H2,Inv X pins σ H2 s2->RelV x v->RelV y u->R x y H2->wpAny (model X.prog X.w) X.A (f v u) Q X.xe s2) :
  wpAny (model X.prog X.w) X.A (eval a X.env) (λv s₁=>wpAny (model X.prog X.w) X.A (eval b X.env) (λu s₂=>wpAny (model X.prog X.w) X.A (f v u) Q X.xe s₂) X.xe s₁) X.xe s:=by
 refine thn (ha pins s σ H _ I h) λv s1 ⟨x,H1,I1,r1,q1⟩=>?_
 refine thn (hb pins s1 σ H1 _ I1 q1) λu s2 ⟨y,H2,I2,r2,q2⟩=>?_
 exact hf v u s2 x y H2 I2 r1 r2 q2
theorem zarc{op:Operator}{r:R2}(ho:OpR X (binaryOp op) r)(ha:PE X a ta)(hb:PE X b tb):PE X (.BinOp a op b pos) (tOp r ta tb):=by
 intro pins s σ H Q I h
 exact wpAny_BinOp (binT ha hb I h λv u s2 x y H2 I2 rx ry q=>ho pins s2 σ H2 x y v u Q I2 rx ry q)
theorem zard{op:UnaryOp}{r:V->Hp->VK->Prop}(ho:UnR X (unaryOp op) r)(ha:PE X a ta):PE X (.UnaryOp op a pos) (tUn r ta):=by
 intro pins s σ H Q I h
 exact UnaryOp_ (thn (ha pins s σ H _ I h) λv s1 ⟨x,H1,I1,r1,q1⟩=>ho pins s1 σ H1 x v Q I1 r1 q1)
theorem opI{f:Value->Value->Sem Value}{C:Int->Int->Prop}{g:Int->Int->Int}
  (rule:∀(i j:Int)(t u:Tok)(s:Shared)(Q:Value->Shared->Prop)(E:Value->Shared->Prop),C i j->Q (.int (g i j) s.toks) {s with toks:=s.toks+1}->wpAny (model X.prog X.w) X.A (f (.int i t) (.int j u)) Q E s) :
  OpR X f (rI C λi j=>.int (g i j)):=by
 intro pins s σ H x y v u Q I rx ry h
 obtain⟨i,j,rfl,rfl,hc,q⟩:=h
 obtain⟨t,rfl⟩:=rx
 obtain⟨t',rfl⟩:=ry
 exact rule i j t t' s _ _ hc ⟨.int (g i j),H,I.tok _,⟨_,rfl⟩,q⟩
theorem opI0{f:Value->Value->Sem Value}{g:Int->Int->Int}
  (rule:∀(i j:Int)(t u:Tok)(s:Shared)(Q:Value->Shared->Prop)(E:Value->Shared->Prop),Q (.int (g i j) s.toks) {s with toks:=s.toks+1}->wpAny (model X.prog X.w) X.A (f (.int i t) (.int j u)) Q E s) :
  OpR X f (rI0 λi j=>.int (g i j)):=by
 intro pins s σ H x y v u Q I rx ry h
 obtain⟨i,j,rfl,rfl,q⟩:=h
 obtain⟨t,rfl⟩:=rx
 obtain⟨t',rfl⟩:=ry
 exact rule i j t t' s _ _ ⟨.int (g i j),H,I.tok _,⟨_,rfl⟩,q⟩
theorem opB0{f:Value->Value->Sem Value}{g:Int->Int->Bool}
  (rule:∀(i j:Int) (t u:Tok) (s:Shared) (Q:Value->Shared->Prop) (E:Value->Shared->Prop),Q (.bool (g i j)) s->wpAny (model X.prog X.w) X.A (f (.int i t) (.int j u)) Q E s) :
  OpR X f (rI0 λi j=>.bl (g i j)):=by
 intro pins s σ H x y v u Q I rx ry h
 obtain⟨i,j,rfl,rfl,q⟩:=h
 obtain⟨t,rfl⟩:=rx
 obtain⟨t',rfl⟩:=ry
 exact rule i j t t' s _ _ ⟨.bl (g i j),H,I,rfl,q⟩
noncomputable def CDiv(i j:Int):Prop:=0<j/\j<1073741824
noncomputable def CMul(i j:Int):Prop:=(-(2 ^ 64)<i/\i<2 ^ 64)\/(-(2 ^ 64)<j/\j<2 ^ 64)
theorem CMul.ok{i j:Int}(h:CMul i j):IntMulOk i j:=by
 rcases h with⟨h1,h2⟩|⟨h1,h2⟩
 ·exact .of_left (intBits_le_64 h1 h2)
 ·exact .of_right (intBits_le_64 h1 h2)
theorem zanz:OpR X (binaryOp .Add) (rI0 λi j=>.int (i+j)):=opI0 λ_ _ _ _ _ _ _ q=>add_int q
theorem zajd:OpR X (binaryOp .Sub) (rI0 λi j=>.int (i - j)):=opI0 λ_ _ _ _ _ _ _ q=>sub_int q
theorem zaoa:OpR X (binaryOp .Mult) (rI CMul λi j=>.int (i * j)):=opI λ_ _ _ _ _ _ _ hc q=>mul_int q hc.ok
theorem zwo:OpR X (binaryOp .FloorDiv) (rI CDiv λi j=>.int (i / j)):=opI λi j _ _ _ _ _ hc q=>by
 have h1:(0:Int)<j:=hc.1
 have h2:j<1073741824:=hc.2
 exact floordiv_int (by omega) (by rw[Int.fdiv_eq_ediv_of_nonneg i (by omega)];exact q) (.inl (PyProof.noPylong_small (by omega)))
theorem zon:OpR X (binaryOp .Mod) (rI (λ_ j=>0<j) λi j=>.int (i % j)):=opI λi j _ _ _ _ _ hc q=>by
 have h1:(0:Int)<j:=hc
 exact mod_int' (by omega) (by rw[Int.fmod_eq_emod_of_nonneg i (by omega)];exact q)
theorem unI{f:Value->Sem Value}{g:Int->Int}
  (rule:∀(i:Int)(t:Tok)(s:Shared)(Q:Value->Shared->Prop)(E:Value->Shared->Prop),Q (.int (g i) s.toks) {s with toks:=s.toks+1}->wpAny (model X.prog X.w) X.A (f (.int i t)) Q E s) :
  UnR X f (rU λi=>.int (g i)):=by
 intro pins s σ H x v Q I rx h
 obtain⟨i,rfl,q⟩:=h
 obtain⟨t,rfl⟩:=rx
 exact rule i t s _ _ ⟨.int (g i),H,I.tok _,⟨_,rfl⟩,q⟩
theorem zoo:UnR X (unaryOp .USub) (rU λi=>.int (-i)):=unI λ_ _ _ _ _ q=>neg_int q
end
noncomputable def scal:V->V->Bool
 | .non,.non=>true|.non,.int _=>true|.int _,.non=>true|.non,.bl _=>true|.bl _,.non=>true|.non,.str _=>true|.str _,.non=>true
 | .int _,.int _=>true|.bl _,.bl _=>true|.str _,.str _=>true|.byt _,.byt _=>true
 | .int _,.str _=>true|.str _,.int _=>true|.bl _,.str _=>true|.str _,.bl _=>true
 | _,_=>false
noncomputable def rEq:R2:=λx y H Q=>scal x y=true/\Q (.bl (decide (x=y))) H
noncomputable def rNe:R2:=λx y H Q=>scal x y=true/\Q (.bl (!decide (x=y))) H
theorem zwp{i j:Int}:decide (V.int i=V.int j)=(i==j):=by
 rw[qAx]
 simp
theorem zabn{i j:Bool}:decide (V.bl i=V.bl j)=(i==j):=by
 rw[qAx]
 simp
theorem zwq{i j:Str}:decide (V.str i=V.str j)=(i==j):=by
 rw[qAx]
 simp
theorem zabo{i j:Array UInt8}:decide (V.byt i=V.byt j)=(i.toList==j.toList):=by
 rw[qAx]
 cases i
 cases j
 simp
section
variable{X:Cx}{a b c:Expr}{ta tb tc:TE}{pos:Pos}
theorem zco{pins:List (Addr×Obj)}{σ:St}{H:Hp}{s:Shared}{Q:VK}{k k':Bool}(I:Inv X pins σ H s)(q:Q (.bl k) H)(e:k=k'):EP X pins σ Q (.bool k') s:=by
 subst e
 exact⟨.bl k,H,I,rfl,q⟩
theorem zare:OpR X (compareOp .Eq) rEq:=by
 intro pins s σ H x y v u Q I rx ry h
 obtain⟨hs,q⟩:=h
 cases x with
 | non=>
  cases rx
  cases y with
  | non=>cases ry;exact PySem.EqNone.eq_none_none (zco I q (by simp))
  | bl j=>cases ry;exact PySem.EqNone.eq_none_bool (zco I q (by simp))
  | int j=>obtain⟨t',rfl⟩:=ry;exact PySem.EqNone.eq_none_int (zco I q (by simp))
  | str j=>obtain⟨t',rfl⟩:=ry;exact PySem.EqNone.eq_none_str (zco I q (by simp))
  | _=>exact absurd (show false=true from hs) qQ
 | bl i=>
  cases rx
  cases y with
  | non=>cases ry;exact PySem.EqNone.eq_bool_none (zco I q (by simp))
  | bl j=>cases ry;exact eq_bool (zco I q zabn)
  | str j=>obtain⟨t',rfl⟩:=ry;exact PySem.EqMixed.eq_bool_str (zco I q (by simp))
  | _=>exact absurd (show false=true from hs) qQ
 | int i=>
  obtain⟨t,rfl⟩:=rx
  cases y with
  | non=>cases ry;exact PySem.EqNone.eq_int_none (zco I q (by simp))
  | int j=>obtain⟨t',rfl⟩:=ry;exact eq_int (zco I q zwp)
  | str j=>obtain⟨t',rfl⟩:=ry;exact PySem.EqMixed.eq_int_str (zco I q (by simp))
  | _=>exact absurd (show false=true from hs) qQ
 | str i=>
  obtain⟨t,rfl⟩:=rx
  cases y with
  | non=>cases ry;exact PySem.EqNone.eq_str_none (zco I q (by simp))
  | bl j=>cases ry;exact PySem.EqMixed.eq_str_bool (zco I q (by simp))
  | int j=>obtain⟨t',rfl⟩:=ry;exact PySem.EqMixed.eq_str_int (zco I q (by simp))
  | str j=>obtain⟨t',rfl⟩:=ry;exact eq_str (zco I q zwq)
  | _=>exact absurd (show false=true from hs) qQ
 | byt i=>
  obtain⟨t,rfl⟩:=rx
  cases y with
  | byt j=>obtain⟨t',rfl⟩:=ry;exact PySem.W.eq_bytes (zco I q zabo)
  | _=>exact absurd (show false=true from hs) qQ
 | _=>cases y<;>exact absurd (show false=true from hs) qQ
theorem zarf:OpR X (compareOp .NotEq) rNe:=by
 intro pins s σ H x y v u Q I rx ry h
 obtain⟨hs,q⟩:=h
 cases x with
 | non=>
  cases rx
  cases y with
  | non=>cases ry;exact PySem.EqNone.ne_none_none (zco I q (by simp))
  | bl j=>cases ry;exact PySem.EqNone.ne_none_bool (zco I q (by simp))
  | int j=>obtain⟨t',rfl⟩:=ry;exact PySem.EqNone.ne_none_int (zco I q (by simp))
  | str j=>obtain⟨t',rfl⟩:=ry;exact PySem.EqNone.ne_none_str (zco I q (by simp))
  | _=>exact absurd (show false=true from hs) qQ
 | bl i=>
  cases rx
  cases y with
  | non=>cases ry;exact PySem.EqNone.ne_bool_none (zco I q (by simp))
  | bl j=>cases ry;exact ne_bool (zco I q (congrArg not zabn))
  | str j=>obtain⟨t',rfl⟩:=ry;exact PySem.EqMixed.ne_bool_str (zco I q (by simp))
  | _=>exact absurd (show false=true from hs) qQ
 | int i=>
  obtain⟨t,rfl⟩:=rx
  cases y with
  | non=>cases ry;exact PySem.EqNone.ne_int_none (zco I q (by simp))
  | int j=>obtain⟨t',rfl⟩:=ry;exact ne_int (zco I q (congrArg not zwp))
  | str j=>obtain⟨t',rfl⟩:=ry;exact PySem.EqMixed.ne_int_str (zco I q (by simp))
  | _=>exact absurd (show false=true from hs) qQ
 | str i=>
  obtain⟨t,rfl⟩:=rx
  cases y with
  | non=>cases ry;exact PySem.EqNone.ne_str_none (zco I q (by simp))
  | bl j=>cases ry;exact PySem.EqMixed.ne_str_bool (zco I q (by simp))
  | int j=>obtain⟨t',rfl⟩:=ry;exact PySem.EqMixed.ne_str_int (zco I q (by simp))
  | str j=>obtain⟨t',rfl⟩:=ry;exact ne_str (zco I q (congrArg not zwq))
  | _=>exact absurd (show false=true from hs) qQ
 | byt i=>
  obtain⟨t,rfl⟩:=rx
  cases y with
  | byt j=>obtain⟨t',rfl⟩:=ry;exact PySem.W.ne_bytes (zco I q (congrArg not zabo))
  | _=>exact absurd (show false=true from hs) qQ
 | _=>cases y<;>exact absurd (show false=true from hs) qQ
theorem zakd:OpR X (compareOp .Lt) (rI0 λi j=>.bl (decide (i<j))):=opB0 λ_ _ _ _ _ _ _ q=>lt_int q
theorem zarg:OpR X (compareOp .GtE) (rI0 λi j=>.bl (decide (j<=i))):=opB0 λ_ _ _ _ _ _ _ q=>ge_int q
theorem OpR.or{f:Value->Value->Sem Value}{r r':R2}(h:OpR X f r)(h':OpR X f r'):OpR X f (λx y H Q=>r x y H Q\/r' x y H Q):=by
 intro pins s σ H x y v u Q I rx ry q
 rcases q with q|q
 ·exact h pins s σ H x y v u Q I rx ry q
 ·exact h' pins s σ H x y v u Q I rx ry q
theorem zek(b:Expr){op:CmpOp}(h:op≠.In:=by decide)(h2:op≠.NotIn:=by decide):behindInMarks op b=false:=by
 have e1:(op==CmpOp.In)=false:=by cases op<;>first|rfl|exact absurd rfl h
 have e2:(op==CmpOp.NotIn)=false:=by cases op<;>first|rfl|exact absurd rfl h2
 cases b<;>simp[behindInMarks,e1,e2]
theorem zake{op:CmpOp}{r:R2}(ho:OpR X (compareOp op) r)(ha:PE X a ta)(hb:PE X b tb)(hm:behindInMarks op b=false):PE X (.Compare a [op] [b] pos) (tOp r ta tb):=by
 intro pins s σ H Q I h
 exact wpAny_Compare1 (binT ha hb I h λv u s2 x y H2 I2 rx ry q=>ho pins s2 σ H2 x y v u Q I2 rx ry q) hm
noncomputable def tTest(t:TE):TT:=λσ H Q=>t σ H λx H'=>∃k,x=.bl k/\Q k H'
theorem zakf{op:CmpOp}{r:R2}(ho:OpR X (compareOp op) r)(ha:PE X a ta)(hb:PE X b tb)(hm:behindInMarks op b=false):PT X (.Compare a [op] [b] pos) (tTest (tOp r ta tb)):=by
 intro pins s σ H Q I h
 refine wpAny_isTrue_Compare1 (thn (ha pins s σ H _ I h) λv s1 ⟨x,H1,I1,r1,q1⟩=>thn (hb pins s1 σ H1 _ I1 q1) λu s2 ⟨y,H2,I2,r2,q2⟩=>
  thn (ho pins s2 σ H2 x y v u _ I2 r1 r2 q2) λc s3 ⟨z,H3,I3,r3,k,e,q3⟩=>?_) hm
 subst e
 cases r3
 exact qBR ⟨H3,I3,q3⟩
noncomputable def TruV(K:qC)(x:V)(H:Hp)(k:Bool):Prop:=
 match x with
 | .non=>k=false
 | .bl b=>k=b
 | .int i=>k=(i != 0)
 | .str y=>y.length<=qb/\k=((y.length:Int) != 0)
 | .byt y=>y.size<=qb/\k=((y.size:Int) != 0)
 | .ref p=>(∃xs,SqL K H p xs/\k=!xs.isEmpty)\/(∃xs,SqT K H p xs/\k=!xs.isEmpty)\/∃kvs,H p=some (.dK kvs)/\k=!kvs.isEmpty
 | _=>False
theorem zaaa{κ:Type}{kvs:List (κ×V)}{vs:List (κ×Value)}(r:KV kvs vs):(!vs.isEmpty)=!kvs.isEmpty:=by
 cases r<;>rfl
theorem zre{xs:List V}{its:List Value}(r:Vals xs its):(!its.toArray.isEmpty)=!xs.isEmpty:=by
 cases r<;>simp
theorem zrf:(qb:Nat)<2 ^ 63:=by rw[qA1];decide
theorem zaob:TruR X (λx H Q=>∃k,TruV X.K x H k/\Q k H):=by
 intro pins s σ H x v Q I rx h
 obtain⟨k,e,q⟩:=h
 have hl:=zrf
 have hs:qb=16777216:=qA1
 cases x with
 | non=>
  cases rx
  have e':k=false:=e
  subst e'
  exact truthy_none ⟨H,I,q⟩
 | bl b=>
  cases rx
  have e':k=b:=e
  subst e'
  exact qBR ⟨H,I,q⟩
 | int i=>
  obtain⟨t,rfl⟩:=rx
  have e':k=(i != 0):=e
  subst e'
  exact PySem.P.truthy_int ⟨H,I,q⟩
 | str y=>
  obtain⟨t,rfl⟩:=rx
  obtain⟨hy,e'⟩:y.length<=qb/\k=((y.length:Int) != 0):=e
  subst e'
  exact PySem.P.truthy_str (by omega) ⟨H,I.tok _,q⟩
 | byt y=>
  obtain⟨t,rfl⟩:=rx
  obtain⟨hy,e'⟩:y.size<=qb/\k=((y.size:Int) != 0):=e
  subst e'
  exact PySem.W.truthy_bytes (by omega) ⟨H,I.tok _,q⟩
 | ref p=>
  cases rx
  have e':(∃xs,SqL X.K H p xs/\k=!xs.isEmpty)\/(∃xs,SqT X.K H p xs/\k=!xs.isEmpty)\/∃kvs,H p=some (.dK kvs)/\k=!kvs.isEmpty:=e
  rcases e' with⟨xs,hx,e'⟩|⟨xs,hx,e'⟩|⟨kvs,hx,e'⟩
  ·subst e'
   obtain⟨its,r,pl,hz⟩:=I.list hx
   have hlen:=r.length
   exact wpAny_truthy_list pl.isList (by simp only[qO];omega) ⟨H,I.tok _,by rw[zre r];exact q⟩
  ·subst e'
   obtain⟨its,r,pl,hz⟩:=I.tuple hx
   have hlen:=r.length
   exact truthy_tuple pl (by simp only[qO];omega) ⟨H,I.tok _,by rw[zre r];exact q⟩
  ·subst e'
   obtain⟨hz,hS,vs,r,m⟩:kvs.length<=qb/\(p==sysModules)=false/\∃vs,KV kvs vs/\s.heap.DictOf (zwn X.prog X.w) p vs:=I.hok p _ hx
   have hlen:kvs.length=vs.length:=Paired.length r
   exact wpAny_truthy_dict hS m (by omega) ⟨H,I.tok _,by rw[zaaa r];exact q⟩
 | _=>exact(show False from e).elim
theorem zafx(ha:PE X a ta)(he:∀whole,isTrue a X.env whole=(do let v <- whole;standAt a.pos;holding [v] (truthy v))) :
  PT X a (λσ H Q=>ta σ H λx H'=>∃k,TruV X.K x H' k/\Q k H'):=by
 intro pins s σ H Q I h
 exact isTrue_plain (thn (ha pins s σ H _ I h) λv s1 ⟨x,H1,I1,r1,q1⟩=>zaob pins s1 σ H1 x v Q I1 r1 q1) (he _)
theorem zaab:OpR X (binaryOp .Add) (λx y H Q=>∃i j,x=.str i/\y=.str j/\i.length+j.length<=qb/\Q (.str (i++j)) H):=by
 intro pins s σ H x y v u Q I rx ry h
 obtain⟨i,j,rfl,rfl,hz,q⟩:=h
 obtain⟨t,rfl⟩:=rx
 obtain⟨t',rfl⟩:=ry
 exact add_str (λt' tk=>⟨.str (i++j),H,I.tok _,⟨_,rfl⟩,q⟩) hz
theorem zaac{x:V}{us:List Value}(r:Vals [x] us):∃u,us=[u]/\RelV x u:=by
 cases r with
 | cons r1 r2=>cases r2;exact⟨_,rfl,r1⟩
theorem zwr{x y:V}{us:List Value}(r:Vals [x,y] us):∃u w',us=[u,w']/\RelV x u/\RelV y w':=by
 cases r with
 | cons r1 r2=>
  cases r2 with
  | cons r3 r4=>cases r4;exact⟨_,_,rfl,r1,r3⟩
theorem zabp(hc:X.calm=true):CallR X (.builtin "min") (λxs H Q=>∃i j,xs=[.int i,.int j]/\Q (.int (if j<i then j else i)) H):=by
 intro pins s σ H xs us Q I r h
 obtain⟨i,j,rfl,q⟩:=h
 obtain⟨u,w',rfl,⟨t,rfl⟩,⟨t',rfl⟩⟩:=zwr r
 refine min_two_ints (I.ok.hd hc) λh' tk k=>⟨_,H,I.kept k,?_,q⟩
 by_cases hj:j<i
 ·rw[if_pos hj,if_pos hj];exact⟨_,rfl⟩
 ·rw[if_neg hj,if_neg hj];exact⟨_,rfl⟩
noncomputable def LenV(K:qC)(x:V)(H:Hp)(n:Nat):Prop:=
 match x with
 | .str y=>y.length<=qb/\n=y.length
 | .byt y=>y.size<=qb/\n=y.size
 | .ref p=>(∃xs,SqL K H p xs/\n=xs.length)\/∃xs,SqT K H p xs/\n=xs.length
 | _=>False
theorem zafy:CallR X (.builtin "len") (λxs H Q=>∃x n,xs=[x]/\LenV X.K x H n/\Q (.int n) H):=by
 intro pins s σ H xs us Q I r h
 obtain⟨x,n,rfl,e,q⟩:=h
 obtain⟨u,rfl,rx⟩:=zaac r
 have hl:=zrf
 have hs:qb=16777216:=qA1
 cases x with
 | str y=>
  obtain⟨t,rfl⟩:=rx
  obtain⟨hy,e'⟩:y.length<=qb/\n=y.length:=e
  subst e'
  exact len_str (by omega) ⟨.int _,H,I.tok _,⟨_,rfl⟩,q⟩
 | byt y=>
  obtain⟨t,rfl⟩:=rx
  obtain⟨hy,e'⟩:y.size<=qb/\n=y.size:=e
  subst e'
  exact PySem.W.len_bytes (by omega) ⟨.int _,H,I.tok _,⟨_,rfl⟩,q⟩
 | ref p=>
  cases rx
  have e':(∃xs,SqL X.K H p xs/\n=xs.length)\/∃xs,SqT X.K H p xs/\n=xs.length:=e
  rcases e' with⟨xs,hx,e'⟩|⟨xs,hx,e'⟩
  ·subst e'
   obtain⟨its,r',pl,hz⟩:=I.list hx
   have hlen:=r'.length
   exact Calls.call_len_list pl.isList (by simp only[qO];omega) ⟨.int xs.length,H,I.tok _,⟨_,by simp only[qO];rw[hlen]⟩,q⟩
  ·subst e'
   obtain⟨its,r',pl,hz⟩:=I.tuple hx
   have hlen:=r'.length
   exact len_tuple pl (by simp only[qO];omega) ⟨.int xs.length,H,I.tok _,⟨_,by simp only[qO];rw[hlen]⟩,q⟩
 | _=>exact(show False from e).elim
end
set_option genInjectivity false in
structure ObjM(h:Heap)(x dx C:Addr)(mA:Str->Option Value):Prop where
 obj:h.get? x=some (PySem.W.instObj C dx)
 ns:h.Ns1 dx mA
 ne:dx≠x
theorem zabq{h:Heap}{dx:Addr}{mA:Str->Option Value}(n:h.Ns1 dx mA):∃od,h.get? dx=some od/\∀name,PySem.W.lookIn name od=some (mA name):=by
 obtain⟨o,es,ep,ho,hd,hk,_,hm⟩:=n
 refine⟨o,ho,λname=>?_⟩
 have e:=hm name
 unfold nsFind findBy at e
 rw[<- Array.find?_toList]at e
 unfold PySem.W.lookIn
 rw[hd]
 dsimp only
 split
 ·rename_i y q
  rw[q]at e
  exact congrArg some e
 ·rename_i q
  rw[q]at e
  have a:es.toList.any (·.refKey)=false:=by
   rw[List.any_eq_false]
   intro y hy
   obtain⟨z,t,hkey⟩:=hk y (qCl.mp hy)
   simp[DictEntry.refKey,hkey]
  have a':¬es.toList.any (·.refKey)=true:=by rw[a];exact qQ
  rw[if_neg a']
  exact congrArg some e
theorem ObjM.look{h:Heap}{x dx C:Addr}{mA:Str->Option Value}(I:ObjM h x dx C mA):∃od,PySem.W.InstAt h x (PySem.W.instObj C dx) C (some od)/\∀name,PySem.W.lookIn name od=some (mA name):=
 let⟨od,ho,hl⟩:=zabq I.ns
 ⟨od,⟨I.obj,rfl,rfl,ho⟩,hl⟩
section
variable{prog:Program}{w:World}{A:Around}{E:Value->Shared->Prop}{s:Shared}{K:qC}{x dx C f:Addr}{mA:Str->Option Value}{name:Str}{v:Value}
end
theorem zabr{v:V}{u:Value}(r:RelV v u):PySem.W.handedIn u=true:=by
 cases v with
 | non=>cases(show u=Value.none from r);rfl
 | bl b=>cases(show u=Value.bool b from r);rfl
 | int i=>obtain⟨t,e⟩:=(show ∃t,u=Value.int i t from r);cases e;rfl
 | str x=>obtain⟨t,e⟩:=(show ∃t,u=Value.str x t from r);cases e;rfl
 | byt b=>obtain⟨t,e⟩:=(show ∃t,u=Value.bytes b t from r);cases e;rfl
 | flt b=>obtain⟨t,e⟩:=(show ∃t,u=Value.float b t from r);cases e;rfl
 | ref a=>cases(show u=Value.ref a from r);rfl
 | ty n=>cases(show u=Value.type n from r);rfl
section
variable{P:Program}{w:World}{H H':Hp}{h h':Heap}{a C dx:Addr}{fs fs':List (Str×V)}
theorem zakg(hok:HOk P w H h)(e:H a=some (.ins C dx fs)):∃mA,ObjM h a dx C mA/\(∀f,RelO (fs.lookup f) (mA f))/\PySem.Within mA (fs.map (·.1))/\fs.length<=1000/\H dx=some (.own a):=by
 obtain⟨d,z,ne,ob,mA,n,r,q⟩:=(show zfv P w H h a (.ins C dx fs)from hok a _ e)
 exact⟨mA,⟨ob,n,ne⟩,r,q,z,d⟩
end
set_option genInjectivity false in
structure Cls(K:qC)(C:Addr):Prop where
 pg:PySem.W.plainGet K C Str.empty=true
 hd:PySem.W.hasDictIn K C=true
 po:PySem.W.plainOver K C=true
 sa:PySem.W.findIn K (.ref C) "__setattr__"=some (some (.builtin "object.__setattr__"))
theorem Cls.get{K:qC}{C:Addr}(c:Cls K C)(f:Str):PySem.W.plainGet K C f=true:=c.pg
set_option genInjectivity false in
set_option genInjectivity false in
section
variable{X:Cx}{pins:List (Addr×Obj)}{σ:St}{H:Hp}{s:Shared}{a C dx:Addr}{fs:List (Str×V)}{f:Str}{v:V}{A:Around}{E:Value->Shared->Prop}
theorem zakh{prog:Program}{w:World}{env:Env}{e:Expr}{f:Str}{pos:Pos}{s:Shared}{Q:Value->Shared->Prop}(hb:attributeBase e f env (eval e env)=eval e env)
  (h:wpAny (model prog w) A (eval e env) (λo s₁=>wpAny (model prog w) A (getAttr o f true) Q E s₁) E s):wpAny (model prog w) A (eval (.Attribute e f pos) env) Q E s:=
 Attribute_any_ h (by rw[arm_eval_Attribute,hb])
end
section
variable{X:Cx}{o e value:Expr}{f:Str}{pos pos' tpos:Pos}{ta tv:TE}
end
section
variable{X:Cx}{pins:List (Addr×Obj)}{σ:St}{H:Hp}{s:Shared}{A:Around}{E:Value->Shared->Prop}{Q:Value->Shared->Prop}{c:Value}{b:Bool}
inductive TyOf(K:qC)(H:Hp):V->Value->Prop where
 | non:TyOf K H .non (.type "NoneType")
 | bl (x:Bool):TyOf K H (.bl x) (.type "bool")
 | int (i:Int):TyOf K H (.int i) (.type "int")
 | str (x:Str):TyOf K H (.str x) (.type "str")
 | flt (x:UInt64):TyOf K H (.flt x) (.type "float")
 | lst {a:Addr} {xs:List V} (e:H a=some (.lst xs)):TyOf K H (.ref a) (.type "list")
 | frz {a:Addr} {o:Obj} {xs:List V} (e:H a=some (.frz o (.lst xs))):TyOf K H (.ref a) (.type "list")
 | tup {a:Addr} {xs:List V} (e:H a=some (.tup xs)):TyOf K H (.ref a) (.type "tuple")
 | dK {a:Addr} {kvs:List (Key×V)} (e:H a=some (.dK kvs)):TyOf K H (.ref a) (.type "dict")
 | dT {a:Addr} {kvs:List (List Key×V)} (e:H a=some (.dT kvs)):TyOf K H (.ref a) (.type "dict")
 | ins {a C dx:Addr} {fs:List (Str×V)} (e:H a=some (.ins C dx fs)) (cl:Cls K C) (ha:PySem.W.findIn K (.ref C) "__class__"=some (some (.builtin "object.__class__")))
   (hn:PySem.W.specialIn K (.builtin "object.__class__") "__get__"=some (some (.builtin "getset_descriptor.__get__")))(htk:PySem.W.takesIn K (.builtin "object.__class__")=some true)
   (hm:PySem.W.mroIn K C (.type "object")=some true):TyOf K H (.ref a) (.ref C)
theorem zabs {x:V} {u t:Value} (I:Inv X pins σ H s) (rx:RelV x u) (ty:TyOf X.K H x t) (e:PySem.W.kitOne X.K t c=some b) (h:∀tk,Q (.bool b) {s with toks:=tk}) :
  wpAny (model X.prog X.w) A (call (.builtin "isinstance") [u,c]) Q E s:=by
 cases ty with
 | non=>cases(show u=Value.none from rx);exact qAV PySem.W.kitx_none I.kIn True.intro e (λz=>nomatch z) h
 | bl y=>cases(show u=Value.bool y from rx);exact qAV PySem.W.kitx_bool I.kIn True.intro e (λz=>nomatch z) h
 | int i=>obtain⟨t,q⟩:=(show ∃t,u=Value.int i t from rx);cases q;exact qAV PySem.W.kitx_int I.kIn True.intro e (λz=>nomatch z) h
 | str y=>obtain⟨t,q⟩:=(show ∃t,u=Value.str y t from rx);cases q;exact qAV PySem.W.kitx_str I.kIn True.intro e (λz=>nomatch z) h
 | flt y=>obtain⟨t,q⟩:=(show ∃t,u=Value.float y t from rx);cases q;exact qAV PySem.W.kitx_float I.kIn True.intro e (λz=>nomatch z) h
 | @lst a xs ea=>
  cases(show u=Value.ref a from rx)
  obtain⟨_,_,n,_,h1⟩:=(show zfv X.prog X.w H s.heap a (.lst xs)from I.hok a _ ea)
  exact qAV qCm I.kIn ⟨_,h1,rfl⟩ e (λz=>nomatch z) h
 | @frz a ob xs ea=>
  cases(show u=Value.ref a from rx)
  obtain⟨_,_,_,n,_,h1⟩:=(show zfv X.prog X.w H s.heap a (.frz ob (.lst xs))from I.hok a _ ea)
  exact qAV qCm I.kIn ⟨_,h1,rfl⟩ e (λz=>nomatch z) h
 | @tup a xs ea=>
  cases(show u=Value.ref a from rx)
  obtain⟨_,_,_,p⟩:=(show zfv X.prog X.w H s.heap a (.tup xs)from I.hok a _ ea)
  obtain⟨o,h1,h2,_⟩:=p
  exact qAV PySem.W.kitx_tuple I.kIn ⟨o,h1,h2⟩ e (λz=>nomatch z) h
 | @dK a kvs ea=>
  cases(show u=Value.ref a from rx)
  obtain⟨_,_,vs,_,p⟩:=(show zfv X.prog X.w H s.heap a (.dK kvs)from I.hok a _ ea)
  obtain⟨o,es,ep,h1,h2,_⟩:=p
  exact qAV qCn I.kIn ⟨o,h1,h2.1⟩ e (λz=>nomatch z) h
 | @dT a kvs ea=>
  cases(show u=Value.ref a from rx)
  obtain⟨_,_,xs,_,o,es,ep,h1,h2,_⟩:=(show zfv X.prog X.w H s.heap a (.dT kvs)from I.hok a _ ea)
  exact qAV qCn I.kIn ⟨o,h1,h2.1⟩ e (λz=>nomatch z) h
 | @ins a C dx fs ea cl ha hn htk hm=>
  cases(show u=Value.ref a from rx)
  obtain⟨mA,O,_⟩:=zakg I.hok ea
  obtain⟨od,J,_⟩:=O.look
  exact qAV (PySem.W.kitx_own (cl.get _) cl.hd ha hn htk hm) I.kIn J e (λz=>nomatch z) h
end
set_option genInjectivity false in
structure Room(k:Nat)(A:Around):Prop where
 hd:A.handled=none
 dp:A.depth+3 * k+5<recursionLimit
 un:A.units+16 * k+200<cLine
theorem Room.mono{j k:Nat}{A:Around}(r:Room k A)(h:j<=k):Room j A:=⟨r.hd,by have:=r.dp;omega,by have:=r.un;omega⟩
theorem Room.deeper{k:Nat}{A:Around}(r:Room (k+1) A)(env:Env):Room k (A.deeper env):=
 ⟨r.hd,by have:=r.dp;show A.depth+1+3 * k+5<_;omega,by have:=r.un;show A.units+3+16 * k+200<_;omega⟩
theorem zaad{A:Around}{C:Addr}{us:List Value}{kw:List (Str×Value)}:(A.under (.builtin "type.__call__" ⟨.ref C::us,kw⟩)).depth=A.depth+1:=by
 first|rfl|simp[Around.under,Code.weight,Code.isCreation,Code.isGuard,Code.isCaller,Code.frames,Code.isFrame,guardIds]
theorem zaae{A:Around}{C:Addr}{us:List Value}{kw:List (Str×Value)}:(A.under (.builtin "type.__call__" ⟨.ref C::us,kw⟩)).units=A.units+1:=by
 first|rfl|simp[Around.under,Code.cUnits,Code.frames,Code.isFrame]
theorem Room.make{k:Nat}{A:Around}(r:Room (k+1) A)(C:Addr)(us:List Value)(kw:List (Str×Value)):Room k (A.under (.builtin "type.__call__" ⟨.ref C::us,kw⟩)):=
 ⟨r.hd,by have:=r.dp;rw[zaad];omega,by have:=r.un;rw[zaae];omega⟩
theorem Room.depth{k:Nat}{A:Around}(r:Room k A):A.depth<recursionLimit:=by have:=r.dp;omega
theorem Room.units{k:Nat}{A:Around}(r:Room k A):A.units+64<cLine:=by have:=r.un;omega
noncomputable def tNil:TA:=λ_ H Q=>Q [] H
noncomputable def tCons(ta:TE)(tr:TA):TA:=λσ H Q=>ta σ H λx H1=>tr σ H1 λxs H2=>Q (x::xs) H2
section
variable{X:Cx}{e:Expr}{es:List Expr}{te:TE}{t:TA}{pos:Pos}
theorem zabt:PA X [] tNil:=λ_ _ _ _ H Q I h=>qB9 ⟨[],H,I,.nil,h⟩
theorem zsr(ha:PE X e te)(hr:PA X es t)(hs:starEach (e::es) X.env=(false,eval e X.env)::starEach es X.env:=by rfl):PA X (e::es) (tCons te t):=by
 intro pos pins s σ H Q I h
 rw[hs]
 show wpAny _ _ (spliced ((false,eval e X.env)::backTo pos (starEach es X.env))) _ _ s
 refine qB3 (thn (ha pins s σ H _ I h) λu s1 ⟨x,H1,I1,r1,q1⟩=>?_)
 exact thn (hr pos pins s1 σ H1 _ I1 q1) λus s2 ⟨xs,H2,I2,r2,q2⟩=>⟨x::xs,H2,I2,.cons r1 r2,q2⟩
noncomputable def tTup(t:TA):TE:=λσ H Q=>t σ H λxs H1=>xs.length<=qb/\∀p,H1 p=none->Q (.ref p) (upd H1 p (.tup xs))
noncomputable def tLst(t:TA):TE:=λσ H Q=>t σ H λxs H1=>xs.length<=qb/\∀p,H1 p=none->Q (.ref p) (upd H1 p (.lst xs))
theorem zaoc{x1}(h:PA X es t):PE X (.Tuple es x1 pos) (tTup t):=by
 intro pins s σ H Q I hq
 refine wpAny_Tuple_spliced (thn (h pos pins s σ H _ I hq) λus s1 ⟨xs,H1,I1,r,z,q⟩=>⟨by rw[<- r.length];exact z,?_⟩)
 have hf:H1 s1.heap.objs.size=none:=I1.hok.fresh (qL _)
 refine⟨.ref s1.heap.objs.size,upd H1 s1.heap.objs.size (.tup xs),I1.laid (t':=s1.toks) (λb u e=>qG _ e) (qL _) ?_,rfl,q _ hf⟩
 exact⟨z,us,r,⟨_,qe _ rfl,rfl,_,rfl⟩⟩
theorem zaod(h:PA X es t):PE X (.List es pos) (tLst t):=by
 intro pins s σ H Q I hq
 refine wpAny_List_spliced (thn (h pos pins s σ H _ I hq) λus s1 ⟨xs,H1,I1,r,z,q⟩=>⟨by rw[<- r.length];exact z,?_⟩)
 have hf:H1 s1.heap.objs.size=none:=I1.hok.fresh (qL _)
 refine⟨.ref s1.heap.objs.size,upd H1 s1.heap.objs.size (.lst xs),I1.laid (t':=s1.toks) (λb u e=>qG _ e) (qL _) ?_,rfl,q _ hf⟩
 exact⟨z,us,0,r,qe _ rfl⟩
end
noncomputable abbrev Sp:=List V->Hp->VK->XK->Prop
noncomputable abbrev CXT:=List Env->Hp->Shared->XK->Value->Shared->Prop
set_option genInjectivity false in
structure Env0(P:Program)(w:World)(K:qC)(mg:Str->Option Value)(base:Heap)(A:Around)(outer:List Env)(s:Shared)(H:Hp):Prop where
 frames:A.frames=some outer
 mod:Mod K mg base
 bs:∀b o,base.get? b=some o->s.heap.get? b=some o/\H b=none
 bsz:base.objs.size<=s.heap.objs.size
 funs:s.heap.FunFrames base outer
 frf:∀b∈frs outer,H b=none
 hok:HOk P w H s.heap
 bare:AllBare s.gens
noncomputable def CE(outer:List Env)(P:Program)(w:World)(H:Hp)(s:Shared)(Q:VK)(u:Value)(s':Shared):Prop:=
 ∃v H',s'.os=s.os/\AllBare s'.gens/\Un (frs outer) [] H H' s.heap s'.heap/\HOk P w H' s'.heap/\RelV v u/\Q v H'
noncomputable def CR(CX:CXT)(outer:List Env)(P:Program)(w:World)(H:Hp)(s:Shared)(Q:VK)(E:XK)(r:Result)(s':Shared):Prop:=
 match r with
 | .ok (.ret u)=>CE outer P w H s Q u s'
 | .ok _=>False
 | .error e=>CX outer H s E e s'
set_option genInjectivity false in
structure FnOk(P:Program)(w:World)(K:qC)(mg:Str->Option Value)(base:Heap)(CX:CXT)(k:Nat)(f:Addr)(fd:qAF)(ps:List Str)(sp:Sp):Prop where
 len:∀vs H Q E,sp vs H Q E->vs.length=ps.length
 run:∀(A:Around)(outer:List Env)(s:Shared)(H:Hp)(args:Args)(us:List Value)(vs:List V)(Q:VK)(E:XK),Room k A->Env0 P w K mg base A outer s H->BindsTo s fd args (ps.zip us)->Vals vs us->sp vs H Q E->
  codeAny (model P w) A (.call (.ref f) args) (CR CX outer P w H s Q E) s
theorem Env0.make{P:Program}{w:World}{K:qC}{mg:Str->Option Value}{base:Heap}{A:Around}{outer:List Env}{s:Shared}{H:Hp}(e:Env0 P w K mg base A outer s H)(C:Addr)(us:List Value)(kw:List (Str×Value)) :
  Env0 P w K mg base (A.under (.builtin "type.__call__" ⟨.ref C::us,kw⟩)) outer s H:=⟨by first|exact e.frames|(simpa [Around.under,Code.envs,Code.isFrame,pushEnvs]using e.frames),e.mod,e.bs,e.bsz,e.funs,e.frf,e.hok,e.bare⟩
section
variable{X:Cx}{pins:List (Addr×Obj)}{σ:St}{H:Hp}{s s':Shared}
theorem Inv.env0(I:Inv X pins σ H s):Env0 X.prog X.w X.K X.mg X.base X.A X.stack s H:=
 ⟨I.ok.frames,I.ok.mod,I.bs,qAC I.ok.bsz I.sz,I.stack,I.stkFree,I.hok,I.bare⟩
theorem Inv.after{Q:VK}{u:Value}(I:Inv X pins σ H s)(h:CE X.stack X.prog X.w H s Q u s'):EP X pins σ Q u s':=by
 obtain⟨v,H',os,bare,un,hok,r,q⟩:=h
 obtain⟨hh,g,d,t,os'⟩:=s'
 obtain rfl:os'=s.os:=os
 exact⟨v,H',I.call (h':=hh) (g':=g) (d':=d) (t':=t) (ch:=[]) un hok bare (λb z=>absurd z (by simp)),r,q⟩
end
noncomputable def tCall(sp:Sp)(dvs:List V)(E:XK)(t:TA):TE:=λσ H Q=>t σ H λvs H1=>sp (vs++dvs) H1 Q E
noncomputable def znw(K:qC)(fd:qAF)(ps:List Str)(ds:List Value):Prop:=
 ∀(s:Shared)(us:List Value),K.In s.heap->(us++ds).length=ps.length->BindsTo s fd ⟨us,[]⟩ (ps.zip (us++ds))
theorem znw.all{K:qC}{fd:qAF}{ps:List Str}(h:∀us:List Value,us.length=ps.length->bindArgs fd ⟨us,[]⟩=pure (ps.zip us)):znw K fd ps []:=λs us _ hl=>by
 rw[qAL]at hl ⊢
 exact .of_eq (h us hl)
noncomputable def zuh(CX:CXT)(X:Cx)(E:XK):Prop:=∀(pins:List (Addr×Obj))(σ:St)(H:Hp)(s:Shared)(e:Value)(s':Shared),Inv X pins σ H s->CX X.stack H s E e s'->X.xe e s'
section
variable{X:Cx}{CX:CXT}{k:Nat}{f C:Addr}{fd:qAF}{ps:List Str}{sp:Sp}{dvs:List V}{ds:List Value}{E:XK}{x m:Str}{p pos apos:Pos}{e o:Expr}{es:List Expr}{ta:TE}{t:TA}
theorem zaoe{pins:List (Addr×Obj)}{σ:St}{H:Hp}{s:Shared}{Q:VK}{us:List Value}{vs:List V}(F:FnOk X.prog X.w X.K X.mg X.base CX k f fd ps sp)(hr:Room k X.A)(hb:znw X.K fd ps ds)(hd:Vals dvs ds)(hx:zuh CX X E)
  (I:Inv X pins σ H s) (r:Vals vs us) (h:sp (vs++dvs) H Q E):wpAny (model X.prog X.w) X.A (call (.ref f) us) (EP X pins σ Q) X.xe s:=by
 have r2:Vals (vs++dvs) (us++ds):=r.append hd
 have hl:(us++ds).length=ps.length:=by rw[<- r2.length];exact F.len _ _ _ _ h
 refine qCL (qBT (F.run X.A X.stack s H ⟨us,[]⟩ (us++ds) (vs++dvs) Q E hr I.env0 (hb s us I.kIn hl) r2 h) λr s' hq=>?_)
 cases r with
 | error e=>exact hx pins σ H s e s' I hq
 | ok fl=>
  cases fl with
  | ret u=>exact I.after hq
  | next=>exact False.elim hq
  | brk=>exact False.elim hq
  | cont=>exact False.elim hq
theorem zabu(F:FnOk X.prog X.w X.K X.mg X.base CX k f fd ps sp)(hr:Room k X.A)(hg:Gl X x)(hm:X.mg x=some (.ref f))(hk:qY X.K (.ref f)=true)(hb:znw X.K fd ps ds)(hd:Vals dvs ds)(hx:zuh CX X E)
  (ha:PA X (e::es) t)(hdb:(x==("__debug__":Str))=false:=by decide)(he:starEach (e::es) X.env=(false,eval e X.env)::starEach es X.env:=by rfl)(hpl:(backTo pos (starEach es X.env)).any (·.1)=false:=by rfl) :
  PE X (.Call (.Name x p) (e::es) [] pos) (tCall sp dvs E t):=by
 intro pins s σ H Q I h
 refine qAu (zom I hg hm ?_ hdb)
 refine qBv (h₀:=X.base) I.ok.mod.kin hk (thn (ha pos pins s σ H _ I h) λus s1 ⟨vs,H1,I1,r,q⟩=>⟨I1.kIn,?_⟩) he hpl
 exact zaoe F hr hb hd hx I1 r q
set_option genInjectivity false in
end
section
variable{X:Cx}{CX:CXT}{k:Nat}{f C:Addr}{fd:qAF}{ps ks:List Str}{sp:Sp}{E:XK}{x m:Str}{p pos apos kpos:Pos}{e o:Expr}{es:List Expr}{kws:List Keyword}{te ta:TE}{t tk:TA}{nm:Option Str}
set_option genInjectivity false in
variable{g:List Value->List Value->List Value}{gV:List V->List V->List V}
end
set_option genInjectivity false in
structure FnScope(N P:List Str)(sc:Scope):Prop where
 kind:sc.kind=.function
 co:sc.isCoroutine=false
 gen:sc.isGenerator=false
 nd:N.Nodup
 pre:N.take P.length=P
 par:∀x∈P,sc.names.lookup x=some .local\/sc.names.lookup x=some .cell
 nofree:∀y∈sc.names,y.2≠.free
theorem zui{kindOf:Str->Option NameKind}{x:Str}:∀{binds:List (Str×Value)}{m:Str->Option Value},(∀v,(x,v)∉binds)->bindL kindOf binds m x=m x
 | [],_,_=>rfl
 | (n,v)::r,m,h=>by
  unfold bindL
  rw[zui λw hw=>h w (qR _ hw)]
  split
  ·have:x≠n:=by rintro rfl;exact h v qc
   simp[this]
  ·rfl
theorem zuj{kindOf:Str->Option NameKind}{x:Str}:∀{binds:List (Str×Value)}{m:Str->Option Value},(∀v,(x,v)∉binds)->bindC kindOf binds m x=m x
 | [],_,_=>rfl
 | (n,v)::r,m,h=>by
  unfold bindC
  rw[zuj λw hw=>h w (qR _ hw)]
  split
  ·rfl
  ·have:x≠n:=by rintro rfl;exact h v qc
   simp[this]
theorem zuk{kindOf:Str->Option NameKind}{x:Str}{v:Value}:∀{P:List Str}{vs:List Value}{i:Nat}{m:Str->Option Value},P.Nodup->P[i]?=some x->vs[i]?=some v->kindOf x=some .local->
  bindL kindOf (P.zip vs) m x=some v
 | [],_,_,_,_,h,_,_=>by simp at h
 | _::_,[],_,_,_,_,h,_=>by simp at h
 | p::P,w::vs,0,m,nd,h1,h2,hk=>by
  simp at h1 h2;subst h1;subst h2
  show bindL kindOf ((p,w)::P.zip vs) m p=_
  unfold bindL
  rw[zui λv hv=>(qBV.mp nd).1 (qBm hv).1,if_pos hk]
  simp
 | p::P,w::vs,i+1,m,nd,h1,h2,hk=>by
  show bindL kindOf ((p,w)::P.zip vs) m x=_
  unfold bindL
  exact zuk (i:=i) (qBV.mp nd).2 (by simpa using h1) (by simpa using h2) hk
theorem zul{kindOf:Str->Option NameKind}{x:Str}{v:Value}:∀{P:List Str}{vs:List Value}{i:Nat}{m:Str->Option Value},P.Nodup->P[i]?=some x->vs[i]?=some v->kindOf x≠some .local->
  bindC kindOf (P.zip vs) m x=some v
 | [],_,_,_,_,h,_,_=>by simp at h
 | _::_,[],_,_,_,_,h,_=>by simp at h
 | p::P,w::vs,0,m,nd,h1,h2,hk=>by
  simp at h1 h2;subst h1;subst h2
  show bindC kindOf ((p,w)::P.zip vs) m p=_
  unfold bindC
  rw[zuj λv hv=>(qBV.mp nd).1 (qBm hv).1,if_neg hk]
  simp
 | p::P,w::vs,i+1,m,nd,h1,h2,hk=>by
  show bindC kindOf ((p,w)::P.zip vs) m x=_
  unfold bindC
  exact zul (i:=i) (qBV.mp nd).2 (by simpa using h1) (by simpa using h2) hk
noncomputable def zgi(N:List Str)(vs:List V):St:=vs.map some++List.replicate (N.length - vs.length) none
noncomputable def cxOf(CX:CXT)(P:Program)(w:World)(K:qC)(mg:Str->Option Value)(base:Heap)(N:List Str)(qual:Str)(scope:Scope)(f:Addr)(cd:Value)(A:Around)(outer:List Env)(s:Shared)(H:Hp)(E:XK):Cx where
 prog:=P
 w:=w
 K:=K
 mg:=mg
 base:=base
 A:=A.deeper (envOfC qual scope s.heap.objs.size f cd)
 N:=N
 s₀:=s
 H₀:=H
 env:=envOfC qual scope s.heap.objs.size f cd
 outer:=outer
 stack:=envOfC qual scope s.heap.objs.size f cd::outer
 ex:=[]
 calm:=true
 fn:=λ_=>true
 pn:=[]
 xe:=λe s'=>wpAny (model P w) (A.deeper (envOfC qual scope s.heap.objs.size f cd)) (leaving (envOfC qual scope s.heap.objs.size f cd) e) (λ_ s''=>CX outer H s E e s'') (λe' s''=>CX outer H s E e' s'') s'
theorem zss{sc:Scope}{n:Nat}{x:Str}(h:sc.names.lookup x=some .cell):∃c,(cellsFrom n sc.names []).lookup x=some c:=by
 have q:=qBe sc.names n [] (.inl h)
 exact Option.isSome_iff_exists.mp q
theorem zum{CX:CXT}{P:Program}{w:World}{K:qC}{mg:Str->Option Value}{base:Heap}{N ps:List Str}{qual:Str}{scope:Scope}{f:Addr}{cd:Value}{A:Around}{outer:List Env}{s s1:Shared}{H:Hp}{E:XK}{us:List Value}{vs:List V}
  (S:FnScope N ps scope)(hd:A.handled=none)(e0:Env0 P w K mg base A outer s H)(hl:vs.length=ps.length)(r:Vals vs us)
  (x:InCallC s s.heap.objs.size (bindL (envOfC qual scope s.heap.objs.size f cd).kindOf (ps.zip us) λ_=>none) (cellsFrom (s.heap.objs.size+1) scope.names []) (bindC (envOfC qual scope s.heap.objs.size f cd).kindOf (ps.zip us) λ_=>none) s1) :
  Inv (cxOf CX P w K mg base N qual scope f cd A outer s H E) [] (zgi N vs) H s1:=by
 have hpl:ps.length<=N.length:=by have:=congrArg List.length S.pre;rw[qAi]at this;omega
 obtain⟨h1,tk,rfl,hk⟩:=x.done
 have noA:∀b:Addr,b∉(cxOf CX P w K mg base N qual scope f cd A outer s H E).ex:=λb z=>absurd (show b∈([]:List Addr)from z) (by simp)
 refine⟨⟨e0.mod,S.kind,rfl,rfl,qL _,λy z c h1 h2=>?_,λy hy=>?_,λy c _ h=>?_,λ_=>hd,Around.frames_deeper e0.frames,.inr ⟨rfl,rfl⟩,λb z=>absurd z (noA b),e0.bs,e0.bsz,λb _ _=>noA b,λb z=>absurd z (noA b),e0.funs,e0.frf⟩,
  rfl,e0.bare,Un.kept hk,⟨_,x.toInCall.ns,λi y v h1 h2 h3=>?_⟩,λy c h=>⟨_,x.cell y c h⟩,e0.hok.fresh (qL _),λy c h=>?_,λp hp=>absurd (show p∈([]:List (Addr×Obj))from hp) (by simp),e0.hok.kept hk,?_⟩
 ·exact name_of_addr x.apart (qAM h1) (qAM h2)
 ·have hy:scope.names.lookup y=some .cell\/scope.names.lookup y=some .free:=hy
  rcases hy with hy|hy
  ·exact zss hy
  ·exact absurd rfl (S.nofree _ (qAM hy))
 ·exact qBs (x.above y c (qAM h))
 ·have hi:i<vs.length:=by
   unfold zgi at h2
   by_cases hi:i<vs.length
   ·exact hi
   ·rw[qh (by simpa using hi)]at h2
    rw[qBi]at h2
    split at h2<;>cases h2
  have ha:vs[i]?=some v:=by
   unfold zgi at h2
   rw[qAN (by simpa using hi),qa]at h2
   cases e:vs[i]? with
   | none=>rw[e]at h2;cases h2
   | some a=>rw[e]at h2;cases h2;rfl
  obtain⟨u,hu,rv⟩:=r.get ha
  have hp:ps[i]?=some y:=by
   rw[<- S.pre,qCX (by omega)];exact h1
  have ndP:ps.Nodup:=by rw[<- S.pre];exact S.nd.sublist (List.take_sublist _ _)
  refine⟨u,rv,?_⟩
  rcases S.par y (qAv hp)with k|k
  ·exact .inl ⟨k,zuk ndP hp hu k⟩
  ·obtain⟨c,e⟩:=zss (n:=s.heap.objs.size+1) k
   refine .inr ⟨.inl k,c,e,?_⟩
   have q:=x.cell y c e
   rw[zul ndP hp hu (by show scope.names.lookup y≠_;rw[k];decide)]at q
   exact q
 ·exact e0.hok.fresh (qBs (x.above y c (qAM h)))
 ·unfold zgi
  show _=N.length
  rw[qI,qD,qBn]
  omega
theorem zarh{CX:CXT}{P:Program}{w:World}{K:qC}{mg:Str->Option Value}{base:Heap}{k:Nat}{f:Addr}{name qual:Str}{params:Arguments}{body:List Stmt}{scope:Scope}{dV kV doc pm cdv ct oc:Value}{an od:Option Addr}
  {osl:Array (Option Value)}{N ps:List Str}{sp:Sp}(lk:K.lookup f=some ⟨oc,od,.func (qt name qual params body scope dV kV doc pm an cdv ct),osl⟩)(hcd:qp K cdv qual=true)(S:FnScope N ps scope)
  (len:∀vs H Q E,sp vs H Q E->vs.length=ps.length)
  (hbody:∀(A:Around)(outer:List Env)(s:Shared)(H:Hp)(vs:List V)(Q:VK)(E:XK),Room k (A.deeper (envOfC qual scope s.heap.objs.size f cdv))->sp vs H Q E->
   ∃t,PSs (cxOf CX P w K mg base N qual scope f cdv A outer s H E) body t/\t {nx:=λ_ H'=>Q .non H',rt:=Q} (zgi N vs) H) :
  FnOk P w K mg base CX (k+1) f (qt name qual params body scope dV kV doc pm an cdv ct) ps sp:=by
 refine⟨len,λA outer s H args us vs Q E hr e0 hb r hsp=>?_⟩
 have hl:=len _ _ _ _ hsp
 have KX:K.In s.heap:=e0.mod.kin.keeps λb o e=>(e0.bs b o e).1
 have lim:s.heap.NoLimit:=e0.mod.nolimit.keeps λb o e=>(e0.bs b o e).1
 have hkind:∀y∈ps.zip us,scope.names.lookup y.1=some .local\/(scope.names.lookup y.1=some .cell/\((cellsFrom (s.heap.objs.size+1) scope.names []).lookup y.1).isSome=true):=λ⟨n,v⟩ hy=>by
  rcases S.par n (qBm hy).1 with q|q
  ·exact .inl q
  ·exact .inr ⟨q,qBe _ _ _ (.inl q)⟩
 refine codeAny_call_function hr.depth (KX _ _ lk) rfl S.co S.gen rfl (qCj KX hcd) (hb _ _ _ _ ?_)
 refine qCi S.kind hkind λenv he s1 x=>?_
 subst he
 refine⟨lim.keeps x.toInCall.keep,codeAny_func ?_⟩
 obtain⟨t,ht,hq⟩:=hbody A outer s H vs Q E (hr.deeper _) hsp
 have I:Inv (cxOf CX P w K mg base N qual scope f cdv A outer s H E) [] (zgi N vs) H s1:=zum S hr.hd e0 hl r x
 refine qBZ (ht [] s1 (zgi N vs) H _ I hq) (λfl s' hs=>?_) λe s' hs=>hs
 have fin:∀{σ':St}{H':Hp}{v:V}{u:Value},Inv (cxOf CX P w K mg base N qual scope f cdv A outer s H E) [] σ' H' s'->RelV v u->Q v H'->CE outer P w H s Q u s':=
  λ{σ' H' v u} J rv q=>⟨v,H',J.os,J.bare,J.base,J.hok,rv,q⟩
 cases fl with
 | ret u=>
  obtain⟨v,σ',H',J,rv,q⟩:=hs
  exact fin J rv q
 | next=>
  obtain⟨σ',H',J,q⟩:=hs
  exact fin (v:=V.non) (u:=Value.none) J rfl q
 | brk=>
  obtain⟨_,_,_,q⟩:=hs
  exact False.elim q
 | cont=>
  obtain⟨_,_,_,q⟩:=hs
  exact False.elim q
section
variable{X:Cx}{x:Str}{p pos:Pos}{e:Expr}{es:List Expr}{t:TA}{id T:String}{r:List V->Hp->VK->Prop}
noncomputable def tCB(r:List V->Hp->VK->Prop)(t:TA):TE:=λσ H Q=>t σ H λvs H1=>r vs H1 Q
theorem zafz(hc:CallR X (.builtin id) r)(hg:Gl X x)(hm:X.mg x=none)(hv:bootBuiltins x=some (.builtin id))(ha:PA X (e::es) t)(hn:x≠"__name__":=by decide)(hdb:(x==("__debug__":Str))=false:=by decide)
  (he:starEach (e::es) X.env=(false,eval e X.env)::starEach es X.env:=by rfl) (hpl:(backTo pos (starEach es X.env)).any (·.1)=false:=by rfl):PE X (.Call (.Name x p) (e::es) [] pos) (tCB r t):=by
 intro pins s σ H Q I h
 refine qAu (zlv I hg hm hv ?_ hn hdb)
 exact PyProof.Rows.callWith_builtin1 (thn (ha pos pins s σ H _ I h) λus s1 ⟨vs,H1,I1,r1,q1⟩=>hc pins s1 σ H1 vs us Q I1 r1 q1) he hpl
theorem zabv(hc:CallR X (.type T) r)(hg:Gl X x)(hm:X.mg x=none)(hv:bootBuiltins x=some (.type T))(ha:PA X (e::es) t)(hn:x≠"__name__":=by decide)(hdb:(x==("__debug__":Str))=false:=by decide)
  (he:starEach (e::es) X.env=(false,eval e X.env)::starEach es X.env:=by rfl) (hpl:(backTo pos (starEach es X.env)).any (·.1)=false:=by rfl):PE X (.Call (.Name x p) (e::es) [] pos) (tCB r t):=by
 intro pins s σ H Q I h
 refine qAu (zlv I hg hm hv ?_ hn hdb)
 exact qBH (thn (ha pos pins s σ H _ I h) λus s1 ⟨vs,H1,I1,r1,q1⟩=>hc pins s1 σ H1 vs us Q I1 r1 q1) he hpl
end
end L2
namespace HT
open PySem PyProof.Rows
section
open PySem.SeqAt
open PySem.AutoSeq1 (wpAny_loadPart')
open PySem.MeetsSeq PySem.MeetsSeq2 PySem.MeetsSeq3
end
section
variable{prog:Program}{w:World}{A:Around}{E:Value->Shared->Prop}{s:Shared}
theorem cat_tup{t b:Addr}{vs ws:List Value}{Q:Value->Shared->Prop}(ht:IsTup s.heap t vs.toArray)(hb:IsTup s.heap b ws.toArray)(hv:vs≠[])
  (h1:ws=[]->Q (.ref t) s) (h2:ws≠[]->Q (.ref s.heap.objs.size) {s with heap:=s.heap.push {cls:=.type "tuple",data:=.seq (vs++ws).toArray}})
  (hsz:vs.length+ws.length<=qb):wpAny (model prog w) A (binaryOp .Add (.ref t) (.ref b)) Q E s:=by
 obtain⟨⟨cls,dd,data,sl⟩,ho,hc,n,hd⟩:=id ht
 obtain⟨⟨cls2,dd2,data2,sl2⟩,ho2,hc2,n2,hd2⟩:=id hb
 simp only at hc hd hc2 hd2
 subst hc hd hc2 hd2
 have e:vs.toArray++ws.toArray=(vs++ws).toArray:=by simp
 by_cases hw:ws=[]
 ·exact concat_meets ⟨_,ho,rfl⟩ ⟨_,ho2,rfl⟩ qCS seq_tuple_add qBf qBd (qBX _ _)
   (tuple_addW1 t b vs.toArray ws.toArray n n2 dd dd2 sl sl2 (by simpa using hv) (by simp[hw])) ⟨ho,ho2,h1 hw⟩
 ·refine concat_meets ⟨_,ho,rfl⟩ ⟨_,ho2,rfl⟩ qCS seq_tuple_add qBf qBd (qBX _ _)
   (tuple_addW2 t b vs.toArray ws.toArray n n2 dd dd2 sl sl2 (by simpa using hv) (by simpa using hw) (by rw[qO,qO];exact hsz)) ⟨ho,ho2,?_⟩
  rw[e]
  exact h2 hw
noncomputable def sIx(n d:Nat):Option Int->Nat
 | none=>d
 | some v=>if v<0 then(v+(n:Int)).toNat else min v.toNat n
theorem sIx_nat(n d k:Nat):sIx n d (some (k:Int))=min k n:=by
 show(if(k:Int)<0 then((k:Int)+(n:Int)).toNat else min (k:Int).toNat n)=min k n
 rw[if_neg (by omega),qAo]
theorem zaof(n d:Nat)(hd:d<=n)(o:Option Int):sIx n d o<=n:=by
 cases o with
 | none=>exact hd
 | some v=>
  show(if v<0 then(v+(n:Int)).toNat else min v.toNat n)<=n
  by_cases hv:v<0
  ·rw[if_pos hv];omega
  ·rw[if_neg hv];exact Nat.min_le_right _ _
theorem zabw(v:Int)(n d:Nat):(if v<0 then max (v+(n:Int)) 0 else min v (n:Int))=((sIx n d (some v):Nat):Int):=by
 show(if v<0 then max (v+(n:Int)) 0 else min v (n:Int))=(((if v<0 then(v+(n:Int)).toNat else min v.toNat n):Nat):Int)
 by_cases hv:v<0
 ·simp only[if_pos hv];omega
 ·simp only[if_neg hv];omega
theorem zaaf(lo hi:Option Int)(n:Nat):Builtin.Slice.sliceAdjust lo hi 1 (n:Int)=(((sIx n 0 lo:Nat):Int),((sIx n n hi:Nat):Int)):=by
 have h1:¬((1:Int)<0):=by omega
 unfold Builtin.Slice.sliceAdjust
 simp only[h1,if_false]
 refine Prod.ext ?_ ?_
 ·cases lo with
  | none=>rfl
  | some v=>exact zabw v n 0
 ·cases hi with
  | none=>rfl
  | some v=>exact zabw v n n
theorem zaag(i j:Nat):Builtin.Slice.slicePlaces (i:Int) (j:Int) 1=j - i:=by
 unfold Builtin.Slice.slicePlaces
 have h1:(1:Int) > 0:=by omega
 simp only[h1,if_true,Int.ediv_one]
 split<;>omega
theorem zrg{v:Value}{o:Option Int}{Q:Option Int->Shared->Prop}(p:IsPart v o)(h:Q o s):wpAny (model prog w) A (Builtin.Slice.slicePartIndex v) Q E s:=by
 cases p with
 | none=>exact slicePart_none h
 | int i t=>exact slicePart_int h
theorem zjp{sl:Addr}{vl vu:Value}{lo hi:Option Int}{n:Nat}{Q:Int×Int×Nat->Shared->Prop}(hs:s.heap.IsSliceOf sl vl vu .none)(pl:IsPart vl lo)(pu:IsPart vu hi)
  (h:Q (((sIx n 0 lo:Nat):Int),1,sIx n n hi - sIx n 0 lo) s):wpAny (model prog w) A (Builtin.Slice.sliceApplied (.ref sl) (pure (n:Int))) Q E s:=by
 obtain⟨os,hos,hcs,hds⟩:=id hs
 unfold Builtin.Slice.sliceApplied Builtin.Slice.sliceFields
 refine qE (qE (qAS hos hds (x:=vl) rfl (qE (qAS hos hds (x:=vu) rfl (qE (qAS hos hds (x:=.none) rfl (qM ?_)))))))
 refine qE (slicePart_none ?_)
 show wpAny _ _ (if((1:Int)==0)=true then _ else _) _ _ s
 rw[if_neg (by decide)]
 refine qE (zrg pl (qE (zrg pu (qE (qM ?_)))))
 show wpAny _ _ (match Builtin.Slice.sliceAdjust lo hi 1 (n:Int)with|(lo,hi)=>pure (lo,(1:Int),Builtin.Slice.slicePlaces lo hi 1)) _ _ s
 rw[zaaf lo hi n]
 show wpAny _ _ (pure (((sIx n 0 lo:Nat):Int),(1:Int),Builtin.Slice.slicePlaces ((sIx n 0 lo:Nat):Int) ((sIx n n hi:Nat):Int) 1)) _ _ s
 rw[zaag]
 exact qM h
theorem zaga(xs:Array Value)(i k:Nat):((List.range k).filterMap λ(m:Nat)=>xs[((i:Int)+(m:Int) * 1).toNat]?).toArray=((xs.toList.drop i).take k).toArray:=by
 have e:(λ(m:Nat)=>xs[((i:Int)+(m:Int) * 1).toNat]?)=λm=>xs[i+m]?:=by
  funext m
  have:((i:Int)+(m:Int) * 1).toNat=i+m:=by omega
  rw[this]
 rw[e]
 have:=pick_run xs i k
 rw[List.filterMap_map]at this
 have e2:((λx=>xs[x]?)∘λx=>i+x)=λm=>xs[i+m]?:=rfl
 rw[e2]at this
 rw[this]
theorem getItem_tuple_cut{t sl:Addr}{items:Array Value}{vl vu:Value}{lo hi:Option Int}{Q:Value->Shared->Prop}(ht:IsTup s.heap t items)(hs:s.heap.IsSliceOf sl vl vu .none)(pl:IsPart vl lo)(pu:IsPart vu hi)
  (hw:¬(sIx items.size 0 lo=0/\sIx items.size items.size hi=items.size))
  (h:Q (.ref s.heap.objs.size) {s with heap:=s.heap.push {cls:=.type "tuple",data:=.seq ((items.toList.drop (sIx items.size 0 lo)).take (sIx items.size items.size hi - sIx items.size 0 lo)).toArray}})
  (hsz:items.size<=qb):wpAny (model prog w) A (getItem (.ref t) (.ref sl)) Q E s:=by
 have htake:sizeOk (.seq ((items.toList.drop (sIx items.size 0 lo)).take (sIx items.size items.size hi - sIx items.size 0 lo)).toArray):=by
  show((items.toList.drop (sIx items.size 0 lo)).take (sIx items.size items.size hi - sIx items.size 0 lo)).toArray.size<=qb
  rw[qO,qAi,qBC,qBU]
  omega
 have hj:sIx items.size items.size hi<=items.size:=zaof _ _ (qL _) hi
 obtain⟨os,hos,hcs,hds⟩:=id hs
 have hTs:s.TypeIs (.ref sl) "slice":=⟨os,hos,hcs⟩
 unfold getItem
 try with_reducible refine qBK ?_
 first|refine qE (qM ?_)|skip
 refine qE (wpAny_sequenceKey ht.typeIs (by decide) ?_)
 refine qE (qAd (name:=Str.ofString "__getitem__") ht.typeIs qAU
  (qA3 qAU ht.typeIs entry_tuple_getitem ?_ (args_tuple_getitem _ _)))
 show wpAny _ _ (Builtin.Tuple.tupleItemsOf (.ref t) >>=_) _ _ s
 refine qE (tupleItemsOf_ ht ?_)
 refine qE (qCN hTs ?_)
 rw[if_pos (by decide)]
 refine qE (zjp hs pl pu ?_)
 have hno:¬((((sIx items.size 0 lo:Nat):Int)==0&&(1:Int)==1&&(sIx items.size items.size hi - sIx items.size 0 lo)==items.size)=true):=by
  intro q
  rw[qr,qr]at q
  have q1:((sIx items.size 0 lo:Nat):Int)=0:=eq_of_beq q.1.1
  have q2:sIx items.size items.size hi - sIx items.size 0 lo=items.size:=eq_of_beq q.2
  exact hw ⟨by omega,by omega⟩
 show wpAny _ _ (if(((sIx items.size 0 lo:Nat):Int)==0&&(1:Int)==1&&(sIx items.size items.size hi - sIx items.size 0 lo)==items.size)=true then _ else _) _ _ s
 rw[if_neg hno,zaga]
 first
  | exact qE (m:=Builtin.Tuple.tupleExact _) (qAq (qM ⟨_,rfl,qM h⟩) htake)
  | exact qE (m:=Builtin.Tuple.tupleExact _) (qAq (qE (qM (qM ⟨_,rfl,qM h⟩))) htake)
  | exact qE (qE (m:=Builtin.Tuple.tupleExact _) (qAq (qM (qM ⟨_,rfl,qM h⟩)) htake))
  | exact qE (qE (m:=Builtin.Tuple.tupleExact _) (qAq (qM ⟨_,rfl,qM h⟩) htake))
end
end HT
namespace L2
open PySem PySem.Spec PyProof.Rows
noncomputable abbrev TO:=St->Hp->(Option Int->Hp->Prop)->Prop
noncomputable def PO(X:Cx)(e:Option Expr)(t:TO):Prop:=
 ∀(pins:List (Addr×Obj))(s:Shared)(σ:St)(H:Hp)(Q:Option Int->Hp->Prop),Inv X pins σ H s->t σ H Q->
  wpAny (model X.prog X.w) X.A (evalPart e X.env) (λu s'=>∃o H',Inv X pins σ H' s'/\IsPart u o/\Q o H') X.xe s
noncomputable def tNoPart:TO:=λ_ H Q=>Q none H
noncomputable def tPart(t:TE):TO:=λσ H Q=>t σ H λx H1=>∃i,x=.int i/\Q (some i) H1
section
variable{X:Cx}{e:Expr}{te:TE}{lo hi:Option Expr}{tl th:TO}{pos p2:Pos}
theorem zaki:PO X none tNoPart:=by
 intro pins s σ H Q I h
 rw[evalPart_none]
 exact qM ⟨none,H,I,.none,h⟩
theorem zakj(h:PE X e te):PO X (some e) (tPart te):=by
 intro pins s σ H Q I hw
 rw[evalPart_some]
 refine thn (h pins s σ H _ I hw) λu s1 ⟨x,H1,I1,r1,q1⟩=>?_
 obtain⟨i,rfl,q⟩:=q1
 obtain⟨t,rfl⟩:=r1
 exact⟨some i,H1,I1,.int i t,q⟩
noncomputable def SlR(X:Cx)(r:V->Option Int->Option Int->Hp->VK->Prop):Prop:=
 ∀(pins:List (Addr×Obj))(s:Shared)(σ:St)(H:Hp)(x:V)(v vl vu:Value)(lo hi:Option Int)(sl:Addr)(Q:VK),Inv X pins σ H s->RelV x v->s.heap.IsSliceOf sl vl vu .none->IsPart vl lo->IsPart vu hi->r x lo hi H Q->
  ∃T id,typeLookup (.type T) "__getitem__"=pure (some (.builtin id))/\s.TypeIs v T/\wpAny (model X.prog X.w) X.A (getItem v (.ref sl)) (EP X pins σ Q) X.xe s
noncomputable def tSl(r:V->Option Int->Option Int->Hp->VK->Prop)(te:TE)(tl th:TO):TE:=λσ H Q=>te σ H λx H1=>tl σ H1 λl H2=>th σ H2 λu H3=>r x l u H3 Q
theorem zagb{r:V->Option Int->Option Int->Hp->VK->Prop}(hr:SlR X r)(he:PE X e te)(hl:PO X lo tl)(hu:PO X hi th):PE X (.Subscript e (.Slice lo hi none p2) pos) (tSl r te tl th):=by
 intro pins s σ H Q I h
 refine Subscript_ (thn (he pins s σ H _ I h) λv s1 ⟨x,H1,I1,r1,q1⟩=>?_)
 refine wpAny_Slice (thn (hl pins s1 σ H1 _ I1 q1) λvl s2 ⟨l,H2,I2,pl,q2⟩=>thn (hu pins s2 σ H2 _ I2 q2) λvu s3 ⟨u,H3,I3,pu,q3⟩=>?_)
 rw[evalPart_none]
 refine qM ?_
 have I4:Inv X pins σ H3 {s3 with heap:=s3.heap.push {cls:=.type "slice",data:=.fields #[vl,vu,.none]}}:=I3.kept (t':=s3.toks) λb ob q=>qG _ q
 obtain⟨T,id,hT,ht,hg⟩:=hr pins {s3 with heap:=s3.heap.push {cls:=.type "slice",data:=.fields #[vl,vu,.none]}} σ H3 x v vl vu l u s3.heap.objs.size Q I4 r1 (Heap.IsSliceOf.new ..) pl pu q3
 show wpAny (model X.prog X.w) X.A (subscriptTail e (.Slice lo hi none p2) v (.ref s3.heap.objs.size)) (EP X pins σ Q) X.xe {s3 with heap:=s3.heap.push {cls:=.type "slice",data:=.fields #[vl,vu,.none]}}
 exact tail_any (ops:=[.ref s3.heap.objs.size,v]) ht hT hg (by with_unfolding_all rfl)
noncomputable def cutV(xs:List V)(lo hi:Option Int):List V:=(xs.drop (HT.sIx xs.length 0 lo)).take (HT.sIx xs.length xs.length hi - HT.sIx xs.length 0 lo)
theorem zop(xs:List V)(lo hi:Option Int):(cutV xs lo hi).length<=xs.length:=by
 unfold cutV
 rw[qAi,qBC]
 omega
noncomputable def rSlT(K:qC):V->Option Int->Option Int->Hp->VK->Prop:=λx lo hi H Q=>∃a xs,x=.ref a/\SqT K H a xs/\
 ¬(HT.sIx xs.length 0 lo=0/\HT.sIx xs.length xs.length hi=xs.length)/\∀p,H p=none->Q (.ref p) (upd H p (.tup (cutV xs lo hi)))
theorem zaog:SlR X (rSlT X.K):=by
 intro pins s σ H x v vl vu lo hi sl Q I rx hs pl pu h
 obtain⟨a,xs,rfl,hx,hw,q⟩:=h
 cases rx
 obtain⟨its,r,ht,hz⟩:=I.tuple hx
 have hlen:its.toArray.size=xs.length:=by rw[qO];exact r.length.symm
 refine⟨"tuple",_,qAU.lookup,ht.typeIs,?_⟩
 refine HT.getItem_tuple_cut ht hs pl pu (by rw[hlen];exact hw) ?_ (by rw[hlen];exact hz)
 rw[hlen]
 refine⟨.ref s.heap.objs.size,_,I.laid (t':=s.toks) (o:=.tup (cutV xs lo hi)) (λb ob q=>qG _ q) (qL _) ?_,rfl,q _ (I.hok.fresh (qL _))⟩
 exact⟨qAC (zop xs lo hi) hz,_,(r.drop (HT.sIx xs.length 0 lo)).take (HT.sIx xs.length xs.length hi - HT.sIx xs.length 0 lo),IsTup.new _ _⟩
noncomputable def zaoh(K:qC):R2:=λx y H Q=>∃a b xs ys,x=.ref a/\y=.ref b/\SqT K H a xs/\SqT K H b ys/\xs≠[]/\xs.length+ys.length<=qb/\
 (ys=[]->Q (.ref a) H)/\(ys≠[]->∀p,H p=none->Q (.ref p) (upd H p (.tup (xs++ys))))
theorem Vals.nil_iff{xs:List V}{us:List Value}(r:Vals xs us):us=[]↔xs=[]:=by
 cases r with
 | nil=>simp
 | cons _ _=>simp
theorem zakk:OpR X (binaryOp .Add) (zaoh X.K):=by
 intro pins s σ H x y v u Q I rx ry h
 obtain⟨a,b,xs,ys,rfl,rfl,ha,hb,hx,hz,q1,q2⟩:=h
 cases rx
 cases ry
 obtain⟨its,r1,p1,_⟩:=I.tuple ha
 obtain⟨its2,r2,p2,_⟩:=I.tuple hb
 refine HT.cat_tup p1 p2 (λz=>hx (r1.nil_iff.mp z)) (λz=>⟨.ref a,H,I,rfl,q1 (r2.nil_iff.mp z)⟩) (λz=>?_) (by rw[<- r1.length,<- r2.length];exact hz)
 refine⟨.ref s.heap.objs.size,_,I.laid (t':=s.toks) (o:=.tup (xs++ys)) (λb ob q=>qG _ q) (qL _) ?_,rfl,q2 (λw=>z (r2.nil_iff.mpr w)) _ (I.hok.fresh (qL _))⟩
 exact⟨by rw[qI];exact hz,_,r1.append r2,IsTup.new _ _⟩
end
noncomputable def ixN(n:Nat)(i:Int):Option Nat:=if 0<=i then(if i<n then some i.toNat else none)else if -(n:Int)<=i then some (i+n).toNat else none
noncomputable def atI{α:Type}(xs:List α)(i:Int):Option α:=(ixN xs.length i).bind λj=>xs[j]?
theorem zabx{n:Nat}{i:Int}{j:Nat}(h:ixN n i=some j):seqIndex? i n=some j/\j<n/\-(n:Int)<=i/\i<n:=by
 unfold ixN at h
 by_cases h0:0<=i
 ·rw[if_pos h0]at h
  by_cases h1:i<n
  ·rw[if_pos h1]at h
   have e:i.toNat=j:=qo h
   exact⟨by rw[qCd h0 h1,e],by omega,by omega,h1⟩
  ·rw[if_neg h1]at h;cases h
 ·rw[if_neg h0]at h
  by_cases h1:-(n:Int)<=i
  ·rw[if_pos h1]at h
   have e:(i+n).toNat=j:=qo h
   exact⟨by rw[seqIndex_neg (by omega) h1,e],by omega,h1,by omega⟩
  ·rw[if_neg h1]at h;cases h
theorem zws{α:Type}{xs:List α}{i:Int}{v:α}(h:atI xs i=some v):∃j,seqIndex? i xs.length=some j/\xs[j]?=some v/\j<xs.length/\-(xs.length:Int)<=i/\i<xs.length:=by
 unfold atI at h
 cases e:ixN xs.length i with
 | none=>rw[e]at h;cases h
 | some j=>
  rw[e]at h
  obtain⟨h1,h2,h3,h4⟩:=zabx e
  exact⟨j,h1,h,h2,h3,h4⟩
theorem zgq{α:Type}{xs:List α}{j:Nat}{v:α}(h:xs[j]?=some v):atI xs (j:Int)=some v:=by
 have hj:j<xs.length:=(qW.mp h).1
 have e:ixN xs.length (j:Int)=some j:=by
  unfold ixN
  rw[if_pos (by omega),if_pos (by omega)];simp
 unfold atI;rw[e];exact h
noncomputable def PlainIx(b:Expr):Prop:=∀o i,subscripted b false o i=operate [o,i] (getItem o i)
noncomputable def IxR(X:Cx)(r:R2):Prop:=
 ∀(value slice:Expr)(pins:List (Addr×Obj))(s:Shared)(σ:St)(H:Hp)(x y:V)(v u:Value)(Q:VK),Inv X pins σ H s->RelV x v->RelV y u->r x y H Q->
  subscripted slice false v u=operate [v,u] (getItem v u)->wpAny (model X.prog X.w) X.A (subscriptTail value slice v u) (EP X pins σ Q) X.xe s
noncomputable def MtR(X:Cx)(id:String)(r:V->List V->Hp->VK->Prop):Prop:=
 ∀(pins:List (Addr×Obj))(s:Shared)(σ:St)(H:Hp)(x:V)(xs:List V)(v:Value)(us:List Value)(Q:VK),Inv X pins σ H s->RelV x v->Vals xs us->r x xs H Q->
  wpAny (model X.prog X.w) X.A (call (.builtin id) (v::us)) (EP X pins σ Q) X.xe s
section
variable{X:Cx}{a b:Expr}{ta tb:TE}{pos:Pos}
theorem zari{r:R2}(hr:IxR X r)(ha:PE X a ta)(hb:PE X b tb)(hs:PlainIx b):PE X (.Subscript a b pos) (tOp r ta tb):=by
 intro pins s σ H Q I h
 exact Subscript_ (binT ha hb I h λv u s2 x y H2 I2 rx ry q=>hr a b pins s2 σ H2 x y v u Q I2 rx ry q (hs _ _))
noncomputable def rIxL(K:qC):R2:=λx y H Q=>∃p xs i v,x=.ref p/\y=.int i/\SqL K H p xs/\atI xs i=some v/\Q v H
noncomputable def rIxT(K:qC):R2:=λx y H Q=>∃p xs i v,x=.ref p/\y=.int i/\SqT K H p xs/\atI xs i=some v/\Q v H
noncomputable def rIxS:R2:=λx y H Q=>∃z i c,x=.str z/\y=.int i/\z.length<=qb/\atI z.cps.toList i=some c/\Q (.str ⟨#[c]⟩) H
theorem zakl:IxR X (rIxL X.K):=by
 intro value slice pins s σ H x y v u Q I rx ry h hs
 obtain⟨p,xs,i,z,rfl,rfl,hq,he,q⟩:=h
 cases rx
 obtain⟨t,rfl⟩:=ry
 obtain⟨its,r,pl,hz⟩:=I.list hq
 obtain⟨j,h1,h2,h3,h4,h5⟩:=zws he
 obtain⟨w,ew,rw'⟩:=r.get h2
 have hl:=r.length
 have hn:=zrf
 have fin:EP X pins σ Q w s:=⟨z,H,I,rw',q⟩
 by_cases h0:0<=i
 ·have hj:i.toNat=j:=by
   rw[qCd h0 h5]at h1
   exact qo h1
  exact item_listR pl.isList h0 (by omega) (by rw[hj];simpa using ew) fin hs
 ·have hj:(i+(its.toArray.size:Int)).toNat=j:=by
   rw[seqIndex_neg (by omega) h4]at h1
   rw[qO,<- hl]
   exact qo h1
  exact subscriptTail_builtinR (x:=w) pl.isList.typeIs slot_list_getitem.lookup
   (wpAny_getItem_list_neg (Q:=λr s'=>r=w/\EP X pins σ Q r s') pl.isList (by omega) (by rw[qO]<;>omega) (by omega) (by rw[hj];simpa using ew) ⟨rfl,fin⟩) hs
theorem zaoi:IxR X (rIxT X.K):=by
 intro value slice pins s σ H x y v u Q I rx ry h hs
 obtain⟨p,xs,i,z,rfl,rfl,hq,he,q⟩:=h
 cases rx
 obtain⟨t,rfl⟩:=ry
 obtain⟨its,r,pl,hz⟩:=I.tuple hq
 obtain⟨j,h1,h2,h3,h4,h5⟩:=zws he
 obtain⟨w,ew,rw'⟩:=r.get h2
 have hl:=r.length
 have hn:=zrf
 have fin:EP X pins σ Q w s:=⟨z,H,I,rw',q⟩
 exact subscriptTail_builtinR (x:=w) pl.typeIs slot_tuple_getitem.lookup
  (getItem_tuple (j:=j) (Q:=λr s'=>r=w/\EP X pins σ Q r s') pl (by omega) (by omega) (by rw[qO,<- hl];exact h1) (by simpa using ew) ⟨rfl,fin⟩) hs
theorem zaoj:IxR X rIxS:=by
 intro value slice pins s σ H x y v u Q I rx ry h hs
 obtain⟨z,i,c,rfl,rfl,hz,he,q⟩:=h
 obtain⟨t,rfl⟩:=rx
 obtain⟨t',rfl⟩:=ry
 obtain⟨j,h1,h2,h3,h4,h5⟩:=zws he
 have hl:z.cps.toList.length=z.length:=by simp[Str.length]
 rw[hl]at h1 h4 h5
 have hn:=zrf
 exact tail_any (qCs s z t) slot_str_getitem.lookup (getItem_str (c:=c) (by
  have e1:decide (i < -(2 ^ 63:Int))=false:=decide_eq_false (by omega)
  have e2:decide (i>=2 ^ 63)=false:=decide_eq_false (by omega)
  rw[e1,e2,Bool.or_false]) (by rw[h1];simpa using h2) ⟨.str ⟨#[c]⟩,H,I.tok _,⟨_,rfl⟩,q⟩) hs
theorem zaah(its:List Value)(n j:Nat)(u:Value):Obj.mapSeq (·.setIfInBounds j u) {cls:=.type "list",data:=.seq its.toArray n}={cls:=.type "list",data:=.seq (its.set j u).toArray n}:=by
 simp[Obj.mapSeq]
theorem Inv.lst{pins:List (Addr×Obj)}{σ:St}{H:Hp}{s:Shared}{p:Addr}{xs:List V}(I:Inv X pins σ H s)(h:H p=some (.lst xs)) :
  ∃(its:List Value)(n:Nat),Vals xs its/\s.heap.get? p=some {cls:=.type "list",data:=.seq its.toArray n}/\xs.length<=qb:=by
 obtain⟨z,its,n,r,e⟩:=I.hok p _ h
 exact⟨its,n,r,e,z⟩
theorem Inv.lstUpd{pins:List (Addr×Obj)}{σ:St}{H:Hp}{s:Shared}{p:Addr}{xs ys:List V}{its its':List Value}{n n':Nat}{f:Obj->Obj}(I:Inv X pins σ H s)(h:H p=some (.lst xs))
  (ho:s.heap.get? p=some {cls:=.type "list",data:=.seq its.toArray n}) (hf:f {cls:=.type "list",data:=.seq its.toArray n}={cls:=.type "list",data:=.seq its'.toArray n'}) (r:Vals ys its') (hz:ys.length<=qb) (t:Nat) :
  Inv X pins σ (upd H p (.lst ys)) {s with heap:=s.heap.update p f,toks:=t}:=by
 have e:(s.heap.update p f).get? p=some {cls:=.type "list",data:=.seq its'.toArray n'}:=by
  rw[qAZ f ho (by rw[hf]<;>rfl),hf]
 refine I.write (x:=p) (e:=p) (by rw[h];trivial) (.inl rfl) (λb u hb q=>(qAT _ _ (qAg hb)).trans q) ⟨_,e⟩ ?_
 exact⟨hz,its',n',r,e⟩
noncomputable def zakm:V->V->V->Hp->(Hp->Prop)->Prop:=λo i v H Q=>∃p xs k j,o=.ref p/\i=.int k/\H p=some (.lst xs)/\ixN xs.length k=some j/\Q (upd H p (.lst (xs.set j v)))
theorem zagc:PSet X zakm:=by
 intro pins s σ H o i v ov iv u Q I ro ri rv h
 obtain⟨p,xs,k,j,rfl,rfl,hp,hj,q⟩:=h
 cases ro
 obtain⟨t,rfl⟩:=ri
 obtain⟨its,n,r,ho,hz⟩:=I.lst hp
 obtain⟨h1,h2,h3,h4⟩:=zabx hj
 have hl:=r.length
 have hn:=zrf
 have I':Inv X pins σ (upd H p (.lst (xs.set j v))) {s with heap:=s.heap.update p (Obj.mapSeq (·.setIfInBounds j u))}:=
  I.lstUpd hp ho (zaah its n j u) (r.set rv j) (by rw[qAA];exact hz) s.toks
 by_cases h0:0<=k
 ·have hk:k.toNat=j:=by
   rw[qCd h0 h4]at h1
   exact qo h1
  exact PySem.W.ki_setAt ho h0 (by omega) (by rw[qO,<- hl];exact h4) (by rw[hk];exact⟨_,I',q⟩)
 ·have hk:(k+(its.toArray.size:Int)).toNat=j:=by
   rw[seqIndex_neg (by omega) h3]at h1
   rw[qO,<- hl]
   exact qo h1
  exact PySem.W.ki_setBack ho (by omega) (by rw[qO,<- hl];exact h3) (by omega) (by rw[hk];exact⟨_,I',q⟩)
theorem zun(lo hi:Option Int)(n:Nat):(sliceBounds lo hi none n).1=((HT.sIx n 0 lo:Nat):Int)/\(sliceBounds lo hi none n).2.1=((HT.sIx n n hi:Nat):Int)/\(sliceBounds lo hi none n).2.2=1:=by
 refine⟨?_,?_,rfl⟩
 ·cases lo with
  | none=>simp[sliceBounds,HT.sIx]
  | some i=>
   simp only[sliceBounds,HT.sIx,Option.getD_none,show(1:Int) > 0 by decide,if_true]
   by_cases h:i<0
   ·simp only[h,if_true]<;>omega
   ·simp only[h,if_false]<;>omega
 ·cases hi with
  | none=>simp[sliceBounds,HT.sIx]
  | some i=>
   simp only[sliceBounds,HT.sIx,Option.getD_none,show(1:Int) > 0 by decide,if_true]
   by_cases h:i<0
   ·simp only[h,if_true]<;>omega
   ·simp only[h,if_false]<;>omega
theorem zst(its:List Value)(lo hi:Option Int):slicePick its.toArray lo hi none=((its.drop (HT.sIx its.length 0 lo)).take (HT.sIx its.length its.length hi - HT.sIx its.length 0 lo)).toArray:=by
 obtain⟨h1,h2,h3⟩:=zun lo hi its.toArray.size
 unfold slicePick
 rw[h1,h2,h3]
 simp only[sliceRange_one,pick_run,qO]<;>rfl
noncomputable def rSlL(K:qC):V->Option Int->Option Int->Hp->VK->Prop:=λx lo hi H Q=>∃a xs,x=.ref a/\SqL K H a xs/\∀p,H p=none->Q (.ref p) (upd H p (.lst (cutV xs lo hi)))
theorem zakn:SlR X (rSlL X.K):=by
 intro pins s σ H x v vl vu lo hi sl Q I rx hs pl pu h
 obtain⟨a,xs,rfl,hx,q⟩:=h
 cases rx
 obtain⟨its,r,ht,hz⟩:=I.list hx
 have hlen:=r.length
 refine⟨"list",_,slot_list_getitem.lookup,ht.isList.typeIs,?_⟩
 refine wpAny_getItem_list_slice ht.isList hs pl pu .none (by simp) ?_ (by rw[qO]<;>omega)
 rw[zst,<- hlen]
 refine⟨.ref s.heap.objs.size,_,I.laid (t':=s.toks) (o:=.lst (cutV xs lo hi)) (λb ob q=>qG _ q) (qL _) ?_,rfl,q _ (I.hok.fresh (qL _))⟩
 exact⟨qAC (zop xs lo hi) hz,_,0,(r.drop (HT.sIx xs.length 0 lo)).take (HT.sIx xs.length xs.length hi - HT.sIx xs.length 0 lo),qe _ rfl⟩
noncomputable def zmv:V->Bool
 | .non=>true
 | .bl _=>true
 | .int _=>true
 | .str _=>true
 | _=>false
noncomputable def eqV:V->V->Bool
 | .non,.non=>true
 | .bl a,.bl b=>a==b
 | .bl a,.int b=>(if a then 1 else 0)==b
 | .int a,.bl b=>a==(if b then 1 else 0)
 | .int a,.int b=>a==b
 | .str a,.str b=>a==b
 | _,_=>false
theorem zaok{A:Around}{s:Shared}{y x:V}{u v:Value}(ry:RelV y u)(rx:RelV x v)(fy:zmv y=true)(fx:zmv x=true):SeqAt.EqAt A s u v (eqV y x):=by
 cases y with
 | non=>
  cases ry
  cases x with
  | non=>cases rx;exact SeqAt.EqAt.same _
  | bl b=>cases rx;exact SeqAt.EqAt.none_bool b
  | int b=>obtain⟨t,rfl⟩:=rx;exact SeqAt.EqAt.none_int b t
  | str b=>obtain⟨t,rfl⟩:=rx;exact SeqAt.EqAt.none_str b t
  | _=>exact absurd (show false=true from fx) qQ
 | bl a=>
  cases ry
  cases x with
  | non=>cases rx;exact SeqAt.EqAt.bool_none a
  | bl b=>cases rx;exact SeqAt.EqAt.bool_bool a b
  | int b=>obtain⟨t,rfl⟩:=rx;exact SeqAt.EqAt.bool_int a b t
  | str b=>obtain⟨t,rfl⟩:=rx;exact SeqAt.EqAt.bool_str a b t
  | _=>exact absurd (show false=true from fx) qQ
 | int a=>
  obtain⟨t',rfl⟩:=ry
  cases x with
  | non=>cases rx;exact SeqAt.EqAt.int_none a t'
  | bl b=>cases rx;exact SeqAt.EqAt.int_bool a t' b
  | int b=>obtain⟨t,rfl⟩:=rx;exact SeqAt.EqAt.int_int a t' b t
  | str b=>obtain⟨t,rfl⟩:=rx;exact qCU a t' b t
  | _=>exact absurd (show false=true from fx) qQ
 | str a=>
  obtain⟨t',rfl⟩:=ry
  cases x with
  | non=>cases rx;exact SeqAt.EqAt.str_none a t'
  | bl b=>cases rx;exact SeqAt.EqAt.str_bool a t' b
  | int b=>obtain⟨t,rfl⟩:=rx;exact qCT a t' b t
  | str b=>obtain⟨t,rfl⟩:=rx;exact SeqAt.EqAt.str_str a t' b t
  | _=>exact absurd (show false=true from fx) qQ
 | _=>exact absurd (show false=true from fy) qQ
noncomputable def eqU(x:V)(u:Value):Bool:=match u with
 | .none=>eqV .non x
 | .bool b=>eqV (.bl b) x
 | .int i _=>eqV (.int i) x
 | .str z _=>eqV (.str z) x
 | _=>false
theorem zaby{x y:V}{u:Value}(r:RelV y u)(f:zmv y=true):eqU x u=eqV y x:=by
 cases y with
 | non=>cases r;rfl
 | bl b=>cases r;rfl
 | int i=>obtain⟨t,rfl⟩:=r;rfl
 | str z=>obtain⟨t,rfl⟩:=r;rfl
 | _=>exact absurd (show false=true from f) qQ
theorem zoq{x:V}:∀{xs:List V}{us:List Value},Vals xs us->xs.all zmv=true->us.any (eqU x)=xs.any λy=>eqV y x
 | _,_,.nil,_=>rfl
 | y::xs,u::us,.cons r t,f=>by
  rw[qBS,qr]at f
  rw[qB6,qB6,zaby r f.1,zoq t f.2]
theorem zkx{A:Around}{s:Shared}{x:V}{v:Value}(rx:RelV x v)(fx:zmv x=true):∀{xs:List V}{us:List Value},Vals xs us->xs.all zmv=true->∀u∈us,SeqAt.EqAt A s u v (eqU x u)
 | _,_,.nil,_=>λu hu=>by cases hu
 | y::xs,u::us,.cons r t,f=>λu' hu=>by
  rw[qBS,qr]at f
  rcases qi.mp hu with rfl|hu
  ·rw[zaby r f.1];exact zaok r rx f.1 fx
  ·exact zkx rx fx t f.2 u' hu
noncomputable def inV(x:V)(xs:List V):Bool:=xs.any λy=>eqV y x
noncomputable def rIn(K:qC)(neg:Bool):R2:=λx y H Q=>∃p xs,y=.ref p/\(SqL K H p xs\/SqT K H p xs)/\zmv x=true/\xs.all zmv=true/\Q (.bl (if neg then !inV x xs else inV x xs)) H
theorem zabz:OpR X (compareOp .In) (rIn X.K false):=by
 intro pins s σ H x y v u Q I rx ry h
 obtain⟨p,xs,rfl,hq,fx,fs,q⟩:=h
 cases ry
 rcases hq with hq|hq
 ·obtain⟨its,r,pl,hz⟩:=I.list hq
  refine SeqAt.in_listAt (eqU x) pl.isList (λw hw=>zkx rx fx r fs w (by simpa using hw)) ⟨.bl _,H,I,rfl,?_⟩
  rw[show its.toArray.any (eqU x)=its.any (eqU x) by simp,zoq r fs]
  exact q
 ·obtain⟨its,r,pl,hz⟩:=I.tuple hq
  refine SeqAt.in_tupleAt (eqU x) pl (λw hw=>zkx rx fx r fs w (by simpa using hw)) ⟨.bl _,H,I,rfl,?_⟩
  rw[show its.toArray.any (eqU x)=its.any (eqU x) by simp,zoq r fs]
  exact q
theorem zuo:OpR X (compareOp .NotIn) (rIn X.K true):=by
 intro pins s σ H x y v u Q I rx ry h
 obtain⟨p,xs,rfl,hq,fx,fs,q⟩:=h
 cases ry
 rcases hq with hq|hq
 ·obtain⟨its,r,pl,hz⟩:=I.list hq
  refine SeqAt.notIn_listAt (eqU x) pl.isList (λw hw=>zkx rx fx r fs w (by simpa using hw)) ⟨.bl _,H,I,rfl,?_⟩
  rw[show its.toArray.any (eqU x)=its.any (eqU x) by simp,zoq r fs]
  exact q
 ·obtain⟨its,r,pl,hz⟩:=I.tuple hq
  refine SeqAt.notIn_tupleAt (eqU x) pl (λw hw=>zkx rx fx r fs w (by simpa using hw)) ⟨.bl _,H,I,rfl,?_⟩
  rw[show its.toArray.any (eqU x)=its.any (eqU x) by simp,zoq r fs]
  exact q
theorem zup:CallR X (.type "list") (λxs H Q=>∃p ys,xs=[.ref p]/\(SqL X.K H p ys\/SqT X.K H p ys)/\∀l,H l=none->Q (.ref l) (upd H l (.lst ys))):=by
 intro pins s σ H xs us Q I r h
 obtain⟨p,ys,rfl,hq,q⟩:=h
 obtain⟨u,rfl,rx⟩:=zaac r
 cases rx
 have fin:∀(its:List Value),Vals ys its->ys.length<=qb->∀(h':Heap)(c':Nat),(∀b o',s.heap.get? b=some o'->h'.get? b=some o')->
   h'.get? s.heap.objs.size=some {cls:=.type "list",dict:=none,data:=.seq its.toArray c',slots:=#[]}->EP X pins σ Q (.ref s.heap.objs.size) {s with heap:=h'}:=λits r' hz h' c' kp e=>
  ⟨.ref s.heap.objs.size,_,I.laid (t':=s.toks) kp (qL _) (show zfv X.prog X.w _ h' _ (.lst ys)from⟨hz,its,c',r',e⟩),rfl,q _ (I.hok.fresh (qL _))⟩
 rcases hq with hq|hq
 ·obtain⟨its,r',pl,hz⟩:=I.list hq
  have hlen:=r'.length
  obtain⟨o,ho,hc,n,hd⟩:=pl.isList
  exact call_list_seq p (.inl rfl) ho hc hd (λh' c' kp e=>fin its r' hz h' c' kp e) (by simp only[qO]<;>omega)
 ·obtain⟨its,r',pl,hz⟩:=I.tuple hq
  have hlen:=r'.length
  obtain⟨o,ho,hc,n,hd⟩:=pl
  exact call_list_seq p (.inr rfl) ho hc hd (λh' c' kp e=>fin its r' hz h' c' kp e) (by simp only[qO]<;>omega)
theorem zsu:CallR X (.type "tuple") (λxs H Q=>∃p ys,xs=[.ref p]/\((SqL X.K H p ys/\∀l,H l=none->Q (.ref l) (upd H l (.tup ys)))\/(SqT X.K H p ys/\Q (.ref p) H))):=by
 intro pins s σ H xs us Q I r h
 obtain⟨p,ys,rfl,h⟩:=h
 obtain⟨u,rfl,rx⟩:=zaac r
 cases rx
 rcases h with⟨hq,q⟩|⟨hq,q⟩
 ·obtain⟨its,r',pl,hz⟩:=I.list hq
  have hlen:=r'.length
  refine call_tuple_list pl.isList (λh' kp=>?_) (by simp only[qO]<;>omega)
  have I1:Inv X pins σ H {s with heap:=h'}:=I.kept (t':=s.toks) kp
  have I2:Inv X pins σ (upd H h'.objs.size (.tup ys)) {s with heap:=h'.push {cls:=.type "tuple",data:=.seq its.toArray}}:=
   I1.laid (t':=s.toks) (λb o e=>qG _ e) (qL _) (show zfv X.prog X.w _ _ _ (.tup ys)from⟨hz,its,r',IsTup.new _ _⟩)
  exact⟨.ref h'.objs.size,_,I2,rfl,q _ (I1.hok.fresh (qL _))⟩
 ·obtain⟨its,r',pl,hz⟩:=I.tuple hq
  exact call_tuple_same pl ⟨.ref p,H,I,rfl,q⟩
noncomputable def tyV(K:qC)(T:String)(x:V)(H:Hp):Prop:=match x with
 | .str _=>T="str"
 | .int _=>T="int"
 | .ref p=>(T="list"/\∃xs,SqL K H p xs)\/(T="tuple"/\∃o,K.lookup p=some o/\o.cls=.type "tuple"/\o.dict=none)\/
   (T="dict"/\((∃kvs,H p=some (.dK kvs))\/∃kvs,H p=some (.dT kvs)))\/(T="set"/\∃S n,H p=some (.set S n))
 | _=>False
theorem zaol{pins:List (Addr×Obj)}{σ:St}{H:Hp}{s:Shared}{T:String}{x:V}{v:Value}(I:Inv X pins σ H s)(r:RelV x v)(ty:tyV X.K T x H) :
  s.TypeIs v T/\∀a,v=.ref a->∃ob,s.heap.get? a=some ob/\ob.dict=none:=by
 cases x with
 | str z=>
  obtain⟨t,rfl⟩:=r
  cases(show T="str"from ty)
  exact⟨qCs s z t,λ_ e=>nomatch e⟩
 | int i=>
  obtain⟨t,rfl⟩:=r
  cases(show T="int"from ty)
  exact⟨typeIs_int s i t,λ_ e=>nomatch e⟩
 | ref p=>
  cases r
  rcases ty with⟨rfl,xs,hq⟩|⟨rfl,o,hk,hc,hd⟩|⟨rfl,hk⟩|⟨rfl,S,n,hk⟩
  ·obtain⟨its,_,pl,_⟩:=I.list hq
   refine⟨pl.isList.typeIs,λa e=>?_⟩
   cases e
   obtain⟨o,n,e,c,hd,_⟩:=pl
   exact⟨o,e,hd⟩
  ·refine⟨⟨o,I.kIn p o hk,hc⟩,λa e=>?_⟩
   cases e
   exact⟨o,I.kIn _ o hk,hd⟩
  ·have z:∃o,s.heap.get? p=some o/\o.ExactDict:=by
    rcases hk with⟨kvs,hk⟩|⟨kvs,hk⟩
    ·obtain⟨_,_,_,_,o,_,_,e,ex,_⟩:=I.hok p _ hk
     exact⟨o,e,ex⟩
    ·obtain⟨_,_,_,_,o,_,_,e,ex,_⟩:=I.hok p _ hk
     exact⟨o,e,ex⟩
   obtain⟨o,e,ex⟩:=z
   refine⟨⟨o,e,ex.1⟩,λa e2=>?_⟩
   cases e2
   exact⟨o,e,ex.2.1⟩
  ·obtain⟨o,_,_,_,e,ex,_⟩:=I.hok p _ hk
   refine⟨⟨o,e,ex.1⟩,λa e2=>?_⟩
   cases e2
   exact⟨o,e,ex.2.1⟩
 | _=>exact False.elim ty
noncomputable def tBM(K:qC)(T:String)(r:V->List V->Hp->VK->Prop)(to:TE)(t:TA):TE:=λσ H Q=>to σ H λx H1=>tyV K T x H1/\t σ H1 λxs H2=>r x xs H2 Q
variable{o e:Expr}{es:List Expr}{to:TE}{t:TA}{name:Str}{apos cpos:Pos}{T id:String}{r:V->List V->Hp->VK->Prop}
theorem zarj(pa:PlainAttrs T)(slot:Slot T name id)(hty:typeOf (.builtin id)=pure (.type "method_descriptor"))(hm:MtR X id r)(ho:PE X o to)(ha:PA X (e::es) t)
  (hbase:attributeBase o name X.env (eval o X.env)=eval o X.env:=by rfl)
  (hfew:((backTo cpos (starEach (e::es) X.env)).all (λx=>!x.1)&&(backToKw cpos (keywordEach [] X.env)).all (λx=>x.1.isSome)
   && decide ((e::es).length+([]:List Keyword).length+(if([]:List Keyword).isEmpty then 0 else 1)<30))=true:=by rfl)
  (hline:(apos.endLine==cpos.line)=true:=by rfl)(hs:starEach (e::es) X.env=(false,eval e X.env)::starEach es X.env:=by rfl)(hplain:(backTo cpos (starEach es X.env)).any (·.1)=false:=by rfl) :
  PE X (.Call (.Attribute o name apos) (e::es) [] cpos) (tBM X.K T r to t):=by
 intro pins s σ H Q I h
 refine wpAny_Call_method_late hbase hfew hline rfl (thn (ho pins s σ H _ I h) λv s1 ⟨x,H1,I1,r1,ty,q1⟩=>?_)
 obtain⟨h1,h2⟩:=zaol I1 r1 ty
 refine⟨T,id,pa,slot,hty,h1,h2,?_⟩
 have hA:=ha cpos pins s1 σ H1 _ I1 q1
 rw[hs]at hA ⊢
 refine qCc (by show(false||(backTo cpos (starEach es X.env)).any (·.1))=false;rw[hplain]<;>rfl) (qCk ?_)
 exact thn hA λus s2 ⟨vs,H2,I2,r2,q2⟩=>hm pins s2 σ H2 x vs v us Q I2 r1 r2 q2
end
noncomputable def MtM(X:Cx)(id:String)(r:V->List V->Hp->VK->Prop):Prop:=
 ∀(pins:List (Addr×Obj))(s:Shared)(σ:St)(H:Hp)(x:V)(xs:List V)(v:Value)(us:List Value)(Q:VK),Inv X pins σ H s->RelV x v->Vals xs us->r x xs H Q->
  wpAny (model X.prog X.w) X.A (call (.builtin id) (v::us)) (EP X pins σ Q) X.xe s
theorem Vals.one:∀{x:V}{us:List Value},Vals [x] us->∃u,us=[u]/\RelV x u
 | _,_,.cons r .nil=>⟨_,rfl,r⟩
theorem Vals.eraseIdx:∀{xs:List V}{us:List Value}(i:Nat),Vals xs us->Vals (xs.eraseIdx i) (us.eraseIdx i)
 | _,_,_,.nil=>.nil
 | _,_,0,.cons _ t=>t
 | _,_,i+1,.cons r t=>.cons r (Vals.eraseIdx i t)
theorem Vals.rep{xs:List V}{us:List Value}(h:Vals xs us):∀k:Nat,Vals (List.replicate k xs).flatten (List.replicate k us).flatten
 | 0=>.nil
 | k+1=>by
  rw[qAf,qAf,qA7,qA7]
  exact Vals.append h (Vals.rep h k)
theorem zuq{α:Type}:∀(l:List α)(i:Nat),(l.eraseIdx i).length<=l.length
 | [],_=>qL _
 | _::_,0=>qBO _
 | _::r,i+1=>Nat.succ_le_succ (zuq r i)
theorem zur(its:List Value):∀(k:Nat)(acc:List Value),
  List.foldl (λx1 x2=>x1++x2) acc.toArray (List.replicate k its.toArray)=(acc++(List.replicate k its).flatten).toArray
 | 0,acc=>by simp
 | k+1,acc=>by
  have e:acc.toArray++its.toArray=(acc++its).toArray:=by simp
  have e2:(acc++its)++(List.replicate k its).flatten=acc++(List.replicate (k+1) its).flatten:=by
   rw[qAf,qA7,qAw]
  rw[<- e2,<- zur its k (acc++its),<- e,qAf,List.foldl_cons]
section
variable{X:Cx}{pins:List (Addr×Obj)}{σ:St}{H:Hp}{s:Shared}{l b:Addr}{xs ys zs:List V}
theorem Inv.lset{its its':List Value}{n:Nat}{f:Array Value->Array Value}{t':Nat}(I:Inv X pins σ H s)(hH:H l=some (.lst xs))
  (e:s.heap.get? l=some {cls:=.type "list",data:=.seq its.toArray n}) (hf:f its.toArray=its'.toArray) (hv:Vals ys its') (hz:ys.length<=qb) :
  Inv X pins σ (upd H l (.lst ys)) {s with heap:=s.heap.update l (Obj.mapSeq f),toks:=t'}:=by
 have q:=PySem.IsL.update e f
 rw[hf]at q
 refine I.write (x:=l) (e:=l) (by rw[hH];exact trivial) (.inl rfl) (λb' u hb hu=>(qAT s.heap (Obj.mapSeq f) (qAg hb)).trans hu) ⟨_,q⟩ ?_
 exact⟨hz,its',_,hv,q⟩
theorem Inv.lnew{its:List Value}{t':Nat}(I:Inv X pins σ H s)(hv:Vals ys its)(hz:ys.length<=qb) :
  Inv X pins σ (upd H s.heap.objs.size (.lst ys)) {s with heap:=s.heap.push {cls:=.type "list",data:=.seq its.toArray},toks:=t'}:=
 I.laid (λ_ _ q=>qG _ q) (qL _) ⟨hz,its,0,hv,qe _ rfl⟩
theorem Inv.fresh(I:Inv X pins σ H s):H s.heap.objs.size=none:=I.hok.fresh (qL _)
theorem Inv.lstM(I:Inv X pins σ H s)(hH:H l=some (.lst xs)):xs.length<=qb/\∃(its:List Value)(n:Nat),Vals xs its/\xs.length=its.length/\s.heap.get? l=some {cls:=.type "list",data:=.seq its.toArray n}:=by
 obtain⟨z,its,n,r,e⟩:=I.hok l _ hH
 exact⟨z,its,n,r,r.length,e⟩
theorem zyr{n:Nat}(h:n<=qb):Builtin.List.listTooLong n=false:=by
 unfold Builtin.List.listTooLong
 exact decide_eq_false (by omega)
end
section
variable{X:Cx}
noncomputable def zwt:V->List V->Hp->VK->Prop:=λx vs H Q=>∃l xs y,x=.ref l/\vs=[y]/\H l=some (.lst xs)/\xs.length<qb/\Q .non (upd H l (.lst (xs++[y])))
theorem zel:MtM X "list.append" zwt:=by
 intro pins s σ H x vs v us Q I rx rv h
 obtain⟨l,xs,y,rfl,rfl,hH,hz,q⟩:=h
 cases rx
 obtain⟨u,rfl,ru⟩:=rv.one
 obtain⟨z,its,n,r,hl,e⟩:=I.lstM hH
 refine qBl F.slot_list_append ⟨_,e,rfl⟩ F.entry_list_append (F.args_list_append_2 _ _) (PySem.list_append l its.toArray n u (by rw[qO];omega)) ⟨e,?_⟩
 refine⟨.non,_,I.lset (its':=its++[u]) hH e (by simp) (r.append (.cons ru .nil)) ?_,rfl,q⟩
 rw[qI,List.length_singleton]
 omega
noncomputable def zaca:V->List V->Hp->VK->Prop:=λx vs H Q=>∃l b xs zs,x=.ref l/\vs=[.ref b]/\H l=some (.lst xs)/\H b=some (.lst zs)/\xs.length+zs.length<=qb/\Q .non (upd H l (.lst (xs++zs)))
theorem zacb:MtM X "list.extend" zaca:=by
 intro pins s σ H x vs v us Q I rx rv h
 obtain⟨l,b,xs,zs,rfl,rfl,hH,hB,hz,q⟩:=h
 cases rx
 obtain⟨u,rfl,ru⟩:=rv.one
 cases ru
 obtain⟨z,its,n,r,hl,e⟩:=I.lstM hH
 obtain⟨z2,its2,n2,r2,hl2,e2⟩:=I.lstM hB
 have hsz:its.toArray.size+its2.toArray.size<=qb:=by rw[qO,qO];omega
 have hlong:¬(!its.toArray.isEmpty&&Builtin.List.listTooLong (its.toArray.size+its2.toArray.size))=true:=by
  rw[zyr hsz,Bool.and_false]
  exact qQ
 refine qBl F.slot_list_extend ⟨_,e,rfl⟩ F.entry_list_extend (F.args_list_extend_2 _ _)
  (AutoSeq1.list_extend_list_list_0 l its.toArray n b its2.toArray n2 hlong (by rw[qO];omega) (by omega)) ⟨e,e2,?_⟩
 refine⟨.non,_,I.lset (its':=its++its2) hH e (by simp) (r.append r2) ?_,rfl,q⟩
 rw[qI]
 omega
noncomputable def zacc:V->List V->Hp->VK->Prop:=λx vs H Q=>∃l xs i k y,x=.ref l/\vs=[.int i]/\H l=some (.lst xs)/\-(2 ^ 63)<=i/\i<2 ^ 63/\seqIndex? i xs.length=some k/\xs[k]?=some y/\Q y (upd H l (.lst (xs.eraseIdx k)))
theorem zys:MtM X "list.pop" zacc:=by
 intro pins s σ H x vs v us Q I rx rv h
 obtain⟨l,xs,i,k,y,rfl,rfl,hH,h1,h2,hk,hy,q⟩:=h
 cases rx
 obtain⟨u,rfl,ru⟩:=rv.one
 obtain⟨t,rfl⟩:=ru
 obtain⟨z,its,n,r,hl,e⟩:=I.lstM hH
 obtain⟨w,hw,rw'⟩:=r.get hy
 refine qBl F.slot_list_pop ⟨_,e,rfl⟩ F.entry_list_pop (F.args_list_pop_2 _ _)
  (MeetsSeq.list_pop_at l its.toArray n i t k w (fitsIndex_both h1 h2) (by rw[qO,<- hl];exact hk) (by rw[<- qCh];exact hw) (by rw[qO];omega)) ⟨e,?_⟩
 refine⟨y,_,I.lset (its':=its.eraseIdx k) hH e ?_ (r.eraseIdx k) ?_,rw',q⟩
 ·show its.toArray.eraseIdxIfInBounds k=(its.eraseIdx k).toArray
  rw[List.eraseIdxIfInBounds_toArray]
 ·have:=zuq xs k
  omega
noncomputable def rCat:R2:=λx y H Q=>∃l b xs zs,x=.ref l/\y=.ref b/\H l=some (.lst xs)/\H b=some (.lst zs)/\xs.length+zs.length<=qb/\∀p,H p=none->Q (.ref p) (upd H p (.lst (xs++zs)))
theorem zaom:OpR X (binaryOp .Add) rCat:=by
 intro pins s σ H x y v u Q I rx ry h
 obtain⟨l,b,xs,zs,rfl,rfl,hH,hB,hz,q⟩:=h
 cases rx
 cases ry
 obtain⟨z,its,n,r,hl,e⟩:=I.lstM hH
 obtain⟨z2,its2,n2,r2,hl2,e2⟩:=I.lstM hB
 refine PySem.P.add_list e e2 ?_ (by rw[qO,qO];omega)
 have ea:its.toArray++its2.toArray=(its++its2).toArray:=by simp
 rw[ea]
 exact⟨.ref _,_,I.lnew (t':=s.toks) (r.append r2) (by rw[qI];omega),rfl,q _ I.fresh⟩
noncomputable def rRep:R2:=λx y H Q=>∃l k xs,x=.ref l/\y=.int k/\H l=some (.lst xs)/\-(2 ^ 63)<=k/\k<2 ^ 63/\xs.length * k.toNat<=qb/\
 ∀p,H p=none->Q (.ref p) (upd H p (.lst (List.replicate k.toNat xs).flatten))
theorem zako{α:Type}(xs:List α)(k:Nat):(List.replicate k xs).flatten.length=k * xs.length:=by
 induction k with
 | zero=>simp
 | succ k ih=>rw[qAf,qA7,qI,ih,Nat.succ_mul,Nat.add_comm]
theorem zaon:OpR X (binaryOp .Mult) rRep:=by
 intro pins s σ H x y v u Q I rx ry h
 obtain⟨l,k,xs,rfl,rfl,hH,h1,h2,hz,q⟩:=h
 cases rx
 obtain⟨t,rfl⟩:=ry
 obtain⟨z,its,n,r,hl,e⟩:=I.lstM hH
 have hlen:its.toArray.size * k.toNat<=qb:=by rw[qO,<- hl];exact hz
 have hcap:¬its.toArray.size * k.toNat >(2 ^ 63 - 1) / 8:=by
  have:(qb:Nat)<=(2 ^ 63 - 1) / 8:=by decide
  omega
 have hfit:¬(!Builtin.List.listFitsIndex k)=true:=by
  rw[fitsIndex_both h1 h2]
  exact qQ
 have hlong:¬Builtin.List.listTooLong (its.toArray.size * k.toNat)=true:=by
  rw[zyr hlen]
  exact qQ
 have hnew:List.foldl (λx1 x2=>x1++x2) #[] (List.replicate (if its.toArray.isEmpty=true then 0 else k.toNat) its.toArray)=(List.replicate k.toNat its).flatten.toArray:=by
  have f0:∀m:Nat,List.foldl (λx1 x2=>x1++x2) #[] (List.replicate m its.toArray)=(List.replicate m its).flatten.toArray:=λm=>by
   have:=zur its m []
   rw[List.nil_append]at this
   exact this
  rw[f0]
  cases its with
  | nil=>simp
  | cons a r'=>rw[if_neg (by simp)]
 refine wpAny_binaryOp_repeat_ref (T:="list") (U:="int") (by decide) ⟨_,e,rfl⟩ (λs'=>typeIs_int s' k t) noFill_list_mul F.fills_int_mul F.slot_int_rmul repeat_list F.slot_int_index.lookup
  (qBl F.slot_int_rmul (typeIs_int s k t) F.entry_int_rmul (F.args_int_rmul_2 _ _) (int___rmul___int_list k t l its.toArray n)
   ⟨e,rfl,⟨_,e,rfl⟩,qBl F.slot_list_mul ⟨_,e,rfl⟩ F.entry_list_mul (F.args_list_mul_2 _ _) (AutoListH.list___mul___list_int_3 l its.toArray n k t hfit hcap hlong) ⟨e,?_⟩⟩)
 rw[hnew]
 exact⟨.ref _,_,I.lnew (t':=s.toks) (r.rep k.toNat) (by rw[zako,Nat.mul_comm];exact hz),rfl,q _ I.fresh⟩
end
section
variable{prog:Program}{w:World}{A:Around}{E:Value->Shared->Prop}{s:Shared}
set_option maxRecDepth 100000 in
end
section
variable{X:Cx}
end
section
variable{κ:Type}[DecidableEq κ]
end
section
variable{P:Program}{w:World}{H:Hp}{h:Heap}{a:Addr}
end
section
variable{X:Cx}{pins:List (Addr×Obj)}{σ:St}{H:Hp}{s:Shared}{a:Addr}{y v:V}{u r:Value}{o:Option V}{A:Around}{E:Value->Shared->Prop}
end
section
variable{X:Cx}{pins:List (Addr×Obj)}{σ:St}{H:Hp}{s:Shared}{a:Addr}{kvs:List (Key×V)}{k:Key}{u:Value}{A:Around}{E:Value->Shared->Prop}
end
section
variable{X:Cx}{o i e value:Expr}{pos pos' tpos:Pos}{td ty tv:TE}
end
section
variable{X:Cx}{pos:Pos}
end
set_option genInjectivity false in
set_option genInjectivity false in
section
variable{X:Cx}{pins:List (Addr×Obj)}{σ:St}{H:Hp}{s:Shared}{a:Addr}{y d:V}{u r:Value}{o:Option V}{A:Around}{E:Value->Shared->Prop}
end
section
variable{X:Cx}{o e f:Expr}{apos cpos:Pos}{td ty tx:TE}
end
section
variable{X:Cx}{pins:List (Addr×Obj)}{σ:St}{H:Hp}{s:Shared}{a:Addr}{kvs:List (Key×V)}{A:Around}{E:Value->Shared->Prop}
end
section
variable{X:Cx}{pins:List (Addr×Obj)}{σ:St}{H:Hp}{s:Shared}{a:Addr}{y:V}{u:Value}{A:Around}{E:Value->Shared->Prop}
end
end L2
namespace Att
open PySem PySem.W PySem.Calls PyProof.Rows
theorem zor{P:Params}{h:Heap}:∀(ns:List Int)(vs:List Value),WellAll P h vs (ns.map WData.int)->IntsAre vs ns:=by
 intro ns
 induction ns with
 | nil=>
  intro vs w
  rw[List.map_nil]at w
  cases w
  exact .nil
 | cons n ns ih=>
  intro vs w
  rw[qAE]at w
  cases w with
  | cons a b=>
   cases a
   exact .cons _ _ (ih _ b)
theorem zacd{l:OpenLaw}{n:Nat}(hn:l.most=some n){P:Params}{h:Heap}{args:List WData}{vals:List Value}
  (hpre:l.row.toRowW.claim.pre args=true)(hwl:WellAll P h vals args) :
  ∃a vs ns,vals=[Value.ref a]/\args=[WData.list (ns.map WData.int)]/\h.get? a=some {cls:=.type "list",data:=.seq vs.toArray}/\IntsAre vs ns/\ns.length<=n:=by
 have hsh:WShape.hasAll [] args [.list .int]=true:=(pre_splitW hpre).1
 have hc:l.pre.holds [] {args:=args}=true:=(pre_splitW hpre).2
 obtain⟨d,r,rfl,h1,h2⟩:=hasAllW_cons hsh
 obtain rfl:=hasAllW_nil h2
 obtain⟨xs,rfl,h3⟩:=hasW_list h1
 obtain⟨ns,rfl⟩:=items_int h3
 have hlen:ns.length<=n:=by
  unfold OpenLaw.pre at hc
  have h4:(WTm.not (.lt (.lit (.int (n:Int))) (.len (.arg 0)))).holds [] {args:=[.list (ns.map .int)]}=true:=by
   have h4:=(holds_andW hc).1
   rw[hn]at h4
   exact h4
  have h5:=condW_of h4 (w_not (w_lt w_lit (w_len_list (w_arg rfl))))
  rw[qD]at h5
  refine Nat.le_of_not_lt λq=>?_
  have q':(n:Int)<((ns.length:Nat):Int):=by omega
  first
   | (rw[decide_eq_true q']at h5;exact absurd h5 (by decide))
   | (simp at h5;omega)
 cases hwl with
 | cons w1 w2=>
  cases w2
  cases w1 with
  | list ho hall=>exact⟨_,_,ns,rfl,rfl,ho,zor ns _ hall,hlen⟩
theorem zace(l:OpenLaw)(args:List WData):l.row.toRowW.claim.post args (.bool true) args=true:=
 postW_of (r:=l.row.toRowW) (X:=(true==true))
  (show WShape.has [] (.bool true) .bool=true by first|rfl|decide|simp[WShape.has,WShape.arms,WShape.armsAll])
  (show(WTm.eq .res (.lit (.bool true))).value [] {args:=args,res:=some (.bool true),after:=args}=some (.bool (true==true))from w_eq_bool (w_res rfl) w_lit) rfl
theorem attach_call{l:OpenLaw}{n:Nat}{q:Program}{loose:List Str}{XP:(Str->Option Value)->Heap->Prop}{YP:World->Heap->Prop}{d:DefRec}
  (hn:l.most=some n)(hdf:d.params.defaults=[])
  (call:∀(w:World)(s₀ s₁:Shared)(mg mb:Str->Option Value)(fa:Addr)(o:Obj)(pm cd doc:Value)(a:Addr)(vs:List Value)(ns:List Int),
   Ground q loose [] XP w s₀ mg mb s₁.heap->YP w s₁.heap->
   s₁.heap.get? fa=some o->o.data=.func (docDef d.name d.params d.body d.scope pm cd doc)->s₁.heap.CodeRec cd d.name->mg d.name=some (.ref fa)->
   s₁.heap.get? a=some {cls:=.type "list",data:=.seq vs.toArray}->IntsAre vs ns->ns.length<=n->s₁.gens=#[]->
   codeAny (model l.prog w) callerA (.call (.ref fa) ⟨[.ref a],[]⟩) (λr s'=>r=.ok (.ret (.bool true))/\OldK s₁.heap s'.heap/\s'.os=s₁.os/\AllBare s'.gens) s₁) :
  WalkO q loose XP YP l.row.toRowW d [] (λf vs=>PySem.call f vs):=by
 intro w s₀ s₁ mg mb G Y fa o pm cd doc dV kV ho hd hcd hD hmg hg args vals as hpre hlay hrd hwl hlo
 obtain rfl:dV=.none:=Dflts.none hD hdf
 obtain rfl:kV=.none:=Dflts.noKw hD
 obtain⟨a,vs,ns,rfl,rfl,hobj,hints,hlen⟩:=zacd hn hpre hwl
 refine enter_call (qBT (call w s₀ s₁ mg mb fa o pm cd doc a vs ns G Y ho (fd_plain hd) hcd hmg hobj hints hlen hg) λr s' hq=>?_)
 obtain⟨rfl,h2,h3,h4⟩:=hq
 exact⟨.inl ⟨.bool true,.bool true,[],rfl,λ_=>rfl,.bool true,zace l _,λ_=>⟨List.Pairwise.nil,λ_ hm=>(nomatch hm)⟩⟩,h2,h3,h4⟩
section
variable{prog:Program}{w:World}{A:Around}{E:Value->Shared->Prop}{s:Shared}{K:Frag}
end
end Att
namespace L2
open PySem PySem.Spec PyProof.Rows
theorem zus:∀{vs:List Value}{ns:List Int},IntsAre vs ns->Vals (ns.map V.int) vs
 | _,_,.nil=>.nil
 | _,_,.cons n t h=>.cons ⟨t,rfl⟩ (zus h)
noncomputable def Only(H:Hp):Prop:=∀b,H b=none\/∃o xs,H b=some (.frz o (.lst xs))
theorem zagd{P:Program}{w:World}{K:qC}{mg mb:Str->Option Value}{CX:CXT}{k:Nat}{fa a:Addr}{fd:qAF}{x:Str}{sp:Sp}{s₁:Shared}{vs:List Value}{ns:List Int}
  (KX:K.In s₁.heap)(hns:s₁.heap.Ns qX mg)(hb:s₁.heap.Ns builtinsNs mb)(hbb:∀x:Str,x≠"__name__"->mb x=bootBuiltins x)(hlim:s₁.heap.NoLimit)(hg:s₁.gens=#[])
  (ha:s₁.heap.get? a=some {cls:=.type "list",data:=.seq vs.toArray}) (hi:IntsAre vs ns) (hl:ns.length<=qb) (hr:Room k callerA)
  (F:∀base:Heap,K.In base->base.Ns qX mg->FnOk P w K mg base CX k fa fd [x] sp)(hbind:∀(s:Shared) (u:Value),BindsTo s fd ⟨[u],[]⟩ [(x,u)])
  (hsp:∀H:Hp,Only H->SqL K H a (ns.map V.int)->sp [.ref a] H (λv _=>v=.bl true) λ_ _ _=>False)
  (hCX:∀H e s',CX [] H s₁ (λ_ _ _=>False) e s'->False) :
  codeAny (model P w) callerA (.call (.ref fa) ⟨[.ref a],[]⟩) (λr s'=>r=.ok (.ret (.bool true))/\OldK s₁.heap s'.heap/\s'.os=s₁.os/\AllBare s'.gens) s₁:=by
 have rv:=zus hi
 have lenV:=hi.length
 have core:∀H:Hp,Only H->SqL K H a (ns.map V.int)->HOk P w H s₁.heap->(∀b,H b≠none->b=a)->(H a≠none->K.lookup a=none)->
   codeAny (model P w) callerA (.call (.ref fa) ⟨[.ref a],[]⟩) (λr s'=>r=.ok (.ret (.bool true))/\OldK s₁.heap s'.heap/\s'.os=s₁.os/\AllBare s'.gens) s₁:=by
  intro H hO hS hok hA hK
  have base_of:∀{b:Addr}{o:Obj},s₁.heap.get? b=some o->H b=none->(hidT s₁.heap H).get? b=some o:=λe n=>zafr e n
  have noA:∀{b:Addr}{o:Obj}{es:Array DictEntry}{ep:Nat},s₁.heap.get? b=some o->o.data=.dict es ep->H b=none:=λ{b o es ep} e d=>by
   cases q:H b with
   | none=>rfl
   | some u=>
    have e':b=a:=hA b (by rw[q];simp)
    subst e'
    rw[ha]at e;cases e
    have d':Data.seq vs.toArray _=Data.dict es ep:=d
    cases d'
  have nsK:∀{b:Addr}{m:Str->Option Value},s₁.heap.Ns b m->(hidT s₁.heap H).Ns b m:=λ{b m} ⟨o,es,ep,e,d,r⟩=>⟨o,es,ep,base_of e (noA e d),d,r⟩
  have hKb:K.In (hidT s₁.heap H):=λb o e=>base_of (KX b o e) (by
   cases q:H b with
   | none=>rfl
   | some u=>
    have e':b=a:=hA b (by rw[q];simp)
    subst e'
    rw[hK (by rw[q];simp)]at e;cases e)
  have hM:Mod K mg (hidT s₁.heap H):=⟨hKb,nsK hns,⟨mb,nsK hb,hbb⟩,let⟨mc,h1,h2⟩:=hlim;⟨mc,nsK h1,h2⟩⟩
  have e0:Env0 P w K mg (hidT s₁.heap H) callerA [] s₁ H:=⟨rfl,hM,λb o e=>zajx e,Nat.le_of_eq (zabh _ _),trivial,λb hb=>absurd (show b∈([]:List Addr)from hb) (by simp),hok,.of_eq hg⟩
  refine qBT ((F _ hKb (nsK hns)).run callerA [] s₁ H ⟨[.ref a],[]⟩ [.ref a] [.ref a] _ _ hr e0 (hbind s₁ (.ref a)) (.cons rfl .nil) (hsp H hO hS)) λr s' h=>?_
  cases r with
  | error e=>exact(hCX H e s' h).elim
  | ok fl=>
   cases fl with
   | next=>exact False.elim h
   | brk=>exact False.elim h
   | cont=>exact False.elim h
   | ret u=>
    obtain⟨v,H',os,bare,un,hok',r',q⟩:=h
    have q':v=.bl true:=q
    subst q'
    obtain rfl:u=Value.bool true:=r'
    refine⟨rfl,OldK.of_keep λb o e=>?_,os,bare⟩
    cases q:H b with
    | none=>exact un.keep b o e q (by intro z;exact absurd (show b∈([]:List Addr)from z) (by simp)) (by simp)
    | some u=>
     rcases hO b with z|⟨ob,xs,z⟩
     ·rw[q]at z;cases z
     ·have z2:=un.frzs b ob _ z
      obtain⟨e1,_⟩:=hok b _ z
      obtain⟨e2,_⟩:=hok' b _ z2
      rw[e]at e1;cases e1
      exact e2
 cases hk:K.lookup a with
 | some o=>
  have e:=KX a o hk
  rw[ha]at e
  cases e
  refine core (λ_=>none) (λ_=>.inl rfl) (.inr ⟨_,vs.toArray,_,hk,rfl,rfl,rfl,by rw[qO,lenV];exact hl,by simpa using rv⟩) (λb u z=>by have z':(none:Option HO)=some u:=z;cases z') (λb z=>absurd rfl z) λz=>absurd rfl z
 | none=>
  refine core (λb=>if b=a then some (.frz {cls:=.type "list",data:=.seq vs.toArray} (.lst (ns.map V.int)))else none) (λb=>?_) (.inl (.inr ⟨{cls:=.type "list",data:=.seq vs.toArray},if_pos rfl⟩)) (λb u z=>?_) (λb z=>?_) λ_=>hk
  ·by_cases hb:b=a
   ·exact .inr ⟨_,_,if_pos hb⟩
   ·exact .inl (if_neg hb)
  ·by_cases hb:b=a
   ·have z':=(if_pos hb).symm.trans z
    cases z'
    subst hb
    exact⟨ha,by rw[qD];exact hl,vs,_,rv,ha⟩
   ·have z':=(if_neg hb).symm.trans z
    cases z'
  ·by_cases hb:b=a
   ·exact hb
   ·exact absurd (if_neg hb) z
theorem walk_of{l:PySem.W.OpenLaw}{n k:Nat}{q:Program}{loose:List Str}{XP:(Str->Option Value)->Heap->Prop}{YP:World->Heap->Prop}{d:DefRec}{K:Params->qC}{CX:World->CXT}{sp:World->Sp}{x:Str}
  (hn:l.most=some n)(hn2:n<=qb)(hdf:d.params.defaults=[])(hr:Room k callerA)
  (hY:∀(w:World) (h:Heap),YP w h->(K w.params).In h)
  (F:∀(w:World)(mg:Str->Option Value)(fa:Addr)(h:Heap),(K w.params).In h->h.Ns qX mg->mg d.name=some (.ref fa)->
   ∃fd:qAF,(∀(s:Shared)(u:Value),BindsTo s fd ⟨[u],[]⟩ [(x,u)])/\
    ∀base:Heap,(K w.params).In base->base.Ns qX mg->FnOk l.prog w (K w.params) mg base (CX w) k fa fd [x] (sp w))
  (hsp:∀(w:World) (H:Hp) (a:Addr) (ns:List Int),ns.length<=n->Only H->SqL (K w.params) H a (ns.map V.int)->sp w [.ref a] H (λv _=>v=.bl true) λ_ _ _=>False)
  (hCX:∀(w:World) (H:Hp) (s:Shared) (e:Value) (s':Shared),CX w [] H s (λ_ _ _=>False) e s'->False) :
  PySem.W.WalkO q loose XP YP l.row.toRowW d [] (λf vs=>PySem.call f vs):=by
 refine Att.attach_call hn hdf λw s₀ s₁ mg mb fa o pm cd doc a vs ns G Y ho hd hcd hmg hobj hints hlen hg=>?_
 have KX:=hY w _ Y
 obtain⟨fd,hb,hF⟩:=F w mg fa _ KX G.T.g hmg
 exact zagd KX G.T.g G.T.b G.T.builtins G.T.nolimit hg hobj hints (qAC hlen hn2) hr hF hb (λH hO hS=>hsp w H a ns hlen hO hS) λH e s'=>hCX w H s₁ e s'
end L2
namespace L2
open PySem PySem.Spec PyProof.Rows
noncomputable def zsv(s:Stmt)(j:Nat):Stmt:=match s with
 | .ClassDef _ _ _ body _ _ _ _ _ _ _=>body.getD j (.Pass ⟨0,0,0,0⟩)
 | _=>.Pass ⟨0,0,0,0⟩
noncomputable def zbz(s:Stmt):Arguments:=match s with
 | .FunctionDef _ a _ _ _ _ _ _ _ _=>a
 | _=>{posonlyargs:=[],args:=[],vararg:=none,kwonlyargs:=[],kw_defaults:=[],kwarg:=none,defaults:=[]}
noncomputable def zbq(s:Stmt):List Stmt:=match s with
 | .FunctionDef _ _ b _ _ _ _ _ _ _=>b
 | _=>[]
noncomputable def zan(s:Stmt):Scope:=match s with
 | .FunctionDef _ _ _ _ _ _ sc _ _ _=>sc
 | _=>{kind:=.function,names:=[],isGenerator:=false,isCoroutine:=false}
noncomputable abbrev CX0:CXT:=λ_ _ _ _ _ _=>False
noncomputable abbrev E0:XK:=λ_ _ _=>False
theorem zark{X:Cx}:zuh CX0 X E0:=λ_ _ _ _ _ _ _ h=>h.elim
set_option genInjectivity false in
structure Fun(K:qC)(x qual:Str)(st:Stmt)(f:Addr)(fd:qAF):Prop where
 ex:∃(oc:Value)(od:Option Addr)(kV doc pm:Value)(an:Option Addr)(cdv ct:Value)(osl:Array (Option Value)),
  fd=qt x qual (zbz st) (zbq st) (zan st) .none kV doc pm an cdv ct/\K.lookup f=some ⟨oc,od,.func fd,osl⟩/\qp K cdv qual=true
 kp:qY K (.ref f)=true
section
variable{P:Program}{w:World}{K:qC}{mg:Str->Option Value}{base:Heap}
theorem Fun.ok{x qual:Str}{st:Stmt}{f:Addr}{fd:qAF}{N ps:List Str}{k:Nat}{sp:Sp}(F:Fun K x qual st f fd)(S:FnScope N ps (zan st))(len:∀vs H Q E,sp vs H Q E->vs.length=ps.length)
  (hbody:∀(cdv:Value)(A:Around)(outer:List Env)(s:Shared)(H:Hp)(vs:List V)(Q:VK)(E:XK),Room k (A.deeper (envOfC qual (zan st) s.heap.objs.size f cdv))->sp vs H Q E->
   ∃t,PSs (cxOf CX0 P w K mg base N qual (zan st) f cdv A outer s H E).nox (zbq st) t/\t {nx:=λ_ H'=>Q .non H',rt:=Q} (zgi N vs) H):FnOk P w K mg base CX0 (k+1) f fd ps sp:=by
 obtain⟨oc,od,kV,doc,pm,an,cdv,ct,osl,rfl,lk,hcd⟩:=F.ex
 refine zarh lk hcd S len λA outer s H vs Q E hr hsp=>?_
 obtain⟨t,h,q⟩:=hbody cdv A outer s H vs Q E hr hsp
 exact⟨t,h.nox,q⟩
theorem Fun.binds{x qual:Str}{st:Stmt}{f:Addr}{fd:qAF}{ps:List Str}(F:Fun K x qual st f fd)
  (h:∀(kV doc pm:Value) (an:Option Addr) (cdv ct:Value) (us:List Value),us.length=ps.length->bindArgs (qt x qual (zbz st) (zbq st) (zan st) .none kV doc pm an cdv ct) ⟨us,[]⟩=pure (ps.zip us)):znw K fd ps []:=by
 obtain⟨oc,od,kV,doc,pm,an,cdv,ct,osl,rfl,lk,hcd⟩:=F.ex
 exact .all (h kV doc pm an cdv ct)
theorem zed{x qual:Str}{st:Stmt}{f:Addr}{oc:Value}{od an:Option Addr}{osl:Array (Option Value)}{kV doc pm cdv ct:Value}(l:K.lookup f=some ⟨oc,od,.func (qt x qual (zbz st) (zbq st) (zan st) .none kV doc pm an cdv ct),osl⟩)
  (c:qp K cdv qual=true) (k:qY K (.ref f)=true):Fun K x qual st f (qt x qual (zbz st) (zbq st) (zan st) .none kV doc pm an cdv ct):=⟨⟨oc,od,kV,doc,pm,an,cdv,ct,osl,rfl,l,c⟩,k⟩
end
theorem zgx{A:Around}{k:Nat}(hr:Room k A):A.units+1<cLine:=Nat.lt_of_le_of_lt (Nat.add_le_add_left (by decide:1<=64) _) hr.units
section
variable{X:Cx}
theorem pv(i:Nat){x:Str}{pos:Pos}(hN:X.N[i]?=some x:=by rfl)(hv:visB X.env.scope x=true:=by rfl)(hd:(x==("__debug__":Str))=false:=by decide)
  (hcd:(x==("__classdict__":Str))=false:=by decide):PE X (.Name x pos) (tVar i):=zajb hN (visB.of hv) hd hcd
end
theorem iteF{A B:Prop}(h:B):if false=true then A else B:=by
 rw[if_neg qQ]
 exact h
theorem iteT{A B:Prop}(h:A):if true=true then A else B:=by
 rw[if_pos rfl]
 exact h
noncomputable def Same(H H':Hp):Prop:=∀b o,H b=some o->H' b=some o
theorem Same.refl(H:Hp):Same H H:=λ_ _ h=>h
theorem Same.trans{H H1 H2:Hp}(a:Same H H1)(b:Same H1 H2):Same H H2:=λc o h=>b c o (a c o h)
theorem Same.free{H H':Hp}(e:Same H H'){l:Addr}(h:H' l=Option.none):H l=Option.none:=by
 cases q:H l with
 | none=>rfl
 | some o=>
  rw[e l o q]at h
  cases h
theorem Same.seq{K:qC}{H H':Hp}{a:Addr}{xs:List V}(e:Same H H')(h:SqL K H a xs):SqL K H' a xs:=by
 rcases h with(h|⟨o,h⟩)|h
 ·exact .inl (.inl (e _ _ h))
 ·exact .inl (.inr ⟨o,e _ _ h⟩)
 ·exact .inr h
section
variable{κ:Type}[DecidableEq κ]
end
end L2
set_option maxHeartbeats 4000000
namespace L2
open PySem PySem.Spec PyProof.Rows
noncomputable def clos(cells:List (Str×Addr)):List (Str×NameKind)->List (Str×Addr)->List (Str×Addr)
 | [],acc=>acc
 | (n,k)::r,acc=>if k==.free then clos cells r ((n,(cells.lookup n).getD 0)::acc)else clos cells r acc
theorem zsw{cells:List (Str×Addr)}:∀{names:List (Str×NameKind)}{acc:List (Str×Addr)},(∀y∈names,y.2=.free->∃c,cells.lookup y.1=some c)->∀p∈clos cells names acc,p∈acc\/((p.1,NameKind.free)∈names/\cells.lookup p.1=some p.2)
 | [],acc,_,p,hp=>.inl hp
 | (n,k)::r,acc,h,p,hp=>by
  unfold clos at hp
  have hr:∀y∈r,y.2=.free->∃c,cells.lookup y.1=some c:=λy hy=>h y (qR _ hy)
  split at hp
  ·rename_i hk
   rcases zsw hr p hp with q|q
   ·rcases qi.mp q with q|q
    ·subst q
     have hk':k=.free:=by simpa using hk
     subst hk'
     obtain⟨c,hc⟩:=h (n,.free) qc rfl
     exact .inr ⟨qc,by show cells.lookup n=some ((cells.lookup n).getD 0);rw[hc];rfl⟩
    ·exact .inl q
   ·exact .inr ⟨qR _ q.1,q.2⟩
  ·rcases zsw hr p hp with q|q
   ·exact .inl q
   ·exact .inr ⟨qR _ q.1,q.2⟩
theorem zsx{cells:List (Str×Addr)}:∀{names:List (Str×NameKind)}{acc:List (Str×Addr)},∀p∈acc,p∈clos cells names acc
 | [],acc,p,hp=>hp
 | (n,k)::r,acc,p,hp=>by
  unfold clos
  split
  ·exact zsx p (qR _ hp)
  ·exact zsx p hp
theorem zsy{cells:List (Str×Addr)}{x:Str}:∀{names:List (Str×NameKind)}{acc:List (Str×Addr)},(x,NameKind.free)∈names->∃c,(x,c)∈clos cells names acc
 | [],_,h=>by simp at h
 | (n,k)::r,acc,h=>by
  unfold clos
  rcases qi.mp h with e|h
  ·cases e
   rw[if_pos (show(NameKind.free==NameKind.free)=true by decide)]
   exact⟨_,zsx _ qc⟩
  ·split
   ·exact zsy h
   ·exact zsy h
theorem zlw{α:Type}{x:Str}{c:α}:∀{l:List (Str×α)},(x,c)∈l->∃c',l.lookup x=some c'
 | [],h=>by simp at h
 | (k,v)::r,h=>by
  rw[qAh]
  cases hb:x==k with
  | true=>exact⟨v,rfl⟩
  | false=>
   rcases qi.mp h with e|h
   ·cases e;simp at hb
   ·exact zlw h
theorem zlx{scope:Scope}{env:Env}(h:∀y∈scope.names,y.2=.free->∃c,env.cells.lookup y.1=some c):closureFor scope env=pure (clos env.cells scope.names []):=by
 unfold closureFor
 have key:∀(names:List (Str×NameKind))(acc:List (Str×Addr)),(∀y∈names,y.2=.free->∃c,env.cells.lookup y.1=some c)->
   (forIn names acc (λ(x:Str×NameKind) (r:List (Str×Addr))=>(if(x.2==.free)=true then(do let a <- cellOf env x.1;pure (ForInStep.yield ((x.1,a)::r)))else pure (ForInStep.yield r):Sem (ForInStep (List (Str×Addr))))))=pure (clos env.cells names acc):=by
  intro names
  induction names with
  | nil=>intro acc _;rfl
  | cons y r ih=>
   intro acc hy
   obtain⟨n,k⟩:=y
   have hr:=λy (hm:y∈r)=>hy y (qR _ hm)
   rw[qCH]
   unfold clos
   cases hk:(k==NameKind.free)with
   | true=>
    have hk':k=.free:=by simpa using hk
    subst hk'
    obtain⟨c,hc⟩:=hy (n,.free) qc rfl
    have e1:cellOf env n=pure c:=by unfold cellOf;rw[hc]
    simp only[if_true]
    have hc':env.cells.lookup n=some c:=hc
    rw[e1,hc']
    simp only[pure_bind,Option.getD_some]
    exact ih _ hr
   | false=>
    simp only[qBY,if_false,pure_bind]
    exact ih _ hr
 simpa using key scope.names [] h
theorem zgy:∀(names:List (Str×NameKind))(n:Nat)(acc:List (Str×Addr)),cellsFrom n names acc=cellsFrom n names []++acc
 | [],_,_=>rfl
 | (name,kind)::r,n,acc=>by
  unfold cellsFrom
  split
  ·rw[zgy r (n+1) ((name,n)::acc),zgy r (n+1) [(name,n)],qAw];rfl
  ·exact zgy r n acc
theorem zgz{x:Str}{c:Addr}:∀(names:List (Str×NameKind))(n:Nat)(acc:List (Str×Addr)),(x,c)∈cellsFrom n names acc->(x,c)∈acc\/(x,NameKind.cell)∈names
 | [],_,_,h=>.inl h
 | (name,kind)::r,n,acc,h=>by
  unfold cellsFrom at h
  split at h
  ·rename_i hk
   have hk':kind=.cell:=by simpa using hk
   subst hk'
   rcases zgz r _ _ h with q|q
   ·rcases qi.mp q with q|q
    ·cases q;exact .inr qc
    ·exact .inl q
   ·exact .inr (qR _ q)
  ·rcases zgz r _ _ h with q|q
   ·exact .inl q
   ·exact .inr (qR _ q)
theorem zky{α:Type}{x:Str}:∀{l r:List (Str×α)},(l++r).lookup x=(l.lookup x).or (r.lookup x)
 | [],_=>by simp
 | (k,v)::l,r=>by
  rw[List.cons_append,qAh,qAh]
  cases x==k with
  | true=>rfl
  | false=>exact zky
theorem zgg{env:Env}{x:Str}{k':NameKind}:∀{names:List (Str×NameKind)},
  (names.map λ(n,k)=>if(k==NameKind.free&&env.scope.kind==.function&&env.kindOf n==some .cell)then(n,NameKind.cell)else(n,k)).lookup x=some k'->
  ∃k,names.lookup x=some k/\(k'=k\/(k=.free/\k'=.cell))
 | [],h=>by simp at h
 | (n,k)::r,h=>by
  rw[qAE]at h
  by_cases hc:(k==NameKind.free&&env.scope.kind==.function&&env.kindOf n==some .cell)=true
  ·simp only[hc,if_true]at h
   rw[qAh]at h ⊢
   cases hx:x==n with
   | true=>
    rw[hx]at h
    have hk:k=.free:=by simp at hc;exact hc.1.1
    exact⟨k,rfl,.inr ⟨hk,(qo h).symm⟩⟩
   | false=>rw[hx]at h;exact zgg h
  ·simp only[hc,qBY,if_false]at h
   rw[qAh]at h ⊢
   cases hx:x==n with
   | true=>rw[hx]at h;exact⟨k,rfl,.inl (qo h).symm⟩
   | false=>rw[hx]at h;exact zgg h
theorem zjy{env:Env}{x:Str}:∀{names:List (Str×NameKind)},names.lookup x=some .free->
  ((names.map λ(n,k)=>if(k==NameKind.free&&env.scope.kind==.function&&env.kindOf n==some .cell)then(n,NameKind.cell)else(n,k)).lookup x=some .free\/
   (names.map λ(n,k)=>if(k==NameKind.free&&env.scope.kind==.function&&env.kindOf n==some .cell)then(n,NameKind.cell)else(n,k)).lookup x=some .cell)
 | [],h=>by simp at h
 | (n,k)::r,h=>by
  rw[qAE]
  rw[qAh]at h
  by_cases hc:(k==NameKind.free&&env.scope.kind==.function&&env.kindOf n==some .cell)=true
  ·simp only[hc,if_true]
   rw[qAh]
   cases hx:x==n with
   | true=>exact .inr rfl
   | false=>rw[hx]at h;exact zjy h
  ·simp only[hc,qBY,if_false]
   rw[qAh]
   cases hx:x==n with
   | true=>rw[hx]at h;exact .inl h
   | false=>rw[hx]at h;exact zjy h
theorem zaai{M:Model}{A:Around}{E:Value->Shared->Prop}{s:Shared}{scope:Scope}{globals:Addr}{cl:List (Str×Addr)}{qual:Str}{env:Env}{Q:Env->Shared->Prop}
  (hQ:∀h',(∀b o,s.heap.get? b=some o->h'.get? b=some o)->h'.Ns s.heap.objs.size (λ_=>none)->(∀n c,(n,c)∈cellsFrom (s.heap.objs.size+1) scope.names []->h'.IsCell c none/\s.heap.objs.size+1<=c)->
   ((cellsFrom (s.heap.objs.size+1) scope.names []).Pairwise λx y=>x.2≠y.2)->
   Q {scope:=scope,locals:=s.heap.objs.size,globals:=globals,cells:=cellsFrom (s.heap.objs.size+1) scope.names []++cl,qual:=qual,func:=none,code:=env.code,frame:=env.frame,builtins:=env.builtins} {s with heap:=h'}) :
  wpAny M A (newFunctionEnv scope globals cl [] qual none .none (some env)) Q E s:=by
 simp only[newFunctionEnv,Option.isSome_some,if_true]
 refine qE (wpAny_alloc ?_)
 refine qE (wpAny_layCells _ (λname kind cells=>by cases hkc:kind==NameKind.cell<;>simp[hkc]) _ _ _ _ ?_)
 have ok:=cellsFrom_ok scope.names (s.heap.push {cls:=.type "dict",data:=.dict #[]}) (s.heap.objs.size+1) [] ⟨λ_ _ hm=>(nomatch hm),List.Pairwise.nil⟩ (by rw[qAl];exact qL _)
 rw[qAl]at ok
 rw[show({s with heap:=s.heap.push {cls:=.type "dict",data:=.dict #[]}}:Shared).heap.objs.size=s.heap.objs.size+1 from qAl ..]
 rw[zgy]
 refine qE ?_
 refine qM (qM ?_)
 exact hQ _ (λb o e=>pushCells_keeps _ _ b o (qG _ e)) ((Heap.Ns.new s.heap (.type "dict")).keeps (pushCells_keeps _ _)) ok.empty ok.apart
noncomputable def cxComp(X:Cx)(scope:Scope)(N' own:List Str)(cl:List (Str×Addr))(C:Addr)(s:Shared)(H:Hp)(fp:List Addr):Cx:=
 {X with N:=N',s₀:=s,H₀:=H,env:=compEnvC scope cl C X.env,outer:=X.stack,stack:=X.stack,ex:=fp,fn:=λx=>own.contains x,pn:=[],xe:=λ_ _=>False}
structure CompOk(X:Cx)(scope:Scope)(N' own:List Str)(fr:List Nat):Prop where
 kind:scope.kind=.function
 names:∀y∈scope.names,scope.names.lookup y.1=some y.2
 up:∀y∈scope.names,y.2=.free->(X.env.kindOf y.1=some .cell\/X.env.kindOf y.1=some .free)
 nm:N'=own++fr.map (λj=>X.N.getD j Str.empty)
 fr:∀j∈fr,j<X.N.length/\scope.names.lookup (X.N.getD j Str.empty)=some .free
 own:∀x∈own,scope.names.lookup x=some .local\/scope.names.lookup x=some .cell
noncomputable def tau(own:List Str)(fr:List Nat)(σ:St):St:=own.map (λ_=>none)++fr.map (λj=>σ.getD j none)
section
variable{X:Cx}{pins:List (Addr×Obj)}{σ:St}{H:Hp}{s:Shared}{scope:Scope}{N' own:List Str}{fr:List Nat}
theorem zmw(c:CompOk X scope N' own fr)(ok:X.Ok):∀y∈scope.names,y.2=.free->∃a,X.env.cells.lookup y.1=some a:=λy hy e=>ok.has y.1 (c.up y hy e)
theorem zage{fp:List Addr}{h':Heap}(c:CompOk X scope N' own fr)(I:Inv X pins σ H s)
  (hf:∀b∈fp,FpOk X pins H b)(ho:∀b∈fp,∃o,s.heap.get? b=some o/\∀v,o.data≠.cell v)
  (keep:∀b o,s.heap.get? b=some o->h'.get? b=some o)(ns:h'.Ns s.heap.objs.size (λ_=>none))
  (cells:∀n c,(n,c)∈cellsFrom (s.heap.objs.size+1) scope.names []->h'.IsCell c none/\s.heap.objs.size+1<=c)
  (apart:(cellsFrom (s.heap.objs.size+1) scope.names []).Pairwise λx y=>x.2≠y.2) :
  Inv (cxComp X scope N' own (cellsFrom (s.heap.objs.size+1) scope.names []++clos X.env.cells scope.names []) s.heap.objs.size s H fp) [] (tau own fr σ) H {s with heap:=h'}:=by
 have found:=zmw c I.ok
 have clm:∀x a,(x,a)∈clos X.env.cells scope.names []->(x,NameKind.free)∈scope.names/\X.env.cells.lookup x=some a:=λx a hm=>by
  rcases zsw found (x,a) hm with q|q
  ·simp at q
  ·exact q
 have look:∀x a,(cellsFrom (s.heap.objs.size+1) scope.names []++clos X.env.cells scope.names []).lookup x=some a->
   ((x,a)∈cellsFrom (s.heap.objs.size+1) scope.names []/\(x,NameKind.cell)∈scope.names)\/((x,NameKind.free)∈scope.names/\X.env.cells.lookup x=some a):=λx a e=>by
  rw[zky]at e
  cases q:(cellsFrom (s.heap.objs.size+1) scope.names []).lookup x with
  | some b=>
   rw[q]at e
   cases e
   have hm:=qAM q
   rcases zgz _ _ _ hm with z|z
   ·simp at z
   ·exact .inl ⟨hm,z⟩
  | none=>
   rw[q]at e
   exact .inr (clm x a (qAM e))
 have lookF:∀x a,(x,NameKind.free)∈scope.names->X.env.cells.lookup x=some a->(cellsFrom (s.heap.objs.size+1) scope.names []++clos X.env.cells scope.names []).lookup x=some a:=λx a hx e=>by
  rw[zky]
  have q:(cellsFrom (s.heap.objs.size+1) scope.names []).lookup x=none:=by
   cases q:(cellsFrom (s.heap.objs.size+1) scope.names []).lookup x with
   | none=>rfl
   | some b=>
    rcases zgz _ _ _ (qAM q)with z|z
    ·simp at z
    ·have h1:=c.names _ hx
     have h2:=c.names _ z
     rw[h1]at h2
     cases h2
  rw[q]
  obtain⟨d,hd⟩:=zsy (cells:=X.env.cells) (acc:=[]) hx
  obtain⟨d',hd'⟩:=zlw hd
  have:=(clm x d' (qAM hd')).2
  rw[e]at this
  cases this
  exact hd'
 have below:∀b o,s.heap.get? b=some o->b<s.heap.objs.size:=λb o e=>qN e
 have cold:∀x a,X.env.cells.lookup x=some a->a<s.heap.objs.size:=λx a e=>let⟨v,q⟩:=I.cell x a e;q.lt
 refine⟨⟨I.ok.mod,c.kind,I.ok.glob,I.ok.blt,qL _,?inj,?has,?cab,I.ok.hd,I.ok.frames,.inl rfl,?exf,I.bs,qAC I.ok.bsz I.sz,?noex,?exfs,I.stack,I.stkFree⟩,
  rfl,I.bare,Un.kept keep,⟨_,ns,?loc⟩,?cell,I.hok.fresh (qL _),?freeC,?pin,I.hok.kept keep,?len⟩
 case inj=>
  intro x y a h1 h2
  rcases look x a h1 with⟨m1,k1⟩|⟨k1,e1⟩<;>rcases look y a h2 with⟨m2,k2⟩|⟨k2,e2⟩
  ·exact name_of_addr apart m1 m2
  ·exact absurd (qg (cold y a e2) (qBg (cells x a m1).2)) (qAy _)
  ·exact absurd (qg (cold x a e1) (qBg (cells y a m2).2)) (qAy _)
  ·exact I.ok.inj x y a e1 e2
 case has=>
  intro x hx
  have hx':(∃k,scope.names.lookup x=some k/\(k=.cell\/k=.free)):=by
   rcases hx with hx|hx
   ·obtain⟨k,e,q⟩:=zgg (env:=X.env) (names:=scope.names) hx
    rcases q with q|⟨q,_⟩
    ·exact⟨k,e,.inl q.symm⟩
    ·exact⟨k,e,.inr q⟩
   ·obtain⟨k,e,q⟩:=zgg (env:=X.env) (names:=scope.names) hx
    rcases q with q|⟨q,_⟩
    ·exact⟨k,e,.inr q.symm⟩
    ·exact⟨k,e,.inr q⟩
  obtain⟨k,e,q⟩:=hx'
  show ∃a,(cellsFrom (s.heap.objs.size+1) scope.names []++clos X.env.cells scope.names []).lookup x=some a
  rcases q with rfl|rfl
  ·obtain⟨a,ha⟩:=zss (n:=s.heap.objs.size+1) e
   exact⟨a,by rw[zky,ha];rfl⟩
  ·obtain⟨a,ha⟩:=found _ (qAM e) rfl
   exact⟨a,lookF x a (qAM e) ha⟩
 case cab=>
  intro x a hx e
  have hx:own.contains x=true:=hx
  have hx':x∈own:=by simpa using hx
  rcases look x a e with⟨m1,_⟩|⟨k1,_⟩
  ·have:=(cells x a m1).2
   show s.heap.objs.size<=a
   omega
  ·have h1:=c.names _ k1
   rcases c.own x hx' with h2|h2
   ·rw[h1]at h2;cases h2
   ·rw[h1]at h2;cases h2
 case exf=>
  intro b hb
  obtain⟨o,e,d⟩:=ho b hb
  refine⟨qz (below b o e),λx a q z=>?_⟩
  subst z
  rcases look x a q with⟨m1,_⟩|⟨k1,e1⟩
  ·exact absurd (qg (below a o e) (qBg (cells x a m1).2)) (qAy _)
  ·obtain⟨v,o',e',d'⟩:=I.cell x a e1
   rw[e]at e'
   cases e'
   exact d v d'
 case noex=>
  intro b o e hb
  rcases(hf b hb).2.2.2.1 with z|z
  ·exact I.ok.noex b o e z
  ·exact absurd (qg (qg (qN e) I.ok.bsz) z) (qAy _)
 case exfs=>
  intro b hb z
  rcases qi.mp (I.stkSub b z)with q|q
  ·exact(hf b hb).2.1 q
  ·exact(hf b hb).2.2.1 q
 case loc=>
  intro i x v h1 h2 h3
  have h1:N'[i]?=some x:=h1
  rw[c.nm]at h1
  unfold tau at h2
  by_cases hi:i<own.length
  ·rw[qAN (by simpa using hi),qa]at h2
   cases q:own[i]? with
   | none=>rw[q]at h2;cases h2
   | some z=>rw[q]at h2;cases h2
  ·rw[qh (by simpa using hi),qa,qD]at h2
   rw[qh (by simpa using hi),qa]at h1
   cases q:fr[i - own.length]? with
   | none=>rw[q]at h2;cases h2
   | some j=>
    rw[q]at h1 h2
    have e1:X.N.getD j Str.empty=x:=qo h1
    have e2:σ.getD j none=some v:=qo h2
    obtain⟨hj,hfree⟩:=c.fr j (qAv q)
    rw[e1]at hfree
    have hNj:X.N[j]?=some x:=by
     rw[<- e1,qK,qF hj];rfl
    have hσj:σ[j]?=some (some v):=by
     rw[qK]at e2
     cases z:σ[j]? with
     | none=>rw[z]at e2;cases e2
     | some w=>rw[z]at e2;rw[show w=some v from e2]
    have hmem:(x,NameKind.free)∈scope.names:=qAM hfree
    have hup:=c.up _ hmem rfl
    obtain⟨m,hn,hl⟩:=I.loc
    obtain⟨u,ru,lk⟩:=hl j x v hNj hσj (by rcases hup with z|z;exact .inr (.inl z);exact .inr (.inr z))
    refine⟨u,ru,.inr ⟨?_,?_⟩⟩
    ·rcases zjy (env:=X.env) (names:=scope.names) hfree with z|z
     ·exact .inr z
     ·exact .inl z
    ·rcases lk with⟨k1,_⟩|⟨_,a,ha,hc⟩
     ·rcases hup with z|z
      ·rw[show X.env.kindOf x=some .cell from z]at k1;cases k1
      ·rw[show X.env.kindOf x=some .free from z]at k1;cases k1
     ·exact⟨a,lookF x a hmem ha,hc.keeps keep⟩
 case cell=>
  intro x a e
  rcases look x a e with⟨m1,_⟩|⟨k1,e1⟩
  ·exact⟨_,(cells x a m1).1⟩
  ·obtain⟨v,q⟩:=I.cell x a e1
   exact⟨v,q.keeps keep⟩
 case freeC=>
  intro x a e
  rcases look x a e with⟨m1,_⟩|⟨k1,e1⟩
  ·exact I.hok.fresh (by have:=(cells x a m1).2;omega)
  ·exact I.freeC x a e1
 case pin=>intro p hp;exact absurd (show p∈([]:List (Addr×Obj))from hp) (by simp)
 case len=>
  show(tau own fr σ).length=N'.length
  rw[c.nm];unfold tau;simp
end
noncomputable abbrev TM:=St->Hp->(St->Hp->Prop)->Prop
noncomputable def PM(X:Cx)(act:Sem Unit)(t:TM):Prop:=
 ∀(pins:List (Addr×Obj))(s:Shared)(σ:St)(H:Hp)(Q:St->Hp->Prop),Inv X pins σ H s->t σ H Q->wpAny (model X.prog X.w) X.A act (λ_ s'=>∃σ' H',Inv X pins σ' H' s'/\Q σ' H') X.xe s
noncomputable def PF(X:Cx)(ifs:List Expr)(t:TT):Prop:=
 ∀(pins:List (Addr×Obj))(s:Shared)(σ:St)(H:Hp)(Q:Bool->Hp->Prop),Inv X pins σ H s->t σ H Q->
  wpAny (model X.prog X.w) X.A (forIn ifs true λc r=>if r=true then do let ok <- isTrue c X.env (eval c X.env);pure (ForInStep.yield ok)else pure (ForInStep.yield r)) (TP X pins σ Q) X.xe s
noncomputable def tAll:TT:=λ_ H Q=>Q true H
section
variable{X:Cx}
theorem zaoo:PF X [] tAll:=λ_ s σ H Q I h=>wpAny_tests_nil ⟨H,I,h⟩
theorem zaop{c:Expr}{t:TT}(h:PT X c t):PF X [c] t:=λpins s σ H Q I q=>wpAny_tests_one (h pins s σ H Q I q)
noncomputable def zaaj(p:Addr)(te:TE):TM:=λσ H Q=>te σ H λv H1=>∃ys,H1 p=some (.lst ys)/\ys.length<qb/\Q σ (upd H1 p (.lst (ys++[v])))
theorem zwu{elt:Expr}{te:TE}{p:Addr}(h:PE X elt te):PM X (do let _ <- call (.builtin "list.append") [.ref p,<- eval elt X.env]) (zaaj p te):=by
 intro pins s σ H Q I q
 refine qE (thn (h pins s σ H _ I q) λu s1 ⟨v,H1,I1,r,ys,hp,hz,q1⟩=>?_)
 refine qE (thn (zel pins s1 σ H1 (.ref p) [v] (.ref p) [u] (λ_ H2=>Q σ H2) I1 rfl (.cons r .nil) ⟨p,ys,v,rfl,rfl,hp,hz,q1⟩) λ_ s2 ⟨_,H2,I2,_,q2⟩=>?_)
 exact qM ⟨σ,H2,I2,q2⟩
noncomputable def zagf(J:It)(g:TG)(tt:TT)(tm:TM):TM:=λσ H Q=>∃W:Nat->Nat->St->Hp->Prop,(∃m,W 0 m σ H)/\∀i m σ H,W i m σ H->
 (J.stop i H/\Q σ H)\/(J.go i H/\∃N:St->Hp->Prop,(∀σ' H',N σ' H'->∃m',m'<m/\W (i+1) m' σ' H')/\∀x H',J.yld i H x H'->g x σ H' λσ2 H2=>tt σ2 H2 λb H3=>if b=true then tm σ2 H3 N else N σ2 H3)
theorem zos{elt0:Expr}{gens:List Comprehension}{scope:Scope}{cpos:Pos}{depth:Nat}{target:Expr}{ifs:List Expr}{emit:Sem Unit}{acc:Value}{ip:Pos}{it:Addr}{fp:List Addr}{tn:Nat->Heap->Prop}{J:It}{g:TG}{tt:TT}{tm:TM}{pins:List (Addr×Obj)}{σ:St}{H:Hp}{s:Shared}{Q:St->Hp->Prop}
  (hx:X.xe=λ_ _=>False)(hc:X.calm=true)
  (eq:compTurn (.ListComp elt0 gens scope cpos) depth (.ref it) acc X.env=(do
   standAt ip
   match <- pyNext (.ref it)with
   | none=>pure (.done .next)
   | some v=>
    letOwnedTupleGo target (.ref it) v
    assign target X.env v
    let mut ok:=true
    for c in ifs do
     if ok then ok <- isTrue c X.env (eval c X.env)
    if ok then emit
    again (.compLoop (.ListComp elt0 gens scope cpos) depth (.ref it) acc X.env)))
  (T:Turn X.prog X.w X.K target J fp it tn)(hg:PG X target g)(ht:PF X ifs tt)(hm:PM X emit tm)
  (I:Inv X pins σ H s)(st:tn 0 s.heap)(hf:∀b∈fp,FpOk X pins H b)(h:zagf J g tt tm σ H Q) :
  codeAny (model X.prog X.w) X.A (.compLoop (.ListComp elt0 gens scope cpos) depth (.ref it) acc X.env) (λr s'=>r=.ok .next/\∃σ' H',Inv X pins σ' H' s'/\Q σ' H') s:=by
 obtain⟨W,⟨m0,w0⟩,turn⟩:=h
 have stat:∀{H':Hp},(∀b∈fp,H' b=none)->∀b∈fp,FpOk X pins H' b:=λhn b hb=>⟨hn b hb,(hf b hb).2⟩
 have xe:∀{α:Type}{m:Sem α}{Q':α->Shared->Prop}{E:Value->Shared->Prop}{s:Shared},wpAny (model X.prog X.w) X.A m Q' X.xe s->wpAny (model X.prog X.w) X.A m Q' E s:=λq=>qBZ q (λ_ _ z=>z) λ_ _ z=>by rw[hx]at z;exact z.elim
 refine codeAny_loop rfl (λn s'=>∃i σ' H',Inv X pins σ' H' s'/\tn i s'.heap/\(∀b∈fp,H' b=none)/\W i n σ' H') ?_ m0 ⟨0,σ,H,I,st,λb hb=>(hf b hb).1,w0⟩
 rintro n s3 ⟨i,σ3,H3,I3,st3,fr3,w3⟩
 show wpAny _ X.A ((compTurn (.ListComp elt0 gens scope cpos) depth (.ref it) acc X.env).onRaise (λx=>do noteFrame x X.env;theTreesLotGoes x)) _ _ s3
 refine wpAny_noted ?_
 rw[eq]
 refine qE (qBA (qE ?_))
 rcases turn i n σ3 H3 w3 with⟨stop,qn⟩|⟨go,N,hN,step⟩
 ·refine thn (T.done X rfl rfl rfl hc i pins s3 σ3 H3 _ I3 (stat fr3) st3 stop) λr s4 ⟨hr,I4⟩=>?_
  subst hr
  exact qM ⟨rfl,σ3,H3,I4,qn⟩
 ·refine thn (T.item X rfl rfl rfl hc i pins s3 σ3 H3 _ I3 (stat fr3) st3 go) λr s4 ⟨u,hr,h4⟩=>?_
  subst hr
  refine qE (thn h4 λ_ s5 ⟨x,H5,I5,r5,y5,st5,fr5⟩=>?_)
  have I5':=I5.pinned (stat fr5) (T.obj _ _ st5)
  refine qE (xe (thn (hg _ s5 σ3 H5 x u _ I5' r5 (step x H5 y5)) λ_ s6 ⟨σ6,H6,I6,q6⟩=>?_))
  have again:∀{σ7:St}{H7:Hp}{s7:Shared},Inv X (pins++zug fp s5.heap) σ7 H7 s7->N σ7 H7->∃m,m<n/\∃i σ' H',Inv X pins σ' H' s7/\tn i s7.heap/\(∀b∈fp,H' b=none)/\W i m σ' H':=λ{σ7 H7 s7} I7 n7=>by
   obtain⟨m',hm,w7⟩:=hN σ7 H7 n7
   refine⟨m',hm,i+1,σ7,H7,I7.unpinned,T.keep _ _ _ st5 λb hb o e=>(I7.pin (b,o) (qy _ (qy _ (zkw hb e)))).1,λb hb=>?_,w7⟩
   obtain⟨o,e,d⟩:=T.obj _ _ st5 b hb
   exact(I7.pin (b,o) (qy _ (qy _ (zkw hb e)))).2.1
  refine qE (xe (thn (ht _ s6 σ6 H6 _ I6 q6) λok s7 ⟨H7,I7,q7⟩=>?_))
  cases ok with
  | false=>
   rw[if_neg (by decide)]at q7
   exact qM ⟨rfl,again I7 q7⟩
  | true=>
   rw[if_pos rfl]at q7
   refine qE (xe (thn (hm _ s7 σ6 H7 _ I7 q7) λ_ s8 ⟨σ8,H8,I8,q8⟩=>?_))
   exact qM ⟨rfl,again I8 q8⟩
end
section
variable{X:Cx}{pins:List (Addr×Obj)}{σ:St}{H:Hp}{s:Shared}{scope:Scope}{N' own:List Str}{fr:List Nat}
theorem zrh{elt0 target iter:Expr}{ifs:List Expr}{rest:List Comprehension}{cpos:Pos}{g:TG}{tt:TT}{tm:Addr->TM}{emit:Value->Env->Sem Unit}{it:Addr}{fp:List Addr}{tn:Nat->Heap->Prop}{J:It}{Q:VK}{E:Value->Shared->Prop}{RR:Value->Addr->Result->Shared->Prop}
  (c:CompOk X scope N' own fr)(hc:X.calm=true)
  (eq:∀it acc env,compTurn (.ListComp elt0 (⟨target,iter,ifs,0⟩::rest) scope cpos) 0 it acc env=(do
   standAt iter.pos
   match <- pyNext it with
   | none=>pure (.done .next)
   | some v=>
    letOwnedTupleGo target it v
    assign target env v
    let mut ok:=true
    for c in ifs do
     if ok then ok <- isTrue c env (eval c env)
    if ok then emit acc env
    again (.compLoop (.ListComp elt0 (⟨target,iter,ifs,0⟩::rest) scope cpos) 0 it acc env)))
  (T:Turn X.prog X.w X.K target J fp it tn)
  (hb:∀(cl:List (Str×Addr)) (C:Addr) (s:Shared) (H:Hp) (fp:List Addr) (p:Addr),PG (cxComp X scope N' own cl C s H fp) target g/\PF (cxComp X scope N' own cl C s H fp) ifs tt/\PM (cxComp X scope N' own cl C s H fp) (emit (.ref p) (compEnvC scope cl C X.env)) (tm p))
  (I:Inv X pins σ H s)(st:tn 0 s.heap)(hf:∀b∈fp,FpOk X pins H b)
  (h:∀p,H p=none->zagf J g tt (tm p) (tau own fr σ) (upd H p (.lst [])) (λ_ H'=>Q (.ref p) H'))
  (hRR:∀(p C:Addr) (m:Str->Option Value) (H':Hp) (s':Shared),Inv X pins σ H' s'->s'.heap.Ns C m->FpOk X pins H' C->Q (.ref p) H'->RR (.ref p) C (.ok .next) s') :
  wpAny (model X.prog X.w) X.A (newList []) (λacc s₃=>wpAny (model X.prog X.w) X.A (newFunctionEnv scope X.env.globals (clos X.env.cells scope.names []) [] X.env.qual none .none (some X.env)) (λcenv s₄=>
   codeAny (model X.prog X.w) X.A (.compStart (.ListComp elt0 (⟨target,iter,ifs,0⟩::rest) scope cpos) 0 (.ref it) acc {cenv with scope:=relabel scope X.env}) (RR acc cenv.locals) s₄) E s₃) E s:=by
 refine qAq ?_
 have I3:Inv X pins σ (upd H s.heap.objs.size (.lst [])) {s with heap:=s.heap.push {cls:=.type "list",dict:=none,data:=.seq ([]:List Value).toArray}}:=I.lnew (t':=s.toks) .nil (qAt _)
 have hn0:H s.heap.objs.size=none:=I.hok.fresh (qL _)
 generalize e3:({s with heap:=s.heap.push {cls:=.type "list",dict:=none,data:=.seq ([]:List Value).toArray}}:Shared)=s3 at I3 ⊢
 have k3:∀b o,s.heap.get? b=some o->s3.heap.get? b=some o:=λb o e=>by rw[<- e3];exact qG _ e
 have hne:∀b∈fp,b≠s.heap.objs.size:=λb hb=>by
  obtain⟨o,e,_⟩:=T.obj _ _ st b hb
  exact qz (qN e)
 have hf3:∀b∈fp,FpOk X pins (upd H s.heap.objs.size (.lst [])) b:=λb hb=>⟨by rw[zax (hne b hb)];exact(hf b hb).1,(hf b hb).2⟩
 have st3:tn 0 s3.heap:=T.keep _ _ _ st λb _ o e=>k3 b o e
 refine zaai λh' keep ns cells apart=>?_
 have I4:=zage c I3 hf3 (T.obj _ _ st3) keep ns cells apart
 have st4:tn 0 h':=T.keep _ _ _ st3 λb _ o e=>keep b o e
 obtain⟨hg,ht,hm⟩:=hb (cellsFrom (s3.heap.objs.size+1) scope.names []++clos X.env.cells scope.names []) s3.heap.objs.size s3 (upd H s.heap.objs.size (.lst [])) fp s.heap.objs.size
 have hf4:∀b∈fp,FpOk (cxComp X scope N' own (cellsFrom (s3.heap.objs.size+1) scope.names []++clos X.env.cells scope.names []) s3.heap.objs.size s3 (upd H s.heap.objs.size (.lst [])) fp) [] (upd H s.heap.objs.size (.lst [])) b:=λb hb=>
  ⟨(hf3 b hb).1,(I4.ok.exf b hb).1,I4.ok.exfs b hb,.inl hb,(I4.ok.exf b hb).2,λp hp=>absurd (show p∈([]:List (Addr×Obj))from hp) (by simp)⟩
 have loop:codeAny (model X.prog X.w) X.A (.compLoop (.ListComp elt0 (⟨target,iter,ifs,0⟩::rest) scope cpos) 0 (.ref it) (.ref s.heap.objs.size) (compEnvC scope (cellsFrom (s3.heap.objs.size+1) scope.names []++clos X.env.cells scope.names []) s3.heap.objs.size X.env)) (RR (.ref s.heap.objs.size) s3.heap.objs.size) {s3 with heap:=h'}:=by
  refine qBT (zos (X:=cxComp X scope N' own (cellsFrom (s3.heap.objs.size+1) scope.names []++clos X.env.cells scope.names []) s3.heap.objs.size s3 (upd H s.heap.objs.size (.lst [])) fp) (pins:=[]) rfl hc (eq _ _ _) T hg ht hm I4 st4 hf4 (h _ hn0)) λr s5 hr=>?_
  obtain⟨rfl,σ5,H5,I5,q5⟩:=hr
  obtain⟨m,hn,_⟩:=id I5.loc
  have u5:Un (frs X.stack) fp (upd H s.heap.objs.size (.lst [])) H5 s3.heap s5.heap:=I5.base
  have hok5:HOk X.prog X.w H5 s5.heap:=I5.hok
  have os5:s5.os=s3.os:=I5.os
  have bare5:=I5.bare
  have free5:H5 s3.heap.objs.size=none:=I5.free
  have hn:s5.heap.Ns s3.heap.objs.size m:=hn
  clear I5
  obtain⟨hh,gg,dd,tk,os'⟩:=s5
  obtain rfl:os'=s3.os:=os5
  have I6:Inv X pins σ H5 {s3 with heap:=hh,gens:=gg,drawn:=dd,toks:=tk}:=I3.call (ch:=fp) u5 hok5 bare5 λb hb=>⟨(hf3 b hb).2.2.2.1,(hf3 b hb).2.1,(hf3 b hb).2.2.2.2.1,(hf3 b hb).2.2.2.2.2⟩
  exact hRR _ _ m H5 _ I6 hn (I3.fpOk (qL _) free5) q5
 exact codeAny_compStart_list loop (T.self _ 0 _ _ _ st4 loop)
noncomputable def zagg(wi:TI)(g:TG)(tt:TT)(tm:Addr->TM)(own:List Str)(fr:List Nat):TE:=λσ H Q=>wi σ H λJ H1=>∀p,H1 p=none->zagf J g tt (tm p) (tau own fr σ) (upd H1 p (.lst [])) (λ_ H'=>Q (.ref p) H')
theorem zyt{elt0 target iter:Expr}{ifs:List Expr}{rest:List Comprehension}{cpos:Pos}{wi:TI}{g:TG}{tt:TT}{tm:Addr->TM}{emit:Value->Env->Sem Unit}(c:CompOk X scope N' own fr)(hc:X.calm=true)
  (eq:∀it acc env,compTurn (.ListComp elt0 (⟨target,iter,ifs,0⟩::rest) scope cpos) 0 it acc env=(do
   standAt iter.pos
   match <- pyNext it with
   | none=>pure (.done .next)
   | some v=>
    letOwnedTupleGo target it v
    assign target env v
    let mut ok:=true
    for c in ifs do
     if ok then ok <- isTrue c env (eval c env)
    if ok then emit acc env
    again (.compLoop (.ListComp elt0 (⟨target,iter,ifs,0⟩::rest) scope cpos) 0 it acc env)))
  (hi:PI X target iter wi)
  (hb:∀(cl:List (Str×Addr)) (C:Addr) (s:Shared) (H:Hp) (fp:List Addr) (p:Addr),PG (cxComp X scope N' own cl C s H fp) target g/\PF (cxComp X scope N' own cl C s H fp) ifs tt/\PM (cxComp X scope N' own cl C s H fp) (emit (.ref p) (compEnvC scope cl C X.env)) (tm p))
  (hs:∀x,foldedSetIterable iter X.env x=pure x:=by intro _;rfl) :
  PE X (.ListComp elt0 (⟨target,iter,ifs,0⟩::rest) scope cpos) (zagg wi g tt tm own fr):=by
 intro pins s σ H Q I h
 rw[eval_ListComp]
 refine qCr (use:=none) rfl hs (zlx (zmw c I.ok)) c.kind (λy hy e=>(c.names y hy).trans (by rw[e])) ?_
 refine thn (hi pins s σ H _ I h) λv s1 h1=>thn h1 λitv s2 h2=>?_
 obtain⟨it,fp,tn,J,H2,e,I2,T,st2,f2,q⟩:=h2
 subst e
 refine zrh (Q:=Q) c hc eq T hb I2 st2 f2 q λp C m H' s' I' hn hC q'=>?_
 exact⟨m,hn,λh' sb=>⟨.ref p,H',I'.turned (t':=s'.toks) (λb o hb e=>(sb.2 b hb).trans e) hC.1 hC.2.1 hC.2.2.2.1 hC.2.2.2.2.1 hC.2.2.2.2.2,rfl,q'⟩⟩
noncomputable def zaoq(wi:TI)(g:TG)(tt:TT)(tm:Addr->TM)(own:List Str)(fr:List Nat)(i:Nat):TS:=λD σ H=>zagg wi g tt tm own fr σ H λv H'=>D.nx (σ.set i (some v)) H'
theorem zagh{elt0 target iter:Expr}{ifs:List Expr}{rest:List Comprehension}{cpos spos py:Pos}{wi:TI}{g:TG}{tt:TT}{tm:Addr->TM}{emit:Value->Env->Sem Unit}{i:Nat}{y:Str}(c:CompOk X scope N' own fr)(hc:X.calm=true)
  (eq:∀it acc env,compTurn (.ListComp elt0 (⟨target,iter,ifs,0⟩::rest) scope cpos) 0 it acc env=(do
   standAt iter.pos
   match <- pyNext it with
   | none=>pure (.done .next)
   | some v=>
    letOwnedTupleGo target it v
    assign target env v
    let mut ok:=true
    for c in ifs do
     if ok then ok <- isTrue c env (eval c env)
    if ok then emit acc env
    again (.compLoop (.ListComp elt0 (⟨target,iter,ifs,0⟩::rest) scope cpos) 0 it acc env)))
  (hi:PI X target iter wi)
  (hb:∀(cl:List (Str×Addr)) (C:Addr) (s:Shared) (H:Hp) (fp:List Addr) (p:Addr),PG (cxComp X scope N' own cl C s H fp) target g/\PF (cxComp X scope N' own cl C s H fp) ifs tt/\PM (cxComp X scope N' own cl C s H fp) (emit (.ref p) (compEnvC scope cl C X.env)) (tm p))
  (hsw:swapsWith (.ListComp elt0 (⟨target,iter,ifs,0⟩::rest) scope cpos) (some (.Name y py)) spos.line X.env=pure true)
  (hN:X.N.Nodup)(hy:X.N[i]?=some y)(hl:X.env.scope.names.lookup y=some .local)
  (hs:∀x,foldedSetIterable iter X.env x=pure x:=by intro _;rfl) :
  PS X (.Assign [.Name y py] (.ListComp elt0 (⟨target,iter,ifs,0⟩::rest) scope cpos) spos) (zaoq wi g tt tm own fr i):=by
 intro pins s σ H D I h
 rw[exec_Assign_Name_used _ _ _ _ hsw]
 refine qE (qBA (qE ?_))
 show wpAny _ X.A (do let _ <- comprehension (.ListComp elt0 (⟨target,iter,ifs,0⟩::rest) scope cpos) scope X.env _ (newList []) false (eval iter X.env) (some (assign (.Name y py) X.env))) _ _ s
 refine qE (thn (qCr (use:=some (assign (.Name y py) X.env)) (Q:=λ_ s'=>SP X pins D .next s') rfl hs (zlx (zmw c I.ok)) c.kind (λy hy e=>(c.names y hy).trans (by rw[e])) ?_) λ_ s' q=>qM (qM q))
 refine thn (hi pins s σ H _ I h) λv s1 h1=>thn h1 λitv s2 h2=>?_
 obtain⟨it,fp,tn,J,H2,e,I2,T,st2,f2,q⟩:=h2
 subst e
 refine zrh (Q:=λv H'=>D.nx (σ.set i (some v)) H') c hc eq T hb I2 st2 f2 q λp C m H' s' I' hn hC q'=>?_
 show wpAny _ X.A (assign (.Name y py) X.env (.ref p)) _ _ _
 refine wpAny_assign_Name (zuf I' hN hy (.inl hl) (v:=.ref p) rfl (λs'' I'' ⟨a,sb,ha⟩=>?_) (.inr hl))
 have hCa:C≠a:=by
  rcases ha with rfl|ha
  ·exact hC.2.1
  ·exact qAg (hC.2.2.2.2.1 y a ha)
 refine⟨m,hn.sameBut sb hCa,λh' sb'=>⟨σ.set i (some (.ref p)),H',I''.turned (t':=s''.toks) (λb o hb e=>(sb'.2 b hb).trans e) hC.1 hC.2.1 hC.2.2.2.1 hC.2.2.2.2.1 hC.2.2.2.2.2,q'⟩⟩
end
section
variable{X:Cx}
section
variable{scope:Scope}{N' own:List Str}{fr:List Nat}{elt target iter:Expr}{ifs:List Expr}{cpos:Pos}{wi:TI}{g:TG}{tt:TT}{te:TE}
noncomputable def tComp1(wi:TI)(g:TG)(tt:TT)(te:TE)(own:List Str)(fr:List Nat):TE:=zagg wi g tt (λp=>zaaj p te) own fr
theorem zagi(c:CompOk X scope N' own fr)(hc:X.calm=true)(hi:PI X target iter wi)
  (hb:∀(cl:List (Str×Addr)) (C:Addr) (s:Shared) (H:Hp) (fp:List Addr),PG (cxComp X scope N' own cl C s H fp) target g/\PF (cxComp X scope N' own cl C s H fp) ifs tt/\PE (cxComp X scope N' own cl C s H fp) elt te)
  (hs:∀x,foldedSetIterable iter X.env x=pure x:=by intro _;rfl):PE X (.ListComp elt [⟨target,iter,ifs,0⟩] scope cpos) (tComp1 wi g tt te own fr):=
 zyt (emit:=λacc env=>do let _ <- call (.builtin "list.append") [acc,<- eval elt env]) c hc (λ_ _ _=>rfl) hi
  (λcl C s H fp p=>⟨(hb cl C s H fp).1,(hb cl C s H fp).2.1,zwu (hb cl C s H fp).2.2⟩) hs
noncomputable def tAsgC1(wi:TI)(g:TG)(tt:TT)(te:TE)(own:List Str)(fr:List Nat)(i:Nat):TS:=zaoq wi g tt (λp=>zaaj p te) own fr i
theorem zagj{spos py:Pos}{i:Nat}{y:Str}(c:CompOk X scope N' own fr)(hc:X.calm=true)(hi:PI X target iter wi)
  (hb:∀(cl:List (Str×Addr)) (C:Addr) (s:Shared) (H:Hp) (fp:List Addr),PG (cxComp X scope N' own cl C s H fp) target g/\PF (cxComp X scope N' own cl C s H fp) ifs tt/\PE (cxComp X scope N' own cl C s H fp) elt te)
  (hsw:swapsWith (.ListComp elt [⟨target,iter,ifs,0⟩] scope cpos) (some (.Name y py)) spos.line X.env=pure true)
  (hN:X.N.Nodup)(hy:X.N[i]?=some y)(hl:X.env.scope.names.lookup y=some .local)
  (hs:∀x,foldedSetIterable iter X.env x=pure x:=by intro _;rfl):PS X (.Assign [.Name y py] (.ListComp elt [⟨target,iter,ifs,0⟩] scope cpos) spos) (tAsgC1 wi g tt te own fr i):=
 zagh (emit:=λacc env=>do let _ <- call (.builtin "list.append") [acc,<- eval elt env]) c hc (λ_ _ _=>rfl) hi
  (λcl C s H fp p=>⟨(hb cl C s H fp).1,(hb cl C s H fp).2.1,zwu (hb cl C s H fp).2.2⟩) hsw hN hy hl hs
end
noncomputable def zarl:R2:=λx y H Q=>∃z n,x=.str z/\y=.int n/\z.length<=1000/\-1000<=n/\n<=1000/\Q (.str (Txt.mul z n)) H
theorem zakp:OpR X (binaryOp .Mult) zarl:=by
 intro pins s σ H x y v u Q I rx ry h
 obtain⟨z,n,rfl,rfl,h1,h2,h3,q⟩:=h
 obtain⟨t,rfl⟩:=rx
 obtain⟨t',rfl⟩:=ry
 exact SB.mul (mulOk_of 1000 1000 h1 (by omega) (by omega) (by decide) (by decide)) λt' k=>⟨.str (Txt.mul z n),H,I.tok _,⟨_,rfl⟩,q⟩
noncomputable def rSlS:V->Option Int->Option Int->Hp->VK->Prop:=λx lo hi H Q=>∃z,x=.str z/\z.length<=qb/\Q (.str (Txt.slice z lo hi)) H
theorem zaor:SlR X rSlS:=by
 intro pins s σ H x v vl vu lo hi sl Q I rx hs pl pu h
 obtain⟨z,rfl,hz,q⟩:=h
 obtain⟨t,rfl⟩:=rx
 refine⟨"str",_,F.slot_str_getitem.lookup,qCs _ _ _,?_⟩
 have fin:∀t' k,EP X pins σ Q (.str (Txt.slice z lo hi) t') {s with toks:=k}:=λt' k=>⟨.str (Txt.slice z lo hi),H,I.tok _,⟨_,rfl⟩,q⟩
 have fz:(Txt.slice z lo hi).length<=qb:=qAC (Txt.slice_le z _ _) hz
 cases pl with
 | none=>cases pu with
  | none=>exact qBL (l:=none) (u:=none) (st:=none) hs rfl (qB2 ⟨fz,fin⟩)
  | int j tj=>exact qBL (l:=none) (u:=some (j,tj)) (st:=none) hs rfl (qB2 ⟨fz,fin⟩)
 | int i ti=>cases pu with
  | none=>exact qBL (l:=some (i,ti)) (u:=none) (st:=none) hs rfl (qB2 ⟨fz,fin⟩)
  | int j tj=>exact qBL (l:=some (i,ti)) (u:=some (j,tj)) (st:=none) hs rfl (qB2 ⟨fz,fin⟩)
theorem zagk{id:String}(hid:id="isinstance"):CallR X (.builtin id) (λxs H Q=>∃x n t b,xs=[x,.ty n]/\TyOf X.K H x t/\PySem.W.kitOne X.K t (.type n)=some b/\Q (.bl b) H):=by
 subst hid
 intro pins s σ H xs us Q I r h
 obtain⟨x,n,t,b,rfl,ty,e,q⟩:=h
 obtain⟨u,w',rfl,rx,ry⟩:=zwr r
 cases ry
 exact zabs I rx ty e λtk=>⟨.bl b,H,I.tok _,rfl,q⟩
end
section
variable{X:Cx}
end
mutual
def Rep(K:qC)(H:Hp):PyData->V->Prop
 | .none,v=>v=.non
 | .bool b,v=>v=.bl b
 | .int i,v=>v=.int i
 | .str x,v=>v=.str x
 | .list ds,v=>∃a xs,v=.ref a/\SqL K H a xs/\Reps K H ds xs
 | .tuple ds,v=>∃a xs,v=.ref a/\SqT K H a xs/\Reps K H ds xs
 | .dict _,_=>False
def Reps(K:qC)(H:Hp):List PyData->List V->Prop
 | [],xs=>xs=[]
 | d::ds,xs=>∃v vs,xs=v::vs/\Rep K H d v/\Reps K H ds vs
end
mutual
theorem zfe{X:Cx}{pins:List (Addr×Obj)}{σ:St}{H:Hp}{s:Shared}(I:Inv X pins σ H s):∀(d:PyData){v:V}{u:Value},Rep X.K H d v->RelV v u->∃as,Reads s.heap u d as
 | .none,v,u,h,r=>by unfold Rep at h;subst h;cases r;exact⟨_,.none⟩
 | .bool b,v,u,h,r=>by unfold Rep at h;subst h;cases r;exact⟨_,.bool b⟩
 | .int i,v,u,h,r=>by unfold Rep at h;subst h;obtain⟨t,rfl⟩:=r;exact⟨_,.int i t⟩
 | .str x,v,u,h,r=>by unfold Rep at h;subst h;obtain⟨t,rfl⟩:=r;exact⟨_,.str x t⟩
 | .list ds,v,u,h,r=>by
  unfold Rep at h
  obtain⟨a,xs,rfl,hq,hr⟩:=h
  cases r
  obtain⟨its,rv,p,hz⟩:=I.list hq
  obtain⟨as,q⟩:=zmx I ds hr rv
  obtain⟨o,h1,h2,n,h3⟩:=p.isList
  exact⟨_,reads_list_at h1 h2 h3 (by simpa using q)⟩
 | .tuple ds,v,u,h,r=>by
  unfold Rep at h
  obtain⟨a,xs,rfl,hq,hr⟩:=h
  cases r
  obtain⟨its,rv,p,hz⟩:=I.tuple hq
  obtain⟨as,q⟩:=zmx I ds hr rv
  obtain⟨o,h1,h2,n,h3⟩:=p
  exact⟨_,reads_tuple_at h1 h2 h3 (by simpa using q)⟩
 | .dict _,_,_,h,_=>by unfold Rep at h;exact h.elim
theorem zmx{X:Cx}{pins:List (Addr×Obj)}{σ:St}{H:Hp}{s:Shared}(I:Inv X pins σ H s):∀(ds:List PyData){vs:List V}{us:List Value},Reps X.K H ds vs->Vals vs us->∃as,ReadsAll s.heap us ds as
 | [],vs,us,h,r=>by unfold Reps at h;subst h;cases r;exact⟨_,.nil⟩
 | d::ds,vs,us,h,r=>by
  unfold Reps at h
  obtain⟨v,vs',rfl,h1,h2⟩:=h
  cases r with
  | cons r rr=>
   obtain⟨as,q1⟩:=zfe I d h1 r
   obtain⟨bs,q2⟩:=zmx I ds h2 rr
   exact⟨_,.cons q1 q2⟩
end
theorem SqT.same{K:qC}{H H':Hp}{a:Addr}{xs:List V}(h:Same H H')(q:SqT K H a xs):SqT K H' a xs:=by
 rcases q with(q|⟨o,q⟩)|q
 ·exact .inl (.inl (h _ _ q))
 ·exact .inl (.inr ⟨o,h _ _ q⟩)
 ·exact .inr q
section
variable{X:Cx}
noncomputable def rEqD(K:qC)(neg:Bool):R2:=λx y H Q=>∃d e,Rep K H d x/\Rep K H e y/\qx d=true/\qx e=true/\Q (.bl (if neg then !PyData.eqv d e else qk d e)) H
theorem zaos(hu:X.A.units+64<cLine):OpR X (compareOp .Eq) (rEqD X.K false):=by
 intro pins s σ H x y v u Q I rx ry h
 obtain⟨d,e,hd,he,sd,se,q⟩:=h
 obtain⟨as,r1⟩:=zfe I d hd rx
 obtain⟨bs,r2⟩:=zfe I e he ry
 exact eq_dataH r1 r2 sd se hu ⟨.bl (qk d e),H,I,rfl,q⟩
theorem zaot(hu:X.A.units+64<cLine):OpR X (compareOp .NotEq) (rEqD X.K true):=by
 intro pins s σ H x y v u Q I rx ry h
 obtain⟨d,e,hd,he,sd,se,q⟩:=h
 obtain⟨as,r1⟩:=zfe I d hd rx
 obtain⟨bs,r2⟩:=zfe I e he ry
 exact ne_dataH r1 r2 sd se hu ⟨.bl (!PyData.eqv d e),H,I,rfl,q⟩
theorem zakq{bs:List Bool}:∀{its:List Value},Vals (bs.map V.bl) its->its=bs.map Value.bool:=by
 induction bs with
 | nil=>intro its r;cases r;rfl
 | cons b bs ih=>
  intro its r
  cases r with
  | cons r rr=>cases r;rw[ih rr];rfl
theorem zacf(bs:List Bool):(List.range bs.length).all (λi=>bs.getD i false)=bs.all id:=by
 rw[qAx,qAK,qAK]
 constructor
 ·intro h b hb
  obtain⟨i,hi,e⟩:=List.getElem_of_mem hb
  have q:=h i (qAk.mpr hi)
  rw[qK,qF hi,e]at q
  exact q
 ·intro h i hi
  have hi:=qAk.mp hi
  have q:=h _ (qAG hi)
  rw[qK,qF hi]
  exact q
noncomputable def rAny(K:qC)(f:List Bool->Bool):List V->Hp->VK->Prop:=λxs H Q=>∃p bs,xs=[.ref p]/\SqL K H p (bs.map V.bl)/\Q (.bl (f bs)) H
theorem zagl(hc:X.calm=true):CallR X (.builtin "all") (rAny X.K λbs=>bs.all id):=by
 intro pins s σ H xs us Q I r h
 obtain⟨p,bs,rfl,hq,q⟩:=h
 obtain⟨u,rfl,ru⟩:=zaac r
 cases ru
 obtain⟨its,rv,pl,hz⟩:=I.list hq
 cases zakq rv
 have hne:p≠s.heap.objs.size:=by obtain⟨o,e,_⟩:=pl.isList;exact qz (qN e)
 refine call_all_walk (qBB pl.isList ⟨s.heap.objs.size,_,_,_,_,_,λi=>bs.getD i false,rfl,Walks.list (A:=X.A.in1) (show X.A.in1.handled=none from I.ok.hd hc) _ p hne (bs.map Value.bool).toArray,⟨⟨_,qe _ rfl,rfl,rfl⟩,?_⟩,?_,?_⟩)
 ·obtain⟨o,e,z⟩:=pl.isList
  exact⟨o,qG _ e,z⟩
 ·intro i v s' Q' E' hv hQ
  have hv:(bs.map Value.bool)[i]?=some v:=by simpa using hv
  rw[qa]at hv
  cases e:bs[i]? with
  | none=>rw[e]at hv;cases hv
  | some b=>
   rw[e]at hv
   cases hv
   have z:bs.getD i false=b:=by rw[qK,e];rfl
   have hQ:Q' (bs.getD i false) s':=hQ
   rw[z]at hQ
   exact qBR hQ
 ·intro h' tk hk
  refine⟨.bl (bs.all id),H,?_,by rw[<- zacf bs];simp;rfl,q⟩
  exact I.kept (t':=tk) λb o e=>hk b o (by have:=qN e;simp;exact qz this) (qG _ e)
end
noncomputable def zacg(o:Option NameKind):Bool:=o==some .cell||o==some .free
noncomputable def zach(sc:Scope)(N:List Str)(scope:Scope)(N' own:List Str)(fr:List Nat):Bool:=
 (scope.kind==.function)&&(scope.names.all λy=>scope.names.lookup y.1==some y.2)&&(scope.names.all λy=>!(y.2==.free)||zacg (sc.names.lookup y.1))&&
 (N'==own++fr.map λj=>N.getD j Str.empty)&&(fr.all λj=>decide (j<N.length)&&(scope.names.lookup (N.getD j Str.empty)==some .free))&&
 (own.all λx=>scope.names.lookup x==some .local||scope.names.lookup x==some .cell)
section
variable{X:Cx}
theorem zby{scope:Scope}{N' own:List Str}{fr:List Nat}(h:zach X.env.scope X.N scope N' own fr=true):CompOk X scope N' own fr:=by
 unfold zach at h
 simp only[qr]at h
 obtain⟨⟨⟨⟨⟨h1,h2⟩,h3⟩,h4⟩,h5⟩,h6⟩:=h
 refine⟨eq_of_beq h1,λy hy=>eq_of_beq (qAK.mp h2 y hy),λy hy e=>?_,eq_of_beq h4,λj hj=>?_,λx hx=>?_⟩
 ·have q:=qAK.mp h3 y hy
  rw[e]at q
  have q:zacg (X.env.scope.names.lookup y.1)=true:=by simpa using q
  unfold zacg at q
  rcases qCy.mp q with z|z
  ·exact .inl (eq_of_beq z)
  ·exact .inr (eq_of_beq z)
 ·have q:=qAK.mp h5 j hj
  rw[qr]at q
  exact⟨of_decide_eq_true q.1,eq_of_beq q.2⟩
 ·have q:=qAK.mp h6 x hx
  rcases qCy.mp q with z|z
  ·exact .inl (eq_of_beq z)
  ·exact .inr (eq_of_beq z)
noncomputable def zagm(K:qC):R2:=λx y H Q=>match x,y with
 | .int i,.int j=>Q (.int (i+j)) H
 | .str a,.str b=>a.length+b.length<=qb/\Q (.str (a++b)) H
 | .ref _,.ref _=>rCat x y H Q\/zaoh K x y H Q
 | _,_=>False
theorem zaci:OpR X (binaryOp .Add) (zagm X.K):=by
 intro pins s σ H x y v u Q I rx ry h
 cases x<;>cases y<;>first
  | exact h.elim
  | exact zanz pins s σ H _ _ v u Q I rx ry ⟨_,_,rfl,rfl,h⟩
  | exact zaab pins s σ H _ _ v u Q I rx ry ⟨_,_,rfl,rfl,h.1,h.2⟩
  | exact(zaom.or zakk) pins s σ H _ _ v u Q I rx ry h
noncomputable def zaou:R2:=λx y H Q=>match x,y with
 | .int i,.int j=>CMul i j/\Q (.int (i * j)) H
 | .str z,.int n=>z.length<=1000/\-1000<=n/\n<=1000/\Q (.str (Txt.mul z n)) H
 | _,_=>False
theorem zot:OpR X (binaryOp .Mult) zaou:=by
 intro pins s σ H x y v u Q I rx ry h
 cases x<;>cases y<;>first
  | exact h.elim
  | exact zaoa pins s σ H _ _ v u Q I rx ry ⟨_,_,rfl,rfl,h.1,h.2⟩
  | exact zakp pins s σ H _ _ v u Q I rx ry ⟨_,_,rfl,rfl,h.1,h.2.1,h.2.2.1,h.2.2.2⟩
noncomputable def rIxU(K:qC):R2:=λx y H Q=>match x,y with
 | .str z,.int i=>z.length<=qb/\∃c,atI z.cps.toList i=some c/\Q (.str ⟨#[c]⟩) H
 | .ref p,.int i=>∃xs v,(SqL K H p xs\/SqT K H p xs)/\atI xs i=some v/\Q v H
 | _,_=>False
theorem ix_U:IxR X (rIxU X.K):=by
 intro value slice pins s σ H x y v u Q I rx ry h hs
 cases x<;>cases y<;>first
  | exact h.elim
  | (obtain⟨h1,c,h2,h3⟩:=h;exact zaoj value slice pins s σ H _ _ v u Q I rx ry ⟨_,_,c,rfl,rfl,h1,h2,h3⟩ hs)
  | (obtain⟨xs,w,h1,h2,h3⟩:=h
     rcases h1 with h1|h1
     ·exact zakl value slice pins s σ H _ _ v u Q I rx ry ⟨_,xs,_,w,rfl,rfl,h1,h2,h3⟩ hs
     ·exact zaoi value slice pins s σ H _ _ v u Q I rx ry ⟨_,xs,_,w,rfl,rfl,h1,h2,h3⟩ hs)
noncomputable def rSlU(K:qC):V->Option Int->Option Int->Hp->VK->Prop:=λx lo hi H Q=>match x with
 | .str z=>z.length<=qb/\Q (.str (Txt.slice z lo hi)) H
 | .ref _=>rSlL K x lo hi H Q
 | _=>False
theorem sl_U:SlR X (rSlU X.K):=by
 intro pins s σ H x v vl vu lo hi sl Q I rx hs pl pu h
 cases x<;>first
  | exact h.elim
  | exact zaor pins s σ H _ v vl vu lo hi sl Q I rx hs pl pu ⟨_,rfl,h.1,h.2⟩
  | exact zakn pins s σ H _ v vl vu lo hi sl Q I rx hs pl pu h
noncomputable def Dn(P:Program)(w:World)(K:qC)(mg:Str->Option Value)(base:Heap)(x:Str)(ps:List Str)(k:Nat)(sp:Sp):Prop:=
 ∃f fd,FnOk P w K mg base CX0 k f fd ps sp/\mg x=some (.ref f)/\qY K (.ref f)=true/\znw K fd ps []
theorem zarm{x:Str}{p pos:Pos}{e:Expr}{es:List Expr}{t:TA}{ps:List Str}{k:Nat}{sp:Sp}(D:Dn X.prog X.w X.K X.mg X.base x ps k sp)(hr:Room k X.A)(hg:Gl X x)(ha:PA X (e::es) t)
  (hdb:(x==("__debug__":Str))=false:=by decide)(he:starEach (e::es) X.env=(false,eval e X.env)::starEach es X.env:=by rfl)(hpl:(backTo pos (starEach es X.env)).any (·.1)=false:=by rfl) :
  PE X (.Call (.Name x p) (e::es) [] pos) (tCall sp [] E0 t):=by
 obtain⟨f,fd,F,hm,hk,hb⟩:=D
 exact zabu F hr hg hm hk hb .nil zark ha hdb he hpl
end
theorem Same.upd{H H':Hp}{p:Addr}{o:HO}(h:Same H H')(hp:H p=none):Same H (upd H' p o):=λb u e=>by rw[zax (zbn e hp)];exact h b u e
theorem Same.new{H:Hp}{p:Addr}{o:HO}(hp:H p=none):Same H (L2.upd H p o):=(Same.refl H).upd hp
end L2
namespace Bc
open PySem L2
noncomputable abbrev Web:=List (Str×List Str)
noncomputable def nm(W:Web):List Str:=W.map (·.1)
structure WebOk(W:Web):Prop where
 nd:(nm W).Nodup
 el:∀i n es,W[i]?=some (n,es)->∀e∈es,e∈nm (W.take i)
 few:∀p∈W,p.2.length<=4
 len:W.length<=12
theorem zut{α:Type}[DecidableEq α]:∀(l m:List α),l.Nodup->(∀x∈l,x∈m)->l.length<=m.length
 | [],_,_,_=>qAt _
 | a::l,m,h,s=>by
  obtain⟨h1,h2⟩:=qBV.mp h
  have ha:=s a qc
  have q:=zut l (m.erase a) h2 λx hx=>(List.mem_erase_of_ne (λ(z:x=a)=>h1 (by rw[<- z];exact hx))).mpr (s x (qR _ hx))
  rw[List.length_erase_of_mem ha]at q
  have:=List.length_pos_of_mem ha
  rw[qV]
  omega
section
variable{κ:Type}[DecidableEq κ]
end
end Bc
namespace L2
open PySem PySem.Spec PyProof.Rows
section
variable{X:Cx}{K:qC}(hK:X.K=K)
include hK
theorem zakr{es:List Expr}{k:Nat}{t:TGs}{n:Nat}{pos:Pos}(hc:X.calm=true)(h:PGs X es t)
  (hn:(assignEach es X.env).length=n:=by rfl) (hst:(assignEach es X.env).findIdx? (·.1)=none:=by rfl):PG X (.Tuple es k pos) (gTup K n t):=by subst hK;exact zanv hc h hn hst
theorem zbr:IxR X (rIxU K):=by subst hK;exact ix_U
theorem zagn:SlR X (rSlU K):=by subst hK;exact sl_U
theorem zbp:OpR X (binaryOp .Add) (zagm K):=by subst hK;exact zaci
theorem zaov:OpR X (compareOp .In) (rIn K false):=by subst hK;exact zabz
theorem zly:OpR X (compareOp .NotIn) (rIn K true):=by subst hK;exact zuo
theorem zcr:CallR X (.builtin "len") (λxs H Q=>∃x n,xs=[x]/\LenV K x H n/\Q (.int n) H):=by subst hK;exact zafy
theorem zuu(hc:X.calm=true):CallR X (.builtin "all") (rAny K λbs=>bs.all id):=by subst hK;exact zagl hc
theorem zff:CallR X (.builtin "isinstance") (λxs H Q=>∃x n t b,xs=[x,.ty n]/\TyOf K H x t/\PySem.W.kitOne K t (.type n)=some b/\Q (.bl b) H):=by subst hK;exact zagk rfl
theorem zfw:CallR X (.type "list") (λxs H Q=>∃p ys,xs=[.ref p]/\(SqL K H p ys\/SqT K H p ys)/\∀l,H l=none->Q (.ref l) (upd H l (.lst ys))):=by subst hK;exact zup
theorem zaow{T:String}{name:Str}{id:String}{r:V->List V->Hp->VK->Prop}{o e:Expr}{es:List Expr}{to:TE}{t:TA}{apos cpos:Pos}(pa:PlainAttrs T)(slot:Slot T name id)(hty:typeOf (.builtin id)=pure (.type "method_descriptor"))(hm:MtR X id r)(ho:PE X o to)(ha:PA X (e::es) t)
  (hbase:attributeBase o name X.env (eval o X.env)=eval o X.env:=by rfl)
  (hfew:((backTo cpos (starEach (e::es) X.env)).all (λx=>!x.1)&&(backToKw cpos (keywordEach [] X.env)).all (λx=>x.1.isSome)
   && decide ((e::es).length+([]:List Keyword).length+(if([]:List Keyword).isEmpty then 0 else 1)<30))=true:=by rfl)
  (hline:(apos.endLine==cpos.line)=true:=by rfl)(hs:starEach (e::es) X.env=(false,eval e X.env)::starEach es X.env:=by rfl)(hplain:(backTo cpos (starEach es X.env)).any (·.1)=false:=by rfl) :
  PE X (.Call (.Attribute o name apos) (e::es) [] cpos) (tBM K T r to t):=by subst hK;exact zarj pa slot hty hm ho ha hbase hfew hline hs hplain
end
noncomputable def keyD:PyData->Option Key
 | .int i=>some (Sum.inl i)
 | .str s=>some (Sum.inr s)
 | _=>none
mutual
def Rp(H:Hp):PyData->V->Prop
 | .none,v=>v=.non
 | .bool b,v=>v=.bl b
 | .int i,v=>v=.int i
 | .str x,v=>v=.str x
 | .list ds,v=>∃a xs,v=.ref a/\H a=some (.lst xs)/\Rps H ds xs
 | .tuple ds,v=>∃a xs,v=.ref a/\H a=some (.tup xs)/\Rps H ds xs
 | .dict kvs,v=>∃a ps,v=.ref a/\H a=some (.dK ps)/\Rpd H kvs ps
def Rps(H:Hp):List PyData->List V->Prop
 | [],xs=>xs=[]
 | d::ds,xs=>∃v vs,xs=v::vs/\Rp H d v/\Rps H ds vs
def Rpd(H:Hp):List (PyData×PyData)->List (Key×V)->Prop
 | [],ps=>ps=[]
 | (k,d)::r,ps=>∃k' v vs,ps=(k',v)::vs/\keyD k=some k'/\Rp H d v/\Rpd H r vs
end
mutual
theorem Rp.same{H H':Hp}(h:Same H H'):∀(d:PyData){v:V},Rp H d v->Rp H' d v
 | .none,v,q=>by unfold Rp at q ⊢;exact q
 | .bool b,v,q=>by unfold Rp at q ⊢;exact q
 | .int i,v,q=>by unfold Rp at q ⊢;exact q
 | .str x,v,q=>by unfold Rp at q ⊢;exact q
 | .list ds,v,q=>by
  unfold Rp at q ⊢
  obtain⟨a,xs,e,hq,hr⟩:=q
  exact⟨a,xs,e,h _ _ hq,Rps.same h ds hr⟩
 | .tuple ds,v,q=>by
  unfold Rp at q ⊢
  obtain⟨a,xs,e,hq,hr⟩:=q
  exact⟨a,xs,e,h _ _ hq,Rps.same h ds hr⟩
 | .dict kvs,v,q=>by
  unfold Rp at q ⊢
  obtain⟨a,xs,e,hq,hr⟩:=q
  exact⟨a,xs,e,h _ _ hq,Rpd.same h kvs hr⟩
theorem Rps.same{H H':Hp}(h:Same H H'):∀(ds:List PyData){vs:List V},Rps H ds vs->Rps H' ds vs
 | [],vs,q=>by unfold Rps at q ⊢;exact q
 | d::ds,vs,q=>by
  unfold Rps at q ⊢
  obtain⟨v,vs',e,h1,h2⟩:=q
  exact⟨v,vs',e,Rp.same h d h1,Rps.same h ds h2⟩
theorem Rpd.same{H H':Hp}(h:Same H H'):∀(ds:List (PyData×PyData)){vs:List (Key×V)},Rpd H ds vs->Rpd H' ds vs
 | [],vs,q=>by unfold Rpd at q ⊢;exact q
 | (k,d)::ds,vs,q=>by
  unfold Rpd at q ⊢
  obtain⟨k',v,vs',e,h0,h1,h2⟩:=q
  exact⟨k',v,vs',e,h0,Rp.same h d h1,Rpd.same h ds h2⟩
end
theorem zdd{H:Hp}:∀{ds:List PyData}{xs:List V},Rps H ds xs↔Paired (Rp H) ds xs
 | [],xs=>by
  constructor
  ·intro h;unfold Rps at h;subst h;exact .nil
  ·intro h;cases h;unfold Rps;rfl
 | d::ds,xs=>by
  constructor
  ·intro h
   unfold Rps at h
   obtain⟨v,vs,rfl,h1,h2⟩:=h
   exact .cons h1 (zdd.mp h2)
  ·intro h
   cases h with
   | cons h1 h2=>unfold Rps;exact⟨_,_,rfl,h1,zdd.mpr h2⟩
theorem Rps.length{H:Hp}{ds:List PyData}{xs:List V}(h:Rps H ds xs):ds.length=xs.length:=(zdd.mp h).length
theorem zeh{H:Hp}{ds:List PyData}{v:V}(h:Rp H (.list ds) v):∃a xs,v=.ref a/\H a=some (.lst xs)/\Rps H ds xs:=by unfold Rp at h;exact h
theorem zdc{H:Hp}{ds:List PyData}{v:V}(h:Rp H (.tuple ds) v):∃a xs,v=.ref a/\H a=some (.tup xs)/\Rps H ds xs:=by unfold Rp at h;exact h
theorem zacj{H:Hp}{ds:List (PyData×PyData)}{v:V}(h:Rp H (.dict ds) v):∃a xs,v=.ref a/\H a=some (.dK xs)/\Rpd H ds xs:=by unfold Rp at h;exact h
theorem zda{H:Hp}{i:Int}{v:V}(h:Rp H (.int i) v):v=.int i:=by unfold Rp at h;exact h
theorem zjz{H:Hp}{i:Str}{v:V}(h:Rp H (.str i) v):v=.str i:=by unfold Rp at h;exact h
theorem zka{H:Hp}{i:Bool}{v:V}(h:Rp H (.bool i) v):v=.bl i:=by unfold Rp at h;exact h
theorem zwv{H:Hp}{v:V}(h:Rp H .none v):v=.non:=by unfold Rp at h;exact h
theorem zad{H:Hp}{i:Int}:Rp H (.int i) (.int i):=by unfold Rp;rfl
theorem zch{H:Hp}{i:Str}:Rp H (.str i) (.str i):=by unfold Rp;rfl
theorem zbg{H:Hp}{i:Bool}:Rp H (.bool i) (.bl i):=by unfold Rp;rfl
theorem zhf{H:Hp}:Rp H .none .non:=by unfold Rp;rfl
theorem zew{H:Hp}{ds:List PyData}{a:Addr}{xs:List V}(h:H a=some (.lst xs))(r:Rps H ds xs):Rp H (.list ds) (.ref a):=by unfold Rp;exact⟨a,xs,rfl,h,r⟩
theorem zww{H:Hp}{ds:List PyData}{a:Addr}{xs:List V}(h:H a=some (.tup xs))(r:Rps H ds xs):Rp H (.tuple ds) (.ref a):=by unfold Rp;exact⟨a,xs,rfl,h,r⟩
theorem zaak{H:Hp}{ds:List (PyData×PyData)}{a:Addr}{xs:List (Key×V)}(h:H a=some (.dK xs))(r:Rpd H ds xs):Rp H (.dict ds) (.ref a):=by unfold Rp;exact⟨a,xs,rfl,h,r⟩
theorem zci{H:Hp}:Rps H [] []:=by unfold Rps;rfl
theorem zcs{H:Hp}{d:PyData}{ds:List PyData}{v:V}{vs:List V}(h:Rp H d v)(r:Rps H ds vs):Rps H (d::ds) (v::vs):=by
 show Rps H (d::ds) _
 unfold Rps;exact⟨v,vs,rfl,h,r⟩
theorem Rps.append{H:Hp}{ds es:List PyData}{vs ws:List V}(h:Rps H ds vs)(r:Rps H es ws):Rps H (ds++es) (vs++ws):=by
 replace h:=zdd.mp h
 refine zdd.mpr ?_
 induction h with
 | nil=>exact zdd.mp r
 | cons h _ ih=>exact .cons h ih
theorem Rps.get{H:Hp}{ds:List PyData}{vs:List V}(h:Rps H ds vs){i:Nat}{v:V}(e:vs[i]?=some v):∃d,ds[i]?=some d/\Rp H d v:=by
 replace h:=zdd.mp h
 induction h generalizing i with
 | nil=>simp at e
 | cons h _ ih=>
  cases i with
  | zero=>simp at e;subst e;exact⟨_,rfl,h⟩
  | succ i=>simpa using ih (by simpa using e)
theorem Rps.get2{H:Hp}{ds:List PyData}{vs:List V}(h:Rps H ds vs){i:Nat}{d:PyData}(e:ds[i]?=some d):∃v,vs[i]?=some v/\Rp H d v:=by
 replace h:=zdd.mp h
 induction h generalizing i with
 | nil=>simp at e
 | cons h _ ih=>
  cases i with
  | zero=>simp at e;subst e;exact⟨_,rfl,h⟩
  | succ i=>simpa using ih (by simpa using e)
open Classical in
noncomputable def Offs(A:Addr->Prop)(H:Hp):Hp:=λb=>if A b then none else H b
theorem Offs.get{A:Addr->Prop}{H:Hp}{b:Addr}(h:¬A b):Offs A H b=H b:=if_neg h
theorem Offs.out{A:Addr->Prop}{H:Hp}{b:Addr}(h:A b):Offs A H b=none:=if_pos h
theorem Offs.of{A:Addr->Prop}{H:Hp}{b:Addr}{o:HO}(h:Offs A H b=some o):¬A b/\H b=some o:=by
 by_cases hb:A b
 ·rw[Offs.out hb]at h;cases h
 ·rw[Offs.get hb]at h;exact⟨hb,h⟩
theorem Offs.mono{A B:Addr->Prop}{H H':Hp}(s:Same H H')(h:∀b o,H b=some o->¬A b->¬B b):Same (Offs A H) (Offs B H'):=λb o e=>by
 obtain⟨h1,h2⟩:=Offs.of e
 rw[Offs.get (h b o h2 h1)]
 exact s b o h2
theorem Offs.same(A:Addr->Prop)(H:Hp):Same (Offs A H) H:=λb o e=>(Offs.of e).2
theorem Offs.sub{A B:Addr->Prop}{H:Hp}(h:∀b,B b->A b):Same (Offs A H) (Offs B H):=Offs.mono (Same.refl _) λb _ _ n z=>n (h b z)
theorem Offs.grow{A:Addr->Prop}{H H':Hp}(s:Same H H'):Same (Offs A H) (Offs A H'):=Offs.mono s λ_ _ _ z=>z
theorem Offs.upd{A:Addr->Prop}{H:Hp}{a:Addr}{o:HO}(h:A a):Offs A (upd H a o)=Offs A H:=by
 funext b
 by_cases hb:A b
 ·rw[Offs.out hb,Offs.out hb]
 ·rw[Offs.get hb,Offs.get hb,zax (λe=>hb (by rw[e];exact h))]
inductive Sl where
 | no
  | pl (d:PyData)
  | ac (d:PyData)
noncomputable abbrev DEnv:=List Sl
noncomputable def own(env:DEnv)(σ:St)(a:Addr):Prop:=∃(i:Nat)(d:PyData),env[i]?=some (.ac d)/\σ[i]?=some (some (.ref a))
noncomputable def zgr(Ho H:Hp)(a:Addr):PyData->Prop
 | .list ds=>∃xs,H a=some (.lst xs)/\Rps Ho ds xs
 | .dict kvs=>∃ps,H a=some (.dK ps)/\Rpd Ho kvs ps
 | _=>False
theorem zgr.rp{Ho H H':Hp}{a:Addr}{d:PyData}(h:zgr Ho H a d)(s:Same Ho H')(e:∀o,H a=some o->H' a=some o):Rp H' d (.ref a):=by
 cases d with
 | list ds=>
  obtain⟨xs,h1,h2⟩:=h
  exact zew (e _ h1) (Rps.same s _ h2)
 | dict ds=>
  obtain⟨xs,h1,h2⟩:=h
  exact zaak (e _ h1) (Rpd.same s _ h2)
 | _=>exact h.elim
theorem zgr.same{Ho H Ho' H':Hp}{a:Addr}{d:PyData}(h:zgr Ho H a d)(s:Same Ho Ho')(e:∀o,H a=some o->H' a=some o):zgr Ho' H' a d:=by
 cases d with
 | list ds=>
  obtain⟨xs,h1,h2⟩:=h
  exact⟨xs,e _ h1,Rps.same s _ h2⟩
 | dict ds=>
  obtain⟨xs,h1,h2⟩:=h
  exact⟨xs,e _ h1,Rpd.same s _ h2⟩
 | _=>exact h.elim
theorem zgr.ex{Ho H:Hp}{a:Addr}{d:PyData}(h:zgr Ho H a d):∃o,H a=some o:=by
 cases d with
 | list ds=>obtain⟨xs,h1,h2⟩:=h;exact⟨_,h1⟩
 | dict ds=>obtain⟨xs,h1,h2⟩:=h;exact⟨_,h1⟩
 | _=>exact h.elim
structure EnvOk(fx:Addr->Prop)(H0:Hp)(env:DEnv)(σ:St)(H:Hp):Prop where
 len:env.length=σ.length
 pl:∀(i:Nat)(d:PyData),env[i]?=some (.pl d)->∃v,σ[i]?=some (some v)/\Rp (Offs (λa=>fx a\/own env σ a) H) d v
 ac:∀(i:Nat)(d:PyData),env[i]?=some (.ac d)->∃a,σ[i]?=some (some (.ref a))/\H0 a=none/\¬fx a/\zgr (Offs (λa=>fx a\/own env σ a) H) H a d
 inj:∀(i j:Nat)(d e:PyData)(a:Addr),env[i]?=some (.ac d)->env[j]?=some (.ac e)->σ[i]?=some (some (.ref a))->σ[j]?=some (some (.ref a))->i=j
 base:Same H0 H
 fxs:∀b,fx b->∃o,H b=some o
theorem EnvOk.grow{fx fx':Addr->Prop}{H0:Hp}{env:DEnv}{σ:St}{H H':Hp}(h:EnvOk fx H0 env σ H)(s:Same H H')(f:∀b o,H b=some o->¬fx b->¬fx' b)(g:∀b,fx' b->∃o,H' b=some o):EnvOk fx' H0 env σ H':=by
 have so:Same (Offs (λa=>fx a\/own env σ a) H) (Offs (λa=>fx' a\/own env σ a) H'):=Offs.mono s λb o e n=>λz=>z.elim (f b o e λy=>n (.inl y)) λy=>n (.inr y)
 refine⟨h.len,λi d e=>?_,λi d e=>?_,h.inj,h.base.trans s,g⟩
 ·obtain⟨v,h1,h2⟩:=h.pl i d e
  exact⟨v,h1,Rp.same so d h2⟩
 ·obtain⟨a,h1,h2,h3,h4⟩:=h.ac i d e
  obtain⟨o,ho⟩:=h4.ex
  exact⟨a,h1,h2,f a o ho h3,h4.same so λo=>s a o⟩
theorem EnvOk.up{fx:Addr->Prop}{H0:Hp}{env:DEnv}{σ:St}{H H':Hp}(h:EnvOk fx H0 env σ H)(s:Same H H'):EnvOk fx H0 env σ H':=
 h.grow s (λ_ _ _ z=>z) λb z=>let⟨o,e⟩:=h.fxs b z;⟨o,s b o e⟩
structure Val where
 d:PyData
 fr:Bool
 bs:List Nat
noncomputable def lim(fx:Addr->Prop)(env:DEnv)(σ:St)(bs:List Nat)(a:Addr):Prop:=fx a\/∃(i:Nat)(d:PyData),i∉bs/\env[i]?=some (.ac d)/\σ[i]?=some (some (.ref a))
structure ValOk(A:Addr->Prop)(H H':Hp)(r:Val)(v:V):Prop where
 rp:Rp (Offs A H') r.d v
 fr:r.fr=true->∃a,v=.ref a/\H a=none/\zgr (Offs (λb=>A b\/b=a) H') H' a r.d
theorem zlm{fx:Addr->Prop}{env:DEnv}{σ:St}{bs cs:List Nat}(h:∀i∈bs,i∈cs):∀a,lim fx env σ cs a->lim fx env σ bs a:=by
 rintro a (z|⟨i,d,h1,h2,h3⟩)
 ·exact .inl z
 ·exact .inr ⟨i,d,λq=>h1 (h i q),h2,h3⟩
theorem zsz{fx:Addr->Prop}{env:DEnv}{σ:St}{bs:List Nat}:∀a,lim fx env σ bs a->fx a\/own env σ a:=by
 rintro a (z|⟨i,d,h1,h2,h3⟩)
 ·exact .inl z
 ·exact .inr ⟨i,d,h2,h3⟩
theorem zaks{fx:Addr->Prop}{env:DEnv}{σ:St}:∀a,fx a\/own env σ a->lim fx env σ [] a:=by
 rintro a (z|⟨i,d,h2,h3⟩)
 ·exact .inl z
 ·exact .inr ⟨i,d,by simp,h2,h3⟩
theorem EnvOk.lims{fx:Addr->Prop}{H0:Hp}{env:DEnv}{σ:St}{H:Hp}(h:EnvOk fx H0 env σ H)(bs:List Nat):∀b,lim fx env σ bs b->∃o,H b=some o:=by
 rintro b (z|⟨i,d,h1,h2,h3⟩)
 ·exact h.fxs b z
 ·obtain⟨a,g1,g2,g3,g4⟩:=h.ac i d h2
  rw[h3]at g1
  cases g1
  exact g4.ex
theorem ValOk.later{A B:Addr->Prop}{H0 H H' H'':Hp}{r:Val}{v:V}(h:ValOk A H H' r v)(s0:Same H0 H)(s:Same H' H'')(hB:∀b,B b->A b):ValOk B H0 H'' r v:=by
 refine⟨Rp.same (Offs.mono s λb _ _ n z=>n (hB b z)) _ h.rp,λe=>?_⟩
 obtain⟨a,h1,h2,h3⟩:=h.fr e
 exact⟨a,h1,s0.free h2,h3.same (Offs.mono s λb _ _ n z=>n (z.elim (λy=>.inl (hB b y)) .inr)) λo=>s a o⟩
noncomputable def zhr:PyData->Bool
 | .list _=>false
 | .tuple _=>false
 | .dict _=>false
 | _=>true
theorem zou{H H':Hp}{d:PyData}{v:V}(f:zhr d=true)(h:Rp H d v):Rp H' d v:=by
 cases d<;>first
  | (unfold Rp at h ⊢;exact h)
  | cases f
noncomputable def bsOf(d:PyData)(bs:List Nat):List Nat:=if zhr d=true then[]else bs
theorem zmy{fx:Addr->Prop}{env:DEnv}{σ:St}{bs:List Nat}{H:Hp}{d:PyData}{v:V}(h:Rp (Offs (lim fx env σ bs) H) d v):Rp (Offs (lim fx env σ (bsOf d bs)) H) d v:=by
 unfold bsOf
 split
 ·rename_i e;exact zou e h
 ·exact h
noncomputable abbrev EF:=DEnv->Option Val
noncomputable def SE(te:TE)(f:EF):Prop:=∀(fx:Addr->Prop)(H0:Hp)(env:DEnv)(σ:St)(H:Hp),EnvOk fx H0 env σ H->∀r,f env=some r->∀Q:VK,(∀v H',Same H H'->ValOk (lim fx env σ r.bs) H H' r v->Q v H')->te σ H Q
noncomputable abbrev TF:=DEnv->Option Bool
noncomputable def ST(tt:TT)(f:TF):Prop:=∀(fx:Addr->Prop)(H0:Hp)(env:DEnv)(σ:St)(H:Hp),EnvOk fx H0 env σ H->∀b,f env=some b->∀Q:Bool->Hp->Prop,(∀H',Same H H'->Q b H')->tt σ H Q
noncomputable abbrev AF:=DEnv->Option (List Val)
noncomputable def SA(ta:TA)(f:AF):Prop:=∀(fx:Addr->Prop)(H0:Hp)(env:DEnv)(σ:St)(H:Hp),EnvOk fx H0 env σ H->∀rs,f env=some rs->∀Q:List V->Hp->Prop,
 (∀vs H',Same H H'->Paired (λr v=>ValOk (lim fx env σ r.bs) H H' r v) rs vs->Q vs H')->ta σ H Q
section
variable{X:Cx}
noncomputable def eVar(i:Nat):EF:=λenv=>match env[i]? with
 | some (.pl d)=>some ⟨d,false,[]⟩
 | some (.ac d)=>some ⟨d,false,[i]⟩
 | _=>none
theorem zac(i:Nat):SE (tVar i) (eVar i):=by
 intro fx H0 env σ H h r hr Q q
 unfold eVar at hr
 cases e:env[i]? with
 | none=>rw[e]at hr;cases hr
 | some sl=>
  rw[e]at hr
  cases sl with
  | no=>cases hr
  | pl d=>
   cases hr
   obtain⟨v,h1,h2⟩:=h.pl i d e
   exact⟨v,h1,q v H (Same.refl _) ⟨Rp.same (Offs.sub zsz) _ h2,λz=>by cases z⟩⟩
  | ac d=>
   cases hr
   obtain⟨a,h1,h2,h3,h4⟩:=h.ac i d e
   have hna:¬lim fx env σ [i] a:=by
    rintro(z|⟨j,d',g1,g2,g3⟩)
    ·exact h3 z
    ·exact g1 (qS.mpr (h.inj j i d' d a g2 e g3 h1))
   exact⟨_,h1,q _ H (Same.refl _) ⟨h4.rp (Offs.sub zsz) λo z=>by rw[Offs.get hna];exact z,λz=>by cases z⟩⟩
noncomputable def eC(d:PyData):EF:=λ_=>some ⟨d,false,[]⟩
theorem se_c{d:PyData}{v:V}(h:∀H,Rp H d v):SE (tC v) (eC d):=by
 intro fx H0 env σ H _ r hr Q q
 cases hr
 exact q v H (Same.refl _) ⟨h _,λz=>by cases z⟩
noncomputable abbrev OF:=PyData->PyData->Option (PyData×Bool)
noncomputable def SO(r:R2)(f:OF):Prop:=∀(A:Addr->Prop)(H:Hp)(x y:V)(dx dy:PyData),(∀b,A b->∃o,H b=some o)->Rp (Offs A H) dx x->Rp (Offs A H) dy y->∀d fr,f dx dy=some (d,fr)->∀Q:VK,
 (∀v H',Same H H'->Rp (Offs A H') d v->(fr=true->∃a,v=.ref a/\H a=none/\zgr (Offs (λb=>A b\/b=a) H') H' a d)->Q v H')->r x y H Q
noncomputable def eOp(f:OF)(a b:EF):EF:=λenv=>(a env).bind λx=>(b env).bind λy=>(f x.d y.d).bind λz=>some ⟨z.1,z.2,bsOf z.1 (x.bs++y.bs)⟩
theorem zbm{r:R2}{f:OF}{ta tb:TE}{fa fb:EF}(ho:SO r f)(ha:SE ta fa)(hb:SE tb fb):SE (tOp r ta tb) (eOp f fa fb):=by
 intro fx H0 env σ H h rr hr Q q
 unfold eOp at hr
 obtain⟨x,ex,hr⟩:=qA.mp hr
 obtain⟨y,ey,hr⟩:=qA.mp hr
 obtain⟨⟨d,fr⟩,ez,hr⟩:=qA.mp hr
 cases hr
 refine ha fx H0 env σ H h x ex _ λv H1 s1 v1=>hb fx H0 env σ H1 (h.up s1) y ey _ λu H2 s2 v2=>?_
 have l1:∀b,lim fx env σ (x.bs++y.bs) b->lim fx env σ x.bs b:=zlm λi hi=>qAb _ hi
 have l2:∀b,lim fx env σ (x.bs++y.bs) b->lim fx env σ y.bs b:=zlm λi hi=>qy _ hi
 refine ho (lim fx env σ (x.bs++y.bs)) H2 v u x.d y.d ((h.up (s1.trans s2)).lims _) (v1.later (Same.refl _) s2 l1).rp (v2.later (Same.refl _) (Same.refl _) l2).rp d fr ez _ λw H3 s3 rp fr3=>q w H3 ((s1.trans s2).trans s3) ⟨zmy rp,λe=>?_⟩
 obtain⟨a,g1,g2,g3⟩:=fr3 e
 refine⟨a,g1,(s1.trans s2).free g2,?_⟩
 have nf:zhr d=false:=by cases d<;>first|rfl|exact g3.elim
 show zgr (Offs (λb=>lim fx env σ (bsOf d (x.bs++y.bs)) b\/b=a) H3) H3 a d
 rw[show bsOf d (x.bs++y.bs)=x.bs++y.bs by unfold bsOf;rw[if_neg (by rw[nf];decide)]]
 exact g3
end
theorem zet{n:Nat}(h:n<=100000):n<=qb:=qAC h (by decide)
theorem zov{n:Nat}(h:n<100000):n<qb:=Nat.lt_trans h (by decide)
theorem zei{A:Addr->Prop}{H:Hp}(hA:∀b,A b->∃o,H b=some o){p:Addr}(hp:H p=none):¬A p:=λz=>by
 obtain⟨o,e⟩:=hA p z
 rw[hp]at e;cases e
theorem zmz{A:Addr->Prop}{H:Hp}{p:Addr}{ds:List PyData}{xs:List V}(hp:H p=none)(r:Rps (Offs A H) ds xs):zgr (Offs (λb=>A b\/b=p) (upd H p (.lst xs))) (upd H p (.lst xs)) p (.list ds):=by
 refine⟨xs,zaz,Rps.same (Offs.mono (Same.new hp) λb o e n z=>?_) _ r⟩
 rcases z with z|z
 ·exact n z
 ·rw[z,hp]at e;cases e
theorem zri{A:Addr->Prop}{H:Hp}{p:Addr}{ds:List PyData}{xs:List V}(hp:H p=none)(hA:¬A p)(r:Rps (Offs A H) ds xs):Rp (Offs A (upd H p (.lst xs))) (.list ds) (.ref p):=
 zew (by rw[Offs.get hA];exact zaz) (Rps.same (Offs.grow (Same.new hp)) _ r)
theorem zjl{A:Addr->Prop}{H:Hp}{p:Addr}{ds:List PyData}{xs:List V}(hp:H p=none)(hA:¬A p)(r:Rps (Offs A H) ds xs):Rp (Offs A (upd H p (.tup xs))) (.tuple ds) (.ref p):=
 zww (by rw[Offs.get hA];exact zaz) (Rps.same (Offs.grow (Same.new hp)) _ r)
theorem zdl{A:Addr->Prop}{H:Hp}{a:Addr}{o:HO}(h:Offs A H a=some o):H a=some o:=(Offs.of h).2
noncomputable def addD:OF
 | .int i,.int j=>some (.int (i+j),false)
 | .str a,.str b=>if a.length+b.length<=100000 then some (.str (a++b),false)else none
 | .list a,.list b=>if a.length+b.length<=100000 then some (.list (a++b),true)else none
 | .tuple a,.tuple b=>if a.isEmpty=false/\a.length+b.length<=100000 then some (.tuple (a++b),false)else none
 | _,_=>none
theorem zdm{K:qC}:SO (zagm K) addD:=by
 intro A H x y dx dy hA rx ry d fr e Q q
 unfold addD at e
 split at e
 ·cases e
  cases zda rx;cases zda ry
  exact q _ H (Same.refl _) zad (λz=>by cases z)
 ·split at e
  ·rename_i hl
   cases e
   cases zjz rx;cases zjz ry
   exact⟨zet hl,q _ H (Same.refl _) zch (λz=>by cases z)⟩
  ·cases e
 ·split at e
  ·rename_i hl
   cases e
   obtain⟨p,xs,rfl,hp,r1⟩:=zeh rx
   obtain⟨p',ys,rfl,hp',r2⟩:=zeh ry
   refine .inl ⟨p,p',xs,ys,rfl,rfl,zdl hp,zdl hp',zet (by rw[<- r1.length,<- r2.length];exact hl),λb hb=>?_⟩
   exact q _ _ (Same.new hb) (zri hb (zei hA hb) (r1.append r2)) λ_=>⟨b,rfl,hb,zmz hb (r1.append r2)⟩
  ·cases e
 ·split at e
  ·rename_i hl
   cases e
   obtain⟨p,xs,rfl,hp,r1⟩:=zdc rx
   obtain⟨p',ys,rfl,hp',r2⟩:=zdc ry
   refine .inr ⟨p,p',xs,ys,rfl,rfl,SqT.of (zdl hp),SqT.of (zdl hp'),λz=>?_,zet (by rw[<- r1.length,<- r2.length];exact hl.2),λz=>?_,λ_ b hb=>?_⟩
   ·have h1:=r1.length
    have h0:=hl.1
    rw[z]at h1
    rw[List.isEmpty_eq_false_iff]at h0
    exact h0 (qBG.mp h1)
   ·have h2:=r2.length
    rw[z]at h2
    have:=qBG.mp h2
    subst this
    rw[qAL]at q
    exact q _ H (Same.refl _) rx (λz=>by cases z)
   ·exact q _ _ (Same.new hb) (zjl hb (zei hA hb) (r1.append r2)) (λz=>by cases z)
  ·cases e
 ·cases e
noncomputable def intD(c:Int->Int->Bool)(f:Int->Int->PyData):OF
 | .int i,.int j=>if c i j=true then some (f i j,false)else none
 | _,_=>none
theorem zack{C:Int->Int->Prop}{g:Int->Int->V}{c:Int->Int->Bool}{f:Int->Int->PyData}(hc:∀i j,c i j=true->C i j)(hf:∀H i j,Rp H (f i j) (g i j)):SO (rI C g) (intD c f):=by
 intro A H x y dx dy hA rx ry d fr e Q q
 unfold intD at e
 split at e
 ·split at e
  ·rename_i h
   cases e
   cases zda rx;cases zda ry
   exact⟨_,_,rfl,rfl,hc _ _ h,q _ H (Same.refl _) (hf _ _ _) (λz=>by cases z)⟩
  ·cases e
 ·cases e
theorem zwx{g:Int->Int->V}{f:Int->Int->PyData}(hf:∀H i j,Rp H (f i j) (g i j)):SO (rI0 g) (intD (λ_ _=>true) f):=by
 intro A H x y dx dy hA rx ry d fr e Q q
 unfold intD at e
 split at e
 ·split at e
  ·cases e
   cases zda rx;cases zda ry
   exact⟨_,_,rfl,rfl,q _ H (Same.refl _) (hf _ _ _) (λz=>by cases z)⟩
  ·cases e
 ·cases e
noncomputable def subD:OF:=intD (λ_ _=>true) λi j=>.int (i - j)
theorem zaje:SO (rI0 λi j=>.int (i - j)) subD:=zwx λ_ _ _=>zad
noncomputable def ltD:OF:=intD (λ_ _=>true) λi j=>.bool (decide (i<j))
theorem zakt:SO (rI0 λi j=>.bl (decide (i<j))) ltD:=zwx λ_ _ _=>zbg
noncomputable def geD:OF:=intD (λ_ _=>true) λi j=>.bool (decide (j<=i))
theorem zarn:SO (rI0 λi j=>.bl (decide (j<=i))) geD:=zwx λ_ _ _=>zbg
noncomputable def modD:OF:=intD (λ_ j=>decide (0<j)) λi j=>.int (i % j)
theorem zow:SO (rI (λ_ j=>0<j) λi j=>.int (i % j)) modD:=zack (λ_ _ h=>of_decide_eq_true h) λ_ _ _=>zad
noncomputable def zuv:OF:=intD (λ_ j=>decide (0<j/\j<1073741824)) λi j=>.int (i / j)
theorem zwy:SO (rI CDiv λi j=>.int (i / j)) zuv:=zack (λi j h=>(of_decide_eq_true h:0<j/\j<1073741824)) λ_ _ _=>zad
noncomputable def mulD:OF
 | .int i,.int j=>if(-(2 ^ 64)<i/\i<2 ^ 64)\/(-(2 ^ 64)<j/\j<2 ^ 64)then some (.int (i * j),false)else none
 | .str z,.int n=>if z.length<=1000/\-1000<=n/\n<=1000 then some (.str (Txt.mul z n),false)else none
 | _,_=>none
theorem zuw:SO zaou mulD:=by
 intro A H x y dx dy hA rx ry d fr e Q q
 unfold mulD at e
 split at e
 ·split at e
  ·rename_i h
   cases e
   cases zda rx;cases zda ry
   exact⟨h,q _ H (Same.refl _) zad (λz=>by cases z)⟩
  ·cases e
 ·split at e
  ·rename_i h
   cases e
   cases zjz rx;cases zda ry
   exact⟨h.1,h.2.1,h.2.2,q _ H (Same.refl _) zch (λz=>by cases z)⟩
  ·cases e
 ·cases e
mutual
theorem zox{K:qC}{H:Hp}:∀{d:PyData}{v:V},d.canLay0=true->Rp H d v->Rep K H d v
 | .none,v,_,h=>by unfold Rp at h;unfold Rep;exact h
 | .bool b,v,_,h=>by unfold Rp at h;unfold Rep;exact h
 | .int i,v,_,h=>by unfold Rp at h;unfold Rep;exact h
 | .str x,v,_,h=>by unfold Rp at h;unfold Rep;exact h
 | .list ds,v,c,h=>by
  obtain⟨a,xs,e,h1,h2⟩:=zeh h
  unfold Rep
  exact⟨a,xs,e,SqL.of h1,zta (by simpa [PyData.canLay0]using c) h2⟩
 | .tuple ds,v,c,h=>by
  obtain⟨a,xs,e,h1,h2⟩:=zdc h
  unfold Rep
  exact⟨a,xs,e,SqT.of h1,zta (by simpa [PyData.canLay0]using c) h2⟩
 | .dict _,v,c,h=>by simp[PyData.canLay0]at c
theorem zta{K:qC}{H:Hp}:∀{ds:List PyData}{vs:List V},qAQ ds=true->Rps H ds vs->Reps K H ds vs
 | [],vs,_,h=>by unfold Rps at h;unfold Reps;exact h
 | d::ds,vs,c,h=>by
  unfold Rps at h
  obtain⟨v,ws,e,h1,h2⟩:=h
  have c:d.canLay0=true/\qAQ ds=true:=by simpa [qAQ]using c
  unfold Reps
  exact⟨v,ws,e,zox c.1 h1,zta c.2 h2⟩
end
noncomputable def zux:PyData->PyData->Bool
 | .none,.none=>true|.none,.int _=>true|.int _,.none=>true|.none,.bool _=>true|.bool _,.none=>true|.none,.str _=>true|.str _,.none=>true
 | .int _,.int _=>true|.bool _,.bool _=>true|.str _,.str _=>true
 | .int _,.str _=>true|.str _,.int _=>true|.bool _,.str _=>true|.str _,.bool _=>true
 | _,_=>false
noncomputable def eqOk(dx dy:PyData):Bool:=zux dx dy||(qx dx&&qx dy)
noncomputable def eqD:OF:=λdx dy=>if eqOk dx dy=true then some (.bool (qk dx dy),false)else none
noncomputable def neD:OF:=λdx dy=>if eqOk dx dy=true then some (.bool (!PyData.eqv dx dy),false)else none
theorem zacl{H:Hp}{dx dy:PyData}{x y:V}(s:zux dx dy=true)(rx:Rp H dx x)(ry:Rp H dy y):scal x y=true/\decide (x=y)=qk dx dy:=by
 cases dx<;>cases dy<;>first
  | (exact absurd (show false=true from s) qQ)
  | (unfold Rp at rx ry;subst rx;subst ry;refine⟨rfl,?_⟩;first|rfl|exact zwp|exact zabn|exact zwq|simp[qk])
theorem zoy{K:qC}:SO (λx y H Q=>rEq x y H Q\/rEqD K false x y H Q) eqD:=by
 intro A H x y dx dy hA rx ry d fr e Q q
 unfold eqD at e
 split at e
 ·rename_i h
  cases e
  cases hs:zux dx dy with
  | true=>
   obtain⟨h1,h2⟩:=zacl hs rx ry
   exact .inl ⟨h1,by rw[h2];exact q _ H (Same.refl _) zbg (λz=>by cases z)⟩
  | false=>
   unfold eqOk at h
   rw[hs,Bool.false_or,qr]at h
   have rx:=Rp.same (Offs.same A H) _ rx
   have ry:=Rp.same (Offs.same A H) _ ry
   exact .inr ⟨dx,dy,zox (qAe h.1) rx,zox (qAe h.2) ry,h.1,h.2,q _ H (Same.refl _) zbg (λz=>by cases z)⟩
 ·cases e
theorem zaal{K:qC}:SO (λx y H Q=>rNe x y H Q\/rEqD K true x y H Q) neD:=by
 intro A H x y dx dy hA rx ry d fr e Q q
 unfold neD at e
 split at e
 ·rename_i h
  cases e
  cases hs:zux dx dy with
  | true=>
   obtain⟨h1,h2⟩:=zacl hs rx ry
   exact .inl ⟨h1,by rw[h2];exact q _ H (Same.refl _) zbg (λz=>by cases z)⟩
  | false=>
   unfold eqOk at h
   rw[hs,Bool.false_or,qr]at h
   have rx:=Rp.same (Offs.same A H) _ rx
   have ry:=Rp.same (Offs.same A H) _ ry
   exact .inr ⟨dx,dy,zox (qAe h.1) rx,zox (qAe h.2) ry,h.1,h.2,q _ H (Same.refl _) zbg (λz=>by cases z)⟩
 ·cases e
noncomputable def zdb(ds:List PyData):Bool:=ds.all zhr
theorem zacm{H:Hp}{d:PyData}{v:V}(f:zhr d=true)(h:Rp H d v):zmv v=true:=by
 cases d<;>first
  | (unfold Rp at h;subst h;rfl)
  | cases f
theorem zacn{H:Hp}{ds:List PyData}{vs:List V}(f:zdb ds=true)(h:Rps H ds vs):vs.all zmv=true:=by
 replace h:=zdd.mp h
 induction h with
 | nil=>rfl
 | cons h _ ih=>
  unfold zdb at f
  rw[qBS,qr]at f
  rw[qBS,zacm f.1 h,ih f.2];rfl
theorem zaco{H:Hp}{d e:PyData}{v u:V}(f:zhr d=true)(g:zhr e=true)(h:Rp H d v)(k:Rp H e u):eqV v u=qk d e:=by
 cases d<;>cases e<;>first
  | (unfold Rp at h k;subst h;subst k;rfl)
  | exact absurd (show false=true from f) qQ
  | exact absurd (show false=true from g) qQ
theorem zaku{H:Hp}{d:PyData}{v:V}(f:zhr d=true)(h:Rp H d v){ds:List PyData}{vs:List V}(g:zdb ds=true)(r:Rps H ds vs):inV v vs=ds.any λe=>qk e d:=by
 replace r:=zdd.mp r
 unfold inV
 induction r with
 | nil=>rfl
 | cons r _ ih=>
  unfold zdb at g
  rw[qBS,qr]at g
  rw[qB6,qB6,zaco g.1 f r h,ih g.2]
noncomputable def zft:PyData->Option (List PyData)
 | .list ds=>some ds
 | .tuple ds=>some ds
 | _=>none
noncomputable def inD(neg:Bool):OF:=λd c=>match zft c with
 | some ds=>if zhr d=true/\zdb ds=true then some (.bool (if neg then !(ds.any λe=>qk e d)else ds.any λe=>qk e d),false)else none
 | none=>none
theorem zyu{K:qC}{H:Hp}{c:PyData}{v:V}{ds:List PyData}(h:Rp H c v)(e:zft c=some ds):∃p xs,v=.ref p/\(SqL K H p xs\/SqT K H p xs)/\Rps H ds xs:=by
 cases c<;>first
  | cases e
  | skip
 ·obtain⟨a,xs,e,h1,h2⟩:=zeh h;exact⟨a,xs,e,.inl (SqL.of h1),h2⟩
 ·obtain⟨a,xs,e,h1,h2⟩:=zdc h;exact⟨a,xs,e,.inr (SqT.of h1),h2⟩
theorem zacp{K:qC}{neg:Bool}:SO (rIn K neg) (inD neg):=by
 intro A H x y dx dy hA rx ry d fr e Q q
 unfold inD at e
 split at e
 ·rename_i ds hi
  split at e
  ·rename_i h
   cases e
   have rx:=Rp.same (Offs.same A H) _ rx
   obtain⟨p,xs,rfl,hq,r⟩:=zyu (K:=K) (Rp.same (Offs.same A H) _ ry) hi
   refine⟨p,xs,rfl,hq,zacm h.1 rx,zacn h.2 r,?_⟩
   rw[zaku h.1 rx h.2 r]
   refine q _ H (Same.refl _) ?_ (λz=>by cases z)
   cases neg<;>exact zbg
  ·cases e
 ·cases e
noncomputable def ixD:OF
 | .str z,.int i=>if z.length<=100000 then(atI z.cps.toList i).map λc=>(.str ⟨#[c]⟩,false)else none
 | .list ds,.int i=>(atI ds i).map λd=>(d,false)
 | .tuple ds,.int i=>(atI ds i).map λd=>(d,false)
 | _,_=>none
theorem Rps.atI{H:Hp}{ds:List PyData}{vs:List V}(h:Rps H ds vs){i:Int}{d:PyData}(e:atI ds i=some d):∃v,L2.atI vs i=some v/\Rp H d v:=by
 unfold L2.atI at e ⊢
 rw[<- h.length]
 cases g:ixN ds.length i with
 | none=>rw[g]at e;cases e
 | some j=>
  rw[g]at e
  exact h.get2 e
theorem zib{K:qC}:SO (rIxU K) ixD:=by
 intro A H x y dx dy hA rx ry d fr e Q q
 unfold ixD at e
 split at e
 ·split at e
  ·rename_i z i hl
   obtain⟨c,hc,e⟩:=qH.mp e
   cases e
   cases zjz rx;cases zda ry
   exact⟨zet hl,c,hc,q _ H (Same.refl _) zch (λz=>by cases z)⟩
  ·cases e
 ·obtain⟨c,hc,e⟩:=qH.mp e
  cases e
  obtain⟨p,xs,rfl,hp,r⟩:=zeh rx
  cases zda ry
  obtain⟨v,hv,rv⟩:=r.atI hc
  exact⟨xs,v,.inl (SqL.of (zdl hp)),hv,q _ H (Same.refl _) rv (λz=>by cases z)⟩
 ·obtain⟨c,hc,e⟩:=qH.mp e
  cases e
  obtain⟨p,xs,rfl,hp,r⟩:=zdc rx
  cases zda ry
  obtain⟨v,hv,rv⟩:=r.atI hc
  exact⟨xs,v,.inr (SqT.of (zdl hp)),hv,q _ H (Same.refl _) rv (λz=>by cases z)⟩
 ·cases e
noncomputable def zakv:List (PyData×PyData)->Key->Option PyData
 | [],_=>none
 | (k,d)::r,j=>if keyD k=some j then some d else zakv r j
theorem zaam{H:Hp}{k d:PyData}{r:List (PyData×PyData)}{ps:List (Key×V)}(h:Rpd H ((k,d)::r) ps):∃k' v vs,ps=(k',v)::vs/\keyD k=some k'/\Rp H d v/\Rpd H r vs:=by
 unfold Rpd at h;exact h
theorem Rpd.length{H:Hp}:∀{kvs:List (PyData×PyData)}{ps:List (Key×V)},Rpd H kvs ps->kvs.length=ps.length
 | [],ps,h=>by unfold Rpd at h;subst h;rfl
 | (k,d)::r,ps,h=>by
  obtain⟨k',v,vs,rfl,_,_,h3⟩:=zaam h
  rw[qV,qV,h3.length]
noncomputable def zbs(f:EF):TF:=λenv=>(f env).bind λr=>match r.d with|.bool b=>some b|_=>none
theorem st_b{te:TE}{f:EF}(h:SE te f):ST (tB te) (zbs f):=by
 intro fx H0 env σ H hE b hb Q q
 unfold zbs at hb
 obtain⟨⟨d,fr,bs⟩,e,hb⟩:=qA.mp hb
 cases d with
 | bool c=>
  have hb:some c=some b:=hb
  cases hb
  exact h fx H0 env σ H hE _ e _ λv H' s v1=>⟨_,zka v1.rp,q H' s⟩
 | _=>cases hb
theorem st_t{te:TE}{f:EF}(h:SE te f):ST (tTest te) (zbs f):=st_b h
noncomputable def truD:PyData->Option Bool
 | .none=>some false
 | .bool b=>some b
 | .int i=>some (i != 0)
 | .str x=>if x.length<=100000 then some ((x.length:Int) != 0)else none
 | .list ds=>some (!ds.isEmpty)
 | .tuple ds=>some (!ds.isEmpty)
 | .dict ds=>some (!ds.isEmpty)
noncomputable def tTru(f:EF):TF:=λenv=>(f env).bind λr=>truD r.d
theorem zln{α β:Type}{xs:List α}{ys:List β}(h:xs.length=ys.length):xs.isEmpty=ys.isEmpty:=by
 cases xs<;>cases ys<;>simp at h<;>rfl
theorem zaox{K:qC}{H:Hp}{d:PyData}{v:V}{b:Bool}(h:Rp H d v)(e:truD d=some b):TruV K v H b:=by
 cases d with
 | none=>cases e;cases zwv h;rfl
 | bool c=>cases e;cases zka h;rfl
 | int i=>cases e;cases zda h;rfl
 | str x=>
  have e:(if x.length<=100000 then some ((x.length:Int) != 0)else none)=some b:=e
  split at e
  ·rename_i hl;cases e;cases zjz h;exact⟨zet hl,rfl⟩
  ·cases e
 | list ds=>cases e;obtain⟨a,xs,rfl,h1,h2⟩:=zeh h;exact .inl ⟨xs,SqL.of h1,by rw[zln h2.length]⟩
 | tuple ds=>cases e;obtain⟨a,xs,rfl,h1,h2⟩:=zdc h;exact .inr (.inl ⟨xs,SqT.of h1,by rw[zln h2.length]⟩)
 | dict ds=>cases e;obtain⟨a,xs,rfl,h1,h2⟩:=zacj h;exact .inr (.inr ⟨xs,h1,by rw[zln h2.length]⟩)
theorem zoz{K:qC}{te:TE}{f:EF}(h:SE te f):ST (λσ H Q=>te σ H λx H1=>∃k,TruV K x H1 k/\Q k H1) (tTru f):=by
 intro fx H0 env σ H hE b hb Q q
 unfold tTru at hb
 obtain⟨r,e,hb⟩:=qA.mp hb
 exact h fx H0 env σ H hE _ e _ λv H' s v1=>⟨b,zaox (Rp.same (Offs.same _ _) _ v1.rp) hb,q H' s⟩
noncomputable def znx(f g:TF):TF:=λenv=>(f env).bind λb=>if b=true then g env else some false
noncomputable def tOrF(f g:TF):TF:=λenv=>(f env).bind λb=>if b=true then some true else g env
noncomputable def zpa(f:TF):TF:=λenv=>(f env).map λb=>!b
theorem zajf{t u:TT}{f g:TF}(h:ST t f)(k:ST u g):ST (tAnd t u) (znx f g):=by
 intro fx H0 env σ H hE b hb Q q
 unfold znx at hb
 obtain⟨c,e,hb⟩:=qA.mp hb
 refine h fx H0 env σ H hE c e _ λH' s=>?_
 cases c with
 | true=>exact iteT (k fx H0 env σ H' (hE.up s) b hb _ λH'' s'=>q H'' (s.trans s'))
 | false=>cases hb;exact iteF (q H' s)
theorem zago{t u:TT}{f g:TF}(h:ST t f)(k:ST u g):ST (tOr t u) (tOrF f g):=by
 intro fx H0 env σ H hE b hb Q q
 unfold tOrF at hb
 obtain⟨c,e,hb⟩:=qA.mp hb
 refine h fx H0 env σ H hE c e _ λH' s=>?_
 cases c with
 | false=>exact iteF (k fx H0 env σ H' (hE.up s) b hb _ λH'' s'=>q H'' (s.trans s'))
 | true=>cases hb;exact iteT (q H' s)
theorem zacq{t:TT}{f:TF}(h:ST t f):ST (tNot t) (zpa f):=by
 intro fx H0 env σ H hE b hb Q q
 unfold zpa at hb
 obtain⟨c,e,rfl⟩:=qH.mp hb
 exact h fx H0 env σ H hE c e _ λH' s=>q H' s
noncomputable def asB:PyData->Option Bool|.bool b=>some b|_=>none
noncomputable def eAnd(a b:EF):EF:=λenv=>(a env).bind λx=>(asB x.d).bind λc=>if c=true then b env else some ⟨.bool false,false,[]⟩
noncomputable def eNot(a:EF):EF:=λenv=>(a env).bind λx=>(asB x.d).map λc=>⟨.bool (!c),false,[]⟩
theorem as_b{H:Hp}{d:PyData}{v:V}{c:Bool}(h:Rp H d v)(e:asB d=some c):v=.bl c:=by
 cases d<;>first
  | (cases e;exact zka h)
  | cases e
theorem zuy{ta tb:TE}{fa fb:EF}(ha:SE ta fa)(hb:SE tb fb):SE (tAndV ta tb) (eAnd fa fb):=by
 intro fx H0 env σ H h rr hr Q q
 unfold eAnd at hr
 obtain⟨x,ex,hr⟩:=qA.mp hr
 obtain⟨c,ec,hr⟩:=qA.mp hr
 refine ha fx H0 env σ H h _ ex _ λv H1 s1 v1=>⟨c,as_b v1.rp ec,?_⟩
 cases c with
 | true=>exact iteT (hb fx H0 env σ H1 (h.up s1) _ hr _ λu H2 s2 v2=>q u H2 (s1.trans s2) (v2.later s1 (Same.refl _) λ_ z=>z))
 | false=>cases hr;exact iteF (q _ H1 s1 ⟨zbg,λz=>by cases z⟩)
theorem zaoy{ta:TE}{fa:EF}(ha:SE ta fa):SE (tNotV ta) (eNot fa):=by
 intro fx H0 env σ H h rr hr Q q
 unfold eNot at hr
 obtain⟨x,ex,hr⟩:=qA.mp hr
 obtain⟨c,ec,rfl⟩:=qH.mp hr
 exact ha fx H0 env σ H h _ ex _ λv H1 s1 v1=>⟨c,as_b v1.rp ec,q _ H1 s1 ⟨zbg,λz=>by cases z⟩⟩
noncomputable def aNil:AF:=λ_=>some []
noncomputable def zab(a:EF)(r:AF):AF:=λenv=>(a env).bind λx=>(r env).map λxs=>x::xs
theorem zar:SA tNil aNil:=by
 intro fx H0 env σ H h rs hr Q q
 cases hr
 exact q [] H (Same.refl _) .nil
theorem zae{te:TE}{ta:TA}{f:EF}{g:AF}(h1:SE te f)(h2:SA ta g):SA (tCons te ta) (zab f g):=by
 intro fx H0 env σ H h rs hr Q q
 unfold zab at hr
 obtain⟨x,ex,hr⟩:=qA.mp hr
 obtain⟨xs,exs,rfl⟩:=qH.mp hr
 exact h1 fx H0 env σ H h x ex _ λv H1 s1 v1=>h2 fx H0 env σ H1 (h.up s1) xs exs _ λvs H2 s2 vs2=>q (v::vs) H2 (s1.trans s2)
  (.cons (v1.later (Same.refl _) s2 λ_ z=>z) (Paired.mapP vs2 λ_ _ z=>z.later s1 (Same.refl _) λ_ y=>y))
noncomputable def zfx(rs:List Val):List PyData:=rs.map (·.d)
noncomputable def bss(rs:List Val):List Nat:=rs.flatMap (·.bs)
theorem zfg{fx:Addr->Prop}{env:DEnv}{σ:St}{H H':Hp}:∀{rs:List Val}{vs:List V}{cs:List Nat},(∀i∈bss rs,i∈cs)->Paired (λr v=>ValOk (lim fx env σ r.bs) H H' r v) rs vs->Rps (Offs (lim fx env σ cs) H') (zfx rs) vs
 | _,_,_,_,.nil=>zci
 | r::rs,v::vs,cs,hc,.cons h t=>zcs (Rp.same (Offs.sub (zlm λi hi=>hc i (qBQ.mpr ⟨r,qc,hi⟩))) _ h.rp)
   (zfg (λi hi=>hc i (by obtain⟨x,h1,h2⟩:=qBQ.mp hi;exact qBQ.mpr ⟨x,qR _ h1,h2⟩)) t)
noncomputable def eTup(f:AF):EF:=λenv=>(f env).bind λrs=>if rs.length<=100000 then some ⟨.tuple (zfx rs),false,bss rs⟩else none
noncomputable def eLst(f:AF):EF:=λenv=>(f env).bind λrs=>if rs.length<=100000 then some ⟨.list (zfx rs),true,bss rs⟩else none
theorem zgj(rs:List Val):(zfx rs).length=rs.length:=by unfold zfx;rw[qD]
theorem zhs{ta:TA}{f:AF}(ha:SA ta f):SE (tTup ta) (eTup f):=by
 intro fx H0 env σ H h rr hr Q q
 unfold eTup at hr
 obtain⟨rs,er,hr⟩:=qA.mp hr
 split at hr
 ·rename_i hl
  cases hr
  refine ha fx H0 env σ H h rs er _ λvs H1 s1 v1=>?_
  have r:=zfg (λi hi=>hi) v1
  have hA:=(h.up s1).lims (bss rs)
  refine⟨zet (by rw[<- r.length,zgj];exact hl),λp hp=>q _ _ (s1.trans (Same.new hp)) ⟨zjl hp (zei hA hp) r,λz=>by cases z⟩⟩
 ·cases hr
theorem zee{ta:TA}{f:AF}(ha:SA ta f):SE (tLst ta) (eLst f):=by
 intro fx H0 env σ H h rr hr Q q
 unfold eLst at hr
 obtain⟨rs,er,hr⟩:=qA.mp hr
 split at hr
 ·rename_i hl
  cases hr
  refine ha fx H0 env σ H h rs er _ λvs H1 s1 v1=>?_
  have r:=zfg (λi hi=>hi) v1
  have hA:=(h.up s1).lims (bss rs)
  refine⟨zet (by rw[<- r.length,zgj];exact hl),λp hp=>q _ _ (s1.trans (Same.new hp)) ⟨zri hp (zei hA hp) r,λ_=>⟨p,rfl,s1.free hp,zmz hp r⟩⟩⟩
 ·cases hr
noncomputable abbrev GF:=List PyData->Option (PyData×Bool)
noncomputable def SC(r:List V->Hp->VK->Prop)(g:GF):Prop:=∀(A:Addr->Prop)(H:Hp)(vs:List V)(ds:List PyData),(∀b,A b->∃o,H b=some o)->Rps (Offs A H) ds vs->∀d fr,g ds=some (d,fr)->∀Q:VK,
 (∀v H',Same H H'->Rp (Offs A H') d v->(fr=true->∃a,v=.ref a/\H a=none/\zgr (Offs (λb=>A b\/b=a) H') H' a d)->Q v H')->r vs H Q
noncomputable def eCB(g:GF)(f:AF):EF:=λenv=>(f env).bind λrs=>(g (zfx rs)).bind λz=>some ⟨z.1,z.2,bsOf z.1 (bss rs)⟩
theorem zha{r:List V->Hp->VK->Prop}{g:GF}{ta:TA}{f:AF}(hc:SC r g)(ha:SA ta f):SE (tCB r ta) (eCB g f):=by
 intro fx H0 env σ H h rr hr Q q
 unfold eCB at hr
 obtain⟨rs,er,hr⟩:=qA.mp hr
 obtain⟨⟨d,fr⟩,ez,hr⟩:=qA.mp hr
 cases hr
 refine ha fx H0 env σ H h rs er _ λvs H1 s1 v1=>hc (lim fx env σ (bss rs)) H1 vs (zfx rs) ((h.up s1).lims _) (zfg (λi hi=>hi) v1) d fr ez _ λw H3 s3 rp fr3=>q w H3 (s1.trans s3) ⟨zmy rp,λe=>?_⟩
 obtain⟨a,g1,g2,g3⟩:=fr3 e
 refine⟨a,g1,s1.free g2,?_⟩
 have nf:zhr d=false:=by cases d<;>first|rfl|exact g3.elim
 show zgr (Offs (λb=>lim fx env σ (bsOf d (bss rs)) b\/b=a) H3) H3 a d
 rw[show bsOf d (bss rs)=bss rs by unfold bsOf;rw[if_neg (by rw[nf];decide)]]
 exact g3
theorem rps1{H:Hp}{d:PyData}{vs:List V}(h:Rps H [d] vs):∃v,vs=[v]/\Rp H d v:=by
 unfold Rps at h
 obtain⟨v,ws,rfl,h1,h2⟩:=h
 unfold Rps at h2
 subst h2
 exact⟨v,rfl,h1⟩
theorem rps2{H:Hp}{d e:PyData}{vs:List V}(h:Rps H [d,e] vs):∃v u,vs=[v,u]/\Rp H d v/\Rp H e u:=by
 unfold Rps at h
 obtain⟨v,ws,rfl,h1,h2⟩:=h
 obtain⟨u,rfl,h3⟩:=rps1 h2
 exact⟨v,u,rfl,h1,h3⟩
noncomputable def lenD:GF
 | [.str x]=>if x.length<=100000 then some (.int x.length,false)else none
 | [.list ds]=>some (.int ds.length,false)
 | [.tuple ds]=>some (.int ds.length,false)
 | _=>none
theorem zid{K:qC}:SC (λxs H Q=>∃x n,xs=[x]/\LenV K x H n/\Q (.int n) H) lenD:=by
 intro A H vs ds hA rv d fr e Q q
 unfold lenD at e
 split at e
 ·split at e
  ·rename_i hl
   cases e
   obtain⟨v,rfl,r⟩:=rps1 rv
   cases zjz r
   exact⟨_,_,rfl,⟨zet hl,rfl⟩,q _ H (Same.refl _) zad (λz=>by cases z)⟩
  ·cases e
 ·cases e
  obtain⟨v,rfl,r⟩:=rps1 rv
  obtain⟨a,xs,rfl,h1,h2⟩:=zeh r
  exact⟨_,_,rfl,.inl ⟨xs,SqL.of (zdl h1),rfl⟩,by rw[<- h2.length];exact q _ H (Same.refl _) zad (λz=>by cases z)⟩
 ·cases e
  obtain⟨v,rfl,r⟩:=rps1 rv
  obtain⟨a,xs,rfl,h1,h2⟩:=zdc r
  exact⟨_,_,rfl,.inr ⟨xs,SqT.of (zdl h1),rfl⟩,by rw[<- h2.length];exact q _ H (Same.refl _) zad (λz=>by cases z)⟩
 ·cases e
noncomputable def minD:GF
 | [.int i,.int j]=>some (.int (if j<i then j else i),false)
 | _=>none
theorem zaoz:SC (λxs H Q=>∃i j,xs=[.int i,.int j]/\Q (.int (if j<i then j else i)) H) minD:=by
 intro A H vs ds hA rv d fr e Q q
 unfold minD at e
 split at e
 ·cases e
  obtain⟨v,u,rfl,r1,r2⟩:=rps2 rv
  cases zda r1;cases zda r2
  exact⟨_,_,rfl,q _ H (Same.refl _) zad (λz=>by cases z)⟩
 ·cases e
noncomputable def zjx:GF
 | [c]=>(zft c).map λds=>(.list ds,true)
 | _=>none
theorem zlo{K:qC}:SC (λxs H Q=>∃p ys,xs=[.ref p]/\(SqL K H p ys\/SqT K H p ys)/\∀l,H l=none->Q (.ref l) (upd H l (.lst ys))) zjx:=by
 intro A H vs ds hA rv d fr e Q q
 unfold zjx at e
 split at e
 ·obtain⟨es,he,e⟩:=qH.mp e
  cases e
  obtain⟨v,rfl,r1⟩:=rps1 rv
  obtain⟨p,xs,rfl,hq,r⟩:=zyu (K:=K) r1 he
  refine⟨p,xs,rfl,hq.imp (Offs.same A H).seq (SqT.same (Offs.same A H)),λl hl=>?_⟩
  exact q _ _ (Same.new hl) (zri hl (zei hA hl) r) λ_=>⟨l,rfl,hl,zmz hl r⟩
 ·cases e
noncomputable def zle:GF
 | [c]=>(zft c).map λds=>(.tuple ds,false)
 | _=>none
theorem ztb{K:qC}:SC (λxs H Q=>∃p ys,xs=[.ref p]/\((SqL K H p ys/\∀l,H l=none->Q (.ref l) (upd H l (.tup ys)))\/(SqT K H p ys/\Q (.ref p) H))) zle:=by
 intro A H vs ds hA rv d fr e Q q
 unfold zle at e
 split at e
 ·obtain⟨es,he,e⟩:=qH.mp e
  cases e
  obtain⟨v,rfl,r1⟩:=rps1 rv
  rename_i c
  cases c with
  | list ds=>
   cases he
   obtain⟨p,xs,rfl,h1,r⟩:=zeh r1
   exact⟨p,xs,rfl,.inl ⟨SqL.of (zdl h1),λl hl=>q _ _ (Same.new hl) (zjl hl (zei hA hl) r) (λz=>by cases z)⟩⟩
  | tuple ds=>
   cases he
   obtain⟨p,xs,rfl,h1,r⟩:=zdc r1
   exact⟨p,xs,rfl,.inr ⟨SqT.of (zdl h1),q _ H (Same.refl _) r1 (λz=>by cases z)⟩⟩
  | _=>cases he
 ·cases e
noncomputable def zrj:List PyData->Option (List Bool)
 | []=>some []
 | .bool b::r=>(zrj r).map λbs=>b::bs
 | _=>none
theorem zuz{H:Hp}:∀{ds:List PyData}{vs:List V}{bs:List Bool},Rps H ds vs->zrj ds=some bs->vs=bs.map V.bl
 | [],vs,bs,h,e=>by unfold Rps at h;cases e;exact h
 | d::ds,vs,bs,h,e=>by
  unfold Rps at h
  obtain⟨v,ws,rfl,h1,h2⟩:=h
  cases d with
  | bool b=>
   obtain⟨cs,ec,rfl⟩:=qH.mp e
   rw[zka h1,zuz h2 ec];rfl
  | _=>cases e
noncomputable def anyD(f:List Bool->Bool):GF
 | [.list ds]=>(zrj ds).map λbs=>(.bool (f bs),false)
 | _=>none
theorem zajg{K:qC}{f:List Bool->Bool}:SC (rAny K f) (anyD f):=by
 intro A H vs ds hA rv d fr e Q q
 unfold anyD at e
 split at e
 ·obtain⟨bs,he,e⟩:=qH.mp e
  cases e
  obtain⟨v,rfl,r1⟩:=rps1 rv
  obtain⟨p,xs,rfl,h1,r⟩:=zeh r1
  cases zuz r he
  exact⟨p,bs,rfl,SqL.of (zdl h1),q _ H (Same.refl _) zbg (λz=>by cases z)⟩
 ·cases e
noncomputable def zlz:PyData->String
 | .none=>"NoneType"|.bool _=>"bool"|.int _=>"int"|.str _=>"str"|.list _=>"list"|.tuple _=>"tuple"|.dict _=>"dict"
theorem zaro{K:qC}{H:Hp}{d:PyData}{v:V}(h:Rp H d v):TyOf K H v (.type (zlz d)):=by
 cases d with
 | list ds=>obtain⟨a,xs,rfl,h1,_⟩:=zeh h;exact .lst h1
 | tuple ds=>obtain⟨a,xs,rfl,h1,_⟩:=zdc h;exact .tup h1
 | dict ds=>obtain⟨a,xs,rfl,h1,_⟩:=zacj h;exact .dK h1
 | none=>cases zwv h;exact .non
 | bool b=>cases zka h;exact .bl _
 | int b=>cases zda h;exact .int _
 | str b=>cases zjz h;exact .str _
noncomputable def isiB(n:String)(d:PyData):Bool:=zlz d==n||(zlz d=="bool"&&n=="int")
noncomputable def eIsi(n:String)(a:EF):EF:=λenv=>(a env).map λx=>⟨.bool (isiB n x.d),false,[]⟩
theorem zma{K:qC}{n:String}{te:TE}{f:EF}(h1:SE te f)(hk:∀d,PySem.W.kitOne K (.type (zlz d)) (.type n)=some (isiB n d)) :
  SE (tCB (λxs H Q=>∃x n t b,xs=[x,.ty n]/\TyOf K H x t/\PySem.W.kitOne K t (.type n)=some b/\Q (.bl b) H) (tCons te (tCons (tC (.ty n)) tNil))) (eIsi n f):=by
 intro fx H0 env σ H h rr hr Q q
 unfold eIsi at hr
 obtain⟨x,ex,rfl⟩:=qH.mp hr
 refine h1 fx H0 env σ H h _ ex _ λv H1 s1 v1=>?_
 exact⟨v,n,_,_,rfl,zaro (Rp.same (Offs.same _ _) _ v1.rp),hk _,q _ H1 s1 ⟨zbg,λz=>by cases z⟩⟩
theorem zyv{K:qC}:∀d,PySem.W.kitOne K (.type (zlz d)) (.type "list")=some (isiB "list" d):=by intro d;cases d<;>rfl
theorem zpb{K:qC}:∀d,PySem.W.kitOne K (.type (zlz d)) (.type "tuple")=some (isiB "tuple" d):=by intro d;cases d<;>rfl
theorem zacr{K:qC}:∀d,PySem.W.kitOne K (.type (zlz d)) (.type "str")=some (isiB "str" d):=by intro d;cases d<;>rfl
theorem zakw{K:qC}:∀d,PySem.W.kitOne K (.type (zlz d)) (.type "int")=some (isiB "int" d):=by intro d;cases d<;>rfl
theorem zagp{K:qC}:∀d,PySem.W.kitOne K (.type (zlz d)) (.type "bool")=some (isiB "bool" d):=by intro d;cases d<;>rfl
noncomputable abbrev PF':=DEnv->Option (Option Int)
noncomputable def SPt(t:TO)(f:PF'):Prop:=∀(fx:Addr->Prop)(H0:Hp)(env:DEnv)(σ:St)(H:Hp),EnvOk fx H0 env σ H->∀r,f env=some r->∀Q:Option Int->Hp->Prop,(∀H',Same H H'->Q r H')->t σ H Q
noncomputable def zih:PF':=λ_=>some none
noncomputable def zhb(a:EF):PF':=λenv=>(a env).bind λx=>match x.d with|.int i=>some (some i)|_=>none
theorem zna:SPt tNoPart zih:=by
 intro fx H0 env σ H h r hr Q q
 cases hr
 exact q H (Same.refl _)
theorem znb{te:TE}{f:EF}(h1:SE te f):SPt (tPart te) (zhb f):=by
 intro fx H0 env σ H h r hr Q q
 unfold zhb at hr
 obtain⟨⟨d,fr,bs⟩,ex,hr⟩:=qA.mp hr
 cases d with
 | int i=>
  cases hr
  exact h1 fx H0 env σ H h _ ex _ λv H1 s1 v1=>⟨i,zda v1.rp,q H1 s1⟩
 | _=>cases hr
noncomputable def cutD(xs:List PyData)(lo hi:Option Int):List PyData:=(xs.drop (HT.sIx xs.length 0 lo)).take (HT.sIx xs.length xs.length hi - HT.sIx xs.length 0 lo)
theorem Rps.drop{H:Hp}{ds:List PyData}{vs:List V}(h:Rps H ds vs)(n:Nat):Rps H (ds.drop n) (vs.drop n):=by
 induction n generalizing ds vs with
 | zero=>exact h
 | succ n ih=>
  cases ds with
  | nil=>unfold Rps at h;subst h;exact zci
  | cons d ds=>unfold Rps at h;obtain⟨v,ws,rfl,h1,h2⟩:=h;exact ih h2
theorem Rps.take{H:Hp}{ds:List PyData}{vs:List V}(h:Rps H ds vs)(n:Nat):Rps H (ds.take n) (vs.take n):=by
 induction n generalizing ds vs with
 | zero=>exact zci
 | succ n ih=>
  cases ds with
  | nil=>unfold Rps at h;subst h;exact zci
  | cons d ds=>unfold Rps at h;obtain⟨v,ws,rfl,h1,h2⟩:=h;exact zcs h1 (ih h2)
theorem Rps.cut{H:Hp}{ds:List PyData}{vs:List V}(h:Rps H ds vs)(lo hi:Option Int):Rps H (cutD ds lo hi) (cutV vs lo hi):=by
 unfold cutD cutV
 rw[<- h.length]
 exact(h.drop _).take _
noncomputable def slD(d:PyData)(lo hi:Option Int):Option (PyData×Bool):=match d with
 | .str z=>if z.length<=100000 then some (.str (Txt.slice z lo hi),false)else none
 | .list ds=>some (.list (cutD ds lo hi),true)
 | _=>none
noncomputable def eSl(a:EF)(l h:PF'):EF:=λenv=>(a env).bind λx=>(l env).bind λlo=>(h env).bind λhi=>(slD x.d lo hi).bind λz=>some ⟨z.1,z.2,bsOf z.1 x.bs⟩
theorem zapa{K:qC}{te:TE}{tl th:TO}{f:EF}{fl fh:PF'}(h1:SE te f)(h2:SPt tl fl)(h3:SPt th fh):SE (tSl (rSlU K) te tl th) (eSl f fl fh):=by
 intro fx H0 env σ H h rr hr Q q
 unfold eSl at hr
 obtain⟨⟨d,frd,bs⟩,ex,hr⟩:=qA.mp hr
 obtain⟨lo,el,hr⟩:=qA.mp hr
 obtain⟨hi,eh,hr⟩:=qA.mp hr
 obtain⟨⟨d',fr'⟩,ez,hr⟩:=qA.mp hr
 cases hr
 refine h1 fx H0 env σ H h _ ex _ λv H1 s1 v1=>h2 fx H0 env σ H1 (h.up s1) _ el _ λH2 s2=>h3 fx H0 env σ H2 (h.up (s1.trans s2)) _ eh _ λH3 s3=>?_
 have v3:=(v1.later (Same.refl _) (s2.trans s3) λ_ z=>z).rp
 have t3:=(s1.trans s2).trans s3
 cases d with
 | str z=>
  have ez:(if z.length<=100000 then some (PyData.str (Txt.slice z lo hi),false)else none)=some (d',fr'):=ez
  split at ez
  ·rename_i hl
   cases ez
   cases zjz v3
   exact⟨zet hl,q _ H3 t3 ⟨zch,λz=>by cases z⟩⟩
  ·cases ez
 | list ds=>
  cases ez
  obtain⟨p,xs,rfl,hp,r⟩:=zeh v3
  refine⟨p,xs,rfl,SqL.of (zdl hp),λl hl=>q _ _ (t3.trans (Same.new hl)) ?_⟩
  have hA:=(h.up t3).lims bs
  exact⟨zri hl (zei hA hl) (r.cut lo hi),λ_=>⟨l,rfl,t3.free hl,zmz hl (r.cut lo hi)⟩⟩
 | _=>cases ez
noncomputable def ztc(fx:Addr->Prop)(H0:Hp)(d:PyData)(fr:Bool)(v:V)(H:Hp):Prop:=Rp (Offs fx H) d v/\(fr=true->∃a,v=.ref a/\H0 a=none/\zgr (Offs (λb=>fx b\/b=a) H) H a d)
noncomputable def spD(n:Nat)(g:GF):Sp:=λvs H Q _=>∃(fx:Addr->Prop)(ds:List PyData)(d:PyData)(fr:Bool),ds.length=n/\(∀b,fx b->∃o,H b=some o)/\Rps (Offs fx H) ds vs/\g ds=some (d,fr)/\∀v H',Same H H'->ztc fx H d fr v H'->Q v H'
noncomputable def zct(n:Nat)(g:GF)(f:AF):EF:=λenv=>(f env).bind λrs=>if rs.length=n then(g (zfx rs)).bind λz=>some ⟨z.1,z.2,bsOf z.1 (bss rs)⟩else none
theorem zcx{n:Nat}{g:GF}{ta:TA}{f:AF}(ha:SA ta f):SE (tCall (spD n g) [] E0 ta) (zct n g f):=by
 intro fx H0 env σ H h rr hr Q q
 unfold zct at hr
 obtain⟨rs,er,hr⟩:=qA.mp hr
 split at hr
 ·rename_i hn
  obtain⟨⟨d,fr⟩,ez,hr⟩:=qA.mp hr
  cases hr
  refine ha fx H0 env σ H h rs er _ λvs H1 s1 v1=>?_
  rw[qAL]
  refine⟨lim fx env σ (bss rs),zfx rs,d,fr,by rw[zgj];exact hn,(h.up s1).lims _,zfg (λi hi=>hi) v1,ez,λw H3 s3 ⟨rp,fr3⟩=>q w H3 (s1.trans s3) ⟨zmy rp,λe=>?_⟩⟩
  obtain⟨a,g1,g2,g3⟩:=fr3 e
  refine⟨a,g1,s1.free g2,?_⟩
  have nf:zhr d=false:=by cases d<;>first|rfl|exact g3.elim
  show zgr (Offs (λb=>lim fx env σ (bsOf d (bss rs)) b\/b=a) H3) H3 a d
  rw[show bsOf d (bss rs)=bss rs by unfold bsOf;rw[if_neg (by rw[nf];decide)]]
  exact g3
 ·cases hr
inductive Out where
 | nx (env:DEnv)
 | bk (env:DEnv)
 | ct (env:DEnv)
 | rt (d:PyData) (fr:Bool)
noncomputable def Sat(fx:Addr->Prop)(H0:Hp)(D:Ends):Out->Prop
 | .nx env=>∀σ H,EnvOk fx H0 env σ H->D.nx σ H
 | .bk env=>∀σ H,EnvOk fx H0 env σ H->D.bk σ H
 | .ct env=>∀σ H,EnvOk fx H0 env σ H->D.ct σ H
 | .rt d fr=>∀v H,Same H0 H->ztc fx H0 d fr v H->D.rt v H
noncomputable abbrev SF:=DEnv->Option Out
noncomputable def SS(ts:TS)(F:SF):Prop:=∀(fx:Addr->Prop)(H0:Hp)(env:DEnv)(σ:St)(H:Hp)(D:Ends),EnvOk fx H0 env σ H->∀o,F env=some o->Sat fx H0 D o->ts D σ H
noncomputable def frz1(env:DEnv)(i:Nat):DEnv:=match env[i]? with
 | some (.ac d)=>env.set i (.pl d)
 | _=>env
noncomputable def frzs(env:DEnv)(bs:List Nat):DEnv:=bs.foldl frz1 env
theorem zagq(env:DEnv)(i:Nat):(frz1 env i).length=env.length:=by
 unfold frz1;split
 ·rw[qAA]
 ·rfl
theorem zcj{α:Type}{l:List α}{i j:Nat}{x y:α}(h:(l.set i x)[j]?=some y):(j=i/\y=x)\/(j≠i/\l[j]?=some y):=by
 rw[List.getElem?_set]at h
 by_cases e:i=j
 ·subst e
  rw[if_pos rfl]at h
  split at h
  ·exact .inl ⟨rfl,(qo h).symm⟩
  ·cases h
 ·rw[if_neg e]at h
  exact .inr ⟨λz=>e z.symm,h⟩
theorem znc{env:DEnv}{i j:Nat}{d:PyData}(h:(frz1 env i)[j]?=some (.ac d)):env[j]?=some (.ac d)/\j≠i:=by
 unfold frz1 at h
 split at h
 ·rcases zcj h with⟨_,e⟩|⟨e,h⟩
  ·cases e
  ·exact⟨h,e⟩
 ·rename_i hn
  refine⟨h,λe=>?_⟩
  subst e
  exact hn d h
theorem zakx{env:DEnv}{i j:Nat}{d:PyData}(h:(frz1 env i)[j]?=some (.pl d)):env[j]?=some (.pl d)\/(j=i/\env[i]?=some (.ac d)):=by
 unfold frz1 at h
 split at h
 ·rename_i d' hd
  rcases zcj h with⟨e1,e⟩|⟨e,h⟩
  ·cases e;exact .inr ⟨e1,hd⟩
  ·exact .inl h
 ·exact .inl h
theorem zagr{env:DEnv}{σ:St}{i:Nat}:∀a,own (frz1 env i) σ a->own env σ a:=by
 rintro a ⟨j,d,h1,h2⟩
 exact⟨j,d,(znc h1).1,h2⟩
theorem EnvOk.frz1{fx:Addr->Prop}{H0:Hp}{env:DEnv}{σ:St}{H:Hp}(h:EnvOk fx H0 env σ H)(i:Nat):EnvOk fx H0 (frz1 env i) σ H:=by
 have so:Same (Offs (λa=>fx a\/own env σ a) H) (Offs (λa=>fx a\/own (L2.frz1 env i) σ a) H):=Offs.sub λb z=>z.imp (λy=>y) (zagr b)
 refine⟨by rw[zagq];exact h.len,λj d e=>?_,λj d e=>?_,λj k d d' a h1 h2 h3 h4=>h.inj j k d d' a (znc h1).1 (znc h2).1 h3 h4,h.base,h.fxs⟩
 ·rcases zakx e with e|⟨rfl,e⟩
  ·obtain⟨v,h1,h2⟩:=h.pl j d e
   exact⟨v,h1,Rp.same so _ h2⟩
  ·obtain⟨a,h1,h2,h3,h4⟩:=h.ac j d e
   refine⟨_,h1,h4.rp so λo eo=>?_⟩
   rw[Offs.get]
   ·exact eo
   ·rintro(z|⟨k,d',z1,z2⟩)
    ·exact h3 z
    ·obtain⟨z1,z3⟩:=znc z1
     exact z3 (h.inj k j d' d a z1 e z2 h1)
 ·obtain⟨a,h1,h2,h3,h4⟩:=h.ac j d (znc e).1
  exact⟨a,h1,h2,h3,h4.same so λo z=>z⟩
theorem EnvOk.frzs{fx:Addr->Prop}{H0:Hp}{σ:St}{H:Hp}:∀(bs:List Nat){env:DEnv},EnvOk fx H0 env σ H->EnvOk fx H0 (frzs env bs) σ H
 | [],_,h=>h
 | i::bs,_,h=>EnvOk.frzs bs (h.frz1 i)
theorem zacs:∀{bs:List Nat}{env:DEnv}{j:Nat}{d:PyData},(frzs env bs)[j]?=some (.ac d)->env[j]?=some (.ac d)/\j∉bs
 | [],_,_,_,h=>⟨h,by simp⟩
 | i::bs,env,j,d,h=>by
  obtain⟨h1,h2⟩:=zacs (bs:=bs) h
  obtain⟨h3,h4⟩:=znc h1
  exact⟨h3,by simp[h4,h2]⟩
theorem zgh{fx:Addr->Prop}{env:DEnv}{σ:St}{bs:List Nat}:∀a,fx a\/own (frzs env bs) σ a->lim fx env σ bs a:=by
 rintro a (z|⟨i,d,h1,h2⟩)
 ·exact .inl z
 ·obtain⟨h3,h4⟩:=zacs h1
  exact .inr ⟨i,d,h4,h3,h2⟩
theorem zwz{env:DEnv}{σ:St}{i:Nat}{d:PyData}{v:V}:∀a,own (env.set i (.pl d)) (σ.set i (some v)) a->own env σ a:=by
 rintro a ⟨j,e,h1,h2⟩
 rcases zcj h1 with⟨_,z⟩|⟨ne,h1⟩
 ·cases z
 ·rcases zcj h2 with⟨z,_⟩|⟨_,h2⟩
  ·exact absurd z ne
  ·exact⟨j,e,h1,h2⟩
theorem EnvOk.setPl{fx:Addr->Prop}{H0:Hp}{env:DEnv}{σ:St}{H:Hp}(h:EnvOk fx H0 env σ H)(i:Nat){d:PyData}{v:V}(r:Rp (Offs (λa=>fx a\/own env σ a) H) d v):EnvOk fx H0 (env.set i (.pl d)) (σ.set i (some v)) H:=by
 have so:Same (Offs (λa=>fx a\/own env σ a) H) (Offs (λa=>fx a\/own (env.set i (.pl d)) (σ.set i (some v)) a) H):=Offs.sub λb z=>z.imp (λy=>y) (zwz b)
 have kept:∀{j:Nat},j≠i->(σ.set i (some v))[j]?=σ[j]?:=λ{j} n=>qP λz=>n z.symm
 refine⟨by rw[qAA,qAA];exact h.len,λj e hj=>?_,λj e hj=>?_,λj k d1 d2 a h1 h2 h3 h4=>?_,h.base,h.fxs⟩
 ·rcases zcj hj with⟨rfl,z⟩|⟨ne,hj'⟩
  ·cases z
   have hl:j<env.length:=by have:=(qW.mp hj).1;rwa [qAA]at this
   exact⟨v,by rw[qAB (by rw[<- h.len];exact hl)],Rp.same so _ r⟩
  ·obtain⟨u,h1,h2⟩:=h.pl j e hj'
   exact⟨u,by rw[kept ne];exact h1,Rp.same so _ h2⟩
 ·rcases zcj hj with⟨_,z⟩|⟨ne,hj'⟩
  ·cases z
  ·obtain⟨a,h1,h2,h3,h4⟩:=h.ac j e hj'
   exact⟨a,by rw[kept ne];exact h1,h2,h3,h4.same so λo z=>z⟩
 ·rcases zcj h1 with⟨_,z⟩|⟨n1,h1⟩
  ·cases z
  rcases zcj h2 with⟨_,z⟩|⟨n2,h2⟩
  ·cases z
  rw[kept n1]at h3
  rw[kept n2]at h4
  exact h.inj j k d1 d2 a h1 h2 h3 h4
theorem EnvOk.setAc {fx:Addr->Prop} {H0:Hp} {env:DEnv} {σ:St} {H:Hp} {a:Addr} (h:EnvOk (λb=>fx b\/b=a) H0 env σ H) (i:Nat) {d:PyData} (r:zgr (Offs (λb=>(fx b\/own env σ b)\/b=a) H) H a d) (h0:H0 a=none) (hf:¬fx a) :
  EnvOk fx H0 (env.set i (.ac d)) (σ.set i (some (.ref a))) H:=by
 have kept:∀{j:Nat},j≠i->(σ.set i (some (V.ref a)))[j]?=σ[j]?:=λ{j} n=>qP λz=>n z.symm
 have sub:∀b,fx b\/own (env.set i (.ac d)) (σ.set i (some (.ref a))) b->(fx b\/b=a)\/own env σ b:=by
  rintro b (z|⟨j,e,h1,h2⟩)
  ·exact .inl (.inl z)
  ·rcases zcj h1 with⟨rfl,z⟩|⟨ne,h1⟩
   ·have hl:j<env.length:=by have:=(qW.mp ‹(env.set j (.ac d))[j]?=_›).1;rwa [qAA]at this
    rw[qAB (by rw[<- h.len];exact hl)]at h2
    cases h2
    exact .inl (.inr rfl)
   ·rw[kept ne]at h2
    exact .inr ⟨j,e,h1,h2⟩
 have so:Same (Offs (λb=>(fx b\/b=a)\/own env σ b) H) (Offs (λb=>fx b\/own (env.set i (.ac d)) (σ.set i (some (.ref a))) b) H):=Offs.sub sub
 have so2:Same (Offs (λb=>(fx b\/own env σ b)\/b=a) H) (Offs (λb=>fx b\/own (env.set i (.ac d)) (σ.set i (some (.ref a))) b) H):=Offs.sub λb z=>by
  rcases sub b z with(y|y)|y
  ·exact .inl (.inl y)
  ·exact .inr y
  ·exact .inl (.inr y)
 refine⟨by rw[qAA,qAA];exact h.len,λj e hj=>?_,λj e hj=>?_,λj k d1 d2 b h1 h2 h3 h4=>?_,h.base,λb z=>h.fxs b (.inl z)⟩
 ·rcases zcj hj with⟨_,z⟩|⟨ne,hj'⟩
  ·cases z
  ·obtain⟨u,h1,h2⟩:=h.pl j e hj'
   exact⟨u,by rw[kept ne];exact h1,Rp.same so _ h2⟩
 ·rcases zcj hj with⟨rfl,z⟩|⟨ne,hj'⟩
  ·cases z
   have hl:j<env.length:=by have:=(qW.mp hj).1;rwa [qAA]at this
   exact⟨a,by rw[qAB (by rw[<- h.len];exact hl)],h0,hf,r.same so2 λo z=>z⟩
  ·obtain⟨b,h1,h2,h3,h4⟩:=h.ac j e hj'
   exact⟨b,by rw[kept ne];exact h1,h2,λz=>h3 (.inl z),h4.same so λo z=>z⟩
 ·rcases zcj h1 with⟨e1,z1⟩|⟨n1,h1'⟩<;>rcases zcj h2 with⟨e2,z2⟩|⟨n2,h2'⟩
  ·rw[e1,e2]
  ·subst e1
   have hl:j<env.length:=by have:=(qW.mp h1).1;rwa [qAA]at this
   rw[qAB (by rw[<- h.len];exact hl)]at h3
   rw[kept n2]at h4
   cases h3
   obtain⟨b,g1,g2,g3,g4⟩:=h.ac k d2 h2'
   rw[h4]at g1
   cases g1
   exact absurd (.inr rfl) g3
  ·subst e2
   have hl:k<env.length:=by have:=(qW.mp h2).1;rwa [qAA]at this
   rw[qAB (by rw[<- h.len];exact hl)]at h4
   rw[kept n1]at h3
   cases h4
   obtain⟨b,g1,g2,g3,g4⟩:=h.ac j d1 h1'
   rw[h3]at g1
   cases g1
   exact absurd (.inr rfl) g3
  ·rw[kept n1]at h3
   rw[kept n2]at h4
   exact h.inj j k d1 d2 b h1' h2' h3 h4
noncomputable def slOf(r:Val):Sl:=if r.fr=true then .ac r.d else .pl r.d
noncomputable def putV(env:DEnv)(i:Nat)(r:Val):DEnv:=(frzs env r.bs).set i (slOf r)
theorem EnvOk.put{fx:Addr->Prop}{H0:Hp}{env:DEnv}{σ:St}{H H':Hp}(h:EnvOk fx H0 env σ H)(s:Same H H'){r:Val}{v:V}(hv:ValOk (lim fx env σ r.bs) H H' r v)(i:Nat):EnvOk fx H0 (putV env i r) (σ.set i (some v)) H':=by
 unfold putV slOf
 cases e:r.fr with
 | false=>
  rw[if_neg qQ]
  exact((h.up s).frzs r.bs).setPl i (Rp.same (Offs.sub zgh) _ hv.rp)
 | true=>
  rw[if_pos rfl]
  obtain⟨a,rfl,ha,hacc⟩:=hv.fr e
  have nfx:¬fx a:=zei h.fxs ha
  have g:EnvOk (λb=>fx b\/b=a) H0 env σ H':=h.grow s (λb o eo n z=>z.elim n λy=>by rw[y,ha]at eo;cases eo) λb z=>by
   rcases z with z|z
   ·obtain⟨o,eo⟩:=h.fxs b z;exact⟨o,s b o eo⟩
   ·rw[z];exact hacc.ex
  refine(g.frzs r.bs).setAc i (hacc.same (Offs.sub λb z=>?_) λo z=>z) (h.base.free ha) nfx
  rcases z with z|z
  ·exact .inl (zgh b z)
  ·exact .inr z
noncomputable def sNil:SF:=λenv=>some (.nx env)
noncomputable def sSeq(f g:SF):SF:=λenv=>(f env).bind λo=>match o with
 | .nx env'=>g env'
 | o=>some o
theorem zlf:SS tNext sNil:=by
 intro fx H0 env σ H D h o e q
 cases e
 exact q σ H h
theorem zex{t u:TS}{f g:SF}(h1:SS t f)(h2:SS u g):SS (tSeq t u) (sSeq f g):=by
 intro fx H0 env σ H D h o e q
 unfold sSeq at e
 obtain⟨o1,e1,e⟩:=qA.mp e
 refine h1 fx H0 env σ H _ h o1 e1 ?_
 cases o1 with
 | nx env'=>exact λσ' H' h'=>h2 fx H0 env' σ' H' D h' o e q
 | bk env'=>cases e;exact q
 | ct env'=>cases e;exact q
 | rt d fr=>cases e;exact q
noncomputable def zyw:SF:=λ_=>none
theorem zyx:SS tNever zyw:=by
 intro fx H0 env σ H D h o e q
 cases e
noncomputable def zaan(f:EF):SF:=λenv=>(f env).map λ_=>.nx env
theorem zact{te:TE}{f:EF}(h1:SE te f):SS (tDrop te) (zaan f):=by
 intro fx H0 env σ H D h o e q
 unfold zaan at e
 obtain⟨r,er,rfl⟩:=qH.mp e
 exact h1 fx H0 env σ H h r er _ λv H' s _=>q σ H' (h.up s)
noncomputable def sRet(f:EF):SF:=λenv=>(f env).map λr=>.rt r.d r.fr
theorem zht{te:TE}{f:EF}(h1:SE te f):SS (tRet te) (sRet f):=by
 intro fx H0 env σ H D h o e q
 unfold sRet at e
 obtain⟨r,er,rfl⟩:=qH.mp e
 refine h1 fx H0 env σ H h r er _ λv H' s hv=>q v H' (h.base.trans s) ⟨Rp.same (Offs.sub λb z=>.inl z) _ hv.rp,λz=>?_⟩
 obtain⟨a,g1,g2,g3⟩:=hv.fr z
 exact⟨a,g1,h.base.free g2,g3.same (Offs.sub λb y=>y.imp .inl id) λo z=>z⟩
noncomputable def zpc(i:Nat):SF:=λenv=>match env[i]? with
 | some (.pl d)=>some (.rt d false)
 | some (.ac d)=>some (.rt d true)
 | _=>none
theorem zacu{i:Nat}:SS (tRet (tVar i)) (zpc i):=by
 intro fx H0 env σ H D h o e q
 unfold zpc at e
 cases ei:env[i]? with
 | none=>rw[ei]at e;cases e
 | some sl=>
  rw[ei]at e
  cases sl with
  | no=>cases e
  | pl d=>
   cases e
   obtain⟨v,h1,h2⟩:=h.pl i d ei
   exact⟨v,h1,q v H h.base ⟨Rp.same (Offs.sub λb z=>.inl z) _ h2,λz=>by cases z⟩⟩
  | ac d=>
   cases e
   obtain⟨a,h1,h2,h3,h4⟩:=h.ac i d ei
   refine⟨_,h1,q _ H h.base ⟨h4.rp (Offs.sub λb z=>.inl z) λo eo=>by rw[Offs.get h3];exact eo,λ_=>⟨a,rfl,h2,h4.same (Offs.sub λb z=>?_) λo z=>z⟩⟩⟩
   rcases z with z|z
   ·exact .inl z
   ·rw[z];exact .inr ⟨i,d,ei,h1⟩
noncomputable def sIf(c:TF)(f g:SF):SF:=λenv=>(c env).bind λb=>if b=true then f env else g env
theorem zva{tc:TT}{t u:TS}{c:TF}{f g:SF}(hc:ST tc c)(h1:SS t f)(h2:SS u g):SS (tIfS tc t u) (sIf c f g):=by
 intro fx H0 env σ H D h o e q
 unfold sIf at e
 obtain⟨b,eb,e⟩:=qA.mp e
 refine hc fx H0 env σ H h b eb _ λH' s=>?_
 cases b with
 | true=>exact iteT (h1 fx H0 env σ H' D (h.up s) o e q)
 | false=>exact iteF (h2 fx H0 env σ H' D (h.up s) o e q)
noncomputable def sSet(i:Nat)(f:EF):SF:=λenv=>(f env).map λr=>.nx (putV env i r)
theorem ziq{te:TE}{f:EF}{i:Nat}(h1:SE te f):SS (tAsg te (gName i)) (sSet i f):=by
 intro fx H0 env σ H D h o e q
 unfold sSet at e
 obtain⟨r,er,rfl⟩:=qH.mp e
 exact h1 fx H0 env σ H h r er _ λv H' s hv=>q _ H' (h.put s hv i)
noncomputable abbrev GT:=PyData->DEnv->Option DEnv
noncomputable def SG(g:TG)(f:GT):Prop:=∀(fx:Addr->Prop)(H0:Hp)(env:DEnv)(σ:St)(H:Hp)(d:PyData)(v:V),EnvOk fx H0 env σ H->Rp (Offs (λa=>fx a\/own env σ a) H) d v->∀env',f d env=some env'->∀Q:St->Hp->Prop,
 (∀σ',EnvOk fx H0 env' σ' H->Q σ' H)->g v σ H Q
noncomputable abbrev GTs:=List PyData->DEnv->Option DEnv
noncomputable def SGs(g:TGs)(f:GTs):Prop:=∀(fx:Addr->Prop)(H0:Hp)(env:DEnv)(σ:St)(H:Hp)(ds:List PyData)(vs:List V),EnvOk fx H0 env σ H->Rps (Offs (λa=>fx a\/own env σ a) H) ds vs->∀env',f ds env=some env'->∀Q:St->Hp->Prop,
 (∀σ',EnvOk fx H0 env' σ' H->Q σ' H)->g vs σ H Q
noncomputable def gN(i:Nat):GT:=λd env=>some (env.set i (.pl d))
theorem zhu{i:Nat}:SG (gName i) (gN i):=by
 intro fx H0 env σ H d v h r env' e Q q
 cases e
 exact q _ (h.setPl i r)
noncomputable def zfd:GTs:=λds env=>match ds with|[]=>some env|_=>none
noncomputable def zbe(i:Nat)(g:GTs):GTs:=λds env=>match ds with|d::r=>g r (env.set i (.pl d))|[]=>none
theorem zhv:SGs gNil zfd:=by
 intro fx H0 env σ H ds vs h r env' e Q q
 cases ds with
 | nil=>cases e;unfold Rps at r;exact⟨r,q _ h⟩
 | cons _ _=>cases e
theorem zbt{i:Nat}{t:TGs}{g:GTs}(h1:SGs t g):SGs (gCons (gName i) t) (zbe i g):=by
 intro fx H0 env σ H ds vs h r env' e Q q
 cases ds with
 | nil=>cases e
 | cons d ds=>
  unfold Rps at r
  obtain⟨v,ws,rfl,r1,r2⟩:=r
  refine⟨v,ws,rfl,h1 fx H0 (env.set i (.pl d)) _ H ds ws (h.setPl i r1) (Rps.same (Offs.sub λb z=>z.imp (λy=>y) (zwz b)) _ r2) env' e Q q⟩
noncomputable def gT(n:Nat)(g:GTs):GT:=λd env=>match d with|.tuple ds=>if ds.length=n then g ds env else none|_=>none
theorem zkb{K:qC}{n:Nat}{t:TGs}{g:GTs}(h1:SGs t g):SG (gTup K n t) (gT n g):=by
 intro fx H0 env σ H d v h r env' e Q q
 unfold gT at e
 cases d with
 | tuple ds=>
  have e:(if ds.length=n then g ds env else none)=some env':=e
  split at e
  ·rename_i hn
   obtain⟨a,xs,rfl,ha,rs⟩:=zdc r
   exact⟨a,xs,rfl,SqT.of (zdl ha),by rw[<- rs.length];exact hn,h1 fx H0 env σ H ds xs h rs env' e Q q⟩
  ·cases e
 | _=>cases e
noncomputable def sAsg(f:EF)(g:GT):SF:=λenv=>(f env).bind λr=>(g r.d (frzs env r.bs)).map .nx
theorem zapb{te:TE}{f:EF}{g:TG}{gf:GT}(h1:SE te f)(h2:SG g gf):SS (tAsg te g) (sAsg f gf):=by
 intro fx H0 env σ H D h o e q
 unfold sAsg at e
 obtain⟨r,er,e⟩:=qA.mp e
 obtain⟨env',e',rfl⟩:=qH.mp e
 exact h1 fx H0 env σ H h r er _ λv H' s hv=>h2 fx H0 _ σ H' r.d v ((h.up s).frzs r.bs) (Rp.same (Offs.sub zgh) _ hv.rp) env' e' _ λσ' h'=>q σ' H' h'
theorem EnvOk.mut{fx:Addr->Prop}{H0:Hp}{env:DEnv}{σ:St}{H:Hp}(h:EnvOk fx H0 env σ H){i:Nat}{d d':PyData}{a:Addr}{o:HO}(e:env[i]?=some (.ac d))(ea:σ[i]?=some (some (.ref a)))
  (r:zgr (Offs (λb=>fx b\/own env σ b) H) (upd H a o) a d'):EnvOk fx H0 (env.set i (.ac d')) σ (upd H a o):=by
 have hl:i<env.length:=(qW.mp e).1
 have oa:own env σ a:=⟨i,d,e,ea⟩
 have ow:∀b,own (env.set i (.ac d')) σ b↔own env σ b:=by
  intro b
  constructor
  ·rintro⟨j,d1,h1,h2⟩
   rcases zcj h1 with⟨rfl,z⟩|⟨ne,h1⟩
   ·exact⟨j,d,e,h2⟩
   ·exact⟨j,d1,h1,h2⟩
  ·rintro⟨j,d1,h1,h2⟩
   by_cases hj:j=i
   ·subst hj;exact⟨j,d',by rw[qAB hl],h2⟩
   ·exact⟨j,d1,by rw[qP λz=>hj z.symm];exact h1,h2⟩
 have so:Same (Offs (λb=>fx b\/own env σ b) H) (Offs (λb=>fx b\/own (env.set i (.ac d')) σ b) (upd H a o)):=by
  have:Same (Offs (λb=>fx b\/own env σ b) (upd H a o)) (Offs (λb=>fx b\/own (env.set i (.ac d')) σ b) (upd H a o)):=Offs.sub λb z=>z.imp (λy=>y) (ow b).mp
  rw[Offs.upd (.inr oa)]at this
  exact this
 obtain⟨a',g1,g2,g3,g4⟩:=h.ac i d e
 rw[ea]at g1
 cases g1
 refine⟨by rw[qAA];exact h.len,λj d1 hj=>?_,λj d1 hj=>?_,λj k d1 d2 b h1 h2 h3 h4=>?_,λb u eb=>by rw[zax (zbn eb g2)];exact h.base b u eb,λb z=>?_⟩
 ·rcases zcj hj with⟨_,z⟩|⟨ne,hj'⟩
  ·cases z
  ·obtain⟨u,h1,h2⟩:=h.pl j d1 hj'
   exact⟨u,h1,Rp.same so _ h2⟩
 ·rcases zcj hj with⟨rfl,z⟩|⟨ne,hj'⟩
  ·cases z
   exact⟨a,ea,g2,g3,r.same so λo z=>z⟩
  ·obtain⟨b,h1,h2,h3,h4⟩:=h.ac j d1 hj'
   refine⟨b,h1,h2,h3,h4.same so λo' z=>?_⟩
   rw[zax λy=>ne (h.inj j i d1 d a hj' e (by rw[<- y];exact h1) ea)]
   exact z
 ·have f:∀{j:Nat}{d1:PyData},(env.set i (.ac d'))[j]?=some (.ac d1)->∃d2,env[j]?=some (.ac d2):=λ{j d1} hj=>by
   rcases zcj hj with⟨rfl,z⟩|⟨ne,hj'⟩
   ·exact⟨d,e⟩
   ·exact⟨d1,hj'⟩
  obtain⟨e1,h1⟩:=f h1
  obtain⟨e2,h2⟩:=f h2
  exact h.inj j k e1 e2 b h1 h2 h3 h4
 ·obtain⟨u,eu⟩:=h.fxs b z
  exact⟨u,by rw[zax λy=>g3 (by rw[<- y];exact z)];exact eu⟩
theorem zmb{env:DEnv}{i:Nat}{d:PyData}:∀{bs:List Nat},i∉bs->env[i]?=some (.ac d)->(frzs env bs)[i]?=some (.ac d):=by
 intro bs
 induction bs generalizing env with
 | nil=>intro _ e;exact e
 | cons j bs ih=>
  intro hn e
  have hj:i≠j:=λz=>hn (by simp[z])
  refine ih (λz=>hn (qR _ z)) ?_
  unfold frz1
  split
  ·rw[qP λz=>hj z.symm];exact e
  ·exact e
theorem EnvOk.rebase{fx:Addr->Prop}{H0:Hp}{env:DEnv}{σ:St}{H:Hp}(h:EnvOk fx H0 env σ H):EnvOk fx (Offs (own env σ) H) env σ H:=by
 refine⟨h.len,h.pl,λi d e=>?_,h.inj,Offs.same _ _,h.fxs⟩
 obtain⟨a,h1,h2,h3,h4⟩:=h.ac i d e
 exact⟨a,h1,Offs.out ⟨i,d,e,h1⟩,h3,h4⟩
theorem EnvOk.floor{fx:Addr->Prop}{H0:Hp}{env:DEnv}{σ:St}{H:Hp}(h:EnvOk fx H0 env σ H):Same H0 (Offs (own env σ) H):=λb o e=>by
 rw[Offs.get]
 ·exact h.base b o e
 ·rintro⟨i,d,h1,h2⟩
  obtain⟨a,g1,g2,_⟩:=h.ac i d h1
  rw[h2]at g1
  cases g1
  rw[g2]at e
  cases e
theorem EnvOk.unbase{fx:Addr->Prop}{H0 F:Hp}{env:DEnv}{σ:St}{H:Hp}(h:EnvOk fx F env σ H)(s:Same H0 F):EnvOk fx H0 env σ H:=by
 refine⟨h.len,h.pl,λi d e=>?_,h.inj,s.trans h.base,h.fxs⟩
 obtain⟨a,h1,h2,h3,h4⟩:=h.ac i d e
 exact⟨a,h1,s.free h2,h3,h4⟩
theorem ztc.unbase{fx:Addr->Prop}{H0 F:Hp}{d:PyData}{fr:Bool}{v:V}{H:Hp}(h:ztc fx F d fr v H)(s:Same H0 F):ztc fx H0 d fr v H:=
 ⟨h.1,λe=>let⟨a,h1,h2,h3⟩:=h.2 e;⟨a,h1,s.free h2,h3⟩⟩
theorem EnvOk.seen{fx:Addr->Prop}{env env':DEnv}{σ σ':St}{H H':Hp}(h:EnvOk fx (Offs (own env σ) H) env' σ' H'):Same (Offs (λb=>fx b\/own env σ b) H) (Offs (λb=>fx b\/own env' σ' b) H'):=λb o e=>by
 obtain⟨h1,h2⟩:=Offs.of e
 have hF:Offs (own env σ) H b=some o:=by rw[Offs.get λz=>h1 (.inr z)];exact h2
 rw[Offs.get]
 ·exact h.base b o hF
 ·rintro(z|⟨i,d,g1,g2⟩)
  ·exact h1 (.inl z)
  ·obtain⟨a,k1,k2,_⟩:=h.ac i d g1
   rw[g2]at k1
   cases k1
   rw[k2]at hF
   cases hF
theorem EnvOk.all{fx:Addr->Prop}{H0:Hp}{env:DEnv}{σ:St}{H:Hp}(h:EnvOk fx H0 env σ H):∀b,fx b\/own env σ b->∃o,H b=some o:=λb z=>h.lims [] b (zaks b z)
noncomputable def Yl(A0:Addr->Prop)(H1:Hp)(J:It)(ds:List PyData):Prop:=∀(A:Addr->Prop)(H':Hp),(∀b,A b->∃o,H' b=some o)->Same (Offs A0 H1) (Offs A H')->
 (∀i d,ds[i]?=some d->J.go i H'/\∀x H'',J.yld i H' x H''->Same H' H''/\Rp (Offs A H'') d x)/\J.stop ds.length H'
noncomputable abbrev IF':=DEnv->Option (List PyData×List Nat)
noncomputable def SI(wi:TI)(f:IF'):Prop:=∀(fx:Addr->Prop)(H0:Hp)(env:DEnv)(σ:St)(H:Hp),EnvOk fx H0 env σ H->∀ds bs,f env=some (ds,bs)->∀R:It->Hp->Prop,
 (∀J H1,Same H H1->Yl (λb=>fx b\/own (frzs env bs) σ b) H1 J ds->R J H1)->wi σ H R
noncomputable def iSeq(K:qC)(te:TE):TI:=λσ H R=>te σ H λx H1=>∃a,x=.ref a/\((∃xs,SqL K H1 a xs)/\R (Itl K a) H1\/(∃xs,SqT K H1 a xs)/\R (Itt K a) H1)
theorem zapc{X:Cx}{tg l:Expr}{tl:TE}(hl:PE X l tl):PI X tg l (iSeq X.K tl):=by
 intro pins s σ H R I h
 refine thn (hl pins s σ H _ I h) λv s1 ⟨x,H1,I1,r1,q1⟩=>?_
 obtain⟨a,e,q⟩:=q1
 subst e
 cases r1
 rcases q with⟨⟨xs,hq⟩,q⟩|⟨⟨xs,hq⟩,q⟩
 ·obtain⟨its,rv,p,hz⟩:=I1.list hq
  refine qBB p.isList ?_
  refine⟨s1.heap.objs.size,[s1.heap.objs.size],_,_,H1,rfl,I1.kept (t':=s1.toks) λb o e=>qG _ e,zabk a _,⟨_,qe _ rfl,rfl,rfl⟩,λb hb=>?_,q⟩
  have e:b=s1.heap.objs.size:=by simpa using hb
  subst e
  exact I1.fpOk (qL _) (I1.hok.fresh (qL _))
 ·obtain⟨its,rv,p,hz⟩:=I1.tuple hq
  refine qAj (show s1.heap.IsTuple a its.toArray from p) ?_
  refine⟨s1.heap.objs.size,[s1.heap.objs.size],_,_,H1,rfl,I1.kept (t':=s1.toks) λb o e=>qG _ e,zzy a _,⟨_,qe _ rfl,rfl,rfl⟩,λb hb=>?_,q⟩
  have e:b=s1.heap.objs.size:=by simpa using hb
  subst e
  exact I1.fpOk (qL _) (I1.hok.fresh (qL _))
theorem zaky{X:Cx}{K:qC}(hK:X.K=K){tg l:Expr}{tl:TE}(hl:PE X l tl):PI X tg l (iSeq K tl):=by subst hK;exact zapc hl
noncomputable def zba(f:EF):IF':=λenv=>(f env).bind λr=>(zft r.d).map λds=>(ds,r.bs)
theorem zakz{K:qC}{A0:Addr->Prop}{H1:Hp}{a:Addr}{ds:List PyData}{xs:List V}(h:Offs A0 H1 a=some (.lst xs))(r:Rps (Offs A0 H1) ds xs):Yl A0 H1 (Itl K a) ds:=by
 intro A H' hA s
 have ha:=zdl (s _ _ h)
 have r':=Rps.same s _ r
 refine⟨λi d e=>?_,⟨xs,SqL.of ha,by rw[r.length];exact qL _⟩⟩
 obtain⟨v,hv,rv⟩:=r'.get2 e
 refine⟨⟨xs,v,SqL.of ha,hv⟩,λx H'' y=>?_⟩
 obtain⟨rfl,y⟩:=y
 have:=y xs (SqL.of ha)
 rw[hv]at this
 cases this
 exact⟨Same.refl _,rv⟩
theorem zapd{K:qC}{A0:Addr->Prop}{H1:Hp}{a:Addr}{ds:List PyData}{xs:List V}(h:Offs A0 H1 a=some (.tup xs))(r:Rps (Offs A0 H1) ds xs):Yl A0 H1 (Itt K a) ds:=by
 intro A H' hA s
 have ha:=zdl (s _ _ h)
 have r':=Rps.same s _ r
 refine⟨λi d e=>?_,⟨xs,SqT.of ha,by rw[r.length];exact qL _⟩⟩
 obtain⟨v,hv,rv⟩:=r'.get2 e
 refine⟨⟨xs,v,SqT.of ha,hv⟩,λx H'' y=>?_⟩
 obtain⟨rfl,y⟩:=y
 have:=y xs (SqT.of ha)
 rw[hv]at this
 cases this
 exact⟨Same.refl _,rv⟩
theorem zgk{K:qC}{te:TE}{f:EF}(h1:SE te f):SI (iSeq K te) (zba f):=by
 intro fx H0 env σ H h ds bs e R q
 unfold zba at e
 obtain⟨⟨d,fr,bs'⟩,er,e⟩:=qA.mp e
 obtain⟨es,he,e⟩:=qH.mp e
 cases e
 refine h1 fx H0 env σ H h _ er _ λv H1 s hv=>?_
 have rp:=Rp.same (Offs.sub (zgh (bs:=bs'))) _ hv.rp
 cases d with
 | list ds=>
  cases he
  obtain⟨a,xs,rfl,ha,r⟩:=zeh rp
  exact⟨a,rfl,.inl ⟨⟨xs,SqL.of (zdl ha)⟩,q _ H1 s (zakz ha r)⟩⟩
 | tuple ds=>
  cases he
  obtain⟨a,xs,rfl,ha,r⟩:=zdc rp
  exact⟨a,rfl,.inr ⟨⟨xs,SqT.of (zdl ha)⟩,q _ H1 s (zapd ha r)⟩⟩
 | _=>cases he
noncomputable def zlp(ds:List PyData):List PyData:=ds.zipIdx.map λp=>.tuple [.int p.2,p.1]
noncomputable def zacv(f:AF):IF':=λenv=>(f env).bind λrs=>match rs with
 | [r]=>match r.d with
  | .list ds=>some (zlp ds,r.bs)
  | _=>none
 | _=>none
noncomputable def znn(lo:Int)(n:Nat):List PyData:=(List.range n).map λ(k:Nat)=>.int (lo+(k:Int))
theorem zyy{A0:Addr->Prop}{H1:Hp}{lo:Int}{n:Nat}:Yl A0 H1 (Itr lo n) (znn lo n):=by
 intro A H' hA s
 have hl:(znn lo n).length=n:=by unfold znn;simp
 refine⟨λi d e=>?_,by rw[hl];exact qL _⟩
 unfold znn at e
 rw[qa]at e
 by_cases hi:i<n
 ·rw[qBz hi]at e
  cases e
  exact⟨hi,λx H'' ⟨e1,e2⟩=>by subst e1;subst e2;exact⟨Same.refl _,zad⟩⟩
 ·rw[qBo (by simpa using hi)]at e
  cases e
noncomputable def zcy(f:AF):IF':=λenv=>(f env).bind λrs=>match rs with
 | [⟨.int j,_,_⟩]=>if -(2 ^ 62)<=j/\j<2 ^ 62 then some (znn 0 j.toNat,[])else none
 | _=>none
theorem zfh{ta:TA}{f:AF}(h1:SA ta f):SI (iRng1 ta) (zcy f):=by
 intro fx H0 env σ H h ds bs e R q
 unfold zcy at e
 obtain⟨rs,er,e⟩:=qA.mp e
 split at e
 ·split at e
  ·rename_i hj
   cases e
   refine h1 fx H0 env σ H h _ er _ λvs H1 s hv=>?_
   cases hv with
   | cons hv t=>
    cases t
    cases zda hv.rp
    exact⟨_,rfl,hj.1,hj.2,q _ H1 s zyy⟩
  ·cases e
 ·cases e
noncomputable def forL(g:GT)(body:SF):List PyData->DEnv->Option Out
 | [],env=>some (.nx env)
 | d::ds,env=>(g d env).bind λe1=>(body e1).bind λo=>match o with
  | .nx e2=>forL g body ds e2
  | .ct e2=>forL g body ds e2
  | .bk e2=>some (.nx e2)
  | .rt d fr=>some (.rt d fr)
noncomputable def sFor(f:IF')(g:GT)(body:SF):SF:=λenv=>(f env).bind λz=>forL g body z.1 (frzs env z.2)
theorem zrk{wi:TI}{g:TG}{tb:TS}{f:IF'}{gf:GT}{body:SF}(h1:SI wi f)(h2:SG g gf)(h3:SS tb body):SS (tFor wi g tb) (sFor f gf body):=by
 intro fx H0 env σ H D h o e q
 unfold sFor at e
 obtain⟨⟨ds,bs⟩,er,e⟩:=qA.mp e
 refine h1 fx H0 env σ H h ds bs er _ λJ H1 s yl=>?_
 have hE:=(h.up s).frzs bs
 have fl:=hE.floor
 refine⟨λi m σ' H'=>m=ds.length - i/\i<=ds.length/\∃env',forL gf body (ds.drop i) env'=some o/\EnvOk fx (Offs (own (frzs env bs) σ) H1) env' σ' H',⟨ds.length,rfl,qAt _,_,e,hE.rebase⟩,?_⟩
 rintro i m σ' H' ⟨rfl,hi,env',e',h'⟩
 obtain⟨yi,ys⟩:=yl _ H' h'.all h'.seen
 by_cases hlt:i<ds.length
 ·obtain⟨yg,yy⟩:=yi i ds[i] (qF hlt)
  refine .inr ⟨yg,λσ'' H''=>i+1<=ds.length/\∃env'',forL gf body (ds.drop (i+1)) env''=some o/\EnvOk fx (Offs (own (frzs env bs) σ) H1) env'' σ'' H'',?_,?_⟩
  ·rintro σ'' H'' ⟨hle,env'',e'',h''⟩
   exact⟨ds.length - (i+1),by omega,rfl,hle,env'',e'',h''⟩
  ·intro x H'' hy
   obtain⟨sy,ry⟩:=yy x H'' hy
   rw[qAY hlt]at e'
   obtain⟨e1,ee1,e'⟩:=qA.mp e'
   obtain⟨o1,eo1,e'⟩:=qA.mp e'
   refine h2 fx _ env' σ' H'' _ x (h'.up sy) ry e1 ee1 _ λσ2 h2'=>h3 fx _ e1 σ2 H'' _ h2' o1 eo1 ?_
   cases o1 with
   | nx e2=>exact λσ3 H3 hh=>⟨hlt,e2,e',hh⟩
   | ct e2=>exact λσ3 H3 hh=>⟨hlt,e2,e',hh⟩
   | bk e2=>cases e';exact λσ3 H3 hh=>q σ3 H3 (hh.unbase fl)
   | rt d fr=>cases e';exact λv H3 sh rt=>q v H3 (fl.trans sh) (rt.unbase fl)
 ·have hi':i=ds.length:=by omega
  subst hi'
  rw[qA0]at e'
  cases e'
  exact .inl ⟨ys,q σ' H' (h'.unbase fl)⟩
noncomputable def zhw(n:Nat)(ds:List PyData):DEnv:=ds.map .pl++List.replicate (n - ds.length) .no
noncomputable def fnD(n:Nat)(f:SF):GF:=λds=>match f (zhw n ds)with
 | some (.rt d fr)=>some (d,fr)
 | some (.nx _)=>some (.none,false)
 | _=>none
theorem zpd{ds:List PyData}{n i:Nat}{sl:Sl}(e:(zhw n ds)[i]?=some sl):(∃d,ds[i]?=some d/\sl=.pl d)\/sl=.no:=by
 unfold zhw at e
 by_cases hi:i<ds.length
 ·rw[qAN (by simpa using hi),qa,qF hi]at e
  cases e
  exact .inl ⟨_,qF hi,rfl⟩
 ·rw[qh (by simpa using hi),qBi]at e
  split at e
  ·cases e;exact .inr rfl
  ·cases e
theorem zir{fx:Addr->Prop}{H:Hp}{N:List Str}{ds:List PyData}{vs:List V}(hf:∀b,fx b->∃o,H b=some o)(r:Rps (Offs fx H) ds vs):EnvOk fx H (zhw N.length ds) (zgi N vs) H:=by
 have no:∀(i:Nat)(d:PyData),(zhw N.length ds)[i]?≠some (Sl.ac d):=λi d e=>by
  rcases zpd e with⟨d',_,z⟩|z<;>cases z
 refine⟨?_,λi d e=>?_,λi d e=>absurd e (no i d),λi j d e a h1=>absurd h1 (no i d),Same.refl _,hf⟩
 ·unfold zhw zgi
  rw[qI,qI,qD,qD,qBn,qBn,r.length]
 ·rcases zpd e with⟨d',hd,z⟩|z
  ·cases z
   obtain⟨v,hv,rv⟩:=r.get2 hd
   refine⟨v,?_,Rp.same (Offs.sub λb z=>?_) _ rv⟩
   ·unfold zgi
    have hi:i<vs.length:=(qW.mp hv).1
    rw[qAN (by simpa using hi),qa,hv];rfl
   ·rcases z with z|⟨j,d',z,_⟩
    ·exact z
    ·exact absurd z (no j d')
  ·cases z
theorem fn_d{N:List Str}{n:Nat}{f:SF}{t:TS}(hs:SS t f){vs:List V}{H:Hp}{Q:VK}{E:XK}(h:spD n (fnD N.length f) vs H Q E):t {nx:=λ_ H'=>Q .non H',rt:=Q} (zgi N vs) H:=by
 obtain⟨fx,ds,d,fr,hn,hf,r,g,k⟩:=h
 unfold fnD at g
 split at g
 ·rename_i d' fr' eo
  cases g
  exact hs fx H _ _ H _ (zir hf r) _ eo λv H' s rt=>k v H' s rt
 ·rename_i e' eo
  cases g
  exact hs fx H _ _ H _ (zir hf r) _ eo λσ H' hE=>k .non H' hE.base ⟨zhf,λz=>by cases z⟩
 ·cases g
theorem zgs{n:Nat}{g:GF}{vs:List V}{H:Hp}{Q:VK}{E:XK}(h:spD n g vs H Q E):vs.length=n:=by
 obtain⟨fx,ds,d,fr,hn,hf,r,_⟩:=h
 rw[<- r.length];exact hn
noncomputable def zala:Sl->Sl
 | .ac d=>.pl d
 | s=>s
noncomputable def envB(own:List Str)(fr:List Nat)(env:DEnv):DEnv:=own.map (λ_=>Sl.no)++fr.map (λj=>zala (env.getD j .no))
noncomputable def isAc:Option Sl->Bool
 | some (.ac _)=>true
 | _=>false
noncomputable def capA(fr:List Nat)(env:DEnv):List Nat:=fr.filter λj=>isAc env[j]?
theorem zof{own:List Str}{fr:List Nat}{env:DEnv}{i:Nat}{d:PyData}(e:(envB own fr env)[i]?=some (.pl d)):∃j k,i=own.length+k/\fr[k]?=some j/\(env[j]?=some (.pl d)\/env[j]?=some (.ac d)):=by
 unfold envB at e
 by_cases hi:i<own.length
 ·rw[qAN (by simpa using hi),qa,qF hi]at e
  cases e
 ·rw[qh (by simpa using hi),qD,qa]at e
  cases ej:fr[i - own.length]? with
  | none=>rw[ej]at e;cases e
  | some j=>
   rw[ej]at e
   refine⟨j,i - own.length,by omega,ej,?_⟩
   have e:zala (env.getD j .no)=.pl d:=qo e
   rw[qK]at e
   cases ev:env[j]? with
   | none=>rw[ev]at e;cases e
   | some s=>
    rw[ev]at e
    cases s with
    | no=>cases e
    | pl d'=>cases e;exact .inl rfl
    | ac d'=>cases e;exact .inr rfl
theorem zhx{own:List Str}{fr:List Nat}{env:DEnv}{i:Nat}{d:PyData}:(envB own fr env)[i]?≠some (.ac d):=by
 intro e
 unfold envB at e
 by_cases hi:i<own.length
 ·rw[qAN (by simpa using hi),qa,qF hi]at e
  cases e
 ·rw[qh (by simpa using hi),qD,qa]at e
  cases ej:fr[i - own.length]? with
  | none=>rw[ej]at e;cases e
  | some j=>
   rw[ej]at e
   have e:zala (env.getD j .no)=.ac d:=qo e
   cases ev:env.getD j .no with
   | no=>rw[ev]at e;cases e
   | pl d'=>rw[ev]at e;cases e
   | ac d'=>rw[ev]at e;cases e
theorem zxa{own:List Str}{fr:List Nat}{σ:St}{k j:Nat}{v:V}(hk:fr[k]?=some j)(hv:σ[j]?=some (some v)):(tau own fr σ)[own.length+k]?=some (some v):=by
 unfold tau
 rw[qh (by simp),qD,qCf,qa,hk]
 show some (σ.getD j none)=_
 rw[qK,hv];rfl
theorem zpe{fx:Addr->Prop}{H0:Hp}{env:DEnv}{σ:St}{H H1:Hp}{p:Addr}(h:EnvOk fx H0 env σ H)(s:Same H H1)(hp:H1 p=none)(own:List Str)(fr:List Nat)(bs:List Nat) :
  EnvOk (λb=>lim fx env σ (bs++capA fr env) b\/b=p) H1 (envB own fr env) (tau own fr σ) (upd H1 p (.lst [])):=by
 have h1:=h.up s
 have sp:Same H1 (upd H1 p (.lst [])):=Same.new hp
 have so:Same (Offs (λb=>fx b\/L2.own env σ b) H1) (Offs (λb=>(lim fx env σ (bs++capA fr env) b\/b=p)\/L2.own (envB own fr env) (tau own fr σ) b) (upd H1 p (.lst []))):=Offs.mono sp λb o e n z=>by
  rcases z with(z|z)|⟨i,d,z,_⟩
  ·exact n (zsz b z)
  ·rw[z,hp]at e;cases e
  ·exact absurd z zhx
 refine⟨?_,λi d e=>?_,λi d e=>absurd e zhx,λi j d e a z=>absurd z zhx,sp,λb z=>?_⟩
 ·unfold envB tau;simp
 ·obtain⟨j,k,rfl,hk,hj⟩:=zof e
  rcases hj with hj|hj
  ·obtain⟨v,h2,h3⟩:=h1.pl j d hj
   exact⟨v,zxa hk h2,Rp.same so _ h3⟩
  ·obtain⟨a,h2,h3,h4,h5⟩:=h1.ac j d hj
   refine⟨_,zxa hk h2,h5.rp so λo eo=>?_⟩
   rw[Offs.get]
   ·exact sp _ _ eo
   ·rintro((z|⟨i',d',z1,z2,z3⟩)|⟨i',d',z,_⟩)
    ·rcases z with z|⟨i',d',z1,z2,z3⟩
     ·exact h4 z
     ·have e2:=h1.inj i' j d' d a z2 hj z3 h2
      subst e2
      refine z1 (qy _ (qBF.mpr ⟨qAv hk,?_⟩))
      rw[hj];rfl
    ·rw[hp]at eo;cases eo
    ·exact absurd z zhx
 ·rcases z with z|z
  ·obtain⟨o,e⟩:=h1.lims _ b z;exact⟨o,sp b o e⟩
  ·rw[z];exact⟨_,zaz⟩
theorem EnvOk.weaken{fx:Addr->Prop}{H0:Hp}{env e1:DEnv}{σ:St}{H:Hp}(h:EnvOk fx H0 e1 σ H)(hl:env.length=e1.length)(hp:∀(i:Nat) (d:PyData),env[i]?=some (.pl d)->e1[i]?=some (.pl d))(ha:∀(i:Nat) (d:PyData),env[i]?≠some (.ac d)):EnvOk fx H0 env σ H:=by
 refine⟨hl.trans h.len,λi d e=>?_,λi d e=>absurd e (ha i d),λi j d e a z=>absurd z (ha i d),h.base,h.fxs⟩
 obtain⟨v,h1,h2⟩:=h.pl i d (hp i d e)
 exact⟨v,h1,Rp.same (Offs.sub λb z=>z.imp (λy=>y) λ⟨j,d',z,_⟩=>absurd z (ha j d')) _ h2⟩
theorem EnvOk.updFx{fx:Addr->Prop}{H0:Hp}{env:DEnv}{σ:St}{H:Hp}{p:Addr}{o:HO}(h:EnvOk fx H0 env σ H)(hp:fx p)(h0:H0 p=none):EnvOk fx H0 env σ (upd H p o):=by
 have so:Offs (λb=>fx b\/own env σ b) (upd H p o)=Offs (λb=>fx b\/own env σ b) H:=Offs.upd (.inl hp)
 refine⟨h.len,λi d e=>?_,λi d e=>?_,h.inj,λb u e=>by rw[zax (zbn e h0)];exact h.base b u e,λb z=>?_⟩
 ·rw[so];exact h.pl i d e
 ·obtain⟨a,h1,h2,h3,h4⟩:=h.ac i d e
  rw[so]
  exact⟨a,h1,h2,h3,h4.same (Same.refl _) λu z=>by rw[zax λy=>h3 (by rw[y];exact hp)];exact z⟩
 ·by_cases e:b=p
  ·rw[e];exact⟨_,zaz⟩
  ·obtain⟨u,hu⟩:=h.fxs b z
   exact⟨u,by rw[zax e];exact hu⟩
noncomputable def GX(n:Nat)(g:GT):Prop:=∀d env e1,g d env=some e1->e1.length=env.length/\∀i,n<=i->e1[i]?=env[i]?
noncomputable def GXs(n:Nat)(g:GTs):Prop:=∀ds env e1,g ds env=some e1->e1.length=env.length/\∀i,n<=i->e1[i]?=env[i]?
theorem zii{n i:Nat}(h:i<n):GX n (gN i):=by
 intro d env e1 e
 cases e
 exact⟨qAA,λj hj=>qP (by omega)⟩
theorem zlq{n:Nat}:GXs n zfd:=by
 intro ds env e1 e
 cases ds with
 | nil=>cases e;exact⟨rfl,λ_ _=>rfl⟩
 | cons _ _=>cases e
theorem zdp{n i:Nat}{g:GTs}(h:i<n)(hg:GXs n g):GXs n (zbe i g):=by
 intro ds env e1 e
 cases ds with
 | nil=>cases e
 | cons d ds=>
  obtain⟨h1,h2⟩:=hg ds _ e1 e
  rw[qAA]at h1
  exact⟨h1,λj hj=>(h2 j hj).trans (qP (by omega))⟩
theorem zpf{n m:Nat}{g:GTs}(hg:GXs n g):GX n (gT m g):=by
 intro d env e1 e
 unfold gT at e
 cases d with
 | tuple ds=>
  have e:(if ds.length=m then g ds env else none)=some e1:=e
  split at e
  ·exact hg ds env e1 e
  ·cases e
 | _=>cases e
noncomputable def zem(g:GT)(t:TF)(e:EF)(env:DEnv):List PyData->Option (List PyData)
 | []=>some []
 | d::ds=>(g d env).bind λe1=>(t e1).bind λb=>if b=true then(e e1).bind λr=>(zem g t e env ds).map λrs=>r.d::rs else zem g t e env ds
noncomputable def zen(own:List Str)(fr:List Nat)(fi:IF')(g:GT)(t:TF)(e:EF):EF:=λenv=>(fi env).bind λz=>if z.1.length<100000 then
 (zem g t e (envB own fr env) z.1).map λrs=>⟨.list rs,true,if zdb rs=true then[]else z.2++capA fr env⟩else none
theorem zis{H H':Hp}{ds:List PyData}{vs:List V}(f:zdb ds=true)(h:Rps H ds vs):Rps H' ds vs:=by
 replace h:=zdd.mp h
 induction h with
 | nil=>exact zci
 | cons h _ ih=>
  unfold zdb at f
  rw[qBS,qr]at f
  exact zcs (zou f.1 h) (ih f.2)
theorem zgt{own:List Str}{fr:List Nat}{wi:TI}{g:TG}{tt:TT}{te:TE}{fi:IF'}{gf:GT}{t:TF}{e:EF}(h1:SI wi fi)(h2:SG g gf)(hx:GX own.length gf)(h3:ST tt t)(h4:SE te e) :
  SE (tComp1 wi g tt te own fr) (zen own fr fi gf t e):=by
 intro fx H0 env σ H h rr hr Q q
 unfold zen at hr
 obtain⟨⟨ds,bs⟩,ei,hr⟩:=qA.mp hr
 split at hr
 ·rename_i hlen
  have hlen:ds.length<100000:=hlen
  obtain⟨rs,ers,rfl⟩:=qH.mp hr
  refine h1 fx H0 env σ H h ds bs ei _ λJ H1 s yl=>λp hp=>?_
  have hB:=zpe h s hp own fr bs
  generalize hA:(λb=>lim fx env σ (bs++capA fr env) b)=A
  have hA':∀b,lim fx env σ (bs++capA fr env) b↔A b:=λb=>by rw[<- hA]
  have eA:(λb=>lim fx env σ (bs++capA fr env) b\/b=p)=λb=>A b\/b=p:=by rw[<- hA]
  rw[eA]at hB
  have nA:¬A p:=λz=>by
   obtain⟨o,eo⟩:=(h.up s).lims _ p ((hA' p).mpr z)
   rw[hp]at eo;cases eo
  have seen:∀{σ':St}{H':Hp},EnvOk (λb=>A b\/b=p) H1 (envB own fr env) σ' H'->Same (Offs (λb=>fx b\/L2.own (frzs env bs) σ b) H1) (Offs (λb=>A b\/b=p) H'):=λ{σ' H'} hE=>Offs.mono hE.base λb o eo n z=>by
   rcases z with z|z
   ·rcases(hA' b).mpr z with z|⟨i,d,z1,z2,z3⟩
    ·exact n (.inl z)
    ·exact n (.inr ⟨i,d,zmb (λy=>z1 (qAb _ y)) z2,z3⟩)
   ·rw[z,hp]at eo;cases eo
  refine⟨λi m σ' H'=>m=ds.length - i/\i<=ds.length/\∃vs done rest,H' p=some (.lst vs)/\Rps (Offs (λb=>A b\/b=p) H') done vs/\done.length<=i/\zem gf t e (envB own fr env) (ds.drop i)=some rest/\done++rest=rs/\EnvOk (λb=>A b\/b=p) H1 (envB own fr env) σ' H',
   ⟨ds.length,rfl,qAt _,[],[],rs,zaz,zci,qAt _,ers,rfl,hB⟩,?_⟩
  rintro i m σ' H' ⟨rfl,hi,vs,done,rest,ep,rd,dl,ec,edr,hE⟩
  obtain⟨yi,ys⟩:=yl _ H' hE.fxs (seen hE)
  by_cases hlt:i<ds.length
  ·obtain⟨yg,yy⟩:=yi i ds[i] (qF hlt)
   refine .inr ⟨yg,λσ'' H''=>i+1<=ds.length/\∃vs done rest,H'' p=some (.lst vs)/\Rps (Offs (λb=>A b\/b=p) H'') done vs/\done.length<=i+1/\zem gf t e (envB own fr env) (ds.drop (i+1))=some rest/\done++rest=rs/\EnvOk (λb=>A b\/b=p) H1 (envB own fr env) σ'' H'',?_,?_⟩
   ·rintro σ'' H'' ⟨hle,hh⟩
    exact⟨ds.length - (i+1),by omega,rfl,hle,hh⟩
   ·intro x H'' hy
    obtain⟨sy,ry⟩:=yy x H'' hy
    rw[qAY hlt]at ec
    obtain⟨e1,ee1,ec⟩:=qA.mp ec
    obtain⟨b,eb,ec⟩:=qA.mp ec
    have ry':Rp (Offs (λa=>(A a\/a=p)\/L2.own (envB own fr env) σ' a) H'') ds[i] x:=Rp.same (Offs.sub λb z=>z.elim (λy=>y) λ⟨j,d',z,_⟩=>absurd z zhx) _ ry
    refine h2 _ H1 (envB own fr env) σ' H'' _ x (hE.up sy) ry' e1 ee1 _ λσ2 hE2=>?_
    refine h3 _ H1 e1 σ2 H'' hE2 b eb _ λH3 s3=>?_
    have hE3:=hE2.up s3
    obtain⟨gl,gk⟩:=hx _ _ _ ee1
    have back:∀{H4:Hp},EnvOk (λb=>A b\/b=p) H1 e1 σ2 H4->EnvOk (λb=>A b\/b=p) H1 (envB own fr env) σ2 H4:=λ{H4} hh=>hh.weaken gl.symm (λj d' ej=>by
     by_cases hj:own.length<=j
     ·rw[gk j hj];exact ej
     ·obtain⟨_,k,rfl,_⟩:=zof ej;omega) λj d'=>zhx
    cases b with
    | false=>
     have ec:zem gf t e (envB own fr env) (ds.drop (i+1))=some rest:=ec
     exact iteF ⟨hlt,vs,done,rest,s3 _ _ (sy _ _ ep),Rps.same (Offs.grow (sy.trans s3)) _ rd,qBN dl,ec,edr,back hE3⟩
    | true=>
     have ec:((e e1).bind λr=>(zem gf t e (envB own fr env) (ds.drop (i+1))).map λrs=>r.d::rs)=some rest:=ec
     obtain⟨r,er,ec⟩:=qA.mp ec
     obtain⟨rest',er',rfl⟩:=qH.mp ec
     refine iteT (h4 _ H1 e1 σ2 H3 hE3 r er _ λv H4 s4 hv=>?_)
     have t4:=(sy.trans s3).trans s4
     refine⟨vs,t4 _ _ ep,zov (by rw[<- rd.length];omega),hlt,vs++[v],done++[r.d],rest',zaz,?_,by rw[qI];simp;omega,er',by rw[<- edr];simp,(back (hE3.up s4)).updFx (.inr rfl) hp⟩
     rw[Offs.upd (.inr rfl)]
     exact(Rps.same (Offs.grow t4) _ rd).append (zcs (Rp.same (Offs.sub λb z=>.inl z) _ hv.rp) zci)
  ·have hi':i=ds.length:=by omega
   subst hi'
   rw[qA0]at ec
   cases ec
   rw[qAL]at edr
   subst edr
   refine .inl ⟨ys,q _ H' (s.trans hE.base) ⟨?_,λ_=>⟨p,rfl,s.free hp,?_⟩⟩⟩
   ·show Rp (Offs (lim fx env σ (if zdb done=true then[]else bs++capA fr env)) H') (.list done) (.ref p)
    have nl:∀cs,¬lim fx env σ cs p:=λcs z=>by
     obtain⟨o,eo⟩:=(h.up s).lims _ p z
     rw[hp]at eo;cases eo
    refine zew (by rw[Offs.get (nl _)];exact ep) ?_
    split
    ·rename_i f;exact zis f rd
    ·exact Rps.same (Offs.sub λb z=>.inl ((hA' b).mp z)) _ rd
   ·show zgr (Offs (λb=>lim fx env σ (if zdb done=true then[]else bs++capA fr env) b\/b=p) H') H' p (.list done)
    refine⟨vs,ep,?_⟩
    split
    ·rename_i f;exact zis f rd
    ·exact Rps.same (Offs.sub λb z=>z.imp (hA' b).mp id) _ rd
 ·cases hr
section
variable{X:Cx}{K:qC}
theorem zacw(hK:X.K=K){a:Expr}{ta:TE}(ha:PE X a ta)(he:∀whole,isTrue a X.env whole=(do let v <- whole;standAt a.pos;holding [v] (truthy v))) :
  PT X a (λσ H Q=>ta σ H λx H'=>∃k,TruV K x H' k/\Q k H'):=by subst hK;exact zafx ha he
theorem zlr(hK:X.K=K):CallR X (.type "tuple") (λxs H Q=>∃p ys,xs=[.ref p]/\((SqL K H p ys/\∀l,H l=none->Q (.ref l) (upd H l (.tup ys)))\/(SqT K H p ys/\Q (.ref p) H))):=by subst hK;exact zsu
theorem zkc(hK:X.K=K)(hu:X.A.units+64<cLine):OpR X (compareOp .Eq) (λx y H Q=>rEq x y H Q\/rEqD K false x y H Q):=by subst hK;exact zare.or (zaos hu)
theorem zrl(hK:X.K=K)(hu:X.A.units+64<cLine):OpR X (compareOp .NotEq) (λx y H Q=>rNe x y H Q\/rEqD K true x y H Q):=by subst hK;exact zarf.or (zaot hu)
noncomputable def zbv:TF:=λ_=>some true
theorem zfu:ST tAll zbv:=by
 intro fx H0 env σ H hE b hb Q q
 cases hb
 exact q H (Same.refl _)
noncomputable def eNeg(a:EF):EF:=λenv=>(a env).bind λx=>match x.d with|.int i=>some ⟨.int (-i),false,[]⟩|_=>none
theorem zpg{te:TE}{f:EF}(h1:SE te f):SE (tUn (rU λi=>.int (-i)) te) (eNeg f):=by
 intro fx H0 env σ H h rr hr Q q
 unfold eNeg at hr
 obtain⟨⟨d,fr,bs⟩,ex,hr⟩:=qA.mp hr
 cases d with
 | int i=>
  cases hr
  exact h1 fx H0 env σ H h _ ex _ λv H1 s1 v1=>⟨i,zda v1.rp,q _ H1 s1 ⟨zad,λz=>by cases z⟩⟩
 | _=>cases hr
end
end L2
namespace PySem
open Sem (wp)
end PySem
namespace L2
open PySem PySem.Spec PyProof.Rows
theorem Rps.erase{H:Hp}{ds:List PyData}{vs:List V}(h:Rps H ds vs)(n:Nat):Rps H (ds.eraseIdx n) (vs.eraseIdx n):=by
 induction n generalizing ds vs with
 | zero=>
  cases ds with
  | nil=>unfold Rps at h;subst h;exact zci
  | cons d ds=>unfold Rps at h;obtain⟨v,ws,rfl,h1,h2⟩:=h;exact h2
 | succ n ih=>
  cases ds with
  | nil=>unfold Rps at h;subst h;exact zci
  | cons d ds=>unfold Rps at h;obtain⟨v,ws,rfl,h1,h2⟩:=h;exact zcs h1 (ih h2)
noncomputable def zash(i:Nat)(b:EF):EF:=λenv=>match env[i]? with
 | some (.pl (.dict kvs))=>(b env).bind λy=>(keyD y.d).bind λk=>(zakv kvs k).bind λd=>some ⟨d,false,[]⟩
 | some (.ac (.dict kvs))=>(b env).bind λy=>(keyD y.d).bind λk=>(zakv kvs k).bind λd=>some ⟨d,false,[]⟩
 | _=>none
noncomputable def eIxV(i:Nat)(b:EF):EF:=λenv=>match env[i]? with
 | some (.ac (.list ds))=>(b env).bind λy=>match y.d with
  | .int k=>(atI ds k).map λd=>⟨d,false,[]⟩
  | _=>none
 | _=>eOp ixD (eVar i) b env
theorem zcu{K:qC}{i:Nat}{tb:TE}{fb:EF}(hb:SE tb fb):SE (tOp (rIxU K) (tVar i) tb) (eIxV i fb):=by
 intro fx H0 env σ H h rr hr Q q
 unfold eIxV at hr
 split at hr
 ·rename_i ds ei
  obtain⟨⟨dy,fy,bys⟩,ey,hr⟩:=qA.mp hr
  cases dy with
  | int k=>
   obtain⟨d,ed,rfl⟩:=qH.mp hr
   obtain⟨a,h1,h2,h3,xs,ha,r⟩:=h.ac i _ ei
   refine⟨_,h1,hb fx H0 env σ H h _ ey _ λu H2 s2 v2=>?_⟩
   cases zda v2.rp
   obtain⟨v,hv,rv⟩:=(Rps.same (Offs.grow s2) _ r).atI ed
   exact⟨xs,v,.inl (SqL.of (s2 _ _ ha)),hv,q _ H2 s2 ⟨Rp.same (Offs.sub zsz) _ rv,λz=>by cases z⟩⟩
  | _=>cases hr
 ·exact zbm zib (zac i) hb fx H0 env σ H h rr hr Q q
noncomputable def zacx(wi:TI)(g:TG)(tt:TT)(tm:TM):TM:=λσ H Q=>wi σ H λJ H1=>zagf J g tt tm σ H1 Q
section
variable{X:Cx}
theorem zxb{M:Model}{P:Program}{w:World}{A:Around}{R:Result->Shared->Prop}{s:Shared}{elt:Expr}{g0:Comprehension}{target iter:Expr}{ifs:List Expr}{rest:List Comprehension}{scope:Scope}{cpos:Pos}{it acc:Value}{env:Env}
  (l:codeAny (model P w) A (.compLoop (.ListComp elt (g0::⟨target,iter,ifs,0⟩::rest) scope cpos) 1 it acc env) R s)
  (t:∀(A:Around) (E:Value->Shared->Prop),wpAny (model P w) A (pyIter it) (λu s'=>u=it/\s'=s) E s) :
  codeAny (model P w) A (.compStart (.ListComp elt (g0::⟨target,iter,ifs,0⟩::rest) scope cpos) 1 it acc env) R s:=by
 refine codeAny_of_tree ?_
 show wpAny _ _ ((compStart (.ListComp elt (g0::⟨target,iter,ifs,0⟩::rest) scope cpos) 1 it acc env).onRaise (λx=>do noteFrame x env;standAt theWindowsPlace)) _ _ s
 refine wpAny_notedAt ?_
 unfold compStart
 show wpAny _ _ (ask >>=_) _ _ s
 refine qE (wpAny_askSetting (wpAny_ite ?_))
 split
 ·first
   | exact qE (qM (qM (And.intro rfl l)))
   | exact qM (And.intro rfl l)
 ·refine qE (qCK ?_)
  first
   | exact qE (qBA (qE (thn (t _ _) λu s' z=>by obtain⟨e1,e2⟩:=z;subst e1;subst e2;exact qM (And.intro rfl l))))
   | (show wpAny _ _ (standAt iter.pos >>=_) _ _ s;exact qE (qBA (qE (thn (t _ _) λu s' z=>by obtain⟨e1,e2⟩:=z;subst e1;subst e2;exact qM (And.intro rfl l)))))
theorem zags{elt0:Expr}{g0:Comprehension}{scope:Scope}{cpos:Pos}{target iter:Expr}{ifs:List Expr}{wi:TI}{g:TG}{tt:TT}{te:TE}{p:Addr}
  (hx:X.xe=λ_ _=>False)(hc:X.calm=true)(hi:PI X target iter wi)(hg:PG X target g)(ht:PF X ifs tt)(he:PE X elt0 te)
  (hs:∀x,foldedSetIterable iter X.env x=pure x) :
  PM X (do
   let x <- eval iter X.env
   standAt iter.pos
   let x <- foldedSetIterable iter X.env x
   let _ <- runOwn (.compStart (.ListComp elt0 [g0,⟨target,iter,ifs,0⟩] scope cpos) 1 (<- holding [x] (pyIter x)) (.ref p) X.env) X.env) (zacx wi g tt (zaaj p te)):=by
 intro pins s σ H Q I h
 refine qE (thn (hi pins s σ H _ I h) λv s1 h1=>?_)
 refine qE (qBA ?_)
 rw[hs]
 refine qE (qM (qE (qBK (thn h1 λitv s2 h2=>?_))))
 obtain⟨it,fp,tn,J,H2,e,I2,T,st2,f2,q⟩:=h2
 subst e
 refine qE (thn (wpAny_runOwn (h:=none) (Q:=λ_ s'=>∃σ' H',Inv X pins σ' H' s'/\Q σ' H') ?_) λ_ _ z=>qM z)
 refine zxb (M:=model X.prog X.w) ?_ λA E=>T.self A 0 s2 _ E st2 ⟨rfl,rfl⟩
 refine qBT (zos (X:=X) (pins:=pins) hx hc (elt0:=elt0) (gens:=[g0,⟨target,iter,ifs,0⟩]) (depth:=1) (ip:=iter.pos) (emit:=(do let _ <- call (.builtin "list.append") [.ref p,<- eval elt0 X.env])) rfl T hg ht (zwu he) I2 st2 f2 q) λr s5 hr=>?_
 obtain⟨rfl,z⟩:=hr
 exact z
theorem zarp(elt target iter target2 iter2:Expr)(ifs ifs2:List Expr)(scope:Scope)(cpos:Pos)(it acc:Value)(env:Env) :
  compTurn (.ListComp elt [⟨target,iter,ifs,0⟩,⟨target2,iter2,ifs2,0⟩] scope cpos) 0 it acc env=(do
   standAt iter.pos
   match <- pyNext it with
   | none=>pure (.done .next)
   | some v=>
    letOwnedTupleGo target it v
    assign target env v
    let mut ok:=true
    for c in ifs do
     if ok then ok <- isTrue c env (eval c env)
    if ok then do
     let x <- eval iter2 env
     standAt iter2.pos
     let x <- foldedSetIterable iter2 env x
     let i <- holding [x] (pyIter x)
     let _ <- runOwn (.compStart (.ListComp elt [⟨target,iter,ifs,0⟩,⟨target2,iter2,ifs2,0⟩] scope cpos) 1 i acc env) env
     again (.compLoop (.ListComp elt [⟨target,iter,ifs,0⟩,⟨target2,iter2,ifs2,0⟩] scope cpos) 0 it acc env)
    else again (.compLoop (.ListComp elt [⟨target,iter,ifs,0⟩,⟨target2,iter2,ifs2,0⟩] scope cpos) 0 it acc env)):=rfl
noncomputable def tComp2(wi:TI)(g:TG)(tt:TT)(wi2:TI)(g2:TG)(tt2:TT)(te:TE)(own:List Str)(fr:List Nat):TE:=zagg wi g tt (λp=>zacx wi2 g2 tt2 (zaaj p te)) own fr
theorem zagt{scope:Scope}{N' own:List Str}{fr:List Nat}{elt target iter target2 iter2:Expr}{ifs ifs2:List Expr}{cpos:Pos}{wi wi2:TI}{g g2:TG}{tt tt2:TT}{te:TE}(c:CompOk X scope N' own fr)(hc:X.calm=true)(hi:PI X target iter wi)
  (hb:∀(cl:List (Str×Addr)) (C:Addr) (s:Shared) (H:Hp) (fp:List Addr),PG (cxComp X scope N' own cl C s H fp) target g/\PF (cxComp X scope N' own cl C s H fp) ifs tt/\PI (cxComp X scope N' own cl C s H fp) target2 iter2 wi2/\PG (cxComp X scope N' own cl C s H fp) target2 g2/\PF (cxComp X scope N' own cl C s H fp) ifs2 tt2/\PE (cxComp X scope N' own cl C s H fp) elt te)
  (hs:∀x,foldedSetIterable iter X.env x=pure x:=by intro _;rfl)(hs2:∀env x,foldedSetIterable iter2 env x=pure x:=by intro _ _;rfl) :
  PE X (.ListComp elt [⟨target,iter,ifs,0⟩,⟨target2,iter2,ifs2,0⟩] scope cpos) (tComp2 wi g tt wi2 g2 tt2 te own fr):=
 zyt (emit:=λacc env=>do
   let x <- eval iter2 env
   standAt iter2.pos
   let x <- foldedSetIterable iter2 env x
   let _ <- runOwn (.compStart (.ListComp elt [⟨target,iter,ifs,0⟩,⟨target2,iter2,ifs2,0⟩] scope cpos) 1 (<- holding [x] (pyIter x)) acc env) env) c hc (λit acc env=>by
   rw[zarp]
   refine bind_congr λ_=>bind_congr λr=>?_
   cases r with
   | none=>rfl
   | some v=>
    refine bind_congr λ_=>bind_congr λ_=>bind_congr λok=>?_
    cases ok with
    | false=>rfl
    | true=>simp only[if_true,bind_assoc,pure_bind]) hi
  (λcl C s H fp p=>let⟨h1,h2,h3,h4,h5,h6⟩:=hb cl C s H fp;⟨h1,h2,zags (X:=cxComp X scope N' own cl C s H fp) rfl hc h3 h4 h5 h6 (λx=>hs2 _ x)⟩) hs
end
noncomputable def NoAc(env:DEnv):Prop:=∀(i:Nat)(d:PyData),env[i]?≠some (.ac d)
noncomputable def GZ(lo hi:Nat)(g:GT):Prop:=∀d env e1,g d env=some e1->e1.length=env.length/\(∀i,(i<lo\/hi<=i)->e1[i]?=env[i]?)/\(NoAc env->NoAc e1)
theorem zagu{env:DEnv}{i:Nat}{d:PyData}(h:NoAc env):NoAc (env.set i (.pl d)):=by
 intro j d' e
 by_cases q:i=j
 ·subst q
  by_cases l:i<env.length
  ·rw[qAB l]at e;cases e
  ·rw[qBo (by simp;omega)]at e;cases e
 ·rw[qP q]at e;exact h j d' e
theorem zacy{lo hi i:Nat}(h:lo<=i)(h':i<hi):GZ lo hi (gN i):=by
 intro d env e1 e
 cases e
 exact⟨qAA,λj hj=>qP (by omega),zagu⟩
theorem zph{g:GT}{t:TF}{e:EF}{env:DEnv}:∀{ds rs:List PyData},zem g t e env ds=some rs->rs.length<=ds.length
 | [],rs,h=>by cases h;exact qL _
 | d::ds,rs,h=>by
  unfold zem at h
  obtain⟨e1,_,h⟩:=qA.mp h
  obtain⟨b,_,h⟩:=qA.mp h
  split at h
  ·obtain⟨r,_,h⟩:=qA.mp h
   obtain⟨rs',h',rfl⟩:=qH.mp h
   have:=zph h'
   simp;omega
  ·have:=zph h
   simp;omega
noncomputable def innL(f2:IF')(g2:GT)(t2:TF)(e:EF)(e1:DEnv):Option (List PyData):=(f2 e1).bind λz=>if z.1.length<300 then zem g2 t2 e e1 z.1 else none
noncomputable def zkd(g:GT)(t:TF)(f2:IF')(g2:GT)(t2:TF)(e:EF)(env:DEnv):List PyData->Option (List PyData)
 | []=>some []
 | d::ds=>(g d env).bind λe1=>(t e1).bind λb=>if b=true then(innL f2 g2 t2 e e1).bind λr1=>(zkd g t f2 g2 t2 e env ds).map λrs=>r1++rs else zkd g t f2 g2 t2 e env ds
noncomputable def zvb(own:List Str)(fr:List Nat)(fi:IF')(g:GT)(t:TF)(f2:IF')(g2:GT)(t2:TF)(e:EF):EF:=λenv=>(fi env).bind λz=>if z.1.length<300 then
 (zkd g t f2 g2 t2 e (envB own fr env) z.1).map λrs=>⟨.list rs,true,if zdb rs=true then[]else z.2++capA fr env⟩else none
theorem zagv{wi2:TI}{g2:TG}{tt2:TT}{te:TE}{f2:IF'}{gf2:GT}{t2:TF}{e:EF}{B:Addr->Prop}{H1:Hp}{e1:DEnv}{σ:St}{H:Hp}{p:Addr}{vs:List V}{done rest ds:List PyData}{bs:List Nat}{Q:St->Hp->Prop}{k n:Nat}
  (h5:SI wi2 f2)(h6:SG g2 gf2)(hy:GZ k n gf2)(h7:ST tt2 t2)(h4:SE te e)(na:NoAc e1)(no:∀(i:Nat) (d:PyData),k<=i->i<n->e1[i]?≠some (.pl d))
  (hB:B p)(hp:H1 p=none)(hE:EnvOk B H1 e1 σ H)(ep:H p=some (.lst vs))(rd:Rps (Offs B H) done vs)(ei:f2 e1=some (ds,bs))(dl:done.length+ds.length<100000)(ec:zem gf2 t2 e e1 ds=some rest)
  (q:∀σ' H' vs',H' p=some (.lst vs')->Rps (Offs B H') (done++rest) vs'->EnvOk B H1 e1 σ' H'->Q σ' H'):zacx wi2 g2 tt2 (zaaj p te) σ H Q:=by
 refine h5 B H1 e1 σ H hE ds bs ei _ λJ H4 s4 yl=>?_
 have hE4:=hE.up s4
 have n4:Offs (λb=>b=p) H4 p=none:=Offs.out rfl
 refine⟨λi m σ' H'=>m=ds.length - i/\i<=ds.length/\∃vs done' rest',H' p=some (.lst vs)/\Rps (Offs B H') done' vs/\done'.length<=done.length+i/\zem gf2 t2 e e1 (ds.drop i)=some rest'/\done'++rest'=done++rest/\EnvOk B (Offs (λb=>b=p) H4) e1 σ' H',
  ⟨ds.length,rfl,qAt _,vs,done,rest,s4 _ _ ep,Rps.same (Offs.grow s4) _ rd,qL _,ec,rfl,⟨hE4.len,hE4.pl,λi d z=>absurd z (na i d),hE4.inj,Offs.same _ _,hE4.fxs⟩⟩,?_⟩
 rintro i m σ' H' ⟨rfl,hi,vs,done',rest',ep',rd',dl',ec',edr,hE'⟩
 obtain⟨yi,ys⟩:=yl B H' hE'.fxs λb o z=>by
  obtain⟨z1,z2⟩:=Offs.of z
  have hb:¬B b:=λy=>z1 (.inl y)
  rw[Offs.get hb]
  exact hE'.base b o (by rw[Offs.get λy=>hb (by rw[y];exact hB)];exact z2)
 by_cases hlt:i<ds.length
 ·obtain⟨yg,yy⟩:=yi i ds[i] (qF hlt)
  refine .inr ⟨yg,λσ'' H''=>i+1<=ds.length/\∃vs done' rest',H'' p=some (.lst vs)/\Rps (Offs B H'') done' vs/\done'.length<=done.length+(i+1)/\zem gf2 t2 e e1 (ds.drop (i+1))=some rest'/\done'++rest'=done++rest/\EnvOk B (Offs (λb=>b=p) H4) e1 σ'' H'',?_,?_⟩
  ·rintro σ'' H'' ⟨hle,hh⟩
   exact⟨ds.length - (i+1),by omega,rfl,hle,hh⟩
  ·intro x H'' hyx
   obtain⟨sy,ry⟩:=yy x H'' hyx
   rw[qAY hlt]at ec'
   obtain⟨e2,ee2,ec'⟩:=qA.mp ec'
   obtain⟨b,eb,ec'⟩:=qA.mp ec'
   have ry':Rp (Offs (λa=>B a\/L2.own e1 σ' a) H'') ds[i] x:=Rp.same (Offs.sub λb z=>z.elim (λy=>y) λ⟨j,d',z,_⟩=>absurd z (na _ _)) _ ry
   refine h6 _ _ e1 σ' H'' _ x (hE'.up sy) ry' e2 ee2 _ λσ2 hE2=>?_
   refine h7 _ _ e2 σ2 H'' hE2 b eb _ λH3 s3=>?_
   have hE3:=hE2.up s3
   obtain⟨gl,gk,_⟩:=hy _ _ _ ee2
   have back:∀{H4':Hp},EnvOk B (Offs (λb=>b=p) H4) e2 σ2 H4'->EnvOk B (Offs (λb=>b=p) H4) e1 σ2 H4':=λ{H4'} hh=>hh.weaken gl.symm (λj d' ej=>by
    by_cases hj:j<k\/n<=j
    ·rw[gk j hj];exact ej
    ·exact absurd ej (no j d' (by omega) (by omega))) na
   cases b with
   | false=>
    have ec':zem gf2 t2 e e1 (ds.drop (i+1))=some rest':=ec'
    exact iteF ⟨hlt,vs,done',rest',s3 _ _ (sy _ _ ep'),Rps.same (Offs.grow (sy.trans s3)) _ rd',qBN dl',ec',edr,back hE3⟩
   | true=>
    have ec':((e e2).bind λr=>(zem gf2 t2 e e1 (ds.drop (i+1))).map λrs=>r.d::rs)=some rest':=ec'
    obtain⟨r,er,ec'⟩:=qA.mp ec'
    obtain⟨rest2,er',rfl⟩:=qH.mp ec'
    refine iteT (h4 _ _ e2 σ2 H3 hE3 r er _ λv H5 s5 hv=>?_)
    have t5:=(sy.trans s3).trans s5
    refine⟨vs,t5 _ _ ep',zov (by rw[<- rd'.length];omega),hlt,vs++[v],done'++[r.d],rest2,zaz,?_,by rw[qI];simp;omega,er',by rw[<- edr];simp,(back (hE3.up s5)).updFx hB n4⟩
    rw[Offs.upd hB]
    refine(Rps.same (Offs.grow t5) _ rd').append (zcs (Rp.same (Offs.sub λb z=>.inl z) _ hv.rp) zci)
 ·have hi':i=ds.length:=by omega
  subst hi'
  rw[qA0]at ec'
  cases ec'
  rw[qAL]at edr
  subst edr
  exact .inl ⟨ys,q σ' H' vs ep' rd' ⟨hE'.len,hE'.pl,λi d z=>absurd z (na i d),hE'.inj,λb o z=>hE'.base b o (by rw[Offs.get λy=>by rw[y,hp]at z;cases z];exact s4 b o (hE.base b o z)),hE'.fxs⟩⟩
theorem zagw{own:List Str}{fr:List Nat}{env:DEnv}{i:Nat}(h:i<own.length):(envB own fr env)[i]?=some .no:=by
 unfold envB
 rw[qAN (by simpa using h),qa,qF h];rfl
theorem zagx{own:List Str}{fr:List Nat}{wi wi2:TI}{g g2:TG}{tt tt2:TT}{te:TE}{fi f2:IF'}{gf gf2:GT}{t t2:TF}{e:EF}{k:Nat}(h1:SI wi fi)(h2:SG g gf)(hx:GZ 0 k gf)(hk:k<=own.length)(h3:ST tt t)
  (h5:SI wi2 f2)(h6:SG g2 gf2)(hy:GZ k own.length gf2)(h7:ST tt2 t2)(h4:SE te e) :
  SE (tComp2 wi g tt wi2 g2 tt2 te own fr) (zvb own fr fi gf t f2 gf2 t2 e):=by
 intro fx H0 env σ H h rr hr Q q
 unfold zvb at hr
 obtain⟨⟨ds,bs⟩,ei,hr⟩:=qA.mp hr
 split at hr
 ·rename_i hlen
  have hlen:ds.length<300:=hlen
  obtain⟨rs,ers,rfl⟩:=qH.mp hr
  refine h1 fx H0 env σ H h ds bs ei _ λJ H1 s yl=>λp hp=>?_
  have hB:=zpe h s hp own fr bs
  generalize hA:(λb=>lim fx env σ (bs++capA fr env) b)=A
  have hA':∀b,lim fx env σ (bs++capA fr env) b↔A b:=λb=>by rw[<- hA]
  have eA:(λb=>lim fx env σ (bs++capA fr env) b\/b=p)=λb=>A b\/b=p:=by rw[<- hA]
  rw[eA]at hB
  have seen:∀{σ':St}{H':Hp},EnvOk (λb=>A b\/b=p) H1 (envB own fr env) σ' H'->Same (Offs (λb=>fx b\/L2.own (frzs env bs) σ b) H1) (Offs (λb=>A b\/b=p) H'):=λ{σ' H'} hE=>Offs.mono hE.base λb o eo n z=>by
   rcases z with z|z
   ·rcases(hA' b).mpr z with z|⟨i,d,z1,z2,z3⟩
    ·exact n (.inl z)
    ·exact n (.inr ⟨i,d,zmb (λy=>z1 (qAb _ y)) z2,z3⟩)
   ·rw[z,hp]at eo;cases eo
  refine⟨λi m σ' H'=>m=ds.length - i/\i<=ds.length/\∃vs done rest,H' p=some (.lst vs)/\Rps (Offs (λb=>A b\/b=p) H') done vs/\done.length<=i * 300/\zkd gf t f2 gf2 t2 e (envB own fr env) (ds.drop i)=some rest/\done++rest=rs/\EnvOk (λb=>A b\/b=p) H1 (envB own fr env) σ' H',
   ⟨ds.length,rfl,qAt _,[],[],rs,zaz,zci,qAt _,ers,rfl,hB⟩,?_⟩
  rintro i m σ' H' ⟨rfl,hi,vs,done,rest,ep,rd,dl,ec,edr,hE⟩
  obtain⟨yi,ys⟩:=yl _ H' hE.fxs (seen hE)
  by_cases hlt:i<ds.length
  ·obtain⟨yg,yy⟩:=yi i ds[i] (qF hlt)
   refine .inr ⟨yg,λσ'' H''=>i+1<=ds.length/\∃vs done rest,H'' p=some (.lst vs)/\Rps (Offs (λb=>A b\/b=p) H'') done vs/\done.length<=(i+1) * 300/\zkd gf t f2 gf2 t2 e (envB own fr env) (ds.drop (i+1))=some rest/\done++rest=rs/\EnvOk (λb=>A b\/b=p) H1 (envB own fr env) σ'' H'',?_,?_⟩
   ·rintro σ'' H'' ⟨hle,hh⟩
    exact⟨ds.length - (i+1),by omega,rfl,hle,hh⟩
   ·intro x H'' hyx
    obtain⟨sy,ry⟩:=yy x H'' hyx
    rw[qAY hlt]at ec
    obtain⟨e1,ee1,ec⟩:=qA.mp ec
    obtain⟨b,eb,ec⟩:=qA.mp ec
    have ry':Rp (Offs (λa=>(A a\/a=p)\/L2.own (envB own fr env) σ' a) H'') ds[i] x:=Rp.same (Offs.sub λb z=>z.elim (λy=>y) λ⟨j,d',z,_⟩=>absurd z zhx) _ ry
    refine h2 _ H1 (envB own fr env) σ' H'' _ x (hE.up sy) ry' e1 ee1 _ λσ2 hE2=>?_
    refine h3 _ H1 e1 σ2 H'' hE2 b eb _ λH3 s3=>?_
    have hE3:=hE2.up s3
    obtain⟨gl,gk,gn⟩:=hx _ _ _ ee1
    have na:NoAc e1:=gn λ_ _=>zhx
    have back:∀{σ4:St}{H4:Hp},EnvOk (λb=>A b\/b=p) H1 e1 σ4 H4->EnvOk (λb=>A b\/b=p) H1 (envB own fr env) σ4 H4:=λ{σ4 H4} hh=>hh.weaken gl.symm (λj d' ej=>by
     by_cases hj:own.length<=j
     ·rw[gk j (.inr (by omega))];exact ej
     ·obtain⟨_,k,rfl,_⟩:=zof ej;omega) λj d'=>zhx
    cases b with
    | false=>
     have ec:zkd gf t f2 gf2 t2 e (envB own fr env) (ds.drop (i+1))=some rest:=ec
     exact iteF ⟨hlt,vs,done,rest,s3 _ _ (sy _ _ ep),Rps.same (Offs.grow (sy.trans s3)) _ rd,by omega,ec,edr,back hE3⟩
    | true=>
     have ec:((innL f2 gf2 t2 e e1).bind λr1=>(zkd gf t f2 gf2 t2 e (envB own fr env) (ds.drop (i+1))).map λrs=>r1++rs)=some rest:=ec
     obtain⟨r1,er,ec⟩:=qA.mp ec
     obtain⟨rest',er',rfl⟩:=qH.mp ec
     obtain⟨⟨ds2,bs2⟩,e2,er⟩:=qA.mp er
     split at er
     ·rename_i hl2
      have hl2:ds2.length<300:=hl2
      have l2:=zph er
      refine iteT (zagv (B:=λb=>A b\/b=p) (p:=p) (vs:=vs) (done:=done) h5 h6 hy h7 h4 na (λj d' h8 h9 ej=>?_) (.inr rfl) hp hE3 (s3 _ _ (sy _ _ ep)) (Rps.same (Offs.grow (sy.trans s3)) _ rd) e2 (by omega) er λσ5 H5 vs5 ep5 rd5 hE5=>?_)
      ·rw[gk j (.inr h8),zagw h9]at ej;cases ej
      ·have l2':r1.length<=ds2.length:=l2
       exact⟨hlt,vs5,done++r1,rest',ep5,rd5,by rw[qI];omega,er',by rw[<- edr,qAw],back hE5⟩
     ·cases er
  ·have hi':i=ds.length:=by omega
   subst hi'
   rw[qA0]at ec
   cases ec
   rw[qAL]at edr
   subst edr
   refine .inl ⟨ys,q _ H' (s.trans hE.base) ⟨?_,λ_=>⟨p,rfl,s.free hp,?_⟩⟩⟩
   ·show Rp (Offs (lim fx env σ (if zdb done=true then[]else bs++capA fr env)) H') (.list done) (.ref p)
    have nl:∀cs,¬lim fx env σ cs p:=λcs z=>by
     obtain⟨o,eo⟩:=(h.up s).lims _ p z
     rw[hp]at eo;cases eo
    refine zew (by rw[Offs.get (nl _)];exact ep) ?_
    split
    ·rename_i f;exact zis f rd
    ·exact Rps.same (Offs.sub λb z=>.inl ((hA' b).mp z)) _ rd
   ·show zgr (Offs (λb=>lim fx env σ (if zdb done=true then[]else bs++capA fr env) b\/b=p) H') H' p (.list done)
    refine⟨vs,ep,?_⟩
    split
    ·rename_i f;exact zis f rd
    ·exact Rps.same (Offs.sub λb z=>z.imp (hA' b).mp id) _ rd
 ·cases hr
end L2
namespace PySem
open Sem (wp)
end PySem
namespace L2
open PySem PySem.Spec PyProof.Rows
instance memKey (k:Key) (l:List Key):Decidable (k∈l):=decidable_of_iff (∃x,x∈l/\x=k) ⟨λ⟨x,h,e⟩=>e▸h,λh=>⟨k,h,rfl⟩⟩
end L2
namespace PySem
open Sem (wp)
noncomputable def SqIt(b:Bool)(h:Heap)(it l:Addr)(i:Nat):Prop:=match b with
 | true=>h.IsListIter it l i
 | false=>h.IsTupleIter it l i
noncomputable def zfs(b:Bool)(h:Heap)(l:Addr)(xs:Array Value):Prop:=match b with
 | true=>h.IsList l xs
 | false=>h.IsTuple l xs
theorem SqIt.moved{b:Bool}{h h':Heap}{it l:Addr}{i:Nat}(x:SqIt b h it l i)(e:∀o,h.get? it=some o->h'.get? it=some o):SqIt b h' it l i:=by
 cases b with
 | true=>obtain⟨o,q,r⟩:=x;exact⟨o,e o q,r⟩
 | false=>obtain⟨o,q,r⟩:=x;exact⟨o,e o q,r⟩
theorem zfs.moved{b:Bool}{h h':Heap}{l:Addr}{xs:Array Value}(x:zfs b h l xs)(e:∀o,h.get? l=some o->h'.get? l=some o):zfs b h' l xs:=by
 cases b with
 | true=>obtain⟨o,q,r⟩:=x;exact⟨o,e o q,r⟩
 | false=>obtain⟨o,q,r⟩:=x;exact⟨o,e o q,r⟩
theorem SqIt.at{b:Bool}{h h':Heap}{it l:Addr}{i:Nat}(x:SqIt b h it l i)(e:∀o,h.get? it=some o->h'.get? it=some o):SqIt b h' it l i:=x.moved e
theorem SqIt.extBut{b:Bool}{h h':Heap}{it l c:Addr}{i:Nat}(x:SqIt b h it l i)(s:Heap.ExtBut c h h')(n:it≠c):SqIt b h' it l i:=x.moved λo e=>s _ o n e
theorem zfs.extBut{b:Bool}{h h':Heap}{l c:Addr}{xs:Array Value}(x:zfs b h l xs)(s:Heap.ExtBut c h h')(n:l≠c):zfs b h' l xs:=x.moved λo e=>s _ o n e
theorem SqIt.obj{b:Bool}{h:Heap}{it l:Addr}{i:Nat}(x:SqIt b h it l i):∃o,h.get? it=some o/\∀v,o.data≠.cell v:=by
 cases b with
 | true=>obtain⟨o,q,_,r⟩:=x;exact⟨o,q,λv z=>by rw[r]at z;cases z⟩
 | false=>obtain⟨o,q,_,r⟩:=x;exact⟨o,q,λv z=>by rw[r]at z;cases z⟩
section
variable{prog:Program}{w:World}{A:Around}{E:Value->Shared->Prop}{s:Shared}
theorem ztd{it l:Addr}{i:Nat}{items}{x:Value}{Q:Value->Shared->Prop}(hit:s.heap.IsTupleIter it l i)
  (hl:s.heap.IsTuple l items)(hx:items[i]?=some x)
  (hQ:∀h',h'.IsTupleIter it l (i+1)->Heap.SameBut it s.heap h'->Q x {s with heap:=h'}) :
  wpAny (model prog w) A (qAD (.ref it)) Q E s:=by
 obtain⟨o,ho,hc,hd⟩:=id hit
 obtain⟨ol,hol,_,nl,hdl⟩:=hl
 unfold qAD
 refine qE (qAd (name:=Str.ofString "__next__") hit.typeIs qA9
  (qA3 qA9 hit.typeIs qCY ?_ (qCQ _)))
 show wpAny _ _ (field (.ref it) 0 >>=_) _ _ s
 refine qE (qAS ho hd (x:=.ref l) rfl ?_)
 show wpAny _ _ (if(Value.ref l==Value.none)=true then _ else _) _ _ s
 rw[if_neg (show ¬((Value.ref l==Value.none)=true)from qQ)]
 show wpAny _ _ (field (.ref it) 1 >>=_) _ _ s
 refine qE (qAS ho hd (x:=.int i 0) rfl ?_)
 show wpAny _ _ (seqItems? (.ref l) >>=_) _ _ s
 refine qE (qA4 hol hdl ?_)
 simp only[qAo,hx]
 refine qE (qBE ho hd (by simp) (qM ⟨x,rfl,qM (hQ _ ?_ (qCI ..))⟩))
 exact⟨_,qAZ _ ho (qAs (qAX hd _)),(Obj.cls_mapFields ..).trans hc,by
  rw[qAX hd];simp[rawInt]⟩
theorem zvc{it l:Addr}{i:Nat}{items}{Q:Value->Shared->Prop}(hh:A.handled=none)
  (hit:s.heap.IsTupleIter it l i)(hl:s.heap.IsTuple l items)(hx:items[i]?=none)
  (hE:∀h' e,Heap.ExtBut it s.heap h'->(∃o,h'.get? e=some o/\o.cls=.type "StopIteration")->E (.ref e) {s with heap:=h'}) :
  wpAny (model prog w) A (qAD (.ref it)) Q E s:=by
 obtain⟨o,ho,hc,hd⟩:=id hit
 obtain⟨ol,hol,_,nl,hdl⟩:=hl
 unfold qAD
 refine qE (qAd (name:=Str.ofString "__next__") hit.typeIs qA9
  (qA3 qA9 hit.typeIs qCY ?_ (qCQ _)))
 show wpAny _ _ (field (.ref it) 0 >>=_) _ _ s
 refine qE (qAS ho hd (x:=.ref l) rfl ?_)
 show wpAny _ _ (if(Value.ref l==Value.none)=true then _ else _) _ _ s
 rw[if_neg (show ¬((Value.ref l==Value.none)=true)from qQ)]
 show wpAny _ _ (field (.ref it) 1 >>=_) _ _ s
 refine qE (qAS ho hd (x:=.int i 0) rfl ?_)
 show wpAny _ _ (seqItems? (.ref l) >>=_) _ _ s
 refine qE (qA4 hol hdl ?_)
 simp only[qAo,hx]
 refine qE (qCK (qE (qBE ho hd (by simp) ?_)))
 show wpAny _ _ (newExc (.type "StopIteration") [] >>=_) _ _ _
 refine qE ?_
 simp only[newExc,newTuple]
 refine qE (qAq ?_ (by size_fits))
 refine qE (m:=firstArgMember _ _) (wpAny_of_eq (a:=Value.none) (by first|rfl|(simp only[firstArgMember];rfl)) ?_)
 refine qAq ?_ (by size_fits)
 simp only[raiseNew]
 refine qE (wpAny_handled ?_)
 first|rw[show A.in1.handled=none from hh]|rw[hh]
 refine qE (qM (wpAny_throw ?_))
 exact hE _ _ (((qCI ..).extBut.push _).push _) ⟨_,qe _ rfl,rfl⟩
theorem zte{b:Bool}{it l:Addr}{i:Nat}{xs:Array Value}{x:Value}{Q:Value->Shared->Prop}(hit:SqIt b s.heap it l i)(hl:zfs b s.heap l xs)(hx:xs[i]?=some x)
  (hQ:∀h',SqIt b h' it l (i+1)->Heap.SameBut it s.heap h'->Q x {s with heap:=h'}):wpAny (model prog w) A (qAD (.ref it)) Q E s:=by
 cases b with
 | true=>exact wpAny_nextOf_list_item hit hl hx hQ
 | false=>exact ztd hit hl hx hQ
theorem zyz{b:Bool}{it l:Addr}{i:Nat}{xs:Array Value}{Q:Value->Shared->Prop}(hh:A.handled=none)(hit:SqIt b s.heap it l i)(hl:zfs b s.heap l xs)(hx:xs[i]?=none)
  (hE:∀h' e,Heap.ExtBut it s.heap h'->(∃o,h'.get? e=some o/\o.cls=.type "StopIteration")->E (.ref e) {s with heap:=h'}):wpAny (model prog w) A (qAD (.ref it)) Q E s:=by
 cases b with
 | true=>exact wpAny_nextOf_list_end hh hit hl hx hE
 | false=>exact zvc hh hit hl hx hE
theorem zaao{b1 b2:Bool}{z TI TO i1 i2 l1 l2:Addr}{k1 k2:Nat}{xs ys:Array Value}{x y a b:Value}{Q:Value->Shared->Prop}(D:ZipApart z TI TO i1 i2 l1 l2)
  (hz:IsZip s.heap z TI TO .none)(hTI:IsPair s.heap TI (.ref i1) (.ref i2))(hTO:IsPair s.heap TO a b)
  (h1:SqIt b1 s.heap i1 l1 k1)(h2:SqIt b2 s.heap i2 l2 k2)(hl1:zfs b1 s.heap l1 xs)(hl2:zfs b2 s.heap l2 ys)(hx:xs[k1]?=some x)(hy:ys[k2]?=some y)
  (hQ:∀h',IsZip h' z TI TO (rawInt s.heap.objs.size)->IsPair h' TO x y->SqIt b1 h' i1 l1 (k1+1)->SqIt b2 h' i2 l2 (k2+1)->IsPair h' s.heap.objs.size x y->h'.objs.size=s.heap.objs.size+1->
   (∀c o,c≠z->c≠TO->c≠i1->c≠i2->s.heap.get? c=some o->h'.get? c=some o)->Q (.ref s.heap.objs.size) {s with heap:=h'}) :
  wpAny (model prog w) A (Builtin.«zip.__next__» ⟨[.ref z],[]⟩) (λfin s'=>∃v,fin=.done (.ret v)/\Q v s') E s:=by
 show wpAny _ _ (field (.ref z) 2 >>=_) _ _ _
 refine qE (qAS hz rfl (x:=.bool false) rfl ?_)
 show wpAny _ _ (field (.ref z) 3 >>=_) _ _ _
 refine qE (qAS hz rfl (x:=.ref TI) rfl ?_)
 refine qE (qA4 hTI rfl ?_)
 show wpAny _ _ (Builtin.SmallTypes.ownedTupleIsFree (.ref z) >>=_) _ _ _
 refine qE ?_
 unfold Builtin.SmallTypes.ownedTupleIsFree
 refine qE (qAS hz rfl (x:=.none) rfl (qM ?_))
 simp only[if_true]
 refine qE (qCK ?_)
 refine qE (qAS hz rfl (x:=.ref TO) rfl ?_)
 refine qE (qA6 hz (by simp) λh₁ hz₁ hs₁=>?_)
 replace hz₁:IsZip h₁ z TI TO .ellipsis:=hz₁
 refine qE ?_
 simp only[qCG,List.zipIdx_nil,qCH,List.forIn_nil]
 refine qE (qE (qBp ?_))
 show wpAny _ _ (qAD (.ref i1) >>=_) _ _ _
 refine qE (zte (h1.extBut hs₁.extBut D.i1z) (hl1.extBut hs₁.extBut D.l1z) hx λh₂ h1₂ hs₂=>qM ?_)
 have hTO₂:IsPair h₂ TO a b:=hs₂.extBut _ _ D.TOi1 (hs₁.extBut _ _ D.TOz hTO)
 refine qE (qA4 hTO₂ rfl ?_)
 refine qE (qB8 hTO₂ λh₃ hTO₃ hs₃=>?_)
 replace hTO₃:IsPair h₃ TO x b:=hTO₃
 refine qE (wpAny_letGo (qM ?_))
 refine qE (qE (qBp ?_))
 show wpAny _ _ (qAD (.ref i2) >>=_) _ _ _
 refine qE (zte (((h2.extBut hs₁.extBut D.i2z).extBut hs₂.extBut D.i12.symm).extBut hs₃.extBut D.TOi2.symm)
  (((hl2.extBut hs₁.extBut D.l2z).extBut hs₂.extBut D.l2i1).extBut hs₃.extBut D.l2TO) hy λh₄ h2₄ hs₄=>qM ?_)
 have hTO₄:IsPair h₄ TO x b:=hs₄.extBut _ _ D.TOi2 hTO₃
 refine qE (qA4 hTO₄ rfl ?_)
 refine qE (qB8 hTO₄ λh₅ hTO₅ hs₅=>?_)
 replace hTO₅:IsPair h₅ TO x y:=hTO₅
 refine qE (wpAny_letGo (qM (qM ?_)))
 refine qE (qA4 hTO₅ rfl ?_)
 refine qE (wpAny_newTuple ?_)
 have hsz:h₅.objs.size=s.heap.objs.size:=by rw[hs₅.1,hs₄.1,hs₃.1,hs₂.1,hs₁.1]
 have hz₅:IsZip h₅ z TI TO .ellipsis:=hs₅.extBut _ _ D.TOz.symm (hs₄.extBut _ _ D.i2z.symm (hs₃.extBut _ _ D.TOz.symm (hs₂.extBut _ _ D.i1z.symm hz₁)))
 have hk₅:∀c o,c≠z->c≠TO->c≠i1->c≠i2->s.heap.get? c=some o->h₅.get? c=some o:=λc o c1 c2 c3 c4 e=>
  hs₅.extBut _ _ c2 (hs₄.extBut _ _ c4 (hs₃.extBut _ _ c2 (hs₂.extBut _ _ c3 (hs₁.extBut _ _ c1 e))))
 have h1₅:SqIt b1 h₅ i1 l1 (k1+1):=((h1₂.extBut hs₃.extBut D.TOi1.symm).extBut hs₄.extBut D.i12).extBut hs₅.extBut D.TOi1.symm
 have h2₅:SqIt b2 h₅ i2 l2 (k2+1):=h2₄.extBut hs₅.extBut D.TOi2.symm
 have hzlt:z<h₅.objs.size:=qN hz₅
 have hTOlt:TO<h₅.objs.size:=qN hTO₅
 have hi1lt:i1<h₅.objs.size:=by obtain⟨_,e,_⟩:=h1₅.obj;exact qN e
 have hi2lt:i2<h₅.objs.size:=by obtain⟨_,e,_⟩:=h2₅.obj;exact qN e
 show wpAny _ _ (Builtin.SmallTypes.ownedTupleHandOut (.ref z) (.ref h₅.objs.size) >>=_) _ _ _
 refine qE ?_
 unfold Builtin.SmallTypes.ownedTupleHandOut
 have hz₆:IsZip (h₅.push {cls:=.type "tuple",data:=.seq #[x,y]}) z TI TO .ellipsis:=qG _ hz₅
 refine qE (qA6 hz₆ (by simp) λh₇ hz₇ hs₇=>?_)
 replace hz₇:IsZip h₇ z TI TO (rawInt h₅.objs.size):=hz₇
 refine qA6 hz₇ (by simp) λh₈ hz₈ hs₈=>?_
 replace hz₈:IsZip h₈ z TI TO (rawInt h₅.objs.size):=hz₈
 have up:∀c o,c≠z->h₅.get? c=some o->h₈.get? c=some o:=λc o c1 e=>hs₈.extBut _ _ c1 (hs₇.extBut _ _ c1 (qG _ e))
 have hT₈:IsPair h₈ h₅.objs.size x y:=hs₈.extBut _ _ (qBP hzlt) (hs₇.extBut _ _ (qBP hzlt) (qe _ rfl))
 have hz8:h₈.objs.size=h₅.objs.size+1:=by rw[hs₈.1,hs₇.1,qAl]
 rw[hsz]at hz₈ hT₈ hz8
 refine qM ⟨_,rfl,?_⟩
 show Q (.ref h₅.objs.size) _
 rw[hsz]
 exact hQ h₈ hz₈ (up _ _ D.TOz hTO₅) (h1₅.at λo e=>up _ o D.i1z e) (h2₅.at λo e=>up _ o D.i2z e) hT₈ hz8 λc o c1 c2 c3 c4 e=>up c o c1 (hk₅ c o c1 c2 c3 c4 e)
theorem zacz{b1 b2:Bool}{z TI TO i1 i2 l1 l2:Addr}{k1 k2:Nat}{xs ys:Array Value}{a b:Value}{Q:Fin->Shared->Prop}(hh:A.handled=none)(D:ZipApart z TI TO i1 i2 l1 l2)
  (hz:IsZip s.heap z TI TO .none)(hTI:IsPair s.heap TI (.ref i1) (.ref i2))(hTO:IsPair s.heap TO a b)
  (h1:SqIt b1 s.heap i1 l1 k1)(h2:SqIt b2 s.heap i2 l2 k2)(hl1:zfs b1 s.heap l1 xs)(hl2:zfs b2 s.heap l2 ys)(hend:xs[k1]?=none\/ys[k2]?=none)
  (hE:∀h' e,(∀c o,c≠z->c≠TO->c≠i1->c≠i2->s.heap.get? c=some o->h'.get? c=some o)->(∃o,h'.get? e=some o/\o.cls=.type "StopIteration")->E (.ref e) {s with heap:=h'}) :
  wpAny (model prog w) A (Builtin.«zip.__next__» ⟨[.ref z],[]⟩) Q E s:=by
 show wpAny _ _ (field (.ref z) 2 >>=_) _ _ _
 refine qE (qAS hz rfl (x:=.bool false) rfl ?_)
 show wpAny _ _ (field (.ref z) 3 >>=_) _ _ _
 refine qE (qAS hz rfl (x:=.ref TI) rfl ?_)
 refine qE (qA4 hTI rfl ?_)
 show wpAny _ _ (Builtin.SmallTypes.ownedTupleIsFree (.ref z) >>=_) _ _ _
 refine qE ?_
 unfold Builtin.SmallTypes.ownedTupleIsFree
 refine qE (qAS hz rfl (x:=.none) rfl (qM ?_))
 simp only[if_true]
 refine qE (qCK ?_)
 refine qE (qAS hz rfl (x:=.ref TO) rfl ?_)
 refine qE (qA6 hz (by simp) λh₁ hz₁ hs₁=>?_)
 replace hz₁:IsZip h₁ z TI TO .ellipsis:=hz₁
 refine qE ?_
 simp only[qCG,List.zipIdx_nil,qCH,List.forIn_nil]
 refine qE (qE (qBp ?_))
 show wpAny _ _ (qAD (.ref i1) >>=_) _ _ _
 cases hx:xs[k1]? with
 | none=>
  refine qE (zyz hh (h1.extBut hs₁.extBut D.i1z) (hl1.extBut hs₁.extBut D.l1z) hx λh₂ e hs₂ he=>?_)
  obtain⟨oe,hoe,hce⟩:=he
  have hz₂:IsZip h₂ z TI TO .ellipsis:=hs₂ _ _ D.i1z.symm hz₁
  have hez:e≠z:=λx=>by subst x;rw[hz₂]at hoe;cases hoe;simp at hce
  refine qA6 hz₂ (by simp) λh₃ _ hs₃=>hE h₃ e (λc o c1 _ c3 _ x=>hs₃.extBut _ _ c1 (hs₂ _ _ c3 (hs₁.extBut _ _ c1 x))) ⟨oe,hs₃.extBut _ _ hez hoe,hce⟩
 | some x=>
  have hy:ys[k2]?=none:=by rcases hend with h|h;rw[hx]at h;cases h;exact h
  refine qE (zte (h1.extBut hs₁.extBut D.i1z) (hl1.extBut hs₁.extBut D.l1z) hx λh₂ h1₂ hs₂=>qM ?_)
  have hTO₂:IsPair h₂ TO a b:=hs₂.extBut _ _ D.TOi1 (hs₁.extBut _ _ D.TOz hTO)
  refine qE (qA4 hTO₂ rfl ?_)
  refine qE (qB8 hTO₂ λh₃ hTO₃ hs₃=>?_)
  refine qE (wpAny_letGo (qM ?_))
  refine qE (qE (qBp ?_))
  show wpAny _ _ (qAD (.ref i2) >>=_) _ _ _
  refine qE (zyz hh (((h2.extBut hs₁.extBut D.i2z).extBut hs₂.extBut D.i12.symm).extBut hs₃.extBut D.TOi2.symm)
   (((hl2.extBut hs₁.extBut D.l2z).extBut hs₂.extBut D.l2i1).extBut hs₃.extBut D.l2TO) hy λh₄ e hs₄ he=>?_)
  obtain⟨oe,hoe,hce⟩:=he
  have hz₄:IsZip h₄ z TI TO .ellipsis:=hs₄ _ _ D.i2z.symm (hs₃.extBut _ _ D.TOz.symm (hs₂.extBut _ _ D.i1z.symm hz₁))
  have hez:e≠z:=λx=>by subst x;rw[hz₄]at hoe;cases hoe;simp at hce
  refine qA6 hz₄ (by simp) λh₅ _ hs₅=>hE h₅ e (λc o c1 c2 c3 c4 x=>hs₅.extBut _ _ c1 (hs₄ _ _ c4 (hs₃.extBut _ _ c2 (hs₂.extBut _ _ c3 (hs₁.extBut _ _ c1 x))))) ⟨oe,hs₅.extBut _ _ hez hoe,hce⟩
structure ZipAt(b1 b2:Bool)(h:Heap)(z TI TO i1 i2 l1 l2:Addr)(f0:Value)(k:Nat):Prop where
 z:IsZip h z TI TO f0
 ti:IsPair h TI (.ref i1) (.ref i2)
 to:∃a b,IsPair h TO a b
 i1:SqIt b1 h i1 l1 k
 i2:SqIt b2 h i2 l2 k
theorem zada{b1 b2:Bool}{z TI TO i1 i2 l1 l2:Addr}{k:Nat}{xs ys:Array Value}{x y:Value}{Q:Value->Shared->Prop}(D:ZipApart z TI TO i1 i2 l1 l2)
  (hz:ZipAt b1 b2 s.heap z TI TO i1 i2 l1 l2 .none k)(hl1:zfs b1 s.heap l1 xs)(hl2:zfs b2 s.heap l2 ys)(hx:xs[k]?=some x)(hy:ys[k]?=some y)
  (hQ:∀h',ZipAt b1 b2 h' z TI TO i1 i2 l1 l2 (rawInt s.heap.objs.size) (k+1)->IsPair h' s.heap.objs.size x y->
   (∀c o,c≠z->c≠TO->c≠i1->c≠i2->s.heap.get? c=some o->h'.get? c=some o)->Q (.ref s.heap.objs.size) {s with heap:=h'}) :
  wpAny (model prog w) A (Builtin.«zip.__next__» ⟨[.ref z],[]⟩) (λfin s'=>∃v,fin=.done (.ret v)/\Q v s') E s:=by
 obtain⟨p1,p2,⟨a,b,p3⟩,p4,p5⟩:=hz
 exact zaao D p1 p2 p3 p4 p5 hl1 hl2 hx hy λh' q1 q2 q3 q4 q5 _ q7=>hQ h' ⟨q1,q7 _ _ D.TIz D.TITO D.TIi1 D.TIi2 p2,⟨x,y,q2⟩,q3,q4⟩ q5 q7
theorem zagy{b1 b2:Bool}{z TI TO i1 i2 l1 l2:Addr}{k:Nat}{xs ys:Array Value}{Q:Fin->Shared->Prop}(hh:A.handled=none)(D:ZipApart z TI TO i1 i2 l1 l2)
  (hz:ZipAt b1 b2 s.heap z TI TO i1 i2 l1 l2 .none k)(hl1:zfs b1 s.heap l1 xs)(hl2:zfs b2 s.heap l2 ys)(hend:xs[k]?=none\/ys[k]?=none)
  (hE:∀h' e,(∀c o,c≠z->c≠TO->c≠i1->c≠i2->s.heap.get? c=some o->h'.get? c=some o)->(∃o,h'.get? e=some o/\o.cls=.type "StopIteration")->E (.ref e) {s with heap:=h'}) :
  wpAny (model prog w) A (Builtin.«zip.__next__» ⟨[.ref z],[]⟩) Q E s:=by
 obtain⟨p1,p2,⟨a,b,p3⟩,p4,p5⟩:=hz
 exact zacz hh D p1 p2 p3 p4 p5 hl1 hl2 hend hE
end
end PySem
namespace L2
open PySem PySem.Spec PyProof.Rows
noncomputable def SqX(b:Bool)(K:qC)(H:Hp)(a:Addr)(xs:List V):Prop:=match b with
 | true=>SqL K H a xs
 | false=>SqT K H a xs
section
variable{X:Cx}{pins:List (Addr×Obj)}{σ:St}{H:Hp}{s:Shared}
theorem Inv.sq{b:Bool}{a:Addr}{xs:List V}(I:Inv X pins σ H s)(h:SqX b X.K H a xs):∃its:List Value,Vals xs its/\zfs b s.heap a its.toArray/\xs.length<=qb:=by
 cases b with
 | true=>obtain⟨its,r,p,z⟩:=I.list h;exact⟨its,r,p.isList,z⟩
 | false=>obtain⟨its,r,p,z⟩:=I.tuple h;exact⟨its,r,(show s.heap.IsTuple a its.toArray from p),z⟩
theorem Inv.sq_inj{b:Bool}{a:Addr}{xs ys:List V}(I:Inv X pins σ H s)(h:SqX b X.K H a xs)(h':SqX b X.K H a ys):xs=ys:=by
 cases b with
 | true=>exact I.list_inj h h'
 | false=>exact I.tuple_inj h h'
end
noncomputable def Itz(K:qC)(b1:Bool)(a1:Addr)(b2:Bool)(a2:Addr):It:=
 ⟨λi H=>∃xs ys x y,SqX b1 K H a1 xs/\SqX b2 K H a2 ys/\xs[i]?=some x/\ys[i]?=some y,
  λi H v H'=>∃p x y,v=.ref p/\H p=none/\H'=upd H p (.tup [x,y])/\(∀xs,SqX b1 K H a1 xs->xs[i]?=some x)/\∀ys,SqX b2 K H a2 ys->ys[i]?=some y,
  λi H=>∃xs ys,SqX b1 K H a1 xs/\SqX b2 K H a2 ys/\(xs.length<=i\/ys.length<=i)⟩
theorem zagz{P:Program}{w:World}{K:qC}{elts:List Expr}{x1}{tpos:Pos}{b1 b2:Bool}{z TI TO i1 i2 l1 l2:Addr}(D:ZipApart z TI TO i1 i2 l1 l2) :
  Turn P w K (.Tuple elts x1 tpos) (Itz K b1 l1 b2 l2) [z,TI,TO,i1,i2] z (λi h=>ZipAt b1 b2 h z TI TO i1 i2 l1 l2 .none i) where
 mem:=by simp
 obj:=λi h st b hb=>by
  obtain⟨a,c,hto⟩:=st.to
  simp only[qi,qAz,or_false]at hb
  rcases hb with rfl|rfl|rfl|rfl|rfl
  ·exact⟨_,st.z,λv q=>by simp at q⟩
  ·exact⟨_,st.ti,λv q=>by simp at q⟩
  ·exact⟨_,hto,λv q=>by simp at q⟩
  ·exact st.i1.obj
  ·exact st.i2.obj
 keep:=λi h h' st k=>by
  obtain⟨a,c,hto⟩:=st.to
  exact⟨k z (by simp) _ st.z,k TI (by simp) _ st.ti,⟨a,c,k TO (by simp) _ hto⟩,st.i1.moved λo q=>k i1 (by simp) o q,st.i2.moved λo q=>k i2 (by simp) o q⟩
 item:=by
  intro X hP hw hK hc i pins s σ H E I hf st hg
  subst hP hw hK
  obtain⟨xs,ys,x,y,q1,q2,hx,hy⟩:=hg
  obtain⟨its1,rv1,p1,_⟩:=I.sq q1
  obtain⟨its2,rv2,p2,_⟩:=I.sq q2
  obtain⟨u1,hu1,ru1⟩:=rv1.get hx
  obtain⟨u2,hu2,ru2⟩:=rv2.get hy
  have hT:s.TypeIs (.ref z) "zip":=⟨_,st.z,rfl⟩
  unfold pyNext
  refine qE (wpAny_attempt (qAd (name:=Str.ofString "__next__") hT qBy (qA3 qBy hT F.entry_zip_next
   (zada D st p1 p2 (x:=u1) (y:=u2) (by simpa using hu1) (by simpa using hu2) λh1 zt tp kp=>qM ?_) (F.args_zip_next_1 _))))
  refine⟨_,rfl,wpAny_letOwnedTupleGo_zip (s:={s with heap:=h1}) zt.z λh2 z2 sb2=>?_⟩
  have hp:H s.heap.objs.size=none:=I.hok.fresh (qL _)
  have fz:=hf z (by simp)
  have fO:=hf TO (by simp)
  have f1:=hf i1 (by simp)
  have f2:=hf i2 (by simp)
  have lt:∀b∈[z,TI,TO,i1,i2],b≠s.heap.objs.size:=λb hb=>by
   obtain⟨a,c,hto⟩:=st.to
   simp only[qi,qAz,or_false]at hb
   rcases hb with rfl|rfl|rfl|rfl|rfl
   ·exact qz (qN st.z)
   ·exact qz (qN st.ti)
   ·exact qz (qN hto)
   ·obtain⟨o,q,_⟩:=st.i1.obj;exact qz (qN q)
   ·obtain⟨o,q,_⟩:=st.i2.obj;exact qz (qN q)
  have k2:∀b o,b≠z->b≠TO->b≠i1->b≠i2->s.heap.get? b=some o->h2.get? b=some o:=λb o e1 e2 e3 e4 q=>(sb2.2 b e1).trans (kp b o e1 e2 e3 e4 q)
  have t2:IsPair h2 s.heap.objs.size u1 u2:=(sb2.2 _ (qAg (lt z (by simp)))).trans tp
  have nch:∀b,b∉[z,TO,i1,i2]->b≠z/\b≠TO/\b≠i1/\b≠i2:=λb hb=>⟨λq=>hb (by simp[q]),λq=>hb (by simp[q]),λq=>hb (by simp[q]),λq=>hb (by simp[q])⟩
  have k3:∀b o,b∉[z,TO,i1,i2]->s.heap.get? b=some o->h2.get? b=some o:=λb o hb q=>let⟨e1,e2,e3,e4⟩:=nch b hb;k2 b o e1 e2 e3 e4 q
  have nH:∀c v,H c=some v->c∉[z,TO,i1,i2]:=λc v q hc=>by
   have:H c=none:=by
    simp only[qi,qAz,or_false]at hc
    rcases hc with rfl|rfl|rfl|rfl
    ·exact fz.1
    ·exact fO.1
    ·exact f1.1
    ·exact f2.1
   rw[this]at q;cases q
  refine⟨.ref s.heap.objs.size,upd H s.heap.objs.size (.tup [x,y]),?_,rfl,⟨_,x,y,rfl,hp,rfl,λzs q=>by rw[I.sq_inj q q1];exact hx,λzs q=>by rw[I.sq_inj q q2];exact hy⟩,?_,λb hb=>by rw[zax (lt b hb)];exact(hf b hb).1⟩
  ·refine Inv.step (s:=s) (h':=h2) (g':=s.gens) (d':=s.drawn) (t':=s.toks) (ch:=[z,TO,i1,i2]) I (λb hb=>?_) (λb o _ _ hc q _=>k3 b o hc q) (λb o _ _ hc q _=>⟨o.slots,k3 b o hc q⟩)
    (λb o _ q n=>by rw[zax (qz (qN q))];exact n) (λb o hc q=>⟨o,k3 b o hc q⟩)
    (λb xs q=>by rw[zax (zbn q hp)];exact q) (λb o v q=>by rw[zax (zbn q hp)];exact q) (λb ps q=>⟨#[],by rw[zax (zbn q hp),q];simp⟩) (λm hm=>?_) (λb v q=>?_) I.bare
   ·have:=hf b (by
     simp only[qi,qAz,or_false]at hb ⊢
     rcases hb with rfl|rfl|rfl|rfl<;>simp)
    exact⟨this.2.2.2.1,this.2.1,this.2.2.2.2.1,this.2.2.2.2.2⟩
   ·obtain⟨o,es,ep,ho,r⟩:=hm
    exact⟨o,es,ep,k2 _ o (qAg fz.2.1) (qAg fO.2.1) (qAg f1.2.1) (qAg f2.2.1) ho,r⟩
   ·by_cases hb:b=s.heap.objs.size
    ·subst hb
     rw[zaz]at q
     cases q
     exact⟨by show 2<=qb;decide,[u1,u2],.cons ru1 (.cons ru2 .nil),_,t2,rfl,_,rfl⟩
    ·rw[zax hb]at q
     refine(I.hok b v q).stay (λc w' hc r=>?_) (λc r=>by rw[zax (zbn r hp)];exact r) λc ys r=>by rw[zax (zbn r hp)];exact r
     rcases hc with rfl|hc
     ·exact k3 c w' (nH c v q) r
     ·exact k3 c w' (nH c _ hc) r
  ·obtain⟨a,c,hto⟩:=zt.to
   exact⟨z2,(sb2.2 _ D.TIz).trans zt.ti,⟨a,c,(sb2.2 _ D.TOz).trans hto⟩,zt.i1.moved λo q=>(sb2.2 _ D.i1z).trans q,zt.i2.moved λo q=>(sb2.2 _ D.i2z).trans q⟩
 done:=by
  intro X hP hw hK hc i pins s σ H E I hf st hg
  subst hP hw hK
  obtain⟨xs,ys,q1,q2,hle⟩:=hg
  obtain⟨its1,rv1,p1,_⟩:=I.sq q1
  obtain⟨its2,rv2,p2,_⟩:=I.sq q2
  have l1':=rv1.length
  have l2':=rv2.length
  have hT:s.TypeIs (.ref z) "zip":=⟨_,st.z,rfl⟩
  unfold pyNext
  refine qE (wpAny_attempt (qAd (name:=Str.ofString "__next__") hT qBy (qA3 qBy hT F.entry_zip_next
   (zagy (by exact I.ok.hd hc) D st p1 p2 (by rcases hle with q|q;exact .inl (by simp;omega);exact .inr (by simp;omega)) λh' e kp he=>?_) (F.args_zip_next_1 _))))
  obtain⟨o,ho,hcl⟩:=he
  refine qE (wpAny_isInstance (T:="StopIteration") (b:=true) ⟨o,ho,hcl⟩ isSubtype_stop (qM ⟨rfl,?_⟩))
  have fz:=hf z (by simp)
  have fO:=hf TO (by simp)
  have f1:=hf i1 (by simp)
  have f2:=hf i2 (by simp)
  have nch:∀b,b∉[z,TO,i1,i2]->b≠z/\b≠TO/\b≠i1/\b≠i2:=λb hb=>⟨λq=>hb (by simp[q]),λq=>hb (by simp[q]),λq=>hb (by simp[q]),λq=>hb (by simp[q])⟩
  have k3:∀b o,b∉[z,TO,i1,i2]->s.heap.get? b=some o->h'.get? b=some o:=λb o hb q=>let⟨e1,e2,e3,e4⟩:=nch b hb;kp b o e1 e2 e3 e4 q
  have nH:∀c v,H c=some v->c∉[z,TO,i1,i2]:=λc v q hc=>by
   have:H c=none:=by
    simp only[qi,qAz,or_false]at hc
    rcases hc with rfl|rfl|rfl|rfl
    ·exact fz.1
    ·exact fO.1
    ·exact f1.1
    ·exact f2.1
   rw[this]at q;cases q
  refine Inv.step (s:=s) (h':=h') (g':=s.gens) (d':=s.drawn) (t':=s.toks) (ch:=[z,TO,i1,i2]) I (λb hb=>?_) (λb o _ _ hc q _=>k3 b o hc q) (λb o _ _ hc q _=>⟨o.slots,k3 b o hc q⟩)
    (λb o _ q n=>n) (λb o hc q=>⟨o,k3 b o hc q⟩) (λb xs q=>q) (λb o v q=>q) (λb ps q=>⟨#[],by rw[q];simp⟩) (λm hm=>?_) (λb v q=>?_) I.bare
  ·have:=hf b (by
     simp only[qi,qAz,or_false]at hb ⊢
     rcases hb with rfl|rfl|rfl|rfl<;>simp)
   exact⟨this.2.2.2.1,this.2.1,this.2.2.2.2.1,this.2.2.2.2.2⟩
  ·obtain⟨o,es,ep,ho,r⟩:=hm
   exact⟨o,es,ep,kp _ o (qAg fz.2.1) (qAg fO.2.1) (qAg f1.2.1) (qAg f2.2.1) ho,r⟩
  ·refine(I.hok b v q).stay (λc w' hc r=>?_) (λc r=>r) λc ys r=>r
   rcases hc with rfl|hc
   ·exact k3 c w' (nH c v q) r
   ·exact k3 c w' (nH c _ hc) r
 self:=λ_ _ _ _ _ st h=>wpAny_pyIter_zip st.z h
end L2
namespace PySem
open Sem (wp)
noncomputable def itO(b:Bool)(l:Addr):Obj:=match b with
 | true=>{cls:=.type "list_iterator",data:=.fields #[.ref l,.int 0 0]}
 | false=>{cls:=.type "tuple_iterator",data:=.fields #[.ref l,.int 0 0]}
noncomputable def zx1(b1:Bool)(h:Heap)(l1:Addr):Heap:=h.push (itO b1 l1)
noncomputable def zx2(b1 b2:Bool)(h:Heap)(l1 l2:Addr):Heap:=(zx1 b1 h l1).push (itO b2 l2)
noncomputable def zx3(b1 b2:Bool)(h:Heap)(l1 l2:Addr):Heap:=(zx2 b1 b2 h l1 l2).push {cls:=.type "tuple",data:=.seq #[.ref h.objs.size,.ref (zx1 b1 h l1).objs.size]}
noncomputable def zx4(b1 b2:Bool)(h:Heap)(l1 l2:Addr):Heap:=(zx3 b1 b2 h l1 l2).push {cls:=.type "tuple",data:=.seq #[.none,.none]}
noncomputable def zx5(b1 b2:Bool)(h:Heap)(l1 l2:Addr):Heap:=(zx4 b1 b2 h l1 l2).push {cls:=.type "zip",data:=.fields #[.none,.bool false,.bool false,.ref (zx2 b1 b2 h l1 l2).objs.size,.ref (zx3 b1 b2 h l1 l2).objs.size]}
theorem zaap(b1 b2:Bool)(l1 l2:Addr)(xs ys:Array Value) :
  Meets (Builtin.«zip.__new__» ⟨[.type "zip",.ref l1,.ref l2],[]⟩) (λ_ R s=>zfs b1 s.heap l1 xs/\zfs b2 s.heap l2 ys/\R (.ok (.ret (.ref (zx4 b1 b2 s.heap l1 l2).objs.size))) {s with heap:=zx5 b1 b2 s.heap l1 l2}):=
 .of_wp λprog w A R s h=>by
  obtain⟨hp,g,d,tk,os⟩:=s;obtain⟨h1,h2,h⟩:=h
  have hsub:=sub_zip
  cases b1 with
  | true=>
   have e1:Heap.IsList (Shared.heap ⟨hp,g,d,tk,os⟩) l1 xs:=h1
   cases b2 with
   | true=>
    have e2:Heap.IsList (Shared.heap ⟨hp.push {cls:=.type "list_iterator",data:=.fields #[.ref l1,.int 0 0]},g,d,tk,os⟩) l2 ys:=qCb h2 _
    wp_walk using qBB e1,qBB e2
    exact⟨_,rfl,h⟩
   | false=>
    have e2:Heap.IsTuple (Shared.heap ⟨hp.push {cls:=.type "list_iterator",data:=.fields #[.ref l1,.int 0 0]},g,d,tk,os⟩) l2 ys:=qCP h2 _
    wp_walk using qBB e1,qAj e2
    exact⟨_,rfl,h⟩
  | false=>
   have e1:Heap.IsTuple (Shared.heap ⟨hp,g,d,tk,os⟩) l1 xs:=h1
   cases b2 with
   | true=>
    have e2:Heap.IsList (Shared.heap ⟨hp.push {cls:=.type "tuple_iterator",data:=.fields #[.ref l1,.int 0 0]},g,d,tk,os⟩) l2 ys:=qCb h2 _
    wp_walk using qAj e1,qBB e2
    exact⟨_,rfl,h⟩
   | false=>
    have e2:Heap.IsTuple (Shared.heap ⟨hp.push {cls:=.type "tuple_iterator",data:=.fields #[.ref l1,.int 0 0]},g,d,tk,os⟩) l2 ys:=qCP h2 _
    wp_walk using qAj e1,qAj e2
    exact⟨_,rfl,h⟩
theorem ztf{b:Bool}{h:Heap}{a l:Addr}(e:h.get? a=some (itO b l)):SqIt b h a l 0:=by
 cases b with
 | true=>exact⟨_,e,rfl,rfl⟩
 | false=>exact⟨_,e,rfl,rfl⟩
theorem zadb{prog:Program}{w:World}{A:Around}{E:Value->Shared->Prop}{s:Shared}{b1 b2:Bool}{l1 l2:Addr}{xs ys:Array Value}{Q:Value->Shared->Prop}(h1:zfs b1 s.heap l1 xs)(h2:zfs b2 s.heap l2 ys)
  (h:∀h',ZipAt b1 b2 h' (s.heap.objs.size+4) (s.heap.objs.size+2) (s.heap.objs.size+3) s.heap.objs.size (s.heap.objs.size+1) l1 l2 .none 0->(∀c o,s.heap.get? c=some o->h'.get? c=some o)->Q (.ref (s.heap.objs.size+4)) {s with heap:=h'}) :
  wpAny (model prog w) A (call (.type "zip") [.ref l1,.ref l2]) Q E s:=by
 refine callType_new F.called_zip (by decide) (F.typeCall_zip_2 _ _) (F.newCall_zip_2 _ _) (λobj=>F.args_object_init_3 obj _ _) F.entry_zip_new (zaap b1 b2 l1 l2 xs ys) ⟨h1,h2,?_⟩
 have z1:(zx1 b1 s.heap l1).objs.size=s.heap.objs.size+1:=qAl ..
 have z2:(zx2 b1 b2 s.heap l1 l2).objs.size=s.heap.objs.size+2:=by unfold zx2;rw[qAl,z1]
 have z3:(zx3 b1 b2 s.heap l1 l2).objs.size=s.heap.objs.size+3:=by unfold zx3;rw[qAl,z2]
 have z4:(zx4 b1 b2 s.heap l1 l2).objs.size=s.heap.objs.size+4:=by unfold zx4;rw[qAl,z3]
 have fr:∀o:Obj,(zx5 b1 b2 s.heap l1 l2).get? (zx4 b1 b2 s.heap l1 l2).objs.size=some {cls:=.type "zip",dict:=none,data:=.fields #[.none,.bool false,.bool false,.ref (zx2 b1 b2 s.heap l1 l2).objs.size,.ref (zx3 b1 b2 s.heap l1 l2).objs.size],slots:=#[]}:=λ_=>qe _ rfl
 have g5:=fr {cls:=.none,data:=.seq #[]}
 have g4:(zx5 b1 b2 s.heap l1 l2).get? (zx3 b1 b2 s.heap l1 l2).objs.size=some {cls:=.type "tuple",data:=.seq #[.none,.none]}:=qG _ (qe _ rfl)
 have g3:(zx5 b1 b2 s.heap l1 l2).get? (zx2 b1 b2 s.heap l1 l2).objs.size=some {cls:=.type "tuple",data:=.seq #[.ref s.heap.objs.size,.ref (zx1 b1 s.heap l1).objs.size]}:=qG _ (qG _ (qe _ rfl))
 have g2:(zx5 b1 b2 s.heap l1 l2).get? (zx1 b1 s.heap l1).objs.size=some (itO b2 l2):=qG _ (qG _ (qG _ (qe _ (by cases b2<;>rfl))))
 have g1:(zx5 b1 b2 s.heap l1 l2).get? s.heap.objs.size=some (itO b1 l1):=qG _ (qG _ (qG _ (qG _ (qe _ (by cases b1<;>rfl)))))
 show _/\_
 rw[z2,z3,z4]at g5
 rw[z1,z2]at g3
 rw[z3]at g4
 rw[z1]at g2
 rw[z4]
 exact⟨⟨_,g5,rfl⟩,h _ ⟨g5,g3,⟨_,_,g4⟩,ztf g1,ztf g2⟩ λc o q=>qG _ (qG _ (qG _ (qG _ (qG _ q))))⟩
end PySem
namespace L2
open PySem PySem.Spec PyProof.Rows
theorem zape:bootBuiltins "zip"=some (.type "zip"):=by decide +kernel
noncomputable def iZip(K:qC)(ta:TA):TI:=λσ H R=>ta σ H λvs H1=>∃b1 b2 a1 a2,vs=[.ref a1,.ref a2]/\(∃xs,SqX b1 K H1 a1 xs)/\(∃ys,SqX b2 K H1 a2 ys)/\R (Itz K b1 a1 b2 a2) H1
theorem zfs.there{b:Bool}{h:Heap}{l:Addr}{xs:Array Value}(x:zfs b h l xs):l<h.objs.size:=by
 cases b with
 | true=>obtain⟨o,q,_⟩:=x;exact qN q
 | false=>obtain⟨o,q,_⟩:=x;exact qN q
theorem zadc{n l1 l2:Nat}(h1:l1<n)(h2:l2<n):ZipApart (n+4) (n+2) (n+3) n (n+1) l1 l2:=by
 constructor<;>first|exact qz (by omega)|exact qBP (by omega)
theorem zapf{X:Cx}{K:qC}(hK:X.K=K){a b:Expr}{ta:TA}{p pos:Pos}{elts:List Expr}{x1}{tpos:Pos}(hg:Gl X "zip")(hm:X.mg "zip"=none)(ha:PA X [a,b] ta)(hs:starEach [a,b] X.env=(false,eval a X.env)::starEach [b] X.env:=by rfl)(hs2:(backTo pos (starEach [b] X.env)).any (·.1)=false:=by rfl) :
  PI X (.Tuple elts x1 tpos) (.Call (.Name "zip" p) [a,b] [] pos) (iZip K ta):=by
 subst hK
 intro pins s σ H R I h
 refine Call_ (zlv I hg hm zape (callWith_type1 (thn (ha pos pins s σ H _ I h) λus s1 ⟨vs,H1,I1,r1,q1⟩=>?_) hs hs2))
 obtain⟨b1,b2,l1,l2,rfl,⟨xs,e1⟩,⟨ys,e2⟩,q⟩:=q1
 obtain⟨u1,u2,rfl,ru1,ru2⟩:=zwr r1
 cases ru1
 cases ru2
 obtain⟨its1,rv1,p1,_⟩:=I1.sq e1
 obtain⟨its2,rv2,p2,_⟩:=I1.sq e2
 have t1:=zfs.there p1
 have t2:=zfs.there p2
 refine zadb p1 p2 λh' zt hk=>wpAny_pyIter_zip zt.z ?_
 have I2:Inv X pins σ H1 {s1 with heap:=h'}:=I1.kept (t':=s1.toks) hk
 have D:=zadc t1 t2
 refine⟨s1.heap.objs.size+4,[s1.heap.objs.size+4,s1.heap.objs.size+2,s1.heap.objs.size+3,s1.heap.objs.size,s1.heap.objs.size+1],_,_,H1,rfl,I2,zagz D,zt,λc hc=>?_,q⟩
 have hge:s1.heap.objs.size<=c:=by
  simp only[qi,qAz,or_false]at hc
  rcases hc with rfl|rfl|rfl|rfl|rfl
  ·exact qBk _ _
  ·exact qBk _ _
  ·exact qBk _ _
  ·exact qL _
  ·exact qBk _ _
 exact I1.fpOk hge (I1.hok.fresh hge)
noncomputable def ztg(f:AF):IF':=λenv=>(f env).bind λrs=>match rs with
 | [r,t]=>(zft r.d).bind λds=>(zft t.d).map λes=>(List.zipWith (λd e=>.tuple [d,e]) ds es,r.bs++t.bs)
 | _=>none
theorem zza{K:qC}{A:Addr->Prop}{H:Hp}{d:PyData}{ds:List PyData}{v:V}(h:Rp (Offs A H) d v)(e:zft d=some ds):∃(b:Bool)(a:Addr)(xs:List V),v=.ref a/\Rps (Offs A H) ds xs/\∀(B:Addr->Prop)(H':Hp),Same (Offs A H) (Offs B H')->SqX b K H' a xs:=by
 cases d with
 | list es=>
  cases e
  obtain⟨a,xs,rfl,ha,r⟩:=zeh h
  exact⟨true,a,xs,rfl,r,λB H' s=>SqL.of (zdl (s _ _ ha))⟩
 | tuple es=>
  cases e
  obtain⟨a,xs,rfl,ha,r⟩:=zdc h
  exact⟨false,a,xs,rfl,r,λB H' s=>SqT.of (zdl (s _ _ ha))⟩
 | _=>cases e
theorem zaha{ds es:List PyData}{i:Nat}{d:PyData}(h:(List.zipWith (λd e=>PyData.tuple [d,e]) ds es)[i]?=some d):∃a b,ds[i]?=some a/\es[i]?=some b/\d=.tuple [a,b]:=by
 rw[List.getElem?_zipWith]at h
 cases e1:ds[i]? with
 | none=>rw[e1]at h;cases h
 | some a=>
  cases e2:es[i]? with
  | none=>rw[e1,e2]at h;cases h
  | some b=>rw[e1,e2]at h;cases h;exact⟨a,b,rfl,rfl,rfl⟩
theorem zzb{K:qC}{ta:TA}{f:AF}(h1:SA ta f):SI (iZip K ta) (ztg f):=by
 intro fx H0 env σ H h ds bs e R q
 unfold ztg at e
 obtain⟨rs,er,e⟩:=qA.mp e
 split at e
 ·rename_i r t
  obtain⟨d1,ed1,e⟩:=qA.mp e
  obtain⟨d2,ed2,e⟩:=qH.mp e
  cases e
  refine h1 fx H0 env σ H h _ er _ λvs H1 s hv=>?_
  cases hv with
  | cons hv1 hv'=>
   cases hv' with
   | cons hv2 hv''=>
    cases hv''
    have sub1:∀b,(fx b\/own (frzs env (r.bs++t.bs)) σ b)->lim fx env σ r.bs b:=λb z=>zlm (λi hi=>qAb _ hi) b (zgh b z)
    have sub2:∀b,(fx b\/own (frzs env (r.bs++t.bs)) σ b)->lim fx env σ t.bs b:=λb z=>zlm (λi hi=>qy _ hi) b (zgh b z)
    obtain⟨b1,a1,xs,rfl,r1,e1⟩:=zza (K:=K) (Rp.same (Offs.sub sub1) _ hv1.rp) ed1
    obtain⟨b2,a2,ys,rfl,r2,e2⟩:=zza (K:=K) (Rp.same (Offs.sub sub2) _ hv2.rp) ed2
    refine⟨b1,b2,a1,a2,rfl,⟨xs,e1 _ H1 (Same.refl _)⟩,⟨ys,e2 _ H1 (Same.refl _)⟩,q _ H1 s ?_⟩
    intro A H' hA ss
    have q1:=e1 A H' ss
    have q2:=e2 A H' ss
    have r1':=Rps.same ss _ r1
    have r2':=Rps.same ss _ r2
    refine⟨λi d e=>?_,⟨xs,ys,q1,q2,?_⟩⟩
    ·obtain⟨c1,c2,ec1,ec2,rfl⟩:=zaha e
     obtain⟨v1,g1,rv1⟩:=r1'.get2 ec1
     obtain⟨v2,g2,rv2⟩:=r2'.get2 ec2
     refine⟨⟨xs,ys,v1,v2,q1,q2,g1,g2⟩,λx H'' y=>?_⟩
     obtain⟨p,x',y',rfl,hp,rfl,y1,y2⟩:=y
     have z1:=y1 xs q1
     rw[g1]at z1
     cases z1
     have z2:=y2 ys q2
     rw[g2]at z2
     cases z2
     exact⟨Same.new hp,zjl hp (zei hA hp) (zcs rv1 (zcs rv2 zci))⟩
    ·rw[List.length_zipWith,r1.length,r2.length]
     rcases Nat.le_total xs.length ys.length with z|z
     ·exact .inl (by rw[qBr z];exact qL _)
     ·exact .inr (by rw[qBj z];exact qL _)
 ·cases e
noncomputable def rInS(K:qC)(neg:Bool):R2:=λx y H Q=>∃d c ds,Rep K H d x/\Rep K H c y/\zft c=some ds/\qx d=true/\qx c=true/\Q (.bl (if neg then !(ds.any λe=>qk e d)else ds.any λe=>qk e d)) H
section
variable{X:Cx}
theorem shp{d:PyData}(h:qx d=true):d.canLay0=true/\d.depth<=64:=by
 unfold qx at h
 rw[qr]at h
 exact⟨h.1,of_decide_eq_true h.2⟩
theorem zasi{K:qC}(hK:X.K=K)(hu:X.A.units+64<cLine):OpR X (compareOp .In) (rInS K false):=by
 subst hK
 intro pins s σ H x y v u Q I rx ry h
 obtain⟨d,c,ds,hd,hc,hi,sd,sc,q⟩:=h
 obtain⟨as,r1⟩:=zfe I d hd rx
 obtain⟨bs,r2⟩:=zfe I c hc ry
 obtain⟨l1,p1⟩:=shp sd
 obtain⟨l2,p2⟩:=shp sc
 have q:EP X pins σ Q (.bool (ds.any λe=>qk e d)) s:=⟨.bl (ds.any λe=>qk e d),H,I,rfl,q⟩
 cases c with
 | list es=>
  cases hi
  have p2:qu ds+1<=64:=p2
  exact SeqAt.in_list_reads r2 r1 l2 l1 (by have:=qBq (qu ds) d.depth;omega) q
 | tuple es=>
  cases hi
  have p2:qu ds+1<=64:=p2
  exact SeqAt.in_tuple_reads r2 r1 l2 l1 (by have:=qBq (qu ds) d.depth;omega) q
 | _=>cases hi
theorem zadd{K:qC}(hK:X.K=K)(hu:X.A.units+64<cLine):OpR X (compareOp .NotIn) (rInS K true):=by
 subst hK
 intro pins s σ H x y v u Q I rx ry h
 obtain⟨d,c,ds,hd,hc,hi,sd,sc,q⟩:=h
 obtain⟨as,r1⟩:=zfe I d hd rx
 obtain⟨bs,r2⟩:=zfe I c hc ry
 obtain⟨l1,p1⟩:=shp sd
 obtain⟨l2,p2⟩:=shp sc
 have q:EP X pins σ Q (.bool (!(ds.any λe=>qk e d))) s:=⟨.bl (!(ds.any λe=>qk e d)),H,I,rfl,q⟩
 cases c with
 | list es=>
  cases hi
  have p2:qu ds+1<=64:=p2
  exact SeqAt.notIn_list_reads r2 r1 l2 l1 (by have:=qBq (qu ds) d.depth;omega) q
 | tuple es=>
  cases hi
  have p2:qu ds+1<=64:=p2
  exact SeqAt.notIn_tuple_reads r2 r1 l2 l1 (by have:=qBq (qu ds) d.depth;omega) q
 | _=>cases hi
end
noncomputable def inS(neg:Bool):OF:=λd c=>match zft c with
 | some ds=>if qx d=true/\qx c=true then some (.bool (if neg then !(ds.any λe=>qk e d)else ds.any λe=>qk e d),false)else none
 | none=>none
theorem zapg{K:qC}{neg:Bool}:SO (rInS K neg) (inS neg):=by
 intro A H x y dx dy hA rx ry d fr e Q q
 unfold inS at e
 split at e
 ·rename_i ds hi
  split at e
  ·rename_i h
   cases e
   refine⟨dx,dy,ds,zox (qAe h.1) (Rp.same (Offs.same A H) _ rx),zox (qAe h.2) (Rp.same (Offs.same A H) _ ry),hi,h.1,h.2,q _ H (Same.refl _) ?_ (λz=>by cases z)⟩
   cases neg<;>exact zbg
  ·cases e
 ·cases e
end L2
namespace PySem
open Sem (wp)
open AutoSeq1 (wpAny_loadPart')
theorem zahb{prog:Program}{w:World}{A:Around}(hh:A.handled=none)(b:Bool)(it l:Addr)(hne:l≠it)(items:Array Value) :
  Draws prog w A it [it,l] items.size (λi v=>items[i]?=some v) (λi h=>SqIt b h it l i/\zfs b h l items) where
 live:=λ_ _ st=>let⟨o,ho,_⟩:=st.1.obj;⟨o,ho⟩
 frame:=λ_ _ _ st hk=>⟨st.1.moved λo e=>hk it (by simp) o e,st.2.moved λo e=>hk l (by simp) o e⟩
 item:=λi s Q E hi st hQ=>by
  refine zte st.1 st.2 (x:=items[i]) (by simp[hi]) λh' hit' hs'=>?_
  exact hQ _ h' s.toks (by simp[hi]) ⟨hit',st.2.moved λo e=>hs'.extBut _ o hne e⟩ hs'
 done:=λs Q E st hE=>zyz hh st.1 st.2 (by simp) hE
theorem zny(l:Addr)(items:Array Value)(n:Nat)(dct:Option Addr)(sl:Array (Option Value)) :
  Meets (Builtin.«enumerate.__new__» ⟨[.type "enumerate",.ref l],[]⟩) (λ_ R s=>s.heap.get? l=some {cls:=.type "tuple",dict:=dct,data:=.seq items n,slots:=sl}/\
   R (.ok (.ret (.ref (s.heap.push (itO false l)).objs.size))) {s with heap:=(s.heap.push (itO false l)).push {cls:=.type "enumerate",data:=.fields #[.none,.bool false,.ref s.heap.objs.size,rawInt 0,.none,.none]}}):=
 .of_wp λprog w A R s h=>by
  obtain⟨hp,g,d,tk,os⟩:=s;obtain⟨hl,h⟩:=h
  have hsub:=sub_enumerate
  have e1:Heap.IsTuple (Shared.heap ⟨hp,g,d,tk,os⟩) l items:=⟨_,hl,rfl,n,rfl⟩
  wp_walk using qBJ hl
  refine wpAny_stack_any λst=>qM ?_
  split
  ·rename_i c _ _ _ _ _
   cases(c==Value.type "enumerate")
   ·wp_walk using qBJ hl,qAj e1
    exact⟨_,rfl,h⟩
   ·wp_walk using qBJ hl,qAj e1
    exact⟨_,rfl,h⟩
  ·wp_walk using qBJ hl,qAj e1
   exact⟨_,rfl,h⟩
theorem zvd{prog:Program}{w:World}{A:Around}{E:Value->Shared->Prop}{s:Shared}{b:Bool}{l:Addr}{items:Array Value}{Q:Value->Shared->Prop}(hL:zfs b s.heap l items)
  (h:∀h',IsEnum h' (s.heap.objs.size+1) s.heap.objs.size 0 .none->SqIt b h' s.heap.objs.size l 0->(∀c o,s.heap.get? c=some o->h'.get? c=some o)->Q (.ref (s.heap.objs.size+1)) {s with heap:=h'}) :
  wpAny (model prog w) A (call (.type "enumerate") [.ref l]) Q E s:=by
 cases b with
 | true=>exact call_enumerate_list hL λh' e i _ k=>h h' e i k
 | false=>
  obtain⟨⟨c,dct,dt,sl⟩,hl,hc,n,hd⟩:=hL
  replace hc:c=.type "tuple":=hc
  replace hd:dt=.seq items n:=hd
  subst hc hd
  refine callType_new F.called_enumerate (by decide) (F.typeCall_enumerate_1 _) (F.newCall_enumerate_1 _) (λobj=>F.args_object_init_2 obj _) F.entry_enumerate_new (zny l items n dct sl) ⟨hl,?_⟩
  have hz:(s.heap.push (itO false l)).objs.size=s.heap.objs.size+1:=qAl ..
  have he:=qe (s.heap.push (itO false l)) (o:={cls:=.type "enumerate",data:=.fields #[.none,.bool false,.ref s.heap.objs.size,rawInt 0,.none,.none]}) rfl
  show _/\_
  rw[hz]at he ⊢
  exact⟨⟨_,he,rfl⟩,h _ he (ztf (b:=false) (qG _ (qe _ rfl))) λc o x=>qG _ (qG _ x)⟩
end PySem
namespace L2
open PySem PySem.Spec PyProof.Rows
noncomputable def Itx(K:qC)(b:Bool)(a:Addr):It:=
 ⟨λi H=>∃xs x,SqX b K H a xs/\xs[i]?=some x,λi H x H'=>∃p y,x=.ref p/\H p=none/\H'=upd H p (.tup [.int i,y])/\∀xs,SqX b K H a xs->xs[i]?=some y,λi H=>∃xs,SqX b K H a xs/\xs.length<=i⟩
theorem zaaq{P:Program}{w:World}{K:qC}{elts:List Expr}{x1}{tpos:Pos}{b:Bool}(a e it:Addr)(hne:e≠it)(hea:e≠a)(hai:a≠it) :
  Turn P w K (.Tuple elts x1 tpos) (Itx K b a) [e,it] e (λi h=>SqIt b h it a i/\∃old,IsEnum h e it (i:Int) old) where
 mem:=by simp
 obj:=λi h st c hc=>by
  obtain⟨h1,old,h4⟩:=st
  rcases qi.mp hc with rfl|hc
  ·exact⟨_,h4,λv z=>by simp at z⟩
  ·have q:c=it:=by simpa using hc
   subst q
   exact h1.obj
 keep:=λi h h' st k=>⟨st.1.moved λo q=>k it (by simp) o q,let⟨old,q⟩:=st.2;⟨old,k e (by simp) _ q⟩⟩
 item:=by
  intro X hP hw hK hc i pins s σ H E I hf st hg
  subst hP hw hK
  obtain⟨xs,x,hq,hx⟩:=hg
  obtain⟨its,rv,p,hz⟩:=I.sq hq
  obtain⟨u,hu,ru⟩:=rv.get hx
  obtain⟨hit,old,he⟩:=st
  have fe:=hf e (by simp)
  have fi:=hf it (by simp)
  have hlt:i<its.toArray.size:=by
   obtain⟨hh,_⟩:=qW.mp hu
   simpa using hh
  refine wpAny_pyNext_enum_itemD (zahb (by exact I.ok.hd hc) b it a hai its.toArray) he ⟨hit,p⟩ hlt hne (by simp[hne,hea]) λu' h1 tk pu e1 i1 t1 z1 k1=>?_
  have hu':u'=u:=by
   have pu:its.toArray[i]?=some u':=pu
   rw[List.getElem?_toArray,hu]at pu
   exact(qo pu).symm
  subst hu'
  refine⟨_,rfl,wpAny_letOwnedTupleGo_enum (s:={s with heap:=h1,toks:=tk+1}) e1 λh2 e2 sb2=>?_⟩
  have hp:H s.heap.objs.size=none:=I.hok.fresh (qL _)
  have hes:e≠s.heap.objs.size:=qz (qN he)
  have k2:∀c o,c≠e->c≠it->s.heap.get? c=some o->h2.get? c=some o:=λc o q1 q2 q=>(sb2.2 c q1).trans (k1 c o q1 q2 q)
  have t2:h2.get? s.heap.objs.size=some {cls:=.type "tuple",data:=.seq #[.int i tk,u']}:=(sb2.2 _ (qAg hes)).trans t1
  have nch:∀c,c∉[e,it]->c≠e/\c≠it:=λc hb=>⟨λz=>hb (by simp[z]),λz=>hb (by simp[z])⟩
  refine⟨.ref s.heap.objs.size,upd H s.heap.objs.size (.tup [.int i,x]),?_,rfl,⟨_,x,rfl,hp,rfl,λys hy=>by rw[I.sq_inj hy hq];exact hx⟩,⟨?_,u',e2⟩,λc hb=>?_⟩
  ·refine Inv.step (s:=s) (h':=h2) (g':=s.gens) (d':=s.drawn) (t':=tk+1) (ch:=[e,it]) I (λc hb=>?_) (λc o _ _ hc q _=>k2 c o (nch c hc).1 (nch c hc).2 q) (λc o _ _ hc q _=>⟨o.slots,k2 c o (nch c hc).1 (nch c hc).2 q⟩)
    (λc o _ q n=>by rw[zax (qz (qN q))];exact n) (λc o hc q=>⟨o,k2 c o (nch c hc).1 (nch c hc).2 q⟩)
    (λc xs q=>by rw[zax (zbn q hp)];exact q) (λc o v q=>by rw[zax (zbn q hp)];exact q) (λc ps q=>⟨#[],by rw[zax (zbn q hp),q];simp⟩) (λm hm=>?_) (λc v q=>?_) I.bare
   ·rcases qi.mp hb with rfl|hb
    ·exact⟨fe.2.2.2.1,fe.2.1,fe.2.2.2.2.1,fe.2.2.2.2.2⟩
    ·have z:c=it:=by simpa using hb
     subst z
     exact⟨fi.2.2.2.1,fi.2.1,fi.2.2.2.2.1,fi.2.2.2.2.2⟩
   ·obtain⟨o,es,ep,ho,r⟩:=hm
    exact⟨o,es,ep,k2 _ o (qAg fe.2.1) (qAg fi.2.1) ho,r⟩
   ·by_cases hb:c=s.heap.objs.size
    ·subst hb
     rw[zaz]at q
     cases q
     exact⟨by show 2<=qb;decide,[.int i tk,u'],.cons ⟨_,rfl⟩ (.cons ru .nil),_,t2,rfl,_,rfl⟩
    ·rw[zax hb]at q
     have nt:∀c w',H c=some w'->c≠e/\c≠it:=λc w' z=>⟨(λy=>by rw[y,fe.1]at z;cases z),(λy=>by rw[y,fi.1]at z;cases z)⟩
     refine(I.hok c v q).stay (λc w' hc r=>?_) (λc r=>by rw[zax (zbn r hp)];exact r) λc ys r=>by rw[zax (zbn r hp)];exact r
     rcases hc with rfl|hc
     ·exact k2 c w' (nt c v q).1 (nt c v q).2 r
     ·exact k2 c w' (nt c _ hc).1 (nt c _ hc).2 r
  ·exact i1.1.moved λo q=>(sb2.2 _ (qAg hne)).trans q
  ·rcases qi.mp hb with rfl|hb
   ·rw[zax hes];exact fe.1
   ·have z:c=it:=by simpa using hb
    subst z
    obtain⟨o,q1,_⟩:=hit.obj
    rw[zax (qz (qN q1))]
    exact fi.1
 done:=by
  intro X hP hw hK hc i pins s σ H E I hf st hg
  subst hP hw hK
  obtain⟨xs,hq,hx⟩:=hg
  obtain⟨its,rv,p,hz⟩:=I.sq hq
  obtain⟨hit,old,he⟩:=st
  obtain⟨f0,f1,f2,f3,f4,f5⟩:=hf it (by simp)
  have hl:=rv.length
  have hT:s.TypeIs (.ref e) "enumerate":=⟨_,he,rfl⟩
  unfold pyNext
  refine qE (wpAny_attempt (qAd (name:=Str.ofString "__next__") hT F.slot_enumerate_next (qA3 F.slot_enumerate_next hT F.entry_enumerate_next ?_ (F.args_enumerate_next_1 _))))
  show wpAny _ _ (field (.ref e) 2 >>=_) _ _ _
  refine qE (qAS he rfl (x:=.ref it) rfl ?_)
  refine qE (zyz (by exact I.ok.hd hc) hit p (by simp;omega) λh' x he' hx'=>?_)
  obtain⟨o,ho,hcl⟩:=hx'
  refine qE (wpAny_isInstance (T:="StopIteration") (b:=true) ⟨o,ho,hcl⟩ isSubtype_stop (qM ⟨rfl,?_⟩))
  exact I.turned (t':=s.toks) (λc o hb q=>he' c o hb q) f0 f1 f3 f4 f5
 self:=λ_ _ _ _ _ st h=>let⟨_,q⟩:=st.2;wpAny_pyIter_enum q h
noncomputable def iEnumX(K:qC)(ta:TA):TI:=λσ H R=>ta σ H λvs H1=>∃b a,vs=[.ref a]/\(∃xs,SqX b K H1 a xs)/\R (Itx K b a) H1
theorem zahc{X:Cx}{K:qC}(hK:X.K=K){a:Expr}{ta:TA}{p pos:Pos}{elts:List Expr}{x1}{tpos:Pos}(hg:Gl X "enumerate")(hm:X.mg "enumerate"=none)(ha:PA X [a] ta)(hs:starEach [a] X.env=[(false,eval a X.env)]:=by rfl) :
  PI X (.Tuple elts x1 tpos) (.Call (.Name "enumerate" p) [a] [] pos) (iEnumX K ta):=by
 subst hK
 intro pins s σ H R I h
 refine Call_ (zlv I hg hm boot_enumerate (qBH (thn (ha pos pins s σ H _ I h) λus s1 ⟨vs,H1,I1,r1,q1⟩=>?_) hs rfl))
 obtain⟨b,l,rfl,⟨xs,hq⟩,q⟩:=q1
 obtain⟨u,rfl,ru⟩:=zaac r1
 cases ru
 obtain⟨its,rv,pl,hz⟩:=I1.sq hq
 have lt:=zfs.there pl
 refine zvd pl λh' he hit hk=>wpAny_pyIter_enum he ?_
 have I2:Inv X pins σ H1 {s1 with heap:=h'}:=I1.kept (t':=s1.toks) hk
 refine⟨s1.heap.objs.size+1,[s1.heap.objs.size+1,s1.heap.objs.size],_,_,H1,rfl,I2,zaaq l _ _ (Nat.succ_ne_self _) (qBP (Nat.lt_succ_of_lt lt)) (qz lt),⟨hit,_,he⟩,λc hb=>?_,q⟩
 rcases qi.mp hb with rfl|hb
 ·exact I1.fpOk (qBO _) (I1.hok.fresh (qBO _))
 ·have e:c=s1.heap.objs.size:=by simpa using hb
  subst e
  exact I1.fpOk (qL _) (I1.hok.fresh (qL _))
noncomputable def zade(f:AF):IF':=λenv=>(f env).bind λrs=>match rs with
 | [r]=>(zft r.d).map λds=>(zlp ds,r.bs)
 | _=>none
theorem zahd{K:qC}{ta:TA}{f:AF}(h1:SA ta f):SI (iEnumX K ta) (zade f):=by
 intro fx H0 env σ H h ds bs e R q
 unfold zade at e
 obtain⟨rs,er,e⟩:=qA.mp e
 split at e
 ·rename_i r
  obtain⟨d1,ed1,e⟩:=qH.mp e
  cases e
  refine h1 fx H0 env σ H h _ er _ λvs H1 s hv=>?_
  cases hv with
  | cons hv t=>
   cases t
   obtain⟨b,a,xs,rfl,r1,e1⟩:=zza (K:=K) (Rp.same (Offs.sub (zgh (bs:=r.bs))) _ hv.rp) ed1
   refine⟨b,a,rfl,⟨xs,e1 _ H1 (Same.refl _)⟩,q _ H1 s ?_⟩
   intro A H' hA ss
   have q1:=e1 A H' ss
   have r1':=Rps.same ss _ r1
   have hl:(zlp d1).length=d1.length:=by unfold zlp;simp
   refine⟨λi d e=>?_,⟨xs,q1,by rw[hl,r1.length];exact qL _⟩⟩
   unfold zlp at e
   rw[qa,qCp]at e
   cases e0:d1[i]? with
   | none=>rw[e0]at e;cases e
   | some d0=>
    rw[e0]at e
    obtain⟨v,hv,rv⟩:=r1'.get2 e0
    have e:PyData.tuple [.int ((0+i:Nat):Int),d0]=d:=qo e
    rw[qCo]at e
    subst e
    refine⟨⟨xs,v,q1,hv⟩,λx H'' y=>?_⟩
    obtain⟨p,y',rfl,hp,rfl,y⟩:=y
    have:=y xs q1
    rw[hv]at this
    cases this
    exact⟨Same.new hp,zjl hp (zei hA hp) (zcs zad (zcs rv zci))⟩
 ·cases e
theorem zadf{K:qC}{ta:TA}{f:AF}(h1:SA ta f):SI (iEnumX K ta) (zacv f):=λfx H0 env σ H h ds bs e R q=>
 zahd h1 fx H0 env σ H h ds bs (by
  unfold zacv at e
  unfold zade
  obtain⟨rs,er,e⟩:=qA.mp e
  rw[er]
  cases rs with
  | nil=>cases e
  | cons r t=>
   cases t with
   | nil=>
    obtain⟨d,fr,b⟩:=r
    cases d<;>first|exact e|cases e
   | cons _ _=>cases e) R q
noncomputable def Its(z:Str):It:=⟨λi _=>i<z.cps.size,λi H v H'=>H'=H/\∃c,z.cps[i]?=some c/\v=.str ⟨#[c]⟩,λi _=>z.cps.size<=i⟩
theorem zahe{P:Program}{w:World}{K:qC}{tg:Expr}(z:Str)(it:Addr){ty:String}{t:Tok}(hty:ty="str_ascii_iterator"\/ty="str_iterator"):Turn P w K tg (Its z) [it] it (λi h=>h.IsStrIter it ty z t i) where
 mem:=by simp
 obj:=λi h st b hb=>by
  have e:b=it:=by simpa using hb
  subst e
  obtain⟨o,e,c,d⟩:=st
  exact⟨o,e,λv z=>by rw[d]at z;cases z⟩
 keep:=λi h h' st k=>let⟨o,e,c,d⟩:=st;⟨o,k it (by simp) o e,c,d⟩
 item:=by
  intro X hP hw hK hc i pins s σ H E I hf st hg
  subst hP hw hK
  obtain⟨f0,f1,f2,f3,f4,f5⟩:=hf it (by simp)
  have W:Walks X.prog X.w X.A it [it] [it] z.cps.size (SignAt z) (λi h=>h.IsStrIter it ty z t i):=by
   rcases hty with rfl|rfl
   ·exact Walks.strAscii (I.ok.hd hc) it z t
   ·exact Walks.strWide (I.ok.hd hc) it z t
  refine W.item i s _ _ hg st λv h' tk hv st' kk=>?_
  obtain⟨c,u,e,rfl⟩:=hv
  have I1:Inv X pins σ H {s with heap:=h',toks:=tk}:=I.turned (λb o hb e=>kk b o (by simpa using hb) e) f0 f1 f3 f4 f5
  obtain⟨o,eo,co,dO⟩:=id st'
  refine⟨_,rfl,zafv (s:={s with heap:=h',toks:=tk}) eo co dO (by rcases hty with rfl|rfl<;>decide) ⟨.str ⟨#[c]⟩,H,I1,⟨u,rfl⟩,⟨rfl,c,e,rfl⟩,st',λb hb=>(hf b hb).1⟩⟩
 done:=by
  intro X hP hw hK hc i pins s σ H E I hf st hg
  subst hP hw hK
  obtain⟨f0,f1,f2,f3,f4,f5⟩:=hf it (by simp)
  have hx:z.cps[i]?=none:=by
   have:z.cps.size<=i:=hg
   simp[this]
  rcases hty with rfl|rfl
  ·exact wpAny_pyNext_ascii_end (I.ok.hd hc) st hx λh' eb=>⟨rfl,I.turned (t':=s.toks) (λb o hb e=>eb b o hb e) f0 f1 f3 f4 f5⟩
  ·exact wpAny_pyNext_wide_end (I.ok.hd hc) st hx λh' eb=>⟨rfl,I.turned (t':=s.toks) (λb o hb e=>eb b o hb e) f0 f1 f3 f4 f5⟩
 self:=λ_ _ _ _ _ st h=>by
  rcases hty with rfl|rfl
  ·exact wpAny_pyIter_striter_ascii st h
  ·exact wpAny_pyIter_striter_wide st h
noncomputable def iStr(te:TE):TI:=λσ H R=>te σ H λx H1=>∃z,x=.str z/\R (Its z) H1
theorem zaph{X:Cx}{tg l:Expr}{tl:TE}(hl:PE X l tl):PI X tg l (iStr tl):=by
 intro pins s σ H R I h
 refine thn (hl pins s σ H _ I h) λv s1 ⟨x,H1,I1,r1,q1⟩=>?_
 obtain⟨z,e,q⟩:=q1
 subst e
 obtain⟨t,rfl⟩:=r1
 have fin:∀(ty:String)(o:Obj),(ty="str_ascii_iterator"\/ty="str_iterator")->(s1.heap.push o).IsStrIter s1.heap.objs.size ty z t 0->PIE X pins σ tg R (.ref s1.heap.objs.size) {s1 with heap:=s1.heap.push o}:=by
  intro ty o hty st
  refine⟨s1.heap.objs.size,[s1.heap.objs.size],_,_,H1,rfl,I1.kept (t':=s1.toks) λb o e=>qG _ e,zahe z _ hty,st,λb hb=>?_,q⟩
  have e:b=s1.heap.objs.size:=by simpa using hb
  subst e
  exact I1.fpOk (qL _) (I1.hok.fresh (qL _))
 cases ha:z.cps.all (·<128)
 ·exact wpAny_pyIter_wide ha (fin "str_iterator" _ (.inr rfl) ⟨_,qe _ rfl,rfl,rfl⟩)
 ·exact wpAny_pyIter_ascii ha (fin "str_ascii_iterator" _ (.inl rfl) ⟨_,qe _ rfl,rfl,rfl⟩)
noncomputable def zve(z:Str):List PyData:=z.cps.toList.map λc=>.str ⟨#[c]⟩
noncomputable def zpi(f:EF):IF':=λenv=>(f env).bind λr=>match r.d with
 | .str z=>some (zve z,[])
 | _=>none
theorem zapi{A0:Addr->Prop}{H1:Hp}{z:Str}:Yl A0 H1 (Its z) (zve z):=by
 intro A H' hA s
 have hl:(zve z).length=z.cps.size:=by unfold zve;simp
 refine⟨λi d e=>?_,by rw[hl];exact qL _⟩
 unfold zve at e
 rw[qa]at e
 by_cases hi:i<z.cps.size
 ·refine⟨hi,λx H'' y=>?_⟩
  obtain⟨rfl,c,ec,rfl⟩:=y
  have:z.cps.toList[i]?=some c:=by simpa using ec
  rw[this]at e
  cases e
  exact⟨Same.refl _,zch⟩
 ·rw[qBo (by simpa using hi)]at e
  cases e
theorem zapj{te:TE}{f:EF}(h1:SE te f):SI (iStr te) (zpi f):=by
 intro fx H0 env σ H h ds bs e R q
 unfold zpi at e
 obtain⟨⟨d,fr,bs'⟩,er,e⟩:=qA.mp e
 split at e
 ·rename_i z hz
  cases e
  refine h1 fx H0 env σ H h _ er _ λv H1 s hv=>?_
  have rp:=hv.rp
  have hz:d=.str z:=hz
  rw[hz]at rp
  exact⟨z,zjz rp,q _ H1 s zapi⟩
 ·cases e
noncomputable def isStar:Expr->Bool
 | .Starred ..=>true
 | _=>false
theorem zam{e:Expr}{es:List Expr}{env:Env}(h:isStar e=false):starEach (e::es) env=(false,eval e env)::starEach es env:=by
 cases e<;>first
  | rfl
  | cases h
theorem zahf{X:Cx}{e:Expr}{es:List Expr}{te:TE}{t:TA}(ha:PE X e te)(hr:PA X es t)(hs:isStar e=false:=by rfl):PA X (e::es) (tCons te t):=zsr ha hr (zam hs)
end L2
namespace PySem.SeqAt
open AutoSeq1 (wpAny_loadPart')
open MeetsSeq PyProof.Rows
section
variable{A:Around}{s:Shared}
end
end PySem.SeqAt
namespace L2
open PySem PySem.Spec PyProof.Rows
section
variable{X:Cx}
end
structure Bx(p:Prop):Prop where
 out:p
theorem Bx.pt{X:Cx}{e:Expr}{t:TT}(h:Bx (PW X e t)):Bx (PT X e t):=⟨h.out.pt⟩
theorem zaj:∀{X:L2.Cx}{i:Int}{j:Nat}{pos:qs},L2.Bx (L2.PE X (qU.Constant (PySem.Const.int i) j pos) (L2.tC (L2.V.int i))):=by
 intro X i j pos
 exact⟨@zanl X i j pos⟩
theorem zaa:∀{X:L2.Cx},L2.Bx (L2.PA X [] L2.tNil):=by
 intro X
 exact⟨@zabt X⟩
theorem zak:∀{X:L2.Cx}{e:qU}{es:List qU}{te:L2.TE}{t:L2.TA},L2.Bx (L2.PE X e te)->L2.Bx (L2.PA X es t)->L2.isStar e=Bool.false->L2.Bx (L2.PA X (e::es) (L2.tCons te t)):=by
 intro X e es te t ha hr hs
 exact⟨@zahf X e es te t ha.out hr.out hs⟩
theorem zbh:∀{X:L2.Cx}{a b:qU}{ta tb:L2.TE}{pos:qs}{op:PySem.Operator}{r:L2.R2},L2.OpR X (PySem.binaryOp op) r->L2.Bx (L2.PE X a ta)->L2.Bx (L2.PE X b tb)->L2.Bx (L2.PE X (a.BinOp op b pos) (L2.tOp r ta tb)):=by
 intro X a b ta tb pos op r ho ha hb
 exact⟨@zarc X a b ta tb pos op r ho ha.out hb.out⟩
theorem zao:∀{X:L2.Cx}{st:PySem.Stmt}{t:L2.TS},L2.Bx (L2.PS X st t)->L2.Bx (L2.PSs X [st] t):=by
 intro X st t h1
 exact⟨@zabi X st t h1.out⟩
theorem zaf:∀{X:L2.Cx}{st:PySem.Stmt}{rest:List PySem.Stmt}{t u:L2.TS},L2.Bx (L2.PS X st t)->L2.Bx (L2.PSs X rest u)->L2.Bx (L2.PSs X (st::rest) (L2.tSeq t u)):=by
 intro X st rest t u h1 h2
 exact⟨@zyq X st rest t u h1.out h2.out⟩
theorem zgl:∀{X:L2.Cx}{x:PySem.Str}{p pos:qs}{e:qU}{es:List qU}{t:L2.TA}{ps:List PySem.Str}{k:Nat}{sp:L2.Sp},L2.Dn X.prog X.w X.K X.mg X.base x ps k sp->L2.Room k X.A->L2.Gl X x->L2.Bx (L2.PA X (e::es) t)->(x==q9 "__debug__")=Bool.false->qAH (e::es) X.env=(Bool.false,PySem.eval e X.env)::qAH es X.env->((PySem.backTo pos (qAH es X.env)).any λ(x:Bool×PySem.Sem PySem.Value)=>x.fst)=Bool.false->L2.Bx (L2.PE X ((qU.Name x p).Call (e::es) [] pos) (L2.tCall sp [] L2.E0 t)):=by
 intro X x p pos e es t ps k sp D hr hg ha hdb he hpl
 exact⟨@zarm X x p pos e es t ps k sp D hr hg ha.out hdb he hpl⟩
theorem zbl:∀{X:L2.Cx}{e:qU}{te:L2.TE}{pos:qs},L2.Bx (L2.PE X e te)->L2.Bx (L2.PS X (PySem.Stmt.Return (Option.some e) pos) (L2.tRet te)):=by
 intro X e te pos he
 exact⟨@zanu X e te pos he.out⟩
theorem zjm:∀{X:L2.Cx}{pos:qs}{i:Nat}{x:PySem.Str}{e:qU}{te:L2.TE}{pos':qs},X.N.Nodup->X.N[i]?=Option.some x->L2.Loc X.env.scope x->L2.Bx (L2.PE X e te)->PySem.swapsWith e (Option.some (qU.Name x pos')) pos.line X.env=Pure.pure Bool.false->X.fn x=Bool.true\/List.lookup x X.env.scope.names=Option.some PySem.NameKind.local->L2.Bx (L2.PS X (PySem.Stmt.Assign [qU.Name x pos'] e pos) (L2.tAsg te (L2.gName i))):=by
 intro X pos i x e te pos' hN hi hx he hs hf
 exact⟨@zanx X pos i x e te pos' hN hi hx he.out hs hf⟩
theorem zck:∀{X:L2.Cx}{x:PySem.Str}{p pos:qs}{e:qU}{es:List qU}{t:L2.TA}{id:String}{r:List L2.V->L2.Hp->L2.VK->Prop},L2.CallR X (PySem.Value.builtin id) r->L2.Gl X x->X.mg x=Option.none->PySem.bootBuiltins x=Option.some (PySem.Value.builtin id)->L2.Bx (L2.PA X (e::es) t)->x≠q9 "__name__"->(x==q9 "__debug__")=Bool.false->qAH (e::es) X.env=(Bool.false,PySem.eval e X.env)::qAH es X.env->((PySem.backTo pos (qAH es X.env)).any λ(x:Bool×PySem.Sem PySem.Value)=>x.fst)=Bool.false->L2.Bx (L2.PE X ((qU.Name x p).Call (e::es) [] pos) (L2.tCB r t)):=by
 intro X x p pos e es t id r hc hg hm hv ha hn hdb he hpl
 exact⟨@zafz X x p pos e es t id r hc hg hm hv ha.out hn hdb he hpl⟩
theorem zno:∀{X:L2.Cx}{b:Bool}{j:Nat}{pos:qs},L2.Bx (L2.PE X (qU.Constant (PySem.Const.bool b) j pos) (L2.tC (L2.V.bl b))):=by
 intro X b j pos
 exact⟨@zaqz X b j pos⟩
theorem zrm:∀{X:L2.Cx}{a b:qU}{ta tb:L2.TE}{pos:qs}{r:L2.R2},L2.IxR X r->L2.Bx (L2.PE X a ta)->L2.Bx (L2.PE X b tb)->L2.PlainIx b->L2.Bx (L2.PE X (a.Subscript b pos) (L2.tOp r ta tb)):=by
 intro X a b ta tb pos r hr ha hb hs
 exact⟨@zari X a b ta tb pos r hr ha.out hb.out hs⟩
theorem zef:∀{X:L2.Cx}{t u:L2.TS}{pos:qs}{c:qU}{a b:List PySem.Stmt}{tc:L2.TT},L2.Bx (L2.PT X c tc)->L2.Bx (L2.PSs X a t)->L2.Bx (L2.PSs X b u)->L2.Bx (L2.PS X (PySem.Stmt.If c a b pos) (L2.tIfS tc t u)):=by
 intro X t u pos c a b tc hc ha hb
 exact⟨@zarb X t u pos c a b tc hc.out ha.out hb.out⟩
theorem zbw:∀{X:L2.Cx},L2.Bx (L2.PSs X [] L2.tNext):=by
 intro X
 exact⟨@zaka X⟩
theorem zth:∀{X:L2.Cx}{a:qU}{pos:qs}{tA:L2.TT},L2.Bx (L2.PT X a tA)->L2.Bx (L2.PT X (qU.UnaryOp PySem.UnaryOp.Not a pos) (L2.tNot tA)):=by
 intro X a pos tA ha
 exact⟨@zanq X a pos tA ha.out⟩
theorem zey:∀{X:L2.Cx}{K:qC},
 X.K=K->
  ∀{a:qU}{ta:L2.TE},
   L2.Bx (L2.PE X a ta)->
    (∀(whole:PySem.Sem PySem.Value),
      PySem.isTrue a X.env whole=do
       let v <- whole
       PySem.standAt a.pos
       PySem.holding [v] (PySem.truthy v))->
     L2.Bx (L2.PT X a λ(σ:L2.St)(H:L2.Hp)(Q:Bool->L2.Hp->Prop)=>ta σ H λ(x:L2.V)(H':L2.Hp)=>∃(k:Bool),L2.TruV K x H' k/\Q k H'):=by
 intro X K hK a ta ha he
 exact⟨@zacw X K hK a ta ha.out he⟩
theorem zfi:∀{X:L2.Cx}{pos:qs}{i:Nat}{x:PySem.Str},X.N.Nodup->X.N[i]?=Option.some x->L2.Loc X.env.scope x->X.fn x=Bool.true\/List.lookup x X.env.scope.names=Option.some PySem.NameKind.local->L2.Bx (L2.PG X (qU.Name x pos) (L2.gName i)):=by
 intro X pos i x hN hi hx hf
 exact⟨@zakb X pos i x hN hi hx hf⟩
theorem zce:∀{X:L2.Cx}{es:List qU}{t:L2.TA}{pos:qs},L2.Bx (L2.PA X es t)->L2.Bx (L2.PE X (qU.List es pos) (L2.tLst t)):=by
 intro X es t pos h
 exact⟨@zaod X es t pos h.out⟩
theorem zdt:∀{X:L2.Cx}{tg iter:qU}{body:List PySem.Stmt}{wi:L2.TI}{g:L2.TG}{tb:L2.TS}{pos:qs},PySem.PassesOwn (PySem.model X.prog X.w) X.A X.env X.xe->X.calm=Bool.true->L2.Bx (L2.PI X tg iter wi)->L2.Bx (L2.PG X tg g)->L2.Bx (L2.PSs X body tb)->(∀(x:PySem.Value),PySem.foldedSetIterable iter X.env x=Pure.pure x)->L2.Bx (L2.PS X (PySem.Stmt.For tg iter body [] pos) (L2.tFor wi g tb)):=by
 intro X tg iter body wi g tb pos hp hc hi hg hb hs
 exact⟨@zany X tg iter body wi g tb pos hp hc hi.out hg.out hb.out hs⟩
theorem zbu:∀{X:L2.Cx}{a b:qU}{ta tb:L2.TE}{pos:qs}{op:PySem.CmpOp}{r:L2.R2},L2.OpR X (PySem.compareOp op) r->L2.Bx (L2.PE X a ta)->L2.Bx (L2.PE X b tb)->PySem.behindInMarks op b=Bool.false->L2.Bx (L2.PT X (a.Compare [op] [b] pos) (L2.tTest (L2.tOp r ta tb))):=by
 intro X a b ta tb pos op r ho ha hb hm
 exact⟨@zakf X a b ta tb pos op r ho ha.out hb.out hm⟩
theorem zij:∀{X:L2.Cx}{x:PySem.Str}{j:Nat}{pos:qs},L2.Bx (L2.PE X (qU.Constant (PySem.Const.str x) j pos) (L2.tC (L2.V.str x))):=by
 intro X x j pos
 exact⟨@zann X x j pos⟩
theorem zdq:∀{X:L2.Cx}{e:qU}{te:L2.TE}{pos:qs},L2.Bx (L2.PE X e te)->PySem.swapsWith e Option.none pos.line X.env=Pure.pure Bool.false->L2.Bx (L2.PS X (PySem.Stmt.Expr e pos) (L2.tDrop te)):=by
 intro X e te pos he hs
 exact⟨@zabj X e te pos he.out hs⟩
theorem zdi:∀{X:L2.Cx}{es:List qU}{t:L2.TA}{pos:qs}{x1:Nat},L2.Bx (L2.PA X es t)->L2.Bx (L2.PE X (qU.Tuple es x1 pos) (L2.tTup t)):=by
 intro X es t pos x1 h
 exact⟨@zaoc X es t pos x1 h.out⟩
theorem zxc:∀{X:L2.Cx}{a:qU}{pos:qs}{op:PySem.BoolOp}{t:L2.TE},L2.Bx (L2.PE X a t)->L2.Bx (L2.PE X (qU.BoolOp op [a] pos) t):=by
 intro X a pos op t h
 exact⟨@zanr X a pos op t h.out⟩
theorem zog:∀{X:L2.Cx}{a b:qU}{ta tb:L2.TE}{pos:qs}{op:PySem.CmpOp}{r:L2.R2},L2.OpR X (PySem.compareOp op) r->L2.Bx (L2.PE X a ta)->L2.Bx (L2.PE X b tb)->PySem.behindInMarks op b=Bool.false->L2.Bx (L2.PE X (a.Compare [op] [b] pos) (L2.tOp r ta tb)):=by
 intro X a b ta tb pos op r ho ha hb hm
 exact⟨@zake X a b ta tb pos op r ho ha.out hb.out hm⟩
theorem zkz:∀{X:L2.Cx}{x:PySem.Str}{p pos:qs}{e:qU}{es:List qU}{t:L2.TA}{T:String}{r:List L2.V->L2.Hp->L2.VK->Prop},L2.CallR X (PySem.Value.type T) r->L2.Gl X x->X.mg x=Option.none->PySem.bootBuiltins x=Option.some (PySem.Value.type T)->L2.Bx (L2.PA X (e::es) t)->x≠q9 "__name__"->(x==q9 "__debug__")=Bool.false->qAH (e::es) X.env=(Bool.false,PySem.eval e X.env)::qAH es X.env->((PySem.backTo pos (qAH es X.env)).any λ(x:Bool×PySem.Sem PySem.Value)=>x.fst)=Bool.false->L2.Bx (L2.PE X ((qU.Name x p).Call (e::es) [] pos) (L2.tCB r t)):=by
 intro X x p pos e es t T r hc hg hm hv ha hn hdb he hpl
 exact⟨@zabv X x p pos e es t T r hc hg hm hv ha.out hn hdb he hpl⟩
theorem zhc:∀{X:L2.Cx}{x:PySem.Str}{v:L2.V}{u:PySem.Value}{pos:qs},L2.Gl X x->X.mg x=Option.none->PySem.bootBuiltins x=Option.some u->L2.RelV v u->x≠q9 "__name__"->(x==q9 "__debug__")=Bool.false->L2.Bx (L2.PE X (qU.Name x pos) (L2.tC v)):=by
 intro X x v u pos hg hm hv r hn hd
 exact⟨@zajy X x v u pos hg hm hv r hn hd⟩
theorem zti:∀{X:L2.Cx}{a:qU}{pos:qs}{tA:L2.TT},L2.Bx (L2.PT X a tA)->L2.Bx (L2.PW X (qU.BoolOp PySem.BoolOp.Or [a] pos) tA):=by
 intro X a pos tA ha
 exact⟨@zano X a pos tA ha.out⟩
theorem zzc:∀{X:L2.Cx}{a b:qU}{pos:qs}{tA tB':L2.TT}{rest:List qU},L2.Bx (L2.PT X a tA)->L2.Bx (L2.PW X (qU.BoolOp PySem.BoolOp.Or (b::rest) pos) tB')->L2.Bx (L2.PW X (qU.BoolOp PySem.BoolOp.Or (a::b::rest) pos) (L2.tOr tA tB')):=by
 intro X a b pos tA tB' rest ha hb
 exact⟨@zara X a b pos tA tB' rest ha.out hb.out⟩
theorem zie:∀{X:L2.Cx}{e:qU}{te:L2.TE},L2.Bx (L2.PE X e te)->L2.Bx (L2.PO X (Option.some e) (L2.tPart te)):=by
 intro X e te h
 exact⟨@zakj X e te h.out⟩
theorem zif:∀{X:L2.Cx},L2.Bx (L2.PO X Option.none L2.tNoPart):=by
 intro X
 exact⟨@zaki X⟩
theorem zgm:∀{X:L2.Cx}{e:qU}{te:L2.TE}{lo hi:Option qU}{tl th:L2.TO}{pos p2:qs}{r:L2.V->Option Int->Option Int->L2.Hp->L2.VK->Prop},L2.SlR X r->L2.Bx (L2.PE X e te)->L2.Bx (L2.PO X lo tl)->L2.Bx (L2.PO X hi th)->L2.Bx (L2.PE X (e.Subscript (qU.Slice lo hi Option.none p2) pos) (L2.tSl r te tl th)):=by
 intro X e te lo hi tl th pos p2 r hr he hl hu
 exact⟨@zagb X e te lo hi tl th pos p2 r hr he.out hl.out hu.out⟩
theorem zcl:∀{X:L2.Cx}{scope:PySem.Scope}{N' own:List PySem.Str}{fr:List Nat}{elt target iter:qU}{ifs:List qU}{cpos:qs}{wi:L2.TI}{g:L2.TG}{tt:L2.TT}{te:L2.TE},L2.CompOk X scope N' own fr->X.calm=Bool.true->L2.Bx (L2.PI X target iter wi)->(∀(cl:List (PySem.Str×PySem.Addr))(C:PySem.Addr)(s:PySem.Shared)(H:L2.Hp)(fp:List PySem.Addr),L2.PG (L2.cxComp X scope N' own cl C s H fp) target g/\L2.PF (L2.cxComp X scope N' own cl C s H fp) ifs tt/\L2.PE (L2.cxComp X scope N' own cl C s H fp) elt te)->(∀(x:PySem.Value),PySem.foldedSetIterable iter X.env x=Pure.pure x)->L2.Bx (L2.PE X (elt.ListComp [{target:=target,iter:=iter,ifs:=ifs,is_async:=0}] scope cpos) (L2.tComp1 wi g tt te own fr)):=by
 intro X scope N' own fr elt target iter ifs cpos wi g tt te c hc hi hb hs
 exact⟨@zagi X scope N' own fr elt target iter ifs cpos wi g tt te c hc hi.out hb hs⟩
theorem zej:∀{X:L2.Cx}{K:qC},X.K=K->∀{T:String}{name:PySem.Str}{id:String}{r:L2.V->List L2.V->L2.Hp->L2.VK->Prop}{o e:qU}{es:List qU}{to:L2.TE}{t:L2.TA}{apos cpos:qs},PySem.PlainAttrs T->PySem.Slot T name id->PySem.typeOf (PySem.Value.builtin id)=Pure.pure (PySem.Value.type "method_descriptor")->L2.MtR X id r->L2.Bx (L2.PE X o to)->L2.Bx (L2.PA X (e::es) t)->PySem.attributeBase o name X.env (PySem.eval o X.env)=PySem.eval o X.env->((((PySem.backTo cpos (qAH (e::es) X.env)).all λ(x:Bool×PySem.Sem PySem.Value)=>!x.fst)&&(PySem.backToKw cpos (PySem.keywordEach [] X.env)).all λ(x:Option PySem.Str×PySem.Sem PySem.Value)=>x.fst.isSome)&&Decidable.decide (((e::es).length+([]:List Keyword).length+if([]:List Keyword).isEmpty=Bool.true then 0 else 1)<30))=Bool.true->(apos.endLine==cpos.line)=Bool.true->qAH (e::es) X.env=(Bool.false,PySem.eval e X.env)::qAH es X.env->((PySem.backTo cpos (qAH es X.env)).any λ(x:Bool×PySem.Sem PySem.Value)=>x.fst)=Bool.false->L2.Bx (L2.PE X ((o.Attribute name apos).Call (e::es) [] cpos) (L2.tBM K T r to t)):=by
 intro X K hK T name id r o e es to t apos cpos pa slot hty hm ho ha hbase hfew hline hs hplain
 exact⟨@zaow X K hK T name id r o e es to t apos cpos pa slot hty hm ho.out ha.out hbase hfew hline hs hplain⟩
theorem zpj:∀{X:L2.Cx}{a b:qU}{ta tb:L2.TE}{pos:qs}{rest:List qU},L2.Bx (L2.PE X a ta)->L2.Bx (L2.PE X (qU.BoolOp PySem.BoolOp.And (b::rest) pos) tb)->L2.Bx (L2.PE X (qU.BoolOp PySem.BoolOp.And (a::b::rest) pos) (L2.tAndV ta tb)):=by
 intro X a b ta tb pos rest ha hb
 exact⟨@zans X a b ta tb pos rest ha.out hb.out⟩
theorem zalb:∀{X:L2.Cx}{tg l:qU}{tl:L2.TE},L2.Bx (L2.PE X l tl)->L2.Bx (L2.PI X tg l (L2.iStr tl)):=by
 intro X tg l tl hl
 exact⟨@zaph X tg l tl hl.out⟩
theorem zcv:∀{X:L2.Cx}{K:qC},X.K=K->∀{tg l:qU}{tl:L2.TE},L2.Bx (L2.PE X l tl)->L2.Bx (L2.PI X tg l (L2.iSeq K tl)):=by
 intro X K hK tg l tl hl
 exact⟨@zaky X K hK tg l tl hl.out⟩
theorem zcp:∀{X:L2.Cx}{tg a:qU}{ta:L2.TA}{p pos:qs},L2.Gl X (q9 "range")->X.mg (q9 "range")=Option.none->L2.Bx (L2.PA X [a] ta)->qAH [a] X.env=[(Bool.false,PySem.eval a X.env)]->L2.Bx (L2.PI X tg ((qU.Name (q9 "range") p).Call [a] [] pos) (L2.iRng1 ta)):=by
 intro X tg a ta p pos hg hm ha hs
 exact⟨@zabl X tg a ta p pos hg hm ha.out hs⟩
theorem zdn:∀{X:L2.Cx},L2.Bx (L2.PF X [] L2.tAll):=by
 intro X
 exact⟨@zaoo X⟩
theorem zxd:∀{X:L2.Cx}{j:Nat}{pos:qs},L2.Bx (L2.PE X (qU.Constant PySem.Const.none j pos) (L2.tC L2.V.non)):=by
 intro X j pos
 exact⟨@zanm X j pos⟩
theorem zalc:∀{X:L2.Cx}{c:qU}{t:L2.TT},L2.Bx (L2.PT X c t)->L2.Bx (L2.PF X [c] t):=by
 intro X c t h
 exact⟨@zaop X c t h.out⟩
theorem zald:∀{X:L2.Cx}{a:qU}{ta:L2.TE}{pos:qs},L2.Bx (L2.PE X a ta)->L2.Bx (L2.PE X (qU.UnaryOp PySem.UnaryOp.Not a pos) (L2.tNotV ta)):=by
 intro X a ta pos ha
 exact⟨@zant X a ta pos ha.out⟩
theorem ztj:∀{X:L2.Cx}{a:qU}{pos:qs}{tA:L2.TT},L2.Bx (L2.PT X a tA)->L2.Bx (L2.PW X (qU.BoolOp PySem.BoolOp.And [a] pos) tA):=by
 intro X a pos tA ha
 exact⟨@zajz X a pos tA ha.out⟩
theorem zxe:∀{X:L2.Cx}{a b:qU}{pos:qs}{tA tB':L2.TT}{rest:List qU},L2.Bx (L2.PT X a tA)->L2.Bx (L2.PW X (qU.BoolOp PySem.BoolOp.And (b::rest) pos) tB')->L2.Bx (L2.PW X (qU.BoolOp PySem.BoolOp.And (a::b::rest) pos) (L2.tAnd tA tB')):=by
 intro X a b pos tA tB' rest ha hb
 exact⟨@zanp X a b pos tA tB' rest ha.out hb.out⟩
theorem zadg:∀{X:L2.Cx}{pos:qs}{c:qU}{body:List PySem.Stmt}{tc:L2.TT}{tb:L2.TS},PySem.PassesOwn (PySem.model X.prog X.w) X.A X.env X.xe->L2.Bx (L2.PT X c tc)->L2.Bx (L2.PSs X body tb)->L2.Bx (L2.PS X (PySem.Stmt.While c body [] pos) (L2.tWhile tc tb)):=by
 intro X pos c body tc tb hp hc hb
 exact⟨@zafu X pos c body tc tb hp hc.out hb.out⟩
theorem zvf:∀{X:L2.Cx}{st:PySem.Stmt},L2.Bx (L2.PS X st L2.tNever):=by
 intro X st
 exact⟨@zafs X st⟩
theorem zvg:∀{X:L2.Cx}{scope:PySem.Scope}{N' own:List PySem.Str}{fr:List Nat}{elt target iter:qU}{ifs:List qU}{cpos:qs}{wi:L2.TI}{g:L2.TG}{tt:L2.TT}{te:L2.TE}{spos py:qs}{i:Nat}{y:PySem.Str},L2.CompOk X scope N' own fr->X.calm=Bool.true->L2.Bx (L2.PI X target iter wi)->(∀(cl:List (PySem.Str×PySem.Addr))(C:PySem.Addr)(s:PySem.Shared)(H:L2.Hp)(fp:List PySem.Addr),L2.PG (L2.cxComp X scope N' own cl C s H fp) target g/\L2.PF (L2.cxComp X scope N' own cl C s H fp) ifs tt/\L2.PE (L2.cxComp X scope N' own cl C s H fp) elt te)->PySem.swapsWith (elt.ListComp [{target:=target,iter:=iter,ifs:=ifs,is_async:=0}] scope cpos) (Option.some (qU.Name y py)) spos.line X.env=Pure.pure Bool.true->X.N.Nodup->X.N[i]?=Option.some y->List.lookup y X.env.scope.names=Option.some PySem.NameKind.local->(∀(x:PySem.Value),PySem.foldedSetIterable iter X.env x=Pure.pure x)->L2.Bx (L2.PS X (PySem.Stmt.Assign [qU.Name y py] (elt.ListComp [{target:=target,iter:=iter,ifs:=ifs,is_async:=0}] scope cpos) spos) (L2.tAsgC1 wi g tt te own fr i)):=by
 intro X scope N' own fr elt target iter ifs cpos wi g tt te spos py i y c hc hi hb hsw hN hy hl hs
 exact⟨@zagj X scope N' own fr elt target iter ifs cpos wi g tt te spos py i y c hc hi.out hb hsw hN hy hl hs⟩
theorem zale:∀{X:L2.Cx}{pos:qs}{tg e:qU}{te:L2.TE}{g:L2.TG},L2.Bx (L2.PE X e te)->L2.Bx (L2.PG X tg g)->PySem.swapsWithSole [tg] e pos.line X.env=Pure.pure Bool.false->PySem.swappedStores [tg] e X.env=Pure.pure Option.none->List.map (λ(x:Bool×(PySem.Value->PySem.Sem Unit))=>x.snd) (PySem.assignEach [tg] X.env)=[PySem.assign tg X.env]->L2.Bx (L2.PS X (PySem.Stmt.Assign [tg] e pos) (L2.tAsg te g)):=by
 intro X pos tg e te g he hg hs hw h1
 exact⟨@zajc X pos tg e te g he.out hg.out hs hw h1⟩
theorem ztk:∀{X:L2.Cx}{K:qC},X.K=K->∀{a b:qU}{ta:L2.TA}{p pos:qs}{elts:List qU}{x1:Nat}{tpos:qs},L2.Gl X (q9 "zip")->X.mg (q9 "zip")=Option.none->L2.Bx (L2.PA X [a,b] ta)->qAH [a,b] X.env=(Bool.false,PySem.eval a X.env)::qAH [b] X.env->((PySem.backTo pos (qAH [b] X.env)).any λ(x:Bool×PySem.Sem PySem.Value)=>x.fst)=Bool.false->L2.Bx (L2.PI X (qU.Tuple elts x1 tpos) ((qU.Name (q9 "zip") p).Call [a,b] [] pos) (L2.iZip K ta)):=by
 intro X K hK a b ta p pos elts x1 tpos hg hm ha hs hs2
 exact⟨@zapf X K hK a b ta p pos elts x1 tpos hg hm ha.out hs hs2⟩
theorem zvh:∀{X:L2.Cx}{K:qC},X.K=K->∀{a:qU}{ta:L2.TA}{p pos:qs}{elts:List qU}{x1:Nat}{tpos:qs},L2.Gl X (q9 "enumerate")->X.mg (q9 "enumerate")=Option.none->L2.Bx (L2.PA X [a] ta)->qAH [a] X.env=[(Bool.false,PySem.eval a X.env)]->L2.Bx (L2.PI X (qU.Tuple elts x1 tpos) ((qU.Name (q9 "enumerate") p).Call [a] [] pos) (L2.iEnumX K ta)):=by
 intro X K hK a ta p pos elts x1 tpos hg hm ha hs
 exact⟨@zahc X K hK a ta p pos elts x1 tpos hg hm ha.out hs⟩
theorem zer:∀{X:L2.Cx},L2.Bx (L2.PGs X [] L2.gNil):=by
 intro X
 exact⟨@zakc X⟩
theorem zbf:∀{X:L2.Cx}{e:qU}{es:List qU}{t:L2.TG}{u:L2.TGs},L2.Bx (L2.PG X e t)->L2.Bx (L2.PGs X es u)->List.map (λ(x:Bool×(PySem.Value->PySem.Sem Unit))=>x.snd) (PySem.assignEach (e::es) X.env)=PySem.assign e X.env::List.map (λ(x:Bool×(PySem.Value->PySem.Sem Unit))=>x.snd) (PySem.assignEach es X.env)->L2.Bx (L2.PGs X (e::es) (L2.gCons t u)):=by
 intro X e es t u h1 h2 hs
 exact⟨@zaft X e es t u h1.out h2.out hs⟩
theorem zes:∀{X:L2.Cx}{K:qC},X.K=K->∀{es:List qU}{k:Nat}{t:L2.TGs}{n:Nat}{pos:qs},X.calm=Bool.true->L2.Bx (L2.PGs X es t)->(PySem.assignEach es X.env).length=n->List.findIdx? (λ(x:Bool×(PySem.Value->PySem.Sem Unit))=>x.fst) (PySem.assignEach es X.env)=Option.none->L2.Bx (L2.PG X (qU.Tuple es k pos) (L2.gTup K n t)):=by
 intro X K hK es k t n pos hc h hn hst
 exact⟨@zakr X K hK es k t n pos hc h.out hn hst⟩
theorem zpk:∀{X:L2.Cx}{a:qU}{ta:L2.TE}{pos:qs}{op:PySem.UnaryOp}{r:L2.V->L2.Hp->L2.VK->Prop},L2.UnR X (PySem.unaryOp op) r->L2.Bx (L2.PE X a ta)->L2.Bx (L2.PE X (qU.UnaryOp op a pos) (L2.tUn r ta)):=by
 intro X a ta pos op r ho ha
 exact⟨@zard X a ta pos op r ho ha.out⟩
theorem zadh:∀{X:L2.Cx}{scope:PySem.Scope}{N' own:List PySem.Str}{fr:List Nat}{elt target iter target2 iter2:qU}{ifs ifs2:List qU}{cpos:qs}{wi wi2:L2.TI}{g g2:L2.TG}{tt tt2:L2.TT}{te:L2.TE},L2.CompOk X scope N' own fr->X.calm=Bool.true->L2.Bx (L2.PI X target iter wi)->(∀(cl:List (PySem.Str×PySem.Addr))(C:PySem.Addr)(s:PySem.Shared)(H:L2.Hp)(fp:List PySem.Addr),L2.PG (L2.cxComp X scope N' own cl C s H fp) target g/\L2.PF (L2.cxComp X scope N' own cl C s H fp) ifs tt/\L2.PI (L2.cxComp X scope N' own cl C s H fp) target2 iter2 wi2/\L2.PG (L2.cxComp X scope N' own cl C s H fp) target2 g2/\L2.PF (L2.cxComp X scope N' own cl C s H fp) ifs2 tt2/\L2.PE (L2.cxComp X scope N' own cl C s H fp) elt te)->(∀(x:PySem.Value),PySem.foldedSetIterable iter X.env x=Pure.pure x)->(∀(env:PySem.Env)(x:PySem.Value),PySem.foldedSetIterable iter2 env x=Pure.pure x)->L2.Bx (L2.PE X (elt.ListComp [{target:=target,iter:=iter,ifs:=ifs,is_async:=0},{target:=target2,iter:=iter2,ifs:=ifs2,is_async:=0}] scope cpos) (L2.tComp2 wi g tt wi2 g2 tt2 te own fr)):=by
 intro X scope N' own fr elt target iter target2 iter2 ifs ifs2 cpos wi wi2 g g2 tt tt2 te c hc hi hb hs hs2
 exact⟨@zagt X scope N' own fr elt target iter target2 iter2 ifs ifs2 cpos wi wi2 g g2 tt tt2 te c hc hi.out hb hs hs2⟩
theorem bv{X:Cx}(i:Nat){x:Str}{pos:Pos}(hN:X.N[i]?=some x:=by rfl)(hv:visB X.env.scope x=true:=by rfl)(hd:(x==("__debug__":Str))=false:=by decide)
  (hcd:(x==("__classdict__":Str))=false:=by decide):Bx (PE X (.Name x pos) (tVar i)):=⟨zajb hN (visB.of hv) hd hcd⟩
theorem zoh{X:Cx}{i:Nat}{o k e:Expr}{tk tv:TE}{pos pos':Pos}(ho:Bx (PE X o (tVar i)))(hk:Bx (PE X k tk))(hv:Bx (PE X e tv))
  (ha:∀v,assign (.Subscript o k pos') X.env v=(do
   let ov <- holding [v] (eval o X.env)
   let iv <- holding [v,ov] (eval k X.env)
   standAt pos'
   holding [v,ov,iv] (setItem ov iv v)
   release [v,ov,iv] []))
  (hs:swapsWithSole [.Subscript o k pos'] e pos.line X.env=pure false)(hw:swappedStores [.Subscript o k pos'] e X.env=pure none)(h1:(assignEach [.Subscript o k pos'] X.env).map (·.2)=[assign (.Subscript o k pos') X.env]) :
  Bx (PS X (.Assign [.Subscript o k pos'] e pos) (tAsg tv (gSub (tVar i) tk zakm))):=⟨zajc hv.out (zanw ho.out hk.out zagc ha) hs hw h1⟩
noncomputable def SatK(fx:Addr->Prop)(H0:Hp)(J:Nat->Prop)(σ0:St)(D:Ends):Out->Prop
 | .nx env=>∀σ H,EnvOk fx H0 env σ H->(∀j,J j->σ[j]?=σ0[j]?)->D.nx σ H
 | .bk env=>∀σ H,EnvOk fx H0 env σ H->(∀j,J j->σ[j]?=σ0[j]?)->D.bk σ H
 | .ct env=>∀σ H,EnvOk fx H0 env σ H->(∀j,J j->σ[j]?=σ0[j]?)->D.ct σ H
 | .rt d fr=>∀v H,Same H0 H->ztc fx H0 d fr v H->D.rt v H
noncomputable def SSk(J:Nat->Prop)(ts:TS)(F:SF):Prop:=∀(fx:Addr->Prop)(H0:Hp)(env:DEnv)(σ:St)(H:Hp)(D:Ends),EnvOk fx H0 env σ H->∀o,F env=some o->SatK fx H0 J σ D o->ts D σ H
section
variable{J:Nat->Prop}
theorem zadi{te:TE}{f:EF}{i:Nat}(h1:SE te f)(hJ:¬J i):SSk J (tAsg te (gName i)) (sSet i f):=by
 intro fx H0 env σ H D h o e q
 unfold sSet at e
 obtain⟨r,er,rfl⟩:=qH.mp e
 exact h1 fx H0 env σ H h r er _ λv H' s hv=>q _ H' (h.put s hv i) λj hj=>qP λz=>hJ (by rw[z];exact hj)
noncomputable def SGk(J:Nat->Prop)(g:TG)(f:GT):Prop:=∀(fx:Addr->Prop)(H0:Hp)(env:DEnv)(σ:St)(H:Hp)(d:PyData)(v:V),EnvOk fx H0 env σ H->Rp (Offs (λa=>fx a\/own env σ a) H) d v->∀env',f d env=some env'->∀Q:St->Hp->Prop,
 (∀σ',EnvOk fx H0 env' σ' H->(∀j,J j->σ'[j]?=σ[j]?)->Q σ' H)->g v σ H Q
theorem zdr{i:Nat}(hJ:¬J i):SGk J (gName i) (gN i):=by
 intro fx H0 env σ H d v h r env' e Q q
 cases e
 exact q _ (h.setPl i r) λj hj=>qP λz=>hJ (by rw[z];exact hj)
end
section
variable{X:Cx}
end
end L2
namespace HT
open PySem PySem.Spec PyProof.Rows L2
section
variable{prog:Program}{w:World}{A:Around}{E:Value->Shared->Prop}{s:Shared}
theorem getItem_tuple_whole{t sl:Addr}{items:Array Value}{vl vu:Value}{lo hi:Option Int}{Q:Value->Shared->Prop}(ht:IsTup s.heap t items)(hs:s.heap.IsSliceOf sl vl vu .none)(pl:IsPart vl lo)(pu:IsPart vu hi)
  (hw:sIx items.size 0 lo=0/\sIx items.size items.size hi=items.size) (h:Q (.ref t) s):wpAny (model prog w) A (getItem (.ref t) (.ref sl)) Q E s:=by
 obtain⟨os,hos,hcs,hds⟩:=id hs
 have hTs:s.TypeIs (.ref sl) "slice":=⟨os,hos,hcs⟩
 unfold getItem
 try with_reducible refine qBK ?_
 first|refine qE (qM ?_)|skip
 refine qE (wpAny_sequenceKey ht.typeIs (by decide) ?_)
 refine qE (qAd (name:=Str.ofString "__getitem__") ht.typeIs qAU
  (qA3 qAU ht.typeIs entry_tuple_getitem ?_ (args_tuple_getitem _ _)))
 show wpAny _ _ (Builtin.Tuple.tupleItemsOf (.ref t) >>=_) _ _ s
 refine qE (tupleItemsOf_ ht ?_)
 refine qE (qCN hTs ?_)
 rw[if_pos (by decide)]
 refine qE (zjp hs pl pu ?_)
 have hyes:(((sIx items.size 0 lo:Nat):Int)==0&&(1:Int)==1&&(sIx items.size items.size hi - sIx items.size 0 lo)==items.size)=true:=by
  rw[hw.1,hw.2];simp
 show wpAny _ _ (if(((sIx items.size 0 lo:Nat):Int)==0&&(1:Int)==1&&(sIx items.size items.size hi - sIx items.size 0 lo)==items.size)=true then _ else _) _ _ s
 rw[if_pos hyes]
 unfold Builtin.Tuple.tupleIsExact
 refine qE (qE (qCN ht.typeIs (qM ?_)))
 rw[if_pos (by decide)]
 refine qE (qCK ?_)
 first
  | exact qM ⟨_,rfl,qM h⟩
  | exact qE (qM (qM ⟨_,rfl,qM h⟩))
  | exact qE (qM (qE (qM (qM ⟨_,rfl,qM h⟩))))
end
end HT
namespace L2
open PySem PySem.Spec PyProof.Rows
noncomputable def rSlW(K:qC):V->Option Int->Option Int->Hp->VK->Prop:=λx lo hi H Q=>∃a xs,x=.ref a/\SqT K H a xs/\
 ((HT.sIx xs.length 0 lo=0/\HT.sIx xs.length xs.length hi=xs.length)->Q (.ref a) H)/\(¬(HT.sIx xs.length 0 lo=0/\HT.sIx xs.length xs.length hi=xs.length)->∀p,H p=none->Q (.ref p) (upd H p (.tup (cutV xs lo hi))))
theorem sl_W{X:Cx}{K:qC}(hK:X.K=K):SlR X (rSlW K):=by
 subst hK
 intro pins s σ H x v vl vu lo hi sl Q I rx hs pl pu h
 obtain⟨a,xs,rfl,hx,q1,q2⟩:=h
 by_cases hw:HT.sIx xs.length 0 lo=0/\HT.sIx xs.length xs.length hi=xs.length
 ·cases rx
  obtain⟨its,r,ht,hz⟩:=I.tuple hx
  have hlen:its.toArray.size=xs.length:=by rw[qO];exact r.length.symm
  refine⟨"tuple",_,qAU.lookup,ht.typeIs,?_⟩
  exact HT.getItem_tuple_whole ht hs pl pu (by rw[hlen];exact hw) ⟨.ref a,H,I,rfl,q1 hw⟩
 ·exact zaog pins s σ H _ v vl vu lo hi sl Q I rx hs pl pu ⟨a,xs,rfl,hx,hw,q2 hw⟩
noncomputable def eSlT(a:EF)(l h:PF'):EF:=λenv=>(a env).bind λx=>(l env).bind λlo=>(h env).bind λhi=>match x.d with
 | .tuple ds=>some ⟨.tuple (cutD ds lo hi),false,x.bs⟩
 | _=>none
theorem zzd{K:qC}{te:TE}{tl th:TO}{f:EF}{fl fh:PF'}(h1:SE te f)(h2:SPt tl fl)(h3:SPt th fh):SE (tSl (rSlW K) te tl th) (eSlT f fl fh):=by
 intro fx H0 env σ H h rr hr Q q
 unfold eSlT at hr
 obtain⟨⟨d,frd,bs⟩,ex,hr⟩:=qA.mp hr
 obtain⟨lo,el,hr⟩:=qA.mp hr
 obtain⟨hi,eh,hr⟩:=qA.mp hr
 cases d with
 | tuple ds=>
  cases hr
  refine h1 fx H0 env σ H h _ ex _ λv H1 s1 v1=>h2 fx H0 env σ H1 (h.up s1) _ el _ λH2 s2=>h3 fx H0 env σ H2 (h.up (s1.trans s2)) _ eh _ λH3 s3=>?_
  have v3:=(v1.later (Same.refl _) (s2.trans s3) λ_ z=>z).rp
  have t3:=(s1.trans s2).trans s3
  obtain⟨p,xs,rfl,hp,r⟩:=zdc v3
  refine⟨p,xs,rfl,SqT.of (zdl hp),λhw=>q _ _ t3 ⟨?_,λz=>by cases z⟩,λ_ l hl=>q _ _ (t3.trans (Same.new hl)) ⟨?_,λz=>by cases z⟩⟩
  ·have e:cutD ds lo hi=ds:=by
    unfold cutD
    rw[r.length,hw.1,hw.2,qBw,qCE,qAp (by rw[r.length];exact qL _)]
   show Rp _ (.tuple (cutD ds lo hi)) _
   rw[e]
   exact v3
  ·have hA:=(h.up t3).lims bs
   exact zjl hl (zei hA hl) (r.cut lo hi)
 | _=>cases hr
noncomputable def plS:Sl->Sl
 | .ac d=>.pl d
 | s=>s
noncomputable def plE(env:DEnv):DEnv:=env.map plS
noncomputable def noA(as:List Nat)(env:DEnv):DEnv:=as.foldl (λe i=>e.set i .no) env
noncomputable def zasj(h:Nat)(as:List Nat)(f1 f2 f3:EF)(R1:SF)(c:TF)(ix:EF)(R2:SF):SF:=λenv=>
 (f1 (plE env)).bind λr1=>(f2 (plE env)).bind λr2=>(f3 (plE env)).bind λr3=>match r3.d with
 | .list ds=>if r3.fr=true/\h∉as then(R1 ((plE env).set h (.pl (.tuple [r1.d,r2.d,.list ds])))).bind λo=>match o with
  | .nx e=>if e.length=env.length/\h<env.length then(c e).bind λb=>if b=true then(ix e).bind λz=>(match z.d with
    | .int k=>if 0<=k/\k<100000/\k.toNat<ds.length then R2 ((noA as (plE env)).set h (.pl (.tuple [r1.d,r2.d,.list (ds.eraseIdx k.toNat)])))else none
    | _=>none)else R2 ((noA as (plE env)).set h (.pl (.tuple [r1.d,r2.d,.list ds])))else none
  | .rt d fr=>some (.rt d fr)
  | _=>none else none
 | _=>none
noncomputable def repD:OF
 | .list ds,.int n=>if 0<=n/\n<=100/\ds.length<=100 then some (.list (List.replicate n.toNat ds).flatten,true)else none
 | _,_=>none
theorem Rps.rep{H:Hp}{ds:List PyData}{vs:List V}(h:Rps H ds vs):∀(n:Nat),Rps H (List.replicate n ds).flatten (List.replicate n vs).flatten
 | 0=>zci
 | n+1=>by
  rw[qAf,qAf,qA7,qA7]
  exact h.append (Rps.rep h n)
theorem zapk:SO rRep repD:=by
 intro A H x y dx dy hA rx ry d fr e Q q
 unfold repD at e
 split at e
 ·rename_i ds n
  split at e
  ·rename_i hl
   cases e
   obtain⟨a,xs,rfl,h1,r1⟩:=zeh rx
   cases zda ry
   have hlen:=r1.length
   refine⟨a,n,xs,rfl,rfl,zdl h1,by omega,by omega,?_,λp hp=>?_⟩
   ·refine zet ?_
    rw[<- hlen]
    calc ds.length * n.toNat<=100 * 100:=Nat.mul_le_mul hl.2.2 (by omega)
     _<=100000:=by decide
   ·have r:=r1.rep n.toNat
    exact q _ _ (Same.new hp) (zri hp (zei hA hp) r) λ_=>⟨p,rfl,hp,zmz hp r⟩
  ·cases e
 ·cases e
end L2
namespace PySem
open Sem (wp)
section
variable{prog:Program}{w:World}{A:Around}{E:Value->Shared->Prop}{s:Shared}
variable{b1 b2 b3:Bool}{z TI TO i1 i2 i3 l1 l2 l3:Addr}{k:Nat}{xs ys zs:Array Value}
end
end PySem
namespace L2
open PySem PySem.Spec PyProof.Rows
end L2
namespace PySem
open Sem (wp)
end PySem
namespace L2
open PySem PySem.Spec PyProof.Rows
structure MvR(R:Addr->Prop)(H H':Hp):Prop where
 keep:∀b o,¬R b->H b=some o->H' b=some o
 live:∀b o,H b=some o->∃o',H' b=some o'
theorem MvR.same{R:Addr->Prop}{H H':Hp}(s:Same H H'):MvR R H H':=⟨λb o _ e=>s b o e,λb o e=>⟨o,s b o e⟩⟩
theorem MvR.trans{R:Addr->Prop}{H H1 H2:Hp}(a:MvR R H H1)(b:MvR R H1 H2):MvR R H H2:=⟨λx o n e=>b.keep x o n (a.keep x o n e),λx o e=>let⟨o',e'⟩:=a.live x o e;b.live x o' e'⟩
theorem MvR.free{R:Addr->Prop}{H H':Hp}(m:MvR R H H'){b:Addr}(h:H' b=none):H b=none:=by
 cases e:H b with
 | none=>rfl
 | some o=>obtain⟨o',e'⟩:=m.live b o e;rw[h]at e';cases e'
theorem MvR.offs{R A:Addr->Prop}{H H':Hp}(m:MvR R H H')(h:∀b,R b->A b):Same (Offs A H) (Offs A H'):=λb o e=>by
 obtain⟨n,e⟩:=Offs.of e
 rw[Offs.get n]
 exact m.keep b o (λz=>n (h b z)) e
structure Kind (T:Type) where
 at_:Hp->V->(Addr->Prop)->T->Prop
 live:∀{H v R st},at_ H v R st->∀b,R b->∃o,H b=some o
 stay:∀{H H' v R st},at_ H v R st->(∀b o,R b->H b=some o->H' b=some o)->at_ H' v R st
structure Has{T:Type}(k:Kind T)(f:Nat)(fx:Addr->Prop)(H0:Hp)(env:DEnv)(σ:St)(H:Hp)(v:V)(R:Addr->Prop)(st:T):Prop where
 ok:EnvOk fx H0 env σ H
 no:env[f]?=some .no
 sl:σ[f]?=some (some v)
 th:k.at_ H v R st
 off:∀b,R b->fx b
 low:∀b,R b->H0 b=none
section
variable{T:Type}{k:Kind T}{f:Nat}{fx:Addr->Prop}{H0:Hp}{env:DEnv}{σ:St}{H H':Hp}{v:V}{R:Addr->Prop}{st st':T}
theorem Has.up(h:Has k f fx H0 env σ H v R st)(s:Same H H'):Has k f fx H0 env σ H' v R st:=⟨h.ok.up s,h.no,h.sl,k.stay h.th λb o _ e=>s b o e,h.off,h.low⟩
theorem Has.mv(h:Has k f fx H0 env σ H v R st)(m:MvR R H H')(t:k.at_ H' v R st'):Has k f fx H0 env σ H' v R st':=by
 have so:Same (Offs (λa=>fx a\/own env σ a) H) (Offs (λa=>fx a\/own env σ a) H'):=m.offs λb z=>.inl (h.off b z)
 refine⟨⟨h.ok.len,λi d e=>?_,λi d e=>?_,h.ok.inj,λb o e=>m.keep b o (λz=>by rw[h.low b z]at e;cases e) (h.ok.base b o e),λb z=>?_⟩,h.no,h.sl,t,h.off,h.low⟩
 ·obtain⟨u,h1,h2⟩:=h.ok.pl i d e
  exact⟨u,h1,Rp.same so d h2⟩
 ·obtain⟨a,h1,h2,h3,h4⟩:=h.ok.ac i d e
  exact⟨a,h1,h2,h3,h4.same so λo z=>m.keep a o (λy=>h3 (h.off a y)) z⟩
 ·obtain⟨o,e⟩:=h.ok.fxs b z
  exact m.live b o e
theorem Has.val(h:Has k f fx H0 env σ H v R st){H1:Hp}(m:MvR R H1 H'){r:Val}{w:V}(l:∀b,R b->∃o,H b=some o)(q:ValOk (lim fx env σ r.bs) H H1 r w):ValOk (lim fx env σ r.bs) H H' r w:=by
 refine⟨Rp.same (m.offs λb z=>.inl (h.off b z)) _ q.rp,λe=>?_⟩
 obtain⟨a,h1,h2,h3⟩:=q.fr e
 refine⟨a,h1,h2,h3.same (m.offs λb z=>.inl (.inl (h.off b z))) λo z=>m.keep a o (λy=>?_) z⟩
 obtain⟨o',e'⟩:=l a y
 rw[h2]at e';cases e'
end
noncomputable abbrev EFr(T:Type):=DEnv->T->Option (Val×T)
noncomputable def SEr{T:Type}(k:Kind T)(f:Nat)(te:TE)(g:EFr T):Prop:=∀(fx:Addr->Prop)(H0:Hp)(env:DEnv)(σ:St)(H:Hp)(v:V)(R:Addr->Prop)(st:T),Has k f fx H0 env σ H v R st->∀r st',g env st=some (r,st')->∀Q:VK,
 (∀w H',MvR R H H'->Has k f fx H0 env σ H' v R st'->ValOk (lim fx env σ r.bs) H H' r w->Q w H')->te σ H Q
noncomputable abbrev AFr(T:Type):=DEnv->T->Option (List Val×T)
noncomputable def SAr{T:Type}(k:Kind T)(f:Nat)(ta:TA)(g:AFr T):Prop:=∀(fx:Addr->Prop)(H0:Hp)(env:DEnv)(σ:St)(H:Hp)(v:V)(R:Addr->Prop)(st:T),Has k f fx H0 env σ H v R st->∀rs st',g env st=some (rs,st')->∀Q:List V->Hp->Prop,
 (∀ws H',MvR R H H'->Has k f fx H0 env σ H' v R st'->Paired (λr w=>ValOk (lim fx env σ r.bs) H H' r w) rs ws->Q ws H')->ta σ H Q
noncomputable abbrev TFr(T:Type):=DEnv->T->Option (Bool×T)
noncomputable def STr{T:Type}(k:Kind T)(f:Nat)(tt:TT)(g:TFr T):Prop:=∀(fx:Addr->Prop)(H0:Hp)(env:DEnv)(σ:St)(H:Hp)(v:V)(R:Addr->Prop)(st:T),Has k f fx H0 env σ H v R st->∀b st',g env st=some (b,st')->∀Q:Bool->Hp->Prop,
 (∀H',MvR R H H'->Has k f fx H0 env σ H' v R st'->Q b H')->tt σ H Q
section
variable{T:Type}{k:Kind T}{f:Nat}
noncomputable def zah(g:EF):EFr T:=λenv st=>(g env).map λr=>(r,st)
theorem zag{te:TE}{g:EF}(h:SE te g):SEr k f te (zah g):=by
 intro fx H0 env σ H v R st hh r st' e Q q
 obtain⟨r',er,e⟩:=qH.mp e
 cases e
 exact h fx H0 env σ H hh.ok r er Q λw H' s hv=>q w H' (MvR.same s) (hh.up s) hv
noncomputable def rNil:AFr T:=λ_ st=>some ([],st)
theorem zbb:SAr k f tNil rNil:=by
 intro fx H0 env σ H v R st hh rs st' e Q q
 cases e
 exact q [] H (MvR.same (Same.refl _)) hh .nil
noncomputable def zau(a:EFr T)(g:AFr T):AFr T:=λenv st=>(a env st).bind λx=>(g env x.2).bind λy=>some (x.1::y.1,y.2)
theorem zat{te:TE}{ta:TA}{a:EFr T}{g:AFr T}(h1:SEr k f te a)(h2:SAr k f ta g):SAr k f (tCons te ta) (zau a g):=by
 intro fx H0 env σ H v R st hh rs st' e Q q
 unfold zau at e
 obtain⟨⟨x,s1⟩,ex,e⟩:=qA.mp e
 obtain⟨⟨ys,s2⟩,ey,e⟩:=qA.mp e
 cases e
 exact h1 fx H0 env σ H v R st hh x s1 ex _ λw H1 m1 k1 v1=>h2 fx H0 env σ H1 v R s1 k1 ys s2 ey _ λws H2 m2 k2 v2=>q (w::ws) H2 (m1.trans m2) k2
  (.cons (hh.val m2 (k.live hh.th) v1) (Paired.mapP v2 λ_ _ z=>⟨z.rp,λe=>let⟨a,g1,g2,g3⟩:=z.fr e;⟨a,g1,m1.free g2,g3⟩⟩))
noncomputable def rOp(w:OF)(a b:EFr T):EFr T:=λenv st=>(a env st).bind λx=>(b env x.2).bind λy=>(w x.1.d y.1.d).bind λz=>some (⟨z.1,z.2,bsOf z.1 (x.1.bs++y.1.bs)⟩,y.2)
theorem zalf{H:Hp}{Ho:Hp}{a:Addr}{d:PyData}(h:zgr Ho H a d):zhr d=false:=by cases d<;>first|rfl|exact h.elim
theorem zcf{r:R2}{w:OF}{ta tb:TE}{fa fb:EFr T}(ho:SO r w)(ha:SEr k f ta fa)(hb:SEr k f tb fb):SEr k f (tOp r ta tb) (rOp w fa fb):=by
 intro fx H0 env σ H v R st hh rr st' hr Q q
 unfold rOp at hr
 obtain⟨⟨x,s1⟩,ex,hr⟩:=qA.mp hr
 obtain⟨⟨y,s2⟩,ey,hr⟩:=qA.mp hr
 obtain⟨⟨d,fr⟩,ez,hr⟩:=qA.mp hr
 cases hr
 refine ha fx H0 env σ H v R st hh x s1 ex _ λu H1 m1 k1 v1=>hb fx H0 env σ H1 v R s1 k1 y s2 ey _ λu2 H2 m2 k2 v2=>?_
 have l1:∀b,lim fx env σ (x.bs++y.bs) b->lim fx env σ x.bs b:=zlm λi hi=>qAb _ hi
 have l2:∀b,lim fx env σ (x.bs++y.bs) b->lim fx env σ y.bs b:=zlm λi hi=>qy _ hi
 have v1':=hh.val m2 (k.live hh.th) v1
 refine ho (lim fx env σ (x.bs++y.bs)) H2 u u2 x.d y.d (k2.ok.lims _) (v1'.later (Same.refl _) (Same.refl _) l1).rp (v2.later (Same.refl _) (Same.refl _) l2).rp d fr ez _ λz H3 s3 rp fr3=>q z H3 ((m1.trans m2).trans (MvR.same s3)) (k2.up s3) ⟨zmy rp,λe=>?_⟩
 obtain⟨a,g1,g2,g3⟩:=fr3 e
 refine⟨a,g1,(m1.trans m2).free g2,?_⟩
 show zgr (Offs (λb=>lim fx env σ (bsOf d (x.bs++y.bs)) b\/b=a) H3) H3 a d
 rw[show bsOf d (x.bs++y.bs)=x.bs++y.bs by unfold bsOf;rw[if_neg (by rw[zalf g3];decide)]]
 exact g3
noncomputable def rCB(g:GF)(a:AFr T):EFr T:=λenv st=>(a env st).bind λx=>(g (zfx x.1)).bind λz=>some (⟨z.1,z.2,bsOf z.1 (bss x.1)⟩,x.2)
theorem zadj{r:List V->Hp->VK->Prop}{g:GF}{ta:TA}{a:AFr T}(hc:SC r g)(ha:SAr k f ta a):SEr k f (tCB r ta) (rCB g a):=by
 intro fx H0 env σ H v R st hh rr st' hr Q q
 unfold rCB at hr
 obtain⟨⟨rs,s1⟩,er,hr⟩:=qA.mp hr
 obtain⟨⟨d,fr⟩,ez,hr⟩:=qA.mp hr
 cases hr
 refine ha fx H0 env σ H v R st hh rs s1 er _ λvs H1 m1 k1 v1=>?_
 refine hc (lim fx env σ (bss rs)) H1 vs (zfx rs) (k1.ok.lims _) (zfg (λi hi=>hi) v1) d fr ez _ λw H3 s3 rp fr3=>q w H3 (m1.trans (MvR.same s3)) (k1.up s3) ⟨zmy rp,λe=>?_⟩
 obtain⟨a,g1,g2,g3⟩:=fr3 e
 refine⟨a,g1,m1.free g2,?_⟩
 show zgr (Offs (λb=>lim fx env σ (bsOf d (bss rs)) b\/b=a) H3) H3 a d
 rw[show bsOf d (bss rs)=bss rs by unfold bsOf;rw[if_neg (by rw[zalf g3];decide)]]
 exact g3
noncomputable def rTup(a:AFr T):EFr T:=λenv st=>(a env st).bind λx=>if x.1.length<=100000 then some (⟨.tuple (zfx x.1),false,bss x.1⟩,x.2)else none
theorem zxf{ta:TA}{a:AFr T}(ha:SAr k f ta a):SEr k f (tTup ta) (rTup a):=by
 intro fx H0 env σ H v R st hh rr st' hr Q q
 unfold rTup at hr
 obtain⟨⟨rs,s1⟩,er,hr⟩:=qA.mp hr
 split at hr
 ·rename_i hl
  cases hr
  refine ha fx H0 env σ H v R st hh rs s1 er _ λvs H1 m1 k1 v1=>?_
  have r:=zfg (λi hi=>hi) v1
  have hA:=k1.ok.lims (bss rs)
  exact⟨zet (by rw[<- r.length,zgj];exact hl),λp hp=>q _ _ (m1.trans (MvR.same (Same.new hp))) (k1.up (Same.new hp)) ⟨zjl hp (zei hA hp) r,λz=>by cases z⟩⟩
 ·cases hr
end
section
variable{J:Nat->Prop}{f:Nat}
end
section
variable{J:Nat->Prop}
end
section
variable{T:Type}{k:Kind T}{f:Nat}
noncomputable def zit(c:TF):TFr T:=λenv st=>(c env).map λb=>(b,st)
theorem zhd{tt:TT}{c:TF}(h:ST tt c):STr k f tt (zit c):=by
 intro fx H0 env σ H v R st hh b st' e Q q
 obtain⟨b',er,e⟩:=qH.mp e
 cases e
 exact h fx H0 env σ H hh.ok b er Q λH' s=>q H' (MvR.same s) (hh.up s)
noncomputable def qNot(a:TFr T):TFr T:=λenv st=>(a env st).map λx=>(!x.1,x.2)
theorem zalg{t:TT}{a:TFr T}(h:STr k f t a):STr k f (tNot t) (qNot a):=by
 intro fx H0 env σ H v R st hh b st' e Q q
 obtain⟨⟨c,s1⟩,er,e⟩:=qH.mp e
 cases e
 exact h fx H0 env σ H v R st hh c s1 er _ λH' m k1=>q H' m k1
noncomputable def qAnd(a b:TFr T):TFr T:=λenv st=>(a env st).bind λx=>if x.1=true then b env x.2 else some (false,x.2)
theorem zalh{t u:TT}{a b:TFr T}(h:STr k f t a)(h2:STr k f u b):STr k f (tAnd t u) (qAnd a b):=by
 intro fx H0 env σ H v R st hh b' st' e Q q
 unfold qAnd at e
 obtain⟨⟨c,s1⟩,er,e⟩:=qA.mp e
 refine h fx H0 env σ H v R st hh c s1 er _ λH' m k1=>?_
 cases c with
 | true=>exact iteT (h2 fx H0 env σ H' v R s1 k1 b' st' e _ λH'' m' k2=>q H'' (m.trans m') k2)
 | false=>cases e;exact iteF (q H' m k1)
noncomputable def qB(g:EFr T):TFr T:=λenv st=>(g env st).bind λx=>match x.1.d with
 | .bool b=>some (b,x.2)
 | _=>none
theorem zali{te:TE}{g:EFr T}(h:SEr k f te g):STr k f (tTest te) (qB g):=by
 intro fx H0 env σ H v R st hh b st' e Q q
 unfold qB at e
 obtain⟨⟨r,s1⟩,er,e⟩:=qA.mp e
 obtain⟨d,fr,bs⟩:=r
 cases d with
 | bool b'=>
  cases e
  exact h fx H0 env σ H v R st hh _ _ er _ λw H' m k1 hv=>⟨_,zka hv.rp,q H' m k1⟩
 | _=>cases e
noncomputable def qTru(g:EFr T):TFr T:=λenv st=>(g env st).bind λx=>(truD x.1.d).map λb=>(b,x.2)
theorem zalj{K:qC}{te:TE}{g:EFr T}(h:SEr k f te g):STr k f (λσ H Q=>te σ H λx H1=>∃k,TruV K x H1 k/\Q k H1) (qTru g):=by
 intro fx H0 env σ H v R st hh b st' e Q q
 unfold qTru at e
 obtain⟨⟨r,s1⟩,er,e⟩:=qA.mp e
 obtain⟨b',eb,e⟩:=qH.mp e
 cases e
 exact h fx H0 env σ H v R st hh r s1 er _ λw H' m k1 hv=>⟨b,zaox (Rp.same (Offs.same _ _) _ hv.rp) eb,q H' m k1⟩
end
inductive OutR (T:Type) where
 | nx (env:DEnv) (st:T)
 | bk (env:DEnv) (st:T)
 | ct (env:DEnv) (st:T)
 | rt (d:PyData) (fr:Bool) (st:T)
noncomputable abbrev SFr(T:Type):=DEnv->T->Option (OutR T)
noncomputable def SatR{T:Type}(k:Kind T)(f:Nat)(fx:Addr->Prop)(H0:Hp)(D:Ends)(v:V)(R:Addr->Prop):OutR T->Prop
 | .nx env st=>∀σ H,Has k f fx H0 env σ H v R st->D.nx σ H
 | .bk env st=>∀σ H,Has k f fx H0 env σ H v R st->D.bk σ H
 | .ct env st=>∀σ H,Has k f fx H0 env σ H v R st->D.ct σ H
 | .rt d fr st=>∀w H,Same H0 H->(∀b,fx b->∃o,H b=some o)->k.at_ H v R st->ztc fx H0 d fr w H->(fr=true->∀a,w=.ref a->¬R a)->D.rt w H
noncomputable def SSr{T:Type}(k:Kind T)(f:Nat)(ts:TS)(F:SFr T):Prop:=∀(fx:Addr->Prop)(H0:Hp)(env:DEnv)(σ:St)(H:Hp)(v:V)(R:Addr->Prop)(st:T)(D:Ends),Has k f fx H0 env σ H v R st->∀o,F env st=some o->SatR k f fx H0 D v R o->ts D σ H
section
variable{T:Type}{k:Kind T}{f:Nat}{fx:Addr->Prop}{H0:Hp}{env:DEnv}{σ:St}{H H':Hp}{v:V}{R:Addr->Prop}{st st':T}
theorem Has.notOwn(h:Has k f fx H0 env σ H v R st){b:Addr}(hb:R b):¬own env σ b:=λ⟨i,d,h1,h2⟩=>by
 obtain⟨a,g1,g2,g3,g4⟩:=h.ok.ac i d h1
 rw[h2]at g1
 cases g1
 exact g3 (h.off _ hb)
noncomputable abbrev flr(env:DEnv)(σ:St)(R:Addr->Prop)(H:Hp):Hp:=Offs (λb=>own env σ b\/R b) H
theorem Has.rebase(h:Has k f fx H0 env σ H v R st):Has k f fx (flr env σ R H) env σ H v R st:=by
 refine⟨⟨h.ok.len,h.ok.pl,λi d e=>?_,h.ok.inj,Offs.same _ _,h.ok.fxs⟩,h.no,h.sl,h.th,h.off,λb hb=>Offs.out (.inr hb)⟩
 obtain⟨a,h1,h2,h3,h4⟩:=h.ok.ac i d e
 exact⟨a,h1,Offs.out (.inl ⟨i,d,e,h1⟩),h3,h4⟩
theorem Has.floor(h:Has k f fx H0 env σ H v R st):Same H0 (flr env σ R H):=λb o e=>by
 show Offs (λb=>own env σ b\/R b) H b=some o
 rw[Offs.get]
 ·exact h.ok.base b o e
 ·rintro(⟨i,d,h1,h2⟩|z)
  ·obtain⟨a,g1,g2,g3,g4⟩:=h.ok.ac i d h1
   rw[h2]at g1
   cases g1
   rw[g2]at e;cases e
  ·rw[h.low b z]at e;cases e
theorem Has.unbase{F:Hp}(h:Has k f fx F env σ H v R st)(s:Same H0 F):Has k f fx H0 env σ H v R st:=⟨h.ok.unbase s,h.no,h.sl,h.th,h.off,λb hb=>s.free (h.low b hb)⟩
theorem Has.seen{env':DEnv}{σ':St}(h:Has k f fx H0 env σ H v R st)(h':Has k f fx (flr env σ R H) env' σ' H' v R st'):Same (Offs (λb=>fx b\/own env σ b) H) (Offs (λb=>fx b\/own env' σ' b) H'):=λb o e=>by
 obtain⟨n,e⟩:=Offs.of e
 have hF:flr env σ R H b=some o:=by
  show Offs (λb=>own env σ b\/R b) H b=some o
  rw[Offs.get]
  ·exact e
  ·rintro(z|z)
   ·exact n (.inr z)
   ·exact n (.inl (h.off b z))
 rw[Offs.get]
 ·exact h'.ok.base b o hF
 ·rintro(z|⟨i,d,h1,h2⟩)
  ·exact n (.inl z)
  ·obtain⟨a,g1,g2,g3,g4⟩:=h'.ok.ac i d h1
   rw[h2]at g1
   cases g1
   rw[g2]at hF;cases hF
theorem zalk{env:DEnv}{i j:Nat}(h:env[j]?=some .no):(frz1 env i)[j]?=some .no:=by
 unfold frz1
 split
 ·rename_i d e
  rw[qP λz=>by subst z;rw[h]at e;cases e]
  exact h
 ·exact h
theorem ztl:∀(bs:List Nat){env:DEnv}{j:Nat},env[j]?=some .no->(frzs env bs)[j]?=some .no
 | [],_,_,h=>h
 | i::bs,_,_,h=>ztl bs (zalk h)
theorem zall{r:Val}{i:Nat}(h:env[f]?=some .no)(hi:i≠f):(putV env i r)[f]?=some .no:=by
 unfold putV
 rw[qP hi]
 exact ztl _ h
theorem Has.put(hh:Has k f fx H0 env σ H v R st)(m:MvR R H H')(k1:Has k f fx H0 env σ H' v R st'){r:Val}{w:V}(hv:ValOk (lim fx env σ r.bs) H H' r w){i:Nat}(hi:i≠f):Has k f fx H0 (putV env i r) (σ.set i (some w)) H' v R st':=by
 classical
 let H1:Hp:=λb=>if R b then H b else H' b
 have hR:∀b,R b->H1 b=H b:=λb z=>if_pos z
 have hN:∀b,¬R b->H1 b=H' b:=λb z=>if_neg z
 have s1:Same H H1:=λb o e=>by
  by_cases z:R b
  ·rw[hR b z];exact e
  ·rw[hN b z];exact m.keep b o z e
 have nl:∀b,¬lim fx env σ r.bs b->¬R b:=λb n z=>n (.inl (hh.off b z))
 have v1:ValOk (lim fx env σ r.bs) H H1 r w:=by
  refine⟨Rp.same (λb o e=>?_) _ hv.rp,λe=>?_⟩
  ·obtain⟨n,e⟩:=Offs.of e
   rw[Offs.get n,hN b (nl b n)];exact e
  ·obtain⟨a,g1,g2,g3⟩:=hv.fr e
   have na:¬R a:=λz=>by obtain⟨o,eo⟩:=k.live hh.th a z;rw[g2]at eo;cases eo
   refine⟨a,g1,g2,g3.same (λb o e=>?_) λo e=>by rw[hN a na];exact e⟩
   obtain⟨n,e⟩:=Offs.of e
   rw[Offs.get n,hN b (nl b λz=>n (.inl z))];exact e
 have ok1:=hh.ok.put s1 v1 i
 have sl:(σ.set i (some w))[f]?=some (some v):=by rw[qP hi];exact hh.sl
 have h1:Has k f fx H0 (putV env i r) (σ.set i (some w)) H1 v R st:=⟨ok1,zall hh.no hi,sl,k.stay hh.th λb o z e=>by rw[hR b z];exact e,hh.off,hh.low⟩
 refine h1.mv ⟨λb o z e=>by rw[hN b z]at e;exact e,λb o e=>?_⟩ k1.th
 by_cases z:R b
 ·exact k.live k1.th b z
 ·rw[hN b z]at e;exact⟨o,e⟩
end
section
variable{T:Type}{k:Kind T}{f:Nat}
noncomputable def rS(f:Nat)(F:SF):SFr T:=λenv st=>(F env).bind λo=>match o with
 | .nx e=>(match e[f]? with|some .no=>some (.nx e st)|_=>none)
 | .bk e=>(match e[f]? with|some .no=>some (.bk e st)|_=>none)
 | .ct e=>(match e[f]? with|some .no=>some (.ct e st)|_=>none)
 | .rt d fr=>some (.rt d fr st)
theorem zpl{ts:TS}{F:SF}(h:SSk (λj=>j=f) ts F):SSr k f ts (rS f F):=by
 intro fx H0 env σ H v R st D hh o e q
 unfold rS at e
 obtain⟨o1,e1,e⟩:=qA.mp e
 have fl:=hh.ok.floor
 have st':∀{env':DEnv}{σ':St}{H':Hp},EnvOk fx (Offs (own env σ) H) env' σ' H'->(∀j,j=f->σ'[j]?=σ[j]?)->env'[f]?=some .no->Has k f fx H0 env' σ' H' v R st:=λ{env' σ' H'} h' kp hn=>⟨h'.unbase fl,hn,(kp f rfl).trans hh.sl,k.stay hh.th λb o hb eb=>h'.base b o (by rw[Offs.get (hh.notOwn hb)];exact eb),hh.off,hh.low⟩
 refine h fx _ env σ H _ hh.ok.rebase o1 e1 ?_
 cases o1 with
 | nx e2=>
  dsimp only at e
  split at e
  ·rename_i hn;cases e;exact λσ' H' h' kp=>q σ' H' (st' h' kp hn)
  ·cases e
 | bk e2=>
  dsimp only at e
  split at e
  ·rename_i hn;cases e;exact λσ' H' h' kp=>q σ' H' (st' h' kp hn)
  ·cases e
 | ct e2=>
  dsimp only at e
  split at e
  ·rename_i hn;cases e;exact λσ' H' h' kp=>q σ' H' (st' h' kp hn)
  ·cases e
 | rt d fr=>
  cases e
  intro w H' s' rt
  have kp:∀b o,R b->H b=some o->H' b=some o:=λb o hb eb=>s' b o (by rw[Offs.get (hh.notOwn hb)];exact eb)
  have lv:∀b,fx b->∃o,H' b=some o:=λb hb=>by
   obtain⟨o,eo⟩:=hh.ok.fxs b hb
   have no:¬own env σ b:=λ⟨i,d,h1,h2⟩=>by
    obtain⟨a,g1,g2,g3,g4⟩:=hh.ok.ac i d h1
    rw[h2]at g1
    cases g1
    exact g3 hb
   exact⟨o,s' b o (by rw[Offs.get no];exact eo)⟩
  refine q w H' (fl.trans s') lv (k.stay hh.th kp) (rt.unbase fl) λhfr a ew hR=>?_
  obtain⟨a',g1,g2,_⟩:=rt.2 hfr
  rw[ew]at g1
  cases g1
  obtain⟨o,eo⟩:=k.live hh.th a hR
  rw[Offs.get (hh.notOwn hR),eo]at g2;cases g2
noncomputable def rSeq(a b:SFr T):SFr T:=λenv st=>(a env st).bind λo=>match o with
 | .nx e s=>b e s
 | o=>some o
theorem zas{t u:TS}{a b:SFr T}(h1:SSr k f t a)(h2:SSr k f u b):SSr k f (tSeq t u) (rSeq a b):=by
 intro fx H0 env σ H v R st D hh o e q
 unfold rSeq at e
 obtain⟨o1,e1,e⟩:=qA.mp e
 refine h1 fx H0 env σ H v R st _ hh o1 e1 ?_
 cases o1 with
 | nx e2 s2=>exact λσ' H' h'=>h2 fx H0 e2 σ' H' v R s2 D h' o e q
 | bk e2 s2=>cases e;exact q
 | ct e2 s2=>cases e;exact q
 | rt d fr s2=>cases e;exact q
noncomputable def rSet(i:Nat)(g:EFr T):SFr T:=λenv st=>(g env st).map λx=>.nx (putV env i x.1) x.2
theorem zbc{te:TE}{g:EFr T}{i:Nat}(h1:SEr k f te g)(hi:i≠f):SSr k f (tAsg te (gName i)) (rSet i g):=by
 intro fx H0 env σ H v R st D hh o e q
 obtain⟨⟨r,s1⟩,er,rfl⟩:=qH.mp e
 exact h1 fx H0 env σ H v R st hh r s1 er _ λw H' m k1 hv=>q _ H' (hh.put m k1 hv hi)
noncomputable def rIf(c:TFr T)(a b:SFr T):SFr T:=λenv st=>(c env st).bind λx=>if x.1=true then a env x.2 else b env x.2
theorem zjq{tc:TT}{t u:TS}{c:TFr T}{a b:SFr T}(hc:STr k f tc c)(h1:SSr k f t a)(h2:SSr k f u b):SSr k f (tIfS tc t u) (rIf c a b):=by
 intro fx H0 env σ H v R st D hh o e q
 unfold rIf at e
 obtain⟨⟨b',s1⟩,eb,e⟩:=qA.mp e
 refine hc fx H0 env σ H v R st hh b' s1 eb _ λH' m k1=>?_
 cases b' with
 | true=>exact iteT (h1 fx H0 env σ H' v R s1 D k1 o e q)
 | false=>exact iteF (h2 fx H0 env σ H' v R s1 D k1 o e q)
noncomputable def rNx:SFr T:=λenv st=>some (.nx env st)
theorem zgu:SSr k f tNext rNx:=by
 intro fx H0 env σ H v R st D hh o e q
 cases e
 exact q σ H hh
noncomputable def rRet(g:EFr T):SFr T:=λenv st=>(g env st).map λx=>.rt x.1.d x.1.fr x.2
theorem zik{te:TE}{g:EFr T}(h1:SEr k f te g):SSr k f (tRet te) (rRet g):=by
 intro fx H0 env σ H v R st D hh o e q
 obtain⟨⟨r,s1⟩,er,rfl⟩:=qH.mp e
 refine h1 fx H0 env σ H v R st hh r s1 er _ λw H' m k1 hv=>q w H' k1.ok.base k1.ok.fxs k1.th ⟨Rp.same (Offs.sub λb z=>.inl z) _ hv.rp,λe=>?_⟩ λhfr a ew hR=>?_
 ·obtain⟨a,g1,g2,g3⟩:=hv.fr e
  exact⟨a,g1,hh.ok.base.free g2,g3.same (Offs.sub λb y=>y.imp .inl id) λo z=>z⟩
 ·obtain⟨a',g1,g2,_⟩:=hv.fr hfr
  rw[ew]at g1
  cases g1
  obtain⟨o,eo⟩:=k.live hh.th a hR
  rw[g2]at eo;cases eo
noncomputable def rApp(i:Nat)(g:EFr T):SFr T:=λenv st=>match env[i]? with
 | some (.ac (.list ds))=>(g env st).bind λx=>if ds.length<100000/\i∉x.1.bs then some (.nx ((frzs env x.1.bs).set i (.ac (.list (ds++[x.1.d])))) x.2)else none
 | _=>none
theorem zke{K:qC}{i:Nat}{te:TE}{g:EFr T}(h1:SEr k f te g):SSr k f (tDrop (tBM K "list" zwt (tVar i) (tCons te tNil))) (rApp i g):=by
 intro fx H0 env σ H v R st D hh o e q
 unfold rApp at e
 split at e
 ·rename_i ds ei
  obtain⟨⟨r,s1⟩,er,e⟩:=qA.mp e
  dsimp only at e
  split at e
  ·rename_i hl
   cases e
   have hif:i≠f:=λz=>by rw[z,hh.no]at ei;cases ei
   obtain⟨a,g1,g2,g3,g4⟩:=hh.ok.ac i _ ei
   obtain⟨xs0,hx0,_⟩:=g4
   refine⟨_,g1,.inl ⟨rfl,_,SqL.of hx0⟩,h1 fx H0 env σ H v R st hh r s1 er _ λw H' m k1 hv=>?_⟩
   have h':=k1.ok.frzs r.bs
   have ei':=zmb hl.2 ei
   obtain⟨a',z1,_,z3,z4⟩:=h'.ac i _ ei'
   rw[g1]at z1
   cases z1
   obtain⟨xs,hx',rx'⟩:=z4
   refine⟨a,xs,w,rfl,rfl,hx',zov (by rw[<- rx'.length];exact hl.1),?_⟩
   refine q σ _ ⟨h'.mut ei' g1 ⟨_,zaz,rx'.append (zcs (Rp.same (Offs.sub zgh) _ hv.rp) zci)⟩,?_,hh.sl,k.stay k1.th λb o hb eb=>?_,hh.off,hh.low⟩
   ·rw[qP hif];exact ztl _ hh.no
   ·rw[zax λz=>g3 (by rw[<- z];exact hh.off b hb)];exact eb
  ·cases e
 ·cases e
noncomputable abbrev IFr(T:Type):=DEnv->T->Option (List PyData×List Nat×T)
noncomputable def SIr(k:Kind T)(f:Nat)(wi:TI)(g:IFr T):Prop:=∀(fx:Addr->Prop)(H0:Hp)(env:DEnv)(σ:St)(H:Hp)(v:V)(R:Addr->Prop)(st:T),Has k f fx H0 env σ H v R st->∀ds bs st',g env st=some (ds,bs,st')->∀Rk:It->Hp->Prop,
 (∀J H1,MvR R H H1->Has k f fx H0 env σ H1 v R st'->Yl (λb=>fx b\/own (frzs env bs) σ b) H1 J ds->Rk J H1)->wi σ H Rk
noncomputable def rIP(g:IF'):IFr T:=λenv st=>(g env).map λz=>(z.1,z.2,st)
theorem zfj{wi:TI}{g:IF'}(h:SI wi g):SIr k f wi (rIP g):=by
 intro fx H0 env σ H v R st hh ds bs st' e Rk q
 obtain⟨⟨d1,b1⟩,er,e⟩:=qH.mp e
 cases e
 exact h fx H0 env σ H hh.ok _ _ er Rk λJ H1 s y=>q J H1 (MvR.same s) (hh.up s) y
noncomputable def ztm(g:GT)(body:SFr T):List PyData->DEnv->T->Option (OutR T)
 | [],env,st=>some (.nx env st)
 | d::ds,env,st=>(g d env).bind λe1=>(body e1 st).bind λo=>match o with
  | .nx e2 s2=>ztm g body ds e2 s2
  | .ct e2 s2=>ztm g body ds e2 s2
  | .bk e2 s2=>some (.nx e2 s2)
  | .rt d fr s2=>some (.rt d fr s2)
noncomputable def rFor(it:IFr T)(g:GT)(body:SFr T):SFr T:=λenv st=>(it env st).bind λz=>ztm g body z.1 (frzs env z.2.1) z.2.2
noncomputable def GTno(f:Nat)(g:GT):Prop:=∀d env env',g d env=some env'->env[f]?=some .no->env'[f]?=some .no
theorem zfk{i:Nat}(h:i≠f):GTno f (gN i):=λd env env' e hn=>by
 cases e
 rw[qP h];exact hn
theorem zil{wi:TI}{g:TG}{tb:TS}{it:IFr T}{gf:GT}{body:SFr T}(h1:SIr k f wi it)(h2:SGk (λj=>j=f) g gf)(h2n:GTno f gf)(h3:SSr k f tb body):SSr k f (tFor wi g tb) (rFor it gf body):=by
 intro fx H0 env σ H v R st D hh o e q
 unfold rFor at e
 obtain⟨⟨ds,bs,s0⟩,er,e⟩:=qA.mp e
 refine h1 fx H0 env σ H v R st hh ds bs s0 er _ λJ H1 m0 k0 yl=>?_
 have hE:Has k f fx H0 (frzs env bs) σ H1 v R s0:=⟨k0.ok.frzs bs,ztl _ k0.no,k0.sl,k0.th,k0.off,k0.low⟩
 have fl:=hE.floor
 refine⟨λi n σ' H'=>n=ds.length - i/\i<=ds.length/\∃env' st',ztm gf body (ds.drop i) env' st'=some o/\Has k f fx (flr (frzs env bs) σ R H1) env' σ' H' v R st',⟨ds.length,rfl,qAt _,_,_,e,hE.rebase⟩,?_⟩
 rintro i n σ' H' ⟨rfl,hi,env',st',e',h'⟩
 obtain⟨yi,ys⟩:=yl _ H' h'.ok.all (hE.seen h')
 by_cases hlt:i<ds.length
 ·obtain⟨yg,yy⟩:=yi i ds[i] (qF hlt)
  refine .inr ⟨yg,λσ'' H''=>i+1<=ds.length/\∃env'' st'',ztm gf body (ds.drop (i+1)) env'' st''=some o/\Has k f fx (flr (frzs env bs) σ R H1) env'' σ'' H'' v R st'',?_,?_⟩
  ·rintro σ'' H'' ⟨hle,env'',st'',e'',h''⟩
   exact⟨ds.length - (i+1),by omega,rfl,hle,env'',st'',e'',h''⟩
  ·intro x H'' hy
   obtain⟨sy,ry⟩:=yy x H'' hy
   rw[qAY hlt]at e'
   obtain⟨e1,ee1,e'⟩:=qA.mp e'
   obtain⟨o1,eo1,e'⟩:=qA.mp e'
   have hu:=h'.up sy
   refine h2 fx _ env' σ' H'' _ x hu.ok ry e1 ee1 _ λσ2 h2' k2=>h3 fx _ e1 σ2 H'' v R st' _ ⟨h2',h2n _ _ _ ee1 hu.no,(k2 f rfl).trans hu.sl,hu.th,hu.off,hu.low⟩ o1 eo1 ?_
   cases o1 with
   | nx e2 s2=>exact λσ3 H3 hq=>⟨hlt,e2,s2,e',hq⟩
   | ct e2 s2=>exact λσ3 H3 hq=>⟨hlt,e2,s2,e',hq⟩
   | bk e2 s2=>cases e';exact λσ3 H3 hq=>q σ3 H3 (hq.unbase fl)
   | rt d fr s2=>cases e';exact λw H3 sh l t rt nr=>q w H3 (fl.trans sh) l t (rt.unbase fl) nr
 ·have hi':i=ds.length:=by omega
  subst hi'
  rw[qA0]at e'
  cases e'
  exact .inl ⟨ys,q σ' H' (h'.unbase fl)⟩
end
noncomputable abbrev GR(T:Type):=List PyData->T->Option (PyData×Bool×T)
noncomputable def spR{T:Type}(k:Kind T)(n:Nat)(g:GR T):Sp:=λvs H Q _=>∃(fx:Addr->Prop)(v:V)(vs':List V)(ds:List PyData)(R:Addr->Prop)(st:T)(d:PyData)(fr:Bool)(st':T),vs=v::vs'/\ds.length+1=n/\(∀b,fx b->∃o,H b=some o)/\(∀b,R b->fx b)/\k.at_ H v R st/\Rps (Offs fx H) ds vs'/\g ds st=some (d,fr,st')/\
 ∀w H',MvR R H H'->k.at_ H' v R st'->ztc fx H d fr w H'->Q w H'
theorem zkf{T:Type}{k:Kind T}{n:Nat}{g:GR T}{vs:List V}{H:Hp}{Q:VK}{E:XK}(h:spR k n g vs H Q E):vs.length=n:=by
 obtain⟨fx,v,vs',ds,R,st,d,fr,st',rfl,hn,_,_,_,r,_⟩:=h
 rw[qV,<- r.length];exact hn
section
variable{T:Type}{k:Kind T}{f:Nat}
noncomputable def zav(n:Nat)(g:GR T)(a:AFr T):EFr T:=λenv st=>(a env st).bind λx=>if x.1.length+1=n then(g (zfx x.1) x.2).bind λz=>some (⟨z.1,z.2.1,bsOf z.1 (bss x.1)⟩,z.2.2)else none
theorem zay{n:Nat}{g:GR T}{ta:TA}{a:AFr T}(ha:SAr k f ta a):SEr k f (tCall (spR k n g) [] E0 (tCons (tVar f) ta)) (zav n g a):=by
 intro fx H0 env σ H v R st hh rr st' hr Q q
 unfold zav at hr
 obtain⟨⟨rs,s1⟩,er,hr⟩:=qA.mp hr
 split at hr
 ·rename_i hn
  obtain⟨⟨d,fr,s2⟩,ez,hr⟩:=qA.mp hr
  cases hr
  refine⟨v,hh.sl,ha fx H0 env σ H v R st hh rs s1 er _ λvs H1 m1 k1 v1=>?_⟩
  show spR k n g ((v::vs)++[]) H1 Q E0
  rw[qAL]
  refine⟨lim fx env σ (bss rs),v,vs,zfx rs,R,s1,d,fr,_,rfl,by rw[zgj];exact hn,k1.ok.lims _,λb hb=>.inl (hh.off b hb),k1.th,zfg (λi hi=>hi) v1,ez,λw H3 m3 t3 ⟨rp,fr3⟩=>q w H3 (m1.trans m3) (k1.mv m3 t3) ⟨zmy rp,λe=>?_⟩⟩
  obtain⟨a,g1,g2,g3⟩:=fr3 e
  refine⟨a,g1,m1.free g2,?_⟩
  show zgr (Offs (λb=>lim fx env σ (bsOf d (bss rs)) b\/b=a) H3) H3 a d
  rw[show bsOf d (bss rs)=bss rs by unfold bsOf;rw[if_neg (by rw[zalf g3];decide)]]
  exact g3
 ·cases hr
noncomputable def zpm(n:Nat)(ds:List PyData):DEnv:=.no::zhw (n - 1) ds
noncomputable def fnR(n:Nat)(F:SFr T):GR T:=λds st=>match F (zpm n ds) st with
 | some (.rt d fr s)=>some (d,fr,s)
 | some (.nx _ s)=>some (.none,false,s)
 | _=>none
theorem zvi{fx:Addr->Prop}{H:Hp}{N:List Str}{v:V}{ds:List PyData}{vs:List V}{R:Addr->Prop}{st:T}(hN:0<N.length)(hf:∀b,fx b->∃o,H b=some o)(hR:∀b,R b->fx b)(t:k.at_ H v R st)(r:Rps (Offs fx H) ds vs) :
  Has k 0 fx (Offs R H) (zpm N.length ds) (zgi N (v::vs)) H v R st:=by
 obtain⟨x,N',rfl⟩:∃x N',N=x::N':=by
  cases N with
  | nil=>cases hN
  | cons x N'=>exact⟨x,N',rfl⟩
 have e0:=zir (N:=N') hf r
 have es:zgi (x::N') (v::vs)=some v::zgi N' vs:=by
  unfold zgi
  rw[qAE,List.cons_append]
  congr 3
  simp
 have no:∀(i:Nat)(d:PyData),(zpm (x::N').length ds)[i]?≠some (Sl.ac d):=λi d e=>by
  cases i with
  | zero=>cases e
  | succ i=>
   have e:(zhw N'.length ds)[i]?=some (Sl.ac d):=e
   rcases zpd e with⟨d',_,z⟩|z<;>cases z
 have ow:∀b,¬own (zpm (x::N').length ds) (zgi (x::N') (v::vs)) b:=λb ⟨i,d,h1,_⟩=>no i d h1
 rw[es]at ow ⊢
 refine⟨⟨?_,λi d e=>?_,λi d e=>absurd e (no i d),λi j d e a h1=>absurd h1 (no i d),Offs.same _ _,hf⟩,rfl,rfl,t,hR,λb hb=>Offs.out hb⟩
 ·show(zhw N'.length ds).length+1=(zgi N' vs).length+1
  rw[e0.len]
 ·cases i with
  | zero=>cases e
  | succ i=>
   obtain⟨u,h1,h2⟩:=e0.pl i d e
   exact⟨u,h1,Rp.same (Offs.sub λb z=>z.elim .inl λy=>absurd y (ow b)) _ h2⟩
theorem fn_r{N:List Str}{n:Nat}{F:SFr T}{t:TS}(hN:0<N.length)(hs:SSr k 0 t F){vs:List V}{H:Hp}{Q:VK}{E:XK}(h:spR k n (fnR N.length F) vs H Q E):t {nx:=λ_ H'=>Q .non H',rt:=Q} (zgi N vs) H:=by
 obtain⟨fx,v,vs',ds,R,st,d,fr,st',rfl,hn,hf,hR,ht,r,g,q⟩:=h
 have hh:=zvi (N:=N) (k:=k) hN hf hR ht r
 have mv:∀{H':Hp},Same (Offs R H) H'->(∀b,fx b->∃o,H' b=some o)->MvR R H H':=λ{H'} s l=>⟨λb o nb e=>s b o (by rw[Offs.get nb];exact e),λb o e=>by
  by_cases z:R b
  ·exact l b (hR b z)
  ·exact⟨o,s b o (by rw[Offs.get z];exact e)⟩⟩
 unfold fnR at g
 split at g
 ·rename_i d' fr' s' eo
  cases g
  refine hs fx _ _ _ H v R st _ hh _ eo λw H' s l t rt nr=>q w H' (mv s l) t ⟨rt.1,λe=>?_⟩
  obtain⟨a,g1,g2,g3⟩:=rt.2 e
  refine⟨a,g1,?_,g3⟩
  rw[Offs.get (nr e a g1)]at g2
  exact g2
 ·rename_i e' s' eo
  cases g
  exact hs fx _ _ _ H v R st _ hh _ eo λσ H' h'=>q .non H' (mv h'.ok.base h'.ok.fxs) h'.th ⟨zhf,λz=>by cases z⟩
 ·cases g
noncomputable def zfy(a:AFr T):IFr T:=λenv st=>(a env st).bind λx=>match x.1 with
 | [⟨.int j,_,_⟩]=>if -(2 ^ 62)<=j/\j<2 ^ 62 then some (znn 0 j.toNat,[],x.2)else none
 | _=>none
theorem znd{ta:TA}{a:AFr T}(h1:SAr k f ta a):SIr k f (iRng1 ta) (zfy a):=by
 intro fx H0 env σ H v R st hh ds bs st' e Rk q
 unfold zfy at e
 obtain⟨⟨rs,s1⟩,er,e⟩:=qA.mp e
 dsimp only at e
 split at e
 ·split at e
  ·rename_i hj
   cases e
   refine h1 fx H0 env σ H v R st hh _ _ er _ λvs H1 m k1 hv=>?_
   cases hv with
   | cons hv t=>
    cases t
    cases zda hv.rp
    exact⟨_,rfl,hj.1,hj.2,q _ H1 m k1 zyy⟩
  ·cases e
 ·cases e
end
section
variable{f:Nat}
end
section
variable{J:Nat->Prop}{f:Nat}
noncomputable def SGks(J:Nat->Prop)(g:TGs)(f:GTs):Prop:=∀(fx:Addr->Prop)(H0:Hp)(env:DEnv)(σ:St)(H:Hp)(ds:List PyData)(vs:List V),EnvOk fx H0 env σ H->Rps (Offs (λa=>fx a\/own env σ a) H) ds vs->∀env',f ds env=some env'->∀Q:St->Hp->Prop,
 (∀σ',EnvOk fx H0 env' σ' H->(∀j,J j->σ'[j]?=σ[j]?)->Q σ' H)->g vs σ H Q
theorem zahg:SGks J gNil zfd:=by
 intro fx H0 env σ H ds vs h r env' e Q q
 cases ds with
 | nil=>cases e;unfold Rps at r;exact⟨r,q _ h λ_ _=>rfl⟩
 | cons _ _=>cases e
theorem zvj{i:Nat}{t:TGs}{g:GTs}(hJ:¬J i)(h1:SGks J t g):SGks J (gCons (gName i) t) (zbe i g):=by
 intro fx H0 env σ H ds vs h r env' e Q q
 cases ds with
 | nil=>cases e
 | cons d ds=>
  unfold Rps at r
  obtain⟨v,ws,rfl,r1,r2⟩:=r
  refine⟨v,ws,rfl,h1 fx H0 (env.set i (.pl d)) _ H ds ws (h.setPl i r1) (Rps.same (Offs.sub λb z=>z.imp (λy=>y) (zwz b)) _ r2) env' e Q λσ' k1 k2=>q σ' k1 λj hj=>(k2 j hj).trans (qP λz=>hJ (by rw[z];exact hj))⟩
theorem zalm{K:qC}{n:Nat}{t:TGs}{g:GTs}(h1:SGks J t g):SGk J (gTup K n t) (gT n g):=by
 intro fx H0 env σ H d v h r env' e Q q
 unfold gT at e
 cases d with
 | tuple ds=>
  have e:(if ds.length=n then g ds env else none)=some env':=e
  split at e
  ·rename_i hn
   obtain⟨a,xs,rfl,ha,rs⟩:=zdc r
   exact⟨a,xs,rfl,SqT.of (zdl ha),by rw[<- rs.length];exact hn,h1 fx H0 env σ H ds xs h rs env' e Q q⟩
  ·cases e
 | _=>cases e
end
section
variable{own:List Str}{fr:List Nat}{f k:Nat}{env:DEnv}
end
section
variable{T:Type}{k:Kind T}{f:Nat}
noncomputable def zgw(g:GT)(t:TF)(e:EFr T)(env:DEnv):List PyData->T->Option (List PyData×T)
 | [],st=>some ([],st)
 | d::ds,st=>(g d env).bind λe1=>(t e1).bind λb=>if b=true then(e e1 st).bind λx=>(zgw g t e env ds x.2).map λy=>(x.1.d::y.1,y.2)else zgw g t e env ds st
noncomputable def zls(own:List Str)(fr:List Nat)(it:IFr T)(g:GT)(t:TF)(e:EFr T):EFr T:=λenv st=>(it env st).bind λz=>if z.1.length<100000 then
 (zgw g t e (envB own fr env) z.1 z.2.2).map λy=>(⟨.list y.1,true,if zdb y.1=true then[]else z.2.1++capA fr env⟩,y.2)else none
theorem zaln{own:List Str}{fr:List Nat}{env:DEnv}{kk:Nat}(hk:fr[kk]?=some f)(hn:env[f]?=some .no):(envB own fr env)[own.length+kk]?=some .no:=by
 unfold envB
 rw[qh (by simp)]
 simp only[qD,qCf,qa,hk,qCD]
 rw[qK,hn];rfl
theorem zmc{own:List Str}{fr:List Nat}{kk:Nat}{wi:TI}{g:TG}{tt:TT}{te:TE}{it:IFr T}{gf:GT}{t:TF}{e:EFr T}(hk:fr[kk]?=some f)(h1:SIr k f wi it)(h2:SGk (λj=>own.length<=j) g gf)(hx:GX own.length gf)(h3:ST tt t)(h4:SEr k (own.length+kk) te e) :
  SEr k f (tComp1 wi g tt te own fr) (zls own fr it gf t e):=by
 intro fx H0 env σ H v R st hh rr st' hr Q q
 unfold zls at hr
 obtain⟨⟨ds,bs,s0⟩,ei,hr⟩:=qA.mp hr
 split at hr
 ·rename_i hlen
  have hlen:ds.length<100000:=hlen
  obtain⟨⟨rs,sE⟩,ers,hr⟩:=qH.mp hr
  cases hr
  refine h1 fx H0 env σ H v R st hh ds bs s0 ei _ λJ H1 m0 k0 yl=>λp hp=>?_
  have pR:¬R p:=λz=>by obtain⟨o,eo⟩:=k.live k0.th p z;rw[hp]at eo;cases eo
  have hB:=zpe k0.ok (Same.refl H1) hp own fr bs
  generalize hA:(λb=>lim fx env σ (bs++capA fr env) b)=A
  have hA':∀b,lim fx env σ (bs++capA fr env) b↔A b:=λb=>by rw[<- hA]
  have eA:(λb=>lim fx env σ (bs++capA fr env) b\/b=p)=λb=>A b\/b=p:=by rw[<- hA]
  rw[eA]at hB
  have RA:∀b,R b->A b\/b=p:=λb z=>.inl ((hA' b).mp (.inl (hh.off b z)))
  have hB:Has k (own.length+kk) (λb=>A b\/b=p) (Offs R H1) (envB own fr env) (tau own fr σ) (upd H1 p (.lst [])) v R s0:=⟨hB.unbase (Offs.same _ _),zaln hk hh.no,zxa hk hh.sl,k.stay k0.th λb o z eo=>by rw[zax λy=>pR (by rw[<- y];exact z)];exact eo,RA,λb z=>Offs.out z⟩
  have nA:¬A p:=λz=>by
   obtain⟨o,eo⟩:=k0.ok.lims _ p ((hA' p).mpr z)
   rw[hp]at eo;cases eo
  have seen:∀{σ':St}{H':Hp}{s':T},Has k (own.length+kk) (λb=>A b\/b=p) (Offs R H1) (envB own fr env) σ' H' v R s'->Same (Offs (λb=>fx b\/L2.own (frzs env bs) σ b) H1) (Offs (λb=>A b\/b=p) H'):=λ{σ' H' s'} hE b o eb=>by
   obtain⟨n,eb⟩:=Offs.of eb
   have hb:H' b=some o:=hE.ok.base b o (by rw[Offs.get λz=>n (.inl (hh.off b z))];exact eb)
   rw[Offs.get]
   ·exact hb
   ·rintro(z|z)
    ·rcases(hA' b).mpr z with z|⟨i,d,z1,z2,z3⟩
     ·exact n (.inl z)
     ·exact n (.inr ⟨i,d,zmb (λy=>z1 (qAb _ y)) z2,z3⟩)
    ·rw[z,hp]at eb;cases eb
  refine⟨λi m σ' H'=>m=ds.length - i/\i<=ds.length/\∃vs done rest s',H' p=some (.lst vs)/\Rps (Offs (λb=>A b\/b=p) H') done vs/\done.length<=i/\zgw gf t e (envB own fr env) (ds.drop i) s'=some (rest,sE)/\done++rest=rs/\Has k (own.length+kk) (λb=>A b\/b=p) (Offs R H1) (envB own fr env) σ' H' v R s',
   ⟨ds.length,rfl,qAt _,[],[],rs,s0,zaz,zci,qAt _,ers,rfl,hB⟩,?_⟩
  rintro i m σ' H' ⟨rfl,hi,vs,done,rest,s',ep,rd,dl,ec,edr,hE⟩
  obtain⟨yi,ys⟩:=yl _ H' hE.ok.fxs (seen hE)
  by_cases hlt:i<ds.length
  ·obtain⟨yg,yy⟩:=yi i ds[i] (qF hlt)
   refine .inr ⟨yg,λσ'' H''=>i+1<=ds.length/\∃vs done rest s'',H'' p=some (.lst vs)/\Rps (Offs (λb=>A b\/b=p) H'') done vs/\done.length<=i+1/\zgw gf t e (envB own fr env) (ds.drop (i+1)) s''=some (rest,sE)/\done++rest=rs/\Has k (own.length+kk) (λb=>A b\/b=p) (Offs R H1) (envB own fr env) σ'' H'' v R s'',?_,?_⟩
   ·rintro σ'' H'' ⟨hle,hq⟩
    exact⟨ds.length - (i+1),by omega,rfl,hle,hq⟩
   ·intro x H'' hy
    obtain⟨sy,ry⟩:=yy x H'' hy
    rw[qAY hlt]at ec
    obtain⟨e1,ee1,ec⟩:=qA.mp ec
    obtain⟨b,eb,ec⟩:=qA.mp ec
    have ry':Rp (Offs (λa=>(A a\/a=p)\/L2.own (envB own fr env) σ' a) H'') ds[i] x:=Rp.same (Offs.sub λb z=>z.elim (λy=>y) λ⟨j,d',z,_⟩=>absurd z zhx) _ ry
    have hU:=hE.up sy
    obtain⟨gl,gk⟩:=hx _ _ _ ee1
    refine h2 _ (Offs R H1) (envB own fr env) σ' H'' _ x hU.ok ry' e1 ee1 _ λσ2 hE2 k2=>?_
    refine h3 _ (Offs R H1) e1 σ2 H'' hE2 b eb _ λH3 s3=>?_
    have hE3:Has k (own.length+kk) (λb=>A b\/b=p) (Offs R H1) e1 σ2 H3 v R s':=⟨hE2.up s3,by rw[gk _ (by omega)];exact hU.no,(k2 _ (by omega)).trans hU.sl,(hU.up s3).th,hU.off,hU.low⟩
    have back:∀{H4:Hp}{s4:T},Has k (own.length+kk) (λb=>A b\/b=p) (Offs R H1) e1 σ2 H4 v R s4->Has k (own.length+kk) (λb=>A b\/b=p) (Offs R H1) (envB own fr env) σ2 H4 v R s4:=λ{H4 s4} hq=>⟨hq.ok.weaken gl.symm (λj d' ej=>by
     by_cases hj:own.length<=j
     ·rw[gk j hj];exact ej
     ·obtain⟨_,k,rfl,_⟩:=zof ej;omega) λj d'=>zhx,hU.no,hq.sl,hq.th,hq.off,hq.low⟩
    cases b with
    | false=>
     have ec:zgw gf t e (envB own fr env) (ds.drop (i+1)) s'=some (rest,sE):=ec
     exact iteF ⟨hlt,vs,done,rest,s',s3 _ _ (sy _ _ ep),Rps.same (Offs.grow (sy.trans s3)) _ rd,qBN dl,ec,edr,back hE3⟩
    | true=>
     have ec:((e e1 s').bind λx=>(zgw gf t e (envB own fr env) (ds.drop (i+1)) x.2).map λy=>(x.1.d::y.1,y.2))=some (rest,sE):=ec
     obtain⟨⟨r,s4⟩,er,ec⟩:=qA.mp ec
     obtain⟨⟨rest',sE'⟩,er',ec⟩:=qH.mp ec
     cases ec
     refine iteT (h4 _ (Offs R H1) e1 σ2 H3 v R s' hE3 r s4 er _ λw H4 m4 k4 hv=>?_)
     have t3:=sy.trans s3
     have ep4:H4 p=some (.lst vs):=m4.keep p _ pR (t3 _ _ ep)
     have so:Same (Offs (λb=>A b\/b=p) H') (Offs (λb=>A b\/b=p) H4):=λb o eb=>by
      obtain⟨n,eb⟩:=Offs.of eb
      rw[Offs.get n]
      exact m4.keep b o (λz=>n (RA b z)) (t3 _ _ eb)
     have k5:=back k4
     refine⟨vs,ep4,zov (by rw[<- rd.length];omega),hlt,vs++[w],done++[r.d],rest',s4,zaz,?_,by rw[qI];simp;omega,er',by rw[<- edr];simp,⟨k5.ok.updFx (.inr rfl) (by rw[Offs.get pR];exact hp),k5.no,k5.sl,k.stay k5.th λb o z eo=>by rw[zax λy=>pR (by rw[<- y];exact z)];exact eo,k5.off,k5.low⟩⟩
     rw[Offs.upd (.inr rfl)]
     exact(Rps.same so _ rd).append (zcs (Rp.same (Offs.sub λb z=>.inl z) _ hv.rp) zci)
  ·have hi':i=ds.length:=by omega
   subst hi'
   rw[qA0]at ec
   cases ec
   rw[qAL]at edr
   subst edr
   have m1:MvR R H1 H':=⟨λb o n eb=>hE.ok.base b o (by rw[Offs.get n];exact eb),λb o eb=>by
    by_cases z:R b
    ·exact k.live hE.th b z
    ·exact⟨o,hE.ok.base b o (by rw[Offs.get z];exact eb)⟩⟩
   refine .inl ⟨ys,q _ H' (m0.trans m1) (k0.mv m1 hE.th) ⟨?_,λ_=>⟨p,rfl,m0.free hp,?_⟩⟩⟩
   ·show Rp (Offs (lim fx env σ (if zdb done=true then[]else bs++capA fr env)) H') (.list done) (.ref p)
    have nl:∀cs,¬lim fx env σ cs p:=λcs z=>by
     obtain⟨o,eo⟩:=k0.ok.lims _ p z
     rw[hp]at eo;cases eo
    refine zew (by rw[Offs.get (nl _)];exact ep) ?_
    split
    ·rename_i f;exact zis f rd
    ·exact Rps.same (Offs.sub λb z=>.inl ((hA' b).mp z)) _ rd
   ·show zgr (Offs (λb=>lim fx env σ (if zdb done=true then[]else bs++capA fr env) b\/b=p) H') H' p (.list done)
    refine⟨vs,ep,?_⟩
    split
    ·rename_i f;exact zis f rd
    ·exact Rps.same (Offs.sub λb z=>z.elim (λy=>.inl ((hA' b).mp y)) .inr) _ rd
 ·cases hr
end
structure Pen where
 cells:List Int
 acc:Int
 seed:Int
 cnt:Int
noncomputable def zahh(H:Hp)(v:V)(R:Addr->Prop)(st:Pen):Prop:=∃p q,v=.ref p/\p≠q/\H p=some (.lst [.ref q,.int st.acc,.int st.seed,.int st.cnt])/\H q=some (.lst (st.cells.map .int))/\∀b,R b↔b=p\/b=q
noncomputable def penK:Kind Pen where
 at_:=zahh
 live:=λ{H v R st} ⟨p,q,_,_,hp,hq,hR⟩ b hb=>by
  rcases(hR b).mp hb with rfl|rfl
  ·exact⟨_,hp⟩
  ·exact⟨_,hq⟩
 stay:=λ{H H' v R st} ⟨p,q,e,ne,hp,hq,hR⟩ k=>⟨p,q,e,ne,k p _ ((hR p).mpr (.inl rfl)) hp,k q _ ((hR q).mpr (.inr rfl)) hq,hR⟩
noncomputable def Pen.get(st:Pen):Nat->Option Int
 | 1=>some st.acc
 | 2=>some st.seed
 | 3=>some st.cnt
 | _=>none
noncomputable def Pen.set(st:Pen):Nat->Int->Option Pen
 | 1,x=>some {st with acc:=x}
 | 2,x=>some {st with seed:=x}
 | 3,x=>some {st with cnt:=x}
 | _,_=>none
section
variable{f:Nat}
noncomputable def rGet(i:Nat):EFr Pen:=λ_ st=>(st.get i).map λx=>(⟨.int x,false,[]⟩,st)
theorem zjn{K:qC}{i:Nat}:SEr penK f (tOp (rIxU K) (tVar f) (tC (.int (i:Int)))) (rGet i):=by
 intro fx H0 env σ H v R st hh r st' e Q q
 obtain⟨x,ex,e⟩:=qH.mp e
 cases e
 obtain⟨p,q',rfl,ne,hp,hq,hR⟩:=hh.th
 refine⟨.ref p,hh.sl,[.ref q',.int st.acc,.int st.seed,.int st.cnt],.int x,.inl (SqL.of hp),?_,q _ H (MvR.same (Same.refl _)) hh ⟨zad,λz=>by cases z⟩⟩
 unfold Pen.get at ex
 split at ex<;>cases ex<;>rfl
noncomputable def rPut(i:Nat)(g:EFr Pen):SFr Pen:=λenv st=>(g env st).bind λx=>match x.1.d with
 | .int y=>(x.2.set i y).map λs=>.nx env s
 | _=>none
theorem zadk{fx:Addr->Prop}{H0:Hp}{env:DEnv}{σ:St}{H:Hp}{v:V}{R:Addr->Prop}{st:Pen}(hh:Has penK f fx H0 env σ H v R st){p b:Addr}{o:HO}{st':Pen}(hb:R b)(t:zahh (upd H b o) v R st'):Has penK f fx H0 env σ (upd H b o) v R st':=
 hh.mv ⟨λc u n e=>by rw[zax λz=>n (by rw[z];exact hb)];exact e,λc u e=>by
  by_cases z:c=b
  ·rw[z];exact⟨_,zaz⟩
  ·exact⟨u,by rw[zax z];exact e⟩⟩ t
theorem ztn{i:Nat}{te:TE}{g:EFr Pen}(h1:SEr penK f te g):SSr penK f (tAsg te (gSub (tVar f) (tC (.int (i:Int))) zakm)) (rPut i g):=by
 intro fx H0 env σ H v R st D hh o e q
 unfold rPut at e
 obtain⟨⟨⟨d,fr,bs⟩,s1⟩,er,e⟩:=qA.mp e
 cases d with
 | int y=>
  obtain⟨s2,es,rfl⟩:=qH.mp e
  refine h1 fx H0 env σ H v R st hh _ s1 er _ λw H1 m1 k1 hv=>?_
  cases zda hv.rp
  obtain⟨p,q',rfl,ne,hp,hq,hR⟩:=k1.th
  have es:s1.set i y=some s2:=es
  have fin:∀j,ixN 4 (i:Int)=some j->zahh (upd H1 p (.lst ([.ref q',.int s1.acc,.int s1.seed,.int s1.cnt].set j (.int y)))) (.ref p) R s2:=λj hj=>by
   refine⟨p,q',rfl,ne,?_,?_,hR⟩
   ·rw[zaz]
    unfold Pen.set at es
    split at es
    ·cases es;cases hj;rfl
    ·cases es;cases hj;rfl
    ·cases es;cases hj;rfl
    ·cases es
   ·rw[zax ne.symm]
    unfold Pen.set at es
    split at es<;>cases es<;>exact hq
  obtain⟨j,hj⟩:∃j,ixN 4 (i:Int)=some j:=by
   unfold Pen.set at es
   split at es
   ·exact⟨1,rfl⟩
   ·exact⟨2,rfl⟩
   ·exact⟨3,rfl⟩
   ·cases es
  exact⟨_,k1.sl,p,_,_,j,rfl,rfl,hp,hj,q _ _ (zadk (p:=p) k1 ((hR p).mpr (.inl rfl)) (fin j hj))⟩
 | _=>cases e
noncomputable def zadl:EFr Pen:=λ_ st=>match st.cells with
 | []=>none
 | c::cs=>some (⟨.int c,false,[]⟩,{st with cells:=cs})
theorem zahi{K:qC}:SEr penK f (tBM K "list" zacc (tOp (rIxU K) (tVar f) (tC (.int 0))) (tCons (tC (.int 0)) tNil)) zadl:=by
 intro fx H0 env σ H v R st hh r st' e Q q
 unfold zadl at e
 split at e
 ·cases e
 ·rename_i c cs ec
  cases e
  obtain⟨p,q',rfl,ne,hp,hq,hR⟩:=hh.th
  rw[ec]at hq
  have ht:zahh (upd H q' (.lst (cs.map .int))) (.ref p) R {st with cells:=cs}:=⟨p,q',rfl,ne,by rw[zax ne];exact hp,zaz,hR⟩
  have k1:=zadk (p:=p) hh ((hR q').mpr (.inr rfl)) ht
  refine⟨.ref p,hh.sl,[.ref q',.int st.acc,.int st.seed,.int st.cnt],.ref q',.inl (SqL.of hp),rfl,.inl ⟨rfl,_,SqL.of hq⟩,q',(c::cs).map .int,0,0,.int c,rfl,rfl,hq,by decide,by decide,?_,rfl,q _ _ ⟨λb o n e=>by rw[zax λz=>n (by rw[z];exact(hR q').mpr (.inr rfl))];exact e,λb o e=>?_⟩ k1 ⟨zad,λz=>by cases z⟩⟩
  ·show seqIndex? 0 ((c::cs).map V.int).length=some 0
   rw[qD,qV]
   unfold seqIndex?
   simp
  ·by_cases z:b=q'
   ·rw[z];exact⟨_,zaz⟩
   ·exact⟨o,by rw[zax z];exact e⟩
noncomputable def zrn:TFr Pen:=λ_ st=>if st.cells.length<100000 then some (!st.cells.isEmpty,st)else none
theorem zadm:∀(cs:List Int),qAQ (cs.map PyData.int)=true/\qu (cs.map PyData.int)=0
 | []=>⟨by simp[qAQ],by simp[qu]⟩
 | c::cs=>by
  obtain⟨h1,h2⟩:=zadm cs
  rw[qAE]
  unfold qAQ qu
  rw[h1,h2]
  exact⟨by simp[PyData.canLay0],by simp[PyData.depth]⟩
theorem zoi{H:Hp}:∀(cs:List Int),Rps H (cs.map .int) (cs.map .int)
 | []=>zci
 | c::cs=>zcs zad (zoi cs)
theorem zahj(cs:List Int):neD (.list (cs.map .int)) (.list [])=some (.bool (!cs.isEmpty),false):=by
 obtain⟨h1,h2⟩:=zadm cs
 have s1:qx (.list (cs.map .int))=true:=by
  unfold qx PyData.canLay0 PyData.depth
  rw[h1,h2];rfl
 have s2:qx (.list [])=true:=by decide +kernel
 unfold neD
 rw[if_pos (by unfold eqOk;rw[s1,s2];simp)]
 cases cs with
 | nil=>rfl
 | cons c cs=>simp[qk,PyData.eqvAll]
theorem zadn{K:qC}:STr penK f (tTest (tOp (λx y H Q=>rNe x y H Q\/rEqD K true x y H Q) (tOp (rIxU K) (tVar f) (tC (.int 0))) (tLst tNil))) zrn:=by
 intro fx H0 env σ H v R st hh b st' e Q q
 unfold zrn at e
 split at e
 ·cases e
  obtain⟨p,q',rfl,ne,hp,hq,hR⟩:=id hh.th
  refine⟨.ref p,hh.sl,[.ref q',.int st.acc,.int st.seed,.int st.cnt],.ref q',.inl (SqL.of hp),rfl,by show 0<=_;exact zet (by decide),λn hn=>?_⟩
  have sn:Same H (upd H n (.lst [])):=Same.new hn
  have of:∀b,Offs (λ_=>False) (upd H n (.lst [])) b=upd H n (.lst []) b:=λb=>Offs.get λz=>z
  refine zaal (K:=K) (λ_=>False) (upd H n (.lst [])) (.ref q') (.ref n) (.list (st.cells.map .int)) (.list []) (λb z=>z.elim) (zew (by rw[of];exact sn _ _ hq) (zoi _)) (zew (by rw[of];exact zaz) zci) _ _ (zahj _) _ λw H' s' rp _=>⟨_,zka rp,q H' (MvR.same (sn.trans s')) (hh.up (sn.trans s'))⟩
 ·cases e
end
section
variable{T:Type}{k:Kind T}{f:Nat}
noncomputable def zjr(c:TFr T)(body:SFr T):Nat->SFr T
 | 0,_,_=>none
 | n+1,env,st=>(c env st).bind λx=>if x.1=true then(body env x.2).bind λo=>match o with
  | .nx e2 s2=>zjr c body n e2 s2
  | .ct e2 s2=>zjr c body n e2 s2
  | .bk e2 s2=>some (.nx e2 s2)
  | .rt d fr s2=>some (.rt d fr s2)
  else some (.nx env x.2)
theorem zado{tc:TT}{tb:TS}{c:TFr T}{body:SFr T}(n:Nat)(h1:STr k f tc c)(h2:SSr k f tb body):SSr k f (tWhile tc tb) (zjr c body n):=by
 intro fx H0 env σ H v R st D hh o e q
 refine⟨λm σ' H'=>∃env' st',zjr c body m env' st'=some o/\Has k f fx H0 env' σ' H' v R st',⟨n,env,st,e,hh⟩,?_⟩
 rintro m σ' H' ⟨env',st',e',h'⟩
 cases m with
 | zero=>cases e'
 | succ m=>
  obtain⟨⟨b,s1⟩,eb,e'⟩:=qA.mp e'
  refine h1 fx H0 env' σ' H' v R st' h' b s1 eb _ λH1 m1 k1=>?_
  cases b with
  | false=>cases e';exact iteF (q σ' H1 k1)
  | true=>
   have e':((body env' s1).bind λo=>match o with
    | .nx e2 s2=>zjr c body m e2 s2
    | .ct e2 s2=>zjr c body m e2 s2
    | .bk e2 s2=>some (.nx e2 s2)
    | .rt d fr s2=>some (.rt d fr s2))=some o:=e'
   obtain⟨o1,eo1,e'⟩:=qA.mp e'
   refine iteT ⟨λσ'' H''=>∃env'' st'',zjr c body m env'' st''=some o/\Has k f fx H0 env'' σ'' H'' v R st'',λσ'' H'' hq=>⟨m,Nat.lt_succ_self _,hq⟩,?_⟩
   refine h2 fx H0 env' σ' H1 v R s1 _ k1 o1 eo1 ?_
   cases o1 with
   | nx e2 s2=>exact λσ3 H3 hq=>⟨e2,s2,e',hq⟩
   | ct e2 s2=>exact λσ3 H3 hq=>⟨e2,s2,e',hq⟩
   | bk e2 s2=>cases e';exact λσ3 H3 hq=>q σ3 H3 hq
   | rt d fr s2=>cases e';exact q
end
theorem zahk(t b:Addr)(items items2:Array Value)(n n2:Nat)(dd dd2:Option Addr)(sl sl2:Array (Option Value))(hc0:items.isEmpty=true) :
  Meets (Builtin.«tuple.__add__» ⟨[.ref t,.ref b],[]⟩) (λ_ R s=>s.heap.get? t=some {cls:=.type "tuple",dict:=dd,data:=.seq items n,slots:=sl}/\s.heap.get? b=some {cls:=.type "tuple",dict:=dd2,data:=.seq items2 n2,slots:=sl2}/\R (.ok (.ret (.ref b))) s):=
 .of_wp λprog w A R s h=>by
  obtain⟨hp,g,d,tk,os⟩:=s;obtain⟨hl,hb,h⟩:=h
  have f2:=sub_tuple_tuple
  wp_walk using qBJ hl,qBJ hb
  exact⟨_,rfl,h⟩
noncomputable def zapl(K:qC):R2:=λx y H Q=>zagm K x y H Q\/∃a b ys,x=.ref a/\y=.ref b/\SqT K H a []/\SqT K H b ys/\Q y H
theorem zxg{X:Cx}{K:qC}(hK:X.K=K):OpR X (binaryOp .Add) (zapl K):=by
 subst hK
 intro pins s σ H x y v u Q I rx ry h
 rcases h with h|⟨a,b,ys,rfl,rfl,ha,hb,q⟩
 ·exact zaci pins s σ H x y v u Q I rx ry h
 ·cases rx
  cases ry
  obtain⟨its,r1,p1,_⟩:=I.tuple ha
  obtain⟨its2,r2,p2,_⟩:=I.tuple hb
  cases r1
  obtain⟨⟨cls,dd,data,sl⟩,ho,hc,n,hd⟩:=id p1
  obtain⟨⟨cls2,dd2,data2,sl2⟩,ho2,hc2,n2,hd2⟩:=id p2
  simp only at hc hd hc2 hd2
  subst hc hd hc2 hd2
  exact concat_meets ⟨_,ho,rfl⟩ ⟨_,ho2,rfl⟩ qCS seq_tuple_add qBf qBd (qBX _ _)
   (zahk a b _ its2.toArray n n2 dd dd2 sl sl2 (by rfl)) ⟨ho,ho2,⟨.ref b,H,I,rfl,q⟩⟩
noncomputable def addE:OF
 | .tuple [],.tuple ys=>some (.tuple ys,false)
 | x,y=>addD x y
theorem zxh{K:qC}:SO (zapl K) addE:=by
 intro A H x y dx dy hA rx ry d fr e Q q
 unfold addE at e
 split at e
 ·cases e
  obtain⟨a,xs,rfl,ha,r⟩:=zdc rx
  obtain⟨b,ys',rfl,hb,r'⟩:=zdc ry
  have:xs=[]:=by unfold Rps at r;exact r
  subst this
  exact .inr ⟨a,b,_,rfl,rfl,SqT.of (zdl ha),SqT.of (zdl hb),q _ H (Same.refl _) ry λz=>by cases z⟩
 ·exact .inl (zdm A H x y dx dy hA rx ry d fr e Q q)
section
variable{K:qC}{ns:List Int}{J:Nat->Prop}{f:Nat}
end
noncomputable def zapm(K:qC)(H:Hp)(v:V)(R:Addr->Prop)(ns:List Int):Prop:=∃a,v=.ref a/\(∀b,R b->b=a/\∃o,H b=some o)/\SqL K H a (ns.map .int)/\(R a\/∀H',SqL K H' a (ns.map .int))
noncomputable def scrK(K:qC):Kind (List Int) where
 at_:=zapm K
 live:=λ{H v R st} ⟨a,_,h,_⟩ b hb=>(h b hb).2
 stay:=λ{H H' v R st} ⟨a,e,h,q,r⟩ k=>⟨a,e,λb hb=>⟨(h b hb).1,let⟨o,eo⟩:=(h b hb).2;⟨o,k b o hb eo⟩⟩,by
  rcases r with r|r
  ·rcases q with(q|⟨o,q⟩)|q
   ·exact .inl (.inl (k a _ r q))
   ·exact .inl (.inr ⟨o,k a _ r q⟩)
   ·exact .inr q
  ·exact r H',r⟩
theorem zapn{K:qC}{H:Hp}{a:Addr}{ns:List Int}(h:SqL K H a (ns.map .int)):∃R:Addr->Prop,(∀b,R b->∃o,H b=some o)/\zapm K H (.ref a) R ns:=by
 rcases h with(h|⟨o,h⟩)|h
 ·have l:∀b,b=a->∃o,H b=some o:=λb hb=>⟨_,hb▸h⟩
  exact⟨λb=>b=a,l,a,rfl,λb hb=>⟨hb,l b hb⟩,.inl (.inl h),.inl rfl⟩
 ·have l:∀b,b=a->∃o,H b=some o:=λb hb=>⟨_,hb▸h⟩
  exact⟨λb=>b=a,l,a,rfl,λb hb=>⟨hb,l b hb⟩,.inl (.inr ⟨o,h⟩),.inl rfl⟩
 ·exact⟨λ_=>False,λb hb=>hb.elim,a,rfl,λb hb=>hb.elim,.inr h,.inr λ_=>.inr h⟩
theorem zalo(ns:List Int):cutV (ns.map V.int) none (some 63)=(ns.take 63).map .int:=by
 unfold cutV
 have e1:HT.sIx (ns.map V.int).length 0 none=0:=rfl
 rw[e1,show(63:Int)=((63:Nat):Int)from rfl,HT.sIx_nat]
 rw[qBw,qCE,qCZ,qD]
 by_cases h:63<=ns.length
 ·rw[qBr h]
 ·rw[qBj (by omega),qAp (by simp),qAp (by simp;omega)]
section
variable{K:qC}{f:Nat}
noncomputable def rScr:EFr (List Int):=λ_ ns=>some (⟨.list ((ns.take 63).map .int),true,[]⟩,ns)
theorem zadp:SEr (scrK K) f (tSl (rSlU K) (tVar f) tNoPart (tPart (tC (.int 63)))) rScr:=by
 intro fx H0 env σ H v R ns hh r st' e Q q
 cases e
 obtain⟨a,rfl,h1,h2,h3⟩:=id hh.th
 refine⟨.ref a,hh.sl,63,rfl,a,ns.map .int,rfl,h2,λp hp=>?_⟩
 rw[zalo]
 have sn:Same H (upd H p (.lst ((ns.take 63).map .int))):=Same.new hp
 have np:¬lim fx env σ [] p:=λz=>by obtain⟨o,eo⟩:=hh.ok.lims [] p z;rw[hp]at eo;cases eo
 refine q _ _ (MvR.same sn) (hh.up sn) ⟨zew (by rw[Offs.get np];exact zaz) (zoi _),λ_=>⟨p,rfl,hp,_,zaz,zoi _⟩⟩
end
section
variable{T:Type}{k:Kind T}{f:Nat}
noncomputable def zadq(a:AFr T):IFr T:=λenv st=>(a env st).bind λx=>match x.1 with
 | [r]=>(zft r.d).map λds=>(zlp ds,r.bs,x.2)
 | _=>none
theorem zahl{K:qC}{ta:TA}{a:AFr T}(h1:SAr k f ta a):SIr k f (iEnumX K ta) (zadq a):=by
 intro fx H0 env σ H v R st hh ds bs st' e Rk q
 unfold zadq at e
 obtain⟨⟨rs,s1⟩,er,e⟩:=qA.mp e
 dsimp only at e
 split at e
 ·rename_i r
  obtain⟨d1,ed1,e⟩:=qH.mp e
  cases e
  refine h1 fx H0 env σ H v R st hh _ _ er _ λvs H1 m k1 hv=>?_
  cases hv with
  | cons hv t=>
   cases t
   obtain⟨b,a,xs,rfl,r1,e1⟩:=zza (K:=K) (Rp.same (Offs.sub (zgh (bs:=r.bs))) _ hv.rp) ed1
   refine⟨b,a,rfl,⟨xs,e1 _ H1 (Same.refl _)⟩,q _ H1 m k1 ?_⟩
   intro A H' hA ss
   have q1:=e1 A H' ss
   have r1':=Rps.same ss _ r1
   have hl:(zlp d1).length=d1.length:=by unfold zlp;simp
   refine⟨λi d e=>?_,⟨xs,q1,by rw[hl,r1.length];exact qL _⟩⟩
   unfold zlp at e
   rw[qa,qCp]at e
   cases e0:d1[i]? with
   | none=>rw[e0]at e;cases e
   | some d0=>
    rw[e0]at e
    obtain⟨v,hv,rv⟩:=r1'.get2 e0
    have e:PyData.tuple [.int ((0+i:Nat):Int),d0]=d:=qo e
    rw[qCo]at e
    subst e
    refine⟨⟨xs,v,q1,hv⟩,λx H'' y=>?_⟩
    obtain⟨p,y',rfl,hp,rfl,y⟩:=y
    have:=y xs q1
    rw[hv]at this
    cases this
    exact⟨Same.new hp,zjl hp (zei hA hp) (zcs zad (zcs rv zci))⟩
 ·cases e
end
noncomputable def zaar(K:qC)(sd:List Int->Option Int):Sp:=λvs H Q _=>∃(a:Addr)(ns:List Int)(s:Int),vs=[.ref a]/\SqL K H a (ns.map .int)/\sd ns=some s/\∀p q H',p≠q->H' p=some (.lst [.ref q,.int 0,.int s,.int 0])->H' q=some (.lst ((ns.take 63).map .int))->Q (.ref p) H'
theorem zadr{K:qC}{sd:List Int->Option Int}{vs:List V}{H:Hp}{Q:VK}{E:XK}(h:zaar K sd vs H Q E):vs.length=1:=by
 obtain⟨a,ns,s,rfl,_⟩:=h
 rfl
noncomputable def zahm(F:SFr (List Int))(n:Nat)(g:EF):List Int->Option Int:=λns=>match F (.no::List.replicate n .no) ns with
 | some (.nx env st)=>if st=ns then(g env).bind λr=>match r.d with
  | .int s=>some s
  | _=>none else none
 | _=>none
theorem zpn{H:Hp}:∀{cs:List Int}{xs:List V},Rps H (cs.map .int) xs->xs=cs.map .int
 | [],xs,h=>by unfold Rps at h;exact h
 | c::cs,xs,h=>by
  rw[qAE]at h
  unfold Rps at h
  obtain⟨v,vs,rfl,h1,h2⟩:=h
  rw[zda h1,zpn h2];rfl
theorem zapo{K:qC}{N:List Str}{n:Nat}{F:SFr (List Int)}{g:EF}{t1:TS}{te:TE}{r:List V->Hp->VK->Prop}(hN:N.length=n+1)(hs:SSr (scrK K) 0 t1 F)(hg:SE te g)(hl:SC r zjx){vs:List V}{H:Hp}{Q:VK}{E:XK}(h:zaar K (zahm F n g) vs H Q E) :
  tSeq t1 (tRet (tLst (tCons (tCB r (tCons (tSl (rSlU K) (tVar 0) tNoPart (tPart (tC (.int 63)))) tNil)) (tCons (tC (.int 0)) (tCons te (tCons (tC (.int 0)) tNil)))))) {nx:=λ_ H'=>Q .non H',rt:=Q} (zgi N vs) H:=by
 obtain⟨a,ns,s,rfl,hS,es,q⟩:=h
 obtain⟨R,hR,hsc⟩:=zapn hS
 have hh:=zvi (N:=N) (k:=scrK K) (ds:=[]) (vs:=[]) (fx:=R) (by omega) hR (λb z=>z) hsc zci
 have e0:zpm N.length []=.no::List.replicate n .no:=by
  unfold zpm zhw
  rw[hN];rfl
 rw[e0]at hh
 unfold zahm at es
 split at es
 ·rename_i env st2 eo
  split at es
  ·rename_i est
   subst est
   obtain⟨⟨d,fr,bs⟩,er,es⟩:=qA.mp es
   cases d with
   | int s'=>
    cases es
    refine hs R _ _ _ H (.ref a) R st2 _ hh _ eo λσ1 H1 h1=>?_
    refine zadj hl (zat (zadp (K:=K) (f:=0)) zbb) R _ env σ1 H1 (.ref a) R st2 h1 ⟨.list ((st2.take 63).map .int),true,[]⟩ st2 rfl _ λw1 H2 m2 h2 v2=>?_
    obtain⟨q1,rfl,_,xs,hx,rx⟩:=v2.fr rfl
    have ex:=zpn rx
    subst ex
    refine hg R _ env σ1 H2 h2.ok _ er _ λw3 H3 s3 v3=>?_
    cases zda v3.rp
    refine⟨by show 4<=_;exact zet (by decide),λp hp=>q p q1 _ (λz=>by rw[z,s3 _ _ hx]at hp;cases hp) zaz ?_⟩
    rw[zax λz=>by rw[<- z,s3 _ _ hx]at hp;cases hp]
    exact s3 _ _ hx
   | _=>cases es
  ·cases es
 ·cases es
theorem zahn{K:qC}{N:List Str}{n:Nat}{sd:List Int->Option Int}{F:SFr Pen}{t:TS}{ns:List Int}{s:Int}{a:Addr}{H:Hp}{D:Ends}{st':Pen}(hN:N.length=n+2)(hs:SSr penK 1 t F)(hS:SqL K H a (ns.map .int))(es:sd ns=some s)
  (ef:F (List.replicate (n+2) .no) ⟨ns.take 63,0,s,0⟩=some (.rt (.bool true) false st'))(q:∀H',D.rt (.bl true) H') :
  tSeq (tAsg (tCall (zaar K sd) [] E0 (tCons (tVar 0) tNil)) (gName 1)) t D (zgi N [.ref a]) H:=by
 have st:zgi N [.ref a]=some (.ref a)::List.replicate (n+1) none:=by
  unfold zgi
  rw[hN];rfl
 rw[st]
 refine⟨.ref a,rfl,?_⟩
 have key:zaar K sd [.ref a] H (λx H1=>t D ((some (V.ref a)::List.replicate (n+1) none).set 1 (some x)) H1) E0:=?_
 exact key
 refine⟨a,ns,s,rfl,hS,es,λp q1 H' ne hp hq=>?_⟩
 have e1:(some (V.ref a)::List.replicate (n+1) none).set 1 (some (.ref p))=some (.ref a)::some (.ref p)::List.replicate n none:=by
  rw[qAf];rfl
 dsimp only
 rw[e1]
 have noE:∀(i:Nat)(x:Sl),(List.replicate (n+2) Sl.no)[i]?=some x->x=.no:=λi x e=>by
  obtain⟨h1,h2⟩:=qW.mp e
  rw[List.getElem_replicate]at h2
  exact h2.symm
 refine hs (λb=>b=p\/b=q1) (λ_=>none) _ _ H' (.ref p) (λb=>b=p\/b=q1) _ D ⟨⟨?_,λi d e=>?_,λi d e=>?_,λi j d e a' z=>?_,λb o z=>(nomatch z),λb z=>?_⟩,?_,rfl,⟨p,q1,rfl,ne,hp,hq,λb=>Iff.rfl⟩,λb z=>z,λb z=>rfl⟩ _ ef λw H2 _ _ _ rt _=>?_
 ·simp
 ·cases noE i _ e
 ·cases noE i _ e
 ·cases noE i _ z
 ·rcases z with z|z
  ·exact⟨_,z▸hp⟩
  ·exact⟨_,z▸hq⟩
 ·rw[qBi];simp
 ·rw[zka rt.1];exact q H2
noncomputable abbrev zmd(xs:List Str):Str:=Builtin.Str.glued "" xs
noncomputable def zapp:V->List V->Hp->VK->Prop:=λx vs H Q=>∃a xs,x=.str ""/\vs=[.ref a]/\H a=some (.lst (xs.map .str))/\xs.foldl (λn z=>n+z.length+0) 0<=100000/\(zmd xs).length<=100000/\Q (.str (zmd xs)) H
theorem zvk:∀{xs:List Str}{us:List Value},Vals (xs.map V.str) us->∃l:List (Str×Tok),us=strValues l/\l.map (·.1)=xs
 | [],us,h=>by cases h;exact⟨[],rfl,rfl⟩
 | x::xs,us,h=>by
  cases h with
  | cons r h=>
   obtain⟨t,rfl⟩:=r
   obtain⟨l,rfl,rfl⟩:=zvk h
   exact⟨(x,t)::l,rfl,rfl⟩
theorem zalp{X:Cx}:MtR X "str.join" zapp:=by
 intro pins s σ H x vs v us Q I rx rv h
 obtain⟨a,xs,rfl,rfl,hH,hn,hg,q⟩:=h
 obtain⟨t,rfl⟩:=rx
 obtain⟨u,rfl,ru⟩:=rv.one
 cases ru
 obtain⟨_,its,n,r,hl,e⟩:=I.lstM hH
 obtain⟨l,rfl,hx⟩:=zvk r
 have big:(100000:Nat)<=qb:=by rw[qA1];omega
 have ht:Builtin.Str.tooLong ((l.map (·.1)).toArray.foldl (·+·.length+("":Str).length) 0)=false:=by
  unfold Builtin.Str.tooLong
  rw[hx,List.foldl_toArray']
  refine decide_eq_false ?_
  have:xs.foldl (λn z=>n+z.length+("":Str).length) 0<=100000:=hn
  omega
  simp
 refine qBl F.slot_str_join (qCs s _ _) F.entry_str_join (F.args_str_join_2 _ _) (meets_str_join_list "" t a l ht) ⟨⟨_,e,rfl,n,rfl⟩,?_⟩
 have fin:∀(tk tk':Nat),EP X pins σ Q (.str (zmd xs) tk) {s with toks:=tk'}:=λtk tk'=>⟨.str _,H,I.tok _,⟨_,rfl⟩,q⟩
 cases l with
 | nil=>cases hx;exact⟨qAC hg big,fin _ _⟩
 | cons p l=>
  cases l with
  | nil=>
   cases hx
   have e1:zmd [p.1]=p.1:=by unfold zmd Builtin.Str.glued;rfl
   show EP X pins σ Q (.str p.1 p.2) s
   have:=fin p.2 s.toks
   rw[show[p].map (·.1)=[p.1]from rfl,e1]at this
   exact this
  | cons p2 l=>subst hx;exact⟨qAC hg big,fin _ _⟩
noncomputable def zvl:PyData->Option PyData
 | .list ds=>(unT ds).bind λxs=>if xs.foldl (λn z=>n+z.length+0) 0<=100000/\(zmd xs).length<=100000 then some (.str (zmd xs))else none
 | _=>none
where unT:List PyData->Option (List Str)
 | []=>some []
 | .str x::r=>(unT r).map λxs=>x::xs
 | _::_=>none
theorem zze:∀{ds:List PyData}{xs:List Str},zvl.unT ds=some xs->ds=xs.map .str
 | [],xs,h=>by cases h;rfl
 | d::r,xs,h=>by
  cases d with
  | str x=>
   obtain⟨ys,hy,rfl⟩:=qH.mp h
   rw[zze hy];rfl
  | _=>cases h
theorem zpo{H:Hp}:∀{cs:List Str}{xs:List V},Rps H (cs.map .str) xs->xs=cs.map .str
 | [],xs,h=>by unfold Rps at h;exact h
 | c::cs,xs,h=>by
  rw[qAE]at h
  unfold Rps at h
  obtain⟨v,vs,rfl,h1,h2⟩:=h
  rw[zjz h1,zpo h2];rfl
section
variable{T:Type}{k:Kind T}{f:Nat}
noncomputable def zvm(g:EFr T):EFr T:=λenv st=>(g env st).bind λx=>(zvl x.1.d).map λd=>(⟨d,false,[]⟩,x.2)
theorem zaho{K:qC}{te:TE}{g:EFr T}(h1:SEr k f te g):SEr k f (tBM K "str" zapp (tC (.str "")) (tCons te tNil)) (zvm g):=by
 intro fx H0 env σ H v R st hh r st' e Q q
 unfold zvm at e
 obtain⟨⟨x,s1⟩,ex,e⟩:=qA.mp e
 obtain⟨d,ed,e⟩:=qH.mp e
 cases e
 refine⟨rfl,h1 fx H0 env σ H v R st hh x s1 ex _ λw H1 m1 k1 hv=>?_⟩
 obtain⟨xd,xf,xb⟩:=x
 cases xd with
 | list ds=>
  have ed:((zvl.unT ds).bind λxs=>if xs.foldl (λn z=>n+z.length+0) 0<=100000/\(zmd xs).length<=100000 then some (PyData.str (zmd xs))else none)=some d:=ed
  obtain⟨xs,eu,ed⟩:=qA.mp ed
  split at ed
  ·rename_i hl
   cases ed
   have:=zze eu
   subst this
   obtain⟨a,ys,rfl,ha,ry⟩:=zeh hv.rp
   have:=zpo ry
   subst this
   exact⟨a,xs,rfl,rfl,(Offs.of ha).2,hl.1,hl.2,q _ H1 m1 k1 ⟨zch,λz=>by cases z⟩⟩
  ·cases ed
 | _=>cases ed
end
theorem zme{J:Nat->Prop}{i:Nat}:SSk J (tRet (tVar i)) (zpc i):=λfx H0 env σ H D h o e q=>zacu fx H0 env σ H D h o e (by
 unfold zpc at e
 split at e
 ·cases e;exact q
 ·cases e;exact q
 ·cases e)
theorem zahp{f m:Nat}{g:GTs}(h:∀ds env env',g ds env=some env'->env[f]?=some .no->env'[f]?=some .no):GTno f (gT m g):=λd env env' e hn=>by
 unfold gT at e
 cases d with
 | tuple ds=>
  have e:(if ds.length=m then g ds env else none)=some env':=e
  split at e
  ·exact h ds env env' e hn
  ·cases e
 | _=>cases e
theorem zahq{f:Nat}:∀ds env env',zfd ds env=some env'->env[f]?=some Sl.no->env'[f]?=some .no:=λds env env' e hn=>by
 cases ds with
 | nil=>cases e;exact hn
 | cons _ _=>cases e
theorem zvn{f i:Nat}{g:GTs}(hi:i≠f)(h:∀ds env env',g ds env=some env'->env[f]?=some .no->env'[f]?=some .no):∀ds env env',zbe i g ds env=some env'->env[f]?=some Sl.no->env'[f]?=some .no:=λds env env' e hn=>by
 cases ds with
 | nil=>cases e
 | cons d ds=>exact h ds _ env' e (by rw[qP hi];exact hn)
section
variable{T:Type}{k:Kind T}{f:Nat}
end
section
variable{X:Cx}
end
noncomputable def zapq(i j:Int):Prop:=0<=j/\j<=1000/\i.natAbs<2 ^ 1000
theorem zpp{X:Cx}:OpR X (binaryOp .Pow) (rI zapq λi j=>.int (i ^ j.toNat)):=opI λi j _ _ _ _ _ hc q=>pow_int hc.1 (by
 have hb:Builtin.Int.intBits i<=1000:=intBits_le hc.2.2
 have h0:(0:Int)<=j:=hc.1
 have hj:j<=1000:=hc.2.1
 have h1:(Builtin.Int.intBits i:Int) * j<=1000 * j:=Int.mul_le_mul_of_nonneg_right (by omega) h0
 omega) q
noncomputable def powB:OF:=intD (λi j=>decide (0<=j/\j<=1000)&&decide (i.natAbs<2 ^ 1000)) λi j=>.int (i ^ j.toNat)
theorem zpq:SO (rI zapq λi j=>.int (i ^ j.toNat)) powB:=zack (λi j h=>by
 rw[qr]at h
 exact⟨(of_decide_eq_true h.1).1,(of_decide_eq_true h.1).2,of_decide_eq_true h.2⟩) λ_ _ _=>zad
section
variable{T:Type}
theorem zap{a b:SFr T}{env e1:DEnv}{st s1:T}{o:Option (OutR T)}(h:a env st=some (.nx e1 s1))(k:b e1 s1=o):rSeq a b env st=o:=by unfold rSeq;rw[h];exact k
theorem zto{a b:SFr T}{env:DEnv}{st s1:T}{d:PyData}{fr:Bool}(h:a env st=some (.rt d fr s1)):rSeq a b env st=some (.rt d fr s1):=by unfold rSeq;rw[h];rfl
theorem zbj{i:Nat}{g:EFr T}{env:DEnv}{st s1:T}{r:Val}(h:g env st=some (r,s1)):rSet i g env st=some (.nx (putV env i r) s1):=by unfold rSet;rw[h];rfl
theorem zkg{g:EFr T}{env:DEnv}{st s1:T}{d:PyData}{fr:Bool}{bs:List Nat}(h:g env st=some (⟨d,fr,bs⟩,s1)):rRet g env st=some (.rt d fr s1):=by unfold rRet;rw[h];rfl
theorem zqn{c:TFr T}{a b:SFr T}{env:DEnv}{st s1:T}{o:Option (OutR T)}(h:c env st=some (true,s1))(k:a env s1=o):rIf c a b env st=o:=by unfold rIf;rw[h];exact k
theorem zmf{c:TFr T}{a b:SFr T}{env:DEnv}{st s1:T}{o:Option (OutR T)}(h:c env st=some (false,s1))(k:b env s1=o):rIf c a b env st=o:=by unfold rIf;rw[h];exact k
theorem zbd{g:EF}{env:DEnv}{st:T}{r:Val}(h:g env=some r):zah g env st=some (r,st):=by unfold zah;rw[h];rfl
theorem zcn{c:TF}{env:DEnv}{st:T}{b:Bool}(h:c env=some b):zit c env st=some (b,st):=by unfold zit;rw[h];rfl
theorem zcm{w:OF}{a b:EFr T}{env:DEnv}{st s1 s2:T}{x y:Val}{d:PyData}{fr:Bool}(h1:a env st=some (x,s1))(h2:b env s1=some (y,s2))(h3:w x.d y.d=some (d,fr)):rOp w a b env st=some (⟨d,fr,bsOf d (x.bs++y.bs)⟩,s2):=by unfold rOp;rw[h1];show((b env s1).bind _)=_;rw[h2];show((w x.d y.d).bind _)=_;rw[h3];rfl
theorem zbx{a:EFr T}{g:AFr T}{env:DEnv}{st s1 s2:T}{x:Val}{xs:List Val}(h1:a env st=some (x,s1))(h2:g env s1=some (xs,s2)):zau a g env st=some (x::xs,s2):=by unfold zau;rw[h1];show((g env s1).bind _)=_;rw[h2];rfl
theorem zdu{n:Nat}{g:GR T}{a:AFr T}{env:DEnv}{st s1 s2:T}{rs:List Val}{d:PyData}{fr:Bool}(h:a env st=some (rs,s1))(hn:rs.length+1=n)(k:g (zfx rs) s1=some (d,fr,s2)):zav n g a env st=some (⟨d,fr,bsOf d (bss rs)⟩,s2):=by unfold zav;rw[h];show(if rs.length+1=n then _ else _)=_;rw[if_pos hn,k];rfl
theorem ziu{n:Nat}{F:SFr T}{ds:List PyData}{env:DEnv}{st s1:T}{d:PyData}{fr:Bool}(h:zpm n ds=env)(e:F env st=some (.rt d fr s1)):fnR n F ds st=some (d,fr,s1):=by unfold fnR;rw[h,e]
theorem zim{it:IFr T}{g:GT}{body:SFr T}{env:DEnv}{st s1:T}{ds:List PyData}{bs:List Nat}{o:Option (OutR T)}(h:it env st=some (ds,bs,s1))(k:ztm g body ds (frzs env bs) s1=o):rFor it g body env st=o:=by unfold rFor;rw[h];exact k
theorem zro{α:Type}{enc:α->PyData}{g:GT}{body:SFr T}(I:List α->DEnv->T->Prop)(all:List α):∀(l pre:List α)(env:DEnv)(st:T),pre++l=all->I pre env st->
  (∀pre x post env st,pre++x::post=all->I pre env st->∃e1 e2 s2,g (enc x) env=some e1/\body e1 st=some (.nx e2 s2)/\I (pre++[x]) e2 s2)->∃e' s',ztm g body (l.map enc) env st=some (.nx e' s')/\I all e' s'
 | [],pre,env,st,hp,h0,_=>⟨env,st,rfl,by rw[<- hp,qAL];exact h0⟩
 | x::l,pre,env,st,hp,h0,hs=>by
  obtain⟨e1,e2,s2,h1,h2,h3⟩:=hs pre x l env st hp h0
  obtain⟨e',s',h4,h5⟩:=zro I all l (pre++[x]) e2 s2 (by rw[qAw];exact hp) h3 hs
  refine⟨e',s',?_,h5⟩
  rw[qAE]
  unfold ztm
  rw[h1]
  show((body e1 st).bind _)=_
  rw[h2]
  exact h4
theorem zeo{α:Type}{enc:α->PyData}{g:GT}{body:SFr T}{l:List α}{env:DEnv}{st:T}(I:List α->DEnv->T->Prop)(h0:I [] env st)
  (hs:∀pre x post env st,pre++x::post=l->I pre env st->∃e1 e2 s2,g (enc x) env=some e1/\body e1 st=some (.nx e2 s2)/\I (pre++[x]) e2 s2):∃e' s',ztm g body (l.map enc) env st=some (.nx e' s')/\I l e' s':=
 zro I l l [] env st rfl h0 hs
end
noncomputable def sExt(i:Nat)(f:EF):SF:=λenv=>match env[i]? with
 | some (.ac (.list ds))=>(f env).bind λr=>match r.d,r.fr with
  | .list es,true=>if ds.length+es.length<=100000/\i∉r.bs then some (.nx ((frzs env r.bs).set i (.ac (.list (ds++es)))))else none
  | _,_=>none
 | _=>none
theorem zapr{K:qC}{i:Nat}{te:TE}{f:EF}(h1:SE te f):SS (tDrop (tBM K "list" zaca (tVar i) (tCons te tNil))) (sExt i f):=by
 intro fx H0 env σ H D h o e q
 unfold sExt at e
 split at e
 ·rename_i ds ei
  obtain⟨⟨d,fr,bs⟩,er,e⟩:=qA.mp e
  dsimp only at e
  split at e
  ·rename_i es
   split at e
   ·rename_i hl
    cases e
    obtain⟨a,g1,g2,g3,g4⟩:=h.ac i _ ei
    obtain⟨xs,hx,rx⟩:=g4
    refine⟨_,g1,.inl ⟨rfl,_,SqL.of hx⟩,h1 fx H0 env σ H h _ er _ λv H' s hv=>?_⟩
    obtain⟨b,rfl,hb,zs,hz,rz⟩:=hv.fr rfl
    have h':=(h.up s).frzs bs
    have ei':=zmb hl.2 ei
    have hx':=s _ _ hx
    have rx':Rps (Offs (λb=>fx b\/own (frzs env bs) σ b) H') ds xs:=by
     obtain⟨a',z1,_,_,z4⟩:=h'.ac i _ ei'
     rw[g1]at z1
     cases z1
     obtain⟨ys,y1,y2⟩:=z4
     rw[hx']at y1
     cases y1
     exact y2
    have rz':Rps (Offs (λb=>fx b\/own (frzs env bs) σ b) H') es zs:=Rps.same (Offs.sub λc z=>.inl (zgh c z)) _ rz
    refine⟨a,b,xs,zs,rfl,rfl,hx',hz,zet (by rw[<- rx.length,<- rz.length];exact hl.1),?_⟩
    exact q σ _ (h'.mut ei' g1 ⟨_,zaz,rx'.append rz'⟩)
   ·cases e
  ·cases e
 ·cases e
theorem zaps{i:Nat}{f:EF}{env:DEnv}{ds es:List PyData}{bs:List Nat}(he:env[i]?=some (.ac (.list ds)))(hf:f env=some ⟨.list es,true,bs⟩)(hl:ds.length+es.length<=100000)(hb:i∉bs):sExt i f env=some (.nx ((frzs env bs).set i (.ac (.list (ds++es))))):=by
 unfold sExt
 rw[he]
 show((f env).bind _)=_
 rw[hf]
 show(if _/\_ then _ else _)=_
 rw[if_pos ⟨hl,hb⟩]
section
variable{X:Cx}
theorem bpaC{e:Expr}{es:List Expr}{te:TE}{t:TA}(h1:Bx (PE X e te))(h2:Bx (PA X es t))(h3:isStar e=false:=by rfl):Bx (PA X (e::es) (tCons te t)):=zak h1 h2 h3
theorem bpeD{x:Str}{p pos:Pos}{e:Expr}{es:List Expr}{t:TA}{ps:List Str}{k m:Nat}{sp:Sp}(D:Dn X.prog X.w X.K X.mg X.base x ps k sp)(hr:Room m X.A)(ha:Bx (PA X (e::es) t))(hm:k<=m:=by decide)(hg:Gl X x:=by rfl)(hd:(x==("__debug__":Str))=false:=by decide)
  (hs:isStar e=false:=by rfl) (hp:((backTo pos (starEach es X.env)).any λx=>x.1)=false:=by rfl):Bx (PE X (.Call (.Name x p) (e::es) [] pos) (tCall sp [] E0 t)):=zgl D (hr.mono hm) hg ha hd (zam hs) hp
theorem bpeB{x:Str}{p pos:Pos}{e:Expr}{es:List Expr}{t:TA}{id:String}{r:List V->Hp->VK->Prop}(hc:CallR X (.builtin id) r)(hm:X.mg x=none)(hb:bootBuiltins x=some (.builtin id))(ha:Bx (PA X (e::es) t))(hg:Gl X x:=by rfl)(h1:x≠("__name__":Str):=by decide)(h2:(x==("__debug__":Str))=false:=by decide)
  (hs:isStar e=false:=by rfl) (hp:((backTo pos (starEach es X.env)).any λx=>x.1)=false:=by rfl):Bx (PE X (.Call (.Name x p) (e::es) [] pos) (tCB r t)):=zck hc hg hm hb ha h1 h2 (zam hs) hp
theorem bpeT{x:Str}{p pos:Pos}{e:Expr}{es:List Expr}{t:TA}{T:String}{r:List V->Hp->VK->Prop}(hc:CallR X (.type T) r)(hm:X.mg x=none)(hb:bootBuiltins x=some (.type T))(ha:Bx (PA X (e::es) t))(hg:Gl X x:=by rfl)(h1:x≠("__name__":Str):=by decide)(h2:(x==("__debug__":Str))=false:=by decide)
  (hs:isStar e=false:=by rfl) (hp:((backTo pos (starEach es X.env)).any λx=>x.1)=false:=by rfl):Bx (PE X (.Call (.Name x p) (e::es) [] pos) (tCB r t)):=zkz hc hg hm hb ha h1 h2 (zam hs) hp
theorem bpsS{pos:Pos}{i:Nat}{x:Str}{e:Expr}{te:TE}{pos':Pos}(hN:X.N.Nodup)(hi:X.N[i]?=some x)(hl:Loc X.env.scope x)(he:Bx (PE X e te))(hs:swapsWith e (some (.Name x pos')) pos.line X.env=pure false:=by rfl)(hf:X.fn x=true\/X.env.scope.names.lookup x=some .local:=by exact .inl rfl):Bx (PS X (.Assign [.Name x pos'] e pos) (tAsg te (gName i))):=zjm hN hi hl he hs hf
theorem bpeX{a b:Expr}{ta tb:TE}{pos:Pos}{r:R2}(hr:IxR X r)(h1:Bx (PE X a ta))(h2:Bx (PE X b tb))(hp:PlainIx b:=by exact λ_ _=>rfl):Bx (PE X (.Subscript a b pos) (tOp r ta tb)):=zrm hr h1 h2 hp
theorem bpgN{pos:Pos}{i:Nat}{x:Str}(hN:X.N.Nodup)(hi:X.N[i]?=some x)(hl:Loc X.env.scope x)(hf:X.fn x=true\/X.env.scope.names.lookup x=some .local:=by first|exact .inl rfl|exact .inr rfl|assumption):Bx (PG X (.Name x pos) (gName i)):=zfi hN hi hl hf
end
noncomputable def xcIn(K:qC)(C:Addr):Bool:=match K.lookup C with
 | some ⟨.type "type",_,.cls cd,sl⟩=>(match cd.mro,sl.toList with
  | .ref C'::bm,[_,_,_,_,some (.builtin n),_]=>C'==C&&!cd.hasDel&&cd.hasDict&&n=="ValueError.__new__"&&bm.contains (.type "ValueError")&&bm.contains (.type "BaseException")&&!bm.contains (.type "AttributeError")&&!bm.contains (.type "NameError")
  | _,_=>false)
 | _=>false
theorem zapt{K:qC}{h:Heap}{C:Addr}(X:K.In h)(q:xcIn K C=true):∃nm qn N bs bm sn sub ab col dd k0 k1 k2 k3 k5,
  h.get? C=some (excClassObj nm qn C N bs bm true sn sub ab col dd k0 k1 k2 k3 k5 "ValueError.__new__")/\(Value.ref C::bm).contains (.type "ValueError")=true/\(Value.ref C::bm).contains (.type "BaseException")=true/\(Value.ref C::bm).contains (.type "AttributeError")=false/\(Value.ref C::bm).contains (.type "NameError")=false:=by
 unfold xcIn at q
 split at q
 ·rename_i dd cd sl ho
  split at q
  ·rename_i C' bm k0 k1 k2 k3 n k5 hm hs
   simp only[qr,beq_iff_eq,Bool.not_eq_true']at q
   obtain⟨⟨⟨⟨⟨⟨⟨rfl,hdel⟩,hdc⟩,rfl⟩,hv⟩,hb⟩,ha⟩,hn⟩:=q
   obtain⟨nm,bs,mro,ns,qn,hd,sn,sub,ab,col,del⟩:=cd
   dsimp only at hm hdel hdc
   subst hm hdel hdc
   have hsl:sl=#[k0,k1,k2,k3,some (.builtin "ValueError.__new__"),k5]:=by
    obtain⟨l⟩:=sl
    simp only at hs
    rw[hs]
   subst hsl
   refine⟨nm,qn,ns,bs,bm,sn,sub,ab,col,dd,k0,k1,k2,k3,k5,X _ _ ho,?_,?_,?_,?_⟩
   ·rw[qAR,hv,qAm]
   ·rw[qAR,hb,qAm]
   ·rw[qAR,ha];rfl
   ·rw[qAR,hn];rfl
  ·cases q
 ·cases q
end L2
namespace PySem
open Sem (wp)
section
variable{prog:Program}{w:World}{A:Around}{E:Value->Shared->Prop}{h:Heap}{g:Array GenState}{d:Drawn}{t:Nat}{os:OsState}
variable{nm q:Str}{C N:Addr}{bs bm:List Value}{sn:List Str}{sub:List Value}{ab:Bool}{col:Option Bool}{dd:Option Addr}{k0 k1 k2 k3 k5:Option Value}
theorem zaas{M:Model}{rest:List Value}{Q:Unit->Shared->Prop}(hC:h.get? C=some (excClassObj nm q C N bs bm true sn sub ab col dd k0 k1 k2 k3 k5 "ValueError.__new__"))(hv:(Value.ref C::bm).contains (.type "ValueError")=true)
  (hq:Q () ⟨h,g,d,t,os⟩):wpAny M A (checkBuiltinCall "ValueError.__new__" ⟨.ref C::rest,[]⟩) Q E ⟨h,g,d,t,os⟩:=by
 have F:=qBW
 have f0:=F.noStar
 simp only[checkBuiltinCall,F.newKind,F.newSplit,F.newRow]
 repeat (first|refine qj hC ?_|(refine qAa hC ?_;rw[hv])|refine wpAny_staticBase_exc hC ?_|refine wpAny_madeBy_exc hC ?_|simp only[bne_self_eq_false,qBY,if_false]|wp_step)
 exact hq
theorem zads{rest:List Value}{R:Result->Shared->Prop}(hC:h.get? C=some (excClassObj nm q C N bs bm true sn sub ab col dd k0 k1 k2 k3 k5 "ValueError.__new__"))(hv:(Value.ref C::bm).contains (.type "ValueError")=true)(ha:(Value.ref C::bm).contains (.type "AttributeError")=false)(hn:(Value.ref C::bm).contains (.type "NameError")=false)
  (hq:R (.ok (.ret (.ref (h.objs.size+1)))) ⟨(h.push {cls:=.type "tuple",data:=.seq rest.toArray}).push {cls:=.ref C,data:=.fields #[.ref h.objs.size,.none,.none,.none,.bool false,.none]},g,d,t,os⟩) (hr:rest.length<=qb) :
  codeAny (model prog w) A (.builtin "ValueError.__new__" ⟨.ref C::rest,[]⟩) R ⟨h,g,d,t,os⟩:=by
 have F:=qBW
 have f0:=F.ends
 refine codeAny_builtinAt F.entry ?_
 unfold Builtin.«BaseException.__new__»
 refine wpAt_bind ?_
 show wpAt _ _ _ (stack >>=_) _ _ _
 refine wpAt_bind (wpAt_stack λp below=>wpAt_of_wpAny ?_)
 wp_walk
 refine wpAt_of_wpAny ?_
 rw[F.owner]
 repeat (first|with_reducible refine wpAny_madeHere_exc F.canon hC ?_|with_reducible refine qj hC ?_|(with_reducible refine qAa hC ?_;first|rw[hv]|rw[ha]|rw[hn])|wp_step)
 show R _ _
 rw[qAl]
 exact hq
theorem zarq{rest:List Value}{fI:Addr}{oI:Obj}{Q:Value->Shared->Prop}(hC:h.get? C=some (excClassObj nm q C N bs bm true sn sub ab col dd k0 k1 k2 k3 k5 "ValueError.__new__"))(hv:(Value.ref C::bm).contains (.type "ValueError")=true)(ha:(Value.ref C::bm).contains (.type "AttributeError")=false)(hn:(Value.ref C::bm).contains (.type "NameError")=false)
  (LI:W.Looks (model prog w) h (typeLookup (.ref C) "__init__") (some (.ref fI)))(hfI:h.get? fI=some oI)(hfc:oI.cls=.type "function")(hr:rest.length<=qb)
  (hq:∀h' e,Heap.MadeExcOf h h' e (.ref C) rest->wpAny (model prog w) (A.under (.builtin "type.__call__" ⟨.ref C::rest,[]⟩)) (call (.ref fI) (.ref e::rest)) (λr s'=>r=.none/\Q (.ref e) s') E ⟨h',g,d,t,os⟩) :
  wpAny (model prog w) A (call (.ref C) rest) Q E ⟨h,g,d,t,os⟩:=by
 have F:=qBW
 have f1:=tc_lookup
 have f2:=tc_bind (.ref C)
 have hT:(⟨h,g,d,t,os⟩:Shared).TypeIs (.ref C) "type":=⟨_,hC,rfl⟩
 refine qCL (codeAny_of_tree ?_)
 show wpAny _ _ (callAny (.ref C) _) _ _ _
 repeat (any_goals (first|assumption|with_reducible refine qj hC ?_|wp_step))
 refine⟨rfl,?_⟩
 refine codeAny_call_builtin_at (qB7 _ (by decide +kernel)) entry_typeCall (wpAny_check_type_call_sub hC ?_)
 repeat (first|with_reducible refine qj hC ?_|with_reducible refine wpAny_madeBy_exc hC ?_|wp_step)
 refine codeAny_call_builtin_code (qB7 _ F.quiet) (zaas hC hv ?_)
 refine zads hC hv ha hn ?_ hr
 show wpAny _ _ _ _ _ _
 have kp:∀b o,h.get? b=some o->((h.push {cls:=.type "tuple",data:=.seq rest.toArray}).push {cls:=.ref C,data:=.fields #[.ref h.objs.size,.none,.none,.none,.bool false,.none]}).get? b=some o:=λb o e=>qG _ (qG _ e)
 have hC1:=kp _ _ hC
 have he:((h.push {cls:=.type "tuple",data:=.seq rest.toArray}).push {cls:=.ref C,data:=.fields #[.ref h.objs.size,.none,.none,.none,.bool false,.none]}).get? (h.objs.size+1)=some {cls:=.ref C,data:=.fields #[.ref h.objs.size,.none,.none,.none,.bool false,.none]}:=by heap_get
 have hcC:(Value.ref C::bm).contains (.ref C)=true:=by simp
 unfold isInstance
 repeat (first|with_reducible refine qj he ?_|(refine qAa hC1 ?_;rw[hcC])|wp_step)
 show wpAny _ _ (typeLookup (.ref C) _) _ _ _
 refine(LI.keeps kp).here ?_
 refine qBK (qE ?_)
 unfold bindSpecial
 refine qE (qCN (T:="function") ⟨_,kp _ _ hfI,hfc⟩ ?_)
 rw[if_pos (by decide)]
 refine qM (qE (qBZ (hq _ (h.objs.size+1) ⟨kp,qBu (qBO _),h.objs.size,he,qBu (qL _),?_⟩) (λr s' hh=>?_) λ_ _ x=>x))
 ·exact qG _ (Heap.get?_push_at rfl rfl)
 ·obtain⟨rfl,hQ⟩:=hh
  wp_walk
  exact hQ
end
open Builtin Builtin.ObjectAttr
noncomputable def vmro:List Value:=[.type "ValueError",.type "Exception",.type "BaseException",.type "object"]
noncomputable def zdx:List Value->Bool
 | .ref _::r=>zdx r
 | l=>l==vmro
theorem zmg(self:Value)(what:Str):∀{l:List Value},zdx l=true->refuseLoop self what l=refuseLoop self what vmro
 | [],h=>by cases h
 | v::r,h=>by
  cases v with
  | ref a=>rw[refuseLoop_ref];exact zmg self what h
  | _=>rw[eq_of_beq (show(_==vmro)=true from h)]
theorem zdg{T:Value}(hT:vmro.contains T=true):∀{l:List Value},zdx l=true->l.contains T=true
 | [],h=>by cases h
 | v::r,h=>by
  cases v with
  | ref a=>rw[qAR,zdg hT (l:=r) h,qAm]
  | _=>rw[eq_of_beq (show(_==vmro)=true from h)];exact hT
section
variable{prog:Program}{w:World}{A:Around}{E:Value->Shared->Prop}{h:Heap}{g:Array GenState}{d:Drawn}{t:Nat}{os:OsState}
variable{nm q:Str}{C N x:Addr}{bs bm:List Value}{sn:List Str}{sub:List Value}{ab:Bool}{col:Option Bool}{dd:Option Addr}{k0 k1 k2 k3 k5:Option Value}{newId:String}{name:Str}{v:Value}
theorem zvo{M:Model}{o:Obj}{nameV:Value}{Q:Unit->Shared->Prop}(hr:zdx bm=true)
  (hC:h.get? C=some (excClassObj nm q C N bs bm true sn sub ab col dd k0 k1 k2 k3 k5 newId))(hx:h.get? x=some o)(hc:o.cls=.ref C)(hq:Q () ⟨h,g,d,t,os⟩) :
  wpAny M A (checkBuiltinCall "object.__setattr__" ⟨[.ref x,nameV,v],[]⟩) Q E ⟨h,g,d,t,os⟩:=by
 have SF:=qCA
 have hcB:(Value.ref C::bm).contains (.type "object")=true:=by rw[qAR,zdg (by decide) hr,qAm]
 have ha:=SF.args (.ref x) nameV v
 simp only[checkBuiltinCall,SF.kind,SF.split]
 refine qE ?_
 ·unfold isInstance
  repeat (first|(with_reducible refine qj hx ?_;rw[hc])|(with_reducible refine qAa hC ?_;rw[hcB])|wp_step)
  exact hq
theorem zvp{tk:Tok}{Q:Fin->Shared->Prop}{o:Obj}(hr:zdx bm=true)
  (hC:h.get? C=some (excClassObj nm q C N bs bm true sn sub ab col dd k0 k1 k2 k3 k5 newId))(hx:h.get? x=some o)(hc:o.cls=.ref C)(hnc:∀c,o.data≠.cls c)(hdn:o.dict=none)
  (LA:W.Looks (model prog w) h (typeLookup (.ref C) name) none)
  (hq:∀h' tk' dx,h.objs.size<=dx->h'.Ns1 dx (λy=>if y=name then some v else none)->h'.get? x=some {o with dict:=some dx}->
   (∀b o,b≠x->h.get? b=some o->h'.get? b=some o)->Q (.done (.ret .none)) ⟨h',g,d,tk',os⟩) :
  wpAny (model prog w) A (Builtin.«object.__setattr__» ⟨[.ref x,.str name tk,v],[]⟩) Q E ⟨h,g,d,t,os⟩:=by
 have SF:=qCA
 have hpass:refuseLoop (.ref x) "__setattr__" bm=pure ():=by rw[zmg _ _ hr];exact SF.passes (.ref x)
 unfold Builtin.«object.__setattr__»
 repeat (first|rw[refuse_eq]|(rw[refuseLoop_ref,hpass])|(with_reducible refine qj hx ?_;rw[hc])|with_reducible refine wpAny_mroOf_exc hC ?_|(with_reducible refine LA.here ?_)|wp_step)
 rw[hdn,if_neg (by simp[typeHasDict])]
 split
 ·rename_i hcd
  cases hcd
 split
 ·rename_i c hcd
  exact absurd hcd (hnc c)
 ·have hx₁:(h.push {cls:=.type "dict",data:=.dict #[]}).get? x=some o:=qG _ hx
  have hxs:x≠h.objs.size:=qz (qN hx)
  refine qE (wpAny_alloc' ?_)
  refine qE (wpAny_update' hx₁ ?_)
  refine qM ?_
  have hgd:((h.push {cls:=.type "dict",data:=.dict #[]}).update x λo=>{cls:=o.cls,dict:=some h.objs.size,data:=o.data,slots:=o.slots}).get? h.objs.size
    = some {cls:=.type "dict",data:=.dict #[]}:=
   (qCw _ _ _ _ hxs.symm).trans (Heap.get?_push_at rfl rfl)
  have hnd:((h.push {cls:=.type "dict",data:=.dict #[]}).update x λo=>{cls:=o.cls,dict:=some h.objs.size,data:=o.data,slots:=o.slots}).Ns h.objs.size (λ_=>none):=
   ⟨_,#[],_,hgd,rfl,λe he=>absurd he (by simp),λ_=>rfl⟩
  show wpAny _ _ (storeInDict h.objs.size (.str name tk) name v) _ _ _
  unfold storeInDict newKeyGuard
  refine qE (qM (qE (wpAny_nsSet1EFk (Heap.Ns1.of_empty hnd) λh' hn' hs hkeepD=>?_)))
  obtain⟨oD,esD,epD,hoD,hdD,hcD⟩:=hn'.count (Within.cons name v Within.nil)
  refine qE (wpAny_lookBehind hoD (by rw[hdD];exact pastItsLine_dict (qAC hcD (by rw[qV,qA5,qA1];omega))) ?_)
  wp_walk
  refine hq h' _ h.objs.size (qL _) hn' ?_ (λb ob hbx hb=>?_)
  ·refine(hs.2 x hxs).trans (qAZ _ hx₁ ?_)
   have hfr:=(Heap.get?_some_iff.mp hx).2
   obtain⟨oc,od,odt,osl⟩:=o
   cases odt<;>first|rfl|exact hfr
  ·exact(hs.2 b (qz (qN hb))).trans ((qCw _ _ _ _ hbx).trans (qG _ hb))
theorem zapu{Q:Unit->Shared->Prop}{o:Obj}(hr:zdx bm=true)
  (hC:h.get? C=some (excClassObj nm q C N bs bm true sn sub ab col dd k0 k1 k2 k3 k5 newId))(hx:h.get? x=some o)(hc:o.cls=.ref C)(hnc:∀c,o.data≠.cls c)(hdn:o.dict=none)
  (LS:W.Looks (model prog w) h (typeLookup (.ref C) "__setattr__") (some (.builtin "object.__setattr__")))(LA:W.Looks (model prog w) h (typeLookup (.ref C) name) none)
  (hq:∀h' tk' dx,h.objs.size<=dx->h'.Ns1 dx (λy=>if y=name then some v else none)->h'.get? x=some {o with dict:=some dx}->
   (∀b o,b≠x->h.get? b=some o->h'.get? b=some o)->Q () ⟨h',g,d,tk',os⟩) :
  wpAny (model prog w) A (setAttr (.ref x) name v) Q E ⟨h,g,d,t,os⟩:=by
 have SF:=qCA
 have f3:=SF.slot.bind (.ref x)
 unfold setAttr callSpecial? specialOf
 repeat (any_goals (first|assumption|(with_reducible refine qj hx ?_;rw[hc])|(with_reducible refine LS.here ?_)|wp_step))
 refine qBD SF.slot.plain SF.entry (zvo hr hC hx hc (zvp hr hC hx hc hnc hdn LA λh' tk' dx a1 a2 a3 a4=>?_))
 repeat (any_goals (first|assumption|wp_step))
 exact hq h' tk' dx a1 a2 a3 a4
theorem zarr{Q:Value->Shared->Prop}{o:Obj}{dx:Addr}{vs:Array Value}{mA:Str->Option Value}{expr:Bool}(hr:zdx bm=true)
  (hC:h.get? C=some (excClassObj nm q C N bs bm true sn sub ab col dd k0 k1 k2 k3 k5 newId))(hx:h.get? x=some o)(hc:o.cls=.ref C)(hd:o.data=.fields vs)(hdd:o.dict=some dx)
  (hns:h.Ns dx mA)(hv:mA name=some v)
  (LG:W.Looks (model prog w) h (typeLookup (.ref C) "__getattribute__") (some (.builtin "BaseException.__getattribute__")))(LH:W.Looks (model prog w) h (typeLookup (.ref C) "__getattr__") none)(LA:W.Looks (model prog w) h (typeLookup (.ref C) name) none)
  (hh:W.handedIn v=true)(hq:∀tk',Q v ⟨h,g,d,tk',os⟩) :
  wpAny (model prog w) A (getAttr (.ref x) name expr) Q E ⟨h,g,d,t,os⟩:=by
 have hk:builtinKind "BaseException.__getattribute__"=some .slot:=by decide +kernel
 have hsplit:splitId "BaseException.__getattribute__"=some ("BaseException","__getattribute__"):=by decide +kernel
 have hcB:(Value.ref C::bm).contains (.type "BaseException")=true:=by rw[qAR,zdg (by decide) hr,qAm]
 have hx0:(expr&&onTheHeap (Value.builtin "BaseException.__getattribute__"))=false:=by cases expr<;>rfl
 have hx2:(Value.builtin "BaseException.__getattribute__"==Value.builtin "object.__getattribute__")=false:=by decide +kernel
 have hx1:(onTheHeap (Value.ref C)&&Value.builtin "BaseException.__getattribute__"==Value.builtin "object.__getattribute__")=false:=by rw[hx2];rfl
 have FB:=F.attr_ValueError
 have f3:=FB.ga.bind (.ref x)
 have ha:=F.args_bexc_ga (.ref x)
 unfold getAttr getAttrBy
 repeat (any_goals (first|assumption|(with_reducible refine qj hx ?_;rw[hc])|(with_reducible refine LG.here ?_)|(with_reducible refine LH.here ?_)|wp_step))
 refine qBD FB.ga.plain F.entry_bexc_ga ?_
 simp only[checkBuiltinCall,hk,hsplit]
 refine qE ?_
 unfold isInstance
 repeat (first|(with_reducible refine qj hx ?_;rw[hc])|(with_reducible refine qAa hC ?_;rw[hcB])|wp_step)
 repeat (any_goals (first|assumption|(with_reducible refine qj hx ?_;rw[hc])|(with_reducible refine LA.here ?_)|wp_step))
 rw[hd]
 dsimp only
 unfold instanceDict
 repeat (any_goals (first|assumption|(with_reducible refine qj hx ?_;rw[hc])|(with_reducible refine qj hC ?_)|wp_step))
 rw[hdd]
 dsimp only
 refine qM ?_
 unfold inDict
 refine wpAny_nsGet hns ?_
 rw[hv]
 dsimp only
 repeat (any_goals (first|assumption|wp_step))
 show wpAny _ _ (handedOut v) _ _ _
 rw[W.handedOut_of hh]
 exact qM (hq _)
theorem zars{Q:Value->Shared->Prop}{o:Obj}{vs:Array Value}{rest:List Value}(hr:zdx bm=true)(hl:rest.length<=qb)
  (hC:h.get? C=some (excClassObj nm q C N bs bm true sn sub ab col dd k0 k1 k2 k3 k5 newId))(hx:h.get? x=some o)(hc:o.cls=.ref C)(hd:o.data=.fields vs)(hs:0<vs.size)
  (hq:∀h' p,h'.get? x=some {o with data:=.fields (vs.setIfInBounds 0 (.ref p))}->(∀b o,b≠x->h.get? b=some o->h'.get? b=some o)->Q .none ⟨h',g,d,t,os⟩) :
  wpAny (model prog w) A (call (.builtin "ValueError.__init__") (.ref x::rest)) Q E ⟨h,g,d,t,os⟩:=by
 have F:=qBW
 have hcB:(Value.ref C::bm).contains (.type "ValueError")=true:=by rw[qAR,zdg (by decide) hr,qAm]
 have hshort:=F.noStar
 refine qCL (qBD F.init.plain F.initEntry ?_)
 simp only[checkBuiltinCall,F.initKind,F.initSplit,F.initRow]
 repeat (first|(with_reducible refine qj hx ?_;rw[hc])|with_reducible refine qj hC ?_|(with_reducible refine qAa hC ?_;rw[hcB])|wp_step)
 refine qBp ?_
 rw[show ∀(a b:String)(n:Nat),Bind.check ⟨.positional,"*","ValueError",.self,[⟨"args",.varPos,false⟩]⟩ a b n (List.map (λx=>x.fst) ({pos:=Value.ref x::rest}:Args).kw)=pure ()from
  λa b n=>check_star_args _ _ _ _ _ _]
 refine qM ?_
 unfold Builtin.«BaseException.__init__»
 repeat (any_goals (first|assumption|wp_step))
 rw[hd]
 dsimp only
 refine qM ?_
 rw[Array.getElem?_eq_getElem hs]
 dsimp only
 refine qM (qE ?_)
 have hx':(h.push {cls:=.type "tuple",data:=.seq rest.toArray}).get? x=some o:=qG _ hx
 refine qBE hx' hd hs ?_
 have fin:Q .none ⟨(h.push {cls:=.type "tuple",data:=.seq rest.toArray}).update x (Obj.mapFields (·.setIfInBounds 0 (Value.ref h.objs.size))),g,d,t,os⟩:=by
  refine hq _ h.objs.size ?_ λb ob hb e=>by rw[qAT _ _ (qAg hb)];exact qG _ e
  have hd₃:=qAX hd (·.setIfInBounds 0 (Value.ref h.objs.size))
  rw[qAZ _ hx' (qAs hd₃)]
  unfold Obj.mapFields
  obtain⟨oc,od,odt,osl⟩:=o
  cases hd
  rfl
 cases vs[0]<;>(repeat (any_goals (first|exact fin|assumption|wp_step)))
end
noncomputable def Heap.Tb(h:Heap)(T:Addr):Prop:=∃oT ts,h.get? T=some oT/\oT.data=.fields ts/\ts[3]?=some .none
section
variable{M:Model}{A:Around}{E:Value->Shared->Prop}{s:Shared}{base:Heap}{env:Env}{outer:List Env}{L e:Addr}{oe:Obj}{vs:Array Value}
theorem mapf{o:Obj}{vs:Array Value}(hd:o.data=.fields vs)(f:Array Value->Array Value):Obj.mapFields f o={o with data:=.fields (f vs)}:=by
 unfold Obj.mapFields
 obtain⟨oc,od,odt,osl⟩:=o
 cases hd
 rfl
theorem zpr{head:Value}{hadNext:Bool}{Q:Unit->Shared->Prop}
  (hfr:A.frames=some (env::outer))(hl:s.heap.FunFrames base (env::outer))(hf:env.frame=some L)(he:s.heap.get? e=some oe)(hd:oe.data=.fields vs)(hsz:1<vs.size)
  (hQ:∀h' T,s.heap.objs.size<=T->T≠e->(∀b o,b≠e->b∉(env::outer).filterMap (·.frame)->s.heap.get? b=some o->h'.get? b=some o)->
   (∀b o,b≠e->s.heap.get? b=some o->∃sl,h'.get? b=some {o with slots:=sl})->h'.get? e=some {oe with data:=.fields (vs.setIfInBounds 1 (.ref T))}->h'.Tb T->Q () {s with heap:=h'}) :
  wpAny M A (do let a <- frameOf env;let pl <- entryPlaceOf L hadNext;let b <- EntryCells.newEntry head a .none (rawInt L) .none pl;setField (.ref e) 1 b) (λ_ s'=>wpAny M A (setFlight (.ref e) none) Q E s') E s:=by
 have hene:e∉(env::outer).filterMap (·.frame):=λhm=>by
  obtain⟨_,o,ho,hnf⟩:=hl.mem hm
  rw[he]at ho;injection ho with ho;subst ho;exact hnf vs hd
 refine qE (wpAny_frameOf_fun hfr hl hf λh₁ hs₁=>?_)
 refine qE (wpAny_entryPlaceOf λpl hpl=>?_)
 unfold EntryCells.newEntry newFields
 refine qE (qAq ?_ (hpl.sizeOk5 _ _ _ _ _))
 have he₁:h₁.get? e=some oe:=(hs₁.2.1 e hene).trans he
 have he₂:=qG (h:=h₁) {cls:=.type "traceback",dict:=none,data:=.fields ([head,.ref L,.none,rawInt L,.none]++(if pl.isEmpty then List.replicate 6 Value.none else pl)).toArray} he₁
 refine qBE he₂ hd hsz ?_
 have hTe:h₁.objs.size≠e:=qBP (qN he₁)
 have hd₃:=qAX hd (·.setIfInBounds 1 (Value.ref h₁.objs.size))
 have he₃:=qAZ (Obj.mapFields (·.setIfInBounds 1 (Value.ref h₁.objs.size))) he₂ (qAs hd₃)
 have hT₃:=(qAT (h₁.push {cls:=.type "traceback",dict:=none,data:=.fields ([head,.ref L,.none,rawInt L,.none]++(if pl.isEmpty then List.replicate 6 Value.none else pl)).toArray})
  (Obj.mapFields (·.setIfInBounds 1 (Value.ref h₁.objs.size))) (qAg hTe)).trans (qe h₁ rfl)
 unfold setFlight
 refine qE (qAS he₃ hd₃ (x:=.ref h₁.objs.size) (by simp[hsz]) ?_)
 rw[if_pos (show(Value.ref h₁.objs.size != Value.none)=true from by simp)]
 refine qBE hT₃ rfl (by simp only[qO,qI,qV,qA5]<;>omega) ?_
 have keep:∀b o,b≠e->h₁.get? b=some o->
   (((h₁.push {cls:=.type "traceback",dict:=none,data:=.fields ([head,.ref L,.none,rawInt L,.none]++(if pl.isEmpty then List.replicate 6 Value.none else pl)).toArray}).update e (Obj.mapFields (·.setIfInBounds 1 (Value.ref h₁.objs.size)))).update h₁.objs.size
    (Obj.mapFields (·.setIfInBounds 3 ((none:Option Addr).elim Value.none λf=>rawInt f)))).get? b=some o:=λb o hbe hb=>by
  have hbT:h₁.objs.size≠b:=qBP (qN hb)
  rw[qAT _ _ hbT,qAT _ _ (qAg hbe)]
  exact qG _ hb
 refine hQ _ h₁.objs.size (Nat.le_of_eq hs₁.1.symm) hTe (λb o hb hn ho=>keep b o hb ((hs₁.2.1 b hn).trans ho)) (λb o hb ho=>?_) ?_ ?_
 ·obtain⟨sl,hs⟩:=hs₁.2.2 b o ho
  exact⟨sl,keep b _ hb hs⟩
 ·rw[qAT _ _ hTe,he₃,mapf hd]
 ·exact⟨_,_,qAZ _ hT₃ (qAs (qAX rfl _)),qAX rfl _,by first|(simp;done)|(rcases hpl with rfl|⟨_,_,_,_,_,_,_,rfl⟩<;>simp)⟩
theorem zxi{Q:Unit->Shared->Prop}
  (hfr:A.frames=some (env::outer))(hl:s.heap.FunFrames base (env::outer))(hf:env.frame=some L)(he:s.heap.get? e=some oe)(hd:oe.data=.fields vs)
  (h1:vs[1]?=some .none\/∃T,vs[1]?=some (.ref T)/\T≠e/\s.heap.Tb T)
  (hQ:∀h' T,s.heap.objs.size<=T->T≠e->(∀b o,b≠e->vs[1]?≠some (.ref b)->b∉(env::outer).filterMap (·.frame)->s.heap.get? b=some o->h'.get? b=some o)->
   (∀b o,b≠e->vs[1]?≠some (.ref b)->s.heap.get? b=some o->∃sl,h'.get? b=some {o with slots:=sl})->(∀b,vs[1]?=some (.ref b)->h'.Tb b)->
   h'.get? e=some {oe with data:=.fields (vs.setIfInBounds 1 (.ref T))}->h'.Tb T->Q () {s with heap:=h'}) :
  wpAny M A (noteFrame (.ref e) env) (λ_ s'=>wpAny M A (setFlight (.ref e) none) Q E s') E s:=by
 unfold noteFrame
 simp only[hf]
 rcases h1 with h1|⟨T,h1,hTe,oT,ts,hT,hdT,h3⟩
 ·refine(qE (qAS he hd h1 ?_))
  rw[if_neg (by decide)]
  exact zpr hfr hl hf he hd (qAc.mp h1).1 λh' T a1 a2 a3 a4 a5 a6=>hQ h' T a1 a2 (λb o q _=>a3 b o q) (λb o q _=>a4 b o q) (λb q=>by rw[h1]at q;cases q) a5 a6
 ·refine(qE (qAS he hd h1 ?_))
  rw[if_pos (show(Value.ref T != Value.none)=true from by simp)]
  refine qE (qAS hT hdT h3 ?_)
  rw[if_neg (show ¬((Value.none==rawInt L)=true)from by simp[rawInt])]
  have hsz3:=(qAc.mp h3).1
  refine qE (qBE hT hdT hsz3 ?_)
  have other:∀b,b≠T->(s.heap.update T (Obj.mapFields (·.setIfInBounds 3 Value.none))).get? b=s.heap.get? b:=λb hb=>qAT _ _ (qAg hb)
  have hT':=qAZ (Obj.mapFields (·.setIfInBounds 3 Value.none)) hT (qAs (qAX hdT _))
  have noRecord:∀b o,s.heap.get? b=some o->(∀vs,o.data≠.fields vs)->b≠T:=λb o hb hnf q=>by
   rw[q,hT]at hb;injection hb with hb;subst hb;exact hnf ts hdT
  have ne:∀{b:Addr},vs[1]?≠some (.ref b)->b≠T:=λq z=>q (by rw[h1,z])
  refine zpr hfr (hl.of_keeps λb o hb hnf=>⟨o,(other b (noRecord b o hb hnf)).trans hb,rfl⟩) hf ((other e (qAg hTe)).trans he) hd (qAc.mp h1).1 λh' T' a1 a2 a3 a4 a5 a6=>?_
  refine hQ h' T' (by rw[Heap.size_update]at a1;exact a1) a2 (λb o q n z ho=>a3 b o q z ((other b (ne n)).trans ho)) (λb o q n ho=>a4 b o q ((other b (ne n)).trans ho)) (λb q=>?_) a5 a6
  rw[h1]at q
  cases q
  obtain⟨sl,hs⟩:=a4 T _ hTe hT'
  exact⟨_,_,hs,qAX hdT _,by simp[hsz3]⟩
theorem zadt{Q:Unit->Shared->Prop}{T:Addr}(he:s.heap.get? e=some oe)(hd:oe.data=.fields vs)(h1:vs[1]?=some (.ref T))(hT:s.heap.Tb T)
  (hQ:∀h',(∀b o,b≠T->s.heap.get? b=some o->h'.get? b=some o)->h'.Tb T->Q () {s with heap:=h'}):wpAny M A (setFlight (.ref e) none) Q E s:=by
 obtain⟨oT,ts,hT,hdT,h3⟩:=hT
 have hsz3:=(qAc.mp h3).1
 unfold setFlight
 refine qE (qAS he hd h1 ?_)
 rw[if_pos (show(Value.ref T != Value.none)=true from by simp)]
 refine qBE hT hdT hsz3 (hQ _ (λb o hb ho=>by rw[qAT _ _ (qAg hb)];exact ho) ?_)
 exact⟨_,_,qAZ _ hT (qAs (qAX hdT _)),qAX hdT _,by simp[hsz3]⟩
end
end PySem
namespace L2
open PySem PySem.Spec PyProof.Rows
noncomputable def xeD(e C dx:Addr)(tv:Value)(h:Heap):Prop:=∃vs sl,h.get? e=some {cls:=.ref C,dict:=some dx,data:=.fields vs,slots:=sl}/\vs[1]?=some tv
theorem xeD.stay{e C dx:Addr}{tv:Value}(h1 h2:Heap)(h:xeD e C dx tv h1)(k:∀o,h1.get? e=some o->h2.get? e=some o):xeD e C dx tv h2:=
 let⟨vs,sl,a,b⟩:=h;⟨vs,sl,k _ a,b⟩
theorem zalq{T:Addr}(h1 h2:Heap)(h:h1.Tb T)(k:∀o,h1.get? T=some o->h2.get? T=some o):h2.Tb T:=
 let⟨oT,ts,a,b⟩:=h;⟨oT,ts,k _ a,b⟩
theorem zajh{P:Program}{w:World}{H:Hp}{h:Heap}{e C dx:Addr}{tv:Value}(q:xeD e C dx tv h):zfv P w H h e (.ext (xeD e C dx tv)):=
 ⟨q,let⟨_,_,a,_⟩:=q;⟨_,a⟩,λh1 h2=>xeD.stay h1 h2⟩
theorem zadu{P:Program}{w:World}{H:Hp}{h:Heap}{T:Addr}(q:h.Tb T):zfv P w H h T (.ext λh=>h.Tb T):=
 ⟨q,let⟨_,_,a,_⟩:=q;⟨_,a⟩,λh1 h2=>zalq h1 h2⟩
theorem zfv.there{P:Program}{w:World}{H:Hp}{h:Heap}{a:Addr}{o:HO}(x:zfv P w H h a o):∃ob,h.get? a=some ob:=by
 cases o with
 | lst xs=>obtain⟨_,_,_,_,e⟩:=x;exact⟨_,e⟩
 | tup xs=>obtain⟨_,_,_,ob,e,_⟩:=x;exact⟨_,e⟩
 | dK kvs=>obtain⟨_,_,_,_,o,_,_,e,_⟩:=x;exact⟨_,e⟩
 | dT kvs=>obtain⟨_,_,_,_,o,_,_,e,_⟩:=x;exact⟨_,e⟩
 | set S n=>obtain⟨o,_,_,_,e,_⟩:=x;exact⟨_,e⟩
 | ins C dx fs=>obtain⟨_,_,_,e,_⟩:=x;exact⟨_,e⟩
 | own y=>exact x
 | xd fs=>obtain⟨_,⟨_,_,_,e,_⟩,_⟩:=x;exact⟨_,e⟩
 | rng lo hi=>obtain⟨_,_,_,e⟩:=x;exact⟨_,e⟩
 | frz ob u=>obtain⟨e,_⟩:=x;exact⟨_,e⟩
 | tbl ps=>exact⟨_,x⟩
 | met f y=>exact⟨_,x⟩
 | ext φ=>exact x.2.1
theorem HOk.no{P:Program}{w:World}{H:Hp}{h:Heap}{a:Addr}(x:HOk P w H h)(n:h.get? a=none):H a=none:=by
 cases q:H a with
 | none=>rfl
 | some u=>obtain⟨ob,z⟩:=(x a u q).there;rw[n]at z;cases z
noncomputable def zahr(H H':Hp):Prop:=∀b o,H b=some o->(∀φ,o≠.ext φ)->H' b=some o
noncomputable def StX(H0:Hp)(E:XK):XK:=λc dx H'=>∀H3,(∀b o,H0 b=some o->H' b=some o->H3 b=some o)->zahr H' H3->E c dx H3
structure Flt(h:Heap)(H':Hp)(e C dx:Addr):Prop where
 new:h.get? e=none
 st:∃tv,H' e=some (.ext (xeD e C dx tv))/\(tv=.none\/∃T,tv=.ref T/\T≠e/\h.get? T=none/\H' T=some (.ext λh=>h.Tb T))
noncomputable def CXE(P:Program)(w:World):CXT:=λouter H s E e s'=>∃ea C dx H',e=.ref ea/\s'.os=s.os/\AllBare s'.gens/\Un (frs outer) [] H H' s.heap s'.heap/\HOk P w H' s'.heap/\Flt s.heap H' ea C dx/\StX H E (.ref C) (some dx) H'
section
variable{X:Cx}{pins:List (Addr×Obj)}{σ:St}{H1:Hp}{s:Shared}{e C dx:Addr}{E:Value->Shared->Prop}
theorem zvq{h0:Heap}{Q:Unit->Shared->Prop}(I:Inv X pins σ H1 s)(hst:X.stack=X.env::X.outer)(hfr:X.env.frame=some X.env.locals)(hz:∀b ob,h0.get? b=some ob->∃o',s.heap.get? b=some o')(F:Flt h0 H1 e C dx)
  (k:∀s' H2,Inv X pins σ H2 s'->(∃T,H2 e=some (.ext (xeD e C dx (.ref T)))/\T≠e/\h0.get? T=none/\H2 T=some (.ext λh=>h.Tb T))->
   (∀b o ob,h0.get? b=some ob->H1 b=some o->H2 b=some o)->zahr H1 H2->(s.heap.objs.size<=s'.heap.objs.size)->Q () s') :
  wpAny (model X.prog X.w) X.A (noteFrame (.ref e) X.env) (λ_ s'=>wpAny (model X.prog X.w) X.A (setFlight (.ref e) none) Q E s') E s:=by
 obtain⟨tv,he,ht⟩:=F.st
 obtain⟨⟨vs,sl,oe,h1⟩,_,_⟩:=I.hok e _ he
 have hfs:∀b,b∈(X.env::X.outer).filterMap (·.frame)->H1 b=none:=λb hb=>I.stkFree b (by unfold frs;rw[hst];exact hb)
 have hT1:tv=.none\/∃T,tv=.ref T/\T≠e/\s.heap.Tb T:=ht.imp id λ⟨T,a,b,c,d⟩=>⟨T,a,b,(I.hok T _ d).1⟩
 refine zxi (base:=X.base) (L:=X.env.locals) (by rw[<- hst];exact I.ok.frames) (by rw[<- hst];exact I.stack) hfr oe rfl (hT1.imp (λz=>by rw[h1,z]) λ⟨T,a,b,c⟩=>⟨T,by rw[h1,a],b,c⟩) λh' T a1 a2 a3 a4 a5 a6 a7=>?_
 have nT:H1 T=none:=I.hok.fresh a1
 have tr:∀b,vs[1]?=some (.ref b)->H1 b=some (.ext λh=>h.Tb b)/\b≠e/\h0.get? b=none:=λb q=>by
  rw[h1]at q
  rcases ht with z|⟨T0,z,b1,c1,d1⟩
  ·rw[z]at q;cases q
  ·rw[z]at q;cases q;exact⟨d1,b1,c1⟩
 let H2:Hp:=upd (upd H1 T (.ext λh=>h.Tb T)) e (.ext (xeD e C dx (.ref T)))
 have h2:∀b,b≠e->b≠T->H2 b=H1 b:=λb q z=>by show upd _ _ _ b=_;rw[zax q,zax z]
 have h2e:H2 e=some (.ext (xeD e C dx (.ref T))):=zaz
 have h2T:H2 T=some (.ext λh=>h.Tb T):=by show upd _ _ _ T=_;rw[zax a2,zaz]
 have ext2:∀b o,H1 b=some o->(∀φ,o≠.ext φ)->H2 b=some o:=λb o q n=>by
  rw[h2 b (λz=>by rw[z,he]at q;cases q;exact n _ rfl) (λz=>by rw[z,nT]at q;cases q)];exact q
 have kp:∀b o,H1 b=some o->b≠e->vs[1]?≠some (.ref b)->∀u,s.heap.get? b=some u->h'.get? b=some u:=λb o q n n2 u z=>a3 b u n n2 (λm=>by rw[hfs b m]at q;cases q) z
 have hsz1:1<vs.size:=(qAc.mp h1).1
 have ok2:HOk X.prog X.w H2 h':=λb o q=>by
  by_cases hb:b=e
  ·subst hb
   rw[h2e]at q
   cases q
   exact zajh ⟨_,_,a6,by rw[Array.getElem?_setIfInBounds_self_of_lt hsz1]⟩
  ·by_cases hbT:b=T
   ·subst hbT
    rw[h2T]at q
    cases q
    exact zadu a7
   ·rw[h2 b hb hbT]at q
    by_cases hv:vs[1]?=some (.ref b)
    ·rw[(tr b hv).1]at q
     cases q
     exact zadu (a5 b hv)
    ·refine(I.hok b o q).stay (λc u hc z=>?_) (λc z=>ext2 c _ z (λφ y=>by cases y)) (λc xs z=>ext2 c _ z (λφ y=>by cases y))
     rcases hc with rfl|hc
     ·exact kp c o q hb hv u z
     ·exact kp c _ hc (λy=>by rw[y,he]at hc;cases hc) (λy=>by rw[(tr c y).1]at hc;cases hc) u z
 have un:Un (frs X.stack) [] H1 H2 s.heap h':=by
  have nb:∀b,H1 b=none->b≠e/\vs[1]?≠some (.ref b):=λb n=>⟨λy=>(by rw[y,he]at n;cases n),λy=>(by rw[(tr b y).1]at n;cases n)⟩
  have hfs':∀b,b∈frs X.stack↔b∈(X.env::X.outer).filterMap (·.frame):=λb=>by unfold frs;rw[hst]
  refine⟨λb o q n hb _=>a3 b o (nb b n).1 (nb b n).2 (λm=>hb ((hfs' b).mpr m)) q,λb o q n hb _=>a4 b o (nb b n).1 (nb b n).2 q,λb o q n _=>?_,λb o q _=>?_,λb xs q=>ext2 b _ q (λφ y=>by cases y),λb o u q=>ext2 b _ q (λφ y=>by cases y),λb ps q=>⟨#[],by rw[ext2 b _ q (λφ y=>by cases y)];simp⟩⟩
  ·rw[h2 b (nb b n).1 (λy=>by rw[y]at q;exact absurd (qN q) (Nat.not_lt.mpr a1))];exact n
  ·by_cases hb:b=e
   ·exact⟨_,by rw[hb];exact a6⟩
   ·by_cases hv:vs[1]?=some (.ref b)
    ·obtain⟨oT,_,z,_⟩:=a5 b hv;exact⟨oT,z⟩
    ·obtain⟨sl,z⟩:=a4 b o hb hv q;exact⟨_,z⟩
 have n0:h0.get? T=none:=by
  cases y:h0.get? T with
  | none=>rfl
  | some ob=>obtain⟨o',z⟩:=hz T ob y;exact absurd (qN z) (Nat.not_lt.mpr a1)
 have hs:s.heap.objs.size<=h'.objs.size:=qBs (Nat.lt_of_le_of_lt a1 (let⟨_,_,z,_⟩:=a7;qN z))
 refine k _ H2 (I.call' (s':={s with heap:=h'}) rfl un ok2 I.bare (λb z=>absurd z (by simp))) ⟨T,h2e,a2,n0,h2T⟩ (λb o ob q z=>?_) ext2 hs
 rw[h2 b (λy=>by rw[y,F.new]at q;cases q) (λy=>by rw[y,nT]at z;cases z)]
 exact z
theorem zahs{h0:Heap}{Q:Unit->Shared->Prop}(I:Inv X pins σ H1 s)(hst:X.stack=X.env::X.outer)(hfr:X.env.frame=some X.env.locals)(hz:∀b ob,h0.get? b=some ob->∃o',s.heap.get? b=some o')(F:Flt h0 H1 e C dx)
  (k:∀s' H2,Inv X pins σ H2 s'->(∃T,H2 e=some (.ext (xeD e C dx (.ref T)))/\T≠e/\h0.get? T=none/\H2 T=some (.ext λh=>h.Tb T))->
   (∀b o ob,h0.get? b=some ob->H1 b=some o->H2 b=some o)->zahr H1 H2->(s.heap.objs.size<=s'.heap.objs.size)->Q () s') :
  wpAny (model X.prog X.w) X.A (leaving X.env (.ref e)) Q E s:=by
 unfold leaving
 exact qE (zvq I hst hfr hz F k)
end
theorem zaji{P:Program}{w:World}{K:qC}{mg:Str->Option Value}{base:Heap}{N:List Str}{qual:Str}{scope:Scope}{f:Addr}{cd:Value}{A:Around}{outer:List Env}{s:Shared}{H:Hp}{E:XK}
  {pins:List (Addr×Obj)}{σ:St}{H1:Hp}{s1:Shared}{e C dx:Addr}(I:Inv (cxOf (CXE P w) P w K mg base N qual scope f cd A outer s H E) pins σ H1 s1)(h0k:HOk P w H s.heap)(F:Flt s.heap H1 e C dx)(q:StX H E (.ref C) (some dx) H1) :
  (cxOf (CXE P w) P w K mg base N qual scope f cd A outer s H E).xe (.ref e) s1:=by
 refine zahs (X:=cxOf (CXE P w) P w K mg base N qual scope f cd A outer s H E) I rfl rfl (λb ob z=>I.base.there b ob z (λy=>absurd (show b∈([]:List Addr)from y) (by simp))) F λs' H2 I2 ht hk hx _=>?_
 refine⟨e,C,dx,H2,rfl,I2.os,I2.bare,I2.base,I2.hok,⟨F.new,_,ht.choose_spec.1,.inr ⟨_,rfl,ht.choose_spec.2⟩⟩,λH3 r1 r2=>q H3 (λb o z1 z2=>?_) (λb o z n=>r2 b o (hx b o z n) n)⟩
 obtain⟨ob,y⟩:=(h0k b o z1).there
 exact r1 b o z1 (hk b o ob y z2)
theorem zadv{P:Program}{w:World}{K:qC}{mg:Str->Option Value}{base:Heap}{N:List Str}{qual:Str}{scope:Scope}{f:Addr}{cd:Value}{A:Around}{outer:List Env}{s:Shared}{H:Hp}{E:XK}(h0k:HOk P w H s.heap) :
  zuh (CXE P w) (cxOf (CXE P w) P w K mg base N qual scope f cd A outer s H E) (StX H E):=by
 intro pins σ H1 s1 e s2 I h
 obtain⟨ea,C,dx,H2,rfl,os,bare,un,ok,F,q⟩:=h
 have I2:=I.call' (s':=s2) os un ok bare (λb z=>absurd z (by simp))
 have old:∀b ob,s.heap.get? b=some ob->∃o',s1.heap.get? b=some o':=λb ob z=>I.base.there b ob z (λy=>absurd (show b∈([]:List Addr)from y) (by simp))
 have nw:∀b,s1.heap.get? b=none->s.heap.get? b=none:=λb z=>by
  cases y:s.heap.get? b with
  | none=>rfl
  | some ob=>obtain⟨o',y'⟩:=old b ob y;rw[z]at y';cases y'
 refine zaji I2 h0k ⟨nw _ F.new,?_⟩ (q H2 (λ_ _ _ z=>z) (λ_ _ z _=>z))
 obtain⟨tv,a,b⟩:=F.st
 exact⟨tv,a,b.imp id λ⟨T,x1,x2,x3,x4⟩=>⟨T,x1,x2,nw _ x3,x4⟩⟩
theorem zadw{CX:CXT}{P:Program}{w:World}{K:qC}{mg:Str->Option Value}{base:Heap}{x qual:Str}{st:Stmt}{f:Addr}{fd:qAF}{N ps:List Str}{k:Nat}{sp:Sp}(Fu:Fun K x qual st f fd)(S:FnScope N ps (zan st))(len:∀vs H Q E,sp vs H Q E->vs.length=ps.length)
  (hbody:∀(cdv:Value)(A:Around)(outer:List Env)(s:Shared)(H:Hp)(vs:List V)(Q:VK)(E:XK),Room k (A.deeper (envOfC qual (zan st) s.heap.objs.size f cdv))->HOk P w H s.heap->sp vs H Q E->
   ∃t,PSs (cxOf CX P w K mg base N qual (zan st) f cdv A outer s H E) (zbq st) t/\t {nx:=λ_ H'=>Q .non H',rt:=Q} (zgi N vs) H):FnOk P w K mg base CX (k+1) f fd ps sp:=by
 refine⟨len,λA outer s H args us vs Q E hr e0 hb r hsp=>?_⟩
 obtain⟨oc,od,kV,doc,pm,an,cdv,ct,osl,rfl,lk,hcd⟩:=Fu.ex
 have KX:K.In s.heap:=e0.mod.kin.keeps λb o e=>(e0.bs b o e).1
 refine codeAny_call_function hr.depth (KX _ _ lk) rfl S.co S.gen rfl (qCj KX hcd) (hb _ _ _ _ (qCi S.kind (λ⟨n,v⟩ hy=>?_) λenv he s1 x=>?_))
 ·rcases S.par n (qBm hy).1 with q|q
  ·exact .inl q
  ·exact .inr ⟨q,qBe _ _ _ (.inl q)⟩
 ·subst he
  obtain⟨t,ht,hq⟩:=hbody cdv A outer s H vs Q E (hr.deeper _) e0.hok hsp
  have I:=zum (CX:=CX) (E:=E) S hr.hd e0 (len _ _ _ _ hsp) r x
  refine⟨(e0.mod.nolimit.keeps λb o e=>(e0.bs b o e).1).keeps x.toInCall.keep,codeAny_func (qBZ (ht [] s1 (zgi N vs) H _ I hq) (λfl s' hs=>?_) λe s' hs=>hs)⟩
  cases fl with
  | ret u=>obtain⟨v,σ',H',J,rv,q⟩:=hs;exact⟨v,H',J.os,J.bare,J.base,J.hok,rv,q⟩
  | next=>obtain⟨σ',H',J,q⟩:=hs;exact⟨.non,H',J.os,J.bare,J.base,J.hok,rfl,q⟩
  | brk=>obtain⟨_,_,_,q⟩:=hs;exact q.elim
  | cont=>obtain⟨_,_,_,q⟩:=hs;exact q.elim
noncomputable def xcR(K:qC)(C:Addr):Bool:=match K.lookup C with
 | some ⟨_,_,.cls cd,_⟩=>(match cd.mro with|_::bm=>zdx bm|_=>false)
 | _=>false
theorem zkh{K:qC}{h:Heap}{C:Addr}(X:K.In h)(q:xcIn K C=true)(q2:xcR K C=true):∃nm qn N bs bm sn sub ab col dd k0 k1 k2 k3 k5,
  h.get? C=some (excClassObj nm qn C N bs bm true sn sub ab col dd k0 k1 k2 k3 k5 "ValueError.__new__")/\zdx bm=true/\(Value.ref C::bm).contains (.type "AttributeError")=false/\(Value.ref C::bm).contains (.type "NameError")=false:=by
 obtain⟨nm,qn,N,bs,bm,sn,sub,ab,col,dd,k0,k1,k2,k3,k5,hC,_,_,ha,hn⟩:=zapt X q
 refine⟨nm,qn,N,bs,bm,sn,sub,ab,col,dd,k0,k1,k2,k3,k5,hC,?_,ha,hn⟩
 unfold xcR at q2
 split at q2
 ·rename_i a b cd sl ho
  have:=X _ _ ho
  rw[hC]at this
  have e:=qo this
  unfold excClassObj at e
  injection e with _ _ e _
  injection e with e
  subst e
  exact q2
 ·cases q2
structure XMk(K:qC)(C f:Addr):Prop where
 cls:xcIn K C=true
 tail:xcR K C=true
 init:PySem.W.findIn K (.ref C) "__init__"=some (some (.ref f))
 fn:PySem.W.isFn K (.ref f)=true
 kp:qY K (.ref C)=true
 sa:PySem.W.findIn K (.ref C) "__setattr__"=some (some (.builtin "object.__setattr__"))
 at_:PySem.W.findIn K (.ref C) "at"=some none
 ga:PySem.W.findIn K (.ref C) "__getattribute__"=some (some (.builtin "BaseException.__getattribute__"))
 gh:PySem.W.findIn K (.ref C) "__getattr__"=some none
noncomputable def atV:V->Prop
 | .non=>True
 | .str x=>(PySem.reprText x).length<=1000
 | .int n=>0<=n/\n<100
 | _=>False
noncomputable def xe0(e C:Addr)(h:Heap):Prop:=∃vs sl,h.get? e=some {cls:=.ref C,dict:=none,data:=.fields vs,slots:=sl}/\vs[1]?=some .none
theorem zadx{P:Program}{w:World}{H:Hp}{h:Heap}{e C:Addr}(q:xe0 e C h):zfv P w H h e (.ext (xe0 e C)):=
 ⟨q,(let⟨_,_,a,_⟩:=q;⟨_,a⟩),λh1 h2 ⟨vs,sl,a,b⟩ k=>⟨vs,sl,k _ a,b⟩⟩
noncomputable def spI(C:Addr):Sp:=λvs H Q _=>∃e v,vs=[.ref e,v]/\H e=some (.ext (xe0 e C))/\atV v/\∀dx,H dx=none->dx≠e->Q .non (upd (upd H dx (.xd [("at",v)])) e (.ext (xeD e C dx .none)))
section
variable{X:Cx}{pins:List (Addr×Obj)}{σ:St}{H:Hp}{s:Shared}{C f:Addr}{k:Nat}{fd:qAF}
theorem Inv.new{h':Heap}{a:Addr}{o:HO}{t':Nat}(I:Inv X pins σ H s)(k:∀b u,s.heap.get? b=some u->h'.get? b=some u)(hn:s.heap.get? a=none)(new:zfv X.prog X.w (upd H a o) h' a o):Inv X pins σ (upd H a o) {s with heap:=h',toks:=t'}:=by
 have hH:=HOk.no I.hok hn
 have ne:∀b u,s.heap.get? b=some u->b≠a:=λb u q z=>by rw[z,hn]at q;cases q
 have neH:∀b u,H b=some u->b≠a:=λb u q z=>by rw[z,hH]at q;cases q
 refine I.un (h':=h') ⟨λb o q _ _ _=>k b o q,λb o q _ _ _=>⟨o.slots,k b o q⟩,λb o q n _=>by rw[zax (ne b o q)];exact n,λb o q _=>⟨o,k b o q⟩,λb xs q=>by rw[zax (neH b _ q)];exact q,λb o u q=>by rw[zax (neH b _ q)];exact q,λb ps q=>⟨#[],by rw[zax (neH b _ q),q];simp⟩⟩ λb u q=>?_
 by_cases hb:b=a
 ·subst hb;rw[zaz]at q;cases q;exact new
 ·rw[zax hb]at q
  exact(I.hok b u q).stay (λc v _ q=>k c v q) (λc q=>by rw[zax (neH c _ q)];exact q) λc xs q=>by rw[zax (neH c _ q)];exact q
theorem zady{v:V}{u:Value}(M:XMk X.K C f)(F:FnOk X.prog X.w X.K X.mg X.base CX0 k f fd ["self","at"] (spI C))(hr:Room (k+1) X.A)(hb:znw X.K fd ["self","at"] [])(hex:X.ex=[])(I:Inv X pins σ H s)(rv:RelV v u)(av:atV v)
  {Q:Value->Shared->Prop}(q:∀e dx H' s',Inv X pins σ H' s'->Flt X.s₀.heap H' e C dx->H' e=some (.ext (xeD e C dx .none))->H' dx=some (.xd [("at",v)])->Same H H'->Q (.ref e) s') :
  wpAny (model X.prog X.w) X.A (call (.ref C) [u]) Q X.xe s:=by
 obtain⟨nm,qn,N,bs,bm,sn,sub,ab,col,dd,k0,k1,k2,k3,k5,hC,hbm,ha,hn⟩:=zkh I.kIn M.cls M.tail
 obtain⟨hh,g,d,tk,os⟩:=s
 obtain⟨oI,hfI,hfc⟩:∃oI,hh.get? f=some oI/\oI.cls=.type "function":=by
  have z:(X.K.lookup f).map (·.cls)=some (.type "function"):=beq_iff_eq.mp M.fn
  cases y:X.K.lookup f with
  | none=>rw[y]at z;cases z
  | some o=>rw[y]at z;exact⟨o,I.kIn _ _ y,qo z⟩
 refine zarq (C:=C) hC (by rw[qAR,zdg (by decide) hbm,qAm]) ha hn (qAW I.kIn M.init) hfI hfc (by show 1<=qb;rw[qA1];omega) λh' e hm=>?_
 obtain⟨t,he,htn,ht⟩:=hm.there
 have I2:=Inv.new (h':=h') (a:=e) (o:=.ext (xe0 e C)) (t':=tk) I hm.keeps hm.new (zadx ⟨_,_,he,rfl⟩)
 have hHe:H e=none:=HOk.no I.hok hm.new
 have sp:spI C [.ref e,v] (upd H e (.ext (xe0 e C))) (λr H2=>r=.non/\∃dx,H dx=none/\dx≠e/\H2=upd (upd (upd H e (.ext (xe0 e C))) dx (.xd [("at",v)])) e (.ext (xeD e C dx .none))) E0:=
  ⟨e,v,rfl,zaz,av,λdx hd ne=>⟨rfl,dx,by rw[zax ne]at hd;exact hd,ne,rfl⟩⟩
 refine qCL (qBT (F.run _ X.stack _ _ ⟨[.ref e,u],[]⟩ [.ref e,u] _ _ E0 (hr.make C [u] []) (I2.env0.make C [u] []) (by have:=hb ⟨h',g,d,tk,os⟩ [.ref e,u] I2.kIn rfl;rw[qAL]at this;exact this) (show Vals [V.ref e,v] [Value.ref e,u]from .cons rfl (.cons rv .nil)) sp) λr s' hq=>?_)
 cases r with
 | error x=>exact hq.elim
 | ok fl=>
  cases fl with
  | ret w=>
   obtain⟨v',H2,I3,rv',rfl,dx,hd,ne,rfl⟩:=I2.after hq
   refine⟨rv',q e dx _ s' I3 ⟨?_,.none,zaz,.inl rfl⟩ zaz (by rw[zax ne,zaz]) λb o z=>?_⟩
   ·cases y:X.s₀.heap.get? e with
    | none=>rfl
    | some ob=>
     obtain⟨o',z⟩:=I.base.there e ob y (by rw[hex];simp)
     have:=hm.new
     rw[show hh.get? e=some o' from z]at this
     cases this
   ·have n1:b≠e:=λy=>by rw[y,hHe]at z;cases z
    have n2:b≠dx:=λy=>by rw[y,hd]at z;cases z
    rw[zax n1,zax n2,zax n1]
    exact z
  | next=>exact False.elim hq
  | brk=>exact False.elim hq
  | cont=>exact False.elim hq
noncomputable def Lvs(X:Cx)(E:XK):Prop:=∀(pins:List (Addr×Obj))(σ:St)(H1:Hp)(s1:Shared)(e C dx:Addr),Inv X pins σ H1 s1->Flt X.s₀.heap H1 e C dx->E (.ref C) (some dx) H1->X.xe (.ref e) s1
noncomputable def zadz(C:Addr)(E:XK)(te:TE):TS:=λ_ σ H=>te σ H λv H1=>atV v/\∀H' dx,Same H1 H'->H' dx=some (.xd [("at",v)])->E (.ref C) (some dx) H'
theorem zaht{E:XK}{x:Str}{np cpos pos:Pos}{a:Expr}{te:TE}(M:XMk X.K C f)(F:FnOk X.prog X.w X.K X.mg X.base CX0 k f fd ["self","at"] (spI C))(hr:Room (k+1) X.A)(hb:znw X.K fd ["self","at"] [])(hex:X.ex=[])(hc:X.calm=true)(hx:Lvs X E)
  (hg:Gl X x)(hm:X.mg x=some (.ref C))(ha:PE X a te)(hdb:(x==("__debug__":Str))=false:=by decide)(he:starEach [a] X.env=[(false,eval a X.env)]:=by rfl) :
  PS X (.Raise (some (.Call (.Name x np) [a] [] cpos)) none pos) (zadz C E te):=by
 intro pins s σ H D I h
 rw[arm_exec_Raise]
 refine qE (qBA ?_)
 unfold raiseStmt
 simp only[evalOpt,Option.map]
 refine qE ?_
 have hcall:wpAny (model X.prog X.w) X.A (eval (.Call (.Name x np) [a] [] cpos) X.env) (λr s'=>∃e dx H' v H1,r=.ref e/\Inv X pins σ H' s'/\Flt X.s₀.heap H' e C dx/\H' e=some (.ext (xeD e C dx .none))/\H' dx=some (.xd [("at",v)])/\Same H1 H'/\∀H' dx,Same H1 H'->H' dx=some (.xd [("at",v)])->E (.ref C) (some dx) H') X.xe s:=by
  refine qAu (zom I hg hm ?_ hdb)
  refine qBv (h₀:=X.base) I.ok.mod.kin M.kp (thn (zsr ha zabt he cpos pins s σ H (λvs H1=>match vs with|[v]=>atV v/\∀H' dx,Same H1 H'->H' dx=some (.xd [("at",v)])->E (.ref C) (some dx) H'|_=>False) I h) λus s1 ⟨vs,H1,I1,r,q⟩=>⟨I1.kIn,?_⟩) he rfl
  match vs,q,r with
  | [v],q,r=>
   obtain⟨u,rfl,rv⟩:=zaac r
   exact zady M F hr hb hex I1 rv q.1 λe dx H' s' I' fl he0 hd sm=>⟨e,dx,H',v,H1,rfl,I',fl,he0,hd,sm,q.2⟩
  | [],q,_=>exact q.elim
  | _::_::_,q,_=>exact q.elim
 refine qE (thn hcall λr s' hh=>?_)
 obtain⟨e,dx,H',v,H1,rfl,I',fl,he',hd,sm,q⟩:=hh
 refine qE (qBA (qM ?_))
 obtain⟨nm,qn,N,bs,bm,sn,sub,ab,col,dd,k0,k1,k2,k3,k5,hC,hbm,_,_⟩:=zkh I'.kIn M.cls M.tail
 have hcB:(Value.ref C::bm).contains (.type "BaseException")=true:=by rw[qAR,zdg (by decide) hbm,qAm]
 obtain⟨⟨vs,sl,oe,h1⟩,_,_⟩:=I'.hok e _ he'
 have hxe:=hx pins σ H' s' e C dx I' fl (q H' dx sm hd)
 have hh:=I'.ok.hd hc
 obtain⟨hp,g,d,tk,os⟩:=s'
 repeat (first|with_reducible refine qj oe ?_|with_reducible refine qj hC ?_|(with_reducible refine qAa hC ?_;rw[hcB])|wp_step)
 rw[h1]
 dsimp only
 refine qM ?_
 rw[if_neg (by decide)]
 exact qM (wpAny_raiseNew_none hh hxe)
end
section
variable{X:Cx}{pins:List (Addr×Obj)}{σ:St}{H:Hp}{s:Shared}{C f:Addr}{k:Nat}{fd:qAF}
noncomputable def tMsg(te:TE):TE:=λσ H Q=>te σ H λv H1=>atV v/\∀m,Q (.str m) H1
theorem zaea:∀m<100,Nat.log2 m<1920:=by decide +kernel
theorem zrp:∀m<100,(Str.ofString (toString ((m:Nat):Int))).length<=10:=by decide +kernel
theorem zalr {v:V} {u:Value} {A:Around} {E:Value->Shared->Prop} {Q:Value->Shared->Prop} (r:RelV v u) (av:atV v) (q:∀(m:Str) t,m.length<=1000->Q (.str m s.toks) {s with toks:=t}) :
  wpAny (model X.prog X.w) A (pyReprObj u) Q E s:=by
 cases v with
 | non=>
  cases r
  exact qB1 (T:="NoneType") rfl F.slot_NoneType_repr F.entry_NoneType_repr (by unfold argsOk;kernel_rfl) gives_none_repr (q "None" _ (by decide)) (hx:=by decide)
 | str x=>
  obtain⟨t,rfl⟩:=r
  exact qB1 (T:="str") rfl PyProof.Rows.slot_str_repr PyProof.Rows.entry_str_repr (PyProof.Rows.args_str_repr _) (gives_str_repr x t) (q _ _ av) (hx:=qAC av (by rw[qA1];omega))
 | int n=>
  obtain⟨t,rfl⟩:=r
  obtain⟨n0,n1⟩:=av
  obtain⟨m,rfl⟩:∃m:Nat,n=(m:Int):=⟨n.toNat,by omega⟩
  have hm:m<100:=by omega
  have hb:(m:Int).natAbs.log2<1920:=by
   rw[Int.natAbs_natCast]
   exact zaea m hm
  exact qB1 (T:="int") rfl F.slot_int_repr F.entry_int_repr (F.args_int_repr_1 _) (gives_int_repr (m:Int) t hb) (q _ _ (qAC (zrp m hm) (by decide))) (hx:=qAC (zrp m hm) (by rw[qA1];omega))
 | _=>exact av.elim
theorem zapv{c:Str}{j p a p2 pos te}(ha:PE X a te)(hc:c.length<=1000):PE X (.JoinedStr [.Constant (.str c) j p,.FormattedValue a 114 none p2] pos) (tMsg te):=by
 intro pins s σ H Q I h
 have la:∀x y:Str,(x++y).length=x.length+y.length:=λx y=>by show(x.cps++y.cps).size=x.cps.size+y.cps.size;exact qAn
 have l0:(Str.empty).length=0:=rfl
 have big:(3000:Nat)<=qb:=by rw[qA1];omega
 refine wpAny_JoinedStr ?_
 show wpAny _ _ (eval (.Constant (.str c) j p) X.env) (λv s₁=>∃y t,v=.str y t/\(Str.empty++y).length<=qb/\wpAny _ _ (eval (.FormattedValue a 114 none p2) X.env) (λv s₂=>∃z t,v=.str z t/\((Str.empty++y)++z).length<=qb/\(((Str.empty++y)++z).length<=qb/\_)) _ s₁) _ s
 refine qCx ⟨c,_,rfl,by rw[la,l0];omega,?_⟩
 refine wpAny_FormattedValue_repr (thn (ha pins _ σ H _ (I.tok _) h) λu s1 ⟨v,H1,I1,r,av,q⟩=>zalr (X:=X) r av λm t hm=>?_)
 have lz:((Str.empty++c)++m).length<=qb:=by rw[la,la,l0];omega
 have fin:∀tk,EP X pins σ Q (.str ((Str.empty++c)++m) tk) {s1 with toks:=tk+1}:=λtk=>⟨.str _,H1,I1.tok _,⟨_,rfl⟩,q _⟩
 exact wpAny_formatField_str ⟨m,_,rfl,lz,lz,fin _⟩ ⟨m,_,rfl,lz,lz,fin _⟩ (by omega)
noncomputable def zajj(C:Addr)(t:TA):TE:=λσ H Q=>t σ H λvs H1=>∃e m,vs=[.ref e,m]/\H1 e=some (.ext (xe0 e C))/\Q .non H1
theorem zxj{K:qC}:PySem.W.findCls K (.type "ValueError") (.type "type") "__init__"=some (.val (.builtin "ValueError.__init__")):=by
 first|rfl|decide +kernel|kernel_rfl
theorem zps:bootBuiltins "ValueError"=some (.type "ValueError"):=by decide +kernel
theorem zahu{p p2 pos:Pos}{e:Expr}{es:List Expr}{t:TA}{pl:Sem Bool}(M:XMk X.K C f)(hg:Gl X "ValueError")(hm:X.mg "ValueError"=none)(ha:PA X (e::es) t)
  (hst:starEach (e::es) X.env=(false,eval e X.env)::starEach es X.env:=by rfl)(hpl:(backTo pos (starEach es X.env)).any (·.1)=false:=by rfl)
  (ht:eval (.Call (.Attribute (.Name "ValueError" p) "__init__" p2) (e::es) [] pos) X.env=(do
   let ov <- eval (.Name "ValueError" p) X.env
   standAt p2.atName
   let(f,first) <- holding [ov] (getMethod ov "__init__" pl)
   callWith pos f first (backTo pos (starEach (e::es) X.env)) (backToKw pos (keywordEach [] X.env))):=by rfl) :
  PE X (.Call (.Attribute (.Name "ValueError" p) "__init__" p2) (e::es) [] pos) (zajj C t):=by
 intro pins s σ H Q I h
 refine PySem.W.methodCall_KW (pl:=pl) (zlv I hg hm zps ?_ (by decide) (by decide)) ht
 obtain⟨m,fr⟩:=I.fr
 refine PySem.W.method_type fr I.ok.mod.kin (by kernel_rfl) (by decide +kernel) zxj (by decide +kernel) ?_
 have hA:=ha pos pins _ σ H _ (I.tok (s.toks+1)) h
 rw[hst]at hA ⊢
 refine qCc (by show(false||(backTo pos (starEach es X.env)).any (·.1))=false;rw[hpl]<;>rfl) (qCk ?_)
 refine thn hA λus s2 ⟨vs,H2,I2,r2,e',mv,ev,he,q⟩=>?_
 subst ev
 obtain⟨u1,u2,rfl,r1,r3⟩:=zwr r2
 cases r1
 obtain⟨nm,qn,N,bs,bm,sn,sub,ab,col,dd,k0,k1,k2,k3,k5,hC,hbm,_,_⟩:=zkh I2.kIn M.cls M.tail
 obtain⟨⟨vs,sl,oe,h1⟩,_,_⟩:=I2.hok e' _ he
 obtain⟨hh,g,d,tk,os⟩:=s2
 refine zars hbm (by show 1<=qb;rw[qA1];omega) hC oe rfl rfl (Nat.lt_of_succ_lt (qAc.mp h1).1) λh' p' a1 a2=>?_
 refine⟨.non,H2,?_,rfl,q⟩
 have hup:upd H2 e' (.ext (xe0 e' C))=H2:=by
  funext b
  by_cases hb:b=e'
  ·subst hb;rw[zaz,he]
  ·rw[zax hb]
 have:=I2.write (x:=e') (e:=e') (o:=.ext (xe0 e' C)) (h':=h') (t':=tk) (by rw[he];exact True.intro) (.inl rfl) (λb u hb z=>a2 b u hb z) ⟨_,a1⟩ (zadx ⟨_,_,a1,by rw[Array.getElem?_setIfInBounds_ne (by decide)];exact h1⟩)
 rw[hup]at this
 exact this
end
section
variable{X:Cx}{pins:List (Addr×Obj)}{σ:St}{H:Hp}{s:Shared}{C f:Addr}{k:Nat}{fd:qAF}
noncomputable def tSat(C:Addr)(ta tv:TE):TS:=λD σ H=>tv σ H λv H1=>ta σ H1 λx H2=>∃e,x=.ref e/\H2 e=some (.ext (xe0 e C))/\∀dx,H2 dx=none->dx≠e->D.nx σ (upd (upd H2 dx (.xd [("at",v)])) e (.ext (xeD e C dx .none)))
theorem zapw{o value:Expr}{pos' pos:Pos}{ta tv:TE}(M:XMk X.K C f)(ha:PE X o ta)(hv:PE X value tv)(hs:swapsWith value (some (.Attribute o "at" pos')) pos.line X.env=pure false:=by rfl):PS X (.Assign [.Attribute o "at" pos'] value pos) (tSat C ta tv):=by
 intro pins s σ H D I h
 refine plainObj_wpAny_Assign_Attribute (thn (hv pins s σ H _ I h) λu s1 ⟨y,H1,I1,ry,q⟩=>thn (ha pins s1 σ H1 _ I1 q) λov s2 ⟨x,H2,I2,rx,e,ex,he,q2⟩=>?_) hs
 subst ex
 obtain rfl:ov=Value.ref e:=rx
 obtain⟨nm,qn,N,bs,bm,sn,sub,ab,col,dd,k0,k1,k2,k3,k5,hC,hbm,_,_⟩:=zkh I2.kIn M.cls M.tail
 obtain⟨⟨vs,sl,oe,h1⟩,_,_⟩:=I2.hok e _ he
 obtain⟨hh,g,d,tk,os⟩:=s2
 refine zapu hbm hC oe rfl (λc z=>by cases z) rfl (qAW I2.kIn M.sa) (qAW I2.kIn M.at_) λh' tk' dx a1 a2 a3 a4=>?_
 have hdx:H2 dx=none:=I2.hok.fresh a1
 have ne:dx≠e:=λz=>by rw[z,he]at hdx;cases hdx
 refine⟨σ,upd (upd H2 dx (.xd [("at",y)])) e (.ext (xeD e C dx .none)),?_,q2 dx hdx ne⟩
 have n2:∀b,b≠e->b≠dx->upd (upd H2 dx (.xd [("at",y)])) e (.ext (xeD e C dx .none)) b=H2 b:=λb p q=>by rw[zax p,zax q]
 have nb:∀b o,H2 b=some o->(∀φ,o≠.ext φ)->b≠e/\b≠dx:=λb o z n=>⟨λy=>(by rw[y,he]at z;cases z;exact n _ rfl),λy=>(by rw[y,hdx]at z;cases z)⟩
 have st:∀b o,H2 b=some o->(∀φ,o≠.ext φ)->upd (upd H2 dx (.xd [("at",y)])) e (.ext (xeD e C dx .none)) b=some o:=λb o z n=>by rw[n2 b (nb b o z n).1 (nb b o z n).2];exact z
 have lt:∀b u,hh.get? b=some u->b≠dx:=λb u z y=>by rw[y]at z;exact absurd (qN z) (Nat.not_lt.mpr a1)
 refine Inv.un (s:=⟨hh,g,d,tk,os⟩) I2 (h':=h') ⟨λb o z n _ _=>a4 b o (λy=>by rw[y,he]at n;cases n) z,λb o z n _ _=>⟨o.slots,a4 b o (λy=>by rw[y,he]at n;cases n) z⟩,λb o z n _=>?_,λb o z _=>?_,λb xs z=>st b _ z (λφ y=>by cases y),λb o u z=>st b _ z (λφ y=>by cases y),λb ps z=>⟨#[],by rw[st b _ z (λφ y=>by cases y)];simp⟩⟩ λb o z=>?_
 ·rw[n2 b (λy=>by rw[y,he]at n;cases n) (lt b o z)];exact n
 ·by_cases hb:b=e
  ·exact⟨_,by rw[hb];exact a3⟩
  ·exact⟨o,a4 b o hb z⟩
 ·by_cases hb:b=e
  ·subst hb
   rw[zaz]at z
   cases z
   exact zajh ⟨vs,sl,a3,h1⟩
  ·by_cases hd:b=dx
   ·subst hd
    rw[zax hb,zaz]at z
    cases z
    refine⟨_,a2,λn=>?_⟩
    by_cases hn:n="at"
    ·subst hn
     exact ry
    ·have:List.lookup n [((("at":Str)),y)]=none:=by
      rw[qAh]
      have:(n==("at":Str))=false:=by rw[beq_eq_false_iff_ne];exact hn
      rw[this]
      rfl
     rw[this]
     show RelO none (if n=("at":Str)then _ else _)
     rw[if_neg hn]
     trivial
   ·rw[n2 b hb hd]at z
    refine(I2.hok b o z).stay (λc u hc y=>a4 c u ?_ y) (λc y=>st c _ y (λφ x=>by cases x)) (λc xs y=>st c _ y (λφ x=>by cases x))
    rcases hc with rfl|hc
    ·exact hb
    ·exact λx=>by rw[x,he]at hc;cases hc
noncomputable def tXat(C:Addr)(te:TE):TE:=λσ H Q=>te σ H λx H1=>∃e dx tv v,x=.ref e/\H1 e=some (.ext (xeD e C dx tv))/\H1 dx=some (.xd [("at",v)])/\Q v H1
theorem zapx{o:Expr}{pos:Pos}{te:TE}(M:XMk X.K C f)(ho:PE X o te)(hb:attributeBase o "at" X.env (eval o X.env)=eval o X.env:=by rfl):PE X (.Attribute o "at" pos) (tXat C te):=by
 intro pins s σ H Q I h
 refine zakh hb (thn (ho pins s σ H _ I h) λu s1 ⟨x,H1,I1,rx,e,dx,tv,v,ex,he,hd,q⟩=>?_)
 subst ex
 obtain rfl:u=Value.ref e:=rx
 obtain⟨nm,qn,N,bs,bm,sn,sub,ab,col,dd,k0,k1,k2,k3,k5,hC,hbm,_,_⟩:=zkh I1.kIn M.cls M.tail
 obtain⟨⟨vs,sl,oe,h1⟩,_,_⟩:=I1.hok e _ he
 obtain⟨mA,ns,rl⟩:=I1.hok dx _ hd
 have hv:∃w,mA "at"=some w/\RelV v w:=by
  have:=rl "at"
  rw[show List.lookup ("at":Str) [(("at":Str),v)]=some v from rfl]at this
  cases y:mA "at"with
  | none=>rw[y]at this;exact this.elim
  | some w=>rw[y]at this;exact⟨w,rfl,this⟩
 obtain⟨w,hw,rw'⟩:=hv
 obtain⟨hh,g,d,tk,os⟩:=s1
 refine zarr hbm hC oe rfl rfl rfl ns.ns hw (qAW I1.kIn M.ga) (qAW I1.kIn M.gh) (qAW I1.kIn M.at_) (zabr rw') λtk'=>⟨v,H1,I1.tok _,rw',q⟩
end
noncomputable def zahv(c:Str)(p1 p2 p3 p4 p5 p6 p7 p8 p9 p10 p11 p12 p13:Pos):List Stmt:=
 [.Expr (.Call (.Attribute (.Name "ValueError" p1) "__init__" p2) [.Name "self" p3,.JoinedStr [.Constant (.str c) 0 p4,.FormattedValue (.Name "at" p5) 114 none p6] p7] [] p8) p9,
  .Assign [.Attribute (.Name "self" p10) "at" p11] (.Name "at" p12) p13]
noncomputable def zahw(c:Str)(p1 p2 p3 p4 p5 p6 p7 p8:Pos):Prop:=∀env:Env,∃pl:Sem Bool,eval (.Call (.Attribute (.Name "ValueError" p1) "__init__" p2) [.Name "self" p3,.JoinedStr [.Constant (.str c) 0 p4,.FormattedValue (.Name "at" p5) 114 none p6] p7] [] p8) env=(do
   let ov <- eval (.Name "ValueError" p1) env
   standAt p2.atName
   let(f,first) <- holding [ov] (getMethod ov "__init__" pl)
   callWith p8 f first (backTo p8 (starEach [.Name "self" p3,.JoinedStr [.Constant (.str c) 0 p4,.FormattedValue (.Name "at" p5) 114 none p6] p7] env)) (backToKw p8 (keywordEach [] env)))
theorem zaeb{P:Program}{w:World}{K:qC}{mg:Str->Option Value}{base:Heap}{C f:Addr}{qual:Str}{st:Stmt}{fd:qAF}{c:Str}{p1 p2 p3 p4 p5 p6 p7 p8 p9 p10 p11 p12 p13:Pos}(F:Fun K "__init__" qual st f fd)(M:XMk K C f)(hm:mg "ValueError"=none)
  (hb:zbq st=zahv c p1 p2 p3 p4 p5 p6 p7 p8 p9 p10 p11 p12 p13) (hsc:zan st={kind:=.function,names:=[("self",.local),("at",.local),("ValueError",.globalImplicit)],isGenerator:=false,isCoroutine:=false}) (hc:c.length<=1000) (ht:zahw c p1 p2 p3 p4 p5 p6 p7 p8) :
  FnOk P w K mg base CX0 1 f fd ["self","at"] (spI C):=by
 have nd:(["self","at"]:List Str).Nodup:=by decide +kernel
 have S:FnScope ["self","at"] ["self","at"] (zan st):=by rw[hsc];exact⟨rfl,rfl,rfl,nd,rfl,by decide +kernel,by decide +kernel⟩
 refine F.ok S (λvs H Q E h=>by obtain⟨e,v,rfl,_⟩:=h;rfl) λcdv A outer s H vs Q E hr h=>?_
 obtain⟨e,v,rfl,he,av,q⟩:=h
 have g0:visB (cxOf CX0 P w K mg base ["self","at"] qual (zan st) f cdv A outer s H E).nox.env.scope "self"=true:=by show visB (zan st) _=_;rw[hsc];decide +kernel
 have g1:visB (cxOf CX0 P w K mg base ["self","at"] qual (zan st) f cdv A outer s H E).nox.env.scope "at"=true:=by show visB (zan st) _=_;rw[hsc];decide +kernel
 have g2:Gl (cxOf CX0 P w K mg base ["self","at"] qual (zan st) f cdv A outer s H E).nox "ValueError":=by show(zan st).names.lookup _=_;rw[hsc];decide +kernel
 have e0:∀{p:Pos},PE (cxOf CX0 P w K mg base ["self","at"] qual (zan st) f cdv A outer s H E).nox (.Name "self" p) (tVar 0):=λ{p}=>pv 0 rfl g0
 have e1:∀{p:Pos},PE (cxOf CX0 P w K mg base ["self","at"] qual (zan st) f cdv A outer s H E).nox (.Name "at" p) (tVar 1):=λ{p}=>pv 1 rfl g1
 refine⟨tSeq (tDrop (zajj C (tCons (tVar 0) (tCons (tMsg (tVar 1)) tNil)))) (tSat C (tVar 0) (tVar 1)),?_,?_⟩
 ·rw[hb]
  obtain⟨pl,ht⟩:=ht (cxOf CX0 P w K mg base ["self","at"] qual (zan st) f cdv A outer s H E).nox.env
  exact zyq (zabj (zahu (f:=f) (pl:=pl) M g2 hm (zsr e0 (zsr (zapv e1 hc) zabt)) rfl rfl ht)) (zabi (zapw M e0 e1))
 ·exact⟨_,rfl,v,rfl,av,λm=>⟨e,_,rfl,he,v,rfl,_,rfl,e,rfl,he,q⟩⟩
noncomputable def atD:PyData->Bool
 | .none=>true
 | .str x=>decide ((PySem.reprText x).length<=1000)
 | .int n=>decide (0<=n/\n<100)
 | _=>false
theorem zzf{d:PyData}(h:atD d=true):zhr d=true:=by cases d<;>first|rfl|cases h
theorem zart{H:Hp}{d:PyData}{v:V}(h:atD d=true)(r:Rp H d v):atV v:=by
 cases d with
 | none=>rw[zwv r];trivial
 | str x=>rw[zjz r];show(PySem.reprText x).length<=1000;exact of_decide_eq_true h
 | int n=>rw[zda r];show 0<=n/\n<100;exact of_decide_eq_true h
 | _=>cases h
noncomputable def RX(H0:Hp)(C:Addr)(d:PyData):XK:=λc od H'=>c=.ref C/\Same H0 H'/\zhr d=true/\∃dx v,od=some dx/\H' dx=some (.xd [("at",v)])/\Rp H' d v
theorem RX.base{H0 H1:Hp}{C:Addr}{d:PyData}(s:Same H0 H1){c:Value}{od:Option Addr}{H':Hp}(h:RX H1 C d c od H'):RX H0 C d c od H':=
 let⟨a,b,r⟩:=h;⟨a,s.trans b,r⟩
theorem RX.stx{H0:Hp}{C:Addr}{d:PyData}{E:XK}(h:∀c od H',RX H0 C d c od H'->E c od H'){c:Value}{od:Option Addr}{H':Hp}(q:RX H0 C d c od H'):StX H0 E c od H':=by
 intro H3 r1 r2
 obtain⟨a,b,f,dx,v,e1,e2,e3⟩:=q
 exact h _ _ _ ⟨a,λx o z=>r1 x o z (b x o z),f,dx,v,e1,r2 _ _ e2 (λφ z=>by cases z),zou f e3⟩
inductive OutX where
 | ok (o:Out)
 | rx (c:Str) (d:PyData)
noncomputable def SatX(cl:Str->Addr)(fx:Addr->Prop)(H0:Hp)(D:Ends)(E:XK):OutX->Prop
 | .ok o=>Sat fx H0 D o
 | .rx c d=>∀k od H',RX H0 (cl c) d k od H'->E k od H'
noncomputable abbrev SFX:=DEnv->Option OutX
noncomputable def SSx(cl:Str->Addr)(ts:XK->TS)(F:SFX):Prop:=∀(fx:Addr->Prop)(H0:Hp)(env:DEnv)(σ:St)(H:Hp)(D:Ends)(E:XK),EnvOk fx H0 env σ H->∀o,F env=some o->SatX cl fx H0 D E o->ts E D σ H
section
variable{cl:Str->Addr}
noncomputable def xOf(f:SF):SFX:=λenv=>(f env).map .ok
theorem zpt{t:TS}{f:SF}(h:SS t f):SSx cl (λ_=>t) (xOf f):=by
 intro fx H0 env σ H D E hE o e q
 obtain⟨o',e',rfl⟩:=qH.mp e
 exact h fx H0 env σ H D hE o' e' q
noncomputable def xSeq(f g:SFX):SFX:=λenv=>(f env).bind λo=>match o with
 | .ok (.nx env')=>g env'
 | o=>some o
theorem zne{t u:XK->TS}{f g:SFX}(h1:SSx cl t f)(h2:SSx cl u g):SSx cl (λE=>tSeq (t E) (u E)) (xSeq f g):=by
 intro fx H0 env σ H D E hE o e q
 obtain⟨o1,e1,e⟩:=qA.mp e
 refine h1 fx H0 env σ H _ E hE o1 e1 ?_
 cases o1 with
 | rx c d=>cases e;exact q
 | ok o1=>
  cases o1 with
  | nx env'=>exact λσ' H' h'=>h2 fx H0 env' σ' H' D E h' o e q
  | bk env'=>cases e;exact q
  | ct env'=>cases e;exact q
  | rt d fr=>cases e;exact q
noncomputable def xIf(c:TF)(f g:SFX):SFX:=λenv=>(c env).bind λb=>if b=true then f env else g env
theorem zajk{tc:TT}{t u:XK->TS}{c:TF}{f g:SFX}(hc:ST tc c)(h1:SSx cl t f)(h2:SSx cl u g):SSx cl (λE=>tIfS tc (t E) (u E)) (xIf c f g):=by
 intro fx H0 env σ H D E h o e q
 obtain⟨b,eb,e⟩:=qA.mp e
 refine hc fx H0 env σ H h b eb _ λH' s=>?_
 cases b with
 | true=>exact iteT (h1 fx H0 env σ H' D E (h.up s) o e q)
 | false=>exact iteF (h2 fx H0 env σ H' D E (h.up s) o e q)
noncomputable def zmh(c:Str)(f:EF):SFX:=λenv=>(f env).bind λr=>if atD r.d=true then some (.rx c r.d)else none
theorem zvr{c:Str}{te:TE}{f:EF}(h1:SE te f):SSx cl (λE=>zadz (cl c) E te) (zmh c f):=by
 intro fx H0 env σ H D E h o e q
 obtain⟨r,er,e⟩:=qA.mp e
 split at e
 ·rename_i ha
  cases e
  refine h1 fx H0 env σ H h r er _ λv H' s hv=>⟨zart ha hv.rp,λH2 dx s2 hd=>q _ _ _ ⟨rfl,(h.base.trans s).trans s2,zzf ha,dx,v,rfl,hd,zou (zzf ha) hv.rp⟩⟩
 ·cases e
noncomputable def zxk(g:GT)(body:SFX):List PyData->DEnv->Option OutX
 | [],env=>some (.ok (.nx env))
 | d::ds,env=>(g d env).bind λe1=>(body e1).bind λo=>match o with
  | .ok (.nx e2)=>zxk g body ds e2
  | .ok (.ct e2)=>zxk g body ds e2
  | .ok (.bk e2)=>some (.ok (.nx e2))
  | .ok (.rt d fr)=>some (.ok (.rt d fr))
  | .rx c d=>some (.rx c d)
noncomputable def xFor(f:IF')(g:GT)(body:SFX):SFX:=λenv=>(f env).bind λz=>zxk g body z.1 (frzs env z.2)
theorem zals{wi:TI}{g:TG}{tb:XK->TS}{f:IF'}{gf:GT}{body:SFX}(h1:SI wi f)(h2:SG g gf)(h3:SSx cl tb body):SSx cl (λE=>tFor wi g (tb E)) (xFor f gf body):=by
 intro fx H0 env σ H D E h o e q
 obtain⟨⟨ds,bs⟩,er,e⟩:=qA.mp e
 refine h1 fx H0 env σ H h ds bs er _ λJ H1 s yl=>?_
 have hE:=(h.up s).frzs bs
 have fl:=hE.floor
 refine⟨λi m σ' H'=>m=ds.length - i/\i<=ds.length/\∃env',zxk gf body (ds.drop i) env'=some o/\EnvOk fx (Offs (own (frzs env bs) σ) H1) env' σ' H',⟨ds.length,rfl,qAt _,_,e,hE.rebase⟩,?_⟩
 rintro i m σ' H' ⟨rfl,hi,env',e',h'⟩
 obtain⟨yi,ys⟩:=yl _ H' h'.all h'.seen
 by_cases hlt:i<ds.length
 ·obtain⟨yg,yy⟩:=yi i ds[i] (qF hlt)
  refine .inr ⟨yg,λσ'' H''=>i+1<=ds.length/\∃env'',zxk gf body (ds.drop (i+1)) env''=some o/\EnvOk fx (Offs (own (frzs env bs) σ) H1) env'' σ'' H'',?_,?_⟩
  ·rintro σ'' H'' ⟨hle,env'',e'',h''⟩
   exact⟨ds.length - (i+1),by omega,rfl,hle,env'',e'',h''⟩
  ·intro x H'' hy
   obtain⟨sy,ry⟩:=yy x H'' hy
   rw[qAY hlt]at e'
   obtain⟨e1,ee1,e'⟩:=qA.mp e'
   obtain⟨o1,eo1,e'⟩:=qA.mp e'
   refine h2 fx _ env' σ' H'' _ x (h'.up sy) ry e1 ee1 _ λσ2 h2'=>h3 fx _ e1 σ2 H'' _ E h2' o1 eo1 ?_
   cases o1 with
   | rx c d=>cases e';exact λk od H3 r=>q k od H3 (r.base fl)
   | ok o1=>
    cases o1 with
    | nx e2=>exact λσ3 H3 hh=>⟨hlt,e2,e',hh⟩
    | ct e2=>exact λσ3 H3 hh=>⟨hlt,e2,e',hh⟩
    | bk e2=>cases e';exact λσ3 H3 hh=>q σ3 H3 (hh.unbase fl)
    | rt d fr=>cases e';exact λv H3 sh rt=>q v H3 (fl.trans sh) (rt.unbase fl)
 ·have hi':i=ds.length:=by omega
  subst hi'
  rw[qA0]at e'
  cases e'
  exact .inl ⟨ys,q σ' H' (h'.unbase fl)⟩
inductive ResX where
 | ok (d:PyData) (fr:Bool)
 | rx (c:Str) (d:PyData)
noncomputable abbrev GFX:=List PyData->Option ResX
noncomputable def zaru(cl:Str->Addr)(fx:Addr->Prop)(H:Hp)(Q:VK)(E:XK):ResX->Prop
 | .ok d fr=>∀v H',Same H H'->ztc fx H d fr v H'->Q v H'
 | .rx c d=>∀k od H',RX H (cl c) d k od H'->E k od H'
noncomputable def spX(cl:Str->Addr)(n:Nat)(g:GFX):Sp:=λvs H Q E=>∃(fx:Addr->Prop)(ds:List PyData)(r:ResX),ds.length=n/\(∀b,fx b->∃o,H b=some o)/\Rps (Offs fx H) ds vs/\g ds=some r/\zaru cl fx H Q E r
theorem zxl{n:Nat}{g:GFX}{vs:List V}{H:Hp}{Q:VK}{E:XK}(h:spX cl n g vs H Q E):vs.length=n:=by
 obtain⟨fx,ds,r,hn,hf,rr,_⟩:=h
 rw[<- rr.length];exact hn
noncomputable def fnX(n:Nat)(f:SFX):GFX:=λds=>match f (zhw n ds)with
 | some (.ok (.rt d fr))=>some (.ok d fr)
 | some (.ok (.nx _))=>some (.ok .none false)
 | some (.rx c d)=>some (.rx c d)
 | _=>none
theorem fn_x{N:List Str}{n:Nat}{f:SFX}{t:XK->TS}(hs:SSx cl t f){vs:List V}{H:Hp}{Q:VK}{E:XK}(h:spX cl n (fnX N.length f) vs H Q E):t (StX H E) {nx:=λ_ H'=>Q .non H',rt:=Q} (zgi N vs) H:=by
 obtain⟨fx,ds,r,hn,hf,rr,g,k⟩:=h
 unfold fnX at g
 split at g
 ·rename_i d' fr' eo
  cases g
  exact hs fx H _ _ H _ _ (zir hf rr) _ eo λv H' s rt=>k v H' s rt
 ·rename_i e' eo
  cases g
  exact hs fx H _ _ H _ _ (zir hf rr) _ eo λσ H' hE=>k .non H' hE.base ⟨zhf,λz=>by cases z⟩
 ·rename_i c d eo
  cases g
  exact hs fx H _ _ H _ _ (zir hf rr) _ eo λk' od H' q=>RX.stx k q
 ·cases g
noncomputable def zxm(n:Nat)(g:GFX)(f:AF):SFX:=λenv=>(f env).bind λrs=>if rs.length=n then(g (zfx rs)).map λr=>match r with
 | .ok _ _=>.ok (.nx env)
 | .rx c d=>.rx c d else none
theorem zzg{n:Nat}{g:GFX}{ta:TA}{f:AF}(ha:SA ta f):SSx cl (λE=>tDrop (tCall (spX cl n g) [] E ta)) (zxm n g f):=by
 intro fx H0 env σ H D E h o e q
 obtain⟨rs,er,e⟩:=qA.mp e
 split at e
 ·rename_i hn
  obtain⟨r,ez,rfl⟩:=qH.mp e
  refine ha fx H0 env σ H h rs er _ λvs H1 s1 v1=>?_
  rw[qAL]
  refine⟨lim fx env σ (bss rs),zfx rs,r,by rw[zgj];exact hn,(h.up s1).lims _,zfg (λi hi=>hi) v1,ez,?_⟩
  cases r with
  | ok d fr=>exact λw H3 s3 _=>q σ H3 (h.up (s1.trans s3))
  | rx c d=>exact λk od H3 r=>q k od H3 (r.base (h.base.trans s1))
 ·cases e
end
noncomputable abbrev Cx.hold(X:Cx)(e:Addr):Cx:={X with A:=X.A.mark (some (.ref e)),calm:=false,xe:=λ_ _=>False}
section
variable{X:Cx}{pins:List (Addr×Obj)}{σ:St}{H:Hp}{s:Shared}
theorem Inv.hold(I:Inv X pins σ H s)(e:Addr):Inv (X.hold e) pins σ H s:=
 ⟨⟨I.ok.mod,I.ok.kind,I.ok.glob,I.ok.blt,I.ok.above,I.ok.inj,I.ok.has,I.ok.cab,(λz=>by cases z),I.ok.frames,I.ok.stk,I.ok.exf,I.ok.bs,I.ok.bsz,I.ok.noex,I.ok.exfs,I.ok.funs,I.ok.frf⟩,I.os,I.bare,I.base,I.loc,I.cell,I.free,I.freeC,I.pin,I.hok,I.len⟩
theorem Inv.unhold{e:Addr}(ok:X.Ok)(I:Inv (X.hold e) pins σ H s):Inv X pins σ H s:=
 ⟨ok,I.os,I.bare,I.base,I.loc,I.cell,I.free,I.freeC,I.pin,I.hok,I.len⟩
theorem zaec{A:Around}{E:Value->Shared->Prop}{n:Str}{pos:Pos}{j:Nat}{Q:Unit->Shared->Prop}(I:Inv X pins σ H s)(hN:X.N.Nodup)(hj:X.N[j]?=some n)(hl:X.env.scope.names.lookup n=some .local)
  (h:∀s',Inv X pins (σ.set j none) H s'->Q () s'):wpAny (model X.prog X.w) A (do bindName X.env n .none;unbindBehindTheSuite X.env n pos) Q E s:=by
 obtain⟨m,hn,hlk⟩:=id I.loc
 have hcls:(X.env.scope.kind==.class||(X.env.scope.kind==.module&&X.env.locals != X.env.globals))=false:=by rw[I.ok.kind];rfl
 refine wpAny_nameGoes_keeps hl hn hcls λh' v ns sb=>h _ ?_
 have lo:∀b ob,X.s₀.heap.get? b=some ob->h'.get? b=s.heap.get? b:=λb ob e=>sb.2 b (qz (qg (qN e) I.ok.above))
 have cne:=I.cne
 refine⟨I.ok,I.os,I.bare,⟨λb o e n hb hx=>(lo b o e).trans (I.base.keep b o e n hb hx),λb o e n hb hx=>?_,I.base.free,λb o e hx=>?_,I.base.tups,I.base.frzs,I.base.tbls⟩,⟨_,ns,λk y v' e1 e2 e3=>?_⟩,λy c e=>?_,I.free,I.freeC,λp hp=>?_,λb ob e=>?_,by simpa using I.len⟩
 ·obtain⟨sl,e1⟩:=I.base.slot b o e n hb hx
  exact⟨sl,(lo b o e).trans e1⟩
 ·obtain⟨o',e1⟩:=I.base.there b o e hx
  exact⟨o',(lo b o e).trans e1⟩
 ·by_cases hk:k=j
  ·subst hk
   rw[qAB (by have:=(qW.mp hj).1;rw[I.len];exact this)]at e2
   cases e2
  ·rw[qP (qAg hk)]at e2
   obtain⟨u',r',q⟩:=hlk k y v' e1 e2 e3
   refine⟨u',r',?_⟩
   rcases q with⟨z,e⟩|⟨z,c,e,y'⟩
   ·refine .inl ⟨z,?_⟩
    have:y≠n:=λe=>hk (zsp hN e1 (e▸hj))
    simp[this,e]
   ·exact .inr ⟨z,c,e,y'.sameBut sb (cne y c e)⟩
 ·obtain⟨w',z⟩:=I.cell y c e
  exact⟨w',z.sameBut sb (cne y c e)⟩
 ·obtain⟨e,n,ne,nf,d⟩:=I.pin p hp
  exact⟨(sb.2 p.1 ne).trans e,n,ne,nf,d⟩
 ·refine(I.hok b ob e).stay (λc w' hc q=>(sb.2 c ?_).trans q) (λ_ q=>q) λ_ _ q=>q
  rintro rfl
  rcases hc with hc|hc
  ·rw[<- hc,I.free]at e;cases e
  ·rw[I.free]at hc;cases hc
end
section
variable{X:Cx}{pins:List (Addr×Obj)}{σ:St}{H:Hp}{s:Shared}
end
section
variable{X:Cx}{pins:List (Addr×Obj)}{σ:St}{H1:Hp}{s1:Shared}
end
end L2
namespace PySem
open Sem (wp)
open Builtin Builtin.ObjectAttr
section
variable{prog:Program}{w:World}{A:Around}{E:Value->Shared->Prop}{h:Heap}{g:Array GenState}{d:Drawn}{t:Nat}{os:OsState}
variable{nm q:Str}{C N x:Addr}{bs bm:List Value}{sn:List Str}{sub:List Value}{ab:Bool}{col:Option Bool}{dd:Option Addr}{k0 k1 k2 k3 k5:Option Value}{newId:String}{o:Obj}
theorem zaat {R:Result->Shared->Prop} (hr:zdx bm=true) (hC:h.get? C=some (excClassObj nm q C N bs bm true sn sub ab col dd k0 k1 k2 k3 k5 newId)) (hx:h.get? x=some o) (hc:o.cls=.ref C) (hq:R (.ok (.ret (.ref C))) ⟨h,g,d,t,os⟩) :
  codeAny (model prog w) A (.call (.builtin "getset_descriptor.__get__") ⟨[.builtin "object.__class__",.ref x,.ref C],[]⟩) R ⟨h,g,d,t,os⟩:=by
 have hT5:(⟨h,g,d,t,os⟩:Shared).TypeIs (.builtin "object.__class__") "getset_descriptor":=qBx
 have hcB:(Value.ref C::bm).contains (.type (".".intercalate ("object.__class__".cutAt '.').dropLast))=true:=by
  rw[F.owner_object_class,qAR,zdg (by decide) hr];rfl
 refine qBD qCq.plain F.entry_gs_get (qCq.check _ _ _ _ _ _ _ _ hT5 (F.args_gs_get _ _ _) ?_)
 repeat (any_goals (first|assumption|(with_reducible refine qj hx ?_;rw[hc])|(with_reducible refine qAa hC ?_;rw[hcB])|wp_step))
 refine⟨qB7 _ (by decide +kernel),codeAny_builtin F.entry_object_class ?_⟩
 repeat (any_goals (first|assumption|(with_reducible refine qj hx ?_;rw[hc])|wp_step))
theorem zapy{Q:Option Value->Shared->Prop}(hr:zdx bm=true)(hC:h.get? C=some (excClassObj nm q C N bs bm true sn sub ab col dd k0 k1 k2 k3 k5 newId))(hx:h.get? x=some o)(hc:o.cls=.ref C)
  (LG:W.Looks (model prog w) h (typeLookup (.ref C) "__getattribute__") (some (.builtin "BaseException.__getattribute__")))(LA:W.Looks (model prog w) h (typeLookup (.ref C) "__class__") (some (.builtin "object.__class__")))
  (LH:W.Looks (model prog w) h (typeLookup (.ref C) "__getattr__") none) (hq:Q (some (.ref C)) ⟨h,g,d,t+1,os⟩):wpAny (model prog w) A (getAttr? (.ref x) "__class__") Q E ⟨h,g,d,t,os⟩:=by
 have hk:builtinKind "BaseException.__getattribute__"=some .slot:=by decide +kernel
 have hsplit:splitId "BaseException.__getattribute__"=some ("BaseException","__getattribute__"):=by decide +kernel
 have hcB:(Value.ref C::bm).contains (.type "BaseException")=true:=by rw[qAR,zdg (by decide) hr,qAm]
 have hx2:(Value.builtin "BaseException.__getattribute__"==Value.builtin "object.__getattribute__")=false:=by decide +kernel
 have hx1:(onTheHeap (Value.ref C)&&Value.builtin "BaseException.__getattribute__"==Value.builtin "object.__getattribute__")=false:=by rw[hx2];rfl
 have FB:=F.attr_ValueError
 have f3:=FB.ga.bind (.ref x)
 have hT5:(⟨h,g,d,t+1,os⟩:Shared).TypeIs (.builtin "object.__class__") "getset_descriptor":=qBx
 have f5:=qBx
 have f6:=qCq.lookup
 have f7:=F.slot_gs_set.lookup
 unfold getAttr? getAttrBy? getAttrBy
 repeat (any_goals (first|assumption|(with_reducible refine qj hx ?_;rw[hc])|(with_reducible refine LG.here ?_)|(with_reducible refine LH.here ?_)|wp_step))
 refine qBD FB.ga.plain F.entry_bexc_ga ?_
 simp only[checkBuiltinCall,hk,hsplit]
 refine qE ?_
 unfold isInstance
 repeat (first|(with_reducible refine qj hx ?_;rw[hc])|(with_reducible refine qAa hC ?_;rw[hcB])|wp_step)
 repeat (any_goals (first|assumption|(with_reducible refine qj hx ?_;rw[hc])|(with_reducible refine LA.here ?_)|wp_step))
 refine zaat hr hC hx hc ?_
 repeat (any_goals (first|assumption|wp_step))
end
end PySem
namespace L2
open PySem PySem.Spec PyProof.Rows
section
variable{X:Cx}{C f:Addr}
theorem ztp{K:qC}{e C dx f:Addr}(M:XMk K C f)(ha:PySem.W.findIn K (.ref C) "__class__"=some (some (.builtin "object.__class__"))):PySem.W.KitX K (.ref e) (.ref C) (λh=>∃tv,xeD e C dx tv h) where
 ty:=λ_ _ _ ⟨_,_,_,a,_⟩=>(qCO a).andThen .now
 it:=λ_ _ X _=>by
  obtain⟨nm,qn,N,bs,bm,sn,sub,ab,col,dd,k0,k1,k2,k3,k5,hC,_⟩:=zkh X M.cls M.tail
  intro A' Q' E' s' k q
  unfold isType loadHead
  exact qE (wpAny_loadPart (k _ _ hC) (qM q))
 ne:=λh tp dd its n sl X htp=>by
  obtain⟨nm,qn,N,bs,bm,sn,sub,ab,col,dd,k0,k1,k2,k3,k5,hC,_⟩:=zkh X M.cls M.tail
  refine Bool.eq_false_iff.mpr λq=>?_
  have e:C=tp:=Value.ref.inj (beq_iff_eq.mp q)
  subst e
  have z:=congrArg Obj.cls (qo (hC.symm.trans htp))
  unfold excClassObj at z
  injection z with z
  exact absurd z (by decide)
 ca:=λ{prog w A E Q s} X ⟨tv,vs,sl,a,_⟩ k=>by
  obtain⟨nm,qn,N,bs,bm,sn,sub,ab,col,dd,k0,k1,k2,k3,k5,hC,hbm,_⟩:=zkh X M.cls M.tail
  obtain⟨h,g,d,t,os⟩:=s
  exact zapy hbm hC a rfl (qAW X M.ga) (qAW X ha) (qAW X M.gh) k
noncomputable def rIsX(K:qC)(C:Addr):List V->Hp->VK->Prop:=λxs H Q=>∃e dx tv b,H e=some (.ext (xeD e C dx tv))/\Q (.bl b) H/\
 ((∃c,xs=[.ref e,.ref c]/\PySem.W.kitOne K (.ref C) (.ref c)=some b)\/(∃n,xs=[.ref e,.ty n]/\PySem.W.kitOne K (.ref C) (.type n)=some b)\/∃p ys us,xs=[.ref e,.ref p]/\H p=some (.tup ys)/\(∀its,Vals ys its->its=us)/\PySem.W.kitAny K (.ref C) us=some b)
theorem zahx(M:XMk X.K C f)(ha:PySem.W.findIn X.K (.ref C) "__class__"=some (some (.builtin "object.__class__"))):CallR X (.builtin "isinstance") (rIsX X.K C):=by
 intro pins s σ H xs us Q I r h
 obtain⟨e,dx,tv,b,he,q,h⟩:=h
 have hx:=(I.hok e _ he).1
 rcases h with⟨c,rfl,kk⟩|⟨n,rfl,kk⟩|⟨p,ys,us',rfl,hp,hv,kk⟩
 ·obtain⟨u1,u2,rfl,r1,r2⟩:=zwr r
  cases r1
  cases r2
  exact qAV (ztp (dx:=dx) M ha) I.kIn ⟨tv,hx⟩ kk (λz=>nomatch z) λtk=>⟨.bl b,H,I.tok _,rfl,q⟩
 ·obtain⟨u1,u2,rfl,r1,r2⟩:=zwr r
  cases r1
  cases r2
  exact qAV (ztp (dx:=dx) M ha) I.kIn ⟨tv,hx⟩ kk (λz=>nomatch z) λtk=>⟨.bl b,H,I.tok _,rfl,q⟩
 ·obtain⟨u1,u2,rfl,r1,r2⟩:=zwr r
  cases r1
  cases r2
  obtain⟨_,its,vi,op,hop,ho1,n,ho2⟩:=I.hok p _ hp
  cases hv its vi
  obtain⟨oc,od,odt,osl⟩:=op
  cases ho1
  cases ho2
  exact PySem.W.kia_tup (ztp (dx:=dx) M ha) I.kIn ⟨tv,hx⟩ hop kk (λz=>nomatch z) λtk=>⟨.bl b,H,I.tok _,rfl,q⟩
end
theorem zalt{X:Cx}{x:Str}{C:Addr}{pos:Pos}(hg:Gl X x)(hm:X.mg x=some (.ref C))(hd:(x==("__debug__":Str))=false:=by decide):PE X (.Name x pos) (tC (.ref C)):=
 λ_ _ _ H _ I h=>zom I hg hm ⟨.ref C,H,I,rfl,h⟩ hd
section
variable{K:qC}{ns:List Int}{J:Nat->Prop}
end
noncomputable def DnX(P:Program)(w:World)(K:qC)(mg:Str->Option Value)(base:Heap)(x:Str)(ps:List Str)(k:Nat)(sp:Sp):Prop:=
 ∃f fd,FnOk P w K mg base (CXE P w) k f fd ps sp/\mg x=some (.ref f)/\qY K (.ref f)=true/\znw K fd ps []
section
variable{X:Cx}
theorem zaed{x:Str}{p pos:Pos}{e:Expr}{es:List Expr}{t:TA}{ps:List Str}{k:Nat}{sp:Sp}{E:XK}(D:DnX X.prog X.w X.K X.mg X.base x ps k sp)(hx:zuh (CXE X.prog X.w) X E)(hr:Room k X.A)(hg:Gl X x)(ha:Bx (PA X (e::es) t))
  (hdb:(x==("__debug__":Str))=false)(he:starEach (e::es) X.env=(false,eval e X.env)::starEach es X.env)(hpl:(backTo pos (starEach es X.env)).any (·.1)=false) :
  Bx (PE X (.Call (.Name x p) (e::es) [] pos) (tCall sp [] E t)):=by
 obtain⟨f,fd,F,hm,hk,hb⟩:=D
 exact⟨zabu F hr hg hm hk hb .nil hx ha.out hdb he hpl⟩
noncomputable def XcOk(P:Program)(w:World)(K:qC)(mg:Str->Option Value)(base:Heap)(x:Str)(C:Addr):Prop:=
 ∃f fd,XMk K C f/\FnOk P w K mg base CX0 1 f fd ["self","at"] (spI C)/\znw K fd ["self","at"] []/\mg x=some (.ref C)/\PySem.W.findIn K (.ref C) "__class__"=some (some (.builtin "object.__class__"))/\PySem.W.exmOne K (.ref C) (.ref C)=some true
theorem zvs{E:XK}{C:Addr}{x:Str}{np cpos pos:Pos}{a:Expr}{te:TE}(M:XcOk X.prog X.w X.K X.mg X.base x C)(hr:Room 2 X.A)(hex:X.ex=[])(hc:X.calm=true)(hx:Lvs X E)(hg:Gl X x)(ha:Bx (PE X a te))
  (hdb:(x==("__debug__":Str))=false) (he:starEach [a] X.env=[(false,eval a X.env)]):Bx (PS X (.Raise (some (.Call (.Name x np) [a] [] cpos)) none pos) (zadz C E te)):=by
 obtain⟨f,fd,M,F,hb,hm,_⟩:=M
 exact⟨zaht M F hr hb hex hc hx hg hm ha.out hdb he⟩
end
theorem zajl{P:Program}{w:World}{K:qC}{mg:Str->Option Value}{base:Heap}{N:List Str}{qual:Str}{scope:Scope}{f:Addr}{cd:Value}{A:Around}{outer:List Env}{s:Shared}{H:Hp}{E:XK}(h0k:HOk P w H s.heap) :
  Lvs (cxOf (CXE P w) P w K mg base N qual scope f cd A outer s H E) (StX H E):=λpins σ H1 s1 e C dx I F q=>zaji I h0k F q
structure ErrAt(H:Hp)(e C dx:Addr)(d:PyData):Prop where
 ex:∃tv,H e=some (.ext (xeD e C dx tv))
 at_:∃v,H dx=some (.xd [("at",v)])/\∀H',Rp H' d v
theorem ErrAt.up{H H':Hp}{e C dx:Addr}{d:PyData}(h:ErrAt H e C dx d)(s:Same H H'):ErrAt H' e C dx d:=
 ⟨let⟨tv,z⟩:=h.ex;⟨tv,s _ _ z⟩,let⟨v,z,r⟩:=h.at_;⟨v,s _ _ z,r⟩⟩
noncomputable def SEe(j:Nat)(C:Addr)(d:PyData)(te:TE)(f:EF):Prop:=∀(fx:Addr->Prop)(H0:Hp)(env:DEnv)(σ:St)(H:Hp)(e dx:Addr),EnvOk fx H0 env σ H->σ[j]?=some (some (.ref e))->ErrAt H e C dx d->∀r,f env=some r->∀Q:VK,(∀v H',Same H H'->ValOk (lim fx env σ r.bs) H H' r v->Q v H')->te σ H Q
noncomputable def SAe(j:Nat)(C:Addr)(d:PyData)(ta:TA)(f:AF):Prop:=∀(fx:Addr->Prop)(H0:Hp)(env:DEnv)(σ:St)(H:Hp)(e dx:Addr),EnvOk fx H0 env σ H->σ[j]?=some (some (.ref e))->ErrAt H e C dx d->∀rs,f env=some rs->∀Q:List V->Hp->Prop,
 (∀vs H',Same H H'->Paired (λr v=>ValOk (lim fx env σ r.bs) H H' r v) rs vs->Q vs H')->ta σ H Q
noncomputable def SSe(j:Nat)(C:Addr)(d:PyData)(ts:TS)(F:SF):Prop:=∀(fx:Addr->Prop)(H0:Hp)(env:DEnv)(σ:St)(H:Hp)(D:Ends)(e dx:Addr),EnvOk fx H0 env σ H->σ[j]?=some (some (.ref e))->ErrAt H0 e C dx d->∀o,F env=some o->SatK fx H0 (λk=>k=j) σ D o->ts D σ H
section
variable{j:Nat}{C:Addr}{d:PyData}
theorem zapz{ta:TA}{f:AF}(h:SA ta f):SAe j C d ta f:=λfx H0 env σ H e dx hE _ _=>h fx H0 env σ H hE
theorem zaqa:SEe j C d (tXat C (tVar j)) (eC d):=by
 intro fx H0 env σ H e dx h hj he r hr Q q
 cases hr
 obtain⟨tv,he1⟩:=he.ex
 obtain⟨v,hd,rv⟩:=he.at_
 exact⟨_,hj,e,dx,tv,v,rfl,he1,hd,q v H (Same.refl _) ⟨rv _,λz=>by cases z⟩⟩
theorem zaee{K:qC}{c:Addr}{b:Bool}(hk:PySem.W.kitOne K (.ref C) (.ref c)=some b):SEe j C d (tCB (rIsX K C) (tCons (tVar j) (tCons (tC (.ref c)) tNil))) (eC (.bool b)):=by
 intro fx H0 env σ H e dx h hj he r hr Q q
 cases hr
 obtain⟨tv,he1⟩:=he.ex
 exact⟨_,hj,e,dx,tv,b,he1,q _ H (Same.refl _) ⟨zbg,λz=>by cases z⟩,.inl ⟨c,rfl,hk⟩⟩
theorem zalu:SAe j C d tNil aNil:=zapz zar
theorem ztq{te:TE}{ta:TA}{f:EF}{g:AF}(h1:SEe j C d te f)(h2:SAe j C d ta g):SAe j C d (tCons te ta) (zab f g):=by
 intro fx H0 env σ H e dx h hj he rs hr Q q
 unfold zab at hr
 obtain⟨x,ex,hr⟩:=qA.mp hr
 obtain⟨xs,exs,rfl⟩:=qH.mp hr
 exact h1 fx H0 env σ H e dx h hj he x ex _ λv H1 s1 v1=>h2 fx H0 env σ H1 e dx (h.up s1) hj (he.up s1) xs exs _ λvs H2 s2 vs2=>q (v::vs) H2 (s1.trans s2)
  (.cons (v1.later (Same.refl _) s2 λ_ z=>z) (Paired.mapP vs2 λ_ _ z=>z.later s1 (Same.refl _) λ_ y=>y))
theorem zalv{ta:TA}{f:AF}(ha:SAe j C d ta f):SEe j C d (tTup ta) (eTup f):=by
 intro fx H0 env σ H e dx h hj he rr hr Q q
 unfold eTup at hr
 obtain⟨rs,er,hr⟩:=qA.mp hr
 split at hr
 ·rename_i hl
  cases hr
  refine ha fx H0 env σ H e dx h hj he rs er _ λvs H1 s1 v1=>?_
  have r:=zfg (λi hi=>hi) v1
  have hA:=(h.up s1).lims (bss rs)
  refine⟨zet (by rw[<- r.length,zgj];exact hl),λp hp=>q _ _ (s1.trans (Same.new hp)) ⟨zjl hp (zei hA hp) r,λz=>by cases z⟩⟩
 ·cases hr
end
theorem EnvOk.setNo{fx:Addr->Prop}{H0:Hp}{env:DEnv}{σ:St}{H:Hp}(h:EnvOk fx H0 env σ H)(i:Nat)(v:Option V):EnvOk fx H0 (env.set i .no) (σ.set i v) H:=by
 have oN:∀b,own (env.set i .no) (σ.set i v) b->own env σ b:=λb ⟨k,d,h1,h2⟩=>by
  rcases zcj h1 with⟨_,z⟩|⟨n,z⟩
  ·cases z
  ·exact⟨k,d,z,by rw[qP (λy=>n y.symm)]at h2;exact h2⟩
 refine⟨by rw[qAA,qAA];exact h.len,λk d e=>?_,λk d e=>?_,λk l d d' a e1 e2 z1 z2=>?_,h.base,h.fxs⟩
 ·rcases zcj e with⟨_,z⟩|⟨n,z⟩
  ·cases z
  ·obtain⟨u,g1,g2⟩:=h.pl k d z
   exact⟨u,by rw[qP (λy=>n y.symm)];exact g1,Rp.same (Offs.sub λb y=>y.imp id (oN b)) _ g2⟩
 ·rcases zcj e with⟨_,z⟩|⟨n,z⟩
  ·cases z
  ·obtain⟨a,g1,g2,g3,g4⟩:=h.ac k d z
   exact⟨a,by rw[qP (λy=>n y.symm)];exact g1,g2,g3,g4.same (Offs.sub λb y=>y.imp id (oN b)) λo z=>z⟩
 ·rcases zcj e1 with⟨_,z⟩|⟨n1,y1⟩
  ·cases z
  ·rcases zcj e2 with⟨_,z⟩|⟨n2,y2⟩
   ·cases z
   ·rw[qP (λy=>n1 y.symm)]at z1
    rw[qP (λy=>n2 y.symm)]at z2
    exact h.inj k l d d' a y1 y2 z1 z2
section
variable{X:Cx}
end
noncomputable def xcB(C:Addr)(cd:ClassData)(sl:Array (Option Value)):Bool:=match cd.mro,sl.toList with
 | .ref C'::bm,[_,_,_,_,some (.builtin n),_]=>C'==C&&!cd.hasDel&&cd.hasDict&&n=="ValueError.__new__"&&bm.contains (.type "ValueError")&&bm.contains (.type "BaseException")&&!bm.contains (.type "AttributeError")&&!bm.contains (.type "NameError")&&zdx bm
 | _,_=>false
theorem zahy{K:qC}{C:Addr}{dd:Option Addr}{cd:ClassData}{sl:Array (Option Value)}(l:K.lookup C=some ⟨.type "type",dd,.cls cd,sl⟩)(h:xcB C cd sl=true):xcIn K C=true/\xcR K C=true:=by
 unfold xcB at h
 unfold xcIn xcR
 rw[l]
 split at h
 ·rename_i C' bm a0 a1 a2 a3 n a5 hm hs
  obtain⟨nm,bs,mro,ns,qn,hd,sn,sub,ab,col,del⟩:=cd
  obtain⟨sl⟩:=sl
  dsimp only at hm hs
  subst hm
  have hs:sl=[a0,a1,a2,a3,some (.builtin n),a5]:=hs
  subst hs
  rw[qr]at h
  exact h
 ·cases h
section
variable{K:qC}{C c:Addr}
theorem ztr{b:Bool}(h1:PySem.W.isClsIn K c=true)(h2:PySem.W.typeIn K (.ref c)=some (.type "type"))(h3:PySem.W.subIn K (.ref C) (.ref c)=some b):PySem.W.kitCls K (.ref C) (.ref c)=some b:=by
 unfold PySem.W.kitCls
 dsimp only
 have h1:(PySem.W.clsIn K c).isSome=true:=h1
 rw[if_pos (by rw[h1,h2];rfl)]
 exact h3
theorem zajm(h1:PySem.W.isClsIn K c=true)(h2:PySem.W.typeIn K (.ref c)=some (.type "type"))(h3:PySem.W.subIn K (.ref C) (.ref c)=some true):PySem.W.kitOne K (.ref C) (.ref c)=some true:=by
 unfold PySem.W.kitOne
 split
 ·rfl
 ·exact ztr h1 h2 h3
theorem zajn(h0:PySem.W.subIn K (.ref C) (.ref C)=some true)(h1:PySem.W.isClsIn K c=true)(h2:PySem.W.typeIn K (.ref c)=some (.type "type"))(h3:PySem.W.subIn K (.ref C) (.ref c)=some false):PySem.W.kitOne K (.ref C) (.ref c)=some false:=by
 unfold PySem.W.kitOne
 split
 ·rename_i e
  have e:C=c:=Value.ref.inj (beq_iff_eq.mp e)
  rw[<- e,h0]at h3
  cases h3
 ·exact ztr h1 h2 h3
theorem zajo(h3:PySem.W.subIn K (.ref C) (.type "ValueError")=some true):PySem.W.kitOne K (.ref C) (.type "ValueError")=some true:=by
 unfold PySem.W.kitOne
 rw[if_neg (by intro e;cases beq_iff_eq.mp e)]
 unfold PySem.W.kitCls
 dsimp only
 rw[if_pos (show PySem.W.kitMeta "ValueError"=true by decide +kernel)]
 exact h3
theorem zajp(hb:PySem.W.subIn K (.ref C) (.type "BaseException")=some true)(h1:PySem.W.isClsIn K C=true)(h2:PySem.W.typeIn K (.ref C)=some (.type "type"))(h3:PySem.W.subIn K (.ref C) (.ref C)=some true):PySem.W.exmOne K (.ref C) (.ref C)=some true:=by
 unfold PySem.W.exmOne
 rw[hb,if_pos (by rfl)]
 exact ztr h1 h2 h3
end
structure XKit(P:Program)(w:World)(K:qC)(mg:Str->Option Value)(base:Heap)(cl:Str->Addr)(CS KS:List Str)(B:Str):Prop where
 ok:∀c∈CS,XcOk P w K mg base c (cl c)
 ex:∀c∈CS,PySem.W.exmOne K (.ref (cl c)) (.ref (cl B))=some true
 kit:∀c∈CS,∀k∈KS,PySem.W.kitOne K (.ref (cl c)) (.ref (cl k))=some (decide (c=k))
 val:∀c∈CS,PySem.W.kitOne K (.ref (cl c)) (.type "ValueError")=some true
 mgk:∀k∈KS,mg k=some (.ref (cl k))
 mgB:mg B=some (.ref (cl B))
 mgV:mg "ValueError"=none
theorem zpu{p:Str->Prop}:∀c∈([]:List Str),p c:=λc h=>absurd h (by simp)
theorem zfl{p:Str->Prop}{a:Str}{l:List Str}(h:p a)(t:∀c∈l,p c):∀c∈a::l,p c:=λc hc=>(qi.mp hc).elim (λe=>e▸h) (t c)
section
variable{K:qC}{C c B:Addr}{a b:Str}
theorem kd_t(h:PySem.W.kitOne K (.ref C) (.ref c)=some true)(e:a=b):PySem.W.kitOne K (.ref C) (.ref c)=some (decide (a=b)):=by rw[h,decide_eq_true e]
theorem kd_f(h:PySem.W.kitOne K (.ref C) (.ref c)=some false)(e:a≠b):PySem.W.kitOne K (.ref C) (.ref c)=some (decide (a=b)):=by rw[h,decide_eq_false e]
theorem zajq(hb:PySem.W.subIn K (.ref B) (.type "BaseException")=some true)(h1:PySem.W.isClsIn K B=true)(h2:PySem.W.typeIn K (.ref B)=some (.type "type"))(h3:PySem.W.subIn K (.ref C) (.ref B)=some true):PySem.W.exmOne K (.ref C) (.ref B)=some true:=by
 unfold PySem.W.exmOne
 rw[hb,if_pos (by rfl)]
 exact ztr h1 h2 h3
end
section
variable{X:Cx}
theorem zzh{x:Str}{C:Addr}{pos:Pos}(hg:Gl X x)(hm:X.mg x=some (.ref C))(hd:(x==("__debug__":Str))=false):Bx (PE X (.Name x pos) (tC (.ref C))):=⟨zalt hg hm hd⟩
theorem zalw{C f:Addr}{o:Expr}{pos:Pos}{te:TE}(M:XMk X.K C f)(ho:Bx (PE X o te))(hb:attributeBase o "at" X.env (eval o X.env)=eval o X.env):Bx (PE X (.Attribute o "at" pos) (tXat C te)):=⟨zapx M ho.out hb⟩
theorem zvt{K:qC}{C f:Addr}(hK:X.K=K)(M:XMk K C f)(ha:PySem.W.findIn K (.ref C) "__class__"=some (some (.builtin "object.__class__"))):CallR X (.builtin "isinstance") (rIsX K C):=by
 subst hK;exact zahx M ha
theorem zahz{K:qC}{C f:Addr}{o:Expr}{pos:Pos}{te:TE}(hK:X.K=K)(M:XMk K C f)(ho:Bx (PE X o te))(hb:attributeBase o "at" X.env (eval o X.env)=eval o X.env):Bx (PE X (.Attribute o "at" pos) (tXat C te)):=by
 subst hK;exact zalw M ho hb
end
section
variable{X:Cx}
end
section
variable{j:Nat}{C:Addr}{d:PyData}
end
noncomputable def zalx(Ok:Addr->Prop)(ts:Addr->TS)(j:Nat)(D:Ends)(σ:St)(H1:Hp):XK:=λc od H2=>∃C dx,c=.ref C/\Ok C/\od=some dx/\
 ∀e H3,(∀b o,H1 b=some o->H2 b=some o->H3 b=some o)->zahr H2 H3->(∃tv,H3 e=some (.ext (xeD e C dx tv)))->
  ts C {nx:=λσ' H'=>D.nx (σ'.set j none) H',rt:=D.rt} (σ.set j (some (.ref e))) H3
section
variable{X:Cx}{pins:List (Addr×Obj)}{σ:St}{H1:Hp}{s1:Shared}
theorem zaia{Ok:Addr->Prop}{ts:Addr->TS}{B:Addr}{n cn:Str}{hpos cp:Pos}{st0:Stmt}{suite:List Stmt}{j:Nat}{D:Ends}{ev:Value}{s':Shared}
  (hN:X.N.Nodup)(hj:X.N[j]?=some n)(hn:X.env.scope.names.lookup n=some .local)(hst:X.stack=X.env::X.outer)(hfr:X.env.frame=some X.env.locals)(hgc:Gl X cn)(hmc:X.mg cn=some (.ref B))
  (hex:∀C,Ok C->PySem.W.exmOne X.K (.ref C) (.ref B)=some true)(hs:∀C,Ok C->∀e,PSs (X.hold e) (st0::suite) (ts C))(hdc:(cn==("__debug__":Str))=false)
  (I1:Inv X pins σ H1 s1)(hq:CXE X.prog X.w X.stack H1 s1 (zalx Ok ts j D σ H1) ev s') :
  wpAny (model X.prog X.w) X.A (noteFrame ev X.env) (λ_ s2=>wpAny (model X.prog X.w) X.A (setFlight ev none) (λ_ s3=>wpAny (model X.prog X.w) X.A (handleBy ev X.env [.ExceptHandler (some (.Name cn cp)) (some n) (st0::suite) hpos]) (SP X pins D) X.xe s3) X.xe s2) X.xe s':=by
 obtain⟨e,C',dx,H2,rfl,os,bare,un,ok,fl,stx⟩:=hq
 have I2:=I1.call' (s':=s') os un ok bare (λb z=>absurd z (by simp))
 refine zvq I2 hst hfr (λb ob z=>un.there b ob z (by simp)) fl λs3 H3 I3 ⟨T,hT1,hT2,hT3,hT4⟩ ho hkx hz3=>?_
 obtain⟨C,dx',eC,hOk,edx,sq⟩:=stx H3 (λb o z1 z2=>ho b o _ (I1.hok b o z1).there.choose_spec z2) hkx
 cases eC
 cases edx
 obtain⟨⟨vs',sl,oe,h1⟩,_,_⟩:=I3.hok e _ hT1
 have tb:=(I3.hok T _ hT4).1
 have J3:=I3.hold e
 refine wpAny_handleBy_cons (codeAny_handlers_test (zom J3 hgc hmc ?_ hdc)) (by intro z;cases z)
 have LT:PySem.W.Looks (model X.prog X.w) s3.heap (typeOf (.ref e)) (.ref C'):=(qCO oe).andThen .now
 refine(PySem.W.exm_one (I3.kIn) LT (hex C' hOk)).here ?_
 show codeAny _ _ _ _ _
 refine codeAny_handlers_suite_as (zadt oe rfl h1 tb λh' kp tb'=>?_)
 have hup:upd H3 T (.ext λh=>h.Tb T)=H3:=by
  funext b
  by_cases hb:b=T
  ·subst hb;rw[zaz,hT4]
  ·rw[zax hb]
 have J4:Inv (X.hold e) pins σ H3 {s3 with heap:=h'}:=by
  have:=J3.write (x:=T) (e:=T) (o:=.ext λh=>h.Tb T) (h':=h') (t':=s3.toks) (by rw[hT4];exact True.intro) (.inl rfl) (λb u hb z=>kp b u hb z) (let⟨oT,_,z,_⟩:=tb';⟨oT,z⟩) (zadu tb')
  rw[hup]at this
  exact this
 refine zsq (X:=X) (Inv.unhold I1.ok J4) hN hj (.inl hn) (show RelV (.ref e) (.ref e)from rfl) (λs5 J5=>?_) (.inr hn)
 refine qBZ (hs C' hOk e pins s5 _ H3 _ (J5.hold e) (sq e H3 (λ_ _ _ z=>z) (λ_ _ z _=>z) ⟨_,hT1⟩)) (λfl s6 q6=>?_) λ_ _ z=>z.elim
 cases fl with
 | next=>
  obtain⟨σ',H',J6,q6⟩:=q6
  exact zaec (Inv.unhold I1.ok J6) hN hj hn λs7 I7=>⟨_,_,I7,q6⟩
 | ret u=>
  obtain⟨v,σ',H',J6,rv,q6⟩:=q6
  exact zaec (Inv.unhold I1.ok J6) hN hj hn λs7 I7=>⟨v,_,H',I7,rv,q6⟩
 | brk=>obtain⟨σ',H',J6,q6⟩:=q6;exact q6.elim
 | cont=>obtain⟨σ',H',J6,q6⟩:=q6;exact q6.elim
noncomputable def zaly(Ok:Addr->Prop)(sp:Sp)(t:TA)(ts:Addr->TS)(j:Nat):TS:=λD σ H=>t σ H λvs H1=>sp vs H1 (λ_ H2=>D.nx σ H2) (zalx Ok ts j D σ H1)
theorem zalz{Ok:Addr->Prop}{f B:Addr}{k:Nat}{fd:qAF}{ps:List Str}{sp:Sp}{fn n cn:Str}{p cpos pos epos hpos cp:Pos}{a:Expr}{as:List Expr}{st0:Stmt}{suite:List Stmt}{t:TA}{ts:Addr->TS}{j:Nat}
  (F:FnOk X.prog X.w X.K X.mg X.base (CXE X.prog X.w) k f fd ps sp)(hr:Room k X.A)(hg:Gl X fn)(hm:X.mg fn=some (.ref f))(hk:qY X.K (.ref f)=true)(hb:znw X.K fd ps [])(ha:PA X.nox (a::as) t)
  (hN:X.N.Nodup)(hj:X.N[j]?=some n)(hn:X.env.scope.names.lookup n=some .local)
  (hst:X.stack=X.env::X.outer)(hfr:X.env.frame=some X.env.locals)(hgc:Gl X cn)(hmc:X.mg cn=some (.ref B))(hex:∀C,Ok C->PySem.W.exmOne X.K (.ref C) (.ref B)=some true)(hs:∀C,Ok C->∀e,PSs (X.hold e) (st0::suite) (ts C))
  (hdb:(fn==("__debug__":Str))=false)(hdc:(cn==("__debug__":Str))=false)(he:starEach (a::as) X.env=(false,eval a X.env)::starEach as X.env)(hpl:(backTo cpos (starEach as X.env)).any (·.1)=false)
  (hsw:swapsWith (.Call (.Name fn p) (a::as) [] cpos) none epos.line X.env=pure false) :
  PS X (.Try [.Expr (.Call (.Name fn p) (a::as) [] cpos) epos] [.ExceptHandler (some (.Name cn cp)) (some n) (st0::suite) hpos] [] [] pos) (zaly Ok sp t ts j):=by
 intro pins s σ H D I h
 refine wpAny_Try_except ?_
 refine qCR (wpAny_Expr_any (qAu (zom I hg hm ?_ hdb)) I.quiet hsw)
 refine qBv (h₀:=X.base) I.ok.mod.kin hk (qBZ (ha cpos pins s σ H _ (I.wish _) h) (λus s1 ⟨vs,H1,I1,r,q⟩=>⟨I1.kIn,?_⟩) λ_ _ z=>z.elim) he hpl
 have I1:Inv X pins σ H1 s1:=I1.unwish
 have hl:us.length=ps.length:=by rw[<- r.length];exact F.len _ _ _ _ q
 refine qCL (qBT (F.run X.A X.stack s1 H1 ⟨us,[]⟩ us vs _ _ hr I1.env0 (by have:=hb s1 us I1.kIn (by rw[qAL];exact hl);rw[qAL]at this;exact this) r q) λres s' hq=>?_)
 cases res with
 | ok fl=>
  cases fl with
  | ret u=>
   obtain⟨v,H2,I2,rv,q2⟩:=I1.after hq
   exact qBM (qBM ⟨_,H2,I2,q2⟩)
  | next=>exact False.elim hq
  | brk=>exact False.elim hq
  | cont=>exact False.elim hq
 | error ev=>exact zaia hN hj hn hst hfr hgc hmc hex hs hdc I1 hq
end
section
variable{X:Cx}
theorem zaib{cl:Str->Addr}{CS KS:List Str}{k:Nat}{ps:List Str}{sp:Sp}{fn n cn:Str}{p cpos pos epos hpos cp:Pos}{a:Expr}{as:List Expr}{st0:Stmt}{suite:List Stmt}{t:TA}{ts:Addr->TS}{j:Nat}
  (D:DnX X.prog X.w X.K X.mg X.base fn ps k sp)(XK:XKit X.prog X.w X.K X.mg X.base cl CS KS cn)(hr:Room k X.A)(hg:Gl X fn)(ha:Bx (PA X.nox (a::as) t))
  (hN:X.N.Nodup)(hj:X.N[j]?=some n)(hn:X.env.scope.names.lookup n=some .local)
  (hst:X.stack=X.env::X.outer)(hfr:X.env.frame=some X.env.locals)(hgc:Gl X cn)
  (hs:∀C e f,XMk X.K C f->PySem.W.findIn X.K (.ref C) "__class__"=some (some (.builtin "object.__class__"))->Bx (PSs (X.hold e) (st0::suite) (ts C)))
  (hdb:(fn==("__debug__":Str))=false)(hdc:(cn==("__debug__":Str))=false)(he:starEach (a::as) X.env=(false,eval a X.env)::starEach as X.env)(hpl:(backTo cpos (starEach as X.env)).any (·.1)=false)
  (hsw:swapsWith (.Call (.Name fn p) (a::as) [] cpos) none epos.line X.env=pure false) :
  Bx (PS X (.Try [.Expr (.Call (.Name fn p) (a::as) [] cpos) epos] [.ExceptHandler (some (.Name cn cp)) (some n) (st0::suite) hpos] [] [] pos) (zaly (λC=>∃c∈CS,C=cl c) sp t ts j)):=by
 obtain⟨f,fd,F,hm,hk,hb⟩:=D
 refine⟨zalz F hr hg hm hk hb ha.out hN hj hn hst hfr hgc XK.mgB (λC ⟨c,hc,e⟩=>by subst e;exact XK.ex c hc) (λC ⟨c,hc,e⟩ ea=>?_) hdb hdc he hpl hsw⟩
 subst e
 obtain⟨f2,_,M,_,_,_,hcl,_⟩:=XK.ok c hc
 exact(hs _ ea f2 M hcl).out
end
theorem zama{cl:Str->Addr}{CS:List Str}{fx:Addr->Prop}{H0:Hp}{env:DEnv}{σ:St}{H1:Hp}{D:Ends}{j:Nat}{hd:Str->PyData->SF}{ts:Addr->TS}{c:Str}{d:PyData}{o:Out}
  (h1:EnvOk fx H0 env σ H1) (hj:j<env.length) (hc:c∈CS) (hs:∀c∈CS,∀d,SSe j (cl c) d (ts (cl c)) (hd c d)) (e:((hd c d (env.set j .no)).bind λo=>match o with|.nx e=>some (Out.nx (e.set j .no))|.rt d2 false=>some (.rt d2 false)|_=>none)=some o) (q:Sat fx H0 D o) :
  ∀k od H',RX H1 (cl c) d k od H'->zalx (λC=>∃c∈CS,C=cl c) ts j D σ H1 k od H':=by
 rintro k od H2 ⟨rfl,s2,fl,dx,v,rfl,hdx,rp⟩
 obtain⟨o1,e1,e⟩:=qA.mp e
 refine⟨cl c,dx,rfl,⟨c,hc,rfl⟩,rfl,λea H3 q1 q2 ⟨tv,hea⟩=>?_⟩
 have s3:Same H1 H3:=λb o z=>q1 b o z (s2 b o z)
 have hd3:H3 dx=some (.xd [("at",v)]):=q2 _ _ hdx (λφ z=>by cases z)
 have h3:EnvOk fx H0 (env.set j .no) (σ.set j (some (.ref ea))) H3:=(h1.up s3).setNo j _
 have noown:∀b u,H3 b=some u->(∀xs,u≠.lst xs)->(∀xs,u≠.dK xs)->¬own (env.set j .no) (σ.set j (some (.ref ea))) b:=λb u hb n1 n2 ⟨k,d',y1,y2⟩=>by
  obtain⟨a,g1,g2,g3,g4⟩:=h3.ac k d' y1
  rw[y2]at g1
  cases g1
  cases d' with
  | list ds=>obtain⟨ys,z1,_⟩:=g4;rw[hb]at z1;cases z1;exact n1 _ rfl
  | dict ds=>obtain⟨ys,z1,_⟩:=g4;rw[hb]at z1;cases z1;exact n2 _ rfl
  | _=>exact g4.elim
 refine hs c hc d fx _ _ _ H3 _ ea dx h3.rebase (qAB (by rw[<- h1.len];exact hj)) ⟨⟨tv,by rw[Offs.get (noown _ _ hea (λ_ z=>by cases z) (λ_ z=>by cases z))];exact hea⟩,v,by rw[Offs.get (noown _ _ hd3 (λ_ z=>by cases z) (λ_ z=>by cases z))];exact hd3,λH'=>zou fl rp⟩ o1 e1 ?_
 cases o1 with
 | nx e2=>
  cases e
  exact λσ' H' h' k=>q _ _ ((h'.unbase h3.floor).setNo j none)
 | bk e2=>cases e
 | ct e2=>cases e
 | rt d2 fr=>
  cases fr with
  | true=>cases e
  | false=>
   cases e
   exact λv2 H4 s4 r4=>q v2 H4 (h3.floor.trans s4) ⟨r4.1,λz=>by cases z⟩
noncomputable def zaef(CS:List Str)(j:Nat)(n:Nat)(g:GFX)(f:AF)(hd:Str->PyData->SF):SF:=λenv=>(f env).bind λrs=>if rs.length=n then(g (zfx rs)).bind λr=>match r with
 | .ok d fr=>some (.nx env)
 | .rx c d=>if c∈CS then(hd c d (env.set j .no)).bind λo=>match o with
  | .nx e=>some (.nx (e.set j .no))
  | .rt d2 false=>some (.rt d2 false)
  | _=>none else none else none
theorem zamb{cl:Str->Addr}{CS:List Str}{j n:Nat}{g:GFX}{f:AF}{hd:Str->PyData->SF}{ta:TA}{ts:Addr->TS}(N:Nat)(hj:j<N)(ha:SA ta f)(hs:∀c∈CS,∀d,SSe j (cl c) d (ts (cl c)) (hd c d)) :
  SS (zaly (λC=>∃c∈CS,C=cl c) (spX cl n g) ta ts j) (λenv=>if env.length=N then zaef CS j n g f hd env else none):=by
 intro fx H0 env σ H D h o e q
 dsimp only at e
 split at e
 ·rename_i hN
  unfold zaef at e
  obtain⟨rs,er,e⟩:=qA.mp e
  split at e
  ·rename_i hn
   obtain⟨r,ez,e⟩:=qA.mp e
   refine ha fx H0 env σ H h rs er _ λvs H1 s1 v1=>?_
   refine⟨lim fx env σ (bss rs),zfx rs,r,by rw[zgj];exact hn,(h.up s1).lims _,zfg (λi hi=>hi) v1,ez,?_⟩
   cases r with
   | ok d fr=>
    cases e
    intro v H2 s2 rt
    exact q _ _ (h.up (s1.trans s2))
   | rx c d=>
    dsimp only at e
    split at e
    ·rename_i hc
     exact zama (h.up s1) (by rw[hN];exact hj) hc hs e q
    ·cases e
  ·cases e
 ·cases e
theorem zamc{j:Nat}{C:Addr}{d:PyData}{te:TE}{f:EF}(h1:SEe j C d te f):SSe j C d (tRet te) (sRet f):=by
 intro fx H0 env σ H D e dx h hj he o er q
 unfold sRet at er
 obtain⟨r,er',rfl⟩:=qH.mp er
 refine h1 fx H0 env σ H e dx h hj (he.up h.base) r er' _ λv H' s hv=>q v H' (h.base.trans s) ⟨Rp.same (Offs.sub λb z=>.inl z) _ hv.rp,λz=>?_⟩
 obtain⟨a,g1,g2,g3⟩:=hv.fr z
 exact⟨a,g1,h.base.free g2,g3.same (Offs.sub λb y=>y.imp .inl id) λo z=>z⟩
section
variable{K:qC}{ns:List Int}{J:Nat->Prop}
end
noncomputable def zajr:V->List V->Hp->VK->Prop:=λx vs H Q=>∃l xs y,∃(j:Nat),∃z,x=.ref l/\vs=[y]/\H l=some (.lst xs)/\zmv y=true/\xs.all zmv=true/\xs[j]?=some z/\eqV z y=true/\(∀m z,m<j->xs[m]?=some z->eqV z y=false)/\j<100000/\Q (.int (j:Int)) H
theorem zts{X:Cx}:MtR X "list.index" zajr:=by
 intro pins s σ H x vs v us Q I rx rv h
 obtain⟨l,xs,y,j,z,rfl,rfl,hH,fy,fs,hj,hz,hno,hlt,q⟩:=h
 cases rx
 obtain⟨u,rfl,ru⟩:=rv.one
 obtain⟨_,its,n,r,hl,e⟩:=I.lstM hH
 have fl:∀{m:Nat}{z:V},xs[m]?=some z->zmv z=true:=λ{m z} hm=>qAK.mp fs z (qAv hm)
 have lk:∀(m:Nat)(hm:m<its.toArray.size),∃z,xs[m]?=some z/\eqU y its.toArray[m]=eqV z y:=λm hm=>by
  have hm':m<xs.length:=by rw[hl];simpa using hm
  obtain⟨w,hw,rw'⟩:=r.get (qF hm')
  refine⟨xs[m],qF hm',?_⟩
  have:its.toArray[m]=w:=by
   have h1:its[m]?=some its.toArray[m]:=by
    rw[qF (by simpa using hm)];simp
   rw[hw]at h1
   exact(qo h1).symm
  rw[this]
  exact zaby rw' (fl (qF hm'))
 have hjx:j<xs.length:=(qW.mp hj).1
 have hjs:j<its.toArray.size:=by rw[qO,<- hl];exact hjx
 refine qBl F.slot_list_index ⟨_,e,rfl⟩ F.entry_list_index (F.args_list_index_2 _ _) (PySem.SeqAt.list_indexAt l its.toArray n none #[] u (eqU y) j hjs (by omega) ?_ ?_) ⟨e,λw hw=>zkx ru fy r fs w (by simpa using hw),?_⟩
 ·obtain⟨z',h1,h2⟩:=lk j hjs
  rw[hj]at h1
  cases h1
  rw[h2];exact hz
 ·intro m hm hlt
  obtain⟨z',h1,h2⟩:=lk m hm
  rw[h2];exact hno m z' hlt h1
 ·exact⟨.int j,H,I.tok _,⟨_,rfl⟩,q⟩
noncomputable def zlg(a b:EF):EF:=λenv=>(a env).bind λx=>(b env).bind λy=>match x.d with
 | .list ds=>if zhr y.d=true/\zdb ds=true/\ds.length<=100000 then(ds.findIdx? λe=>qk e y.d).map λ(j:Nat)=>(⟨.int (j:Int),false,[]⟩:Val)else none
 | _=>none
theorem ztt{K:qC}{ta tb:TE}{a b:EF}(h1:SE ta a)(h2:SE tb b):SE (tBM K "list" zajr ta (tCons tb tNil)) (zlg a b):=by
 intro fx H0 env σ H h rr hr Q q
 unfold zlg at hr
 obtain⟨⟨xd,xf,xb⟩,ex,hr⟩:=qA.mp hr
 obtain⟨⟨yd,yf,yb⟩,ey,hr⟩:=qA.mp hr
 cases xd with
 | list ds=>
  have hr:(if zhr yd=true/\zdb ds=true/\ds.length<=100000 then(ds.findIdx? λe=>qk e yd).map λ(j:Nat)=>(⟨.int (j:Int),false,[]⟩:Val)else none)=some rr:=hr
  split at hr
  ·rename_i hf
   obtain⟨j,ej,rfl⟩:=qH.mp hr
   refine h1 fx H0 env σ H h _ ex _ λv H1 s1 v1=>?_
   obtain⟨p,xs,rfl,hp,rx⟩:=zeh v1.rp
   have hp:=zdl hp
   refine⟨.inl ⟨rfl,_,SqL.of hp⟩,h2 fx H0 env σ H1 (h.up s1) _ ey _ λu H2 s2 v2=>?_⟩
   have ru:=Rp.same (Offs.same _ _) _ v2.rp
   have rx2:=Rps.same ((Offs.same _ _).trans s2) _ rx
   obtain⟨hj,hhit,hno⟩:=qB5.mp ej
   have hjx:j<xs.length:=by rw[<- rx.length];exact hj
   have at_:∀(m:Nat)(hm:m<ds.length)(z:V),xs[m]?=some z->eqV z u=qk ds[m] yd:=λm hm z hz=>by
    obtain⟨d',hd',rz⟩:=rx2.get hz
    rw[qF hm]at hd'
    cases hd'
    exact zaco (qAK.mp hf.2.1 _ (qAG hm)) hf.1 rz ru
   refine⟨p,xs,u,j,xs[j],rfl,rfl,s2 _ _ hp,zacm hf.1 ru,zacn hf.2.1 rx2,qF hjx,?_,λm z hm hz=>?_,by omega,q _ H2 (s1.trans s2) ⟨zad,λz=>by cases z⟩⟩
   ·rw[at_ j hj _ (qF hjx)];exact hhit
   ·have hml:m<ds.length:=by omega
    rw[at_ m hml z hz]
    have:=hno m hm
    simpa using this
  ·cases hr
 | _=>cases hr
noncomputable def zamd(te:TE):TE:=λσ H Q=>te σ H λx H1=>∃n:Nat,x=.int (n:Int)/\n<=100000/\∀l,H1 l=none->Q (.ref l) (upd H1 l (.lst ((List.range n).map λ(k:Nat)=>.int (k:Int))))
theorem zame:bootBuiltins "list"=some (.type "list"):=by decide +kernel
theorem zaau:∀{n:Nat}{acc:Array Value},ItemsOf (λi v=>∃t,v=.int (0+(i:Int) * 1) t) acc n->Vals ((List.range n).map λ(k:Nat)=>V.int (k:Int)) acc.toList:=λ{n acc} h=>by
 have go:∀(m lo:Nat)(l:List Value),l.length=m->(∀j v,l[j]?=some v->∃t,v=Value.int ((lo+j:Nat):Int) t)->Vals ((List.range' lo m).map λ(k:Nat)=>V.int (k:Int)) l:=by
  intro m
  induction m with
  | zero=>intro lo l hl _;rw[qBG.mp hl];exact .nil
  | succ m ih=>
   intro lo l hl hv
   cases l with
   | nil=>cases hl
   | cons v l=>
    obtain⟨t,e⟩:=hv 0 v rfl
    rw[List.range'_succ,qAE]
    refine .cons ⟨t,by rw[e];rfl⟩ (ih (lo+1) l (qBh hl) λj u hj=>?_)
    obtain⟨t,e⟩:=hv (j+1) u hj
    exact⟨t,by rw[e];congr 1;omega⟩
 rw[List.range_eq_range']
 refine go n 0 acc.toList (by rw[qBU];exact h.1) λj v hj=>?_
 obtain⟨t,e⟩:=h.2 j v (by rw[<- qCh];exact hj)
 exact⟨t,by rw[e];congr 1;omega⟩
theorem zamf{X:Cx}{e:Expr}{te:TE}{p1 p2 pos1 pos2:Pos}(hc:X.calm=true)(hgl:Gl X "list")(hml:X.mg "list"=none)(hgs:Gl X "range")(hms:X.mg "range"=none)(he:PE X e te)
  (hs:starEach [e] X.env=(false,eval e X.env)::starEach [] X.env:=by rfl) :
  PE X (.Call (.Name "list" p1) [.Call (.Name "range" p2) [e] [] pos2] [] pos1) (zamd te):=by
 intro pins s σ H Q I h
 refine qAu (zlv I hgl hml zame ?_ (by decide) (by decide))
 refine callWith_type1 ?_ rfl rfl
 show wpAny _ _ (spliced ((false,eval (.Call (.Name "range" p2) [e] [] pos2) X.env)::[])) _ _ s
 refine qB3 ?_
 refine qAu (zlv I hgs hms boot_range ?_ (by decide) (by decide))
 refine callWith_type1 ?_ hs rfl
 rw[hs]
 show wpAny _ _ (spliced ((false,eval e X.env)::[])) _ _ s
 refine qB3 (thn (he pins s σ H _ I h) λu s1 z=>?_)
 obtain⟨x,H1,I1,r1,n,rfl,hn,q⟩:=z
 obtain⟨t,rfl⟩:=r1
 refine qB9 ?_
 refine call_range_1 ?_
 refine qB9 ?_
 have I2:Inv X pins σ H1 {s1 with heap:=s1.heap.push {cls:=.type "range",data:=.fields #[.int 0 s1.toks,.int (n:Int) t,.int 1 (s1.toks+1)]},toks:=s1.toks+1+1}:=I1.kept λb o e=>qG _ e
 refine call_list_range (n:=n) (I2.ok.hd hc) (IsRange.new ..) (small_one (by decide) (by decide) (by omega) (by omega)) (by rw[rangeSize_one];split<;>omega) (by omega) λh' tk acc' c' kp e it=>?_
 refine⟨.ref _,_,I2.laid (t':=tk) kp (qL _) (show zfv X.prog X.w _ h' _ (.lst ((List.range n).map λ(k:Nat)=>.int (k:Int)))from⟨?_,acc'.toList,c',zaau it,?_⟩),rfl,q _ (I2.hok.fresh (qL _))⟩
 ·rw[qD,qT,qA1];omega
 ·rw[e]
theorem zaic{X:Cx}{e:Expr}{te:TE}{p1 p2 pos1 pos2:Pos}(hc:X.calm=true)(hgl:Gl X "list")(hml:X.mg "list"=none)(hgs:Gl X "range")(hms:X.mg "range"=none)(he:Bx (PE X e te))
  (hs:starEach [e] X.env=(false,eval e X.env)::starEach [] X.env) :
  Bx (PE X (.Call (.Name "list" p1) [.Call (.Name "range" p2) [e] [] pos2] [] pos1) (zamd te)):=⟨zamf hc hgl hml hgs hms he.out hs⟩
noncomputable def zaid(f:EF):EF:=λenv=>(f env).bind λr=>match r.d with
 | .int j=>if 0<=j/\j<=100000 then some ⟨.list ((List.range j.toNat).map λ(k:Nat)=>.int (k:Int)),true,[]⟩else none
 | _=>none
theorem zpv{H:Hp}:∀(l:List Nat),Rps H (l.map λ(k:Nat)=>.int (k:Int)) (l.map λ(k:Nat)=>V.int (k:Int))
 | []=>zci
 | a::l=>zcs zad (zpv l)
theorem zamg{te:TE}{f:EF}(h:SE te f):SE (zamd te) (zaid f):=by
 intro fx H0 env σ H hE rr hr Q q
 unfold zaid at hr
 obtain⟨⟨d,fr,bs⟩,er,hr⟩:=qA.mp hr
 cases d with
 | int j=>
  have hr:(if 0<=j/\j<=100000 then some (⟨.list ((List.range j.toNat).map λ(k:Nat)=>.int (k:Int)),true,[]⟩:Val)else none)=some rr:=hr
  split at hr
  ·rename_i hj
   cases hr
   refine h fx H0 env σ H hE _ er _ λv H1 s1 hv=>?_
   cases zda hv.rp
   refine⟨j.toNat,by congr 1;omega,by omega,λl hl=>?_⟩
   have hA:=(hE.up s1).lims []
   exact q _ _ (s1.trans (Same.new hl)) ⟨zri hl (zei hA hl) (zpv _),λ_=>⟨l,rfl,s1.free hl,zmz hl (zpv (H:=Offs (lim fx env σ []) H1) _)⟩⟩
  ·cases hr
 | _=>cases hr
section
variable{T:Type}{k:Kind T}{f:Nat}
noncomputable def zlt(i j:Nat)(g:EFr T):SFr T:=λenv st=>match env[i]?,env[j]? with
 | some (.ac (.list ds)),some (.ac (.list es))=>(g env st).bind λr=>match r.1.d with
  | .int n=>if 0<=n/\n<100000/\ds.length<100000/\i≠j then(es[n.toNat]?).bind λd=>some (.nx ((env.set j (.ac (.list (es.eraseIdx n.toNat)))).set i (.ac (.list (ds++[d])))) r.2)else none
  | _=>none
 | _,_=>none
theorem zaav{K:qC}{i j:Nat}{te:TE}{g:EFr T}(h1:SEr k f te g):SSr k f (tDrop (tBM K "list" zwt (tVar i) (tCons (tBM K "list" zacc (tVar j) (tCons te tNil)) tNil))) (zlt i j g):=by
 intro fx H0 env σ H v R st D hh o e q
 unfold zlt at e
 split at e
 ·rename_i ds es ei ej
  obtain⟨⟨⟨rd,rfr,rbs⟩,s1⟩,er,e⟩:=qA.mp e
  cases rd with
  | int n=>
   have e:(if 0<=n/\n<100000/\ds.length<100000/\i≠j then(es[n.toNat]?).bind λd=>some (OutR.nx ((env.set j (.ac (.list (es.eraseIdx n.toNat)))).set i (.ac (.list (ds++[d])))) s1)else none)=some o:=e
   split at e
   ·rename_i hl
    obtain⟨d,ed,e⟩:=qA.mp e
    cases e
    have hif:i≠f:=λz=>by rw[z,hh.no]at ei;cases ei
    have hjf:j≠f:=λz=>by rw[z,hh.no]at ej;cases ej
    obtain⟨a,g1,g2,g3,g4⟩:=hh.ok.ac i _ ei
    obtain⟨xs0,hx0,rx0⟩:=g4
    obtain⟨b,k1,k2,k3,k4⟩:=hh.ok.ac j _ ej
    obtain⟨ys0,hy0,ry0⟩:=k4
    have hab:a≠b:=λz=>hl.2.2.2 (hh.ok.inj i j _ _ a ei ej g1 (by rw[z];exact k1))
    refine⟨_,g1,.inl ⟨rfl,_,SqL.of hx0⟩,_,k1,.inl ⟨rfl,_,SqL.of hy0⟩,h1 fx H0 env σ H v R st hh _ s1 er _ λw H' m h' hv=>?_⟩
    cases zda hv.rp
    obtain⟨b',y1,_,_,ys,hy',ry'⟩:=h'.ok.ac j _ ej
    rw[k1]at y1
    cases y1
    obtain⟨a',y1,_,_,xs,hx',rx'⟩:=h'.ok.ac i _ ei
    rw[g1]at y1
    cases y1
    obtain⟨u,hu,ru⟩:=ry'.get2 ed
    have hlt:n.toNat<ys.length:=(qW.mp hu).1
    have hsq:seqIndex? n ys.length=some n.toNat:=qCd hl.1 (by omega)
    refine⟨b,ys,n,n.toNat,u,rfl,rfl,hy',by omega,by omega,hsq,hu,?_⟩
    have h2:=h'.ok.mut ej k1 (d':=.list (es.eraseIdx n.toNat)) (o:=.lst (ys.eraseIdx n.toNat)) ⟨_,zaz,ry'.erase _⟩
    have ei2:(env.set j (.ac (.list (es.eraseIdx n.toNat))))[i]?=some (.ac (.list ds)):=by rw[qP (qAg hl.2.2.2)];exact ei
    have hx2:(upd H' b (.lst (ys.eraseIdx n.toNat))) a=some (.lst xs):=by rw[zax hab];exact hx'
    obtain⟨a',z1,_,_,z4⟩:=h2.ac i _ ei2
    rw[g1]at z1
    cases z1
    obtain⟨zs,y1,y2⟩:=z4
    rw[hx2]at y1
    cases y1
    have ow:Same (Offs (λb=>fx b\/own env σ b) H') (Offs (λc=>fx c\/own (env.set j (.ac (.list (es.eraseIdx n.toNat)))) σ c) (upd H' b (.lst (ys.eraseIdx n.toNat)))):=by
     have t:Same (Offs (λb=>fx b\/own env σ b) (upd H' b (.lst (ys.eraseIdx n.toNat)))) (Offs (λc=>fx c\/own (env.set j (.ac (.list (es.eraseIdx n.toNat)))) σ c) (upd H' b (.lst (ys.eraseIdx n.toNat)))):=Offs.sub λc z=>z.imp (λy=>y) λ⟨m,d1,w1,w2⟩=>by
      rcases zcj w1 with⟨rfl,_⟩|⟨_,w1⟩
      ·exact⟨m,_,ej,w2⟩
      ·exact⟨m,d1,w1,w2⟩
     rw[Offs.upd (.inr ⟨j,_,ej,k1⟩)]at t
     exact t
    refine⟨a,xs,u,rfl,rfl,hx2,zov (by rw[<- rx'.length];exact hl.2.2.1),?_⟩
    refine q σ _ ⟨h2.mut ei2 g1 ⟨_,zaz,y2.append (zcs (Rp.same ow _ ru) zci)⟩,?_,hh.sl,k.stay h'.th λc o hb eb=>?_,hh.off,hh.low⟩
    ·rw[qP hif,qP hjf];exact hh.no
    ·rw[zax λz=>g3 (by rw[<- z];exact hh.off c hb),zax λz=>k3 (by rw[<- z];exact hh.off c hb)];exact eb
   ·cases e
  | _=>cases e
 ·cases e
end
end L2
namespace Bc
open PySem L2
noncomputable def ziv:SF:=(sRet (zen ["name","elders"] [] (zba (eVar 0)) (gT 2 (zbe 0 (zbe 1 zfd))) zbv (eVar 0)))
noncomputable def zfz:GF:=fnD 1 ziv
noncomputable def zfm:SF:=(sSeq (sSet 2 (zct 1 zfz (zab (eVar 0) aNil)))
  (sFor (zba (eVar 1)) (gN 3)
  (sIf (zbs (eOp (inD true) (eVar 3) (eVar 2))) zyw sNil)))
noncomputable def zfn:GF:=fnD 4 zfm
theorem zki{α:Type}{enc out:α->PyData}{g:GT}{t:TF}{e:EF}{env:DEnv}(p:α->Bool):∀{l:List α},(∀x∈l,∃e1,g (enc x) env=some e1/\t e1=some (p x)/\(p x=true->∃r,e e1=some r/\r.d=out x))->
  zem g t e env (l.map enc)=some ((l.filter p).map out)
 | [],_=>rfl
 | x::l,h=>by
  obtain⟨e1,h1,h2,h3⟩:=h x qc
  have ih:=zki (l:=l) p λy hy=>h y (qR _ hy)
  rw[qAE]
  unfold zem
  rw[h1,qJ,h2,qJ]
  cases hp:p x with
  | false=>
   rw[if_neg qQ,ih,List.filter_cons,hp];rfl
  | true=>
   obtain⟨r,h4,h5⟩:=h3 hp
   rw[if_pos rfl,h4,qJ,ih,List.filter_cons,hp]
   simp[h5]
theorem zdv{α:Type}{enc out:α->PyData}{g:GT}{t:TF}{e:EF}{env:DEnv}{l:List α}(h:∀x∈l,∃e1,g (enc x) env=some e1/\t e1=some true/\∃r,e e1=some r/\r.d=out x):zem g t e env (l.map enc)=some (l.map out):=by
 have q:=zki (enc:=enc) (out:=out) (g:=g) (t:=t) (e:=e) (env:=env) (λ_=>true) (l:=l) λx hx=>let⟨e1,h1,h2,h3⟩:=h x hx;⟨e1,h1,h2,λ_=>h3⟩
 rw[q]
 congr 2
 exact List.filter_eq_self.mpr λ_ _=>rfl
theorem zzi{α:Type}{enc:α->PyData}{g:GT}{body:SF}(I:List α->DEnv->Prop)(all:List α):∀(l pre:List α)(env:DEnv),pre++l=all->I pre env->
  (∀pre x post env,pre++x::post=all->I pre env->∃e1 e2,g (enc x) env=some e1/\(body e1=some (.nx e2)\/body e1=some (.ct e2))/\I (pre++[x]) e2)->∃env',forL g body (l.map enc) env=some (.nx env')/\I all env'
 | [],pre,env,hall,h0,hs=>by
  rw[qAL]at hall
  subst hall
  exact⟨env,rfl,h0⟩
 | x::l,pre,env,hall,h0,hs=>by
  obtain⟨e1,e2,h1,h2,h3⟩:=hs pre x l env hall h0
  obtain⟨env',h4,h5⟩:=zzi I all l (pre++[x]) e2 (by rw[<- hall];simp) h3 hs
  refine⟨env',?_,h5⟩
  rw[qAE]
  unfold forL
  rw[h1,qJ]
  rcases h2 with h2|h2<;>rw[h2,qJ]<;>exact h4
theorem zpw{α:Type}{enc:α->PyData}{g:GT}{body:SF}{l:List α}{env:DEnv}(I:List α->DEnv->Prop)(h0:I [] env)(hs:∀pre x post env,pre++x::post=l->I pre env->∃e1 e2,g (enc x) env=some e1/\(body e1=some (.nx e2)\/body e1=some (.ct e2))/\I (pre++[x]) e2) :
  ∃env',forL g body (l.map enc) env=some (.nx env')/\I l env':=zzi I l l [] env rfl h0 hs
theorem zeg{f g:SF}{env e1:DEnv}{o:Option Out}(h:f env=some (.nx e1))(k:g e1=o):sSeq f g env=o:=by unfold sSeq;rw[h];exact k
theorem zzj{f g:SF}{env:DEnv}{d:PyData}{fr:Bool}(h:f env=some (.rt d fr)):sSeq f g env=some (.rt d fr):=by unfold sSeq;rw[h];rfl
theorem zzk{f:EF}{g:GT}{b:SF}{env:DEnv}{ds:List PyData}{fr:Bool}{bs:List Nat}{o:Option Out}(h:f env=some ⟨.list ds,fr,bs⟩)(k:forL g b ds (frzs env bs)=o):sFor (zba f) g b env=o:=by
 unfold sFor zba;rw[h];exact k
theorem zaeg{f:IF'}{g:GT}{b:SF}{env:DEnv}{ds:List PyData}{bs:List Nat}{o:Option Out}(h:f env=some (ds,bs))(k:forL g b ds (frzs env bs)=o):sFor f g b env=o:=by
 unfold sFor;rw[h];exact k
theorem if_t{c:TF}{f g:SF}{env:DEnv}{o:Option Out}(h:c env=some true)(k:f env=o):sIf c f g env=o:=by unfold sIf;rw[h];exact k
theorem if_f{c:TF}{f g:SF}{env:DEnv}{o:Option Out}(h:c env=some false)(k:g env=o):sIf c f g env=o:=by unfold sIf;rw[h];exact k
theorem zvu{i:Nat}{f:EF}{env:DEnv}{r:Val}(h:f env=some r):sSet i f env=some (.nx (putV env i r)):=by unfold sSet;rw[h];rfl
theorem zaeh{f:EF}{env:DEnv}{r:Val}(h:f env=some r):zaan f env=some (.nx env):=by unfold zaan;rw[h];rfl
theorem znp{f:EF}{env:DEnv}{d:PyData}{fr:Bool}{bs:List Nat}(h:f env=some ⟨d,fr,bs⟩):sRet f env=some (.rt d fr):=by unfold sRet;rw[h];rfl
theorem zdo{n:Nat}{g:GF}{f:AF}{env:DEnv}{rs:List Val}{d:PyData}{fr:Bool}(h:f env=some rs)(hn:rs.length=n)(k:g (zfx rs)=some (d,fr)):zct n g f env=some ⟨d,fr,bsOf d (bss rs)⟩:=by
 unfold zct;rw[h,qJ,if_pos hn,k];rfl
theorem zin{own:List Str}{fr:List Nat}{fi:IF'}{g:GT}{t:TF}{e:EF}{env:DEnv}{ds:List PyData}{bs:List Nat}{rs:List PyData}(h:fi env=some (ds,bs))(hl:ds.length<100000)(k:zem g t e (envB own fr env) ds=some rs) :
  zen own fr fi g t e env=some ⟨.list rs,true,if zdb rs=true then[]else bs++capA fr env⟩:=by
 unfold zen;rw[h,qJ,if_pos hl,k];rfl
theorem zxn{n:Nat}{f:SF}{ds:List PyData}{env:DEnv}{d:PyData}{fr:Bool}(h:zhw n ds=env)(e:f env=some (.rt d fr)):fnD n f ds=some (d,fr):=by
 unfold fnD;rw[h,e]
theorem zarv{n:Nat}{f:SF}{ds:List PyData}{env env':DEnv}(h:zhw n ds=env)(e:f env=some (.nx env')):fnD n f ds=some (.none,false):=by
 unfold fnD;rw[h,e]
theorem zmi(n:Int):neD (.int n) (.int n)=some (.bool false,false):=by
 have e:qk (.int n) (.int n)=true:=by unfold qk;exact beq_self_eq_true n
 show some (PyData.bool (!PyData.eqv (.int n) (.int n)),false)=_
 rw[e];rfl
noncomputable def zaq(xs:List Str):PyData:=.list (xs.map .str)
noncomputable def rowD(p:Str×List Str):PyData:=.tuple [.str p.1,zaq p.2]
noncomputable def webD(W:Web):PyData:=.list (W.map rowD)
theorem zhg(xs:List Str):zdb (xs.map .str)=true:=by
 unfold zdb
 rw[List.all_map]
 exact qAK.mpr λ_ _=>rfl
theorem zaie(xs:List Str)(x:Str):((xs.map PyData.str).any λe=>qk e (.str x))=decide (x∈xs):=by
 rw[List.any_map,qAx,List.any_eq_true,decide_eq_true_iff]
 constructor
 ·rintro⟨y,hy,h⟩
  have:y=x:=by simpa [qk]using h
  rw[<- this];exact hy
 ·exact λh=>⟨x,h,by simp[qk]⟩
theorem zxo(b:Bool)(xs:List Str)(x:Str):inD b (.str x) (zaq xs)=some (.bool (if b then !decide (x∈xs)else decide (x∈xs)),false):=by
 unfold inD zaq
 simp only[zft]
 rw[if_pos ⟨rfl,zhg xs⟩,zaie]
theorem znf{W:Web}(hl:W.length<100000):zfz [webD W]=some (zaq (nm W),true):=by
 have c:zem (gT 2 (zbe 0 (zbe 1 zfd))) zbv (eVar 0) [.no,.no] (W.map rowD)=some (W.map λp=>PyData.str p.1):=zdv λp _=>⟨[.pl (.str p.1),.pl (zaq p.2)],rfl,rfl,⟨.str p.1,false,[]⟩,rfl,rfl⟩
 have e:ziv [.pl (webD W)]=some (.rt (zaq (nm W)) true):=by
  unfold ziv sRet zen zba
  simp only[eVar,qCa,qJ,webD,zft,qCD,qD]
  rw[if_pos hl]
  show Option.map _ (Option.map _ (zem _ _ _ [.no,.no] _))=_
  rw[c]
  unfold zaq nm
  simp
 show(match ziv [.pl (webD W)]with|some (.rt d fr)=>some (d,fr)|some (.nx _)=>some (.none,false)|_=>none)=_
 rw[e]
theorem ztu{W:Web}(hl:W.length<100000){ns:List Str}(h:∀n∈ns,n∈nm W):zfn [webD W,zaq ns]=some (.none,false):=by
 have l:∃env',forL (gN 3) (sIf (zbs (eOp (inD true) (eVar 3) (eVar 2))) zyw sNil) (ns.map .str) [.pl (webD W),.pl (zaq ns),.ac (zaq (nm W)),.no]=some (.nx env')/\True:=by
  refine zpw (λ_ env=>∃s,env=[.pl (webD W),.pl (zaq ns),.ac (zaq (nm W)),s]) ⟨_,rfl⟩ ?_ |>.imp λ_ q=>⟨q.1,trivial⟩
  rintro pre x post env hx ⟨s,rfl⟩
  have hm:=h x (by rw[<- hx];simp)
  refine⟨_,[.pl (webD W),.pl (zaq ns),.ac (zaq (nm W)),.pl (.str x)],rfl,.inl ?_,_,rfl⟩
  simp[sIf,zbs,eOp,eVar,sNil,zxo,hm,bsOf,zhr]
 obtain⟨env',l,_⟩:=l
 have e:zfm [.pl (webD W),.pl (zaq ns),.no,.no]=some (.nx env'):=by
  unfold zfm sSeq sSet zct sFor zba
  simp only[zab,aNil,eVar,qCa,List.getElem?_cons_succ,qJ,qCD,zfx,qAE,List.map_nil,qV,qA5,znf hl,if_true]
  simp[putV,frzs,bsOf,zaq,zhr,bss,slOf,zft]
  exact l
 show(match zfm [.pl (webD W),.pl (zaq ns),.no,.no]with|some (.rt d fr)=>some (d,fr)|some (.nx _)=>some (.none,false)|_=>none)=_
 rw[e]
theorem zamh(W:Web)(p:Str×List Str):nm (W++[p])=nm W++[p.1]:=by unfold nm;rw[qw];rfl
noncomputable def ltr(i:Int):Str:=⟨#[97+i.toNat]⟩
noncomputable def Low(x:Str):Prop:=∀c∈x.cps.toList,c<128
theorem zmj{x:Str}(h:Low x):qA2 x=true:=by
 unfold qA2
 rw[<- Array.all_toList,qAK]
 intro c hc
 have:=h c hc
 exact decide_eq_true (by omega)
theorem zzl(a b:Str):(a++b).cps.toList=a.cps.toList++b.cps.toList:=by
 show(a.cps++b.cps).toList=_
 simp
theorem Low.app{a b:Str}(h1:Low a)(h2:Low b):Low (a++b):=λc hc=>by
 rw[zzl]at hc
 exact(qd.mp hc).elim (h1 c) (h2 c)
theorem Low.slice{x:Str}(h:Low x)(l u:Option Int):Low (Txt.slice x l u):=λc hc=>by
 unfold Txt.slice at hc
 split at hc
 ·exact h c hc
 ·have hc:c∈(List.filterMap (x.cps[·]?) (Builtin.Str.strSliceIndices l u 1 x.length)):=by simpa using hc
  obtain⟨i,_,e⟩:=qB4.mp hc
  exact h c (by
   have:=Array.mem_of_getElem? e
   simpa using this)
theorem Low.ltr{i:Int}(h0:0<=i)(h1:i<26):Low (ltr i):=λc hc=>by
 have:c=97+i.toNat:=by simpa [Bc.ltr]using hc
 omega
theorem zpx{α:Type}{f:Nat->α}{n:Nat}(h:∀a b,a<n->b<n->f a=f b->a=b):((List.range n).map f).Nodup:=by
 rw[List.nodup_iff_pairwise_ne,List.pairwise_map]
 refine List.Pairwise.imp_of_mem ?_ (List.pairwise_lt_range (n:=n))
 intro a b ha hb hab e
 have:=h a b (qAk.mp ha) (qAk.mp hb) e
 omega
noncomputable abbrev vi(i:Int):Val:=⟨.int i,false,[]⟩
noncomputable abbrev vs(x:Str):Val:=⟨.str x,false,[]⟩
noncomputable abbrev vb(b:Bool):Val:=⟨.bool b,false,[]⟩
section
variable{a b:EF}{env:DEnv}{i j:Int}
theorem zarw{x:Str}{l h:PF'}{lo hi:Option Int}(ha:a env=some (vs x))(hl:l env=some lo)(hh:h env=some hi)(hz:x.length<=100000):eSl a l h env=some (vs (Txt.slice x lo hi)):=by
 unfold eSl;rw[ha,hl,hh]
 simp only[qJ,slD]
 rw[if_pos hz];simp[bsOf,zhr]
theorem zgn{c:Bool}(ha:a env=some (vb c)):zbs a env=some c:=by unfold zbs;rw[ha];rfl
theorem zic{r:Val}(ha:a env=some r):zab a aNil env=some [r]:=by unfold zab aNil;rw[ha];rfl
theorem zaqb{ds:List PyData}{fr:Bool}{bs:List Nat}(ha:a env=some ⟨.list ds,fr,bs⟩):eCB lenD (zab a aNil) env=some (vi ds.length):=by
 unfold eCB
 rw[zic ha]
 simp[zfx,lenD,bsOf,zhr]
theorem zaqc{α β:Type}(f:α->β){l:List α}{n:Nat}{x:α}(h:l[n]?=some x):atI (l.map f) (n:Int)=some (f x):=zgq (by rw[qa,h];rfl)
theorem zarx{k n:Nat}{b:EF}{ds:List PyData}{d:PyData}(he:env[k]?=some (.ac (.list ds)))(hb:b env=some (vi (n:Int)))(hd:ds[n]?=some d):eIxV k b env=some ⟨d,false,[]⟩:=by
 unfold eIxV
 rw[he]
 simp only
 rw[hb]
 simp only[qJ]
 rw[zgq hd];rfl
end
noncomputable def abc:Str:="abcdefghijklmnopqrstuvwxyz"
theorem zaei:(List.range 26).all (λi=>abc.cps.toList[i]?==some (97+i))=true:=by decide +kernel
theorem zxp:abc.length=26:=by decide +kernel
theorem zajs{i:Int}(h0:0<=i)(h1:i<26):atI abc.cps.toList i=some (97+i.toNat):=by
 have q:=qAK.mp zaei i.toNat (qAk.mpr (by omega))
 have e:((i.toNat:Nat):Int)=i:=by omega
 rw[<- e]
 have z:=zgq (eq_of_beq q)
 rw[e]at z ⊢
 exact z
theorem zkj(n:Nat):znn 0 n=(List.range n).map (λ(k:Nat)=>PyData.int (k:Int)):=by
 unfold znn
 refine qCt λk _=>?_
 show PyData.int (0+(k:Int))=_
 rw[Int.zero_add]
theorem zaej(a b:Str):(a++b).length=a.length+b.length:=by
 have:=congrArg List.length (zzl a b)
 rw[qI]at this
 simpa [Str.length]using this
theorem zaif{α:Type}(enc:α->PyData)(l:List α):zlp (l.map enc)=(l.zipIdx).map λ(p:α×Nat)=>PyData.tuple [.int (p.2:Int),enc p.1]:=by
 unfold zlp
 rw[List.zipIdx_map,qAr];rfl
section
variable{a b:EF}{env:DEnv}{x y:Str}
theorem e_in{neg:Bool}{xs:List Str}{fr:Bool}{bs:List Nat}(ha:a env=some (vs x))(hb:b env=some ⟨zaq xs,fr,bs⟩):eOp (inD neg) a b env=some (vb (if neg then !decide (x∈xs)else decide (x∈xs))):=by
 unfold eOp;rw[ha,hb];simp[zxo,bsOf,zhr]
end
theorem zcc{a:EF}{f:AF}{env:DEnv}{r:Val}{rs:List Val}(ha:a env=some r)(hf:f env=some rs):zab a f env=some (r::rs):=by unfold zab;rw[ha,hf];rfl
theorem zaqd{f:EF}{env:DEnv}{c:Bool}(h:f env=some (vb c)):zpa (tTru f) env=some (!c):=by unfold zpa tTru;rw[h];rfl
theorem zoj:∀(xs:List Str),(∀x∈xs,qA2 x=true)->qAQ (xs.map .str)=true/\qu (xs.map .str)=0
 | [],_=>⟨rfl,rfl⟩
 | x::xs,h=>by
  obtain⟨h1,h2⟩:=zoj xs λy hy=>h y (qR _ hy)
  rw[qAE]
  refine⟨?_,?_⟩
  ·show(qA2 x&&qAQ (xs.map .str))=true
   rw[h x qc,h1];rfl
  ·show max 0 (qu (xs.map .str))=0
   rw[h2];rfl
noncomputable def zrq:SF:=(sSeq (sIf (tTru (eIsi "tuple" (eVar 0))) (sRet (eCB zjx (zab (eVar 0) aNil))) sNil)
  (sRet (eLst (zab (eVar 0) aNil))))
noncomputable def zhh:GF:=fnD 1 zrq
theorem zvv{α:Type}(f:α->Bool):∀(l:List α),zrj (l.map λx=>.bool (f x))=some (l.map f)
 | []=>rfl
 | x::l=>by
  show(zrj (l.map λx=>.bool (f x))).map _=_
  rw[zvv f l];rfl
theorem zpy{α:Type}{enc:α->PyData}{out:α->List PyData}{g:GT}{t:TF}{f2:IF'}{g2:GT}{t2:TF}{e:EF}{env:DEnv}:∀{l:List α},(∀x∈l,∃e1,g (enc x) env=some e1/\t e1=some true/\innL f2 g2 t2 e e1=some (out x))->
  zkd g t f2 g2 t2 e env (l.map enc)=some (l.flatMap out)
 | [],_=>rfl
 | x::l,h=>by
  obtain⟨e1,h1,h2,h3⟩:=h x qc
  have ih:=zpy (l:=l) λy hy=>h y (qR _ hy)
  rw[qAE]
  unfold zkd
  rw[h1,qJ,h2,qJ,if_pos rfl,h3,qJ,ih,qBI]
  rfl
theorem zaig{own:List Str}{fr:List Nat}{fi:IF'}{g:GT}{t:TF}{f2:IF'}{g2:GT}{t2:TF}{e:EF}{env:DEnv}{ds:List PyData}{bs:List Nat}{rs:List PyData}(h:fi env=some (ds,bs))(hl:ds.length<300)(k:zkd g t f2 g2 t2 e (envB own fr env) ds=some rs) :
  zvb own fr fi g t f2 g2 t2 e env=some ⟨.list rs,true,if zdb rs=true then[]else bs++capA fr env⟩:=by
 unfold zvb;rw[h,qJ,if_pos hl,k];rfl
noncomputable def zkk:SF:=(sRet (zvb ["arm","name"] [] (zba (eVar 0)) (gN 0) zbv (zba (zct 1 zhh (zab (eVar 0) aNil))) (gN 1) zbv (eVar 1)))
noncomputable def zde:GF:=fnD 1 zkk
noncomputable def znq:SF:=(sSeq (sIf (zbs (eOp neD (eCB lenD (zab (eVar 2) aNil)) (eVar 1))) zyw sNil)
  (zaan (zct 2 zfn (zab (eVar 0) (zab (zct 1 zde (zab (eVar 2) aNil)) aNil)))))
noncomputable def zgo:GF:=fnD 3 znq
inductive Arm where
 | one (n:Str)
 | many (ns:List Str)
noncomputable def Arm.parts:Arm->List Str
 | .one n=>[n]
 | .many ns=>ns
noncomputable def armD:Arm->PyData
 | .one n=>.str n
 | .many ns=>.tuple (ns.map .str)
noncomputable def zkl(c:List Arm):PyData:=.tuple (c.map armD)
noncomputable def zai(ks:List Str):PyData:=.tuple (ks.map .str)
noncomputable def zng(r:Str×List Str):PyData:=.tuple [.str r.1,zai r.2]
noncomputable def zdw(rs:List (Str×List Str)):PyData:=.list (rs.map zng)
noncomputable def zfo(W:Web)(p:Nat)(rs:List (Str×List Str)):PyData:=.tuple [webD W,.int p,zdw rs]
theorem zqo(a:Arm):zhh [armD a]=some (zaq a.parts,true):=by
 cases a with
 | one n=>rfl
 | many ns=>rfl
theorem zkm{c:List Arm}(hc:c.length<300)(ha:∀a∈c,a.parts.length<300):zde [zkl c]=some (zaq (c.flatMap Arm.parts),true):=by
 have k:zkd (gN 0) zbv (zba (zct 1 zhh (zab (eVar 0) aNil))) (gN 1) zbv (eVar 1) [.no,.no] (c.map armD)=some (c.flatMap λa=>a.parts.map .str):=by
  refine zpy λa hm=>⟨[.pl (armD a),.no],rfl,rfl,?_⟩
  have e:zba (zct 1 zhh (zab (eVar 0) aNil)) [.pl (armD a),.no]=some (a.parts.map .str,[]):=by
   unfold zba
   rw[zdo (n:=1) (rs:=[⟨armD a,false,[]⟩]) rfl rfl (zqo a)]
   rfl
  unfold innL
  rw[e]
  show(if(a.parts.map PyData.str).length<300 then zem (gN 1) zbv (eVar 1) [.pl (armD a),.no] (a.parts.map .str)else none)=_
  rw[if_pos (by rw[qD];exact ha a hm)]
  exact zdv λx _=>⟨[.pl (armD a),.pl (.str x)],rfl,rfl,vs x,rfl,rfl⟩
 have fl:(c.flatMap λa=>a.parts.map PyData.str)=(c.flatMap Arm.parts).map .str:=by
  rw[List.map_flatMap]
 rw[fl]at k
 exact zxn (env:=[.pl (zkl c)]) rfl (znp (zaig (own:=["arm","name"]) (fr:=[]) (fi:=zba (eVar 0)) (ds:=c.map armD) (bs:=[]) rfl (by rw[qD];exact hc) k))
theorem zvw{W:Web}(h:WebOk W){c:List Arm}(hc:c.length<300)(ha:∀a∈c,a.parts.length<300)(hk:∀a∈c,∀n∈a.parts,n∈nm W):zgo [webD W,.int c.length,zkl c]=some (.none,false):=by
 have hW:W.length<=12:=h.len
 have e2:eCB lenD (zab (eVar 2) aNil) [.pl (webD W),.pl (.int c.length),.pl (zkl c)]=some (vi (c.map armD).length):=rfl
 have t:zbs (eOp neD (eCB lenD (zab (eVar 2) aNil)) (eVar 1)) [.pl (webD W),.pl (.int c.length),.pl (zkl c)]=some false:=by
  refine zgn ?_
  unfold eOp
  rw[e2]
  show((neD (.int ((c.map armD).length:Nat)) (.int (c.length:Nat))).bind λz=>some (⟨z.1,z.2,bsOf z.1 ([]++[])⟩:Val))=_
  rw[qD]
  rw[zmi];rfl
 have cn:zfn [webD W,zaq (c.flatMap Arm.parts)]=some (.none,false):=ztu (by omega) λn hn=>by
  obtain⟨a,ha',hn'⟩:=qBQ.mp hn
  exact hk a ha' n hn'
 exact zarv (env:=[.pl (webD W),.pl (.int c.length),.pl (zkl c)]) rfl (zeg (if_f t rfl) (zaeh (zdo (n:=2) (rs:=[⟨webD W,false,[]⟩,⟨zaq (c.flatMap Arm.parts),true,[]⟩]) (zcc rfl (zic (zdo (n:=1) (rs:=[⟨zkl c,false,[]⟩]) rfl rfl (zkm hc ha)))) rfl cn)))
theorem zzm:∀(a b:List Str),PyData.eqvAll (a.map .str) (b.map .str)=(a==b)
 | [],[]=>rfl
 | [],_::_=>rfl
 | _::_,[]=>rfl
 | x::a,y::b=>by
  show(qk (.str x) (.str y)&&PyData.eqvAll (a.map .str) (b.map .str))=_
  rw[zzm a b]
  show((x==y)&&(a==b))=_
  rfl
noncomputable def LowS(ks:List Str):Prop:=∀k∈ks,qA2 k=true
theorem zvx{ks:List Str}(h:LowS ks):qx (zai ks)=true:=by
 obtain⟨h1,h2⟩:=zoj ks h
 unfold qx zai
 rw[qr]
 refine⟨h1,decide_eq_true ?_⟩
 show qu (ks.map .str)+1<=64
 omega
structure CallOk(W:Web)(c:List Arm):Prop where
 len:c.length<300
 few:∀a∈c,a.parts.length<300
 kinds:∀a∈c,∀n∈a.parts,n∈nm W
noncomputable def zmk:SFr (List Int):=(rSeq (rS 0 (sSet 1 (eC (.int 7)))) (rFor (zadq (zau rScr rNil)) (gT 2 (zbe 2 (zbe 3 zfd))) (rS 0 (sSet 1 (eOp modD (eOp addD (eOp addD (eOp mulD (eVar 1) (eC (.int 48271))) (eOp mulD (eOp modD (eVar 3) (eC (.int 2147483629))) (eOp addD (eOp mulD (eVar 2) (eVar 2)) (eC (.int 3))))) (eC (.int 5))) (eC (.int 2147483647)))))))
noncomputable def ziw:List Int->Option Int:=zahm zmk 3 (eVar 1)
noncomputable def zrr:SFr Pen:=(rSeq (zjr (qAnd (qB (rOp ltD (rGet 1) (zah (eOp powB (eC (.int 10)) (eC (.int 18)))))) zrn) (rPut 1 (rOp modD zadl (zah (eOp powB (eOp powB (eC (.int 10)) (eC (.int 50))) (eC (.int 8)))))) 1000)
  (rSeq (rIf (qB (rOp geD (rGet 1) (zah (eOp powB (eC (.int 10)) (eC (.int 18)))))) (rSeq (rSet 2 (rOp modD (rGet 1) (zah (eVar 1))))
  (rSeq (rPut 1 (rOp zuv (rGet 1) (zah (eVar 1))))
  (rS 0 (zpc 2)))) rNx)
  (rSeq (rPut 3 (rOp addD (rGet 3) (zah (eC (.int 1)))))
  (rSeq (rPut 2 (rOp modD (rOp addD (rOp addD (rOp mulD (rGet 2) (zah (eC (.int 48271)))) (rOp mulD (rGet 3) (rGet 3))) (zah (eC (.int 11)))) (zah (eC (.int 2147483647)))))
  (rRet (rOp modD (rOp zuv (rOp modD (rOp powB (rGet 2) (zah (eC (.int 3)))) (zah (eC (.int 2305843009213693951)))) (zah (eC (.int 64)))) (zah (eVar 1))))))))
noncomputable def zal:GR Pen:=fnR 3 zrr
noncomputable def zrs:SFr Pen:=(rSeq (rSet 2 (zah (eC (.str "abcdefghijklmnopqrstuvwxyz"))))
  (rSeq (rSet 3 (zvm (zls ["_law_k"] [0,2] (zfy (zau (rOp addD (zah (eC (.int 1))) (zav 2 zal (zau (zah (eC (.int 3))) rNil))) rNil)) (gN 0) zbv (rOp ixD (zah (eVar 2)) (zav 2 zal (zau (zah (eC (.int 26))) rNil))))))
  (rSeq (rSet 4 (zav 2 zal (zau (zah (eC (.int 4))) rNil)))
  (rSeq (rIf (zit (znx (zbs (eOp neD (eVar 1) (eLst aNil))) (zbs (eOp ltD (eVar 4) (eC (.int 2)))))) (rSeq (rSet 5 (rOp ixD (zah (eVar 1)) (zav 2 zal (zau (zah (eCB lenD (zab (eVar 1) aNil))) rNil))))
  (rSet 3 (zah (eSl (eOp ixD (eLst (zab (eOp addD (eVar 5) (eVar 3)) (zab (eOp addD (eVar 3) (eVar 5)) aNil))) (eVar 4)) zih (zhb (eC (.int 8))))))) rNx)
  (rSeq (rSet 6 (zah (eOp addD (eOp repD (eLst (zab (eVar 3) aNil)) (eC (.int 5))) (eLst (zab (eC (.str "none")) (zab (eC (.str "rule")) (zab (eC (.str "quarrel")) (zab (eC (.str "kind")) (zab (eC (.str "own")) aNil)))))))))
  (rSeq (rSet 3 (rOp ixD (zah (eVar 6)) (zav 2 zal (zau (zah (eC (.int 10))) rNil))))
  (rSeq (rIf (zit (zbs (eOp (inD false) (eVar 3) (eVar 1)))) (rSet 3 (zah (eOp ixD (zen ["_law_sign"] [1] (zpi (eVar 2)) (gN 0) (zbs (eOp (inD true) (eVar 0) (eVar 1))) (eVar 0)) (eC (.int 0))))) rNx)
  (rS 0 (zpc 3)))))))))
noncomputable def zca:GR Pen:=fnR 7 zrs
noncomputable def zml:SFr Pen:=(rSeq (rSet 2 (zah (eLst aNil)))
  (rSeq (rSet 3 (zah (eLst aNil)))
  (rSeq (rFor (rIP (zcy (zab (eVar 1) aNil))) (gN 4)
  (rSeq (rSet 5 (zah (eLst aNil)))
  (rSeq (rFor (zfy (zau (rCB minD (zau (zah (eVar 4)) (zau (zav 2 zal (zau (zah (eC (.int 5))) rNil)) rNil))) rNil)) (gN 6)
  (rSeq (rSet 7 (rOp ixD (zah (eVar 3)) (zav 2 zal (zau (zah (eVar 4)) rNil))))
  (rIf (zit (zbs (eOp (inD true) (eVar 7) (eVar 5)))) (rApp 5 (zah (eVar 7))) rNx)))
  (rSeq (rApp 3 (zav 2 zca (zau (zah (eVar 3)) rNil)))
  (rApp 2 (zah (eTup (zab (eIxV 3 (eVar 4)) (zab (eVar 5) aNil)))))))))
  (rS 0 (zpc 2)))))
noncomputable def zdy:GR Pen:=fnR 8 zml
noncomputable def zrt:SFr Pen:=(rSeq (rSet 1 (rOp addD (zah (eC (.int 1))) (zav 2 zal (zau (zah (eC (.int 3))) rNil))))
  (rSeq (rSet 2 (rOp addD (zah (eC (.int 1))) (zav 2 zal (zau (zah (eOp ixD (eLst (zab (eC (.int 6)) (zab (eC (.int 5)) (zab (eC (.int 4)) aNil)))) (eOp subD (eVar 1) (eC (.int 1))))) rNil))))
  (rSeq (rIf (qB (rOp eqD (zav 2 zal (zau (zah (eC (.int 8))) rNil)) (zah (eC (.int 7))))) (rSet 2 (zah (eOp ixD (eLst (zab (eC (.int 10)) (zab (eC (.int 10)) (zab (eC (.int 6)) aNil)))) (eOp subD (eVar 1) (eC (.int 1)))))) rNx)
  (rSeq (rSet 3 (zav 2 zdy (zau (zah (eVar 2)) rNil)))
  (rSeq (rSet 4 (zah (eLst aNil)))
  (rSeq (rFor (zfy (zau (zav 2 zal (zau (zah (eC (.int 13))) rNil)) rNil)) (gN 5)
  (rSeq (rSet 6 (zah (eLst aNil)))
  (rSeq (rFor (rIP (zcy (zab (eVar 1) aNil))) (gN 7)
  (rSeq (rSet 8 (zav 2 zal (zau (zah (eVar 2)) rNil)))
  (rApp 6 (rOp ixD (rOp ixD (zah (eVar 3)) (rOp zuv (zah (eVar 8)) (rOp addD (zah (eC (.int 1))) (zav 2 zal (zau (zah (eC (.int 2))) rNil))))) (zah (eC (.int 0)))))))
  (rIf (zit (zbs (eOp (inS true) (eCB zle (zab (eVar 6) aNil)) (zen ["_law_rule"] [] (zba (eVar 4)) (gN 0) zbv (eIxV 0 (eC (.int 1))))))) (rApp 4 (rTup (zau (zav 2 zca (zau (zah (zen ["_law_rule"] [] (zba (eVar 4)) (gN 0) zbv (eIxV 0 (eC (.int 0))))) rNil)) (zau (zah (eCB zle (zab (eVar 6) aNil))) rNil)))) rNx))))
  (rRet (zah (eTup (zab (eVar 3) (zab (eVar 1) (zab (eVar 4) aNil))))))))))))
noncomputable def zla:GR Pen:=fnR 9 zrt
noncomputable def znh:GF->SF:=λ(G:GF)=>(sSeq (sIf (tTru (eIsi "str" (eVar 0))) (sRet (eAnd (eIsi "str" (eVar 1)) (eOp eqD (eVar 1) (eVar 0)))) sNil)
  (sSeq (sIf (tTru (eIsi "list" (eVar 0))) (sSeq (sIf (tOrF (zpa (tTru (eIsi "list" (eVar 1)))) (zbs (eOp neD (eCB lenD (zab (eVar 1) aNil)) (eCB lenD (zab (eVar 0) aNil))))) (sRet (eC (.bool false))) sNil)
  (sRet (eCB (anyD λbs=>bs.all id) (zab (zen ["_law_one","_law_two"] [] (ztg (zab (eVar 0) (zab (eVar 1) aNil))) (gT 2 (zbe 0 (zbe 1 zfd))) zbv (zct 2 G (zab (eVar 0) (zab (eVar 1) aNil)))) aNil)))) sNil)
  (sSeq (sIf (tTru (eIsi "tuple" (eVar 0))) (sSeq (sIf (tOrF (zpa (tTru (eIsi "tuple" (eVar 1)))) (zbs (eOp neD (eCB lenD (zab (eVar 1) aNil)) (eCB lenD (zab (eVar 0) aNil))))) (sRet (eC (.bool false))) sNil)
  (sRet (eCB (anyD λbs=>bs.all id) (zab (zen ["_law_one","_law_two"] [] (ztg (zab (eVar 0) (zab (eVar 1) aNil))) (gT 2 (zbe 0 (zbe 1 zfd))) zbv (zct 2 G (zab (eVar 0) (zab (eVar 1) aNil)))) aNil)))) sNil)
  (sRet (eAnd (eIsi "int" (eVar 1)) (eAnd (eNot (eIsi "bool" (eVar 1))) (eOp eqD (eVar 1) (eVar 0))))))))
noncomputable def zeu:Nat->GF
 | 0=>λ_=>none
 | n+1=>fnD 2 (znh (zeu n))
noncomputable def zbo:GF:=zeu 7
noncomputable def zru:SF:=(sRet (eTup (zab (zen ["_law_name_here","_law_elders"] [] (zba (eIxV 0 (eC (.int 0)))) (gT 2 (zbe 0 (zbe 1 zfd))) zbv (eTup (zab (eVar 0) (zab (eCB zjx (zab (eVar 1) aNil)) aNil)))) (zab (eIxV 0 (eC (.int 1))) (zab (eCB zjx (zab (eIxV 0 (eC (.int 2))) aNil)) aNil)))))
noncomputable def zix:GF:=fnD 1 zru
noncomputable def zpz:SF:=(sSeq (sAsg (eVar 0) (gT 3 (zbe 1 (zbe 2 (zbe 3 zfd)))))
  (sSeq (sSet 4 (eLst (zab (eTup aNil) aNil)))
  (sSeq (sFor (zcy (zab (eVar 2) aNil)) (gN 5)
  (sSeq (sSet 6 (eLst aNil))
  (sSeq (sFor (zba (eVar 4)) (gN 7)
  (sExt 6 (zen ["_law_kind","_law_elders"] [7] (zba (eVar 1)) (gT 2 (zbe 0 (zbe 1 zfd))) zbv (eOp addE (eVar 2) (eTup (zab (eVar 0) aNil))))))
  (sSet 4 (eVar 6)))))
  (zpc 4))))
noncomputable def zev:GF:=fnD 8 zpz
noncomputable def zep:SFX:=(xSeq (xOf (sSet 2 (zct 1 zfz (zab (eVar 0) aNil))))
  (xFor (zba (eVar 1)) (gN 3)
  (xIf (zbs (eOp (inD true) (eVar 3) (eVar 2))) (zmh "NoKind" (eVar 3)) (xOf sNil))))
noncomputable def zeq:GFX:=fnX 4 zep
noncomputable def zmm:SFX:=(xSeq (xIf (zbs (eOp neD (eCB lenD (zab (eVar 2) aNil)) (eVar 1))) (zmh "NoCall" (eC .none)) (xOf sNil))
  (zxm 2 zeq (zab (eVar 0) (zab (zct 1 zde (zab (eVar 2) aNil)) aNil))))
noncomputable def zfp:GFX:=fnX 3 zmm
noncomputable def zgv:SFr Pen:=(rSeq (rSet 2 (zah (zen ["_law_name_here","_law_kinds"] [] (zba (eVar 1)) (gT 2 (zbe 0 (zbe 1 zfd))) zbv (eVar 0))))
  (rSeq (rSet 3 (zav 2 zal (zau (zah (eC (.int 3))) rNil)))
  (rSeq (rIf (zit (tOrF (zbs (eOp eqD (eVar 3) (eC (.int 0)))) (zbs (eOp eqD (eVar 2) (eLst aNil))))) (rRet (zah (eTup (zab (eC (.str "none")) aNil)))) rNx)
  (rSeq (rSet 4 (zav 2 zal (zau (zah (eCB lenD (zab (eVar 2) aNil))) rNil)))
  (rSeq (rIf (zit (tOrF (zbs (eOp eqD (eVar 3) (eC (.int 1)))) (zbs (eOp eqD (eVar 4) (eC (.int 0)))))) (rRet (zah (eTup (zab (eC (.str "rule")) (zab (eIxV 2 (eVar 4)) aNil))))) rNx)
  (rRet (rTup (zau (zah (eC (.str "quarrel"))) (zau (rTup (zau (rOp ixD (zah (eVar 2)) (zav 2 zal (zau (zah (eVar 4)) rNil))) (zau (zah (eIxV 2 (eVar 4))) rNil))) rNil)))))))))
noncomputable def zcq:GR Pen:=fnR 5 zgv
noncomputable def zzn:SF:=(sSeq (zaan (zct 3 zgo (zab (eVar 0) (zab (eCB lenD (zab (eVar 2) aNil)) (zab (eVar 3) aNil)))))
  (sSeq (sSet 4 (zct 1 zfz (zab (eVar 0) aNil)))
  (sSeq (sSet 5 (eC (.int 0)))
  (sSeq (sFor (ztg (zab (eVar 1) (zab (eVar 2) aNil))) (gT 2 (zbe 6 (zbe 7 zfd)))
  (sSet 5 (eOp ixD (eIxV 6 (eVar 5)) (zlg (eVar 4) (eIxV 3 (eVar 7))))))
  (sRet (eOp ixD (eIxV 1 (eNeg (eC (.int 1)))) (eVar 5)))))))
noncomputable def zjo:GF:=fnD 8 zzn
noncomputable def zkn:SFr Pen:=(rSeq (rSet 2 (zah (zaid (eVar 1))))
  (rSeq (rSet 3 (zah (eLst aNil)))
  (rSeq (rFor (rIP (zcy (zab (eVar 1) aNil))) (gN 4)
  (zlt 3 2 (zav 2 zal (zau (zah (eCB lenD (zab (eVar 2) aNil))) rNil))))
  (rS 0 (zpc 3)))))
noncomputable def zfq:GR Pen:=fnR 5 zkn
noncomputable def zrv:SFr Pen:=(rSeq (rSet 2 (rOp addD (zah (eLst (zab (eC (.int 1)) aNil))) (zls ["_law_place"] [0] (rIP (zcy (zab (eIxV 1 (eC (.int 1))) aNil))) (gN 0) zbv (rOp addD (zah (eC (.int 1))) (zav 2 zal (zau (zah (eC (.int 5))) rNil))))))
  (rSeq (rSet 3 (zah (eLst aNil)))
  (rSeq (rFor (rIP (zcy (zab (eIxV 1 (eC (.int 1))) aNil))) (gN 4)
  (rSeq (rSet 5 (zah (eLst aNil)))
  (rSeq (rFor (rIP (zcy (zab (eIxV 2 (eVar 4)) aNil))) (gN 6)
  (rApp 5 (zls ["_law_kind"] [0,2,4] (rIP (zba (eIxV 1 (eC (.int 0))))) (gN 0) zbv (zav 2 zal (zau (zah (eIxV 2 (eOp addD (eVar 3) (eC (.int 1))))) rNil)))))
  (rApp 3 (zah (eVar 5))))))
  (rSeq (rApp 3 (zls ["_law_turn"] [0,1] (rIP (zcy (zab (eIxV 2 (eNeg (eC (.int 1)))) aNil))) (gN 0) zbv (zav 2 zcq (zau (zah (eIxV 2 (eC (.int 2)))) rNil))))
  (rS 0 (zpc 3))))))
noncomputable def zlb:GR Pen:=fnR 7 zrv
noncomputable def zmn:SF:=(sSeq (sSet 4 (eC (.int 0)))
  (sSeq (sFor (zacv (zab (eVar 2) aNil)) (gT 2 (zbe 5 (zbe 6 zfd)))
  (sSet 4 (eOp ixD (eOp ixD (eIxV 1 (eVar 5)) (eVar 4)) (zlg (eVar 0) (eIxV 3 (eVar 6))))))
  (sRet (eOp ixD (eIxV 1 (eNeg (eC (.int 1)))) (eVar 4)))))
noncomputable def zdj:GF:=fnD 7 zmn
noncomputable def znr:SFX:=(xSeq (zxm 3 zfp (zab (eVar 0) (zab (eCB lenD (zab (eVar 2) aNil)) (zab (eVar 3) aNil))))
  (xSeq (xOf (sSet 4 (zct 1 zfz (zab (eVar 0) aNil))))
  (xSeq (xOf (sSet 5 (eC (.int 0))))
  (xSeq (xOf (sFor (ztg (zab (eVar 1) (zab (eVar 2) aNil))) (gT 2 (zbe 6 (zbe 7 zfd)))
  (sSet 5 (eOp ixD (eIxV 6 (eVar 5)) (zlg (eVar 4) (eIxV 3 (eVar 7)))))))
  (xOf (sRet (eOp ixD (eIxV 1 (eNeg (eC (.int 1)))) (eVar 5))))))))
noncomputable def zez:GFX:=fnX 8 znr
noncomputable def ziy:SF:=(sSeq (λenv=>if env.length=5 then zaef ["NoCall","NoKind"] 4 4 zez (zab (eVar 0) (zab (eVar 1) (zab (eVar 2) (zab (eVar 3) aNil)))) (λxc xd=>(sRet (eTup (zab (eC (.bool (decide (xc="NoCall")))) (zab (eC (.bool (decide (xc="NoKind")))) (zab (eC xd) aNil)))))) env else none)
  (sRet (eC .none)))
noncomputable def zbk:GF:=fnD 5 ziy
noncomputable def ziz:SFr Pen:=(rSeq (rSet 6 (rCB zle (zau (zls ["_law_place"] [0,2] (rIP (zba (eVar 5))) (gN 0) zbv (rOp ixD (zah (eVar 2)) (zav 2 zal (zau (zah (eCB lenD (zab (eVar 2) aNil))) rNil)))) rNil)))
  (rSeq (rSet 7 (zav 2 zca (zau (zah (eVar 2)) rNil)))
  (rSeq (rSet 8 (zav 2 zca (zau (zah (eOp addD (eVar 2) (eLst (zab (eVar 7) aNil)))) rNil)))
  (rSeq (rIf (zit (zbs (eOp eqD (eVar 1) (eC (.int 0))))) (rSeq (rSet 10 (rOp ixD (zah (eLst (zab (eOp addD (eVar 6) (eTup (zab (eIxV 2 (eC (.int 0))) aNil))) (zab (eSlT (eVar 6) (zhb (eC (.int 1))) zih) (zab (eOp addD (eVar 6) (eTup (zab (eVar 7) aNil))) (zab (eOp addD (eTup (zab (eVar 7) aNil)) (eVar 6)) aNil)))))) (zav 2 zal (zau (zah (eC (.int 4))) rNil))))
  (rRet (zah (eOp eqD (zct 4 zbk (zab (eVar 3) (zab (eVar 4) (zab (eVar 5) (zab (eVar 10) aNil))))) (eTup (zab (eC (.bool true)) (zab (eC (.bool false)) (zab (eC .none) aNil)))))))) rNx)
  (rSeq (rSet 9 (zav 2 zal (zau (zah (eCB lenD (zab (eVar 6) aNil))) rNil)))
  (rSeq (rSet 10 (zah (eOp addD (eOp addE (eSlT (eVar 6) zih (zhb (eVar 9))) (eTup (zab (eVar 7) aNil))) (eSlT (eVar 6) (zhb (eOp addD (eVar 9) (eC (.int 1)))) zih))))
  (rSeq (rIf (zit (znx (zbs (eOp eqD (eVar 1) (eC (.int 1)))) (zbs (eOp ltD (eOp addD (eVar 9) (eC (.int 1))) (eCB lenD (zab (eVar 6) aNil)))))) (rSet 10 (zah (eOp addE (eSlT (eVar 10) zih (zhb (eNeg (eC (.int 1))))) (eTup (zab (eVar 8) aNil))))) rNx)
  (rRet (zah (eOp eqD (zct 4 zbk (zab (eVar 3) (zab (eVar 4) (zab (eVar 5) (zab (eVar 10) aNil))))) (eTup (zab (eC (.bool false)) (zab (eC (.bool true)) (zab (eVar 7) aNil))))))))))))))
noncomputable def zcb:GR Pen:=fnR 11 ziz
theorem zzo:bootBuiltins "all"=some (.builtin "all"):=by decide +kernel
theorem zaek:bootBuiltins "bool"=some (.type "bool"):=by decide +kernel
theorem zaih:bootBuiltins "int"=some (.type "int"):=by decide +kernel
theorem zbi:bootBuiltins "isinstance"=some (.builtin "isinstance"):=by decide +kernel
theorem zds:bootBuiltins "len"=some (.builtin "len"):=by decide +kernel
theorem zfr:bootBuiltins "list"=some (.type "list"):=by decide +kernel
theorem zaii:bootBuiltins "min"=some (.builtin "min"):=by decide +kernel
theorem zzp:bootBuiltins "str"=some (.type "str"):=by decide +kernel
theorem zhi:bootBuiltins "tuple"=some (.type "tuple"):=by decide +kernel
theorem zaqy:bootBuiltins "zip"=some (.type "zip"):=by decide +kernel
noncomputable def top(i:Nat):Stmt:=PySem.Challenge.pw_bestcalls_k44_walked_by_levels.main.body.getD i (.Pass ⟨0,0,0,0⟩)
structure Txt(mg:Str->Option Value):Prop where
 all:mg "all"=none
 bool:mg "bool"=none
 enumerate:mg "enumerate"=none
 int:mg "int"=none
 isinstance:mg "isinstance"=none
 len:mg "len"=none
 list:mg "list"=none
 min:mg "min"=none
 range:mg "range"=none
 str:mg "str"=none
 tuple:mg "tuple"=none
 zip:mg "zip"=none
noncomputable abbrev zhj:Stmt:=top 5
noncomputable abbrev zrw:List Str:=["web"]
theorem zxq:zrw.Nodup:=by decide +kernel
theorem zxr:FnScope zrw ["web"] (zan zhj):=⟨rfl,rfl,rfl,zxq,rfl,by decide +kernel,by decide +kernel⟩
noncomputable abbrev zhk:Stmt:=top 6
noncomputable abbrev zrx:List Str:=["arm"]
theorem zxs:zrx.Nodup:=by decide +kernel
theorem zxt:FnScope zrx ["arm"] (zan zhk):=⟨rfl,rfl,rfl,zxs,rfl,by decide +kernel,by decide +kernel⟩
noncomputable abbrev zdz:Stmt:=top 7
noncomputable abbrev zmo:List Str:=["web","names","known","name"]
theorem zio:zmo.Nodup:=by decide +kernel
theorem zqp:FnScope zmo ["web","names"] (zan zdz):=⟨rfl,rfl,rfl,zio,rfl,by decide +kernel,by decide +kernel⟩
noncomputable abbrev zdf:Stmt:=top 9
noncomputable abbrev zko:List Str:=["call"]
theorem znz:zko.Nodup:=by decide +kernel
theorem zoa:FnScope zko ["call"] (zan zdf):=⟨rfl,rfl,rfl,znz,rfl,by decide +kernel,by decide +kernel⟩
noncomputable abbrev zfa:Stmt:=top 10
noncomputable abbrev zns:List Str:=["web","places","call"]
theorem ztv:zns.Nodup:=by decide +kernel
theorem ztw:FnScope zns ["web","places","call"] (zan zfa):=⟨rfl,rfl,rfl,ztv,rfl,by decide +kernel,by decide +kernel⟩
noncomputable abbrev zlc:Stmt:=top 12
noncomputable abbrev zzq:List Str:=["web","walk","order","call","names","node","level","place"]
theorem zja:zzq.Nodup:=by decide +kernel
theorem zael:FnScope zzq ["web","walk","order","call"] (zan zlc):=⟨rfl,rfl,rfl,zja,rfl,by decide +kernel,by decide +kernel⟩
noncomputable abbrev zjb:Stmt:=top 14
noncomputable abbrev zqa:List Str:=["_law_script","_law_seed","_law_k","_law_cell"]
theorem zjc:zqa.Nodup:=by decide +kernel
theorem zaaw:FnScope zqa ["_law_script"] (zan zjb):=⟨rfl,rfl,rfl,zjc,rfl,by decide +kernel,by decide +kernel⟩
noncomputable abbrev zhl:Stmt:=top 15
noncomputable abbrev zry:List Str:=["_law_pen_here","_law_many","_law_digit"]
theorem zqb:zry.Nodup:=by decide +kernel
theorem zxu:FnScope zry ["_law_pen_here","_law_many"] (zan zhl):=⟨rfl,rfl,rfl,zqb,rfl,by decide +kernel,by decide +kernel⟩
noncomputable abbrev zhm:Stmt:=top 16
noncomputable abbrev zrz:List Str:=["_law_pen_here","_law_names","_law_signs","_law_word","_law_way","_law_beside","_law_pool"]
theorem zdk:zrz.Nodup:=by decide +kernel
theorem zxv:FnScope zrz ["_law_pen_here","_law_names"] (zan zhm):=⟨rfl,rfl,rfl,zdk,rfl,by decide +kernel,by decide +kernel⟩
noncomputable abbrev zjd:Stmt:=top 17
noncomputable abbrev zvy:List Str:=["_law_pen_here","_law_size","_law_web_here","_law_names","_law_k","_law_elders","_law_turn","_law_elder"]
theorem zga:zvy.Nodup:=by decide +kernel
theorem zaax:FnScope zvy ["_law_pen_here","_law_size"] (zan zjd):=⟨rfl,rfl,rfl,zga,rfl,by decide +kernel,by decide +kernel⟩
noncomputable abbrev zhn:Stmt:=top 18
noncomputable abbrev zsa:List Str:=["_law_pen_here","_law_places","_law_size","_law_web_here","_law_rules","_law_turn","_law_kinds","_law_place","_law_at"]
theorem zcz:zsa.Nodup:=by decide +kernel
theorem zxw:FnScope zsa ["_law_pen_here"] (zan zhn):=⟨rfl,rfl,rfl,zcz,rfl,by decide +kernel,by decide +kernel⟩
noncomputable abbrev zgb:Stmt:=top 19
noncomputable abbrev zqc:List Str:=["_law_book_here","_law_web_here","_law_places","_law_rules","_law_calls_here","_law_place","_law_longer","_law_call"]
theorem zcw:zqc.Nodup:=by decide +kernel
theorem zvz:FnScope zqc ["_law_book_here"] (zan zgb):=⟨rfl,rfl,rfl,zcw,rfl,by decide +kernel,by decide +kernel⟩
noncomputable abbrev zho:Stmt:=top 20
noncomputable abbrev zsb:List Str:=["_law_due_here","_law_thing"]
theorem zxx:zsb.Nodup:=by decide +kernel
theorem zqd:FnScope zsb ["_law_due_here","_law_thing"] (zan zho):=⟨rfl,rfl,rfl,zxx,rfl,by decide +kernel,by decide +kernel⟩
noncomputable abbrev zhp:Stmt:=top 21
noncomputable abbrev zsc:List Str:=["_law_book_here"]
theorem zxy:zsc.Nodup:=by decide +kernel
theorem zxz:FnScope zsc ["_law_book_here"] (zan zhp):=⟨rfl,rfl,rfl,zxy,rfl,by decide +kernel,by decide +kernel⟩
noncomputable abbrev zgc:Stmt:=top 22
noncomputable abbrev zqe:List Str:=["_law_pen_here","_law_places","_law_left","_law_order_here","_law_turn"]
theorem zig:zqe.Nodup:=by decide +kernel
theorem zwa:FnScope zqe ["_law_pen_here","_law_places"] (zan zgc):=⟨rfl,rfl,rfl,zig,rfl,by decide +kernel,by decide +kernel⟩
noncomputable abbrev zfb:Stmt:=top 23
noncomputable abbrev znt:List Str:=["_law_pen_here","_law_rules","_law_names","_law_way","_law_at"]
theorem zhe:znt.Nodup:=by decide +kernel
theorem ztx:FnScope znt ["_law_pen_here","_law_rules"] (zan zfb):=⟨rfl,rfl,rfl,zhe,rfl,by decide +kernel,by decide +kernel⟩
noncomputable abbrev zhq:Stmt:=top 24
noncomputable abbrev zsd:List Str:=["_law_pen_here","_law_book_here","_law_sizes","_law_walk_here","_law_k","_law_nodes","_law_turn"]
theorem zgd:zsd.Nodup:=by decide +kernel
theorem zya:FnScope zsd ["_law_pen_here","_law_book_here"] (zan zhq):=⟨rfl,rfl,rfl,zgd,rfl,by decide +kernel,by decide +kernel⟩
noncomputable abbrev zje:Stmt:=top 25
noncomputable abbrev zwb:List Str:=["_law_names","_law_walk_here","_law_order_here","_law_call","_law_at","_law_k","_law_place"]
theorem zjf:zwb.Nodup:=by decide +kernel
theorem zaay:FnScope zwb ["_law_names","_law_walk_here","_law_order_here","_law_call"] (zan zje):=⟨rfl,rfl,rfl,zjf,rfl,by decide +kernel,by decide +kernel⟩
noncomputable abbrev zea:Stmt:=top 26
noncomputable abbrev zmp:List Str:=["_law_web_here","_law_walk_here","_law_order_here","_law_call","e"]
theorem zlh:zmp.Nodup:=by decide +kernel
theorem zqq:FnScope zmp ["_law_web_here","_law_walk_here","_law_order_here","_law_call"] (zan zea):=⟨rfl,rfl,rfl,zlh,rfl,by decide +kernel,by decide +kernel⟩
noncomputable abbrev zeb:Stmt:=top 27
noncomputable abbrev zmq:List Str:=["_law_pen_here","_law_odd","_law_names","_law_web_here","_law_walk_here","_law_order_here","_law_call","_law_strange","_law_another","_law_at","_law_wrong"]
theorem zcg:zmq.Nodup:=by decide +kernel
theorem zqr:FnScope zmq ["_law_pen_here","_law_odd","_law_names","_law_web_here","_law_walk_here","_law_order_here"] (zan zeb):=⟨rfl,rfl,rfl,zcg,rfl,by decide +kernel,by decide +kernel⟩
noncomputable abbrev zty:Stmt:=top 28
noncomputable abbrev zami:List Str:=["_law_script","_law_pen_here","_law_odd","_law_book_here","_law_names","_law_order_here","_law_walk_here","_law_web_here","_law_handed","_law_by","_law_turn","_law_call"]
theorem zjs:zami.Nodup:=by decide +kernel
theorem zaqe:FnScope zami ["_law_script"] (zan zty):=⟨rfl,rfl,rfl,zjs,rfl,by decide +kernel,by decide +kernel⟩
noncomputable abbrev zjt:Stmt:=top 7
noncomputable abbrev zju:List Str:=["web","names","known","name"]
theorem zge:zju.Nodup:=by decide +kernel
theorem zni:FnScope zju ["web","names"] (zan zjt):=⟨rfl,rfl,rfl,zge,rfl,by decide +kernel,by decide +kernel⟩
noncomputable abbrev zkp:Stmt:=top 10
noncomputable abbrev zkq:List Str:=["web","places","call"]
theorem zob:zkq.Nodup:=by decide +kernel
theorem zoc:FnScope zkq ["web","places","call"] (zan zkp):=⟨rfl,rfl,rfl,zob,rfl,by decide +kernel,by decide +kernel⟩
noncomputable abbrev zqf:Stmt:=top 12
noncomputable abbrev zqg:List Str:=["web","walk","order","call","names","node","level","place"]
theorem zfc:zqg.Nodup:=by decide +kernel
theorem zwc:FnScope zqg ["web","walk","order","call"] (zan zqf):=⟨rfl,rfl,rfl,zfc,rfl,by decide +kernel,by decide +kernel⟩
theorem zli:(["name","elders"]:List Str).Nodup:=by decide +kernel
theorem zhy:(["arm","name"]:List Str).Nodup:=by decide +kernel
theorem zqs:(["_law_k","_law_pen_here","_law_signs"]:List Str).Nodup:=by decide +kernel
theorem zqt:(["_law_sign","_law_names"]:List Str).Nodup:=by decide +kernel
theorem zqu:(["_law_rule"]:List Str).Nodup:=by decide +kernel
theorem zqv:(["_law_rule"]:List Str).Nodup:=by decide +kernel
theorem zkr:(["_law_kind","_law_elders","_law_call"]:List Str).Nodup:=by decide +kernel
theorem zlj:(["_law_one","_law_two"]:List Str).Nodup:=by decide +kernel
theorem zlk:(["_law_one","_law_two"]:List Str).Nodup:=by decide +kernel
theorem zll:(["_law_name_here","_law_elders"]:List Str).Nodup:=by decide +kernel
theorem zjv:(["_law_name_here","_law_kinds"]:List Str).Nodup:=by decide +kernel
theorem zqw:(["_law_place","_law_pen_here"]:List Str).Nodup:=by decide +kernel
theorem zqx:(["_law_kind","_law_pen_here","_law_sizes","_law_k"]:List Str).Nodup:=by decide +kernel
theorem zqy:(["_law_turn","_law_pen_here","_law_book_here"]:List Str).Nodup:=by decide +kernel
theorem znj:(["_law_place","_law_pen_here","_law_names"]:List Str).Nodup:=by decide +kernel
theorem zwd:(["_law_name_here","_law_elders"]:List Str).Nodup:=by decide +kernel
theorem zaem:(["_law_nodes"]:List Str).Nodup:=by decide +kernel
theorem zaen:(["_law_node"]:List Str).Nodup:=by decide +kernel
section
variable(P:Program)(w:World)(K:qC)(mg:Str->Option Value)(base:Heap)
noncomputable abbrev zjg:Prop:=Dn P w K mg base "names_of" ["web"] 1 (spD 1 zfz)
noncomputable abbrev zse:Prop:=Dn P w K mg base "names_in" ["arm"] 1 (spD 1 zhh)
noncomputable abbrev zmr:Prop:=Dn P w K mg base "check_kinds" ["web","names"] 2 (spD 2 zfn)
noncomputable abbrev zhz:Prop:=Dn P w K mg base "names_in_call" ["call"] 2 (spD 1 zde)
noncomputable abbrev znu:Prop:=Dn P w K mg base "check_call" ["web","places","call"] 3 (spD 3 zgo)
noncomputable abbrev zzr:Prop:=Dn P w K mg base "walked" ["web","walk","order","call"] 4 (spD 4 zjo)
noncomputable abbrev zwe:Prop:=Dn P w K mg base "_law_pen" ["_law_script"] 1 (zaar K ziw)
noncomputable abbrev zec:Prop:=Dn P w K mg base "_law_draw" ["_law_pen_here","_law_many"] 1 (spR penK 2 zal)
noncomputable abbrev zld:Prop:=Dn P w K mg base "_law_name" ["_law_pen_here","_law_names"] 2 (spR penK 2 zca)
noncomputable abbrev zwf:Prop:=Dn P w K mg base "_law_web" ["_law_pen_here","_law_size"] 3 (spR penK 2 zdy)
noncomputable abbrev zsf:Prop:=Dn P w K mg base "_law_book" ["_law_pen_here"] 4 (spR penK 1 zla)
noncomputable abbrev zqh:Prop:=Dn P w K mg base "_law_calls" ["_law_book_here"] 1 (spD 1 zev)
noncomputable abbrev zsg:Prop:=Dn P w K mg base "_law_same" ["_law_due_here","_law_thing"] 8 (spD 2 zbo)
noncomputable abbrev zsh:Prop:=Dn P w K mg base "_law_copy" ["_law_book_here"] 1 (spD 1 zix)
noncomputable abbrev zqi:Prop:=Dn P w K mg base "_law_order" ["_law_pen_here","_law_places"] 2 (spR penK 2 zfq)
noncomputable abbrev znv:Prop:=Dn P w K mg base "_law_answer" ["_law_pen_here","_law_rules"] 2 (spR penK 2 zcq)
noncomputable abbrev zsi:Prop:=Dn P w K mg base "_law_walk" ["_law_pen_here","_law_book_here"] 3 (spR penK 2 zlb)
noncomputable abbrev zwg:Prop:=Dn P w K mg base "_law_due" ["_law_names","_law_walk_here","_law_order_here","_law_call"] 1 (spD 4 zdj)
noncomputable abbrev zjw(cl:Str->Addr):Prop:=DnX P w K mg base "check_kinds" ["web","names"] 3 (spX cl 2 zeq)
noncomputable abbrev zks(cl:Str->Addr):Prop:=DnX P w K mg base "check_call" ["web","places","call"] 4 (spX cl 3 zfp)
noncomputable abbrev zqj(cl:Str->Addr):Prop:=DnX P w K mg base "walked" ["web","walk","order","call"] 5 (spX cl 4 zez)
noncomputable abbrev zms:Prop:=Dn P w K mg base "_law_refused" ["_law_web_here","_law_walk_here","_law_order_here","_law_call"] 6 (spD 4 zbk)
noncomputable abbrev zmt:Prop:=Dn P w K mg base "_law_refuses" ["_law_pen_here","_law_odd","_law_names","_law_web_here","_law_walk_here","_law_order_here"] 7 (spR penK 6 zcb)
end
section
variable{P:Program}{w:World}{K:qC}{mg:Str->Option Value}{base:Heap}
theorem zyb {f:Addr} {fd:qAF} (F:Fun K "names_of" "names_of" zhj f fd) (T:Txt mg)  : FnOk P w K mg base CX0 1 f fd ["web"] (spD 1 zfz):=by
 refine F.ok zxr (λvs H Q E h=>zgs h) (λcdv A outer s H vs Q E hr h=>?_)
 have hu:=zgx hr
 apply Exists.intro
 apply And.intro
 ·refine' Bx.out (zao (zbl (zcl (zby (N':=["name","elders"]) (own:=["name","elders"]) (fr:=[]) (by kernel_rfl)) rfl (zcv (K:=K) rfl (bv 0)) ?hb1 (by intro _;rfl))))
  case hb1=>(intro cl C s H fp;refine'⟨Bx.out (zes (K:=K) (n:=2) rfl rfl (zbf (bpgN (i:=0) zli rfl (Or.inl rfl)) (zbf (bpgN (i:=1) zli rfl (Or.inl rfl)) zer (by rfl)) (by rfl)) (by rfl) (by rfl)),Bx.out zdn,Bx.out (bv 0)⟩)
 exact fn_d (f:=ziv) ((zht (zgt (zgk (zac 0)) (zkb (zbt (zbt zhv))) (zpf (zdp (by decide) (zdp (by decide) zlq))) zfu (zac 0)))) h
theorem zyc {f:Addr} {fd:qAF} (F:Fun K "names_in" "names_in" zhk f fd) (T:Txt mg)  : FnOk P w K mg base CX0 1 f fd ["arm"] (spD 1 zhh):=by
 refine F.ok zxt (λvs H Q E h=>zgs h) (λcdv A outer s H vs Q E hr h=>?_)
 have hu:=zgx hr
 apply Exists.intro
 apply And.intro
 ·refine' Bx.out (zaf (zef (zey (K:=K) rfl (bpeB (zff (K:=K) rfl) T.isinstance zbi (bpaC (bv 0) (bpaC (zhc (v:=.ty "tuple") (by rfl) T.tuple zhi rfl (by decide) (by decide)) zaa))) (λ_=>rfl)) (zao (zbl (bpeT (zfw (K:=K) rfl) T.list zfr (bpaC (bv 0) zaa)))) zbw)
 (zao (zbl (zce (bpaC (bv 0) zaa)))))
 exact fn_d (f:=zrq) ((zex (zva (zoz (zma (zac 0) zpb)) (zht (zha zlo (zae (zac 0) zar))) zlf) (zht (zee (zae (zac 0) zar))))) h
theorem zqz{f:Addr}{fd:qAF}(F:Fun K "check_kinds" "check_kinds" zdz f fd)(T:Txt mg)(D_names_of:zjg P w K mg base):FnOk P w K mg base CX0 2 f fd ["web","names"] (spD 2 zfn):=by
 refine F.ok zqp (λvs H Q E h=>zgs h) (λcdv A outer s H vs Q E hr h=>?_)
 have hu:=zgx hr
 apply Exists.intro
 apply And.intro
 ·refine' Bx.out (zaf (bpsS (i:=2) zio rfl (Or.inl rfl) (bpeD D_names_of hr (bpaC (bv 0) zaa)))
 (zao (zdt qAI rfl (zcv (K:=K) rfl (bv 1)) (bpgN (i:=3) zio rfl (Or.inl rfl))
  (zao (zef (zbu (zly (K:=K) rfl) (bv 3) (bv 2) (by rfl)) (zao zvf) zbw)) (by intro _;rfl))))
 exact fn_d (f:=zfm) ((zex (ziq (zcx (zae (zac 0) zar))) (zrk (zgk (zac 1)) zhu (zva (st_t (zbm zacp (zac 3) (zac 2))) zyx zlf)))) h
theorem zod{f:Addr}{fd:qAF}(F:Fun K "names_in_call" "names_in_call" zdf f fd)(T:Txt mg)(D_names_in:zse P w K mg base):FnOk P w K mg base CX0 2 f fd ["call"] (spD 1 zde):=by
 refine F.ok zoa (λvs H Q E h=>zgs h) (λcdv A outer s H vs Q E hr h=>?_)
 have hu:=zgx hr
 apply Exists.intro
 apply And.intro
 ·refine' Bx.out (zao (zbl (zadh (zby (N':=["arm","name"]) (own:=["arm","name"]) (fr:=[]) (by kernel_rfl)) rfl (zcv (K:=K) rfl (bv 0)) ?hb1 (by intro _;rfl) (by intro _ _;rfl))))
  case hb1=>(intro cl C s H fp;refine'⟨Bx.out (bpgN (i:=0) zhy rfl (Or.inl rfl)),Bx.out zdn,Bx.out (zcv (K:=K) rfl (bpeD D_names_in hr (bpaC (bv 0) zaa))),Bx.out (bpgN (i:=1) zhy rfl (Or.inl rfl)),Bx.out zdn,Bx.out (bv 1)⟩)
 exact fn_d (f:=zkk) ((zht (zagx (k:=1) (zgk (zac 0)) zhu (zacy (by decide) (by decide)) (by decide) zfu (zgk (zcx (zae (zac 0) zar))) zhu (zacy (by decide) (by decide)) zfu (zac 1)))) h
theorem ztz{f:Addr}{fd:qAF}(F:Fun K "check_call" "check_call" zfa f fd)(T:Txt mg)(D_check_kinds:zmr P w K mg base)(D_names_in_call:zhz P w K mg base):FnOk P w K mg base CX0 3 f fd ["web","places","call"] (spD 3 zgo):=by
 refine F.ok ztw (λvs H Q E h=>zgs h) (λcdv A outer s H vs Q E hr h=>?_)
 have hu:=zgx hr
 apply Exists.intro
 apply And.intro
 ·refine' Bx.out (zaf (zef (zbu (zrl (K:=K) rfl hr.units) (bpeB (zcr (K:=K) rfl) T.len zds (bpaC (bv 2) zaa)) (bv 1) (zek _)) (zao zvf) zbw)
 (zao (zdq (bpeD D_check_kinds hr (bpaC (bv 0) (bpaC (bpeD D_names_in_call hr (bpaC (bv 2) zaa)) zaa))) (by rfl))))
 exact fn_d (f:=znq) ((zex (zva (st_t (zbm zaal (zha zid (zae (zac 2) zar)) (zac 1))) zyx zlf) (zact (zcx (zae (zac 0) (zae (zcx (zae (zac 2) zar)) zar)))))) h
theorem zaeo{f:Addr}{fd:qAF}(F:Fun K "walked" "walked" zlc f fd)(T:Txt mg)(D_check_call:znu P w K mg base)(D_names_of:zjg P w K mg base):FnOk P w K mg base CX0 4 f fd ["web","walk","order","call"] (spD 4 zjo):=by
 refine F.ok zael (λvs H Q E h=>zgs h) (λcdv A outer s H vs Q E hr h=>?_)
 have hu:=zgx hr
 apply Exists.intro
 apply And.intro
 ·refine' Bx.out (zaf (zdq (bpeD D_check_call hr (bpaC (bv 0) (bpaC (bpeB (zcr (K:=K) rfl) T.len zds (bpaC (bv 2) zaa)) (bpaC (bv 3) zaa)))) (by rfl))
 (zaf (bpsS (i:=4) zja rfl (Or.inl rfl) (bpeD D_names_of hr (bpaC (bv 0) zaa)))
 (zaf (bpsS (i:=5) zja rfl (Or.inl rfl) zaj)
 (zaf (zdt qAI rfl (ztk (K:=K) rfl rfl T.zip (bpaC (bv 1) (bpaC (bv 2) zaa)) (by rfl) (by rfl)) (zes (K:=K) (n:=2) rfl rfl (zbf (bpgN (i:=6) zja rfl (Or.inl rfl)) (zbf (bpgN (i:=7) zja rfl (Or.inl rfl)) zer (by rfl)) (by rfl)) (by rfl) (by rfl))
  (zao (bpsS (i:=5) zja rfl (Or.inl rfl) (bpeX (zbr (K:=K) rfl) (bpeX (zbr (K:=K) rfl) (bv 6) (bv 5)) (zej (K:=K) rfl qm qBc qBb zts (bv 4) (bpaC (bpeX (zbr (K:=K) rfl) (bv 3) (bv 7)) zaa) (by rfl) (by rfl) (by rfl) (zam (by rfl)) (by rfl))))) (by intro _;rfl))
 (zao (zbl (bpeX (zbr (K:=K) rfl) (bpeX (zbr (K:=K) rfl) (bv 1) (zpk zoo zaj)) (bv 5))))))))
 exact fn_d (f:=zzn) ((zex (zact (zcx (zae (zac 0) (zae (zha zid (zae (zac 2) zar)) (zae (zac 3) zar))))) (zex (ziq (zcx (zae (zac 0) zar))) (zex (ziq (se_c λ_=>zad)) (zex (zrk (zzb (zae (zac 1) (zae (zac 2) zar))) (zkb (zbt (zbt zhv))) (ziq (zbm zib (zcu (zac 5)) (ztt (zac 4) (zcu (zac 7)))))) (zht (zbm zib (zcu (zpg (se_c λ_=>zad))) (zac 5)))))))) h
theorem zaaz{f:Addr}{fd:qAF}(F:Fun K "_law_pen" "_law_pen" zjb f fd)(T:Txt mg):FnOk P w K mg base CX0 1 f fd ["_law_script"] (zaar K ziw):=by
 refine F.ok zaaw (λvs H Q E h=>zadr h) (λcdv A outer s H vs Q E hr h=>?_)
 have hu:=zgx hr
 apply Exists.intro
 apply And.intro
 ·refine' Bx.out (zaf (bpsS (i:=1) zjc rfl (Or.inl rfl) zaj)
 (zaf (zdt qAI rfl (zvh (K:=K) rfl rfl T.enumerate (bpaC (zgm (zagn (K:=K) rfl) (bv 0) zif (zie zaj)) zaa) (by rfl)) (zes (K:=K) (n:=2) rfl rfl (zbf (bpgN (i:=2) zjc rfl (Or.inl rfl)) (zbf (bpgN (i:=3) zjc rfl (Or.inl rfl)) zer (by rfl)) (by rfl)) (by rfl) (by rfl))
  (zao (bpsS (i:=1) zjc rfl (Or.inl rfl) (zbh zon (zbh (zbp (K:=K) rfl) (zbh (zbp (K:=K) rfl) (zbh zot (bv 1) zaj) (zbh zot (zbh zon (bv 3) zaj) (zbh (zbp (K:=K) rfl) (zbh zot (bv 2) (bv 2)) zaj))) zaj) zaj))) (by intro _;rfl))
 (zao (zbl (zce (bpaC (bpeT (zfw (K:=K) rfl) T.list zfr (bpaC (zgm (zagn (K:=K) rfl) (bv 0) zif (zie zaj)) zaa)) (bpaC zaj (bpaC (bv 1) (bpaC zaj zaa)))))))))
 exact zapo (N:=zqa) (n:=3) (F:=zmk) (g:=eVar 1) rfl ((zas (zpl (zadi (se_c λ_=>zad) (by decide))) (zil (zahl (zat zadp zbb)) (zalm (zvj (by decide) (zvj (by decide) zahg))) (zahp (zvn (by decide) (zvn (by decide) zahq))) (zpl (zadi (zbm zow (zbm zdm (zbm zdm (zbm zuw (zac 1) (se_c λ_=>zad)) (zbm zuw (zbm zow (zac 3) (se_c λ_=>zad)) (zbm zdm (zbm zuw (zac 2) (zac 2)) (se_c λ_=>zad)))) (se_c λ_=>zad)) (se_c λ_=>zad)) (by decide)))))) (zac 1) zlo h
theorem zyd {f:Addr} {fd:qAF} (F:Fun K "_law_draw" "_law_draw" zhl f fd) (T:Txt mg)  : FnOk P w K mg base CX0 1 f fd ["_law_pen_here","_law_many"] (spR penK 2 zal):=by
 refine F.ok zxu (λvs H Q E h=>zkf h) (λcdv A outer s H vs Q E hr h=>?_)
 have hu:=zgx hr
 apply Exists.intro
 apply And.intro
 ·refine' Bx.out (zaf (zadg qAI (zxe (zbu zakd (bpeX (zbr (K:=K) rfl) (bv 0) zaj) (zbh zpp zaj zaj) (zek _)) (ztj (zbu (zrl (K:=K) rfl hr.units) (bpeX (zbr (K:=K) rfl) (bv 0) zaj) (zce zaa) (zek _)))).pt (zao (zoh (bv 0) zaj (zbh zon (zej (K:=K) rfl qm qCW qCV zys (bpeX (zbr (K:=K) rfl) (bv 0) zaj) (bpaC zaj zaa) (by rfl) (by rfl) (by rfl) (zam (by rfl)) (by rfl)) (zbh zpp (zbh zpp zaj zaj) zaj)) (by intro _;rfl) (by rfl) (by rfl) (by rfl))))
 (zaf (zef (zbu zarg (bpeX (zbr (K:=K) rfl) (bv 0) zaj) (zbh zpp zaj zaj) (zek _)) (zaf (bpsS (i:=2) zqb rfl (Or.inl rfl) (zbh zon (bpeX (zbr (K:=K) rfl) (bv 0) zaj) (bv 1)))
 (zaf (zoh (bv 0) zaj (zbh zwo (bpeX (zbr (K:=K) rfl) (bv 0) zaj) (bv 1)) (by intro _;rfl) (by rfl) (by rfl) (by rfl))
 (zao (zbl (bv 2))))) zbw)
 (zaf (zoh (bv 0) zaj (zbh (zbp (K:=K) rfl) (bpeX (zbr (K:=K) rfl) (bv 0) zaj) zaj) (by intro _;rfl) (by rfl) (by rfl) (by rfl))
 (zaf (zoh (bv 0) zaj (zbh zon (zbh (zbp (K:=K) rfl) (zbh (zbp (K:=K) rfl) (zbh zot (bpeX (zbr (K:=K) rfl) (bv 0) zaj) zaj) (zbh zot (bpeX (zbr (K:=K) rfl) (bv 0) zaj) (bpeX (zbr (K:=K) rfl) (bv 0) zaj))) zaj) zaj) (by intro _;rfl) (by rfl) (by rfl) (by rfl))
 (zao (zbl (zbh zon (zbh zwo (zbh zon (zbh zpp (bpeX (zbr (K:=K) rfl) (bv 0) zaj) zaj) zaj) zaj) (bv 1))))))))
 exact fn_r (by decide) (F:=zrr) ((zas (zado 1000 (zalh (zali (zcf zakt (zjn (i:=1)) (zag (zbm zpq (se_c λ_=>zad) (se_c λ_=>zad))))) zadn) (ztn (i:=1) (zcf zow zahi (zag (zbm zpq (zbm zpq (se_c λ_=>zad) (se_c λ_=>zad)) (se_c λ_=>zad)))))) (zas (zjq (zali (zcf zarn (zjn (i:=1)) (zag (zbm zpq (se_c λ_=>zad) (se_c λ_=>zad))))) (zas (zbc (zcf zow (zjn (i:=1)) (zag (zac 1))) (by decide)) (zas (ztn (i:=1) (zcf zwy (zjn (i:=1)) (zag (zac 1)))) (zpl zme))) zgu) (zas (ztn (i:=3) (zcf zdm (zjn (i:=3)) (zag (se_c λ_=>zad)))) (zas (ztn (i:=2) (zcf zow (zcf zdm (zcf zdm (zcf zuw (zjn (i:=2)) (zag (se_c λ_=>zad))) (zcf zuw (zjn (i:=3)) (zjn (i:=3)))) (zag (se_c λ_=>zad))) (zag (se_c λ_=>zad)))) (zik (zcf zow (zcf zwy (zcf zow (zcf zpq (zjn (i:=2)) (zag (se_c λ_=>zad))) (zag (se_c λ_=>zad))) (zag (se_c λ_=>zad))) (zag (zac 1))))))))) h
theorem zye{f:Addr}{fd:qAF}(F:Fun K "_law_name" "_law_name" zhm f fd)(T:Txt mg)(D_law_draw:zec P w K mg base):FnOk P w K mg base CX0 2 f fd ["_law_pen_here","_law_names"] (spR penK 2 zca):=by
 refine F.ok zxv (λvs H Q E h=>zkf h) (λcdv A outer s H vs Q E hr h=>?_)
 have hu:=zgx hr
 apply Exists.intro
 apply And.intro
 ·refine' Bx.out (zaf (bpsS (i:=2) zdk rfl (Or.inr rfl) zij)
 (zaf (bpsS (i:=3) zdk rfl (Or.inl rfl) (zej (K:=K) rfl PySem.F.plainAttrs_str PySem.F.slot_str_join PySem.F.type_str_join zalp zij (bpaC (zcl (zby (N':=["_law_k","_law_pen_here","_law_signs"]) (own:=["_law_k"]) (fr:=[0,2]) (by kernel_rfl)) rfl (zcp rfl T.range (bpaC (zbh (zbp (K:=K) rfl) zaj (bpeD D_law_draw hr (bpaC (bv 0) (bpaC zaj zaa)))) zaa) (by rfl)) ?hb1 (by intro _;rfl)) zaa) (by rfl) (by rfl) (by rfl) (zam (by rfl)) (by rfl)))
 (zaf (bpsS (i:=4) zdk rfl (Or.inl rfl) (bpeD D_law_draw hr (bpaC (bv 0) (bpaC zaj zaa))))
 (zaf (zef (zxe (zbu (zrl (K:=K) rfl hr.units) (bv 1) (zce zaa) (zek _)) (ztj (zbu zakd (bv 4) zaj (zek _)))).pt (zaf (bpsS (i:=5) zdk rfl (Or.inl rfl) (bpeX (zbr (K:=K) rfl) (bv 1) (bpeD D_law_draw hr (bpaC (bv 0) (bpaC (bpeB (zcr (K:=K) rfl) T.len zds (bpaC (bv 1) zaa)) zaa)))))
 (zao (bpsS (i:=3) zdk rfl (Or.inl rfl) (zgm (zagn (K:=K) rfl) (bpeX (zbr (K:=K) rfl) (zce (bpaC (zbh (zbp (K:=K) rfl) (bv 5) (bv 3)) (bpaC (zbh (zbp (K:=K) rfl) (bv 3) (bv 5)) zaa))) (bv 4)) zif (zie zaj))))) zbw)
 (zaf (bpsS (i:=6) zdk rfl (Or.inl rfl) (zbh (zbp (K:=K) rfl) (zbh zaon (zce (bpaC (bv 3) zaa)) zaj) (zce (bpaC zij (bpaC zij (bpaC zij (bpaC zij (bpaC zij zaa))))))))
 (zaf (bpsS (i:=3) zdk rfl (Or.inl rfl) (bpeX (zbr (K:=K) rfl) (bv 6) (bpeD D_law_draw hr (bpaC (bv 0) (bpaC zaj zaa)))))
 (zaf (zef (zbu (zaov (K:=K) rfl) (bv 3) (bv 1) (by rfl)) (zao (bpsS (i:=3) zdk rfl (Or.inl rfl) (bpeX (zbr (K:=K) rfl) (zcl (zby (N':=["_law_sign","_law_names"]) (own:=["_law_sign"]) (fr:=[1]) (by kernel_rfl)) rfl (zalb (bv 2)) ?hb2 (by intro _;rfl)) zaj))) zbw)
 (zao (zbl (bv 3))))))))))
  case hb1=>(intro cl C s H fp;refine'⟨Bx.out (bpgN (i:=0) zqs rfl (Or.inl rfl)),Bx.out zdn,Bx.out (bpeX (zbr (K:=K) rfl) (bv 2) (bpeD D_law_draw hr (bpaC (bv 1) (bpaC zaj zaa))))⟩)
  case hb2=>(intro cl C s H fp;refine'⟨Bx.out (bpgN (i:=0) zqt rfl (Or.inl rfl)),Bx.out (zalc (zbu (zly (K:=K) rfl) (bv 0) (bv 1) (by rfl))),Bx.out (bv 0)⟩)
 exact fn_r (by decide) (F:=zrs) ((zas (zbc (zag (se_c λ_=>zch)) (by decide)) (zas (zbc (zaho (zmc (kk:=0) (by rfl) (znd (zat (zcf zdm (zag (se_c λ_=>zad)) (zay (zat (zag (se_c λ_=>zad)) zbb))) zbb)) (zdr (by decide)) (zii (by decide)) zfu (zcf zib (zag (zac 2)) (zay (zat (zag (se_c λ_=>zad)) zbb))))) (by decide)) (zas (zbc (zay (zat (zag (se_c λ_=>zad)) zbb)) (by decide)) (zas (zjq (zhd (zajf (st_t (zbm zaal (zac 1) (zee zar))) (st_t (zbm zakt (zac 4) (se_c λ_=>zad))))) (zas (zbc (zcf zib (zag (zac 1)) (zay (zat (zag (zha zid (zae (zac 1) zar))) zbb))) (by decide)) (zbc (zag (zapa (zbm zib (zee (zae (zbm zdm (zac 5) (zac 3)) (zae (zbm zdm (zac 3) (zac 5)) zar))) (zac 4)) zna (znb (se_c λ_=>zad)))) (by decide))) zgu) (zas (zbc (zag (zbm zdm (zbm zapk (zee (zae (zac 3) zar)) (se_c λ_=>zad)) (zee (zae (se_c λ_=>zch) (zae (se_c λ_=>zch) (zae (se_c λ_=>zch) (zae (se_c λ_=>zch) (zae (se_c λ_=>zch) zar)))))))) (by decide)) (zas (zbc (zcf zib (zag (zac 6)) (zay (zat (zag (se_c λ_=>zad)) zbb))) (by decide)) (zas (zjq (zhd (st_t (zbm zacp (zac 3) (zac 1)))) (zbc (zag (zbm zib (zgt (zapj (zac 2)) zhu (zii (by decide)) (st_t (zbm zacp (zac 0) (zac 1))) (zac 0)) (se_c λ_=>zad))) (by decide)) zgu) (zpl zme))))))))) h
theorem zaba{f:Addr}{fd:qAF}(F:Fun K "_law_web" "_law_web" zjd f fd)(T:Txt mg)(D_law_draw:zec P w K mg base)(D_law_name:zld P w K mg base):FnOk P w K mg base CX0 3 f fd ["_law_pen_here","_law_size"] (spR penK 2 zdy):=by
 refine F.ok zaax (λvs H Q E h=>zkf h) (λcdv A outer s H vs Q E hr h=>?_)
 have hu:=zgx hr
 apply Exists.intro
 apply And.intro
 ·refine' Bx.out (zaf (bpsS (i:=2) zga rfl (Or.inl rfl) (zce zaa))
 (zaf (bpsS (i:=3) zga rfl (Or.inl rfl) (zce zaa))
 (zaf (zdt qAI rfl (zcp rfl T.range (bpaC (bv 1) zaa) (by rfl)) (bpgN (i:=4) zga rfl (Or.inl rfl))
  (zaf (bpsS (i:=5) zga rfl (Or.inl rfl) (zce zaa))
 (zaf (zdt qAI rfl (zcp rfl T.range (bpaC (bpeB (zabp rfl) T.min zaii (bpaC (bv 4) (bpaC (bpeD D_law_draw hr (bpaC (bv 0) (bpaC zaj zaa))) zaa))) zaa) (by rfl)) (bpgN (i:=6) zga rfl (Or.inl rfl))
  (zaf (bpsS (i:=7) zga rfl (Or.inl rfl) (bpeX (zbr (K:=K) rfl) (bv 3) (bpeD D_law_draw hr (bpaC (bv 0) (bpaC (bv 4) zaa)))))
 (zao (zef (zbu (zly (K:=K) rfl) (bv 7) (bv 5) (by rfl)) (zao (zdq (zej (K:=K) rfl qm qAP qAO zel (bv 5) (bpaC (bv 7) zaa) (by rfl) (by rfl) (by rfl) (zam (by rfl)) (by rfl)) (by rfl))) zbw))) (by intro _;rfl))
 (zaf (zdq (zej (K:=K) rfl qm qAP qAO zel (bv 3) (bpaC (bpeD D_law_name hr (bpaC (bv 0) (bpaC (bv 3) zaa))) zaa) (by rfl) (by rfl) (by rfl) (zam (by rfl)) (by rfl)) (by rfl))
 (zao (zdq (zej (K:=K) rfl qm qAP qAO zel (bv 2) (bpaC (zdi (bpaC (bpeX (zbr (K:=K) rfl) (bv 3) (bv 4)) (bpaC (bv 5) zaa))) zaa) (by rfl) (by rfl) (by rfl) (zam (by rfl)) (by rfl)) (by rfl)))))) (by intro _;rfl))
 (zao (zbl (bv 2))))))
 exact fn_r (by decide) (F:=zml) ((zas (zbc (zag (zee zar)) (by decide)) (zas (zbc (zag (zee zar)) (by decide)) (zas (zil (zfj (zfh (zae (zac 1) zar))) (zdr (by decide)) (zfk (by decide)) (zas (zbc (zag (zee zar)) (by decide)) (zas (zil (znd (zat (zadj zaoz (zat (zag (zac 4)) (zat (zay (zat (zag (se_c λ_=>zad)) zbb)) zbb))) zbb)) (zdr (by decide)) (zfk (by decide)) (zas (zbc (zcf zib (zag (zac 3)) (zay (zat (zag (zac 4)) zbb))) (by decide)) (zjq (zhd (st_t (zbm zacp (zac 7) (zac 5)))) (zke (zag (zac 7))) zgu))) (zas (zke (zay (zat (zag (zac 3)) zbb))) (zke (zag (zhs (zae (zcu (zac 4)) (zae (zac 5) zar))))))))) (zpl zme))))) h
theorem zyf{f:Addr}{fd:qAF}(F:Fun K "_law_book" "_law_book" zhn f fd)(T:Txt mg)(D_law_draw:zec P w K mg base)(D_law_name:zld P w K mg base)(D_law_web:zwf P w K mg base):FnOk P w K mg base CX0 4 f fd ["_law_pen_here"] (spR penK 1 zla):=by
 refine F.ok zxw (λvs H Q E h=>zkf h) (λcdv A outer s H vs Q E hr h=>?_)
 have hu:=zgx hr
 apply Exists.intro
 apply And.intro
 ·refine' Bx.out (zaf (bpsS (i:=1) zcz rfl (Or.inl rfl) (zbh (zbp (K:=K) rfl) zaj (bpeD D_law_draw hr (bpaC (bv 0) (bpaC zaj zaa)))))
 (zaf (bpsS (i:=2) zcz rfl (Or.inl rfl) (zbh (zbp (K:=K) rfl) zaj (bpeD D_law_draw hr (bpaC (bv 0) (bpaC (bpeX (zbr (K:=K) rfl) (zce (bpaC zaj (bpaC zaj (bpaC zaj zaa)))) (zbh zajd (bv 1) zaj)) zaa)))))
 (zaf (zef (zbu (zkc (K:=K) rfl hr.units) (bpeD D_law_draw hr (bpaC (bv 0) (bpaC zaj zaa))) zaj (zek _)) (zao (bpsS (i:=2) zcz rfl (Or.inl rfl) (bpeX (zbr (K:=K) rfl) (zce (bpaC zaj (bpaC zaj (bpaC zaj zaa)))) (zbh zajd (bv 1) zaj)))) zbw)
 (zaf (bpsS (i:=3) zcz rfl (Or.inl rfl) (bpeD D_law_web hr (bpaC (bv 0) (bpaC (bv 2) zaa))))
 (zaf (bpsS (i:=4) zcz rfl (Or.inl rfl) (zce zaa))
 (zaf (zdt qAI rfl (zcp rfl T.range (bpaC (bpeD D_law_draw hr (bpaC (bv 0) (bpaC zaj zaa))) zaa) (by rfl)) (bpgN (i:=5) zcz rfl (Or.inl rfl))
  (zaf (bpsS (i:=6) zcz rfl (Or.inl rfl) (zce zaa))
 (zaf (zdt qAI rfl (zcp rfl T.range (bpaC (bv 1) zaa) (by rfl)) (bpgN (i:=7) zcz rfl (Or.inl rfl))
  (zaf (bpsS (i:=8) zcz rfl (Or.inl rfl) (bpeD D_law_draw hr (bpaC (bv 0) (bpaC (bv 2) zaa))))
 (zao (zdq (zej (K:=K) rfl qm qAP qAO zel (bv 6) (bpaC (bpeX (zbr (K:=K) rfl) (bpeX (zbr (K:=K) rfl) (bv 3) (zbh zwo (bv 8) (zbh (zbp (K:=K) rfl) zaj (bpeD D_law_draw hr (bpaC (bv 0) (bpaC zaj zaa)))))) zaj) zaa) (by rfl) (by rfl) (by rfl) (zam (by rfl)) (by rfl)) (by rfl)))) (by intro _;rfl))
 (zao (zef (zbu (zadd (K:=K) rfl hr.units) (bpeT (zlr (K:=K) rfl) T.tuple zhi (bpaC (bv 6) zaa)) (zcl (zby (N':=["_law_rule"]) (own:=["_law_rule"]) (fr:=[]) (by kernel_rfl)) rfl (zcv (K:=K) rfl (bv 4)) ?hb1 (by intro _;rfl)) (by rfl)) (zao (zdq (zej (K:=K) rfl qm qAP qAO zel (bv 4) (bpaC (zdi (bpaC (bpeD D_law_name hr (bpaC (bv 0) (bpaC (zcl (zby (N':=["_law_rule"]) (own:=["_law_rule"]) (fr:=[]) (by kernel_rfl)) rfl (zcv (K:=K) rfl (bv 4)) ?hb2 (by intro _;rfl)) zaa))) (bpaC (bpeT (zlr (K:=K) rfl) T.tuple zhi (bpaC (bv 6) zaa)) zaa))) zaa) (by rfl) (by rfl) (by rfl) (zam (by rfl)) (by rfl)) (by rfl))) zbw)))) (by intro _;rfl))
 (zao (zbl (zdi (bpaC (bv 3) (bpaC (bv 1) (bpaC (bv 4) zaa))))))))))))
  case hb1=>(intro cl C s H fp;refine'⟨Bx.out (bpgN (i:=0) zqu rfl (Or.inl rfl)),Bx.out zdn,Bx.out (bpeX (zbr (K:=K) rfl) (bv 0) zaj)⟩)
  case hb2=>(intro cl C s H fp;refine'⟨Bx.out (bpgN (i:=0) zqv rfl (Or.inl rfl)),Bx.out zdn,Bx.out (bpeX (zbr (K:=K) rfl) (bv 0) zaj)⟩)
 exact fn_r (by decide) (F:=zrt) ((zas (zbc (zcf zdm (zag (se_c λ_=>zad)) (zay (zat (zag (se_c λ_=>zad)) zbb))) (by decide)) (zas (zbc (zcf zdm (zag (se_c λ_=>zad)) (zay (zat (zag (zbm zib (zee (zae (se_c λ_=>zad) (zae (se_c λ_=>zad) (zae (se_c λ_=>zad) zar)))) (zbm zaje (zac 1) (se_c λ_=>zad)))) zbb))) (by decide)) (zas (zjq (zali (zcf zoy (zay (zat (zag (se_c λ_=>zad)) zbb)) (zag (se_c λ_=>zad)))) (zbc (zag (zbm zib (zee (zae (se_c λ_=>zad) (zae (se_c λ_=>zad) (zae (se_c λ_=>zad) zar)))) (zbm zaje (zac 1) (se_c λ_=>zad)))) (by decide)) zgu) (zas (zbc (zay (zat (zag (zac 2)) zbb)) (by decide)) (zas (zbc (zag (zee zar)) (by decide)) (zas (zil (znd (zat (zay (zat (zag (se_c λ_=>zad)) zbb)) zbb)) (zdr (by decide)) (zfk (by decide)) (zas (zbc (zag (zee zar)) (by decide)) (zas (zil (zfj (zfh (zae (zac 1) zar))) (zdr (by decide)) (zfk (by decide)) (zas (zbc (zay (zat (zag (zac 2)) zbb)) (by decide)) (zke (zcf zib (zcf zib (zag (zac 3)) (zcf zwy (zag (zac 8)) (zcf zdm (zag (se_c λ_=>zad)) (zay (zat (zag (se_c λ_=>zad)) zbb))))) (zag (se_c λ_=>zad)))))) (zjq (zhd (st_t (zbm zapg (zha ztb (zae (zac 6) zar)) (zgt (zgk (zac 4)) zhu (zii (by decide)) zfu (zcu (se_c λ_=>zad)))))) (zke (zxf (zat (zay (zat (zag (zgt (zgk (zac 4)) zhu (zii (by decide)) zfu (zcu (se_c λ_=>zad)))) zbb)) (zat (zag (zha ztb (zae (zac 6) zar))) zbb)))) zgu)))) (zik (zag (zhs (zae (zac 3) (zae (zac 1) (zae (zac 4) zar))))))))))))) h
theorem zwh {f:Addr} {fd:qAF} (F:Fun K "_law_calls" "_law_calls" zgb f fd) (T:Txt mg)  : FnOk P w K mg base CX0 1 f fd ["_law_book_here"] (spD 1 zev):=by
 refine F.ok zvz (λvs H Q E h=>zgs h) (λcdv A outer s H vs Q E hr h=>?_)
 have hu:=zgx hr
 apply Exists.intro
 apply And.intro
 ·refine' Bx.out (zaf (zale (bv 0) (zes (K:=K) (n:=3) rfl rfl (zbf (bpgN (i:=1) zcw rfl (Or.inl rfl)) (zbf (bpgN (i:=2) zcw rfl (Or.inl rfl)) (zbf (bpgN (i:=3) zcw rfl (Or.inl rfl)) zer (by rfl)) (by rfl)) (by rfl)) (by rfl) (by rfl)) (by rfl) (by rfl) (by rfl))
 (zaf (bpsS (i:=4) zcw rfl (Or.inl rfl) (zce (bpaC (zdi zaa) zaa)))
 (zaf (zdt qAI rfl (zcp rfl T.range (bpaC (bv 2) zaa) (by rfl)) (bpgN (i:=5) zcw rfl (Or.inl rfl))
  (zaf (bpsS (i:=6) zcw rfl (Or.inl rfl) (zce zaa))
 (zaf (zdt qAI rfl (zcv (K:=K) rfl (bv 4)) (bpgN (i:=7) zcw rfl (Or.inr rfl))
  (zao (zdq (zej (K:=K) rfl qm PySem.F.slot_list_extend PySem.F.type_list_extend zacb (bv 6) (bpaC (zcl (zby (N':=["_law_kind","_law_elders","_law_call"]) (own:=["_law_kind","_law_elders"]) (fr:=[7]) (by kernel_rfl)) rfl (zcv (K:=K) rfl (bv 1)) ?hb1 (by intro _;rfl)) zaa) (by rfl) (by rfl) (by rfl) (zam (by rfl)) (by rfl)) (by rfl))) (by intro _;rfl))
 (zao (bpsS (i:=4) zcw rfl (Or.inl rfl) (bv 6))))) (by intro _;rfl))
 (zao (zbl (bv 4))))))
  case hb1=>(intro cl C s H fp;refine'⟨Bx.out (zes (K:=K) (n:=2) rfl rfl (zbf (bpgN (i:=0) zkr rfl (Or.inl rfl)) (zbf (bpgN (i:=1) zkr rfl (Or.inl rfl)) zer (by rfl)) (by rfl)) (by rfl) (by rfl)),Bx.out zdn,Bx.out (zbh (zxg (K:=K) rfl) (bv 2) (zdi (bpaC (bv 0) zaa)))⟩)
 exact fn_d (f:=zpz) ((zex (zapb (zac 0) (zkb (zbt (zbt (zbt zhv))))) (zex (ziq (zee (zae (zhs zar) zar))) (zex (zrk (zfh (zae (zac 2) zar)) zhu (zex (ziq (zee zar)) (zex (zrk (zgk (zac 4)) zhu (zapr (zgt (zgk (zac 1)) (zkb (zbt (zbt zhv))) (zpf (zdp (by decide) (zdp (by decide) zlq))) zfu (zbm zxh (zac 2) (zhs (zae (zac 0) zar)))))) (ziq (zac 6))))) zacu)))) h
theorem zyg {f:Addr} {fd:qAF} (F:Fun K "_law_same" "_law_same" zho f fd) (T:Txt mg)  (hm:mg "_law_same"=some (.ref f)) (hk:qY K (.ref f)=true) (hbd:znw K fd ["_law_due_here","_law_thing"] []):∀n:Nat,FnOk P w K mg base CX0 (n+0+1) f fd ["_law_due_here","_law_thing"] (spD 2 (zeu n)):=by
 intro n
 induction n with
 | zero=>exact F.ok zqd (λvs H Q E h=>zgs h) (λcdv A outer s H vs Q E hr h=>by obtain⟨_,_,_,_,_,_,_,e,_⟩:=h;cases e)
 | succ n ih=>
 have D_law_same:Dn P w K mg base "_law_same" ["_law_due_here","_law_thing"] (n+0+1) (spD 2 (zeu n)):=⟨f,fd,ih,hm,hk,hbd⟩
 rw[show n+1+0+1=(n+0+1)+1 by omega]
 refine F.ok zqd (λvs H Q E h=>zgs h) (λcdv A outer s H vs Q E hr h=>?_)
 have hu:=zgx hr
 apply Exists.intro
 apply And.intro
 ·refine' Bx.out (zaf (zef (zey (K:=K) rfl (zck (zff (K:=K) rfl) (by rfl) T.isinstance zbi (zak (bv 0) (zak (zhc (v:=.ty "str") (by rfl) T.str zzp rfl (by decide) (by decide)) zaa (by rfl)) (by rfl)) (by decide) (by decide) (zam (by rfl)) (by rfl)) (λ_=>rfl)) (zao (zbl (zpj (zck (zff (K:=K) rfl) (by rfl) T.isinstance zbi (zak (bv 1) (zak (zhc (v:=.ty "str") (by rfl) T.str zzp rfl (by decide) (by decide)) zaa (by rfl)) (by rfl)) (by decide) (by decide) (zam (by rfl)) (by rfl)) (zxc (zog (zkc (K:=K) rfl hr.units) (bv 1) (bv 0) (zek _)))))) zbw)
 (zaf (zef (zey (K:=K) rfl (zck (zff (K:=K) rfl) (by rfl) T.isinstance zbi (zak (bv 0) (zak (zhc (v:=.ty "list") (by rfl) T.list zfr rfl (by decide) (by decide)) zaa (by rfl)) (by rfl)) (by decide) (by decide) (zam (by rfl)) (by rfl)) (λ_=>rfl)) (zaf (zef (zzc (zth (zey (K:=K) rfl (zck (zff (K:=K) rfl) (by rfl) T.isinstance zbi (zak (bv 1) (zak (zhc (v:=.ty "list") (by rfl) T.list zfr rfl (by decide) (by decide)) zaa (by rfl)) (by rfl)) (by decide) (by decide) (zam (by rfl)) (by rfl)) (λ_=>rfl))) (zti (zbu (zrl (K:=K) rfl hr.units) (zck (zcr (K:=K) rfl) (by rfl) T.len zds (zak (bv 1) zaa (by rfl)) (by decide) (by decide) (zam (by rfl)) (by rfl)) (zck (zcr (K:=K) rfl) (by rfl) T.len zds (zak (bv 0) zaa (by rfl)) (by decide) (by decide) (zam (by rfl)) (by rfl)) (zek _)))).pt (zao (zbl zno)) zbw)
 (zao (zbl (zck (zuu (K:=K) rfl rfl) (by rfl) T.all zzo (zak (zcl (zby (N':=["_law_one","_law_two"]) (own:=["_law_one","_law_two"]) (fr:=[]) (by kernel_rfl)) rfl (ztk (K:=K) rfl rfl T.zip (zak (bv 0) (zak (bv 1) zaa (by rfl)) (by rfl)) (by rfl) (by rfl)) ?hb1 (by intro _;rfl)) zaa (by rfl)) (by decide) (by decide) (zam (by rfl)) (by rfl))))) zbw)
 (zaf (zef (zey (K:=K) rfl (zck (zff (K:=K) rfl) (by rfl) T.isinstance zbi (zak (bv 0) (zak (zhc (v:=.ty "tuple") (by rfl) T.tuple zhi rfl (by decide) (by decide)) zaa (by rfl)) (by rfl)) (by decide) (by decide) (zam (by rfl)) (by rfl)) (λ_=>rfl)) (zaf (zef (zzc (zth (zey (K:=K) rfl (zck (zff (K:=K) rfl) (by rfl) T.isinstance zbi (zak (bv 1) (zak (zhc (v:=.ty "tuple") (by rfl) T.tuple zhi rfl (by decide) (by decide)) zaa (by rfl)) (by rfl)) (by decide) (by decide) (zam (by rfl)) (by rfl)) (λ_=>rfl))) (zti (zbu (zrl (K:=K) rfl hr.units) (zck (zcr (K:=K) rfl) (by rfl) T.len zds (zak (bv 1) zaa (by rfl)) (by decide) (by decide) (zam (by rfl)) (by rfl)) (zck (zcr (K:=K) rfl) (by rfl) T.len zds (zak (bv 0) zaa (by rfl)) (by decide) (by decide) (zam (by rfl)) (by rfl)) (zek _)))).pt (zao (zbl zno)) zbw)
 (zao (zbl (zck (zuu (K:=K) rfl rfl) (by rfl) T.all zzo (zak (zcl (zby (N':=["_law_one","_law_two"]) (own:=["_law_one","_law_two"]) (fr:=[]) (by kernel_rfl)) rfl (ztk (K:=K) rfl rfl T.zip (zak (bv 0) (zak (bv 1) zaa (by rfl)) (by rfl)) (by rfl) (by rfl)) ?hb2 (by intro _;rfl)) zaa (by rfl)) (by decide) (by decide) (zam (by rfl)) (by rfl))))) zbw)
 (zao (zbl (zpj (zck (zff (K:=K) rfl) (by rfl) T.isinstance zbi (zak (bv 1) (zak (zhc (v:=.ty "int") (by rfl) T.int zaih rfl (by decide) (by decide)) zaa (by rfl)) (by rfl)) (by decide) (by decide) (zam (by rfl)) (by rfl)) (zpj (zald (zck (zff (K:=K) rfl) (by rfl) T.isinstance zbi (zak (bv 1) (zak (zhc (v:=.ty "bool") (by rfl) T.bool zaek rfl (by decide) (by decide)) zaa (by rfl)) (by rfl)) (by decide) (by decide) (zam (by rfl)) (by rfl))) (zxc (zog (zkc (K:=K) rfl hr.units) (bv 1) (bv 0) (zek _))))))))))
  case hb1=>(intro cl C s H fp;refine'⟨Bx.out (zes (K:=K) (n:=2) rfl rfl (zbf (zfi (i:=0) zlj rfl (Or.inl rfl) (by first|exact .inl rfl|exact .inr rfl|assumption)) (zbf (zfi (i:=1) zlj rfl (Or.inl rfl) (by first|exact .inl rfl|exact .inr rfl|assumption)) zer (by rfl)) (by rfl)) (by rfl) (by rfl)),Bx.out zdn,Bx.out (zgl D_law_same (hr.mono (qL _)) (by rfl) (zak (bv 0) (zak (bv 1) zaa (by rfl)) (by rfl)) (by decide) (zam (by rfl)) (by rfl))⟩)
  case hb2=>(intro cl C s H fp;refine'⟨Bx.out (zes (K:=K) (n:=2) rfl rfl (zbf (zfi (i:=0) zlk rfl (Or.inl rfl) (by first|exact .inl rfl|exact .inr rfl|assumption)) (zbf (zfi (i:=1) zlk rfl (Or.inl rfl) (by first|exact .inl rfl|exact .inr rfl|assumption)) zer (by rfl)) (by rfl)) (by rfl) (by rfl)),Bx.out zdn,Bx.out (zgl D_law_same (hr.mono (qL _)) (by rfl) (zak (bv 0) (zak (bv 1) zaa (by rfl)) (by rfl)) (by decide) (zam (by rfl)) (by rfl))⟩)
 exact fn_d (f:=znh (zeu n)) ((zex (zva (zoz (zma (zac 0) zacr)) (zht (zuy (zma (zac 1) zacr) (zbm zoy (zac 1) (zac 0)))) zlf) (zex (zva (zoz (zma (zac 0) zyv)) (zex (zva (zago (zacq (zoz (zma (zac 1) zyv))) (st_t (zbm zaal (zha zid (zae (zac 1) zar)) (zha zid (zae (zac 0) zar))))) (zht (se_c λ_=>zbg)) zlf) (zht (zha zajg (zae (zgt (zzb (zae (zac 0) (zae (zac 1) zar))) (zkb (zbt (zbt zhv))) (zpf (zdp (by decide) (zdp (by decide) zlq))) zfu (zcx (zae (zac 0) (zae (zac 1) zar)))) zar)))) zlf) (zex (zva (zoz (zma (zac 0) zpb)) (zex (zva (zago (zacq (zoz (zma (zac 1) zpb))) (st_t (zbm zaal (zha zid (zae (zac 1) zar)) (zha zid (zae (zac 0) zar))))) (zht (se_c λ_=>zbg)) zlf) (zht (zha zajg (zae (zgt (zzb (zae (zac 0) (zae (zac 1) zar))) (zkb (zbt (zbt zhv))) (zpf (zdp (by decide) (zdp (by decide) zlq))) zfu (zcx (zae (zac 0) (zae (zac 1) zar)))) zar)))) zlf) (zht (zuy (zma (zac 1) zakw) (zuy (zaoy (zma (zac 1) zagp)) (zbm zoy (zac 1) (zac 0))))))))) h
theorem zyh {f:Addr} {fd:qAF} (F:Fun K "_law_copy" "_law_copy" zhp f fd) (T:Txt mg)  : FnOk P w K mg base CX0 1 f fd ["_law_book_here"] (spD 1 zix):=by
 refine F.ok zxz (λvs H Q E h=>zgs h) (λcdv A outer s H vs Q E hr h=>?_)
 have hu:=zgx hr
 apply Exists.intro
 apply And.intro
 ·refine' Bx.out (zao (zbl (zdi (bpaC (zcl (zby (N':=["_law_name_here","_law_elders"]) (own:=["_law_name_here","_law_elders"]) (fr:=[]) (by kernel_rfl)) rfl (zcv (K:=K) rfl (bpeX (zbr (K:=K) rfl) (bv 0) zaj)) ?hb1 (by intro _;rfl)) (bpaC (bpeX (zbr (K:=K) rfl) (bv 0) zaj) (bpaC (bpeT (zfw (K:=K) rfl) T.list zfr (bpaC (bpeX (zbr (K:=K) rfl) (bv 0) zaj) zaa)) zaa))))))
  case hb1=>(intro cl C s H fp;refine'⟨Bx.out (zes (K:=K) (n:=2) rfl rfl (zbf (bpgN (i:=0) zll rfl (Or.inl rfl)) (zbf (bpgN (i:=1) zll rfl (Or.inl rfl)) zer (by rfl)) (by rfl)) (by rfl) (by rfl)),Bx.out zdn,Bx.out (zdi (bpaC (bv 0) (bpaC (bpeT (zfw (K:=K) rfl) T.list zfr (bpaC (bv 1) zaa)) zaa)))⟩)
 exact fn_d (f:=zru) ((zht (zhs (zae (zgt (zgk (zcu (se_c λ_=>zad))) (zkb (zbt (zbt zhv))) (zpf (zdp (by decide) (zdp (by decide) zlq))) zfu (zhs (zae (zac 0) (zae (zha zlo (zae (zac 1) zar)) zar)))) (zae (zcu (se_c λ_=>zad)) (zae (zha zlo (zae (zcu (se_c λ_=>zad)) zar)) zar)))))) h
theorem zwi{f:Addr}{fd:qAF}(F:Fun K "_law_order" "_law_order" zgc f fd)(T:Txt mg)(D_law_draw:zec P w K mg base):FnOk P w K mg base CX0 2 f fd ["_law_pen_here","_law_places"] (spR penK 2 zfq):=by
 refine F.ok zwa (λvs H Q E h=>zkf h) (λcdv A outer s H vs Q E hr h=>?_)
 have hu:=zgx hr
 apply Exists.intro
 apply And.intro
 ·refine' Bx.out (zaf (bpsS (i:=2) zig rfl (Or.inl rfl) (zaic rfl (by rfl) T.list (by rfl) T.range (bv 1) (zam (by rfl))))
 (zaf (bpsS (i:=3) zig rfl (Or.inl rfl) (zce zaa))
 (zaf (zdt qAI rfl (zcp rfl T.range (bpaC (bv 1) zaa) (by rfl)) (bpgN (i:=4) zig rfl (Or.inl rfl))
  (zao (zdq (zej (K:=K) rfl qm qAP qAO zel (bv 3) (bpaC (zej (K:=K) rfl qm qCW qCV zys (bv 2) (bpaC (bpeD D_law_draw hr (bpaC (bv 0) (bpaC (bpeB (zcr (K:=K) rfl) T.len zds (bpaC (bv 2) zaa)) zaa))) zaa) (by rfl) (by rfl) (by rfl) (zam (by rfl)) (by rfl)) zaa) (by rfl) (by rfl) (by rfl) (zam (by rfl)) (by rfl)) (by rfl))) (by intro _;rfl))
 (zao (zbl (bv 3))))))
 exact fn_r (by decide) (F:=zkn) ((zas (zbc (zag (zamg (zac 1))) (by decide)) (zas (zbc (zag (zee zar)) (by decide)) (zas (zil (zfj (zfh (zae (zac 1) zar))) (zdr (by decide)) (zfk (by decide)) (zaav (zay (zat (zag (zha zid (zae (zac 2) zar))) zbb)))) (zpl zme))))) h
theorem zua{f:Addr}{fd:qAF}(F:Fun K "_law_answer" "_law_answer" zfb f fd)(T:Txt mg)(D_law_draw:zec P w K mg base):FnOk P w K mg base CX0 2 f fd ["_law_pen_here","_law_rules"] (spR penK 2 zcq):=by
 refine F.ok ztx (λvs H Q E h=>zkf h) (λcdv A outer s H vs Q E hr h=>?_)
 have hu:=zgx hr
 apply Exists.intro
 apply And.intro
 ·refine' Bx.out (zaf (zvg (i:=2) (zby (N':=["_law_name_here","_law_kinds"]) (own:=["_law_name_here","_law_kinds"]) (fr:=[]) (by kernel_rfl)) rfl (zcv (K:=K) rfl (bv 1)) ?hb1 (by rfl) zhe rfl rfl (by intro _;rfl))
 (zaf (bpsS (i:=3) zhe rfl (Or.inl rfl) (bpeD D_law_draw hr (bpaC (bv 0) (bpaC zaj zaa))))
 (zaf (zef (zzc (zbu (zkc (K:=K) rfl hr.units) (bv 3) zaj (zek _)) (zti (zbu (zkc (K:=K) rfl hr.units) (bv 2) (zce zaa) (zek _)))).pt (zao (zbl (zdi (bpaC zij zaa)))) zbw)
 (zaf (bpsS (i:=4) zhe rfl (Or.inl rfl) (bpeD D_law_draw hr (bpaC (bv 0) (bpaC (bpeB (zcr (K:=K) rfl) T.len zds (bpaC (bv 2) zaa)) zaa))))
 (zaf (zef (zzc (zbu (zkc (K:=K) rfl hr.units) (bv 3) zaj (zek _)) (zti (zbu (zkc (K:=K) rfl hr.units) (bv 4) zaj (zek _)))).pt (zao (zbl (zdi (bpaC zij (bpaC (bpeX (zbr (K:=K) rfl) (bv 2) (bv 4)) zaa))))) zbw)
 (zao (zbl (zdi (bpaC zij (bpaC (zdi (bpaC (bpeX (zbr (K:=K) rfl) (bv 2) (bpeD D_law_draw hr (bpaC (bv 0) (bpaC (bv 4) zaa)))) (bpaC (bpeX (zbr (K:=K) rfl) (bv 2) (bv 4)) zaa))) zaa))))))))))
  case hb1=>(intro cl C s H fp;refine'⟨Bx.out (zes (K:=K) (n:=2) rfl rfl (zbf (bpgN (i:=0) zjv rfl (Or.inl rfl)) (zbf (bpgN (i:=1) zjv rfl (Or.inl rfl)) zer (by rfl)) (by rfl)) (by rfl) (by rfl)),Bx.out zdn,Bx.out (bv 0)⟩)
 exact fn_r (by decide) (F:=zgv) ((zas (zbc (zag (zgt (zgk (zac 1)) (zkb (zbt (zbt zhv))) (zpf (zdp (by decide) (zdp (by decide) zlq))) zfu (zac 0))) (by decide)) (zas (zbc (zay (zat (zag (se_c λ_=>zad)) zbb)) (by decide)) (zas (zjq (zhd (zago (st_t (zbm zoy (zac 3) (se_c λ_=>zad))) (st_t (zbm zoy (zac 2) (zee zar))))) (zik (zag (zhs (zae (se_c λ_=>zch) zar)))) zgu) (zas (zbc (zay (zat (zag (zha zid (zae (zac 2) zar))) zbb)) (by decide)) (zas (zjq (zhd (zago (st_t (zbm zoy (zac 3) (se_c λ_=>zad))) (st_t (zbm zoy (zac 4) (se_c λ_=>zad))))) (zik (zag (zhs (zae (se_c λ_=>zch) (zae (zcu (zac 4)) zar))))) zgu) (zik (zxf (zat (zag (se_c λ_=>zch)) (zat (zxf (zat (zcf zib (zag (zac 2)) (zay (zat (zag (zac 4)) zbb))) (zat (zag (zcu (zac 4))) zbb))) zbb)))))))))) h
theorem zyi{f:Addr}{fd:qAF}(F:Fun K "_law_walk" "_law_walk" zhq f fd)(T:Txt mg)(D_law_answer:znv P w K mg base)(D_law_draw:zec P w K mg base):FnOk P w K mg base CX0 3 f fd ["_law_pen_here","_law_book_here"] (spR penK 2 zlb):=by
 refine F.ok zya (λvs H Q E h=>zkf h) (λcdv A outer s H vs Q E hr h=>?_)
 have hu:=zgx hr
 apply Exists.intro
 apply And.intro
 ·refine' Bx.out (zaf (bpsS (i:=2) zgd rfl (Or.inr rfl) (zbh (zbp (K:=K) rfl) (zce (bpaC zaj zaa)) (zcl (zby (N':=["_law_place","_law_pen_here"]) (own:=["_law_place"]) (fr:=[0]) (by kernel_rfl)) rfl (zcp rfl T.range (bpaC (bpeX (zbr (K:=K) rfl) (bv 1) zaj) zaa) (by rfl)) ?hb1 (by intro _;rfl))))
 (zaf (bpsS (i:=3) zgd rfl (Or.inl rfl) (zce zaa))
 (zaf (zdt qAI rfl (zcp rfl T.range (bpaC (bpeX (zbr (K:=K) rfl) (bv 1) zaj) zaa) (by rfl)) (bpgN (i:=4) zgd rfl (Or.inr rfl))
  (zaf (bpsS (i:=5) zgd rfl (Or.inl rfl) (zce zaa))
 (zaf (zdt qAI rfl (zcp rfl T.range (bpaC (bpeX (zbr (K:=K) rfl) (bv 2) (bv 4)) zaa) (by rfl)) (bpgN (i:=6) zgd rfl (Or.inl rfl))
  (zao (zdq (zej (K:=K) rfl qm qAP qAO zel (bv 5) (bpaC (zcl (zby (N':=["_law_kind","_law_pen_here","_law_sizes","_law_k"]) (own:=["_law_kind"]) (fr:=[0,2,4]) (by kernel_rfl)) rfl (zcv (K:=K) rfl (bpeX (zbr (K:=K) rfl) (bv 1) zaj)) ?hb2 (by intro _;rfl)) zaa) (by rfl) (by rfl) (by rfl) (zam (by rfl)) (by rfl)) (by rfl))) (by intro _;rfl))
 (zao (zdq (zej (K:=K) rfl qm qAP qAO zel (bv 3) (bpaC (bv 5) zaa) (by rfl) (by rfl) (by rfl) (zam (by rfl)) (by rfl)) (by rfl))))) (by intro _;rfl))
 (zaf (zdq (zej (K:=K) rfl qm qAP qAO zel (bv 3) (bpaC (zcl (zby (N':=["_law_turn","_law_pen_here","_law_book_here"]) (own:=["_law_turn"]) (fr:=[0,1]) (by kernel_rfl)) rfl (zcp rfl T.range (bpaC (bpeX (zbr (K:=K) rfl) (bv 2) (zpk zoo zaj)) zaa) (by rfl)) ?hb3 (by intro _;rfl)) zaa) (by rfl) (by rfl) (by rfl) (zam (by rfl)) (by rfl)) (by rfl))
 (zao (zbl (bv 3)))))))
  case hb1=>(intro cl C s H fp;refine'⟨Bx.out (bpgN (i:=0) zqw rfl (Or.inl rfl)),Bx.out zdn,Bx.out (zbh (zbp (K:=K) rfl) zaj (bpeD D_law_draw hr (bpaC (bv 1) (bpaC zaj zaa))))⟩)
  case hb2=>(intro cl C s H fp;refine'⟨Bx.out (bpgN (i:=0) zqx rfl (Or.inl rfl)),Bx.out zdn,Bx.out (bpeD D_law_draw hr (bpaC (bv 1) (bpaC (bpeX (zbr (K:=K) rfl) (bv 2) (zbh (zbp (K:=K) rfl) (bv 3) zaj)) zaa)))⟩)
  case hb3=>(intro cl C s H fp;refine'⟨Bx.out (bpgN (i:=0) zqy rfl (Or.inl rfl)),Bx.out zdn,Bx.out (bpeD D_law_answer hr (bpaC (bv 1) (bpaC (bpeX (zbr (K:=K) rfl) (bv 2) zaj) zaa)))⟩)
 exact fn_r (by decide) (F:=zrv) ((zas (zbc (zcf zdm (zag (zee (zae (se_c λ_=>zad) zar))) (zmc (kk:=0) (by rfl) (zfj (zfh (zae (zcu (se_c λ_=>zad)) zar))) (zdr (by decide)) (zii (by decide)) zfu (zcf zdm (zag (se_c λ_=>zad)) (zay (zat (zag (se_c λ_=>zad)) zbb))))) (by decide)) (zas (zbc (zag (zee zar)) (by decide)) (zas (zil (zfj (zfh (zae (zcu (se_c λ_=>zad)) zar))) (zdr (by decide)) (zfk (by decide)) (zas (zbc (zag (zee zar)) (by decide)) (zas (zil (zfj (zfh (zae (zcu (zac 4)) zar))) (zdr (by decide)) (zfk (by decide)) (zke (zmc (kk:=0) (by rfl) (zfj (zgk (zcu (se_c λ_=>zad)))) (zdr (by decide)) (zii (by decide)) zfu (zay (zat (zag (zcu (zbm zdm (zac 3) (se_c λ_=>zad)))) zbb))))) (zke (zag (zac 5)))))) (zas (zke (zmc (kk:=0) (by rfl) (zfj (zfh (zae (zcu (zpg (se_c λ_=>zad))) zar))) (zdr (by decide)) (zii (by decide)) zfu (zay (zat (zag (zcu (se_c λ_=>zad))) zbb)))) (zpl zme)))))) h
theorem zabb {f:Addr} {fd:qAF} (F:Fun K "_law_due" "_law_due" zje f fd) (T:Txt mg)  : FnOk P w K mg base CX0 1 f fd ["_law_names","_law_walk_here","_law_order_here","_law_call"] (spD 4 zdj):=by
 refine F.ok zaay (λvs H Q E h=>zgs h) (λcdv A outer s H vs Q E hr h=>?_)
 have hu:=zgx hr
 apply Exists.intro
 apply And.intro
 ·refine' Bx.out (zaf (bpsS (i:=4) zjf rfl (Or.inl rfl) zaj)
 (zaf (zdt qAI rfl (zvh (K:=K) rfl rfl T.enumerate (bpaC (bv 2) zaa) (by rfl)) (zes (K:=K) (n:=2) rfl rfl (zbf (bpgN (i:=5) zjf rfl (Or.inl rfl)) (zbf (bpgN (i:=6) zjf rfl (Or.inl rfl)) zer (by rfl)) (by rfl)) (by rfl) (by rfl))
  (zao (bpsS (i:=4) zjf rfl (Or.inl rfl) (bpeX (zbr (K:=K) rfl) (bpeX (zbr (K:=K) rfl) (bpeX (zbr (K:=K) rfl) (bv 1) (bv 5)) (bv 4)) (zej (K:=K) rfl qm qBc qBb zts (bv 0) (bpaC (bpeX (zbr (K:=K) rfl) (bv 3) (bv 6)) zaa) (by rfl) (by rfl) (by rfl) (zam (by rfl)) (by rfl))))) (by intro _;rfl))
 (zao (zbl (bpeX (zbr (K:=K) rfl) (bpeX (zbr (K:=K) rfl) (bv 1) (zpk zoo zaj)) (bv 4))))))
 exact fn_d (f:=zmn) ((zex (ziq (se_c λ_=>zad)) (zex (zrk (zadf (zae (zac 2) zar)) (zkb (zbt (zbt zhv))) (ziq (zbm zib (zbm zib (zcu (zac 5)) (zac 4)) (ztt (zac 0) (zcu (zac 6)))))) (zht (zbm zib (zcu (zpg (se_c λ_=>zad))) (zac 4)))))) h
theorem znk{f:Addr}{fd:qAF}{cl:Str->Addr}(F:Fun K "check_kinds" "check_kinds" zjt f fd)(T:Txt mg)(D_names_of:zjg P w K mg base)(X_NoKind:XcOk P w K mg base "NoKind" (cl "NoKind")):FnOk P w K mg base (CXE P w) 3 f fd ["web","names"] (spX cl 2 zeq):=by
 refine zadw F zni (λvs H Q E h=>zxl h) (λcdv A outer s H vs Q E hr h0k h=>?_)
 have hu:=zgx hr
 apply Exists.intro
 apply And.intro
 ·refine' Bx.out (zaf (bpsS (i:=2) zge rfl (Or.inl rfl) (bpeD D_names_of hr (bpaC (bv 0) zaa)))
 (zao (zdt qCe rfl (zcv (K:=K) rfl (bv 1)) (bpgN (i:=3) zge rfl (Or.inl rfl))
  (zao (zef (zbu (zly (K:=K) rfl) (bv 3) (bv 2) (by rfl)) (zao (zvs (C:=cl "NoKind") X_NoKind (hr.mono (by decide)) rfl rfl (zajl h0k) (by rfl) (bv 3) (by decide) (by rfl))) zbw)) (by intro _;rfl))))
 exact fn_x (f:=zep) ((zne (zpt (ziq (zcx (zae (zac 0) zar)))) (zals (zgk (zac 1)) zhu (zajk (st_t (zbm zacp (zac 3) (zac 2))) (zvr (zac 3)) (zpt zlf))))) h
theorem zoe{f:Addr}{fd:qAF}{cl:Str->Addr}(F:Fun K "check_call" "check_call" zkp f fd)(T:Txt mg)(D_check_kinds__X:zjw P w K mg base cl)(D_names_in_call:zhz P w K mg base)(X_NoCall:XcOk P w K mg base "NoCall" (cl "NoCall")):FnOk P w K mg base (CXE P w) 4 f fd ["web","places","call"] (spX cl 3 zfp):=by
 refine zadw F zoc (λvs H Q E h=>zxl h) (λcdv A outer s H vs Q E hr h0k h=>?_)
 have hu:=zgx hr
 apply Exists.intro
 apply And.intro
 ·refine' Bx.out (zaf (zef (zbu (zrl (K:=K) rfl hr.units) (bpeB (zcr (K:=K) rfl) T.len zds (bpaC (bv 2) zaa)) (bv 1) (zek _)) (zao (zvs (C:=cl "NoCall") X_NoCall (hr.mono (by decide)) rfl rfl (zajl h0k) (by rfl) zxd (by decide) (by rfl))) zbw)
 (zao (zdq (zaed D_check_kinds__X (zadv h0k) (hr.mono (by decide)) (by rfl) (bpaC (bv 0) (bpaC (bpeD D_names_in_call hr (bpaC (bv 2) zaa)) zaa)) (by decide) (zam (by rfl)) (by rfl)) (by rfl))))
 exact fn_x (f:=zmm) ((zne (zajk (st_t (zbm zaal (zha zid (zae (zac 2) zar)) (zac 1))) (zvr (se_c λ_=>zhf)) (zpt zlf)) (zzg (zae (zac 0) (zae (zcx (zae (zac 2) zar)) zar))))) h
theorem zwj{f:Addr}{fd:qAF}{cl:Str->Addr}(F:Fun K "walked" "walked" zqf f fd)(T:Txt mg)(D_check_call__X:zks P w K mg base cl)(D_names_of:zjg P w K mg base):FnOk P w K mg base (CXE P w) 5 f fd ["web","walk","order","call"] (spX cl 4 zez):=by
 refine zadw F zwc (λvs H Q E h=>zxl h) (λcdv A outer s H vs Q E hr h0k h=>?_)
 have hu:=zgx hr
 apply Exists.intro
 apply And.intro
 ·refine' Bx.out (zaf (zdq (zaed D_check_call__X (zadv h0k) (hr.mono (by decide)) (by rfl) (bpaC (bv 0) (bpaC (bpeB (zcr (K:=K) rfl) T.len zds (bpaC (bv 2) zaa)) (bpaC (bv 3) zaa))) (by decide) (zam (by rfl)) (by rfl)) (by rfl))
 (zaf (bpsS (i:=4) zfc rfl (Or.inl rfl) (bpeD D_names_of hr (bpaC (bv 0) zaa)))
 (zaf (bpsS (i:=5) zfc rfl (Or.inl rfl) zaj)
 (zaf (zdt qCe rfl (ztk (K:=K) rfl rfl T.zip (bpaC (bv 1) (bpaC (bv 2) zaa)) (by rfl) (by rfl)) (zes (K:=K) (n:=2) rfl rfl (zbf (bpgN (i:=6) zfc rfl (Or.inl rfl)) (zbf (bpgN (i:=7) zfc rfl (Or.inl rfl)) zer (by rfl)) (by rfl)) (by rfl) (by rfl))
  (zao (bpsS (i:=5) zfc rfl (Or.inl rfl) (bpeX (zbr (K:=K) rfl) (bpeX (zbr (K:=K) rfl) (bv 6) (bv 5)) (zej (K:=K) rfl qm qBc qBb zts (bv 4) (bpaC (bpeX (zbr (K:=K) rfl) (bv 3) (bv 7)) zaa) (by rfl) (by rfl) (by rfl) (zam (by rfl)) (by rfl))))) (by intro _;rfl))
 (zao (zbl (bpeX (zbr (K:=K) rfl) (bpeX (zbr (K:=K) rfl) (bv 1) (zpk zoo zaj)) (bv 5))))))))
 exact fn_x (f:=znr) ((zne (zzg (zae (zac 0) (zae (zha zid (zae (zac 2) zar)) (zae (zac 3) zar)))) (zne (zpt (ziq (zcx (zae (zac 0) zar)))) (zne (zpt (ziq (se_c λ_=>zad))) (zne (zpt (zrk (zzb (zae (zac 1) (zae (zac 2) zar))) (zkb (zbt (zbt zhv))) (ziq (zbm zib (zcu (zac 5)) (ztt (zac 4) (zcu (zac 7))))))) (zpt (zht (zbm zib (zcu (zpg (se_c λ_=>zad))) (zac 5))))))))) h
theorem zra{f:Addr}{fd:qAF}{cl:Str->Addr}(F:Fun K "_law_refused" "_law_refused" zea f fd)(T:Txt mg)(D_walked__X:zqj P w K mg base cl)(XK:XKit P w K mg base cl ["NoCall","NoKind"] ["NoCall","NoKind"] "CallError"):FnOk P w K mg base CX0 6 f fd ["_law_web_here","_law_walk_here","_law_order_here","_law_call"] (spD 4 zbk):=by
 refine F.ok zqq (λvs H Q E h=>zgs h) (λcdv A outer s H vs Q E hr h=>?_)
 have hu:=zgx hr
 apply Exists.intro
 apply And.intro
 ·refine' Bx.out (zaf (zaib (j:=4) D_walked__X XK (hr.mono (by decide)) (by rfl) (bpaC (bv 0) (bpaC (bv 1) (bpaC (bv 2) (bpaC (bv 3) zaa)))) zlh rfl rfl rfl rfl (by rfl) (λ_ _ _ hxm hxcl=>(zao (zbl (zdi (bpaC (bpeB (zvt (K:=K) rfl hxm hxcl) T.isinstance zbi (bpaC (bv 4) (bpaC (zzh (by rfl) (XK.mgk "NoCall" (by decide)) (by decide)) zaa))) (bpaC (bpeB (zvt (K:=K) rfl hxm hxcl) T.isinstance zbi (bpaC (bv 4) (bpaC (zzh (by rfl) (XK.mgk "NoKind" (by decide)) (by decide)) zaa))) (bpaC (zahz (K:=K) rfl hxm (bv 4) (by rfl)) zaa))))))) (by decide) (by decide) (zam (by rfl)) (by rfl) (by rfl))
 (zao (zbl zxd)))
 exact fn_d (f:=ziy) ((zex (zamb (cl:=cl) 5 (by decide) (zae (zac 0) (zae (zac 1) (zae (zac 2) (zae (zac 3) zar)))) (by intro xc hxc xd;exact(zamc (zalv (ztq (zaee (XK.kit xc hxc "NoCall" (by decide))) (ztq (zaee (XK.kit xc hxc "NoKind" (by decide))) (ztq zaqa zalu))))))) (zht (se_c λ_=>zhf)))) h
theorem zrb{f:Addr}{fd:qAF}(F:Fun K "_law_refuses" "_law_refuses" zeb f fd)(T:Txt mg)(D_law_draw:zec P w K mg base)(D_law_name:zld P w K mg base)(D_law_refused:zms P w K mg base):FnOk P w K mg base CX0 7 f fd ["_law_pen_here","_law_odd","_law_names","_law_web_here","_law_walk_here","_law_order_here"] (spR penK 6 zcb):=by
 refine F.ok zqr (λvs H Q E h=>zkf h) (λcdv A outer s H vs Q E hr h=>?_)
 have hu:=zgx hr
 apply Exists.intro
 apply And.intro
 ·refine' Bx.out (zaf (bpsS (i:=6) zcg rfl (Or.inl rfl) (bpeT (zlr (K:=K) rfl) T.tuple zhi (bpaC (zcl (zby (N':=["_law_place","_law_pen_here","_law_names"]) (own:=["_law_place"]) (fr:=[0,2]) (by kernel_rfl)) rfl (zcv (K:=K) rfl (bv 5)) ?hb1 (by intro _;rfl)) zaa)))
 (zaf (bpsS (i:=7) zcg rfl (Or.inl rfl) (bpeD D_law_name hr (bpaC (bv 0) (bpaC (bv 2) zaa))))
 (zaf (bpsS (i:=8) zcg rfl (Or.inl rfl) (bpeD D_law_name hr (bpaC (bv 0) (bpaC (zbh (zbp (K:=K) rfl) (bv 2) (zce (bpaC (bv 7) zaa))) zaa))))
 (zaf (zef (zbu (zkc (K:=K) rfl hr.units) (bv 1) zaj (zek _)) (zaf (bpsS (i:=10) zcg rfl (Or.inl rfl) (bpeX (zbr (K:=K) rfl) (zce (bpaC (zbh (zbp (K:=K) rfl) (bv 6) (zdi (bpaC (bpeX (zbr (K:=K) rfl) (bv 2) zaj) zaa))) (bpaC (zgm (sl_W (K:=K) rfl) (bv 6) (zie zaj) zif) (bpaC (zbh (zbp (K:=K) rfl) (bv 6) (zdi (bpaC (bv 7) zaa))) (bpaC (zbh (zbp (K:=K) rfl) (zdi (bpaC (bv 7) zaa)) (bv 6)) zaa))))) (bpeD D_law_draw hr (bpaC (bv 0) (bpaC zaj zaa)))))
 (zao (zbl (zog (zkc (K:=K) rfl hr.units) (bpeD D_law_refused hr (bpaC (bv 3) (bpaC (bv 4) (bpaC (bv 5) (bpaC (bv 10) zaa))))) (zdi (bpaC zno (bpaC zno (bpaC zxd zaa)))) (zek _))))) zbw)
 (zaf (bpsS (i:=9) zcg rfl (Or.inl rfl) (bpeD D_law_draw hr (bpaC (bv 0) (bpaC (bpeB (zcr (K:=K) rfl) T.len zds (bpaC (bv 6) zaa)) zaa))))
 (zaf (bpsS (i:=10) zcg rfl (Or.inl rfl) (zbh (zbp (K:=K) rfl) (zbh (zxg (K:=K) rfl) (zgm (sl_W (K:=K) rfl) (bv 6) zif (zie (bv 9))) (zdi (bpaC (bv 7) zaa))) (zgm (sl_W (K:=K) rfl) (bv 6) (zie (zbh (zbp (K:=K) rfl) (bv 9) zaj)) zif)))
 (zaf (zef (zxe (zbu (zkc (K:=K) rfl hr.units) (bv 1) zaj (zek _)) (ztj (zbu zakd (zbh (zbp (K:=K) rfl) (bv 9) zaj) (bpeB (zcr (K:=K) rfl) T.len zds (bpaC (bv 6) zaa)) (zek _)))).pt (zao (bpsS (i:=10) zcg rfl (Or.inl rfl) (zbh (zxg (K:=K) rfl) (zgm (sl_W (K:=K) rfl) (bv 10) zif (zie (zpk zoo zaj))) (zdi (bpaC (bv 8) zaa))))) zbw)
 (zao (zbl (zog (zkc (K:=K) rfl hr.units) (bpeD D_law_refused hr (bpaC (bv 3) (bpaC (bv 4) (bpaC (bv 5) (bpaC (bv 10) zaa))))) (zdi (bpaC zno (bpaC zno (bpaC (bv 7) zaa)))) (zek _)))))))))))
  case hb1=>(intro cl C s H fp;refine'⟨Bx.out (bpgN (i:=0) znj rfl (Or.inl rfl)),Bx.out zdn,Bx.out (bpeX (zbr (K:=K) rfl) (bv 2) (bpeD D_law_draw hr (bpaC (bv 1) (bpaC (bpeB (zcr (K:=K) rfl) T.len zds (bpaC (bv 2) zaa)) zaa))))⟩)
 exact fn_r (by decide) (F:=ziz) ((zas (zbc (zadj ztb (zat (zmc (kk:=0) (by rfl) (zfj (zgk (zac 5))) (zdr (by decide)) (zii (by decide)) zfu (zcf zib (zag (zac 2)) (zay (zat (zag (zha zid (zae (zac 2) zar))) zbb)))) zbb)) (by decide)) (zas (zbc (zay (zat (zag (zac 2)) zbb)) (by decide)) (zas (zbc (zay (zat (zag (zbm zdm (zac 2) (zee (zae (zac 7) zar)))) zbb)) (by decide)) (zas (zjq (zhd (st_t (zbm zoy (zac 1) (se_c λ_=>zad)))) (zas (zbc (zcf zib (zag (zee (zae (zbm zdm (zac 6) (zhs (zae (zcu (se_c λ_=>zad)) zar))) (zae (zzd (zac 6) (znb (se_c λ_=>zad)) zna) (zae (zbm zdm (zac 6) (zhs (zae (zac 7) zar))) (zae (zbm zdm (zhs (zae (zac 7) zar)) (zac 6)) zar)))))) (zay (zat (zag (se_c λ_=>zad)) zbb))) (by decide)) (zik (zag (zbm zoy (zcx (zae (zac 3) (zae (zac 4) (zae (zac 5) (zae (zac 10) zar))))) (zhs (zae (se_c λ_=>zbg) (zae (se_c λ_=>zbg) (zae (se_c λ_=>zhf) zar)))))))) zgu) (zas (zbc (zay (zat (zag (zha zid (zae (zac 6) zar))) zbb)) (by decide)) (zas (zbc (zag (zbm zdm (zbm zxh (zzd (zac 6) zna (znb (zac 9))) (zhs (zae (zac 7) zar))) (zzd (zac 6) (znb (zbm zdm (zac 9) (se_c λ_=>zad))) zna))) (by decide)) (zas (zjq (zhd (zajf (st_t (zbm zoy (zac 1) (se_c λ_=>zad))) (st_t (zbm zakt (zbm zdm (zac 9) (se_c λ_=>zad)) (zha zid (zae (zac 6) zar)))))) (zbc (zag (zbm zxh (zzd (zac 10) zna (znb (zpg (se_c λ_=>zad)))) (zhs (zae (zac 8) zar)))) (by decide)) zgu) (zik (zag (zbm zoy (zcx (zae (zac 3) (zae (zac 4) (zae (zac 5) (zae (zac 10) zar))))) (zhs (zae (se_c λ_=>zbg) (zae (se_c λ_=>zbg) (zae (zac 7) zar))))))))))))))) h
end
theorem zcd{w:OF}{a b:EF}{env:DEnv}{x y:Val}{d:PyData}{fr:Bool}(h1:a env=some x)(h2:b env=some y)(h3:w x.d y.d=some (d,fr)):eOp w a b env=some ⟨d,fr,bsOf d (x.bs++y.bs)⟩:=by unfold eOp;rw[h1,h2];show((w x.d y.d).bind _)=_;rw[h3];rfl
structure PenB(n:Nat)(st:Pen):Prop where
 few:st.cells.length<=63
 lo:0<=st.cnt
 hi:st.cnt+n<=1000000
theorem PenB.mono{n m:Nat}{st:Pen}(h:PenB m st)(l:n<=m):PenB n st:=⟨h.few,h.lo,by have:=h.hi;omega⟩
noncomputable abbrev drE(k:Int)(s:Sl):DEnv:=[.no,.pl (.int k),s]
noncomputable abbrev drC:TFr Pen:=qAnd (qB (rOp ltD (rGet 1) (zah (eOp powB (eC (.int 10)) (eC (.int 18)))))) zrn
noncomputable abbrev drB:SFr Pen:=rPut 1 (rOp modD zadl (zah (eOp powB (eOp powB (eC (.int 10)) (eC (.int 50))) (eC (.int 8)))))
theorem zaqf(env:DEnv):eOp powB (eC (.int 10)) (eC (.int 18)) env=some ⟨.int 1000000000000000000,false,[]⟩:=by
 have e:powB (.int 10) (.int 18)=some (.int 1000000000000000000,false):=by
  unfold powB intD
  dsimp only
  rw[if_pos (by decide +kernel)]
  rfl
 exact zcd rfl rfl e
theorem zaqg(env:DEnv):∃N:Int,0<N/\eOp powB (eOp powB (eC (.int 10)) (eC (.int 50))) (eC (.int 8)) env=some ⟨.int N,false,[]⟩:=by
 have e1:powB (.int 10) (.int 50)=some (.int (10 ^ 50),false):=by
  unfold powB intD
  dsimp only
  rw[if_pos (by decide +kernel)]
  rfl
 have e2:powB (.int (10 ^ 50)) (.int 8)=some (.int ((10 ^ 50) ^ 8),false):=by
  unfold powB intD
  dsimp only
  rw[if_pos (by decide +kernel)]
  rfl
 exact⟨(10 ^ 50) ^ 8,by decide +kernel,zcd (zcd rfl rfl e1) rfl e2⟩
theorem zsj{k:Int}{s:Sl}:∀(n:Nat)(st:Pen),st.cells.length<n->st.cells.length<=63->∃st',zjr drC drB n (drE k s) st=some (.nx (drE k s) st')/\st'.cells.length<=63/\st'.cnt=st.cnt
 | 0,st,h,_=>absurd h (Nat.not_lt_zero _)
 | n+1,st,h,hl=>by
  have c1:qB (rOp ltD (rGet 1) (zah (eOp powB (eC (.int 10)) (eC (.int 18))))) (drE k s) st=some (decide (st.acc<1000000000000000000),st):=by
   unfold qB
   rw[zcm (T:=Pen) (x:=⟨.int st.acc,false,[]⟩) (s1:=st) rfl (zbd (zaqf _)) rfl]
   rfl
  have c2:zrn (drE k s) st=some (!st.cells.isEmpty,st):=by unfold zrn;rw[if_pos (by omega)]
  by_cases h1:st.acc<1000000000000000000
  ·have c3:drC (drE k s) st=some (!st.cells.isEmpty,st):=by
    show qAnd _ _ _ _=_
    unfold qAnd
    rw[c1,decide_eq_true h1]
    exact c2
   cases hc:st.cells with
   | nil=>
    refine⟨st,?_,hl,rfl⟩
    unfold zjr
    rw[c3,hc];rfl
   | cons c cs=>
    obtain⟨N,hN,eN⟩:=zaqg (drE k s)
    have b1:drB (drE k s) st=some (.nx (drE k s) ⟨cs,c % N,st.seed,st.cnt⟩):=by
     show rPut _ _ _ _=_
     unfold rPut
     rw[zcm (T:=Pen) (x:=⟨.int c,false,[]⟩) (s1:={st with cells:=cs}) (by unfold zadl;rw[hc]) (zbd eN) (show modD (.int c) (.int N)=some (.int (c % N),false) by unfold modD intD;dsimp only;rw[if_pos (decide_eq_true hN)])]
     rfl
    have hl':cs.length<n:=by rw[hc]at h;exact Nat.lt_of_succ_lt_succ h
    have hl2:cs.length<=63:=by rw[hc]at hl;exact qBg hl
    obtain⟨st',w1,w2,w3⟩:=zsj n (⟨cs,c % N,st.seed,st.cnt⟩:Pen) hl' hl2
    refine⟨st',?_,w2,w3⟩
    unfold zjr
    rw[c3,hc]
    show((drB (drE k s) st).bind _)=_
    rw[b1]
    exact w1
  ·refine⟨st,?_,hl,rfl⟩
   have c3:drC (drE k s) st=some (false,st):=by
    show qAnd _ _ _ _=_
    unfold qAnd
    rw[c1,decide_eq_false h1]
    rfl
   unfold zjr
   rw[c3];rfl
theorem zsk{i j:Int}(h:0<j):modD (.int i) (.int j)=some (.int (i % j),false):=by unfold modD intD;dsimp only;rw[if_pos (decide_eq_true h)]
theorem zyj{i j:Int}(h:0<j)(h2:j<1073741824):zuv (.int i) (.int j)=some (.int (i / j),false):=by unfold zuv intD;dsimp only;rw[if_pos (decide_eq_true ⟨h,h2⟩)]
theorem zub{i j:Int}(h1:-(2 ^ 64)<j)(h2:j<2 ^ 64):mulD (.int i) (.int j)=some (.int (i * j),false):=by unfold mulD;dsimp only;rw[if_pos (.inr ⟨h1,h2⟩)]
theorem zamj{i:Int}(h1:0<=i)(h2:i<2147483647):powB (.int i) (.int 3)=some (.int (i ^ 3),false):=by
 unfold powB intD
 dsimp only
 rw[if_pos ?_]
 ·rfl
 ·rw[qr]
  refine⟨by decide,decide_eq_true ?_⟩
  have:i.natAbs<2147483647:=by omega
  exact qg this (by decide +kernel)
theorem zaqh{n:Nat}{st:Pen}(h:PenB (n+1) st){k:Int}(k1:1<=k)(k2:k<=1000):∃r st',zal [.int k] st=some (.int r,false,st')/\0<=r/\r<k/\PenB n st':=by
 obtain⟨s1,w1,l1,c1⟩:=zsj (k:=k) (s:=.no) 1000 st (by have:=h.few;omega) h.few
 have lo:0<=s1.cnt:=by rw[c1];exact h.lo
 have hi:s1.cnt+(n+1:Nat)<=1000000:=by rw[c1];exact h.hi
 have t1:qB (rOp geD (rGet 1) (zah (eOp powB (eC (.int 10)) (eC (.int 18))))) (drE k .no) s1=some (decide (1000000000000000000<=s1.acc),s1):=by
  unfold qB
  rw[zcm (T:=Pen) (x:=⟨.int s1.acc,false,[]⟩) (s1:=s1) rfl (zbd (zaqf _)) rfl]
  rfl
 by_cases hA:1000000000000000000<=s1.acc
 ·rw[decide_eq_true hA]at t1
  refine⟨s1.acc % k,{s1 with acc:=s1.acc / k},?_,qBt _ (by omega),qBa _ (by omega),⟨l1,lo,by show s1.cnt+(n:Int)<=_;omega⟩⟩
  refine ziu (env:=drE k .no) rfl (zap w1 (zto (zqn t1 ?_)))
  refine zap (e1:=drE k (.pl (.int (s1.acc % k)))) (s1:=s1) (zbj (zcm (T:=Pen) (x:=⟨.int s1.acc,false,[]⟩) (y:=⟨.int k,false,[]⟩) (s1:=s1) rfl rfl (zsk (by omega)))) ?_
  refine zap (e1:=drE k (.pl (.int (s1.acc % k)))) (s1:={s1 with acc:=s1.acc / k}) ?_ rfl
  unfold rPut
  rw[zcm (T:=Pen) (x:=⟨.int s1.acc,false,[]⟩) (y:=⟨.int k,false,[]⟩) (s1:=s1) rfl rfl (zyj (by omega) (by omega))]
  rfl
 ·rw[decide_eq_false hA]at t1
  have m1:0<=(s1.seed * 48271+(s1.cnt+1) * (s1.cnt+1)+11) % 2147483647:=qBt _ (by decide)
  have m2:(s1.seed * 48271+(s1.cnt+1) * (s1.cnt+1)+11) % 2147483647<2147483647:=qBa _ (by decide)
  generalize hsd:(s1.seed * 48271+(s1.cnt+1) * (s1.cnt+1)+11) % 2147483647=sd at m1 m2
  refine⟨sd ^ 3 % 2305843009213693951 / 64 % k,⟨s1.cells,s1.acc,sd,s1.cnt+1⟩,?_,qBt _ (by omega),qBa _ (by omega),⟨l1,by show 0<=s1.cnt+1;omega,by show s1.cnt+1+(n:Int)<=_;omega⟩⟩
  refine ziu (env:=drE k .no) rfl (zap w1 (zap (zmf t1 rfl) ?_))
  refine zap (e1:=drE k .no) (s1:={s1 with cnt:=s1.cnt+1}) rfl ?_
  refine zap (e1:=drE k .no) (s1:=⟨s1.cells,s1.acc,sd,s1.cnt+1⟩) ?_ ?_
  ·unfold rPut
   rw[zcm (T:=Pen) (x:=⟨.int (s1.seed * 48271+(s1.cnt+1) * (s1.cnt+1)+11),false,[]⟩) (y:=⟨.int 2147483647,false,[]⟩) (s1:={s1 with cnt:=s1.cnt+1})
    (zcm (T:=Pen) (x:=⟨.int (s1.seed * 48271+(s1.cnt+1) * (s1.cnt+1)),false,[]⟩) (y:=⟨.int 11,false,[]⟩) (s1:={s1 with cnt:=s1.cnt+1})
     (zcm (T:=Pen) (x:=⟨.int (s1.seed * 48271),false,[]⟩) (y:=⟨.int ((s1.cnt+1) * (s1.cnt+1)),false,[]⟩) (s1:={s1 with cnt:=s1.cnt+1})
      (zcm (T:=Pen) (x:=⟨.int s1.seed,false,[]⟩) (y:=⟨.int 48271,false,[]⟩) (s1:={s1 with cnt:=s1.cnt+1}) rfl rfl (zub (by decide) (by decide)))
      (zcm (T:=Pen) (x:=⟨.int (s1.cnt+1),false,[]⟩) (y:=⟨.int (s1.cnt+1),false,[]⟩) (s1:={s1 with cnt:=s1.cnt+1}) rfl rfl (zub (by omega) (by omega))) rfl) rfl rfl) rfl (zsk (by decide))]
   rw[hsd];rfl
  ·refine zkg (zcm (T:=Pen) (x:=⟨.int (sd ^ 3 % 2305843009213693951 / 64),false,[]⟩) (y:=⟨.int k,false,[]⟩) (s1:=⟨s1.cells,s1.acc,sd,s1.cnt+1⟩) ?_ rfl (zsk (by omega)))
   refine zcm (T:=Pen) (x:=⟨.int (sd ^ 3 % 2305843009213693951),false,[]⟩) (y:=⟨.int 64,false,[]⟩) (s1:=⟨s1.cells,s1.acc,sd,s1.cnt+1⟩) ?_ rfl (zyj (by decide) (by decide))
   refine zcm (T:=Pen) (x:=⟨.int (sd ^ 3),false,[]⟩) (y:=⟨.int 2305843009213693951,false,[]⟩) (s1:=⟨s1.cells,s1.acc,sd,s1.cnt+1⟩) ?_ rfl (zsk (by decide))
   exact zcm (T:=Pen) (x:=⟨.int sd,false,[]⟩) (y:=⟨.int 3,false,[]⟩) (s1:=⟨s1.cells,s1.acc,sd,s1.cnt+1⟩) rfl rfl (zamj m1 m2)
section
variable{A0 A2 A6 s8 s9:Sl}{ds:List PyData}{xs:List Str}{r:Int}{n at_:Nat}
end
noncomputable def Hd(d:PyData)(s:Sl):Prop:=s=.pl d\/s=.ac d
theorem e_hd{env:DEnv}{i:Nat}{d:PyData}{s:Sl}(h:env[i]?=some s)(hs:Hd d s):∃bs,eVar i env=some ⟨d,false,bs⟩:=by
 unfold eVar
 rw[h]
 rcases hs with rfl|rfl
 ·exact⟨_,rfl⟩
 ·exact⟨_,rfl⟩
section
variable{A0 A2 A6 s8 s9:Sl}{ds:List PyData}{xs:List Str}{r:Int}{n at_:Nat}
end
theorem zwk:∀(l:List (List Str)),(∀ks∈l,LowS ks)->qAQ (l.map zai)=true/\qu (l.map zai)<=1
 | [],_=>⟨rfl,by simp[qu]⟩
 | ks::l,h=>by
  obtain⟨h1,h2⟩:=zwk l λx hx=>h x (qR _ hx)
  obtain⟨g1,g2⟩:=zoj ks (h ks qc)
  constructor
  ·rw[qAE]
   simp only[qAQ,zai,PyData.canLay0,qr]
   exact⟨g1,h1⟩
  ·rw[qAE]
   simp only[qu,zai,PyData.depth]
   rw[g2]
   have:qu (l.map λks=>PyData.tuple (ks.map .str))<=1:=h2
   omega
theorem zyk{l:List (List Str)}(h:∀ks∈l,LowS ks):qx (.list (l.map zai))=true:=by
 obtain⟨h1,h2⟩:=zwk l h
 unfold qx
 rw[qr]
 refine⟨by simpa [PyData.canLay0]using h1,decide_eq_true ?_⟩
 simp only[PyData.depth]
 omega
theorem zaep(l:List (List Str))(ks:List Str):((l.map zai).any λe=>qk e (zai ks))=decide (ks∈l):=by
 rw[List.any_map,qAx,List.any_eq_true,decide_eq_true_iff]
 have e:∀a b:List Str,qk (zai a) (zai b)=(a==b):=λa b=>by
  unfold zai
  simp only[qk]
  exact zzm a b
 constructor
 ·rintro⟨y,hy,h⟩
  have h:qk (zai y) (zai ks)=true:=h
  rw[e,beq_iff_eq]at h
  rw[<- h];exact hy
 ·intro h
  refine⟨ks,h,?_⟩
  show qk (zai ks) (zai ks)=true
  rw[e];exact beq_self_eq_true _
theorem zamk{neg:Bool}{l:List (List Str)}{ks:List Str}(h:∀x∈l,LowS x)(hk:LowS ks):inS neg (zai ks) (.list (l.map zai))=some (.bool (if neg then !decide (ks∈l)else decide (ks∈l)),false):=by
 unfold inS
 simp only[zft]
 rw[if_pos ⟨zvx hk,zyk h⟩,zaep]
noncomputable abbrev Rule:=Str×List Str
theorem zqk{xs:List Str}(h:∀x∈xs,qA2 x=true):qx (zaq xs)=true:=by
 obtain⟨h1,h2⟩:=zoj xs h
 unfold qx zaq
 rw[qr]
 refine⟨h1,decide_eq_true ?_⟩
 show qu (xs.map .str)+1<=64
 omega
theorem zlu{α:Type}{l:List α}{i:Int}(h0:0<=i)(h1:i<l.length):∃x,atI l i=some x/\x∈l:=by
 have hn:i.toNat<l.length:=by omega
 refine⟨l[i.toNat],?_,qAG _⟩
 have:=zgq (xs:=l) (j:=i.toNat) (qF hn)
 rw[show((i.toNat:Nat):Int)=i by omega]at this
 exact this
theorem zia{n:Nat}{a:EFr Pen}{env:DEnv}{st s1:Pen}{k:Int}{bs:List Nat}(ha:a env st=some (⟨.int k,false,bs⟩,s1))(h:PenB (n+1) s1)(k1:1<=k)(k2:k<=1000) :
  ∃r s2,zav 2 zal (zau a rNil) env st=some (vi r,s2)/\0<=r/\r<k/\PenB n s2:=by
 obtain⟨r,s2,e,r0,r1,hb⟩:=zaqh h k1 k2
 exact⟨r,s2,zdu (zbx ha rfl) rfl e,r0,r1,hb⟩
noncomputable abbrev letE:EFr Pen:=rOp ixD (zah (eVar 2)) (zav 2 zal (zau (zah (eC (.int 26))) rNil))
theorem ix_abc{i:Int}(h0:0<=i)(h1:i<26):ixD (.str abc) (.int i)=some (.str (ltr i),false):=by
 unfold ixD
 dsimp only
 rw[if_pos (by rw[zxp];decide),zajs h0 h1]
 simp[ltr]
theorem zaeq:∀(l:List Nat)(n:Nat)(st:Pen),PenB (n+l.length) st->∃(cs:List Int)(st':Pen),zgw (gN 0) zbv letE [.no,.no,.pl (.str abc)] (l.map λ(k:Nat)=>PyData.int (k:Int)) st=some (cs.map (λc=>.str (ltr c)),st')/\cs.length=l.length/\(∀c∈cs,0<=c/\c<26)/\PenB n st'
 | [],n,st,h=>⟨[],st,rfl,rfl,(λc hc=>nomatch hc),h⟩
 | k::l,n,st,h=>by
  obtain⟨r,s2,e,r0,r1,hb⟩:=zia (n:=n+l.length) (a:=zah (eC (.int 26))) (env:=[.pl (.int (k:Int)),.no,.pl (.str abc)]) (st:=st) (s1:=st) (bs:=[]) rfl (h.mono (by simp;omega)) (by decide) (by decide)
  obtain⟨cs,st',e2,l2,c2,h2⟩:=zaeq l n s2 hb
  refine⟨r::cs,st',?_,by simp[l2],λc hc=>?_,h2⟩
  ·have e1:letE [.pl (.int (k:Int)),.no,.pl (.str abc)] st=some (vs (ltr r),s2):=zcm (T:=Pen) (x:=vs abc) (y:=vi r) (s1:=st) rfl e (ix_abc r0 r1)
   rw[qAE]
   unfold zgw
   show((letE [.pl (.int (k:Int)),.no,.pl (.str abc)] st).bind _)=_
   rw[e1]
   show((zgw (gN 0) zbv letE [.no,.no,.pl (.str abc)] (l.map λ(k:Nat)=>PyData.int (k:Int)) s2).map _)=_
   rw[e2];rfl
  ·rcases qi.mp hc with rfl|hc
   ·exact⟨r0,r1⟩
   ·exact c2 c hc
theorem zzs:∀(xs:List Str),zvl.unT (xs.map .str)=some xs
 | []=>rfl
 | x::xs=>by
  show((zvl.unT (xs.map .str)).map _)=_
  rw[zzs xs];rfl
theorem zaij{cs:List Int}(h:cs.length<=3)(hc:∀c∈cs,0<=c/\c<26):∃w:Str,zvl (.list (cs.map λc=>.str (ltr c)))=some (.str w)/\Low w/\w.length<=3:=by
 have e:cs.map (λc=>PyData.str (ltr c))=(cs.map ltr).map .str:=by rw[qAr];rfl
 have hlow:∀{i:Int},0<=i->i<26->97+i.toNat<128:=λ{i} h0 h1=>by omega
 have e0:(Str.ofString "").cps=#[]:=rfl
 have key:Low (zmd (cs.map ltr))/\(zmd (cs.map ltr)).length<=3/\(cs.map ltr).foldl (λn z=>n+z.length+0) 0<=3:=by
  match cs,h,hc with
  | [],_,_=>exact⟨λc hc=>(nomatch hc),by decide,by decide⟩
  | [a],_,hc=>
   have ha:=hc a (by simp)
   exact⟨λc hc'=>Low.ltr ha.1 ha.2 c hc',by show(ltr a).length<=3;exact qBN (qBO 1),by show 0+(ltr a).length+0<=3;exact qBN (qBO 1)⟩
  | [a,b],_,hc=>
   have ha:=hc a (by simp);have hb:=hc b (by simp)
   refine⟨λc hc'=>?_,?_,?_⟩
   ·have:c∈(ltr a).cps.toList++(ltr b).cps.toList:=by simpa [zmd,Builtin.Str.glued,e0]using hc'
    rcases qd.mp this with z|z
    ·exact Low.ltr ha.1 ha.2 c z
    ·exact Low.ltr hb.1 hb.2 c z
   ·show((ltr a).cps++("":Str).cps++(ltr b).cps).size<=3
    rw[qAn,qAn]
    exact qBO 2
   ·show 0+(ltr a).length+0+(ltr b).length+0<=3
    exact qBO 2
  | [a,b,c],_,hc=>
   have ha:=hc a (by simp);have hb:=hc b (by simp);have hcc:=hc c (by simp)
   refine⟨λd hd'=>?_,?_,?_⟩
   ·have:d∈(ltr a).cps.toList++((ltr b).cps.toList++(ltr c).cps.toList):=by simpa [zmd,Builtin.Str.glued,e0]using hd'
    rcases qd.mp this with z|z
    ·exact Low.ltr ha.1 ha.2 d z
    ·rcases qd.mp z with z|z
     ·exact Low.ltr hb.1 hb.2 d z
     ·exact Low.ltr hcc.1 hcc.2 d z
   ·show((ltr a).cps++("":Str).cps++(ltr b).cps++("":Str).cps++(ltr c).cps).size<=3
    rw[qAn,qAn,qAn,qAn]
    exact qL 3
   ·show 0+(ltr a).length+0+(ltr b).length+0+(ltr c).length+0<=3
    exact qL 3
  | a::b::c::d::r,h,_=>exact absurd h (by simp)
 refine⟨zmd (cs.map ltr),?_,key.1,key.2.1⟩
 rw[e]
 show((zvl.unT ((cs.map ltr).map .str)).bind _)=_
 rw[zzs]
 show(if _/\_ then _ else _)=_
 rw[if_pos ⟨qAC key.2.2 (by decide),qAC key.2.1 (by decide)⟩]
theorem zaml{A:List Str}(h:∀x∈A,Low x):neD (zaq A) (.list [])=some (.bool (!A.isEmpty),false):=by
 unfold neD eqOk
 have s1:=zqk (xs:=A) λx hx=>zmj (h x hx)
 have s2:qx (.list [])=true:=zqk (xs:=[]) λx hx=>by cases hx
 rw[s1,s2,if_pos (by simp)]
 cases A with
 | nil=>rfl
 | cons a A=>rfl
theorem zyl{A:List Str}(h:A.length<=25):∃i:Nat,i<26/\ltr (i:Int)∉A:=by
 refine qCB λhn=>?_
 have all:∀i:Nat,i<26->ltr (i:Int)∈A:=λi hi=>qCB λz=>hn ⟨i,hi,z⟩
 have nd:((List.range 26).map λ(i:Nat)=>ltr (i:Int)).Nodup:=zpx λa b ha hb e=>by
  have:=congrArg (λx:Str=>x.cps.toList) e
  have:[97+a]=[97+b]:=by simpa [ltr]using this
  have:97+a=97+b:=by simpa using this
  omega
 have:=zut _ A nd λx hx=>by
  obtain⟨i,hi,rfl⟩:=qv.mp hx
  exact all i (qAk.mp hi)
 rw[qD,qT]at this
 omega
theorem zaer{A:List Str}(h:A.length<=25){env:DEnv}(h1:env[1]?=some (.pl (zaq A)))(h2:env[2]?=some (.pl (.str abc))) :
  ∃x:Str,eOp ixD (zen ["_law_sign"] [1] (zpi (eVar 2)) (gN 0) (zbs (eOp (inD true) (eVar 0) (eVar 1))) (eVar 0)) (eC (.int 0)) env=some (vs x)/\Low x/\x.length<=8/\x∉A:=by
 have it:zpi (eVar 2) env=some (abc.cps.toList.map λc=>PyData.str ⟨#[c]⟩,[]):=by
  unfold zpi eVar
  rw[h2];rfl
 have eb:envB ["_law_sign"] [1] env=[.no,.pl (zaq A)]:=by
  unfold envB
  simp[qK,h1]
  rfl
 have cm:zem (gN 0) (zbs (eOp (inD true) (eVar 0) (eVar 1))) (eVar 0) (envB ["_law_sign"] [1] env) (abc.cps.toList.map λc=>PyData.str ⟨#[c]⟩)=some ((abc.cps.toList.filter λc=>!decide ((⟨#[c]⟩:Str)∈A)).map λc=>PyData.str ⟨#[c]⟩):=by
  rw[eb]
  refine zki (λc=>!decide ((⟨#[c]⟩:Str)∈A)) λc hc=>⟨[.pl (.str ⟨#[c]⟩),.pl (zaq A)],rfl,zgn (e_in (neg:=true) rfl rfl),λ_=>⟨_,rfl,rfl⟩⟩
 obtain⟨i,hi,hn⟩:=zyl h
 have lc:ltr (i:Int)=⟨#[97+i]⟩:=rfl
 have ei:=qAK.mp zaei i (qAk.mpr hi)
 have mem:97+i∈abc.cps.toList.filter λc=>!decide ((⟨#[c]⟩:Str)∈A):=by
  refine qBF.mpr ⟨qAv (eq_of_beq ei),?_⟩
  rw[<- lc,decide_eq_false hn];rfl
 cases hf:abc.cps.toList.filter λc=>!decide ((⟨#[c]⟩:Str)∈A)with
 | nil=>rw[hf]at mem;cases mem
 | cons c cs=>
  rw[hf]at cm
  refine⟨⟨#[c]⟩,zcd (zin it (by rw[qD];show abc.length<_;rw[zxp];decide) cm) rfl ?_,λd hd=>?_,by show 1<=8;decide,λhin=>?_⟩
  ·show((atI (List.map (λc=>PyData.str ⟨#[c]⟩) (c::cs)) ((0:Nat):Int)).map _)=_
   rw[zaqc (λc:Nat=>PyData.str ⟨#[c]⟩) (l:=c::cs) (n:=0) rfl];rfl
  ·have hd:d=c:=by simpa using hd
   have hm:c∈abc.cps.toList:=(qBF.mp (by rw[hf];exact qc ..):_/\_).1
   have al:∀z∈abc.cps.toList,z<128:=by decide +kernel
   rw[hd]
   exact al c hm
  ·have h3:=(qBF.mp (by rw[hf];exact qc ..):c∈abc.cps.toList/\(!decide ((⟨#[c]⟩:Str)∈A))=true).2
   rw[decide_eq_true hin]at h3
   cases h3
noncomputable abbrev naE(A:List Str)(s3 s4 s5 s6:Sl):DEnv:=[.no,.pl (zaq A),.pl (.str abc),s3,s4,s5,s6]
theorem zary{A:List Str}(env:DEnv)(h:env[1]?=some (.pl (zaq A)))(st:Pen):zah (eCB lenD (zab (eVar 1) aNil)) env st=some (vi (A.length:Int),st):=by
 have:eVar 1 env=some ⟨.list (A.map .str),false,[]⟩:=by unfold eVar;rw[h];rfl
 have:=zaqb this
 rw[qD]at this
 exact zbd this
noncomputable abbrev poE:EF:=eOp addD (eOp repD (eLst (zab (eVar 3) aNil)) (eC (.int 5))) (eLst (zab (eC (.str "none")) (zab (eC (.str "rule")) (zab (eC (.str "quarrel")) (zab (eC (.str "kind")) (zab (eC (.str "own")) aNil))))))
noncomputable abbrev znl(w:Str):List Str:=[w,w,w,w,w,"none","rule","quarrel","kind","own"]
theorem zaik:∀x∈(["none","rule","quarrel","kind","own"]:List Str),x.cps.toList.all (λc=>decide (c<128))=true/\x.length<=8:=by decide +kernel
theorem zail{w:Str}(h:Low w){m:Nat}(hl:w.length<=m)(hm:8<=m):∀x∈znl w,Low x/\x.length<=m:=λx hx=>by
 have five:∀x∈(["none","rule","quarrel","kind","own"]:List Str),Low x/\x.length<=m:=λx hx=>by
  obtain⟨h1,h2⟩:=zaik x hx
  exact⟨λc hc=>of_decide_eq_true (qAK.mp h1 c hc),qAC h2 hm⟩
 rcases qd.mp (show x∈[w,w,w,w,w]++(["none","rule","quarrel","kind","own"]:List Str)from hx)with hx|hx
 ·have:x=w:=by simpa using hx
  exact⟨this▸h,this▸hl⟩
 ·exact five x hx
noncomputable abbrev naB:SFr Pen:=rIf (zit (znx (zbs (eOp neD (eVar 1) (eLst aNil))) (zbs (eOp ltD (eVar 4) (eC (.int 2)))))) (rSeq (rSet 5 (rOp ixD (zah (eVar 1)) (zav 2 zal (zau (zah (eCB lenD (zab (eVar 1) aNil))) rNil))))
  (rSet 3 (zah (eSl (eOp ixD (eLst (zab (eOp addD (eVar 5) (eVar 3)) (zab (eOp addD (eVar 3) (eVar 5)) aNil))) (eVar 4)) zih (zhb (eC (.int 8))))))) rNx
noncomputable abbrev naF(A:List Str)(w:Str)(r3:Int):DEnv:=naE A (.pl (.str w)) (.pl (.int r3)) .no .no
theorem zzt{n:Nat}{st:Pen}(h:PenB (n+7) st){A:List Str}{L:Nat}(hl:A.length<=25)(hA:∀x∈A,Low x/\x.length<=L)(hL:L<=1000) :
  ∃x st',zca [zaq A] st=some (.str x,false,st')/\Low x/\x.length<=L+8/\PenB n st'/\x∉A:=by
 obtain⟨r1,s1,e1,a1,b1,p1⟩:=zia (n:=n+6) (a:=zah (eC (.int 3))) (env:=naE A .no .no .no .no) (st:=st) (s1:=st) (bs:=[]) rfl h (by decide) (by decide)
 obtain⟨cs,s2,e2,l2,c2,p2⟩:=zaeq (List.range (1+r1).toNat) (n+3) s1 (p1.mono (by rw[qT];omega))
 obtain⟨w,ew,lw,nw⟩:=zaij (cs:=cs) (by rw[l2,qT];omega) c2
 have x1:zfy (zau (rOp addD (zah (eC (.int 1))) (zav 2 zal (zau (zah (eC (.int 3))) rNil))) rNil) (naE A .no .no .no .no) st=some ((List.range (1+r1).toNat).map (λ(k:Nat)=>PyData.int (k:Int)),[],s1):=by
  unfold zfy
  rw[zbx (T:=Pen) (x:=vi (1+r1)) (xs:=[]) (s2:=s1) (zcm (T:=Pen) (x:=vi 1) (y:=vi r1) (s1:=st) rfl e1 rfl) rfl]
  show(if _/\_ then _ else _)=_
  rw[if_pos ⟨by omega,by omega⟩,zkj]
 have x2:zvm (zls ["_law_k"] [0,2] (zfy (zau (rOp addD (zah (eC (.int 1))) (zav 2 zal (zau (zah (eC (.int 3))) rNil))) rNil)) (gN 0) zbv letE) (naE A .no .no .no .no) st=some (vs w,s2):=by
  unfold zvm zls
  rw[x1]
  show(((if _<100000 then _ else _):Option (Val×Pen)).bind _)=_
  rw[if_pos (by rw[qD,qT];omega)]
  show(((zgw (gN 0) zbv letE [.no,.no,.pl (.str abc)] ((List.range (1+r1).toNat).map (λ(k:Nat)=>PyData.int (k:Int))) s1).map _).bind _)=_
  rw[e2]
  show((zvl (.list (cs.map λc=>.str (ltr c)))).map _)=_
  rw[ew];rfl
 obtain⟨r3,s3,e3,a3,b3,p3⟩:=zia (n:=n+2) (a:=zah (eC (.int 4))) (env:=naE A (.pl (.str w)) .no .no .no) (st:=s2) (s1:=s2) (bs:=[]) rfl p2 (by decide) (by decide)
 have step4:∃(w2:Str)(s4:Pen)(sb:Sl),naB (naF A w r3) s3=some (.nx (naE A (.pl (.str w2)) (.pl (.int r3)) sb .no) s4)/\Low w2/\w2.length<=L+8/\PenB (n+1) s4:=by
  have t1:zbs (eOp neD (eVar 1) (eLst aNil)) (naF A w r3)=some (!A.isEmpty):=zgn (zcd (x:=⟨zaq A,false,[]⟩) (y:=⟨.list [],true,[]⟩) rfl rfl (zaml λx hx=>(hA x hx).1))
  have t2:zbs (eOp ltD (eVar 4) (eC (.int 2))) (naF A w r3)=some (decide (r3<2)):=rfl
  have no:∀b,znx (zbs (eOp neD (eVar 1) (eLst aNil))) (zbs (eOp ltD (eVar 4) (eC (.int 2)))) (naF A w r3)=some b->b=false->∃(w2:Str)(s4:Pen)(sb:Sl),naB (naF A w r3) s3=some (.nx (naE A (.pl (.str w2)) (.pl (.int r3)) sb .no) s4)/\Low w2/\w2.length<=L+8/\PenB (n+1) s4:=λb eb hb=>by
   subst hb
   exact⟨w,s3,.no,zmf (zcn eb) rfl,lw,by omega,p3.mono (by omega)⟩
  cases hE:A.isEmpty with
  | true=>exact no false (by unfold znx;rw[t1,hE];rfl) rfl
  | false=>
   by_cases hr:r3<2
   ·have tt:znx (zbs (eOp neD (eVar 1) (eLst aNil))) (zbs (eOp ltD (eVar 4) (eC (.int 2)))) (naF A w r3)=some true:=by
     unfold znx;rw[t1,hE,t2,decide_eq_true hr];rfl
    have hpos:0<A.length:=by
     cases A with
     | nil=>cases hE
     | cons a A=>simp
    obtain⟨r4,s4,e4,a4,b4,p4⟩:=zia (n:=n+1) (a:=zah (eCB lenD (zab (eVar 1) aNil))) (env:=naF A w r3) (st:=s3) (bs:=[]) (zary _ rfl s3) p3 (by omega) (by omega)
    obtain⟨d,ed,md⟩:=zlu (l:=A.map PyData.str) a4 (by rw[qD];exact b4)
    obtain⟨b,hb,rfl⟩:=qv.mp md
    have ix:ixD (zaq A) (.int r4)=some (.str b,false):=by
     show((atI (A.map PyData.str) r4).map _)=_
     rw[ed];rfl
    have q1:rSet 5 (rOp ixD (zah (eVar 1)) (zav 2 zal (zau (zah (eCB lenD (zab (eVar 1) aNil))) rNil))) (naF A w r3) s3=some (.nx (naE A (.pl (.str w)) (.pl (.int r3)) (.pl (.str b)) .no) s4):=zbj (zcm (T:=Pen) (x:=⟨zaq A,false,[]⟩) (s1:=s3) rfl e4 ix)
    have lb:=hA b hb
    have ad:∀{x y:Str},x.length<=1000->y.length<=1000->addD (.str x) (.str y)=some (.str (x++y),false):=λ{x y} h1 h2=>by
     unfold addD
     dsimp only
     rw[if_pos (by omega)]
    have f1:eOp addD (eVar 5) (eVar 3) (naE A (.pl (.str w)) (.pl (.int r3)) (.pl (.str b)) .no)=some (vs (b++w)):=zcd (x:=vs b) (y:=vs w) rfl rfl (ad (by omega) (by omega))
    have f2:eOp addD (eVar 3) (eVar 5) (naE A (.pl (.str w)) (.pl (.int r3)) (.pl (.str b)) .no)=some (vs (w++b)):=zcd (x:=vs w) (y:=vs b) rfl rfl (ad (by omega) (by omega))
    have f3:eLst (zab (eOp addD (eVar 5) (eVar 3)) (zab (eOp addD (eVar 3) (eVar 5)) aNil)) (naE A (.pl (.str w)) (.pl (.int r3)) (.pl (.str b)) .no)=some ⟨.list [.str (b++w),.str (w++b)],true,[]⟩:=by
     unfold eLst
     rw[zcc f1 (zic f2)];rfl
    have f4:∃y:Str,eOp ixD (eLst (zab (eOp addD (eVar 5) (eVar 3)) (zab (eOp addD (eVar 3) (eVar 5)) aNil))) (eVar 4) (naE A (.pl (.str w)) (.pl (.int r3)) (.pl (.str b)) .no)=some (vs y)/\Low y/\y.length<=L+3:=by
     rcases(show r3=0\/r3=1 by omega)with rfl|rfl
     ·exact⟨b++w,zcd f3 (y:=vi 0) rfl rfl,lb.1.app lw,by rw[zaej];omega⟩
     ·exact⟨w++b,zcd f3 (y:=vi 1) rfl rfl,lw.app lb.1,by rw[zaej];omega⟩
    obtain⟨y,ey,ly,ny⟩:=f4
    refine⟨Txt.slice y none (some 8),s4,.pl (.str b),zqn (zcn tt) (zap q1 (zbj (zbd (zarw ey rfl rfl (by omega))))),ly.slice _ _,qAC (Txt.slice_le y none (some 8)) (by omega),p4⟩
   ·exact no false (by unfold znx;rw[t1,hE,t2,decide_eq_false hr];rfl) rfl
 obtain⟨w2,s4,sb,e4,lw2,nw2,p4⟩:=step4
 have e5:poE (naE A (.pl (.str w2)) (.pl (.int r3)) sb .no)=some ⟨zaq (znl w2),true,[]⟩:=rfl
 obtain⟨r6,s6,e6,a6,b6,p6⟩:=zia (n:=n) (a:=zah (eC (.int 10))) (env:=naE A (.pl (.str w2)) (.pl (.int r3)) sb (.ac (zaq (znl w2)))) (st:=s4) (s1:=s4) (bs:=[]) rfl p4 (by decide) (by decide)
 obtain⟨d,ed,md⟩:=zlu (l:=(znl w2).map PyData.str) a6 (by rw[qD];exact b6)
 obtain⟨w3,hw3,rfl⟩:=qv.mp md
 obtain⟨lw3,nw3⟩:=zail lw2 nw2 (by omega) w3 hw3
 have ix:ixD (zaq (znl w2)) (.int r6)=some (.str w3,false):=by
  show((atI ((znl w2).map PyData.str) r6).map _)=_
  rw[ed];rfl
 have last:∃x:Str,rIf (zit (zbs (eOp (inD false) (eVar 3) (eVar 1)))) (rSet 3 (zah (eOp ixD (zen ["_law_sign"] [1] (zpi (eVar 2)) (gN 0) (zbs (eOp (inD true) (eVar 0) (eVar 1))) (eVar 0)) (eC (.int 0))))) rNx (naE A (.pl (.str w3)) (.pl (.int r3)) sb (.ac (zaq (znl w2)))) s6=some (.nx (naE A (.pl (.str x)) (.pl (.int r3)) sb (.ac (zaq (znl w2)))) s6)/\Low x/\x.length<=L+8/\x∉A:=by
  have t:zbs (eOp (inD false) (eVar 3) (eVar 1)) (naE A (.pl (.str w3)) (.pl (.int r3)) sb (.ac (zaq (znl w2))))=some (decide (w3∈A)):=zgn (e_in (neg:=false) rfl rfl)
  by_cases hm:w3∈A
  ·rw[decide_eq_true hm]at t
   obtain⟨x,ex,lx,nx,mx⟩:=zaer hl (env:=naE A (.pl (.str w3)) (.pl (.int r3)) sb (.ac (zaq (znl w2)))) rfl rfl
   exact⟨x,zqn (zcn t) (zbj (zbd ex)),lx,by omega,mx⟩
  ·rw[decide_eq_false hm]at t
   exact⟨w3,zmf (zcn t) rfl,lw3,nw3,hm⟩
 obtain⟨x,ex,lx,nx,mx⟩:=last
 refine⟨x,s6,ziu (env:=[.no,.pl (zaq A),.no,.no,.no,.no,.no]) rfl ?_,lx,nx,p6,mx⟩
 refine zap (e1:=naE A .no .no .no .no) (s1:=st) rfl ?_
 refine zap (zbj x2) ?_
 refine zap (e1:=naE A (.pl (.str w)) (.pl (.int r3)) .no .no) (zbj e3) ?_
 refine zap e4 ?_
 refine zap (e1:=naE A (.pl (.str w2)) (.pl (.int r3)) sb (.ac (zaq (znl w2)))) (zbj (zbd e5)) ?_
 refine zap (e1:=naE A (.pl (.str w3)) (.pl (.int r3)) sb (.ac (zaq (znl w2)))) (zbj (zcm (T:=Pen) (x:=⟨zaq (znl w2),false,[6]⟩) (s1:=s4) rfl e6 ix)) ?_
 exact zap ex rfl
theorem zamm{a:EF}{env:DEnv}{i:Int}{bs:List Nat}(ha:a env=some ⟨.int i,false,bs⟩)(h1:-4611686018427387904<=i)(h2:i<4611686018427387904):zcy (zab a aNil) env=some ((List.range i.toNat).map (λ(k:Nat)=>PyData.int (k:Int)),[]):=by
 unfold zcy
 rw[zic ha]
 simp only[qJ]
 rw[if_pos ⟨h1,h2⟩,zkj]
structure WbOk(W:Web)(m:Nat):Prop where
 low:∀p∈W,Low p.1/\p.1.length<=m
 few:∀p∈W,p.2.length<=100
theorem zkt{i:Nat}{g:EFr Pen}{env:DEnv}{st s1:Pen}{ds:List PyData}{d:PyData}{fr:Bool}{bs:List Nat}(he:env[i]?=some (.ac (.list ds)))(hg:g env st=some (⟨d,fr,bs⟩,s1))(hl:ds.length<100000)(hb:i∉bs):rApp i g env st=some (.nx ((frzs env bs).set i (.ac (.list (ds++[d])))) s1):=by
 unfold rApp
 rw[he]
 show((g env st).bind _)=_
 rw[hg]
 show(if _/\_ then _ else _)=_
 rw[if_pos ⟨hl,hb⟩]
noncomputable abbrev wbE(s:Int)(W:Web)(s4 s5 s6 s7:Sl):DEnv:=[.no,.pl (.int s),.ac (webD W),.ac (zaq (nm W)),s4,s5,s6,s7]
noncomputable abbrev wbI:SFr Pen:=(rSeq (rSet 7 (rOp ixD (zah (eVar 3)) (zav 2 zal (zau (zah (eVar 4)) rNil))))
  (rIf (zit (zbs (eOp (inD true) (eVar 7) (eVar 5)))) (rApp 5 (zah (eVar 7))) rNx))
noncomputable abbrev wbT:IFr Pen:=zfy (zau (rCB minD (zau (zah (eVar 4)) (zau (zav 2 zal (zau (zah (eC (.int 5))) rNil)) rNil))) rNil)
noncomputable abbrev wbF(s:Int)(W:Web)(s5 s6 s7:Sl):DEnv:=wbE s W (.pl (.int (W.length:Int))) s5 s6 s7
theorem zaes{n:Nat}{st:Pen}{s:Int}{W:Web}{s6 s7:Sl}(hW:W.length<=100)(h:PenB (n+5) st) :
  ∃(es:List Str)(t6 t7:Sl)(st':Pen),rFor wbT (gN 6) wbI (wbF s W (.ac (zaq [])) s6 s7) st=some (.nx (wbF s W (.ac (zaq es)) t6 t7) st')/\es.length<=4/\PenB n st'/\∀e∈es,e∈nm W:=by
 obtain⟨r,s1,e1,a1,b1,p1⟩:=zia (n:=n+4) (a:=zah (eC (.int 5))) (env:=wbF s W (.ac (zaq [])) s6 s7) (st:=st) (s1:=st) (bs:=[]) rfl h (by decide) (by decide)
 generalize hj:(if r<(W.length:Int)then r else(W.length:Int))=j
 have j0:0<=j/\j<=4/\j<=(W.length:Int):=by
  rw[<- hj];split<;>omega
 have it:wbT (wbF s W (.ac (zaq [])) s6 s7) st=some ((List.range j.toNat).map (λ(k:Nat)=>PyData.int (k:Int)),[],s1):=by
  show zfy _ _ _=_
  unfold zfy
  have ea:rCB minD (zau (zah (eVar 4)) (zau (zav 2 zal (zau (zah (eC (.int 5))) rNil)) rNil)) (wbF s W (.ac (zaq [])) s6 s7) st=some (vi j,s1):=by
   unfold rCB
   rw[zbx (T:=Pen) (x:=vi (W.length:Int)) (xs:=[vi r]) (s1:=st) (s2:=s1) rfl (zbx e1 rfl),<- hj]
   rfl
  rw[zbx (T:=Pen) (x:=vi j) (xs:=[]) (s2:=s1) ea rfl]
  show(if _/\_ then _ else _)=_
  rw[if_pos ⟨by omega,by omega⟩,zkj]
 obtain⟨e',s',lp,es,t6,t7,rfl,hes,hp,hin⟩:=zeo (T:=Pen) (enc:=λ(k:Nat)=>PyData.int (k:Int)) (g:=gN 6) (body:=wbI) (l:=List.range j.toNat) (env:=wbF s W (.ac (zaq [])) s6 s7) (st:=s1)
  (λpre env st=>∃(es:List Str) (t6 t7:Sl),env=wbF s W (.ac (zaq es)) t6 t7/\es.length<=pre.length/\PenB (n+(4 - pre.length)) st/\∀e∈es,e∈nm W)
  ⟨[],s6,s7,rfl,qL _,p1,λe he=>(nomatch he)⟩ (by
   rintro pre x post env st hpre ⟨es,t6,t7,rfl,hes,hp,hin⟩
   have hlen:pre.length+1<=j.toNat:=by
    have:=congrArg List.length hpre
    rw[qI,qV,qT]at this
    omega
   obtain⟨r2,s2,e2,a2,b2,p2⟩:=zia (n:=n+(4 - (pre.length+1))) (a:=zah (eVar 4)) (env:=wbF s W (.ac (zaq es)) (.pl (.int (x:Int))) t7) (st:=st) (s1:=st) (bs:=[]) rfl (hp.mono (by omega)) (by omega) (by omega)
   obtain⟨d,ed,md⟩:=zlu (l:=(nm W).map PyData.str) a2 (by rw[qD];show r2<((W.map _).length:Int);rw[qD];exact b2)
   obtain⟨w,hw,rfl⟩:=qv.mp md
   have ix:ixD (zaq (nm W)) (.int r2)=some (.str w,false):=by
    show((atI ((nm W).map PyData.str) r2).map _)=_
    rw[ed];rfl
   have q1:rSet 7 (rOp ixD (zah (eVar 3)) (zav 2 zal (zau (zah (eVar 4)) rNil))) (wbF s W (.ac (zaq es)) (.pl (.int (x:Int))) t7) st=some (.nx (wbF s W (.ac (zaq es)) (.pl (.int (x:Int))) (.pl (.str w))) s2):=
    zbj (zcm (T:=Pen) (x:=⟨zaq (nm W),false,[3]⟩) (s1:=st) rfl e2 ix)
   have t:zbs (eOp (inD true) (eVar 7) (eVar 5)) (wbF s W (.ac (zaq es)) (.pl (.int (x:Int))) (.pl (.str w)))=some (!decide (w∈es)):=zgn (e_in (neg:=true) rfl rfl)
   by_cases hm:w∈es
   ·rw[decide_eq_true hm]at t
    exact⟨_,_,_,rfl,zap q1 (zmf (zcn t) rfl),es,_,_,rfl,by rw[qI];omega,by rw[qI];exact p2,hin⟩
   ·rw[decide_eq_false hm]at t
    refine⟨_,_,_,rfl,zap q1 (zqn (zcn t) (zkt (ds:=es.map .str) (d:=.str w) (fr:=false) (bs:=[]) rfl rfl (by rw[qD];omega) (by simp))),es++[w],.pl (.int (x:Int)),.pl (.str w),?_,by rw[qI,qI];simp;exact hes,by rw[qI];exact p2,λe he=>(qd.mp he).elim (hin e) λz=>by rw[qS.mp z];exact hw⟩
    rw[show zaq (es++[w])=.list (es.map .str++[.str w]) by unfold zaq;rw[qw];rfl]
    rfl)
 refine⟨es,t6,t7,s',zim it lp,?_,hp.mono (by omega),hin⟩
 rw[qT]at hes
 omega
noncomputable abbrev wbO:SFr Pen:=(rSeq (rSet 5 (zah (eLst aNil)))
  (rSeq (rFor wbT (gN 6) wbI)
  (rSeq (rApp 3 (zav 2 zca (zau (zah (eVar 3)) rNil)))
  (rApp 2 (zah (eTup (zab (eIxV 3 (eVar 4)) (zab (eVar 5) aNil))))))))
theorem zabc{W:Web}{w:Str}{es:List Str}(h:WebOk W)(hw:w∉nm W)(he:∀e∈es,e∈nm W)(hl:es.length<=4)(hn:W.length<12):WebOk (W++[(w,es)]):=by
 refine⟨?_,λi n fs e x hx=>?_,λp hp=>?_,by rw[qI];simp;omega⟩
 ·rw[zamh,List.nodup_append]
  refine⟨h.nd,by simp,λa ha b hb=>?_⟩
  intro z
  rw[z,qS.mp hb]at ha
  exact hw ha
 ·by_cases hi:i<W.length
  ·rw[qAN hi]at e
   rw[List.take_append_of_le_length (qBs hi)]
   exact h.el i n fs e x hx
  ·rw[qh (by omega)]at e
   have hi2:i - W.length=0:=by
    have:=qW.mp e
    obtain⟨q,_⟩:=this
    simp at q
    omega
   rw[hi2]at e
   cases e
   have:i=W.length:=by omega
   rw[this,List.take_left]
   exact he x hx
 ·rcases qd.mp hp with hp|hp
  ·exact h.few p hp
  ·rw[qS.mp hp];exact hl
theorem zarz{n:Nat}{st:Pen}{s:Nat}(hs:s<=12)(h:PenB (n+12 * s) st):∃(W:Web)(st':Pen),zdy [.int (s:Int)] st=some (webD W,true,st')/\W.length=s/\WbOk W (8 * s)/\PenB n st'/\WebOk W:=by
 obtain⟨e',s',lp,W,s4,s5,s6,s7,rfl,hl,ok,hp,wok⟩:=zeo (T:=Pen) (enc:=λ(k:Nat)=>PyData.int (k:Int)) (g:=gN 4) (body:=wbO) (l:=List.range s) (env:=wbE (s:Int) [] .no .no .no .no) (st:=st)
  (λpre env st=>∃(W:Web) (s4 s5 s6 s7:Sl),env=wbE (s:Int) W s4 s5 s6 s7/\W.length=pre.length/\WbOk W (8 * pre.length)/\PenB (n+12 * (s - pre.length)) st/\WebOk W)
  ⟨[],.no,.no,.no,.no,rfl,rfl,⟨λp hp=>(nomatch hp),λp hp=>(nomatch hp)⟩,h,⟨by simp[nm],λi n es e=>(nomatch e),λp hp=>(nomatch hp),by simp⟩⟩ (by
   rintro pre x post env st hpre ⟨W,s4,s5,s6,s7,rfl,hl,ok,hp,wok⟩
   have hlen:pre.length+1<=s:=by
    have:=congrArg List.length hpre
    rw[qI,qV,qT]at this
    omega
   have hx:x=W.length:=by
    have h1:(List.range s)[pre.length]?=some x:=by rw[<- hpre,qh (qL _),qCF];rfl
    rw[qBz (by omega)]at h1
    cases h1
    exact hl.symm
   subst hx
   obtain⟨es,t6,t7,s1,e1,l1,p1,hin⟩:=zaes (n:=n+12 * (s - (pre.length+1))+7) (st:=st) (s:=(s:Int)) (W:=W) (s6:=s6) (s7:=s7) (by omega) (hp.mono (by omega))
   have nml:(nm W).length=W.length:=qD ..
   obtain⟨w,s2,e2,lw,nw,p2,mw⟩:=zzt (A:=nm W) (L:=8 * pre.length) p1 (by rw[nml];omega) (λy hy=>by
    obtain⟨p,hp1,rfl⟩:=qv.mp hy
    exact ok.low p hp1) (by omega)
   refine⟨_,wbE (s:Int) (W++[(w,es)]) (.pl (.int (W.length:Int))) (.pl (zaq es)) t6 t7,s2,rfl,zap rfl (zap e1 (zap (zkt (ds:=(nm W).map .str) (d:=.str w) (fr:=false) (bs:=[]) rfl (zdu (zbx (x:=⟨zaq (nm W),false,[3]⟩) rfl rfl) rfl e2) (by rw[qD,nml];omega) (by simp)) ?_)),W++[(w,es)],_,_,_,_,rfl,by rw[qI,qI,hl];rfl,?_,by rw[qI];exact p2,zabc wok mw hin l1 (by omega)⟩
   ·have ix:eIxV 3 (eVar 4) ([.no,.pl (.int (s:Int)),.ac (webD W),.ac (.list ((nm W).map PyData.str++[.str w])),.pl (.int (W.length:Int)),.ac (zaq es),t6,t7]:DEnv)=some ⟨.str w,false,[]⟩:=by
     refine zarx (k:=3) (n:=W.length) (ds:=(nm W).map PyData.str++[.str w]) rfl rfl ?_
     rw[qh (by rw[qD,nml];exact qL _),qD,nml,qCF];rfl
    have tp:eTup (zab (eIxV 3 (eVar 4)) (zab (eVar 5) aNil)) ([.no,.pl (.int (s:Int)),.ac (webD W),.ac (.list ((nm W).map PyData.str++[.str w])),.pl (.int (W.length:Int)),.ac (zaq es),t6,t7]:DEnv)=some ⟨.tuple [.str w,zaq es],false,[5]⟩:=by
     unfold eTup
     rw[zcc ix (zic (r:=⟨zaq es,false,[5]⟩) rfl)];rfl
    have:=zkt (i:=2) (ds:=W.map rowD) (st:=s2) (d:=.tuple [.str w,zaq es]) (fr:=false) (bs:=[5]) (env:=([.no,.pl (.int (s:Int)),.ac (webD W),.ac (.list ((nm W).map PyData.str++[.str w])),.pl (.int (W.length:Int)),.ac (zaq es),t6,t7]:DEnv)) rfl (zbd tp) (by rw[qD];omega) (by decide)
    refine this.trans ?_
    show _=some (OutR.nx [.no,.pl (.int (s:Int)),.ac (webD (W++[(w,es)])),.ac (zaq (nm (W++[(w,es)]))),.pl (.int (W.length:Int)),.pl (zaq es),t6,t7] s2)
    rw[show webD (W++[(w,es)])=.list (W.map rowD++[rowD (w,es)]) by unfold webD;rw[qw];rfl,show zaq (nm (W++[(w,es)]))=.list ((nm W).map .str++[.str w]) by unfold zaq nm;rw[qw,qw];rfl]
    rfl
   ·refine⟨λp hp1=>?_,λp hp1=>?_⟩
    ·rcases qd.mp hp1 with hp1|hp1
     ·have:=ok.low p hp1
      exact⟨this.1,by rw[qI];have:=this.2;simp;omega⟩
     ·cases qS.mp hp1
      exact⟨lw,by rw[qI];simp;omega⟩
    ·rcases qd.mp hp1 with hp1|hp1
     ·exact ok.few p hp1
     ·cases qS.mp hp1
      show es.length<=100
      omega)
 rw[qT]at hl ok hp
 refine⟨W,s',ziu (env:=[.no,.pl (.int (s:Int)),.no,.no,.no,.no,.no,.no]) rfl ?_,hl,ok,hp.mono (by omega),wok⟩
 refine zap (e1:=[.no,.pl (.int (s:Int)),.ac (.list []),.no,.no,.no,.no,.no]) (s1:=st) rfl ?_
 refine zap (e1:=wbE (s:Int) [] .no .no .no .no) (s1:=st) rfl ?_
 refine zap (zim (ds:=(List.range s).map (λ(k:Nat)=>PyData.int (k:Int))) (bs:=[]) (s1:=st) ?_ lp) rfl
 unfold rIP
 rw[zamm (i:=(s:Int)) rfl (by omega) (by omega)]
 show some _=some _
 rw[qAo]
noncomputable def szB(p s:Nat):Prop:=1<=s/\1<=p/\((p<=2/\s<=10)\/(p=3/\s<=6))
theorem szB.pow{p s:Nat}(h:szB p s):s ^ p<=216:=by
 obtain⟨h1,h2,h3⟩:=h
 have a:∀s,s<11->s ^ 1<=216/\s ^ 2<=216:=by decide
 have b:∀s,s<7->s ^ 3<=216:=by decide
 rcases h3 with⟨h3,h4⟩|⟨rfl,h4⟩
 ·rcases(show p=1\/p=2 by omega)with rfl|rfl
  ·exact(a s (by omega)).1
  ·exact(a s (by omega)).2
 ·exact b s (by omega)
noncomputable abbrev bkE(s1 s2 s3 s4 s5 s6 s7 s8:Sl):DEnv:=[.no,s1,s2,s3,s4,s5,s6,s7,s8]
theorem zasa{p:Nat}(h1:1<=p)(h2:p<=3)(s2 s3 s4 s5 s6 s7 s8:Sl):∃m:Nat,eOp ixD (eLst (zab (eC (.int 6)) (zab (eC (.int 5)) (zab (eC (.int 4)) aNil)))) (eOp subD (eVar 1) (eC (.int 1))) (bkE (.pl (.int (p:Int))) s2 s3 s4 s5 s6 s7 s8)=some (vi (m:Int))/\1<=m/\szB p m:=by
 rcases(show p=1\/p=2\/p=3 by omega)with rfl|rfl|rfl
 ·exact⟨6,rfl,by decide,by unfold szB;omega⟩
 ·exact⟨5,rfl,by decide,by unfold szB;omega⟩
 ·exact⟨4,rfl,by decide,by unfold szB;omega⟩
theorem zaqi{p:Nat}(h1:1<=p)(h2:p<=3)(s2 s3 s4 s5 s6 s7 s8:Sl):∃m:Nat,eOp ixD (eLst (zab (eC (.int 10)) (zab (eC (.int 10)) (zab (eC (.int 6)) aNil)))) (eOp subD (eVar 1) (eC (.int 1))) (bkE (.pl (.int (p:Int))) s2 s3 s4 s5 s6 s7 s8)=some (vi (m:Int))/\szB p m:=by
 rcases(show p=1\/p=2\/p=3 by omega)with rfl|rfl|rfl
 ·exact⟨10,rfl,by unfold szB;omega⟩
 ·exact⟨10,rfl,by unfold szB;omega⟩
 ·exact⟨6,rfl,by unfold szB;omega⟩
theorem zjh{r:Int}(h:0<=r):∃k:Nat,r=(k:Int):=⟨r.toNat,by omega⟩
noncomputable abbrev bkI:SFr Pen:=(rSeq (rSet 8 (zav 2 zal (zau (zah (eVar 2)) rNil)))
  (rApp 6 (rOp ixD (rOp ixD (zah (eVar 3)) (rOp zuv (zah (eVar 8)) (rOp addD (zah (eC (.int 1))) (zav 2 zal (zau (zah (eC (.int 2))) rNil))))) (zah (eC (.int 0))))))
noncomputable abbrev bkW(p:Nat)(W:Web)(s4 s5 s6 s7 s8:Sl):DEnv:=bkE (.pl (.int (p:Int))) (.pl (.int (W.length:Int))) (.ac (webD W)) s4 s5 s6 s7 s8
theorem zabd{n:Nat}{st:Pen}{p:Nat}{W:Web}{m:Nat}(hp:p<=3)(hW:1<=W.length)(hW2:W.length<=100)(ok:WbOk W m)(h:PenB (n+6) st){s4 s5 s7 s8:Sl} :
  ∃(ks:List Str)(t7 t8:Sl)(st':Pen),rFor (rIP (zcy (zab (eVar 1) aNil))) (gN 7) bkI (bkW p W s4 s5 (.ac (zaq [])) s7 s8) st=some (.nx (bkW p W s4 s5 (.ac (zaq ks)) t7 t8) st')/\ks.length=p/\LowS ks/\PenB n st'/\∀k∈ks,k∈nm W:=by
 obtain⟨e',s',lp,ks,t7,t8,rfl,hk,lo,hb,hin⟩:=zeo (T:=Pen) (enc:=λ(k:Nat)=>PyData.int (k:Int)) (g:=gN 7) (body:=bkI) (l:=List.range p) (env:=bkW p W s4 s5 (.ac (zaq [])) s7 s8) (st:=st)
  (λpre env st=>∃(ks:List Str) (t7 t8:Sl),env=bkW p W s4 s5 (.ac (zaq ks)) t7 t8/\ks.length=pre.length/\LowS ks/\PenB (n+2 * (3 - pre.length)) st/\∀k∈ks,k∈nm W)
  ⟨[],s7,s8,rfl,rfl,λk hk=>(nomatch hk),h,λk hk=>(nomatch hk)⟩ (by
   rintro pre x post env st hpre ⟨ks,t7,t8,rfl,hk,lo,hb,hin⟩
   have hlen:pre.length+1<=p:=by
    have:=congrArg List.length hpre
    rw[qI,qV,qT]at this
    omega
   obtain⟨r1,s1,e1,a1,b1,p1⟩:=zia (n:=n+2 * (3 - (pre.length+1))+1) (a:=zah (eVar 2)) (env:=bkW p W s4 s5 (.ac (zaq ks)) (.pl (.int (x:Int))) t8) (st:=st) (s1:=st) (bs:=[]) rfl (hb.mono (by omega)) (by omega) (by omega)
   obtain⟨r2,s2,e2,a2,b2,p2⟩:=zia (n:=n+2 * (3 - (pre.length+1))) (a:=zah (eC (.int 2))) (env:=bkW p W s4 s5 (.ac (zaq ks)) (.pl (.int (x:Int))) (.pl (.int r1))) (st:=s1) (s1:=s1) (bs:=[]) rfl p1 (by decide) (by decide)
   have q0:0<=r1 / (1+r2):=Int.ediv_nonneg a1 (by omega)
   have q1:r1 / (1+r2)<=r1:=Int.ediv_le_self _ a1
   obtain⟨d,ed,md⟩:=zlu (l:=W.map rowD) q0 (by rw[qD];omega)
   obtain⟨row,hrow,rfl⟩:=qv.mp md
   have i1:ixD (webD W) (.int (r1 / (1+r2)))=some (rowD row,false):=by
    show((atI (W.map rowD) (r1 / (1+r2))).map _)=_
    rw[ed];rfl
   have ev:rOp ixD (rOp ixD (zah (eVar 3)) (rOp zuv (zah (eVar 8)) (rOp addD (zah (eC (.int 1))) (zav 2 zal (zau (zah (eC (.int 2))) rNil))))) (zah (eC (.int 0))) (bkW p W s4 s5 (.ac (zaq ks)) (.pl (.int (x:Int))) (.pl (.int r1))) s1=some (vs row.1,s2):=
    zcm (T:=Pen) (y:=vi 0) (s1:=s2) (zcm (T:=Pen) (x:=⟨webD W,false,[3]⟩) (s1:=s1) rfl (zcm (T:=Pen) (x:=vi r1) (s1:=s1) rfl (zcm (T:=Pen) (x:=vi 1) (y:=vi r2) (s1:=s1) rfl e2 rfl) (zyj (by omega) (by omega))) i1) rfl rfl
   refine⟨_,_,s2,rfl,zap (zbj e1) (zkt (i:=6) (ds:=ks.map .str) (d:=.str row.1) (fr:=false) (bs:=[]) rfl ev (by rw[qD];omega) (by simp)),ks++[row.1],.pl (.int (x:Int)),.pl (.int r1),?_,by rw[qI,qI,hk];rfl,λk hk'=>?_,by rw[qI];exact p2,λk hk'=>(qd.mp hk').elim (hin k) λz=>by rw[qS.mp z];exact qv.mpr ⟨row,hrow,rfl⟩⟩
   ·rw[show zaq (ks++[row.1])=.list (ks.map .str++[.str row.1]) by unfold zaq;rw[qw];rfl]
    rfl
   ·rcases qd.mp hk' with hk'|hk'
    ·exact lo k hk'
    ·rw[qS.mp hk']
     exact zmj (ok.low row hrow).1)
 rw[qT]at hk hb
 refine⟨ks,t7,t8,s',zim (ds:=(List.range p).map (λ(k:Nat)=>PyData.int (k:Int))) (bs:=[]) (s1:=st) ?_ lp,hk,lo,hb.mono (by omega),hin⟩
 unfold rIP
 rw[zamm (i:=(p:Int)) rfl (by omega) (by omega),qAo];rfl
noncomputable abbrev bkA:TFr Pen:=zit (zbs (eOp (inS true) (eCB zle (zab (eVar 6) aNil)) (zen ["_law_rule"] [] (zba (eVar 4)) (gN 0) zbv (eIxV 0 (eC (.int 1))))))
noncomputable abbrev bkB:SFr Pen:=rApp 4 (rTup (zau (zav 2 zca (zau (zah (zen ["_law_rule"] [] (zba (eVar 4)) (gN 0) zbv (eIxV 0 (eC (.int 0))))) rNil)) (zau (zah (eCB zle (zab (eVar 6) aNil))) rNil)))
noncomputable abbrev bkO:SFr Pen:=(rSeq (rSet 6 (zah (eLst aNil)))
  (rSeq (rFor (rIP (zcy (zab (eVar 1) aNil))) (gN 7) bkI)
  (rIf bkA bkB rNx)))
structure RlOk(R:List Rule)(m:Nat):Prop where
 low:∀r∈R,Low r.1/\r.1.length<=m
 kin:∀r∈R,LowS r.2/\r.2.length<=3
structure RlIn(W:Web)(p:Nat)(R:List Rule):Prop where
 kinds:∀r∈R,(∀k∈r.2,k∈nm W)/\r.2.length=p
 nd1:(R.map (·.1)).Nodup
 nd2:(R.map (·.2)).Nodup
theorem zaet{α:Type}{l:List α}{x:α}(h:l.Nodup)(hx:x∉l):(l++[x]).Nodup:=by
 rw[List.nodup_append]
 refine⟨h,by simp,λa ha b hb=>?_⟩
 intro z
 rw[z,qS.mp hb]at ha
 exact hx ha
theorem zaim{R:List Rule}{env:DEnv}(h4:env[4]?=some (.ac (zdw R)))(hl:R.length<=100):∃bs,zen ["_law_rule"] [] (zba (eVar 4)) (gN 0) zbv (eIxV 0 (eC (.int 1))) env=some ⟨.list ((R.map (·.2)).map zai),true,bs⟩:=by
 have it:zba (eVar 4) env=some (R.map zng,[4]):=by
  unfold zba eVar
  rw[h4];rfl
 have cm:zem (gN 0) zbv (eIxV 0 (eC (.int 1))) (envB ["_law_rule"] [] env) (R.map zng)=some (R.map λr=>zai r.2):=zdv λr hr=>⟨[.pl (zng r)],rfl,rfl,_,rfl,rfl⟩
 rw[qAr]
 exact⟨_,zin it (by rw[qD];omega) cm⟩
theorem zabe{R:List Rule}{env:DEnv}(h4:env[4]?=some (.ac (zdw R)))(hl:R.length<=100):zen ["_law_rule"] [] (zba (eVar 4)) (gN 0) zbv (eIxV 0 (eC (.int 0))) env=some ⟨zaq (R.map (·.1)),true,[]⟩:=by
 have it:zba (eVar 4) env=some (R.map zng,[4]):=by
  unfold zba eVar
  rw[h4];rfl
 have cm:zem (gN 0) zbv (eIxV 0 (eC (.int 0))) (envB ["_law_rule"] [] env) (R.map zng)=some (R.map λr=>.str r.1):=zdv λr hr=>⟨[.pl (zng r)],rfl,rfl,_,rfl,rfl⟩
 rw[zin it (by rw[qD];omega) cm]
 have e:(R.map λr=>PyData.str r.1)=(R.map (·.1)).map .str:=by rw[qAr];rfl
 rw[e,if_pos (zhg _)];rfl
theorem zaqj{n:Nat}{st:Pen}(h:PenB (n+300) st):∃(W:Web)(p:Nat)(R:List Rule)(st':Pen),zla [] st=some (zfo W p R,false,st')/\szB p W.length/\WbOk W 100/\RlOk R 200/\R.length<=100/\PenB n st'/\WebOk W/\RlIn W p R:=by
 obtain⟨r1,s1,e1,a1,b1,p1⟩:=zia (n:=n+299) (a:=zah (eC (.int 3))) (env:=bkE .no .no .no .no .no .no .no .no) (st:=st) (s1:=st) (bs:=[]) rfl h (by decide) (by decide)
 obtain⟨p,hp⟩:=zjh (r:=1+r1) (by omega)
 have hp1:1<=p:=by omega
 have hp3:p<=3:=by omega
 have f1:rSet 1 (rOp addD (zah (eC (.int 1))) (zav 2 zal (zau (zah (eC (.int 3))) rNil))) (bkE .no .no .no .no .no .no .no .no) st=some (.nx (bkE (.pl (.int (p:Int))) .no .no .no .no .no .no .no) s1):=by
  rw[<- hp]
  exact zbj (zcm (T:=Pen) (x:=vi 1) (y:=vi r1) (s1:=st) rfl e1 (show addD (.int 1) (.int r1)=some (.int (1+r1),false)from rfl))
 obtain⟨m,em,m1,szm⟩:=zasa hp1 hp3 .no .no .no .no .no .no .no
 obtain⟨r2,s2,e2,a2,b2,p2⟩:=zia (n:=n+298) (env:=bkE (.pl (.int (p:Int))) .no .no .no .no .no .no .no) (st:=s1) (zbd em) p1 (by omega) (by unfold szB at szm;omega)
 obtain⟨s0,hs0⟩:=zjh (r:=1+r2) (by omega)
 have f2:rSet 2 (rOp addD (zah (eC (.int 1))) (zav 2 zal (zau (zah (eOp ixD (eLst (zab (eC (.int 6)) (zab (eC (.int 5)) (zab (eC (.int 4)) aNil)))) (eOp subD (eVar 1) (eC (.int 1))))) rNil))) (bkE (.pl (.int (p:Int))) .no .no .no .no .no .no .no) s1=some (.nx (bkE (.pl (.int (p:Int))) (.pl (.int (s0:Int))) .no .no .no .no .no .no) s2):=by
  rw[<- hs0]
  exact zbj (zcm (T:=Pen) (x:=vi 1) (y:=vi r2) (s1:=s1) rfl e2 (show addD (.int 1) (.int r2)=some (.int (1+r2),false)from rfl))
 have sz0:szB p s0:=by unfold szB at szm ⊢;omega
 obtain⟨r3,s3,e3,a3,b3,p3⟩:=zia (n:=n+297) (a:=zah (eC (.int 8))) (env:=bkE (.pl (.int (p:Int))) (.pl (.int (s0:Int))) .no .no .no .no .no .no) (st:=s2) (s1:=s2) (bs:=[]) rfl p2 (by decide) (by decide)
 have t3:qB (rOp eqD (zav 2 zal (zau (zah (eC (.int 8))) rNil)) (zah (eC (.int 7)))) (bkE (.pl (.int (p:Int))) (.pl (.int (s0:Int))) .no .no .no .no .no .no) s2=some (decide (r3=7),s3):=by
  have ee:eqD (.int r3) (.int 7)=some (.bool (decide (r3=7)),false):=by
   unfold eqD eqOk
   rw[show zux (.int r3) (.int 7)=true from rfl,qCC,if_pos rfl]
   simp[qk]
   try rfl
  unfold qB
  rw[zcm (T:=Pen) (x:=vi r3) (y:=vi 7) (s1:=s3) e3 rfl ee]
  rfl
 have f3:∃s:Nat,rIf (qB (rOp eqD (zav 2 zal (zau (zah (eC (.int 8))) rNil)) (zah (eC (.int 7))))) (rSet 2 (zah (eOp ixD (eLst (zab (eC (.int 10)) (zab (eC (.int 10)) (zab (eC (.int 6)) aNil)))) (eOp subD (eVar 1) (eC (.int 1)))))) rNx (bkE (.pl (.int (p:Int))) (.pl (.int (s0:Int))) .no .no .no .no .no .no) s2=some (.nx (bkE (.pl (.int (p:Int))) (.pl (.int (s:Int))) .no .no .no .no .no .no) s3)/\szB p s:=by
  by_cases h7:r3=7
  ·rw[decide_eq_true h7]at t3
   obtain⟨m2,em2,sz2⟩:=zaqi hp1 hp3 (.pl (.int (s0:Int))) .no .no .no .no .no .no
   exact⟨m2,zqn t3 (zbj (zbd em2)),sz2⟩
  ·rw[decide_eq_false h7]at t3
   exact⟨s0,zmf t3 rfl,sz0⟩
 obtain⟨s,f3,sz⟩:=f3
 have hs10:s<=10:=by unfold szB at sz;omega
 obtain⟨W,s4,e4,hWl,ok,p4,wok⟩:=zarz (n:=n+177) (s:=s) (by omega) (p3.mono (by omega))
 subst hWl
 have f4:rSet 3 (zav 2 zdy (zau (zah (eVar 2)) rNil)) (bkE (.pl (.int (p:Int))) (.pl (.int (W.length:Int))) .no .no .no .no .no .no) s3=some (.nx (bkW p W .no .no .no .no .no) s4):=by
  have a0:zau (zah (eVar 2)) rNil (bkE (.pl (.int (p:Int))) (.pl (.int (W.length:Int))) .no .no .no .no .no .no) s3=some ([vi (W.length:Int)],s3):=zbx (T:=Pen) (x:=vi (W.length:Int)) (xs:=[]) (s1:=s3) rfl rfl
  have a1:=zdu (n:=2) (g:=zdy) a0 rfl e4
  exact zbj a1
 have ok:WbOk W 100:=⟨λq hq=>⟨(ok.low q hq).1,qAC (ok.low q hq).2 (by omega)⟩,ok.few⟩
 obtain⟨r5,s5,e5,a5,b5,p5⟩:=zia (n:=n+176) (a:=zah (eC (.int 13))) (env:=bkW p W (.ac (zdw [])) .no .no .no .no) (st:=s4) (s1:=s4) (bs:=[]) rfl p4 (by decide) (by decide)
 have it:zfy (zau (zav 2 zal (zau (zah (eC (.int 13))) rNil)) rNil) (bkW p W (.ac (zdw [])) .no .no .no .no) s4=some ((List.range r5.toNat).map (λ(k:Nat)=>PyData.int (k:Int)),[],s5):=by
  unfold zfy
  rw[zbx (T:=Pen) (x:=vi r5) (xs:=[]) (s2:=s5) e5 rfl]
  show(if _/\_ then _ else _)=_
  rw[if_pos ⟨by omega,by omega⟩,zkj]
 obtain⟨e',s',lp,R,t5,t6,t7,t8,rfl,hR,rok,hb,rin⟩:=zeo (T:=Pen) (enc:=λ(k:Nat)=>PyData.int (k:Int)) (g:=gN 5) (body:=bkO) (l:=List.range r5.toNat) (env:=bkW p W (.ac (zdw [])) .no .no .no .no) (st:=s5)
  (λpre env st=>∃(R:List Rule) (t5 t6 t7 t8:Sl),env=bkW p W (.ac (zdw R)) t5 t6 t7 t8/\R.length<=pre.length/\RlOk R (8 * pre.length)/\PenB (n+13 * (12 - pre.length)) st/\RlIn W p R)
  ⟨[],.no,.no,.no,.no,rfl,qL _,⟨λq hq=>(nomatch hq),λq hq=>(nomatch hq)⟩,p5.mono (by show n+13 * (12 - 0)<=n+176;omega),⟨λr hr=>(nomatch hr),by simp,by simp⟩⟩ (by
   rintro pre x post env st hpre ⟨R,t5,t6,t7,t8,rfl,hR,rok,hb,rin⟩
   have hlen:pre.length+1<=r5.toNat:=by
    have:=congrArg List.length hpre
    rw[qI,qV,qT]at this
    omega
   obtain⟨ks,u7,u8,sa,ea,kl,lo,pa,kin⟩:=zabd (n:=n+13 * (12 - (pre.length+1))+7) (st:=st) (p:=p) (W:=W) (s4:=.ac (zdw R)) (s5:=.pl (.int (x:Int))) (s7:=t7) (s8:=t8) hp3 (by unfold szB at sz;omega) (by omega) ok (hb.mono (by omega))
   obtain⟨bs1,k1⟩:=zaim (R:=R) (env:=bkW p W (.ac (zdw R)) (.pl (.int (x:Int))) (.ac (zaq ks)) u7 u8) rfl (by omega)
   have tup:eCB zle (zab (eVar 6) aNil) (bkW p W (.ac (zdw R)) (.pl (.int (x:Int))) (.ac (zaq ks)) u7 u8)=some ⟨zai ks,false,[6]⟩:=rfl
   have tA:bkA (bkW p W (.ac (zdw R)) (.pl (.int (x:Int))) (.ac (zaq ks)) u7 u8) sa=some (!decide (ks∈R.map (·.2)),sa):=
    zcn (zgn (zcd tup k1 (zamk (neg:=true) (λy hy=>by
     obtain⟨q,hq,rfl⟩:=qv.mp hy
     exact(rok.kin q hq).1) lo)))
   have hpre1:(pre++[x]).length=pre.length+1:=by simp
   by_cases hm:ks∈R.map (·.2)
   ·rw[decide_eq_true hm]at tA
    refine⟨_,_,sa,rfl,zap rfl (zap ea (zmf tA rfl)),R,_,_,_,_,rfl,by omega,⟨λq hq=>⟨(rok.low q hq).1,by rw[hpre1];have:=(rok.low q hq).2;omega⟩,rok.kin⟩,by rw[hpre1];exact pa.mono (by omega),rin⟩
   ·rw[decide_eq_false hm]at tA
    obtain⟨w,sb,eb,lw,nw,pb,mw⟩:=zzt (A:=R.map (·.1)) (L:=8 * pre.length) pa (by rw[qD];omega) (λy hy=>by
     obtain⟨q,hq,rfl⟩:=qv.mp hy
     exact rok.low q hq) (by omega)
    have vB:rTup (zau (zav 2 zca (zau (zah (zen ["_law_rule"] [] (zba (eVar 4)) (gN 0) zbv (eIxV 0 (eC (.int 0))))) rNil)) (zau (zah (eCB zle (zab (eVar 6) aNil))) rNil)) (bkW p W (.ac (zdw R)) (.pl (.int (x:Int))) (.ac (zaq ks)) u7 u8) sa=some (⟨zng (w,ks),false,[6]⟩,sb):=by
     unfold rTup
     have n0:=zabe (R:=R) (env:=bkW p W (.ac (zdw R)) (.pl (.int (x:Int))) (.ac (zaq ks)) u7 u8) rfl (by omega)
     have n1:=zbx (T:=Pen) (g:=rNil) (xs:=[]) (s2:=sa) (zbd (st:=sa) n0) rfl
     have n2:=zdu (n:=2) (g:=zca) n1 rfl eb
     have n3:=zbx (T:=Pen) n2 (zbx (T:=Pen) (g:=rNil) (xs:=[]) (s2:=sb) (zbd (st:=sb) tup) rfl)
     rw[n3]
     rfl
    refine⟨_,bkW p W (.ac (zdw (R++[(w,ks)]))) (.pl (.int (x:Int))) (.pl (zaq ks)) u7 u8,sb,rfl,zap rfl (zap ea (zqn tA ((zkt (i:=4) (ds:=R.map zng) rfl vB (by rw[qD];omega) (by decide)).trans ?_))),R++[(w,ks)],_,_,_,_,rfl,by rw[hpre1,qI];simp;exact hR,⟨λq hq=>?_,λq hq=>?_⟩,by rw[hpre1];exact pb,⟨λq hq=>(qd.mp hq).elim (rin.kinds q) λz=>by rw[qS.mp z];exact⟨kin,kl⟩,by rw[qw];exact zaet rin.nd1 mw,by rw[qw];exact zaet rin.nd2 hm⟩⟩
    ·show _=some (OutR.nx [.no,.pl (.int (p:Int)),.pl (.int (W.length:Int)),.ac (webD W),.ac (zdw (R++[(w,ks)])),.pl (.int (x:Int)),.pl (zaq ks),u7,u8] sb)
     rw[show zdw (R++[(w,ks)])=.list (R.map zng++[zng (w,ks)]) by unfold zdw;rw[qw];rfl]
     rfl
    ·rw[hpre1]
     rcases qd.mp hq with hq|hq
     ·exact⟨(rok.low q hq).1,by have:=(rok.low q hq).2;omega⟩
     ·cases qS.mp hq
      exact⟨lw,by show w.length<=_;omega⟩
    ·rcases qd.mp hq with hq|hq
     ·exact rok.kin q hq
     ·cases qS.mp hq
      exact⟨lo,by show ks.length<=3;omega⟩)
 rw[qT]at hR rok hb
 refine⟨W,p,R,s',ziu (env:=bkE .no .no .no .no .no .no .no .no) rfl ?_,sz,ok,⟨λq hq=>⟨(rok.low q hq).1,by have:=(rok.low q hq).2;omega⟩,rok.kin⟩,by omega,hb.mono (by omega),wok,rin⟩
 refine zap f1 (zap f2 (zap f3 (zap f4 (zap (e1:=bkW p W (.ac (zdw [])) .no .no .no .no) (s1:=s4) rfl (zap (zim it lp) (zkg (bs:=[3,4]) (zbd (r:=⟨zfo W p R,false,[3,4]⟩) ?_)))))))
 rfl
noncomputable def SmOk:Nat->PyData->Prop
 | 0,_=>False
 | _+1,.str _=>True
 | _+1,.int _=>True
 | n+1,.list ds=>ds.length<100000/\∀d∈ds,SmOk n d
 | n+1,.tuple ds=>ds.length<100000/\∀d∈ds,SmOk n d
 | _+1,_=>False
theorem zain(ds:List PyData):List.zipWith (λd e=>PyData.tuple [d,e]) ds ds=ds.map λd=>.tuple [d,d]:=by
 induction ds with
 | nil=>rfl
 | cons d ds ih=>rw[List.zipWith_cons_cons,ih];rfl
noncomputable abbrev smC(G:GF):EF:=eCB (anyD λbs=>bs.all id) (zab (zen ["_law_one","_law_two"] [] (ztg (zab (eVar 0) (zab (eVar 1) aNil))) (gT 2 (zbe 0 (zbe 1 zfd))) zbv (zct 2 G (zab (eVar 0) (zab (eVar 1) aNil)))) aNil)
theorem zsl{G:GF}{d:PyData}{ds:List PyData}(hi:zft d=some ds)(hl:ds.length<100000)(h:∀x∈ds,G [x,x]=some (.bool true,false)):smC G [.pl d,.pl d]=some (vb true):=by
 have it:ztg (zab (eVar 0) (zab (eVar 1) aNil)) [.pl d,.pl d]=some (ds.map λd=>.tuple [d,d],[]):=by
  unfold ztg
  rw[zcc (r:=⟨d,false,[]⟩) rfl (zic (r:=⟨d,false,[]⟩) rfl)]
  show((zft d).bind _)=_
  rw[hi]
  show some (List.zipWith (λd e=>PyData.tuple [d,e]) ds ds,_)=_
  rw[zain];rfl
 have cm:zem (gT 2 (zbe 0 (zbe 1 zfd))) zbv (zct 2 G (zab (eVar 0) (zab (eVar 1) aNil))) (envB ["_law_one","_law_two"] [] [.pl d,.pl d]) (ds.map λd=>.tuple [d,d])=some (ds.map λ_=>.bool true):=
  zdv λx hx=>⟨[.pl x,.pl x],rfl,rfl,_,zdo (n:=2) (rs:=[⟨x,false,[]⟩,⟨x,false,[]⟩]) (zcc rfl (zic rfl)) rfl (h x hx),rfl⟩
 show eCB _ _ _=_
 unfold eCB
 rw[zic (zin it (by rw[qD];exact hl) cm)]
 show((anyD (λbs=>bs.all id) [.list (ds.map λ_=>.bool true)]).bind _)=_
 have:anyD (λbs=>bs.all id) [.list (ds.map λ_=>.bool true)]=some (.bool true,false):=by
  unfold anyD
  show((zrj (ds.map λx=>PyData.bool ((λ_=>true) x))).map _)=_
  rw[zvv]
  show some (PyData.bool ((ds.map λ_=>true).all id),false)=_
  rw[show((ds.map λ_=>true).all id)=true by rw[qAK];intro b hb;obtain⟨_,_,rfl⟩:=qv.mp hb;rfl]
 rw[this];rfl
theorem zasb(x:Str):eqD (.str x) (.str x)=some (.bool true,false):=by
 unfold eqD eqOk
 rw[show zux (.str x) (.str x)=true from rfl,qCC,if_pos rfl]
 simp[qk]
theorem zasc(x:Int):eqD (.int x) (.int x)=some (.bool true,false):=by
 unfold eqD eqOk
 rw[show zux (.int x) (.int x)=true from rfl,qCC,if_pos rfl]
 simp[qk]
theorem zji:∀(n:Nat)(d:PyData),SmOk n d->zeu n [d,d]=some (.bool true,false)
 | 0,_,h=>h.elim
 | n+1,d,h=>by
  show fnD 2 (znh (zeu n)) [d,d]=_
  refine zxn (env:=[.pl d,.pl d]) rfl ?_
  cases d with
  | str x=>
   refine zzj (if_t rfl (znp (bs:=[]) ?_))
   unfold eAnd
   rw[show eIsi "str" (eVar 1) [.pl (.str x),.pl (.str x)]=some (vb true)from rfl,zcd (x:=vs x) (y:=vs x) rfl rfl (zasb x)]
   rfl
  | int x=>
   refine zeg (if_f rfl rfl) (zeg (if_f rfl rfl) (zeg (if_f rfl rfl) (znp (bs:=[]) ?_)))
   unfold eAnd
   rw[show eIsi "int" (eVar 1) [.pl (.int x),.pl (.int x)]=some (vb true)from rfl,show eNot (eIsi "bool" (eVar 1)) [.pl (.int x),.pl (.int x)]=some (vb true)from rfl,zcd (x:=vi x) (y:=vi x) rfl rfl (zasc x)]
   rfl
  | list ds=>
   obtain⟨h1,h2⟩:=h
   refine zeg (if_f rfl rfl) (zzj (if_t rfl (zeg (if_f ?_ rfl) (znp (bs:=[]) (zsl (d:=.list ds) rfl h1 λx hx=>zji n x (h2 x hx))))))
   unfold tOrF
   rw[show zpa (tTru (eIsi "list" (eVar 1))) [.pl (.list ds),.pl (.list ds)]=some false from rfl,zgn (zcd (x:=vi (ds.length:Int)) (y:=vi (ds.length:Int)) rfl rfl (zmi _))]
   rfl
  | tuple ds=>
   obtain⟨h1,h2⟩:=h
   refine zeg (if_f rfl rfl) (zeg (if_f rfl rfl) (zzj (if_t rfl (zeg (if_f ?_ rfl) (znp (bs:=[]) (zsl (d:=.tuple ds) rfl h1 λx hx=>zji n x (h2 x hx)))))))
   unfold tOrF
   rw[show zpa (tTru (eIsi "tuple" (eVar 1))) [.pl (.tuple ds),.pl (.tuple ds)]=some false from rfl,zgn (zcd (x:=vi (ds.length:Int)) (y:=vi (ds.length:Int)) rfl rfl (zmi _))]
   rfl
  | _=>exact h.elim
theorem zamn{n:Nat}{xs:List Str}:∀d∈xs.map PyData.str,SmOk (n+1) d:=λd hd=>by
 obtain⟨x,_,rfl⟩:=qv.mp hd
 trivial
theorem zwl{a:AF}{env:DEnv}{rs:List Val}(h:a env=some rs)(hl:rs.length<=100000):eTup a env=some ⟨.tuple (zfx rs),false,bss rs⟩:=by
 unfold eTup;rw[h,qJ,if_pos hl]
theorem zaqk{W:Web}{p:Nat}{R:List Rule}(hW:W.length<=100):zix [zfo W p R]=some (zfo W p R,false):=by
 have i0:eIxV 0 (eC (.int 0)) [.pl (zfo W p R)]=some ⟨webD W,false,[]⟩:=rfl
 have i1:eIxV 0 (eC (.int 1)) [.pl (zfo W p R)]=some (vi (p:Int)):=rfl
 have i2:eCB zjx (zab (eIxV 0 (eC (.int 2))) aNil) [.pl (zfo W p R)]=some ⟨zdw R,true,[]⟩:=rfl
 have it:zba (eIxV 0 (eC (.int 0))) [.pl (zfo W p R)]=some (W.map rowD,[]):=by
  unfold zba
  rw[i0];rfl
 have cm:zem (gT 2 (zbe 0 (zbe 1 zfd))) zbv (eTup (zab (eVar 0) (zab (eCB zjx (zab (eVar 1) aNil)) aNil))) (envB ["_law_name_here","_law_elders"] [] [.pl (zfo W p R)]) (W.map rowD)=some (W.map rowD):=
  zdv λq hq=>⟨[.pl (.str q.1),.pl (zaq q.2)],rfl,rfl,⟨rowD q,false,[]⟩,rfl,rfl⟩
 refine zxn (env:=[.pl (zfo W p R)]) rfl ?_
 have ec:∃bs,zen ["_law_name_here","_law_elders"] [] (zba (eIxV 0 (eC (.int 0)))) (gT 2 (zbe 0 (zbe 1 zfd))) zbv (eTup (zab (eVar 0) (zab (eCB zjx (zab (eVar 1) aNil)) aNil))) [.pl (zfo W p R)]=some ⟨webD W,true,bs⟩:=⟨_,zin it (by rw[qD];omega) cm⟩
 obtain⟨bs,ec⟩:=ec
 exact znp (zwl (zcc ec (zcc i1 (zic i2))) (by show 3<=100000;decide))
noncomputable def zgp(A:List Str):Nat->List (List Str)
 | 0=>[[]]
 | j+1=>(zgp A j).flatMap λa=>A.map λx=>a++[x]
noncomputable def dig(A:List Str):Nat->Nat->List Str
 | 0,_=>[]
 | j+1,k=>dig A j (k / A.length)++[A.getD (k % A.length) ""]
theorem zym(A:List Str):∀(j k:Nat),(dig A j k).length=j
 | 0,_=>rfl
 | j+1,k=>by show(dig A j (k / A.length)++[A.getD (k % A.length) ""]).length=_;rw[qI,zym A j];rfl
theorem zaio(A:List Str){β:Type}(g:Str->β):A.map g=(List.range A.length).map λi=>g (A.getD i ""):=by
 refine List.ext_getElem (by simp) λi h1 h2=>?_
 rw[qD]at h1
 simp[qK,h1]
theorem zsm(A:List Str)(h:0<A.length){β:Type}(f:Nat->Str->β):∀M:Nat,((List.range M).flatMap λi=>A.map λx=>f i x)=(List.range (M * A.length)).map λk=>f (k / A.length) (A.getD (k % A.length) "")
 | 0=>by simp
 | M+1=>by
  rw[List.range_succ,qCv,zsm A h f M,Nat.add_mul,Nat.one_mul,List.range_add,qw,qAr]
  congr 1
  rw[qBI,List.flatMap_nil,qAL,zaio]
  refine qCt λi hi=>?_
  have hi:i<A.length:=qAk.mp hi
  show f M _=f ((M * A.length+i) / A.length) (A.getD ((M * A.length+i) % A.length) "")
  rw[Nat.mul_comm M,Nat.mul_add_div h,Nat.mul_add_mod,Nat.div_eq_of_lt hi,Nat.mod_eq_of_lt hi,Nat.add_zero]
theorem zok(A:List Str)(h:0<A.length):∀j:Nat,zgp A j=(List.range (A.length ^ j)).map (dig A j)
 | 0=>rfl
 | j+1=>by
  show((zgp A j).flatMap λa=>A.map λx=>a++[x])=_
  rw[zok A h j,List.flatMap_map,zsm A h (λi x=>dig A j i++[x]),Nat.pow_succ]
  rfl
theorem zaip(A:List Str)(h:0<A.length)(j:Nat):(zgp A j).length=A.length ^ j:=by rw[zok A h];simp
noncomputable abbrev sdB:SFr (List Int):=rS 0 (sSet 1 (eOp modD (eOp addD (eOp addD (eOp mulD (eVar 1) (eC (.int 48271))) (eOp mulD (eOp modD (eVar 3) (eC (.int 2147483629))) (eOp addD (eOp mulD (eVar 2) (eVar 2)) (eC (.int 3))))) (eC (.int 5))) (eC (.int 2147483647))))
theorem zamo(ns:List Int):∃s,ziw ns=some s:=by
 obtain⟨e',s',lp,s,s2,s3,rfl,hs'⟩:=zeo (T:=List Int) (enc:=λ(z:Int×Nat)=>PyData.tuple [.int (z.2:Int),.int z.1]) (g:=gT 2 (zbe 2 (zbe 3 zfd))) (body:=sdB) (l:=(ns.take 63).zipIdx) (env:=[.no,.pl (.int 7),.no,.no]) (st:=ns)
  (λpre env st=>∃(s:Int) (s2 s3:Sl),env=[.no,.pl (.int s),s2,s3]/\st=ns) ⟨7,.no,.no,rfl,rfl⟩ (by
   rintro pre ⟨c,i⟩ post env st hpre ⟨s,s2,s3,rfl,rfl⟩
   have hi:i<63:=by
    have hm:(c,i)∈(st.take 63).zipIdx:=by rw[<- hpre];simp
    have:=List.snd_lt_of_mem_zipIdx hm
    have:i<(st.take 63).length:=by simpa using this
    have h3:(st.take 63).length<=63:=by rw[qAi];omega
    omega
   have m0:=qBt c (show(2147483629:Int)≠0 by decide)
   have m1:=qBa c (show(0:Int)<2147483629 by decide)
   refine⟨[.no,.pl (.int s),.pl (.int (i:Int)),.pl (.int c)],[.no,.pl (.int ((s * 48271+c % 2147483629 * ((i:Int) * (i:Int)+3)+5) % 2147483647)),.pl (.int (i:Int)),.pl (.int c)],st,rfl,?_,_,_,_,rfl,rfl⟩
   have ev:eOp modD (eOp addD (eOp addD (eOp mulD (eVar 1) (eC (.int 48271))) (eOp mulD (eOp modD (eVar 3) (eC (.int 2147483629))) (eOp addD (eOp mulD (eVar 2) (eVar 2)) (eC (.int 3))))) (eC (.int 5))) (eC (.int 2147483647)) [.no,.pl (.int s),.pl (.int (i:Int)),.pl (.int c)]=some (vi ((s * 48271+c % 2147483629 * ((i:Int) * (i:Int)+3)+5) % 2147483647)):=by
    have a1:eOp mulD (eVar 1) (eC (.int 48271)) [.no,.pl (.int s),.pl (.int (i:Int)),.pl (.int c)]=some (vi (s * 48271)):=zcd (x:=vi s) (y:=vi 48271) rfl rfl (zub (by decide) (by decide))
    have a2:eOp modD (eVar 3) (eC (.int 2147483629)) [.no,.pl (.int s),.pl (.int (i:Int)),.pl (.int c)]=some (vi (c % 2147483629)):=zcd (x:=vi c) (y:=vi 2147483629) rfl rfl (zsk (by decide))
    have a3:eOp mulD (eVar 2) (eVar 2) [.no,.pl (.int s),.pl (.int (i:Int)),.pl (.int c)]=some (vi ((i:Int) * (i:Int))):=zcd (x:=vi (i:Int)) (y:=vi (i:Int)) rfl rfl (zub (by omega) (by omega))
    have a4:eOp addD (eOp mulD (eVar 2) (eVar 2)) (eC (.int 3)) [.no,.pl (.int s),.pl (.int (i:Int)),.pl (.int c)]=some (vi ((i:Int) * (i:Int)+3)):=zcd a3 (y:=vi 3) rfl rfl
    have mul5:mulD (.int (c % 2147483629)) (.int ((i:Int) * (i:Int)+3))=some (.int (c % 2147483629 * ((i:Int) * (i:Int)+3)),false):=by
     unfold mulD
     dsimp only
     rw[if_pos (.inl ⟨by omega,by omega⟩)]
    have a5:=zcd a2 a4 mul5
    have a6:=zcd (w:=addD) a1 a5 rfl
    have a7:=zcd (w:=addD) a6 (b:=eC (.int 5)) (y:=vi 5) rfl rfl
    exact zcd a7 (b:=eC (.int 2147483647)) (y:=vi 2147483647) rfl (zsk (by decide))
   show rS 0 _ _ _=_
   unfold rS
   rw[zvu ev];rfl)
 rw[hs']at lp
 refine⟨s,?_⟩
 have it:zadq (zau rScr rNil) [.no,.pl (.int 7),.no,.no] ns=some (((ns.take 63).zipIdx).map (λ(z:Int×Nat)=>PyData.tuple [.int (z.2:Int),.int z.1]),[],ns):=by
  unfold zadq
  rw[zbx (T:=List Int) (g:=rNil) (x:=⟨.list ((ns.take 63).map .int),true,[]⟩) (xs:=[]) (s1:=ns) (s2:=ns) rfl rfl]
  show some (zlp ((ns.take 63).map .int),_,_)=_
  have:zlp ((ns.take 63).map .int)=((ns.take 63).zipIdx).map (λ(z:Int×Nat)=>PyData.tuple [.int (z.2:Int),.int z.1]):=by
   unfold zlp
   rw[List.zipIdx_map,qAr];rfl
  rw[this]
 have run:zmk [.no,.no,.no,.no] ns=some (.nx [.no,.pl (.int s),s2,s3] ns):=zap (e1:=[.no,.pl (.int 7),.no,.no]) (s1:=ns) rfl (zim it lp)
 unfold ziw zahm
 show(match zmk [.no,.no,.no,.no] ns with|some (.nx env st)=>_|_=>_)=_
 rw[run]
 simp only[if_true]
 rfl
noncomputable abbrev caE(W:Web)(p:Nat)(R:List Rule)(s4 s5 s6 s7:Sl):DEnv:=[.pl (zfo W p R),.pl (webD W),.pl (.int (p:Int)),.pl (zdw R),s4,s5,s6,s7]
noncomputable abbrev caX:EF:=zen ["_law_kind","_law_elders"] [7] (zba (eVar 1)) (gT 2 (zbe 0 (zbe 1 zfd))) zbv (eOp addE (eVar 2) (eTup (zab (eVar 0) aNil)))
theorem zaeu{a:List Str}{x:Str}{env:DEnv}(h0:env[2]?=some (.pl (zai a)))(h1:env[0]?=some (.pl (.str x)))(hl:a.length<=100):eOp addE (eVar 2) (eTup (zab (eVar 0) aNil)) env=some ⟨zai (a++[x]),false,[]⟩:=by
 have e0:eVar 2 env=some ⟨zai a,false,[]⟩:=by unfold eVar;rw[h0]
 have e1:eTup (zab (eVar 0) aNil) env=some ⟨zai [x],false,[]⟩:=by
  unfold eTup
  rw[zic (r:=vs x) (by unfold eVar;rw[h1])];rfl
 refine zcd e0 e1 ?_
 cases a with
 | nil=>rfl
 | cons b a=>
  show addD (.tuple ((b::a).map .str)) (.tuple [.str x])=_
  unfold addD
  dsimp only
  rw[if_pos ⟨rfl,by rw[qD];simp at hl ⊢;omega⟩]
  unfold zai
  rw[qw];rfl
noncomputable abbrev caF(W:Web)(p:Nat)(R:List Rule)(j x:Nat)(s6 s7:Sl):DEnv:=caE W p R (.pl (.list ((zgp (nm W) j).map zai))) (.pl (.int (x:Int))) s6 s7
theorem zaev{W:Web}{p:Nat}{R:List Rule}(sz:szB p W.length):∃fr,zev [zfo W p R]=some (.list ((zgp (nm W) p).map zai),fr):=by
 have hn:(nm W).length=W.length:=qD ..
 have hW:1<=W.length/\W.length<=10/\p<=3:=by unfold szB at sz;omega
 have h0:0<(nm W).length:=by rw[hn];exact hW.1
 have pw:∀j,j<=p->(zgp (nm W) j).length<=216:=λj hj=>by
  rw[zaip _ h0,hn]
  exact qAC (Nat.pow_le_pow_right hW.1 hj) sz.pow
 have al:∀j,j<=p->∀a∈zgp (nm W) j,a.length<=100:=λj hj a ha=>by
  rw[zok _ h0]at ha
  obtain⟨k,_,rfl⟩:=qv.mp ha
  rw[zym];omega
 obtain⟨e',lp,s4,s5,s6,s7,rfl,h4⟩:=zpw (enc:=λ(k:Nat)=>PyData.int (k:Int)) (g:=gN 5) (l:=List.range p) (env:=caE W p R (.ac (.list ((zgp (nm W) 0).map zai))) .no .no .no)
  (body:=(sSeq (sSet 6 (eLst aNil)) (sSeq (sFor (zba (eVar 4)) (gN 7) (sExt 6 caX)) (sSet 4 (eVar 6)))))
  (λpre env=>∃s4 s5 s6 s7,env=caE W p R s4 s5 s6 s7/\(s4=.ac (.list ((zgp (nm W) pre.length).map zai))\/s4=.pl (.list ((zgp (nm W) pre.length).map zai)))) ⟨_,_,_,_,rfl,.inl rfl⟩ (by
   rintro pre x post env hpre ⟨s4,s5,s6,s7,rfl,h4⟩
   have hlen:pre.length+1<=p:=by
    have:=congrArg List.length hpre
    rw[qI,qV,qT]at this
    omega
   have hj:=pw pre.length (by omega)
   have run:∃t7,forL (gN 7) (sExt 6 caX) ((zgp (nm W) pre.length).map zai) (caF W p R pre.length x (.ac (.list [])) s7)=some (.nx (caF W p R pre.length x (.ac (.list ((zgp (nm W) (pre.length+1)).map zai))) t7)):=by
    obtain⟨e1,l1,t7,rfl⟩:=zpw (enc:=zai) (g:=gN 7) (l:=zgp (nm W) pre.length) (body:=sExt 6 caX) (env:=caF W p R pre.length x (.ac (.list [])) s7)
     (λq env=>∃t7,env=caF W p R pre.length x (.ac (.list ((q.flatMap λa=>(nm W).map λy=>a++[y]).map zai))) t7) ⟨s7,rfl⟩ (by
      rintro q a post2 env hq ⟨t7,rfl⟩
      have ha:a∈zgp (nm W) pre.length:=by rw[<- hq];simp
      have cm:zem (gT 2 (zbe 0 (zbe 1 zfd))) zbv (eOp addE (eVar 2) (eTup (zab (eVar 0) aNil))) (envB ["_law_kind","_law_elders"] [7] (caF W p R pre.length x (.ac (.list ((q.flatMap λa=>(nm W).map λy=>a++[y]).map zai))) (.pl (zai a)))) (W.map rowD)=some (W.map λr=>zai (a++[r.1])):=
       zdv λr hr=>⟨[.pl (.str r.1),.pl (zaq r.2),.pl (zai a)],rfl,rfl,_,zaeu rfl rfl (al _ (by omega) a ha),rfl⟩
      have cp:=zin (own:=["_law_kind","_law_elders"]) (fr:=[7]) (fi:=zba (eVar 1)) (env:=caF W p R pre.length x (.ac (.list ((q.flatMap λa=>(nm W).map λy=>a++[y]).map zai))) (.pl (zai a))) (ds:=W.map rowD) (bs:=[]) rfl (by rw[qD];omega) cm
      have cb:caX (caF W p R pre.length x (.ac (.list ((q.flatMap λa=>(nm W).map λy=>a++[y]).map zai))) (.pl (zai a)))=some ⟨.list (W.map λr=>zai (a++[r.1])),true,[]⟩:=by
       refine cp.trans ?_
       split<;>rfl
      have ql:(q.flatMap λa=>(nm W).map λy=>a++[y]).length<=q.length * 10:=by
       clear hq cm cp cb
       induction q with
       | nil=>simp
       | cons b q ih=>
        rw[qBI,qI,qD,hn,qV]
        omega
      have qq:q.length<=(zgp (nm W) pre.length).length:=by rw[<- hq];simp
      refine⟨_,_,rfl,.inl (zaps (i:=6) rfl cb (by rw[qD,qD];omega) (by simp)),.pl (zai a),?_⟩
      rw[qCv,qw]
      have e3:(([a]:List (List Str)).flatMap λa=>(nm W).map λy=>a++[y]).map zai=W.map λr=>zai (a++[r.1]):=by
       rw[qBI,List.flatMap_nil,qAL]
       unfold nm
       rw[qAr,qAr];rfl
      rw[e3]
      rfl)
    exact⟨t7,l1⟩
   obtain⟨t7,run⟩:=run
   have hpre1:(pre++[x]).length=pre.length+1:=by simp
   refine⟨_,caE W p R (.pl (.list ((zgp (nm W) (pre.length+1)).map zai))) (.pl (.int (x:Int))) (.pl (.list ((zgp (nm W) (pre.length+1)).map zai))) t7,rfl,.inl ?_,_,_,_,_,rfl,by rw[hpre1];exact .inr rfl⟩
   rcases h4 with rfl|rfl
   ·exact zeg (e1:=caE W p R (.ac (.list ((zgp (nm W) pre.length).map zai))) (.pl (.int (x:Int))) (.ac (.list [])) s7) rfl (zeg (zzk (fr:=false) (bs:=[4]) rfl run) rfl)
   ·exact zeg (e1:=caF W p R pre.length x (.ac (.list [])) s7) rfl (zeg (zzk (fr:=false) (bs:=[]) rfl run) rfl))
 rw[qT]at h4
 have st:∀fr,zpc 4 (caE W p R s4 s5 s6 s7)=some (.rt (.list ((zgp (nm W) p).map zai)) fr)->zev [zfo W p R]=some (.list ((zgp (nm W) p).map zai),fr):=λfr e=>
  zxn (env:=[.pl (zfo W p R),.no,.no,.no,.no,.no,.no,.no]) rfl (zeg (e1:=caE W p R .no .no .no .no) rfl (zeg (e1:=caE W p R (.ac (.list ((zgp (nm W) 0).map zai))) .no .no .no) rfl (zeg (zaeg (bs:=[]) (by rw[zamm (i:=(p:Int)) (bs:=[]) rfl (by omega) (by omega),qAo]) lp) e)))
 rcases h4 with rfl|rfl
 ·exact⟨true,st true rfl⟩
 ·exact⟨false,st false rfl⟩
theorem zzu(c:List Str):zai c=zkl (c.map .one):=by
 unfold zai zkl
 rw[qAr];rfl
theorem zaiq{W:Web}{p:Nat}(sz:szB p W.length){c:List Str}(hc:c∈zgp (nm W) p):c.length=p/\∀x∈c,x∈nm W:=by
 have hn:(nm W).length=W.length:=qD ..
 have h0:0<(nm W).length:=by rw[hn];unfold szB at sz;omega
 rw[zok _ h0]at hc
 obtain⟨k,_,rfl⟩:=qv.mp hc
 refine⟨zym _ _ _,?_⟩
 have:∀(j k:Nat),∀x∈dig (nm W) j k,x∈nm W:=by
  intro j
  induction j with
  | zero=>intro k x hx;cases hx
  | succ j ih=>
   intro k x hx
   rcases qd.mp hx with hx|hx
   ·exact ih _ x hx
   ·rw[qS.mp hx,qK,qF (Nat.mod_lt _ h0)]
    exact qAG _
 exact this p k
theorem zair{d:PyData}(s:qx d=true):eqD d d=some (.bool true,false):=by
 unfold eqD eqOk
 rw[s,Bool.and_self,qAm,if_pos rfl,PySem.SeqAt.eqv_refl _ (qAe s)]
theorem zaql{a b:EF}{env:DEnv}{d:PyData}{f1 f2:Bool}{b1 b2:List Nat}(ha:a env=some ⟨d,f1,b1⟩)(hb:b env=some ⟨d,f2,b2⟩)(s:qx d=true):eOp eqD a b env=some (vb true):=by
 unfold eOp;rw[ha,hb]
 simp only[qJ]
 rw[zair s];rfl
noncomputable def exC(c:List Str)(k:Nat)(o:Str):List Str:=c.take k++[o]++c.drop (k+1)
theorem zamp{c:List Str}{k:Nat}{o:Str}(h:k<c.length):exC c k o=c.set k o:=by
 unfold exC
 rw[List.set_eq_take_append_cons_drop,if_pos h,qAw];rfl
theorem zais(xs:List PyData)(k:Nat):cutD xs none (some (k:Int))=xs.take k:=by
 unfold cutD
 rw[show HT.sIx xs.length 0 none=0 from rfl,HT.sIx_nat,qBw,qCE]
 by_cases h:k<=xs.length
 ·rw[qBr h]
 ·rw[qBj (by omega),qAp (qL _),qAp (by omega)]
theorem zzv(xs:List PyData)(k:Nat):cutD xs (some (k:Int)) none=xs.drop k:=by
 unfold cutD
 rw[show HT.sIx xs.length xs.length none=xs.length from rfl,HT.sIx_nat]
 by_cases h:k<=xs.length
 ·rw[qBr h,qAp (by rw[qBC];exact qL _)]
 ·rw[qBj (by omega),qCg (qL _),qCg (by omega),List.take_nil]
theorem zaew{xs ys:List PyData}(h:xs.length+ys.length<=100000):addE (.tuple xs) (.tuple ys)=some (.tuple (xs++ys),false):=by
 cases xs with
 | nil=>rfl
 | cons x xs=>
  show addD (.tuple (x::xs)) (.tuple ys)=_
  unfold addD
  dsimp only
  rw[if_pos ⟨rfl,h⟩]
theorem zamq{k n:Nat}{b:EF}{env:DEnv}{ds:List PyData}{d:PyData}(he:env[k]?=some (.pl (.tuple ds)))(hb:b env=some (vi (n:Int)))(hd:ds[n]?=some d):eIxV k b env=some ⟨d,false,bsOf d ([]++[])⟩:=by
 unfold eIxV
 rw[he]
 show eOp ixD (eVar k) b env=_
 refine zcd (x:=⟨.tuple ds,false,[]⟩) (by unfold eVar;rw[he]) hb ?_
 show((atI ds (n:Int)).map _)=_
 rw[zgq hd];rfl
theorem zamr {c:List Str} {k:Nat} (h:k<c.length) {i j:Nat} {env:DEnv} (hi:env[i]?=some (.pl (zai c))) (hj:env[j]?=some (.pl (.int (k:Int)))):eIxV i (eVar j) env=some (vs c[k]):=
 zamq hi (by unfold eVar;rw[hj]) (by rw[qa,qF h];rfl)
theorem zaqm{w:OF}{a b:EF}{env:DEnv}{x y:Val}{z:PyData}{fr:Bool}(ha:a env=some x)(hb:b env=some y)(hw:w x.d y.d=some (z,fr)):eOp w a b env=some ⟨z,fr,bsOf z (x.bs++y.bs)⟩:=by
 unfold eOp;rw[ha,qJ,hb,qJ,hw];rfl
section
variable{d:PyData}{n:Nat}
end
theorem zams{neg:Bool}{i j:Nat}{env:DEnv}{x:Str}{xs:List Str}{s:Sl}(hi:env[i]?=some (.pl (.str x)))(hj:env[j]?=some s)(hs:Hd (zaq xs) s):zbs (eOp (inD neg) (eVar i) (eVar j)) env=some (if neg then !decide (x∈xs)else decide (x∈xs)):=by
 obtain⟨bs,e⟩:=e_hd hj hs
 have ei:eVar i env=some (vs x):=by unfold eVar;rw[hi]
 exact zgn (zaqm ei e (zxo neg xs x))
section
variable{d:PyData}{n:Nat}
end
theorem zaex:∀c<128,∀q∈[34,39],(Builtin.Str.reprChar q c).length<=4:=by decide +kernel
noncomputable def zgf(W:Web)(ns:List Str):Option Str:=ns.find? λn=>!decide (n∈nm W)
theorem zsn{W:Web}:∀(ns:List Str)(all:List Str)(s:Sl),(∀x∈ns,x∉nm W->atD (.str x)=true)->∃s',zxk (gN 3) (xIf (zbs (eOp (inD true) (eVar 3) (eVar 2))) (zmh "NoKind" (eVar 3)) (xOf sNil)) (ns.map .str) [.pl (webD W),.pl (zaq all),.ac (zaq (nm W)),s] =
  (match zgf W ns with|none=>some (.ok (.nx [.pl (webD W),.pl (zaq all),.ac (zaq (nm W)),s']))|some x=>some (.rx "NoKind" (.str x)))
 | [],all,s,_=>⟨s,rfl⟩
 | n::ns,all,s,h=>by
  have t:=zams (neg:=true) (i:=3) (j:=2) (env:=[.pl (webD W),.pl (zaq all),.ac (zaq (nm W)),.pl (.str n)]) (x:=n) (xs:=nm W) rfl rfl (.inr rfl)
  by_cases hm:n∈nm W
  ·obtain⟨s',e⟩:=zsn ns all (.pl (.str n)) λx hx=>h x (qR _ hx)
   refine⟨s',?_⟩
   have b:xIf (zbs (eOp (inD true) (eVar 3) (eVar 2))) (zmh "NoKind" (eVar 3)) (xOf sNil) [.pl (webD W),.pl (zaq all),.ac (zaq (nm W)),.pl (.str n)]=some (.ok (.nx [.pl (webD W),.pl (zaq all),.ac (zaq (nm W)),.pl (.str n)])):=by
    unfold xIf
    rw[t,qJ,if_neg (by simp[hm])]
    rfl
   have f:zgf W (n::ns)=zgf W ns:=by unfold zgf;rw[List.find?_cons];simp[hm]
   rw[f,<- e]
   show((xIf _ _ _ [.pl (webD W),.pl (zaq all),.ac (zaq (nm W)),.pl (.str n)]).bind _)=_
   rw[b];rfl
  ·refine⟨s,?_⟩
   have b:xIf (zbs (eOp (inD true) (eVar 3) (eVar 2))) (zmh "NoKind" (eVar 3)) (xOf sNil) [.pl (webD W),.pl (zaq all),.ac (zaq (nm W)),.pl (.str n)]=some (.rx "NoKind" (.str n)):=by
    unfold xIf
    rw[t,qJ,if_pos (by simp[hm])]
    show(if atD (.str n)=true then some (OutX.rx "NoKind" (.str n))else none)=_
    rw[if_pos (h n (by simp) hm)]
   have f:zgf W (n::ns)=some n:=by unfold zgf;rw[List.find?_cons];simp[hm]
   rw[f]
   show((xIf _ _ _ [.pl (webD W),.pl (zaq all),.ac (zaq (nm W)),.pl (.str n)]).bind _)=_
   rw[b];rfl
theorem zrc{W:Web}(hl:W.length<100000){ns:List Str}(h:∀x∈ns,x∉nm W->atD (.str x)=true):zeq [webD W,zaq ns]=some (match zgf W ns with|none=>.ok .none false|some x=>.rx "NoKind" (.str x)):=by
 obtain⟨s',e⟩:=zsn (W:=W) ns ns .no h
 have f:zep [.pl (webD W),.pl (zaq ns),.no,.no]=zxk (gN 3) (xIf (zbs (eOp (inD true) (eVar 3) (eVar 2))) (zmh "NoKind" (eVar 3)) (xOf sNil)) (ns.map .str) [.pl (webD W),.pl (zaq ns),.ac (zaq (nm W)),.no]:=by
  unfold zep xSeq xOf
  rw[zvu (zdo (n:=1) (rs:=[⟨webD W,false,[]⟩]) rfl rfl (znf hl))]
  rfl
 unfold zeq fnX
 show(match zep [.pl (webD W),.pl (zaq ns),.no,.no]with|some (.ok (.rt d fr))=>some (ResX.ok d fr)|some (.ok (.nx _))=>some (.ok .none false)|some (.rx c d)=>some (.rx c d)|_=>none)=_
 rw[f,e]
 cases zgf W ns<;>rfl
theorem zaey{f g:SFX}{env e1:DEnv}{o:Option OutX}(h:f env=some (.ok (.nx e1)))(k:g e1=o):xSeq f g env=o:=by unfold xSeq;rw[h];exact k
theorem zaez{f g:SFX}{env:DEnv}{c:Str}{d:PyData}(h:f env=some (.rx c d)):xSeq f g env=some (.rx c d):=by unfold xSeq;rw[h];rfl
theorem zasd{t:TF}{f g:SFX}{env:DEnv}{o:Option OutX}(h:t env=some true)(k:f env=o):xIf t f g env=o:=by unfold xIf;rw[h];exact k
theorem zaqn{t:TF}{f g:SFX}{env:DEnv}{o:Option OutX}(h:t env=some false)(k:g env=o):xIf t f g env=o:=by unfold xIf;rw[h];exact k
theorem zafa{c:Str}{f:EF}{env:DEnv}{r:Val}(h:f env=some r)(ha:atD r.d=true):zmh c f env=some (.rx c r.d):=by unfold zmh;rw[h,qJ,if_pos ha]
theorem zait{n:Nat}{g:GFX}{f:AF}{env:DEnv}{rs:List Val}{d:PyData}{fr:Bool}(h:f env=some rs)(hn:rs.length=n)(k:g (zfx rs)=some (.ok d fr)):zxm n g f env=some (.ok (.nx env)):=by unfold zxm;rw[h,qJ,if_pos hn,k];rfl
theorem zzw{n:Nat}{g:GFX}{f:AF}{env:DEnv}{rs:List Val}{c:Str}{d:PyData}(h:f env=some rs)(hn:rs.length=n)(k:g (zfx rs)=some (.rx c d)):zxm n g f env=some (.rx c d):=by unfold zxm;rw[h,qJ,if_pos hn,k];rfl
theorem zaqo{n:Nat}{f:SFX}{ds:List PyData}{env e1:DEnv}(h:zhw n ds=env)(e:f env=some (.ok (.nx e1))):fnX n f ds=some (.ok .none false):=by unfold fnX;rw[h,e]
theorem zafb{n:Nat}{f:SFX}{ds:List PyData}{env:DEnv}{c:Str}{d:PyData}(h:zhw n ds=env)(e:f env=some (.rx c d)):fnX n f ds=some (.rx c d):=by unfold fnX;rw[h,e]
noncomputable def zku(W:Web)(p:Nat)(c:List Arm):Option (Str×PyData):=if c.length=p then(zgf W (c.flatMap Arm.parts)).map λx=>("NoKind",.str x)else some ("NoCall",.none)
structure CallLike(W:Web)(c:List Arm):Prop where
 len:c.length<300
 few:∀a∈c,a.parts.length<300
 at_:∀a∈c,∀n∈a.parts,n∉nm W->atD (.str n)=true
theorem zamt(a b:Nat):neD (.int (a:Int)) (.int (b:Int))=some (.bool (!decide (a=b)),false):=by
 by_cases e:a=b
 ·subst e
  rw[zmi,decide_eq_true rfl];rfl
 ·have:(a:Int)≠(b:Int):=λz=>e (Int.ofNat.inj z)
  rw[decide_eq_false e]
  show some (PyData.bool (!((a:Int)==(b:Int))),false)=_
  rw[beq_eq_false_iff_ne.mpr this]
theorem zuc{W:Web}(h:WebOk W){p:Nat}{c:List Arm}(hc:CallLike W c):zfp [webD W,.int p,zkl c]=some (match zku W p c with|none=>.ok .none false|some z=>.rx z.1 z.2):=by
 have hW:W.length<=12:=h.len
 have e2:eCB lenD (zab (eVar 2) aNil) [.pl (webD W),.pl (.int p),.pl (zkl c)]=some (vi (c.map armD).length):=rfl
 have t:zbs (eOp neD (eCB lenD (zab (eVar 2) aNil)) (eVar 1)) [.pl (webD W),.pl (.int p),.pl (zkl c)]=some (!decide (c.length=p)):=by
  refine zgn ?_
  unfold eOp
  rw[e2]
  show((neD (.int ((c.map armD).length:Nat)) (.int (p:Nat))).bind λz=>some (⟨z.1,z.2,bsOf z.1 ([]++[])⟩:Val))=_
  rw[qD,zamt];rfl
 unfold zku
 by_cases hp:c.length=p
 ·rw[decide_eq_true hp]at t
  rw[if_pos hp]
  have cn:=zrc (W:=W) (by omega) (ns:=c.flatMap Arm.parts) λx hx hm=>by
   obtain⟨a,ha',hn'⟩:=qBQ.mp hx
   exact hc.at_ a ha' x hn' hm
  have ar:zab (eVar 0) (zab (zct 1 zde (zab (eVar 2) aNil)) aNil) [.pl (webD W),.pl (.int p),.pl (zkl c)]=some [⟨webD W,false,[]⟩,⟨zaq (c.flatMap Arm.parts),true,[]⟩]:=zcc rfl (zic (zdo (n:=1) (rs:=[⟨zkl c,false,[]⟩]) rfl rfl (zkm hc.len hc.few)))
  cases hf:zgf W (c.flatMap Arm.parts)with
  | none=>
   rw[hf]at cn
   exact zaqo (env:=[.pl (webD W),.pl (.int p),.pl (zkl c)]) rfl (zaey (zaqn t rfl) (zait (n:=2) ar rfl cn))
  | some x=>
   rw[hf]at cn
   exact zafb (env:=[.pl (webD W),.pl (.int p),.pl (zkl c)]) rfl (zaey (zaqn t rfl) (zzw (n:=2) ar rfl cn))
 ·rw[decide_eq_false hp]at t
  rw[if_neg hp]
  exact zafb (env:=[.pl (webD W),.pl (.int p),.pl (zkl c)]) rfl (zaez (zasd t (zafa (r:=⟨.none,false,[]⟩) rfl rfl)))
noncomputable def shN(k:Nat)(d:PyData):Prop:=PyData.canLay0 d=true/\PyData.depth d<=k
theorem zafc{k:Nat}:∀{ds:List PyData},(∀d∈ds,shN k d)->qAQ ds=true/\qu ds<=k
 | [],_=>⟨by unfold qAQ;rfl,by unfold qu;omega⟩
 | d::ds,h=>by
  obtain⟨h1,h2⟩:=h d (by simp)
  obtain⟨h3,h4⟩:=zafc λx hx=>h x (qR _ hx)
  unfold qAQ qu
  exact⟨by rw[h1,h3];rfl,by omega⟩
theorem zajt{k:Nat}{ds:List PyData}(h:∀d∈ds,shN k d):shN (k+1) (.tuple ds):=by
 obtain⟨h1,h2⟩:=zafc h
 unfold shN PyData.canLay0 PyData.depth
 exact⟨h1,by omega⟩
theorem zaju{k:Nat}{ds:List PyData}(h:∀d∈ds,shN k d):shN (k+1) (.list ds):=by
 obtain⟨h1,h2⟩:=zafc h
 unfold shN PyData.canLay0 PyData.depth
 exact⟨h1,by omega⟩
theorem zud{k:Nat}{b:Bool}:shN k (.bool b):=by unfold shN PyData.canLay0 PyData.depth;exact⟨rfl,by omega⟩
theorem zamu{k:Nat}:shN k .none:=by unfold shN PyData.canLay0 PyData.depth;exact⟨rfl,by omega⟩
theorem zajv{k:Nat}{x:Str}(h:qA2 x=true):shN k (.str x):=by unfold shN PyData.canLay0 PyData.depth;exact⟨h,by omega⟩
theorem zafd{k:Nat}:∀d∈([]:List PyData),shN k d:=λd h=>by cases h
theorem znm{k:Nat}{d:PyData}{ds:List PyData}(h:shN k d)(t:∀x∈ds,shN k x):∀x∈d::ds,shN k x:=λx hx=>(qi.mp hx).elim (λe=>e▸h) (t x)
theorem zmu{k:Nat}{d:PyData}(h:shN k d)(hk:k<=64):qx d=true:=by
 unfold qx
 rw[h.1,decide_eq_true (qAC h.2 hk)];rfl
theorem zamv{k:Nat}{xs:List Str}(h:LowS xs):∀d∈xs.map PyData.str,shN k d:=λd hd=>by
 obtain⟨x,hx,rfl⟩:=qv.mp hd
 exact zajv (h x hx)
theorem zafe{x:Str}(h:Low x)(hl:x.length<=200):(reprText x).length<=1000:=by
 have hq:reprQuote x∈[34,39]:=by unfold reprQuote;split<;>simp
 have fold:∀(l:List Nat)(a:Array Nat),(∀c∈l,c<128)->(l.foldl (λout c=>out++(Builtin.Str.reprChar (reprQuote x) c).toArray) a).size<=a.size+4 * l.length:=by
  intro l
  induction l with
  | nil=>intro a _;simp
  | cons c l ih=>
   intro a hc
   rw[List.foldl_cons]
   have h1:=ih (a++(Builtin.Str.reprChar (reprQuote x) c).toArray) λc' hc'=>hc c' (qR _ hc')
   have h2:=zaex c (hc c (by simp)) _ hq
   rw[qAn]at h1
   simp only[qO,qV]at h1 ⊢
   omega
 show((x.cps.foldl (λout c=>out++(Builtin.Str.reprChar (reprQuote x) c).toArray) #[reprQuote x]).push (reprQuote x)).size<=1000
 rw[Array.size_push,<- Array.foldl_toList]
 have h1:=fold x.cps.toList #[reprQuote x] λc hc=>h c (by first|exact hc|exact qCl.mp hc|exact Array.mem_toList.mp hc)
 have h2:x.cps.toList.length=x.length:=rfl
 have h3:(#[reprQuote x]:Array Nat).size=1:=rfl
 omega
theorem zjj{α:Type}{enc:α->PyData}{g:GT}{t:TF}{e:EFr Pen}{env:DEnv}(c:Nat)(Ok:PyData->Prop):∀(l:List α),(∀x∈l,∀n st,PenB (n+c) st->∃e1 r s2,g (enc x) env=some e1/\t e1=some true/\e e1 st=some (r,s2)/\Ok r.d/\PenB n s2)->
  ∀n st,PenB (n+c * l.length) st->∃ds st',zgw g t e env (l.map enc) st=some (ds,st')/\ds.length=l.length/\(∀d∈ds,Ok d)/\PenB n st'
 | [],_,n,st,h=>⟨[],st,rfl,rfl,λ_ h=>(nomatch h),h⟩
 | x::l,hx,n,st,h=>by
  obtain⟨e1,r,s2,h1,h2,h3,h4,h5⟩:=hx x (qc ..) (n+c * l.length) st (h.mono (by rw[qV,Nat.mul_add];omega))
  obtain⟨ds,st',k1,k2,k3,k4⟩:=zjj c Ok l (λy hy=>hx y (qR _ hy)) n s2 h5
  refine⟨r.d::ds,st',?_,by rw[qV,k2];rfl,λd hd=>?_,k4⟩
  ·rw[qAE]
   unfold zgw
   rw[h1,qJ,h2,qJ,if_pos rfl,h3,qJ]
   show((zgw g t e env (l.map enc) s2).map _)=_
   rw[k1];rfl
  ·rcases qi.mp hd with rfl|hd
   ·exact h4
   ·exact k3 d hd
theorem zol{own:List Str}{fr:List Nat}{it:IFr Pen}{g:GT}{t:TF}{e:EFr Pen}{env:DEnv}{st s1 s2:Pen}{ds rs:List PyData}{bs:List Nat}(h:it env st=some (ds,bs,s1))(hl:ds.length<100000)(k:zgw g t e (envB own fr env) ds s1=some (rs,s2)):zls own fr it g t e env st=some (⟨.list rs,true,if zdb rs=true then[]else bs++capA fr env⟩,s2):=by
 unfold zls
 rw[h,qJ]
 show((if ds.length<100000 then _ else _):Option _)=_
 rw[if_pos hl]
 show((zgw g t e (envB own fr env) ds s1).map _)=_
 rw[k];rfl
theorem zaff{a:AFr Pen}{env:DEnv}{st s1:Pen}{rs:List Val}(h:a env st=some (rs,s1))(hl:rs.length<=100000):rTup a env st=some (⟨.tuple (zfx rs),false,bss rs⟩,s1):=by
 unfold rTup
 rw[h,qJ]
 exact if_pos hl
theorem zjk{f:AF}{env:DEnv}{st:Pen}{s:Nat}{fr:Bool}{bs:List Nat}(h:f env=some [⟨.int (s:Int),fr,bs⟩])(hs:s<=100000):rIP (zcy f) env st=some ((List.range s).map (λ(k:Nat)=>PyData.int (k:Int)),[],st):=by
 unfold rIP zcy
 rw[h,qJ]
 show((if -(2 ^ 62)<=(s:Int)/\(s:Int)<2 ^ 62 then _ else _:Option _).map _)=_
 rw[if_pos ⟨by omega,by omega⟩,<- zkj];rfl
noncomputable def zaw(l:List Nat):PyData:=.list (l.map λ(k:Nat)=>.int (k:Int))
theorem zaqp{i:Nat}{A:List Str}{env:DEnv}{st:Pen}{n:Nat}(h5:env[i]?=some (.pl (zaq A)))(hA:A≠[])(hA2:A.length<=100)(hp:PenB (n+1) st):∃a s',rOp ixD (zah (eVar i)) (zav 2 zal (zau (zah (eCB lenD (zab (eVar i) aNil))) rNil)) env st=some (vs a,s')/\a∈A/\PenB n s':=by
 have hl:1<=A.length:=qCu.mpr hA
 have e5:eVar i env=some ⟨.list (A.map .str),false,[]⟩:=by unfold eVar;rw[h5];rfl
 have el:eCB lenD (zab (eVar i) aNil) env=some (vi (A.length:Int)):=by
  unfold eCB
  rw[zic e5,qJ]
  show((some ((PyData.int ((A.map PyData.str).length:Int),false)):Option (PyData×Bool)).bind _)=_
  rw[qD];rfl
 obtain⟨r,s2,e2,a2,b2,p2⟩:=zia (n:=n) (a:=zah (eCB lenD (zab (eVar i) aNil))) (env:=env) (st:=st) (bs:=[]) (zbd el) hp (by omega) (by omega)
 obtain⟨d,ed,md⟩:=zlu (l:=A.map PyData.str) a2 (by rw[qD];exact b2)
 obtain⟨w,hw,rfl⟩:=qv.mp md
 have ix:ixD (.list (A.map .str)) (.int r)=some (.str w,false):=by
  show((atI (A.map PyData.str) r).map _)=_
  rw[ed];rfl
 exact⟨w,s2,zcm (T:=Pen) (zbd e5) e2 ix,hw,p2⟩
noncomputable abbrev exG(i o:Nat)(J J1:EF):EF:=eOp addD (eOp addE (eSlT (eVar i) zih (zhb J)) (eTup (zab (eVar o) aNil))) (eSlT (eVar i) (zhb J1) zih)
theorem zamw {i o:Nat} {J J1:EF} {env:DEnv} {c:List Str} {k:Nat} {b:Str} (hi:env[i]?=some (.pl (zai c))) (hj:J env=some (vi (k:Int))) (h1:J1 env=some (vi ((k+1:Nat):Int))) (ho:env[o]?=some (.pl (.str b))) (hc:c.length<=100):exG i o J J1 env=some ⟨zai (exC c k b),false,[]⟩:=by
 have e1:eVar i env=some ⟨.tuple (c.map .str),false,[]⟩:=by unfold eVar;rw[hi];rfl
 have e3:eVar o env=some (vs b):=by unfold eVar;rw[ho]
 have s1:eSlT (eVar i) zih (zhb J) env=some ⟨.tuple ((c.take k).map .str),false,[]⟩:=by
  unfold eSlT
  rw[e1,qJ,show zih env=some none from rfl,qJ,show zhb J env=some (some (k:Int)) by unfold zhb;rw[hj];rfl,qJ]
  show some (⟨.tuple (cutD (c.map .str) none (some (k:Int))),false,[]⟩:Val)=_
  rw[zais,qCZ]
 have s2:eSlT (eVar i) (zhb J1) zih env=some ⟨.tuple ((c.drop (k+1)).map .str),false,[]⟩:=by
  unfold eSlT
  rw[e1,qJ,show zhb J1 env=some (some ((k+1:Nat):Int)) by unfold zhb;rw[h1];rfl,qJ,show zih env=some none from rfl,qJ]
  show some (⟨.tuple (cutD (c.map .str) (some ((k+1:Nat):Int)) none),false,[]⟩:Val)=_
  rw[zzv,List.map_drop]
 have t1:eTup (zab (eVar o) aNil) env=some ⟨.tuple [.str b],false,[]⟩:=zwl (zic e3) (by show 1<=100000;decide)
 have l1:(c.take k).length<=100:=by rw[qAi];omega
 have l2:(c.drop (k+1)).length<=100:=by rw[qBC];omega
 have o1:=zcd s1 t1 (zaew (by simp only[qD,qV,qA5];omega))
 have o2:addD (.tuple ((c.take k).map .str++[.str b])) (.tuple ((c.drop (k+1)).map .str))=some (zai (exC c k b),false):=by
  unfold addD
  dsimp only
  rw[if_pos ⟨by simp,by simp only[qI,qD,qV,qA5];omega⟩]
  unfold zai exC
  rw[qw,qw];rfl
 exact zcd o1 s2 o2
theorem zaiu{W:Web}{l:List Str}{k:Nat}{x:Str}(hx:x∉nm W)(hk:l[k]?=some x)(hl:∀j y,j<k->l[j]?=some y->y∈nm W):zgf W l=some x:=by
 obtain⟨hk',e⟩:=qW.mp hk
 unfold zgf
 refine List.find?_eq_some_iff_getElem.mpr ⟨by rw[decide_eq_false hx];rfl,k,hk',e,λj hj=>?_⟩
 rw[decide_eq_true (hl j _ hj (qF (by omega)))];rfl
theorem zafg(c:List Str):(c.map Arm.one).flatMap Arm.parts=c:=by
 induction c with
 | nil=>rfl
 | cons x c ih=>rw[qAE,qBI,ih];rfl
theorem zaiv{W:Web}{p:Nat}{c:List Str}{x:Str}(hp:c.length=p)(h:zgf W c=some x):zku W p (c.map .one)=some (("NoKind":Str),PyData.str x):=by
 unfold zku
 rw[qD,if_pos hp,zafg,h];rfl
theorem zamx{W:Web}{p:Nat}{c:List Str}(hp:c.length≠p):zku W p (c.map .one)=some (("NoCall":Str),PyData.none):=by
 unfold zku
 rw[qD,if_neg hp]
theorem zaiw{W:Web}{c:List Str}(hl:c.length<300)(h:∀x∈c,x∉nm W->atD (.str x)=true):CallLike W (c.map .one):=⟨by rw[qD];exact hl,λa ha=>by
  obtain⟨x,_,rfl⟩:=qv.mp ha
  show 1<300;decide,λa ha n hn hx=>by
  obtain⟨x,hx',rfl⟩:=qv.mp ha
  have:n=x:=by simpa [Arm.parts]using hn
  rw[this]at hx ⊢;exact h x hx' hx⟩
theorem zaqq{W:Web}{c:List Str}(hl:c.length<300)(h:∀x∈c,x∈nm W):CallOk W (c.map .one):=⟨by rw[qD];exact hl,λa ha=>by
  obtain⟨x,_,rfl⟩:=qv.mp ha
  show 1<300;decide,λa ha n hn=>by
  obtain⟨x,hx',rfl⟩:=qv.mp ha
  have:n=x:=by simpa [Arm.parts]using hn
  rw[this];exact h x hx'⟩
theorem zue{W:Web}(h:WebOk W){c:List Str}{p:Nat}(hp:c.length=p)(hl:p<300)(hm:∀x∈c,x∈nm W):zgo [webD W,.int (p:Int),zai c]=some (.none,false):=by
 have k:=zaqq (W:=W) (c:=c) (by omega) hm
 have g:=zvw h k.len k.few k.kinds
 rw[qD,hp,<- zzu]at g
 exact g
theorem zrd{W:Web}(h:WebOk W){c:List Str}{p:Nat}(hc:CallLike W (c.map .one)){z:Str×PyData}(hb:zku W p (c.map .one)=some z):zfp [webD W,.int (p:Int),zai c]=some (.rx z.1 z.2):=by
 have g:=zuc h (p:=p) hc
 rw[hb,<- zzu]at g
 exact g
noncomputable abbrev anE(R:List Rule)(s2 s3 s4:Sl):DEnv:=[.no,.pl (zdw R),s2,s3,s4]
theorem eqI(x a:Int):eqD (.int x) (.int a)=some (.bool (decide (x=a)),false):=by
 unfold eqD eqOk
 rw[show zux (.int x) (.int a)=true from rfl,qCC,if_pos rfl]
 have:(x==a)=decide (x=a):=by rw[qAx];simp
 simp only[qk,this]
theorem zase{A:List Str}(h:LowS A):eqD (zaq A) (.list [])=some (.bool (decide (A=[])),false):=by
 have s1:qx (zaq A)=true:=zmu (k:=1) (zaju (zamv h)) (by decide)
 have s2:qx (.list [])=true:=zmu (k:=1) (zaju zafd) (by decide)
 unfold eqD eqOk
 rw[s1,s2,if_pos (by simp)]
 cases A with
 | nil=>rw[decide_eq_true rfl];simp[zaq,qk,PyData.eqvAll]
 | cons a A=>rw[decide_eq_false (by simp)];simp[zaq,qk,PyData.eqvAll]
theorem zaix{R:List Rule}{n:Nat}{st:Pen}(hR:R.length<=100)(low:∀r∈R,qA2 r.1=true)(hp:PenB (n+3) st):∃d st',zcq [zdw R] st=some (d,false,st')/\SmOk 3 d/\zhr d=false/\PenB n st':=by
 have nmE:zen ["_law_name_here","_law_kinds"] [] (zba (eVar 1)) (gT 2 (zbe 0 (zbe 1 zfd))) zbv (eVar 0) (anE R .no .no .no)=some ⟨zaq (R.map (·.1)),true,[]⟩:=by
  have it:zba (eVar 1) (anE R .no .no .no)=some (R.map zng,[]):=rfl
  have cm:zem (gT 2 (zbe 0 (zbe 1 zfd))) zbv (eVar 0) (envB ["_law_name_here","_law_kinds"] [] (anE R .no .no .no)) (R.map zng)=some (R.map λq=>.str q.1):=zdv λq hq=>⟨[.pl (.str q.1),.pl (zai q.2)],rfl,rfl,vs q.1,rfl,rfl⟩
  rw[zin it (by rw[qD];omega) cm]
  have e:(R.map λq=>PyData.str q.1)=(R.map (·.1)).map .str:=by rw[qAr];rfl
  rw[e,if_pos (zhg _)];rfl
 have hA:LowS (R.map (·.1)):=λx hx=>by
  obtain⟨r,hr,rfl⟩:=qv.mp hx
  exact low r hr
 have hAl:(R.map (·.1)).length<=100:=by rw[qD];exact hR
 generalize hAe:R.map (·.1)=A at nmE hA hAl
 obtain⟨w,s1,e1,a1,b1,p1⟩:=zia (n:=n+2) (a:=zah (eC (.int 3))) (env:=anE R (.ac (zaq A)) .no .no) (st:=st) (s1:=st) (bs:=[]) rfl hp (by decide) (by decide)
 have t1:tOrF (zbs (eOp eqD (eVar 3) (eC (.int 0)))) (zbs (eOp eqD (eVar 2) (eLst aNil))) (anE R (.ac (zaq A)) (.pl (.int w)) .no)=some (decide (w=0)||decide (A=[])):=by
  unfold tOrF
  rw[zgn (zcd (x:=vi w) (y:=vi 0) rfl rfl (eqI w 0)),zgn (zcd (x:=⟨zaq A,false,[2]⟩) (y:=⟨.list [],true,[]⟩) rfl rfl (zase hA))]
  cases decide (w=0)<;>rfl
 have go:∀{o:Option (OutR Pen)},(rSeq (rIf (zit (tOrF (zbs (eOp eqD (eVar 3) (eC (.int 0)))) (zbs (eOp eqD (eVar 2) (eLst aNil))))) (rRet (zah (eTup (zab (eC (.str "none")) aNil)))) rNx)
  (rSeq (rSet 4 (zav 2 zal (zau (zah (eCB lenD (zab (eVar 2) aNil))) rNil)))
  (rSeq (rIf (zit (tOrF (zbs (eOp eqD (eVar 3) (eC (.int 1)))) (zbs (eOp eqD (eVar 4) (eC (.int 0)))))) (rRet (zah (eTup (zab (eC (.str "rule")) (zab (eIxV 2 (eVar 4)) aNil))))) rNx)
  (rRet (rTup (zau (zah (eC (.str "quarrel"))) (zau (rTup (zau (rOp ixD (zah (eVar 2)) (zav 2 zal (zau (zah (eVar 4)) rNil))) (zau (zah (eIxV 2 (eVar 4))) rNil))) rNil))))))) (anE R (.ac (zaq A)) (.pl (.int w)) .no) s1=o->zgv (anE R .no .no .no) st=o:=λh=>zap (e1:=anE R (.ac (zaq A)) .no .no) (s1:=st) (zbj (zbd nmE)) (zap (zbj e1) h)
 by_cases h0:(decide (w=0)||decide (A=[]))=true
 ·rw[h0]at t1
  exact⟨.tuple [.str "none"],s1,ziu (env:=anE R .no .no .no) rfl (go (zto (zqn (zcn t1) rfl))),⟨by show 1<100000;decide,λd hd=>by rw[qS.mp hd];trivial⟩,rfl,p1.mono (by omega)⟩
 ·have h0:(decide (w=0)||decide (A=[]))=false:=by cases h:(decide (w=0)||decide (A=[]))<;>simp_all
  rw[h0]at t1
  have hA0:A≠[]:=λz=>by rw[z,decide_eq_true rfl,qAm]at h0;cases h0
  have hA1:1<=A.length:=qCu.mpr hA0
  have el:eCB lenD (zab (eVar 2) aNil) (anE R (.ac (zaq A)) (.pl (.int w)) .no)=some (vi (A.length:Int)):=by
   show some (vi ((A.map PyData.str).length:Int))=_
   rw[qD]
  obtain⟨r,s2,e2,a2,b2,p2⟩:=zia (n:=n+1) (a:=zah (eCB lenD (zab (eVar 2) aNil))) (env:=anE R (.ac (zaq A)) (.pl (.int w)) .no) (st:=s1) (bs:=[]) (zbd el) p1 (by omega) (by omega)
  obtain⟨d,ed,md⟩:=zlu (l:=A.map PyData.str) a2 (by rw[qD];exact b2)
  obtain⟨y,hy,rfl⟩:=qv.mp md
  have i4:eIxV 2 (eVar 4) (anE R (.ac (zaq A)) (.pl (.int w)) (.pl (.int r)))=some (vs y):=by
   show((atI (A.map PyData.str) r).map _)=_
   rw[ed];rfl
  have t2:tOrF (zbs (eOp eqD (eVar 3) (eC (.int 1)))) (zbs (eOp eqD (eVar 4) (eC (.int 0)))) (anE R (.ac (zaq A)) (.pl (.int w)) (.pl (.int r)))=some (decide (w=1)||decide (r=0)):=by
   unfold tOrF
   rw[zgn (zcd (x:=vi w) (y:=vi 1) rfl rfl (eqI w 1)),zgn (zcd (x:=vi r) (y:=vi 0) rfl rfl (eqI r 0))]
   cases decide (w=1)<;>rfl
  by_cases h1:(decide (w=1)||decide (r=0))=true
  ·rw[h1]at t2
   refine⟨.tuple [.str "rule",.str y],s2,ziu (env:=anE R .no .no .no) rfl (go (zap (zmf (zcn t1) rfl) (zap (zbj e2) (zto (zqn (zcn t2) (zkg (bs:=[]) (zbd ?_))))))),⟨by show 2<100000;decide,λd hd=>?_⟩,rfl,p2.mono (by omega)⟩
   ·exact zwl (zcc (r:=vs "rule") rfl (zic i4)) (by show 2<=100000;decide)
   ·rcases qi.mp hd with rfl|hd
    ·trivial
    ·rw[qS.mp hd];trivial
  ·have h1:(decide (w=1)||decide (r=0))=false:=by cases h:(decide (w=1)||decide (r=0))<;>simp_all
   rw[h1]at t2
   have hr0:r≠0:=λz=>by rw[z,decide_eq_true rfl,qAm]at h1;cases h1
   obtain⟨q,s3,e3,a3,b3,p3⟩:=zia (n:=n) (a:=zah (eVar 4)) (env:=anE R (.ac (zaq A)) (.pl (.int w)) (.pl (.int r))) (st:=s2) (s1:=s2) (k:=r) (bs:=[]) rfl p2 (by omega) (by omega)
   obtain⟨d,ed,md⟩:=zlu (l:=A.map PyData.str) a3 (by rw[qD];omega)
   obtain⟨u,hu,rfl⟩:=qv.mp md
   have ix:ixD (.list (A.map .str)) (.int q)=some (.str u,false):=by
    show((atI (A.map PyData.str) q).map _)=_
    rw[ed];rfl
   have o1:=zcm (T:=Pen) (a:=zah (eVar 2)) (env:=anE R (.ac (zaq A)) (.pl (.int w)) (.pl (.int r))) (st:=s2) (s1:=s2) (x:=⟨zaq A,false,[2]⟩) rfl e3 ix
   refine⟨.tuple [.str "quarrel",.tuple [.str u,.str y]],s3,ziu (env:=anE R .no .no .no) rfl (go (zap (zmf (zcn t1) rfl) (zap (zbj e2) (zap (zmf (zcn t2) rfl) (zkg (bs:=[]) ?_))))),⟨by show 2<100000;decide,λd hd=>?_⟩,rfl,p3⟩
   ·have k1:=zaff (zbx (T:=Pen) o1 (zbx (T:=Pen) (g:=rNil) (xs:=[]) (s2:=s3) (zbd (st:=s3) i4) rfl)) (by show 2<=100000;decide)
    exact zaff (zbx (T:=Pen) (x:=vs "quarrel") (s1:=s2) rfl (zbx (T:=Pen) (g:=rNil) (xs:=[]) (s2:=s3) k1 rfl)) (by show 2<=100000;decide)
   ·rcases qi.mp hd with rfl|hd
    ·trivial
    ·rw[qS.mp hd]
     refine⟨by show 2<100000;decide,λd hd=>?_⟩
     rcases qi.mp hd with rfl|hd
     ·trivial
     ·rw[qS.mp hd];trivial
noncomputable def ixS(A:List Str)(x:Str):Nat:=((A.map PyData.str).findIdx? λe=>qk e (.str x)).getD 0
theorem zafh{a b:EF}{env:DEnv}{A:List Str}{x:Str}{f1 f2:Bool}{b1 b2:List Nat}(ha:a env=some ⟨zaq A,f1,b1⟩)(hb:b env=some ⟨.str x,f2,b2⟩)(hx:x∈A)(hl:A.length<=1000):zlg a b env=some (vi (ixS A x:Int))/\ixS A x<A.length:=by
 have hs:∃j,((A.map PyData.str).findIdx? λe=>qk e (.str x))=some j/\j<A.length:=by
  cases h:(A.map PyData.str).findIdx? λe=>qk e (.str x)with
  | none=>
   have:=List.findIdx?_eq_none_iff.mp h (.str x) (qv.mpr ⟨x,hx,rfl⟩)
   simp[qk]at this
  | some j=>
   obtain⟨hj,_⟩:=qB5.mp h
   exact⟨j,rfl,by rw[qD]at hj;exact hj⟩
 obtain⟨j,hj,hlt⟩:=hs
 have e:ixS A x=j:=by unfold ixS;rw[hj];rfl
 refine⟨?_,by rw[e];exact hlt⟩
 unfold zlg
 rw[ha,qJ,hb,qJ]
 show(if zhr (.str x)=true/\zdb (A.map .str)=true/\(A.map PyData.str).length<=100000 then _ else _)=_
 rw[if_pos ⟨rfl,zhg _,by rw[qD];omega⟩,hj,e];rfl
theorem zamy{D:List PyData}{k:Nat}(h:k<D.length):∃d,D[k]?=some d/\d∈D:=⟨D[k],qF h,qAG h⟩
theorem zafi(l:List Nat)(k:Nat):zaw (l++[k])=.list ((l.map λ(k:Nat)=>PyData.int (k:Int))++[.int (k:Int)]):=by unfold zaw;rw[qw];rfl
theorem zyn{l:List PyData}{d:PyData}:atI (l++[d]) (-1)=some d:=by
 unfold atI ixN
 rw[if_neg (by decide),qI,if_pos (by simp;omega),qJ]
 rw[show((-1:Int)+((l.length+[d].length:Nat):Int)).toNat=l.length by simp;omega,qh (qL _)]
 simp
theorem zafj{A:List Str}:∀{ds:List PyData},(∀d∈ds,∃x:Str,d=.str x/\x∈A)->∃c:List Str,ds=c.map .str/\c.length=ds.length/\∀x∈c,x∈A
 | [],_=>⟨[],rfl,rfl,λg hg=>(nomatch hg)⟩
 | d::ds,h=>by
  obtain⟨x,rfl,h1⟩:=h d (qc ..)
  obtain⟨c,rfl,h3,h4⟩:=zafj λd hd=>h d (qR _ hd)
  refine⟨x::c,rfl,by rw[qV,qV,h3],λg hg=>?_⟩
  rcases qi.mp hg with rfl|hg
  ·exact h1
  ·exact h4 g hg
theorem zaqr{c:List Str}{k j:Nat}{x y:Str}(h:(c.set k x)[j]?=some y)(hj:j≠k):c[j]?=some y:=by
 rw[qP (qAg hj)]at h;exact h
theorem zafk{c:List Str}{k:Nat}{x y:Str}(h:y∈c.set k x):y∈c\/y=x:=(List.mem_or_eq_of_mem_set h)
theorem zyo{xs ys:List Str}(h0:xs≠[])(h:xs.length+ys.length<=1000):addD (zai xs) (zai ys)=some (zai (xs++ys),false):=by
 unfold zai addD
 dsimp only
 rw[if_pos ⟨by cases xs with|nil=>exact absurd rfl h0|cons a l=>rfl,by rw[qD,qD];omega⟩,qw]
theorem zkv:∀{n:Nat}{d:PyData},SmOk n d->SmOk (n+1) d
 | 0,_,h=>h.elim
 | n+1,d,h=>by
  cases d with
  | str _=>trivial
  | int _=>trivial
  | list ds=>exact⟨h.1,λd hd=>zkv (h.2 d hd)⟩
  | tuple ds=>exact⟨h.1,λd hd=>zkv (h.2 d hd)⟩
  | _=>exact h.elim
theorem zaqs{W:Web}(hW:W.length<=100)(few:∀q∈W,q.2.length<=100):SmOk 7 (webD W):=by
 refine⟨by rw[qD];omega,λd hd=>?_⟩
 obtain⟨q,hq,rfl⟩:=qv.mp hd
 refine⟨by show 2<100000;decide,λd hd=>?_⟩
 rcases qi.mp hd with rfl|hd
 ·trivial
 ·rw[qS.mp hd]
  exact⟨by rw[qD];have:=few q hq;omega,zamn⟩
theorem zafl{α:Type}{enc:α->PyData}{Ok:α->Prop}:∀{ds:List PyData},(∀d∈ds,∃x:α,d=enc x/\Ok x)->∃l:List α,ds=l.map enc/\l.length=ds.length/\∀x∈l,Ok x
 | [],_=>⟨[],rfl,rfl,λg hg=>(nomatch hg)⟩
 | d::ds,h=>by
  obtain⟨x,rfl,h1⟩:=h d (qc ..)
  obtain⟨l,rfl,h3,h4⟩:=zafl λd hd=>h d (qR _ hd)
  refine⟨x::l,rfl,by rw[qV,qV,h3],λg hg=>?_⟩
  rcases qi.mp hg with rfl|hg
  ·exact h1
  ·exact h4 g hg
noncomputable def lvD(N:List (List Nat)):PyData:=.list (N.map zaw)
noncomputable def wkD(L:List (List (List Nat)))(D:List PyData):PyData:=.list (L.map lvD++[.list D])
noncomputable def WkOk(s:Nat):List (List (List Nat))->Nat->Nat->Prop
 | [],m,e=>m=e
 | N::L,m,e=>N.length=m/\∃m',(∀row∈N,row.length=s/\∀x∈row,x<m')/\WkOk s L m' e
theorem zafm{s:Nat}{N:List (List Nat)}{e:Nat}:∀{L:List (List (List Nat))}{m m':Nat},WkOk s L m m'->N.length=m'->(∀row∈N,row.length=s/\∀x∈row,x<e)->WkOk s (L++[N]) m e
 | [],m,m',h,h1,h2=>⟨h1.trans h.symm,e,h2,rfl⟩
 | _::_,_,_,⟨h0,m1,h3,h4⟩,h1,h2=>⟨h0,m1,h3,zafm h4 h1 h2⟩
noncomputable def wkS(A c:List Str)(N:List (List Nat))(x a:Nat):Nat:=(N.getD a []).getD (ixS A (c.getD x ("":Str))) 0
noncomputable def wkN(A c:List Str):List (List (List Nat))->List Nat->Nat->Nat
 | N::L,x::o,a=>wkN A c L o (wkS A c N x a)
 | _,_,a=>a
theorem zafn{E1 E2:EF}{env:DEnv}{row:List Nat}{j:Nat}{f:Bool}{b:List Nat}(h1:E1 env=some ⟨zaw row,f,b⟩)(h2:E2 env=some (vi (j:Int)))(hj:j<row.length):eOp ixD E1 E2 env=some (vi ((row.getD j 0:Nat):Int)):=by
 refine zcd h1 h2 ?_
 show((atI (row.map λ(k:Nat)=>PyData.int (k:Int)) ((j:Nat):Int)).map _)=_
 rw[zgq (v:=.int ((row.getD j 0:Nat):Int)) (by rw[qa,qF hj,qK,qF hj];rfl)];rfl
theorem zaqt{N:List (List Nat)}{a:Nat}(h:a<N.length):ixD (lvD N) (.int (a:Int))=some (zaw (N.getD a []),false):=by
 show((atI (N.map zaw) ((a:Nat):Int)).map _)=_
 rw[zgq (v:=zaw (N.getD a [])) (by rw[qa,qF h,qK,qF h];rfl)];rfl
theorem zafo{c:List Str}{x:Nat}(h:x<c.length):c.getD x ("":Str)=c[x]:=by
 rw[qK,qF h];rfl
noncomputable abbrev wE(W:Web)(Q O:PyData)(c:List Str)(a:Nat)(s6 s7:Sl):DEnv:=[.pl (webD W),.pl Q,.pl O,.pl (zai c),.ac (zaq (nm W)),.pl (.int (a:Int)),s6,s7]
noncomputable abbrev dE(W:Web)(Q O:PyData)(c:List Str)(a:Nat)(s5 s6:Sl):DEnv:=[.pl (zaq (nm W)),.pl Q,.pl O,.pl (zai c),.pl (.int (a:Int)),s5,s6]
noncomputable abbrev enW(z:List (List Nat)×Nat):PyData:=.tuple [lvD z.1,.int (z.2:Int)]
noncomputable abbrev wB:SF:=sSet 5 (eOp ixD (eIxV 6 (eVar 5)) (zlg (eVar 4) (eIxV 3 (eVar 7))))
noncomputable abbrev dB:SF:=sSet 4 (eOp ixD (eOp ixD (eIxV 1 (eVar 5)) (eVar 4)) (zlg (eVar 0) (eIxV 3 (eVar 6))))
section
variable{W:Web}{c:List Str}(hW:W.length<=10)(ci:∀x∈c,x∈nm W)
include hW ci
theorem zaqu {i x:Nat} {E:EF} {env:DEnv} {j:Nat} {f:Bool} {b:List Nat} (hE:E env=some ⟨zaq (nm W),f,b⟩) (hi:env[i]?=some (.pl (zai c))) (hj:env[j]?=some (.pl (.int (x:Int)))) (hx:x<c.length):zlg E (eIxV i (eVar j)) env=some (vi ((ixS (nm W) (c.getD x ("":Str)):Nat):Int))/\ixS (nm W) (c.getD x ("":Str))<W.length:=by
 have hn:(nm W).length=W.length:=qD ..
 have e1:=zamr hx hi hj
 rw[zafo hx,<- hn]
 exact zafh hE e1 (ci _ (qAG hx)) (by omega)
theorem zaqv{N:List (List Nat)}{m' a x:Nat}(hr:∀row∈N,row.length=W.length/\∀x∈row,x<m')(ha:a<N.length)(hx:x<c.length):wkS (nm W) c N x a<m':=by
 have hn:(nm W).length=W.length:=qD ..
 have hm:N.getD a []∈N:=by rw[qK,qF ha];exact qAG ha
 obtain⟨h1,h2⟩:=hr _ hm
 have hj:ixS (nm W) (c.getD x ("":Str))<(nm W).length:=by
  rw[zafo hx]
  exact(zafh (a:=λ_=>some ⟨zaq (nm W),false,[]⟩) (b:=λ_=>some ⟨.str c[x],false,[]⟩) (env:=[]) rfl rfl (ci _ (qAG hx)) (by omega)).2
 unfold wkS
 rw[qK,qF (by rw[h1];omega)]
 exact h2 _ (qAG _)
theorem zql{Q O:PyData}:∀{L:List (List (List Nat))}{o:List Nat}{a m e:Nat}{s6 s7:Sl},WkOk W.length L m e->L.length=o.length->a<m->(∀x∈o,x<c.length)->
  (∃s6' s7',forL (gT 2 (zbe 6 (zbe 7 zfd))) wB ((L.zip o).map enW) (wE W Q O c a s6 s7)=some (.nx (wE W Q O c (wkN (nm W) c L o a) s6' s7')))/\wkN (nm W) c L o a<e
 | [],[],a,m,e,s6,s7,h,_,ha,_=>⟨⟨s6,s7,rfl⟩,by show a<e;rw[<- (show m=e from h)];exact ha⟩
 | [],_::_,_,_,_,_,_,_,h,_,_=>by cases h
 | _::_,[],_,_,_,_,_,_,h,_,_=>by cases h
 | N::L,x::o,a,m,e,s6,s7,⟨h0,m',hr,h⟩,hl,ha,ho=>by
  have hx:x<c.length:=ho x (qc ..)
  have haN:a<N.length:=by omega
  have hm:N.getD a []∈N:=by rw[qK,qF haN];exact qAG haN
  have hn:(nm W).length=W.length:=qD ..
  have v1:eIxV 6 (eVar 5) (wE W Q O c a (.pl (lvD N)) (.pl (.int (x:Int))))=some ⟨zaw (N.getD a []),false,[]⟩:=zcd (x:=⟨lvD N,false,[]⟩) (y:=vi (a:Int)) rfl rfl (zaqt haN)
  obtain⟨v2,v3⟩:=zaqu hW ci (E:=eVar 4) (env:=wE W Q O c a (.pl (lvD N)) (.pl (.int (x:Int)))) (i:=3) (j:=7) (x:=x) (f:=false) (b:=[4]) rfl rfl rfl hx
  have b1:wB (wE W Q O c a (.pl (lvD N)) (.pl (.int (x:Int))))=_:=zvu (i:=5) (zafn v1 v2 (by rw[(hr _ hm).1];exact v3))
  obtain⟨⟨s6',s7',k1⟩,k2⟩:=zql (Q:=Q) (O:=O) (L:=L) (o:=o) (a:=wkS (nm W) c N x a) (m:=m') (e:=e) (s6:=.pl (lvD N)) (s7:=.pl (.int (x:Int))) h (qBh hl) (zaqv hW ci hr haN hx) λy hy=>ho y (qR _ hy)
  refine⟨⟨s6',s7',?_⟩,k2⟩
  rw[List.zip_cons_cons,qAE]
  unfold forL
  show((wB (wE W Q O c a (.pl (lvD N)) (.pl (.int (x:Int))))).bind _)=_
  rw[b1]
  exact k1
theorem zzx{F:List (List (List Nat))}{D:List PyData}{O:PyData}:∀{L P:List (List (List Nat))}{o:List Nat}{a m e:Nat}{s5 s6:Sl},F=P++L->WkOk W.length L m e->L.length=o.length->a<m->(∀x∈o,x<c.length)->
  (∃s5' s6',forL (gT 2 (zbe 5 (zbe 6 zfd))) dB ((o.zipIdx P.length).map λ(p:Nat×Nat)=>PyData.tuple [.int (p.2:Int),.int (p.1:Int)]) (dE W (wkD F D) O c a s5 s6)=some (.nx (dE W (wkD F D) O c (wkN (nm W) c L o a) s5' s6')))
 | [],P,[],a,m,e,s5,s6,_,h,_,ha,_=>⟨s5,s6,rfl⟩
 | [],_,_::_,_,_,_,_,_,_,_,h,_,_=>by cases h
 | _::_,_,[],_,_,_,_,_,_,_,h,_,_=>by cases h
 | N::L,P,x::o,a,m,e,s5,s6,hF,⟨h0,m',hr,h⟩,hl,ha,ho=>by
  have hx:x<c.length:=ho x (qc ..)
  have haN:a<N.length:=by omega
  have hm:N.getD a []∈N:=by rw[qK,qF haN];exact qAG haN
  have hn:(nm W).length=W.length:=qD ..
  have v0:eIxV 1 (eVar 5) (dE W (wkD F D) O c a (.pl (.int (P.length:Int))) (.pl (.int (x:Int))))=some ⟨lvD N,false,[]⟩:=by
   refine zcd (x:=⟨wkD F D,false,[]⟩) (y:=vi (P.length:Int)) rfl rfl ?_
   show((atI (F.map lvD++[.list D]) ((P.length:Nat):Int)).map _)=_
   rw[zgq (v:=lvD N) (by rw[hF,qw,qAE,qAw,qh (by rw[qD];exact qL _),qD,qCF];rfl)];rfl
  have v1:eOp ixD (eIxV 1 (eVar 5)) (eVar 4) (dE W (wkD F D) O c a (.pl (.int (P.length:Int))) (.pl (.int (x:Int))))=some ⟨zaw (N.getD a []),false,[]⟩:=zcd v0 (y:=vi (a:Int)) rfl (zaqt haN)
  obtain⟨v2,v3⟩:=zaqu hW ci (E:=eVar 0) (env:=dE W (wkD F D) O c a (.pl (.int (P.length:Int))) (.pl (.int (x:Int)))) (i:=3) (j:=6) (x:=x) (f:=false) (b:=[]) rfl rfl rfl hx
  have b1:dB (dE W (wkD F D) O c a (.pl (.int (P.length:Int))) (.pl (.int (x:Int))))=_:=zvu (i:=4) (zafn v1 v2 (by rw[(hr _ hm).1];exact v3))
  obtain⟨s5',s6',k1⟩:=zzx (F:=F) (D:=D) (O:=O) (L:=L) (P:=P++[N]) (o:=o) (a:=wkS (nm W) c N x a) (m:=m') (e:=e) (s5:=.pl (.int (P.length:Int))) (s6:=.pl (.int (x:Int))) (by rw[hF,qAw];rfl) h (qBh hl) (zaqv hW ci hr haN hx) λy hy=>ho y (qR _ hy)
  refine⟨s5',s6',?_⟩
  rw[qCG,qAE]
  unfold forL
  show((dB (dE W (wkD F D) O c a (.pl (.int (P.length:Int))) (.pl (.int (x:Int))))).bind _)=_
  rw[b1]
  rw[qI]at k1
  exact k1
end
structure Wk(s p:Nat)(L:List (List (List Nat)))(D:List PyData):Prop where
 len:L.length=p
 ok:WkOk s L 1 D.length
 few:∀N∈L,N.length<=10
 row:∀N∈L,∀row∈N,row.length=s
 fewD:D.length<=10
 sm:∀d∈D,SmOk 3 d
theorem zafp{T:List PyData}:∀{L:List (List (List Nat))}{o:List Nat},L.length=o.length->List.zipWith (λd e=>PyData.tuple [d,e]) (L.map lvD++T) (o.map λ(k:Nat)=>PyData.int (k:Int))=(L.zip o).map enW
 | [],[],_=>by cases T<;>rfl
 | [],_::_,h=>by cases h
 | _::_,[],h=>by cases h
 | N::L,x::o,h=>by
  show _::List.zipWith _ (L.map lvD++T) (o.map _)=_
  rw[zafp (qBh h)];rfl
theorem zafq{L:List (List (List Nat))}{D:List PyData}:ixD (wkD L D) (.int (-1))=some (.list D,false):=by
 show((atI (L.map lvD++[.list D]) (-1)).map _)=_
 rw[zyn];rfl
section
variable{W:Web}{p:Nat}{L:List (List (List Nat))}{D:List PyData}{o:List Nat}{c:List Str}{d:PyData}
theorem zamz(hW:W.length<=10)(P:Wk W.length p L D)(hl:o.length=p)(ho:∀x∈o,x<p)(hc:c.length=p)(ci:∀x∈c,x∈nm W):∃d,D[wkN (nm W) c L o 0]?=some d/\d∈D:=
 zamy (zql hW ci (Q:=.none) (O:=.none) (s6:=.no) (s7:=.no) P.ok (by rw[P.len,hl]) Nat.one_pos (by rw[hc];exact ho)).2
theorem zaiy(wk:WebOk W)(hW:W.length<=10)(hp:p<=3)(P:Wk W.length p L D)(hl:o.length=p)(ho:∀x∈o,x<p)(hc:c.length=p)(ci:∀x∈c,x∈nm W)(hd:D[wkN (nm W) c L o 0]?=some d):zjo [webD W,wkD L D,zaw o,zai c]=some (d,false):=by
 obtain⟨⟨s6,s7,lp⟩,_⟩:=zql hW ci (Q:=wkD L D) (O:=zaw o) (s6:=.no) (s7:=.no) P.ok (by rw[P.len,hl]) Nat.one_pos (by rw[hc];exact ho)
 have ck:=zue wk hc (by omega) ci
 have l0:eCB lenD (zab (eVar 2) aNil) [.pl (webD W),.pl (wkD L D),.pl (zaw o),.pl (zai c),.no,.no,.no,.no]=some (vi (p:Int)):=by
  show some (vi ((o.map λ(k:Nat)=>PyData.int (k:Int)).length:Int))=_
  rw[qD,hl]
 refine zxn (env:=[.pl (webD W),.pl (wkD L D),.pl (zaw o),.pl (zai c),.no,.no,.no,.no]) rfl (zeg (zaeh (zdo (n:=3) (rs:=[⟨webD W,false,[]⟩,vi (p:Int),⟨zai c,false,[]⟩]) (zcc rfl (zcc l0 rfl)) rfl ck)) (zeg (zvu (zdo (n:=1) (rs:=[⟨webD W,false,[]⟩]) rfl rfl (znf (by omega)))) (zeg (e1:=wE W (wkD L D) (zaw o) c 0 .no .no) rfl (zeg (zaeg (bs:=[]) (ds:=(L.zip o).map enW) ?_ lp) (znp (bs:=bsOf d []) ?_)))))
 ·show some (List.zipWith (λd e=>PyData.tuple [d,e]) (L.map lvD++[.list D]) (o.map λ(k:Nat)=>PyData.int (k:Int)),([]:List Nat))=_
  rw[zafp (by rw[P.len,hl])]
 ·refine zcd (x:=⟨.list D,false,[]⟩) (y:=vi (wkN (nm W) c L o 0:Int)) (zcd (x:=⟨wkD L D,false,[]⟩) (y:=vi (-1)) rfl rfl zafq) rfl ?_
  show((atI D ((wkN (nm W) c L o 0:Nat):Int)).map _)=_
  rw[zgq hd];rfl
theorem zana(hW:W.length<=10)(P:Wk W.length p L D)(hl:o.length=p)(ho:∀x∈o,x<p)(hc:c.length=p)(ci:∀x∈c,x∈nm W)(hd:D[wkN (nm W) c L o 0]?=some d):zdj [zaq (nm W),wkD L D,zaw o,zai c]=some (d,false):=by
 obtain⟨s6,s7,lp⟩:=zzx hW ci (F:=L) (D:=D) (O:=zaw o) (L:=L) (P:=[]) (s5:=.no) (s6:=.no) rfl P.ok (by rw[P.len,hl]) Nat.one_pos (by rw[hc];exact ho)
 refine zxn (env:=[.pl (zaq (nm W)),.pl (wkD L D),.pl (zaw o),.pl (zai c),.no,.no,.no]) rfl (zeg (e1:=dE W (wkD L D) (zaw o) c 0 .no .no) rfl (zeg (zaeg (bs:=[]) ?_ lp) (znp (bs:=bsOf d []) ?_)))
 ·show some (zlp (o.map λ(k:Nat)=>PyData.int (k:Int)),([]:List Nat))=_
  rw[zaif];rfl
 ·refine zcd (x:=⟨.list D,false,[]⟩) (y:=vi (wkN (nm W) c L o 0:Int)) (zcd (x:=⟨wkD L D,false,[]⟩) (y:=vi (-1)) rfl rfl zafq) rfl ?_
  show((atI D ((wkN (nm W) c L o 0:Nat):Int)).map _)=_
  rw[zgq hd];rfl
end
theorem zqm{W:Web}{p:Nat}{o:List Nat}{Q:PyData}(h:WebOk W)(hG:o.length=p){c:List Str}{z:Str×PyData}(hl:CallLike W (c.map .one))(hb:zku W p (c.map .one)=some z)(hz:z.1="NoCall"\/z.1="NoKind") :
  zbk [webD W,Q,zaw o,zai c]=some (.tuple [.bool (decide (z.1="NoCall")),.bool (decide (z.1="NoKind")),z.2],false):=by
 have ck:=zrd h hl hb
 have l0:eCB lenD (zab (eVar 2) aNil) [.pl (webD W),.pl Q,.pl (zaw o),.pl (zai c),.no,.no,.no,.no]=some (vi (p:Int)):=by
  show some (vi ((o.map λ(k:Nat)=>PyData.int (k:Int)).length:Int))=_
  rw[qD,hG]
 have a1:zez [webD W,Q,zaw o,zai c]=some (.rx z.1 z.2):=
  zafb (env:=[.pl (webD W),.pl Q,.pl (zaw o),.pl (zai c),.no,.no,.no,.no]) rfl (zaez (zzw (n:=3) (rs:=[⟨webD W,false,[]⟩,vi (p:Int),⟨zai c,false,[]⟩]) (zcc rfl (zcc l0 rfl)) rfl ck))
 refine zxn (env:=[.pl (webD W),.pl Q,.pl (zaw o),.pl (zai c),.no]) rfl (zzj ?_)
 show zaef ["NoCall","NoKind"] 4 4 zez (zab (eVar 0) (zab (eVar 1) (zab (eVar 2) (zab (eVar 3) aNil)))) _ [.pl (webD W),.pl Q,.pl (zaw o),.pl (zai c),.no]=_
 unfold zaef
 show((zez [webD W,Q,zaw o,zai c]).bind _)=_
 rw[a1,qJ]
 dsimp only
 rw[if_pos (by rcases hz with hz|hz<;>rw[hz]<;>simp)]
 rfl
theorem zabf{i j n:Nat}{g:EFr Pen}{env:DEnv}{st s1:Pen}{ds es:List PyData}{d:PyData}{fr:Bool}{bs:List Nat}(hi:env[i]?=some (.ac (.list ds)))(hj:env[j]?=some (.ac (.list es)))(hg:g env st=some (⟨.int (n:Int),fr,bs⟩,s1))(hd:es[n]?=some d)(hn:n<1000)(hl:ds.length<1000)(hij:i≠j):zlt i j g env st=some (.nx ((env.set j (.ac (.list (es.eraseIdx n)))).set i (.ac (.list (ds++[d])))) s1):=by
 unfold zlt
 rw[hi,hj]
 show((g env st).bind _)=_
 rw[hg,qJ]
 show(if 0<=(n:Int)/\(n:Int)<100000/\ds.length<100000/\i≠j then(es[(n:Int).toNat]?).bind _ else none)=_
 rw[if_pos ⟨by omega,by omega,by omega,hij⟩,qAo,hd];rfl
noncomputable abbrev oE(p:Nat)(s2 s3 s4:Sl):DEnv:=[.no,.pl (.int (p:Int)),s2,s3,s4]
theorem zabg(l:List Nat)(k:Nat):(l.map λ(k:Nat)=>PyData.int (k:Int)).eraseIdx k=(l.eraseIdx k).map λ(k:Nat)=>PyData.int (k:Int):=by
 induction l generalizing k with
 | nil=>rfl
 | cons a l ih=>
  cases k with
  | zero=>rfl
  | succ k=>show _::_=_::_;rw[ih]
theorem zanb{n p:Nat}{st:Pen}(hp:p<=3)(h:PenB (n+3) st):∃(o:List Nat)(st':Pen),zfq [.int (p:Int)] st=some (zaw o,true,st')/\o.length=p/\(∀x∈o,x<p)/\PenB n st':=by
 have e1:zaid (eVar 1) (oE p .no .no .no)=some ⟨zaw (List.range p),true,[]⟩:=by
  show(if 0<=(p:Int)/\(p:Int)<=100000 then some (⟨.list ((List.range (p:Int).toNat).map λ(k:Nat)=>.int (k:Int)),true,[]⟩:Val)else none)=_
  rw[if_pos ⟨by omega,by omega⟩,qAo];rfl
 obtain⟨e',s',lp,o,l,t4,rfl,ho,hlen,hx,hy,hb⟩:=zeo (T:=Pen) (enc:=λ(k:Nat)=>PyData.int (k:Int)) (g:=gN 4) (body:=zlt 3 2 (zav 2 zal (zau (zah (eCB lenD (zab (eVar 2) aNil))) rNil))) (l:=List.range p) (env:=oE p (.ac (zaw (List.range p))) (.ac (zaw [])) .no) (st:=st)
  (λpre env st=>∃(o l:List Nat) (t4:Sl),env=oE p (.ac (zaw l)) (.ac (zaw o)) t4/\o.length=pre.length/\l.length+pre.length=p/\(∀x∈o,x<p)/\(∀x∈l,x<p)/\PenB (n+(3 - pre.length)) st)
  ⟨[],List.range p,.no,rfl,rfl,by rw[qT];rfl,λx hx=>(nomatch hx),λx hx=>qAk.mp hx,h⟩ (by
   rintro pre x post env st hpre ⟨o,l,t4,rfl,ho,hlen,hx,hy,hb⟩
   have hl:pre.length+1<=p:=by
    have:=congrArg List.length hpre
    rw[qI,qV,qT]at this
    omega
   have hpre1:(pre++[x]).length=pre.length+1:=by simp
   have el:eCB lenD (zab (eVar 2) aNil) (oE p (.ac (zaw l)) (.ac (zaw o)) (.pl (.int (x:Int))))=some (vi (l.length:Int)):=by
    show some (vi ((l.map λ(k:Nat)=>PyData.int (k:Int)).length:Int))=_
    rw[qD]
   obtain⟨r,s1,e2,a1,b1,p1⟩:=zia (n:=n+(3 - (pre.length+1))) (a:=zah (eCB lenD (zab (eVar 2) aNil))) (env:=oE p (.ac (zaw l)) (.ac (zaw o)) (.pl (.int (x:Int)))) (st:=st) (bs:=[]) (zbd el) (hb.mono (by omega)) (by omega) (by omega)
   obtain⟨k,rfl⟩:=zjh a1
   have hk:k<l.length:=by omega
   have ap:=zabf (i:=3) (j:=2) (n:=k) (ds:=o.map λ(k:Nat)=>PyData.int (k:Int)) (es:=l.map λ(k:Nat)=>PyData.int (k:Int)) (d:=.int (l[k]:Int)) (env:=oE p (.ac (zaw l)) (.ac (zaw o)) (.pl (.int (x:Int)))) rfl rfl e2 (by rw[qa,qF hk];rfl) (by omega) (by rw[qD];omega) (by decide)
   have ap2:zlt 3 2 (zav 2 zal (zau (zah (eCB lenD (zab (eVar 2) aNil))) rNil)) (oE p (.ac (zaw l)) (.ac (zaw o)) (.pl (.int (x:Int)))) st=some (.nx (oE p (.ac (zaw (l.eraseIdx k))) (.ac (zaw (o++[l[k]]))) (.pl (.int (x:Int)))) s1):=by
    rw[zafi]
    unfold zaw
    rw[<- zabg]
    exact ap
   refine⟨_,_,s1,rfl,ap2,o++[l[k]],l.eraseIdx k,.pl (.int (x:Int)),rfl,by rw[hpre1,qI,ho];rfl,by rw[hpre1,List.length_eraseIdx,if_pos hk];omega,λy hy'=>?_,λy hy'=>hy y (List.mem_of_mem_eraseIdx hy'),by rw[hpre1];exact p1⟩
   rcases qd.mp hy' with hy'|hy'
   ·exact hx y hy'
   ·rw[qS.mp hy'];exact hy _ (qAG hk))
 rw[qT]at ho hb
 exact⟨o,s',ziu (env:=oE p .no .no .no) rfl (zap (e1:=oE p (.ac (zaw (List.range p))) .no .no) (s1:=st) (zbj (zbd e1)) (zap (e1:=oE p (.ac (zaw (List.range p))) (.ac (zaw [])) .no) (s1:=st) rfl (zap (zim (zjk rfl (by omega)) lp) rfl))),ho,hx,hb.mono (by omega)⟩
noncomputable abbrev kE(W:Web)(p:Nat)(R:List Rule)(s2 s3 s4 s5 s6:Sl):DEnv:=[.no,.pl (zfo W p R),s2,s3,s4,s5,s6]
theorem zanc{i:Nat}{E:EF}{env:DEnv}{S:List Nat}{j:Nat}{f:Bool}{b:List Nat}(hi:env[i]?=some (.ac (zaw S)))(hE:E env=some ⟨.int (j:Int),f,b⟩)(hj:j<S.length):eIxV i E env=some (vi ((S.getD j 0:Nat):Int)):=by
 unfold eIxV
 rw[hi]
 show((E env).bind _)=_
 rw[hE]
 show((atI (S.map λ(k:Nat)=>PyData.int (k:Int)) ((j:Nat):Int)).map _)=_
 rw[zgq (v:=.int ((S.getD j 0:Nat):Int)) (by rw[qa,qF hj,qK,qF hj];rfl)];rfl
theorem zand(N:List (List Nat))(r:List Nat):lvD (N++[r])=.list (N.map zaw++[zaw r]):=by unfold lvD;rw[qw];rfl
theorem zso(l:List Nat):zdb (l.map λ(k:Nat)=>PyData.int (k:Int))=true:=by
 unfold zdb
 rw[List.all_map]
 exact qAK.mpr λ_ _=>rfl
noncomputable abbrev rowE:EFr Pen:=zls ["_law_kind"] [0,2,4] (rIP (zba (eIxV 1 (eC (.int 0))))) (gN 0) zbv (zav 2 zal (zau (zah (eIxV 2 (eOp addD (eVar 3) (eC (.int 1))))) rNil))
theorem zasf{W:Web}{p:Nat}{R:List Rule}{S:List Nat}{k n:Nat}{st:Pen}{s3 s5 s6:Sl}(hW:W.length<=10)(hS:∀x∈S,1<=x/\x<=5)(hk:k+1<S.length)(h:PenB (n+10) st) :
  ∃(row:List Nat)(st':Pen),rowE (kE W p R (.ac (zaw S)) s3 (.pl (.int (k:Int))) s5 s6) st=some (⟨zaw row,true,[]⟩,st')/\row.length=W.length/\(∀x∈row,x<S.getD (k+1) 0)/\PenB n st':=by
 have hm:S.getD (k+1) 0∈S:=by rw[qK,qF hk];exact qAG hk
 obtain⟨m1,m2⟩:=hS _ hm
 obtain⟨ds,s1,k1,k2,k3,k4⟩:=zjj (enc:=rowD) (g:=gN 0) (t:=zbv) (e:=zav 2 zal (zau (zah (eIxV 2 (eOp addD (eVar 3) (eC (.int 1))))) rNil)) (env:=[.no,.no,.pl (zaw S),.pl (.int (k:Int))]) 1 (λd=>∃x:Nat,d=.int (x:Int)/\x<S.getD (k+1) 0) W (λq _ n st hb=>by
   have ev:eIxV 2 (eOp addD (eVar 3) (eC (.int 1))) [.pl (rowD q),.no,.pl (zaw S),.pl (.int (k:Int))]=some (vi ((S.getD (k+1) 0:Nat):Int)):=
    zafn (E1:=eVar 2) (f:=false) (b:=[]) rfl (j:=k+1) (zcd (x:=vi (k:Int)) (y:=vi 1) rfl rfl rfl) hk
   obtain⟨r,s',e,a1,b1,p1⟩:=zia (n:=n) (a:=zah (eIxV 2 (eOp addD (eVar 3) (eC (.int 1))))) (env:=[.pl (rowD q),.no,.pl (zaw S),.pl (.int (k:Int))]) (st:=st) (bs:=[]) (zbd ev) hb (by omega) (by omega)
   obtain⟨x,rfl⟩:=zjh a1
   exact⟨[.pl (rowD q),.no,.pl (zaw S),.pl (.int (k:Int))],_,s',rfl,rfl,e,⟨x,rfl,by omega⟩,p1⟩) n st (h.mono (by omega))
 obtain⟨row,rfl,hr,hx⟩:=zafl k3
 rw[k2]at hr
 have q:=zol (own:=["_law_kind"]) (fr:=[0,2,4]) (it:=rIP (zba (eIxV 1 (eC (.int 0))))) (ds:=W.map rowD) (bs:=[]) (env:=kE W p R (.ac (zaw S)) s3 (.pl (.int (k:Int))) s5 s6) (st:=st) (s1:=st) rfl (by rw[qD];omega) k1
 rw[if_pos (zso row)]at q
 exact⟨row,s1,q,hr,hx,k4⟩
theorem zane{W:Web}{p:Nat}{R:List Rule}{S:List Nat}{k n:Nat}{st:Pen}{s3 s6:Sl}(hW:W.length<=10)(hS:∀x∈S,1<=x/\x<=5)(hk:k+1<S.length)(h:PenB (n+50) st) :
  ∃(N:List (List Nat))(t6:Sl)(st':Pen),rFor (rIP (zcy (zab (eIxV 2 (eVar 4)) aNil))) (gN 6) (rApp 5 rowE) (kE W p R (.ac (zaw S)) s3 (.pl (.int (k:Int))) (.ac (lvD [])) s6) st=some (.nx (kE W p R (.ac (zaw S)) s3 (.pl (.int (k:Int))) (.ac (lvD N)) t6) st')/\N.length=S.getD k 0/\(∀row∈N,row.length=W.length/\∀x∈row,x<S.getD (k+1) 0)/\PenB n st':=by
 have hk0:k<S.length:=by omega
 have hm:S.getD k 0∈S:=by rw[qK,qF hk0];exact qAG hk0
 obtain⟨m1,m2⟩:=hS _ hm
 obtain⟨e',s',lp,N,t6,rfl,hN,hr,hb⟩:=zeo (T:=Pen) (enc:=λ(k:Nat)=>PyData.int (k:Int)) (g:=gN 6) (body:=rApp 5 rowE) (l:=List.range (S.getD k 0)) (env:=kE W p R (.ac (zaw S)) s3 (.pl (.int (k:Int))) (.ac (lvD [])) s6) (st:=st)
  (λpre env st=>∃(N:List (List Nat)) (t6:Sl),env=kE W p R (.ac (zaw S)) s3 (.pl (.int (k:Int))) (.ac (lvD N)) t6/\N.length=pre.length/\(∀row∈N,row.length=W.length/\∀x∈row,x<S.getD (k+1) 0)/\PenB (n+10 * (5 - pre.length)) st)
  ⟨[],s6,rfl,rfl,λx hx=>(nomatch hx),h⟩ (by
   rintro pre x post env st hpre ⟨N,t6,rfl,hN,hr,hb⟩
   have hl:pre.length+1<=S.getD k 0:=by
    have:=congrArg List.length hpre
    rw[qI,qV,qT]at this
    omega
   have hpre1:(pre++[x]).length=pre.length+1:=by simp
   obtain⟨row,s1,e1,r1,r2,p1⟩:=zasf (p:=p) (R:=R) (n:=n+10 * (5 - (pre.length+1))) (st:=st) (s3:=s3) (s5:=.ac (lvD N)) (s6:=.pl (.int (x:Int))) hW hS hk (hb.mono (by omega))
   have ap:rApp 5 rowE (kE W p R (.ac (zaw S)) s3 (.pl (.int (k:Int))) (.ac (lvD N)) (.pl (.int (x:Int)))) st=some (.nx (kE W p R (.ac (zaw S)) s3 (.pl (.int (k:Int))) (.ac (lvD (N++[row]))) (.pl (.int (x:Int)))) s1):=by
    rw[zand]
    exact zkt (i:=5) (ds:=N.map zaw) (d:=zaw row) (fr:=true) (bs:=[]) rfl e1 (by rw[qD];omega) (by simp)
   refine⟨_,_,s1,rfl,ap,N++[row],.pl (.int (x:Int)),rfl,by rw[hpre1,qI,hN];rfl,λy hy=>?_,by rw[hpre1];exact p1⟩
   rcases qd.mp hy with hy|hy
   ·exact hr y hy
   ·rw[qS.mp hy];exact⟨r1,r2⟩)
 rw[qT]at hN hb
 exact⟨N,t6,s',zim (zjk (zic (zanc rfl (E:=eVar 4) (f:=false) (b:=[]) rfl hk0)) (by omega)) lp,hN,hr,hb.mono (by omega)⟩
theorem zaqw{W:Web}{p:Nat}{R:List Rule}{n:Nat}{st:Pen}(sz:szB p W.length)(hR:R.length<=100)(low:∀r∈R,qA2 r.1=true)(h:PenB (n+200) st) :
  ∃L D st',zlb [zfo W p R] st=some (wkD L D,true,st')/\Wk W.length p L D/\PenB n st':=by
 have hW:W.length<=10:=by unfold szB at sz;omega
 have hp:1<=p/\p<=3:=by unfold szB at sz;omega
 obtain⟨ds,s1,k1,k2,k3,k4⟩:=zjj (enc:=λ(k:Nat)=>PyData.int (k:Int)) (g:=gN 0) (t:=zbv) (e:=rOp addD (zah (eC (.int 1))) (zav 2 zal (zau (zah (eC (.int 5))) rNil))) (env:=[.no,.no]) 1 (λd=>∃x:Nat,d=.int (x:Int)/\(1<=x/\x<=5)) (List.range p) (λx _ n st hb=>by
   obtain⟨r,s',e,a1,b1,p1⟩:=zia (n:=n) (a:=zah (eC (.int 5))) (env:=[.pl (.int (x:Int)),.no]) (st:=st) (s1:=st) (bs:=[]) rfl hb (by decide) (by decide)
   obtain⟨y,rfl⟩:=zjh a1
   exact⟨[.pl (.int (x:Int)),.no],_,s',rfl,rfl,zcm (T:=Pen) (x:=vi 1) (y:=vi (y:Int)) (s1:=st) rfl e (show addD (.int 1) (.int (y:Int))=some (.int ((1+y:Nat):Int),false) by show some (PyData.int (1+(y:Int)),false)=_;rw[Int.natCast_add];rfl),⟨1+y,rfl,by omega,by omega⟩,p1⟩) (n+190) st (h.mono (by rw[qT];omega))
 obtain⟨S',rfl,hS',hx'⟩:=zafl k3
 rw[k2,qT]at hS'
 have hS:∀x∈1::S',1<=x/\x<=5:=λx hx=>(qi.mp hx).elim (λe=>by rw[e];decide) (hx' x)
 have hSl:(1::S').length=p+1:=by rw[qV,hS']
 have q:=zol (own:=["_law_place"]) (fr:=[0]) (env:=kE W p R .no .no .no .no .no) (zjk (f:=zab (eIxV 1 (eC (.int 1))) aNil) (s:=p) (fr:=false) (bs:=[]) (st:=st) rfl (by omega)) (by rw[qD,qT];omega) k1
 rw[if_pos (zso S')]at q
 have f2:rSet 2 (rOp addD (zah (eLst (zab (eC (.int 1)) aNil))) (zls ["_law_place"] [0] (rIP (zcy (zab (eIxV 1 (eC (.int 1))) aNil))) (gN 0) zbv (rOp addD (zah (eC (.int 1))) (zav 2 zal (zau (zah (eC (.int 5))) rNil))))) (kE W p R .no .no .no .no .no) st=some (.nx (kE W p R (.ac (zaw (1::S'))) .no .no .no .no) s1):=by
  refine zbj (T:=Pen) (r:=⟨zaw (1::S'),true,[]⟩) (zcm (T:=Pen) (x:=⟨.list [.int 1],true,[]⟩) (s1:=st) rfl q ?_)
  show addD (.list [.int 1]) (.list (S'.map λ(k:Nat)=>PyData.int (k:Int)))=_
  unfold addD
  dsimp only
  rw[if_pos (by rw[qD,hS'];show 1+p<=100000;omega)];rfl
 have S0:(1::S').getD 0 0=1:=rfl
 generalize (1::S')=S at hS hSl f2 S0
 obtain⟨e',s2,lp,L,t4,t5,t6,rfl,hL,hok,few,row,hb⟩:=zeo (T:=Pen) (enc:=λ(k:Nat)=>PyData.int (k:Int)) (g:=gN 4) (body:=rSeq (rSet 5 (zah (eLst aNil)))
  (rSeq (rFor (rIP (zcy (zab (eIxV 2 (eVar 4)) aNil))) (gN 6) (rApp 5 rowE)) (rApp 3 (zah (eVar 5))))) (l:=List.range p) (env:=kE W p R (.ac (zaw S)) (.ac (.list [])) .no .no .no) (st:=s1)
  (λpre env st=>∃(L:List (List (List Nat))) (t4 t5 t6:Sl),env=kE W p R (.ac (zaw S)) (.ac (.list (L.map lvD))) t4 t5 t6/\L.length=pre.length/\WkOk W.length L 1 (S.getD pre.length 0)/\(∀N∈L,N.length<=10)/\(∀N∈L,∀row∈N,row.length=W.length)/\PenB (n+20+50 * (3 - pre.length)) st)
  ⟨[],.no,.no,.no,rfl,rfl,S0.symm,λx hx=>(nomatch hx),λx hx=>(nomatch hx),k4.mono (by show n+20+50 * (3 - 0)<=n+190;omega)⟩ (by
   rintro pre x post env st hpre ⟨L,t4,t5,t6,rfl,hL,hok,few,row,hb⟩
   have hl:pre.length+1<=p:=by
    have:=congrArg List.length hpre
    rw[qI,qV,qT]at this
    omega
   have hxx:x=pre.length:=by
    have:=congrArg (λl=>l[pre.length]?) hpre
    rw[qh (qL _),qCF,qBz (by omega)]at this
    exact qo this
   have hpre1:(pre++[x]).length=pre.length+1:=by simp
   obtain⟨N,u6,s2,e1,hN,hr,p1⟩:=zane (p:=p) (R:=R) (n:=n+20+50 * (3 - (pre.length+1))) (st:=st) (s3:=.ac (.list (L.map lvD))) (s6:=t6) (k:=x) hW hS (by omega) (hb.mono (by omega))
   have ap:rApp 3 (zah (eVar 5)) (kE W p R (.ac (zaw S)) (.ac (.list (L.map lvD))) (.pl (.int (x:Int))) (.ac (lvD N)) u6) s2=some (.nx (kE W p R (.ac (zaw S)) (.ac (.list ((L++[N]).map lvD))) (.pl (.int (x:Int))) (.pl (lvD N)) u6) s2):=by
    rw[qw]
    exact zkt (i:=3) (ds:=L.map lvD) (d:=lvD N) (fr:=false) (bs:=[5]) rfl (g:=zah (eVar 5)) (s1:=s2) rfl (by rw[qD];omega) (by decide)
   have hxS:x<S.length:=by omega
   have hN5:N.length<=10:=by
    have hm:S.getD x 0∈S:=by rw[qK,qF hxS];exact qAG hxS
    have:=(hS _ hm).2
    omega
   refine⟨_,_,s2,rfl,zap (e1:=kE W p R (.ac (zaw S)) (.ac (.list (L.map lvD))) (.pl (.int (x:Int))) (.ac (lvD [])) t6) (s1:=st) rfl (zap e1 ap),L++[N],_,_,_,rfl,by rw[hpre1,qI,hL];rfl,?_,λM hM=>?_,λM hM=>?_,by rw[hpre1];exact p1⟩
   ·rw[hpre1]
    exact zafm hok (by rw[hN,hxx]) (by rw[<- hxx];exact hr)
   ·rcases qd.mp hM with hM|hM
    ·exact few M hM
    ·rw[qS.mp hM];exact hN5
   ·rcases qd.mp hM with hM|hM
    ·exact row M hM
    ·rw[qS.mp hM];exact λrow hr'=>(hr row hr').1)
 rw[qT]at hL hok hb
 have hpS:p<S.length:=by omega
 have hmp:S.getD p 0∈S:=by rw[qK,qF hpS];exact qAG hpS
 obtain⟨m1,m2⟩:=hS _ hmp
 have la:eIxV 2 (eNeg (eC (.int 1))) (kE W p R (.ac (zaw S)) (.ac (.list (L.map lvD))) t4 t5 t6)=some (vi ((S.getD p 0:Nat):Int)):=by
  have hne:S≠[]:=λe=>by rw[e]at hSl;cases hSl
  have hsn:S=S.dropLast++[S.getD p 0]:=by
   have h1:=List.dropLast_concat_getLast hne
   have h2:S.getLast hne=S.getD p 0:=by
    rw[List.getLast_eq_getElem,qK,qF hpS]
    show S[S.length - 1]=S[p]
    simp only[show S.length - 1=p by omega]
   rw[h2]at h1;exact h1.symm
  have hmp:=congrArg (List.map λ(k:Nat)=>PyData.int (k:Int)) hsn
  rw[qw]at hmp
  have e:atI (S.map λ(k:Nat)=>PyData.int (k:Int)) (-1)=some (.int ((S.getD p 0:Nat):Int)):=(congrArg (λl=>atI l (-1)) hmp).trans zyn
  show((atI (S.map λ(k:Nat)=>PyData.int (k:Int)) (-1)).map λd=>(⟨d,false,[]⟩:Val))=_
  rw[e];rfl
 obtain⟨D,s3,d1,d2,d3,d4⟩:=zjj (enc:=λ(k:Nat)=>PyData.int (k:Int)) (g:=gN 0) (t:=zbv) (e:=zav 2 zcq (zau (zah (eIxV 2 (eC (.int 2)))) rNil)) (env:=[.no,.no,.pl (zfo W p R)]) 3 (λd=>SmOk 3 d) (List.range (S.getD p 0)) (λx _ n st hb=>by
   obtain⟨d,s2,g1,g2,g3,g4⟩:=zaix hR low hb
   exact⟨[.pl (.int (x:Int)),.no,.pl (zfo W p R)],_,s2,rfl,rfl,zdu (T:=Pen) (n:=2) (zbx (T:=Pen) (g:=rNil) (x:=⟨zdw R,false,[]⟩) (xs:=[]) (s1:=st) (s2:=st) rfl rfl) rfl g1,g2,g4⟩) n s2 (hb.mono (by rw[qT];omega))
 rw[qT]at d2
 have c1:=zol (own:=["_law_turn"]) (fr:=[0,1]) (env:=kE W p R (.ac (zaw S)) (.ac (.list (L.map lvD))) t4 t5 t6) (zjk (f:=zab (eIxV 2 (eNeg (eC (.int 1)))) aNil) (s:=S.getD p 0) (fr:=false) (bs:=[]) (st:=s2) (zic la) (by omega)) (by rw[qD,qT];omega) d1
 have c2:zls ["_law_turn"] [0,1] (rIP (zcy (zab (eIxV 2 (eNeg (eC (.int 1)))) aNil))) (gN 0) zbv (zav 2 zcq (zau (zah (eIxV 2 (eC (.int 2)))) rNil)) (kE W p R (.ac (zaw S)) (.ac (.list (L.map lvD))) t4 t5 t6) s2=some (⟨.list D,true,[]⟩,s3):=by
  refine c1.trans ?_
  cases zdb D<;>rfl
 refine⟨L,D,s3,ziu (env:=kE W p R .no .no .no .no .no) rfl (zap f2 (zap (e1:=kE W p R (.ac (zaw S)) (.ac (.list [])) .no .no .no) (s1:=s1) rfl (zap (zim (zjk rfl (by omega)) lp) (zap (zkt (i:=3) (ds:=L.map lvD) (d:=.list D) (fr:=true) (bs:=[]) rfl c2 (by rw[qD];omega) (by simp)) rfl)))),⟨hL,by rw[d2];exact hok,few,row,by omega,d3⟩,d4⟩
noncomputable abbrev rgE(odd:Int)(W:Web)(Q:PyData)(o:List Nat)(s6 s7 s8 s9 s10:Sl):DEnv:=[.no,.pl (.int odd),.pl (zaq (nm W)),.pl (webD W),.pl Q,.pl (zaw o),s6,s7,s8,s9,s10]
theorem zajw(xs:List PyData):cutD xs none (some (-1))=xs.take (xs.length - 1):=by
 unfold cutD
 have h:HT.sIx xs.length xs.length (some (-1))=xs.length - 1:=by
  unfold HT.sIx
  simp
  omega
 rw[show HT.sIx xs.length 0 none=0 from rfl,h,qBw,qCE]
theorem zyp{W:Web}{p:Nat}{o:List Nat}{Q:PyData}{n:Nat}{st:Pen}{odd:Int}(sz:szB p W.length)(wk:WebOk W)(ok:WbOk W 100)(hG:o.length=p)(o0:0<=odd)(h:PenB (n+20) st) :
  ∃st',zcb [.int odd,zaq (nm W),webD W,Q,zaw o] st=some (.bool true,false,st')/\PenB n st':=by
 have hW:1<=W.length/\W.length<=10/\1<=p/\p<=3:=by unfold szB at sz;omega
 have hn:(nm W).length=W.length:=qD ..
 have hne:nm W≠[]:=λe=>by rw[e]at hn;have:0=W.length:=hn;omega
 obtain⟨ds,s1,k1,k2,k3,k4⟩:=zjj (enc:=λ(k:Nat)=>PyData.int (k:Int)) (g:=gN 0) (t:=zbv) (e:=rOp ixD (zah (eVar 2)) (zav 2 zal (zau (zah (eCB lenD (zab (eVar 2) aNil))) rNil))) (env:=[.no,.no,.pl (zaq (nm W))]) 1 (λd=>∃x:Str,d=.str x/\x∈nm W) o (λg _ n st hb=>by
   obtain⟨a,s',e,ha,hp⟩:=zaqp (i:=2) (A:=nm W) (env:=[.pl (.int (g:Int)),.no,.pl (zaq (nm W))]) (st:=st) (n:=n) rfl hne (by omega) hb
   exact⟨[.pl (.int (g:Int)),.no,.pl (zaq (nm W))],_,s',rfl,rfl,e,⟨a,rfl,ha⟩,hp⟩) (n+17) st (h.mono (by omega))
 obtain⟨c,rfl,hc,ci⟩:=zafj k3
 rw[k2,hG]at hc
 have hc0:c≠[]:=λe=>by rw[e]at hc;have:0=p:=hc;omega
 have f5:rSet 6 (rCB zle (zau (zls ["_law_place"] [0,2] (rIP (zba (eVar 5))) (gN 0) zbv (rOp ixD (zah (eVar 2)) (zav 2 zal (zau (zah (eCB lenD (zab (eVar 2) aNil))) rNil)))) rNil)) (rgE odd W Q o .no .no .no .no .no) st=some (.nx (rgE odd W Q o (.pl (zai c)) .no .no .no .no) s1):=by
  have q:=zol (own:=["_law_place"]) (fr:=[0,2]) (it:=rIP (zba (eVar 5))) (ds:=o.map λ(k:Nat)=>PyData.int (k:Int)) (bs:=[]) (env:=rgE odd W Q o .no .no .no .no .no) (st:=st) (s1:=st) rfl (by rw[qD];omega) k1
  rw[if_pos (zhg c)]at q
  refine zbj (T:=Pen) (i:=6) (r:=⟨zai c,false,[]⟩) ?_
  unfold rCB
  rw[zbx (T:=Pen) (g:=rNil) (xs:=[]) (s2:=s1) q rfl];rfl
 have lowA:∀x∈nm W,Low x/\x.length<=100:=λy hy=>by
  obtain⟨q,hq,rfl⟩:=qv.mp hy
  exact ok.low q hq
 obtain⟨x,s2,ex,lx,nx,px,mx⟩:=zzt (n:=n+10) (A:=nm W) (L:=100) (k4.mono (by omega)) (by omega) lowA (by omega)
 obtain⟨y,s3,ey,ly,ny,py,my⟩:=zzt (n:=n+2) (A:=nm W++[x]) (L:=108) (px.mono (by omega)) (by rw[qI,hn];simp;omega) (λz hz=>by
  rcases qd.mp hz with hz|hz
  ·exact⟨(lowA z hz).1,qAC (lowA z hz).2 (by decide)⟩
  ·rw[qS.mp hz];exact⟨lx,nx⟩) (by omega)
 have f6:rSet 7 (zav 2 zca (zau (zah (eVar 2)) rNil)) (rgE odd W Q o (.pl (zai c)) .no .no .no .no) s1=some (.nx (rgE odd W Q o (.pl (zai c)) (.pl (.str x)) .no .no .no) s2):=
  zbj (T:=Pen) (zdu (T:=Pen) (n:=2) (g:=zca) (zbx (T:=Pen) (g:=rNil) (x:=⟨zaq (nm W),false,[]⟩) (xs:=[]) (s1:=s1) (s2:=s1) rfl rfl) rfl ex)
 have ad:addD (zaq (nm W)) (.list [.str x])=some (zaq (nm W++[x]),true):=by
  show addD (.list ((nm W).map .str)) (.list [.str x])=_
  unfold addD
  dsimp only
  rw[if_pos (by rw[qD,hn];simp;omega)]
  unfold zaq
  rw[qw];rfl
 have f7:rSet 8 (zav 2 zca (zau (zah (eOp addD (eVar 2) (eLst (zab (eVar 7) aNil)))) rNil)) (rgE odd W Q o (.pl (zai c)) (.pl (.str x)) .no .no .no) s2=some (.nx (rgE odd W Q o (.pl (zai c)) (.pl (.str x)) (.pl (.str y)) .no .no) s3):=by
  have o1:=zcd (w:=addD) (a:=eVar 2) (b:=eLst (zab (eVar 7) aNil)) (env:=rgE odd W Q o (.pl (zai c)) (.pl (.str x)) .no .no .no) (x:=⟨zaq (nm W),false,[]⟩) (y:=⟨.list [.str x],true,[]⟩) rfl rfl ad
  exact zbj (T:=Pen) (zdu (T:=Pen) (n:=2) (g:=zca) (zbx (T:=Pen) (g:=rNil) (xs:=[]) (s2:=s2) (zbd (st:=s2) o1) rfl) rfl ey)
 have atx:∀z,Low z->z.length<=200->atD (.str z)=true:=λz h1 h2=>decide_eq_true (zafe h1 h2)
 have like:∀w:List Str,w.length<300->(∀z∈w,z∈nm W\/z=x\/z=y)->CallLike W (w.map .one):=λw hl hw=>zaiw hl λz hz hnz=>by
  rcases hw z hz with h|rfl|rfl
  ·exact absurd h hnz
  ·exact atx _ lx (by omega)
  ·exact atx _ ly (by omega)
 have d1:decide (("NoKind":Str)="NoCall")=false:=by decide +kernel
 have d2:decide (("NoCall":Str)="NoKind")=false:=by decide +kernel
 have sh1:qx (.tuple [.bool true,.bool false,.none])=true:=zmu (k:=2) (zajt (znm zud (znm zud (znm zamu zafd)))) (by decide)
 have sh2:qx (.tuple [.bool false,.bool true,.str x])=true:=zmu (k:=2) (zajt (znm zud (znm zud (znm (zajv (zmj lx)) zafd)))) (by decide)
 have t1:zbs (eOp eqD (eVar 1) (eC (.int 0))) (rgE odd W Q o (.pl (zai c)) (.pl (.str x)) (.pl (.str y)) .no .no)=some (decide (odd=0)):=zgn (zcd (x:=vi odd) (y:=vi 0) rfl rfl (eqI _ _))
 by_cases h0:odd=0
 ·rw[decide_eq_true h0]at t1
  obtain⟨r,s4,e4,a4,b4,p4⟩:=zia (n:=n+1) (a:=zah (eC (.int 4))) (env:=rgE odd W Q o (.pl (zai c)) (.pl (.str x)) (.pl (.str y)) .no .no) (st:=s3) (s1:=s3) (bs:=[]) rfl py (by decide) (by decide)
  have ne0:∃a,eIxV 2 (eC (.int 0)) (rgE odd W Q o (.pl (zai c)) (.pl (.str x)) (.pl (.str y)) .no .no)=some (vs a)/\a∈nm W:=by
   obtain⟨a,A,e⟩:=qCM hne
   refine⟨a,?_,by rw[e];exact qc ..⟩
   show eOp ixD (eVar 2) (eC (.int 0)) _=_
   refine zcd (x:=⟨zaq (nm W),false,[]⟩) (y:=vi 0) rfl rfl ?_
   rw[e]
   show((atI ((a::A).map PyData.str) ((0:Nat):Int)).map _)=_
   rw[zgq (v:=.str a) rfl];rfl
  obtain⟨a,ea,ha⟩:=ne0
  have u1:∀{f:EF}{z:Str},f (rgE odd W Q o (.pl (zai c)) (.pl (.str x)) (.pl (.str y)) .no .no)=some (vs z)->eTup (zab f aNil) (rgE odd W Q o (.pl (zai c)) (.pl (.str x)) (.pl (.str y)) .no .no)=some ⟨zai [z],false,[]⟩:=λe=>zwl (zic e) (by show 1<=100000;decide)
  have w1:=zcd (w:=addD) (a:=eVar 6) (x:=⟨zai c,false,[]⟩) rfl (u1 ea) (zyo hc0 (by simp;omega))
  have w3:=zcd (w:=addD) (a:=eVar 6) (x:=⟨zai c,false,[]⟩) rfl (u1 (f:=eVar 7) rfl) (zyo hc0 (by simp;omega))
  have w4:=zcd (w:=addD) (b:=eVar 6) (y:=⟨zai c,false,[]⟩) (u1 (f:=eVar 7) rfl) rfl (zyo (xs:=[x]) (by simp) (by simp;omega))
  have w2:eSlT (eVar 6) (zhb (eC (.int 1))) zih (rgE odd W Q o (.pl (zai c)) (.pl (.str x)) (.pl (.str y)) .no .no)=some ⟨zai (c.drop 1),false,[]⟩:=by
   show some (⟨.tuple (cutD (c.map .str) (some ((1:Nat):Int)) none),false,[]⟩:Val)=_
   rw[zzv,<- List.map_drop];rfl
  have ls:eLst (zab (eOp addD (eVar 6) (eTup (zab (eIxV 2 (eC (.int 0))) aNil))) (zab (eSlT (eVar 6) (zhb (eC (.int 1))) zih) (zab (eOp addD (eVar 6) (eTup (zab (eVar 7) aNil))) (zab (eOp addD (eTup (zab (eVar 7) aNil)) (eVar 6)) aNil)))) (rgE odd W Q o (.pl (zai c)) (.pl (.str x)) (.pl (.str y)) .no .no)=some ⟨.list [zai (c++[a]),zai (c.drop 1),zai (c++[x]),zai ([x]++c)],true,[]⟩:=by
   unfold eLst
   rw[zcc w1 (zcc w2 (zcc w3 (zic w4)))];rfl
  have pk:∃w:List Str,ixD (.list [zai (c++[a]),zai (c.drop 1),zai (c++[x]),zai ([x]++c)]) (.int r)=some (zai w,false)/\w.length≠p/\w.length<300/\∀z∈w,z∈nm W\/z=x\/z=y:=by
   rcases(show r=0\/r=1\/r=2\/r=3 by omega)with rfl|rfl|rfl|rfl
   ·refine⟨c++[a],rfl,by simp;omega,by simp;omega,λz hz=>?_⟩
    rcases qd.mp hz with hz|hz
    ·exact .inl (ci z hz)
    ·rw[qS.mp hz];exact .inl ha
   ·exact⟨c.drop 1,rfl,by rw[qBC];omega,by rw[qBC];omega,λz hz=>.inl (ci z (List.mem_of_mem_drop hz))⟩
   ·refine⟨c++[x],rfl,by simp;omega,by simp;omega,λz hz=>?_⟩
    rcases qd.mp hz with hz|hz
    ·exact .inl (ci z hz)
    ·exact .inr (.inl (qS.mp hz))
   ·refine⟨[x]++c,rfl,by simp;omega,by simp;omega,λz hz=>?_⟩
    rcases qd.mp hz with hz|hz
    ·exact .inr (.inl (qS.mp hz))
    ·exact .inl (ci z hz)
  obtain⟨w,ew,wl,wl2,wi⟩:=pk
  have gr:=zqm (Q:=Q) wk hG (like w wl2 wi) (zamx wl) (.inl rfl)
  have gr:zbk [webD W,Q,zaw o,zai w]=some (.tuple [.bool true,.bool false,.none],false):=by
   rw[gr]
   show some (PyData.tuple [.bool (decide (("NoCall":Str)="NoCall")),.bool (decide (("NoCall":Str)="NoKind")),.none],false)=_
   rw[d2,decide_eq_true rfl]
  have f9:rSet 10 (rOp ixD (zah (eLst (zab (eOp addD (eVar 6) (eTup (zab (eIxV 2 (eC (.int 0))) aNil))) (zab (eSlT (eVar 6) (zhb (eC (.int 1))) zih) (zab (eOp addD (eVar 6) (eTup (zab (eVar 7) aNil))) (zab (eOp addD (eTup (zab (eVar 7) aNil)) (eVar 6)) aNil)))))) (zav 2 zal (zau (zah (eC (.int 4))) rNil))) (rgE odd W Q o (.pl (zai c)) (.pl (.str x)) (.pl (.str y)) .no .no) s3=some (.nx (rgE odd W Q o (.pl (zai c)) (.pl (.str x)) (.pl (.str y)) .no (.pl (zai w))) s4):=zbj (T:=Pen) (zcm (T:=Pen) (zbd ls) e4 ew)
  have fr:eOp eqD (zct 4 zbk (zab (eVar 3) (zab (eVar 4) (zab (eVar 5) (zab (eVar 10) aNil))))) (eTup (zab (eC (.bool true)) (zab (eC (.bool false)) (zab (eC .none) aNil)))) (rgE odd W Q o (.pl (zai c)) (.pl (.str x)) (.pl (.str y)) .no (.pl (zai w)))=some (vb true):=
   zaql (zdo (n:=4) (rs:=[⟨webD W,false,[]⟩,⟨Q,false,[]⟩,⟨zaw o,false,[]⟩,⟨zai w,false,[]⟩]) rfl rfl gr) (f2:=false) (b2:=[]) rfl sh1
  exact⟨s4,ziu (env:=rgE odd W Q o .no .no .no .no .no) rfl (zap f5 (zap f6 (zap f7 (zto (zqn (zcn t1) (zap f9 (zkg (zbd fr)))))))),p4.mono (by omega)⟩
 ·rw[decide_eq_false h0]at t1
  have el:eCB lenD (zab (eVar 6) aNil) (rgE odd W Q o (.pl (zai c)) (.pl (.str x)) (.pl (.str y)) .no .no)=some (vi (p:Int)):=by
   show some (vi ((c.map PyData.str).length:Int))=_
   rw[qD,hc]
  obtain⟨r,s4,e4,a4,b4,p4⟩:=zia (n:=n+1) (a:=zah (eCB lenD (zab (eVar 6) aNil))) (env:=rgE odd W Q o (.pl (zai c)) (.pl (.str x)) (.pl (.str y)) .no .no) (st:=s3) (s1:=s3) (bs:=[]) (zbd el) py (by omega) (by omega)
  obtain⟨k,rfl⟩:=zjh a4
  have hk:k<c.length:=by omega
  have f8:rSet 9 (zav 2 zal (zau (zah (eCB lenD (zab (eVar 6) aNil))) rNil)) (rgE odd W Q o (.pl (zai c)) (.pl (.str x)) (.pl (.str y)) .no .no) s3=some (.nx (rgE odd W Q o (.pl (zai c)) (.pl (.str x)) (.pl (.str y)) (.pl (.int (k:Int))) .no) s4):=zbj (T:=Pen) e4
  have x1:=zamw (i:=6) (o:=7) (J:=eVar 9) (J1:=eOp addD (eVar 9) (eC (.int 1))) (env:=rgE odd W Q o (.pl (zai c)) (.pl (.str x)) (.pl (.str y)) (.pl (.int (k:Int))) .no) (c:=c) (k:=k) (b:=x) rfl rfl rfl rfl (by omega)
  rw[zamp hk]at x1
  have f9:=zbj (T:=Pen) (i:=10) (st:=s4) (zbd x1)
  have done:∀w:List Str,w.length=p->w[k]?=some x->(∀j z,j<k->w[j]?=some z->z∈nm W)->(∀z∈w,z∈nm W\/z=x\/z=y)->eOp eqD (zct 4 zbk (zab (eVar 3) (zab (eVar 4) (zab (eVar 5) (zab (eVar 10) aNil))))) (eTup (zab (eC (.bool false)) (zab (eC (.bool true)) (zab (eVar 7) aNil)))) (rgE odd W Q o (.pl (zai c)) (.pl (.str x)) (.pl (.str y)) (.pl (.int (k:Int))) (.pl (zai w)))=some (vb true):=λw wl wk1 wj wi=>by
   have gr:=zqm (Q:=Q) wk hG (like w (by omega) wi) (zaiv wl (zaiu mx wk1 wj)) (.inr rfl)
   have gr:zbk [webD W,Q,zaw o,zai w]=some (.tuple [.bool false,.bool true,.str x],false):=by
    rw[gr]
    show some (PyData.tuple [.bool (decide (("NoKind":Str)="NoCall")),.bool (decide (("NoKind":Str)="NoKind")),.str x],false)=_
    rw[d1,decide_eq_true rfl]
   exact zaql (zdo (n:=4) (rs:=[⟨webD W,false,[]⟩,⟨Q,false,[]⟩,⟨zaw o,false,[]⟩,⟨zai w,false,[]⟩]) rfl rfl gr) (f2:=false) (b2:=[]) rfl sh2
  have t2:znx (zbs (eOp eqD (eVar 1) (eC (.int 1)))) (zbs (eOp ltD (eOp addD (eVar 9) (eC (.int 1))) (eCB lenD (zab (eVar 6) aNil)))) (rgE odd W Q o (.pl (zai c)) (.pl (.str x)) (.pl (.str y)) (.pl (.int (k:Int))) (.pl (zai (c.set k x))))=some (decide (odd=1)&&decide ((k:Int)+1<(p:Int))):=by
   have el2:eCB lenD (zab (eVar 6) aNil) (rgE odd W Q o (.pl (zai c)) (.pl (.str x)) (.pl (.str y)) (.pl (.int (k:Int))) (.pl (zai (c.set k x))))=some (vi (p:Int)):=by
    show some (vi ((c.map PyData.str).length:Int))=_
    rw[qD,hc]
   unfold znx
   rw[zgn (zcd (x:=vi odd) (y:=vi 1) rfl rfl (eqI _ _)),zgn (zcd (x:=vi ((k:Int)+1)) rfl el2 (show ltD (.int ((k:Int)+1)) (.int (p:Int))=some (.bool (decide ((k:Int)+1<(p:Int))),false)from rfl))]
   cases decide (odd=1)<;>rfl
  have before:∀j z,j<k->(c.set k x)[j]?=some z->z∈nm W:=λj z hj e=>ci z (qAv (zaqr e (by omega)))
  by_cases h1:(decide (odd=1)&&decide ((k:Int)+1<(p:Int)))=true
  ·rw[h1]at t2
   have hk1:k+1<(c.set k x).length:=by
    rw[qr]at h1
    have:=of_decide_eq_true h1.2
    rw[qAA];omega
   have cl:(c.set k x).length=p:=by rw[qAA,hc]
   have x2:eOp addE (eSlT (eVar 10) zih (zhb (eNeg (eC (.int 1))))) (eTup (zab (eVar 8) aNil)) (rgE odd W Q o (.pl (zai c)) (.pl (.str x)) (.pl (.str y)) (.pl (.int (k:Int))) (.pl (zai (c.set k x))))=some ⟨zai ((c.set k x).take (p - 1)++[y]),false,[]⟩:=by
    have s1:eSlT (eVar 10) zih (zhb (eNeg (eC (.int 1)))) (rgE odd W Q o (.pl (zai c)) (.pl (.str x)) (.pl (.str y)) (.pl (.int (k:Int))) (.pl (zai (c.set k x))))=some ⟨.tuple (((c.set k x).take (p - 1)).map .str),false,[]⟩:=by
     show some (⟨.tuple (cutD ((c.set k x).map .str) none (some (-1))),false,[]⟩:Val)=_
     rw[zajw,qD,cl,qCZ]
    refine zcd s1 (zwl (zic (r:=vs y) rfl) (by show 1<=100000;decide)) ?_
    rw[show zfx [vs y]=[PyData.str y]from rfl,zaew (by simp only[qD,qV,qA5,qAi];omega)]
    unfold zai
    rw[qw];rfl
   have f10:=zbj (T:=Pen) (i:=10) (st:=s4) (zbd x2)
   have tk:∀j,j<p - 1->((c.set k x).take (p - 1)++[y])[j]?=(c.set k x)[j]?:=λj hj=>by
    rw[qAN (by rw[qAi];omega),qCX hj]
   have fin:=done ((c.set k x).take (p - 1)++[y]) (by rw[qI,qAi,cl];show min (p - 1) p+1=p;omega) (by rw[tk k (by omega),qAB hk]) (λj z hj e=>before j z hj (by rw[tk j (by omega)]at e;exact e)) λz hz=>by
    rcases qd.mp hz with hz|hz
    ·rcases zafk (List.mem_of_mem_take hz)with hz|hz
     ·exact .inl (ci z hz)
     ·exact .inr (.inl hz)
    ·exact .inr (.inr (qS.mp hz))
   exact⟨s4,ziu (env:=rgE odd W Q o .no .no .no .no .no) rfl (zap f5 (zap f6 (zap f7 (zap (zmf (zcn t1) rfl) (zap f8 (zap f9 (zap (zqn (zcn t2) f10) (zkg (zbd fin))))))))),p4.mono (by omega)⟩
  ·have h1:(decide (odd=1)&&decide ((k:Int)+1<(p:Int)))=false:=by
    cases h:(decide (odd=1)&&decide ((k:Int)+1<(p:Int)))with
    | true=>exact absurd h h1
    | false=>rfl
   rw[h1]at t2
   have fin:=done (c.set k x) (by rw[qAA,hc]) (qAB hk) before λz hz=>by
    rcases zafk hz with hz|hz
    ·exact .inl (ci z hz)
    ·exact .inr (.inl hz)
   exact⟨s4,ziu (env:=rgE odd W Q o .no .no .no .no .no) rfl (zap f5 (zap f6 (zap f7 (zap (zmf (zcn t1) rfl) (zap f8 (zap f9 (zap (zmf (zcn t2) rfl) (zkg (zbd fin))))))))),p4.mono (by omega)⟩
noncomputable def zwm:SFr Pen:=(rSeq (rSet 2 (zav 2 zal (zau (zah (eC (.int 3))) rNil)))
  (rSeq (rSet 3 (zav 1 zla rNil))
  (rSeq (rSet 4 (zah (zen ["_law_name_here","_law_elders"] [] (zba (eIxV 3 (eC (.int 0)))) (gT 2 (zbe 0 (zbe 1 zfd))) zbv (eVar 0))))
  (rSeq (rSet 5 (zav 2 zfq (zau (zah (eIxV 3 (eC (.int 1)))) rNil)))
  (rSeq (rSet 6 (zav 2 zlb (zau (zah (eVar 3)) rNil)))
  (rSeq (rSet 7 (zah (eOp ixD (zct 1 zix (zab (eVar 3) aNil)) (eC (.int 0)))))
  (rSeq (rSet 8 (zah (eOp addD (zen ["_law_nodes"] [] (zba (eSl (eVar 6) zih (zhb (eNeg (eC (.int 1)))))) (gN 0) zbv (zen ["_law_node"] [] (zba (eVar 0)) (gN 0) zbv (eCB zjx (zab (eVar 0) aNil)))) (eLst (zab (eCB zjx (zab (eIxV 6 (eNeg (eC (.int 1)))) aNil)) aNil)))))
  (rSeq (rSet 9 (zah (eCB zjx (zab (eVar 5) aNil))))
  (rSeq (rFor (rIP (zcy (zab (eC (.int 2)) aNil))) (gN 10)
  (rSeq (rFor (rIP (zba (zct 1 zev (zab (eVar 3) aNil)))) (gN 11)
  (rIf (zit (zpa (tTru (zct 2 zbo (zab (zct 4 zdj (zab (eVar 4) (zab (eVar 6) (zab (eVar 5) (zab (eVar 11) aNil))))) (zab (zct 4 zjo (zab (eVar 7) (zab (eVar 8) (zab (eVar 9) (zab (eVar 11) aNil))))) aNil)))))) (rRet (zah (eC (.bool false)))) rNx))
  (rIf (qNot (qTru (zav 6 zcb (zau (zah (eVar 2)) (zau (zah (eVar 4)) (zau (zah (eVar 7)) (zau (zah (eVar 8)) (zau (zah (eVar 9)) rNil)))))))) (rRet (zah (eC (.bool false)))) rNx)))
  (rRet (zah (eAnd (zct 2 zbo (zab (eIxV 3 (eC (.int 0))) (zab (eVar 7) aNil))) (eAnd (zct 2 zbo (zab (eVar 6) (zab (eVar 8) aNil))) (zct 2 zbo (zab (eVar 5) (zab (eVar 9) aNil))))))))))))))))
noncomputable abbrev t4E(s2 s3 s4 s5 s6 s7 s8 s9 s10 s11:Sl):DEnv:=[.no,.no,s2,s3,s4,s5,s6,s7,s8,s9,s10,s11]
noncomputable abbrev t4a(r:Int)(W:Web)(p:Nat)(R:List Rule)(s5 s6 s7 s8 s9 s10 s11:Sl):DEnv:=t4E (.pl (.int r)) (.pl (zfo W p R)) (.ac (zaq (nm W))) s5 s6 s7 s8 s9 s10 s11
noncomputable abbrev t4b(r:Int)(W:Web)(p:Nat)(R:List Rule)(Q O:PyData)(s10 s11:Sl):DEnv:=t4a r W p R (.pl O) (.pl Q) (.pl (webD W)) (.ac Q) (.ac O) s10 s11
theorem zasg{s p:Nat}{L:List (List (List Nat))}{D:List PyData}(P:Wk s p L D)(hs:s<=10)(hp:p<=3):SmOk 7 (wkD L D):=by
 refine⟨by rw[qI,qD,P.len];show p+1<100000;omega,λd hd=>?_⟩
 rcases qd.mp hd with hd|hd
 ·obtain⟨N,hN,rfl⟩:=qv.mp hd
  refine⟨by rw[qD];have:=P.few N hN;omega,λd hd=>?_⟩
  obtain⟨row,hr,rfl⟩:=qv.mp hd
  refine⟨by rw[qD,P.row N hN row hr];omega,λd hd=>?_⟩
  obtain⟨x,_,rfl⟩:=qv.mp hd
  trivial
 ·rw[qS.mp hd]
  exact⟨by have:=P.fewD;omega,λd hd=>zkv (zkv (P.sm d hd))⟩
theorem zanf{l:List Nat}(h:l.length<100000):SmOk 7 (zaw l):=⟨by rw[qD];exact h,λd hd=>by
 obtain⟨x,_,rfl⟩:=qv.mp hd
 trivial⟩
theorem zaiz(ns:List Int):∃s st',ziw ns=some s/\zwm (List.replicate 12 .no) ⟨ns.take 63,0,s,0⟩=some (.rt (.bool true) false st'):=by
 obtain⟨sd,es⟩:=zamo ns
 have b0:PenB (1999+1) (⟨ns.take 63,0,sd,0⟩:Pen):=⟨by show(ns.take 63).length<=63;rw[qAi];omega,Int.le_refl 0,by show(0:Int)+_<=_;omega⟩
 obtain⟨r0,z0,e0,a0,c0,p0⟩:=zia (n:=1999) (a:=zah (eC (.int 3))) (env:=t4E .no .no .no .no .no .no .no .no .no .no) (st:=⟨ns.take 63,0,sd,0⟩) (s1:=⟨ns.take 63,0,sd,0⟩) (bs:=[]) rfl b0 (by decide) (by decide)
 obtain⟨W,p,R,s1,e1,sz,ok,rok,hR,p1,wok,rin⟩:=zaqj (n:=1699) (p0.mono (by omega))
 have hW1:1<=W.length/\W.length<=10/\1<=p/\p<=3:=by unfold szB at sz;omega
 have hn:(nm W).length=W.length:=qD ..
 have c1:zix [zfo W p R]=some (zfo W p R,false):=zaqk (by omega)
 have nmE:zen ["_law_name_here","_law_elders"] [] (zba (eIxV 3 (eC (.int 0)))) (gT 2 (zbe 0 (zbe 1 zfd))) zbv (eVar 0) (t4E (.pl (.int r0)) (.pl (zfo W p R)) .no .no .no .no .no .no .no .no)=some ⟨zaq (nm W),true,[]⟩:=by
  have it:zba (eIxV 3 (eC (.int 0))) (t4E (.pl (.int r0)) (.pl (zfo W p R)) .no .no .no .no .no .no .no .no)=some (W.map rowD,[]):=rfl
  have cm:zem (gT 2 (zbe 0 (zbe 1 zfd))) zbv (eVar 0) (envB ["_law_name_here","_law_elders"] [] (t4E (.pl (.int r0)) (.pl (zfo W p R)) .no .no .no .no .no .no .no .no)) (W.map rowD)=some (W.map λq=>.str q.1):=zdv λq hq=>⟨[.pl (.str q.1),.pl (zaq q.2)],rfl,rfl,vs q.1,rfl,rfl⟩
  rw[zin it (by rw[qD];omega) cm]
  have e:(W.map λq=>PyData.str q.1)=(nm W).map .str:=by unfold nm;rw[qAr];rfl
  rw[e,if_pos (zhg _)];rfl
 obtain⟨o,s2,e2,ho,hx,p2⟩:=zanb (n:=1600) (st:=s1) (p:=p) hW1.2.2.2 (p1.mono (by omega))
 obtain⟨L,D,s3,e3,P,p3⟩:=zaqw (n:=900) (st:=s2) sz hR (λr hr=>zmj (rok.low r hr).1) (p2.mono (by omega))
 obtain⟨frc,gc⟩:=zaev (R:=R) sz
 have hLne:L≠[]:=λe=>by have:=P.len;rw[e]at this;have:0=p:=this;omega
 have f8:rSet 8 (zah (eOp addD (zen ["_law_nodes"] [] (zba (eSl (eVar 6) zih (zhb (eNeg (eC (.int 1)))))) (gN 0) zbv (zen ["_law_node"] [] (zba (eVar 0)) (gN 0) zbv (eCB zjx (zab (eVar 0) aNil)))) (eLst (zab (eCB zjx (zab (eIxV 6 (eNeg (eC (.int 1)))) aNil)) aNil)))) (t4a r0 W p R (.ac (zaw o)) (.ac (wkD L D)) (.pl (webD W)) .no .no .no .no) s3=some (.nx (t4a r0 W p R (.ac (zaw o)) (.pl (wkD L D)) (.pl (webD W)) (.ac (wkD L D)) .no .no .no) s3):=by
  have it:zba (eSl (eVar 6) zih (zhb (eNeg (eC (.int 1))))) (t4a r0 W p R (.ac (zaw o)) (.ac (wkD L D)) (.pl (webD W)) .no .no .no .no)=some (L.map lvD,[6]):=by
   show some (cutD (L.map lvD++[.list D]) none (some (-1)),[6])=_
   rw[zajw,qI,qV,qA5,qCo,Nat.add_sub_cancel,List.take_left]
  have cm:zem (gN 0) zbv (zen ["_law_node"] [] (zba (eVar 0)) (gN 0) zbv (eCB zjx (zab (eVar 0) aNil))) (envB ["_law_nodes"] [] (t4a r0 W p R (.ac (zaw o)) (.ac (wkD L D)) (.pl (webD W)) .no .no .no .no)) (L.map lvD)=some (L.map lvD):=zdv λN hN=>by
   have ci:zem (gN 0) zbv (eCB zjx (zab (eVar 0) aNil)) (envB ["_law_node"] [] [.pl (lvD N)]) (N.map zaw)=some (N.map zaw):=zdv λrow hr=>⟨[.pl (zaw row)],rfl,rfl,⟨zaw row,true,[]⟩,rfl,rfl⟩
   exact⟨[.pl (lvD N)],rfl,rfl,_,zin (fi:=zba (eVar 0)) (bs:=[]) rfl (by rw[qD];have:=P.few N hN;omega) ci,rfl⟩
  have q:=zin it (by rw[qD,P.len];omega) cm
  have nf:zdb (L.map lvD)=false:=by
   obtain⟨N,L',e⟩:=qCM hLne
   rw[e];rfl
  rw[nf]at q
  have q2:eLst (zab (eCB zjx (zab (eIxV 6 (eNeg (eC (.int 1)))) aNil)) aNil) (t4a r0 W p R (.ac (zaw o)) (.ac (wkD L D)) (.pl (webD W)) .no .no .no .no)=some ⟨.list [.list D],true,[]⟩:=by
   have l1:eIxV 6 (eNeg (eC (.int 1))) (t4a r0 W p R (.ac (zaw o)) (.ac (wkD L D)) (.pl (webD W)) .no .no .no .no)=some ⟨.list D,false,[]⟩:=by
    show((atI (L.map lvD++[.list D]) (-1)).map _)=_
    rw[zyn];rfl
   have l2:eCB zjx (zab (eIxV 6 (eNeg (eC (.int 1)))) aNil) (t4a r0 W p R (.ac (zaw o)) (.ac (wkD L D)) (.pl (webD W)) .no .no .no .no)=some ⟨.list D,true,[]⟩:=by
    unfold eCB
    rw[zic l1];rfl
   unfold eLst
   rw[zic l2];rfl
  have ad:addD (.list (L.map lvD)) (.list [.list D])=some (wkD L D,true):=by
   unfold addD
   dsimp only
   rw[if_pos (by rw[qD,P.len];show p+1<=100000;omega)];rfl
  exact zbj (T:=Pen) (zbd (zcd q q2 ad))
 have it:∀s10 s11 (st:Pen),rIP (zba (zct 1 zev (zab (eVar 3) aNil))) (t4b r0 W p R (wkD L D) (zaw o) s10 s11) st=some ((zgp (nm W) p).map zai,[],st):=λs8 s9 st=>by
  unfold rIP zba
  rw[zdo (n:=1) (rs:=[⟨zfo W p R,false,[]⟩]) rfl rfl gc];rfl
 obtain⟨e',s',lp,s10,s11,rfl,hb⟩:=zeo (T:=Pen) (enc:=λ(k:Nat)=>PyData.int (k:Int)) (g:=gN 10) (body:=rSeq (rFor (rIP (zba (zct 1 zev (zab (eVar 3) aNil)))) (gN 11)
  (rIf (zit (zpa (tTru (zct 2 zbo (zab (zct 4 zdj (zab (eVar 4) (zab (eVar 6) (zab (eVar 5) (zab (eVar 11) aNil))))) (zab (zct 4 zjo (zab (eVar 7) (zab (eVar 8) (zab (eVar 9) (zab (eVar 11) aNil))))) aNil)))))) (rRet (zah (eC (.bool false)))) rNx))
  (rIf (qNot (qTru (zav 6 zcb (zau (zah (eVar 2)) (zau (zah (eVar 4)) (zau (zah (eVar 7)) (zau (zah (eVar 8)) (zau (zah (eVar 9)) rNil)))))))) (rRet (zah (eC (.bool false)))) rNx)) (l:=List.range 2) (env:=t4b r0 W p R (wkD L D) (zaw o) .no .no) (st:=s3)
  (λpre env st=>∃s10 s11,env=t4b r0 W p R (wkD L D) (zaw o) s10 s11/\PenB (20 * (2 - pre.length)) st) ⟨.no,.no,rfl,p3.mono (by show 20 * (2 - 0)<=900;omega)⟩ (by
   rintro pre t post env st hpre ⟨s10,s11,rfl,hb⟩
   have hlen:pre.length+1<=2:=by
    have:=congrArg List.length hpre
    rw[qI,qV,qT]at this
    omega
   obtain⟨e2,s3,lq,u9,rfl,rfl⟩:=zeo (T:=Pen) (enc:=zai) (g:=gN 11) (body:=rIf (zit (zpa (tTru (zct 2 zbo (zab (zct 4 zdj (zab (eVar 4) (zab (eVar 6) (zab (eVar 5) (zab (eVar 11) aNil))))) (zab (zct 4 zjo (zab (eVar 7) (zab (eVar 8) (zab (eVar 9) (zab (eVar 11) aNil))))) aNil)))))) (rRet (zah (eC (.bool false)))) rNx) (l:=zgp (nm W) p) (env:=t4b r0 W p R (wkD L D) (zaw o) (.pl (.int (t:Int))) s11) (st:=st)
    (λ_ env st'=>∃u9,env=t4b r0 W p R (wkD L D) (zaw o) (.pl (.int (t:Int))) u9/\st'=st) ⟨s11,rfl,rfl⟩ (by
     rintro pre c post env st' hpre ⟨u9,rfl,rfl⟩
     obtain⟨cl,ci⟩:=zaiq sz (show c∈zgp (nm W) p by rw[<- hpre];simp)
     obtain⟨d,hd,hm⟩:=zamz hW1.2.1 P ho hx cl ci
     have g1:=zdo (n:=4) (g:=zdj) (rs:=[⟨zaq (nm W),false,[4]⟩,⟨wkD L D,false,[]⟩,⟨zaw o,false,[]⟩,⟨zai c,false,[]⟩]) (f:=zab (eVar 4) (zab (eVar 6) (zab (eVar 5) (zab (eVar 11) aNil)))) (env:=t4b r0 W p R (wkD L D) (zaw o) (.pl (.int (t:Int))) (.pl (zai c))) rfl rfl (zana hW1.2.1 P ho hx cl ci hd)
     have g2:=zdo (n:=4) (g:=zjo) (rs:=[⟨webD W,false,[]⟩,⟨wkD L D,false,[8]⟩,⟨zaw o,false,[9]⟩,⟨zai c,false,[]⟩]) (f:=zab (eVar 7) (zab (eVar 8) (zab (eVar 9) (zab (eVar 11) aNil)))) (env:=t4b r0 W p R (wkD L D) (zaw o) (.pl (.int (t:Int))) (.pl (zai c))) rfl rfl (zaiy wok hW1.2.1 hW1.2.2.2 P ho hx cl ci hd)
     have sm:zbo [d,d]=some (.bool true,false):=zji 7 _ (zkv (zkv (zkv (zkv (P.sm d hm)))))
     have t1:=zaqd (zdo (n:=2) (g:=zbo) (zcc g1 (zic g2)) rfl sm)
     exact⟨_,_,st',rfl,zmf (zcn t1) rfl,.pl (zai c),rfl,rfl⟩)
   obtain⟨s4,g3,p4⟩:=zyp (Q:=wkD L D) (n:=20 * (2 - (pre.length+1))) (st:=s3) (odd:=r0) sz wok ok ho a0 (hb.mono (by omega))
   have t2:qNot (qTru (zav 6 zcb (zau (zah (eVar 2)) (zau (zah (eVar 4)) (zau (zah (eVar 7)) (zau (zah (eVar 8)) (zau (zah (eVar 9)) rNil))))))) (t4b r0 W p R (wkD L D) (zaw o) (.pl (.int (t:Int))) u9) s3=some (false,s4):=by
    have q:=zdu (T:=Pen) (n:=6) (g:=zcb) (a:=zau (zah (eVar 2)) (zau (zah (eVar 4)) (zau (zah (eVar 7)) (zau (zah (eVar 8)) (zau (zah (eVar 9)) rNil))))) (env:=t4b r0 W p R (wkD L D) (zaw o) (.pl (.int (t:Int))) u9) (st:=s3) (s1:=s3) (rs:=[vi r0,⟨zaq (nm W),false,[4]⟩,⟨webD W,false,[]⟩,⟨wkD L D,false,[8]⟩,⟨zaw o,false,[9]⟩]) rfl rfl g3
    unfold qNot qTru
    rw[q];rfl
   refine⟨_,_,s4,rfl,zap (zim (bs:=[]) (s1:=s3) (it _ _ _) lq) (zmf t2 rfl),.pl (.int (t:Int)),u9,rfl,by rw[qI];exact p4⟩)
 have q1:zbo [webD W,webD W]=some (.bool true,false):=zji 7 _ (zaqs (by omega) ok.few)
 have q2:zbo [wkD L D,wkD L D]=some (.bool true,false):=zji 7 _ (zasg P hW1.2.1 hW1.2.2.2)
 have q3:zbo [zaw o,zaw o]=some (.bool true,false):=zji 7 _ (zanf (by omega))
 have fin:eAnd (zct 2 zbo (zab (eIxV 3 (eC (.int 0))) (zab (eVar 7) aNil))) (eAnd (zct 2 zbo (zab (eVar 6) (zab (eVar 8) aNil))) (zct 2 zbo (zab (eVar 5) (zab (eVar 9) aNil)))) (t4b r0 W p R (wkD L D) (zaw o) s10 s11)=some (vb true):=by
  have u1:=zdo (n:=2) (g:=zbo) (f:=zab (eIxV 3 (eC (.int 0))) (zab (eVar 7) aNil)) (env:=t4b r0 W p R (wkD L D) (zaw o) s10 s11) (rs:=[⟨webD W,false,[]⟩,⟨webD W,false,[]⟩]) rfl rfl q1
  have u2:=zdo (n:=2) (g:=zbo) (f:=zab (eVar 6) (zab (eVar 8) aNil)) (env:=t4b r0 W p R (wkD L D) (zaw o) s10 s11) (rs:=[⟨wkD L D,false,[]⟩,⟨wkD L D,false,[8]⟩]) rfl rfl q2
  have u3:=zdo (n:=2) (g:=zbo) (f:=zab (eVar 5) (zab (eVar 9) aNil)) (env:=t4b r0 W p R (wkD L D) (zaw o) s10 s11) (rs:=[⟨zaw o,false,[]⟩,⟨zaw o,false,[9]⟩]) rfl rfl q3
  unfold eAnd
  rw[u1,u2,u3];rfl
 refine⟨sd,s',es,?_⟩
 refine zap (e1:=t4E (.pl (.int r0)) .no .no .no .no .no .no .no .no .no) (s1:=z0) (zbj e0) ?_
 refine zap (e1:=t4E (.pl (.int r0)) (.pl (zfo W p R)) .no .no .no .no .no .no .no .no) (s1:=s1) (zbj (zdu (T:=Pen) (n:=1) (rs:=[]) (s1:=z0) rfl rfl e1)) ?_
 refine zap (e1:=t4a r0 W p R .no .no .no .no .no .no .no) (s1:=s1) (zbj (zbd nmE)) ?_
 refine zap (e1:=t4a r0 W p R (.ac (zaw o)) .no .no .no .no .no .no) (s1:=s2) (zbj (zdu (T:=Pen) (n:=2) (zbx (T:=Pen) (g:=rNil) (x:=vi (p:Int)) (xs:=[]) (s1:=s1) (s2:=s1) rfl rfl) rfl e2)) ?_
 refine zap (e1:=t4a r0 W p R (.ac (zaw o)) (.ac (wkD L D)) .no .no .no .no .no) (s1:=s3) (zbj (zdu (T:=Pen) (n:=2) (zbx (T:=Pen) (g:=rNil) (x:=⟨zfo W p R,false,[]⟩) (xs:=[]) (s1:=s2) (s2:=s2) rfl rfl) rfl e3)) ?_
 refine zap (e1:=t4a r0 W p R (.ac (zaw o)) (.ac (wkD L D)) (.pl (webD W)) .no .no .no .no) (s1:=s3) (zbj (zbd (zcd (w:=ixD) (d:=webD W) (fr:=false) (zdo (n:=1) (rs:=[⟨zfo W p R,false,[]⟩]) (f:=zab (eVar 3) aNil) (env:=t4a r0 W p R (.ac (zaw o)) (.ac (wkD L D)) .no .no .no .no .no) rfl rfl c1) (b:=eC (.int 0)) (y:=vi 0) rfl rfl))) ?_
 refine zap f8 (zap (e1:=t4b r0 W p R (wkD L D) (zaw o) .no .no) (s1:=s3) rfl ?_)
 exact zap (zim (zjk (s:=2) rfl (by decide)) lp) (zkg (bs:=[]) (zbd fin))
section
variable{P:Program}{w:World}{K:qC}{mg:Str->Option Value}{base:Heap}
noncomputable def zaja(K:qC):Sp:=λvs H Q _=>∃(a:Addr)(ns:List Int),vs=[.ref a]/\SqL K H a (ns.map V.int)/\∀H',Q (.bl true) H'
theorem zaqx{f:Addr}{fd:qAF}(F:Fun K "law" "law" zty f fd)(T:Txt mg)(D_law_book:zsf P w K mg base)(D_law_calls:zqh P w K mg base)(D_law_copy:zsh P w K mg base)(D_law_draw:zec P w K mg base)(D_law_due:zwg P w K mg base)(D_law_order:zqi P w K mg base)(D_law_pen:zwe P w K mg base)(D_law_refuses:zmt P w K mg base)(D_law_same:zsg P w K mg base)(D_law_walk:zsi P w K mg base)(D_walked:zzr P w K mg base):FnOk P w K mg base CX0 9 f fd ["_law_script"] (zaja K):=by
 refine F.ok zaqe (λvs H Q E h=>?_) (λcdv A outer s H vs Q E hr h=>?_)
 ·obtain⟨a,ns,rfl,_⟩:=h
  rfl
 ·obtain⟨a,ns,rfl,hS,k⟩:=h
  have hu:=zgx hr
  obtain⟨sd,st1,es,ef⟩:=zaiz ns
  apply Exists.intro
  apply And.intro
  ·refine' Bx.out (zaf (zjm (i:=1) zjs rfl (Or.inl rfl) (zgl D_law_pen (hr.mono (by decide)) (by rfl) (zak (bv 0) zaa (by rfl)) (by decide) (zam (by rfl)) (by rfl)) (by rfl) (.inl rfl))
 (zaf (zjm (i:=2) zjs rfl (Or.inl rfl) (zgl D_law_draw (hr.mono (by decide)) (by rfl) (zak (bv 1) (zak zaj zaa (by rfl)) (by rfl)) (by decide) (zam (by rfl)) (by rfl)) (by rfl) (.inl rfl))
 (zaf (zjm (i:=3) zjs rfl (Or.inl rfl) (zgl D_law_book (hr.mono (by decide)) (by rfl) (zak (bv 1) zaa (by rfl)) (by decide) (zam (by rfl)) (by rfl)) (by rfl) (.inl rfl))
 (zaf (zvg (i:=4) (zby (N':=["_law_name_here","_law_elders"]) (own:=["_law_name_here","_law_elders"]) (fr:=[]) (by kernel_rfl)) rfl (zcv (K:=K) rfl (zrm (zbr (K:=K) rfl) (bv 3) zaj (λ_ _=>rfl))) ?hb1 (by rfl) zjs rfl rfl (by intro _;rfl))
 (zaf (zjm (i:=5) zjs rfl (Or.inl rfl) (zgl D_law_order (hr.mono (by decide)) (by rfl) (zak (bv 1) (zak (zrm (zbr (K:=K) rfl) (bv 3) zaj (λ_ _=>rfl)) zaa (by rfl)) (by rfl)) (by decide) (zam (by rfl)) (by rfl)) (by rfl) (.inl rfl))
 (zaf (zjm (i:=6) zjs rfl (Or.inl rfl) (zgl D_law_walk (hr.mono (by decide)) (by rfl) (zak (bv 1) (zak (bv 3) zaa (by rfl)) (by rfl)) (by decide) (zam (by rfl)) (by rfl)) (by rfl) (.inl rfl))
 (zaf (zjm (i:=7) zjs rfl (Or.inl rfl) (zrm (zbr (K:=K) rfl) (zgl D_law_copy (hr.mono (by decide)) (by rfl) (zak (bv 3) zaa (by rfl)) (by decide) (zam (by rfl)) (by rfl)) zaj (λ_ _=>rfl)) (by rfl) (.inl rfl))
 (zaf (zjm (i:=8) zjs rfl (Or.inl rfl) (zbh (zbp (K:=K) rfl) (zcl (zby (N':=["_law_nodes"]) (own:=["_law_nodes"]) (fr:=[]) (by kernel_rfl)) rfl (zcv (K:=K) rfl (zgm (zagn (K:=K) rfl) (bv 6) zif (zie (zpk zoo zaj)))) ?hb2 (by intro _;rfl)) (zce (zak (zkz (zfw (K:=K) rfl) (by rfl) T.list zfr (zak (zrm (zbr (K:=K) rfl) (bv 6) (zpk zoo zaj) (λ_ _=>rfl)) zaa (by rfl)) (by decide) (by decide) (zam (by rfl)) (by rfl)) zaa (by rfl)))) (by rfl) (.inl rfl))
 (zaf (zjm (i:=9) zjs rfl (Or.inl rfl) (zkz (zfw (K:=K) rfl) (by rfl) T.list zfr (zak (bv 5) zaa (by rfl)) (by decide) (by decide) (zam (by rfl)) (by rfl)) (by rfl) (.inl rfl))
 (zaf (zdt qAI rfl (zcp rfl T.range (zak zaj zaa (by rfl)) (by rfl)) (zfi (i:=10) zjs rfl (Or.inl rfl) (.inl rfl))
  (zaf (zdt qAI rfl (zcv (K:=K) rfl (zgl D_law_calls (hr.mono (by decide)) (by rfl) (zak (bv 3) zaa (by rfl)) (by decide) (zam (by rfl)) (by rfl))) (zfi (i:=11) zjs rfl (Or.inl rfl) (.inl rfl))
  (zao (zef (zth (zey (K:=K) rfl (zgl D_law_same (hr.mono (by decide)) (by rfl) (zak (zgl D_law_due (hr.mono (by decide)) (by rfl) (zak (bv 4) (zak (bv 6) (zak (bv 5) (zak (bv 11) zaa (by rfl)) (by rfl)) (by rfl)) (by rfl)) (by decide) (zam (by rfl)) (by rfl)) (zak (zgl D_walked (hr.mono (by decide)) (by rfl) (zak (bv 7) (zak (bv 8) (zak (bv 9) (zak (bv 11) zaa (by rfl)) (by rfl)) (by rfl)) (by rfl)) (by decide) (zam (by rfl)) (by rfl)) zaa (by rfl)) (by rfl)) (by decide) (zam (by rfl)) (by rfl)) (λ_=>rfl))) (zao (zbl zno)) zbw)) (by intro _;rfl))
 (zao (zef (zth (zey (K:=K) rfl (zgl D_law_refuses (hr.mono (by decide)) (by rfl) (zak (bv 1) (zak (bv 2) (zak (bv 4) (zak (bv 7) (zak (bv 8) (zak (bv 9) zaa (by rfl)) (by rfl)) (by rfl)) (by rfl)) (by rfl)) (by rfl)) (by decide) (zam (by rfl)) (by rfl)) (λ_=>rfl))) (zao (zbl zno)) zbw))) (by intro _;rfl))
 (zao (zbl (zpj (zgl D_law_same (hr.mono (by decide)) (by rfl) (zak (zrm (zbr (K:=K) rfl) (bv 3) zaj (λ_ _=>rfl)) (zak (bv 7) zaa (by rfl)) (by rfl)) (by decide) (zam (by rfl)) (by rfl)) (zpj (zgl D_law_same (hr.mono (by decide)) (by rfl) (zak (bv 6) (zak (bv 8) zaa (by rfl)) (by rfl)) (by decide) (zam (by rfl)) (by rfl)) (zxc (zgl D_law_same (hr.mono (by decide)) (by rfl) (zak (bv 5) (zak (bv 9) zaa (by rfl)) (by rfl)) (by decide) (zam (by rfl)) (by rfl)))))))))))))))))
   case hb1=>(intro cl C s H fp;refine'⟨Bx.out (zes (K:=K) (n:=2) rfl rfl (zbf (zfi (i:=0) zwd rfl (Or.inl rfl) (by first|exact .inl rfl|exact .inr rfl|assumption)) (zbf (zfi (i:=1) zwd rfl (Or.inl rfl) (by first|exact .inl rfl|exact .inr rfl|assumption)) zer (by rfl)) (by rfl)) (by rfl) (by rfl)),Bx.out zdn,Bx.out (bv 0)⟩)
   case hb2=>(intro cl C s H fp;refine'⟨Bx.out (zfi (i:=0) zaem rfl (Or.inl rfl) (by first|exact .inl rfl|exact .inr rfl|assumption)),Bx.out zdn,Bx.out (zcl (zby (N':=["_law_node"]) (own:=["_law_node"]) (fr:=[]) (by kernel_rfl)) rfl (zcv (K:=K) rfl (bv 0)) ?hb3 (by intro _;rfl))⟩;case hb3=>(intro cl C s H fp;refine'⟨Bx.out (zfi (i:=0) zaen rfl (Or.inl rfl) (by first|exact .inl rfl|exact .inr rfl|assumption)),Bx.out zdn,Bx.out (zkz (zfw (K:=K) rfl) (by rfl) T.list zfr (zak (bv 0) zaa (by rfl)) (by decide) (by decide) (zam (by rfl)) (by rfl))⟩))
  exact zahn (N:=zami) (F:=zwm) (n:=10) rfl ((zas (zbc (zay (zat (zag (se_c λ_=>zad)) zbb)) (by decide)) (zas (zbc (zay zbb) (by decide)) (zas (zbc (zag (zgt (zgk (zcu (se_c λ_=>zad))) (zkb (zbt (zbt zhv))) (zpf (zdp (by decide) (zdp (by decide) zlq))) zfu (zac 0))) (by decide)) (zas (zbc (zay (zat (zag (zcu (se_c λ_=>zad))) zbb)) (by decide)) (zas (zbc (zay (zat (zag (zac 3)) zbb)) (by decide)) (zas (zbc (zag (zbm zib (zcx (zae (zac 3) zar)) (se_c λ_=>zad))) (by decide)) (zas (zbc (zag (zbm zdm (zgt (zgk (zapa (zac 6) zna (znb (zpg (se_c λ_=>zad))))) zhu (zii (by decide)) zfu (zgt (zgk (zac 0)) zhu (zii (by decide)) zfu (zha zlo (zae (zac 0) zar)))) (zee (zae (zha zlo (zae (zcu (zpg (se_c λ_=>zad))) zar)) zar)))) (by decide)) (zas (zbc (zag (zha zlo (zae (zac 5) zar))) (by decide)) (zas (zil (zfj (zfh (zae (se_c λ_=>zad) zar))) (zdr (by decide)) (zfk (by decide)) (zas (zil (zfj (zgk (zcx (zae (zac 3) zar)))) (zdr (by decide)) (zfk (by decide)) (zjq (zhd (zacq (zoz (zcx (zae (zcx (zae (zac 4) (zae (zac 6) (zae (zac 5) (zae (zac 11) zar))))) (zae (zcx (zae (zac 7) (zae (zac 8) (zae (zac 9) (zae (zac 11) zar))))) zar)))))) (zik (zag (se_c λ_=>zbg))) zgu)) (zjq (zalg (zalj (zay (zat (zag (zac 2)) (zat (zag (zac 4)) (zat (zag (zac 7)) (zat (zag (zac 8)) (zat (zag (zac 9)) zbb)))))))) (zik (zag (se_c λ_=>zbg))) zgu))) (zik (zag (zuy (zcx (zae (zcu (se_c λ_=>zad)) (zae (zac 7) zar))) (zuy (zcx (zae (zac 6) (zae (zac 8) zar))) (zcx (zae (zac 5) (zae (zac 9) zar))))))))))))))))) hS es ef k
end
theorem us_s{us:List Value}{n:Nat}(h:us.length=n+1):∃a t,us=a::t/\t.length=n:=by
 cases us with
 | nil=>cases h
 | cons a t=>exact⟨a,t,rfl,qBh h⟩
theorem us_1{us:List Value}(h:us.length=1):∃a0,us=[a0]:=by
 obtain⟨a,t,rfl,h2⟩:=us_s h
 cases qBG.mp h2
 exact⟨a,rfl⟩
theorem us_2{us:List Value}(h:us.length=2):∃a0 a1,us=[a0,a1]:=by
 obtain⟨a0,t,rfl,h2⟩:=us_s h
 obtain⟨a1,rfl⟩:=us_1 h2
 exact⟨a0,a1,rfl⟩
theorem us_3{us:List Value}(h:us.length=3):∃a0 a1 a2,us=[a0,a1,a2]:=by
 obtain⟨a0,t,rfl,h2⟩:=us_s h
 obtain⟨a1,a2,rfl⟩:=us_2 h2
 exact⟨a0,a1,a2,rfl⟩
theorem us_4{us:List Value}(h:us.length=4):∃a0 a1 a2 a3,us=[a0,a1,a2,a3]:=by
 obtain⟨a0,t,rfl,h2⟩:=us_s h
 obtain⟨a1,a2,a3,rfl⟩:=us_3 h2
 exact⟨a0,a1,a2,a3,rfl⟩
theorem us_5{us:List Value}(h:us.length=5):∃a0 a1 a2 a3 a4,us=[a0,a1,a2,a3,a4]:=by
 obtain⟨a0,t,rfl,h2⟩:=us_s h
 obtain⟨a1,a2,a3,a4,rfl⟩:=us_4 h2
 exact⟨a0,a1,a2,a3,a4,rfl⟩
theorem us_6{us:List Value}(h:us.length=6):∃a0 a1 a2 a3 a4 a5,us=[a0,a1,a2,a3,a4,a5]:=by
 obtain⟨a0,t,rfl,h2⟩:=us_s h
 obtain⟨a1,a2,a3,a4,a5,rfl⟩:=us_5 h2
 exact⟨a0,a1,a2,a3,a4,a5,rfl⟩
theorem all_mk{l:PySem.W.OpenLaw}{w:World}{K:qC}{h:Heap}{mg:Str->Option Value}{fa f1 f2 f3 f4 f5 f6 f7 f8 f9 f10 f11 f12 f13 f14 f15 f16 f17 f18 f19 f20 f21:Addr}(X:K.In h)(G:h.Ns qX mg)(hfa:mg "law"=some (.ref fa))
  {od1 an1 od2 an2 od3 an3 od4 an4 od5 an5 od6 an6 od7 an7 od8 an8 od9 an9 od10 an10 od11 an11 od12 an12 od13 an13 od14 an14 od15 an15 od16 an16 od17 an17 od18 an18 od19 an19 od20 an20 od21 an21:Option Addr}{sl1 sl2 sl3 sl4 sl5 sl6 sl7 sl8 sl9 sl10 sl11 sl12 sl13 sl14 sl15 sl16 sl17 sl18 sl19 sl20 sl21:Array (Option Value)}{oc1 kV1 dc1 pm1 cd1 ct1 oc2 kV2 dc2 pm2 cd2 ct2 oc3 kV3 dc3 pm3 cd3 ct3 oc4 kV4 dc4 pm4 cd4 ct4 oc5 kV5 dc5 pm5 cd5 ct5 oc6 kV6 dc6 pm6 cd6 ct6 oc7 kV7 dc7 pm7 cd7 ct7 oc8 kV8 dc8 pm8 cd8 ct8 oc9 kV9 dc9 pm9 cd9 ct9 oc10 kV10 dc10 pm10 cd10 ct10 oc11 kV11 dc11 pm11 cd11 ct11 oc12 kV12 dc12 pm12 cd12 ct12 oc13 kV13 dc13 pm13 cd13 ct13 oc14 kV14 dc14 pm14 cd14 ct14 oc15 kV15 dc15 pm15 cd15 ct15 oc16 kV16 dc16 pm16 cd16 ct16 oc17 kV17 dc17 pm17 cd17 ct17 oc18 kV18 dc18 pm18 cd18 ct18 oc19 kV19 dc19 pm19 cd19 ct19 oc20 kV20 dc20 pm20 cd20 ct20 oc21 kV21 dc21 pm21 cd21 ct21:Value}
  (a1:qZ K qX "names_of"=some (some (.ref f1)))(l1:K.lookup f1=some ⟨oc1,od1,.func (qt "names_of" "names_of" (zbz zhj) (zbq zhj) (zan zhj) .none kV1 dc1 pm1 an1 cd1 ct1),sl1⟩)(c1:qp K cd1 "names_of"=true)(k1:qY K (.ref f1)=true)
  (a2:qZ K qX "names_in"=some (some (.ref f2)))(l2:K.lookup f2=some ⟨oc2,od2,.func (qt "names_in" "names_in" (zbz zhk) (zbq zhk) (zan zhk) .none kV2 dc2 pm2 an2 cd2 ct2),sl2⟩)(c2:qp K cd2 "names_in"=true)(k2:qY K (.ref f2)=true)
  (a3:qZ K qX "check_kinds"=some (some (.ref f3)))(l3:K.lookup f3=some ⟨oc3,od3,.func (qt "check_kinds" "check_kinds" (zbz zdz) (zbq zdz) (zan zdz) .none kV3 dc3 pm3 an3 cd3 ct3),sl3⟩)(c3:qp K cd3 "check_kinds"=true)(k3:qY K (.ref f3)=true)
  (a4:qZ K qX "names_in_call"=some (some (.ref f4)))(l4:K.lookup f4=some ⟨oc4,od4,.func (qt "names_in_call" "names_in_call" (zbz zdf) (zbq zdf) (zan zdf) .none kV4 dc4 pm4 an4 cd4 ct4),sl4⟩)(c4:qp K cd4 "names_in_call"=true)(k4:qY K (.ref f4)=true)
  (a5:qZ K qX "check_call"=some (some (.ref f5)))(l5:K.lookup f5=some ⟨oc5,od5,.func (qt "check_call" "check_call" (zbz zfa) (zbq zfa) (zan zfa) .none kV5 dc5 pm5 an5 cd5 ct5),sl5⟩)(c5:qp K cd5 "check_call"=true)(k5:qY K (.ref f5)=true)
  (a6:qZ K qX "walked"=some (some (.ref f6)))(l6:K.lookup f6=some ⟨oc6,od6,.func (qt "walked" "walked" (zbz zlc) (zbq zlc) (zan zlc) .none kV6 dc6 pm6 an6 cd6 ct6),sl6⟩)(c6:qp K cd6 "walked"=true)(k6:qY K (.ref f6)=true)
  (a7:qZ K qX "_law_pen"=some (some (.ref f7)))(l7:K.lookup f7=some ⟨oc7,od7,.func (qt "_law_pen" "_law_pen" (zbz zjb) (zbq zjb) (zan zjb) .none kV7 dc7 pm7 an7 cd7 ct7),sl7⟩)(c7:qp K cd7 "_law_pen"=true)(k7:qY K (.ref f7)=true)
  (a8:qZ K qX "_law_draw"=some (some (.ref f8)))(l8:K.lookup f8=some ⟨oc8,od8,.func (qt "_law_draw" "_law_draw" (zbz zhl) (zbq zhl) (zan zhl) .none kV8 dc8 pm8 an8 cd8 ct8),sl8⟩)(c8:qp K cd8 "_law_draw"=true)(k8:qY K (.ref f8)=true)
  (a9:qZ K qX "_law_name"=some (some (.ref f9)))(l9:K.lookup f9=some ⟨oc9,od9,.func (qt "_law_name" "_law_name" (zbz zhm) (zbq zhm) (zan zhm) .none kV9 dc9 pm9 an9 cd9 ct9),sl9⟩)(c9:qp K cd9 "_law_name"=true)(k9:qY K (.ref f9)=true)
  (a10:qZ K qX "_law_web"=some (some (.ref f10)))(l10:K.lookup f10=some ⟨oc10,od10,.func (qt "_law_web" "_law_web" (zbz zjd) (zbq zjd) (zan zjd) .none kV10 dc10 pm10 an10 cd10 ct10),sl10⟩)(c10:qp K cd10 "_law_web"=true)(k10:qY K (.ref f10)=true)
  (a11:qZ K qX "_law_book"=some (some (.ref f11)))(l11:K.lookup f11=some ⟨oc11,od11,.func (qt "_law_book" "_law_book" (zbz zhn) (zbq zhn) (zan zhn) .none kV11 dc11 pm11 an11 cd11 ct11),sl11⟩)(c11:qp K cd11 "_law_book"=true)(k11:qY K (.ref f11)=true)
  (a12:qZ K qX "_law_calls"=some (some (.ref f12)))(l12:K.lookup f12=some ⟨oc12,od12,.func (qt "_law_calls" "_law_calls" (zbz zgb) (zbq zgb) (zan zgb) .none kV12 dc12 pm12 an12 cd12 ct12),sl12⟩)(c12:qp K cd12 "_law_calls"=true)(k12:qY K (.ref f12)=true)
  (a13:qZ K qX "_law_same"=some (some (.ref f13)))(l13:K.lookup f13=some ⟨oc13,od13,.func (qt "_law_same" "_law_same" (zbz zho) (zbq zho) (zan zho) .none kV13 dc13 pm13 an13 cd13 ct13),sl13⟩)(c13:qp K cd13 "_law_same"=true)(k13:qY K (.ref f13)=true)
  (a14:qZ K qX "_law_copy"=some (some (.ref f14)))(l14:K.lookup f14=some ⟨oc14,od14,.func (qt "_law_copy" "_law_copy" (zbz zhp) (zbq zhp) (zan zhp) .none kV14 dc14 pm14 an14 cd14 ct14),sl14⟩)(c14:qp K cd14 "_law_copy"=true)(k14:qY K (.ref f14)=true)
  (a15:qZ K qX "_law_order"=some (some (.ref f15)))(l15:K.lookup f15=some ⟨oc15,od15,.func (qt "_law_order" "_law_order" (zbz zgc) (zbq zgc) (zan zgc) .none kV15 dc15 pm15 an15 cd15 ct15),sl15⟩)(c15:qp K cd15 "_law_order"=true)(k15:qY K (.ref f15)=true)
  (a16:qZ K qX "_law_answer"=some (some (.ref f16)))(l16:K.lookup f16=some ⟨oc16,od16,.func (qt "_law_answer" "_law_answer" (zbz zfb) (zbq zfb) (zan zfb) .none kV16 dc16 pm16 an16 cd16 ct16),sl16⟩)(c16:qp K cd16 "_law_answer"=true)(k16:qY K (.ref f16)=true)
  (a17:qZ K qX "_law_walk"=some (some (.ref f17)))(l17:K.lookup f17=some ⟨oc17,od17,.func (qt "_law_walk" "_law_walk" (zbz zhq) (zbq zhq) (zan zhq) .none kV17 dc17 pm17 an17 cd17 ct17),sl17⟩)(c17:qp K cd17 "_law_walk"=true)(k17:qY K (.ref f17)=true)
  (a18:qZ K qX "_law_due"=some (some (.ref f18)))(l18:K.lookup f18=some ⟨oc18,od18,.func (qt "_law_due" "_law_due" (zbz zje) (zbq zje) (zan zje) .none kV18 dc18 pm18 an18 cd18 ct18),sl18⟩)(c18:qp K cd18 "_law_due"=true)(k18:qY K (.ref f18)=true)
  (a19:qZ K qX "_law_refused"=some (some (.ref f19)))(l19:K.lookup f19=some ⟨oc19,od19,.func (qt "_law_refused" "_law_refused" (zbz zea) (zbq zea) (zan zea) .none kV19 dc19 pm19 an19 cd19 ct19),sl19⟩)(c19:qp K cd19 "_law_refused"=true)(k19:qY K (.ref f19)=true)
  (a20:qZ K qX "_law_refuses"=some (some (.ref f20)))(l20:K.lookup f20=some ⟨oc20,od20,.func (qt "_law_refuses" "_law_refuses" (zbz zeb) (zbq zeb) (zan zeb) .none kV20 dc20 pm20 an20 cd20 ct20),sl20⟩)(c20:qp K cd20 "_law_refuses"=true)(k20:qY K (.ref f20)=true)
  (a21:qZ K qX "law"=some (some (.ref f21)))(l21:K.lookup f21=some ⟨oc21,od21,.func (qt "law" "law" (zbz zty) (zbq zty) (zan zty) .none kV21 dc21 pm21 an21 cd21 ct21),sl21⟩)(c21:qp K cd21 "law"=true)(k21:qY K (.ref f21)=true)
  {y0 y1 y2 fI:Addr}{xoc xkV xdc xpm xcd xct:Value}{xod xan:Option Addr}{xsl:Array (Option Value)}
  {xdd0:Option Addr}{xsl0:Array (Option Value)}{xcdt0:ClassData}
  {xdd1:Option Addr}{xsl1:Array (Option Value)}{xcdt1:ClassData}
  (xa0:qZ K qX "NoCall"=some (some (.ref y0)))
  (xp0:PySem.W.isClsIn K y0=true)
  (xq0:PySem.W.typeIn K (.ref y0)=some (.type "type"))
  (xa1:qZ K qX "NoKind"=some (some (.ref y1)))
  (xp1:PySem.W.isClsIn K y1=true)
  (xq1:PySem.W.typeIn K (.ref y1)=some (.type "type"))
  (xa2:qZ K qX "CallError"=some (some (.ref y2)))
  (xp2:PySem.W.isClsIn K y2=true)
  (xq2:PySem.W.typeIn K (.ref y2)=some (.type "type"))
  (xz:qZ K qX "ValueError"=some none)
  (xi0:PySem.W.findIn K (.ref y0) "__init__"=some (some (.ref fI)))
  (xi1:PySem.W.findIn K (.ref y1) "__init__"=some (some (.ref fI)))
  (xl:K.lookup fI=some ⟨xoc,xod,.func (qt "__init__" "CallError.__init__" (zbz (zsv (top 1) 0)) (zbq (zsv (top 1) 0)) (zan (zsv (top 1) 0)) .none xkV xdc xpm xan xcd xct),xsl⟩)
  (xc:qp K xcd "CallError.__init__"=true)
  (xk:qY K (.ref fI)=true)
  (xf:PySem.W.isFn K (.ref fI)=true)
  (xlc0:K.lookup y0=some ⟨.type "type",xdd0,.cls xcdt0,xsl0⟩)
  (xb0:xcB y0 xcdt0 xsl0=true)
  (xkp0:qY K (.ref y0)=true)
  (xsa0:PySem.W.findIn K (.ref y0) "__setattr__"=some (some (.builtin "object.__setattr__")))
  (xat0:PySem.W.findIn K (.ref y0) "at"=some (none))
  (xga0:PySem.W.findIn K (.ref y0) "__getattribute__"=some (some (.builtin "BaseException.__getattribute__")))
  (xgh0:PySem.W.findIn K (.ref y0) "__getattr__"=some (none))
  (xcl0:PySem.W.findIn K (.ref y0) "__class__"=some (some (.builtin "object.__class__")))
  (xs0_b:PySem.W.subIn K (.ref y0) (.type "BaseException")=some true)
  (xs0_v:PySem.W.subIn K (.ref y0) (.type "ValueError")=some true)
  (xs0_s:PySem.W.subIn K (.ref y0) (.ref y0)=some true)
  (xs0_B:PySem.W.subIn K (.ref y0) (.ref y2)=some true)
  (xs0_1:PySem.W.subIn K (.ref y0) (.ref y1)=some false)
  (xlc1:K.lookup y1=some ⟨.type "type",xdd1,.cls xcdt1,xsl1⟩)
  (xb1:xcB y1 xcdt1 xsl1=true)
  (xkp1:qY K (.ref y1)=true)
  (xsa1:PySem.W.findIn K (.ref y1) "__setattr__"=some (some (.builtin "object.__setattr__")))
  (xat1:PySem.W.findIn K (.ref y1) "at"=some (none))
  (xga1:PySem.W.findIn K (.ref y1) "__getattribute__"=some (some (.builtin "BaseException.__getattribute__")))
  (xgh1:PySem.W.findIn K (.ref y1) "__getattr__"=some (none))
  (xcl1:PySem.W.findIn K (.ref y1) "__class__"=some (some (.builtin "object.__class__")))
  (xs1_b:PySem.W.subIn K (.ref y1) (.type "BaseException")=some true)
  (xs1_v:PySem.W.subIn K (.ref y1) (.type "ValueError")=some true)
  (xs1_s:PySem.W.subIn K (.ref y1) (.ref y1)=some true)
  (xs1_B:PySem.W.subIn K (.ref y1) (.ref y2)=some true)
  (xs1_0:PySem.W.subIn K (.ref y1) (.ref y0)=some false)
  (xBb:PySem.W.subIn K (.ref y2) (.type "BaseException")=some true)
  (z1:qZ K qX "all"=some none)(z2:qZ K qX "bool"=some none)(z3:qZ K qX "enumerate"=some none)(z4:qZ K qX "int"=some none)(z5:qZ K qX "isinstance"=some none)(z6:qZ K qX "len"=some none)(z7:qZ K qX "list"=some none)(z8:qZ K qX "min"=some none)(z9:qZ K qX "range"=some none)(z10:qZ K qX "str"=some none)(z11:qZ K qX "tuple"=some none)(z12:qZ K qX "zip"=some none) :
  ∃fd:qAF,(∀(s:Shared)(v:Value),BindsTo s fd ⟨[v],[]⟩ [("_law_script",v)])/\∀base:Heap,K.In base->base.Ns qX mg->FnOk l.prog w K mg base CX0 9 fa fd ["_law_script"] (zaja K):=by
 have e:=hfa.symm.trans (qf X G a21)
 cases e
 have T:Txt mg:=⟨qAJ X G z1,qAJ X G z2,qAJ X G z3,qAJ X G z4,qAJ X G z5,qAJ X G z6,qAJ X G z7,qAJ X G z8,qAJ X G z9,qAJ X G z10,qAJ X G z11,qAJ X G z12⟩
 have F1:=zed (st:=zhj) l1 c1 k1
 have b1:=F1.binds (ps:=["web"]) λ_ _ _ _ _ _ us hl=>by obtain⟨_,rfl⟩:=us_1 hl;rfl
 have F2:=zed (st:=zhk) l2 c2 k2
 have b2:=F2.binds (ps:=["arm"]) λ_ _ _ _ _ _ us hl=>by obtain⟨_,rfl⟩:=us_1 hl;rfl
 have F3:=zed (st:=zdz) l3 c3 k3
 have b3:=F3.binds (ps:=["web","names"]) λ_ _ _ _ _ _ us hl=>by obtain⟨_,_,rfl⟩:=us_2 hl;rfl
 have F4:=zed (st:=zdf) l4 c4 k4
 have b4:=F4.binds (ps:=["call"]) λ_ _ _ _ _ _ us hl=>by obtain⟨_,rfl⟩:=us_1 hl;rfl
 have F5:=zed (st:=zfa) l5 c5 k5
 have b5:=F5.binds (ps:=["web","places","call"]) λ_ _ _ _ _ _ us hl=>by obtain⟨_,_,_,rfl⟩:=us_3 hl;rfl
 have F6:=zed (st:=zlc) l6 c6 k6
 have b6:=F6.binds (ps:=["web","walk","order","call"]) λ_ _ _ _ _ _ us hl=>by obtain⟨_,_,_,_,rfl⟩:=us_4 hl;rfl
 have F7:=zed (st:=zjb) l7 c7 k7
 have b7:=F7.binds (ps:=["_law_script"]) λ_ _ _ _ _ _ us hl=>by obtain⟨_,rfl⟩:=us_1 hl;rfl
 have F8:=zed (st:=zhl) l8 c8 k8
 have b8:=F8.binds (ps:=["_law_pen_here","_law_many"]) λ_ _ _ _ _ _ us hl=>by obtain⟨_,_,rfl⟩:=us_2 hl;rfl
 have F9:=zed (st:=zhm) l9 c9 k9
 have b9:=F9.binds (ps:=["_law_pen_here","_law_names"]) λ_ _ _ _ _ _ us hl=>by obtain⟨_,_,rfl⟩:=us_2 hl;rfl
 have F10:=zed (st:=zjd) l10 c10 k10
 have b10:=F10.binds (ps:=["_law_pen_here","_law_size"]) λ_ _ _ _ _ _ us hl=>by obtain⟨_,_,rfl⟩:=us_2 hl;rfl
 have F11:=zed (st:=zhn) l11 c11 k11
 have b11:=F11.binds (ps:=["_law_pen_here"]) λ_ _ _ _ _ _ us hl=>by obtain⟨_,rfl⟩:=us_1 hl;rfl
 have F12:=zed (st:=zgb) l12 c12 k12
 have b12:=F12.binds (ps:=["_law_book_here"]) λ_ _ _ _ _ _ us hl=>by obtain⟨_,rfl⟩:=us_1 hl;rfl
 have F13:=zed (st:=zho) l13 c13 k13
 have b13:=F13.binds (ps:=["_law_due_here","_law_thing"]) λ_ _ _ _ _ _ us hl=>by obtain⟨_,_,rfl⟩:=us_2 hl;rfl
 have F14:=zed (st:=zhp) l14 c14 k14
 have b14:=F14.binds (ps:=["_law_book_here"]) λ_ _ _ _ _ _ us hl=>by obtain⟨_,rfl⟩:=us_1 hl;rfl
 have F15:=zed (st:=zgc) l15 c15 k15
 have b15:=F15.binds (ps:=["_law_pen_here","_law_places"]) λ_ _ _ _ _ _ us hl=>by obtain⟨_,_,rfl⟩:=us_2 hl;rfl
 have F16:=zed (st:=zfb) l16 c16 k16
 have b16:=F16.binds (ps:=["_law_pen_here","_law_rules"]) λ_ _ _ _ _ _ us hl=>by obtain⟨_,_,rfl⟩:=us_2 hl;rfl
 have F17:=zed (st:=zhq) l17 c17 k17
 have b17:=F17.binds (ps:=["_law_pen_here","_law_book_here"]) λ_ _ _ _ _ _ us hl=>by obtain⟨_,_,rfl⟩:=us_2 hl;rfl
 have F18:=zed (st:=zje) l18 c18 k18
 have b18:=F18.binds (ps:=["_law_names","_law_walk_here","_law_order_here","_law_call"]) λ_ _ _ _ _ _ us hl=>by obtain⟨_,_,_,_,rfl⟩:=us_4 hl;rfl
 have F19:=zed (st:=zea) l19 c19 k19
 have b19:=F19.binds (ps:=["_law_web_here","_law_walk_here","_law_order_here","_law_call"]) λ_ _ _ _ _ _ us hl=>by obtain⟨_,_,_,_,rfl⟩:=us_4 hl;rfl
 have F20:=zed (st:=zeb) l20 c20 k20
 have b20:=F20.binds (ps:=["_law_pen_here","_law_odd","_law_names","_law_web_here","_law_walk_here","_law_order_here"]) λ_ _ _ _ _ _ us hl=>by obtain⟨_,_,_,_,_,_,rfl⟩:=us_6 hl;rfl
 have F21:=zed (st:=zty) l21 c21 k21
 refine⟨qt "law" "law" (zbz zty) (zbq zty) (zan zty) .none kV21 dc21 pm21 an21 cd21 ct21,λs v=>.of_eq rfl,λbase _ _=>?_⟩
 have XF:=zed (st:=zsv (top 1) 0) xl xc xk
 have xv:=qAJ X G xz
 obtain⟨cl,cl0,cl1,cl2⟩:∃cl:Str->Addr,cl "NoCall"=y0/\cl "NoKind"=y1/\cl "CallError"=y2:=⟨λs=>if s="NoCall"then y0 else if s="NoKind"then y1 else if s="CallError"then y2 else 0,rfl,rfl,rfl⟩
 have XM0:XMk K y0 fI:=⟨(zahy xlc0 xb0).1,(zahy xlc0 xb0).2,xi0,xf,xkp0,xsa0,xat0,xga0,xgh0⟩
 have X_NoCall:XcOk l.prog w K mg base "NoCall" (cl "NoCall"):=by rw[cl0];exact⟨fI,_,XM0,zaeb XF XM0 xv rfl rfl (by decide) (λ_=>⟨_,rfl⟩),XF.binds (ps:=["self","at"]) (λ_ _ _ _ _ _ us hl=>by obtain⟨_,_,rfl⟩:=us_2 hl;rfl),qf X G xa0,xcl0,zajp xs0_b xp0 xq0 xs0_s⟩
 have XM1:XMk K y1 fI:=⟨(zahy xlc1 xb1).1,(zahy xlc1 xb1).2,xi1,xf,xkp1,xsa1,xat1,xga1,xgh1⟩
 have X_NoKind:XcOk l.prog w K mg base "NoKind" (cl "NoKind"):=by rw[cl1];exact⟨fI,_,XM1,zaeb XF XM1 xv rfl rfl (by decide) (λ_=>⟨_,rfl⟩),XF.binds (ps:=["self","at"]) (λ_ _ _ _ _ _ us hl=>by obtain⟨_,_,rfl⟩:=us_2 hl;rfl),qf X G xa1,xcl1,zajp xs1_b xp1 xq1 xs1_s⟩
 have XK_law_refused:XKit l.prog w K mg base cl ["NoCall","NoKind"] ["NoCall","NoKind"] "CallError":=by
  refine⟨(zfl X_NoCall (zfl X_NoKind zpu)),?_,?_,?_,?_,?_,xv⟩
  ·rw[cl2];exact(zfl (by rw[cl0];exact zajq xBb xp2 xq2 xs0_B) (zfl (by rw[cl1];exact zajq xBb xp2 xq2 xs1_B) zpu))
  ·exact(zfl (zfl (by rw[cl0];exact kd_t (zajm xp0 xq0 xs0_s) rfl) (zfl (by rw[cl0,cl1];exact kd_f (zajn xs0_s xp1 xq1 xs0_1) (by decide)) zpu)) (zfl (zfl (by rw[cl1,cl0];exact kd_f (zajn xs1_s xp0 xq0 xs1_0) (by decide)) (zfl (by rw[cl1];exact kd_t (zajm xp1 xq1 xs1_s) rfl) zpu)) zpu))
  ·exact(zfl (by rw[cl0];exact zajo xs0_v) (zfl (by rw[cl1];exact zajo xs1_v) zpu))
  ·exact(zfl (by rw[cl0];exact qf X G xa0) (zfl (by rw[cl1];exact qf X G xa1) zpu))
  ·rw[cl2];exact qf X G xa2
 have D_names_of:zjg l.prog w K mg base:=⟨f1,_,zyb F1 T , qf X G a1,k1,b1⟩
 have D_names_in:zse l.prog w K mg base:=⟨f2,_,zyc F2 T , qf X G a2,k2,b2⟩
 have D_check_kinds:zmr l.prog w K mg base:=⟨f3,_,zqz F3 T D_names_of,qf X G a3,k3,b3⟩
 have D_names_in_call:zhz l.prog w K mg base:=⟨f4,_,zod F4 T D_names_in,qf X G a4,k4,b4⟩
 have D_check_call:znu l.prog w K mg base:=⟨f5,_,ztz F5 T D_check_kinds D_names_in_call,qf X G a5,k5,b5⟩
 have D_walked:zzr l.prog w K mg base:=⟨f6,_,zaeo F6 T D_check_call D_names_of,qf X G a6,k6,b6⟩
 have D_law_pen:zwe l.prog w K mg base:=⟨f7,_,zaaz F7 T , qf X G a7,k7,b7⟩
 have D_law_draw:zec l.prog w K mg base:=⟨f8,_,zyd F8 T , qf X G a8,k8,b8⟩
 have D_law_name:zld l.prog w K mg base:=⟨f9,_,zye F9 T D_law_draw,qf X G a9,k9,b9⟩
 have D_law_web:zwf l.prog w K mg base:=⟨f10,_,zaba F10 T D_law_draw D_law_name,qf X G a10,k10,b10⟩
 have D_law_book:zsf l.prog w K mg base:=⟨f11,_,zyf F11 T D_law_draw D_law_name D_law_web,qf X G a11,k11,b11⟩
 have D_law_calls:zqh l.prog w K mg base:=⟨f12,_,zwh F12 T , qf X G a12,k12,b12⟩
 have D_law_same:zsg l.prog w K mg base:=⟨f13,_,zyg F13 T  (qf X G a13) k13 b13 7,qf X G a13,k13,b13⟩
 have D_law_copy:zsh l.prog w K mg base:=⟨f14,_,zyh F14 T , qf X G a14,k14,b14⟩
 have D_law_order:zqi l.prog w K mg base:=⟨f15,_,zwi F15 T D_law_draw,qf X G a15,k15,b15⟩
 have D_law_answer:znv l.prog w K mg base:=⟨f16,_,zua F16 T D_law_draw,qf X G a16,k16,b16⟩
 have D_law_walk:zsi l.prog w K mg base:=⟨f17,_,zyi F17 T D_law_answer D_law_draw,qf X G a17,k17,b17⟩
 have D_law_due:zwg l.prog w K mg base:=⟨f18,_,zabb F18 T , qf X G a18,k18,b18⟩
 have D_check_kinds__X:zjw l.prog w K mg base cl:=⟨f3,_,znk (cl:=cl) F3 T D_names_of X_NoKind,qf X G a3,k3,b3⟩
 have D_check_call__X:zks l.prog w K mg base cl:=⟨f5,_,zoe (cl:=cl) F5 T D_check_kinds__X D_names_in_call X_NoCall,qf X G a5,k5,b5⟩
 have D_walked__X:zqj l.prog w K mg base cl:=⟨f6,_,zwj (cl:=cl) F6 T D_check_call__X D_names_of,qf X G a6,k6,b6⟩
 have D_law_refused:zms l.prog w K mg base:=⟨f19,_,zra (cl:=cl) F19 T D_walked__X XK_law_refused,qf X G a19,k19,b19⟩
 have D_law_refuses:zmt l.prog w K mg base:=⟨f20,_,zrb F20 T D_law_draw D_law_name D_law_refused,qf X G a20,k20,b20⟩
 exact zaqx F21 T D_law_book D_law_calls D_law_copy D_law_draw D_law_due D_law_order D_law_pen D_law_refuses D_law_same D_law_walk D_walked
theorem walk{l:PySem.W.OpenLaw}{q:Program}{loose:List Str}{XP:(Str->Option Value)->Heap->Prop}{YP:World->Heap->Prop}{d:DefRec}{K:Params->qC}(hn:l.most=some 63)(hdf:d.params.defaults=[])
  (hY:∀(w:World) (h:Heap),YP w h->(K w.params).In h)
  (F:∀(w:World)(mg:Str->Option Value)(fa:Addr)(h:Heap),(K w.params).In h->h.Ns qX mg->mg d.name=some (.ref fa)->
   ∃fd:qAF,(∀(s:Shared)(u:Value),BindsTo s fd ⟨[u],[]⟩ [("_law_script",u)])/\∀base:Heap,(K w.params).In base->base.Ns qX mg->FnOk l.prog w (K w.params) mg base CX0 9 fa fd ["_law_script"] (zaja (K w.params))) :
  PySem.W.WalkO q loose XP YP l.row.toRowW d [] (λf vs=>PySem.call f vs):=
 L2.walk_of (n:=63) (k:=9) (x:="_law_script") (CX:=λ_=>CX0) (sp:=λw=>zaja (K w.params)) hn (by decide) hdf ⟨rfl,by decide,by decide⟩ hY F (λ_ _ a ns hl _ hS=>⟨a,ns,rfl,hS,λ_=>rfl⟩) λ_ _ _ _ _ z=>z
end Bc
theorem PySem.W.Fast.te7642164938066086109:True:=trivial
noncomputable def PySem.W.Fast.tw4347739570095957802:PySem.Program:=PySem.Challenge.pw_bestcalls_k44_walked_by_levels
theorem PySem.W.Fast.te4347739570095957802:PySem.Challenge.pw_bestcalls_k44_walked_by_levels=PySem.W.Fast.tw4347739570095957802:=rfl
open PySem PySem.W PyProof.Rows
set_option maxRecDepth 100000 in
set_option maxHeartbeats 0 in
theorem PySem.Challenge.cw_bestcalls_k44_walked_by_levels_holds : PySem.Challenge.rw_bestcalls_k44_walked_by_levels.Holds := by
 w_on;o_law;k_head;(case hw=>w_witness2)
 k_fill
 refine Bc.walk (l:=PySem.Challenge.rw_bestcalls_k44_walked_by_levels) rfl rfl (λw h Y=>PySem.W.kIn_of Y) ?F
 case F=>
  intro w mg fa h KX G hmg
  refine' Bc.all_mk KX G hmg ?a1 ?l1 ?c1 ?k1 ?a2 ?l2 ?c2 ?k2 ?a3 ?l3 ?c3 ?k3 ?a4 ?l4 ?c4 ?k4 ?a5 ?l5 ?c5 ?k5 ?a6 ?l6 ?c6 ?k6 ?a7 ?l7 ?c7 ?k7 ?a8 ?l8 ?c8 ?k8 ?a9 ?l9 ?c9 ?k9 ?a10 ?l10 ?c10 ?k10 ?a11 ?l11 ?c11 ?k11 ?a12 ?l12 ?c12 ?k12 ?a13 ?l13 ?c13 ?k13 ?a14 ?l14 ?c14 ?k14 ?a15 ?l15 ?c15 ?k15 ?a16 ?l16 ?c16 ?k16 ?a17 ?l17 ?c17 ?k17 ?a18 ?l18 ?c18 ?k18 ?a19 ?l19 ?c19 ?k19 ?a20 ?l20 ?c20 ?k20 ?a21 ?l21 ?c21 ?k21 ?xa0 ?xp0 ?xq0 ?xa1 ?xp1 ?xq1 ?xa2 ?xp2 ?xq2 ?xz ?xi0 ?xi1 ?xl ?xc ?xk ?xf ?xlc0 ?xb0 ?xkp0 ?xsa0 ?xat0 ?xga0 ?xgh0 ?xcl0 ?xs0_b ?xs0_v ?xs0_s ?xs0_B ?xs0_1 ?xlc1 ?xb1 ?xkp1 ?xsa1 ?xat1 ?xga1 ?xgh1 ?xcl1 ?xs1_b ?xs1_v ?xs1_s ?xs1_B ?xs1_0 ?xBb ?z1 ?z2 ?z3 ?z4 ?z5 ?z6 ?z7 ?z8 ?z9 ?z10 ?z11 ?z12
  (case a1=>k_is)
  (case l1=>k_is)
  (case c1=>k_is)
  (case k1=>k_is)
  (case a2=>k_is)
  (case l2=>k_is)
  (case c2=>k_is)
  (case k2=>k_is)
  (case a3=>k_is)
  (case l3=>k_is)
  (case c3=>k_is)
  (case k3=>k_is)
  (case a4=>k_is)
  (case l4=>k_is)
  (case c4=>k_is)
  (case k4=>k_is)
  (case a5=>k_is)
  (case l5=>k_is)
  (case c5=>k_is)
  (case k5=>k_is)
  (case a6=>k_is)
  (case l6=>k_is)
  (case c6=>k_is)
  (case k6=>k_is)
  (case a7=>k_is)
  (case l7=>k_is)
  (case c7=>k_is)
  (case k7=>k_is)
  (case a8=>k_is)
  (case l8=>k_is)
  (case c8=>k_is)
  (case k8=>k_is)
  (case a9=>k_is)
  (case l9=>k_is)
  (case c9=>k_is)
  (case k9=>k_is)
  (case a10=>k_is)
  (case l10=>k_is)
  (case c10=>k_is)
  (case k10=>k_is)
  (case a11=>k_is)
  (case l11=>k_is)
  (case c11=>k_is)
  (case k11=>k_is)
  (case a12=>k_is)
  (case l12=>k_is)
  (case c12=>k_is)
  (case k12=>k_is)
  (case a13=>k_is)
  (case l13=>k_is)
  (case c13=>k_is)
  (case k13=>k_is)
  (case a14=>k_is)
  (case l14=>k_is)
  (case c14=>k_is)
  (case k14=>k_is)
  (case a15=>k_is)
  (case l15=>k_is)
  (case c15=>k_is)
  (case k15=>k_is)
  (case a16=>k_is)
  (case l16=>k_is)
  (case c16=>k_is)
  (case k16=>k_is)
  (case a17=>k_is)
  (case l17=>k_is)
  (case c17=>k_is)
  (case k17=>k_is)
  (case a18=>k_is)
  (case l18=>k_is)
  (case c18=>k_is)
  (case k18=>k_is)
  (case a19=>k_is)
  (case l19=>k_is)
  (case c19=>k_is)
  (case k19=>k_is)
  (case a20=>k_is)
  (case l20=>k_is)
  (case c20=>k_is)
  (case k20=>k_is)
  (case a21=>k_is)
  (case l21=>k_is)
  (case c21=>k_is)
  (case k21=>k_is)
  (case xa0=>k_is)
  (case xp0=>k_is)
  (case xq0=>k_is)
  (case xa1=>k_is)
  (case xp1=>k_is)
  (case xq1=>k_is)
  (case xa2=>k_is)
  (case xp2=>k_is)
  (case xq2=>k_is)
  (case xz=>k_is)
  (case xi0=>k_is)
  (case xi1=>k_is)
  (case xl=>k_is)
  (case xc=>k_is)
  (case xk=>k_is)
  (case xf=>k_is)
  (case xlc0=>k_is)
  (case xb0=>rfl)
  (case xkp0=>k_is)
  (case xsa0=>k_is)
  (case xat0=>k_is)
  (case xga0=>k_is)
  (case xgh0=>k_is)
  (case xcl0=>k_is)
  (case xs0_b=>k_is)
  (case xs0_v=>k_is)
  (case xs0_s=>k_is)
  (case xs0_B=>k_is)
  (case xs0_1=>k_is)
  (case xlc1=>k_is)
  (case xb1=>rfl)
  (case xkp1=>k_is)
  (case xsa1=>k_is)
  (case xat1=>k_is)
  (case xga1=>k_is)
  (case xgh1=>k_is)
  (case xcl1=>k_is)
  (case xs1_b=>k_is)
  (case xs1_v=>k_is)
  (case xs1_s=>k_is)
  (case xs1_B=>k_is)
  (case xs1_0=>k_is)
  (case xBb=>k_is)
  (case z1=>k_is)
  (case z2=>k_is)
  (case z3=>k_is)
  (case z4=>k_is)
  (case z5=>k_is)
  (case z6=>k_is)
  (case z7=>k_is)
  (case z8=>k_is)
  (case z9=>k_is)
  (case z10=>k_is)
  (case z11=>k_is)
  (case z12=>k_is)
