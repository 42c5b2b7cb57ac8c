import PyProof.Rows.All
import KE.KLam
import Wide.All
import OpenK.AllK
import Wide.FinOn
import Lean
import PyProof.EqAt
import PyProof.EqKinds
import PyProof.TupleCall
import KE.KTryOn
import PyProof.ExcInit
import PyProof.ExcClass3
import PyProof.ExcBaseAll.ValueError
import PyProof.InstStoreFacts
import ObjForm.Fk.InstStore
import PyProof.ExcArgsOwn
import PyProof.ExcAttrAll.ValueError
import PyProof.PureStr
import PyProof.FString2
import PyProof.Rows.FactsFmt
import PyProof.FactsAll.NoneType_2
import PyProof.NsDelKeeps
import PyProof.IsiBase
import KE.KRevSl
import PyProof.DictWalks
import PyProof.AutoListH
import PyProof.AutoSeq1
import KE.KMinKey
import PyProof.MeetsStr
import PyProof.Rows.MinMaxN
import PyProof.ListRange
import PyProof.TupleIter
import PyProof.FactsAll.zip_1
import PySem.Challenge.RW_bestcalls_k48_the_best_order
set_option genSizeOf false
set_option Elab.async false
set_option linter.all false
set_option maxRecDepth 100000
noncomputable section
open Option renaming bind_eq_some_iff→qA,map_eq_some_iff→qF,bind_some→qQ,map_some→qBB,isSome_some→qDD,isSome_map→qDK
open PySem.W renaming Frag→qC,mg_none_of→qz,nsIn→qAK,kia_one→qAa,fnOf→qAq,keepIn→qBY,mg_of→qBy,cellsFrom_some→qB1,codeIn→qCE,codeRec_of→qC8,kitx_list→qDB,kitx_dict→qDC
open PySem renaming wpAny_bind→qD,wpAny_pure→qO,Expr→qU,sizeLine→qZ,Pos→qc,mainGlobals→qm,FuncData→qr,mem_of_lookup→qx,starEach→qAH,wpAny_field→qAV,wpAny_seqItems→qAW,wpAny_holding→qAX,wpAny_pyIter_tuple→qAg,wpAny_callSpecial?_slot→qAh,wpAny_Call_Name_kw→qAi,wpAny_truthy_bool→qAw,wpAny_pyIter_list→qAx,wpAny_isInstance→qA0,wpAny_setField_rec→qA1,codeAny_builtin→qA8,wpAny_call_entry→qBC,wpAny_passesOwn→qBL,wpAny_mono→qBN,call_meets→qBO,wpAny_tryCatch→qBP,codeAny_mono→qBX,wpAny_loadPart'→qBb,wpAny_getItem_str_slice→qBc,plainId_quiet→qBd,wpAny_standAt→qBq,wpAny_attempt→qBr,wpAny_letGo→qBx,sizeLine_eq→qCL,wpAny_execs_nil→qCS,post_val_or_str→qCT,wpAny_updateSeq_pair→qCU,isSubtype_stop→qCV,wpAny_onRaise→qCe,tupleKind_room_in1→qCf,wpAny_rule→qCj,wpAny_newObj_type→qCk,wpAny_pyIter_zip→qCr,noFill_tuple_add→qCs,wpAny_updateSeq→qC1,wpAny_newFunctionEnv_cells→qC7,wpAny_comprehension_free→qDI,typeIs_str→qDJ
open PySem.Heap renaming get?_push_of_some→qE,lt_size→qP,get?_push_size→qW,size_push→qAz,get?_none_of_le→qBK,get?_update_other→qC4,get?_update_self→qDA
open List renaming length_map→qG,getElem?_eq_getElem→qH,mem_append_right→qI,mem_cons→qJ,length_append→qK,mem_cons_of_mem→qL,getElem?_eq_some_iff→qM,mem_cons_self→qR,size_toArray→qS,map_cons→qa,getElem?_set_ne→qd,not_mem_nil→qf,getD_eq_getElem?_getD→qg,getElem?_map→qh,mem_append_left→qi,mem_append→qj,getElem?_append_left→qk,mem_singleton→ql,getElem?_append_right→qp,mem_map→qu,length_cons→qy,append_nil→qAD,all_eq_true→qAE,map_append→qAF,length_range→qAG,lookup_cons→qAI,drop_eq_getElem_cons→qAJ,length_set→qAO,mem_range→qAR,getElem?_set_self→qAT,findIdx?_eq_some_iff_getElem→qAU,map_map→qAY,take_of_length_le→qAZ,mem_filter→qAb,mem_of_getElem?→qAe,replicate_succ→qAj,any_eq_true→qAn,nodup_cons→qAs,drop_of_length_le→qAu,mem_of_mem_drop→qA2,foldl_cons→qA4,getElem?_cons_zero→qA6,any_cons→qA7,getElem_mem→qA9,drop_length→qBA,length_zip→qBD,foldl_append→qBG,flatten_cons→qBH,append_assoc→qBI,length_eq_zero_iff→qBQ,getElem?_cons_succ→qBR,forIn_cons→qBS,find?_cons→qBT,nodup_append→qBa,length_replicate→qBg,take_append_of_le_length→qBh,mem_flatMap→qBi,length_take→qBj,all_cons→qBl,of_mem_zip→qBm,map_congr_left→qBn,filterMap_cons→qBo,mem_filterMap→qBt,findIdx?_eq_none_iff→qBv,reverse_cons→qB0,getElem?_replicate→qB6,length_drop→qB8,isEmpty_iff→qB9,cons_append→qCA,map_nil→qCF,length_singleton→qCG,length_nil→qCH,getElem?_eq_none→qCI,any_map→qCJ,forIn_nil→qCQ,zip_nil_left→qCX,flatMap_cons→qCY,eraseIdxIfInBounds_toArray→qCZ,map_flatMap→qCd,nodup_nil→qCo,zipWith_cons_cons→qC2,length_pos_of_mem→qC3,all_map→qC9,length_dropLast→qDG,getElem_of_mem→qDL,getElem?_range→qDM
open Nat renaming le_refl→qN,lt_of_lt_of_le→qb,ne_of_lt→qw,le_trans→qAA,zero_le→qAQ,lt_of_le_of_lt→qAd,lt_irrefl→qAl,ne_of_gt→qAm,le_add_right→qAp,le_succ_of_le→qBJ,min_le_left→qBV,min_eq_left→qBW,le_succ→qBe,min_eq_right→qBk,add_le_add_left→qBp,le_of_lt→qBu,le_of_succ_le→qB5,add_sub_cancel_left→qB7,sub_self→qCN,pow_le_pow_right→qCP,mul_comm→qCc,mul_le_mul→qCv,not_lt→qCx,zero_add→qDE,pow_succ→qDF
open Bool renaming false_ne_true→qV,and_eq_true→qAC,false_eq_true→qAc,eq_iff_iff→qAt,true_or→qCb,false_or→qC0,or_eq_true_iff→qDN
open PySem.PyData renaming eqv→qX,depthAll→qe,canLayAll0→qAN,strOk→qAk
open Option.some renaming inj→qY
open PySem.Builtin.SmallTypes renaming nextOf→qo
open PySem.SeqAt renaming shaped→qt,canLay_of_shaped→qAS,eqv_refl→qB2,list_indexAt→qCW
open PySem.F renaming plainAttrs_list→q9,type_list_append→qAL,slot_list_append→qAM,plain_min_loop→qAf,slot_zip_next→qA5,slot_tuple_iterator_next→qBM,called_set→qBU,args_tuple_add_2→qBs,entry_tuple_add→qBz,slot_tuple_add→qB3,entry_min_loop→qB4,args_zip_next_1→qCB,slot_zip_getattribute→qCC,entry_zip_next→qCK,type_dict_update→qCg,slot_dict_update→qCh,type_list_index→qCl,slot_list_index→qCm,plainAttrs_dict→qCn,args_tuple_iterator_next_1→qCq,entry_tuple_iterator_next→qCw
open PySem.Str renaming ofString→qAB
open PySem.PassesOwn renaming never→qAP
open PySem.Around renaming under_plainId→qAo,frames_deeper→qC6
open Array renaming length_toList→qAr,size_append→qBF,getElem?_toList→qCD,toList_append→qDH
open Ne renaming symm→qAv
open PySem.Calls renaming spliced_cons→qAy,spliced_nil→qA3,Name_function_global→qCi,callWith_builtin→qCz
open PySem.Heap.SameBut renaming update→qBE
open PyProof.Rows renaming callWith_type1→qBZ
open Int renaming toNat_natCast→qBf,emod_lt_of_pos→qBw,emod_nonneg→qCO
open Sum.inr renaming inj→qCM
open PySem.Paired renaming length→qCR
open Classical renaming byContradiction→qCa
open PySem.Heap.IsTuple renaming push→qCp
open PySem.SeqAt.EqAt renaming str_int→qCt,int_str→qCu
open PySem.Heap.IsList renaming push→qCy
open PySem.Heap.DictOf renaming new→qC5
namespace L2
open PySem PySem.Spec PyProof.Rows
noncomputable abbrev Key:=Sum Int Str
noncomputable def zrj:Key->Value->Bool
 | .inl k,v=>Value.isInt k v
 | .inr x,v=>Value.isStrOf x v
noncomputable def keyH(w:World):Key->Int
 | .inl k=>hashInt k
 | .inr x=>hashStr w x
theorem zdr:∀{k:Key}{v:Value},zrj k v=true->(∃i t,k=Sum.inl i/\v=Value.int i t)\/(∃x t,k=Sum.inr x/\v=Value.str x t)
 | .inl i,v,h=>by
  obtain⟨t,e⟩:=Value.isInt_shape (k:=i) (v:=v) h
  exact .inl ⟨i,t,rfl,e⟩
 | .inr x,v,h=>by
  obtain⟨t,e⟩:=Value.isStrOf_shape (x:=x) (v:=v) h
  exact .inr ⟨x,t,rfl,e⟩
theorem zaip(i:Int)(t:Tok):zrj (.inl i) (.int i t)=true:=by simp[zrj,Value.isInt]
theorem zaiq(x:Str)(t:Tok):zrj (.inr x) (.str x t)=true:=by simp[zrj,Value.isStrOf]
theorem zavx(a b:Int):decide ((Sum.inl a:Key)=Sum.inl b)=(a==b):=by
 by_cases e:a=b
 ·subst e;simp
 ·have h:¬(Sum.inl a:Key)=Sum.inl b:=λq=>e (Sum.inl.inj q)
  rw[decide_eq_false h]
  exact(beq_eq_false_iff_ne.mpr e).symm
theorem zavy(a b:Str):decide ((Sum.inr a:Key)=Sum.inr b)=decide (a=b):=by
 by_cases e:a=b
 ·subst e;simp
 ·have h:¬(Sum.inr a:Key)=Sum.inr b:=λq=>e (qCM q)
  rw[decide_eq_false h,decide_eq_false e]
theorem zavz(a:Int)(b:Str):decide ((Sum.inl a:Key)=Sum.inr b)=false:=decide_eq_false (λq=>nomatch q)
theorem zawa(a:Str)(b:Int):decide ((Sum.inr a:Key)=Sum.inl b)=false:=decide_eq_false (λq=>nomatch q)
noncomputable def zbt(prog:Program)(w:World):PySem.KeyKind prog w Key where
 is:=zrj
 hash:=keyH w
 inj:=λv a b ha hb=>by
  rcases zdr ha with⟨i,t,rfl,rfl⟩|⟨x,t,rfl,rfl⟩
  ·rcases zdr hb with⟨j,u,rfl,e⟩|⟨y,u,rfl,e⟩
   ·injection e with e1 _;rw[e1]
   ·exact nomatch e
  ·rcases zdr hb with⟨j,u,rfl,e⟩|⟨y,u,rfl,e⟩
   ·exact nomatch e
   ·injection e with e1 _;rw[e1]
 byValue:=λk v h=>by
  rcases zdr h with⟨i,t,rfl,rfl⟩|⟨x,t,rfl,rfl⟩<;>rfl
 pyHash:=λhv h=>by
  rcases zdr hv with⟨i,t,rfl,rfl⟩|⟨x,t,rfl,rfl⟩
  ·exact wpAny_pyHash_int h
  ·exact wpAny_pyHash_str h
 eqBool:=λhu hv h=>by
  rcases zdr hu with⟨i,t,rfl,rfl⟩|⟨x,t,rfl,rfl⟩
  ·rcases zdr hv with⟨j,u,rfl,rfl⟩|⟨y,u,rfl,rfl⟩
   ·rw[zavx]at h;exact wpAny_eqBool_int h
   ·rw[zavz]at h;exact qCu i t y u _ _ _ _ h
  ·rcases zdr hv with⟨j,u,rfl,rfl⟩|⟨y,u,rfl,rfl⟩
   ·rw[zawa]at h;exact qCt x t j u _ _ _ _ h
   ·rw[zavy]at h;exact wpAny_eqBool_str h
 «strs»:=λk x t v h=>by
  rcases zdr h with⟨i,u,rfl,e⟩|⟨y,u,rfl,e⟩
  ·exact nomatch e
  ·injection e with e1 _
   subst e1
   cases v<;>rfl
theorem zaci(prog:Program)(w:World)(i:Int)(t:Tok):(zbt prog w).is (.inl i) (.int i t)=true:=zaip i t
theorem zacj(prog:Program)(w:World)(x:Str)(t:Tok):(zbt prog w).is (.inr x) (.str x t)=true:=zaiq x t
inductive V where
 | non|bl (b:Bool)|int (i:Int)|str (x:Str)|byt (b:Array UInt8)|flt (b:UInt64)|ref (a:Addr)|ty (n:String)
 deriving DecidableEq
noncomputable def RelV:V->Value->Prop
 | .non,u=>u=Value.none
 | .bl b,u=>u=Value.bool b
 | .int i,u=>∃t,u=Value.int i t
 | .str x,u=>∃t,u=Value.str x t
 | .byt b,u=>∃t,u=Value.bytes b t
 | .flt b,u=>∃t,u=Value.float b t
 | .ref a,u=>u=Value.ref a
 | .ty n,u=>u=Value.type n
noncomputable abbrev Vals:List V->List Value->Prop:=Paired RelV
theorem Vals.length{xs:List V}{us:List Value}(r:Vals xs us):xs.length=us.length:=qCR r
theorem Vals.get:∀{xs:List V}{us:List Value}{i:Nat}{x:V},Vals xs us->xs[i]?=some x->∃u,us[i]?=some u/\RelV x u
 | _,_,_,_,.nil,e=>by simp at e
 | _,_,0,_,.cons r _,e=>by simp at e;subst e;exact⟨_,rfl,r⟩
 | _,_,i+1,x,.cons _ t,e=>by
  obtain⟨u,h1,h2⟩:=Vals.get (i:=i) (x:=x) t (by simpa using e)
  exact⟨u,by simpa using h1,h2⟩
theorem Vals.set{x:V}{u:Value}(r:RelV x u):∀{xs:List V}{us:List Value}(i:Nat),Vals xs us->Vals (xs.set i x) (us.set i u)
 | _,_,_,.nil=>.nil
 | _,_,0,.cons _ t=>.cons r t
 | _,_,i+1,.cons q t=>.cons q (Vals.set r i t)
theorem Vals.append:∀{xs ys:List V}{us ws:List Value},Vals xs us->Vals ys ws->Vals (xs++ys) (us++ws)
 | _,_,_,_,.nil,s=>s
 | _,_,_,_,.cons r t,s=>.cons r (Vals.append t s)
theorem Vals.take:∀{xs:List V}{us:List Value}(n:Nat),Vals xs us->Vals (xs.take n) (us.take n)
 | _,_,0,_=>.nil
 | _,_,_+1,.nil=>.nil
 | _,_,n+1,.cons r t=>.cons r (Vals.take n t)
theorem Vals.drop:∀{xs:List V}{us:List Value}(n:Nat),Vals xs us->Vals (xs.drop n) (us.drop n)
 | _,_,0,r=>r
 | _,_,_+1,.nil=>.nil
 | _,_,n+1,.cons _ t=>Vals.drop n t
noncomputable def RelO:Option V->Option Value->Prop
 | some v,some u=>RelV v u
 | none,none=>True
 | _,_=>False
noncomputable def KV{κ:Type}:List (κ×V)->List (κ×Value)->Prop:=Paired λ(p:κ×V)(q:κ×Value)=>p.1=q.1/\RelV p.2 q.2
noncomputable def kV:Key->V
 | .inl i=>.int i
 | .inr x=>.str x
inductive HO where
  | lst (xs:List V)
  | tup (xs:List V)
  | dK (kvs:List (Key×V))|dT (kvs:List (List Key×V))
  | set (S:Int->Bool) (n:Nat)
  | ins (C dx:Addr) (fs:List (Str×V))
  | own (x:Addr)
  | xd (fs:List (Str×V))
  | met (f x:Addr)
  | rng (lo hi:Int)
  | frz (o:Obj) (u:HO)
  | tbl (ps:Array Value)
 | tabO (q:Str)
  | ext (φ:Heap->Prop)
noncomputable abbrev Hp:=Addr->Option HO
noncomputable def upd(H:Hp)(a:Addr)(o:HO):Hp:=λb=>if b=a then some o else H b
theorem zar{H:Hp}{a:Addr}{o:HO}:upd H a o a=some o:=by unfold upd;rw[if_pos rfl]
theorem zat{H:Hp}{a b:Addr}{o:HO}(h:b≠a):upd H a o b=H b:=by unfold upd;rw[if_neg h]
theorem zbad{H:Hp}{a b:Addr}{o u:HO}(h:H a=some o)(h':H b=some u)(d:o≠u):a≠b:=by
 intro e;subst e;rw[h]at h';exact d (qY h')
theorem zbe{H:Hp}{a b:Addr}{o:HO}(h:H a=some o)(h':H b=none):a≠b:=by
 intro e;subst e;rw[h]at h';cases h'
section
variable(P:Program)(w:World)
noncomputable def zes(H:Hp)(h:Heap)(a:Addr):HO->Prop
 | .lst xs=>xs.length<=qZ/\∃(its:List Value)(n:Nat),Vals xs its/\h.get? a=some {cls:=.type "list",data:=.seq its.toArray n}
 | .tup xs=>xs.length<=qZ/\∃its:List Value,Vals xs its/\IsTup h a its.toArray
 | .dK kvs=>kvs.length<=qZ/\(a==sysModules)=false/\∃vs,KV kvs vs/\h.DictOf (zbt P w) a vs
 | .dT kvs=>kvs.length<=qZ/\(a==sysModules)=false/\∃xs:List (List Key×Addr×Value),
   Paired (λ(p:List Key×V)(q:List Key×Addr×Value)=>p.1=q.1/\H q.2.1=some (.tup (p.1.map kV))/\RelV p.2 q.2.2) kvs xs/\
   ∃o es ep,h.get? a=some o/\o.ExactDict/\o.data=.dict es ep/\es.toList=xs.map (entryOfKey (tupleKind (zbt P w)))/\(xs.map (·.1)).Nodup
 | .set S n=>h.SetOf (intKind P w) a S n
 | .ins C dx fs=>H dx=some (.own a)/\fs.length<=1000/\dx≠a/\h.get? a=some (PySem.W.instObj C dx)/\
   ∃mA,h.Ns1 dx mA/\(∀f,RelO (fs.lookup f) (mA f))/\PySem.Within mA (fs.map (·.1))
 | .own _=>∃o,h.get? a=some o
 | .xd fs=>∃mA,h.Ns1 a mA/\∀f,RelO (fs.lookup f) (mA f)
 | .rng lo hi=>∃t u v,h.get? a=some {cls:=.type "range",data:=.fields #[.int lo t,.int hi u,.int 1 v]}
 | .frz o u=>h.get? a=some o/\zes H h a u
 | .tbl ps=>h.get? a=some {cls:=.none,data:=.fields ps}
 | .tabO q=>∃ps:Array Value,h.get? a=some (PySem.W.tabObj ps)/\TriplesOk ps.toList/\∀pos cv,codeAmong pos ps.toList=some cv->∃c o vs t,cv=.ref c/\c≠a/\H c=some (.frz o (.own a))/\o.data=.fields vs/\vs[1]?=some (.str q t)
 | .met f x=>h.get? a=some (PySem.W.methodObj (.ref f) (.ref x))
 | .ext φ=>φ h/\(∃o,h.get? a=some o)/\∀h1 h2:Heap,φ h1->(∀o,h1.get? a=some o->h2.get? a=some o)->φ h2
noncomputable def HOk(H:Hp)(h:Heap):Prop:=∀a o,H a=some o->zes P w H h a o
end
section
variable{P:Program}{w:World}{H H':Hp}{h h':Heap}{a:Addr}{o:HO}
theorem zes.lt(x:zes P w H h a o):a<h.objs.size:=by
 cases o with
 | lst xs=>obtain⟨_,_,_,_,e⟩:=x;exact qP e
 | tup xs=>obtain⟨_,_,_,p⟩:=x;exact p.lt
 | dK kvs=>obtain⟨_,_,_,_,o,_,_,e,_⟩:=x;exact qP e
 | dT kvs=>obtain⟨_,_,_,_,o,_,_,e,_⟩:=x;exact qP e
 | set S n=>obtain⟨o,_,_,_,e,_⟩:=x;exact qP e
 | ins C dx fs=>obtain⟨_,_,_,e,_⟩:=x;exact qP e
 | own y=>obtain⟨_,e⟩:=x;exact qP e
 | xd fs=>obtain⟨_,⟨_,_,_,e,_⟩,_⟩:=x;exact qP e
 | rng lo hi=>obtain⟨_,_,_,e⟩:=x;exact qP e
 | frz ob u=>obtain⟨e,_⟩:=x;exact qP e
 | tbl ps=>exact qP (show h.get? a=some _ from x)
 | tabO q=>obtain⟨_,e,_⟩:=x;exact qP e
 | met f y=>exact qP (show h.get? a=some _ from x)
 | ext φ=>obtain⟨_,⟨_,e⟩,_⟩:=x;exact qP e
theorem Paired.mapP{α β:Type}{F G:α->β->Prop}:∀{l₁:List α}{l₂:List β},Paired F l₁ l₂->(∀a b,F a b->G a b)->Paired G l₁ l₂
 | _,_,.nil,_=>.nil
 | _,_,.cons r t,f=>.cons (f _ _ r) (Paired.mapP t f)
theorem zes.stay(x:zes P w H h a o)(k:∀b u,(b=a\/H b=some (.own a))->h.get? b=some u->h'.get? b=some u)
  (ho:∀b,H b=some (.own a)->H' b=some (.own a)) (ht:∀b xs,H b=some (.tup xs)->H' b=some (.tup xs)) (hf:∀(b:Addr)(o':Obj),H b=some (.frz o' (.own a))->H' b=some (.frz o' (.own a)):=by first|exact λ_ _ q=>q|(intro b o' q;rw[zat (zbe q (by assumption))];exact q)|(intro b o' q;rw[zat (λz=>by subst z;simp_all)];exact q)):zes P w H' h' a o:=by
 induction o with
 | lst xs=>obtain⟨z,its,n,r,e⟩:=x;exact⟨z,its,n,r,k _ _ (.inl rfl) e⟩
 | tup xs=>obtain⟨z,its,r,ob,e,c⟩:=x;exact⟨z,its,r,ob,k _ _ (.inl rfl) e,c⟩
 | dK kvs=>obtain⟨z,y,vs,r,ob,es,ep,e,c⟩:=x;exact⟨z,y,vs,r,ob,es,ep,k _ _ (.inl rfl) e,c⟩
 | dT kvs=>
  obtain⟨z,y,xs,r,ob,es,ep,e,c⟩:=x
  exact⟨z,y,xs,Paired.mapP r λp q z=>⟨z.1,ht _ _ z.2.1,z.2.2⟩,ob,es,ep,k _ _ (.inl rfl) e,c⟩
 | set S n=>obtain⟨ob,es,ep,t,e,c⟩:=x;exact⟨ob,es,ep,t,k _ _ (.inl rfl) e,c⟩
 | ins C dx fs=>
  obtain⟨d,z,ne,e,mA,⟨od,es,ep,e2,c⟩,r⟩:=x
  exact⟨ho _ d,z,ne,k _ _ (.inl rfl) e,mA,⟨od,es,ep,k _ _ (.inr d) e2,c⟩,r⟩
 | own y=>obtain⟨ob,e⟩:=x;exact⟨ob,k _ _ (.inl rfl) e⟩
 | xd fs=>obtain⟨mA,⟨od,es,ep,e,c⟩,r⟩:=x;exact⟨mA,⟨od,es,ep,k _ _ (.inl rfl) e,c⟩,r⟩
 | rng lo hi=>obtain⟨t,u,v,e⟩:=x;exact⟨t,u,v,k _ _ (.inl rfl) e⟩
 | frz ob u ih=>obtain⟨e,q⟩:=x;exact⟨k _ _ (.inl rfl) e,ih q⟩
 | tabO q=>
  obtain⟨ps,e,t,c⟩:=x
  exact⟨ps,k _ _ (.inl rfl) e,t,λpos cv hc=>by
   obtain⟨c',o,vs,tt,e1,e2,e3,e5⟩:=c pos cv hc
   exact⟨c',o,vs,tt,e1,e2,hf _ _ e3,e5⟩⟩
 | tbl ps=>
  have e:h.get? a=some {cls:=.none,data:=.fields ps}:=x
  show h'.get? a=some {cls:=.none,data:=.fields ps}
  exact k a _ (.inl rfl) e
 | met f y=>
  have e:h.get? a=some (PySem.W.methodObj (.ref f) (.ref y)):=x
  show h'.get? a=some (PySem.W.methodObj (.ref f) (.ref y))
  exact k a _ (.inl rfl) e
 | ext φ=>obtain⟨p,⟨o,e⟩,st⟩:=x;exact⟨st _ _ p λo q=>k _ _ (.inl rfl) q,⟨o,k _ _ (.inl rfl) e⟩,st⟩
theorem HOk.lt(x:HOk P w H h)(e:H a=some o):a<h.objs.size:=(x a o e).lt
theorem HOk.fresh(x:HOk P w H h)(e:h.objs.size<=a):H a=none:=by
 cases q:H a with
 | none=>rfl
 | some u=>exact absurd (qb (x.lt q) e) (qAl _)
theorem HOk.kept(x:HOk P w H h)(k:∀b u,h.get? b=some u->h'.get? b=some u):HOk P w H h':=λa o e=>
 (x a o e).stay (λb u _ q=>k b u q) (λ_ q=>q) λ_ _ q=>q
theorem HOk.laid(x:HOk P w H h)(k:∀b u,h.get? b=some u->h'.get? b=some u)(hp:h.objs.size<=a)(new:zes P w (upd H a o) h' a o):HOk P w (upd H a o) h':=λb u e=>by
 have hn:=x.fresh hp
 by_cases hb:b=a
 ·subst hb;rw[zar]at e;cases e;exact new
 ·rw[zat hb]at e
  exact(x b u e).stay (λc v _ q=>k c v q) (λc q=>by rw[zat (zbe q hn)];exact q) λc xs q=>by rw[zat (zbe q hn)];exact q
end
noncomputable def Rd(H:Hp)(a:Addr)(u:HO):Prop:=H a=some u\/∃o,H a=some (.frz o u)
theorem Rd.ok{P:Program}{w:World}{H:Hp}{h:Heap}{a:Addr}{u:HO}(r:Rd H a u)(x:HOk P w H h):zes P w H h a u:=by
 rcases r with r|⟨o,r⟩
 ·exact x a u r
 ·obtain⟨_,q⟩:=x a _ r
  exact q
noncomputable def Mut:Option HO->Prop
 | some (.lst _)=>True
 | some (.dK _)=>True
 | some (.dT _)=>True
 | some (.set _ _)=>True
 | some (.ins _ _ _)=>True
 | some (.ext _)=>True
 | _=>False
section
variable{P:Program}{w:World}{H:Hp}{h h':Heap}{x e:Addr}{o':HO}
theorem HOk.write(ok:HOk P w H h)(mu:Mut (H x))(he:e=x\/H e=some (.own x))(k:∀b u,b≠e->h.get? b=some u->h'.get? b=some u)(heo:∃u,h'.get? e=some u)
  (new:zes P w (upd H x o') h' x o'):HOk P w (upd H x o') h':=λb u q=>by
 have nown:∀c y,H c=some (.own y)->c≠x:=λc y r z=>by subst z;rw[r]at mu;exact mu
 have ntup:∀c xs,H c=some (.tup xs)->c≠x:=λc xs r z=>by subst z;rw[r]at mu;exact mu
 have nfrz:∀c o2 u2,H c=some (.frz o2 u2)->c≠x:=λc o2 u2 r z=>by subst z;rw[r]at mu;exact mu
 by_cases hb:b=x
 ·subst hb;rw[zar]at q;cases q;exact new
 ·rw[zat hb]at q
  by_cases hbe:b=e
  ·have q':H b=some (.own x):=by
    rcases he with z|z
    ·exact absurd (hbe.trans z) hb
    ·rw[hbe];exact z
   rw[q]at q';cases q'
   obtain⟨v,hv⟩:=heo
   exact⟨v,by rw[hbe];exact hv⟩
  ·refine(ok b u q).stay (λc v hc r=>k c v ?_ r) (λc r=>by rw[zat (nown c b r)];exact r) (λc xs r=>by rw[zat (ntup c xs r)];exact r) (λc o2 r=>by rw[zat (nfrz c o2 _ r)];exact r)
   rcases hc with rfl|hc
   ·exact hbe
   ·rintro rfl
    rcases he with z|z
    ·exact nown c b hc z
    ·rw[hc]at z;cases z;exact hb rfl
end
set_option genInjectivity false in
structure Un(fs ex:List Addr)(H H':Hp)(h h':Heap):Prop where
 keep:∀b o,h.get? b=some o->H b=none->b∉fs->b∉ex->h'.get? b=some o
 slot:∀b o,h.get? b=some o->H b=none->b∈fs->b∉ex->∃sl,h'.get? b=some {o with slots:=sl}
 free:∀b o,h.get? b=some o->H b=none->b∉ex->H' b=none
 there:∀b o,h.get? b=some o->b∉ex->∃o',h'.get? b=some o'
 tups:∀b xs,H b=some (.tup xs)->H' b=some (.tup xs)
 frzs:∀b o u,H b=some (.frz o u)->H' b=some (.frz o u)
 tbls:∀b ps,H b=some (.tbl ps)->∃more,H' b=some (.tbl (ps++more))
section
variable{fs fs' ex ex':List Addr}{H H1 H2:Hp}{h h1 h2 h':Heap}{a x e:Addr}{o:HO}
theorem Un.any(u:Un fs ex H H1 h h1){b:Addr}{ob:Obj}(q:h.get? b=some ob)(n:H b=none)(hx:b∉ex):∃sl,h1.get? b=some {ob with slots:=sl}:=by
 by_cases hb:b∈fs
 ·exact u.slot b ob q n hb hx
 ·exact⟨ob.slots,u.keep b ob q n hb hx⟩
theorem Un.kept(k:∀b u,h.get? b=some u->h'.get? b=some u):Un fs ex H H h h':=
 ⟨λb ob q _ _ _=>k b ob q,λb ob q _ _ _=>⟨ob.slots,k b ob q⟩,λ_ _ _ n _=>n,λb ob q _=>⟨ob,k b ob q⟩,λ_ _ q=>q,λ_ _ _ q=>q,λ_ ps q=>⟨#[],by rw[q];simp⟩⟩
theorem Un.refl:Un fs ex H H h h:=Un.kept λ_ _ q=>q
theorem Un.laid(k:∀b u,h.get? b=some u->h'.get? b=some u)(hp:h.objs.size<=a)(hn:H a=none):Un fs ex H (upd H a o) h h' where
 keep:=λb u q _ _ _=>k b u q
 slot:=λb u q _ _ _=>⟨u.slots,k b u q⟩
 free:=λb u q n _=>by rw[zat (qw (qb (qP q) hp))];exact n
 there:=λb u q _=>⟨u,k b u q⟩
 tups:=λb xs q=>by rw[zat (zbe q hn)];exact q
 frzs:=λb u xs q=>by rw[zat (zbe q hn)];exact q
 tbls:=λb ps q=>⟨#[],by rw[zat (zbe q hn),q];simp⟩
theorem Un.write(mu:Mut (H x))(he:e=x\/H e=some (.own x))(k:∀b u,b≠e->h.get? b=some u->h'.get? b=some u)(heo:∃u,h'.get? e=some u):Un fs ex H (upd H x o) h h':=by
 have hx:∀b,H b=none->b≠x:=λb n z=>by subst z;rw[n]at mu;exact mu
 have hb:∀b,H b=none->b≠e:=λb n z=>by
  subst z
  rcases he with r|r
  ·exact hx b n r
  ·rw[n]at r;cases r
 have hm:∀b u,H b=some u->¬Mut (some u)->b≠x:=λb u q nm z=>by subst z;rw[q]at mu;exact nm mu
 refine⟨λb u q n _ _=>k b u (hb b n) q,λb u q n _ _=>⟨u.slots,k b u (hb b n) q⟩,λb u q n _=>by rw[zat (hx b n)];exact n,λb u q _=>?_,
  λb xs q=>by rw[zat (hm b _ q λz=>z)];exact q,λb u xs q=>by rw[zat (hm b _ q λz=>z)];exact q,λb ps q=>⟨#[],by rw[zat (hm b _ q λz=>z),q];simp⟩⟩
 by_cases hbe:b=e
 ·subst hbe;exact heo
 ·exact⟨u,k b u hbe q⟩
end
noncomputable def trk(h:Heap)(H:Hp):List Addr:=(List.range h.objs.size).filter λa=>(H a).isSome
noncomputable def hidT(h:Heap)(H:Hp):Heap:=PySem.W.hideAll h (trk h H)
theorem zair(h:Heap)(H:Hp):(hidT h H).objs.size=h.objs.size:=PySem.W.hideAll_size _ _
theorem zqw{h:Heap}{H:Hp}{b:Addr}{o:Obj}(e:h.get? b=some o)(n:H b=none):(hidT h H).get? b=some o:=
 PySem.W.hideAll_get _ e λhm=>by
  have q:(H b).isSome=true:=(qAb.mp hm).2
  rw[n]at q;simp at q
theorem zasa{h:Heap}{H:Hp}{b:Addr}{o:Obj}(e:(hidT h H).get? b=some o):h.get? b=some o/\H b=none:=by
 have e':h.get? b=some o:=PySem.W.of_hideAll (trk h H) e
 refine⟨e',?_⟩
 cases q:H b with
 | none=>rfl
 | some x=>
  have hm:b∈trk h H:=qAb.mpr ⟨qAR.mpr (qP e'),by simp[q]⟩
  have z:(hidT h H).get? b=none:=PySem.W.hideAll_none (trk h H) hm
  rw[z]at e;cases e
set_option genInjectivity false in
structure Mod(K:qC)(mg:Str->Option Value)(base:Heap):Prop where
 kin:K.In base
 glob:base.Ns qm mg
 blt:∃mb,base.Ns builtinsNs mb/\∀x:Str,x≠"__name__"->mb x=bootBuiltins x
 nolimit:base.NoLimit
set_option genInjectivity false in
structure Cx where
 prog:Program
 w:World
 K:qC
 mg:Str->Option Value
 base:Heap
 A:Around
 N:List Str
 s₀:Shared
 H₀:Hp
 env:Env
 outer:List Env
 stack:List Env
 ex:List Addr
 fn:Str->Bool
 calm:Bool
 pn:List (Addr×Obj)
 xe:Value->Shared->Prop
noncomputable def frs(l:List Env):List Addr:=l.filterMap (·.frame)
noncomputable abbrev Cx.fs(X:Cx):List Addr:=frs X.outer
noncomputable def Vis(sc:Scope)(x:Str):Prop:=sc.names.lookup x=some .local\/sc.names.lookup x=some .cell\/sc.names.lookup x=some .free
noncomputable def visB(sc:Scope)(x:Str):Bool:=match sc.names.lookup x with
 | some .local=>true
 | some .cell=>true
 | some .free=>true
 | _=>false
theorem visB.of{sc:Scope}{x:Str}(h:visB sc x=true):Vis sc x:=by
 unfold visB at h
 cases e:sc.names.lookup x with
 | none=>rw[e]at h;cases h
 | some k=>rw[e]at h;cases k<;>first|exact .inl e|exact .inr (.inl e)|exact .inr (.inr e)|cases h
noncomputable def Loc(sc:Scope)(x:Str):Prop:=sc.names.lookup x=some .local\/sc.names.lookup x=some .cell
noncomputable def Look(env:Env)(h:Heap)(m:Str->Option Value)(x:Str)(u:Value):Prop:=
 (env.kindOf x=some .local/\m x=some u)\/((env.kindOf x=some .cell\/env.kindOf x=some .free)/\∃c,env.cells.lookup x=some c/\h.IsCell c (some u))
set_option genInjectivity false in
structure Cx.Ok(X:Cx):Prop where
 mod:Mod X.K X.mg X.base
 kind:X.env.scope.kind=.function
 glob:X.env.globals=qm
 blt:X.env.builtins=builtinsNs
 above:X.s₀.heap.objs.size<=X.env.locals
 inj:∀x y c,X.env.cells.lookup x=some c->X.env.cells.lookup y=some c->x=y
 has:∀x,(X.env.kindOf x=some .cell\/X.env.kindOf x=some .free)->∃c,X.env.cells.lookup x=some c
 cab:∀x c,X.fn x=true->X.env.cells.lookup x=some c->X.s₀.heap.objs.size<=c
 hd:X.calm=true->X.A.handled=none
 frames:X.A.frames=some X.stack
 stk:X.stack=X.outer\/(X.stack=X.env::X.outer/\X.env.frame=some X.env.locals)
 exf:∀b∈X.ex,b≠X.env.locals/\∀x c,X.env.cells.lookup x=some c->c≠b
 bs:∀b o,X.base.get? b=some o->X.s₀.heap.get? b=some o/\X.H₀ b=none
 bsz:X.base.objs.size<=X.s₀.heap.objs.size
 noex:∀b o,X.base.get? b=some o->b∉X.ex
 exfs:∀b∈X.ex,b∉X.fs
 funs:X.s₀.heap.FunFrames X.base X.outer
 frf:∀b∈X.fs,X.H₀ b=none
set_option genInjectivity false in
structure Inv(X:Cx)(pins:List (Addr×Obj))(σ:List (Option V))(H:Hp)(s:Shared):Prop where
 ok:X.Ok
 os:s.os=X.s₀.os
 bare:AllBare s.gens
 base:Un X.fs X.ex X.H₀ H X.s₀.heap s.heap
 loc:∃m,s.heap.Ns X.env.locals m/\∀(i:Nat)(x:Str)(v:V),X.N[i]?=some x->σ[i]?=some (some v)->Vis X.env.scope x->∃u,RelV v u/\Look X.env s.heap m x u
 cell:∀x c,X.env.cells.lookup x=some c->∃v,s.heap.IsCell c v
 free:H X.env.locals=none
 freeC:∀x c,X.env.cells.lookup x=some c->H c=none
 pin:∀p∈X.pn++pins,s.heap.get? p.1=some p.2/\H p.1=none/\p.1≠X.env.locals/\p.1∉X.fs/\∀v,p.2.data≠.cell v
 hok:HOk X.prog X.w H s.heap
 len:σ.length=X.N.length
section
variable{X:Cx}{pins:List (Addr×Obj)}{σ:List (Option V)}{H H':Hp}{s:Shared}{h':Heap}
theorem Cx.Ok.nofr(ok:X.Ok){b:Addr}{o:Obj}(e:X.base.get? b=some o):b∉X.fs:=λhb=>by
 have:=(ok.funs.mem hb).1
 rw[e]at this;cases this
theorem Inv.bs(I:Inv X pins σ H s):∀b o,X.base.get? b=some o->s.heap.get? b=some o/\H b=none:=λb o e=>
 ⟨I.base.keep b o (I.ok.bs b o e).1 (I.ok.bs b o e).2 (I.ok.nofr e) (I.ok.noex b o e),I.base.free b o (I.ok.bs b o e).1 (I.ok.bs b o e).2 (I.ok.noex b o e)⟩
theorem Inv.bk(I:Inv X pins σ H s):∀b o,X.base.get? b=some o->s.heap.get? b=some o:=λb o e=>(I.bs b o e).1
theorem Inv.mod(I:Inv X pins σ H s):Mod X.K X.mg X.base:=I.ok.mod
theorem Inv.kIn(I:Inv X pins σ H s):X.K.In s.heap:=I.ok.mod.kin.keeps I.bk
theorem Inv.lt(I:Inv X pins σ H s):X.env.locals<s.heap.objs.size:=let⟨_,hn,_⟩:=I.loc;hn.lt
theorem Inv.sz(I:Inv X pins σ H s):X.s₀.heap.objs.size<=s.heap.objs.size:=qAA I.ok.above (qBu I.lt)
theorem Inv.nofs(I:Inv X pins σ H s){a:Addr}(h:s.heap.objs.size<=a):a∉X.fs:=λhb=>by
 obtain⟨_,o,ho,_⟩:=I.ok.funs.mem hb
 exact absurd (qb (qP ho) (qAA I.sz h)) (qAl _)
theorem Inv.cne(I:Inv X pins σ H s):∀x c,X.env.cells.lookup x=some c->c≠X.env.locals:=λx c e z=>by
 obtain⟨v,o,ho,hd⟩:=I.cell x c e
 obtain⟨m,⟨o',es,ep,ho',hd',_⟩,_⟩:=I.loc
 rw[z,ho']at ho;cases ho;rw[hd']at hd;cases hd
theorem Inv.funs(I:Inv X pins σ H s):s.heap.FunFrames X.base X.outer:=by
 have all:∀(l:List Env),(∀b∈frs l,b∈X.fs)->X.s₀.heap.FunFrames X.base l->s.heap.FunFrames X.base l:=by
  intro l
  induction l with
  | nil=>intro _ _;trivial
  | cons env r ih=>
   intro hs hl
   obtain⟨hk,⟨L,o,hf,hn,ho,hd⟩,hr⟩:=hl
   have hL:L∈X.fs:=hs L (by unfold frs;rw[qBo,hf];exact qR)
   obtain⟨sl,e⟩:=I.base.slot L o ho (I.ok.frf L hL) hL λz=>I.ok.exfs L z hL
   exact⟨hk,⟨L,_,hf,hn,e,hd⟩,ih (λb hb=>hs b (by unfold frs;rw[qBo,hf];exact qL _ hb)) hr⟩
 exact all X.outer (λ_ hb=>hb) I.ok.funs
theorem Inv.stack(I:Inv X pins σ H s):s.heap.FunFrames X.base X.stack:=by
 rcases I.ok.stk with e|⟨e,hf⟩
 ·rw[e];exact I.funs
 ·rw[e]
  obtain⟨m,hn,_⟩:=I.loc
  refine .cons (by rw[I.ok.kind];decide) hf hn ?_ I.funs
  exact qBK (qAA I.ok.bsz I.ok.above)
theorem Inv.stkSub(I:Inv X pins σ H s):∀b∈frs X.stack,b∈X.env.locals::X.fs:=λb hb=>by
 rcases I.ok.stk with e|⟨e,hf⟩
 ·rw[e]at hb;exact qL _ hb
 ·rw[e]at hb
  unfold frs at hb
  rw[qBo,hf]at hb
  exact hb
theorem Inv.stkFree(I:Inv X pins σ H s):∀b∈frs X.stack,H b=none:=λb hb=>by
 rcases qJ.mp (I.stkSub b hb)with e|hb
 ·rw[e];exact I.free
 ·obtain⟨_,o,ho,_⟩:=I.ok.funs.mem hb
  exact I.base.free b o ho (I.ok.frf b hb) λz=>I.ok.exfs b z hb
theorem Inv.step{g':Array GenState}{t':Nat}{d':Drawn}{ch:List Addr}(I:Inv X pins σ H s)
  (hch:∀b∈ch,(b∈X.ex\/X.s₀.heap.objs.size<=b)/\b≠X.env.locals/\(∀x c,X.env.cells.lookup x=some c->c≠b)/\∀p∈X.pn++pins,p.1≠b)
  (keep:∀b o,b≠X.env.locals->b∉X.fs->b∉ch->s.heap.get? b=some o->H b=none->h'.get? b=some o)
  (slot:∀b o,b≠X.env.locals->b∈X.fs->b∉ch->s.heap.get? b=some o->H b=none->∃sl,h'.get? b=some {o with slots:=sl}) (free:∀b o,b∉ch->s.heap.get? b=some o->H b=none->H' b=none)
  (there:∀b o,b∉ch->s.heap.get? b=some o->∃o',h'.get? b=some o')
  (tups:∀b xs,H b=some (.tup xs)->H' b=some (.tup xs))(frzs:∀b o u,H b=some (.frz o u)->H' b=some (.frz o u))(tbls:∀b ps,H b=some (.tbl ps)->∃more,H' b=some (.tbl (ps++more)))
  (ns:∀m,s.heap.Ns X.env.locals m->h'.Ns X.env.locals m)(hok:HOk X.prog X.w H' h')(hg:AllBare g') :
  Inv X pins σ H' {s with heap:=h',gens:=g',drawn:=d',toks:=t'}:=by
 have neL:∀b o,X.s₀.heap.get? b=some o->b≠X.env.locals:=λb o e=>qw (qb (qP e) I.ok.above)
 have neC:∀b o,X.s₀.heap.get? b=some o->b∉X.ex->b∉ch:=λb o e hx hb=>by
  rcases(hch b hb).1 with z|z
  ·exact hx z
  ·exact absurd (qb (qP e) z) (qAl _)
 have cellK:∀x c,X.env.cells.lookup x=some c->∀v,s.heap.IsCell c v->h'.IsCell c v:=λx c e v ⟨o,ho,hd⟩=>by
  have nch:c∉ch:=λz=>(hch c z).2.2.1 x c e rfl
  by_cases hc:c∈X.fs
  ·obtain⟨sl,q⟩:=slot c o (I.cne x c e) hc nch ho (I.freeC x c e)
   exact⟨_,q,hd⟩
  ·exact⟨o,keep c o (I.cne x c e) hc nch ho (I.freeC x c e),hd⟩
 refine⟨I.ok,I.os,hg,⟨λb o e n hb hx=>?_,λb o e n hb hx=>?_,λb o e n hx=>?_,λb o e hx=>?_,λb xs e=>tups b xs (I.base.tups b xs e),λb o xs e=>frzs b o xs (I.base.frzs b o xs e),λb ps e=>?_⟩,?_,λx c e=>?_,?_,λx c e=>?_,λp hp=>?_,hok,I.len⟩
 ·exact keep b o (neL b o e) hb (neC b o e hx) (I.base.keep b o e n hb hx) (I.base.free b o e n hx)
 ·obtain⟨sl,e1⟩:=I.base.slot b o e n hb hx
  obtain⟨sl',e2⟩:=slot b _ (neL b o e) hb (neC b o e hx) e1 (I.base.free b o e n hx)
  exact⟨sl',e2⟩
 ·obtain⟨o',e1⟩:=I.base.there b o e hx
  exact free b o' (neC b o e hx) e1 (I.base.free b o e n hx)
 ·obtain⟨o',e1⟩:=I.base.there b o e hx
  exact there b o' (neC b o e hx) e1
 ·obtain⟨m1,e1⟩:=I.base.tbls b ps e
  obtain⟨m2,e2⟩:=tbls b _ e1
  exact⟨m1++m2,by rw[e2,Array.append_assoc]⟩
 ·obtain⟨m,hn,hl⟩:=I.loc
  refine⟨m,ns m hn,λi x v e1 e2 e3=>?_⟩
  obtain⟨u,r,l⟩:=hl i x v e1 e2 e3
  refine⟨u,r,?_⟩
  rcases l with l|⟨k,c,e,z⟩
  ·exact .inl l
  ·exact .inr ⟨k,c,e,cellK x c e _ z⟩
 ·obtain⟨v,z⟩:=I.cell x c e
  exact⟨v,cellK x c e v z⟩
 ·obtain⟨m,⟨o,_,_,ho,_⟩,_⟩:=I.loc
  exact free _ o (λz=>(hch _ z).2.1 rfl) ho I.free
 ·obtain⟨v,o,ho,hd⟩:=I.cell x c e
  exact free c o (λz=>(hch c z).2.2.1 x c e rfl) ho (I.freeC x c e)
 ·obtain⟨e,n,ne,nf,d⟩:=I.pin p hp
  have nch:p.1∉ch:=λz=>(hch p.1 z).2.2.2 p hp rfl
  exact⟨keep p.1 p.2 ne nf nch e n,free p.1 p.2 nch e n,ne,nf,d⟩
theorem Inv.un{t':Nat}(I:Inv X pins σ H s)(u:Un X.fs [] H H' s.heap h')(hok:HOk X.prog X.w H' h'):Inv X pins σ H' {s with heap:=h',toks:=t'}:=by
 obtain⟨m,⟨o,es,ep,ho,r⟩,_⟩:=id I.loc
 obtain⟨sl,hL⟩:=u.any ho I.free (by simp)
 exact I.step (g':=s.gens) (d':=s.drawn) (ch:=[]) (λ_ z=>nomatch z) (λb o _ hb _ e n=>u.keep b o e n hb (by simp)) (λb o _ hb _ e n=>u.slot b o e n hb (by simp)) (λb o _ e n=>u.free b o e n (by simp)) (λb o _ e=>u.there b o e (by simp)) u.tups u.frzs u.tbls (λm' hm=>by
  obtain⟨o',es',ep',ho',r'⟩:=hm
  rw[ho]at ho';cases ho'
  exact⟨_,es',ep',hL,r'⟩) hok I.bare
theorem Inv.call{g':Array GenState}{t':Nat}{d':Drawn}{ch:List Addr}(I:Inv X pins σ H s)(u:Un (frs X.stack) ch H H' s.heap h')(hok:HOk X.prog X.w H' h')(hg:AllBare g')
  (hch:∀b∈ch,(b∈X.ex\/X.s₀.heap.objs.size<=b)/\b≠X.env.locals/\(∀x c,X.env.cells.lookup x=some c->c≠b)/\∀p∈X.pn++pins,p.1≠b) :
  Inv X pins σ H' {s with heap:=h',gens:=g',drawn:=d',toks:=t'}:=by
 obtain⟨m,⟨o,es,ep,ho,r⟩,_⟩:=id I.loc
 obtain⟨sl,hL⟩:=u.any ho I.free λz=>(hch _ z).2.1 rfl
 exact I.step (ch:=ch) hch (λb o hL hb hc e n=>u.keep b o e n (λz=>(qJ.mp (I.stkSub b z)).elim hL hb) hc) (λb o _ _ hc e n=>u.any e n hc) (λb o hc e n=>u.free b o e n hc) (λb o hc e=>u.there b o e hc) u.tups u.frzs u.tbls (λm' hm=>by
  obtain⟨o',es',ep',ho',r'⟩:=hm
  rw[ho]at ho';cases ho'
  exact⟨_,es',ep',hL,r'⟩) hok hg
theorem Inv.turned{t':Nat}{it:Addr}(I:Inv X pins σ H s)(k:∀b o,b≠it->s.heap.get? b=some o->h'.get? b=some o)(hn:H it=none)(hL:it≠X.env.locals)
  (h1:it∈X.ex\/X.s₀.heap.objs.size<=it) (h2:∀x c,X.env.cells.lookup x=some c->c≠it) (h3:∀p∈X.pn++pins,p.1≠it):Inv X pins σ H {s with heap:=h',toks:=t'}:=by
 have nit:∀b u,H b=some u->b≠it:=λb u e z=>by rw[z,hn]at e;cases e
 refine I.step (g':=s.gens) (d':=s.drawn) (ch:=[it]) (λb hb=>?_) (λb o _ _ hc e _=>k b o (λz=>hc (by simp[z])) e) (λb o _ _ hc e _=>⟨o.slots,k b o (λz=>hc (by simp[z])) e⟩) (λ_ _ _ _ n=>n)
  (λb o hc e=>⟨o,k b o (λz=>hc (by simp[z])) e⟩) (λ_ _ e=>e) (λ_ _ _ e=>e) (λb ps e=>⟨#[],by rw[e];simp⟩) (λm hm=>?_) (λb u e=>?_) I.bare
 ·have e:b=it:=by simpa using hb
  subst e
  exact⟨h1,hL,h2,h3⟩
 ·obtain⟨o,es,ep,ho,r⟩:=hm
  exact⟨o,es,ep,k _ o (qAv hL) ho,r⟩
 ·refine(I.hok b u e).stay (λc v hc q=>k c v ?_ q) (λ_ q=>q) λ_ _ q=>q
  rcases hc with z|z
  ·rw[z];exact nit b u e
  ·exact nit c _ z
theorem Inv.tok(I:Inv X pins σ H s)(t:Nat):Inv X pins σ H {s with toks:=t}:=I.un (h':=s.heap) (t':=t) Un.refl I.hok
theorem Inv.kept{t':Nat}(I:Inv X pins σ H s)(k:∀b u,s.heap.get? b=some u->h'.get? b=some u):Inv X pins σ H {s with heap:=h',toks:=t'}:=I.un (Un.kept k) (I.hok.kept k)
theorem Inv.laid{a:Addr}{o:HO}{t':Nat}(I:Inv X pins σ H s)(k:∀b u,s.heap.get? b=some u->h'.get? b=some u)(hp:s.heap.objs.size<=a)(new:zes X.prog X.w (upd H a o) h' a o) :
  Inv X pins σ (upd H a o) {s with heap:=h',toks:=t'}:=I.un (Un.laid k hp (I.hok.fresh hp)) (I.hok.laid k hp new)
theorem Inv.write{x e:Addr}{o:HO}{t':Nat}(I:Inv X pins σ H s)(mu:Mut (H x))(he:e=x\/H e=some (.own x))(k:∀b u,b≠e->s.heap.get? b=some u->h'.get? b=some u)(heo:∃u,h'.get? e=some u)
  (new:zes X.prog X.w (upd H x o) h' x o):Inv X pins σ (upd H x o) {s with heap:=h',toks:=t'}:=I.un (Un.write mu he k heo) (I.hok.write mu he k heo new)
theorem Inv.pins_of{pins':List (Addr×Obj)}(I:Inv X pins σ H s)(h:∀p∈pins',s.heap.get? p.1=some p.2/\H p.1=none/\p.1≠X.env.locals/\p.1∉X.fs/\∀v,p.2.data≠.cell v):Inv X pins' σ H s:=
 ⟨I.ok,I.os,I.bare,I.base,I.loc,I.cell,I.free,I.freeC,λp hp=>(qj.mp hp).elim (λz=>I.pin p (qi _ z)) (h p),I.hok,I.len⟩
theorem zaeu{N:List Str}(hN:N.Nodup){i j:Nat}{x:Str}(a:N[i]?=some x)(b:N[j]?=some x):i=j:=by
 obtain⟨h1,e1⟩:=qM.mp a
 obtain⟨h2,e2⟩:=qM.mp b
 exact(List.getElem_inj hN).mp (e1.trans e2.symm)
theorem zyx{M:Model}{A:Around}{E:Value->Shared->Prop}{i:Nat}{x:Str}{v:V}{u:Value}{Q:Unit->Shared->Prop}(I:Inv X pins σ H s)(hN:X.N.Nodup)(hi:X.N[i]?=some x)(hx:Loc X.env.scope x)(r:RelV v u)
  (h:∀s',Inv X pins (σ.set i (some v)) H s'->(∃a,Heap.SameBut a s.heap s'.heap/\(a=X.env.locals\/X.env.cells.lookup x=some a))->Q () s') (hf:X.fn x=true\/X.env.scope.names.lookup x=some .local:=by assumption):wpAny M A (storeName X.env x u) Q E s:=by
 obtain⟨m,hn,hl⟩:=id I.loc
 have hcls:(X.env.scope.kind==.class||(X.env.scope.kind==.module&&X.env.locals != X.env.globals))=false:=by rw[I.ok.kind];rfl
 have hiσ:i<σ.length:=by rw[I.len];exact(qM.mp hi).1
 have cne:=I.cne
 have tracked:∀{a:Addr}{h':Heap},(∃o,s.heap.get? a=some o/\H a=none)->Heap.SameBut a s.heap h'->HOk X.prog X.w H h':=λ{a h'} ha hs b ob e=>by
  obtain⟨_,_,hfree⟩:=ha
  refine(I.hok b ob e).stay (λc w' hc q=>(hs.2 c ?_).trans q) (λ_ q=>q) λ_ _ q=>q
  rintro rfl
  rcases hc with rfl|hc
  ·rw[hfree]at e;cases e
  ·rw[hfree]at hc;cases hc
 rcases hx with hk|hk
 ·refine wpAny_storeName_local hk hn (λh' hn' hs=>?_) hcls
  obtain⟨oL,_,_,hoL,_⟩:=id hn
  refine h _ ⟨I.ok,I.os,I.bare,⟨λb o e n hb hx=>?_,λb o e n hb hx=>?_,I.base.free,λb o e hx=>?_,I.base.tups,I.base.frzs,I.base.tbls⟩,⟨_,hn',λj y v' e1 e2 e3=>?_⟩,λy c e=>?_,I.free,I.freeC,λp hp=>?_,tracked ⟨oL,hoL,I.free⟩ hs,by simpa using I.len⟩ ⟨_,hs,.inl rfl⟩
  ·exact(hs.2 b (qw (qb (qP e) I.ok.above))).trans (I.base.keep b o e n hb hx)
  ·obtain⟨sl,e1⟩:=I.base.slot b o e n hb hx
   exact⟨sl,(hs.2 b (qw (qb (qP e) I.ok.above))).trans e1⟩
  ·obtain⟨o',e1⟩:=I.base.there b o e hx
   exact⟨o',(hs.2 b (qw (qb (qP e) I.ok.above))).trans e1⟩
  ·by_cases hj:j=i
   ·subst hj
    rw[hi]at e1;cases e1
    rw[qAT hiσ]at e2
    cases e2
    exact⟨u,r,.inl ⟨hk,by simp⟩⟩
   ·rw[qd (qAv hj)]at e2
    obtain⟨u',r',q⟩:=hl j y v' e1 e2 e3
    refine⟨u',r',?_⟩
    rcases q with⟨k,e⟩|⟨k,c,e,z⟩
    ·refine .inl ⟨k,?_⟩
     have:y≠x:=λe=>hj (zaeu hN e1 (e▸hi))
     simp[this,e]
    ·exact .inr ⟨k,c,e,z.sameBut hs (cne y c e)⟩
  ·obtain⟨w',z⟩:=I.cell y c e
   exact⟨w',z.sameBut hs (cne y c e)⟩
  ·obtain⟨e,n,ne,nf,d⟩:=I.pin p hp
   exact⟨(hs.2 p.1 ne).trans e,n,ne,nf,d⟩
 ·have hfn:X.fn x=true:=by
   rcases hf with z|z
   ·exact z
   ·rw[z]at hk;cases hk
  obtain⟨c,hc⟩:=I.ok.has x (.inl hk)
  obtain⟨w',z⟩:=I.cell x c hc
  refine wpAny_storeName_cell I.ok.kind hk hc z (λh' hc' hs=>?_)
  obtain⟨oc,hoc,hocd⟩:=id z
  refine h {s with heap:=h'} ⟨I.ok,I.os,I.bare,⟨λb o e n hb hx=>?_,λb o e n hb hx=>?_,I.base.free,λb o e hx=>?_,I.base.tups,I.base.frzs,I.base.tbls⟩,⟨m,hn.sameBut hs (qAv (cne x c hc)),λj y v' e1 e2 e3=>?_⟩,λy c' e=>?_,I.free,I.freeC,λp hp=>?_,tracked ⟨oc,hoc,I.freeC x c hc⟩ hs,by simpa using I.len⟩ ⟨c,hs,.inr hc⟩
  ·exact(hs.2 b (qw (qb (qP e) (I.ok.cab x c hfn hc)))).trans (I.base.keep b o e n hb hx)
  ·obtain⟨sl,e1⟩:=I.base.slot b o e n hb hx
   exact⟨sl,(hs.2 b (qw (qb (qP e) (I.ok.cab x c hfn hc)))).trans e1⟩
  ·obtain⟨o',e1⟩:=I.base.there b o e hx
   exact⟨o',(hs.2 b (qw (qb (qP e) (I.ok.cab x c hfn hc)))).trans e1⟩
  ·by_cases hj:j=i
   ·subst hj
    rw[hi]at e1;cases e1
    rw[qAT hiσ]at e2
    cases e2
    exact⟨u,r,.inr ⟨.inl hk,c,hc,hc'⟩⟩
   ·rw[qd (qAv hj)]at e2
    obtain⟨u',r',q⟩:=hl j y v' e1 e2 e3
    refine⟨u',r',?_⟩
    rcases q with q|⟨k,c',e,z'⟩
    ·exact .inl q
    ·refine .inr ⟨k,c',e,z'.sameBut hs ?_⟩
     rintro rfl
     exact hj (zaeu hN e1 (I.ok.inj _ _ _ e hc▸hi))
  ·by_cases hcc:c'=c
   ·subst hcc;exact⟨_,hc'⟩
   ·obtain⟨w2,z2⟩:=I.cell y c' e
    exact⟨w2,z2.sameBut hs hcc⟩
  ·obtain⟨e,n,ne,nf,d⟩:=I.pin p hp
   refine⟨(hs.2 p.1 ?_).trans e,n,ne,nf,d⟩
   intro q
   rw[q,hoc]at e
   have q':oc=p.2:=qY e
   exact d w' (by rw[<- q'];exact hocd)
theorem zaev{M:Model}{A:Around}{E:Value->Shared->Prop}{i:Nat}{x:Str}{v:V}{u:Value}{Q:Unit->Shared->Prop}(I:Inv X pins σ H s)(hN:X.N.Nodup)(hi:X.N[i]?=some x)(hx:Loc X.env.scope x)(r:RelV v u)
  (h:∀s',Inv X pins (σ.set i (some v)) H s'->Q () s') (hf:X.fn x=true\/X.env.scope.names.lookup x=some .local:=by assumption):wpAny M A (storeName X.env x u) Q E s:=
 zyx I hN hi hx r (λs' I' _=>h s' I') hf
end
noncomputable abbrev XK:=Value->Option Addr->Hp->Prop
noncomputable abbrev St:=List (Option V)
noncomputable abbrev VK:=V->Hp->Prop
noncomputable abbrev TE:=St->Hp->VK->Prop
noncomputable abbrev TT:=St->Hp->(Bool->Hp->Prop)->Prop
noncomputable abbrev TA:=St->Hp->(List V->Hp->Prop)->Prop
set_option genInjectivity false in
structure Ends where
 nx:St->Hp->Prop
 rt:VK
 bk:St->Hp->Prop:=λ_ _=>False
 ct:St->Hp->Prop:=λ_ _=>False
noncomputable abbrev TS:=Ends->St->Hp->Prop
noncomputable def EP(X:Cx)(pins:List (Addr×Obj))(σ:St)(Q:VK)(u:Value)(s':Shared):Prop:=∃v H',Inv X pins σ H' s'/\RelV v u/\Q v H'
noncomputable def TP(X:Cx)(pins:List (Addr×Obj))(σ:St)(Q:Bool->Hp->Prop)(b:Bool)(s':Shared):Prop:=∃H',Inv X pins σ H' s'/\Q b H'
noncomputable def AP(X:Cx)(pins:List (Addr×Obj))(σ:St)(Q:List V->Hp->Prop)(us:List Value)(s':Shared):Prop:=∃vs H',Inv X pins σ H' s'/\Vals vs us/\Q vs H'
noncomputable def SP(X:Cx)(pins:List (Addr×Obj))(D:Ends)(f:Flow)(s':Shared):Prop:=
 match f with
 | .next=>∃σ' H',Inv X pins σ' H' s'/\D.nx σ' H'
 | .brk=>∃σ' H',Inv X pins σ' H' s'/\D.bk σ' H'
 | .cont=>∃σ' H',Inv X pins σ' H' s'/\D.ct σ' H'
 | .ret u=>∃v σ' H',Inv X pins σ' H' s'/\RelV v u/\D.rt v H'
noncomputable def PE(X:Cx)(e:Expr)(t:TE):Prop:=
 ∀(pins:List (Addr×Obj))(s:Shared)(σ:St)(H:Hp)(Q:VK),Inv X pins σ H s->t σ H Q->wpAny (model X.prog X.w) X.A (eval e X.env) (EP X pins σ Q) X.xe s
noncomputable def PT(X:Cx)(e:Expr)(t:TT):Prop:=
 ∀(pins:List (Addr×Obj))(s:Shared)(σ:St)(H:Hp)(Q:Bool->Hp->Prop),Inv X pins σ H s->t σ H Q->wpAny (model X.prog X.w) X.A (isTrue e X.env (eval e X.env)) (TP X pins σ Q) X.xe s
noncomputable def PW(X:Cx)(e:Expr)(t:TT):Prop:=
 ∀(whole:Sem Value)(pins:List (Addr×Obj))(s:Shared)(σ:St)(H:Hp)(Q:Bool->Hp->Prop),Inv X pins σ H s->t σ H Q->wpAny (model X.prog X.w) X.A (isTrue e X.env whole) (TP X pins σ Q) X.xe s
theorem PW.pt{X:Cx}{e:Expr}{t:TT}(h:PW X e t):PT X e t:=h _
noncomputable def PA(X:Cx)(es:List Expr)(t:TA):Prop:=
 ∀(pos:Pos)(pins:List (Addr×Obj))(s:Shared)(σ:St)(H:Hp)(Q:List V->Hp->Prop),Inv X pins σ H s->t σ H Q->wpAny (model X.prog X.w) X.A (spliced (backTo pos (starEach es X.env))) (AP X pins σ Q) X.xe s
noncomputable def PS(X:Cx)(st:Stmt)(t:TS):Prop:=
 ∀(pins:List (Addr×Obj))(s:Shared)(σ:St)(H:Hp)(D:Ends),Inv X pins σ H s->t D σ H->wpAny (model X.prog X.w) X.A (exec st X.env) (SP X pins D) X.xe s
noncomputable def PSs(X:Cx)(st:List Stmt)(t:TS):Prop:=
 ∀(pins:List (Addr×Obj))(s:Shared)(σ:St)(H:Hp)(D:Ends),Inv X pins σ H s->t D σ H->wpAny (model X.prog X.w) X.A (execs st X.env) (SP X pins D) X.xe s
theorem thn{α:Type}{t:Sem α}{Q Q':α->Shared->Prop}{M:Model}{A:Around}{E:Value->Shared->Prop}{s:Shared}(h:wpAny M A t Q E s)(hQ:∀a s,Q a s->Q' a s):wpAny M A t Q' E s:=qBN h hQ λ_ _ x=>x
section
variable{X:Cx}
theorem bin{a b:Expr}{ta tb:TE}(ha:PE X a ta)(hb:PE X b tb){pins:List (Addr×Obj)}{s:Shared}{σ:St}{H:Hp}{R:V->V->Hp->Prop}(I:Inv X pins σ H s)(h:ta σ H λx H1=>tb σ H1 λy H2=>R x y H2)
  {α:Type}{Q:α->Shared->Prop}{f:Value->Value->Sem α}
  (hf:∀v u s2 x y H2,Inv X pins σ H2 s2->RelV x v->RelV y u->R x y H2->wpAny (model X.prog X.w) X.A (f v u) Q X.xe s2) :
  wpAny (model X.prog X.w) X.A (eval a X.env) (λv s₁=>wpAny (model X.prog X.w) X.A (eval b X.env) (λu s₂=>wpAny (model X.prog X.w) X.A (f v u) Q X.xe s₂) X.xe s₁) X.xe s:=by
 refine thn (ha pins s σ H _ I h) λv s1 ⟨x,H1,I1,r1,q1⟩=>?_
 refine thn (hb pins s1 σ H1 _ I1 q1) λu s2 ⟨y,H2,I2,r2,q2⟩=>?_
 exact hf v u s2 x y H2 I2 r1 r2 q2
noncomputable def tVar(i:Nat):TE:=λσ H Q=>∃v,σ[i]?=some (some v)/\Q v H
noncomputable def tC(v:V):TE:=λ_ H Q=>Q v H
theorem zawb{i:Nat}{x:Str}{pos:Pos}(hN:X.N[i]?=some x)(hv:Vis X.env.scope x)(hd:(x==("__debug__":Str))=false:=by decide)(hcd:(x==("__classdict__":Str))=false:=by decide):PE X (.Name x pos) (tVar i):=by
 intro pins s σ H Q I h
 obtain⟨v,e,h⟩:=h
 obtain⟨m,hn,hl⟩:=I.loc
 obtain⟨u,r,l⟩:=hl i x v hN e hv
 have fin:EP X pins σ Q u s:=⟨v,H,I,r,h⟩
 rcases l with⟨hk,hm⟩|⟨hk,c,hc,hcell⟩
 ·exact wpAny_Name (wpAny_loadName_local I.ok.kind hk hn hm fin) hd
 ·rcases hk with hk|hk
  ·exact wpAny_Name (wpAny_loadName_cell I.ok.kind hk hc hcell fin) hd
  ·exact wpAny_Name (wpAny_loadName_free I.ok.kind hk hc hcell fin hcd) hd
theorem zawc{i j pos}:PE X (.Constant (.int i) j pos) (tC (.int i)):=λ_ _ _ H _ I h=>wpAny_Constant_int ⟨.int i,H,I.tok _,⟨_,rfl⟩,h⟩
theorem zbae{b j pos}:PE X (.Constant (.bool b) j pos) (tC (.bl b)):=λ_ _ _ H _ I h=>Constant_bool ⟨.bl b,H,I,rfl,h⟩
theorem zawd{j pos}:PE X (.Constant .none j pos) (tC .non):=λ_ _ _ H _ I h=>Constant_none ⟨.non,H,I,rfl,h⟩
theorem zawe{x j pos}:PE X (.Constant (.str x) j pos) (tC (.str x)):=λ_ _ _ H _ I h=>Calls.Constant_str ⟨.str x,H,I.tok _,⟨_,rfl⟩,h⟩
noncomputable def Gl(X:Cx)(x:Str):Prop:=X.env.kindOf x=some .globalImplicit
theorem zasb{E:Value->Shared->Prop}{pins:List (Addr×Obj)}{s:Shared}{σ:St}{H:Hp}{x:Str}{u:Value}{pos:Pos}{Q:Value->Shared->Prop}(I:Inv X pins σ H s)(hg:Gl X x)(hm:X.mg x=some u)(h:Q u s)
  (hd:(x==("__debug__":Str))=false:=by decide):wpAny (model X.prog X.w) X.A (eval (.Name x pos) X.env) Q E s:=
 qCi I.ok.kind hg (Calls.loadGlobal_global (by rw[I.ok.glob];exact I.mod.glob.keeps I.bk) hm h) hd
theorem zia{E:Value->Shared->Prop}{pins:List (Addr×Obj)}{s:Shared}{σ:St}{H:Hp}{x:Str}{u:Value}{pos:Pos}{Q:Value->Shared->Prop}(I:Inv X pins σ H s)(hg:Gl X x)(hm:X.mg x=none)(hv:bootBuiltins x=some u)(h:Q u s)
  (hn:x≠"__name__":=by decide) (hd:(x==("__debug__":Str))=false:=by decide):wpAny (model X.prog X.w) X.A (eval (.Name x pos) X.env) Q E s:=by
 obtain⟨mb,h1,h2⟩:=I.mod.blt
 exact qCi I.ok.kind hg (Calls.loadGlobal_builtin (by rw[I.ok.glob];exact I.mod.glob.keeps I.bk) hm (by rw[I.ok.blt];exact h1.keeps I.bk) ((h2 x hn).trans hv) h) hd
theorem zasc{x:Str}{v:V}{u:Value}{pos:Pos}(hg:Gl X x)(hm:X.mg x=none)(hv:bootBuiltins x=some u)(r:RelV v u)(hn:x≠"__name__":=by decide)(hd:(x==("__debug__":Str))=false:=by decide):PE X (.Name x pos) (tC v):=
 λ_ _ _ H _ I h=>zia I hg hm hv ⟨v,H,I,r,h⟩ hn hd
variable{a b:Expr}{ta tb:TE}{pos:Pos}
noncomputable def PC(X:Cx)(op:CmpOp)(a b:Expr)(t:TE):Prop:=
 ∀(pins:List (Addr×Obj))(s:Shared)(σ:St)(H:Hp)(Q:VK),Inv X pins σ H s->t σ H Q->
  wpAny (model X.prog X.w) X.A (eval a X.env) (λv s₁=>wpAny (model X.prog X.w) X.A (eval b X.env) (λu s₂=>wpAny (model X.prog X.w) X.A (compareOp op v u) (EP X pins σ Q) X.xe s₂) X.xe s₁) X.xe s
theorem zanh(b:Expr){op:CmpOp}(h:op≠.In)(h2:op≠.NotIn):behindInMarks op b=false:=by
 have e1:(op==CmpOp.In)=false:=by cases op<;>first|rfl|exact absurd rfl h
 have e2:(op==CmpOp.NotIn)=false:=by cases op<;>first|rfl|exact absurd rfl h2
 cases b<;>simp[behindInMarks,e1,e2]
noncomputable def tIsN(ta:TE):TE:=λσ H Q=>ta σ H λx H1=>Q (.bl (decide (x=.non))) H1
theorem RelV.none_iff{x:V}{v:Value}(r:RelV x v):(v==Value.none)=decide (x=.non):=by
 cases x with
 | non=>cases r;rfl
 | bl _=>cases r;rfl
 | int _=>obtain⟨t,rfl⟩:=r;rfl
 | str _=>obtain⟨t,rfl⟩:=r;rfl
 | byt _=>obtain⟨t,rfl⟩:=r;rfl
 | flt _=>obtain⟨t,rfl⟩:=r;rfl
 | ref _=>cases r;rfl
 | ty _=>cases r;rfl
theorem zawf{j pos'}(ha:PE X a ta):PC X .Is a (.Constant .none j pos') (tIsN ta):=by
 intro pins s σ H Q I h
 refine thn (ha pins s σ H _ I h) λv s1 ⟨x,H1,I1,r1,q1⟩=>?_
 exact Constant_none (is_none_gen ⟨.bl _,H1,I1,by rw[r1.none_iff];rfl,q1⟩)
noncomputable def tB(t:TE):TT:=λσ H Q=>t σ H λx H1=>∃c,x=.bl c/\Q c H1
theorem zawg{op:CmpOp}{t:TE}(h:PC X op a b t)(h1:behindInMarks op b=false:=by rfl):PE X (.Compare a [op] [b] pos) t:=λpins s σ H Q I hw=>wpAny_Compare1 (h pins s σ H Q I hw) h1
theorem zawh{op:CmpOp}{t:TE}(h:PC X op a b t)(h1:behindInMarks op b=false:=by rfl):PT X (.Compare a [op] [b] pos) (tB t):=by
 intro pins s σ H Q I hw
 refine wpAny_isTrue_Compare1 (thn (h pins s σ H _ I hw) λv s1 h1=>thn h1 λu s2 h2=>thn h2 λc s3 ⟨x,H1,I1,r1,q1⟩=>?_) h1
 obtain⟨d,rfl,q⟩:=q1
 cases r1
 exact qAw ⟨H1,I1,q⟩
variable{tA tB':TT}{rest:List Expr}
noncomputable def tAnd(t u:TT):TT:=λσ H Q=>t σ H λc H1=>if c=true then u σ H1 Q else Q false H1
noncomputable def tOr(t u:TT):TT:=λσ H Q=>t σ H λc H1=>if c=true then Q true H1 else u σ H1 Q
noncomputable def tNot(t:TT):TT:=λσ H Q=>t σ H λc H1=>Q (!c) H1
theorem zasd(ha:PT X a tA):PW X (.BoolOp .And [a] pos) tA:=by
 intro wh pins s σ H Q I h
 refine isTrue_and (thn (ha pins s σ H Q I h) λc s1 e=>?_)
 cases c with
 | true=>exact isTrue_and_nil e
 | false=>exact e
theorem zawi(ha:PT X a tA):PW X (.BoolOp .Or [a] pos) tA:=by
 intro wh pins s σ H Q I h
 refine isTrue_or (thn (ha pins s σ H Q I h) λc s1 e=>?_)
 cases c with
 | false=>exact isTrue_or_nil e
 | true=>exact e
theorem zawj(ha:PT X a tA)(hb:PW X (.BoolOp .And (b::rest) pos) tB'):PW X (.BoolOp .And (a::b::rest) pos) (tAnd tA tB'):=by
 intro wh pins s σ H Q I h
 refine isTrue_and (thn (ha pins s σ H _ I h) λc s1 ⟨H1,I1,q1⟩=>?_)
 cases c with
 | true=>exact hb wh pins s1 σ H1 Q I1 q1
 | false=>exact⟨H1,I1,q1⟩
theorem zbaf(ha:PT X a tA)(hb:PW X (.BoolOp .Or (b::rest) pos) tB'):PW X (.BoolOp .Or (a::b::rest) pos) (tOr tA tB'):=by
 intro wh pins s σ H Q I h
 refine isTrue_or (thn (ha pins s σ H _ I h) λc s1 ⟨H1,I1,q1⟩=>?_)
 cases c with
 | true=>exact⟨H1,I1,q1⟩
 | false=>exact hb wh pins s1 σ H1 Q I1 q1
theorem zawk(ha:PT X a tA):PT X (.UnaryOp .Not a pos) (tNot tA):=by
 intro pins s σ H Q I h
 exact isTrue_not (ha pins s σ H (λc H1=>Q (!c) H1) I h)
noncomputable def tAndV(ta tb:TE):TE:=λσ H Q=>ta σ H λx H1=>∃c,x=.bl c/\if c=true then tb σ H1 Q else Q (.bl false) H1
noncomputable def tNotV(ta:TE):TE:=λσ H Q=>ta σ H λx H1=>∃c,x=.bl c/\Q (.bl (!c)) H1
theorem zawl{op}{t:TE}(h:PE X a t):PE X (.BoolOp op [a] pos) t:=λpins s σ H Q I hw=>BoolOp_one (h pins s σ H Q I hw)
theorem zawm(ha:PE X a ta)(hb:PE X (.BoolOp .And (b::rest) pos) tb):PE X (.BoolOp .And (a::b::rest) pos) (tAndV ta tb):=by
 intro pins s σ H Q I h
 refine BoolOp_and (thn (ha pins s σ H _ I h) λv s1 ⟨x,H1,I1,r1,q1⟩=>?_)
 obtain⟨c,rfl,q1⟩:=q1
 cases r1
 refine qAw ?_
 cases c with
 | true=>exact hb pins s1 σ H1 Q I1 q1
 | false=>exact⟨.bl false,H1,I1,rfl,q1⟩
theorem zawn(ha:PE X a ta):PE X (.UnaryOp .Not a pos) (tNotV ta):=by
 intro pins s σ H Q I h
 refine UnaryOp_ (thn (ha pins s σ H _ I h) λv s1 ⟨x,H1,I1,r1,q1⟩=>?_)
 obtain⟨c,rfl,q1⟩:=q1
 cases r1
 exact not_of (qAw ⟨.bl (!c),H1,I1,rfl,q1⟩)
end
noncomputable def SqL(K:qC)(H:Hp)(a:Addr)(xs:List V):Prop:=
 Rd H a (.lst xs)\/
  ∃(o:Obj)(its:Array Value)(n:Nat),K.lookup a=some o/\o.cls=.type "list"/\o.dict=none/\o.data=.seq its n/\its.size<=qZ/\Vals xs its.toList
noncomputable def SqT(K:qC)(H:Hp)(a:Addr)(xs:List V):Prop:=
 Rd H a (.tup xs)\/
  ∃(o:Obj)(its:Array Value)(n:Nat),K.lookup a=some o/\o.cls=.type "tuple"/\o.data=.seq its n/\its.size<=qZ/\Vals xs its.toList
noncomputable def absV:Value->Option V
 | .none=>some .non
 | .bool b=>some (.bl b)
 | .int i _=>some (.int i)
 | .str x _=>some (.str x)
 | .bytes b _=>some (.byt b)
 | .float b _=>some (.flt b)
 | .ref a=>some (.ref a)
 | .type n=>some (.ty n)
 | _=>none
theorem RelV.abs{x:V}{u:Value}(r:RelV x u):absV u=some x:=by
 cases x with
 | non=>cases r;rfl
 | bl _=>cases r;rfl
 | int _=>obtain⟨t,rfl⟩:=r;rfl
 | str _=>obtain⟨t,rfl⟩:=r;rfl
 | byt _=>obtain⟨t,rfl⟩:=r;rfl
 | flt _=>obtain⟨t,rfl⟩:=r;rfl
 | ref _=>cases r;rfl
 | ty _=>cases r;rfl
theorem RelV.inj{x y:V}{u:Value}(r:RelV x u)(q:RelV y u):x=y:=qY (r.abs.symm.trans q.abs)
theorem Vals.inj:∀{xs ys:List V}{us:List Value},Vals xs us->Vals ys us->xs=ys
 | _,_,_,.nil,.nil=>rfl
 | _,_,_,.cons r t,.cons r' t'=>by rw[r.inj r',Vals.inj t t']
section
variable{X:Cx}{pins:List (Addr×Obj)}{σ:St}{H:Hp}{s:Shared}{a:Addr}{xs ys:List V}
theorem SqL.of{K:qC}(h:H a=some (.lst xs)):SqL K H a xs:=.inl (.inl h)
theorem SqT.of{K:qC}(h:H a=some (.tup xs)):SqT K H a xs:=.inl (.inl h)
theorem Inv.list(I:Inv X pins σ H s)(h:SqL X.K H a xs):∃its:List Value,Vals xs its/\PlainL s.heap a its.toArray/\xs.length<=qZ:=by
 rcases h with h|⟨o,its,n,hk,hc,hd,hs,hz,r⟩
 ·obtain⟨z,its,n,r,e⟩:=h.ok I.hok
  exact⟨its,r,⟨_,n,e,rfl,rfl,rfl⟩,z⟩
 ·refine⟨its.toList,r,⟨o,n,I.kIn a o hk,hc,hd,by simpa using hs⟩,?_⟩
  have e:=r.length
  simp only[qAr]at e
  omega
theorem Inv.tuple(I:Inv X pins σ H s)(h:SqT X.K H a xs):∃its:List Value,Vals xs its/\IsTup s.heap a its.toArray/\xs.length<=qZ:=by
 rcases h with h|⟨o,its,n,hk,hc,hs,hz,r⟩
 ·obtain⟨z,its,r,p⟩:=h.ok I.hok
  exact⟨its,r,p,z⟩
 ·refine⟨its.toList,r,⟨o,I.kIn a o hk,hc,n,by simpa using hs⟩,?_⟩
  have e:=r.length
  simp only[qAr]at e
  omega
theorem Inv.list_inj(I:Inv X pins σ H s)(h:SqL X.K H a xs)(h':SqL X.K H a ys):xs=ys:=by
 obtain⟨its,r,⟨o,n,e,_,_,d⟩,_⟩:=I.list h
 obtain⟨its',r',⟨o',n',e',_,_,d'⟩,_⟩:=I.list h'
 rw[e]at e';cases e'
 rw[d]at d'
 injection d' with d1 _
 have:its=its':=by simpa using congrArg Array.toList d1
 subst this
 exact r.inj r'
theorem Inv.tuple_inj(I:Inv X pins σ H s)(h:SqT X.K H a xs)(h':SqT X.K H a ys):xs=ys:=by
 obtain⟨its,r,⟨o,e,_,n,d⟩,_⟩:=I.tuple h
 obtain⟨its',r',⟨o',e',_,n',d'⟩,_⟩:=I.tuple h'
 rw[e]at e';cases e'
 rw[d]at d'
 injection d' with d1 _
 have:its=its':=by simpa using congrArg Array.toList d1
 subst this
 exact r.inj r'
end
noncomputable abbrev Cx.wish(X:Cx)(E:Value->Shared->Prop):Cx:={X with xe:=E}
noncomputable abbrev Cx.nox(X:Cx):Cx:=X.wish λ_ _=>False
theorem Cx.Ok.wish{X:Cx}(ok:X.Ok)(E:Value->Shared->Prop):(X.wish E).Ok:=
 ⟨ok.mod,ok.kind,ok.glob,ok.blt,ok.above,ok.inj,ok.has,ok.cab,ok.hd,ok.frames,ok.stk,ok.exf,ok.bs,ok.bsz,ok.noex,ok.exfs,ok.funs,ok.frf⟩
theorem Cx.Ok.unwish{X:Cx}{E:Value->Shared->Prop}(ok:(X.wish E).Ok):X.Ok:=
 ⟨ok.mod,ok.kind,ok.glob,ok.blt,ok.above,ok.inj,ok.has,ok.cab,ok.hd,ok.frames,ok.stk,ok.exf,ok.bs,ok.bsz,ok.noex,ok.exfs,ok.funs,ok.frf⟩
section
variable{X:Cx}{pins:List (Addr×Obj)}{σ:St}{H:Hp}{s:Shared}{E:Value->Shared->Prop}
theorem Inv.wish(I:Inv X pins σ H s)(E:Value->Shared->Prop):Inv (X.wish E) pins σ H s:=⟨I.ok.wish E,I.os,I.bare,I.base,I.loc,I.cell,I.free,I.freeC,I.pin,I.hok,I.len⟩
theorem Inv.unwish(I:Inv (X.wish E) pins σ H s):Inv X pins σ H s:=⟨I.ok.unwish,I.os,I.bare,I.base,I.loc,I.cell,I.free,I.freeC,I.pin,I.hok,I.len⟩
theorem SP.unwish{D:Ends}{f:Flow}{s':Shared}(h:SP (X.wish E) pins D f s'):SP X pins D f s':=by
 cases f with
 | next=>obtain⟨σ',H',I,q⟩:=h;exact⟨σ',H',I.unwish,q⟩
 | brk=>obtain⟨σ',H',I,q⟩:=h;exact⟨σ',H',I.unwish,q⟩
 | cont=>obtain⟨σ',H',I,q⟩:=h;exact⟨σ',H',I.unwish,q⟩
 | ret u=>obtain⟨v,σ',H',I,r,q⟩:=h;exact⟨v,σ',H',I.unwish,r,q⟩
theorem PSs.nox{st:List Stmt}{t:TS}(h:PSs X.nox st t):PSs X st t:=λpins s σ H D I hw=>
 qBN (h pins s σ H D (I.wish _) hw) (λ_ _ q=>q.unwish) λ_ _ z=>False.elim z
end
section
variable{X:Cx}{st:Stmt}{rest:List Stmt}{t u:TS}{e:Expr}{te:TE}{pos:Pos}
noncomputable def tNext:TS:=λD σ H=>D.nx σ H
noncomputable def tSeq(t u:TS):TS:=λD σ H=>t {D with nx:=u D} σ H
theorem zase:PSs X [] tNext:=λ_ _ σ H _ I h=>qCS ⟨σ,H,I,h⟩
theorem zani(h1:PS X st t)(h2:PSs X rest u):PSs X (st::rest) (tSeq t u):=by
 intro pins s σ H D I h
 refine wpAny_execs_cons (thn (h1 pins s σ H {D with nx:=u D} I h) λf s1 q=>?_)
 cases f with
 | next=>
  obtain⟨σ',H',I',q⟩:=q
  exact h2 pins s1 σ' H' D I' q
 | ret v=>exact q
 | brk=>exact q
 | cont=>exact q
theorem zasf(h1:PS X st t):PSs X [st] t:=by
 intro pins s σ H D I h
 refine wpAny_execs_cons (thn (h1 pins s σ H D I h) λf s1 q=>?_)
 cases f with
 | next=>exact qCS q
 | ret v=>exact q
 | brk=>exact q
 | cont=>exact q
theorem Inv.quiet{pins:List (Addr×Obj)}{σ:St}{H:Hp}{s:Shared}(I:Inv X pins σ H s):interactive X.env=false:=by simp[interactive,I.ok.kind]
noncomputable def tDrop(te:TE):TS:=λD σ H=>te σ H λ_ H1=>D.nx σ H1
theorem zasg(he:PE X e te)(hs:swapsWith e none pos.line X.env=pure false:=by rfl):PS X (.Expr e pos) (tDrop te):=by
 intro pins s σ H D I h
 exact wpAny_Expr_any (thn (he pins s σ H _ I h) λv s1 ⟨x,H1,I1,r1,q1⟩=>⟨σ,H1,I1,q1⟩) I.quiet hs
noncomputable def tRet(te:TE):TS:=λD σ H=>te σ H D.rt
theorem zawo(he:PE X e te):PS X (.Return (some e) pos) (tRet te):=by
 intro pins s σ H D I h
 exact wpAny_Return_some (thn (he pins s σ H _ I h) λv s1 ⟨x,H1,I1,r1,q1⟩=>⟨x,σ,H1,I1,r1,q1⟩)
noncomputable def tIfS(c:TT)(t u:TS):TS:=λD σ H=>c σ H λb H1=>if b=true then t D σ H1 else u D σ H1
theorem zbag{c:Expr}{a b:List Stmt}{tc:TT}(hc:PT X c tc)(ha:PSs X a t)(hb:PSs X b u):PS X (.If c a b pos) (tIfS tc t u):=by
 intro pins s σ H D I h
 refine wpAny_If (thn (hc pins s σ H _ I h) λd s1 ⟨H1,I1,q1⟩=>?_)
 cases d with
 | true=>exact ha pins s1 σ H1 D I1 q1
 | false=>exact hb pins s1 σ H1 D I1 q1
noncomputable def tNever:TS:=λ_ _ _=>False
theorem zanj:PS X st tNever:=λ_ _ _ _ _ _ h=>h.elim
end
noncomputable abbrev TG:=V->St->Hp->(St->Hp->Prop)->Prop
noncomputable abbrev TGs:=List V->St->Hp->(St->Hp->Prop)->Prop
noncomputable def PG(X:Cx)(target:Expr)(t:TG):Prop:=
 ∀(pins:List (Addr×Obj))(s:Shared)(σ:St)(H:Hp)(v:V)(u:Value)(Q:St->Hp->Prop),Inv X pins σ H s->RelV v u->t v σ H Q->
  wpAny (model X.prog X.w) X.A (assign target X.env u) (λ_ s'=>∃σ' H',Inv X pins σ' H' s'/\Q σ' H') X.xe s
noncomputable def PGs(X:Cx)(ts:List Expr)(t:TGs):Prop:=
 ∀(pins:List (Addr×Obj))(s:Shared)(σ:St)(H:Hp)(vs:List V)(us:List Value)(Q:St->Hp->Prop),Inv X pins σ H s->Vals vs us->t vs σ H Q->
  wpAny (model X.prog X.w) X.A (assignInOrder ((assignEach ts X.env).map (·.2)) us) (λ_ s'=>∃σ' H',Inv X pins σ' H' s'/\Q σ' H') X.xe s
noncomputable abbrev TSet:=V->V->V->Hp->(Hp->Prop)->Prop
noncomputable def PSet(X:Cx)(t:TSet):Prop:=
 ∀(pins:List (Addr×Obj))(s:Shared)(σ:St)(H:Hp)(o i v:V)(ov iv u:Value)(Q:Hp->Prop),Inv X pins σ H s->RelV o ov->RelV i iv->RelV v u->t o i v H Q->
  wpAny (model X.prog X.w) X.A (setItem ov iv u) (λ_ s'=>∃H',Inv X pins σ H' s'/\Q H') X.xe s
section
variable{X:Cx}{pos:Pos}
noncomputable def gName(i:Nat):TG:=λv σ H Q=>Q (σ.set i (some v)) H
theorem zash{i:Nat}{x:Str}(hN:X.N.Nodup)(hi:X.N[i]?=some x)(hx:Loc X.env.scope x)(hf:X.fn x=true\/X.env.scope.names.lookup x=some .local:=by assumption):PG X (.Name x pos) (gName i):=by
 intro pins s σ H v u Q I r h
 exact wpAny_assign_Name (zaev I hN hi hx r (λs' I'=>⟨_,H,I',h⟩) hf)
noncomputable def gNil:TGs:=λvs σ H Q=>vs=[]/\Q σ H
noncomputable def gCons(t:TG)(u:TGs):TGs:=λvs σ H Q=>∃v r,vs=v::r/\t v σ H λσ' H'=>u r σ' H' Q
theorem zasi:PGs X [] gNil:=by
 intro pins s σ H vs us Q I r h
 obtain⟨e,h⟩:=h
 subst e
 cases r
 exact assignInOrder_nil ⟨σ,H,I,h⟩
theorem zank{e:Expr}{es:List Expr}{t:TG}{u:TGs}(h1:PG X e t)(h2:PGs X es u)
  (hs:(assignEach (e::es) X.env).map (·.2)=assign e X.env::(assignEach es X.env).map (·.2):=by rfl):PGs X (e::es) (gCons t u):=by
 intro pins s σ H vs us Q I r h
 obtain⟨v,vr,e1,h⟩:=h
 subst e1
 cases r with
 | cons r rr=>
  rw[hs]
  refine assignInOrder_cons (thn (h1 pins s σ H _ _ _ I r h) λ_ s1 ⟨σ1,H1,I1,q1⟩=>?_)
  exact h2 pins s1 σ1 H1 _ _ Q I1 rr q1
noncomputable def gTup(K:qC)(n:Nat)(t:TGs):TG:=λv σ H Q=>∃a xs,v=.ref a/\SqT K H a xs/\xs.length=n/\t xs σ H Q
theorem zawp{es:List Expr}{k:Nat}{t:TGs}{n:Nat}(hc:X.calm=true)(h:PGs X es t)
  (hn:(assignEach es X.env).length=n:=by rfl) (hst:(assignEach es X.env).findIdx? (·.1)=none:=by rfl):PG X (.Tuple es k pos) (gTup X.K n t):=by
 intro pins s σ H v u Q I r hw
 obtain⟨a,xs,e1,hq,hl,hw⟩:=hw
 subst e1
 cases r
 obtain⟨its,rv,ht,hz⟩:=I.tuple hq
 refine assign_Tuple_tuple (I.ok.hd hc) ht (by simp[hn,<- hl,rv.length]) hst λh' hx=>?_
 have I1:Inv X pins σ H {s with heap:=h'}:=I.kept (t':=s.toks) λb o e=>hx b o (qw (qP e)) e
 exact h pins _ σ H xs _ Q I1 (by simpa using rv) hw
noncomputable def gSub(to ti:TE)(t:TSet):TG:=λv σ H Q=>to σ H λo H1=>ti σ H1 λi H2=>t o i v H2 λH3=>Q σ H3
theorem zawq{o i:Expr}{to ti:TE}{t:TSet}(ho:PE X o to)(hi:PE X i ti)(hs:PSet X t)
  (ha:∀v,assign (.Subscript o i pos) X.env v=(do
   let ov <- holding [v] (eval o X.env)
   let iv <- holding [v,ov] (eval i X.env)
   standAt pos
   holding [v,ov,iv] (setItem ov iv v)
   release [v,ov,iv] []):=by intro _;rfl):PG X (.Subscript o i pos) (gSub to ti t):=by
 intro pins s σ H v u Q I r h
 rw[ha]
 refine qD (qAX (thn (ho pins s σ H _ I h) λov s1 ⟨x,H1,I1,r1,q1⟩=>?_))
 refine qD (qAX (thn (hi pins s1 σ H1 _ I1 q1) λiv s2 ⟨y,H2,I2,r2,q2⟩=>?_))
 refine qD (qBq (qD (qAX (thn (hs pins s2 σ H2 x y v ov iv u _ I2 r1 r2 r q2) λ_ s3 ⟨H3,I3,q3⟩=>?_))))
 exact wpAny_release ⟨σ,H3,I3,q3⟩
noncomputable def tAsg(te:TE)(g:TG):TS:=λD σ H=>te σ H λx H1=>g x σ H1 D.nx
theorem zara{tg e:Expr}{te:TE}{g:TG}(he:PE X e te)(hg:PG X tg g)(hs:swapsWithSole [tg] e pos.line X.env=pure false:=by rfl)(hw:swappedStores [tg] e X.env=pure none:=by rfl)
  (h1:(assignEach [tg] X.env).map (·.2)=[assign tg X.env]:=by rfl):PS X (.Assign [tg] e pos) (tAsg te g):=by
 intro pins s σ H D I h
 refine wpAny_Assign_stores (thn (he pins s σ H _ I h) λv s1 ⟨x,H1,I1,r1,q1⟩=>?_) hs hw
 rw[h1]
 exact thn (hg pins s1 σ H1 x v _ I1 r1 q1) λ_ s2 q=>q
theorem zawr{i:Nat}{x:Str}{e:Expr}{te:TE}{pos':Pos}(hN:X.N.Nodup)(hi:X.N[i]?=some x)(hx:Loc X.env.scope x)(he:PE X e te)(hs:swapsWith e (some (.Name x pos')) pos.line X.env=pure false:=by rfl)(hf:X.fn x=true\/X.env.scope.names.lookup x=some .local:=by assumption) :
  PS X (.Assign [.Name x pos'] e pos) (tAsg te (gName i)):=by
 intro pins s σ H D I h
 refine wpAny_Assign_Name (thn (he pins s σ H _ I h) λv s1 ⟨y,H1,I1,r1,q1⟩=>?_) hs
 exact zaev I1 hN hi hx r1 (λs2 I2=>⟨_,H1,I2,q1⟩) hf
end
section
variable{X:Cx}{pos:Pos}
noncomputable def tWhile(c:TT)(tb:TS):TS:=λD σ H=>∃W:Nat->St->Hp->Prop,(∃m,W m σ H)/\∀m σ H,W m σ H->
 c σ H λb H1=>if b=true then ∃N:St->Hp->Prop,(∀σ' H',N σ' H'->∃m',m'<m/\W m' σ' H')/\tb {D with nx:=N,ct:=N,bk:=D.nx} σ H1 else D.nx σ H1
theorem zanl{c:Expr}{body:List Stmt}{tc:TT}{tb:TS}(hp:PassesOwn (model X.prog X.w) X.A X.env X.xe)(hc:PT X c tc)(hb:PSs X body tb):PS X (.While c body [] pos) (tWhile tc tb):=by
 intro pins s σ H D I h
 obtain⟨W,⟨m0,w0⟩,turn⟩:=h
 refine wpAny_While (codeAny_whileLoop (λn s'=>∃σ' H',Inv X pins σ' H' s'/\W n σ' H') ?_ m0 ⟨σ,H,I,w0⟩)
 rintro n s1 ⟨σ1,H1,I1,w1⟩
 refine qBL hp (thn (hc pins s1 σ1 H1 _ I1 (turn n σ1 H1 w1)) λb s2 ⟨H2,I2,q2⟩=>?_)
 cases b with
 | true=>
  obtain⟨N,hN,q2⟩:=q2
  rw[if_pos rfl]
  refine qBL hp (thn (hb pins s2 σ1 H2 _ I2 q2) λf s3 q3=>?_)
  cases f with
  | next=>
   obtain⟨σ3,H3,I3,n3⟩:=q3
   obtain⟨m',hm,w3⟩:=hN σ3 H3 n3
   exact⟨m',hm,σ3,H3,I3,w3⟩
  | cont=>
   obtain⟨σ3,H3,I3,n3⟩:=q3
   obtain⟨m',hm,w3⟩:=hN σ3 H3 n3
   exact⟨m',hm,σ3,H3,I3,w3⟩
  | brk=>exact q3
  | ret v=>exact q3
 | false=>
  rw[if_neg qV]
  exact qCS ⟨σ1,H2,I2,q2⟩
end
set_option genInjectivity false in
structure It where
 go:Nat->Hp->Prop
 yld:Nat->Hp->V->Hp->Prop
 stop:Nat->Hp->Prop
noncomputable def FpOk(X:Cx)(pins:List (Addr×Obj))(H:Hp)(b:Addr):Prop:=
 H b=none/\b≠X.env.locals/\b∉X.fs/\(b∈X.ex\/X.s₀.heap.objs.size<=b)/\(∀x c,X.env.cells.lookup x=some c->c≠b)/\∀p∈X.pn++pins,p.1≠b
theorem Inv.fpOk{X:Cx}{pins:List (Addr×Obj)}{σ:St}{H H':Hp}{s:Shared}{b:Addr}(I:Inv X pins σ H s)(hb:s.heap.objs.size<=b)(hn:H' b=none):FpOk X pins H' b:=by
 refine⟨hn,qAm (qb I.lt hb),I.nofs hb,.inr (qAA I.sz hb),λx c e z=>?_,λp hp z=>?_⟩
 ·obtain⟨v,q⟩:=I.cell x c e
  exact absurd (qb q.lt (by rw[z];exact hb)) (qAl _)
 ·exact absurd (qb (qP (I.pin p hp).1) (by rw[z];exact hb)) (qAl _)
set_option genInjectivity false in
structure Turn(P:Program)(w:World)(K:qC)(tg:Expr)(J:It)(fp:List Addr)(it:Addr)(tn:Nat->Heap->Prop):Prop where
 mem:it∈fp
 obj:∀i h,tn i h->∀b∈fp,∃o,h.get? b=some o/\∀v,o.data≠.cell v
 keep:∀i h h',tn i h->(∀b∈fp,∀o,h.get? b=some o->h'.get? b=some o)->tn i h'
 item:∀(X:Cx),X.prog=P->X.w=w->X.K=K->X.calm=true->∀(i:Nat)(pins:List (Addr×Obj))(s:Shared)(σ:St)(H:Hp)(E:Value->Shared->Prop),Inv X pins σ H s->(∀b∈fp,FpOk X pins H b)->tn i s.heap->J.go i H->
  wpAny (model P w) X.A (pyNext (.ref it)) (λr s1=>∃u,r=some u/\
   wpAny (model P w) X.A (letOwnedTupleGo tg (.ref it) u) (λ_ s2=>∃x H',Inv X pins σ H' s2/\RelV x u/\J.yld i H x H'/\tn (i+1) s2.heap/\∀b∈fp,H' b=none) E s1) E s
 done:∀(X:Cx),X.prog=P->X.w=w->X.K=K->X.calm=true->∀(i:Nat)(pins:List (Addr×Obj))(s:Shared)(σ:St)(H:Hp)(E:Value->Shared->Prop),Inv X pins σ H s->(∀b∈fp,FpOk X pins H b)->tn i s.heap->J.stop i H->
  wpAny (model P w) X.A (pyNext (.ref it)) (λr s1=>r=none/\Inv X pins σ H s1) E s
 self:∀(A:Around)(i:Nat)(s:Shared)(Q:Value->Shared->Prop)(E:Value->Shared->Prop),tn i s.heap->Q (.ref it) s->wpAny (model P w) A (pyIter (.ref it)) Q E s
noncomputable abbrev TI:=St->Hp->(It->Hp->Prop)->Prop
noncomputable def PIE(X:Cx)(pins:List (Addr×Obj))(σ:St)(tg:Expr)(R:It->Hp->Prop)(itv:Value)(s2:Shared):Prop:=
 ∃(it:Addr)(fp:List Addr)(tn:Nat->Heap->Prop)(J:It)(H':Hp),itv=.ref it/\Inv X pins σ H' s2/\Turn X.prog X.w X.K tg J fp it tn/\tn 0 s2.heap/\(∀b∈fp,FpOk X pins H' b)/\R J H'
noncomputable def PI(X:Cx)(tg iter:Expr)(wi:TI):Prop:=
 ∀(pins:List (Addr×Obj))(s:Shared)(σ:St)(H:Hp)(R:It->Hp->Prop),Inv X pins σ H s->wi σ H R->
  wpAny (model X.prog X.w) X.A (eval iter X.env) (λv s1=>wpAny (model X.prog X.w) X.A (pyIter v) (PIE X pins σ tg R) X.xe s1) X.xe s
theorem zanm{M:Model}{A:Around}{E:Value->Shared->Prop}{s:Shared}{tg:Expr}{it:Addr}{u:Value}{o:Obj}{n:String}{vs:Array Value}{Q:Unit->Shared->Prop}(ho:s.heap.get? it=some o)(hc:o.cls=.type n)(hd:o.data=.fields vs)
  (hn:["enumerate","zip","dict_itemiterator","dict_reverseitemiterator","odict_iterator","itertools.zip_longest","itertools.pairwise"].contains n=false) (hQ:Q () s):wpAny M A (letOwnedTupleGo tg (.ref it) u) Q E s:=by
 unfold letOwnedTupleGo
 cases tg<;>first
  | exact qO hQ
  | (cases u<;>first
    | exact qO hQ
    | (refine qD (wpAny_load ho ?_)
       rw[hc,hd]
       show wpAny M A (if(["enumerate","zip","dict_itemiterator","dict_reverseitemiterator","odict_iterator","itertools.zip_longest","itertools.pairwise"].contains n&&vs[0]?==some (rawInt _))=true then _ else _) Q E s
       rw[if_neg (by intro h;rw[hn,Bool.false_and]at h;cases h)]
       exact qO hQ))
noncomputable def Itl(K:qC)(a:Addr):It:=
 ⟨λi H=>∃xs x,SqL K H a xs/\xs[i]?=some x,λi H x H'=>H'=H/\∀xs,SqL K H a xs->xs[i]?=some x,λi H=>∃xs,SqL K H a xs/\xs.length<=i⟩
noncomputable def Itt(K:qC)(a:Addr):It:=
 ⟨λi H=>∃xs x,SqT K H a xs/\xs[i]?=some x,λi H x H'=>H'=H/\∀xs,SqT K H a xs->xs[i]?=some x,λi H=>∃xs,SqT K H a xs/\xs.length<=i⟩
noncomputable def Itr(lo:Int)(n:Nat):It:=⟨λi _=>i<n,λi H x H'=>H'=H/\x=.int (lo+i),λi _=>n<=i⟩
theorem zais{P:Program}{w:World}{K:qC}{tg:Expr}(a it:Addr):Turn P w K tg (Itl K a) [it] it (λi h=>h.IsListIter it a i) where
 mem:=by simp
 obj:=λi h st b hb=>by
  have e:b=it:=by simpa using hb
  subst e
  obtain⟨o,e,c,d⟩:=st
  exact⟨o,e,λv z=>by rw[d]at z;cases z⟩
 keep:=λi h h' st k=>st.at λo e=>k it (by simp) o e
 item:=by
  intro X hP hw hK hc i pins s σ H E I hf st hg
  subst hP hw hK
  obtain⟨xs,x,hq,hx⟩:=hg
  obtain⟨its,rv,p,hz⟩:=I.list hq
  obtain⟨u,hu,ru⟩:=rv.get hx
  obtain⟨f0,f1,f2,f3,f4,f5⟩:=hf it (by simp)
  refine wpAny_pyNext_list_item st p.isList (x:=u) (by simpa using hu) λh' st' sb=>?_
  have I1:Inv X pins σ H {s with heap:=h'}:=I.turned (t':=s.toks) (λb o hb e=>(sb.2 b hb).trans e) f0 f1 f3 f4 f5
  obtain⟨o,e,c,d⟩:=id st'
  exact⟨u,rfl,zanm (s:={s with heap:=h'}) e c d (by decide) ⟨x,H,I1,ru,⟨rfl,λys hy=>by rw[I.list_inj hy hq];exact hx⟩,st',λb hb=>(hf b hb).1⟩⟩
 done:=by
  intro X hP hw hK hc i pins s σ H E I hf st hg
  subst hP hw hK
  obtain⟨xs,hq,hx⟩:=hg
  obtain⟨its,rv,p,hz⟩:=I.list hq
  obtain⟨f0,f1,f2,f3,f4,f5⟩:=hf it (by simp)
  have hl:=rv.length
  exact wpAny_pyNext_list_end (I.ok.hd hc) st p.isList (by simp;omega) λh' eb=>⟨rfl,I.turned (t':=s.toks) (λb o hb e=>eb b o hb e) f0 f1 f3 f4 f5⟩
 self:=λ_ _ _ _ _ st h=>wpAny_pyIter_listiter st h
theorem zagl{P:Program}{w:World}{K:qC}{tg:Expr}(a it:Addr):Turn P w K tg (Itt K a) [it] it (λi h=>h.IsTupleIter it a i) where
 mem:=by simp
 obj:=λi h st b hb=>by
  have e:b=it:=by simpa using hb
  subst e
  obtain⟨o,e,c,d⟩:=st
  exact⟨o,e,λv z=>by rw[d]at z;cases z⟩
 keep:=λi h h' st k=>st.at λo e=>k it (by simp) o e
 item:=by
  intro X hP hw hK hc i pins s σ H E I hf st hg
  subst hP hw hK
  obtain⟨xs,x,hq,hx⟩:=hg
  obtain⟨its,rv,p,hz⟩:=I.tuple hq
  obtain⟨u,hu,ru⟩:=rv.get hx
  obtain⟨f0,f1,f2,f3,f4,f5⟩:=hf it (by simp)
  refine wpAny_pyNext_tuple_item st (show s.heap.IsTuple a its.toArray from p) (x:=u) (by simpa using hu) λh' st' sb=>?_
  have I1:Inv X pins σ H {s with heap:=h'}:=I.turned (t':=s.toks) (λb o hb e=>(sb.2 b hb).trans e) f0 f1 f3 f4 f5
  obtain⟨o,e,c,d⟩:=id st'
  exact⟨u,rfl,zanm (s:={s with heap:=h'}) e c d (by decide) ⟨x,H,I1,ru,⟨rfl,λys hy=>by rw[I.tuple_inj hy hq];exact hx⟩,st',λb hb=>(hf b hb).1⟩⟩
 done:=by
  intro X hP hw hK hc i pins s σ H E I hf st hg
  subst hP hw hK
  obtain⟨xs,hq,hx⟩:=hg
  obtain⟨its,rv,p,hz⟩:=I.tuple hq
  obtain⟨f0,f1,f2,f3,f4,f5⟩:=hf it (by simp)
  have hl:=rv.length
  exact wpAny_pyNext_tuple_end (I.ok.hd hc) st (show s.heap.IsTuple a its.toArray from p) (by simp;omega) λh' eb=>⟨rfl,I.turned (t':=s.toks) (λb o hb e=>eb b o hb e) f0 f1 f3 f4 f5⟩
 self:=λ_ _ _ _ _ st h=>wpAny_pyIter_tupleiter st h
theorem zagm{P:Program}{w:World}{K:qC}{tg:Expr}(it:Addr)(lo:Int)(n:Nat):Turn P w K tg (Itr lo n) [it] it (λi h=>IsRangeIter h it (lo+(i:Nat) * 1) ((n:Int) - (i:Nat)) 1) where
 mem:=by simp
 obj:=λi h st b hb=>by
  have e:b=it:=by simpa using hb
  subst e
  exact⟨_,st,λv z=>by
   have z':Data.fields _=Data.cell v:=z
   cases z'⟩
 keep:=λi h h' st k=>k it (by simp) _ st
 item:=by
  intro X hP hw hK hc i pins s σ H E I hf st hg
  subst hP hw hK
  obtain⟨f0,f1,f2,f3,f4,f5⟩:=hf it (by simp)
  have W:=Walks.range (prog:=X.prog) (w:=X.w) (I.ok.hd hc) it lo 1 n
  refine W.item i s _ _ hg st λv h' tk hv st' kk=>?_
  obtain⟨t,rfl⟩:=hv
  have I1:Inv X pins σ H {s with heap:=h',toks:=tk}:=I.turned (λb o hb e=>kk b o (by simpa using hb) e) f0 f1 f3 f4 f5
  refine⟨_,rfl,zanm (s:={s with heap:=h',toks:=tk}) (n:="range_iterator") st' rfl rfl (by decide) ⟨.int (lo+i),H,I1,⟨t,?_⟩,⟨rfl,rfl⟩,st',λb hb=>(hf b hb).1⟩⟩
  rw[Int.mul_one]
 done:=by
  intro X hP hw hK hc i pins s σ H E I hf st hg
  subst hP hw hK
  obtain⟨f0,f1,f2,f3,f4,f5⟩:=hf it (by simp)
  exact wpAny_pyNext_range_end (I.ok.hd hc) st (by have:n<=i:=hg;omega) λh' eb=>⟨rfl,I.turned (t':=s.toks) (λb o hb e=>eb b o hb e) f0 f1 f3 f4 f5⟩
 self:=λ_ _ _ _ _ st h=>wpAny_pyIter_rangeiter st h
section
variable{X:Cx}{tg:Expr}
theorem zann{pins:List (Addr×Obj)}{σ:St}{H:Hp}{s:Shared}{R:It->Hp->Prop}{E:Value->Shared->Prop}{lo hi:Int}{t u v:Tok}{tk:Nat}(I:Inv X pins σ H s)(h1:-(2 ^ 62)<=lo)(h2:lo<2 ^ 62)(h3:-(2 ^ 62)<=hi)(h4:hi<2 ^ 62)
  (q:R (Itr lo (hi - lo).toNat) H):wpAny (model X.prog X.w) X.A (pyIter (.ref s.heap.objs.size)) (PIE X pins σ tg R) E {s with heap:=s.heap.push {cls:=.type "range",data:=.fields #[.int lo t,.int hi u,.int 1 v]},toks:=tk}:=by
 refine wpAny_pyIter_range (IsRange.new ..) (small_one h1 h2 h3 h4) ?_
 have I1:Inv X pins σ H {s with heap:=s.heap.push {cls:=.type "range",data:=.fields #[.int lo t,.int hi u,.int 1 v]},toks:=tk}:=I.kept λb o e=>qE _ e
 refine⟨(s.heap.push {cls:=.type "range",data:=.fields #[.int lo t,.int hi u,.int 1 v]}).objs.size,[(s.heap.push {cls:=.type "range",data:=.fields #[.int lo t,.int hi u,.int 1 v]}).objs.size],_,_,H,rfl,
  I1.kept (t':=tk) λb o e=>qE _ e,zagm _ lo (hi - lo).toNat,?_,λb hb=>?_,q⟩
 ·have e1:lo+((0:Nat):Int) * 1=lo:=by simp
  have e2:(((hi - lo).toNat:Nat):Int) - ((0:Nat):Int)=Builtin.Range.rangeSize lo hi 1:=by rw[rangeSize_one];split<;>omega
  show IsRangeIter _ _ (lo+((0:Nat):Int) * 1) ((((hi - lo).toNat:Nat):Int) - ((0:Nat):Int)) 1
  rw[e1,e2]
  exact qW _ rfl
 ·have e:b=(s.heap.push {cls:=.type "range",data:=.fields #[.int lo t,.int hi u,.int 1 v]}).objs.size:=by simpa using hb
  subst e
  exact I1.fpOk (qN _) (I1.hok.fresh (qN _))
noncomputable def iRng1(ta:TA):TI:=λσ H R=>ta σ H λvs H1=>∃j:Int,vs=[.int j]/\-(2 ^ 62)<=j/\j<2 ^ 62/\R (Itr 0 j.toNat) H1
theorem zait{a:Expr}{ta:TA}{p pos:Pos}(hg:Gl X "range")(hm:X.mg "range"=none)(ha:PA X [a] ta)(hs:starEach [a] X.env=[(false,eval a X.env)]:=by rfl):PI X tg (.Call (.Name "range" p) [a] [] pos) (iRng1 ta):=by
 intro pins s σ H R I h
 refine Call_ (zia I hg hm boot_range (qBZ (thn (ha pos pins s σ H _ I h) λus s1 ⟨vs,H1,I1,r1,q1⟩=>?_) hs rfl))
 obtain⟨j,e,q1,q2,q⟩:=q1
 subst e
 cases r1 with
 | cons r rr=>
  cases rr
  obtain⟨t,rfl⟩:=r
  exact call_range_1 (zann I1 (by omega) (by omega) q1 q2 (by simpa using q))
noncomputable def tFor(wi:TI)(g:TG)(tb:TS):TS:=λD σ H=>wi σ H λJ H1=>∃W:Nat->Nat->St->Hp->Prop,(∃m,W 0 m σ H1)/\∀i m σ H,W i m σ H->
 (J.stop i H/\D.nx σ H)\/(J.go i H/\∃N:St->Hp->Prop,(∀σ' H',N σ' H'->∃m',m'<m/\W (i+1) m' σ' H')/\∀x H',J.yld i H x H'->g x σ H' λσ2 H2=>tb {D with nx:=N,ct:=N,bk:=D.nx} σ2 H2)
noncomputable def zyy(fp:List Addr)(h:Heap):List (Addr×Obj):=fp.filterMap λb=>(h.get? b).map λo=>(b,o)
theorem zkt{fp:List Addr}{h:Heap}{b:Addr}{o:Obj}(hb:b∈fp)(e:h.get? b=some o):(b,o)∈zyy fp h:=qBt.mpr ⟨b,hb,by rw[e];rfl⟩
theorem zaiu{fp:List Addr}{h:Heap}{p:Addr×Obj}(hp:p∈zyy fp h):p.1∈fp/\h.get? p.1=some p.2:=by
 obtain⟨b,hb,e⟩:=qBt.mp hp
 cases q:h.get? b with
 | none=>rw[q]at e;cases e
 | some o=>
  rw[q]at e
  have e':(b,o)=p:=qY e
  subst e'
  exact⟨hb,q⟩
theorem Inv.pinned{pins:List (Addr×Obj)}{σ:St}{H:Hp}{s:Shared}{fp:List Addr}(I:Inv X pins σ H s)(hf:∀b∈fp,FpOk X pins H b)(ho:∀b∈fp,∃o,s.heap.get? b=some o/\∀v,o.data≠.cell v):Inv X (pins++zyy fp s.heap) σ H s:=
 I.pins_of λp hp=>(qj.mp hp).elim (λz=>I.pin p (qI _ z)) λz=>by
  obtain⟨hb,e⟩:=zaiu z
  obtain⟨f0,f1,f2,_⟩:=hf p.1 hb
  obtain⟨o,e',d⟩:=ho p.1 hb
  rw[e]at e';cases e'
  exact⟨e,f0,f1,f2,d⟩
theorem Inv.unpinned{pins pl:List (Addr×Obj)}{σ:St}{H:Hp}{s:Shared}(I:Inv X (pins++pl) σ H s):Inv X pins σ H s:=I.pins_of λp hp=>I.pin p (qI _ (qi _ hp))
theorem zaws{iter:Expr}{body:List Stmt}{wi:TI}{g:TG}{tb:TS}{pos:Pos}(hp:PassesOwn (model X.prog X.w) X.A X.env X.xe)(hc:X.calm=true)(hi:PI X tg iter wi)(hg:PG X tg g)(hb:PSs X body tb)
  (hs:∀x,foldedSetIterable iter X.env x=pure x:=by intro _;rfl):PS X (.For tg iter body [] pos) (tFor wi g tb):=by
 intro pins s σ H D I h
 refine wpAny_For (thn (hi pins s σ H _ I h) λv s1 h1=>thn h1 λitv s2 h2=>?_) hs
 obtain⟨it,fp,tn,J,H2,e,I2,T,st2,f2,W,⟨m0,w0⟩,turn⟩:=h2
 subst e
 have stat:∀{H':Hp},(∀b∈fp,H' b=none)->∀b∈fp,FpOk X pins H' b:=λhn b hb=>⟨hn b hb,(f2 b hb).2⟩
 refine codeAny_forLoop_any (λn s'=>∃i σ' H',Inv X pins σ' H' s'/\tn i s'.heap/\(∀b∈fp,H' b=none)/\W i n σ' H') ?_ m0 ⟨0,σ,H2,I2,st2,λb hb=>(f2 b hb).1,w0⟩
 rintro n s3 ⟨i,σ3,H3,I3,st3,fr3,w3⟩
 rcases turn i n σ3 H3 w3 with⟨stop,qn⟩|⟨go,N,hN,step⟩
 ·refine qBL hp (thn (T.done X rfl rfl rfl hc i pins s3 σ3 H3 X.xe I3 (stat fr3) st3 stop) λr s4 ⟨hr,I4⟩=>?_)
  subst hr
  exact qCS ⟨σ3,H3,I4,qn⟩
 ·refine qBL hp (thn (T.item X rfl rfl rfl hc i pins s3 σ3 H3 X.xe I3 (stat fr3) st3 go) λr s4 ⟨u,hr,h4⟩=>?_)
  subst hr
  refine qBL hp (thn h4 λ_ s5 ⟨x,H5,I5,r5,y5,st5,fr5⟩=>?_)
  have I5':=I5.pinned (stat fr5) (T.obj _ _ st5)
  refine qBL hp (thn (hg _ s5 σ3 H5 x u _ I5' r5 (step x H5 y5)) λ_ s6 ⟨σ6,H6,I6,q6⟩=>?_)
  refine qBL hp (thn (hb _ s6 σ6 H6 _ I6 q6) λf s7 q7=>?_)
  have again:∀{σ7:St}{H7:Hp},Inv X (pins++zyy fp s5.heap) σ7 H7 s7->N σ7 H7->∃m,m<n/\∃i σ' H',Inv X pins σ' H' s7/\tn i s7.heap/\(∀b∈fp,H' b=none)/\W i m σ' H':=λ{σ7 H7} I7 n7=>by
   obtain⟨m',hm,w7⟩:=hN σ7 H7 n7
   refine⟨m',hm,i+1,σ7,H7,I7.unpinned,T.keep _ _ _ st5 λb hb o e=>(I7.pin (b,o) (qI _ (qI _ (zkt hb e)))).1,λb hb=>?_,w7⟩
   obtain⟨o,e,d⟩:=T.obj _ _ st5 b hb
   exact(I7.pin (b,o) (qI _ (qI _ (zkt hb e)))).2.1
  cases f with
  | next=>obtain⟨σ7,H7,I7,n7⟩:=q7;exact again I7 n7
  | cont=>obtain⟨σ7,H7,I7,n7⟩:=q7;exact again I7 n7
  | brk=>obtain⟨σ7,H7,I7,q7⟩:=q7;exact⟨σ7,H7,I7.unpinned,q7⟩
  | ret v=>obtain⟨x7,σ7,H7,I7,r7,q7⟩:=q7;exact⟨x7,σ7,H7,I7.unpinned,r7,q7⟩
end
noncomputable abbrev R2:=V->V->Hp->VK->Prop
noncomputable def OpR(X:Cx)(f:Value->Value->Sem Value)(r:R2):Prop:=
 ∀(pins:List (Addr×Obj))(s:Shared)(σ:St)(H:Hp)(x y:V)(v u:Value)(Q:VK),Inv X pins σ H s->RelV x v->RelV y u->r x y H Q->
  wpAny (model X.prog X.w) X.A (f v u) (EP X pins σ Q) X.xe s
noncomputable def CallR(X:Cx)(f:Value)(r:List V->Hp->VK->Prop):Prop:=
 ∀(pins:List (Addr×Obj))(s:Shared)(σ:St)(H:Hp)(xs:List V)(us:List Value)(Q:VK),Inv X pins σ H s->Vals xs us->r xs H Q->
  wpAny (model X.prog X.w) X.A (call f us) (EP X pins σ Q) X.xe s
noncomputable def TruR(X:Cx)(r:V->Hp->(Bool->Hp->Prop)->Prop):Prop:=
 ∀(pins:List (Addr×Obj))(s:Shared)(σ:St)(H:Hp)(x:V)(v:Value)(Q:Bool->Hp->Prop),Inv X pins σ H s->RelV x v->r x H Q->
  wpAny (model X.prog X.w) X.A (truthy v) (TP X pins σ Q) X.xe s
noncomputable def tOp(r:R2)(ta tb:TE):TE:=λσ H Q=>ta σ H λx H1=>tb σ H1 λy H2=>r x y H2 Q
noncomputable def rI(C:Int->Int->Prop)(g:Int->Int->V):R2:=λx y H Q=>∃i j,x=.int i/\y=.int j/\C i j/\Q (g i j) H
noncomputable def rI0(g:Int->Int->V):R2:=λx y H Q=>∃i j,x=.int i/\y=.int j/\Q (g i j) H
section
variable{X:Cx}{a b c:Expr}{ta tb tc:TE}{pos:Pos}
theorem binT(ha:PE X a ta)(hb:PE X b tb){pins:List (Addr×Obj)}{s:Shared}{σ:St}{H:Hp}{R:V->V->Hp->Prop}(I:Inv X pins σ H s)
  (h:ta σ H λx H1=>tb σ H1 λy H2=>R x y H2){Q:Value->Shared->Prop}{f:Value->Value->Sem Value}
  (hf:∀v u s2 x y H2,Inv X pins σ H2 s2->RelV x v->RelV y u->R x y H2->wpAny (model X.prog X.w) X.A (f v u) Q X.xe s2) :
  wpAny (model X.prog X.w) X.A (eval a X.env) (λv s₁=>wpAny (model X.prog X.w) X.A (eval b X.env) (λu s₂=>wpAny (model X.prog X.w) X.A (f v u) Q X.xe s₂) X.xe s₁) X.xe s:=by
 refine thn (ha pins s σ H _ I h) λv s1 ⟨x,H1,I1,r1,q1⟩=>?_
 refine thn (hb pins s1 σ H1 _ I1 q1) λu s2 ⟨y,H2,I2,r2,q2⟩=>?_
 exact hf v u s2 x y H2 I2 r1 r2 q2
theorem zbah{op:Operator}{r:R2}(ho:OpR X (binaryOp op) r)(ha:PE X a ta)(hb:PE X b tb):PE X (.BinOp a op b pos) (tOp r ta tb):=by
 intro pins s σ H Q I h
 exact wpAny_BinOp (binT ha hb I h λv u s2 x y H2 I2 rx ry q=>ho pins s2 σ H2 x y v u Q I2 rx ry q)
theorem opI{f:Value->Value->Sem Value}{C:Int->Int->Prop}{g:Int->Int->Int}
  (rule:∀(i j:Int)(t u:Tok)(s:Shared)(Q:Value->Shared->Prop)(E:Value->Shared->Prop),C i j->Q (.int (g i j) s.toks) {s with toks:=s.toks+1}->wpAny (model X.prog X.w) X.A (f (.int i t) (.int j u)) Q E s) :
  OpR X f (rI C λi j=>.int (g i j)):=by
 intro pins s σ H x y v u Q I rx ry h
 obtain⟨i,j,rfl,rfl,hc,q⟩:=h
 obtain⟨t,rfl⟩:=rx
 obtain⟨t',rfl⟩:=ry
 exact rule i j t t' s _ _ hc ⟨.int (g i j),H,I.tok _,⟨_,rfl⟩,q⟩
theorem opI0{f:Value->Value->Sem Value}{g:Int->Int->Int}
  (rule:∀(i j:Int)(t u:Tok)(s:Shared)(Q:Value->Shared->Prop)(E:Value->Shared->Prop),Q (.int (g i j) s.toks) {s with toks:=s.toks+1}->wpAny (model X.prog X.w) X.A (f (.int i t) (.int j u)) Q E s) :
  OpR X f (rI0 λi j=>.int (g i j)):=by
 intro pins s σ H x y v u Q I rx ry h
 obtain⟨i,j,rfl,rfl,q⟩:=h
 obtain⟨t,rfl⟩:=rx
 obtain⟨t',rfl⟩:=ry
 exact rule i j t t' s _ _ ⟨.int (g i j),H,I.tok _,⟨_,rfl⟩,q⟩
theorem opB0{f:Value->Value->Sem Value}{g:Int->Int->Bool}
  (rule:∀(i j:Int) (t u:Tok) (s:Shared) (Q:Value->Shared->Prop) (E:Value->Shared->Prop),Q (.bool (g i j)) s->wpAny (model X.prog X.w) X.A (f (.int i t) (.int j u)) Q E s) :
  OpR X f (rI0 λi j=>.bl (g i j)):=by
 intro pins s σ H x y v u Q I rx ry h
 obtain⟨i,j,rfl,rfl,q⟩:=h
 obtain⟨t,rfl⟩:=rx
 obtain⟨t',rfl⟩:=ry
 exact rule i j t t' s _ _ ⟨.bl (g i j),H,I,rfl,q⟩
noncomputable def CDiv(i j:Int):Prop:=0<j/\j<1073741824
noncomputable def CMul(i j:Int):Prop:=(-(2 ^ 64)<i/\i<2 ^ 64)\/(-(2 ^ 64)<j/\j<2 ^ 64)
theorem CMul.ok{i j:Int}(h:CMul i j):IntMulOk i j:=by
 rcases h with⟨h1,h2⟩|⟨h1,h2⟩
 ·exact .of_left (intBits_le_64 h1 h2)
 ·exact .of_right (intBits_le_64 h1 h2)
theorem zawt:OpR X (binaryOp .Add) (rI0 λi j=>.int (i+j)):=opI0 λ_ _ _ _ _ _ _ q=>add_int q
theorem zarb:OpR X (binaryOp .Sub) (rI0 λi j=>.int (i - j)):=opI0 λ_ _ _ _ _ _ _ q=>sub_int q
theorem zawu:OpR X (binaryOp .Mult) (rI CMul λi j=>.int (i * j)):=opI λ_ _ _ _ _ _ _ hc q=>mul_int q hc.ok
theorem zwh:OpR X (binaryOp .FloorDiv) (rI CDiv λi j=>.int (i / j)):=opI λi j _ _ _ _ _ hc q=>by
 have h1:(0:Int)<j:=hc.1
 have h2:j<1073741824:=hc.2
 exact floordiv_int (by omega) (by rw[Int.fdiv_eq_ediv_of_nonneg i (by omega)];exact q) (.inl (PyProof.noPylong_small (by omega)))
theorem zrk:OpR X (binaryOp .Mod) (rI (λ_ j=>0<j) λi j=>.int (i % j)):=opI λi j _ _ _ _ _ hc q=>by
 have h1:(0:Int)<j:=hc
 exact mod_int' (by omega) (by rw[Int.fmod_eq_emod_of_nonneg i (by omega)];exact q)
end
noncomputable def scal:V->V->Bool
 | .non,.non=>true|.non,.int _=>true|.int _,.non=>true|.non,.bl _=>true|.bl _,.non=>true|.non,.str _=>true|.str _,.non=>true
 | .int _,.int _=>true|.bl _,.bl _=>true|.str _,.str _=>true|.byt _,.byt _=>true
 | .int _,.str _=>true|.str _,.int _=>true|.bl _,.str _=>true|.str _,.bl _=>true
 | _,_=>false
noncomputable def rEq:R2:=λx y H Q=>scal x y=true/\Q (.bl (decide (x=y))) H
noncomputable def rNe:R2:=λx y H Q=>scal x y=true/\Q (.bl (!decide (x=y))) H
theorem zack{i j:Int}:decide (V.int i=V.int j)=(i==j):=by
 rw[qAt]
 simp
theorem zaiv{i j:Bool}:decide (V.bl i=V.bl j)=(i==j):=by
 rw[qAt]
 simp
theorem zacl{i j:Str}:decide (V.str i=V.str j)=(i==j):=by
 rw[qAt]
 simp
theorem zaiw{i j:Array UInt8}:decide (V.byt i=V.byt j)=(i.toList==j.toList):=by
 rw[qAt]
 cases i
 cases j
 simp
section
variable{X:Cx}{a b c:Expr}{ta tb tc:TE}{pos:Pos}
theorem zct{pins:List (Addr×Obj)}{σ:St}{H:Hp}{s:Shared}{Q:VK}{k k':Bool}(I:Inv X pins σ H s)(q:Q (.bl k) H)(e:k=k'):EP X pins σ Q (.bool k') s:=by
 subst e
 exact⟨.bl k,H,I,rfl,q⟩
theorem zbai:OpR X (compareOp .Eq) rEq:=by
 intro pins s σ H x y v u Q I rx ry h
 obtain⟨hs,q⟩:=h
 cases x with
 | non=>
  cases rx
  cases y with
  | non=>cases ry;exact PySem.EqNone.eq_none_none (zct I q (by simp))
  | bl j=>cases ry;exact PySem.EqNone.eq_none_bool (zct I q (by simp))
  | int j=>obtain⟨t',rfl⟩:=ry;exact PySem.EqNone.eq_none_int (zct I q (by simp))
  | str j=>obtain⟨t',rfl⟩:=ry;exact PySem.EqNone.eq_none_str (zct I q (by simp))
  | _=>exact absurd (show false=true from hs) qV
 | bl i=>
  cases rx
  cases y with
  | non=>cases ry;exact PySem.EqNone.eq_bool_none (zct I q (by simp))
  | bl j=>cases ry;exact eq_bool (zct I q zaiv)
  | str j=>obtain⟨t',rfl⟩:=ry;exact PySem.EqMixed.eq_bool_str (zct I q (by simp))
  | _=>exact absurd (show false=true from hs) qV
 | int i=>
  obtain⟨t,rfl⟩:=rx
  cases y with
  | non=>cases ry;exact PySem.EqNone.eq_int_none (zct I q (by simp))
  | int j=>obtain⟨t',rfl⟩:=ry;exact eq_int (zct I q zack)
  | str j=>obtain⟨t',rfl⟩:=ry;exact PySem.EqMixed.eq_int_str (zct I q (by simp))
  | _=>exact absurd (show false=true from hs) qV
 | str i=>
  obtain⟨t,rfl⟩:=rx
  cases y with
  | non=>cases ry;exact PySem.EqNone.eq_str_none (zct I q (by simp))
  | bl j=>cases ry;exact PySem.EqMixed.eq_str_bool (zct I q (by simp))
  | int j=>obtain⟨t',rfl⟩:=ry;exact PySem.EqMixed.eq_str_int (zct I q (by simp))
  | str j=>obtain⟨t',rfl⟩:=ry;exact eq_str (zct I q zacl)
  | _=>exact absurd (show false=true from hs) qV
 | byt i=>
  obtain⟨t,rfl⟩:=rx
  cases y with
  | byt j=>obtain⟨t',rfl⟩:=ry;exact PySem.W.eq_bytes (zct I q zaiw)
  | _=>exact absurd (show false=true from hs) qV
 | _=>cases y<;>exact absurd (show false=true from hs) qV
theorem zbaj:OpR X (compareOp .NotEq) rNe:=by
 intro pins s σ H x y v u Q I rx ry h
 obtain⟨hs,q⟩:=h
 cases x with
 | non=>
  cases rx
  cases y with
  | non=>cases ry;exact PySem.EqNone.ne_none_none (zct I q (by simp))
  | bl j=>cases ry;exact PySem.EqNone.ne_none_bool (zct I q (by simp))
  | int j=>obtain⟨t',rfl⟩:=ry;exact PySem.EqNone.ne_none_int (zct I q (by simp))
  | str j=>obtain⟨t',rfl⟩:=ry;exact PySem.EqNone.ne_none_str (zct I q (by simp))
  | _=>exact absurd (show false=true from hs) qV
 | bl i=>
  cases rx
  cases y with
  | non=>cases ry;exact PySem.EqNone.ne_bool_none (zct I q (by simp))
  | bl j=>cases ry;exact ne_bool (zct I q (congrArg not zaiv))
  | str j=>obtain⟨t',rfl⟩:=ry;exact PySem.EqMixed.ne_bool_str (zct I q (by simp))
  | _=>exact absurd (show false=true from hs) qV
 | int i=>
  obtain⟨t,rfl⟩:=rx
  cases y with
  | non=>cases ry;exact PySem.EqNone.ne_int_none (zct I q (by simp))
  | int j=>obtain⟨t',rfl⟩:=ry;exact ne_int (zct I q (congrArg not zack))
  | str j=>obtain⟨t',rfl⟩:=ry;exact PySem.EqMixed.ne_int_str (zct I q (by simp))
  | _=>exact absurd (show false=true from hs) qV
 | str i=>
  obtain⟨t,rfl⟩:=rx
  cases y with
  | non=>cases ry;exact PySem.EqNone.ne_str_none (zct I q (by simp))
  | bl j=>cases ry;exact PySem.EqMixed.ne_str_bool (zct I q (by simp))
  | int j=>obtain⟨t',rfl⟩:=ry;exact PySem.EqMixed.ne_str_int (zct I q (by simp))
  | str j=>obtain⟨t',rfl⟩:=ry;exact ne_str (zct I q (congrArg not zacl))
  | _=>exact absurd (show false=true from hs) qV
 | byt i=>
  obtain⟨t,rfl⟩:=rx
  cases y with
  | byt j=>obtain⟨t',rfl⟩:=ry;exact PySem.W.ne_bytes (zct I q (congrArg not zaiw))
  | _=>exact absurd (show false=true from hs) qV
 | _=>cases y<;>exact absurd (show false=true from hs) qV
theorem zasj:OpR X (compareOp .Lt) (rI0 λi j=>.bl (decide (i<j))):=opB0 λ_ _ _ _ _ _ _ q=>lt_int q
theorem zbak:OpR X (compareOp .GtE) (rI0 λi j=>.bl (decide (j<=i))):=opB0 λ_ _ _ _ _ _ _ q=>ge_int q
theorem OpR.or{f:Value->Value->Sem Value}{r r':R2}(h:OpR X f r)(h':OpR X f r'):OpR X f (λx y H Q=>r x y H Q\/r' x y H Q):=by
 intro pins s σ H x y v u Q I rx ry q
 rcases q with q|q
 ·exact h pins s σ H x y v u Q I rx ry q
 ·exact h' pins s σ H x y v u Q I rx ry q
theorem zfq(b:Expr){op:CmpOp}(h:op≠.In:=by decide)(h2:op≠.NotIn:=by decide):behindInMarks op b=false:=by
 have e1:(op==CmpOp.In)=false:=by cases op<;>first|rfl|exact absurd rfl h
 have e2:(op==CmpOp.NotIn)=false:=by cases op<;>first|rfl|exact absurd rfl h2
 cases b<;>simp[behindInMarks,e1,e2]
theorem zask{op:CmpOp}{r:R2}(ho:OpR X (compareOp op) r)(ha:PE X a ta)(hb:PE X b tb)(hm:behindInMarks op b=false):PE X (.Compare a [op] [b] pos) (tOp r ta tb):=by
 intro pins s σ H Q I h
 exact wpAny_Compare1 (binT ha hb I h λv u s2 x y H2 I2 rx ry q=>ho pins s2 σ H2 x y v u Q I2 rx ry q) hm
noncomputable def tTest(t:TE):TT:=λσ H Q=>t σ H λx H'=>∃k,x=.bl k/\Q k H'
theorem zasl{op:CmpOp}{r:R2}(ho:OpR X (compareOp op) r)(ha:PE X a ta)(hb:PE X b tb)(hm:behindInMarks op b=false):PT X (.Compare a [op] [b] pos) (tTest (tOp r ta tb)):=by
 intro pins s σ H Q I h
 refine wpAny_isTrue_Compare1 (thn (ha pins s σ H _ I h) λv s1 ⟨x,H1,I1,r1,q1⟩=>thn (hb pins s1 σ H1 _ I1 q1) λu s2 ⟨y,H2,I2,r2,q2⟩=>
  thn (ho pins s2 σ H2 x y v u _ I2 r1 r2 q2) λc s3 ⟨z,H3,I3,r3,k,e,q3⟩=>?_) hm
 subst e
 cases r3
 exact qAw ⟨H3,I3,q3⟩
noncomputable def TruV(K:qC)(x:V)(H:Hp)(k:Bool):Prop:=
 match x with
 | .non=>k=false
 | .bl b=>k=b
 | .int i=>k=(i != 0)
 | .str y=>y.length<=qZ/\k=((y.length:Int) != 0)
 | .byt y=>y.size<=qZ/\k=((y.size:Int) != 0)
 | .ref p=>(∃xs,SqL K H p xs/\k=!xs.isEmpty)\/(∃xs,SqT K H p xs/\k=!xs.isEmpty)\/∃kvs,H p=some (.dK kvs)/\k=!kvs.isEmpty
 | _=>False
theorem zagn{κ:Type}{kvs:List (κ×V)}{vs:List (κ×Value)}(r:KV kvs vs):(!vs.isEmpty)=!kvs.isEmpty:=by
 cases r<;>rfl
theorem zuk{xs:List V}{its:List Value}(r:Vals xs its):(!its.toArray.isEmpty)=!xs.isEmpty:=by
 cases r<;>simp
theorem zul:(qZ:Nat)<2 ^ 63:=by rw[qCL];decide
theorem zawv:TruR X (λx H Q=>∃k,TruV X.K x H k/\Q k H):=by
 intro pins s σ H x v Q I rx h
 obtain⟨k,e,q⟩:=h
 have hl:=zul
 have hs:qZ=16777216:=qCL
 cases x with
 | non=>
  cases rx
  have e':k=false:=e
  subst e'
  exact truthy_none ⟨H,I,q⟩
 | bl b=>
  cases rx
  have e':k=b:=e
  subst e'
  exact qAw ⟨H,I,q⟩
 | int i=>
  obtain⟨t,rfl⟩:=rx
  have e':k=(i != 0):=e
  subst e'
  exact PySem.P.truthy_int ⟨H,I,q⟩
 | str y=>
  obtain⟨t,rfl⟩:=rx
  obtain⟨hy,e'⟩:y.length<=qZ/\k=((y.length:Int) != 0):=e
  subst e'
  exact PySem.P.truthy_str (by omega) ⟨H,I.tok _,q⟩
 | byt y=>
  obtain⟨t,rfl⟩:=rx
  obtain⟨hy,e'⟩:y.size<=qZ/\k=((y.size:Int) != 0):=e
  subst e'
  exact PySem.W.truthy_bytes (by omega) ⟨H,I.tok _,q⟩
 | ref p=>
  cases rx
  have e':(∃xs,SqL X.K H p xs/\k=!xs.isEmpty)\/(∃xs,SqT X.K H p xs/\k=!xs.isEmpty)\/∃kvs,H p=some (.dK kvs)/\k=!kvs.isEmpty:=e
  rcases e' with⟨xs,hx,e'⟩|⟨xs,hx,e'⟩|⟨kvs,hx,e'⟩
  ·subst e'
   obtain⟨its,r,pl,hz⟩:=I.list hx
   have hlen:=r.length
   exact wpAny_truthy_list pl.isList (by simp only[qS];omega) ⟨H,I.tok _,by rw[zuk r];exact q⟩
  ·subst e'
   obtain⟨its,r,pl,hz⟩:=I.tuple hx
   have hlen:=r.length
   exact truthy_tuple pl (by simp only[qS];omega) ⟨H,I.tok _,by rw[zuk r];exact q⟩
  ·subst e'
   obtain⟨hz,hS,vs,r,m⟩:kvs.length<=qZ/\(p==sysModules)=false/\∃vs,KV kvs vs/\s.heap.DictOf (zbt X.prog X.w) p vs:=I.hok p _ hx
   have hlen:kvs.length=vs.length:=qCR r
   exact wpAny_truthy_dict hS m (by omega) ⟨H,I.tok _,by rw[zagn r];exact q⟩
 | _=>exact(show False from e).elim
theorem zano(ha:PE X a ta)(he:∀whole,isTrue a X.env whole=(do let v <- whole;standAt a.pos;holding [v] (truthy v))) :
  PT X a (λσ H Q=>ta σ H λx H'=>∃k,TruV X.K x H' k/\Q k H'):=by
 intro pins s σ H Q I h
 exact isTrue_plain (thn (ha pins s σ H _ I h) λv s1 ⟨x,H1,I1,r1,q1⟩=>zawv pins s1 σ H1 x v Q I1 r1 q1) (he _)
theorem zago:OpR X (binaryOp .Add) (λx y H Q=>∃i j,x=.str i/\y=.str j/\i.length+j.length<=qZ/\Q (.str (i++j)) H):=by
 intro pins s σ H x y v u Q I rx ry h
 obtain⟨i,j,rfl,rfl,hz,q⟩:=h
 obtain⟨t,rfl⟩:=rx
 obtain⟨t',rfl⟩:=ry
 exact add_str (λt' tk=>⟨.str (i++j),H,I.tok _,⟨_,rfl⟩,q⟩) hz
theorem zagp{x:V}{us:List Value}(r:Vals [x] us):∃u,us=[u]/\RelV x u:=by
 cases r with
 | cons r1 r2=>cases r2;exact⟨_,rfl,r1⟩
theorem zanp{x y:V}{us:List Value}(r:Vals [x,y] us):∃u w',us=[u,w']/\RelV x u/\RelV y w':=by
 cases r with
 | cons r1 r2=>
  cases r2 with
  | cons r3 r4=>cases r4;exact⟨_,_,rfl,r1,r3⟩
theorem zaix(hc:X.calm=true):CallR X (.builtin "min") (λxs H Q=>∃i j,xs=[.int i,.int j]/\Q (.int (if j<i then j else i)) H):=by
 intro pins s σ H xs us Q I r h
 obtain⟨i,j,rfl,q⟩:=h
 obtain⟨u,w',rfl,⟨t,rfl⟩,⟨t',rfl⟩⟩:=zanp r
 refine min_two_ints (I.ok.hd hc) λh' tk k=>⟨_,H,I.kept k,?_,q⟩
 by_cases hj:j<i
 ·rw[if_pos hj,if_pos hj];exact⟨_,rfl⟩
 ·rw[if_neg hj,if_neg hj];exact⟨_,rfl⟩
noncomputable def LenV(K:qC)(x:V)(H:Hp)(n:Nat):Prop:=
 match x with
 | .str y=>y.length<=qZ/\n=y.length
 | .byt y=>y.size<=qZ/\n=y.size
 | .ref p=>(∃xs,SqL K H p xs/\n=xs.length)\/∃xs,SqT K H p xs/\n=xs.length
 | _=>False
theorem zanq:CallR X (.builtin "len") (λxs H Q=>∃x n,xs=[x]/\LenV X.K x H n/\Q (.int n) H):=by
 intro pins s σ H xs us Q I r h
 obtain⟨x,n,rfl,e,q⟩:=h
 obtain⟨u,rfl,rx⟩:=zagp r
 have hl:=zul
 have hs:qZ=16777216:=qCL
 cases x with
 | str y=>
  obtain⟨t,rfl⟩:=rx
  obtain⟨hy,e'⟩:y.length<=qZ/\n=y.length:=e
  subst e'
  exact len_str (by omega) ⟨.int _,H,I.tok _,⟨_,rfl⟩,q⟩
 | byt y=>
  obtain⟨t,rfl⟩:=rx
  obtain⟨hy,e'⟩:y.size<=qZ/\n=y.size:=e
  subst e'
  exact PySem.W.len_bytes (by omega) ⟨.int _,H,I.tok _,⟨_,rfl⟩,q⟩
 | ref p=>
  cases rx
  have e':(∃xs,SqL X.K H p xs/\n=xs.length)\/∃xs,SqT X.K H p xs/\n=xs.length:=e
  rcases e' with⟨xs,hx,e'⟩|⟨xs,hx,e'⟩
  ·subst e'
   obtain⟨its,r',pl,hz⟩:=I.list hx
   have hlen:=r'.length
   exact Calls.call_len_list pl.isList (by simp only[qS];omega) ⟨.int xs.length,H,I.tok _,⟨_,by simp only[qS];rw[hlen]⟩,q⟩
  ·subst e'
   obtain⟨its,r',pl,hz⟩:=I.tuple hx
   have hlen:=r'.length
   exact len_tuple pl (by simp only[qS];omega) ⟨.int xs.length,H,I.tok _,⟨_,by simp only[qS];rw[hlen]⟩,q⟩
 | _=>exact(show False from e).elim
end
set_option genInjectivity false in
structure ObjM(h:Heap)(x dx C:Addr)(mA:Str->Option Value):Prop where
 obj:h.get? x=some (PySem.W.instObj C dx)
 ns:h.Ns1 dx mA
 ne:dx≠x
theorem zaiy{h:Heap}{dx:Addr}{mA:Str->Option Value}(n:h.Ns1 dx mA):∃od,h.get? dx=some od/\∀name,PySem.W.lookIn name od=some (mA name):=by
 obtain⟨o,es,ep,ho,hd,hk,_,hm⟩:=n
 refine⟨o,ho,λname=>?_⟩
 have e:=hm name
 unfold nsFind findBy at e
 rw[<- Array.find?_toList]at e
 unfold PySem.W.lookIn
 rw[hd]
 dsimp only
 split
 ·rename_i y q
  rw[q]at e
  exact congrArg some e
 ·rename_i q
  rw[q]at e
  have a:es.toList.any (·.refKey)=false:=by
   rw[List.any_eq_false]
   intro y hy
   obtain⟨z,t,hkey⟩:=hk y (Array.mem_toList_iff.mp hy)
   simp[DictEntry.refKey,hkey]
  have a':¬es.toList.any (·.refKey)=true:=by rw[a];exact qV
  rw[if_neg a']
  exact congrArg some e
theorem ObjM.look{h:Heap}{x dx C:Addr}{mA:Str->Option Value}(I:ObjM h x dx C mA):∃od,PySem.W.InstAt h x (PySem.W.instObj C dx) C (some od)/\∀name,PySem.W.lookIn name od=some (mA name):=
 let⟨od,ho,hl⟩:=zaiy I.ns
 ⟨od,⟨I.obj,rfl,rfl,ho⟩,hl⟩
theorem RelO.some_of{v:V}{o:Option Value}(r:RelO (some v) o):∃u,o=some u/\RelV v u:=by
 cases o with
 | none=>exact(show False from r).elim
 | some u=>exact⟨u,rfl,r⟩
section
variable{P:Program}{w:World}{H H':Hp}{h h':Heap}{a C dx:Addr}{fs fs':List (Str×V)}
theorem zasm(hok:HOk P w H h)(e:H a=some (.ins C dx fs)):∃mA,ObjM h a dx C mA/\(∀f,RelO (fs.lookup f) (mA f))/\PySem.Within mA (fs.map (·.1))/\fs.length<=1000/\H dx=some (.own a):=by
 obtain⟨d,z,ne,ob,mA,n,r,q⟩:=(show zes P w H h a (.ins C dx fs)from hok a _ e)
 exact⟨mA,⟨ob,n,ne⟩,r,q,z,d⟩
end
set_option genInjectivity false in
structure Cls(K:qC)(C:Addr):Prop where
 pg:PySem.W.plainGet K C Str.empty=true
 hd:PySem.W.hasDictIn K C=true
 po:PySem.W.plainOver K C=true
 sa:PySem.W.findIn K (.ref C) "__setattr__"=some (some (.builtin "object.__setattr__"))
theorem Cls.get{K:qC}{C:Addr}(c:Cls K C)(f:Str):PySem.W.plainGet K C f=true:=c.pg
set_option genInjectivity false in
set_option genInjectivity false in
section
variable{X:Cx}{pins:List (Addr×Obj)}{σ:St}{H:Hp}{s:Shared}{a C dx:Addr}{fs:List (Str×V)}{f:Str}{v:V}{A:Around}{E:Value->Shared->Prop}
end
section
variable{X:Cx}{pins:List (Addr×Obj)}{σ:St}{H:Hp}{s:Shared}{A:Around}{E:Value->Shared->Prop}{Q:Value->Shared->Prop}{c:Value}{b:Bool}
inductive TyOf(K:qC)(H:Hp):V->Value->Prop where
 | non:TyOf K H .non (.type "NoneType")
 | bl (x:Bool):TyOf K H (.bl x) (.type "bool")
 | int (i:Int):TyOf K H (.int i) (.type "int")
 | str (x:Str):TyOf K H (.str x) (.type "str")
 | flt (x:UInt64):TyOf K H (.flt x) (.type "float")
 | lst {a:Addr} {xs:List V} (e:H a=some (.lst xs)):TyOf K H (.ref a) (.type "list")
 | frz {a:Addr} {o:Obj} {xs:List V} (e:H a=some (.frz o (.lst xs))):TyOf K H (.ref a) (.type "list")
 | tup {a:Addr} {xs:List V} (e:H a=some (.tup xs)):TyOf K H (.ref a) (.type "tuple")
 | dK {a:Addr} {kvs:List (Key×V)} (e:H a=some (.dK kvs)):TyOf K H (.ref a) (.type "dict")
 | dT {a:Addr} {kvs:List (List Key×V)} (e:H a=some (.dT kvs)):TyOf K H (.ref a) (.type "dict")
 | ins {a C dx:Addr} {fs:List (Str×V)} (e:H a=some (.ins C dx fs)) (cl:Cls K C) (ha:PySem.W.findIn K (.ref C) "__class__"=some (some (.builtin "object.__class__")))
   (hn:PySem.W.specialIn K (.builtin "object.__class__") "__get__"=some (some (.builtin "getset_descriptor.__get__")))(htk:PySem.W.takesIn K (.builtin "object.__class__")=some true)
   (hm:PySem.W.mroIn K C (.type "object")=some true):TyOf K H (.ref a) (.ref C)
theorem zaiz {x:V} {u t:Value} (I:Inv X pins σ H s) (rx:RelV x u) (ty:TyOf X.K H x t) (e:PySem.W.kitOne X.K t c=some b) (h:∀tk,Q (.bool b) {s with toks:=tk}) :
  wpAny (model X.prog X.w) A (call (.builtin "isinstance") [u,c]) Q E s:=by
 cases ty with
 | non=>cases(show u=Value.none from rx);exact qAa PySem.W.kitx_none I.kIn True.intro e (λz=>nomatch z) h
 | bl y=>cases(show u=Value.bool y from rx);exact qAa PySem.W.kitx_bool I.kIn True.intro e (λz=>nomatch z) h
 | int i=>obtain⟨t,q⟩:=(show ∃t,u=Value.int i t from rx);cases q;exact qAa PySem.W.kitx_int I.kIn True.intro e (λz=>nomatch z) h
 | str y=>obtain⟨t,q⟩:=(show ∃t,u=Value.str y t from rx);cases q;exact qAa PySem.W.kitx_str I.kIn True.intro e (λz=>nomatch z) h
 | flt y=>obtain⟨t,q⟩:=(show ∃t,u=Value.float y t from rx);cases q;exact qAa PySem.W.kitx_float I.kIn True.intro e (λz=>nomatch z) h
 | @lst a xs ea=>
  cases(show u=Value.ref a from rx)
  obtain⟨_,_,n,_,h1⟩:=(show zes X.prog X.w H s.heap a (.lst xs)from I.hok a _ ea)
  exact qAa qDB I.kIn ⟨_,h1,rfl⟩ e (λz=>nomatch z) h
 | @frz a ob xs ea=>
  cases(show u=Value.ref a from rx)
  obtain⟨_,_,_,n,_,h1⟩:=(show zes X.prog X.w H s.heap a (.frz ob (.lst xs))from I.hok a _ ea)
  exact qAa qDB I.kIn ⟨_,h1,rfl⟩ e (λz=>nomatch z) h
 | @tup a xs ea=>
  cases(show u=Value.ref a from rx)
  obtain⟨_,_,_,p⟩:=(show zes X.prog X.w H s.heap a (.tup xs)from I.hok a _ ea)
  obtain⟨o,h1,h2,_⟩:=p
  exact qAa PySem.W.kitx_tuple I.kIn ⟨o,h1,h2⟩ e (λz=>nomatch z) h
 | @dK a kvs ea=>
  cases(show u=Value.ref a from rx)
  obtain⟨_,_,vs,_,p⟩:=(show zes X.prog X.w H s.heap a (.dK kvs)from I.hok a _ ea)
  obtain⟨o,es,ep,h1,h2,_⟩:=p
  exact qAa qDC I.kIn ⟨o,h1,h2.1⟩ e (λz=>nomatch z) h
 | @dT a kvs ea=>
  cases(show u=Value.ref a from rx)
  obtain⟨_,_,xs,_,o,es,ep,h1,h2,_⟩:=(show zes X.prog X.w H s.heap a (.dT kvs)from I.hok a _ ea)
  exact qAa qDC I.kIn ⟨o,h1,h2.1⟩ e (λz=>nomatch z) h
 | @ins a C dx fs ea cl ha hn htk hm=>
  cases(show u=Value.ref a from rx)
  obtain⟨mA,O,_⟩:=zasm I.hok ea
  obtain⟨od,J,_⟩:=O.look
  exact qAa (PySem.W.kitx_own (cl.get _) cl.hd ha hn htk hm) I.kIn J e (λz=>nomatch z) h
end
set_option genInjectivity false in
structure Room(k:Nat)(A:Around):Prop where
 hd:A.handled=none
 dp:A.depth+3 * k+5<recursionLimit
 un:A.units+16 * k+200<cLine
 gd:A.guards=some []
theorem Room.mono{j k:Nat}{A:Around}(r:Room k A)(h:j<=k):Room j A:=⟨r.hd,by have:=r.dp;omega,by have:=r.un;omega,r.gd⟩
theorem Room.deeper{k:Nat}{A:Around}(r:Room (k+1) A)(env:Env):Room k (A.deeper env):=
 ⟨r.hd,by have:=r.dp;show A.depth+1+3 * k+5<_;omega,by have:=r.un;show A.units+3+16 * k+200<_;omega,r.gd⟩
theorem Room.in1{k:Nat}{A:Around}(r:Room (k+1) A):Room k A.in1:=
 ⟨r.hd,by have:=r.dp;show A.depth+3 * k+5<_;omega,by have:=r.un;show A.units+1+16 * k+200<_;omega,r.gd⟩
theorem Room.depth{k:Nat}{A:Around}(r:Room k A):A.depth<recursionLimit:=by have:=r.dp;omega
theorem Room.units{k:Nat}{A:Around}(r:Room k A):A.units+64<cLine:=by have:=r.un;omega
noncomputable def tNil:TA:=λ_ H Q=>Q [] H
noncomputable def tCons(ta:TE)(tr:TA):TA:=λσ H Q=>ta σ H λx H1=>tr σ H1 λxs H2=>Q (x::xs) H2
section
variable{X:Cx}{e:Expr}{es:List Expr}{te:TE}{t:TA}{pos:Pos}
theorem zaww:PA X [] tNil:=λ_ _ _ _ H Q I h=>qA3 ⟨[],H,I,.nil,h⟩
theorem zasn(ha:PE X e te)(hr:PA X es t)(hs:starEach (e::es) X.env=(false,eval e X.env)::starEach es X.env:=by rfl):PA X (e::es) (tCons te t):=by
 intro pos pins s σ H Q I h
 rw[hs]
 show wpAny _ _ (spliced ((false,eval e X.env)::backTo pos (starEach es X.env))) _ _ s
 refine qAy (thn (ha pins s σ H _ I h) λu s1 ⟨x,H1,I1,r1,q1⟩=>?_)
 exact thn (hr pos pins s1 σ H1 _ I1 q1) λus s2 ⟨xs,H2,I2,r2,q2⟩=>⟨x::xs,H2,I2,.cons r1 r2,q2⟩
noncomputable def tTup(t:TA):TE:=λσ H Q=>t σ H λxs H1=>xs.length<=qZ/\∀p,H1 p=none->Q (.ref p) (upd H1 p (.tup xs))
noncomputable def tLst(t:TA):TE:=λσ H Q=>t σ H λxs H1=>xs.length<=qZ/\∀p,H1 p=none->Q (.ref p) (upd H1 p (.lst xs))
theorem zawx{x1}(h:PA X es t):PE X (.Tuple es x1 pos) (tTup t):=by
 intro pins s σ H Q I hq
 refine wpAny_Tuple_spliced (thn (h pos pins s σ H _ I hq) λus s1 ⟨xs,H1,I1,r,z,q⟩=>⟨by rw[<- r.length];exact z,?_⟩)
 have hf:H1 s1.heap.objs.size=none:=I1.hok.fresh (qN _)
 refine⟨.ref s1.heap.objs.size,upd H1 s1.heap.objs.size (.tup xs),I1.laid (t':=s1.toks) (λb u e=>qE _ e) (qN _) ?_,rfl,q _ hf⟩
 exact⟨z,us,r,⟨_,qW _ rfl,rfl,_,rfl⟩⟩
theorem zawy(h:PA X es t):PE X (.List es pos) (tLst t):=by
 intro pins s σ H Q I hq
 refine wpAny_List_spliced (thn (h pos pins s σ H _ I hq) λus s1 ⟨xs,H1,I1,r,z,q⟩=>⟨by rw[<- r.length];exact z,?_⟩)
 have hf:H1 s1.heap.objs.size=none:=I1.hok.fresh (qN _)
 refine⟨.ref s1.heap.objs.size,upd H1 s1.heap.objs.size (.lst xs),I1.laid (t':=s1.toks) (λb u e=>qE _ e) (qN _) ?_,rfl,q _ hf⟩
 exact⟨z,us,0,r,qW _ rfl⟩
end
noncomputable abbrev Sp:=List V->Hp->VK->XK->Prop
noncomputable abbrev CXT:=List Env->Hp->Shared->XK->Value->Shared->Prop
set_option genInjectivity false in
structure Env0(P:Program)(w:World)(K:qC)(mg:Str->Option Value)(base:Heap)(A:Around)(outer:List Env)(s:Shared)(H:Hp):Prop where
 frames:A.frames=some outer
 mod:Mod K mg base
 bs:∀b o,base.get? b=some o->s.heap.get? b=some o/\H b=none
 bsz:base.objs.size<=s.heap.objs.size
 funs:s.heap.FunFrames base outer
 frf:∀b∈frs outer,H b=none
 hok:HOk P w H s.heap
 bare:AllBare s.gens
noncomputable def CE(outer:List Env)(P:Program)(w:World)(H:Hp)(s:Shared)(Q:VK)(u:Value)(s':Shared):Prop:=
 ∃v H',s'.os=s.os/\AllBare s'.gens/\Un (frs outer) [] H H' s.heap s'.heap/\HOk P w H' s'.heap/\RelV v u/\Q v H'
noncomputable def CR(CX:CXT)(outer:List Env)(P:Program)(w:World)(H:Hp)(s:Shared)(Q:VK)(E:XK)(r:Result)(s':Shared):Prop:=
 match r with
 | .ok (.ret u)=>CE outer P w H s Q u s'
 | .ok _=>False
 | .error e=>CX outer H s E e s'
set_option genInjectivity false in
structure FnOk(P:Program)(w:World)(K:qC)(mg:Str->Option Value)(base:Heap)(CX:CXT)(k:Nat)(f:Addr)(fd:qr)(ps:List Str)(sp:Sp):Prop where
 len:∀vs H Q E,sp vs H Q E->vs.length=ps.length
 run:∀(A:Around)(outer:List Env)(s:Shared)(H:Hp)(args:Args)(us:List Value)(vs:List V)(Q:VK)(E:XK),Room k A->Env0 P w K mg base A outer s H->BindsTo s fd args (ps.zip us)->Vals vs us->sp vs H Q E->
  codeAny (model P w) A (.call (.ref f) args) (CR CX outer P w H s Q E) s
theorem Env0.in1{P:Program}{w:World}{K:qC}{mg:Str->Option Value}{base:Heap}{A:Around}{outer:List Env}{s:Shared}{H:Hp}(e:Env0 P w K mg base A outer s H) :
  Env0 P w K mg base A.in1 outer s H:=⟨e.frames,e.mod,e.bs,e.bsz,e.funs,e.frf,e.hok,e.bare⟩
section
variable{X:Cx}{pins:List (Addr×Obj)}{σ:St}{H:Hp}{s s':Shared}
theorem Inv.env0(I:Inv X pins σ H s):Env0 X.prog X.w X.K X.mg X.base X.A X.stack s H:=
 ⟨I.ok.frames,I.ok.mod,I.bs,qAA I.ok.bsz I.sz,I.stack,I.stkFree,I.hok,I.bare⟩
theorem Inv.after{Q:VK}{u:Value}(I:Inv X pins σ H s)(h:CE X.stack X.prog X.w H s Q u s'):EP X pins σ Q u s':=by
 obtain⟨v,H',os,bare,un,hok,r,q⟩:=h
 obtain⟨hh,g,d,t,os'⟩:=s'
 obtain rfl:os'=s.os:=os
 exact⟨v,H',I.call (h':=hh) (g':=g) (d':=d) (t':=t) (ch:=[]) un hok bare (λb z=>absurd z (by simp)),r,q⟩
end
noncomputable def tCall(sp:Sp)(dvs:List V)(E:XK)(t:TA):TE:=λσ H Q=>t σ H λvs H1=>sp (vs++dvs) H1 Q E
noncomputable def zrl(K:qC)(fd:qr)(ps:List Str)(ds:List Value):Prop:=
 ∀(s:Shared)(us:List Value),K.In s.heap->(us++ds).length=ps.length->BindsTo s fd ⟨us,[]⟩ (ps.zip (us++ds))
theorem zrl.all{K:qC}{fd:qr}{ps:List Str}(h:∀us:List Value,us.length=ps.length->bindArgs fd ⟨us,[]⟩=pure (ps.zip us)):zrl K fd ps []:=λs us _ hl=>by
 rw[qAD]at hl ⊢
 exact .of_eq (h us hl)
noncomputable def zaja(CX:CXT)(X:Cx)(E:XK):Prop:=∀(pins:List (Addr×Obj))(σ:St)(H:Hp)(s:Shared)(e:Value)(s':Shared),Inv X pins σ H s->CX X.stack H s E e s'->X.xe e s'
section
variable{X:Cx}{CX:CXT}{k:Nat}{f C:Addr}{fd:qr}{ps:List Str}{sp:Sp}{dvs:List V}{ds:List Value}{E:XK}{x m:Str}{p pos apos:Pos}{e o:Expr}{es:List Expr}{ta:TE}{t:TA}
theorem zawz{pins:List (Addr×Obj)}{σ:St}{H:Hp}{s:Shared}{Q:VK}{us:List Value}{vs:List V}(F:FnOk X.prog X.w X.K X.mg X.base CX k f fd ps sp)(hr:Room k X.A)(hb:zrl X.K fd ps ds)(hd:Vals dvs ds)(hx:zaja CX X E)
  (I:Inv X pins σ H s) (r:Vals vs us) (h:sp (vs++dvs) H Q E):wpAny (model X.prog X.w) X.A (call (.ref f) us) (EP X pins σ Q) X.xe s:=by
 have r2:Vals (vs++dvs) (us++ds):=r.append hd
 have hl:(us++ds).length=ps.length:=by rw[<- r2.length];exact F.len _ _ _ _ h
 refine wpAny_call (qBX (F.run X.A X.stack s H ⟨us,[]⟩ (us++ds) (vs++dvs) Q E hr I.env0 (hb s us I.kIn hl) r2 h) λr s' hq=>?_)
 cases r with
 | error e=>exact hx pins σ H s e s' I hq
 | ok fl=>
  cases fl with
  | ret u=>exact I.after hq
  | next=>exact False.elim hq
  | brk=>exact False.elim hq
  | cont=>exact False.elim hq
theorem zaso(F:FnOk X.prog X.w X.K X.mg X.base CX k f fd ps sp)(hr:Room k X.A)(hg:Gl X x)(hm:X.mg x=some (.ref f))(hk:qBY X.K (.ref f)=true)(hb:zrl X.K fd ps ds)(hd:Vals dvs ds)(hx:zaja CX X E)
  (ha:PA X (e::es) t)(hdb:(x==("__debug__":Str))=false:=by decide)(he:starEach (e::es) X.env=(false,eval e X.env)::starEach es X.env:=by rfl)(hpl:(backTo pos (starEach es X.env)).any (·.1)=false:=by rfl) :
  PE X (.Call (.Name x p) (e::es) [] pos) (tCall sp dvs E t):=by
 intro pins s σ H Q I h
 refine qAi (zasb I hg hm ?_ hdb)
 refine PySem.W.callWith_K (h₀:=X.base) I.ok.mod.kin hk (thn (ha pos pins s σ H _ I h) λus s1 ⟨vs,H1,I1,r,q⟩=>⟨I1.kIn,?_⟩) he hpl
 exact zawz F hr hb hd hx I1 r q
set_option genInjectivity false in
end
section
variable{X:Cx}{CX:CXT}{k:Nat}{f C:Addr}{fd:qr}{ps ks:List Str}{sp:Sp}{E:XK}{x m:Str}{p pos apos kpos:Pos}{e o:Expr}{es:List Expr}{kws:List Keyword}{te ta:TE}{t tk:TA}{nm:Option Str}
set_option genInjectivity false in
variable{g:List Value->List Value->List Value}{gV:List V->List V->List V}
end
set_option genInjectivity false in
structure FnScope(N P:List Str)(sc:Scope):Prop where
 kind:sc.kind=.function
 co:sc.isCoroutine=false
 gen:sc.isGenerator=false
 nd:N.Nodup
 pre:N.take P.length=P
 par:∀x∈P,sc.names.lookup x=some .local\/sc.names.lookup x=some .cell
 nofree:∀y∈sc.names,y.2≠.free
theorem zyz{kindOf:Str->Option NameKind}{x:Str}:∀{binds:List (Str×Value)}{m:Str->Option Value},(∀v,(x,v)∉binds)->bindL kindOf binds m x=m x
 | [],_,_=>rfl
 | (n,v)::r,m,h=>by
  unfold bindL
  rw[zyz λw hw=>h w (qL _ hw)]
  split
  ·have:x≠n:=by rintro rfl;exact h v qR
   simp[this]
  ·rfl
theorem zza{kindOf:Str->Option NameKind}{x:Str}:∀{binds:List (Str×Value)}{m:Str->Option Value},(∀v,(x,v)∉binds)->bindC kindOf binds m x=m x
 | [],_,_=>rfl
 | (n,v)::r,m,h=>by
  unfold bindC
  rw[zza λw hw=>h w (qL _ hw)]
  split
  ·rfl
  ·have:x≠n:=by rintro rfl;exact h v qR
   simp[this]
theorem zzb{kindOf:Str->Option NameKind}{x:Str}{v:Value}:∀{P:List Str}{vs:List Value}{i:Nat}{m:Str->Option Value},P.Nodup->P[i]?=some x->vs[i]?=some v->kindOf x=some .local->
  bindL kindOf (P.zip vs) m x=some v
 | [],_,_,_,_,h,_,_=>by simp at h
 | _::_,[],_,_,_,_,h,_=>by simp at h
 | p::P,w::vs,0,m,nd,h1,h2,hk=>by
  simp at h1 h2;subst h1;subst h2
  show bindL kindOf ((p,w)::P.zip vs) m p=_
  unfold bindL
  rw[zyz λv hv=>(qAs.mp nd).1 (qBm hv).1,if_pos hk]
  simp
 | p::P,w::vs,i+1,m,nd,h1,h2,hk=>by
  show bindL kindOf ((p,w)::P.zip vs) m x=_
  unfold bindL
  exact zzb (i:=i) (qAs.mp nd).2 (by simpa using h1) (by simpa using h2) hk
theorem zzc{kindOf:Str->Option NameKind}{x:Str}{v:Value}:∀{P:List Str}{vs:List Value}{i:Nat}{m:Str->Option Value},P.Nodup->P[i]?=some x->vs[i]?=some v->kindOf x≠some .local->
  bindC kindOf (P.zip vs) m x=some v
 | [],_,_,_,_,h,_,_=>by simp at h
 | _::_,[],_,_,_,_,h,_=>by simp at h
 | p::P,w::vs,0,m,nd,h1,h2,hk=>by
  simp at h1 h2;subst h1;subst h2
  show bindC kindOf ((p,w)::P.zip vs) m p=_
  unfold bindC
  rw[zza λv hv=>(qAs.mp nd).1 (qBm hv).1,if_neg hk]
  simp
 | p::P,w::vs,i+1,m,nd,h1,h2,hk=>by
  show bindC kindOf ((p,w)::P.zip vs) m x=_
  unfold bindC
  exact zzc (i:=i) (qAs.mp nd).2 (by simpa using h1) (by simpa using h2) hk
noncomputable def zfo(N:List Str)(vs:List V):St:=vs.map some++List.replicate (N.length - vs.length) none
noncomputable def cxOf(CX:CXT)(P:Program)(w:World)(K:qC)(mg:Str->Option Value)(base:Heap)(N:List Str)(qual:Str)(scope:Scope)(f:Addr)(cd:Value)(A:Around)(outer:List Env)(s:Shared)(H:Hp)(E:XK):Cx where
 prog:=P
 w:=w
 K:=K
 mg:=mg
 base:=base
 A:=A.deeper (envOfC qual scope s.heap.objs.size f cd)
 N:=N
 s₀:=s
 H₀:=H
 env:=envOfC qual scope s.heap.objs.size f cd
 outer:=outer
 stack:=envOfC qual scope s.heap.objs.size f cd::outer
 ex:=[]
 calm:=true
 fn:=λ_=>true
 pn:=[]
 xe:=λe s'=>wpAny (model P w) (A.deeper (envOfC qual scope s.heap.objs.size f cd)) (leaving (envOfC qual scope s.heap.objs.size f cd) e) (λ_ s''=>CX outer H s E e s'') (λe' s''=>CX outer H s E e' s'') s'
theorem zwi{sc:Scope}{n:Nat}{x:Str}(h:sc.names.lookup x=some .cell):∃c,(cellsFrom n sc.names []).lookup x=some c:=by
 have q:=qB1 sc.names n [] (.inl h)
 exact Option.isSome_iff_exists.mp q
theorem zzd{CX:CXT}{P:Program}{w:World}{K:qC}{mg:Str->Option Value}{base:Heap}{N ps:List Str}{qual:Str}{scope:Scope}{f:Addr}{cd:Value}{A:Around}{outer:List Env}{s s1:Shared}{H:Hp}{E:XK}{us:List Value}{vs:List V}
  (S:FnScope N ps scope)(hd:A.handled=none)(e0:Env0 P w K mg base A outer s H)(hl:vs.length=ps.length)(r:Vals vs us)
  (x:InCallC s s.heap.objs.size (bindL (envOfC qual scope s.heap.objs.size f cd).kindOf (ps.zip us) λ_=>none) (cellsFrom (s.heap.objs.size+1) scope.names []) (bindC (envOfC qual scope s.heap.objs.size f cd).kindOf (ps.zip us) λ_=>none) s1) :
  Inv (cxOf CX P w K mg base N qual scope f cd A outer s H E) [] (zfo N vs) H s1:=by
 have hpl:ps.length<=N.length:=by have:=congrArg List.length S.pre;rw[qBj]at this;omega
 obtain⟨h1,tk,rfl,hk⟩:=x.done
 have noA:∀b:Addr,b∉(cxOf CX P w K mg base N qual scope f cd A outer s H E).ex:=λb z=>absurd (show b∈([]:List Addr)from z) (by simp)
 refine⟨⟨e0.mod,S.kind,rfl,rfl,qN _,λy z c h1 h2=>?_,λy hy=>?_,λy c _ h=>?_,λ_=>hd,qC6 e0.frames,.inr ⟨rfl,rfl⟩,λb z=>absurd z (noA b),e0.bs,e0.bsz,λb _ _=>noA b,λb z=>absurd z (noA b),e0.funs,e0.frf⟩,
  rfl,e0.bare,Un.kept hk,⟨_,x.toInCall.ns,λi y v h1 h2 h3=>?_⟩,λy c h=>⟨_,x.cell y c h⟩,e0.hok.fresh (qN _),λy c h=>?_,λp hp=>absurd (show p∈([]:List (Addr×Obj))from hp) (by simp),e0.hok.kept hk,?_⟩
 ·exact name_of_addr x.apart (qx h1) (qx h2)
 ·have hy:scope.names.lookup y=some .cell\/scope.names.lookup y=some .free:=hy
  rcases hy with hy|hy
  ·exact zwi hy
  ·exact absurd rfl (S.nofree _ (qx hy))
 ·exact qBu (x.above y c (qx h))
 ·have hi:i<vs.length:=by
   unfold zfo at h2
   by_cases hi:i<vs.length
   ·exact hi
   ·rw[qp (by simpa using hi)]at h2
    rw[qB6]at h2
    split at h2<;>cases h2
  have ha:vs[i]?=some v:=by
   unfold zfo at h2
   rw[qk (by simpa using hi),qh]at h2
   cases e:vs[i]? with
   | none=>rw[e]at h2;cases h2
   | some a=>rw[e]at h2;cases h2;rfl
  obtain⟨u,hu,rv⟩:=r.get ha
  have hp:ps[i]?=some y:=by
   rw[<- S.pre,List.getElem?_take_of_lt (by omega)];exact h1
  have ndP:ps.Nodup:=by rw[<- S.pre];exact S.nd.sublist (List.take_sublist _ _)
  refine⟨u,rv,?_⟩
  rcases S.par y (qAe hp)with k|k
  ·exact .inl ⟨k,zzb ndP hp hu k⟩
  ·obtain⟨c,e⟩:=zwi (n:=s.heap.objs.size+1) k
   refine .inr ⟨.inl k,c,e,?_⟩
   have q:=x.cell y c e
   rw[zzc ndP hp hu (by show scope.names.lookup y≠_;rw[k];decide)]at q
   exact q
 ·exact e0.hok.fresh (qBu (x.above y c (qx h)))
 ·unfold zfo
  show _=N.length
  rw[qK,qG,qBg]
  omega
theorem zbal{CX:CXT}{P:Program}{w:World}{K:qC}{mg:Str->Option Value}{base:Heap}{k:Nat}{f:Addr}{name qual:Str}{params:Arguments}{body:List Stmt}{scope:Scope}{dV kV doc pm cdv ct oc:Value}{an od:Option Addr}
  {osl:Array (Option Value)}{N ps:List Str}{sp:Sp}(lk:K.lookup f=some ⟨oc,od,.func (qAq name qual params body scope dV kV doc pm an cdv ct),osl⟩)(hcd:qCE K cdv qual=true)(S:FnScope N ps scope)
  (len:∀vs H Q E,sp vs H Q E->vs.length=ps.length)
  (hbody:∀(A:Around)(outer:List Env)(s:Shared)(H:Hp)(vs:List V)(Q:VK)(E:XK),Room k (A.deeper (envOfC qual scope s.heap.objs.size f cdv))->sp vs H Q E->
   ∃t,PSs (cxOf CX P w K mg base N qual scope f cdv A outer s H E) body t/\t {nx:=λ_ H'=>Q .non H',rt:=Q} (zfo N vs) H) :
  FnOk P w K mg base CX (k+1) f (qAq name qual params body scope dV kV doc pm an cdv ct) ps sp:=by
 refine⟨len,λA outer s H args us vs Q E hr e0 hb r hsp=>?_⟩
 have hl:=len _ _ _ _ hsp
 have KX:K.In s.heap:=e0.mod.kin.keeps λb o e=>(e0.bs b o e).1
 have lim:s.heap.NoLimit:=e0.mod.nolimit.keeps λb o e=>(e0.bs b o e).1
 have hkind:∀y∈ps.zip us,scope.names.lookup y.1=some .local\/(scope.names.lookup y.1=some .cell/\((cellsFrom (s.heap.objs.size+1) scope.names []).lookup y.1).isSome=true):=λ⟨n,v⟩ hy=>by
  rcases S.par n (qBm hy).1 with q|q
  ·exact .inl q
  ·exact .inr ⟨q,qB1 _ _ _ (.inl q)⟩
 refine codeAny_call_function hr.depth (KX _ _ lk) rfl S.co S.gen rfl (qC8 KX hcd) (hb _ _ _ _ ?_)
 refine qC7 S.kind hkind λenv he s1 x=>?_
 subst he
 refine⟨lim.keeps x.toInCall.keep,codeAny_func ?_⟩
 obtain⟨t,ht,hq⟩:=hbody A outer s H vs Q E (hr.deeper _) hsp
 have I:Inv (cxOf CX P w K mg base N qual scope f cdv A outer s H E) [] (zfo N vs) H s1:=zzd S hr.hd e0 hl r x
 refine qBN (ht [] s1 (zfo N vs) H _ I hq) (λfl s' hs=>?_) λe s' hs=>hs
 have fin:∀{σ':St}{H':Hp}{v:V}{u:Value},Inv (cxOf CX P w K mg base N qual scope f cdv A outer s H E) [] σ' H' s'->RelV v u->Q v H'->CE outer P w H s Q u s':=
  λ{σ' H' v u} J rv q=>⟨v,H',J.os,J.bare,J.base,J.hok,rv,q⟩
 cases fl with
 | ret u=>
  obtain⟨v,σ',H',J,rv,q⟩:=hs
  exact fin J rv q
 | next=>
  obtain⟨σ',H',J,q⟩:=hs
  exact fin (v:=V.non) (u:=Value.none) J rfl q
 | brk=>
  obtain⟨_,_,_,q⟩:=hs
  exact False.elim q
 | cont=>
  obtain⟨_,_,_,q⟩:=hs
  exact False.elim q
section
variable{X:Cx}{x:Str}{p pos:Pos}{e:Expr}{es:List Expr}{t:TA}{id T:String}{r:List V->Hp->VK->Prop}
noncomputable def tCB(r:List V->Hp->VK->Prop)(t:TA):TE:=λσ H Q=>t σ H λvs H1=>r vs H1 Q
theorem zanr(hc:CallR X (.builtin id) r)(hg:Gl X x)(hm:X.mg x=none)(hv:bootBuiltins x=some (.builtin id))(ha:PA X (e::es) t)(hn:x≠"__name__":=by decide)(hdb:(x==("__debug__":Str))=false:=by decide)
  (he:starEach (e::es) X.env=(false,eval e X.env)::starEach es X.env:=by rfl) (hpl:(backTo pos (starEach es X.env)).any (·.1)=false:=by rfl):PE X (.Call (.Name x p) (e::es) [] pos) (tCB r t):=by
 intro pins s σ H Q I h
 refine qAi (zia I hg hm hv ?_ hn hdb)
 exact PyProof.Rows.callWith_builtin1 (thn (ha pos pins s σ H _ I h) λus s1 ⟨vs,H1,I1,r1,q1⟩=>hc pins s1 σ H1 vs us Q I1 r1 q1) he hpl
theorem zajb(hc:CallR X (.type T) r)(hg:Gl X x)(hm:X.mg x=none)(hv:bootBuiltins x=some (.type T))(ha:PA X (e::es) t)(hn:x≠"__name__":=by decide)(hdb:(x==("__debug__":Str))=false:=by decide)
  (he:starEach (e::es) X.env=(false,eval e X.env)::starEach es X.env:=by rfl) (hpl:(backTo pos (starEach es X.env)).any (·.1)=false:=by rfl):PE X (.Call (.Name x p) (e::es) [] pos) (tCB r t):=by
 intro pins s σ H Q I h
 refine qAi (zia I hg hm hv ?_ hn hdb)
 exact qBZ (thn (ha pos pins s σ H _ I h) λus s1 ⟨vs,H1,I1,r1,q1⟩=>hc pins s1 σ H1 vs us Q I1 r1 q1) he hpl
end
end L2
namespace HT
open PySem PyProof.Rows
section
open PySem.SeqAt
open PySem.AutoSeq1 (wpAny_loadPart')
open PySem.MeetsSeq PySem.MeetsSeq2 PySem.MeetsSeq3
end
section
variable{prog:Program}{w:World}{A:Around}{E:Value->Shared->Prop}{s:Shared}
theorem cat_tup{t b:Addr}{vs ws:List Value}{Q:Value->Shared->Prop}(ht:IsTup s.heap t vs.toArray)(hb:IsTup s.heap b ws.toArray)(hv:vs≠[])
  (h1:ws=[]->Q (.ref t) s) (h2:ws≠[]->Q (.ref s.heap.objs.size) {s with heap:=s.heap.push {cls:=.type "tuple",data:=.seq (vs++ws).toArray}})
  (hsz:vs.length+ws.length<=qZ):wpAny (model prog w) A (binaryOp .Add (.ref t) (.ref b)) Q E s:=by
 obtain⟨⟨cls,dd,data,sl⟩,ho,hc,n,hd⟩:=id ht
 obtain⟨⟨cls2,dd2,data2,sl2⟩,ho2,hc2,n2,hd2⟩:=id hb
 simp only at hc hd hc2 hd2
 subst hc hd hc2 hd2
 have e:vs.toArray++ws.toArray=(vs++ws).toArray:=by simp
 by_cases hw:ws=[]
 ·exact concat_meets ⟨_,ho,rfl⟩ ⟨_,ho2,rfl⟩ qCs seq_tuple_add qB3 qBz (qBs _ _)
   (tuple_addW1 t b vs.toArray ws.toArray n n2 dd dd2 sl sl2 (by simpa using hv) (by simp[hw])) ⟨ho,ho2,h1 hw⟩
 ·refine concat_meets ⟨_,ho,rfl⟩ ⟨_,ho2,rfl⟩ qCs seq_tuple_add qB3 qBz (qBs _ _)
   (tuple_addW2 t b vs.toArray ws.toArray n n2 dd dd2 sl sl2 (by simpa using hv) (by simpa using hw) (by rw[qS,qS];exact hsz)) ⟨ho,ho2,?_⟩
  rw[e]
  exact h2 hw
noncomputable def sIx(n d:Nat):Option Int->Nat
 | none=>d
 | some v=>if v<0 then(v+(n:Int)).toNat else min v.toNat n
theorem sIx_nat(n d k:Nat):sIx n d (some (k:Int))=min k n:=by
 show(if(k:Int)<0 then((k:Int)+(n:Int)).toNat else min (k:Int).toNat n)=min k n
 rw[if_neg (by omega),qBf]
end
end HT
namespace L2
open PySem PySem.Spec PyProof.Rows
noncomputable abbrev TO:=St->Hp->(Option Int->Hp->Prop)->Prop
noncomputable def PO(X:Cx)(e:Option Expr)(t:TO):Prop:=
 ∀(pins:List (Addr×Obj))(s:Shared)(σ:St)(H:Hp)(Q:Option Int->Hp->Prop),Inv X pins σ H s->t σ H Q->
  wpAny (model X.prog X.w) X.A (evalPart e X.env) (λu s'=>∃o H',Inv X pins σ H' s'/\IsPart u o/\Q o H') X.xe s
noncomputable def tNoPart:TO:=λ_ H Q=>Q none H
noncomputable def tPart(t:TE):TO:=λσ H Q=>t σ H λx H1=>∃i,x=.int i/\Q (some i) H1
section
variable{X:Cx}{e:Expr}{te:TE}{lo hi:Option Expr}{tl th:TO}{pos p2:Pos}
theorem zasp:PO X none tNoPart:=by
 intro pins s σ H Q I h
 rw[evalPart_none]
 exact qO ⟨none,H,I,.none,h⟩
theorem zasq(h:PE X e te):PO X (some e) (tPart te):=by
 intro pins s σ H Q I hw
 rw[evalPart_some]
 refine thn (h pins s σ H _ I hw) λu s1 ⟨x,H1,I1,r1,q1⟩=>?_
 obtain⟨i,rfl,q⟩:=q1
 obtain⟨t,rfl⟩:=r1
 exact⟨some i,H1,I1,.int i t,q⟩
noncomputable def SlR(X:Cx)(r:V->Option Int->Option Int->Hp->VK->Prop):Prop:=
 ∀(pins:List (Addr×Obj))(s:Shared)(σ:St)(H:Hp)(x:V)(v vl vu:Value)(lo hi:Option Int)(sl:Addr)(Q:VK),Inv X pins σ H s->RelV x v->s.heap.IsSliceOf sl vl vu .none->IsPart vl lo->IsPart vu hi->r x lo hi H Q->
  ∃T id,typeLookup (.type T) "__getitem__"=pure (some (.builtin id))/\s.TypeIs v T/\wpAny (model X.prog X.w) X.A (getItem v (.ref sl)) (EP X pins σ Q) X.xe s
noncomputable def tSl(r:V->Option Int->Option Int->Hp->VK->Prop)(te:TE)(tl th:TO):TE:=λσ H Q=>te σ H λx H1=>tl σ H1 λl H2=>th σ H2 λu H3=>r x l u H3 Q
theorem zans{r:V->Option Int->Option Int->Hp->VK->Prop}(hr:SlR X r)(he:PE X e te)(hl:PO X lo tl)(hu:PO X hi th):PE X (.Subscript e (.Slice lo hi none p2) pos) (tSl r te tl th):=by
 intro pins s σ H Q I h
 refine Subscript_ (thn (he pins s σ H _ I h) λv s1 ⟨x,H1,I1,r1,q1⟩=>?_)
 refine wpAny_Slice (thn (hl pins s1 σ H1 _ I1 q1) λvl s2 ⟨l,H2,I2,pl,q2⟩=>thn (hu pins s2 σ H2 _ I2 q2) λvu s3 ⟨u,H3,I3,pu,q3⟩=>?_)
 rw[evalPart_none]
 refine qO ?_
 have I4:Inv X pins σ H3 {s3 with heap:=s3.heap.push {cls:=.type "slice",data:=.fields #[vl,vu,.none]}}:=I3.kept (t':=s3.toks) λb ob q=>qE _ q
 obtain⟨T,id,hT,ht,hg⟩:=hr pins {s3 with heap:=s3.heap.push {cls:=.type "slice",data:=.fields #[vl,vu,.none]}} σ H3 x v vl vu l u s3.heap.objs.size Q I4 r1 (Heap.IsSliceOf.new ..) pl pu q3
 show wpAny (model X.prog X.w) X.A (subscriptTail e (.Slice lo hi none p2) v (.ref s3.heap.objs.size)) (EP X pins σ Q) X.xe {s3 with heap:=s3.heap.push {cls:=.type "slice",data:=.fields #[vl,vu,.none]}}
 exact tail_any (ops:=[.ref s3.heap.objs.size,v]) ht hT hg (by with_unfolding_all rfl)
noncomputable def cutV(xs:List V)(lo hi:Option Int):List V:=(xs.drop (HT.sIx xs.length 0 lo)).take (HT.sIx xs.length xs.length hi - HT.sIx xs.length 0 lo)
theorem zacm(xs:List V)(lo hi:Option Int):(cutV xs lo hi).length<=xs.length:=by
 unfold cutV
 rw[qBj,qB8]
 omega
noncomputable def zaxa(K:qC):R2:=λx y H Q=>∃a b xs ys,x=.ref a/\y=.ref b/\SqT K H a xs/\SqT K H b ys/\xs≠[]/\xs.length+ys.length<=qZ/\
 (ys=[]->Q (.ref a) H)/\(ys≠[]->∀p,H p=none->Q (.ref p) (upd H p (.tup (xs++ys))))
theorem Vals.nil_iff{xs:List V}{us:List Value}(r:Vals xs us):us=[]↔xs=[]:=by
 cases r with
 | nil=>simp
 | cons _ _=>simp
theorem zasr:OpR X (binaryOp .Add) (zaxa X.K):=by
 intro pins s σ H x y v u Q I rx ry h
 obtain⟨a,b,xs,ys,rfl,rfl,ha,hb,hx,hz,q1,q2⟩:=h
 cases rx
 cases ry
 obtain⟨its,r1,p1,_⟩:=I.tuple ha
 obtain⟨its2,r2,p2,_⟩:=I.tuple hb
 refine HT.cat_tup p1 p2 (λz=>hx (r1.nil_iff.mp z)) (λz=>⟨.ref a,H,I,rfl,q1 (r2.nil_iff.mp z)⟩) (λz=>?_) (by rw[<- r1.length,<- r2.length];exact hz)
 refine⟨.ref s.heap.objs.size,_,I.laid (t':=s.toks) (o:=.tup (xs++ys)) (λb ob q=>qE _ q) (qN _) ?_,rfl,q2 (λw=>z (r2.nil_iff.mpr w)) _ (I.hok.fresh (qN _))⟩
 exact⟨by rw[qK];exact hz,_,r1.append r2,IsTup.new _ _⟩
end
noncomputable def ixN(n:Nat)(i:Int):Option Nat:=if 0<=i then(if i<n then some i.toNat else none)else if -(n:Int)<=i then some (i+n).toNat else none
noncomputable def atI{α:Type}(xs:List α)(i:Int):Option α:=(ixN xs.length i).bind λj=>xs[j]?
theorem zajc{n:Nat}{i:Int}{j:Nat}(h:ixN n i=some j):seqIndex? i n=some j/\j<n/\-(n:Int)<=i/\i<n:=by
 unfold ixN at h
 by_cases h0:0<=i
 ·rw[if_pos h0]at h
  by_cases h1:i<n
  ·rw[if_pos h1]at h
   have e:i.toNat=j:=qY h
   exact⟨by rw[seqIndex_of h0 h1,e],by omega,by omega,h1⟩
  ·rw[if_neg h1]at h;cases h
 ·rw[if_neg h0]at h
  by_cases h1:-(n:Int)<=i
  ·rw[if_pos h1]at h
   have e:(i+n).toNat=j:=qY h
   exact⟨by rw[seqIndex_neg (by omega) h1,e],by omega,h1,by omega⟩
  ·rw[if_neg h1]at h;cases h
theorem zacn{α:Type}{xs:List α}{i:Int}{v:α}(h:atI xs i=some v):∃j,seqIndex? i xs.length=some j/\xs[j]?=some v/\j<xs.length/\-(xs.length:Int)<=i/\i<xs.length:=by
 unfold atI at h
 cases e:ixN xs.length i with
 | none=>rw[e]at h;cases h
 | some j=>
  rw[e]at h
  obtain⟨h1,h2,h3,h4⟩:=zajc e
  exact⟨j,h1,h,h2,h3,h4⟩
theorem zwj{α:Type}{xs:List α}{j:Nat}{v:α}(h:xs[j]?=some v):atI xs (j:Int)=some v:=by
 have hj:j<xs.length:=(qM.mp h).1
 have e:ixN xs.length (j:Int)=some j:=by
  unfold ixN
  rw[if_pos (by omega),if_pos (by omega)];simp
 unfold atI;rw[e];exact h
noncomputable def PlainIx(b:Expr):Prop:=∀o i,subscripted b false o i=operate [o,i] (getItem o i)
noncomputable def IxR(X:Cx)(r:R2):Prop:=
 ∀(value slice:Expr)(pins:List (Addr×Obj))(s:Shared)(σ:St)(H:Hp)(x y:V)(v u:Value)(Q:VK),Inv X pins σ H s->RelV x v->RelV y u->r x y H Q->
  subscripted slice false v u=operate [v,u] (getItem v u)->wpAny (model X.prog X.w) X.A (subscriptTail value slice v u) (EP X pins σ Q) X.xe s
noncomputable def MtR(X:Cx)(id:String)(r:V->List V->Hp->VK->Prop):Prop:=
 ∀(pins:List (Addr×Obj))(s:Shared)(σ:St)(H:Hp)(x:V)(xs:List V)(v:Value)(us:List Value)(Q:VK),Inv X pins σ H s->RelV x v->Vals xs us->r x xs H Q->
  wpAny (model X.prog X.w) X.A (call (.builtin id) (v::us)) (EP X pins σ Q) X.xe s
section
variable{X:Cx}{a b:Expr}{ta tb:TE}{pos:Pos}
theorem zbam{r:R2}(hr:IxR X r)(ha:PE X a ta)(hb:PE X b tb)(hs:PlainIx b):PE X (.Subscript a b pos) (tOp r ta tb):=by
 intro pins s σ H Q I h
 exact Subscript_ (binT ha hb I h λv u s2 x y H2 I2 rx ry q=>hr a b pins s2 σ H2 x y v u Q I2 rx ry q (hs _ _))
noncomputable def rIxL(K:qC):R2:=λx y H Q=>∃p xs i v,x=.ref p/\y=.int i/\SqL K H p xs/\atI xs i=some v/\Q v H
noncomputable def rIxT(K:qC):R2:=λx y H Q=>∃p xs i v,x=.ref p/\y=.int i/\SqT K H p xs/\atI xs i=some v/\Q v H
noncomputable def rIxS:R2:=λx y H Q=>∃z i c,x=.str z/\y=.int i/\z.length<=qZ/\atI z.cps.toList i=some c/\Q (.str ⟨#[c]⟩) H
theorem zass:IxR X (rIxL X.K):=by
 intro value slice pins s σ H x y v u Q I rx ry h hs
 obtain⟨p,xs,i,z,rfl,rfl,hq,he,q⟩:=h
 cases rx
 obtain⟨t,rfl⟩:=ry
 obtain⟨its,r,pl,hz⟩:=I.list hq
 obtain⟨j,h1,h2,h3,h4,h5⟩:=zacn he
 obtain⟨w,ew,rw'⟩:=r.get h2
 have hl:=r.length
 have hn:=zul
 have fin:EP X pins σ Q w s:=⟨z,H,I,rw',q⟩
 by_cases h0:0<=i
 ·have hj:i.toNat=j:=by
   rw[seqIndex_of h0 h5]at h1
   exact qY h1
  exact item_listR pl.isList h0 (by omega) (by rw[hj];simpa using ew) fin hs
 ·have hj:(i+(its.toArray.size:Int)).toNat=j:=by
   rw[seqIndex_neg (by omega) h4]at h1
   rw[qS,<- hl]
   exact qY h1
  exact subscriptTail_builtinR (x:=w) pl.isList.typeIs slot_list_getitem.lookup
   (wpAny_getItem_list_neg (Q:=λr s'=>r=w/\EP X pins σ Q r s') pl.isList (by omega) (by rw[qS]<;>omega) (by omega) (by rw[hj];simpa using ew) ⟨rfl,fin⟩) hs
theorem zaxb:IxR X (rIxT X.K):=by
 intro value slice pins s σ H x y v u Q I rx ry h hs
 obtain⟨p,xs,i,z,rfl,rfl,hq,he,q⟩:=h
 cases rx
 obtain⟨t,rfl⟩:=ry
 obtain⟨its,r,pl,hz⟩:=I.tuple hq
 obtain⟨j,h1,h2,h3,h4,h5⟩:=zacn he
 obtain⟨w,ew,rw'⟩:=r.get h2
 have hl:=r.length
 have hn:=zul
 have fin:EP X pins σ Q w s:=⟨z,H,I,rw',q⟩
 exact subscriptTail_builtinR (x:=w) pl.typeIs slot_tuple_getitem.lookup
  (getItem_tuple (j:=j) (Q:=λr s'=>r=w/\EP X pins σ Q r s') pl (by omega) (by omega) (by rw[qS,<- hl];exact h1) (by simpa using ew) ⟨rfl,fin⟩) hs
theorem zaxc:IxR X rIxS:=by
 intro value slice pins s σ H x y v u Q I rx ry h hs
 obtain⟨z,i,c,rfl,rfl,hz,he,q⟩:=h
 obtain⟨t,rfl⟩:=rx
 obtain⟨t',rfl⟩:=ry
 obtain⟨j,h1,h2,h3,h4,h5⟩:=zacn he
 have hl:z.cps.toList.length=z.length:=by simp[Str.length]
 rw[hl]at h1 h4 h5
 have hn:=zul
 exact tail_any (qDJ s z t) slot_str_getitem.lookup (getItem_str (c:=c) (by
  have e1:decide (i < -(2 ^ 63:Int))=false:=decide_eq_false (by omega)
  have e2:decide (i>=2 ^ 63)=false:=decide_eq_false (by omega)
  rw[e1,e2,Bool.or_false]) (by rw[h1];simpa using h2) ⟨.str ⟨#[c]⟩,H,I.tok _,⟨_,rfl⟩,q⟩) hs
theorem zagq(its:List Value)(n j:Nat)(u:Value):Obj.mapSeq (·.setIfInBounds j u) {cls:=.type "list",data:=.seq its.toArray n}={cls:=.type "list",data:=.seq (its.set j u).toArray n}:=by
 simp[Obj.mapSeq]
theorem Inv.lst{pins:List (Addr×Obj)}{σ:St}{H:Hp}{s:Shared}{p:Addr}{xs:List V}(I:Inv X pins σ H s)(h:H p=some (.lst xs)) :
  ∃(its:List Value)(n:Nat),Vals xs its/\s.heap.get? p=some {cls:=.type "list",data:=.seq its.toArray n}/\xs.length<=qZ:=by
 obtain⟨z,its,n,r,e⟩:=I.hok p _ h
 exact⟨its,n,r,e,z⟩
theorem Inv.lstUpd{pins:List (Addr×Obj)}{σ:St}{H:Hp}{s:Shared}{p:Addr}{xs ys:List V}{its its':List Value}{n n':Nat}{f:Obj->Obj}(I:Inv X pins σ H s)(h:H p=some (.lst xs))
  (ho:s.heap.get? p=some {cls:=.type "list",data:=.seq its.toArray n}) (hf:f {cls:=.type "list",data:=.seq its.toArray n}={cls:=.type "list",data:=.seq its'.toArray n'}) (r:Vals ys its') (hz:ys.length<=qZ) (t:Nat) :
  Inv X pins σ (upd H p (.lst ys)) {s with heap:=s.heap.update p f,toks:=t}:=by
 have e:(s.heap.update p f).get? p=some {cls:=.type "list",data:=.seq its'.toArray n'}:=by
  rw[qDA f ho (by rw[hf]<;>rfl),hf]
 refine I.write (x:=p) (e:=p) (by rw[h];trivial) (.inl rfl) (λb u hb q=>(qC4 _ _ (qAv hb)).trans q) ⟨_,e⟩ ?_
 exact⟨hz,its',n',r,e⟩
noncomputable def zast:V->V->V->Hp->(Hp->Prop)->Prop:=λo i v H Q=>∃p xs k j,o=.ref p/\i=.int k/\H p=some (.lst xs)/\ixN xs.length k=some j/\Q (upd H p (.lst (xs.set j v)))
theorem zant:PSet X zast:=by
 intro pins s σ H o i v ov iv u Q I ro ri rv h
 obtain⟨p,xs,k,j,rfl,rfl,hp,hj,q⟩:=h
 cases ro
 obtain⟨t,rfl⟩:=ri
 obtain⟨its,n,r,ho,hz⟩:=I.lst hp
 obtain⟨h1,h2,h3,h4⟩:=zajc hj
 have hl:=r.length
 have hn:=zul
 have I':Inv X pins σ (upd H p (.lst (xs.set j v))) {s with heap:=s.heap.update p (Obj.mapSeq (·.setIfInBounds j u))}:=
  I.lstUpd hp ho (zagq its n j u) (r.set rv j) (by rw[qAO];exact hz) s.toks
 by_cases h0:0<=k
 ·have hk:k.toNat=j:=by
   rw[seqIndex_of h0 h4]at h1
   exact qY h1
  exact PySem.W.ki_setAt ho h0 (by omega) (by rw[qS,<- hl];exact h4) (by rw[hk];exact⟨_,I',q⟩)
 ·have hk:(k+(its.toArray.size:Int)).toNat=j:=by
   rw[seqIndex_neg (by omega) h3]at h1
   rw[qS,<- hl]
   exact qY h1
  exact PySem.W.ki_setBack ho (by omega) (by rw[qS,<- hl];exact h3) (by omega) (by rw[hk];exact⟨_,I',q⟩)
theorem zze(lo hi:Option Int)(n:Nat):(sliceBounds lo hi none n).1=((HT.sIx n 0 lo:Nat):Int)/\(sliceBounds lo hi none n).2.1=((HT.sIx n n hi:Nat):Int)/\(sliceBounds lo hi none n).2.2=1:=by
 refine⟨?_,?_,rfl⟩
 ·cases lo with
  | none=>simp[sliceBounds,HT.sIx]
  | some i=>
   simp only[sliceBounds,HT.sIx,Option.getD_none,show(1:Int) > 0 by decide,if_true]
   by_cases h:i<0
   ·simp only[h,if_true]<;>omega
   ·simp only[h,if_false]<;>omega
 ·cases hi with
  | none=>simp[sliceBounds,HT.sIx]
  | some i=>
   simp only[sliceBounds,HT.sIx,Option.getD_none,show(1:Int) > 0 by decide,if_true]
   by_cases h:i<0
   ·simp only[h,if_true]<;>omega
   ·simp only[h,if_false]<;>omega
theorem zwk(its:List Value)(lo hi:Option Int):slicePick its.toArray lo hi none=((its.drop (HT.sIx its.length 0 lo)).take (HT.sIx its.length its.length hi - HT.sIx its.length 0 lo)).toArray:=by
 obtain⟨h1,h2,h3⟩:=zze lo hi its.toArray.size
 unfold slicePick
 rw[h1,h2,h3]
 simp only[sliceRange_one,pick_run,qS]<;>rfl
noncomputable def rSlL(K:qC):V->Option Int->Option Int->Hp->VK->Prop:=λx lo hi H Q=>∃a xs,x=.ref a/\SqL K H a xs/\∀p,H p=none->Q (.ref p) (upd H p (.lst (cutV xs lo hi)))
theorem zasu:SlR X (rSlL X.K):=by
 intro pins s σ H x v vl vu lo hi sl Q I rx hs pl pu h
 obtain⟨a,xs,rfl,hx,q⟩:=h
 cases rx
 obtain⟨its,r,ht,hz⟩:=I.list hx
 have hlen:=r.length
 refine⟨"list",_,slot_list_getitem.lookup,ht.isList.typeIs,?_⟩
 refine wpAny_getItem_list_slice ht.isList hs pl pu .none (by simp) ?_ (by rw[qS]<;>omega)
 rw[zwk,<- hlen]
 refine⟨.ref s.heap.objs.size,_,I.laid (t':=s.toks) (o:=.lst (cutV xs lo hi)) (λb ob q=>qE _ q) (qN _) ?_,rfl,q _ (I.hok.fresh (qN _))⟩
 exact⟨qAA (zacm xs lo hi) hz,_,0,(r.drop (HT.sIx xs.length 0 lo)).take (HT.sIx xs.length xs.length hi - HT.sIx xs.length 0 lo),qW _ rfl⟩
noncomputable def znp:V->Bool
 | .non=>true
 | .bl _=>true
 | .int _=>true
 | .str _=>true
 | _=>false
noncomputable def eqV:V->V->Bool
 | .non,.non=>true
 | .bl a,.bl b=>a==b
 | .bl a,.int b=>(if a then 1 else 0)==b
 | .int a,.bl b=>a==(if b then 1 else 0)
 | .int a,.int b=>a==b
 | .str a,.str b=>a==b
 | _,_=>false
theorem zaxd{A:Around}{s:Shared}{y x:V}{u v:Value}(ry:RelV y u)(rx:RelV x v)(fy:znp y=true)(fx:znp x=true):SeqAt.EqAt A s u v (eqV y x):=by
 cases y with
 | non=>
  cases ry
  cases x with
  | non=>cases rx;exact SeqAt.EqAt.same _
  | bl b=>cases rx;exact SeqAt.EqAt.none_bool b
  | int b=>obtain⟨t,rfl⟩:=rx;exact SeqAt.EqAt.none_int b t
  | str b=>obtain⟨t,rfl⟩:=rx;exact SeqAt.EqAt.none_str b t
  | _=>exact absurd (show false=true from fx) qV
 | bl a=>
  cases ry
  cases x with
  | non=>cases rx;exact SeqAt.EqAt.bool_none a
  | bl b=>cases rx;exact SeqAt.EqAt.bool_bool a b
  | int b=>obtain⟨t,rfl⟩:=rx;exact SeqAt.EqAt.bool_int a b t
  | str b=>obtain⟨t,rfl⟩:=rx;exact SeqAt.EqAt.bool_str a b t
  | _=>exact absurd (show false=true from fx) qV
 | int a=>
  obtain⟨t',rfl⟩:=ry
  cases x with
  | non=>cases rx;exact SeqAt.EqAt.int_none a t'
  | bl b=>cases rx;exact SeqAt.EqAt.int_bool a t' b
  | int b=>obtain⟨t,rfl⟩:=rx;exact SeqAt.EqAt.int_int a t' b t
  | str b=>obtain⟨t,rfl⟩:=rx;exact qCu a t' b t
  | _=>exact absurd (show false=true from fx) qV
 | str a=>
  obtain⟨t',rfl⟩:=ry
  cases x with
  | non=>cases rx;exact SeqAt.EqAt.str_none a t'
  | bl b=>cases rx;exact SeqAt.EqAt.str_bool a t' b
  | int b=>obtain⟨t,rfl⟩:=rx;exact qCt a t' b t
  | str b=>obtain⟨t,rfl⟩:=rx;exact SeqAt.EqAt.str_str a t' b t
  | _=>exact absurd (show false=true from fx) qV
 | _=>exact absurd (show false=true from fy) qV
noncomputable def eqU(x:V)(u:Value):Bool:=match u with
 | .none=>eqV .non x
 | .bool b=>eqV (.bl b) x
 | .int i _=>eqV (.int i) x
 | .str z _=>eqV (.str z) x
 | _=>false
theorem zajd{x y:V}{u:Value}(r:RelV y u)(f:znp y=true):eqU x u=eqV y x:=by
 cases y with
 | non=>cases r;rfl
 | bl b=>cases r;rfl
 | int i=>obtain⟨t,rfl⟩:=r;rfl
 | str z=>obtain⟨t,rfl⟩:=r;rfl
 | _=>exact absurd (show false=true from f) qV
theorem zrm{x:V}:∀{xs:List V}{us:List Value},Vals xs us->xs.all znp=true->us.any (eqU x)=xs.any λy=>eqV y x
 | _,_,.nil,_=>rfl
 | y::xs,u::us,.cons r t,f=>by
  rw[qBl,qAC]at f
  rw[qA7,qA7,zajd r f.1,zrm t f.2]
theorem zku{A:Around}{s:Shared}{x:V}{v:Value}(rx:RelV x v)(fx:znp x=true):∀{xs:List V}{us:List Value},Vals xs us->xs.all znp=true->∀u∈us,SeqAt.EqAt A s u v (eqU x u)
 | _,_,.nil,_=>λu hu=>by cases hu
 | y::xs,u::us,.cons r t,f=>λu' hu=>by
  rw[qBl,qAC]at f
  rcases qJ.mp hu with rfl|hu
  ·rw[zajd r f.1];exact zaxd r rx f.1 fx
  ·exact zku rx fx t f.2 u' hu
noncomputable def inV(x:V)(xs:List V):Bool:=xs.any λy=>eqV y x
noncomputable def rIn(K:qC)(neg:Bool):R2:=λx y H Q=>∃p xs,y=.ref p/\(SqL K H p xs\/SqT K H p xs)/\znp x=true/\xs.all znp=true/\Q (.bl (if neg then !inV x xs else inV x xs)) H
theorem zaje:OpR X (compareOp .In) (rIn X.K false):=by
 intro pins s σ H x y v u Q I rx ry h
 obtain⟨p,xs,rfl,hq,fx,fs,q⟩:=h
 cases ry
 rcases hq with hq|hq
 ·obtain⟨its,r,pl,hz⟩:=I.list hq
  refine SeqAt.in_listAt (eqU x) pl.isList (λw hw=>zku rx fx r fs w (by simpa using hw)) ⟨.bl _,H,I,rfl,?_⟩
  rw[show its.toArray.any (eqU x)=its.any (eqU x) by simp,zrm r fs]
  exact q
 ·obtain⟨its,r,pl,hz⟩:=I.tuple hq
  refine SeqAt.in_tupleAt (eqU x) pl (λw hw=>zku rx fx r fs w (by simpa using hw)) ⟨.bl _,H,I,rfl,?_⟩
  rw[show its.toArray.any (eqU x)=its.any (eqU x) by simp,zrm r fs]
  exact q
theorem zzf:OpR X (compareOp .NotIn) (rIn X.K true):=by
 intro pins s σ H x y v u Q I rx ry h
 obtain⟨p,xs,rfl,hq,fx,fs,q⟩:=h
 cases ry
 rcases hq with hq|hq
 ·obtain⟨its,r,pl,hz⟩:=I.list hq
  refine SeqAt.notIn_listAt (eqU x) pl.isList (λw hw=>zku rx fx r fs w (by simpa using hw)) ⟨.bl _,H,I,rfl,?_⟩
  rw[show its.toArray.any (eqU x)=its.any (eqU x) by simp,zrm r fs]
  exact q
 ·obtain⟨its,r,pl,hz⟩:=I.tuple hq
  refine SeqAt.notIn_tupleAt (eqU x) pl (λw hw=>zku rx fx r fs w (by simpa using hw)) ⟨.bl _,H,I,rfl,?_⟩
  rw[show its.toArray.any (eqU x)=its.any (eqU x) by simp,zrm r fs]
  exact q
theorem zzg:CallR X (.type "list") (λxs H Q=>∃p ys,xs=[.ref p]/\(SqL X.K H p ys\/SqT X.K H p ys)/\∀l,H l=none->Q (.ref l) (upd H l (.lst ys))):=by
 intro pins s σ H xs us Q I r h
 obtain⟨p,ys,rfl,hq,q⟩:=h
 obtain⟨u,rfl,rx⟩:=zagp r
 cases rx
 have fin:∀(its:List Value),Vals ys its->ys.length<=qZ->∀(h':Heap)(c':Nat),(∀b o',s.heap.get? b=some o'->h'.get? b=some o')->
   h'.get? s.heap.objs.size=some {cls:=.type "list",dict:=none,data:=.seq its.toArray c',slots:=#[]}->EP X pins σ Q (.ref s.heap.objs.size) {s with heap:=h'}:=λits r' hz h' c' kp e=>
  ⟨.ref s.heap.objs.size,_,I.laid (t':=s.toks) kp (qN _) (show zes X.prog X.w _ h' _ (.lst ys)from⟨hz,its,c',r',e⟩),rfl,q _ (I.hok.fresh (qN _))⟩
 rcases hq with hq|hq
 ·obtain⟨its,r',pl,hz⟩:=I.list hq
  have hlen:=r'.length
  obtain⟨o,ho,hc,n,hd⟩:=pl.isList
  exact call_list_seq p (.inl rfl) ho hc hd (λh' c' kp e=>fin its r' hz h' c' kp e) (by simp only[qS]<;>omega)
 ·obtain⟨its,r',pl,hz⟩:=I.tuple hq
  have hlen:=r'.length
  obtain⟨o,ho,hc,n,hd⟩:=pl
  exact call_list_seq p (.inr rfl) ho hc hd (λh' c' kp e=>fin its r' hz h' c' kp e) (by simp only[qS]<;>omega)
theorem zwl:CallR X (.type "tuple") (λxs H Q=>∃p ys,xs=[.ref p]/\((SqL X.K H p ys/\∀l,H l=none->Q (.ref l) (upd H l (.tup ys)))\/(SqT X.K H p ys/\Q (.ref p) H))):=by
 intro pins s σ H xs us Q I r h
 obtain⟨p,ys,rfl,h⟩:=h
 obtain⟨u,rfl,rx⟩:=zagp r
 cases rx
 rcases h with⟨hq,q⟩|⟨hq,q⟩
 ·obtain⟨its,r',pl,hz⟩:=I.list hq
  have hlen:=r'.length
  refine call_tuple_list pl.isList (λh' kp=>?_) (by simp only[qS]<;>omega)
  have I1:Inv X pins σ H {s with heap:=h'}:=I.kept (t':=s.toks) kp
  have I2:Inv X pins σ (upd H h'.objs.size (.tup ys)) {s with heap:=h'.push {cls:=.type "tuple",data:=.seq its.toArray}}:=
   I1.laid (t':=s.toks) (λb o e=>qE _ e) (qN _) (show zes X.prog X.w _ _ _ (.tup ys)from⟨hz,its,r',IsTup.new _ _⟩)
  exact⟨.ref h'.objs.size,_,I2,rfl,q _ (I1.hok.fresh (qN _))⟩
 ·obtain⟨its,r',pl,hz⟩:=I.tuple hq
  exact call_tuple_same pl ⟨.ref p,H,I,rfl,q⟩
noncomputable def tyV(K:qC)(T:String)(x:V)(H:Hp):Prop:=match x with
 | .str _=>T="str"
 | .int _=>T="int"
 | .ref p=>(T="list"/\∃xs,SqL K H p xs)\/(T="tuple"/\∃o,K.lookup p=some o/\o.cls=.type "tuple"/\o.dict=none)\/
   (T="dict"/\((∃kvs,H p=some (.dK kvs))\/∃kvs,H p=some (.dT kvs)))\/(T="set"/\∃S n,H p=some (.set S n))
 | _=>False
theorem zarc{pins:List (Addr×Obj)}{σ:St}{H:Hp}{s:Shared}{T:String}{x:V}{v:Value}(I:Inv X pins σ H s)(r:RelV x v)(ty:tyV X.K T x H) :
  s.TypeIs v T/\∀a,v=.ref a->∃ob,s.heap.get? a=some ob/\ob.dict=none:=by
 cases x with
 | str z=>
  obtain⟨t,rfl⟩:=r
  cases(show T="str"from ty)
  exact⟨qDJ s z t,λ_ e=>nomatch e⟩
 | int i=>
  obtain⟨t,rfl⟩:=r
  cases(show T="int"from ty)
  exact⟨typeIs_int s i t,λ_ e=>nomatch e⟩
 | ref p=>
  cases r
  rcases ty with⟨rfl,xs,hq⟩|⟨rfl,o,hk,hc,hd⟩|⟨rfl,hk⟩|⟨rfl,S,n,hk⟩
  ·obtain⟨its,_,pl,_⟩:=I.list hq
   refine⟨pl.isList.typeIs,λa e=>?_⟩
   cases e
   obtain⟨o,n,e,c,hd,_⟩:=pl
   exact⟨o,e,hd⟩
  ·refine⟨⟨o,I.kIn p o hk,hc⟩,λa e=>?_⟩
   cases e
   exact⟨o,I.kIn _ o hk,hd⟩
  ·have z:∃o,s.heap.get? p=some o/\o.ExactDict:=by
    rcases hk with⟨kvs,hk⟩|⟨kvs,hk⟩
    ·obtain⟨_,_,_,_,o,_,_,e,ex,_⟩:=I.hok p _ hk
     exact⟨o,e,ex⟩
    ·obtain⟨_,_,_,_,o,_,_,e,ex,_⟩:=I.hok p _ hk
     exact⟨o,e,ex⟩
   obtain⟨o,e,ex⟩:=z
   refine⟨⟨o,e,ex.1⟩,λa e2=>?_⟩
   cases e2
   exact⟨o,e,ex.2.1⟩
  ·obtain⟨o,_,_,_,e,ex,_⟩:=I.hok p _ hk
   refine⟨⟨o,e,ex.1⟩,λa e2=>?_⟩
   cases e2
   exact⟨o,e,ex.2.1⟩
 | _=>exact False.elim ty
noncomputable def tBM0(K:qC)(T:String)(r:V->List V->Hp->VK->Prop)(to:TE):TE:=λσ H Q=>to σ H λx H1=>tyV K T x H1/\r x [] H1 Q
noncomputable def tBM(K:qC)(T:String)(r:V->List V->Hp->VK->Prop)(to:TE)(t:TA):TE:=λσ H Q=>to σ H λx H1=>tyV K T x H1/\t σ H1 λxs H2=>r x xs H2 Q
variable{o e:Expr}{es:List Expr}{to:TE}{t:TA}{name:Str}{apos cpos:Pos}{T id:String}{r:V->List V->Hp->VK->Prop}
theorem zaxe(pa:PlainAttrs T)(slot:Slot T name id)(hty:typeOf (.builtin id)=pure (.type "method_descriptor"))(hm:MtR X id r)(ho:PE X o to)
  (hbase:attributeBase o name X.env (eval o X.env)=eval o X.env:=by rfl) (hline:(apos.endLine==cpos.line)=true:=by rfl):PE X (.Call (.Attribute o name apos) [] [] cpos) (tBM0 X.K T r to):=by
 intro pins s σ H Q I h
 refine wpAny_Call_method0_late hbase hline (thn (ho pins s σ H _ I h) λv s1 ⟨x,H1,I1,r1,ty,q1⟩=>?_)
 obtain⟨h1,h2⟩:=zarc I1 r1 ty
 exact⟨T,id,pa,slot,hty,h1,h2,qCz rfl (PySem.evalArgs_none (hm pins s1 σ H1 x [] v [] Q I1 r1 .nil q1))⟩
theorem zban(pa:PlainAttrs T)(slot:Slot T name id)(hty:typeOf (.builtin id)=pure (.type "method_descriptor"))(hm:MtR X id r)(ho:PE X o to)(ha:PA X (e::es) t)
  (hbase:attributeBase o name X.env (eval o X.env)=eval o X.env:=by rfl)
  (hfew:((backTo cpos (starEach (e::es) X.env)).all (λx=>!x.1)&&(backToKw cpos (keywordEach [] X.env)).all (λx=>x.1.isSome)
   && decide ((e::es).length+([]:List Keyword).length+(if([]:List Keyword).isEmpty then 0 else 1)<30))=true:=by rfl)
  (hline:(apos.endLine==cpos.line)=true:=by rfl)(hs:starEach (e::es) X.env=(false,eval e X.env)::starEach es X.env:=by rfl)(hplain:(backTo cpos (starEach es X.env)).any (·.1)=false:=by rfl) :
  PE X (.Call (.Attribute o name apos) (e::es) [] cpos) (tBM X.K T r to t):=by
 intro pins s σ H Q I h
 refine wpAny_Call_method_late hbase hfew hline rfl (thn (ho pins s σ H _ I h) λv s1 ⟨x,H1,I1,r1,ty,q1⟩=>?_)
 obtain⟨h1,h2⟩:=zarc I1 r1 ty
 refine⟨T,id,pa,slot,hty,h1,h2,?_⟩
 have hA:=ha cpos pins s1 σ H1 _ I1 q1
 rw[hs]at hA ⊢
 refine qCz (by show(false||(backTo cpos (starEach es X.env)).any (·.1))=false;rw[hplain]<;>rfl) (Calls.evalArgs_plain ?_)
 exact thn hA λus s2 ⟨vs,H2,I2,r2,q2⟩=>hm pins s2 σ H2 x vs v us Q I2 r1 r2 q2
end
noncomputable def MtM(X:Cx)(id:String)(r:V->List V->Hp->VK->Prop):Prop:=
 ∀(pins:List (Addr×Obj))(s:Shared)(σ:St)(H:Hp)(x:V)(xs:List V)(v:Value)(us:List Value)(Q:VK),Inv X pins σ H s->RelV x v->Vals xs us->r x xs H Q->
  wpAny (model X.prog X.w) X.A (call (.builtin id) (v::us)) (EP X pins σ Q) X.xe s
theorem Vals.one:∀{x:V}{us:List Value},Vals [x] us->∃u,us=[u]/\RelV x u
 | _,_,.cons r .nil=>⟨_,rfl,r⟩
theorem Vals.zero:∀{us:List Value},Vals [] us->us=[]
 | _,.nil=>rfl
theorem Vals.dropLast{xs:List V}{us:List Value}(h:Vals xs us):Vals xs.dropLast us.dropLast:=by
 induction h with
 | nil=>exact .nil
 | cons r t ih=>
  cases t with
  | nil=>exact .nil
  | cons q t'=>exact .cons r ih
theorem Vals.eraseIdx:∀{xs:List V}{us:List Value}(i:Nat),Vals xs us->Vals (xs.eraseIdx i) (us.eraseIdx i)
 | _,_,_,.nil=>.nil
 | _,_,0,.cons _ t=>t
 | _,_,i+1,.cons r t=>.cons r (Vals.eraseIdx i t)
theorem Vals.reverse{xs:List V}{us:List Value}(h:Vals xs us):Vals xs.reverse us.reverse:=by
 induction h with
 | nil=>exact .nil
 | cons r t ih=>rw[qB0,qB0];exact Vals.append ih (.cons r .nil)
theorem Vals.rep{xs:List V}{us:List Value}(h:Vals xs us):∀k:Nat,Vals (List.replicate k xs).flatten (List.replicate k us).flatten
 | 0=>.nil
 | k+1=>by
  rw[qAj,qAj,qBH,qBH]
  exact Vals.append h (Vals.rep h k)
theorem zagr{α:Type}(l:List α):l.eraseIdx (l.length - 1)=l.dropLast:=by
 induction l with
 | nil=>rfl
 | cons a r ih=>
  cases r with
  | nil=>rfl
  | cons b r=>
   have e:(a::b::r).length - 1=((b::r).length - 1)+1:=by
    have h1:(a::b::r).length=r.length+2:=rfl
    have h2:(b::r).length=r.length+1:=rfl
    omega
   rw[e,List.eraseIdx_cons_succ,ih]
   all_goals rfl
theorem zzh{α:Type}:∀(l:List α)(i:Nat),(l.eraseIdx i).length<=l.length
 | [],_=>qN _
 | _::_,0=>qBe _
 | _::r,i+1=>Nat.succ_le_succ (zzh r i)
theorem zzi(its:List Value):∀(k:Nat)(acc:List Value),
  List.foldl (λx1 x2=>x1++x2) acc.toArray (List.replicate k its.toArray)=(acc++(List.replicate k its).flatten).toArray
 | 0,acc=>by simp
 | k+1,acc=>by
  have e:acc.toArray++its.toArray=(acc++its).toArray:=by simp
  have e2:(acc++its)++(List.replicate k its).flatten=acc++(List.replicate (k+1) its).flatten:=by
   rw[qAj,qBH,qBI]
  rw[<- e2,<- zzi its k (acc++its),<- e,qAj,qA4]
section
variable{X:Cx}{pins:List (Addr×Obj)}{σ:St}{H:Hp}{s:Shared}{l b:Addr}{xs ys zs:List V}
theorem Inv.lset{its its':List Value}{n:Nat}{f:Array Value->Array Value}{t':Nat}(I:Inv X pins σ H s)(hH:H l=some (.lst xs))
  (e:s.heap.get? l=some {cls:=.type "list",data:=.seq its.toArray n}) (hf:f its.toArray=its'.toArray) (hv:Vals ys its') (hz:ys.length<=qZ) :
  Inv X pins σ (upd H l (.lst ys)) {s with heap:=s.heap.update l (Obj.mapSeq f),toks:=t'}:=by
 have q:=PySem.IsL.update e f
 rw[hf]at q
 refine I.write (x:=l) (e:=l) (by rw[hH];exact trivial) (.inl rfl) (λb' u hb hu=>(qC4 s.heap (Obj.mapSeq f) (qAv hb)).trans hu) ⟨_,q⟩ ?_
 exact⟨hz,its',_,hv,q⟩
theorem Inv.lnew{its:List Value}{t':Nat}(I:Inv X pins σ H s)(hv:Vals ys its)(hz:ys.length<=qZ) :
  Inv X pins σ (upd H s.heap.objs.size (.lst ys)) {s with heap:=s.heap.push {cls:=.type "list",data:=.seq its.toArray},toks:=t'}:=
 I.laid (λ_ _ q=>qE _ q) (qN _) ⟨hz,its,0,hv,qW _ rfl⟩
theorem Inv.fresh(I:Inv X pins σ H s):H s.heap.objs.size=none:=I.hok.fresh (qN _)
theorem Inv.lstM(I:Inv X pins σ H s)(hH:H l=some (.lst xs)):xs.length<=qZ/\∃(its:List Value)(n:Nat),Vals xs its/\xs.length=its.length/\s.heap.get? l=some {cls:=.type "list",data:=.seq its.toArray n}:=by
 obtain⟨z,its,n,r,e⟩:=I.hok l _ hH
 exact⟨z,its,n,r,r.length,e⟩
theorem zaew{n:Nat}(h:n<=qZ):Builtin.List.listTooLong n=false:=by
 unfold Builtin.List.listTooLong
 exact decide_eq_false (by omega)
end
section
variable{X:Cx}
noncomputable def zaco:V->List V->Hp->VK->Prop:=λx vs H Q=>∃l xs y,x=.ref l/\vs=[y]/\H l=some (.lst xs)/\xs.length<qZ/\Q .non (upd H l (.lst (xs++[y])))
theorem zem:MtM X "list.append" zaco:=by
 intro pins s σ H x vs v us Q I rx rv h
 obtain⟨l,xs,y,rfl,rfl,hH,hz,q⟩:=h
 cases rx
 obtain⟨u,rfl,ru⟩:=rv.one
 obtain⟨z,its,n,r,hl,e⟩:=I.lstM hH
 refine qBO F.slot_list_append ⟨_,e,rfl⟩ F.entry_list_append (F.args_list_append_2 _ _) (PySem.list_append l its.toArray n u (by rw[qS];omega)) ⟨e,?_⟩
 refine⟨.non,_,I.lset (its':=its++[u]) hH e (by simp) (r.append (.cons ru .nil)) ?_,rfl,q⟩
 rw[qK,qCG]
 omega
noncomputable def zasv:V->List V->Hp->VK->Prop:=λx vs H Q=>∃l b xs zs,x=.ref l/\vs=[.ref b]/\H l=some (.lst xs)/\H b=some (.lst zs)/\xs.length+zs.length<=qZ/\Q .non (upd H l (.lst (xs++zs)))
theorem zaxf:MtM X "list.extend" zasv:=by
 intro pins s σ H x vs v us Q I rx rv h
 obtain⟨l,b,xs,zs,rfl,rfl,hH,hB,hz,q⟩:=h
 cases rx
 obtain⟨u,rfl,ru⟩:=rv.one
 cases ru
 obtain⟨z,its,n,r,hl,e⟩:=I.lstM hH
 obtain⟨z2,its2,n2,r2,hl2,e2⟩:=I.lstM hB
 have hsz:its.toArray.size+its2.toArray.size<=qZ:=by rw[qS,qS];omega
 have hlong:¬(!its.toArray.isEmpty&&Builtin.List.listTooLong (its.toArray.size+its2.toArray.size))=true:=by
  rw[zaew hsz,Bool.and_false]
  exact qV
 refine qBO F.slot_list_extend ⟨_,e,rfl⟩ F.entry_list_extend (F.args_list_extend_2 _ _)
  (AutoSeq1.list_extend_list_list_0 l its.toArray n b its2.toArray n2 hlong (by rw[qS];omega) (by omega)) ⟨e,e2,?_⟩
 refine⟨.non,_,I.lset (its':=its++its2) hH e (by simp) (r.append r2) ?_,rfl,q⟩
 rw[qK]
 omega
noncomputable def rPop:V->List V->Hp->VK->Prop:=λx vs H Q=>∃l xs y,x=.ref l/\vs=[]/\H l=some (.lst xs)/\xs[xs.length - 1]?=some y/\Q y (upd H l (.lst xs.dropLast))
theorem zbbk:MtM X "list.pop" rPop:=by
 intro pins s σ H x vs v us Q I rx rv h
 obtain⟨l,xs,y,rfl,rfl,hH,hy,q⟩:=h
 cases rx
 have hus:=rv.zero
 subst hus
 obtain⟨z,its,n,r,hl,e⟩:=I.lstM hH
 obtain⟨u,hu,ru⟩:=r.get hy
 have hy':its.toArray[its.toArray.size - 1]?=some u:=by
  show its.toArray[its.length - 1]?=some u
  rw[<- qCD,<- hl]
  exact hu
 refine qBO F.slot_list_pop ⟨_,e,rfl⟩ F.entry_list_pop (F.args_list_pop_1 _) (MeetsSeq.list_pop_last l its.toArray n u hy' (by rw[qS];omega)) ⟨e,?_⟩
 refine⟨y,_,I.lset (its':=its.dropLast) hH e ?_ r.dropLast ?_,ru,q⟩
 ·show its.toArray.eraseIdxIfInBounds (its.toArray.size - 1)=its.dropLast.toArray
  rw[qS,qCZ,zagr]
 ·rw[qDG]
  omega
noncomputable def zard:V->List V->Hp->VK->Prop:=λx vs H Q=>∃l xs i k y,x=.ref l/\vs=[.int i]/\H l=some (.lst xs)/\-(2 ^ 63)<=i/\i<2 ^ 63/\seqIndex? i xs.length=some k/\xs[k]?=some y/\Q y (upd H l (.lst (xs.eraseIdx k)))
theorem zanu:MtM X "list.pop" zard:=by
 intro pins s σ H x vs v us Q I rx rv h
 obtain⟨l,xs,i,k,y,rfl,rfl,hH,h1,h2,hk,hy,q⟩:=h
 cases rx
 obtain⟨u,rfl,ru⟩:=rv.one
 obtain⟨t,rfl⟩:=ru
 obtain⟨z,its,n,r,hl,e⟩:=I.lstM hH
 obtain⟨w,hw,rw'⟩:=r.get hy
 refine qBO F.slot_list_pop ⟨_,e,rfl⟩ F.entry_list_pop (F.args_list_pop_2 _ _)
  (MeetsSeq.list_pop_at l its.toArray n i t k w (fitsIndex_both h1 h2) (by rw[qS,<- hl];exact hk) (by rw[<- qCD];exact hw) (by rw[qS];omega)) ⟨e,?_⟩
 refine⟨y,_,I.lset (its':=its.eraseIdx k) hH e ?_ (r.eraseIdx k) ?_,rw',q⟩
 ·show its.toArray.eraseIdxIfInBounds k=(its.eraseIdx k).toArray
  rw[qCZ]
 ·have:=zzh xs k
  omega
noncomputable def zaex:V->List V->Hp->VK->Prop:=λx vs H Q=>∃l xs,x=.ref l/\vs=[]/\H l=some (.lst xs)/\Q .non (upd H l (.lst xs.reverse))
theorem zags:MtM X "list.reverse" zaex:=by
 intro pins s σ H x vs v us Q I rx rv h
 obtain⟨l,xs,rfl,rfl,hH,q⟩:=h
 cases rx
 have hus:=rv.zero
 subst hus
 obtain⟨z,its,n,r,hl,e⟩:=I.lstM hH
 refine qBO F.slot_list_reverse ⟨_,e,rfl⟩ F.entry_list_reverse (F.args_list_reverse_1 _) (AutoSeq1.list_reverse_list_0 l its.toArray n (by rw[qS];omega)) ⟨e,?_⟩
 refine⟨.non,_,I.lset (its':=its.reverse) hH e (by simp) r.reverse ?_,rfl,q⟩
 rw[List.length_reverse]
 omega
noncomputable def rCat:R2:=λx y H Q=>∃l b xs zs,x=.ref l/\y=.ref b/\H l=some (.lst xs)/\H b=some (.lst zs)/\xs.length+zs.length<=qZ/\∀p,H p=none->Q (.ref p) (upd H p (.lst (xs++zs)))
theorem zaxg:OpR X (binaryOp .Add) rCat:=by
 intro pins s σ H x y v u Q I rx ry h
 obtain⟨l,b,xs,zs,rfl,rfl,hH,hB,hz,q⟩:=h
 cases rx
 cases ry
 obtain⟨z,its,n,r,hl,e⟩:=I.lstM hH
 obtain⟨z2,its2,n2,r2,hl2,e2⟩:=I.lstM hB
 refine PySem.P.add_list e e2 ?_ (by rw[qS,qS];omega)
 have ea:its.toArray++its2.toArray=(its++its2).toArray:=by simp
 rw[ea]
 exact⟨.ref _,_,I.lnew (t':=s.toks) (r.append r2) (by rw[qK];omega),rfl,q _ I.fresh⟩
noncomputable def rRep:R2:=λx y H Q=>∃l k xs,x=.ref l/\y=.int k/\H l=some (.lst xs)/\-(2 ^ 63)<=k/\k<2 ^ 63/\xs.length * k.toNat<=qZ/\
 ∀p,H p=none->Q (.ref p) (upd H p (.lst (List.replicate k.toNat xs).flatten))
theorem zasw{α:Type}(xs:List α)(k:Nat):(List.replicate k xs).flatten.length=k * xs.length:=by
 induction k with
 | zero=>simp
 | succ k ih=>rw[qAj,qBH,qK,ih,Nat.succ_mul,Nat.add_comm]
theorem zaey:OpR X (binaryOp .Mult) rRep:=by
 intro pins s σ H x y v u Q I rx ry h
 obtain⟨l,k,xs,rfl,rfl,hH,h1,h2,hz,q⟩:=h
 cases rx
 obtain⟨t,rfl⟩:=ry
 obtain⟨z,its,n,r,hl,e⟩:=I.lstM hH
 have hlen:its.toArray.size * k.toNat<=qZ:=by rw[qS,<- hl];exact hz
 have hcap:¬its.toArray.size * k.toNat >(2 ^ 63 - 1) / 8:=by
  have:(qZ:Nat)<=(2 ^ 63 - 1) / 8:=by decide
  omega
 have hfit:¬(!Builtin.List.listFitsIndex k)=true:=by
  rw[fitsIndex_both h1 h2]
  exact qV
 have hlong:¬Builtin.List.listTooLong (its.toArray.size * k.toNat)=true:=by
  rw[zaew hlen]
  exact qV
 have hnew:List.foldl (λx1 x2=>x1++x2) #[] (List.replicate (if its.toArray.isEmpty=true then 0 else k.toNat) its.toArray)=(List.replicate k.toNat its).flatten.toArray:=by
  have f0:∀m:Nat,List.foldl (λx1 x2=>x1++x2) #[] (List.replicate m its.toArray)=(List.replicate m its).flatten.toArray:=λm=>by
   have:=zzi its m []
   rw[List.nil_append]at this
   exact this
  rw[f0]
  cases its with
  | nil=>simp
  | cons a r'=>rw[if_neg (by simp)]
 refine wpAny_binaryOp_repeat_ref (T:="list") (U:="int") (by decide) ⟨_,e,rfl⟩ (λs'=>typeIs_int s' k t) noFill_list_mul F.fills_int_mul F.slot_int_rmul repeat_list F.slot_int_index.lookup
  (qBO F.slot_int_rmul (typeIs_int s k t) F.entry_int_rmul (F.args_int_rmul_2 _ _) (int___rmul___int_list k t l its.toArray n)
   ⟨e,rfl,⟨_,e,rfl⟩,qBO F.slot_list_mul ⟨_,e,rfl⟩ F.entry_list_mul (F.args_list_mul_2 _ _) (AutoListH.list___mul___list_int_3 l its.toArray n k t hfit hcap hlong) ⟨e,?_⟩⟩)
 rw[hnew]
 exact⟨.ref _,_,I.lnew (t':=s.toks) (r.rep k.toNat) (by rw[zasw,qCc];exact hz),rfl,q _ I.fresh⟩
end
section
variable{prog:Program}{w:World}{A:Around}{E:Value->Shared->Prop}{s:Shared}
set_option maxRecDepth 100000 in
end
section
variable{κ:Type}[DecidableEq κ]
noncomputable def valV(kvs:List (κ×V))(k:κ):Option V:=(kvs.find? λkv=>decide (kv.1=k)).map (·.2)
noncomputable def putK(kvs:List (κ×V))(k:κ)(v:V):List (κ×V):=
 if(kvs.any λkv=>decide (kv.1=k))=true then kvs.map (λkv=>if kv.1=k then(kv.1,v)else kv)else kvs++[(k,v)]
theorem zqx{p:κ×V}{r:List (κ×V)}{k:κ}(e:p.1=k):valV (p::r) k=some p.2:=by simp[valV,qBT,e]
theorem zqy{p:κ×V}{r:List (κ×V)}{k:κ}(e:¬p.1=k):valV (p::r) k=valV r k:=by simp[valV,qBT,e]
theorem zaez(k:κ):∀kvs:List (κ×V),(kvs.any λkv=>decide (kv.1=k))=(valV kvs k).isSome
 | []=>rfl
 | p::r=>by
  rw[qA7]
  by_cases e:p.1=k
  ·simp only[zqx e,decide_eq_true e,qCb,qDD]
  ·rw[zqy e,decide_eq_false e,qC0];exact zaez k r
theorem zlr(kvs:List (κ×V))(k:κ)(v:V):(putK kvs k v).length<=kvs.length+1:=by
 unfold putK
 split
 ·rw[qG];omega
 ·rw[qK,qy,qCH];omega
theorem RelO.isSome_eq{o:Option V}{u:Option Value}(r:RelO o u):o.isSome=u.isSome:=by
 cases o with
 | none=>cases u with
  | none=>rfl
  | some _=>exact(show False from r).elim
 | some _=>cases u with
  | none=>exact(show False from r).elim
  | some _=>rfl
theorem KV.val{kvs:List (κ×V)}{vs:List (κ×Value)}(r:KV kvs vs)(k:κ):RelO (valV kvs k) (valueAt vs k):=by
 unfold KV at r
 induction r with
 | nil=>exact True.intro
 | @cons p q ps qs h t ih=>
  obtain⟨h1,h2⟩:=h
  by_cases e:p.1=k
  ·have e':q.1=k:=h1.symm.trans e
   have b:valueAt (q::qs) k=some q.2:=by simp[valueAt,qBT,e']
   rw[zqx e,b];exact h2
  ·have e':¬q.1=k:=λz=>e (h1.trans z)
   have b:valueAt (q::qs) k=valueAt qs k:=by simp[valueAt,qBT,e']
   rw[zqy e,b];exact ih
theorem KV.any{kvs:List (κ×V)}{vs:List (κ×Value)}(r:KV kvs vs)(k:κ):(kvs.any λkv=>decide (kv.1=k))=vs.any λkv=>decide (kv.1=k):=by
 unfold KV at r
 induction r with
 | nil=>rfl
 | cons h t ih=>rw[qA7,qA7,ih,h.1]
theorem KV.repl{kvs:List (κ×V)}{vs:List (κ×Value)}(r:KV kvs vs)(k:κ){y:V}{u:Value}(ry:RelV y u) :
  KV (kvs.map λkv=>if kv.1=k then(kv.1,y)else kv) (vs.map λkv=>if kv.1=k then(kv.1,u)else kv):=by
 unfold KV at r ⊢
 induction r with
 | nil=>exact .nil
 | @cons p q ps qs h t ih=>
  rw[qa,qa]
  refine .cons ?_ ih
  obtain⟨h1,h2⟩:=h
  by_cases e:p.1=k
  ·rw[if_pos e,if_pos (h1.symm.trans e)];exact⟨h1,ry⟩
  ·rw[if_neg e,if_neg (λz=>e (h1.trans z))];exact⟨h1,h2⟩
theorem KV.put{kvs:List (κ×V)}{vs:List (κ×Value)}(r:KV kvs vs)(k:κ){y:V}{u:Value}(ry:RelV y u):KV (putK kvs k y) (stored vs k u):=by
 unfold putK stored
 rw[r.any k]
 by_cases e:(vs.any λkv=>decide (kv.1=k))=true
 ·rw[if_pos e,if_pos e];exact r.repl k ry
 ·rw[if_neg e,if_neg e];exact Paired.snoc r ⟨rfl,ry⟩
theorem KV.length{kvs:List (κ×V)}{vs:List (κ×Value)}(r:KV kvs vs):kvs.length=vs.length:=qCR r
end
theorem zacp{P:Program}{w:World}{k:Key}{u:Value}(r:RelV (kV k) u):(zbt P w).is k u=true:=by
 cases k with
 | inl i=>obtain⟨t,e⟩:=(show ∃t,u=Value.int i t from r);subst e;exact zaci P w i t
 | inr x=>obtain⟨t,e⟩:=(show ∃t,u=Value.str x t from r);subst e;exact zacj P w x t
theorem zzj{P:Program}{w:World}:∀{ks:List Key}{us:List Value},Vals (ks.map kV) us->ItemsAre (zbt P w) ks us
 | [],_,r=>by rw[qCF]at r;cases r;exact .nil
 | k::ks,_,r=>by
  rw[qa]at r
  cases r with
  | cons h t=>exact .cons (zacp h) (zzj t)
noncomputable abbrev KT(H:Hp):List (List Key×V)->List (List Key×Addr×Value)->Prop:=Paired λp q=>p.1=q.1/\H q.2.1=some (.tup (p.1.map kV))/\RelV p.2 q.2.2
theorem KT.val{H:Hp}{kvs:List (List Key×V)}{xs:List (List Key×Addr×Value)}(r:KT H kvs xs)(k:List Key):RelO (valV kvs k) ((atKey xs k).map (·.2)):=by
 induction r with
 | nil=>exact True.intro
 | @cons p q ps qs h t ih=>
  obtain⟨h1,_,h2⟩:=h
  by_cases e:p.1=k
  ·have e':q.1=k:=h1.symm.trans e
   have b:atKey (q::qs) k=some q.2:=by simp[atKey,qBT,e']
   rw[zqx e,b];exact h2
  ·have e':¬q.1=k:=λz=>e (h1.trans z)
   have b:atKey (q::qs) k=atKey qs k:=by simp[atKey,qBT,e']
   rw[zqy e,b];exact ih
theorem KT.repl{H:Hp}{kvs:List (List Key×V)}{xs:List (List Key×Addr×Value)}(r:KT H kvs xs)(k:List Key){y:V}{u:Value}(ry:RelV y u) :
  KT H (kvs.map λkv=>if kv.1=k then(kv.1,y)else kv) (xs.map (putAt k u)):=by
 induction r with
 | nil=>exact .nil
 | @cons p q ps qs h t ih=>
  rw[qa,qa]
  refine .cons ?_ ih
  obtain⟨h1,h2,h3⟩:=h
  unfold putAt
  by_cases e:p.1=k
  ·rw[if_pos e,if_pos (h1.symm.trans e)];exact⟨h1,h2,ry⟩
  ·rw[if_neg e,if_neg (λz=>e (h1.trans z))];exact⟨h1,h2,h3⟩
theorem KT.put{H:Hp}{kvs:List (List Key×V)}{xs:List (List Key×Addr×Value)}(r:KT H kvs xs)(k:List Key){b:Addr}{y:V}{u:Value}(hb:H b=some (.tup (k.map kV)))(ry:RelV y u) :
  KT H (putK kvs k y) (storedH xs k b u):=by
 have e:(kvs.any λkv=>decide (kv.1=k))=(atKey xs k).isSome:=by
  rw[zaez,(r.val k).isSome_eq,qDK]
 unfold putK storedH
 rw[e]
 by_cases q:(atKey xs k).isSome=true
 ·rw[if_pos q,if_pos q];exact r.repl k ry
 ·rw[if_neg q,if_neg q];exact Paired.snoc r ⟨rfl,hb,ry⟩
theorem KT.keeps{H H':Hp}{kvs:List (List Key×V)}{xs:List (List Key×Addr×Value)}(r:KT H kvs xs)(ht:∀b ys,H b=some (.tup ys)->H' b=some (.tup ys)):KT H' kvs xs:=
 Paired.mapP r λ_ _ z=>⟨z.1,ht _ _ z.2.1,z.2.2⟩
section
variable{P:Program}{w:World}{H:Hp}{h:Heap}{a:Addr}
theorem zaxh{u:HO}(ok:HOk P w H h)(e:Rd H a u):zes P w H h a u:=e.ok ok
theorem zanv{kvs:List (Key×V)}(ok:HOk P w H h)(e:Rd H a (.dK kvs)):kvs.length<=qZ/\(a==sysModules)=false/\∃vs,KV kvs vs/\h.DictOf (zbt P w) a vs:=
 show zes P w H h a (.dK kvs)from zaxh ok e
theorem zanw{kvs:List (Key×V)}(ok:HOk P w H h)(e:H a=some (.dK kvs)):kvs.length<=qZ/\(a==sysModules)=false/\∃vs,KV kvs vs/\h.DictOf (zbt P w) a vs:=zanv ok (.inl e)
theorem zafa{ks:List Key}(ok:HOk P w H h)(e:H a=some (.tup (ks.map kV))):(tupleKind (zbt P w)).is h ks a:=by
 obtain⟨_,its,r,o,h1,h2,n,h3⟩:=(show zes P w H h a (.tup (ks.map kV))from ok a _ e)
 exact⟨o,its.toArray,n,h1,h2,h3,by simpa using zzj r⟩
theorem zanx{kvs:List (List Key×V)}(ok:HOk P w H h)(e:Rd H a (.dT kvs)):kvs.length<=qZ/\(a==sysModules)=false/\
  ∃xs,KT H kvs xs/\h.DictOfH (tupleKind (zbt P w)) a xs:=by
 obtain⟨z,y,xs,r,o,es,ep,h1,h2,h3,h4,h5⟩:=(show zes P w H h a (.dT kvs)from zaxh ok e)
 refine⟨z,y,xs,r,o,es,ep,h1,h2,h3,h4,λx hx=>?_,h5⟩
 have all:∀{l:List (List Key×V)}{m:List (List Key×Addr×Value)},KT H l m->∀x∈m,(tupleKind (zbt P w)).is h x.1 x.2.1:=by
  intro l m q
  induction q with
  | nil=>intro x hx;exact nomatch hx
  | @cons p q ps qs hq t ih=>
   intro x hx
   rcases qJ.mp hx with e|hx
   ·subst e
    exact zafa ok (by rw[<- hq.1];exact hq.2.1)
   ·exact ih x hx
 exact all r x hx
theorem zbao{kvs:List (List Key×V)}(ok:HOk P w H h)(e:H a=some (.dT kvs)):kvs.length<=qZ/\(a==sysModules)=false/\
  ∃xs,KT H kvs xs/\h.DictOfH (tupleKind (zbt P w)) a xs:=zanx ok (.inl e)
end
noncomputable def DGet(H:Hp)(a:Addr)(y:V)(r:Option V):Prop:=
 (∃kvs k,Rd H a (.dK kvs)/\y=kV k/\r=valV kvs k)\/∃kvs k b,Rd H a (.dT kvs)/\y=.ref b/\H b=some (.tup (k.map kV))/\r=valV kvs k
noncomputable def DPut(H:Hp)(a:Addr)(y v:V)(H':Hp):Prop:=
 (∃kvs k,H a=some (.dK kvs)/\y=kV k/\kvs.length<qZ/\H'=upd H a (.dK (putK kvs k v)))\/
 ∃kvs k b,H a=some (.dT kvs)/\y=.ref b/\H b=some (.tup (k.map kV))/\kvs.length<qZ/\H'=upd H a (.dT (putK kvs k v))
theorem DGet.k{H:Hp}{a:Addr}{kvs:List (Key×V)}{k:Key}(e:H a=some (.dK kvs)):DGet H a (kV k) (valV kvs k):=.inl ⟨kvs,k,.inl e,rfl,rfl⟩
theorem DPut.k{H:Hp}{a:Addr}{kvs:List (Key×V)}{k:Key}{v:V}(e:H a=some (.dK kvs))(hl:kvs.length<qZ):DPut H a (kV k) v (upd H a (.dK (putK kvs k v))):=.inl ⟨kvs,k,e,rfl,hl,rfl⟩
section
variable{X:Cx}{pins:List (Addr×Obj)}{σ:St}{H:Hp}{s:Shared}{a:Addr}{y v:V}{u r:Value}{o:Option V}{A:Around}{E:Value->Shared->Prop}
theorem Inv.big(I:Inv X pins σ H s):sysModules<s.heap.objs.size:=by
 have h:qm<s.heap.objs.size:=(I.mod.glob.keeps I.bk).lt
 exact Nat.lt_trans (by decide) h
theorem zajf{Q:Value->Shared->Prop}(hu:A.units+1<cLine)(I:Inv X pins σ H s)(g:DGet H a y (some v))(ry:RelV y u)(h:∀w' s',Inv X pins σ H s'->RelV v w'->Q w' s') :
  wpAny (model X.prog X.w) A (getItem (.ref a) u) Q E s:=by
 rcases g with⟨kvs,k,e,ey,l⟩|⟨kvs,k,b,e,ey,eb,l⟩
 ·subst ey
  obtain⟨z,hd,vs,rel,dd⟩:=zanv I.hok e
  obtain⟨w',hw,rw'⟩:=RelO.some_of (v:=v) (o:=valueAt vs k) (by rw[l];exact rel.val k)
  exact wpAny_getItem_of (zacp ry) dd.mapOf hw (h w' _ (I.tok _) rw')
 ·subst ey
  cases(show u=Value.ref b from ry)
  obtain⟨z,hd,xs,rel,dd⟩:=zanx I.hok e
  obtain⟨w',hw,rw'⟩:=RelO.some_of (v:=v) (o:=(atKey xs k).map (·.2)) (by rw[l];exact rel.val k)
  obtain⟨p,hp,hp2⟩:=qF.mp hw
  refine wpAny_getItem_heap (qCf hu) (zafa I.hok eb) dd hp ?_
  rw[hp2]
  exact h w' _ (I.tok _) rw'
theorem d_in{Q:Value->Shared->Prop}(hu:A.units+1<cLine)(I:Inv X pins σ H s)(g:DGet H a y o)(ry:RelV y u)(h:∀s',Inv X pins σ H s'->Q (.bool o.isSome) s') :
  wpAny (model X.prog X.w) A (compareOp .In u (.ref a)) Q E s:=by
 rcases g with⟨kvs,k,e,ey,l⟩|⟨kvs,k,b,e,ey,eb,l⟩
 ·subst ey
  obtain⟨z,hd,vs,rel,dd⟩:=zanv I.hok e
  refine wpAny_in_of (zacp ry) hd dd.mapOf ?_
  rw[<- (rel.val k).isSome_eq,<- l]
  exact h _ (I.tok _)
 ·subst ey
  cases(show u=Value.ref b from ry)
  obtain⟨z,hd,xs,rel,dd⟩:=zanx I.hok e
  refine wpAny_in_heap (qCf hu) (zafa I.hok eb) hd dd ?_
  have q:=(rel.val k).isSome_eq
  rw[qDK]at q
  rw[<- q,<- l]
  exact h _ (I.tok _)
theorem zwm{h':Heap}{t':Nat}{ob:HO}(I:Inv X pins σ H s)(mu:Mut (H a))(hs:Heap.SameBut a s.heap h')(he:∃q,h'.get? a=some q)(new:zes X.prog X.w (upd H a ob) h' a ob) :
  Inv X pins σ (upd H a ob) {s with heap:=h',toks:=t'}:=
 I.write (x:=a) (e:=a) mu (.inl rfl) (λb q hb z=>(hs.2 b hb).trans z) he new
theorem zafb{P:Program}{w:World}{H':Hp}{h':Heap}{kvs:List (Key×V)}{vs:List (Key×Value)}(z:kvs.length<=qZ)(hd:(a==sysModules)=false)(rel:KV kvs vs)(dd:h'.DictOf (zbt P w) a vs) :
  zes P w H' h' a (.dK kvs):=⟨z,hd,vs,rel,dd⟩
theorem zajg{H':Hp}{Q:Unit->Shared->Prop}(hu:A.units+1<cLine)(I:Inv X pins σ H s)(g:DPut H a y v H')(ry:RelV y u)(rv:RelV v r)(h:∀s',Inv X pins σ H' s'->Q () s') :
  wpAny (model X.prog X.w) A (setItem (.ref a) u r) Q E s:=by
 rcases g with⟨kvs,k,e,ey,l,eH⟩|⟨kvs,k,b,e,ey,eb,l,eH⟩
 ·subst ey eH
  obtain⟨z,hd,vs,rel,dd⟩:=zanw I.hok e
  have hz:vs.length<=qZ:=by rw[<- rel.length];exact z
  have hl:(putK kvs k v).length<=qZ:=by have:=zlr kvs k v;omega
  refine wpAny_setItem_pairs (hsz:=hz) (zacp ry) dd λh' dd' hs=>h _ ?_
  have he:∃q,h'.get? a=some q:=let⟨q,_,_,hq,_⟩:=dd';⟨q,hq⟩
  exact zwm I (by rw[e];exact True.intro) hs he (zafb hl hd (rel.put k rv) dd')
 ·subst ey eH
  cases(show u=Value.ref b from ry)
  obtain⟨z,hd,xs,rel,dd⟩:=zbao I.hok e
  have hz:xs.length<=qZ:=by rw[<- qCR rel];exact z
  have hl:(putK kvs k v).length<=qZ:=by have:=zlr kvs k v;omega
  refine wpAny_setItem_heap (hsz:=hz) (qCf hu) (zafa I.hok eb) dd λh' dd' hs=>h _ ?_
  obtain⟨q,es,ep,hq,h2,h3,h4,_,h5⟩:=dd'
  refine zwm I (by rw[e];exact True.intro) hs ⟨q,hq⟩ ⟨hl,hd,_,(rel.put k eb rv).keeps λc ys ec=>?_,q,es,ep,hq,h2,h3,h4,h5⟩
  rw[zat (zbad ec e (λz=>nomatch z))]
  exact ec
end
noncomputable def NoSl(i:Expr):Prop:=∀ov iv,subscripted i false ov iv=operate [ov,iv] (getItem ov iv)
theorem zasx{prog:Program}{w:World}{A:Around}{E:Value->Shared->Prop}{s:Shared}{env:Env}{value slice:Expr}{pos:Pos}{T id:String}{Q:Value->Shared->Prop}
  (hl:typeLookup (.type T) "__getitem__"=pure (some (.builtin id)))(hs:NoSl slice)
  (h:wpAny (model prog w) A (eval value env) (λo s₁=>wpAny (model prog w) A (eval slice env) (λi s₂=>s₂.TypeIs o T/\wpAny (model prog w) A (getItem o i) Q E s₂) E s₁) E s) :
  wpAny (model prog w) A (eval (.Subscript value slice pos) env) Q E s:=by
 refine Subscript_ (qBN h (λo s₁ h₁=>qBN h₁ (λi s₂ h₂=>?_) λ_ _ x=>x) λ_ _ x=>x)
 obtain⟨hT,h₂⟩:=h₂
 unfold subscriptTail
 refine qD ?_
 rw[getitemInPython_of_ne hT.not_modules]
 refine qD (wpAny_specialOf hT hl ?_)
 have fin:wpAny (model prog w) A (subscripted slice false o i) (λr s₃=>wpAny (model prog w) A (letTemporaryGo value o r >>=λ_=>pure r) Q E s₃) E s₂:=by
  rw[hs o i]
  exact wpAny_operating (qBN h₂ (λr s₃ h₃=>qD (wpAny_letTemporaryGo (qO h₃))) λ_ _ x=>x)
 first
  | exact qO (qD fin)
  | exact qD (qO (qD fin))
  | exact qD fin
theorem zacq{X:Cx}{pins:List (Addr×Obj)}{σ:St}{H:Hp}{s:Shared}{a:Addr}{y:V}{o:Option V}(I:Inv X pins σ H s)(g:DGet H a y o):s.TypeIs (.ref a) "dict":=by
 rcases g with⟨kvs,k,e,_,_⟩|⟨kvs,k,b,e,_,_,_⟩
 ·obtain⟨_,_,vs,_,dd⟩:=zanv I.hok e
  exact dd.typeIs
 ·obtain⟨_,_,xs,_,dd⟩:=zanx I.hok e
  exact dd.typeIs
noncomputable def tDGet(td ty:TE):TE:=λσ H Q=>td σ H λx H1=>ty σ H1 λy H2=>∃a v,x=.ref a/\DGet H2 a y (some v)/\Q v H2
noncomputable def tDIn(ty td:TE):TE:=λσ H Q=>ty σ H λy H1=>td σ H1 λx H2=>∃a o,x=.ref a/\DGet H2 a y o/\Q (.bl o.isSome) H2
noncomputable def sDPut(td ty tv:TE):TS:=λD σ H=>tv σ H λv H1=>td σ H1 λx H2=>ty σ H2 λy H3=>∃a H4,x=.ref a/\DPut H3 a y v H4/\D.nx σ H4
section
variable{X:Cx}{o i e value:Expr}{pos pos' tpos:Pos}{td ty tv:TE}
theorem zasy(hu:X.A.units+1<cLine)(ho:PE X o td)(hi:PE X i ty)(hs:NoSl i):PE X (.Subscript o i pos) (tDGet td ty):=by
 intro pins s σ H Q I h
 refine zasx PySem.F.slot_dict_getitem.lookup hs (thn (ho pins s σ H _ I h) λu s1 ⟨x,H1,I1,rx,q1⟩=>thn (hi pins s1 σ H1 _ I1 q1) λiv s2 ⟨y,H2,I2,ry,a,v,ex,g,q2⟩=>?_)
 subst ex
 obtain rfl:u=Value.ref a:=rx
 exact⟨zacq I2 g,zajf hu I2 g ry λw' s3 I3 rw'=>⟨v,H2,I3,rw',q2⟩⟩
theorem zaxi(hu:X.A.units+1<cLine)(hi:PE X i ty)(ho:PE X o td):PC X .In i o (tDIn ty td):=by
 intro pins s σ H Q I h
 refine thn (hi pins s σ H _ I h) λiv s1 ⟨y,H1,I1,ry,q1⟩=>thn (ho pins s1 σ H1 _ I1 q1) λu s2 ⟨x,H2,I2,rx,a,ov,ex,g,q2⟩=>?_
 subst ex
 obtain rfl:u=Value.ref a:=rx
 exact d_in hu I2 g ry λs3 I3=>⟨.bl ov.isSome,H2,I3,rfl,q2⟩
theorem zasz(hu:X.A.units+1<cLine)(ho:PE X o td)(hi:PE X i ty)(hv:PE X value tv)(hs:swapsWith value (some (.Subscript o i pos')) pos.line X.env=pure false) :
  PS X (.Assign [.Subscript o i pos'] value pos) (sDPut td ty tv):=by
 intro pins s σ H D I h
 refine wpAny_Assign_Subscript (thn (hv pins s σ H _ I h) λr s1 ⟨v,H1,I1,rv,q1⟩=>thn (ho pins s1 σ H1 _ I1 q1) λu s2 ⟨x,H2,I2,rx,q2⟩=>thn (hi pins s2 σ H2 _ I2 q2) λiv s3 ⟨y,H3,I3,ry,a,H4,ex,g,q3⟩=>?_) hs
 subst ex
 obtain rfl:u=Value.ref a:=rx
 exact zajg hu I3 g ry rv λs4 I4=>⟨σ,H4,I4,q3⟩
end
theorem zafc{P:Program}{w:World}{H:Hp}(h:Heap)(hb:sysModules<h.objs.size):zes P w H (h.push {cls:=.type "dict",data:=.dict #[]}) h.objs.size (.dK []):=
 ⟨qAQ _,beq_eq_false_iff_ne.mpr (qAv (qw hb)),[],.nil,qC5 h⟩
noncomputable def tDNewK:TE:=λ_ H Q=>∀p,H p=none->Q (.ref p) (upd H p (.dK []))
section
variable{X:Cx}{pos:Pos}
theorem zany:PE X (.Dict [] [] pos) tDNewK:=λpins s σ H Q I h=>
 wpAny_Dict_empty ⟨.ref s.heap.objs.size,_,I.laid (a:=s.heap.objs.size) (o:=.dK []) (t':=s.toks) (λ_ _ q=>qE _ q) (qN _) (zafc s.heap I.big),rfl,h _ (I.hok.fresh (qN _))⟩
end
noncomputable def zajh:List (TE×TE)->St->Hp->(List (V×V)->Hp->Prop)->Prop
 | [],_,H,Q=>Q [] H
 | (tk,tv)::r,σ,H,Q=>tk σ H λx H1=>tv σ H1 λy H2=>zajh r σ H2 λps H3=>Q ((x,y)::ps) H3
noncomputable abbrev VV:List (V×V)->List (Value×Value)->Prop:=Paired λp q=>RelV p.1 q.1/\RelV p.2 q.2
noncomputable def PPs(X:Cx)(pos:Pos)(keys:List (Option Expr))(values:List Expr)(trs:List (TE×TE)):Prop:=
 ∀(pins:List (Addr×Obj))(s:Shared)(σ:St)(H:Hp)(Q:List (V×V)->Hp->Prop),Inv X pins σ H s->zajh trs σ H Q->
  wpAny (model X.prog X.w) X.A (evalPairs (pairTrees keys values X.env pos)) (λvs s'=>∃ps H',Inv X pins σ H' s'/\VV ps vs/\Q ps H') X.xe s
theorem zata{X:Cx}{pos:Pos}:PPs X pos [] [] []:=λpins s σ H Q I h=>pairTrees_nil_walk ⟨[],H,I,.nil,h⟩
theorem zanz{X:Cx}{pos:Pos}{k v:Expr}{ks:List (Option Expr)}{vs:List Expr}{tk tv:TE}{trs:List (TE×TE)}(hk:PE X k tk)(hv:PE X v tv)(hr:PPs X pos ks vs trs) :
  PPs X pos (some k::ks) (v::vs) ((tk,tv)::trs):=λpins s σ H Q I h=>
 pairTrees_cons_walk (thn (hk pins s σ H _ I h) λu s1 ⟨x,H1,I1,rx,q1⟩=>thn (hv pins s1 σ H1 _ I1 q1) λw2 s2 ⟨y,H2,I2,ry,q2⟩=>
  thn (hr pins s2 σ H2 _ I2 q2) λws s3 ⟨ps,H3,I3,rel,q3⟩=>⟨(x,y)::ps,H3,I3,.cons ⟨rx,ry⟩ rel,q3⟩)
noncomputable def zhc(kvs more:List (Key×V)):List (Key×V):=more.foldl (λacc kv=>putK acc kv.1 kv.2) kvs
theorem KV.merge:∀{more:List (Key×V)}{rs:List (Key×Value)}{kvs:List (Key×V)}{vs:List (Key×Value)},KV more rs->KV kvs vs->KV (zhc kvs more) (merged vs rs):=by
 intro more rs kvs vs r
 unfold KV at r
 induction r generalizing kvs vs with
 | nil=>intro q;exact q
 | @cons p q ps qs h t ih=>
  intro r0
  have e:KV (putK kvs p.1 p.2) (stored vs q.1 q.2):=by
   have:=r0.put p.1 h.2
   rw[<- h.1];exact this
  exact ih e
theorem zgu:∀(more kvs:List (Key×V)),(zhc kvs more).length<=kvs.length+more.length
 | [],kvs=>by show kvs.length<=kvs.length+0;omega
 | p::r,kvs=>by
  have h1:=zgu r (putK kvs p.1 p.2)
  have h2:=zlr kvs p.1 p.2
  show(zhc (putK kvs p.1 p.2) r).length<=_
  rw[qy];omega
theorem zum{P:Program}{w:World}:∀{kvs:List (Key×V)}{ws:List (Value×Value)},VV (kvs.map λkv=>(kV kv.1,kv.2)) ws->∃rs,Carries (zbt P w) ws rs/\KV kvs rs
 | [],_,r=>by rw[qCF]at r;cases r;exact⟨[],True.intro,.nil⟩
 | p::kvs,_,r=>by
  rw[qa]at r
  cases r with
  | @cons a b as bs h t=>
   obtain⟨rs,c,q⟩:=zum (P:=P) (w:=w) t
   obtain⟨b1,b2⟩:=b
   exact⟨(p.1,b2)::rs,⟨zacp h.1,rfl,c⟩,.cons ⟨rfl,h.2⟩ q⟩
noncomputable def tDisp(trs:List (TE×TE)):TE:=λσ H Q=>∀p,H p=none->zajh trs σ (upd H p (.dK [])) λps H2=>H2 p=some (.dK [])/\∃kvs:List (Key×V),ps=kvs.map (λkv=>(kV kv.1,kv.2))/\kvs.length<=15/\Q (.ref p) (upd H2 p (.dK (zhc [] kvs)))
theorem zatb{X:Cx}{pos:Pos}{keys:List (Option Expr)}{values:List Expr}{trs:List (TE×TE)}(h:PPs X pos keys values trs)(hall:keys.all (·.isSome)=true)(hl:keys.length=values.length)(h0:keys≠[])
  (h15:keys.length<=15):PE X (.Dict keys values pos) (tDisp trs):=by
 intro pins s σ H Q I q
 have hn:=I.hok.fresh (qN s.heap.objs.size)
 have I1:=I.laid (a:=s.heap.objs.size) (o:=.dK []) (h':=s.heap.push {cls:=.type "dict",data:=.dict #[]}) (t':=s.toks) (λ_ _ q=>qE _ q) (qN _) (zafc s.heap I.big)
 refine wpAny_Dict_walk (knd:=zbt X.prog X.w) hall hl h0 h15 (thn (h pins _ σ _ _ I1 (q _ hn)) λws s2 ⟨ps,H2,I2,rel,e,kvs,ep,lk,q2⟩=>?_)
 subst ep
 obtain⟨rs,c,rk⟩:=zum (P:=X.prog) (w:=X.w) rel
 obtain⟨z,hd,vs0,r0,dd⟩:=zanw I2.hok e
 cases r0
 refine⟨rs,c,dd,λh' dd' hs=>⟨.ref s.heap.objs.size,_,?_,rfl,q2⟩⟩
 have hz:(zhc [] kvs).length<=qZ:=by
  have h1:=zgu kvs []
  rw[qCH]at h1
  rw[qCL];omega
 have he:∃q,h'.get? s.heap.objs.size=some q:=let⟨q,_,_,hq,_⟩:=dd';⟨q,hq⟩
 exact zwm I2 (by rw[e];exact True.intro) hs he (zafb hz hd (rk.merge .nil) dd')
set_option genInjectivity false in
set_option genInjectivity false in
section
variable{X:Cx}{pins:List (Addr×Obj)}{σ:St}{H:Hp}{s:Shared}{a:Addr}{y d:V}{u r:Value}{o:Option V}{A:Around}{E:Value->Shared->Prop}
end
end L2
namespace Att
open PySem PySem.W PySem.Calls PyProof.Rows
theorem zrn{P:Params}{h:Heap}:∀(ns:List Int)(vs:List Value),WellAll P h vs (ns.map WData.int)->IntsAre vs ns:=by
 intro ns
 induction ns with
 | nil=>
  intro vs w
  rw[qCF]at w
  cases w
  exact .nil
 | cons n ns ih=>
  intro vs w
  rw[qa]at w
  cases w with
  | cons a b=>
   cases a
   exact .cons _ _ (ih _ b)
theorem zaji{l:OpenLaw}{n:Nat}(hn:l.most=some n){P:Params}{h:Heap}{args:List WData}{vals:List Value}
  (hpre:l.row.toRowW.claim.pre args=true)(hwl:WellAll P h vals args) :
  ∃a vs ns,vals=[Value.ref a]/\args=[WData.list (ns.map WData.int)]/\h.get? a=some {cls:=.type "list",data:=.seq vs.toArray}/\IntsAre vs ns/\ns.length<=n:=by
 have hsh:WShape.hasAll [] args [.list .int]=true:=(pre_splitW hpre).1
 have hc:l.pre.holds [] {args:=args}=true:=(pre_splitW hpre).2
 obtain⟨d,r,rfl,h1,h2⟩:=hasAllW_cons hsh
 obtain rfl:=hasAllW_nil h2
 obtain⟨xs,rfl,h3⟩:=hasW_list h1
 obtain⟨ns,rfl⟩:=items_int h3
 have hlen:ns.length<=n:=by
  unfold OpenLaw.pre at hc
  have h4:(WTm.not (.lt (.lit (.int (n:Int))) (.len (.arg 0)))).holds [] {args:=[.list (ns.map .int)]}=true:=by
   have h4:=(holds_andW hc).1
   rw[hn]at h4
   exact h4
  have h5:=condW_of h4 (w_not (w_lt w_lit (w_len_list (w_arg rfl))))
  rw[qG]at h5
  refine Nat.le_of_not_lt λq=>?_
  have q':(n:Int)<((ns.length:Nat):Int):=by omega
  first
   | (rw[decide_eq_true q']at h5;exact absurd h5 (by decide))
   | (simp at h5;omega)
 cases hwl with
 | cons w1 w2=>
  cases w2
  cases w1 with
  | list ho hall=>exact⟨_,_,ns,rfl,rfl,ho,zrn ns _ hall,hlen⟩
theorem zajj(l:OpenLaw)(args:List WData):l.row.toRowW.claim.post args (.bool true) args=true:=
 postW_of (r:=l.row.toRowW) (X:=(true==true))
  (show WShape.has [] (.bool true) .bool=true by first|rfl|decide|simp[WShape.has,WShape.arms,WShape.armsAll])
  (show(WTm.eq .res (.lit (.bool true))).value [] {args:=args,res:=some (.bool true),after:=args}=some (.bool (true==true))from w_eq_bool (w_res rfl) w_lit) rfl
theorem attach_call{l:OpenLaw}{n:Nat}{q:Program}{loose:List Str}{XP:(Str->Option Value)->Heap->Prop}{YP:World->Heap->Prop}{d:DefRec}
  (hn:l.most=some n)(hdf:d.params.defaults=[])
  (call:∀(w:World)(s₀ s₁:Shared)(mg mb:Str->Option Value)(fa:Addr)(o:Obj)(pm cd doc:Value)(a:Addr)(vs:List Value)(ns:List Int),
   Ground q loose [] XP w s₀ mg mb s₁.heap->YP w s₁.heap->
   s₁.heap.get? fa=some o->o.data=.func (docDef d.name d.params d.body d.scope pm cd doc)->s₁.heap.CodeRec cd d.name->mg d.name=some (.ref fa)->
   s₁.heap.get? a=some {cls:=.type "list",data:=.seq vs.toArray}->IntsAre vs ns->ns.length<=n->s₁.gens=#[]->
   codeAny (model l.prog w) callerA (.call (.ref fa) ⟨[.ref a],[]⟩) (λr s'=>r=.ok (.ret (.bool true))/\OldK s₁.heap s'.heap/\s'.os=s₁.os/\AllBare s'.gens) s₁) :
  WalkO q loose XP YP l.row.toRowW d [] (λf vs=>PySem.call f vs):=by
 intro w s₀ s₁ mg mb G Y fa o pm cd doc dV kV ho hd hcd hD hmg hg args vals as hpre hlay hrd hwl hlo
 obtain rfl:dV=.none:=Dflts.none hD hdf
 obtain rfl:kV=.none:=Dflts.noKw hD
 obtain⟨a,vs,ns,rfl,rfl,hobj,hints,hlen⟩:=zaji hn hpre hwl
 refine enter_call (qBX (call w s₀ s₁ mg mb fa o pm cd doc a vs ns G Y ho (fd_plain hd) hcd hmg hobj hints hlen hg) λr s' hq=>?_)
 obtain⟨rfl,h2,h3,h4⟩:=hq
 exact⟨.inl ⟨.bool true,.bool true,[],rfl,λ_=>rfl,.bool true,zajj l _,λ_=>⟨List.Pairwise.nil,λ_ hm=>(nomatch hm)⟩⟩,h2,h3,h4⟩
end Att
namespace L2
open PySem PySem.Spec PyProof.Rows
theorem zzk:∀{vs:List Value}{ns:List Int},IntsAre vs ns->Vals (ns.map V.int) vs
 | _,_,.nil=>.nil
 | _,_,.cons n t h=>.cons ⟨t,rfl⟩ (zzk h)
end L2
namespace L2
open PySem PySem.Spec PyProof.Rows
noncomputable def zhv(s:Stmt):Arguments:=match s with
 | .FunctionDef _ a _ _ _ _ _ _ _ _=>a
 | _=>{posonlyargs:=[],args:=[],vararg:=none,kwonlyargs:=[],kw_defaults:=[],kwarg:=none,defaults:=[]}
noncomputable def zgo(s:Stmt):List Stmt:=match s with
 | .FunctionDef _ _ b _ _ _ _ _ _ _=>b
 | _=>[]
noncomputable def zal(s:Stmt):Scope:=match s with
 | .FunctionDef _ _ _ _ _ _ sc _ _ _=>sc
 | _=>{kind:=.function,names:=[],isGenerator:=false,isCoroutine:=false}
noncomputable abbrev CX0:CXT:=λ_ _ _ _ _ _=>False
noncomputable abbrev E0:XK:=λ_ _ _=>False
theorem zbap{X:Cx}:zaja CX0 X E0:=λ_ _ _ _ _ _ _ h=>h.elim
set_option genInjectivity false in
structure Fun(K:qC)(x qual:Str)(st:Stmt)(f:Addr)(fd:qr):Prop where
 ex:∃(oc:Value)(od:Option Addr)(kV doc pm:Value)(an:Option Addr)(cdv ct:Value)(osl:Array (Option Value)),
  fd=qAq x qual (zhv st) (zgo st) (zal st) .none kV doc pm an cdv ct/\K.lookup f=some ⟨oc,od,.func fd,osl⟩/\qCE K cdv qual=true
 kp:qBY K (.ref f)=true
section
variable{P:Program}{w:World}{K:qC}{mg:Str->Option Value}{base:Heap}
theorem Fun.ok{x qual:Str}{st:Stmt}{f:Addr}{fd:qr}{N ps:List Str}{k:Nat}{sp:Sp}(F:Fun K x qual st f fd)(S:FnScope N ps (zal st))(len:∀vs H Q E,sp vs H Q E->vs.length=ps.length)
  (hbody:∀(cdv:Value)(A:Around)(outer:List Env)(s:Shared)(H:Hp)(vs:List V)(Q:VK)(E:XK),Room k (A.deeper (envOfC qual (zal st) s.heap.objs.size f cdv))->sp vs H Q E->
   ∃t,PSs (cxOf CX0 P w K mg base N qual (zal st) f cdv A outer s H E).nox (zgo st) t/\t {nx:=λ_ H'=>Q .non H',rt:=Q} (zfo N vs) H):FnOk P w K mg base CX0 (k+1) f fd ps sp:=by
 obtain⟨oc,od,kV,doc,pm,an,cdv,ct,osl,rfl,lk,hcd⟩:=F.ex
 refine zbal lk hcd S len λA outer s H vs Q E hr hsp=>?_
 obtain⟨t,h,q⟩:=hbody cdv A outer s H vs Q E hr hsp
 exact⟨t,h.nox,q⟩
theorem Fun.binds{x qual:Str}{st:Stmt}{f:Addr}{fd:qr}{ps:List Str}(F:Fun K x qual st f fd)
  (h:∀(kV doc pm:Value) (an:Option Addr) (cdv ct:Value) (us:List Value),us.length=ps.length->bindArgs (qAq x qual (zhv st) (zgo st) (zal st) .none kV doc pm an cdv ct) ⟨us,[]⟩=pure (ps.zip us)):zrl K fd ps []:=by
 obtain⟨oc,od,kV,doc,pm,an,cdv,ct,osl,rfl,lk,hcd⟩:=F.ex
 exact .all (h kV doc pm an cdv ct)
theorem zaxj{x qual:Str}{st:Stmt}{f:Addr}{oc:Value}{od an:Option Addr}{osl:Array (Option Value)}{kV doc pm cdv ct:Value}(l:K.lookup f=some ⟨oc,od,.func (qAq x qual (zhv st) (zgo st) (zal st) .none kV doc pm an cdv ct),osl⟩)
  (c:qCE K cdv qual=true) (k:qBY K (.ref f)=true):Fun K x qual st f (qAq x qual (zhv st) (zgo st) (zal st) .none kV doc pm an cdv ct):=⟨⟨oc,od,kV,doc,pm,an,cdv,ct,osl,rfl,l,c⟩,k⟩
end
theorem zeb{A:Around}{k:Nat}(hr:Room k A):A.units+1<cLine:=qAd (qBp (by decide:1<=64) _) hr.units
theorem iteF{A B:Prop}(h:B):if false=true then A else B:=by
 rw[if_neg qV]
 exact h
theorem iteT{A B:Prop}(h:A):if true=true then A else B:=by
 rw[if_pos rfl]
 exact h
noncomputable def Same(H H':Hp):Prop:=∀b o,H b=some o->H' b=some o
theorem Same.refl(H:Hp):Same H H:=λ_ _ h=>h
theorem Same.trans{H H1 H2:Hp}(a:Same H H1)(b:Same H1 H2):Same H H2:=λc o h=>b c o (a c o h)
theorem Same.free{H H':Hp}(e:Same H H'){l:Addr}(h:H' l=Option.none):H l=Option.none:=by
 cases q:H l with
 | none=>rfl
 | some o=>
  rw[e l o q]at h
  cases h
theorem Same.seq{K:qC}{H H':Hp}{a:Addr}{xs:List V}(e:Same H H')(h:SqL K H a xs):SqL K H' a xs:=by
 rcases h with(h|⟨o,h⟩)|h
 ·exact .inl (.inl (e _ _ h))
 ·exact .inl (.inr ⟨o,e _ _ h⟩)
 ·exact .inr h
section
variable{κ:Type}[DecidableEq κ]
theorem nd_snoc:∀{l:List κ}{k:κ},l.Nodup->¬k∈l->(l++[k]).Nodup
 | [],k,_,_=>by simp
 | a::r,k,h,hk=>by
  obtain⟨h1,h2⟩:=qAs.mp h
  show(a::(r++[k])).Nodup
  refine qAs.mpr ⟨λm=>?_,nd_snoc h2 λm=>hk (qJ.mpr (Or.inr m))⟩
  rcases qj.mp m with q|q
  ·exact h1 q
  ·exact hk (qJ.mpr (Or.inl (ql.mp q).symm))
end
end L2
set_option maxHeartbeats 4000000
namespace L2
open PySem PySem.Spec PyProof.Rows
noncomputable def clos(cells:List (Str×Addr)):List (Str×NameKind)->List (Str×Addr)->List (Str×Addr)
 | [],acc=>acc
 | (n,k)::r,acc=>if k==.free then clos cells r ((n,(cells.lookup n).getD 0)::acc)else clos cells r acc
theorem zwn{cells:List (Str×Addr)}:∀{names:List (Str×NameKind)}{acc:List (Str×Addr)},(∀y∈names,y.2=.free->∃c,cells.lookup y.1=some c)->∀p∈clos cells names acc,p∈acc\/((p.1,NameKind.free)∈names/\cells.lookup p.1=some p.2)
 | [],acc,_,p,hp=>.inl hp
 | (n,k)::r,acc,h,p,hp=>by
  unfold clos at hp
  have hr:∀y∈r,y.2=.free->∃c,cells.lookup y.1=some c:=λy hy=>h y (qL _ hy)
  split at hp
  ·rename_i hk
   rcases zwn hr p hp with q|q
   ·rcases qJ.mp q with q|q
    ·subst q
     have hk':k=.free:=by simpa using hk
     subst hk'
     obtain⟨c,hc⟩:=h (n,.free) qR rfl
     exact .inr ⟨qR,by show cells.lookup n=some ((cells.lookup n).getD 0);rw[hc];rfl⟩
    ·exact .inl q
   ·exact .inr ⟨qL _ q.1,q.2⟩
  ·rcases zwn hr p hp with q|q
   ·exact .inl q
   ·exact .inr ⟨qL _ q.1,q.2⟩
theorem zwo{cells:List (Str×Addr)}:∀{names:List (Str×NameKind)}{acc:List (Str×Addr)},∀p∈acc,p∈clos cells names acc
 | [],acc,p,hp=>hp
 | (n,k)::r,acc,p,hp=>by
  unfold clos
  split
  ·exact zwo p (qL _ hp)
  ·exact zwo p hp
theorem zwp{cells:List (Str×Addr)}{x:Str}:∀{names:List (Str×NameKind)}{acc:List (Str×Addr)},(x,NameKind.free)∈names->∃c,(x,c)∈clos cells names acc
 | [],_,h=>by simp at h
 | (n,k)::r,acc,h=>by
  unfold clos
  rcases qJ.mp h with e|h
  ·cases e
   rw[if_pos (show(NameKind.free==NameKind.free)=true by decide)]
   exact⟨_,zwo _ qR⟩
  ·split
   ·exact zwp h
   ·exact zwp h
theorem zmg{α:Type}{x:Str}{c:α}:∀{l:List (Str×α)},(x,c)∈l->∃c',l.lookup x=some c'
 | [],h=>by simp at h
 | (k,v)::r,h=>by
  rw[qAI]
  cases hb:x==k with
  | true=>exact⟨v,rfl⟩
  | false=>
   rcases qJ.mp h with e|h
   ·cases e;simp at hb
   ·exact zmg h
theorem zmh{scope:Scope}{env:Env}(h:∀y∈scope.names,y.2=.free->∃c,env.cells.lookup y.1=some c):closureFor scope env=pure (clos env.cells scope.names []):=by
 unfold closureFor
 have key:∀(names:List (Str×NameKind))(acc:List (Str×Addr)),(∀y∈names,y.2=.free->∃c,env.cells.lookup y.1=some c)->
   (forIn names acc (λ(x:Str×NameKind) (r:List (Str×Addr))=>(if(x.2==.free)=true then(do let a <- cellOf env x.1;pure (ForInStep.yield ((x.1,a)::r)))else pure (ForInStep.yield r):Sem (ForInStep (List (Str×Addr))))))=pure (clos env.cells names acc):=by
  intro names
  induction names with
  | nil=>intro acc _;rfl
  | cons y r ih=>
   intro acc hy
   obtain⟨n,k⟩:=y
   have hr:=λy (hm:y∈r)=>hy y (qL _ hm)
   rw[qBS]
   unfold clos
   cases hk:(k==NameKind.free)with
   | true=>
    have hk':k=.free:=by simpa using hk
    subst hk'
    obtain⟨c,hc⟩:=hy (n,.free) qR rfl
    have e1:cellOf env n=pure c:=by unfold cellOf;rw[hc]
    simp only[if_true]
    have hc':env.cells.lookup n=some c:=hc
    rw[e1,hc']
    simp only[pure_bind,Option.getD_some]
    exact ih _ hr
   | false=>
    simp only[qAc,if_false,pure_bind]
    exact ih _ hr
 simpa using key scope.names [] h
theorem zgv:∀(names:List (Str×NameKind))(n:Nat)(acc:List (Str×Addr)),cellsFrom n names acc=cellsFrom n names []++acc
 | [],_,_=>rfl
 | (name,kind)::r,n,acc=>by
  unfold cellsFrom
  split
  ·rw[zgv r (n+1) ((name,n)::acc),zgv r (n+1) [(name,n)],qBI];rfl
  ·exact zgv r n acc
theorem zgw{x:Str}{c:Addr}:∀(names:List (Str×NameKind))(n:Nat)(acc:List (Str×Addr)),(x,c)∈cellsFrom n names acc->(x,c)∈acc\/(x,NameKind.cell)∈names
 | [],_,_,h=>.inl h
 | (name,kind)::r,n,acc,h=>by
  unfold cellsFrom at h
  split at h
  ·rename_i hk
   have hk':kind=.cell:=by simpa using hk
   subst hk'
   rcases zgw r _ _ h with q|q
   ·rcases qJ.mp q with q|q
    ·cases q;exact .inr qR
    ·exact .inl q
   ·exact .inr (qL _ q)
  ·rcases zgw r _ _ h with q|q
   ·exact .inl q
   ·exact .inr (qL _ q)
theorem zkv{α:Type}{x:Str}:∀{l r:List (Str×α)},(l++r).lookup x=(l.lookup x).or (r.lookup x)
 | [],_=>by simp
 | (k,v)::l,r=>by
  rw[qCA,qAI,qAI]
  cases x==k with
  | true=>rfl
  | false=>exact zkv
theorem zgh{env:Env}{x:Str}{k':NameKind}:∀{names:List (Str×NameKind)},
  (names.map λ(n,k)=>if(k==NameKind.free&&env.scope.kind==.function&&env.kindOf n==some .cell)then(n,NameKind.cell)else(n,k)).lookup x=some k'->
  ∃k,names.lookup x=some k/\(k'=k\/(k=.free/\k'=.cell))
 | [],h=>by simp at h
 | (n,k)::r,h=>by
  rw[qa]at h
  by_cases hc:(k==NameKind.free&&env.scope.kind==.function&&env.kindOf n==some .cell)=true
  ·simp only[hc,if_true]at h
   rw[qAI]at h ⊢
   cases hx:x==n with
   | true=>
    rw[hx]at h
    have hk:k=.free:=by simp at hc;exact hc.1.1
    exact⟨k,rfl,.inr ⟨hk,(qY h).symm⟩⟩
   | false=>rw[hx]at h;exact zgh h
  ·simp only[hc,qAc,if_false]at h
   rw[qAI]at h ⊢
   cases hx:x==n with
   | true=>rw[hx]at h;exact⟨k,rfl,.inl (qY h).symm⟩
   | false=>rw[hx]at h;exact zgh h
theorem zjj{env:Env}{x:Str}:∀{names:List (Str×NameKind)},names.lookup x=some .free->
  ((names.map λ(n,k)=>if(k==NameKind.free&&env.scope.kind==.function&&env.kindOf n==some .cell)then(n,NameKind.cell)else(n,k)).lookup x=some .free\/
   (names.map λ(n,k)=>if(k==NameKind.free&&env.scope.kind==.function&&env.kindOf n==some .cell)then(n,NameKind.cell)else(n,k)).lookup x=some .cell)
 | [],h=>by simp at h
 | (n,k)::r,h=>by
  rw[qa]
  rw[qAI]at h
  by_cases hc:(k==NameKind.free&&env.scope.kind==.function&&env.kindOf n==some .cell)=true
  ·simp only[hc,if_true]
   rw[qAI]
   cases hx:x==n with
   | true=>exact .inr rfl
   | false=>rw[hx]at h;exact zjj h
  ·simp only[hc,qAc,if_false]
   rw[qAI]
   cases hx:x==n with
   | true=>rw[hx]at h;exact .inl h
   | false=>rw[hx]at h;exact zjj h
theorem zagt{M:Model}{A:Around}{E:Value->Shared->Prop}{s:Shared}{scope:Scope}{globals:Addr}{cl:List (Str×Addr)}{qual:Str}{env:Env}{Q:Env->Shared->Prop}
  (hQ:∀h',(∀b o,s.heap.get? b=some o->h'.get? b=some o)->h'.Ns s.heap.objs.size (λ_=>none)->(∀n c,(n,c)∈cellsFrom (s.heap.objs.size+1) scope.names []->h'.IsCell c none/\s.heap.objs.size+1<=c)->
   ((cellsFrom (s.heap.objs.size+1) scope.names []).Pairwise λx y=>x.2≠y.2)->
   Q {scope:=scope,locals:=s.heap.objs.size,globals:=globals,cells:=cellsFrom (s.heap.objs.size+1) scope.names []++cl,qual:=qual,func:=none,code:=env.code,frame:=env.frame,builtins:=env.builtins} {s with heap:=h'}) :
  wpAny M A (newFunctionEnv scope globals cl [] qual none .none (some env)) Q E s:=by
 simp only[newFunctionEnv,qDD,if_true]
 refine qD (wpAny_alloc ?_)
 refine qD (wpAny_layCells _ (λname kind cells=>by cases hkc:kind==NameKind.cell<;>simp[hkc]) _ _ _ _ ?_)
 have ok:=cellsFrom_ok scope.names (s.heap.push {cls:=.type "dict",data:=.dict #[]}) (s.heap.objs.size+1) [] ⟨λ_ _ hm=>(nomatch hm),List.Pairwise.nil⟩ (by rw[qAz];exact qN _)
 rw[qAz]at ok
 rw[show({s with heap:=s.heap.push {cls:=.type "dict",data:=.dict #[]}}:Shared).heap.objs.size=s.heap.objs.size+1 from qAz ..]
 rw[zgv]
 refine qD ?_
 refine qO (qO ?_)
 exact hQ _ (λb o e=>pushCells_keeps _ _ b o (qE _ e)) ((Heap.Ns.new s.heap (.type "dict")).keeps (pushCells_keeps _ _)) ok.empty ok.apart
noncomputable def cxComp(X:Cx)(scope:Scope)(N' own:List Str)(cl:List (Str×Addr))(C:Addr)(s:Shared)(H:Hp)(fp:List Addr):Cx:=
 {X with N:=N',s₀:=s,H₀:=H,env:=compEnvC scope cl C X.env,outer:=X.stack,stack:=X.stack,ex:=fp,fn:=λx=>own.contains x,pn:=[],xe:=λ_ _=>False}
structure CompOk(X:Cx)(scope:Scope)(N' own:List Str)(fr:List Nat):Prop where
 kind:scope.kind=.function
 names:∀y∈scope.names,scope.names.lookup y.1=some y.2
 up:∀y∈scope.names,y.2=.free->(X.env.kindOf y.1=some .cell\/X.env.kindOf y.1=some .free)
 nm:N'=own++fr.map (λj=>X.N.getD j Str.empty)
 fr:∀j∈fr,j<X.N.length/\scope.names.lookup (X.N.getD j Str.empty)=some .free
 own:∀x∈own,scope.names.lookup x=some .local\/scope.names.lookup x=some .cell
noncomputable def tau(own:List Str)(fr:List Nat)(σ:St):St:=own.map (λ_=>none)++fr.map (λj=>σ.getD j none)
section
variable{X:Cx}{pins:List (Addr×Obj)}{σ:St}{H:Hp}{s:Shared}{scope:Scope}{N' own:List Str}{fr:List Nat}
theorem znq(c:CompOk X scope N' own fr)(ok:X.Ok):∀y∈scope.names,y.2=.free->∃a,X.env.cells.lookup y.1=some a:=λy hy e=>ok.has y.1 (c.up y hy e)
theorem zaoa{fp:List Addr}{h':Heap}(c:CompOk X scope N' own fr)(I:Inv X pins σ H s)
  (hf:∀b∈fp,FpOk X pins H b)(ho:∀b∈fp,∃o,s.heap.get? b=some o/\∀v,o.data≠.cell v)
  (keep:∀b o,s.heap.get? b=some o->h'.get? b=some o)(ns:h'.Ns s.heap.objs.size (λ_=>none))
  (cells:∀n c,(n,c)∈cellsFrom (s.heap.objs.size+1) scope.names []->h'.IsCell c none/\s.heap.objs.size+1<=c)
  (apart:(cellsFrom (s.heap.objs.size+1) scope.names []).Pairwise λx y=>x.2≠y.2) :
  Inv (cxComp X scope N' own (cellsFrom (s.heap.objs.size+1) scope.names []++clos X.env.cells scope.names []) s.heap.objs.size s H fp) [] (tau own fr σ) H {s with heap:=h'}:=by
 have found:=znq c I.ok
 have clm:∀x a,(x,a)∈clos X.env.cells scope.names []->(x,NameKind.free)∈scope.names/\X.env.cells.lookup x=some a:=λx a hm=>by
  rcases zwn found (x,a) hm with q|q
  ·simp at q
  ·exact q
 have look:∀x a,(cellsFrom (s.heap.objs.size+1) scope.names []++clos X.env.cells scope.names []).lookup x=some a->
   ((x,a)∈cellsFrom (s.heap.objs.size+1) scope.names []/\(x,NameKind.cell)∈scope.names)\/((x,NameKind.free)∈scope.names/\X.env.cells.lookup x=some a):=λx a e=>by
  rw[zkv]at e
  cases q:(cellsFrom (s.heap.objs.size+1) scope.names []).lookup x with
  | some b=>
   rw[q]at e
   cases e
   have hm:=qx q
   rcases zgw _ _ _ hm with z|z
   ·simp at z
   ·exact .inl ⟨hm,z⟩
  | none=>
   rw[q]at e
   exact .inr (clm x a (qx e))
 have lookF:∀x a,(x,NameKind.free)∈scope.names->X.env.cells.lookup x=some a->(cellsFrom (s.heap.objs.size+1) scope.names []++clos X.env.cells scope.names []).lookup x=some a:=λx a hx e=>by
  rw[zkv]
  have q:(cellsFrom (s.heap.objs.size+1) scope.names []).lookup x=none:=by
   cases q:(cellsFrom (s.heap.objs.size+1) scope.names []).lookup x with
   | none=>rfl
   | some b=>
    rcases zgw _ _ _ (qx q)with z|z
    ·simp at z
    ·have h1:=c.names _ hx
     have h2:=c.names _ z
     rw[h1]at h2
     cases h2
  rw[q]
  obtain⟨d,hd⟩:=zwp (cells:=X.env.cells) (acc:=[]) hx
  obtain⟨d',hd'⟩:=zmg hd
  have:=(clm x d' (qx hd')).2
  rw[e]at this
  cases this
  exact hd'
 have below:∀b o,s.heap.get? b=some o->b<s.heap.objs.size:=λb o e=>qP e
 have cold:∀x a,X.env.cells.lookup x=some a->a<s.heap.objs.size:=λx a e=>let⟨v,q⟩:=I.cell x a e;q.lt
 refine⟨⟨I.ok.mod,c.kind,I.ok.glob,I.ok.blt,qN _,?inj,?has,?cab,I.ok.hd,I.ok.frames,.inl rfl,?exf,I.bs,qAA I.ok.bsz I.sz,?noex,?exfs,I.stack,I.stkFree⟩,
  rfl,I.bare,Un.kept keep,⟨_,ns,?loc⟩,?cell,I.hok.fresh (qN _),?freeC,?pin,I.hok.kept keep,?len⟩
 case inj=>
  intro x y a h1 h2
  rcases look x a h1 with⟨m1,k1⟩|⟨k1,e1⟩<;>rcases look y a h2 with⟨m2,k2⟩|⟨k2,e2⟩
  ·exact name_of_addr apart m1 m2
  ·exact absurd (qb (cold y a e2) (qB5 (cells x a m1).2)) (qAl _)
  ·exact absurd (qb (cold x a e1) (qB5 (cells y a m2).2)) (qAl _)
  ·exact I.ok.inj x y a e1 e2
 case has=>
  intro x hx
  have hx':(∃k,scope.names.lookup x=some k/\(k=.cell\/k=.free)):=by
   rcases hx with hx|hx
   ·obtain⟨k,e,q⟩:=zgh (env:=X.env) (names:=scope.names) hx
    rcases q with q|⟨q,_⟩
    ·exact⟨k,e,.inl q.symm⟩
    ·exact⟨k,e,.inr q⟩
   ·obtain⟨k,e,q⟩:=zgh (env:=X.env) (names:=scope.names) hx
    rcases q with q|⟨q,_⟩
    ·exact⟨k,e,.inr q.symm⟩
    ·exact⟨k,e,.inr q⟩
  obtain⟨k,e,q⟩:=hx'
  show ∃a,(cellsFrom (s.heap.objs.size+1) scope.names []++clos X.env.cells scope.names []).lookup x=some a
  rcases q with rfl|rfl
  ·obtain⟨a,ha⟩:=zwi (n:=s.heap.objs.size+1) e
   exact⟨a,by rw[zkv,ha];rfl⟩
  ·obtain⟨a,ha⟩:=found _ (qx e) rfl
   exact⟨a,lookF x a (qx e) ha⟩
 case cab=>
  intro x a hx e
  have hx:own.contains x=true:=hx
  have hx':x∈own:=by simpa using hx
  rcases look x a e with⟨m1,_⟩|⟨k1,_⟩
  ·have:=(cells x a m1).2
   show s.heap.objs.size<=a
   omega
  ·have h1:=c.names _ k1
   rcases c.own x hx' with h2|h2
   ·rw[h1]at h2;cases h2
   ·rw[h1]at h2;cases h2
 case exf=>
  intro b hb
  obtain⟨o,e,d⟩:=ho b hb
  refine⟨qw (below b o e),λx a q z=>?_⟩
  subst z
  rcases look x a q with⟨m1,_⟩|⟨k1,e1⟩
  ·exact absurd (qb (below a o e) (qB5 (cells x a m1).2)) (qAl _)
  ·obtain⟨v,o',e',d'⟩:=I.cell x a e1
   rw[e]at e'
   cases e'
   exact d v d'
 case noex=>
  intro b o e hb
  rcases(hf b hb).2.2.2.1 with z|z
  ·exact I.ok.noex b o e z
  ·exact absurd (qb (qb (qP e) I.ok.bsz) z) (qAl _)
 case exfs=>
  intro b hb z
  rcases qJ.mp (I.stkSub b z)with q|q
  ·exact(hf b hb).2.1 q
  ·exact(hf b hb).2.2.1 q
 case loc=>
  intro i x v h1 h2 h3
  have h1:N'[i]?=some x:=h1
  rw[c.nm]at h1
  unfold tau at h2
  by_cases hi:i<own.length
  ·rw[qk (by simpa using hi),qh]at h2
   cases q:own[i]? with
   | none=>rw[q]at h2;cases h2
   | some z=>rw[q]at h2;cases h2
  ·rw[qp (by simpa using hi),qh,qG]at h2
   rw[qp (by simpa using hi),qh]at h1
   cases q:fr[i - own.length]? with
   | none=>rw[q]at h2;cases h2
   | some j=>
    rw[q]at h1 h2
    have e1:X.N.getD j Str.empty=x:=qY h1
    have e2:σ.getD j none=some v:=qY h2
    obtain⟨hj,hfree⟩:=c.fr j (qAe q)
    rw[e1]at hfree
    have hNj:X.N[j]?=some x:=by
     rw[<- e1,qg,qH hj];rfl
    have hσj:σ[j]?=some (some v):=by
     rw[qg]at e2
     cases z:σ[j]? with
     | none=>rw[z]at e2;cases e2
     | some w=>rw[z]at e2;rw[show w=some v from e2]
    have hmem:(x,NameKind.free)∈scope.names:=qx hfree
    have hup:=c.up _ hmem rfl
    obtain⟨m,hn,hl⟩:=I.loc
    obtain⟨u,ru,lk⟩:=hl j x v hNj hσj (by rcases hup with z|z;exact .inr (.inl z);exact .inr (.inr z))
    refine⟨u,ru,.inr ⟨?_,?_⟩⟩
    ·rcases zjj (env:=X.env) (names:=scope.names) hfree with z|z
     ·exact .inr z
     ·exact .inl z
    ·rcases lk with⟨k1,_⟩|⟨_,a,ha,hc⟩
     ·rcases hup with z|z
      ·rw[show X.env.kindOf x=some .cell from z]at k1;cases k1
      ·rw[show X.env.kindOf x=some .free from z]at k1;cases k1
     ·exact⟨a,lookF x a hmem ha,hc.keeps keep⟩
 case cell=>
  intro x a e
  rcases look x a e with⟨m1,_⟩|⟨k1,e1⟩
  ·exact⟨_,(cells x a m1).1⟩
  ·obtain⟨v,q⟩:=I.cell x a e1
   exact⟨v,q.keeps keep⟩
 case freeC=>
  intro x a e
  rcases look x a e with⟨m1,_⟩|⟨k1,e1⟩
  ·exact I.hok.fresh (by have:=(cells x a m1).2;omega)
  ·exact I.freeC x a e1
 case pin=>intro p hp;exact absurd (show p∈([]:List (Addr×Obj))from hp) (by simp)
 case len=>
  show(tau own fr σ).length=N'.length
  rw[c.nm];unfold tau;simp
end
noncomputable abbrev TM:=St->Hp->(St->Hp->Prop)->Prop
noncomputable def PM(X:Cx)(act:Sem Unit)(t:TM):Prop:=
 ∀(pins:List (Addr×Obj))(s:Shared)(σ:St)(H:Hp)(Q:St->Hp->Prop),Inv X pins σ H s->t σ H Q->wpAny (model X.prog X.w) X.A act (λ_ s'=>∃σ' H',Inv X pins σ' H' s'/\Q σ' H') X.xe s
noncomputable def PF(X:Cx)(ifs:List Expr)(t:TT):Prop:=
 ∀(pins:List (Addr×Obj))(s:Shared)(σ:St)(H:Hp)(Q:Bool->Hp->Prop),Inv X pins σ H s->t σ H Q->
  wpAny (model X.prog X.w) X.A (forIn ifs true λc r=>if r=true then do let ok <- isTrue c X.env (eval c X.env);pure (ForInStep.yield ok)else pure (ForInStep.yield r)) (TP X pins σ Q) X.xe s
noncomputable def tAll:TT:=λ_ H Q=>Q true H
section
variable{X:Cx}
theorem zaxk:PF X [] tAll:=λ_ s σ H Q I h=>wpAny_tests_nil ⟨H,I,h⟩
theorem zaxl{c:Expr}{t:TT}(h:PT X c t):PF X [c] t:=λpins s σ H Q I q=>wpAny_tests_one (h pins s σ H Q I q)
noncomputable def zacr(p:Addr)(te:TE):TM:=λσ H Q=>te σ H λv H1=>∃ys,H1 p=some (.lst ys)/\ys.length<qZ/\Q σ (upd H1 p (.lst (ys++[v])))
theorem zacs{elt:Expr}{te:TE}{p:Addr}(h:PE X elt te):PM X (do let _ <- call (.builtin "list.append") [.ref p,<- eval elt X.env]) (zacr p te):=by
 intro pins s σ H Q I q
 refine qD (thn (h pins s σ H _ I q) λu s1 ⟨v,H1,I1,r,ys,hp,hz,q1⟩=>?_)
 refine qD (thn (zem pins s1 σ H1 (.ref p) [v] (.ref p) [u] (λ_ H2=>Q σ H2) I1 rfl (.cons r .nil) ⟨p,ys,v,rfl,rfl,hp,hz,q1⟩) λ_ s2 ⟨_,H2,I2,_,q2⟩=>?_)
 exact qO ⟨σ,H2,I2,q2⟩
noncomputable def zajk(J:It)(g:TG)(tt:TT)(tm:TM):TM:=λσ H Q=>∃W:Nat->Nat->St->Hp->Prop,(∃m,W 0 m σ H)/\∀i m σ H,W i m σ H->
 (J.stop i H/\Q σ H)\/(J.go i H/\∃N:St->Hp->Prop,(∀σ' H',N σ' H'->∃m',m'<m/\W (i+1) m' σ' H')/\∀x H',J.yld i H x H'->g x σ H' λσ2 H2=>tt σ2 H2 λb H3=>if b=true then tm σ2 H3 N else N σ2 H3)
theorem zro{elt0:Expr}{gens:List Comprehension}{scope:Scope}{cpos:Pos}{depth:Nat}{target:Expr}{ifs:List Expr}{emit:Sem Unit}{acc:Value}{ip:Pos}{it:Addr}{fp:List Addr}{tn:Nat->Heap->Prop}{J:It}{g:TG}{tt:TT}{tm:TM}{pins:List (Addr×Obj)}{σ:St}{H:Hp}{s:Shared}{Q:St->Hp->Prop}
  (hx:X.xe=λ_ _=>False)(hc:X.calm=true)
  (eq:compTurn (.ListComp elt0 gens scope cpos) depth (.ref it) acc X.env=(do
   standAt ip
   match <- pyNext (.ref it)with
   | none=>pure (.done .next)
   | some v=>
    letOwnedTupleGo target (.ref it) v
    assign target X.env v
    let mut ok:=true
    for c in ifs do
     if ok then ok <- isTrue c X.env (eval c X.env)
    if ok then emit
    again (.compLoop (.ListComp elt0 gens scope cpos) depth (.ref it) acc X.env)))
  (T:Turn X.prog X.w X.K target J fp it tn)(hg:PG X target g)(ht:PF X ifs tt)(hm:PM X emit tm)
  (I:Inv X pins σ H s)(st:tn 0 s.heap)(hf:∀b∈fp,FpOk X pins H b)(h:zajk J g tt tm σ H Q) :
  codeAny (model X.prog X.w) X.A (.compLoop (.ListComp elt0 gens scope cpos) depth (.ref it) acc X.env) (λr s'=>r=.ok .next/\∃σ' H',Inv X pins σ' H' s'/\Q σ' H') s:=by
 obtain⟨W,⟨m0,w0⟩,turn⟩:=h
 have stat:∀{H':Hp},(∀b∈fp,H' b=none)->∀b∈fp,FpOk X pins H' b:=λhn b hb=>⟨hn b hb,(hf b hb).2⟩
 have xe:∀{α:Type}{m:Sem α}{Q':α->Shared->Prop}{E:Value->Shared->Prop}{s:Shared},wpAny (model X.prog X.w) X.A m Q' X.xe s->wpAny (model X.prog X.w) X.A m Q' E s:=λq=>qBN q (λ_ _ z=>z) λ_ _ z=>by rw[hx]at z;exact z.elim
 refine codeAny_loop rfl (λn s'=>∃i σ' H',Inv X pins σ' H' s'/\tn i s'.heap/\(∀b∈fp,H' b=none)/\W i n σ' H') ?_ m0 ⟨0,σ,H,I,st,λb hb=>(hf b hb).1,w0⟩
 rintro n s3 ⟨i,σ3,H3,I3,st3,fr3,w3⟩
 show wpAny _ X.A ((compTurn (.ListComp elt0 gens scope cpos) depth (.ref it) acc X.env).onRaise (λx=>do noteFrame x X.env;theTreesLotGoes x)) _ _ s3
 refine wpAny_noted ?_
 rw[eq]
 refine qD (qBq (qD ?_))
 rcases turn i n σ3 H3 w3 with⟨stop,qn⟩|⟨go,N,hN,step⟩
 ·refine thn (T.done X rfl rfl rfl hc i pins s3 σ3 H3 _ I3 (stat fr3) st3 stop) λr s4 ⟨hr,I4⟩=>?_
  subst hr
  exact qO ⟨rfl,σ3,H3,I4,qn⟩
 ·refine thn (T.item X rfl rfl rfl hc i pins s3 σ3 H3 _ I3 (stat fr3) st3 go) λr s4 ⟨u,hr,h4⟩=>?_
  subst hr
  refine qD (thn h4 λ_ s5 ⟨x,H5,I5,r5,y5,st5,fr5⟩=>?_)
  have I5':=I5.pinned (stat fr5) (T.obj _ _ st5)
  refine qD (xe (thn (hg _ s5 σ3 H5 x u _ I5' r5 (step x H5 y5)) λ_ s6 ⟨σ6,H6,I6,q6⟩=>?_))
  have again:∀{σ7:St}{H7:Hp}{s7:Shared},Inv X (pins++zyy fp s5.heap) σ7 H7 s7->N σ7 H7->∃m,m<n/\∃i σ' H',Inv X pins σ' H' s7/\tn i s7.heap/\(∀b∈fp,H' b=none)/\W i m σ' H':=λ{σ7 H7 s7} I7 n7=>by
   obtain⟨m',hm,w7⟩:=hN σ7 H7 n7
   refine⟨m',hm,i+1,σ7,H7,I7.unpinned,T.keep _ _ _ st5 λb hb o e=>(I7.pin (b,o) (qI _ (qI _ (zkt hb e)))).1,λb hb=>?_,w7⟩
   obtain⟨o,e,d⟩:=T.obj _ _ st5 b hb
   exact(I7.pin (b,o) (qI _ (qI _ (zkt hb e)))).2.1
  refine qD (xe (thn (ht _ s6 σ6 H6 _ I6 q6) λok s7 ⟨H7,I7,q7⟩=>?_))
  cases ok with
  | false=>
   rw[if_neg (by decide)]at q7
   exact qO ⟨rfl,again I7 q7⟩
  | true=>
   rw[if_pos rfl]at q7
   refine qD (xe (thn (hm _ s7 σ6 H7 _ I7 q7) λ_ s8 ⟨σ8,H8,I8,q8⟩=>?_))
   exact qO ⟨rfl,again I8 q8⟩
end
section
variable{X:Cx}{pins:List (Addr×Obj)}{σ:St}{H:Hp}{s:Shared}{scope:Scope}{N' own:List Str}{fr:List Nat}
theorem zact{elt0 target iter:Expr}{ifs:List Expr}{rest:List Comprehension}{cpos:Pos}{g:TG}{tt:TT}{tm:Addr->TM}{emit:Value->Env->Sem Unit}{it:Addr}{fp:List Addr}{tn:Nat->Heap->Prop}{J:It}{Q:VK}{E:Value->Shared->Prop}{RR:Value->Addr->Result->Shared->Prop}
  (c:CompOk X scope N' own fr)(hc:X.calm=true)
  (eq:∀it acc env,compTurn (.ListComp elt0 (⟨target,iter,ifs,0⟩::rest) scope cpos) 0 it acc env=(do
   standAt iter.pos
   match <- pyNext it with
   | none=>pure (.done .next)
   | some v=>
    letOwnedTupleGo target it v
    assign target env v
    let mut ok:=true
    for c in ifs do
     if ok then ok <- isTrue c env (eval c env)
    if ok then emit acc env
    again (.compLoop (.ListComp elt0 (⟨target,iter,ifs,0⟩::rest) scope cpos) 0 it acc env)))
  (T:Turn X.prog X.w X.K target J fp it tn)
  (hb:∀(cl:List (Str×Addr)) (C:Addr) (s:Shared) (H:Hp) (fp:List Addr) (p:Addr),Inv X pins σ H s->(∀b∈fp,FpOk X pins H b)->PG (cxComp X scope N' own cl C s H fp) target g/\PF (cxComp X scope N' own cl C s H fp) ifs tt/\PM (cxComp X scope N' own cl C s H fp) (emit (.ref p) (compEnvC scope cl C X.env)) (tm p))
  (I:Inv X pins σ H s)(st:tn 0 s.heap)(hf:∀b∈fp,FpOk X pins H b)
  (h:∀p,H p=none->zajk J g tt (tm p) (tau own fr σ) (upd H p (.lst [])) (λ_ H'=>Q (.ref p) H'))
  (hRR:∀(p C:Addr) (m:Str->Option Value) (H':Hp) (s':Shared),Inv X pins σ H' s'->s'.heap.Ns C m->FpOk X pins H' C->Q (.ref p) H'->RR (.ref p) C (.ok .next) s') :
  wpAny (model X.prog X.w) X.A (newList []) (λacc s₃=>wpAny (model X.prog X.w) X.A (newFunctionEnv scope X.env.globals (clos X.env.cells scope.names []) [] X.env.qual none .none (some X.env)) (λcenv s₄=>
   codeAny (model X.prog X.w) X.A (.compStart (.ListComp elt0 (⟨target,iter,ifs,0⟩::rest) scope cpos) 0 (.ref it) acc {cenv with scope:=relabel scope X.env}) (RR acc cenv.locals) s₄) E s₃) E s:=by
 refine qCk ?_
 have I3:Inv X pins σ (upd H s.heap.objs.size (.lst [])) {s with heap:=s.heap.push {cls:=.type "list",dict:=none,data:=.seq ([]:List Value).toArray}}:=I.lnew (t':=s.toks) .nil (qAQ _)
 have hn0:H s.heap.objs.size=none:=I.hok.fresh (qN _)
 generalize e3:({s with heap:=s.heap.push {cls:=.type "list",dict:=none,data:=.seq ([]:List Value).toArray}}:Shared)=s3 at I3 ⊢
 have k3:∀b o,s.heap.get? b=some o->s3.heap.get? b=some o:=λb o e=>by rw[<- e3];exact qE _ e
 have hne:∀b∈fp,b≠s.heap.objs.size:=λb hb=>by
  obtain⟨o,e,_⟩:=T.obj _ _ st b hb
  exact qw (qP e)
 have hf3:∀b∈fp,FpOk X pins (upd H s.heap.objs.size (.lst [])) b:=λb hb=>⟨by rw[zat (hne b hb)];exact(hf b hb).1,(hf b hb).2⟩
 have st3:tn 0 s3.heap:=T.keep _ _ _ st λb _ o e=>k3 b o e
 refine zagt λh' keep ns cells apart=>?_
 have I4:=zaoa c I3 hf3 (T.obj _ _ st3) keep ns cells apart
 have st4:tn 0 h':=T.keep _ _ _ st3 λb _ o e=>keep b o e
 obtain⟨hg,ht,hm⟩:=hb (cellsFrom (s3.heap.objs.size+1) scope.names []++clos X.env.cells scope.names []) s3.heap.objs.size s3 (upd H s.heap.objs.size (.lst [])) fp s.heap.objs.size I3 hf3
 have hf4:∀b∈fp,FpOk (cxComp X scope N' own (cellsFrom (s3.heap.objs.size+1) scope.names []++clos X.env.cells scope.names []) s3.heap.objs.size s3 (upd H s.heap.objs.size (.lst [])) fp) [] (upd H s.heap.objs.size (.lst [])) b:=λb hb=>
  ⟨(hf3 b hb).1,(I4.ok.exf b hb).1,I4.ok.exfs b hb,.inl hb,(I4.ok.exf b hb).2,λp hp=>absurd (show p∈([]:List (Addr×Obj))from hp) (by simp)⟩
 have loop:codeAny (model X.prog X.w) X.A (.compLoop (.ListComp elt0 (⟨target,iter,ifs,0⟩::rest) scope cpos) 0 (.ref it) (.ref s.heap.objs.size) (compEnvC scope (cellsFrom (s3.heap.objs.size+1) scope.names []++clos X.env.cells scope.names []) s3.heap.objs.size X.env)) (RR (.ref s.heap.objs.size) s3.heap.objs.size) {s3 with heap:=h'}:=by
  refine qBX (zro (X:=cxComp X scope N' own (cellsFrom (s3.heap.objs.size+1) scope.names []++clos X.env.cells scope.names []) s3.heap.objs.size s3 (upd H s.heap.objs.size (.lst [])) fp) (pins:=[]) rfl hc (eq _ _ _) T hg ht hm I4 st4 hf4 (h _ hn0)) λr s5 hr=>?_
  obtain⟨rfl,σ5,H5,I5,q5⟩:=hr
  obtain⟨m,hn,_⟩:=id I5.loc
  have u5:Un (frs X.stack) fp (upd H s.heap.objs.size (.lst [])) H5 s3.heap s5.heap:=I5.base
  have hok5:HOk X.prog X.w H5 s5.heap:=I5.hok
  have os5:s5.os=s3.os:=I5.os
  have bare5:=I5.bare
  have free5:H5 s3.heap.objs.size=none:=I5.free
  have hn:s5.heap.Ns s3.heap.objs.size m:=hn
  clear I5
  obtain⟨hh,gg,dd,tk,os'⟩:=s5
  obtain rfl:os'=s3.os:=os5
  have I6:Inv X pins σ H5 {s3 with heap:=hh,gens:=gg,drawn:=dd,toks:=tk}:=I3.call (ch:=fp) u5 hok5 bare5 λb hb=>⟨(hf3 b hb).2.2.2.1,(hf3 b hb).2.1,(hf3 b hb).2.2.2.2.1,(hf3 b hb).2.2.2.2.2⟩
  exact hRR _ _ m H5 _ I6 hn (I3.fpOk (qN _) free5) q5
 exact codeAny_compStart_list loop (T.self _ 0 _ _ _ st4 loop)
theorem zun{elt0 target iter:Expr}{ifs:List Expr}{rest:List Comprehension}{cpos:Pos}{g:TG}{tt:TT}{tm:Addr->TM}{emit:Value->Env->Sem Unit}{it:Addr}{fp:List Addr}{tn:Nat->Heap->Prop}{J:It}{Q:VK}{E:Value->Shared->Prop}{RR:Value->Addr->Result->Shared->Prop}
  (c:CompOk X scope N' own fr)(hc:X.calm=true)
  (eq:∀it acc env,compTurn (.ListComp elt0 (⟨target,iter,ifs,0⟩::rest) scope cpos) 0 it acc env=(do
   standAt iter.pos
   match <- pyNext it with
   | none=>pure (.done .next)
   | some v=>
    letOwnedTupleGo target it v
    assign target env v
    let mut ok:=true
    for c in ifs do
     if ok then ok <- isTrue c env (eval c env)
    if ok then emit acc env
    again (.compLoop (.ListComp elt0 (⟨target,iter,ifs,0⟩::rest) scope cpos) 0 it acc env)))
  (T:Turn X.prog X.w X.K target J fp it tn)
  (hb:∀(cl:List (Str×Addr)) (C:Addr) (s:Shared) (H:Hp) (fp:List Addr) (p:Addr),PG (cxComp X scope N' own cl C s H fp) target g/\PF (cxComp X scope N' own cl C s H fp) ifs tt/\PM (cxComp X scope N' own cl C s H fp) (emit (.ref p) (compEnvC scope cl C X.env)) (tm p))
  (I:Inv X pins σ H s)(st:tn 0 s.heap)(hf:∀b∈fp,FpOk X pins H b)
  (h:∀p,H p=none->zajk J g tt (tm p) (tau own fr σ) (upd H p (.lst [])) (λ_ H'=>Q (.ref p) H'))
  (hRR:∀(p C:Addr) (m:Str->Option Value) (H':Hp) (s':Shared),Inv X pins σ H' s'->s'.heap.Ns C m->FpOk X pins H' C->Q (.ref p) H'->RR (.ref p) C (.ok .next) s') :
  wpAny (model X.prog X.w) X.A (newList []) (λacc s₃=>wpAny (model X.prog X.w) X.A (newFunctionEnv scope X.env.globals (clos X.env.cells scope.names []) [] X.env.qual none .none (some X.env)) (λcenv s₄=>
   codeAny (model X.prog X.w) X.A (.compStart (.ListComp elt0 (⟨target,iter,ifs,0⟩::rest) scope cpos) 0 (.ref it) acc {cenv with scope:=relabel scope X.env}) (RR acc cenv.locals) s₄) E s₃) E s:=zact c hc eq T (λcl C s H fp p _ _=>hb cl C s H fp p) I st hf h hRR
noncomputable def zaob(wi:TI)(g:TG)(tt:TT)(tm:Addr->TM)(own:List Str)(fr:List Nat):TE:=λσ H Q=>wi σ H λJ H1=>∀p,H1 p=none->zajk J g tt (tm p) (tau own fr σ) (upd H1 p (.lst [])) (λ_ H'=>Q (.ref p) H')
theorem zafd{elt0 target iter:Expr}{ifs:List Expr}{rest:List Comprehension}{cpos:Pos}{wi:TI}{g:TG}{tt:TT}{tm:Addr->TM}{emit:Value->Env->Sem Unit}(c:CompOk X scope N' own fr)(hc:X.calm=true)
  (eq:∀it acc env,compTurn (.ListComp elt0 (⟨target,iter,ifs,0⟩::rest) scope cpos) 0 it acc env=(do
   standAt iter.pos
   match <- pyNext it with
   | none=>pure (.done .next)
   | some v=>
    letOwnedTupleGo target it v
    assign target env v
    let mut ok:=true
    for c in ifs do
     if ok then ok <- isTrue c env (eval c env)
    if ok then emit acc env
    again (.compLoop (.ListComp elt0 (⟨target,iter,ifs,0⟩::rest) scope cpos) 0 it acc env)))
  (hi:PI X target iter wi)
  (hb:∀(cl:List (Str×Addr)) (C:Addr) (s:Shared) (H:Hp) (fp:List Addr) (p:Addr),PG (cxComp X scope N' own cl C s H fp) target g/\PF (cxComp X scope N' own cl C s H fp) ifs tt/\PM (cxComp X scope N' own cl C s H fp) (emit (.ref p) (compEnvC scope cl C X.env)) (tm p))
  (hs:∀x,foldedSetIterable iter X.env x=pure x:=by intro _;rfl) :
  PE X (.ListComp elt0 (⟨target,iter,ifs,0⟩::rest) scope cpos) (zaob wi g tt tm own fr):=by
 intro pins s σ H Q I h
 rw[eval_ListComp]
 refine qDI (use:=none) rfl hs (zmh (znq c I.ok)) c.kind (λy hy e=>(c.names y hy).trans (by rw[e])) ?_
 refine thn (hi pins s σ H _ I h) λv s1 h1=>thn h1 λitv s2 h2=>?_
 obtain⟨it,fp,tn,J,H2,e,I2,T,st2,f2,q⟩:=h2
 subst e
 refine zun (Q:=Q) c hc eq T hb I2 st2 f2 q λp C m H' s' I' hn hC q'=>?_
 exact⟨m,hn,λh' sb=>⟨.ref p,H',I'.turned (t':=s'.toks) (λb o hb e=>(sb.2 b hb).trans e) hC.1 hC.2.1 hC.2.2.2.1 hC.2.2.2.2.1 hC.2.2.2.2.2,rfl,q'⟩⟩
noncomputable def zatc(wi:TI)(g:TG)(tt:TT)(tm:Addr->TM)(own:List Str)(fr:List Nat)(i:Nat):TS:=λD σ H=>zaob wi g tt tm own fr σ H λv H'=>D.nx (σ.set i (some v)) H'
theorem zafe{elt0 target iter:Expr}{ifs:List Expr}{rest:List Comprehension}{cpos spos py:Pos}{wi:TI}{g:TG}{tt:TT}{tm:Addr->TM}{emit:Value->Env->Sem Unit}{i:Nat}{y:Str}(c:CompOk X scope N' own fr)(hc:X.calm=true)
  (eq:∀it acc env,compTurn (.ListComp elt0 (⟨target,iter,ifs,0⟩::rest) scope cpos) 0 it acc env=(do
   standAt iter.pos
   match <- pyNext it with
   | none=>pure (.done .next)
   | some v=>
    letOwnedTupleGo target it v
    assign target env v
    let mut ok:=true
    for c in ifs do
     if ok then ok <- isTrue c env (eval c env)
    if ok then emit acc env
    again (.compLoop (.ListComp elt0 (⟨target,iter,ifs,0⟩::rest) scope cpos) 0 it acc env)))
  (hi:PI X target iter wi)
  (hb:∀(cl:List (Str×Addr)) (C:Addr) (s:Shared) (H:Hp) (fp:List Addr) (p:Addr),PG (cxComp X scope N' own cl C s H fp) target g/\PF (cxComp X scope N' own cl C s H fp) ifs tt/\PM (cxComp X scope N' own cl C s H fp) (emit (.ref p) (compEnvC scope cl C X.env)) (tm p))
  (hsw:swapsWith (.ListComp elt0 (⟨target,iter,ifs,0⟩::rest) scope cpos) (some (.Name y py)) spos.line X.env=pure true)
  (hN:X.N.Nodup)(hy:X.N[i]?=some y)(hl:X.env.scope.names.lookup y=some .local)
  (hs:∀x,foldedSetIterable iter X.env x=pure x:=by intro _;rfl) :
  PS X (.Assign [.Name y py] (.ListComp elt0 (⟨target,iter,ifs,0⟩::rest) scope cpos) spos) (zatc wi g tt tm own fr i):=by
 intro pins s σ H D I h
 rw[exec_Assign_Name_used _ _ _ _ hsw]
 refine qD (qBq (qD ?_))
 show wpAny _ X.A (do let _ <- comprehension (.ListComp elt0 (⟨target,iter,ifs,0⟩::rest) scope cpos) scope X.env _ (newList []) false (eval iter X.env) (some (assign (.Name y py) X.env))) _ _ s
 refine qD (thn (qDI (use:=some (assign (.Name y py) X.env)) (Q:=λ_ s'=>SP X pins D .next s') rfl hs (zmh (znq c I.ok)) c.kind (λy hy e=>(c.names y hy).trans (by rw[e])) ?_) λ_ s' q=>qO (qO q))
 refine thn (hi pins s σ H _ I h) λv s1 h1=>thn h1 λitv s2 h2=>?_
 obtain⟨it,fp,tn,J,H2,e,I2,T,st2,f2,q⟩:=h2
 subst e
 refine zun (Q:=λv H'=>D.nx (σ.set i (some v)) H') c hc eq T hb I2 st2 f2 q λp C m H' s' I' hn hC q'=>?_
 show wpAny _ X.A (assign (.Name y py) X.env (.ref p)) _ _ _
 refine wpAny_assign_Name (zyx I' hN hy (.inl hl) (v:=.ref p) rfl (λs'' I'' ⟨a,sb,ha⟩=>?_) (.inr hl))
 have hCa:C≠a:=by
  rcases ha with rfl|ha
  ·exact hC.2.1
  ·exact qAv (hC.2.2.2.2.1 y a ha)
 refine⟨m,hn.sameBut sb hCa,λh' sb'=>⟨σ.set i (some (.ref p)),H',I''.turned (t':=s''.toks) (λb o hb e=>(sb'.2 b hb).trans e) hC.1 hC.2.1 hC.2.2.2.1 hC.2.2.2.2.1 hC.2.2.2.2.2,q'⟩⟩
end
section
variable{X:Cx}
section
variable{scope:Scope}{N' own:List Str}{fr:List Nat}{elt target iter:Expr}{ifs:List Expr}{cpos:Pos}{wi:TI}{g:TG}{tt:TT}{te:TE}
noncomputable def tComp1(wi:TI)(g:TG)(tt:TT)(te:TE)(own:List Str)(fr:List Nat):TE:=zaob wi g tt (λp=>zacr p te) own fr
theorem zaoc(c:CompOk X scope N' own fr)(hc:X.calm=true)(hi:PI X target iter wi)
  (hb:∀(cl:List (Str×Addr)) (C:Addr) (s:Shared) (H:Hp) (fp:List Addr),PG (cxComp X scope N' own cl C s H fp) target g/\PF (cxComp X scope N' own cl C s H fp) ifs tt/\PE (cxComp X scope N' own cl C s H fp) elt te)
  (hs:∀x,foldedSetIterable iter X.env x=pure x:=by intro _;rfl):PE X (.ListComp elt [⟨target,iter,ifs,0⟩] scope cpos) (tComp1 wi g tt te own fr):=
 zafd (emit:=λacc env=>do let _ <- call (.builtin "list.append") [acc,<- eval elt env]) c hc (λ_ _ _=>rfl) hi
  (λcl C s H fp p=>⟨(hb cl C s H fp).1,(hb cl C s H fp).2.1,zacs (hb cl C s H fp).2.2⟩) hs
noncomputable def tAsgC1(wi:TI)(g:TG)(tt:TT)(te:TE)(own:List Str)(fr:List Nat)(i:Nat):TS:=zatc wi g tt (λp=>zacr p te) own fr i
theorem zaod{spos py:Pos}{i:Nat}{y:Str}(c:CompOk X scope N' own fr)(hc:X.calm=true)(hi:PI X target iter wi)
  (hb:∀(cl:List (Str×Addr)) (C:Addr) (s:Shared) (H:Hp) (fp:List Addr),PG (cxComp X scope N' own cl C s H fp) target g/\PF (cxComp X scope N' own cl C s H fp) ifs tt/\PE (cxComp X scope N' own cl C s H fp) elt te)
  (hsw:swapsWith (.ListComp elt [⟨target,iter,ifs,0⟩] scope cpos) (some (.Name y py)) spos.line X.env=pure true)
  (hN:X.N.Nodup)(hy:X.N[i]?=some y)(hl:X.env.scope.names.lookup y=some .local)
  (hs:∀x,foldedSetIterable iter X.env x=pure x:=by intro _;rfl):PS X (.Assign [.Name y py] (.ListComp elt [⟨target,iter,ifs,0⟩] scope cpos) spos) (tAsgC1 wi g tt te own fr i):=
 zafe (emit:=λacc env=>do let _ <- call (.builtin "list.append") [acc,<- eval elt env]) c hc (λ_ _ _=>rfl) hi
  (λcl C s H fp p=>⟨(hb cl C s H fp).1,(hb cl C s H fp).2.1,zacs (hb cl C s H fp).2.2⟩) hsw hN hy hl hs
end
noncomputable def zbaq:R2:=λx y H Q=>∃z n,x=.str z/\y=.int n/\z.length<=1000/\-1000<=n/\n<=1000/\Q (.str (Txt.mul z n)) H
theorem zatd:OpR X (binaryOp .Mult) zbaq:=by
 intro pins s σ H x y v u Q I rx ry h
 obtain⟨z,n,rfl,rfl,h1,h2,h3,q⟩:=h
 obtain⟨t,rfl⟩:=rx
 obtain⟨t',rfl⟩:=ry
 exact SB.mul (mulOk_of 1000 1000 h1 (by omega) (by omega) (by decide) (by decide)) λt' k=>⟨.str (Txt.mul z n),H,I.tok _,⟨_,rfl⟩,q⟩
noncomputable def rSlS:V->Option Int->Option Int->Hp->VK->Prop:=λx lo hi H Q=>∃z,x=.str z/\z.length<=qZ/\Q (.str (Txt.slice z lo hi)) H
theorem zaxm:SlR X rSlS:=by
 intro pins s σ H x v vl vu lo hi sl Q I rx hs pl pu h
 obtain⟨z,rfl,hz,q⟩:=h
 obtain⟨t,rfl⟩:=rx
 refine⟨"str",_,F.slot_str_getitem.lookup,qDJ _ _ _,?_⟩
 have fin:∀t' k,EP X pins σ Q (.str (Txt.slice z lo hi) t') {s with toks:=k}:=λt' k=>⟨.str (Txt.slice z lo hi),H,I.tok _,⟨_,rfl⟩,q⟩
 have fz:(Txt.slice z lo hi).length<=qZ:=qAA (Txt.slice_le z _ _) hz
 cases pl with
 | none=>cases pu with
  | none=>exact qBc (l:=none) (u:=none) (st:=none) hs rfl (qCT ⟨fz,fin⟩)
  | int j tj=>exact qBc (l:=none) (u:=some (j,tj)) (st:=none) hs rfl (qCT ⟨fz,fin⟩)
 | int i ti=>cases pu with
  | none=>exact qBc (l:=some (i,ti)) (u:=none) (st:=none) hs rfl (qCT ⟨fz,fin⟩)
  | int j tj=>exact qBc (l:=some (i,ti)) (u:=some (j,tj)) (st:=none) hs rfl (qCT ⟨fz,fin⟩)
noncomputable def zajl:V->List V->Hp->VK->Prop:=λx vs H Q=>∃d o kvs more,x=.ref d/\vs=[.ref o]/\d≠o/\H d=some (.dK kvs)/\H o=some (.dK more)/\kvs.length+more.length<=qZ/\Q .non (upd H d (.dK (zhc kvs more)))
theorem zzl:MtM X "dict.update" zajl:=by
 intro pins s σ H x vs v us Q I rx rv h
 obtain⟨d,o,kvs,more,rfl,rfl,hne,hd,ho,hz,q⟩:=h
 cases rx
 obtain⟨u,rfl,ru⟩:=rv.one
 cases ru
 obtain⟨z1,s1,vs1,rel1,dd1⟩:=zanw I.hok hd
 obtain⟨z2,s2,vs2,rel2,dd2⟩:=zanw I.hok ho
 refine call_meetsIn F.slot_dict_update dd1.typeIs F.entry_dict_update (F.args_dict_update_2 _ _) (meets_dict_update (zbt X.prog X.w) d o hne s2) ⟨vs1,vs2,dd1,dd2,?_,λh' h1 h2 sb=>?_⟩
 ·rw[<- rel1.length,<- rel2.length];exact hz
 ·have he:∃q,h'.get? d=some q:=by obtain⟨ob,_,_,e,_⟩:=h1;exact⟨ob,e⟩
  refine⟨.non,_,zwm (t':=s.toks) I (by rw[hd];trivial) sb he (zafb (qAA (zgu more kvs) hz) s1 (rel2.merge rel1) h1),rfl,q⟩
theorem zaoe{id:String}(hid:id="isinstance"):CallR X (.builtin id) (λxs H Q=>∃x n t b,xs=[x,.ty n]/\TyOf X.K H x t/\PySem.W.kitOne X.K t (.type n)=some b/\Q (.bl b) H):=by
 subst hid
 intro pins s σ H xs us Q I r h
 obtain⟨x,n,t,b,rfl,ty,e,q⟩:=h
 obtain⟨u,w',rfl,rx,ry⟩:=zanp r
 cases ry
 exact zaiz I rx ty e λtk=>⟨.bl b,H,I.tok _,rfl,q⟩
end
mutual
def Rep(K:qC)(H:Hp):PyData->V->Prop
 | .none,v=>v=.non
 | .bool b,v=>v=.bl b
 | .int i,v=>v=.int i
 | .str x,v=>v=.str x
 | .list ds,v=>∃a xs,v=.ref a/\SqL K H a xs/\Reps K H ds xs
 | .tuple ds,v=>∃a xs,v=.ref a/\SqT K H a xs/\Reps K H ds xs
 | .dict _,_=>False
def Reps(K:qC)(H:Hp):List PyData->List V->Prop
 | [],xs=>xs=[]
 | d::ds,xs=>∃v vs,xs=v::vs/\Rep K H d v/\Reps K H ds vs
end
mutual
theorem zec{X:Cx}{pins:List (Addr×Obj)}{σ:St}{H:Hp}{s:Shared}(I:Inv X pins σ H s):∀(d:PyData){v:V}{u:Value},Rep X.K H d v->RelV v u->∃as,Reads s.heap u d as
 | .none,v,u,h,r=>by unfold Rep at h;subst h;cases r;exact⟨_,.none⟩
 | .bool b,v,u,h,r=>by unfold Rep at h;subst h;cases r;exact⟨_,.bool b⟩
 | .int i,v,u,h,r=>by unfold Rep at h;subst h;obtain⟨t,rfl⟩:=r;exact⟨_,.int i t⟩
 | .str x,v,u,h,r=>by unfold Rep at h;subst h;obtain⟨t,rfl⟩:=r;exact⟨_,.str x t⟩
 | .list ds,v,u,h,r=>by
  unfold Rep at h
  obtain⟨a,xs,rfl,hq,hr⟩:=h
  cases r
  obtain⟨its,rv,p,hz⟩:=I.list hq
  obtain⟨as,q⟩:=reps_reads I ds hr rv
  obtain⟨o,h1,h2,n,h3⟩:=p.isList
  exact⟨_,reads_list_at h1 h2 h3 (by simpa using q)⟩
 | .tuple ds,v,u,h,r=>by
  unfold Rep at h
  obtain⟨a,xs,rfl,hq,hr⟩:=h
  cases r
  obtain⟨its,rv,p,hz⟩:=I.tuple hq
  obtain⟨as,q⟩:=reps_reads I ds hr rv
  obtain⟨o,h1,h2,n,h3⟩:=p
  exact⟨_,reads_tuple_at h1 h2 h3 (by simpa using q)⟩
 | .dict _,_,_,h,_=>by unfold Rep at h;exact h.elim
theorem reps_reads{X:Cx}{pins:List (Addr×Obj)}{σ:St}{H:Hp}{s:Shared}(I:Inv X pins σ H s):∀(ds:List PyData){vs:List V}{us:List Value},Reps X.K H ds vs->Vals vs us->∃as,ReadsAll s.heap us ds as
 | [],vs,us,h,r=>by unfold Reps at h;subst h;cases r;exact⟨_,.nil⟩
 | d::ds,vs,us,h,r=>by
  unfold Reps at h
  obtain⟨v,vs',rfl,h1,h2⟩:=h
  cases r with
  | cons r rr=>
   obtain⟨as,q1⟩:=zec I d h1 r
   obtain⟨bs,q2⟩:=reps_reads I ds h2 rr
   exact⟨_,.cons q1 q2⟩
end
theorem SqT.same{K:qC}{H H':Hp}{a:Addr}{xs:List V}(h:Same H H')(q:SqT K H a xs):SqT K H' a xs:=by
 rcases q with(q|⟨o,q⟩)|q
 ·exact .inl (.inl (h _ _ q))
 ·exact .inl (.inr ⟨o,h _ _ q⟩)
 ·exact .inr q
section
variable{X:Cx}
noncomputable def rEqD(K:qC)(neg:Bool):R2:=λx y H Q=>∃d e,Rep K H d x/\Rep K H e y/\qt d=true/\qt e=true/\Q (.bl (if neg then !PyData.eqv d e else qX d e)) H
theorem zaxn(hu:X.A.units+64<cLine):OpR X (compareOp .Eq) (rEqD X.K false):=by
 intro pins s σ H x y v u Q I rx ry h
 obtain⟨d,e,hd,he,sd,se,q⟩:=h
 obtain⟨as,r1⟩:=zec I d hd rx
 obtain⟨bs,r2⟩:=zec I e he ry
 exact eq_dataH r1 r2 sd se hu ⟨.bl (qX d e),H,I,rfl,q⟩
theorem zaxo(hu:X.A.units+64<cLine):OpR X (compareOp .NotEq) (rEqD X.K true):=by
 intro pins s σ H x y v u Q I rx ry h
 obtain⟨d,e,hd,he,sd,se,q⟩:=h
 obtain⟨as,r1⟩:=zec I d hd rx
 obtain⟨bs,r2⟩:=zec I e he ry
 exact ne_dataH r1 r2 sd se hu ⟨.bl (!PyData.eqv d e),H,I,rfl,q⟩
theorem zajm{bs:List Bool}:∀{its:List Value},Vals (bs.map V.bl) its->its=bs.map Value.bool:=by
 induction bs with
 | nil=>intro its r;cases r;rfl
 | cons b bs ih=>
  intro its r
  cases r with
  | cons r rr=>cases r;rw[ih rr];rfl
theorem zajn(bs:List Bool):(List.range bs.length).any (λi=>bs.getD i false)=bs.any id:=by
 rw[qAt,qAn,qAn]
 constructor
 ·rintro⟨i,hi,h⟩
  have hi:=qAR.mp hi
  rw[qg,qH hi]at h
  exact⟨_,qA9 hi,h⟩
 ·rintro⟨b,hb,h⟩
  obtain⟨i,hi,e⟩:=qDL hb
  exact⟨i,qAR.mpr hi,by rw[qg,qH hi,e];exact h⟩
theorem zajo(bs:List Bool):(List.range bs.length).all (λi=>bs.getD i false)=bs.all id:=by
 rw[qAt,qAE,qAE]
 constructor
 ·intro h b hb
  obtain⟨i,hi,e⟩:=qDL hb
  have q:=h i (qAR.mpr hi)
  rw[qg,qH hi,e]at q
  exact q
 ·intro h i hi
  have hi:=qAR.mp hi
  have q:=h _ (qA9 hi)
  rw[qg,qH hi]
  exact q
noncomputable def rAny(K:qC)(f:List Bool->Bool):List V->Hp->VK->Prop:=λxs H Q=>∃p bs,xs=[.ref p]/\SqL K H p (bs.map V.bl)/\Q (.bl (f bs)) H
theorem zaof(hc:X.calm=true):CallR X (.builtin "any") (rAny X.K λbs=>bs.any id):=by
 intro pins s σ H xs us Q I r h
 obtain⟨p,bs,rfl,hq,q⟩:=h
 obtain⟨u,rfl,ru⟩:=zagp r
 cases ru
 obtain⟨its,rv,pl,hz⟩:=I.list hq
 cases zajm rv
 have hne:p≠s.heap.objs.size:=by obtain⟨o,e,_⟩:=pl.isList;exact qw (qP e)
 refine call_any_walk (qAx pl.isList ⟨s.heap.objs.size,_,_,_,_,_,λi=>bs.getD i false,rfl,Walks.list (A:=X.A.in1) (show X.A.in1.handled=none from I.ok.hd hc) _ p hne (bs.map Value.bool).toArray,⟨⟨_,qW _ rfl,rfl,rfl⟩,?_⟩,?_,?_⟩)
 ·obtain⟨o,e,z⟩:=pl.isList
  exact⟨o,qE _ e,z⟩
 ·intro i v s' Q' E' hv hQ
  have hv:(bs.map Value.bool)[i]?=some v:=by simpa using hv
  rw[qh]at hv
  cases e:bs[i]? with
  | none=>rw[e]at hv;cases hv
  | some b=>
   rw[e]at hv
   cases hv
   have z:bs.getD i false=b:=by rw[qg,e];rfl
   have hQ:Q' (bs.getD i false) s':=hQ
   rw[z]at hQ
   exact qAw hQ
 ·intro h' tk hk
  refine⟨.bl (bs.any id),H,?_,by rw[<- zajn bs];simp;rfl,q⟩
  exact I.kept (t':=tk) λb o e=>hk b o (by have:=qP e;simp;exact qw this) (qE _ e)
theorem zaog(hc:X.calm=true):CallR X (.builtin "all") (rAny X.K λbs=>bs.all id):=by
 intro pins s σ H xs us Q I r h
 obtain⟨p,bs,rfl,hq,q⟩:=h
 obtain⟨u,rfl,ru⟩:=zagp r
 cases ru
 obtain⟨its,rv,pl,hz⟩:=I.list hq
 cases zajm rv
 have hne:p≠s.heap.objs.size:=by obtain⟨o,e,_⟩:=pl.isList;exact qw (qP e)
 refine call_all_walk (qAx pl.isList ⟨s.heap.objs.size,_,_,_,_,_,λi=>bs.getD i false,rfl,Walks.list (A:=X.A.in1) (show X.A.in1.handled=none from I.ok.hd hc) _ p hne (bs.map Value.bool).toArray,⟨⟨_,qW _ rfl,rfl,rfl⟩,?_⟩,?_,?_⟩)
 ·obtain⟨o,e,z⟩:=pl.isList
  exact⟨o,qE _ e,z⟩
 ·intro i v s' Q' E' hv hQ
  have hv:(bs.map Value.bool)[i]?=some v:=by simpa using hv
  rw[qh]at hv
  cases e:bs[i]? with
  | none=>rw[e]at hv;cases hv
  | some b=>
   rw[e]at hv
   cases hv
   have z:bs.getD i false=b:=by rw[qg,e];rfl
   have hQ:Q' (bs.getD i false) s':=hQ
   rw[z]at hQ
   exact qAw hQ
 ·intro h' tk hk
  refine⟨.bl (bs.all id),H,?_,by rw[<- zajo bs];simp;rfl,q⟩
  exact I.kept (t':=tk) λb o e=>hk b o (by have:=qP e;simp;exact qw this) (qE _ e)
end
noncomputable def zajp(o:Option NameKind):Bool:=o==some .cell||o==some .free
noncomputable def zajq(sc:Scope)(N:List Str)(scope:Scope)(N' own:List Str)(fr:List Nat):Bool:=
 (scope.kind==.function)&&(scope.names.all λy=>scope.names.lookup y.1==some y.2)&&(scope.names.all λy=>!(y.2==.free)||zajp (sc.names.lookup y.1))&&
 (N'==own++fr.map λj=>N.getD j Str.empty)&&(fr.all λj=>decide (j<N.length)&&(scope.names.lookup (N.getD j Str.empty)==some .free))&&
 (own.all λx=>scope.names.lookup x==some .local||scope.names.lookup x==some .cell)
section
variable{X:Cx}
theorem zaw{scope:Scope}{N' own:List Str}{fr:List Nat}(h:zajq X.env.scope X.N scope N' own fr=true):CompOk X scope N' own fr:=by
 unfold zajq at h
 simp only[qAC]at h
 obtain⟨⟨⟨⟨⟨h1,h2⟩,h3⟩,h4⟩,h5⟩,h6⟩:=h
 refine⟨eq_of_beq h1,λy hy=>eq_of_beq (qAE.mp h2 y hy),λy hy e=>?_,eq_of_beq h4,λj hj=>?_,λx hx=>?_⟩
 ·have q:=qAE.mp h3 y hy
  rw[e]at q
  have q:zajp (X.env.scope.names.lookup y.1)=true:=by simpa using q
  unfold zajp at q
  rcases qDN.mp q with z|z
  ·exact .inl (eq_of_beq z)
  ·exact .inr (eq_of_beq z)
 ·have q:=qAE.mp h5 j hj
  rw[qAC]at q
  exact⟨of_decide_eq_true q.1,eq_of_beq q.2⟩
 ·have q:=qAE.mp h6 x hx
  rcases qDN.mp q with z|z
  ·exact .inl (eq_of_beq z)
  ·exact .inr (eq_of_beq z)
noncomputable def zaoh(K:qC):R2:=λx y H Q=>match x,y with
 | .int i,.int j=>Q (.int (i+j)) H
 | .str a,.str b=>a.length+b.length<=qZ/\Q (.str (a++b)) H
 | .ref _,.ref _=>rCat x y H Q\/zaxa K x y H Q
 | _,_=>False
theorem zajr:OpR X (binaryOp .Add) (zaoh X.K):=by
 intro pins s σ H x y v u Q I rx ry h
 cases x<;>cases y<;>first
  | exact h.elim
  | exact zawt pins s σ H _ _ v u Q I rx ry ⟨_,_,rfl,rfl,h⟩
  | exact zago pins s σ H _ _ v u Q I rx ry ⟨_,_,rfl,rfl,h.1,h.2⟩
  | exact(zaxg.or zasr) pins s σ H _ _ v u Q I rx ry h
noncomputable def zaxp:R2:=λx y H Q=>match x,y with
 | .int i,.int j=>CMul i j/\Q (.int (i * j)) H
 | .str z,.int n=>z.length<=1000/\-1000<=n/\n<=1000/\Q (.str (Txt.mul z n)) H
 | _,_=>False
theorem zls:OpR X (binaryOp .Mult) zaxp:=by
 intro pins s σ H x y v u Q I rx ry h
 cases x<;>cases y<;>first
  | exact h.elim
  | exact zawu pins s σ H _ _ v u Q I rx ry ⟨_,_,rfl,rfl,h.1,h.2⟩
  | exact zatd pins s σ H _ _ v u Q I rx ry ⟨_,_,rfl,rfl,h.1,h.2.1,h.2.2.1,h.2.2.2⟩
noncomputable def rIxU(K:qC):R2:=λx y H Q=>match x,y with
 | .str z,.int i=>z.length<=qZ/\∃c,atI z.cps.toList i=some c/\Q (.str ⟨#[c]⟩) H
 | .ref p,.int i=>∃xs v,(SqL K H p xs\/SqT K H p xs)/\atI xs i=some v/\Q v H
 | _,_=>False
theorem ix_U:IxR X (rIxU X.K):=by
 intro value slice pins s σ H x y v u Q I rx ry h hs
 cases x<;>cases y<;>first
  | exact h.elim
  | (obtain⟨h1,c,h2,h3⟩:=h;exact zaxc value slice pins s σ H _ _ v u Q I rx ry ⟨_,_,c,rfl,rfl,h1,h2,h3⟩ hs)
  | (obtain⟨xs,w,h1,h2,h3⟩:=h
     rcases h1 with h1|h1
     ·exact zass value slice pins s σ H _ _ v u Q I rx ry ⟨_,xs,_,w,rfl,rfl,h1,h2,h3⟩ hs
     ·exact zaxb value slice pins s σ H _ _ v u Q I rx ry ⟨_,xs,_,w,rfl,rfl,h1,h2,h3⟩ hs)
noncomputable def rSlU(K:qC):V->Option Int->Option Int->Hp->VK->Prop:=λx lo hi H Q=>match x with
 | .str z=>z.length<=qZ/\Q (.str (Txt.slice z lo hi)) H
 | .ref _=>rSlL K x lo hi H Q
 | _=>False
theorem sl_U:SlR X (rSlU X.K):=by
 intro pins s σ H x v vl vu lo hi sl Q I rx hs pl pu h
 cases x<;>first
  | exact h.elim
  | exact zaxm pins s σ H _ v vl vu lo hi sl Q I rx hs pl pu ⟨_,rfl,h.1,h.2⟩
  | exact zasu pins s σ H _ v vl vu lo hi sl Q I rx hs pl pu h
noncomputable def Dn(P:Program)(w:World)(K:qC)(mg:Str->Option Value)(base:Heap)(x:Str)(ps:List Str)(k:Nat)(sp:Sp):Prop:=
 ∃f fd,FnOk P w K mg base CX0 k f fd ps sp/\mg x=some (.ref f)/\qBY K (.ref f)=true/\zrl K fd ps []
theorem zbar{x:Str}{p pos:Pos}{e:Expr}{es:List Expr}{t:TA}{ps:List Str}{k:Nat}{sp:Sp}(D:Dn X.prog X.w X.K X.mg X.base x ps k sp)(hr:Room k X.A)(hg:Gl X x)(ha:PA X (e::es) t)
  (hdb:(x==("__debug__":Str))=false:=by decide)(he:starEach (e::es) X.env=(false,eval e X.env)::starEach es X.env:=by rfl)(hpl:(backTo pos (starEach es X.env)).any (·.1)=false:=by rfl) :
  PE X (.Call (.Name x p) (e::es) [] pos) (tCall sp [] E0 t):=by
 obtain⟨f,fd,F,hm,hk,hb⟩:=D
 exact zaso F hr hg hm hk hb .nil zbap ha hdb he hpl
end
theorem Same.upd{H H':Hp}{p:Addr}{o:HO}(h:Same H H')(hp:H p=none):Same H (upd H' p o):=λb u e=>by rw[zat (zbe e hp)];exact h b u e
theorem Same.new{H:Hp}{p:Addr}{o:HO}(hp:H p=none):Same H (L2.upd H p o):=(Same.refl H).upd hp
end L2
namespace Bc
open PySem L2
noncomputable abbrev Web:=List (Str×List Str)
noncomputable def nm(W:Web):List Str:=W.map (·.1)
structure WebOk(W:Web):Prop where
 nd:(nm W).Nodup
 el:∀i n es,W[i]?=some (n,es)->∀e∈es,e∈nm (W.take i)
 few:∀p∈W,p.2.length<=4
 len:W.length<=12
theorem zjk{α:Type}[DecidableEq α]:∀(l m:List α),l.Nodup->(∀x∈l,x∈m)->l.length<=m.length
 | [],_,_,_=>qAQ _
 | a::l,m,h,s=>by
  obtain⟨h1,h2⟩:=qAs.mp h
  have ha:=s a qR
  have q:=zjk l (m.erase a) h2 λx hx=>(List.mem_erase_of_ne (λ(z:x=a)=>h1 (by rw[<- z];exact hx))).mpr (s x (qL _ hx))
  rw[List.length_erase_of_mem ha]at q
  have:=qC3 ha
  rw[qy]
  omega
theorem zaff{W:Web}(h:WebOk W):(nm W).length<=12:=by unfold nm;rw[qG];exact h.len
end Bc
namespace L2
open PySem PySem.Spec PyProof.Rows
section
variable{X:Cx}{K:qC}(hK:X.K=K)
include hK
theorem zate{es:List Expr}{k:Nat}{t:TGs}{n:Nat}{pos:Pos}(hc:X.calm=true)(h:PGs X es t)
  (hn:(assignEach es X.env).length=n:=by rfl) (hst:(assignEach es X.env).findIdx? (·.1)=none:=by rfl):PG X (.Tuple es k pos) (gTup K n t):=by subst hK;exact zawp hc h hn hst
theorem zdk:IxR X (rIxU K):=by subst hK;exact ix_U
theorem zajs:SlR X (rSlU K):=by subst hK;exact sl_U
theorem zds:OpR X (binaryOp .Add) (zaoh K):=by subst hK;exact zajr
theorem zaxq:OpR X (compareOp .In) (rIn K false):=by subst hK;exact zaje
theorem zrp:OpR X (compareOp .NotIn) (rIn K true):=by subst hK;exact zzf
theorem zcw:CallR X (.builtin "len") (λxs H Q=>∃x n,xs=[x]/\LenV K x H n/\Q (.int n) H):=by subst hK;exact zanq
theorem zajt(hc:X.calm=true):CallR X (.builtin "any") (rAny K λbs=>bs.any id):=by subst hK;exact zaof hc
theorem zmi(hc:X.calm=true):CallR X (.builtin "all") (rAny K λbs=>bs.all id):=by subst hK;exact zaog hc
theorem zfb:CallR X (.builtin "isinstance") (λxs H Q=>∃x n t b,xs=[x,.ty n]/\TyOf K H x t/\PySem.W.kitOne K t (.type n)=some b/\Q (.bl b) H):=by subst hK;exact zaoe rfl
theorem zfr:CallR X (.type "list") (λxs H Q=>∃p ys,xs=[.ref p]/\(SqL K H p ys\/SqT K H p ys)/\∀l,H l=none->Q (.ref l) (upd H l (.lst ys))):=by subst hK;exact zzg
theorem zaxr{T:String}{name:Str}{id:String}{r:V->List V->Hp->VK->Prop}{o e:Expr}{es:List Expr}{to:TE}{t:TA}{apos cpos:Pos}(pa:PlainAttrs T)(slot:Slot T name id)(hty:typeOf (.builtin id)=pure (.type "method_descriptor"))(hm:MtR X id r)(ho:PE X o to)(ha:PA X (e::es) t)
  (hbase:attributeBase o name X.env (eval o X.env)=eval o X.env:=by rfl)
  (hfew:((backTo cpos (starEach (e::es) X.env)).all (λx=>!x.1)&&(backToKw cpos (keywordEach [] X.env)).all (λx=>x.1.isSome)
   && decide ((e::es).length+([]:List Keyword).length+(if([]:List Keyword).isEmpty then 0 else 1)<30))=true:=by rfl)
  (hline:(apos.endLine==cpos.line)=true:=by rfl)(hs:starEach (e::es) X.env=(false,eval e X.env)::starEach es X.env:=by rfl)(hplain:(backTo cpos (starEach es X.env)).any (·.1)=false:=by rfl) :
  PE X (.Call (.Attribute o name apos) (e::es) [] cpos) (tBM K T r to t):=by subst hK;exact zban pa slot hty hm ho ha hbase hfew hline hs hplain
end
end L2
namespace PySem
open Sem (wp)
open Builtin Builtin.ObjectAttr
end PySem
namespace L2
open PySem PySem.Spec PyProof.Rows
noncomputable def keyD:PyData->Option Key
 | .int i=>some (Sum.inl i)
 | .str s=>some (Sum.inr s)
 | _=>none
mutual
def Rp(H:Hp):PyData->V->Prop
 | .none,v=>v=.non
 | .bool b,v=>v=.bl b
 | .int i,v=>v=.int i
 | .str x,v=>v=.str x
 | .list ds,v=>∃a xs,v=.ref a/\H a=some (.lst xs)/\Rps H ds xs
 | .tuple ds,v=>∃a xs,v=.ref a/\H a=some (.tup xs)/\Rps H ds xs
 | .dict kvs,v=>∃a ps,v=.ref a/\H a=some (.dK ps)/\Rpd H kvs ps
def Rps(H:Hp):List PyData->List V->Prop
 | [],xs=>xs=[]
 | d::ds,xs=>∃v vs,xs=v::vs/\Rp H d v/\Rps H ds vs
def Rpd(H:Hp):List (PyData×PyData)->List (Key×V)->Prop
 | [],ps=>ps=[]
 | (k,d)::r,ps=>∃k' v vs,ps=(k',v)::vs/\keyD k=some k'/\Rp H d v/\Rpd H r vs
end
mutual
theorem Rp.same{H H':Hp}(h:Same H H'):∀(d:PyData){v:V},Rp H d v->Rp H' d v
 | .none,v,q=>by unfold Rp at q ⊢;exact q
 | .bool b,v,q=>by unfold Rp at q ⊢;exact q
 | .int i,v,q=>by unfold Rp at q ⊢;exact q
 | .str x,v,q=>by unfold Rp at q ⊢;exact q
 | .list ds,v,q=>by
  unfold Rp at q ⊢
  obtain⟨a,xs,e,hq,hr⟩:=q
  exact⟨a,xs,e,h _ _ hq,Rps.same h ds hr⟩
 | .tuple ds,v,q=>by
  unfold Rp at q ⊢
  obtain⟨a,xs,e,hq,hr⟩:=q
  exact⟨a,xs,e,h _ _ hq,Rps.same h ds hr⟩
 | .dict kvs,v,q=>by
  unfold Rp at q ⊢
  obtain⟨a,xs,e,hq,hr⟩:=q
  exact⟨a,xs,e,h _ _ hq,Rpd.same h kvs hr⟩
theorem Rps.same{H H':Hp}(h:Same H H'):∀(ds:List PyData){vs:List V},Rps H ds vs->Rps H' ds vs
 | [],vs,q=>by unfold Rps at q ⊢;exact q
 | d::ds,vs,q=>by
  unfold Rps at q ⊢
  obtain⟨v,vs',e,h1,h2⟩:=q
  exact⟨v,vs',e,Rp.same h d h1,Rps.same h ds h2⟩
theorem Rpd.same{H H':Hp}(h:Same H H'):∀(ds:List (PyData×PyData)){vs:List (Key×V)},Rpd H ds vs->Rpd H' ds vs
 | [],vs,q=>by unfold Rpd at q ⊢;exact q
 | (k,d)::ds,vs,q=>by
  unfold Rpd at q ⊢
  obtain⟨k',v,vs',e,h0,h1,h2⟩:=q
  exact⟨k',v,vs',e,h0,Rp.same h d h1,Rpd.same h ds h2⟩
end
theorem zci{H:Hp}:∀{ds:List PyData}{xs:List V},Rps H ds xs↔Paired (Rp H) ds xs
 | [],xs=>by
  constructor
  ·intro h;unfold Rps at h;subst h;exact .nil
  ·intro h;cases h;unfold Rps;rfl
 | d::ds,xs=>by
  constructor
  ·intro h
   unfold Rps at h
   obtain⟨v,vs,rfl,h1,h2⟩:=h
   exact .cons h1 (zci.mp h2)
  ·intro h
   cases h with
   | cons h1 h2=>unfold Rps;exact⟨_,_,rfl,h1,zci.mpr h2⟩
theorem Rps.length{H:Hp}{ds:List PyData}{xs:List V}(h:Rps H ds xs):ds.length=xs.length:=(zci.mp h).length
theorem zde{H:Hp}{ds:List PyData}{v:V}(h:Rp H (.list ds) v):∃a xs,v=.ref a/\H a=some (.lst xs)/\Rps H ds xs:=by unfold Rp at h;exact h
theorem zcx{H:Hp}{ds:List PyData}{v:V}(h:Rp H (.tuple ds) v):∃a xs,v=.ref a/\H a=some (.tup xs)/\Rps H ds xs:=by unfold Rp at h;exact h
theorem znr{H:Hp}{ds:List (PyData×PyData)}{v:V}(h:Rp H (.dict ds) v):∃a xs,v=.ref a/\H a=some (.dK xs)/\Rpd H ds xs:=by unfold Rp at h;exact h
theorem zdf{H:Hp}{i:Int}{v:V}(h:Rp H (.int i) v):v=.int i:=by unfold Rp at h;exact h
theorem zle{H:Hp}{i:Str}{v:V}(h:Rp H (.str i) v):v=.str i:=by unfold Rp at h;exact h
theorem zjl{H:Hp}{i:Bool}{v:V}(h:Rp H (.bool i) v):v=.bl i:=by unfold Rp at h;exact h
theorem zaju{H:Hp}{v:V}(h:Rp H .none v):v=.non:=by unfold Rp at h;exact h
theorem zad{H:Hp}{i:Int}:Rp H (.int i) (.int i):=by unfold Rp;rfl
theorem zcn{H:Hp}{i:Str}:Rp H (.str i) (.str i):=by unfold Rp;rfl
theorem zbj{H:Hp}{i:Bool}:Rp H (.bool i) (.bl i):=by unfold Rp;rfl
theorem zib{H:Hp}:Rp H .none .non:=by unfold Rp;rfl
theorem zdx{H:Hp}{ds:List PyData}{a:Addr}{xs:List V}(h:H a=some (.lst xs))(r:Rps H ds xs):Rp H (.list ds) (.ref a):=by unfold Rp;exact⟨a,xs,rfl,h,r⟩
theorem zacu{H:Hp}{ds:List PyData}{a:Addr}{xs:List V}(h:H a=some (.tup xs))(r:Rps H ds xs):Rp H (.tuple ds) (.ref a):=by unfold Rp;exact⟨a,xs,rfl,h,r⟩
theorem zkw{H:Hp}{ds:List (PyData×PyData)}{a:Addr}{xs:List (Key×V)}(h:H a=some (.dK xs))(r:Rpd H ds xs):Rp H (.dict ds) (.ref a):=by unfold Rp;exact⟨a,xs,rfl,h,r⟩
theorem zcv{H:Hp}:Rps H [] []:=by unfold Rps;rfl
theorem zii{H:Hp}:Rpd H [] []:=by unfold Rpd;rfl
theorem zdc{H:Hp}{d:PyData}{ds:List PyData}{v:V}{vs:List V}(h:Rp H d v)(r:Rps H ds vs):Rps H (d::ds) (v::vs):=by
 show Rps H (d::ds) _
 unfold Rps;exact⟨v,vs,rfl,h,r⟩
theorem Rps.append{H:Hp}{ds es:List PyData}{vs ws:List V}(h:Rps H ds vs)(r:Rps H es ws):Rps H (ds++es) (vs++ws):=by
 replace h:=zci.mp h
 refine zci.mpr ?_
 induction h with
 | nil=>exact zci.mp r
 | cons h _ ih=>exact .cons h ih
theorem Rps.get{H:Hp}{ds:List PyData}{vs:List V}(h:Rps H ds vs){i:Nat}{v:V}(e:vs[i]?=some v):∃d,ds[i]?=some d/\Rp H d v:=by
 replace h:=zci.mp h
 induction h generalizing i with
 | nil=>simp at e
 | cons h _ ih=>
  cases i with
  | zero=>simp at e;subst e;exact⟨_,rfl,h⟩
  | succ i=>simpa using ih (by simpa using e)
theorem Rps.get2{H:Hp}{ds:List PyData}{vs:List V}(h:Rps H ds vs){i:Nat}{d:PyData}(e:ds[i]?=some d):∃v,vs[i]?=some v/\Rp H d v:=by
 replace h:=zci.mp h
 induction h generalizing i with
 | nil=>simp at e
 | cons h _ ih=>
  cases i with
  | zero=>simp at e;subst e;exact⟨_,rfl,h⟩
  | succ i=>simpa using ih (by simpa using e)
open Classical in
noncomputable def Offs(A:Addr->Prop)(H:Hp):Hp:=λb=>if A b then none else H b
theorem Offs.get{A:Addr->Prop}{H:Hp}{b:Addr}(h:¬A b):Offs A H b=H b:=if_neg h
theorem Offs.out{A:Addr->Prop}{H:Hp}{b:Addr}(h:A b):Offs A H b=none:=if_pos h
theorem Offs.of{A:Addr->Prop}{H:Hp}{b:Addr}{o:HO}(h:Offs A H b=some o):¬A b/\H b=some o:=by
 by_cases hb:A b
 ·rw[Offs.out hb]at h;cases h
 ·rw[Offs.get hb]at h;exact⟨hb,h⟩
theorem Offs.mono{A B:Addr->Prop}{H H':Hp}(s:Same H H')(h:∀b o,H b=some o->¬A b->¬B b):Same (Offs A H) (Offs B H'):=λb o e=>by
 obtain⟨h1,h2⟩:=Offs.of e
 rw[Offs.get (h b o h2 h1)]
 exact s b o h2
theorem Offs.same(A:Addr->Prop)(H:Hp):Same (Offs A H) H:=λb o e=>(Offs.of e).2
theorem Offs.sub{A B:Addr->Prop}{H:Hp}(h:∀b,B b->A b):Same (Offs A H) (Offs B H):=Offs.mono (Same.refl _) λb _ _ n z=>n (h b z)
theorem Offs.grow{A:Addr->Prop}{H H':Hp}(s:Same H H'):Same (Offs A H) (Offs A H'):=Offs.mono s λ_ _ _ z=>z
theorem Offs.upd{A:Addr->Prop}{H:Hp}{a:Addr}{o:HO}(h:A a):Offs A (upd H a o)=Offs A H:=by
 funext b
 by_cases hb:A b
 ·rw[Offs.out hb,Offs.out hb]
 ·rw[Offs.get hb,Offs.get hb,zat (λe=>hb (by rw[e];exact h))]
inductive Sl where
 | no
  | pl (d:PyData)
  | ac (d:PyData)
noncomputable abbrev DEnv:=List Sl
noncomputable def own(env:DEnv)(σ:St)(a:Addr):Prop:=∃(i:Nat)(d:PyData),env[i]?=some (.ac d)/\σ[i]?=some (some (.ref a))
noncomputable def zfs(Ho H:Hp)(a:Addr):PyData->Prop
 | .list ds=>∃xs,H a=some (.lst xs)/\Rps Ho ds xs
 | .dict kvs=>∃ps,H a=some (.dK ps)/\Rpd Ho kvs ps
 | _=>False
theorem zfs.rp{Ho H H':Hp}{a:Addr}{d:PyData}(h:zfs Ho H a d)(s:Same Ho H')(e:∀o,H a=some o->H' a=some o):Rp H' d (.ref a):=by
 cases d with
 | list ds=>
  obtain⟨xs,h1,h2⟩:=h
  exact zdx (e _ h1) (Rps.same s _ h2)
 | dict ds=>
  obtain⟨xs,h1,h2⟩:=h
  exact zkw (e _ h1) (Rpd.same s _ h2)
 | _=>exact h.elim
theorem zfs.same{Ho H Ho' H':Hp}{a:Addr}{d:PyData}(h:zfs Ho H a d)(s:Same Ho Ho')(e:∀o,H a=some o->H' a=some o):zfs Ho' H' a d:=by
 cases d with
 | list ds=>
  obtain⟨xs,h1,h2⟩:=h
  exact⟨xs,e _ h1,Rps.same s _ h2⟩
 | dict ds=>
  obtain⟨xs,h1,h2⟩:=h
  exact⟨xs,e _ h1,Rpd.same s _ h2⟩
 | _=>exact h.elim
theorem zfs.ex{Ho H:Hp}{a:Addr}{d:PyData}(h:zfs Ho H a d):∃o,H a=some o:=by
 cases d with
 | list ds=>obtain⟨xs,h1,h2⟩:=h;exact⟨_,h1⟩
 | dict ds=>obtain⟨xs,h1,h2⟩:=h;exact⟨_,h1⟩
 | _=>exact h.elim
structure EnvOk(fx:Addr->Prop)(H0:Hp)(env:DEnv)(σ:St)(H:Hp):Prop where
 len:env.length=σ.length
 pl:∀(i:Nat)(d:PyData),env[i]?=some (.pl d)->∃v,σ[i]?=some (some v)/\Rp (Offs (λa=>fx a\/own env σ a) H) d v
 ac:∀(i:Nat)(d:PyData),env[i]?=some (.ac d)->∃a,σ[i]?=some (some (.ref a))/\H0 a=none/\¬fx a/\zfs (Offs (λa=>fx a\/own env σ a) H) H a d
 inj:∀(i j:Nat)(d e:PyData)(a:Addr),env[i]?=some (.ac d)->env[j]?=some (.ac e)->σ[i]?=some (some (.ref a))->σ[j]?=some (some (.ref a))->i=j
 base:Same H0 H
 fxs:∀b,fx b->∃o,H b=some o
theorem EnvOk.grow{fx fx':Addr->Prop}{H0:Hp}{env:DEnv}{σ:St}{H H':Hp}(h:EnvOk fx H0 env σ H)(s:Same H H')(f:∀b o,H b=some o->¬fx b->¬fx' b)(g:∀b,fx' b->∃o,H' b=some o):EnvOk fx' H0 env σ H':=by
 have so:Same (Offs (λa=>fx a\/own env σ a) H) (Offs (λa=>fx' a\/own env σ a) H'):=Offs.mono s λb o e n=>λz=>z.elim (f b o e λy=>n (.inl y)) λy=>n (.inr y)
 refine⟨h.len,λi d e=>?_,λi d e=>?_,h.inj,h.base.trans s,g⟩
 ·obtain⟨v,h1,h2⟩:=h.pl i d e
  exact⟨v,h1,Rp.same so d h2⟩
 ·obtain⟨a,h1,h2,h3,h4⟩:=h.ac i d e
  obtain⟨o,ho⟩:=h4.ex
  exact⟨a,h1,h2,f a o ho h3,h4.same so λo=>s a o⟩
theorem EnvOk.up{fx:Addr->Prop}{H0:Hp}{env:DEnv}{σ:St}{H H':Hp}(h:EnvOk fx H0 env σ H)(s:Same H H'):EnvOk fx H0 env σ H':=
 h.grow s (λ_ _ _ z=>z) λb z=>let⟨o,e⟩:=h.fxs b z;⟨o,s b o e⟩
structure Val where
 d:PyData
 fr:Bool
 bs:List Nat
noncomputable def lim(fx:Addr->Prop)(env:DEnv)(σ:St)(bs:List Nat)(a:Addr):Prop:=fx a\/∃(i:Nat)(d:PyData),i∉bs/\env[i]?=some (.ac d)/\σ[i]?=some (some (.ref a))
structure ValOk(A:Addr->Prop)(H H':Hp)(r:Val)(v:V):Prop where
 rp:Rp (Offs A H') r.d v
 fr:r.fr=true->∃a,v=.ref a/\H a=none/\zfs (Offs (λb=>A b\/b=a) H') H' a r.d
theorem zjm{fx:Addr->Prop}{env:DEnv}{σ:St}{bs cs:List Nat}(h:∀i∈bs,i∈cs):∀a,lim fx env σ cs a->lim fx env σ bs a:=by
 rintro a (z|⟨i,d,h1,h2,h3⟩)
 ·exact .inl z
 ·exact .inr ⟨i,d,λq=>h1 (h i q),h2,h3⟩
theorem zns{fx:Addr->Prop}{env:DEnv}{σ:St}{bs:List Nat}:∀a,lim fx env σ bs a->fx a\/own env σ a:=by
 rintro a (z|⟨i,d,h1,h2,h3⟩)
 ·exact .inl z
 ·exact .inr ⟨i,d,h2,h3⟩
theorem znt{fx:Addr->Prop}{env:DEnv}{σ:St}:∀a,fx a\/own env σ a->lim fx env σ [] a:=by
 rintro a (z|⟨i,d,h2,h3⟩)
 ·exact .inl z
 ·exact .inr ⟨i,d,by simp,h2,h3⟩
theorem EnvOk.lims{fx:Addr->Prop}{H0:Hp}{env:DEnv}{σ:St}{H:Hp}(h:EnvOk fx H0 env σ H)(bs:List Nat):∀b,lim fx env σ bs b->∃o,H b=some o:=by
 rintro b (z|⟨i,d,h1,h2,h3⟩)
 ·exact h.fxs b z
 ·obtain⟨a,g1,g2,g3,g4⟩:=h.ac i d h2
  rw[h3]at g1
  cases g1
  exact g4.ex
theorem ValOk.later{A B:Addr->Prop}{H0 H H' H'':Hp}{r:Val}{v:V}(h:ValOk A H H' r v)(s0:Same H0 H)(s:Same H' H'')(hB:∀b,B b->A b):ValOk B H0 H'' r v:=by
 refine⟨Rp.same (Offs.mono s λb _ _ n z=>n (hB b z)) _ h.rp,λe=>?_⟩
 obtain⟨a,h1,h2,h3⟩:=h.fr e
 exact⟨a,h1,s0.free h2,h3.same (Offs.mono s λb _ _ n z=>n (z.elim (λy=>.inl (hB b y)) .inr)) λo=>s a o⟩
noncomputable def zgp:PyData->Bool
 | .list _=>false
 | .tuple _=>false
 | .dict _=>false
 | _=>true
theorem zajv{H H':Hp}{d:PyData}{v:V}(f:zgp d=true)(h:Rp H d v):Rp H' d v:=by
 cases d<;>first
  | (unfold Rp at h ⊢;exact h)
  | cases f
noncomputable def bsOf(d:PyData)(bs:List Nat):List Nat:=if zgp d=true then[]else bs
theorem zjn{fx:Addr->Prop}{env:DEnv}{σ:St}{bs:List Nat}{H:Hp}{d:PyData}{v:V}(h:Rp (Offs (lim fx env σ bs) H) d v):Rp (Offs (lim fx env σ (bsOf d bs)) H) d v:=by
 unfold bsOf
 split
 ·rename_i e;exact zajv e h
 ·exact h
noncomputable abbrev EF:=DEnv->Option Val
noncomputable def SE(te:TE)(f:EF):Prop:=∀(fx:Addr->Prop)(H0:Hp)(env:DEnv)(σ:St)(H:Hp),EnvOk fx H0 env σ H->∀r,f env=some r->∀Q:VK,(∀v H',Same H H'->ValOk (lim fx env σ r.bs) H H' r v->Q v H')->te σ H Q
noncomputable abbrev TF:=DEnv->Option Bool
noncomputable def ST(tt:TT)(f:TF):Prop:=∀(fx:Addr->Prop)(H0:Hp)(env:DEnv)(σ:St)(H:Hp),EnvOk fx H0 env σ H->∀b,f env=some b->∀Q:Bool->Hp->Prop,(∀H',Same H H'->Q b H')->tt σ H Q
noncomputable abbrev AF:=DEnv->Option (List Val)
noncomputable def SA(ta:TA)(f:AF):Prop:=∀(fx:Addr->Prop)(H0:Hp)(env:DEnv)(σ:St)(H:Hp),EnvOk fx H0 env σ H->∀rs,f env=some rs->∀Q:List V->Hp->Prop,
 (∀vs H',Same H H'->Paired (λr v=>ValOk (lim fx env σ r.bs) H H' r v) rs vs->Q vs H')->ta σ H Q
section
variable{X:Cx}
noncomputable def eVar(i:Nat):EF:=λenv=>match env[i]? with
 | some (.pl d)=>some ⟨d,false,[]⟩
 | some (.ac d)=>some ⟨d,false,[i]⟩
 | _=>none
theorem zae(i:Nat):SE (tVar i) (eVar i):=by
 intro fx H0 env σ H h r hr Q q
 unfold eVar at hr
 cases e:env[i]? with
 | none=>rw[e]at hr;cases hr
 | some sl=>
  rw[e]at hr
  cases sl with
  | no=>cases hr
  | pl d=>
   cases hr
   obtain⟨v,h1,h2⟩:=h.pl i d e
   exact⟨v,h1,q v H (Same.refl _) ⟨Rp.same (Offs.sub zns) _ h2,λz=>by cases z⟩⟩
  | ac d=>
   cases hr
   obtain⟨a,h1,h2,h3,h4⟩:=h.ac i d e
   have hna:¬lim fx env σ [i] a:=by
    rintro(z|⟨j,d',g1,g2,g3⟩)
    ·exact h3 z
    ·exact g1 (ql.mpr (h.inj j i d' d a g2 e g3 h1))
   exact⟨_,h1,q _ H (Same.refl _) ⟨h4.rp (Offs.sub zns) λo z=>by rw[Offs.get hna];exact z,λz=>by cases z⟩⟩
noncomputable def eC(d:PyData):EF:=λ_=>some ⟨d,false,[]⟩
theorem se_c{d:PyData}{v:V}(h:∀H,Rp H d v):SE (tC v) (eC d):=by
 intro fx H0 env σ H _ r hr Q q
 cases hr
 exact q v H (Same.refl _) ⟨h _,λz=>by cases z⟩
noncomputable abbrev OF:=PyData->PyData->Option (PyData×Bool)
noncomputable def SO(r:R2)(f:OF):Prop:=∀(A:Addr->Prop)(H:Hp)(x y:V)(dx dy:PyData),(∀b,A b->∃o,H b=some o)->Rp (Offs A H) dx x->Rp (Offs A H) dy y->∀d fr,f dx dy=some (d,fr)->∀Q:VK,
 (∀v H',Same H H'->Rp (Offs A H') d v->(fr=true->∃a,v=.ref a/\H a=none/\zfs (Offs (λb=>A b\/b=a) H') H' a d)->Q v H')->r x y H Q
noncomputable def eOp(f:OF)(a b:EF):EF:=λenv=>(a env).bind λx=>(b env).bind λy=>(f x.d y.d).bind λz=>some ⟨z.1,z.2,bsOf z.1 (x.bs++y.bs)⟩
theorem zch{r:R2}{f:OF}{ta tb:TE}{fa fb:EF}(ho:SO r f)(ha:SE ta fa)(hb:SE tb fb):SE (tOp r ta tb) (eOp f fa fb):=by
 intro fx H0 env σ H h rr hr Q q
 unfold eOp at hr
 obtain⟨x,ex,hr⟩:=qA.mp hr
 obtain⟨y,ey,hr⟩:=qA.mp hr
 obtain⟨⟨d,fr⟩,ez,hr⟩:=qA.mp hr
 cases hr
 refine ha fx H0 env σ H h x ex _ λv H1 s1 v1=>hb fx H0 env σ H1 (h.up s1) y ey _ λu H2 s2 v2=>?_
 have l1:∀b,lim fx env σ (x.bs++y.bs) b->lim fx env σ x.bs b:=zjm λi hi=>qi _ hi
 have l2:∀b,lim fx env σ (x.bs++y.bs) b->lim fx env σ y.bs b:=zjm λi hi=>qI _ hi
 refine ho (lim fx env σ (x.bs++y.bs)) H2 v u x.d y.d ((h.up (s1.trans s2)).lims _) (v1.later (Same.refl _) s2 l1).rp (v2.later (Same.refl _) (Same.refl _) l2).rp d fr ez _ λw H3 s3 rp fr3=>q w H3 ((s1.trans s2).trans s3) ⟨zjn rp,λe=>?_⟩
 obtain⟨a,g1,g2,g3⟩:=fr3 e
 refine⟨a,g1,(s1.trans s2).free g2,?_⟩
 have nf:zgp d=false:=by cases d<;>first|rfl|exact g3.elim
 show zfs (Offs (λb=>lim fx env σ (bsOf d (x.bs++y.bs)) b\/b=a) H3) H3 a d
 rw[show bsOf d (x.bs++y.bs)=x.bs++y.bs by unfold bsOf;rw[if_neg (by rw[nf];decide)]]
 exact g3
end
theorem zfc{n:Nat}(h:n<=100000):n<=qZ:=qAA h (by decide)
theorem zlt{n:Nat}(h:n<100000):n<qZ:=Nat.lt_trans h (by decide)
theorem zed{A:Addr->Prop}{H:Hp}(hA:∀b,A b->∃o,H b=some o){p:Addr}(hp:H p=none):¬A p:=λz=>by
 obtain⟨o,e⟩:=hA p z
 rw[hp]at e;cases e
theorem znu{A:Addr->Prop}{H:Hp}{p:Addr}{ds:List PyData}{xs:List V}(hp:H p=none)(r:Rps (Offs A H) ds xs):zfs (Offs (λb=>A b\/b=p) (upd H p (.lst xs))) (upd H p (.lst xs)) p (.list ds):=by
 refine⟨xs,zar,Rps.same (Offs.mono (Same.new hp) λb o e n z=>?_) _ r⟩
 rcases z with z|z
 ·exact n z
 ·rw[z,hp]at e;cases e
theorem zuo{A:Addr->Prop}{H:Hp}{p:Addr}{ds:List PyData}{xs:List V}(hp:H p=none)(hA:¬A p)(r:Rps (Offs A H) ds xs):Rp (Offs A (upd H p (.lst xs))) (.list ds) (.ref p):=
 zdx (by rw[Offs.get hA];exact zar) (Rps.same (Offs.grow (Same.new hp)) _ r)
theorem znv{A:Addr->Prop}{H:Hp}{p:Addr}{ds:List PyData}{xs:List V}(hp:H p=none)(hA:¬A p)(r:Rps (Offs A H) ds xs):Rp (Offs A (upd H p (.tup xs))) (.tuple ds) (.ref p):=
 zacu (by rw[Offs.get hA];exact zar) (Rps.same (Offs.grow (Same.new hp)) _ r)
theorem zco{A:Addr->Prop}{H:Hp}{a:Addr}{o:HO}(h:Offs A H a=some o):H a=some o:=(Offs.of h).2
noncomputable def addD:OF
 | .int i,.int j=>some (.int (i+j),false)
 | .str a,.str b=>if a.length+b.length<=100000 then some (.str (a++b),false)else none
 | .list a,.list b=>if a.length+b.length<=100000 then some (.list (a++b),true)else none
 | .tuple a,.tuple b=>if a.isEmpty=false/\a.length+b.length<=100000 then some (.tuple (a++b),false)else none
 | _,_=>none
theorem zgs{K:qC}:SO (zaoh K) addD:=by
 intro A H x y dx dy hA rx ry d fr e Q q
 unfold addD at e
 split at e
 ·cases e
  cases zdf rx;cases zdf ry
  exact q _ H (Same.refl _) zad (λz=>by cases z)
 ·split at e
  ·rename_i hl
   cases e
   cases zle rx;cases zle ry
   exact⟨zfc hl,q _ H (Same.refl _) zcn (λz=>by cases z)⟩
  ·cases e
 ·split at e
  ·rename_i hl
   cases e
   obtain⟨p,xs,rfl,hp,r1⟩:=zde rx
   obtain⟨p',ys,rfl,hp',r2⟩:=zde ry
   refine .inl ⟨p,p',xs,ys,rfl,rfl,zco hp,zco hp',zfc (by rw[<- r1.length,<- r2.length];exact hl),λb hb=>?_⟩
   exact q _ _ (Same.new hb) (zuo hb (zed hA hb) (r1.append r2)) λ_=>⟨b,rfl,hb,znu hb (r1.append r2)⟩
  ·cases e
 ·split at e
  ·rename_i hl
   cases e
   obtain⟨p,xs,rfl,hp,r1⟩:=zcx rx
   obtain⟨p',ys,rfl,hp',r2⟩:=zcx ry
   refine .inr ⟨p,p',xs,ys,rfl,rfl,SqT.of (zco hp),SqT.of (zco hp'),λz=>?_,zfc (by rw[<- r1.length,<- r2.length];exact hl.2),λz=>?_,λ_ b hb=>?_⟩
   ·have h1:=r1.length
    have h0:=hl.1
    rw[z]at h1
    rw[List.isEmpty_eq_false_iff]at h0
    exact h0 (qBQ.mp h1)
   ·have h2:=r2.length
    rw[z]at h2
    have:=qBQ.mp h2
    subst this
    rw[qAD]at q
    exact q _ H (Same.refl _) rx (λz=>by cases z)
   ·exact q _ _ (Same.new hb) (znv hb (zed hA hb) (r1.append r2)) (λz=>by cases z)
  ·cases e
 ·cases e
noncomputable def intD(c:Int->Int->Bool)(f:Int->Int->PyData):OF
 | .int i,.int j=>if c i j=true then some (f i j,false)else none
 | _,_=>none
theorem zajw{C:Int->Int->Prop}{g:Int->Int->V}{c:Int->Int->Bool}{f:Int->Int->PyData}(hc:∀i j,c i j=true->C i j)(hf:∀H i j,Rp H (f i j) (g i j)):SO (rI C g) (intD c f):=by
 intro A H x y dx dy hA rx ry d fr e Q q
 unfold intD at e
 split at e
 ·split at e
  ·rename_i h
   cases e
   cases zdf rx;cases zdf ry
   exact⟨_,_,rfl,rfl,hc _ _ h,q _ H (Same.refl _) (hf _ _ _) (λz=>by cases z)⟩
  ·cases e
 ·cases e
theorem zacv{g:Int->Int->V}{f:Int->Int->PyData}(hf:∀H i j,Rp H (f i j) (g i j)):SO (rI0 g) (intD (λ_ _=>true) f):=by
 intro A H x y dx dy hA rx ry d fr e Q q
 unfold intD at e
 split at e
 ·split at e
  ·cases e
   cases zdf rx;cases zdf ry
   exact⟨_,_,rfl,rfl,q _ H (Same.refl _) (hf _ _ _) (λz=>by cases z)⟩
  ·cases e
 ·cases e
noncomputable def subD:OF:=intD (λ_ _=>true) λi j=>.int (i - j)
theorem zare:SO (rI0 λi j=>.int (i - j)) subD:=zacv λ_ _ _=>zad
noncomputable def ltD:OF:=intD (λ_ _=>true) λi j=>.bool (decide (i<j))
theorem zatf:SO (rI0 λi j=>.bl (decide (i<j))) ltD:=zacv λ_ _ _=>zbj
noncomputable def geD:OF:=intD (λ_ _=>true) λi j=>.bool (decide (j<=i))
theorem zbas:SO (rI0 λi j=>.bl (decide (j<=i))) geD:=zacv λ_ _ _=>zbj
noncomputable def modD:OF:=intD (λ_ j=>decide (0<j)) λi j=>.int (i % j)
theorem zrq:SO (rI (λ_ j=>0<j) λi j=>.int (i % j)) modD:=zajw (λ_ _ h=>of_decide_eq_true h) λ_ _ _=>zad
noncomputable def zqh:OF:=intD (λ_ j=>decide (0<j/\j<1073741824)) λi j=>.int (i / j)
theorem zwq:SO (rI CDiv λi j=>.int (i / j)) zqh:=zajw (λi j h=>(of_decide_eq_true h:0<j/\j<1073741824)) λ_ _ _=>zad
noncomputable def mulD:OF
 | .int i,.int j=>if(-(2 ^ 64)<i/\i<2 ^ 64)\/(-(2 ^ 64)<j/\j<2 ^ 64)then some (.int (i * j),false)else none
 | .str z,.int n=>if z.length<=1000/\-1000<=n/\n<=1000 then some (.str (Txt.mul z n),false)else none
 | _,_=>none
theorem zrr:SO zaxp mulD:=by
 intro A H x y dx dy hA rx ry d fr e Q q
 unfold mulD at e
 split at e
 ·split at e
  ·rename_i h
   cases e
   cases zdf rx;cases zdf ry
   exact⟨h,q _ H (Same.refl _) zad (λz=>by cases z)⟩
  ·cases e
 ·split at e
  ·rename_i h
   cases e
   cases zle rx;cases zdf ry
   exact⟨h.1,h.2.1,h.2.2,q _ H (Same.refl _) zcn (λz=>by cases z)⟩
  ·cases e
 ·cases e
mutual
theorem zmj{K:qC}{H:Hp}:∀{d:PyData}{v:V},d.canLay0=true->Rp H d v->Rep K H d v
 | .none,v,_,h=>by unfold Rp at h;unfold Rep;exact h
 | .bool b,v,_,h=>by unfold Rp at h;unfold Rep;exact h
 | .int i,v,_,h=>by unfold Rp at h;unfold Rep;exact h
 | .str x,v,_,h=>by unfold Rp at h;unfold Rep;exact h
 | .list ds,v,c,h=>by
  obtain⟨a,xs,e,h1,h2⟩:=zde h
  unfold Rep
  exact⟨a,xs,e,SqL.of h1,rps_reps (by simpa [PyData.canLay0]using c) h2⟩
 | .tuple ds,v,c,h=>by
  obtain⟨a,xs,e,h1,h2⟩:=zcx h
  unfold Rep
  exact⟨a,xs,e,SqT.of h1,rps_reps (by simpa [PyData.canLay0]using c) h2⟩
 | .dict _,v,c,h=>by simp[PyData.canLay0]at c
theorem rps_reps{K:qC}{H:Hp}:∀{ds:List PyData}{vs:List V},qAN ds=true->Rps H ds vs->Reps K H ds vs
 | [],vs,_,h=>by unfold Rps at h;unfold Reps;exact h
 | d::ds,vs,c,h=>by
  unfold Rps at h
  obtain⟨v,ws,e,h1,h2⟩:=h
  have c:d.canLay0=true/\qAN ds=true:=by simpa [qAN]using c
  unfold Reps
  exact⟨v,ws,e,zmj c.1 h1,rps_reps c.2 h2⟩
end
noncomputable def zacw:PyData->PyData->Bool
 | .none,.none=>true|.none,.int _=>true|.int _,.none=>true|.none,.bool _=>true|.bool _,.none=>true|.none,.str _=>true|.str _,.none=>true
 | .int _,.int _=>true|.bool _,.bool _=>true|.str _,.str _=>true
 | .int _,.str _=>true|.str _,.int _=>true|.bool _,.str _=>true|.str _,.bool _=>true
 | _,_=>false
noncomputable def eqOk(dx dy:PyData):Bool:=zacw dx dy||(qt dx&&qt dy)
noncomputable def eqD:OF:=λdx dy=>if eqOk dx dy=true then some (.bool (qX dx dy),false)else none
noncomputable def neD:OF:=λdx dy=>if eqOk dx dy=true then some (.bool (!PyData.eqv dx dy),false)else none
theorem zajx{H:Hp}{dx dy:PyData}{x y:V}(s:zacw dx dy=true)(rx:Rp H dx x)(ry:Rp H dy y):scal x y=true/\decide (x=y)=qX dx dy:=by
 cases dx<;>cases dy<;>first
  | (exact absurd (show false=true from s) qV)
  | (unfold Rp at rx ry;subst rx;subst ry;refine⟨rfl,?_⟩;first|rfl|exact zack|exact zaiv|exact zacl|simp[qX])
theorem zzm{K:qC}:SO (λx y H Q=>rEq x y H Q\/rEqD K false x y H Q) eqD:=by
 intro A H x y dx dy hA rx ry d fr e Q q
 unfold eqD at e
 split at e
 ·rename_i h
  cases e
  cases hs:zacw dx dy with
  | true=>
   obtain⟨h1,h2⟩:=zajx hs rx ry
   exact .inl ⟨h1,by rw[h2];exact q _ H (Same.refl _) zbj (λz=>by cases z)⟩
  | false=>
   unfold eqOk at h
   rw[hs,qC0,qAC]at h
   have rx:=Rp.same (Offs.same A H) _ rx
   have ry:=Rp.same (Offs.same A H) _ ry
   exact .inr ⟨dx,dy,zmj (qAS h.1) rx,zmj (qAS h.2) ry,h.1,h.2,q _ H (Same.refl _) zbj (λz=>by cases z)⟩
 ·cases e
theorem zagu{K:qC}:SO (λx y H Q=>rNe x y H Q\/rEqD K true x y H Q) neD:=by
 intro A H x y dx dy hA rx ry d fr e Q q
 unfold neD at e
 split at e
 ·rename_i h
  cases e
  cases hs:zacw dx dy with
  | true=>
   obtain⟨h1,h2⟩:=zajx hs rx ry
   exact .inl ⟨h1,by rw[h2];exact q _ H (Same.refl _) zbj (λz=>by cases z)⟩
  | false=>
   unfold eqOk at h
   rw[hs,qC0,qAC]at h
   have rx:=Rp.same (Offs.same A H) _ rx
   have ry:=Rp.same (Offs.same A H) _ ry
   exact .inr ⟨dx,dy,zmj (qAS h.1) rx,zmj (qAS h.2) ry,h.1,h.2,q _ H (Same.refl _) zbj (λz=>by cases z)⟩
 ·cases e
noncomputable def zdm(ds:List PyData):Bool:=ds.all zgp
theorem zajy{H:Hp}{d:PyData}{v:V}(f:zgp d=true)(h:Rp H d v):znp v=true:=by
 cases d<;>first
  | (unfold Rp at h;subst h;rfl)
  | cases f
theorem zajz{H:Hp}{ds:List PyData}{vs:List V}(f:zdm ds=true)(h:Rps H ds vs):vs.all znp=true:=by
 replace h:=zci.mp h
 induction h with
 | nil=>rfl
 | cons h _ ih=>
  unfold zdm at f
  rw[qBl,qAC]at f
  rw[qBl,zajy f.1 h,ih f.2];rfl
theorem zaka{H:Hp}{d e:PyData}{v u:V}(f:zgp d=true)(g:zgp e=true)(h:Rp H d v)(k:Rp H e u):eqV v u=qX d e:=by
 cases d<;>cases e<;>first
  | (unfold Rp at h k;subst h;subst k;rfl)
  | exact absurd (show false=true from f) qV
  | exact absurd (show false=true from g) qV
theorem zatg{H:Hp}{d:PyData}{v:V}(f:zgp d=true)(h:Rp H d v){ds:List PyData}{vs:List V}(g:zdm ds=true)(r:Rps H ds vs):inV v vs=ds.any λe=>qX e d:=by
 replace r:=zci.mp r
 unfold inV
 induction r with
 | nil=>rfl
 | cons r _ ih=>
  unfold zdm at g
  rw[qBl,qAC]at g
  rw[qA7,qA7,zaka g.1 f r h,ih g.2]
noncomputable def zfd:PyData->Option (List PyData)
 | .list ds=>some ds
 | .tuple ds=>some ds
 | _=>none
noncomputable def inD(neg:Bool):OF:=λd c=>match zfd c with
 | some ds=>if zgp d=true/\zdm ds=true then some (.bool (if neg then !(ds.any λe=>qX e d)else ds.any λe=>qX e d),false)else none
 | none=>none
theorem zafg{K:qC}{H:Hp}{c:PyData}{v:V}{ds:List PyData}(h:Rp H c v)(e:zfd c=some ds):∃p xs,v=.ref p/\(SqL K H p xs\/SqT K H p xs)/\Rps H ds xs:=by
 cases c<;>first
  | cases e
  | skip
 ·obtain⟨a,xs,e,h1,h2⟩:=zde h;exact⟨a,xs,e,.inl (SqL.of h1),h2⟩
 ·obtain⟨a,xs,e,h1,h2⟩:=zcx h;exact⟨a,xs,e,.inr (SqT.of h1),h2⟩
theorem zaoi{K:qC}{neg:Bool}:SO (rIn K neg) (inD neg):=by
 intro A H x y dx dy hA rx ry d fr e Q q
 unfold inD at e
 split at e
 ·rename_i ds hi
  split at e
  ·rename_i h
   cases e
   have rx:=Rp.same (Offs.same A H) _ rx
   obtain⟨p,xs,rfl,hq,r⟩:=zafg (K:=K) (Rp.same (Offs.same A H) _ ry) hi
   refine⟨p,xs,rfl,hq,zajy h.1 rx,zajz h.2 r,?_⟩
   rw[zatg h.1 rx h.2 r]
   refine q _ H (Same.refl _) ?_ (λz=>by cases z)
   cases neg<;>exact zbj
  ·cases e
 ·cases e
noncomputable def ixD:OF
 | .str z,.int i=>if z.length<=100000 then(atI z.cps.toList i).map λc=>(.str ⟨#[c]⟩,false)else none
 | .list ds,.int i=>(atI ds i).map λd=>(d,false)
 | .tuple ds,.int i=>(atI ds i).map λd=>(d,false)
 | _,_=>none
theorem Rps.atI{H:Hp}{ds:List PyData}{vs:List V}(h:Rps H ds vs){i:Int}{d:PyData}(e:atI ds i=some d):∃v,L2.atI vs i=some v/\Rp H d v:=by
 unfold L2.atI at e ⊢
 rw[<- h.length]
 cases g:ixN ds.length i with
 | none=>rw[g]at e;cases e
 | some j=>
  rw[g]at e
  exact h.get2 e
theorem zrs{K:qC}:SO (rIxU K) ixD:=by
 intro A H x y dx dy hA rx ry d fr e Q q
 unfold ixD at e
 split at e
 ·split at e
  ·rename_i z i hl
   obtain⟨c,hc,e⟩:=qF.mp e
   cases e
   cases zle rx;cases zdf ry
   exact⟨zfc hl,c,hc,q _ H (Same.refl _) zcn (λz=>by cases z)⟩
  ·cases e
 ·obtain⟨c,hc,e⟩:=qF.mp e
  cases e
  obtain⟨p,xs,rfl,hp,r⟩:=zde rx
  cases zdf ry
  obtain⟨v,hv,rv⟩:=r.atI hc
  exact⟨xs,v,.inl (SqL.of (zco hp)),hv,q _ H (Same.refl _) rv (λz=>by cases z)⟩
 ·obtain⟨c,hc,e⟩:=qF.mp e
  cases e
  obtain⟨p,xs,rfl,hp,r⟩:=zcx rx
  cases zdf ry
  obtain⟨v,hv,rv⟩:=r.atI hc
  exact⟨xs,v,.inr (SqT.of (zco hp)),hv,q _ H (Same.refl _) rv (λz=>by cases z)⟩
 ·cases e
noncomputable def zmk:List (PyData×PyData)->Key->Option PyData
 | [],_=>none
 | (k,d)::r,j=>if keyD k=some j then some d else zmk r j
noncomputable def zacx(kvs:List (PyData×PyData))(j:Key):Bool:=(zmk kvs j).isSome
noncomputable def ztw(kvs:List (PyData×PyData))(k:PyData)(d:PyData):List (PyData×PyData):=
 if(kvs.any λkv=>decide (keyD kv.1=keyD k))=true then kvs.map (λkv=>if keyD kv.1=keyD k then(kv.1,d)else kv)else kvs++[(k,d)]
noncomputable def zjo(kvs more:List (PyData×PyData)):List (PyData×PyData):=more.foldl (λacc kv=>ztw acc kv.1 kv.2) kvs
theorem zij{H:Hp}{k d:PyData}{r:List (PyData×PyData)}{k':Key}{v:V}{vs:List (Key×V)}(hk:keyD k=some k')(h:Rp H d v)(q:Rpd H r vs):Rpd H ((k,d)::r) ((k',v)::vs):=by
 show Rpd H ((k,d)::r) _
 unfold Rpd;exact⟨k',v,vs,rfl,hk,h,q⟩
theorem zgz{H:Hp}{k d:PyData}{r:List (PyData×PyData)}{ps:List (Key×V)}(h:Rpd H ((k,d)::r) ps):∃k' v vs,ps=(k',v)::vs/\keyD k=some k'/\Rp H d v/\Rpd H r vs:=by
 unfold Rpd at h;exact h
theorem Rpd.length{H:Hp}:∀{kvs:List (PyData×PyData)}{ps:List (Key×V)},Rpd H kvs ps->kvs.length=ps.length
 | [],ps,h=>by unfold Rpd at h;subst h;rfl
 | (k,d)::r,ps,h=>by
  obtain⟨k',v,vs,rfl,_,_,h3⟩:=zgz h
  rw[qy,qy,h3.length]
theorem Rpd.get{H:Hp}{j:Key}:∀{kvs:List (PyData×PyData)}{ps:List (Key×V)},Rpd H kvs ps->match zmk kvs j with
  | some d=>∃v,valV ps j=some v/\Rp H d v
  | none=>valV ps j=none
 | [],ps,h=>by unfold Rpd at h;subst h;rfl
 | (k,d)::r,ps,h=>by
  obtain⟨k',v,vs,rfl,hk,h2,h3⟩:=zgz h
  have ih:=Rpd.get (j:=j) h3
  unfold zmk
  by_cases e:k'=j
  ·rw[if_pos (by rw[hk,e])]
   exact⟨v,zqx e,h2⟩
  ·rw[if_neg (λz=>e (by rw[hk]at z;exact qY z)),zqy e]
   exact ih
theorem Rpd.any{H:Hp}{j:Key}:∀{kvs:List (PyData×PyData)}{ps:List (Key×V)},Rpd H kvs ps->(kvs.any λkv=>decide (keyD kv.1=some j))=ps.any λkv=>decide (kv.1=j)
 | [],ps,h=>by unfold Rpd at h;subst h;rfl
 | (k,d)::r,ps,h=>by
  obtain⟨k',v,vs,rfl,hk,h2,h3⟩:=zgz h
  rw[qA7,qA7,h3.any,hk]
  congr 1
  simp
theorem Rpd.map{H:Hp}{j:Key}{d':PyData}{v':V}(h':Rp H d' v'):∀{kvs:List (PyData×PyData)}{ps:List (Key×V)},Rpd H kvs ps->Rpd H (kvs.map λkv=>if keyD kv.1=some j then(kv.1,d')else kv) (ps.map λkv=>if kv.1=j then(kv.1,v')else kv)
 | [],ps,h=>by unfold Rpd at h;subst h;exact zii
 | (k,d)::r,ps,h=>by
  obtain⟨k',v,vs,rfl,hk,h2,h3⟩:=zgz h
  rw[qa,qa]
  by_cases e:k'=j
  ·rw[if_pos (show keyD (k,d).1=some j by rw[hk,e]),if_pos (show((k',v):Key×V).1=j from e)]
   exact zij hk h' (Rpd.map h' h3)
  ·rw[if_neg (show ¬keyD (k,d).1=some j from λz=>e (by rw[hk]at z;exact qY z)),if_neg (show ¬((k',v):Key×V).1=j from e)]
   exact zij hk h2 (Rpd.map h' h3)
theorem Rpd.snoc{H:Hp}{k d:PyData}{k':Key}{v:V}(hk:keyD k=some k')(h':Rp H d v):∀{kvs:List (PyData×PyData)}{ps:List (Key×V)},Rpd H kvs ps->Rpd H (kvs++[(k,d)]) (ps++[(k',v)])
 | [],ps,h=>by unfold Rpd at h;subst h;exact zij hk h' zii
 | (k0,d0)::r,ps,h=>by
  obtain⟨k1,v1,vs,rfl,hk1,h2,h3⟩:=zgz h
  exact zij hk1 h2 (Rpd.snoc hk h' h3)
theorem Rpd.put{H:Hp}{k d:PyData}{j:Key}{v:V}{kvs:List (PyData×PyData)}{ps:List (Key×V)}(h:Rpd H kvs ps)(hk:keyD k=some j)(h':Rp H d v):Rpd H (ztw kvs k d) (putK ps j v):=by
 unfold ztw putK
 rw[hk,h.any]
 split
 ·exact h.map h'
 ·exact h.snoc hk h'
theorem Rpd.merge{H:Hp}:∀{more:List (PyData×PyData)}{ps:List (Key×V)}{kvs:List (PyData×PyData)}{qs:List (Key×V)},Rpd H kvs qs->Rpd H more ps->Rpd H (zjo kvs more) (zhc qs ps)
 | [],ps,kvs,qs,h,g=>by unfold Rpd at g;subst g;exact h
 | (k,d)::r,ps,kvs,qs,h,g=>by
  obtain⟨k',v,vs,rfl,hk,h2,h3⟩:=zgz g
  show Rpd H (zjo (ztw kvs k d) r) (zhc (putK qs k' v) vs)
  exact Rpd.merge (h.put hk h2) h3
theorem zaoj{H:Hp}{d:PyData}{v:V}{k:Key}(h:Rp H d v)(e:keyD d=some k):v=kV k:=by
 cases d<;>first
  | (cases e;unfold Rp at h;exact h)
  | cases e
noncomputable def zbbn(a b:EF):EF:=λenv=>(a env).bind λx=>(b env).bind λy=>match x.d with
 | .dict kvs=>(keyD y.d).bind λk=>(zmk kvs k).bind λd=>some ⟨d,false,bsOf d x.bs⟩
 | _=>none
noncomputable def eDIn(neg:Bool)(a b:EF):EF:=λenv=>(a env).bind λx=>(b env).bind λy=>match y.d with
 | .dict kvs=>(keyD x.d).bind λk=>some ⟨.bool (if neg then !zacx kvs k else zacx kvs k),false,[]⟩
 | _=>none
theorem zath{H:Hp}{kvs:List (PyData×PyData)}{ps:List (Key×V)}(r:Rpd H kvs ps)(k:Key):(valV ps k).isSome=zacx kvs k:=by
 have g:=r.get (j:=k)
 unfold zacx
 cases e:zmk kvs k with
 | none=>rw[e]at g;rw[show valV ps k=none from g];rfl
 | some d=>rw[e]at g;obtain⟨w,e1,_⟩:=g;rw[e1];rfl
theorem zarf{td ty:TE}{fa fb:EF}(ha:SE ty fa)(hb:SE td fb):SE (tDIn ty td) (eDIn false fa fb):=by
 intro fx H0 env σ H h rr hr Q q
 unfold eDIn at hr
 obtain⟨⟨dx,frx,bx⟩,ex,hr⟩:=qA.mp hr
 obtain⟨⟨dy,fry,by'⟩,ey,hr⟩:=qA.mp hr
 cases dy with
 | dict kvs=>
  obtain⟨k,ek,hr⟩:=qA.mp hr
  cases hr
  refine ha fx H0 env σ H h _ ex _ λv H1 s1 v1=>hb fx H0 env σ H1 (h.up s1) _ ey _ λu H2 s2 v2=>?_
  obtain⟨a,ps,rfl,hp,r⟩:=znr v2.rp
  rw[zaoj v1.rp ek]
  exact⟨a,_,rfl,DGet.k (zco hp),by rw[zath r k];exact q _ H2 (s1.trans s2) ⟨zbj,λz=>by cases z⟩⟩
 | _=>cases hr
noncomputable def zck(f:EF):TF:=λenv=>(f env).bind λr=>match r.d with|.bool b=>some b|_=>none
theorem st_b{te:TE}{f:EF}(h:SE te f):ST (tB te) (zck f):=by
 intro fx H0 env σ H hE b hb Q q
 unfold zck at hb
 obtain⟨⟨d,fr,bs⟩,e,hb⟩:=qA.mp hb
 cases d with
 | bool c=>
  have hb:some c=some b:=hb
  cases hb
  exact h fx H0 env σ H hE _ e _ λv H' s v1=>⟨_,zjl v1.rp,q H' s⟩
 | _=>cases hb
theorem st_t{te:TE}{f:EF}(h:SE te f):ST (tTest te) (zck f):=st_b h
noncomputable def truD:PyData->Option Bool
 | .none=>some false
 | .bool b=>some b
 | .int i=>some (i != 0)
 | .str x=>if x.length<=100000 then some ((x.length:Int) != 0)else none
 | .list ds=>some (!ds.isEmpty)
 | .tuple ds=>some (!ds.isEmpty)
 | .dict ds=>some (!ds.isEmpty)
noncomputable def tTru(f:EF):TF:=λenv=>(f env).bind λr=>truD r.d
theorem zlu{α β:Type}{xs:List α}{ys:List β}(h:xs.length=ys.length):xs.isEmpty=ys.isEmpty:=by
 cases xs<;>cases ys<;>simp at h<;>rfl
theorem zaxs{K:qC}{H:Hp}{d:PyData}{v:V}{b:Bool}(h:Rp H d v)(e:truD d=some b):TruV K v H b:=by
 cases d with
 | none=>cases e;cases zaju h;rfl
 | bool c=>cases e;cases zjl h;rfl
 | int i=>cases e;cases zdf h;rfl
 | str x=>
  have e:(if x.length<=100000 then some ((x.length:Int) != 0)else none)=some b:=e
  split at e
  ·rename_i hl;cases e;cases zle h;exact⟨zfc hl,rfl⟩
  ·cases e
 | list ds=>cases e;obtain⟨a,xs,rfl,h1,h2⟩:=zde h;exact .inl ⟨xs,SqL.of h1,by rw[zlu h2.length]⟩
 | tuple ds=>cases e;obtain⟨a,xs,rfl,h1,h2⟩:=zcx h;exact .inr (.inl ⟨xs,SqT.of h1,by rw[zlu h2.length]⟩)
 | dict ds=>cases e;obtain⟨a,xs,rfl,h1,h2⟩:=znr h;exact .inr (.inr ⟨xs,h1,by rw[zlu h2.length]⟩)
theorem zlf{K:qC}{te:TE}{f:EF}(h:SE te f):ST (λσ H Q=>te σ H λx H1=>∃k,TruV K x H1 k/\Q k H1) (tTru f):=by
 intro fx H0 env σ H hE b hb Q q
 unfold tTru at hb
 obtain⟨r,e,hb⟩:=qA.mp hb
 exact h fx H0 env σ H hE _ e _ λv H' s v1=>⟨b,zaxs (Rp.same (Offs.same _ _) _ v1.rp) hb,q H' s⟩
noncomputable def zwr(f g:TF):TF:=λenv=>(f env).bind λb=>if b=true then g env else some false
noncomputable def tOrF(f g:TF):TF:=λenv=>(f env).bind λb=>if b=true then some true else g env
noncomputable def zjp(f:TF):TF:=λenv=>(f env).map λb=>!b
theorem zaxt{t u:TT}{f g:TF}(h:ST t f)(k:ST u g):ST (tAnd t u) (zwr f g):=by
 intro fx H0 env σ H hE b hb Q q
 unfold zwr at hb
 obtain⟨c,e,hb⟩:=qA.mp hb
 refine h fx H0 env σ H hE c e _ λH' s=>?_
 cases c with
 | true=>exact iteT (k fx H0 env σ H' (hE.up s) b hb _ λH'' s'=>q H'' (s.trans s'))
 | false=>cases hb;exact iteF (q H' s)
theorem zati{t u:TT}{f g:TF}(h:ST t f)(k:ST u g):ST (tOr t u) (tOrF f g):=by
 intro fx H0 env σ H hE b hb Q q
 unfold tOrF at hb
 obtain⟨c,e,hb⟩:=qA.mp hb
 refine h fx H0 env σ H hE c e _ λH' s=>?_
 cases c with
 | false=>exact iteF (k fx H0 env σ H' (hE.up s) b hb _ λH'' s'=>q H'' (s.trans s'))
 | true=>cases hb;exact iteT (q H' s)
theorem zzn{t:TT}{f:TF}(h:ST t f):ST (tNot t) (zjp f):=by
 intro fx H0 env σ H hE b hb Q q
 unfold zjp at hb
 obtain⟨c,e,rfl⟩:=qF.mp hb
 exact h fx H0 env σ H hE c e _ λH' s=>q H' s
noncomputable def asB:PyData->Option Bool|.bool b=>some b|_=>none
noncomputable def eAnd(a b:EF):EF:=λenv=>(a env).bind λx=>(asB x.d).bind λc=>if c=true then b env else some ⟨.bool false,false,[]⟩
noncomputable def eNot(a:EF):EF:=λenv=>(a env).bind λx=>(asB x.d).map λc=>⟨.bool (!c),false,[]⟩
theorem as_b{H:Hp}{d:PyData}{v:V}{c:Bool}(h:Rp H d v)(e:asB d=some c):v=.bl c:=by
 cases d<;>first
  | (cases e;exact zjl h)
  | cases e
theorem zafh{ta tb:TE}{fa fb:EF}(ha:SE ta fa)(hb:SE tb fb):SE (tAndV ta tb) (eAnd fa fb):=by
 intro fx H0 env σ H h rr hr Q q
 unfold eAnd at hr
 obtain⟨x,ex,hr⟩:=qA.mp hr
 obtain⟨c,ec,hr⟩:=qA.mp hr
 refine ha fx H0 env σ H h _ ex _ λv H1 s1 v1=>⟨c,as_b v1.rp ec,?_⟩
 cases c with
 | true=>exact iteT (hb fx H0 env σ H1 (h.up s1) _ hr _ λu H2 s2 v2=>q u H2 (s1.trans s2) (v2.later s1 (Same.refl _) λ_ z=>z))
 | false=>cases hr;exact iteF (q _ H1 s1 ⟨zbj,λz=>by cases z⟩)
theorem zaxu{ta:TE}{fa:EF}(ha:SE ta fa):SE (tNotV ta) (eNot fa):=by
 intro fx H0 env σ H h rr hr Q q
 unfold eNot at hr
 obtain⟨x,ex,hr⟩:=qA.mp hr
 obtain⟨c,ec,rfl⟩:=qF.mp hr
 exact ha fx H0 env σ H h _ ex _ λv H1 s1 v1=>⟨c,as_b v1.rp ec,q _ H1 s1 ⟨zbj,λz=>by cases z⟩⟩
noncomputable def zacy:PyData->Bool|.none=>true|_=>false
noncomputable def eIsN(neg:Bool)(a:EF):EF:=λenv=>(a env).map λx=>⟨.bool (if neg then !zacy x.d else zacy x.d),false,[]⟩
theorem zbat{H:Hp}{d:PyData}{v:V}(h:Rp H d v):decide (v=.non)=zacy d:=by
 cases d with
 | list ds=>obtain⟨a,xs,rfl,_⟩:=zde h;rfl
 | tuple ds=>obtain⟨a,xs,rfl,_⟩:=zcx h;rfl
 | dict ds=>obtain⟨a,xs,rfl,_⟩:=znr h;rfl
 | _=>unfold Rp at h;subst h;rfl
theorem zaxv{ta:TE}{fa:EF}(ha:SE ta fa):SE (tIsN ta) (eIsN false fa):=by
 intro fx H0 env σ H h rr hr Q q
 unfold eIsN at hr
 obtain⟨x,ex,rfl⟩:=qF.mp hr
 refine ha fx H0 env σ H h _ ex _ λv H1 s1 v1=>?_
 rw[zbat v1.rp]
 exact q _ H1 s1 ⟨zbj,λz=>by cases z⟩
noncomputable def aNil:AF:=λ_=>some []
noncomputable def zaa(a:EF)(r:AF):AF:=λenv=>(a env).bind λx=>(r env).map λxs=>x::xs
theorem zah:SA tNil aNil:=by
 intro fx H0 env σ H h rs hr Q q
 cases hr
 exact q [] H (Same.refl _) .nil
theorem zab{te:TE}{ta:TA}{f:EF}{g:AF}(h1:SE te f)(h2:SA ta g):SA (tCons te ta) (zaa f g):=by
 intro fx H0 env σ H h rs hr Q q
 unfold zaa at hr
 obtain⟨x,ex,hr⟩:=qA.mp hr
 obtain⟨xs,exs,rfl⟩:=qF.mp hr
 exact h1 fx H0 env σ H h x ex _ λv H1 s1 v1=>h2 fx H0 env σ H1 (h.up s1) xs exs _ λvs H2 s2 vs2=>q (v::vs) H2 (s1.trans s2)
  (.cons (v1.later (Same.refl _) s2 λ_ z=>z) (Paired.mapP vs2 λ_ _ z=>z.later s1 (Same.refl _) λ_ y=>y))
noncomputable def zfp(rs:List Val):List PyData:=rs.map (·.d)
noncomputable def bss(rs:List Val):List Nat:=rs.flatMap (·.bs)
theorem zeq{fx:Addr->Prop}{env:DEnv}{σ:St}{H H':Hp}:∀{rs:List Val}{vs:List V}{cs:List Nat},(∀i∈bss rs,i∈cs)->Paired (λr v=>ValOk (lim fx env σ r.bs) H H' r v) rs vs->Rps (Offs (lim fx env σ cs) H') (zfp rs) vs
 | _,_,_,_,.nil=>zcv
 | r::rs,v::vs,cs,hc,.cons h t=>zdc (Rp.same (Offs.sub (zjm λi hi=>hc i (qBi.mpr ⟨r,qR,hi⟩))) _ h.rp)
   (zeq (λi hi=>hc i (by obtain⟨x,h1,h2⟩:=qBi.mp hi;exact qBi.mpr ⟨x,qL _ h1,h2⟩)) t)
noncomputable def eTup(f:AF):EF:=λenv=>(f env).bind λrs=>if rs.length<=100000 then some ⟨.tuple (zfp rs),false,bss rs⟩else none
noncomputable def eLst(f:AF):EF:=λenv=>(f env).bind λrs=>if rs.length<=100000 then some ⟨.list (zfp rs),true,bss rs⟩else none
theorem zgi(rs:List Val):(zfp rs).length=rs.length:=by unfold zfp;rw[qG]
theorem zlg{ta:TA}{f:AF}(ha:SA ta f):SE (tTup ta) (eTup f):=by
 intro fx H0 env σ H h rr hr Q q
 unfold eTup at hr
 obtain⟨rs,er,hr⟩:=qA.mp hr
 split at hr
 ·rename_i hl
  cases hr
  refine ha fx H0 env σ H h rs er _ λvs H1 s1 v1=>?_
  have r:=zeq (λi hi=>hi) v1
  have hA:=(h.up s1).lims (bss rs)
  refine⟨zfc (by rw[<- r.length,zgi];exact hl),λp hp=>q _ _ (s1.trans (Same.new hp)) ⟨znv hp (zed hA hp) r,λz=>by cases z⟩⟩
 ·cases hr
theorem zcp{ta:TA}{f:AF}(ha:SA ta f):SE (tLst ta) (eLst f):=by
 intro fx H0 env σ H h rr hr Q q
 unfold eLst at hr
 obtain⟨rs,er,hr⟩:=qA.mp hr
 split at hr
 ·rename_i hl
  cases hr
  refine ha fx H0 env σ H h rs er _ λvs H1 s1 v1=>?_
  have r:=zeq (λi hi=>hi) v1
  have hA:=(h.up s1).lims (bss rs)
  refine⟨zfc (by rw[<- r.length,zgi];exact hl),λp hp=>q _ _ (s1.trans (Same.new hp)) ⟨zuo hp (zed hA hp) r,λ_=>⟨p,rfl,s1.free hp,znu hp r⟩⟩⟩
 ·cases hr
noncomputable def zatj:EF:=λ_=>some ⟨.dict [],true,[]⟩
theorem zakb:SE tDNewK zatj:=by
 intro fx H0 env σ H h rr hr Q q
 cases hr
 intro p hp
 have hA:=h.lims []
 exact q _ _ (Same.new hp) ⟨zkw (by rw[Offs.get (zed hA hp)];exact zar) zii,λ_=>⟨p,rfl,hp,⟨[],zar,zii⟩⟩⟩
noncomputable def eD1(k v:EF):EF:=λenv=>(k env).bind λx=>(v env).bind λy=>(keyD x.d).bind λ_=>some ⟨.dict [(x.d,y.d)],true,y.bs⟩
theorem zbau{tk tv:TE}{f g:EF}(h1:SE tk f)(h2:SE tv g):SE (tDisp [(tk,tv)]) (eD1 f g):=by
 intro fx H0 env σ H h rr hr Q q
 unfold eD1 at hr
 obtain⟨x,ex,hr⟩:=qA.mp hr
 obtain⟨y,ey,hr⟩:=qA.mp hr
 obtain⟨k,ek,hr⟩:=qA.mp hr
 cases hr
 intro p hp
 have hp0:Same H (upd H p (.dK [])):=Same.new hp
 have npf:¬fx p:=zed h.fxs hp
 have hE:EnvOk (λb=>fx b\/b=p) H0 env σ (upd H p (.dK [])):=h.grow hp0 (λb o e n z=>z.elim n λy=>by rw[y,hp]at e;cases e) λb z=>by
  rcases z with z|z
  ·obtain⟨o,e⟩:=h.fxs b z;exact⟨o,hp0 b o e⟩
  ·rw[z];exact⟨_,zar⟩
 refine h1 _ H0 env σ _ hE x ex _ λv H1 s1 v1=>h2 _ H0 env σ H1 (hE.up s1) y ey _ λu H2 s2 v2=>?_
 have ep:H2 p=some (.dK []):=(s1.trans s2) _ _ zar
 refine⟨ep,[(k,u)],by rw[zaoj v1.rp ek];rfl,(by show 1<=15;decide),?_⟩
 have em:zhc [] [(k,u)]=[(k,u)]:=rfl
 rw[em]
 have rp2:Rp (Offs (λb=>lim fx env σ y.bs b\/b=p) (upd H2 p (.dK [(k,u)]))) y.d u:=by
  rw[Offs.upd (.inr rfl)]
  exact Rp.same (Offs.sub λb z=>by
   rcases z with(z|z)|z
   ·exact .inl (.inl z)
   ·exact .inr z
   ·exact .inl (.inr z)) _ v2.rp
 have hs:Same H (upd H2 p (.dK [(k,u)])):=λb o e=>by
  rw[zat (zbe e hp)]
  exact s2 _ _ (s1 _ _ (hp0 _ _ e))
 have hnp:¬lim fx env σ y.bs p:=zed (h.lims y.bs) hp
 refine q _ _ hs ⟨zkw (by rw[Offs.get hnp];exact zar) (zij ek (Rp.same (Offs.sub λb z=>.inl z) _ rp2) zii),λ_=>⟨p,rfl,hp,⟨_,zar,zij ek rp2 zii⟩⟩⟩
noncomputable abbrev GF:=List PyData->Option (PyData×Bool)
noncomputable def SC(r:List V->Hp->VK->Prop)(g:GF):Prop:=∀(A:Addr->Prop)(H:Hp)(vs:List V)(ds:List PyData),(∀b,A b->∃o,H b=some o)->Rps (Offs A H) ds vs->∀d fr,g ds=some (d,fr)->∀Q:VK,
 (∀v H',Same H H'->Rp (Offs A H') d v->(fr=true->∃a,v=.ref a/\H a=none/\zfs (Offs (λb=>A b\/b=a) H') H' a d)->Q v H')->r vs H Q
noncomputable def eCB(g:GF)(f:AF):EF:=λenv=>(f env).bind λrs=>(g (zfp rs)).bind λz=>some ⟨z.1,z.2,bsOf z.1 (bss rs)⟩
theorem zen{r:List V->Hp->VK->Prop}{g:GF}{ta:TA}{f:AF}(hc:SC r g)(ha:SA ta f):SE (tCB r ta) (eCB g f):=by
 intro fx H0 env σ H h rr hr Q q
 unfold eCB at hr
 obtain⟨rs,er,hr⟩:=qA.mp hr
 obtain⟨⟨d,fr⟩,ez,hr⟩:=qA.mp hr
 cases hr
 refine ha fx H0 env σ H h rs er _ λvs H1 s1 v1=>hc (lim fx env σ (bss rs)) H1 vs (zfp rs) ((h.up s1).lims _) (zeq (λi hi=>hi) v1) d fr ez _ λw H3 s3 rp fr3=>q w H3 (s1.trans s3) ⟨zjn rp,λe=>?_⟩
 obtain⟨a,g1,g2,g3⟩:=fr3 e
 refine⟨a,g1,s1.free g2,?_⟩
 have nf:zgp d=false:=by cases d<;>first|rfl|exact g3.elim
 show zfs (Offs (λb=>lim fx env σ (bsOf d (bss rs)) b\/b=a) H3) H3 a d
 rw[show bsOf d (bss rs)=bss rs by unfold bsOf;rw[if_neg (by rw[nf];decide)]]
 exact g3
theorem rps1{H:Hp}{d:PyData}{vs:List V}(h:Rps H [d] vs):∃v,vs=[v]/\Rp H d v:=by
 unfold Rps at h
 obtain⟨v,ws,rfl,h1,h2⟩:=h
 unfold Rps at h2
 subst h2
 exact⟨v,rfl,h1⟩
theorem rps2{H:Hp}{d e:PyData}{vs:List V}(h:Rps H [d,e] vs):∃v u,vs=[v,u]/\Rp H d v/\Rp H e u:=by
 unfold Rps at h
 obtain⟨v,ws,rfl,h1,h2⟩:=h
 obtain⟨u,rfl,h3⟩:=rps1 h2
 exact⟨v,u,rfl,h1,h3⟩
noncomputable def lenD:GF
 | [.str x]=>if x.length<=100000 then some (.int x.length,false)else none
 | [.list ds]=>some (.int ds.length,false)
 | [.tuple ds]=>some (.int ds.length,false)
 | _=>none
theorem zhq{K:qC}:SC (λxs H Q=>∃x n,xs=[x]/\LenV K x H n/\Q (.int n) H) lenD:=by
 intro A H vs ds hA rv d fr e Q q
 unfold lenD at e
 split at e
 ·split at e
  ·rename_i hl
   cases e
   obtain⟨v,rfl,r⟩:=rps1 rv
   cases zle r
   exact⟨_,_,rfl,⟨zfc hl,rfl⟩,q _ H (Same.refl _) zad (λz=>by cases z)⟩
  ·cases e
 ·cases e
  obtain⟨v,rfl,r⟩:=rps1 rv
  obtain⟨a,xs,rfl,h1,h2⟩:=zde r
  exact⟨_,_,rfl,.inl ⟨xs,SqL.of (zco h1),rfl⟩,by rw[<- h2.length];exact q _ H (Same.refl _) zad (λz=>by cases z)⟩
 ·cases e
  obtain⟨v,rfl,r⟩:=rps1 rv
  obtain⟨a,xs,rfl,h1,h2⟩:=zcx r
  exact⟨_,_,rfl,.inr ⟨xs,SqT.of (zco h1),rfl⟩,by rw[<- h2.length];exact q _ H (Same.refl _) zad (λz=>by cases z)⟩
 ·cases e
noncomputable def minD:GF
 | [.int i,.int j]=>some (.int (if j<i then j else i),false)
 | _=>none
theorem zaxw:SC (λxs H Q=>∃i j,xs=[.int i,.int j]/\Q (.int (if j<i then j else i)) H) minD:=by
 intro A H vs ds hA rv d fr e Q q
 unfold minD at e
 split at e
 ·cases e
  obtain⟨v,u,rfl,r1,r2⟩:=rps2 rv
  cases zdf r1;cases zdf r2
  exact⟨_,_,rfl,q _ H (Same.refl _) zad (λz=>by cases z)⟩
 ·cases e
noncomputable def zlv:GF
 | [c]=>(zfd c).map λds=>(.list ds,true)
 | _=>none
theorem zlw{K:qC}:SC (λxs H Q=>∃p ys,xs=[.ref p]/\(SqL K H p ys\/SqT K H p ys)/\∀l,H l=none->Q (.ref l) (upd H l (.lst ys))) zlv:=by
 intro A H vs ds hA rv d fr e Q q
 unfold zlv at e
 split at e
 ·obtain⟨es,he,e⟩:=qF.mp e
  cases e
  obtain⟨v,rfl,r1⟩:=rps1 rv
  obtain⟨p,xs,rfl,hq,r⟩:=zafg (K:=K) r1 he
  refine⟨p,xs,rfl,hq.imp (Offs.same A H).seq (SqT.same (Offs.same A H)),λl hl=>?_⟩
  exact q _ _ (Same.new hl) (zuo hl (zed hA hl) r) λ_=>⟨l,rfl,hl,znu hl r⟩
 ·cases e
noncomputable def zlh:GF
 | [c]=>(zfd c).map λds=>(.tuple ds,false)
 | _=>none
theorem zqz{K:qC}:SC (λxs H Q=>∃p ys,xs=[.ref p]/\((SqL K H p ys/\∀l,H l=none->Q (.ref l) (upd H l (.tup ys)))\/(SqT K H p ys/\Q (.ref p) H))) zlh:=by
 intro A H vs ds hA rv d fr e Q q
 unfold zlh at e
 split at e
 ·obtain⟨es,he,e⟩:=qF.mp e
  cases e
  obtain⟨v,rfl,r1⟩:=rps1 rv
  rename_i c
  cases c with
  | list ds=>
   cases he
   obtain⟨p,xs,rfl,h1,r⟩:=zde r1
   exact⟨p,xs,rfl,.inl ⟨SqL.of (zco h1),λl hl=>q _ _ (Same.new hl) (znv hl (zed hA hl) r) (λz=>by cases z)⟩⟩
  | tuple ds=>
   cases he
   obtain⟨p,xs,rfl,h1,r⟩:=zcx r1
   exact⟨p,xs,rfl,.inr ⟨SqT.of (zco h1),q _ H (Same.refl _) r1 (λz=>by cases z)⟩⟩
  | _=>cases he
 ·cases e
noncomputable def zpd:List PyData->Option (List Bool)
 | []=>some []
 | .bool b::r=>(zpd r).map λbs=>b::bs
 | _=>none
theorem zzo{H:Hp}:∀{ds:List PyData}{vs:List V}{bs:List Bool},Rps H ds vs->zpd ds=some bs->vs=bs.map V.bl
 | [],vs,bs,h,e=>by unfold Rps at h;cases e;exact h
 | d::ds,vs,bs,h,e=>by
  unfold Rps at h
  obtain⟨v,ws,rfl,h1,h2⟩:=h
  cases d with
  | bool b=>
   obtain⟨cs,ec,rfl⟩:=qF.mp e
   rw[zjl h1,zzo h2 ec];rfl
  | _=>cases e
noncomputable def anyD(f:List Bool->Bool):GF
 | [.list ds]=>(zpd ds).map λbs=>(.bool (f bs),false)
 | _=>none
theorem zzp{K:qC}{f:List Bool->Bool}:SC (rAny K f) (anyD f):=by
 intro A H vs ds hA rv d fr e Q q
 unfold anyD at e
 split at e
 ·obtain⟨bs,he,e⟩:=qF.mp e
  cases e
  obtain⟨v,rfl,r1⟩:=rps1 rv
  obtain⟨p,xs,rfl,h1,r⟩:=zde r1
  cases zzo r he
  exact⟨p,bs,rfl,SqL.of (zco h1),q _ H (Same.refl _) zbj (λz=>by cases z)⟩
 ·cases e
noncomputable def zml:PyData->String
 | .none=>"NoneType"|.bool _=>"bool"|.int _=>"int"|.str _=>"str"|.list _=>"list"|.tuple _=>"tuple"|.dict _=>"dict"
theorem zbav{K:qC}{H:Hp}{d:PyData}{v:V}(h:Rp H d v):TyOf K H v (.type (zml d)):=by
 cases d with
 | list ds=>obtain⟨a,xs,rfl,h1,_⟩:=zde h;exact .lst h1
 | tuple ds=>obtain⟨a,xs,rfl,h1,_⟩:=zcx h;exact .tup h1
 | dict ds=>obtain⟨a,xs,rfl,h1,_⟩:=znr h;exact .dK h1
 | none=>cases zaju h;exact .non
 | bool b=>cases zjl h;exact .bl _
 | int b=>cases zdf h;exact .int _
 | str b=>cases zle h;exact .str _
noncomputable def isiB(n:String)(d:PyData):Bool:=zml d==n||(zml d=="bool"&&n=="int")
noncomputable def eIsi(n:String)(a:EF):EF:=λenv=>(a env).map λx=>⟨.bool (isiB n x.d),false,[]⟩
theorem zmm{K:qC}{n:String}{te:TE}{f:EF}(h1:SE te f)(hk:∀d,PySem.W.kitOne K (.type (zml d)) (.type n)=some (isiB n d)) :
  SE (tCB (λxs H Q=>∃x n t b,xs=[x,.ty n]/\TyOf K H x t/\PySem.W.kitOne K t (.type n)=some b/\Q (.bl b) H) (tCons te (tCons (tC (.ty n)) tNil))) (eIsi n f):=by
 intro fx H0 env σ H h rr hr Q q
 unfold eIsi at hr
 obtain⟨x,ex,rfl⟩:=qF.mp hr
 refine h1 fx H0 env σ H h _ ex _ λv H1 s1 v1=>?_
 exact⟨v,n,_,_,rfl,zbav (Rp.same (Offs.same _ _) _ v1.rp),hk _,q _ H1 s1 ⟨zbj,λz=>by cases z⟩⟩
theorem zafi{K:qC}:∀d,PySem.W.kitOne K (.type (zml d)) (.type "list")=some (isiB "list" d):=by intro d;cases d<;>rfl
theorem zrt{K:qC}:∀d,PySem.W.kitOne K (.type (zml d)) (.type "tuple")=some (isiB "tuple" d):=by intro d;cases d<;>rfl
theorem zakc{K:qC}:∀d,PySem.W.kitOne K (.type (zml d)) (.type "str")=some (isiB "str" d):=by intro d;cases d<;>rfl
theorem zatk{K:qC}:∀d,PySem.W.kitOne K (.type (zml d)) (.type "int")=some (isiB "int" d):=by intro d;cases d<;>rfl
theorem zaok{K:qC}:∀d,PySem.W.kitOne K (.type (zml d)) (.type "bool")=some (isiB "bool" d):=by intro d;cases d<;>rfl
noncomputable abbrev PF':=DEnv->Option (Option Int)
noncomputable def SPt(t:TO)(f:PF'):Prop:=∀(fx:Addr->Prop)(H0:Hp)(env:DEnv)(σ:St)(H:Hp),EnvOk fx H0 env σ H->∀r,f env=some r->∀Q:Option Int->Hp->Prop,(∀H',Same H H'->Q r H')->t σ H Q
noncomputable def zagv:PF':=λ_=>some none
noncomputable def zqi(a:EF):PF':=λenv=>(a env).bind λx=>match x.d with|.int i=>some (some i)|_=>none
theorem zakd:SPt tNoPart zagv:=by
 intro fx H0 env σ H h r hr Q q
 cases hr
 exact q H (Same.refl _)
theorem zws{te:TE}{f:EF}(h1:SE te f):SPt (tPart te) (zqi f):=by
 intro fx H0 env σ H h r hr Q q
 unfold zqi at hr
 obtain⟨⟨d,fr,bs⟩,ex,hr⟩:=qA.mp hr
 cases d with
 | int i=>
  cases hr
  exact h1 fx H0 env σ H h _ ex _ λv H1 s1 v1=>⟨i,zdf v1.rp,q H1 s1⟩
 | _=>cases hr
noncomputable def cutD(xs:List PyData)(lo hi:Option Int):List PyData:=(xs.drop (HT.sIx xs.length 0 lo)).take (HT.sIx xs.length xs.length hi - HT.sIx xs.length 0 lo)
theorem Rps.drop{H:Hp}{ds:List PyData}{vs:List V}(h:Rps H ds vs)(n:Nat):Rps H (ds.drop n) (vs.drop n):=by
 induction n generalizing ds vs with
 | zero=>exact h
 | succ n ih=>
  cases ds with
  | nil=>unfold Rps at h;subst h;exact zcv
  | cons d ds=>unfold Rps at h;obtain⟨v,ws,rfl,h1,h2⟩:=h;exact ih h2
theorem Rps.take{H:Hp}{ds:List PyData}{vs:List V}(h:Rps H ds vs)(n:Nat):Rps H (ds.take n) (vs.take n):=by
 induction n generalizing ds vs with
 | zero=>exact zcv
 | succ n ih=>
  cases ds with
  | nil=>unfold Rps at h;subst h;exact zcv
  | cons d ds=>unfold Rps at h;obtain⟨v,ws,rfl,h1,h2⟩:=h;exact zdc h1 (ih h2)
theorem Rps.cut{H:Hp}{ds:List PyData}{vs:List V}(h:Rps H ds vs)(lo hi:Option Int):Rps H (cutD ds lo hi) (cutV vs lo hi):=by
 unfold cutD cutV
 rw[<- h.length]
 exact(h.drop _).take _
noncomputable def slD(d:PyData)(lo hi:Option Int):Option (PyData×Bool):=match d with
 | .str z=>if z.length<=100000 then some (.str (Txt.slice z lo hi),false)else none
 | .list ds=>some (.list (cutD ds lo hi),true)
 | _=>none
noncomputable def eSl(a:EF)(l h:PF'):EF:=λenv=>(a env).bind λx=>(l env).bind λlo=>(h env).bind λhi=>(slD x.d lo hi).bind λz=>some ⟨z.1,z.2,bsOf z.1 x.bs⟩
theorem zatl{K:qC}{te:TE}{tl th:TO}{f:EF}{fl fh:PF'}(h1:SE te f)(h2:SPt tl fl)(h3:SPt th fh):SE (tSl (rSlU K) te tl th) (eSl f fl fh):=by
 intro fx H0 env σ H h rr hr Q q
 unfold eSl at hr
 obtain⟨⟨d,frd,bs⟩,ex,hr⟩:=qA.mp hr
 obtain⟨lo,el,hr⟩:=qA.mp hr
 obtain⟨hi,eh,hr⟩:=qA.mp hr
 obtain⟨⟨d',fr'⟩,ez,hr⟩:=qA.mp hr
 cases hr
 refine h1 fx H0 env σ H h _ ex _ λv H1 s1 v1=>h2 fx H0 env σ H1 (h.up s1) _ el _ λH2 s2=>h3 fx H0 env σ H2 (h.up (s1.trans s2)) _ eh _ λH3 s3=>?_
 have v3:=(v1.later (Same.refl _) (s2.trans s3) λ_ z=>z).rp
 have t3:=(s1.trans s2).trans s3
 cases d with
 | str z=>
  have ez:(if z.length<=100000 then some (PyData.str (Txt.slice z lo hi),false)else none)=some (d',fr'):=ez
  split at ez
  ·rename_i hl
   cases ez
   cases zle v3
   exact⟨zfc hl,q _ H3 t3 ⟨zcn,λz=>by cases z⟩⟩
  ·cases ez
 | list ds=>
  cases ez
  obtain⟨p,xs,rfl,hp,r⟩:=zde v3
  refine⟨p,xs,rfl,SqL.of (zco hp),λl hl=>q _ _ (t3.trans (Same.new hl)) ?_⟩
  have hA:=(h.up t3).lims bs
  exact⟨zuo hl (zed hA hl) (r.cut lo hi),λ_=>⟨l,rfl,t3.free hl,znu hl (r.cut lo hi)⟩⟩
 | _=>cases ez
noncomputable def zzq(fx:Addr->Prop)(H0:Hp)(d:PyData)(fr:Bool)(v:V)(H:Hp):Prop:=Rp (Offs fx H) d v/\(fr=true->∃a,v=.ref a/\H0 a=none/\zfs (Offs (λb=>fx b\/b=a) H) H a d)
noncomputable def spD(n:Nat)(g:GF):Sp:=λvs H Q _=>∃(fx:Addr->Prop)(ds:List PyData)(d:PyData)(fr:Bool),ds.length=n/\(∀b,fx b->∃o,H b=some o)/\Rps (Offs fx H) ds vs/\g ds=some (d,fr)/\∀v H',Same H H'->zzq fx H d fr v H'->Q v H'
noncomputable def zas(n:Nat)(g:GF)(f:AF):EF:=λenv=>(f env).bind λrs=>if rs.length=n then(g (zfp rs)).bind λz=>some ⟨z.1,z.2,bsOf z.1 (bss rs)⟩else none
theorem zaz{n:Nat}{g:GF}{ta:TA}{f:AF}(ha:SA ta f):SE (tCall (spD n g) [] E0 ta) (zas n g f):=by
 intro fx H0 env σ H h rr hr Q q
 unfold zas at hr
 obtain⟨rs,er,hr⟩:=qA.mp hr
 split at hr
 ·rename_i hn
  obtain⟨⟨d,fr⟩,ez,hr⟩:=qA.mp hr
  cases hr
  refine ha fx H0 env σ H h rs er _ λvs H1 s1 v1=>?_
  rw[qAD]
  refine⟨lim fx env σ (bss rs),zfp rs,d,fr,by rw[zgi];exact hn,(h.up s1).lims _,zeq (λi hi=>hi) v1,ez,λw H3 s3 ⟨rp,fr3⟩=>q w H3 (s1.trans s3) ⟨zjn rp,λe=>?_⟩⟩
  obtain⟨a,g1,g2,g3⟩:=fr3 e
  refine⟨a,g1,s1.free g2,?_⟩
  have nf:zgp d=false:=by cases d<;>first|rfl|exact g3.elim
  show zfs (Offs (λb=>lim fx env σ (bsOf d (bss rs)) b\/b=a) H3) H3 a d
  rw[show bsOf d (bss rs)=bss rs by unfold bsOf;rw[if_neg (by rw[nf];decide)]]
  exact g3
 ·cases hr
inductive Out where
 | nx (env:DEnv)
 | bk (env:DEnv)
 | ct (env:DEnv)
 | rt (d:PyData) (fr:Bool)
noncomputable def Sat(fx:Addr->Prop)(H0:Hp)(D:Ends):Out->Prop
 | .nx env=>∀σ H,EnvOk fx H0 env σ H->D.nx σ H
 | .bk env=>∀σ H,EnvOk fx H0 env σ H->D.bk σ H
 | .ct env=>∀σ H,EnvOk fx H0 env σ H->D.ct σ H
 | .rt d fr=>∀v H,Same H0 H->zzq fx H0 d fr v H->D.rt v H
noncomputable abbrev SF:=DEnv->Option Out
noncomputable def SS(ts:TS)(F:SF):Prop:=∀(fx:Addr->Prop)(H0:Hp)(env:DEnv)(σ:St)(H:Hp)(D:Ends),EnvOk fx H0 env σ H->∀o,F env=some o->Sat fx H0 D o->ts D σ H
noncomputable def frz1(env:DEnv)(i:Nat):DEnv:=match env[i]? with
 | some (.ac d)=>env.set i (.pl d)
 | _=>env
noncomputable def frzs(env:DEnv)(bs:List Nat):DEnv:=bs.foldl frz1 env
theorem zaol(env:DEnv)(i:Nat):(frz1 env i).length=env.length:=by
 unfold frz1;split
 ·rw[qAO]
 ·rfl
theorem zee{α:Type}{l:List α}{i j:Nat}{x y:α}(h:(l.set i x)[j]?=some y):(j=i/\y=x)\/(j≠i/\l[j]?=some y):=by
 rw[List.getElem?_set]at h
 by_cases e:i=j
 ·subst e
  rw[if_pos rfl]at h
  split at h
  ·exact .inl ⟨rfl,(qY h).symm⟩
  ·cases h
 ·rw[if_neg e]at h
  exact .inr ⟨λz=>e z.symm,h⟩
theorem znw{env:DEnv}{i j:Nat}{d:PyData}(h:(frz1 env i)[j]?=some (.ac d)):env[j]?=some (.ac d)/\j≠i:=by
 unfold frz1 at h
 split at h
 ·rcases zee h with⟨_,e⟩|⟨e,h⟩
  ·cases e
  ·exact⟨h,e⟩
 ·rename_i hn
  refine⟨h,λe=>?_⟩
  subst e
  exact hn d h
theorem zatm{env:DEnv}{i j:Nat}{d:PyData}(h:(frz1 env i)[j]?=some (.pl d)):env[j]?=some (.pl d)\/(j=i/\env[i]?=some (.ac d)):=by
 unfold frz1 at h
 split at h
 ·rename_i d' hd
  rcases zee h with⟨e1,e⟩|⟨e,h⟩
  ·cases e;exact .inr ⟨e1,hd⟩
  ·exact .inl h
 ·exact .inl h
theorem zaom{env:DEnv}{σ:St}{i:Nat}:∀a,own (frz1 env i) σ a->own env σ a:=by
 rintro a ⟨j,d,h1,h2⟩
 exact⟨j,d,(znw h1).1,h2⟩
theorem EnvOk.frz1{fx:Addr->Prop}{H0:Hp}{env:DEnv}{σ:St}{H:Hp}(h:EnvOk fx H0 env σ H)(i:Nat):EnvOk fx H0 (frz1 env i) σ H:=by
 have so:Same (Offs (λa=>fx a\/own env σ a) H) (Offs (λa=>fx a\/own (L2.frz1 env i) σ a) H):=Offs.sub λb z=>z.imp (λy=>y) (zaom b)
 refine⟨by rw[zaol];exact h.len,λj d e=>?_,λj d e=>?_,λj k d d' a h1 h2 h3 h4=>h.inj j k d d' a (znw h1).1 (znw h2).1 h3 h4,h.base,h.fxs⟩
 ·rcases zatm e with e|⟨rfl,e⟩
  ·obtain⟨v,h1,h2⟩:=h.pl j d e
   exact⟨v,h1,Rp.same so _ h2⟩
  ·obtain⟨a,h1,h2,h3,h4⟩:=h.ac j d e
   refine⟨_,h1,h4.rp so λo eo=>?_⟩
   rw[Offs.get]
   ·exact eo
   ·rintro(z|⟨k,d',z1,z2⟩)
    ·exact h3 z
    ·obtain⟨z1,z3⟩:=znw z1
     exact z3 (h.inj k j d' d a z1 e z2 h1)
 ·obtain⟨a,h1,h2,h3,h4⟩:=h.ac j d (znw e).1
  exact⟨a,h1,h2,h3,h4.same so λo z=>z⟩
theorem EnvOk.frzs{fx:Addr->Prop}{H0:Hp}{σ:St}{H:Hp}:∀(bs:List Nat){env:DEnv},EnvOk fx H0 env σ H->EnvOk fx H0 (frzs env bs) σ H
 | [],_,h=>h
 | i::bs,_,h=>EnvOk.frzs bs (h.frz1 i)
theorem zake:∀{bs:List Nat}{env:DEnv}{j:Nat}{d:PyData},(frzs env bs)[j]?=some (.ac d)->env[j]?=some (.ac d)/\j∉bs
 | [],_,_,_,h=>⟨h,by simp⟩
 | i::bs,env,j,d,h=>by
  obtain⟨h1,h2⟩:=zake (bs:=bs) h
  obtain⟨h3,h4⟩:=znw h1
  exact⟨h3,by simp[h4,h2]⟩
theorem zfe{fx:Addr->Prop}{env:DEnv}{σ:St}{bs:List Nat}:∀a,fx a\/own (frzs env bs) σ a->lim fx env σ bs a:=by
 rintro a (z|⟨i,d,h1,h2⟩)
 ·exact .inl z
 ·obtain⟨h3,h4⟩:=zake h1
  exact .inr ⟨i,d,h4,h3,h2⟩
theorem zacz{env:DEnv}{σ:St}{i:Nat}{d:PyData}{v:V}:∀a,own (env.set i (.pl d)) (σ.set i (some v)) a->own env σ a:=by
 rintro a ⟨j,e,h1,h2⟩
 rcases zee h1 with⟨_,z⟩|⟨ne,h1⟩
 ·cases z
 ·rcases zee h2 with⟨z,_⟩|⟨_,h2⟩
  ·exact absurd z ne
  ·exact⟨j,e,h1,h2⟩
theorem EnvOk.setPl{fx:Addr->Prop}{H0:Hp}{env:DEnv}{σ:St}{H:Hp}(h:EnvOk fx H0 env σ H)(i:Nat){d:PyData}{v:V}(r:Rp (Offs (λa=>fx a\/own env σ a) H) d v):EnvOk fx H0 (env.set i (.pl d)) (σ.set i (some v)) H:=by
 have so:Same (Offs (λa=>fx a\/own env σ a) H) (Offs (λa=>fx a\/own (env.set i (.pl d)) (σ.set i (some v)) a) H):=Offs.sub λb z=>z.imp (λy=>y) (zacz b)
 have kept:∀{j:Nat},j≠i->(σ.set i (some v))[j]?=σ[j]?:=λ{j} n=>qd λz=>n z.symm
 refine⟨by rw[qAO,qAO];exact h.len,λj e hj=>?_,λj e hj=>?_,λj k d1 d2 a h1 h2 h3 h4=>?_,h.base,h.fxs⟩
 ·rcases zee hj with⟨rfl,z⟩|⟨ne,hj'⟩
  ·cases z
   have hl:j<env.length:=by have:=(qM.mp hj).1;rwa [qAO]at this
   exact⟨v,by rw[qAT (by rw[<- h.len];exact hl)],Rp.same so _ r⟩
  ·obtain⟨u,h1,h2⟩:=h.pl j e hj'
   exact⟨u,by rw[kept ne];exact h1,Rp.same so _ h2⟩
 ·rcases zee hj with⟨_,z⟩|⟨ne,hj'⟩
  ·cases z
  ·obtain⟨a,h1,h2,h3,h4⟩:=h.ac j e hj'
   exact⟨a,by rw[kept ne];exact h1,h2,h3,h4.same so λo z=>z⟩
 ·rcases zee h1 with⟨_,z⟩|⟨n1,h1⟩
  ·cases z
  rcases zee h2 with⟨_,z⟩|⟨n2,h2⟩
  ·cases z
  rw[kept n1]at h3
  rw[kept n2]at h4
  exact h.inj j k d1 d2 a h1 h2 h3 h4
theorem EnvOk.setAc {fx:Addr->Prop} {H0:Hp} {env:DEnv} {σ:St} {H:Hp} {a:Addr} (h:EnvOk (λb=>fx b\/b=a) H0 env σ H) (i:Nat) {d:PyData} (r:zfs (Offs (λb=>(fx b\/own env σ b)\/b=a) H) H a d) (h0:H0 a=none) (hf:¬fx a) :
  EnvOk fx H0 (env.set i (.ac d)) (σ.set i (some (.ref a))) H:=by
 have kept:∀{j:Nat},j≠i->(σ.set i (some (V.ref a)))[j]?=σ[j]?:=λ{j} n=>qd λz=>n z.symm
 have sub:∀b,fx b\/own (env.set i (.ac d)) (σ.set i (some (.ref a))) b->(fx b\/b=a)\/own env σ b:=by
  rintro b (z|⟨j,e,h1,h2⟩)
  ·exact .inl (.inl z)
  ·rcases zee h1 with⟨rfl,z⟩|⟨ne,h1⟩
   ·have hl:j<env.length:=by have:=(qM.mp ‹(env.set j (.ac d))[j]?=_›).1;rwa [qAO]at this
    rw[qAT (by rw[<- h.len];exact hl)]at h2
    cases h2
    exact .inl (.inr rfl)
   ·rw[kept ne]at h2
    exact .inr ⟨j,e,h1,h2⟩
 have so:Same (Offs (λb=>(fx b\/b=a)\/own env σ b) H) (Offs (λb=>fx b\/own (env.set i (.ac d)) (σ.set i (some (.ref a))) b) H):=Offs.sub sub
 have so2:Same (Offs (λb=>(fx b\/own env σ b)\/b=a) H) (Offs (λb=>fx b\/own (env.set i (.ac d)) (σ.set i (some (.ref a))) b) H):=Offs.sub λb z=>by
  rcases sub b z with(y|y)|y
  ·exact .inl (.inl y)
  ·exact .inr y
  ·exact .inl (.inr y)
 refine⟨by rw[qAO,qAO];exact h.len,λj e hj=>?_,λj e hj=>?_,λj k d1 d2 b h1 h2 h3 h4=>?_,h.base,λb z=>h.fxs b (.inl z)⟩
 ·rcases zee hj with⟨_,z⟩|⟨ne,hj'⟩
  ·cases z
  ·obtain⟨u,h1,h2⟩:=h.pl j e hj'
   exact⟨u,by rw[kept ne];exact h1,Rp.same so _ h2⟩
 ·rcases zee hj with⟨rfl,z⟩|⟨ne,hj'⟩
  ·cases z
   have hl:j<env.length:=by have:=(qM.mp hj).1;rwa [qAO]at this
   exact⟨a,by rw[qAT (by rw[<- h.len];exact hl)],h0,hf,r.same so2 λo z=>z⟩
  ·obtain⟨b,h1,h2,h3,h4⟩:=h.ac j e hj'
   exact⟨b,by rw[kept ne];exact h1,h2,λz=>h3 (.inl z),h4.same so λo z=>z⟩
 ·rcases zee h1 with⟨e1,z1⟩|⟨n1,h1'⟩<;>rcases zee h2 with⟨e2,z2⟩|⟨n2,h2'⟩
  ·rw[e1,e2]
  ·subst e1
   have hl:j<env.length:=by have:=(qM.mp h1).1;rwa [qAO]at this
   rw[qAT (by rw[<- h.len];exact hl)]at h3
   rw[kept n2]at h4
   cases h3
   obtain⟨b,g1,g2,g3,g4⟩:=h.ac k d2 h2'
   rw[h4]at g1
   cases g1
   exact absurd (.inr rfl) g3
  ·subst e2
   have hl:k<env.length:=by have:=(qM.mp h2).1;rwa [qAO]at this
   rw[qAT (by rw[<- h.len];exact hl)]at h4
   rw[kept n1]at h3
   cases h4
   obtain⟨b,g1,g2,g3,g4⟩:=h.ac j d1 h1'
   rw[h3]at g1
   cases g1
   exact absurd (.inr rfl) g3
  ·rw[kept n1]at h3
   rw[kept n2]at h4
   exact h.inj j k d1 d2 b h1' h2' h3 h4
noncomputable def slOf(r:Val):Sl:=if r.fr=true then .ac r.d else .pl r.d
noncomputable def putV(env:DEnv)(i:Nat)(r:Val):DEnv:=(frzs env r.bs).set i (slOf r)
theorem EnvOk.put{fx:Addr->Prop}{H0:Hp}{env:DEnv}{σ:St}{H H':Hp}(h:EnvOk fx H0 env σ H)(s:Same H H'){r:Val}{v:V}(hv:ValOk (lim fx env σ r.bs) H H' r v)(i:Nat):EnvOk fx H0 (putV env i r) (σ.set i (some v)) H':=by
 unfold putV slOf
 cases e:r.fr with
 | false=>
  rw[if_neg qV]
  exact((h.up s).frzs r.bs).setPl i (Rp.same (Offs.sub zfe) _ hv.rp)
 | true=>
  rw[if_pos rfl]
  obtain⟨a,rfl,ha,hacc⟩:=hv.fr e
  have nfx:¬fx a:=zed h.fxs ha
  have g:EnvOk (λb=>fx b\/b=a) H0 env σ H':=h.grow s (λb o eo n z=>z.elim n λy=>by rw[y,ha]at eo;cases eo) λb z=>by
   rcases z with z|z
   ·obtain⟨o,eo⟩:=h.fxs b z;exact⟨o,s b o eo⟩
   ·rw[z];exact hacc.ex
  refine(g.frzs r.bs).setAc i (hacc.same (Offs.sub λb z=>?_) λo z=>z) (h.base.free ha) nfx
  rcases z with z|z
  ·exact .inl (zfe b z)
  ·exact .inr z
noncomputable def sNil:SF:=λenv=>some (.nx env)
noncomputable def sSeq(f g:SF):SF:=λenv=>(f env).bind λo=>match o with
 | .nx env'=>g env'
 | o=>some o
theorem zhd:SS tNext sNil:=by
 intro fx H0 env σ H D h o e q
 cases e
 exact q σ H h
theorem zbr{t u:TS}{f g:SF}(h1:SS t f)(h2:SS u g):SS (tSeq t u) (sSeq f g):=by
 intro fx H0 env σ H D h o e q
 unfold sSeq at e
 obtain⟨o1,e1,e⟩:=qA.mp e
 refine h1 fx H0 env σ H _ h o1 e1 ?_
 cases o1 with
 | nx env'=>exact λσ' H' h'=>h2 fx H0 env' σ' H' D h' o e q
 | bk env'=>cases e;exact q
 | ct env'=>cases e;exact q
 | rt d fr=>cases e;exact q
noncomputable def zafj:SF:=λ_=>none
theorem zafk:SS tNever zafj:=by
 intro fx H0 env σ H D h o e q
 cases e
noncomputable def zagw(f:EF):SF:=λenv=>(f env).map λ_=>.nx env
theorem zakf{te:TE}{f:EF}(h1:SE te f):SS (tDrop te) (zagw f):=by
 intro fx H0 env σ H D h o e q
 unfold zagw at e
 obtain⟨r,er,rfl⟩:=qF.mp e
 exact h1 fx H0 env σ H h r er _ λv H' s _=>q σ H' (h.up s)
noncomputable def sRet(f:EF):SF:=λenv=>(f env).map λr=>.rt r.d r.fr
theorem zcm{te:TE}{f:EF}(h1:SE te f):SS (tRet te) (sRet f):=by
 intro fx H0 env σ H D h o e q
 unfold sRet at e
 obtain⟨r,er,rfl⟩:=qF.mp e
 refine h1 fx H0 env σ H h r er _ λv H' s hv=>q v H' (h.base.trans s) ⟨Rp.same (Offs.sub λb z=>.inl z) _ hv.rp,λz=>?_⟩
 obtain⟨a,g1,g2,g3⟩:=hv.fr z
 exact⟨a,g1,h.base.free g2,g3.same (Offs.sub λb y=>y.imp .inl id) λo z=>z⟩
noncomputable def zqj(i:Nat):SF:=λenv=>match env[i]? with
 | some (.pl d)=>some (.rt d false)
 | some (.ac d)=>some (.rt d true)
 | _=>none
theorem znx{i:Nat}:SS (tRet (tVar i)) (zqj i):=by
 intro fx H0 env σ H D h o e q
 unfold zqj at e
 cases ei:env[i]? with
 | none=>rw[ei]at e;cases e
 | some sl=>
  rw[ei]at e
  cases sl with
  | no=>cases e
  | pl d=>
   cases e
   obtain⟨v,h1,h2⟩:=h.pl i d ei
   exact⟨v,h1,q v H h.base ⟨Rp.same (Offs.sub λb z=>.inl z) _ h2,λz=>by cases z⟩⟩
  | ac d=>
   cases e
   obtain⟨a,h1,h2,h3,h4⟩:=h.ac i d ei
   refine⟨_,h1,q _ H h.base ⟨h4.rp (Offs.sub λb z=>.inl z) λo eo=>by rw[Offs.get h3];exact eo,λ_=>⟨a,rfl,h2,h4.same (Offs.sub λb z=>?_) λo z=>z⟩⟩⟩
   rcases z with z|z
   ·exact .inl z
   ·rw[z];exact .inr ⟨i,d,ei,h1⟩
noncomputable def sIf(c:TF)(f g:SF):SF:=λenv=>(c env).bind λb=>if b=true then f env else g env
theorem zmn{tc:TT}{t u:TS}{c:TF}{f g:SF}(hc:ST tc c)(h1:SS t f)(h2:SS u g):SS (tIfS tc t u) (sIf c f g):=by
 intro fx H0 env σ H D h o e q
 unfold sIf at e
 obtain⟨b,eb,e⟩:=qA.mp e
 refine hc fx H0 env σ H h b eb _ λH' s=>?_
 cases b with
 | true=>exact iteT (h1 fx H0 env σ H' D (h.up s) o e q)
 | false=>exact iteF (h2 fx H0 env σ H' D (h.up s) o e q)
noncomputable def sSet(i:Nat)(f:EF):SF:=λenv=>(f env).map λr=>.nx (putV env i r)
theorem zdn{te:TE}{f:EF}{i:Nat}(h1:SE te f):SS (tAsg te (gName i)) (sSet i f):=by
 intro fx H0 env σ H D h o e q
 unfold sSet at e
 obtain⟨r,er,rfl⟩:=qF.mp e
 exact h1 fx H0 env σ H h r er _ λv H' s hv=>q _ H' (h.put s hv i)
noncomputable abbrev GT:=PyData->DEnv->Option DEnv
noncomputable def SG(g:TG)(f:GT):Prop:=∀(fx:Addr->Prop)(H0:Hp)(env:DEnv)(σ:St)(H:Hp)(d:PyData)(v:V),EnvOk fx H0 env σ H->Rp (Offs (λa=>fx a\/own env σ a) H) d v->∀env',f d env=some env'->∀Q:St->Hp->Prop,
 (∀σ',EnvOk fx H0 env' σ' H->Q σ' H)->g v σ H Q
noncomputable abbrev GTs:=List PyData->DEnv->Option DEnv
noncomputable def SGs(g:TGs)(f:GTs):Prop:=∀(fx:Addr->Prop)(H0:Hp)(env:DEnv)(σ:St)(H:Hp)(ds:List PyData)(vs:List V),EnvOk fx H0 env σ H->Rps (Offs (λa=>fx a\/own env σ a) H) ds vs->∀env',f ds env=some env'->∀Q:St->Hp->Prop,
 (∀σ',EnvOk fx H0 env' σ' H->Q σ' H)->g vs σ H Q
noncomputable def gN(i:Nat):GT:=λd env=>some (env.set i (.pl d))
theorem zbv{i:Nat}:SG (gName i) (gN i):=by
 intro fx H0 env σ H d v h r env' e Q q
 cases e
 exact q _ (h.setPl i r)
noncomputable def zft:GTs:=λds env=>match ds with|[]=>some env|_=>none
noncomputable def zba(i:Nat)(g:GTs):GTs:=λds env=>match ds with|d::r=>g r (env.set i (.pl d))|[]=>none
theorem zhw:SGs gNil zft:=by
 intro fx H0 env σ H ds vs h r env' e Q q
 cases ds with
 | nil=>cases e;unfold Rps at r;exact⟨r,q _ h⟩
 | cons _ _=>cases e
theorem zca{i:Nat}{t:TGs}{g:GTs}(h1:SGs t g):SGs (gCons (gName i) t) (zba i g):=by
 intro fx H0 env σ H ds vs h r env' e Q q
 cases ds with
 | nil=>cases e
 | cons d ds=>
  unfold Rps at r
  obtain⟨v,ws,rfl,r1,r2⟩:=r
  refine⟨v,ws,rfl,h1 fx H0 (env.set i (.pl d)) _ H ds ws (h.setPl i r1) (Rps.same (Offs.sub λb z=>z.imp (λy=>y) (zacz b)) _ r2) env' e Q q⟩
noncomputable def gT(n:Nat)(g:GTs):GT:=λd env=>match d with|.tuple ds=>if ds.length=n then g ds env else none|_=>none
theorem zli{K:qC}{n:Nat}{t:TGs}{g:GTs}(h1:SGs t g):SG (gTup K n t) (gT n g):=by
 intro fx H0 env σ H d v h r env' e Q q
 unfold gT at e
 cases d with
 | tuple ds=>
  have e:(if ds.length=n then g ds env else none)=some env':=e
  split at e
  ·rename_i hn
   obtain⟨a,xs,rfl,ha,rs⟩:=zcx r
   exact⟨a,xs,rfl,SqT.of (zco ha),by rw[<- rs.length];exact hn,h1 fx H0 env σ H ds xs h rs env' e Q q⟩
  ·cases e
 | _=>cases e
noncomputable def sAsg(f:EF)(g:GT):SF:=λenv=>(f env).bind λr=>(g r.d (frzs env r.bs)).map .nx
theorem zaxx{te:TE}{f:EF}{g:TG}{gf:GT}(h1:SE te f)(h2:SG g gf):SS (tAsg te g) (sAsg f gf):=by
 intro fx H0 env σ H D h o e q
 unfold sAsg at e
 obtain⟨r,er,e⟩:=qA.mp e
 obtain⟨env',e',rfl⟩:=qF.mp e
 exact h1 fx H0 env σ H h r er _ λv H' s hv=>h2 fx H0 _ σ H' r.d v ((h.up s).frzs r.bs) (Rp.same (Offs.sub zfe) _ hv.rp) env' e' _ λσ' h'=>q σ' H' h'
theorem EnvOk.mut{fx:Addr->Prop}{H0:Hp}{env:DEnv}{σ:St}{H:Hp}(h:EnvOk fx H0 env σ H){i:Nat}{d d':PyData}{a:Addr}{o:HO}(e:env[i]?=some (.ac d))(ea:σ[i]?=some (some (.ref a)))
  (r:zfs (Offs (λb=>fx b\/own env σ b) H) (upd H a o) a d'):EnvOk fx H0 (env.set i (.ac d')) σ (upd H a o):=by
 have hl:i<env.length:=(qM.mp e).1
 have oa:own env σ a:=⟨i,d,e,ea⟩
 have ow:∀b,own (env.set i (.ac d')) σ b↔own env σ b:=by
  intro b
  constructor
  ·rintro⟨j,d1,h1,h2⟩
   rcases zee h1 with⟨rfl,z⟩|⟨ne,h1⟩
   ·exact⟨j,d,e,h2⟩
   ·exact⟨j,d1,h1,h2⟩
  ·rintro⟨j,d1,h1,h2⟩
   by_cases hj:j=i
   ·subst hj;exact⟨j,d',by rw[qAT hl],h2⟩
   ·exact⟨j,d1,by rw[qd λz=>hj z.symm];exact h1,h2⟩
 have so:Same (Offs (λb=>fx b\/own env σ b) H) (Offs (λb=>fx b\/own (env.set i (.ac d')) σ b) (upd H a o)):=by
  have:Same (Offs (λb=>fx b\/own env σ b) (upd H a o)) (Offs (λb=>fx b\/own (env.set i (.ac d')) σ b) (upd H a o)):=Offs.sub λb z=>z.imp (λy=>y) (ow b).mp
  rw[Offs.upd (.inr oa)]at this
  exact this
 obtain⟨a',g1,g2,g3,g4⟩:=h.ac i d e
 rw[ea]at g1
 cases g1
 refine⟨by rw[qAO];exact h.len,λj d1 hj=>?_,λj d1 hj=>?_,λj k d1 d2 b h1 h2 h3 h4=>?_,λb u eb=>by rw[zat (zbe eb g2)];exact h.base b u eb,λb z=>?_⟩
 ·rcases zee hj with⟨_,z⟩|⟨ne,hj'⟩
  ·cases z
  ·obtain⟨u,h1,h2⟩:=h.pl j d1 hj'
   exact⟨u,h1,Rp.same so _ h2⟩
 ·rcases zee hj with⟨rfl,z⟩|⟨ne,hj'⟩
  ·cases z
   exact⟨a,ea,g2,g3,r.same so λo z=>z⟩
  ·obtain⟨b,h1,h2,h3,h4⟩:=h.ac j d1 hj'
   refine⟨b,h1,h2,h3,h4.same so λo' z=>?_⟩
   rw[zat λy=>ne (h.inj j i d1 d a hj' e (by rw[<- y];exact h1) ea)]
   exact z
 ·have f:∀{j:Nat}{d1:PyData},(env.set i (.ac d'))[j]?=some (.ac d1)->∃d2,env[j]?=some (.ac d2):=λ{j d1} hj=>by
   rcases zee hj with⟨rfl,z⟩|⟨ne,hj'⟩
   ·exact⟨d,e⟩
   ·exact⟨d1,hj'⟩
  obtain⟨e1,h1⟩:=f h1
  obtain⟨e2,h2⟩:=f h2
  exact h.inj j k e1 e2 b h1 h2 h3 h4
 ·obtain⟨u,eu⟩:=h.fxs b z
  exact⟨u,by rw[zat λy=>g3 (by rw[<- y];exact z)];exact eu⟩
noncomputable def sApp(i:Nat)(f:EF):SF:=λenv=>match env[i]? with
 | some (.ac (.list ds))=>(f env).bind λr=>if ds.length<100000/\i∉r.bs then some (.nx ((frzs env r.bs).set i (.ac (.list (ds++[r.d])))))else none
 | _=>none
theorem zik{env:DEnv}{i:Nat}{d:PyData}:∀{bs:List Nat},i∉bs->env[i]?=some (.ac d)->(frzs env bs)[i]?=some (.ac d):=by
 intro bs
 induction bs generalizing env with
 | nil=>intro _ e;exact e
 | cons j bs ih=>
  intro hn e
  have hj:i≠j:=λz=>hn (by simp[z])
  refine ih (λz=>hn (qL _ z)) ?_
  unfold frz1
  split
  ·rw[qd λz=>hj z.symm];exact e
  ·exact e
theorem zafl{K:qC}{i:Nat}{te:TE}{f:EF}(h1:SE te f):SS (tDrop (tBM K "list" zaco (tVar i) (tCons te tNil))) (sApp i f):=by
 intro fx H0 env σ H D h o e q
 unfold sApp at e
 split at e
 ·rename_i ds ei
  obtain⟨r,er,e⟩:=qA.mp e
  split at e
  ·rename_i hl
   cases e
   obtain⟨a,g1,g2,g3,g4⟩:=h.ac i _ ei
   obtain⟨xs,hx,rx⟩:=g4
   refine⟨_,g1,.inl ⟨rfl,_,SqL.of hx⟩,h1 fx H0 env σ H h r er _ λv H' s hv=>?_⟩
   have h':=(h.up s).frzs r.bs
   have ei':=zik hl.2 ei
   have hx':=s _ _ hx
   have rx':Rps (Offs (λb=>fx b\/own (frzs env r.bs) σ b) H') ds xs:=by
    obtain⟨a',z1,_,_,z4⟩:=h'.ac i _ ei'
    rw[g1]at z1
    cases z1
    obtain⟨ys,y1,y2⟩:=z4
    rw[hx']at y1
    cases y1
    exact y2
   refine⟨a,xs,v,rfl,rfl,hx',zlt (by rw[<- rx.length];exact hl.1),?_⟩
   refine q σ _ (h'.mut ei' g1 ⟨_,zar,rx'.append (zdc (Rp.same (Offs.sub zfe) _ hv.rp) zcv)⟩)
  ·cases e
 ·cases e
noncomputable def sPut(i:Nat)(fk fv:EF):SF:=λenv=>match env[i]? with
 | some (.ac (.dict kvs))=>(fv env).bind λr=>(fk env).bind λk=>(keyD k.d).bind λ_=>if kvs.length<100000/\i∉r.bs then some (.nx ((frzs env r.bs).set i (.ac (.dict (ztw kvs k.d r.d)))))else none
 | _=>none
theorem zaxy{i:Nat}{tk tv:TE}{fk fv:EF}(h1:SE tk fk)(h2:SE tv fv):SS (sDPut (tVar i) tk tv) (sPut i fk fv):=by
 intro fx H0 env σ H D h o e q
 unfold sPut at e
 split at e
 ·rename_i kvs ei
  obtain⟨r,er,e⟩:=qA.mp e
  obtain⟨k,ek,e⟩:=qA.mp e
  obtain⟨kk,ekk,e⟩:=qA.mp e
  split at e
  ·rename_i hl
   cases e
   obtain⟨a,g1,g2,g3,g4⟩:=h.ac i _ ei
   obtain⟨ps,hx,rx⟩:=g4
   refine h2 fx H0 env σ H h r er _ λv H' s hv=>⟨_,g1,h1 fx H0 env σ H' (h.up s) k ek _ λu H2 s2 hk=>?_⟩
   have t2:=s.trans s2
   have h':=(h.up t2).frzs r.bs
   have ei':=zik hl.2 ei
   have hx':=t2 _ _ hx
   have rx':Rpd (Offs (λb=>fx b\/own (frzs env r.bs) σ b) H2) kvs ps:=by
    obtain⟨a',z1,_,_,z4⟩:=h'.ac i _ ei'
    rw[g1]at z1
    cases z1
    obtain⟨ys,y1,y2⟩:=z4
    rw[hx']at y1
    cases y1
    exact y2
   rw[zaoj hk.rp ekk]
   refine⟨a,_,rfl,DPut.k hx' (zlt (by rw[<- rx.length];exact hl.1)),?_⟩
   refine q σ _ (h'.mut ei' g1 ⟨_,zar,rx'.put ekk (Rp.same (Offs.sub zfe) _ (hv.later (Same.refl _) s2 λ_ z=>z).rp)⟩)
  ·cases e
 ·cases e
noncomputable def sUpd(i:Nat)(f:EF):SF:=λenv=>match env[i]? with
 | some (.ac (.dict kvs))=>(f env).bind λr=>match r.d with
  | .dict more=>if kvs.length+more.length<=100000/\i∉r.bs then some (.nx ((frzs env r.bs).set i (.ac (.dict (zjo kvs more)))))else none
  | _=>none
 | _=>none
theorem zarg{K:qC}{i:Nat}{te:TE}{f:EF}(h1:SE te f):SS (tDrop (tBM K "dict" zajl (tVar i) (tCons te tNil))) (sUpd i f):=by
 intro fx H0 env σ H D h o e q
 unfold sUpd at e
 split at e
 ·rename_i kvs ei
  obtain⟨⟨rd,rfr,rbs⟩,er,e⟩:=qA.mp e
  cases rd with
  | dict more=>
   have e:(if kvs.length+more.length<=100000/\i∉rbs then some (Out.nx ((frzs env rbs).set i (.ac (.dict (zjo kvs more)))))else none)=some o:=e
   split at e
   ·rename_i hl
    cases e
    obtain⟨a,g1,g2,g3,g4⟩:=h.ac i _ ei
    obtain⟨ps,hx,rx⟩:=g4
    refine⟨_,g1,.inr (.inr (.inl ⟨rfl,.inl ⟨_,hx⟩⟩)),h1 fx H0 env σ H h _ er _ λv H' s hv=>?_⟩
    have h':=(h.up s).frzs rbs
    have ei':=zik hl.2 ei
    have hx':=s _ _ hx
    have rx':Rpd (Offs (λb=>fx b\/own (frzs env rbs) σ b) H') kvs ps:=by
     obtain⟨a',z1,_,_,z4⟩:=h'.ac i _ ei'
     rw[g1]at z1
     cases z1
     obtain⟨ys,y1,y2⟩:=z4
     rw[hx']at y1
     cases y1
     exact y2
    obtain⟨b,qs,rfl,hb,rb⟩:=znr (Rp.same (Offs.sub zfe) _ hv.rp)
    have hab:a≠b:=λz=>by
     subst z
     exact(Offs.of hb).1 (.inr ⟨i,_,ei',g1⟩)
    refine⟨a,b,ps,qs,rfl,rfl,hab,hx',zco hb,zfc (by rw[<- rx.length,<- rb.length];exact hl.1),?_⟩
    exact q σ _ (h'.mut ei' g1 ⟨_,zar,rx'.merge rb⟩)
   ·cases e
  | _=>cases e
 ·cases e
noncomputable def sRev(i:Nat):SF:=λenv=>match env[i]? with
 | some (.ac (.list ds))=>some (.nx (env.set i (.ac (.list ds.reverse))))
 | _=>none
theorem Rps.reverse{H:Hp}{ds:List PyData}{vs:List V}(h:Rps H ds vs):Rps H ds.reverse vs.reverse:=by
 replace h:=zci.mp h
 induction h with
 | nil=>exact zcv
 | cons h _ ih=>rw[qB0,qB0];exact ih.append (zdc h zcv)
theorem zaxz{K:qC}{i:Nat}:SS (tDrop (tBM0 K "list" zaex (tVar i))) (sRev i):=by
 intro fx H0 env σ H D h o e q
 unfold sRev at e
 split at e
 ·rename_i ds ei
  cases e
  obtain⟨a,g1,g2,g3,g4⟩:=h.ac i _ ei
  obtain⟨xs,hx,rx⟩:=g4
  exact⟨_,g1,.inl ⟨rfl,_,SqL.of hx⟩,a,xs,rfl,rfl,hx,q σ _ (h.mut ei g1 ⟨_,zar,rx.reverse⟩)⟩
 ·cases e
theorem EnvOk.rebase{fx:Addr->Prop}{H0:Hp}{env:DEnv}{σ:St}{H:Hp}(h:EnvOk fx H0 env σ H):EnvOk fx (Offs (own env σ) H) env σ H:=by
 refine⟨h.len,h.pl,λi d e=>?_,h.inj,Offs.same _ _,h.fxs⟩
 obtain⟨a,h1,h2,h3,h4⟩:=h.ac i d e
 exact⟨a,h1,Offs.out ⟨i,d,e,h1⟩,h3,h4⟩
theorem EnvOk.floor{fx:Addr->Prop}{H0:Hp}{env:DEnv}{σ:St}{H:Hp}(h:EnvOk fx H0 env σ H):Same H0 (Offs (own env σ) H):=λb o e=>by
 rw[Offs.get]
 ·exact h.base b o e
 ·rintro⟨i,d,h1,h2⟩
  obtain⟨a,g1,g2,_⟩:=h.ac i d h1
  rw[h2]at g1
  cases g1
  rw[g2]at e
  cases e
theorem EnvOk.unbase{fx:Addr->Prop}{H0 F:Hp}{env:DEnv}{σ:St}{H:Hp}(h:EnvOk fx F env σ H)(s:Same H0 F):EnvOk fx H0 env σ H:=by
 refine⟨h.len,h.pl,λi d e=>?_,h.inj,s.trans h.base,h.fxs⟩
 obtain⟨a,h1,h2,h3,h4⟩:=h.ac i d e
 exact⟨a,h1,s.free h2,h3,h4⟩
theorem zzq.unbase{fx:Addr->Prop}{H0 F:Hp}{d:PyData}{fr:Bool}{v:V}{H:Hp}(h:zzq fx F d fr v H)(s:Same H0 F):zzq fx H0 d fr v H:=
 ⟨h.1,λe=>let⟨a,h1,h2,h3⟩:=h.2 e;⟨a,h1,s.free h2,h3⟩⟩
theorem EnvOk.seen{fx:Addr->Prop}{env env':DEnv}{σ σ':St}{H H':Hp}(h:EnvOk fx (Offs (own env σ) H) env' σ' H'):Same (Offs (λb=>fx b\/own env σ b) H) (Offs (λb=>fx b\/own env' σ' b) H'):=λb o e=>by
 obtain⟨h1,h2⟩:=Offs.of e
 have hF:Offs (own env σ) H b=some o:=by rw[Offs.get λz=>h1 (.inr z)];exact h2
 rw[Offs.get]
 ·exact h.base b o hF
 ·rintro(z|⟨i,d,g1,g2⟩)
  ·exact h1 (.inl z)
  ·obtain⟨a,k1,k2,_⟩:=h.ac i d g1
   rw[g2]at k1
   cases k1
   rw[k2]at hF
   cases hF
theorem EnvOk.all{fx:Addr->Prop}{H0:Hp}{env:DEnv}{σ:St}{H:Hp}(h:EnvOk fx H0 env σ H):∀b,fx b\/own env σ b->∃o,H b=some o:=λb z=>h.lims [] b (znt b z)
noncomputable def Yl(A0:Addr->Prop)(H1:Hp)(J:It)(ds:List PyData):Prop:=∀(A:Addr->Prop)(H':Hp),(∀b,A b->∃o,H' b=some o)->Same (Offs A0 H1) (Offs A H')->
 (∀i d,ds[i]?=some d->J.go i H'/\∀x H'',J.yld i H' x H''->Same H' H''/\Rp (Offs A H'') d x)/\J.stop ds.length H'
noncomputable abbrev IF':=DEnv->Option (List PyData×List Nat)
noncomputable def SI(wi:TI)(f:IF'):Prop:=∀(fx:Addr->Prop)(H0:Hp)(env:DEnv)(σ:St)(H:Hp),EnvOk fx H0 env σ H->∀ds bs,f env=some (ds,bs)->∀R:It->Hp->Prop,
 (∀J H1,Same H H1->Yl (λb=>fx b\/own (frzs env bs) σ b) H1 J ds->R J H1)->wi σ H R
noncomputable def iSeq(K:qC)(te:TE):TI:=λσ H R=>te σ H λx H1=>∃a,x=.ref a/\((∃xs,SqL K H1 a xs)/\R (Itl K a) H1\/(∃xs,SqT K H1 a xs)/\R (Itt K a) H1)
theorem zaya{X:Cx}{tg l:Expr}{tl:TE}(hl:PE X l tl):PI X tg l (iSeq X.K tl):=by
 intro pins s σ H R I h
 refine thn (hl pins s σ H _ I h) λv s1 ⟨x,H1,I1,r1,q1⟩=>?_
 obtain⟨a,e,q⟩:=q1
 subst e
 cases r1
 rcases q with⟨⟨xs,hq⟩,q⟩|⟨⟨xs,hq⟩,q⟩
 ·obtain⟨its,rv,p,hz⟩:=I1.list hq
  refine qAx p.isList ?_
  refine⟨s1.heap.objs.size,[s1.heap.objs.size],_,_,H1,rfl,I1.kept (t':=s1.toks) λb o e=>qE _ e,zais a _,⟨_,qW _ rfl,rfl,rfl⟩,λb hb=>?_,q⟩
  have e:b=s1.heap.objs.size:=by simpa using hb
  subst e
  exact I1.fpOk (qN _) (I1.hok.fresh (qN _))
 ·obtain⟨its,rv,p,hz⟩:=I1.tuple hq
  refine qAg (show s1.heap.IsTuple a its.toArray from p) ?_
  refine⟨s1.heap.objs.size,[s1.heap.objs.size],_,_,H1,rfl,I1.kept (t':=s1.toks) λb o e=>qE _ e,zagl a _,⟨_,qW _ rfl,rfl,rfl⟩,λb hb=>?_,q⟩
  have e:b=s1.heap.objs.size:=by simpa using hb
  subst e
  exact I1.fpOk (qN _) (I1.hok.fresh (qN _))
theorem zatn{X:Cx}{K:qC}(hK:X.K=K){tg l:Expr}{tl:TE}(hl:PE X l tl):PI X tg l (iSeq K tl):=by subst hK;exact zaya hl
noncomputable def zap(f:EF):IF':=λenv=>(f env).bind λr=>(zfd r.d).map λds=>(ds,r.bs)
theorem zato{K:qC}{A0:Addr->Prop}{H1:Hp}{a:Addr}{ds:List PyData}{xs:List V}(h:Offs A0 H1 a=some (.lst xs))(r:Rps (Offs A0 H1) ds xs):Yl A0 H1 (Itl K a) ds:=by
 intro A H' hA s
 have ha:=zco (s _ _ h)
 have r':=Rps.same s _ r
 refine⟨λi d e=>?_,⟨xs,SqL.of ha,by rw[r.length];exact qN _⟩⟩
 obtain⟨v,hv,rv⟩:=r'.get2 e
 refine⟨⟨xs,v,SqL.of ha,hv⟩,λx H'' y=>?_⟩
 obtain⟨rfl,y⟩:=y
 have:=y xs (SqL.of ha)
 rw[hv]at this
 cases this
 exact⟨Same.refl _,rv⟩
theorem zayb{K:qC}{A0:Addr->Prop}{H1:Hp}{a:Addr}{ds:List PyData}{xs:List V}(h:Offs A0 H1 a=some (.tup xs))(r:Rps (Offs A0 H1) ds xs):Yl A0 H1 (Itt K a) ds:=by
 intro A H' hA s
 have ha:=zco (s _ _ h)
 have r':=Rps.same s _ r
 refine⟨λi d e=>?_,⟨xs,SqT.of ha,by rw[r.length];exact qN _⟩⟩
 obtain⟨v,hv,rv⟩:=r'.get2 e
 refine⟨⟨xs,v,SqT.of ha,hv⟩,λx H'' y=>?_⟩
 obtain⟨rfl,y⟩:=y
 have:=y xs (SqT.of ha)
 rw[hv]at this
 cases this
 exact⟨Same.refl _,rv⟩
theorem zcu{K:qC}{te:TE}{f:EF}(h1:SE te f):SI (iSeq K te) (zap f):=by
 intro fx H0 env σ H h ds bs e R q
 unfold zap at e
 obtain⟨⟨d,fr,bs'⟩,er,e⟩:=qA.mp e
 obtain⟨es,he,e⟩:=qF.mp e
 cases e
 refine h1 fx H0 env σ H h _ er _ λv H1 s hv=>?_
 have rp:=Rp.same (Offs.sub (zfe (bs:=bs'))) _ hv.rp
 cases d with
 | list ds=>
  cases he
  obtain⟨a,xs,rfl,ha,r⟩:=zde rp
  exact⟨a,rfl,.inl ⟨⟨xs,SqL.of (zco ha)⟩,q _ H1 s (zato ha r)⟩⟩
 | tuple ds=>
  cases he
  obtain⟨a,xs,rfl,ha,r⟩:=zcx rp
  exact⟨a,rfl,.inr ⟨⟨xs,SqT.of (zco ha)⟩,q _ H1 s (zayb ha r)⟩⟩
 | _=>cases he
noncomputable def zzr(ds:List PyData):List PyData:=ds.zipIdx.map λp=>.tuple [.int p.2,p.1]
noncomputable def zbbl(f:AF):IF':=λenv=>(f env).bind λrs=>match rs with
 | [r]=>match r.d with
  | .list ds=>some (zzr ds,r.bs)
  | _=>none
 | _=>none
noncomputable def zpe(lo:Int)(n:Nat):List PyData:=(List.range n).map λ(k:Nat)=>.int (lo+(k:Int))
theorem zafm{A0:Addr->Prop}{H1:Hp}{lo:Int}{n:Nat}:Yl A0 H1 (Itr lo n) (zpe lo n):=by
 intro A H' hA s
 have hl:(zpe lo n).length=n:=by unfold zpe;simp
 refine⟨λi d e=>?_,by rw[hl];exact qN _⟩
 unfold zpe at e
 rw[qh]at e
 by_cases hi:i<n
 ·rw[qDM hi]at e
  cases e
  exact⟨hi,λx H'' ⟨e1,e2⟩=>by subst e1;subst e2;exact⟨Same.refl _,zad⟩⟩
 ·rw[qCI (by simpa using hi)]at e
  cases e
noncomputable def zfu(f:AF):IF':=λenv=>(f env).bind λrs=>match rs with
 | [⟨.int j,_,_⟩]=>if -(2 ^ 62)<=j/\j<2 ^ 62 then some (zpe 0 j.toNat,[])else none
 | _=>none
theorem zjq{ta:TA}{f:AF}(h1:SA ta f):SI (iRng1 ta) (zfu f):=by
 intro fx H0 env σ H h ds bs e R q
 unfold zfu at e
 obtain⟨rs,er,e⟩:=qA.mp e
 split at e
 ·split at e
  ·rename_i hj
   cases e
   refine h1 fx H0 env σ H h _ er _ λvs H1 s hv=>?_
   cases hv with
   | cons hv t=>
    cases t
    cases zdf hv.rp
    exact⟨_,rfl,hj.1,hj.2,q _ H1 s zafm⟩
  ·cases e
 ·cases e
noncomputable def forL(g:GT)(body:SF):List PyData->DEnv->Option Out
 | [],env=>some (.nx env)
 | d::ds,env=>(g d env).bind λe1=>(body e1).bind λo=>match o with
  | .nx e2=>forL g body ds e2
  | .ct e2=>forL g body ds e2
  | .bk e2=>some (.nx e2)
  | .rt d fr=>some (.rt d fr)
noncomputable def sFor(f:IF')(g:GT)(body:SF):SF:=λenv=>(f env).bind λz=>forL g body z.1 (frzs env z.2)
theorem zpf{wi:TI}{g:TG}{tb:TS}{f:IF'}{gf:GT}{body:SF}(h1:SI wi f)(h2:SG g gf)(h3:SS tb body):SS (tFor wi g tb) (sFor f gf body):=by
 intro fx H0 env σ H D h o e q
 unfold sFor at e
 obtain⟨⟨ds,bs⟩,er,e⟩:=qA.mp e
 refine h1 fx H0 env σ H h ds bs er _ λJ H1 s yl=>?_
 have hE:=(h.up s).frzs bs
 have fl:=hE.floor
 refine⟨λi m σ' H'=>m=ds.length - i/\i<=ds.length/\∃env',forL gf body (ds.drop i) env'=some o/\EnvOk fx (Offs (own (frzs env bs) σ) H1) env' σ' H',⟨ds.length,rfl,qAQ _,_,e,hE.rebase⟩,?_⟩
 rintro i m σ' H' ⟨rfl,hi,env',e',h'⟩
 obtain⟨yi,ys⟩:=yl _ H' h'.all h'.seen
 by_cases hlt:i<ds.length
 ·obtain⟨yg,yy⟩:=yi i ds[i] (qH hlt)
  refine .inr ⟨yg,λσ'' H''=>i+1<=ds.length/\∃env'',forL gf body (ds.drop (i+1)) env''=some o/\EnvOk fx (Offs (own (frzs env bs) σ) H1) env'' σ'' H'',?_,?_⟩
  ·rintro σ'' H'' ⟨hle,env'',e'',h''⟩
   exact⟨ds.length - (i+1),by omega,rfl,hle,env'',e'',h''⟩
  ·intro x H'' hy
   obtain⟨sy,ry⟩:=yy x H'' hy
   rw[qAJ hlt]at e'
   obtain⟨e1,ee1,e'⟩:=qA.mp e'
   obtain⟨o1,eo1,e'⟩:=qA.mp e'
   refine h2 fx _ env' σ' H'' _ x (h'.up sy) ry e1 ee1 _ λσ2 h2'=>h3 fx _ e1 σ2 H'' _ h2' o1 eo1 ?_
   cases o1 with
   | nx e2=>exact λσ3 H3 hh=>⟨hlt,e2,e',hh⟩
   | ct e2=>exact λσ3 H3 hh=>⟨hlt,e2,e',hh⟩
   | bk e2=>cases e';exact λσ3 H3 hh=>q σ3 H3 (hh.unbase fl)
   | rt d fr=>cases e';exact λv H3 sh rt=>q v H3 (fl.trans sh) (rt.unbase fl)
 ·have hi':i=ds.length:=by omega
  subst hi'
  rw[qBA]at e'
  cases e'
  exact .inl ⟨ys,q σ' H' (h'.unbase fl)⟩
noncomputable def zhr(n:Nat)(ds:List PyData):DEnv:=ds.map .pl++List.replicate (n - ds.length) .no
noncomputable def fnD(n:Nat)(f:SF):GF:=λds=>match f (zhr n ds)with
 | some (.rt d fr)=>some (d,fr)
 | some (.nx _)=>some (.none,false)
 | _=>none
theorem zru{ds:List PyData}{n i:Nat}{sl:Sl}(e:(zhr n ds)[i]?=some sl):(∃d,ds[i]?=some d/\sl=.pl d)\/sl=.no:=by
 unfold zhr at e
 by_cases hi:i<ds.length
 ·rw[qk (by simpa using hi),qh,qH hi]at e
  cases e
  exact .inl ⟨_,qH hi,rfl⟩
 ·rw[qp (by simpa using hi),qB6]at e
  split at e
  ·cases e;exact .inr rfl
  ·cases e
theorem zhe{fx:Addr->Prop}{H:Hp}{N:List Str}{ds:List PyData}{vs:List V}(hf:∀b,fx b->∃o,H b=some o)(r:Rps (Offs fx H) ds vs):EnvOk fx H (zhr N.length ds) (zfo N vs) H:=by
 have no:∀(i:Nat)(d:PyData),(zhr N.length ds)[i]?≠some (Sl.ac d):=λi d e=>by
  rcases zru e with⟨d',_,z⟩|z<;>cases z
 refine⟨?_,λi d e=>?_,λi d e=>absurd e (no i d),λi j d e a h1=>absurd h1 (no i d),Same.refl _,hf⟩
 ·unfold zhr zfo
  rw[qK,qK,qG,qG,qBg,qBg,r.length]
 ·rcases zru e with⟨d',hd,z⟩|z
  ·cases z
   obtain⟨v,hv,rv⟩:=r.get2 hd
   refine⟨v,?_,Rp.same (Offs.sub λb z=>?_) _ rv⟩
   ·unfold zfo
    have hi:i<vs.length:=(qM.mp hv).1
    rw[qk (by simpa using hi),qh,hv];rfl
   ·rcases z with z|⟨j,d',z,_⟩
    ·exact z
    ·exact absurd z (no j d')
  ·cases z
theorem fn_d{N:List Str}{n:Nat}{f:SF}{t:TS}(hs:SS t f){vs:List V}{H:Hp}{Q:VK}{E:XK}(h:spD n (fnD N.length f) vs H Q E):t {nx:=λ_ H'=>Q .non H',rt:=Q} (zfo N vs) H:=by
 obtain⟨fx,ds,d,fr,hn,hf,r,g,k⟩:=h
 unfold fnD at g
 split at g
 ·rename_i d' fr' eo
  cases g
  exact hs fx H _ _ H _ (zhe hf r) _ eo λv H' s rt=>k v H' s rt
 ·rename_i e' eo
  cases g
  exact hs fx H _ _ H _ (zhe hf r) _ eo λσ H' hE=>k .non H' hE.base ⟨zib,λz=>by cases z⟩
 ·cases g
theorem zbu{n:Nat}{g:GF}{vs:List V}{H:Hp}{Q:VK}{E:XK}(h:spD n g vs H Q E):vs.length=n:=by
 obtain⟨fx,ds,d,fr,hn,hf,r,_⟩:=h
 rw[<- r.length];exact hn
theorem zakg{pos:Pos}{a b:Int}{c cv:Value}(l:List Value)(h:TriplesOk l)(e:codeAmong pos (l++[rawInt a,rawInt b,c])=some cv):codeAmong pos l=some cv\/cv=c:=by
 fun_induction TriplesOk l with
 | case1=>
  simp only[List.nil_append,rawInt,codeAmong]at e
  split at e
  ·exact .inr (qY e).symm
  ·cases e
 | case2 x t y u z rest ih=>
  simp only[qCA,codeAmong]at e ⊢
  split at e
  ·rename_i hc;rw[if_pos hc];exact .inl e
  ·rename_i hc;rw[if_neg hc];exact ih h e
 | case3 l h1 h2=>exact h.elim
theorem zada{a b:Int}{c:Value}(l:List Value)(h:TriplesOk l):TriplesOk (l++[rawInt a,rawInt b,c]):=by
 fun_induction TriplesOk l with
 | case1=>exact True.intro
 | case2 x t y u z rest ih=>exact ih h
 | case3 l h1 h2=>exact h.elim
theorem zup{h:Heap}{a:Addr}(hs:h.objs.size<=a):h.get? a=none:=by
 cases e:h.get? a with
 | none=>rfl
 | some o=>exact absurd (qP e) (qCx.mpr hs)
noncomputable def BM(mg:Str->Option Value)(base:Heap):Prop:=∃bm ob,mg "__builtins__"=some (.ref bm)/\bm≠builtinsNs/\base.get? bm=some ob/\ob.cls=.type "module"/\ob.dict=some builtinsNs/\ob.data=.plain
section
variable{X:Cx}{pins:List (Addr×Obj)}{σ:St}{H:Hp}{s:Shared}{c P:Addr}{params:Arguments}{body:Expr}{scope:Scope}{clos:List (Str×Addr)}{pos:Pos}
noncomputable def zaon(q:Str)(H:Hp)(c P:Addr):Prop:=∃oc vs t,H c=some (.frz oc (.own P))/\oc.data=.fields vs/\vs[1]?=some (.str q t)
theorem zaon.rec{Pr:Program}{w:World}{q:Str}{H:Hp}{h:Heap}{c P:Addr}(r:zaon q H c P)(ok:HOk Pr w H h):h.CodeRec (.ref c) q:=by
 obtain⟨oc,vs,t,e,hd,hv⟩:=r
 exact⟨c,oc,vs,t,rfl,(ok c _ e).1,hd,hv⟩
noncomputable abbrev lamQ(X:Cx):Str:=X.env.qual++"<lambda>"
theorem zaoo{Q:Value->Shared->Prop}{E:Value->Shared->Prop}(I:Inv X pins σ H s)(hcode:X.env.code=.ref c)(C:PySem.W.CodeHd X.base c P)(hP:H P=some (.tabO (lamQ X)))(hbm:BM X.mg X.base)(hcl:closureFor scope X.env=pure clos)(hdef:defaultsOf params X.env=([],[]))
  (h:∀(s':Shared)(H':Hp)(f c':Addr)(ctv pm:Value),Inv X pins σ H' s'->(H'=H\/(H c'=none/\∃oc,H'=upd H c' (.frz oc (.own P))))->H' f=none->s'.heap.get? f=some (PySem.W.kla_obj "<lambda>" (lamQ X) params body scope clos pm c' ctv)->zaon (lamQ X) H' c' P->s.heap.get? f=none->Q (.ref f) s') :
  wpAny (model X.prog X.w) X.A (eval (.Lambda params body scope pos) X.env) Q E s:=by
 obtain⟨ps,hps,tr,ent⟩:=I.hok P _ hP
 have Cs:PySem.W.CodeHd s.heap c P:=C.keeps I.bk
 have hgs:s.heap.Ns qm X.mg:=I.mod.glob.keeps I.bk
 have nP:∀b o,X.base.get? b=some o->b≠P:=λb o e z=>by have:=(I.bs b o e).2;rw[z,hP]at this;cases this
 have hgP:qm≠P:=by
  obtain⟨o,es,ep,e,_⟩:=I.mod.glob
  exact nP _ o e
 obtain⟨bm,ob,b1,b2,b3,b4,b5,b6⟩:=hbm
 have hbG:bm≠qm:=λz=>by
  obtain⟨o,es,ep,e,hd,_⟩:=I.mod.glob
  rw[z,e]at b3;cases b3;rw[hd]at b6;cases b6
 have hb:s.heap.BuiltinsAt X.mg P:=⟨bm,ob,b1,b2,hbG,nP _ _ b3,I.bk _ _ b3,b4,b5,b6⟩
 refine PySem.W.kla_eval hdef ?_
 cases hf:codeAmong pos ps.toList with
 | none=>
  refine PySem.W.kla_makeFunction (mg:=X.mg) hcl I.ok.glob hgs hcode Cs hps tr hf hgP hb λc' ctv h' tk hx hge hlt hrec htb=>?_
  have nc:H c'=none:=I.hok.fresh hge
  have nP':c'≠P:=λz=>by rw[z,hP]at nc;cases nc
  generalize hob:PySem.W.kla_obj "<lambda>" (lamQ X) params body scope clos ((X.mg "__name__").getD .none) c' ctv=obj
  have kp:∀b o,b≠P->s.heap.get? b=some o->(h'.push obj).get? b=some o:=λb o z e=>qE _ (hx b o z e)
  have hsz:s.heap.objs.size<=h'.objs.size:=qBu (qAd hge hlt)
  obtain⟨c2,oc,vs,t,e2,hoc,hd,hv⟩:=hrec
  cases e2
  have up:∀b u,H b=some u->upd H c' (.frz oc (.own P)) b=some u:=λb u e=>by rw[zat (λz=>by rw[z,nc]at e;cases e)];exact e
  have tabN:(h'.push obj).get? P=some (PySem.W.tabObj (ps++#[rawInt pos.line,rawInt pos.col,.ref c'])):=qE _ htb
  have un:Un X.fs [] H (upd H c' (.frz oc (.own P))) s.heap (h'.push obj):=
   ⟨λb o e n _ _=>kp b o (λz=>by rw[z,hP]at n;cases n) e,λb o e n _ _=>⟨o.slots,kp b o (λz=>by rw[z,hP]at n;cases n) e⟩,λb o e n _=>by rw[zat (qw (qb (qP e) hge))];exact n,
    λb o e _=>(Decidable.em (b=P)).elim (λz=>⟨_,z▸tabN⟩) (λz=>⟨o,kp b o z e⟩),λb xs e=>up b _ e,λb o u e=>up b _ e,λb ps e=>⟨#[],by rw[up b _ e];simp⟩⟩
  have ok:HOk X.prog X.w (upd H c' (.frz oc (.own P))) (h'.push obj):=λb u e=>by
   by_cases hb:b=c'
   ·subst hb
    rw[zar]at e
    cases e
    exact⟨qE _ hoc,oc,qE _ hoc⟩
   ·rw[zat hb]at e
    by_cases hbP:b=P
    ·subst hbP
     rw[hP]at e
     cases e
     refine⟨_,tabN,by rw[qDH];exact zada _ tr,λpos' cv hc=>?_⟩
     rw[qDH]at hc
     rcases zakg _ tr hc with hc|hc
     ·obtain⟨c1,o,vs1,t1,a1,a2,a3,a5⟩:=ent pos' cv hc
      exact⟨c1,o,vs1,t1,a1,a2,up _ _ a3,a5⟩
     ·exact⟨c',oc,vs,t,hc,nP',zar,hd,hv⟩
    ·exact(I.hok b u e).stay (λc v hc z=>kp c v (hc.elim (λy=>by rw[y];exact hbP) λy w=>by rw[w,hP]at y;cases y) z) (λc z=>up c _ z) (λc xs z=>up c _ z) (λc o z=>up c _ z)
  refine h _ _ h'.objs.size c' ctv _ (I.un (t':=tk) un ok) (.inr ⟨nc,oc,rfl⟩) ?_ (by rw[<- hob];exact qW _ rfl) ⟨oc,vs,t,zar,hd,hv⟩ (zup hsz)
  rw[zat (qAm hlt)]
  exact I.hok.fresh hsz
 | some cv=>
  obtain⟨c',oc,vs,t,rfl,ne,own,hd,hv⟩:=ent pos cv hf
  refine PySem.W.kla_makeFunctionHit (mg:=X.mg) hcl I.ok.glob hgs hcode Cs hps tr hf hb λctv h' tk hk hsz=>?_
  have kp:∀b o,s.heap.get? b=some o->(h'.push (PySem.W.kla_obj "<lambda>" (lamQ X) params body scope clos ((X.mg "__name__").getD .none) c' ctv)).get? b=some o:=λb o e=>qE _ (hk b o e)
  exact h _ H h'.objs.size c' ctv _ (I.un (t':=tk) (Un.kept kp) (I.hok.kept kp)) (.inl rfl) (I.hok.fresh hsz) (qW _ rfl) ⟨oc,vs,t,own,hd,hv⟩ (zup hsz)
end
noncomputable def zakh(CX:CXT)(P:Program)(w:World)(K:qC)(mg:Str->Option Value)(base:Heap)(N:List Str)(qual:Str)(scope:Scope)(f:Addr)(cd:Value)(cl:List (Str×Addr))(A:Around)(outer:List Env)(s:Shared)(H:Hp)(E:XK):Cx where
 prog:=P
 w:=w
 K:=K
 mg:=mg
 base:=base
 A:=A.deeper (PySem.W.envX qual scope s.heap.objs.size f cd cl)
 N:=N
 s₀:=s
 H₀:=H
 env:=PySem.W.envX qual scope s.heap.objs.size f cd cl
 outer:=outer
 stack:=PySem.W.envX qual scope s.heap.objs.size f cd cl::outer
 ex:=[]
 calm:=true
 fn:=λ_=>false
 pn:=[]
 xe:=λe s'=>wpAny (model P w) (A.deeper (PySem.W.envX qual scope s.heap.objs.size f cd cl)) (leaving (PySem.W.envX qual scope s.heap.objs.size f cd cl) e) (λ_ s''=>CX outer H s E e s'') (λe' s''=>CX outer H s E e' s'') s'
structure Cells(cl:List (Str×Addr))(N:List Str)(vs:List V)(h:Heap)(H:Hp)(sc:Scope):Prop where
 inj:∀x y c,cl.lookup x=some c->cl.lookup y=some c->x=y
 has:∀x,sc.names.lookup x=some .free->∃c,cl.lookup x=some c
 cell:∀x c,cl.lookup x=some c->(∃v,h.IsCell c v)/\H c=none
 val:∀(i:Nat)(x:Str)(v:V),N[i]?=some x->vs[i]?=some v->∃c u,cl.lookup x=some c/\h.IsCell c (some u)/\RelV v u
 len:vs.length=N.length
noncomputable def clF(sc:Scope)(env:Env):List (Str×Addr):=(sc.names.filterMap λp=>if p.2==.free then(env.cells.lookup p.1).map λc=>(p.1,c)else none).reverse
theorem zaki{sc:Scope}{env:Env}{x:Str}{c:Addr}:(x,c)∈clF sc env↔(x,NameKind.free)∈sc.names/\env.cells.lookup x=some c:=by
 unfold clF
 rw[List.mem_reverse,qBt]
 constructor
 ·rintro⟨⟨y,k⟩,h1,h2⟩
  dsimp only at h2
  split at h2
  ·rename_i hk
   have hk:k=NameKind.free:=by simpa using hk
   obtain⟨d,e1,e2⟩:=qF.mp h2
   cases e2
   exact⟨hk▸h1,e1⟩
  ·cases h2
 ·rintro⟨h1,h2⟩
  exact⟨(x,.free),h1,by dsimp only;rw[if_pos (by rfl),h2];rfl⟩
theorem zuq{α:Type}:∀{l:List (Str×α)}{x:Str}{c:α},(x,c)∈l->∃d,l.lookup x=some d
 | (k,v)::r,x,c,h=>by
  rw[qAI]
  cases hb:x==k with
  | true=>exact⟨v,rfl⟩
  | false=>
   rcases qJ.mp h with e|h
   ·cases e;simp at hb
   ·exact zuq h
theorem zic{sc:Scope}{env:Env}{x:Str}{c:Addr}(h:(clF sc env).lookup x=some c):env.cells.lookup x=some c:=(zaki.mp (qx h)).2
theorem zakj{sc:Scope}{env:Env}{x:Str}{c:Addr}(h:(x,NameKind.free)∈sc.names)(e:env.cells.lookup x=some c):(clF sc env).lookup x=some c:=by
 obtain⟨d,hd⟩:=zuq (zaki.mpr ⟨h,e⟩)
 rw[hd]
 exact(zic hd).symm.trans e
end L2
namespace PySem
open Sem (wp)
open Builtin Builtin.ObjectAttr
end PySem
namespace L2
open PySem PySem.Spec PyProof.Rows
noncomputable def zatp:Sl->Sl
 | .ac d=>.pl d
 | s=>s
noncomputable def envB(own:List Str)(fr:List Nat)(env:DEnv):DEnv:=own.map (λ_=>Sl.no)++fr.map (λj=>zatp (env.getD j .no))
noncomputable def isAc:Option Sl->Bool
 | some (.ac _)=>true
 | _=>false
noncomputable def capA(fr:List Nat)(env:DEnv):List Nat:=fr.filter λj=>isAc env[j]?
theorem zmo{own:List Str}{fr:List Nat}{env:DEnv}{i:Nat}{d:PyData}(e:(envB own fr env)[i]?=some (.pl d)):∃j k,i=own.length+k/\fr[k]?=some j/\(env[j]?=some (.pl d)\/env[j]?=some (.ac d)):=by
 unfold envB at e
 by_cases hi:i<own.length
 ·rw[qk (by simpa using hi),qh,qH hi]at e
  cases e
 ·rw[qp (by simpa using hi),qG,qh]at e
  cases ej:fr[i - own.length]? with
  | none=>rw[ej]at e;cases e
  | some j=>
   rw[ej]at e
   refine⟨j,i - own.length,by omega,ej,?_⟩
   have e:zatp (env.getD j .no)=.pl d:=qY e
   rw[qg]at e
   cases ev:env[j]? with
   | none=>rw[ev]at e;cases e
   | some s=>
    rw[ev]at e
    cases s with
    | no=>cases e
    | pl d'=>cases e;exact .inl rfl
    | ac d'=>cases e;exact .inr rfl
theorem zfv{own:List Str}{fr:List Nat}{env:DEnv}{i:Nat}{d:PyData}:(envB own fr env)[i]?≠some (.ac d):=by
 intro e
 unfold envB at e
 by_cases hi:i<own.length
 ·rw[qk (by simpa using hi),qh,qH hi]at e
  cases e
 ·rw[qp (by simpa using hi),qG,qh]at e
  cases ej:fr[i - own.length]? with
  | none=>rw[ej]at e;cases e
  | some j=>
   rw[ej]at e
   have e:zatp (env.getD j .no)=.ac d:=qY e
   cases ev:env.getD j .no with
   | no=>rw[ev]at e;cases e
   | pl d'=>rw[ev]at e;cases e
   | ac d'=>rw[ev]at e;cases e
theorem zadb{own:List Str}{fr:List Nat}{σ:St}{k j:Nat}{v:V}(hk:fr[k]?=some j)(hv:σ[j]?=some (some v)):(tau own fr σ)[own.length+k]?=some (some v):=by
 unfold tau
 rw[qp (by simp),qG,qB7,qh,hk]
 show some (σ.getD j none)=_
 rw[qg,hv];rfl
theorem zmp{fx:Addr->Prop}{H0:Hp}{env:DEnv}{σ:St}{H H1:Hp}{p:Addr}(h:EnvOk fx H0 env σ H)(s:Same H H1)(hp:H1 p=none)(own:List Str)(fr:List Nat)(bs:List Nat) :
  EnvOk (λb=>lim fx env σ (bs++capA fr env) b\/b=p) H1 (envB own fr env) (tau own fr σ) (upd H1 p (.lst [])):=by
 have h1:=h.up s
 have sp:Same H1 (upd H1 p (.lst [])):=Same.new hp
 have so:Same (Offs (λb=>fx b\/L2.own env σ b) H1) (Offs (λb=>(lim fx env σ (bs++capA fr env) b\/b=p)\/L2.own (envB own fr env) (tau own fr σ) b) (upd H1 p (.lst []))):=Offs.mono sp λb o e n z=>by
  rcases z with(z|z)|⟨i,d,z,_⟩
  ·exact n (zns b z)
  ·rw[z,hp]at e;cases e
  ·exact absurd z zfv
 refine⟨?_,λi d e=>?_,λi d e=>absurd e zfv,λi j d e a z=>absurd z zfv,sp,λb z=>?_⟩
 ·unfold envB tau;simp
 ·obtain⟨j,k,rfl,hk,hj⟩:=zmo e
  rcases hj with hj|hj
  ·obtain⟨v,h2,h3⟩:=h1.pl j d hj
   exact⟨v,zadb hk h2,Rp.same so _ h3⟩
  ·obtain⟨a,h2,h3,h4,h5⟩:=h1.ac j d hj
   refine⟨_,zadb hk h2,h5.rp so λo eo=>?_⟩
   rw[Offs.get]
   ·exact sp _ _ eo
   ·rintro((z|⟨i',d',z1,z2,z3⟩)|⟨i',d',z,_⟩)
    ·rcases z with z|⟨i',d',z1,z2,z3⟩
     ·exact h4 z
     ·have e2:=h1.inj i' j d' d a z2 hj z3 h2
      subst e2
      refine z1 (qI _ (qAb.mpr ⟨qAe hk,?_⟩))
      rw[hj];rfl
    ·rw[hp]at eo;cases eo
    ·exact absurd z zfv
 ·rcases z with z|z
  ·obtain⟨o,e⟩:=h1.lims _ b z;exact⟨o,sp b o e⟩
  ·rw[z];exact⟨_,zar⟩
theorem EnvOk.weaken{fx:Addr->Prop}{H0:Hp}{env e1:DEnv}{σ:St}{H:Hp}(h:EnvOk fx H0 e1 σ H)(hl:env.length=e1.length)(hp:∀(i:Nat) (d:PyData),env[i]?=some (.pl d)->e1[i]?=some (.pl d))(ha:∀(i:Nat) (d:PyData),env[i]?≠some (.ac d)):EnvOk fx H0 env σ H:=by
 refine⟨hl.trans h.len,λi d e=>?_,λi d e=>absurd e (ha i d),λi j d e a z=>absurd z (ha i d),h.base,h.fxs⟩
 obtain⟨v,h1,h2⟩:=h.pl i d (hp i d e)
 exact⟨v,h1,Rp.same (Offs.sub λb z=>z.imp (λy=>y) λ⟨j,d',z,_⟩=>absurd z (ha j d')) _ h2⟩
theorem EnvOk.updFx{fx:Addr->Prop}{H0:Hp}{env:DEnv}{σ:St}{H:Hp}{p:Addr}{o:HO}(h:EnvOk fx H0 env σ H)(hp:fx p)(h0:H0 p=none):EnvOk fx H0 env σ (upd H p o):=by
 have so:Offs (λb=>fx b\/own env σ b) (upd H p o)=Offs (λb=>fx b\/own env σ b) H:=Offs.upd (.inl hp)
 refine⟨h.len,λi d e=>?_,λi d e=>?_,h.inj,λb u e=>by rw[zat (zbe e h0)];exact h.base b u e,λb z=>?_⟩
 ·rw[so];exact h.pl i d e
 ·obtain⟨a,h1,h2,h3,h4⟩:=h.ac i d e
  rw[so]
  exact⟨a,h1,h2,h3,h4.same (Same.refl _) λu z=>by rw[zat λy=>h3 (by rw[y];exact hp)];exact z⟩
 ·by_cases e:b=p
  ·rw[e];exact⟨_,zar⟩
  ·obtain⟨u,hu⟩:=h.fxs b z
   exact⟨u,by rw[zat e];exact hu⟩
noncomputable def GX(n:Nat)(g:GT):Prop:=∀d env e1,g d env=some e1->e1.length=env.length/\∀i,n<=i->e1[i]?=env[i]?
noncomputable def GXs(n:Nat)(g:GTs):Prop:=∀ds env e1,g ds env=some e1->e1.length=env.length/\∀i,n<=i->e1[i]?=env[i]?
theorem zef{n i:Nat}(h:i<n):GX n (gN i):=by
 intro d env e1 e
 cases e
 exact⟨qAO,λj hj=>qd (by omega)⟩
theorem zjr{n:Nat}:GXs n zft:=by
 intro ds env e1 e
 cases ds with
 | nil=>cases e;exact⟨rfl,λ_ _=>rfl⟩
 | cons _ _=>cases e
theorem zdd{n i:Nat}{g:GTs}(h:i<n)(hg:GXs n g):GXs n (zba i g):=by
 intro ds env e1 e
 cases ds with
 | nil=>cases e
 | cons d ds=>
  obtain⟨h1,h2⟩:=hg ds _ e1 e
  rw[qAO]at h1
  exact⟨h1,λj hj=>(h2 j hj).trans (qd (by omega))⟩
theorem zpg{n m:Nat}{g:GTs}(hg:GXs n g):GX n (gT m g):=by
 intro d env e1 e
 unfold gT at e
 cases d with
 | tuple ds=>
  have e:(if ds.length=m then g ds env else none)=some e1:=e
  split at e
  ·exact hg ds env e1 e
  ·cases e
 | _=>cases e
noncomputable def zdl(g:GT)(t:TF)(e:EF)(env:DEnv):List PyData->Option (List PyData)
 | []=>some []
 | d::ds=>(g d env).bind λe1=>(t e1).bind λb=>if b=true then(e e1).bind λr=>(zdl g t e env ds).map λrs=>r.d::rs else zdl g t e env ds
noncomputable def zdb(own:List Str)(fr:List Nat)(fi:IF')(g:GT)(t:TF)(e:EF):EF:=λenv=>(fi env).bind λz=>if z.1.length<100000 then
 (zdl g t e (envB own fr env) z.1).map λrs=>⟨.list rs,true,if zdm rs=true then[]else z.2++capA fr env⟩else none
theorem zid{H H':Hp}{ds:List PyData}{vs:List V}(f:zdm ds=true)(h:Rps H ds vs):Rps H' ds vs:=by
 replace h:=zci.mp h
 induction h with
 | nil=>exact zcv
 | cons h _ ih=>
  unfold zdm at f
  rw[qBl,qAC]at f
  exact zdc (zajv f.1 h) (ih f.2)
theorem zcq{own:List Str}{fr:List Nat}{wi:TI}{g:TG}{tt:TT}{te:TE}{fi:IF'}{gf:GT}{t:TF}{e:EF}(h1:SI wi fi)(h2:SG g gf)(hx:GX own.length gf)(h3:ST tt t)(h4:SE te e) :
  SE (tComp1 wi g tt te own fr) (zdb own fr fi gf t e):=by
 intro fx H0 env σ H h rr hr Q q
 unfold zdb at hr
 obtain⟨⟨ds,bs⟩,ei,hr⟩:=qA.mp hr
 split at hr
 ·rename_i hlen
  have hlen:ds.length<100000:=hlen
  obtain⟨rs,ers,rfl⟩:=qF.mp hr
  refine h1 fx H0 env σ H h ds bs ei _ λJ H1 s yl=>λp hp=>?_
  have hB:=zmp h s hp own fr bs
  generalize hA:(λb=>lim fx env σ (bs++capA fr env) b)=A
  have hA':∀b,lim fx env σ (bs++capA fr env) b↔A b:=λb=>by rw[<- hA]
  have eA:(λb=>lim fx env σ (bs++capA fr env) b\/b=p)=λb=>A b\/b=p:=by rw[<- hA]
  rw[eA]at hB
  have nA:¬A p:=λz=>by
   obtain⟨o,eo⟩:=(h.up s).lims _ p ((hA' p).mpr z)
   rw[hp]at eo;cases eo
  have seen:∀{σ':St}{H':Hp},EnvOk (λb=>A b\/b=p) H1 (envB own fr env) σ' H'->Same (Offs (λb=>fx b\/L2.own (frzs env bs) σ b) H1) (Offs (λb=>A b\/b=p) H'):=λ{σ' H'} hE=>Offs.mono hE.base λb o eo n z=>by
   rcases z with z|z
   ·rcases(hA' b).mpr z with z|⟨i,d,z1,z2,z3⟩
    ·exact n (.inl z)
    ·exact n (.inr ⟨i,d,zik (λy=>z1 (qi _ y)) z2,z3⟩)
   ·rw[z,hp]at eo;cases eo
  refine⟨λi m σ' H'=>m=ds.length - i/\i<=ds.length/\∃vs done rest,H' p=some (.lst vs)/\Rps (Offs (λb=>A b\/b=p) H') done vs/\done.length<=i/\zdl gf t e (envB own fr env) (ds.drop i)=some rest/\done++rest=rs/\EnvOk (λb=>A b\/b=p) H1 (envB own fr env) σ' H',
   ⟨ds.length,rfl,qAQ _,[],[],rs,zar,zcv,qAQ _,ers,rfl,hB⟩,?_⟩
  rintro i m σ' H' ⟨rfl,hi,vs,done,rest,ep,rd,dl,ec,edr,hE⟩
  obtain⟨yi,ys⟩:=yl _ H' hE.fxs (seen hE)
  by_cases hlt:i<ds.length
  ·obtain⟨yg,yy⟩:=yi i ds[i] (qH hlt)
   refine .inr ⟨yg,λσ'' H''=>i+1<=ds.length/\∃vs done rest,H'' p=some (.lst vs)/\Rps (Offs (λb=>A b\/b=p) H'') done vs/\done.length<=i+1/\zdl gf t e (envB own fr env) (ds.drop (i+1))=some rest/\done++rest=rs/\EnvOk (λb=>A b\/b=p) H1 (envB own fr env) σ'' H'',?_,?_⟩
   ·rintro σ'' H'' ⟨hle,hh⟩
    exact⟨ds.length - (i+1),by omega,rfl,hle,hh⟩
   ·intro x H'' hy
    obtain⟨sy,ry⟩:=yy x H'' hy
    rw[qAJ hlt]at ec
    obtain⟨e1,ee1,ec⟩:=qA.mp ec
    obtain⟨b,eb,ec⟩:=qA.mp ec
    have ry':Rp (Offs (λa=>(A a\/a=p)\/L2.own (envB own fr env) σ' a) H'') ds[i] x:=Rp.same (Offs.sub λb z=>z.elim (λy=>y) λ⟨j,d',z,_⟩=>absurd z zfv) _ ry
    refine h2 _ H1 (envB own fr env) σ' H'' _ x (hE.up sy) ry' e1 ee1 _ λσ2 hE2=>?_
    refine h3 _ H1 e1 σ2 H'' hE2 b eb _ λH3 s3=>?_
    have hE3:=hE2.up s3
    obtain⟨gl,gk⟩:=hx _ _ _ ee1
    have back:∀{H4:Hp},EnvOk (λb=>A b\/b=p) H1 e1 σ2 H4->EnvOk (λb=>A b\/b=p) H1 (envB own fr env) σ2 H4:=λ{H4} hh=>hh.weaken gl.symm (λj d' ej=>by
     by_cases hj:own.length<=j
     ·rw[gk j hj];exact ej
     ·obtain⟨_,k,rfl,_⟩:=zmo ej;omega) λj d'=>zfv
    cases b with
    | false=>
     have ec:zdl gf t e (envB own fr env) (ds.drop (i+1))=some rest:=ec
     exact iteF ⟨hlt,vs,done,rest,s3 _ _ (sy _ _ ep),Rps.same (Offs.grow (sy.trans s3)) _ rd,qBJ dl,ec,edr,back hE3⟩
    | true=>
     have ec:((e e1).bind λr=>(zdl gf t e (envB own fr env) (ds.drop (i+1))).map λrs=>r.d::rs)=some rest:=ec
     obtain⟨r,er,ec⟩:=qA.mp ec
     obtain⟨rest',er',rfl⟩:=qF.mp ec
     refine iteT (h4 _ H1 e1 σ2 H3 hE3 r er _ λv H4 s4 hv=>?_)
     have t4:=(sy.trans s3).trans s4
     refine⟨vs,t4 _ _ ep,zlt (by rw[<- rd.length];omega),hlt,vs++[v],done++[r.d],rest',zar,?_,by rw[qK];simp;omega,er',by rw[<- edr];simp,(back (hE3.up s4)).updFx (.inr rfl) hp⟩
     rw[Offs.upd (.inr rfl)]
     exact(Rps.same (Offs.grow t4) _ rd).append (zdc (Rp.same (Offs.sub λb z=>.inl z) _ hv.rp) zcv)
  ·have hi':i=ds.length:=by omega
   subst hi'
   rw[qBA]at ec
   cases ec
   rw[qAD]at edr
   subst edr
   refine .inl ⟨ys,q _ H' (s.trans hE.base) ⟨?_,λ_=>⟨p,rfl,s.free hp,?_⟩⟩⟩
   ·show Rp (Offs (lim fx env σ (if zdm done=true then[]else bs++capA fr env)) H') (.list done) (.ref p)
    have nl:∀cs,¬lim fx env σ cs p:=λcs z=>by
     obtain⟨o,eo⟩:=(h.up s).lims _ p z
     rw[hp]at eo;cases eo
    refine zdx (by rw[Offs.get (nl _)];exact ep) ?_
    split
    ·rename_i f;exact zid f rd
    ·exact Rps.same (Offs.sub λb z=>.inl ((hA' b).mp z)) _ rd
   ·show zfs (Offs (λb=>lim fx env σ (if zdm done=true then[]else bs++capA fr env) b\/b=p) H') H' p (.list done)
    refine⟨vs,ep,?_⟩
    split
    ·rename_i f;exact zid f rd
    ·exact Rps.same (Offs.sub λb z=>z.imp (hA' b).mp id) _ rd
 ·cases hr
section
variable{X:Cx}{K:qC}
theorem zakk(hK:X.K=K){a:Expr}{ta:TE}(ha:PE X a ta)(he:∀whole,isTrue a X.env whole=(do let v <- whole;standAt a.pos;holding [v] (truthy v))) :
  PT X a (λσ H Q=>ta σ H λx H'=>∃k,TruV K x H' k/\Q k H'):=by subst hK;exact zano ha he
theorem zil(hK:X.K=K):CallR X (.type "tuple") (λxs H Q=>∃p ys,xs=[.ref p]/\((SqL K H p ys/\∀l,H l=none->Q (.ref l) (upd H l (.tup ys)))\/(SqT K H p ys/\Q (.ref p) H))):=by subst hK;exact zwl
theorem zph(hK:X.K=K)(hu:X.A.units+64<cLine):OpR X (compareOp .Eq) (λx y H Q=>rEq x y H Q\/rEqD K false x y H Q):=by subst hK;exact zbai.or (zaxn hu)
theorem zur(hK:X.K=K)(hu:X.A.units+64<cLine):OpR X (compareOp .NotEq) (λx y H Q=>rNe x y H Q\/rEqD K true x y H Q):=by subst hK;exact zbaj.or (zaxo hu)
noncomputable def zbi:TF:=λ_=>some true
theorem zdo:ST tAll zbi:=by
 intro fx H0 env σ H hE b hb Q q
 cases hb
 exact q H (Same.refl _)
end
end L2
namespace PySem
open Sem (wp)
theorem zff:plainId "dict.update.loop"=true:=by decide +kernel
theorem zjs:entryFor table "dict.update.loop"=some Builtin.«dict.update.loop»:=entryFor_of_fast (by kernel_rfl)
end PySem
namespace L2
open PySem PySem.Spec PyProof.Rows
theorem zgj{α β:Type}{F:α->β->Prop}:∀{l:List α}{r:List β}{i:Nat}{x:α},Paired F l r->l[i]?=some x->∃y,r[i]?=some y/\F x y
 | _,_,_,_,.nil,e=>by simp at e
 | _,_,0,_,.cons h _,e=>by simp at e;subst e;exact⟨_,rfl,h⟩
 | _,_,i+1,x,.cons _ t,e=>by
  obtain⟨y,h1,h2⟩:=zgj (i:=i) (x:=x) t (by simpa using e)
  exact⟨y,by simpa using h1,h2⟩
theorem zagx(kvs:List (Key×Value))(k:Key)(v:Value):(stored kvs k v).length<=kvs.length+1:=by
 unfold stored
 split
 ·rw[qG];omega
 ·rw[qK];simp
noncomputable def zatq(ps:List (Key×Value))(kvs:List (Key×Value)):List (Key×Value):=ps.foldl (λacc p=>stored acc p.1 p.2) kvs
theorem zakl:∀{more:List (Key×V)}{ms:List (Key×Value)}{kvs:List (Key×V)}{vs:List (Key×Value)},KV kvs vs->KV more ms->KV (zhc kvs more) (zatq ms vs)
 | _,_,_,_,h,.nil=>h
 | p::r,q::s,kvs,vs,h,.cons e t=>by
  obtain⟨e1,e2⟩:=e
  show KV (zhc (putK kvs p.1 p.2) r) (zatq s (stored vs q.1 q.2))
  rw[<- e1]
  exact zakl (h.put p.1 e2) t
theorem zatr{X:Cx}{K:qC}(hK:X.K=K){T:String}{name:Str}{id:String}{r:V->List V->Hp->VK->Prop}{o:Expr}{to:TE}{apos cpos:Pos}(pa:PlainAttrs T)(slot:Slot T name id)(hty:typeOf (.builtin id)=pure (.type "method_descriptor"))(hm:MtR X id r)(ho:PE X o to)
  (hbase:attributeBase o name X.env (eval o X.env)=eval o X.env:=by rfl)
  (hline:(apos.endLine==cpos.line)=true:=by rfl) :
  PE X (.Call (.Attribute o name apos) [] [] cpos) (tBM0 K T r to):=by subst hK;exact zaxe pa slot hty hm ho hbase hline
noncomputable def zhf(i:Nat)(b:EF):EF:=λenv=>match env[i]? with
 | some (.pl (.dict kvs))=>(b env).bind λy=>(keyD y.d).bind λk=>(zmk kvs k).bind λd=>some ⟨d,false,[]⟩
 | some (.ac (.dict kvs))=>(b env).bind λy=>(keyD y.d).bind λk=>(zmk kvs k).bind λd=>some ⟨d,false,[]⟩
 | _=>none
theorem zra{i:Nat}{ty:TE}{fb:EF}(hb:SE ty fb):SE (tDGet (tVar i) ty) (zhf i fb):=by
 intro fx H0 env σ H h rr hr Q q
 unfold zhf at hr
 have key:∀(a:Addr)(ps:List (Key×V))(kvs:List (PyData×PyData)),σ[i]?=some (some (.ref a))->H a=some (.dK ps)->Rpd (Offs (λb=>fx b\/own env σ b) H) kvs ps->((fb env).bind λy=>(keyD y.d).bind λk=>(zmk kvs k).bind λd=>some (⟨d,false,[]⟩:Val))=some rr->tDGet (tVar i) ty σ H Q:=by
  intro a ps kvs hs ha r hr
  obtain⟨y,ey,hr⟩:=qA.mp hr
  obtain⟨k,ek,hr⟩:=qA.mp hr
  obtain⟨d,ed,hr⟩:=qA.mp hr
  cases hr
  refine⟨_,hs,hb fx H0 env σ H h _ ey _ λu H2 s2 v2=>?_⟩
  have g:=(Rpd.same (Offs.grow s2) _ r).get (j:=k)
  rw[ed]at g
  obtain⟨w,e1,e2⟩:=g
  rw[zaoj v2.rp ek]
  have dg:=DGet.k (k:=k) (s2 _ _ ha)
  rw[e1]at dg
  exact⟨a,w,rfl,dg,q w H2 s2 ⟨Rp.same (Offs.sub zns) _ e2,λz=>by cases z⟩⟩
 split at hr
 ·rename_i kvs ei
  obtain⟨v,h1,h2⟩:=h.pl i _ ei
  obtain⟨a,ps,rfl,ha,r⟩:=znr h2
  exact key a ps kvs h1 (zco ha) r hr
 ·rename_i kvs ei
  obtain⟨a,h1,h2,h3,ps,ha,r⟩:=h.ac i _ ei
  exact key a ps kvs h1 ha r hr
 ·cases hr
noncomputable def eIxV(i:Nat)(b:EF):EF:=λenv=>match env[i]? with
 | some (.ac (.list ds))=>(b env).bind λy=>match y.d with
  | .int k=>(atI ds k).map λd=>⟨d,false,[]⟩
  | _=>none
 | _=>eOp ixD (eVar i) b env
theorem zfg{K:qC}{i:Nat}{tb:TE}{fb:EF}(hb:SE tb fb):SE (tOp (rIxU K) (tVar i) tb) (eIxV i fb):=by
 intro fx H0 env σ H h rr hr Q q
 unfold eIxV at hr
 split at hr
 ·rename_i ds ei
  obtain⟨⟨dy,fy,bys⟩,ey,hr⟩:=qA.mp hr
  cases dy with
  | int k=>
   obtain⟨d,ed,rfl⟩:=qF.mp hr
   obtain⟨a,h1,h2,h3,xs,ha,r⟩:=h.ac i _ ei
   refine⟨_,h1,hb fx H0 env σ H h _ ey _ λu H2 s2 v2=>?_⟩
   cases zdf v2.rp
   obtain⟨v,hv,rv⟩:=(Rps.same (Offs.grow s2) _ r).atI ed
   exact⟨xs,v,.inl (SqL.of (s2 _ _ ha)),hv,q _ H2 s2 ⟨Rp.same (Offs.sub zns) _ rv,λz=>by cases z⟩⟩
  | _=>cases hr
 ·exact zch zrs (zae i) hb fx H0 env σ H h rr hr Q q
noncomputable def zafn(wi:TI)(g:TG)(tt:TT)(tm:TM):TM:=λσ H Q=>wi σ H λJ H1=>zajk J g tt tm σ H1 Q
section
variable{X:Cx}
theorem zadc{M:Model}{P:Program}{w:World}{A:Around}{R:Result->Shared->Prop}{s:Shared}{elt:Expr}{g0:Comprehension}{target iter:Expr}{ifs:List Expr}{rest:List Comprehension}{scope:Scope}{cpos:Pos}{it acc:Value}{env:Env}
  (l:codeAny (model P w) A (.compLoop (.ListComp elt (g0::⟨target,iter,ifs,0⟩::rest) scope cpos) 1 it acc env) R s)
  (t:∀(A:Around) (E:Value->Shared->Prop),wpAny (model P w) A (pyIter it) (λu s'=>u=it/\s'=s) E s) :
  codeAny (model P w) A (.compStart (.ListComp elt (g0::⟨target,iter,ifs,0⟩::rest) scope cpos) 1 it acc env) R s:=by
 refine codeAny_of_tree ?_
 show wpAny _ _ ((compStart (.ListComp elt (g0::⟨target,iter,ifs,0⟩::rest) scope cpos) 1 it acc env).onRaise (λx=>do noteFrame x env;standAt theWindowsPlace)) _ _ s
 refine wpAny_notedAt ?_
 unfold compStart
 show wpAny _ _ (ask >>=_) _ _ s
 refine qD (wpAny_askSetting (wpAny_ite ?_))
 split
 ·first
   | exact qD (qO (qO (And.intro rfl l)))
   | exact qO (And.intro rfl l)
 ·refine qD (qCj ?_)
  first
   | exact qD (qBq (qD (thn (t _ _) λu s' z=>by obtain⟨e1,e2⟩:=z;subst e1;subst e2;exact qO (And.intro rfl l))))
   | (show wpAny _ _ (standAt iter.pos >>=_) _ _ s;exact qD (qBq (qD (thn (t _ _) λu s' z=>by obtain⟨e1,e2⟩:=z;subst e1;subst e2;exact qO (And.intro rfl l)))))
theorem zafo{elt0:Expr}{g0:Comprehension}{scope:Scope}{cpos:Pos}{target iter:Expr}{ifs:List Expr}{wi:TI}{g:TG}{tt:TT}{te:TE}{p:Addr}
  (hx:X.xe=λ_ _=>False)(hc:X.calm=true)(hi:PI X target iter wi)(hg:PG X target g)(ht:PF X ifs tt)(he:PE X elt0 te)
  (hs:∀x,foldedSetIterable iter X.env x=pure x) :
  PM X (do
   let x <- eval iter X.env
   standAt iter.pos
   let x <- foldedSetIterable iter X.env x
   let _ <- runOwn (.compStart (.ListComp elt0 [g0,⟨target,iter,ifs,0⟩] scope cpos) 1 (<- holding [x] (pyIter x)) (.ref p) X.env) X.env) (zafn wi g tt (zacr p te)):=by
 intro pins s σ H Q I h
 refine qD (thn (hi pins s σ H _ I h) λv s1 h1=>?_)
 refine qD (qBq ?_)
 rw[hs]
 refine qD (qO (qD (qAX (thn h1 λitv s2 h2=>?_))))
 obtain⟨it,fp,tn,J,H2,e,I2,T,st2,f2,q⟩:=h2
 subst e
 refine qD (thn (wpAny_runOwn (h:=none) (Q:=λ_ s'=>∃σ' H',Inv X pins σ' H' s'/\Q σ' H') ?_) λ_ _ z=>qO z)
 refine zadc (M:=model X.prog X.w) ?_ λA E=>T.self A 0 s2 _ E st2 ⟨rfl,rfl⟩
 refine qBX (zro (X:=X) (pins:=pins) hx hc (elt0:=elt0) (gens:=[g0,⟨target,iter,ifs,0⟩]) (depth:=1) (ip:=iter.pos) (emit:=(do let _ <- call (.builtin "list.append") [.ref p,<- eval elt0 X.env])) rfl T hg ht (zacs he) I2 st2 f2 q) λr s5 hr=>?_
 obtain⟨rfl,z⟩:=hr
 exact z
theorem zayc(elt target iter target2 iter2:Expr)(ifs ifs2:List Expr)(scope:Scope)(cpos:Pos)(it acc:Value)(env:Env) :
  compTurn (.ListComp elt [⟨target,iter,ifs,0⟩,⟨target2,iter2,ifs2,0⟩] scope cpos) 0 it acc env=(do
   standAt iter.pos
   match <- pyNext it with
   | none=>pure (.done .next)
   | some v=>
    letOwnedTupleGo target it v
    assign target env v
    let mut ok:=true
    for c in ifs do
     if ok then ok <- isTrue c env (eval c env)
    if ok then do
     let x <- eval iter2 env
     standAt iter2.pos
     let x <- foldedSetIterable iter2 env x
     let i <- holding [x] (pyIter x)
     let _ <- runOwn (.compStart (.ListComp elt [⟨target,iter,ifs,0⟩,⟨target2,iter2,ifs2,0⟩] scope cpos) 1 i acc env) env
     again (.compLoop (.ListComp elt [⟨target,iter,ifs,0⟩,⟨target2,iter2,ifs2,0⟩] scope cpos) 0 it acc env)
    else again (.compLoop (.ListComp elt [⟨target,iter,ifs,0⟩,⟨target2,iter2,ifs2,0⟩] scope cpos) 0 it acc env)):=rfl
noncomputable def tComp2(wi:TI)(g:TG)(tt:TT)(wi2:TI)(g2:TG)(tt2:TT)(te:TE)(own:List Str)(fr:List Nat):TE:=zaob wi g tt (λp=>zafn wi2 g2 tt2 (zacr p te)) own fr
theorem zaop{scope:Scope}{N' own:List Str}{fr:List Nat}{elt target iter target2 iter2:Expr}{ifs ifs2:List Expr}{cpos:Pos}{wi wi2:TI}{g g2:TG}{tt tt2:TT}{te:TE}(c:CompOk X scope N' own fr)(hc:X.calm=true)(hi:PI X target iter wi)
  (hb:∀(cl:List (Str×Addr)) (C:Addr) (s:Shared) (H:Hp) (fp:List Addr),PG (cxComp X scope N' own cl C s H fp) target g/\PF (cxComp X scope N' own cl C s H fp) ifs tt/\PI (cxComp X scope N' own cl C s H fp) target2 iter2 wi2/\PG (cxComp X scope N' own cl C s H fp) target2 g2/\PF (cxComp X scope N' own cl C s H fp) ifs2 tt2/\PE (cxComp X scope N' own cl C s H fp) elt te)
  (hs:∀x,foldedSetIterable iter X.env x=pure x:=by intro _;rfl)(hs2:∀env x,foldedSetIterable iter2 env x=pure x:=by intro _ _;rfl) :
  PE X (.ListComp elt [⟨target,iter,ifs,0⟩,⟨target2,iter2,ifs2,0⟩] scope cpos) (tComp2 wi g tt wi2 g2 tt2 te own fr):=
 zafd (emit:=λacc env=>do
   let x <- eval iter2 env
   standAt iter2.pos
   let x <- foldedSetIterable iter2 env x
   let _ <- runOwn (.compStart (.ListComp elt [⟨target,iter,ifs,0⟩,⟨target2,iter2,ifs2,0⟩] scope cpos) 1 (<- holding [x] (pyIter x)) acc env) env) c hc (λit acc env=>by
   rw[zayc]
   refine bind_congr λ_=>bind_congr λr=>?_
   cases r with
   | none=>rfl
   | some v=>
    refine bind_congr λ_=>bind_congr λ_=>bind_congr λok=>?_
    cases ok with
    | false=>rfl
    | true=>simp only[if_true,bind_assoc,pure_bind]) hi
  (λcl C s H fp p=>let⟨h1,h2,h3,h4,h5,h6⟩:=hb cl C s H fp;⟨h1,h2,zafo (X:=cxComp X scope N' own cl C s H fp) rfl hc h3 h4 h5 h6 (λx=>hs2 _ x)⟩) hs
end
noncomputable def NoAc(env:DEnv):Prop:=∀(i:Nat)(d:PyData),env[i]?≠some (.ac d)
noncomputable def GZ(lo hi:Nat)(g:GT):Prop:=∀d env e1,g d env=some e1->e1.length=env.length/\(∀i,(i<lo\/hi<=i)->e1[i]?=env[i]?)/\(NoAc env->NoAc e1)
theorem zaoq{env:DEnv}{i:Nat}{d:PyData}(h:NoAc env):NoAc (env.set i (.pl d)):=by
 intro j d' e
 by_cases q:i=j
 ·subst q
  by_cases l:i<env.length
  ·rw[qAT l]at e;cases e
  ·rw[qCI (by simp;omega)]at e;cases e
 ·rw[qd q]at e;exact h j d' e
theorem zny{lo hi i:Nat}(h:lo<=i)(h':i<hi):GZ lo hi (gN i):=by
 intro d env e1 e
 cases e
 exact⟨qAO,λj hj=>qd (by omega),zaoq⟩
theorem zrv{g:GT}{t:TF}{e:EF}{env:DEnv}:∀{ds rs:List PyData},zdl g t e env ds=some rs->rs.length<=ds.length
 | [],rs,h=>by cases h;exact qN _
 | d::ds,rs,h=>by
  unfold zdl at h
  obtain⟨e1,_,h⟩:=qA.mp h
  obtain⟨b,_,h⟩:=qA.mp h
  split at h
  ·obtain⟨r,_,h⟩:=qA.mp h
   obtain⟨rs',h',rfl⟩:=qF.mp h
   have:=zrv h'
   simp;omega
  ·have:=zrv h
   simp;omega
noncomputable def innL(f2:IF')(g2:GT)(t2:TF)(e:EF)(e1:DEnv):Option (List PyData):=(f2 e1).bind λz=>if z.1.length<300 then zdl g2 t2 e e1 z.1 else none
noncomputable def zie(g:GT)(t:TF)(f2:IF')(g2:GT)(t2:TF)(e:EF)(env:DEnv):List PyData->Option (List PyData)
 | []=>some []
 | d::ds=>(g d env).bind λe1=>(t e1).bind λb=>if b=true then(innL f2 g2 t2 e e1).bind λr1=>(zie g t f2 g2 t2 e env ds).map λrs=>r1++rs else zie g t f2 g2 t2 e env ds
noncomputable def zmq(own:List Str)(fr:List Nat)(fi:IF')(g:GT)(t:TF)(f2:IF')(g2:GT)(t2:TF)(e:EF):EF:=λenv=>(fi env).bind λz=>if z.1.length<300 then
 (zie g t f2 g2 t2 e (envB own fr env) z.1).map λrs=>⟨.list rs,true,if zdm rs=true then[]else z.2++capA fr env⟩else none
theorem zaor{wi2:TI}{g2:TG}{tt2:TT}{te:TE}{f2:IF'}{gf2:GT}{t2:TF}{e:EF}{B:Addr->Prop}{H1:Hp}{e1:DEnv}{σ:St}{H:Hp}{p:Addr}{vs:List V}{done rest ds:List PyData}{bs:List Nat}{Q:St->Hp->Prop}{k n:Nat}
  (h5:SI wi2 f2)(h6:SG g2 gf2)(hy:GZ k n gf2)(h7:ST tt2 t2)(h4:SE te e)(na:NoAc e1)(no:∀(i:Nat) (d:PyData),k<=i->i<n->e1[i]?≠some (.pl d))
  (hB:B p)(hp:H1 p=none)(hE:EnvOk B H1 e1 σ H)(ep:H p=some (.lst vs))(rd:Rps (Offs B H) done vs)(ei:f2 e1=some (ds,bs))(dl:done.length+ds.length<100000)(ec:zdl gf2 t2 e e1 ds=some rest)
  (q:∀σ' H' vs',H' p=some (.lst vs')->Rps (Offs B H') (done++rest) vs'->EnvOk B H1 e1 σ' H'->Q σ' H'):zafn wi2 g2 tt2 (zacr p te) σ H Q:=by
 refine h5 B H1 e1 σ H hE ds bs ei _ λJ H4 s4 yl=>?_
 have hE4:=hE.up s4
 have n4:Offs (λb=>b=p) H4 p=none:=Offs.out rfl
 refine⟨λi m σ' H'=>m=ds.length - i/\i<=ds.length/\∃vs done' rest',H' p=some (.lst vs)/\Rps (Offs B H') done' vs/\done'.length<=done.length+i/\zdl gf2 t2 e e1 (ds.drop i)=some rest'/\done'++rest'=done++rest/\EnvOk B (Offs (λb=>b=p) H4) e1 σ' H',
  ⟨ds.length,rfl,qAQ _,vs,done,rest,s4 _ _ ep,Rps.same (Offs.grow s4) _ rd,qN _,ec,rfl,⟨hE4.len,hE4.pl,λi d z=>absurd z (na i d),hE4.inj,Offs.same _ _,hE4.fxs⟩⟩,?_⟩
 rintro i m σ' H' ⟨rfl,hi,vs,done',rest',ep',rd',dl',ec',edr,hE'⟩
 obtain⟨yi,ys⟩:=yl B H' hE'.fxs λb o z=>by
  obtain⟨z1,z2⟩:=Offs.of z
  have hb:¬B b:=λy=>z1 (.inl y)
  rw[Offs.get hb]
  exact hE'.base b o (by rw[Offs.get λy=>hb (by rw[y];exact hB)];exact z2)
 by_cases hlt:i<ds.length
 ·obtain⟨yg,yy⟩:=yi i ds[i] (qH hlt)
  refine .inr ⟨yg,λσ'' H''=>i+1<=ds.length/\∃vs done' rest',H'' p=some (.lst vs)/\Rps (Offs B H'') done' vs/\done'.length<=done.length+(i+1)/\zdl gf2 t2 e e1 (ds.drop (i+1))=some rest'/\done'++rest'=done++rest/\EnvOk B (Offs (λb=>b=p) H4) e1 σ'' H'',?_,?_⟩
  ·rintro σ'' H'' ⟨hle,hh⟩
   exact⟨ds.length - (i+1),by omega,rfl,hle,hh⟩
  ·intro x H'' hyx
   obtain⟨sy,ry⟩:=yy x H'' hyx
   rw[qAJ hlt]at ec'
   obtain⟨e2,ee2,ec'⟩:=qA.mp ec'
   obtain⟨b,eb,ec'⟩:=qA.mp ec'
   have ry':Rp (Offs (λa=>B a\/L2.own e1 σ' a) H'') ds[i] x:=Rp.same (Offs.sub λb z=>z.elim (λy=>y) λ⟨j,d',z,_⟩=>absurd z (na _ _)) _ ry
   refine h6 _ _ e1 σ' H'' _ x (hE'.up sy) ry' e2 ee2 _ λσ2 hE2=>?_
   refine h7 _ _ e2 σ2 H'' hE2 b eb _ λH3 s3=>?_
   have hE3:=hE2.up s3
   obtain⟨gl,gk,_⟩:=hy _ _ _ ee2
   have back:∀{H4':Hp},EnvOk B (Offs (λb=>b=p) H4) e2 σ2 H4'->EnvOk B (Offs (λb=>b=p) H4) e1 σ2 H4':=λ{H4'} hh=>hh.weaken gl.symm (λj d' ej=>by
    by_cases hj:j<k\/n<=j
    ·rw[gk j hj];exact ej
    ·exact absurd ej (no j d' (by omega) (by omega))) na
   cases b with
   | false=>
    have ec':zdl gf2 t2 e e1 (ds.drop (i+1))=some rest':=ec'
    exact iteF ⟨hlt,vs,done',rest',s3 _ _ (sy _ _ ep'),Rps.same (Offs.grow (sy.trans s3)) _ rd',qBJ dl',ec',edr,back hE3⟩
   | true=>
    have ec':((e e2).bind λr=>(zdl gf2 t2 e e1 (ds.drop (i+1))).map λrs=>r.d::rs)=some rest':=ec'
    obtain⟨r,er,ec'⟩:=qA.mp ec'
    obtain⟨rest2,er',rfl⟩:=qF.mp ec'
    refine iteT (h4 _ _ e2 σ2 H3 hE3 r er _ λv H5 s5 hv=>?_)
    have t5:=(sy.trans s3).trans s5
    refine⟨vs,t5 _ _ ep',zlt (by rw[<- rd'.length];omega),hlt,vs++[v],done'++[r.d],rest2,zar,?_,by rw[qK];simp;omega,er',by rw[<- edr];simp,(back (hE3.up s5)).updFx hB n4⟩
    rw[Offs.upd hB]
    refine(Rps.same (Offs.grow t5) _ rd').append (zdc (Rp.same (Offs.sub λb z=>.inl z) _ hv.rp) zcv)
 ·have hi':i=ds.length:=by omega
  subst hi'
  rw[qBA]at ec'
  cases ec'
  rw[qAD]at edr
  subst edr
  exact .inl ⟨ys,q σ' H' vs ep' rd' ⟨hE'.len,hE'.pl,λi d z=>absurd z (na i d),hE'.inj,λb o z=>hE'.base b o (by rw[Offs.get λy=>by rw[y,hp]at z;cases z];exact s4 b o (hE.base b o z)),hE'.fxs⟩⟩
theorem zaos{own:List Str}{fr:List Nat}{env:DEnv}{i:Nat}(h:i<own.length):(envB own fr env)[i]?=some .no:=by
 unfold envB
 rw[qk (by simpa using h),qh,qH h];rfl
theorem zwt{own:List Str}{fr:List Nat}{wi wi2:TI}{g g2:TG}{tt tt2:TT}{te:TE}{fi f2:IF'}{gf gf2:GT}{t t2:TF}{e:EF}{k:Nat}(h1:SI wi fi)(h2:SG g gf)(hx:GZ 0 k gf)(hk:k<=own.length)(h3:ST tt t)
  (h5:SI wi2 f2)(h6:SG g2 gf2)(hy:GZ k own.length gf2)(h7:ST tt2 t2)(h4:SE te e) :
  SE (tComp2 wi g tt wi2 g2 tt2 te own fr) (zmq own fr fi gf t f2 gf2 t2 e):=by
 intro fx H0 env σ H h rr hr Q q
 unfold zmq at hr
 obtain⟨⟨ds,bs⟩,ei,hr⟩:=qA.mp hr
 split at hr
 ·rename_i hlen
  have hlen:ds.length<300:=hlen
  obtain⟨rs,ers,rfl⟩:=qF.mp hr
  refine h1 fx H0 env σ H h ds bs ei _ λJ H1 s yl=>λp hp=>?_
  have hB:=zmp h s hp own fr bs
  generalize hA:(λb=>lim fx env σ (bs++capA fr env) b)=A
  have hA':∀b,lim fx env σ (bs++capA fr env) b↔A b:=λb=>by rw[<- hA]
  have eA:(λb=>lim fx env σ (bs++capA fr env) b\/b=p)=λb=>A b\/b=p:=by rw[<- hA]
  rw[eA]at hB
  have seen:∀{σ':St}{H':Hp},EnvOk (λb=>A b\/b=p) H1 (envB own fr env) σ' H'->Same (Offs (λb=>fx b\/L2.own (frzs env bs) σ b) H1) (Offs (λb=>A b\/b=p) H'):=λ{σ' H'} hE=>Offs.mono hE.base λb o eo n z=>by
   rcases z with z|z
   ·rcases(hA' b).mpr z with z|⟨i,d,z1,z2,z3⟩
    ·exact n (.inl z)
    ·exact n (.inr ⟨i,d,zik (λy=>z1 (qi _ y)) z2,z3⟩)
   ·rw[z,hp]at eo;cases eo
  refine⟨λi m σ' H'=>m=ds.length - i/\i<=ds.length/\∃vs done rest,H' p=some (.lst vs)/\Rps (Offs (λb=>A b\/b=p) H') done vs/\done.length<=i * 300/\zie gf t f2 gf2 t2 e (envB own fr env) (ds.drop i)=some rest/\done++rest=rs/\EnvOk (λb=>A b\/b=p) H1 (envB own fr env) σ' H',
   ⟨ds.length,rfl,qAQ _,[],[],rs,zar,zcv,qAQ _,ers,rfl,hB⟩,?_⟩
  rintro i m σ' H' ⟨rfl,hi,vs,done,rest,ep,rd,dl,ec,edr,hE⟩
  obtain⟨yi,ys⟩:=yl _ H' hE.fxs (seen hE)
  by_cases hlt:i<ds.length
  ·obtain⟨yg,yy⟩:=yi i ds[i] (qH hlt)
   refine .inr ⟨yg,λσ'' H''=>i+1<=ds.length/\∃vs done rest,H'' p=some (.lst vs)/\Rps (Offs (λb=>A b\/b=p) H'') done vs/\done.length<=(i+1) * 300/\zie gf t f2 gf2 t2 e (envB own fr env) (ds.drop (i+1))=some rest/\done++rest=rs/\EnvOk (λb=>A b\/b=p) H1 (envB own fr env) σ'' H'',?_,?_⟩
   ·rintro σ'' H'' ⟨hle,hh⟩
    exact⟨ds.length - (i+1),by omega,rfl,hle,hh⟩
   ·intro x H'' hyx
    obtain⟨sy,ry⟩:=yy x H'' hyx
    rw[qAJ hlt]at ec
    obtain⟨e1,ee1,ec⟩:=qA.mp ec
    obtain⟨b,eb,ec⟩:=qA.mp ec
    have ry':Rp (Offs (λa=>(A a\/a=p)\/L2.own (envB own fr env) σ' a) H'') ds[i] x:=Rp.same (Offs.sub λb z=>z.elim (λy=>y) λ⟨j,d',z,_⟩=>absurd z zfv) _ ry
    refine h2 _ H1 (envB own fr env) σ' H'' _ x (hE.up sy) ry' e1 ee1 _ λσ2 hE2=>?_
    refine h3 _ H1 e1 σ2 H'' hE2 b eb _ λH3 s3=>?_
    have hE3:=hE2.up s3
    obtain⟨gl,gk,gn⟩:=hx _ _ _ ee1
    have na:NoAc e1:=gn λ_ _=>zfv
    have back:∀{σ4:St}{H4:Hp},EnvOk (λb=>A b\/b=p) H1 e1 σ4 H4->EnvOk (λb=>A b\/b=p) H1 (envB own fr env) σ4 H4:=λ{σ4 H4} hh=>hh.weaken gl.symm (λj d' ej=>by
     by_cases hj:own.length<=j
     ·rw[gk j (.inr (by omega))];exact ej
     ·obtain⟨_,k,rfl,_⟩:=zmo ej;omega) λj d'=>zfv
    cases b with
    | false=>
     have ec:zie gf t f2 gf2 t2 e (envB own fr env) (ds.drop (i+1))=some rest:=ec
     exact iteF ⟨hlt,vs,done,rest,s3 _ _ (sy _ _ ep),Rps.same (Offs.grow (sy.trans s3)) _ rd,by omega,ec,edr,back hE3⟩
    | true=>
     have ec:((innL f2 gf2 t2 e e1).bind λr1=>(zie gf t f2 gf2 t2 e (envB own fr env) (ds.drop (i+1))).map λrs=>r1++rs)=some rest:=ec
     obtain⟨r1,er,ec⟩:=qA.mp ec
     obtain⟨rest',er',rfl⟩:=qF.mp ec
     obtain⟨⟨ds2,bs2⟩,e2,er⟩:=qA.mp er
     split at er
     ·rename_i hl2
      have hl2:ds2.length<300:=hl2
      have l2:=zrv er
      refine iteT (zaor (B:=λb=>A b\/b=p) (p:=p) (vs:=vs) (done:=done) h5 h6 hy h7 h4 na (λj d' h8 h9 ej=>?_) (.inr rfl) hp hE3 (s3 _ _ (sy _ _ ep)) (Rps.same (Offs.grow (sy.trans s3)) _ rd) e2 (by omega) er λσ5 H5 vs5 ep5 rd5 hE5=>?_)
      ·rw[gk j (.inr h8),zaos h9]at ej;cases ej
      ·have l2':r1.length<=ds2.length:=l2
       exact⟨hlt,vs5,done++r1,rest',ep5,rd5,by rw[qK];omega,er',by rw[<- edr,qBI],back hE5⟩
     ·cases er
  ·have hi':i=ds.length:=by omega
   subst hi'
   rw[qBA]at ec
   cases ec
   rw[qAD]at edr
   subst edr
   refine .inl ⟨ys,q _ H' (s.trans hE.base) ⟨?_,λ_=>⟨p,rfl,s.free hp,?_⟩⟩⟩
   ·show Rp (Offs (lim fx env σ (if zdm done=true then[]else bs++capA fr env)) H') (.list done) (.ref p)
    have nl:∀cs,¬lim fx env σ cs p:=λcs z=>by
     obtain⟨o,eo⟩:=(h.up s).lims _ p z
     rw[hp]at eo;cases eo
    refine zdx (by rw[Offs.get (nl _)];exact ep) ?_
    split
    ·rename_i f;exact zid f rd
    ·exact Rps.same (Offs.sub λb z=>.inl ((hA' b).mp z)) _ rd
   ·show zfs (Offs (λb=>lim fx env σ (if zdm done=true then[]else bs++capA fr env) b\/b=p) H') H' p (.list done)
    refine⟨vs,ep,?_⟩
    split
    ·rename_i f;exact zid f rd
    ·exact Rps.same (Offs.sub λb z=>z.imp (hA' b).mp id) _ rd
 ·cases hr
end L2
namespace PySem
open Sem (wp)
theorem zhx:plainId "set.update.loop"=true:=by decide +kernel
theorem zlj:entryFor table "set.update.loop"=some Builtin.«set.update.loop»:=entryFor_of_fast (by kernel_rfl)
theorem zakm(a:Value):checkBuiltinCall "set.__new__" ⟨[.type "set",a],[]⟩=pure ():=by kernel_rfl
theorem zagy(a:Value):checkTypeCall "set" ⟨[a],[]⟩=pure ():=by kernel_rfl
end PySem
namespace L2
open PySem PySem.Spec PyProof.Rows
instance memKey (k:Key) (l:List Key):Decidable (k∈l):=decidable_of_iff (∃x,x∈l/\x=k) ⟨λ⟨x,h,e⟩=>e▸h,λh=>⟨k,h,rfl⟩⟩
noncomputable def unl(seen:List Key):List Key->Nat
 | []=>0
 | k::ks=>(if k∈seen then 0 else 1)+unl (k::seen) ks
theorem zakn{prog:Program}{w:World}{A:Around}{E:Value->Shared->Prop}{s:Shared}(a:Value){Q₁:Value->Shared->Prop}
  (h:∀led:Bool,Q₁ (.ref s.heap.objs.size) {s with heap:=s.heap.push {cls:=.type "set",dict:=none,data:=.set #[] 0 (.fresh 0 0 led)}}) :
  codeAny (model prog w) A (.call (.builtin "set.__new__") ⟨[.type "set",a],[]⟩) (wants Q₁ E) s:=by
 refine codeAny_call_builtin F.plain_set_new F.entry_set_new (wpAny_of_eq (zakm a) ?_)
 have hsub:=sub_set_self
 obtain⟨hp,g,d,tk,os⟩:=s
 unfold Builtin.«set.__new__» Builtin.Frozenset.newClass
 dsimp only
 wp_walk
 refine wpAny_askSetting (qO ?_)
 dsimp only
 simp only[newObj]
 refine qD (wpAny_alloc (qO ?_))
 exact qO (h _)
theorem zadd{M:Model}{A:Around}{E:Value->Shared->Prop}{s:Shared}{self v:Value}{Q:Unit->Shared->Prop}(hT:s.TypeIs self "set")(hQ:Q () s) :
  wpAny M A (checkBuiltinCall "set.__init__" ⟨[self,v],[]⟩) Q E s:=by
 simp only[checkBuiltinCall,kind_set_init,split_set_init,sig_set_init]
 refine qD (qA0 hT sub_set_self ?_)
 simp only[Bool.not_true,qAc,if_false]
 unfold Bind.checkArgs
 dsimp only
 refine qD (m:=Bind.printed "set" true _ _) (printed_name (by decide) ?_)
 refine qD (m:=Bind.printed "*" false _ _) (printed_star (self:=self) rfl hT λshort=>?_)
 have e:(Manifest.Receiver.self==Manifest.Receiver.none)=false:=by decide
 have n:(if(Manifest.Receiver.self==Manifest.Receiver.none)=true then[self,v].length else[self,v].length - 1)=1:=by simp[e]
 rw[n]
 simp only[qCF]
 have c:Bind.check ⟨.positional,"set","*",.self,[⟨"iterable",.posOnly,false⟩]⟩ "set" short 1 []=pure ():=by
  first|rfl|kernel_rfl
 rw[c]
 exact qO hQ
theorem zats{prog:Program}{w:World}{h:Heap}{led:Bool}:(h.push {cls:=.type "set",dict:=none,data:=.set #[] 0 (.fresh 0 0 led)}).SetOf (zbt prog w) h.objs.size (λx=>decide (x∈([]:List Key))) 0:=by
 refine⟨_,#[],0,_,qW _ rfl,⟨rfl,rfl,rfl⟩,rfl,λe he=>?_,λk=>?_,by decide,by cases led<;>rfl,rfl⟩
 ·simp at he
 ·simp
theorem zatt{k:Key}{u:Value}(r:RelV (kV k) u):u.scannable=true:=by
 cases k with
 | inl i=>obtain⟨t,e⟩:=(show ∃t,u=Value.int i t from r);subst e;rfl
 | inr x=>obtain⟨t,e⟩:=(show ∃t,u=Value.str x t from r);subst e;rfl
theorem zrw{P:Program}{w:World}:∀{ks:List Key}{us:List Value},Vals (ks.map kV) us->Paired (λ(v:Value)(k:Key)=>zrj k v=true/\v.scannable=true) us ks
 | [],us,h=>by cases h;exact .nil
 | k::ks,us,h=>by cases h with|cons r t=>exact .cons ⟨zacp (P:=P) (w:=w) r,zatt r⟩ (zrw (P:=P) (w:=w) t)
theorem zayd:bootBuiltins "len"=some (.builtin "len"):=by decide +kernel
theorem zaye:bootBuiltins "set"=some (.type "set"):=by decide +kernel
noncomputable def zagz:List PyData->Option (List Key)
 | []=>some []
 | d::ds=>(keyD d).bind λk=>(zagz ds).map λks=>k::ks
theorem zwu{H:Hp}:∀{ds:List PyData}{vs:List V}{ks:List Key},Rps H ds vs->zagz ds=some ks->vs=ks.map kV
 | [],vs,ks,h,e=>by unfold Rps at h;cases e;subst h;rfl
 | d::ds,vs,ks,h,e=>by
  obtain⟨k,ek,e⟩:=qA.mp e
  obtain⟨ks',e',rfl⟩:=qF.mp e
  cases zci.mp h with
  | cons h1 h2=>
   rename_i v vs'
   have:=zwu (zci.mpr h2) e'
   subst this
   cases d with
   | int i=>cases ek;unfold Rp at h1;subst h1;rfl
   | str x=>cases ek;unfold Rp at h1;subst h1;rfl
   | _=>cases ek
end L2
namespace PySem
open Sem (wp)
noncomputable def SqIt(b:Bool)(h:Heap)(it l:Addr)(i:Nat):Prop:=match b with
 | true=>h.IsListIter it l i
 | false=>h.IsTupleIter it l i
noncomputable def zdt(b:Bool)(h:Heap)(l:Addr)(xs:Array Value):Prop:=match b with
 | true=>h.IsList l xs
 | false=>h.IsTuple l xs
theorem SqIt.moved{b:Bool}{h h':Heap}{it l:Addr}{i:Nat}(x:SqIt b h it l i)(e:∀o,h.get? it=some o->h'.get? it=some o):SqIt b h' it l i:=by
 cases b with
 | true=>obtain⟨o,q,r⟩:=x;exact⟨o,e o q,r⟩
 | false=>obtain⟨o,q,r⟩:=x;exact⟨o,e o q,r⟩
theorem zdt.moved{b:Bool}{h h':Heap}{l:Addr}{xs:Array Value}(x:zdt b h l xs)(e:∀o,h.get? l=some o->h'.get? l=some o):zdt b h' l xs:=by
 cases b with
 | true=>obtain⟨o,q,r⟩:=x;exact⟨o,e o q,r⟩
 | false=>obtain⟨o,q,r⟩:=x;exact⟨o,e o q,r⟩
theorem SqIt.at{b:Bool}{h h':Heap}{it l:Addr}{i:Nat}(x:SqIt b h it l i)(e:∀o,h.get? it=some o->h'.get? it=some o):SqIt b h' it l i:=x.moved e
theorem SqIt.extBut{b:Bool}{h h':Heap}{it l c:Addr}{i:Nat}(x:SqIt b h it l i)(s:Heap.ExtBut c h h')(n:it≠c):SqIt b h' it l i:=x.moved λo e=>s _ o n e
theorem zdt.extBut{b:Bool}{h h':Heap}{l c:Addr}{xs:Array Value}(x:zdt b h l xs)(s:Heap.ExtBut c h h')(n:l≠c):zdt b h' l xs:=x.moved λo e=>s _ o n e
theorem SqIt.obj{b:Bool}{h:Heap}{it l:Addr}{i:Nat}(x:SqIt b h it l i):∃o,h.get? it=some o/\∀v,o.data≠.cell v:=by
 cases b with
 | true=>obtain⟨o,q,_,r⟩:=x;exact⟨o,q,λv z=>by rw[r]at z;cases z⟩
 | false=>obtain⟨o,q,_,r⟩:=x;exact⟨o,q,λv z=>by rw[r]at z;cases z⟩
section
variable{prog:Program}{w:World}{A:Around}{E:Value->Shared->Prop}{s:Shared}
theorem zwv{it l:Addr}{i:Nat}{items}{x:Value}{Q:Value->Shared->Prop}(hit:s.heap.IsTupleIter it l i)
  (hl:s.heap.IsTuple l items)(hx:items[i]?=some x)
  (hQ:∀h',h'.IsTupleIter it l (i+1)->Heap.SameBut it s.heap h'->Q x {s with heap:=h'}) :
  wpAny (model prog w) A (qo (.ref it)) Q E s:=by
 obtain⟨o,ho,hc,hd⟩:=id hit
 obtain⟨ol,hol,_,nl,hdl⟩:=hl
 unfold qo
 refine qD (qAh (name:=Str.ofString "__next__") hit.typeIs qBM
  (qBC qBM hit.typeIs qCw ?_ (qCq _)))
 show wpAny _ _ (field (.ref it) 0 >>=_) _ _ s
 refine qD (qAV ho hd (x:=.ref l) rfl ?_)
 show wpAny _ _ (if(Value.ref l==Value.none)=true then _ else _) _ _ s
 rw[if_neg (show ¬((Value.ref l==Value.none)=true)from qV)]
 show wpAny _ _ (field (.ref it) 1 >>=_) _ _ s
 refine qD (qAV ho hd (x:=.int i 0) rfl ?_)
 show wpAny _ _ (seqItems? (.ref l) >>=_) _ _ s
 refine qD (qAW hol hdl ?_)
 simp only[qBf,hx]
 refine qD (wpAny_setField ho hd (by simp) (qO ⟨x,rfl,qO (hQ _ ?_ (qBE ..))⟩))
 exact⟨_,qDA _ ho (Obj.isFreed_of_fields (Obj.data_mapFields hd _)),(Obj.cls_mapFields ..).trans hc,by
  rw[Obj.data_mapFields hd];simp[rawInt]⟩
theorem zzs{it l:Addr}{i:Nat}{items}{Q:Value->Shared->Prop}(hh:A.handled=none)
  (hit:s.heap.IsTupleIter it l i)(hl:s.heap.IsTuple l items)(hx:items[i]?=none)
  (hE:∀h' e,Heap.ExtBut it s.heap h'->(∃o,h'.get? e=some o/\o.cls=.type "StopIteration")->E (.ref e) {s with heap:=h'}) :
  wpAny (model prog w) A (qo (.ref it)) Q E s:=by
 obtain⟨o,ho,hc,hd⟩:=id hit
 obtain⟨ol,hol,_,nl,hdl⟩:=hl
 unfold qo
 refine qD (qAh (name:=Str.ofString "__next__") hit.typeIs qBM
  (qBC qBM hit.typeIs qCw ?_ (qCq _)))
 show wpAny _ _ (field (.ref it) 0 >>=_) _ _ s
 refine qD (qAV ho hd (x:=.ref l) rfl ?_)
 show wpAny _ _ (if(Value.ref l==Value.none)=true then _ else _) _ _ s
 rw[if_neg (show ¬((Value.ref l==Value.none)=true)from qV)]
 show wpAny _ _ (field (.ref it) 1 >>=_) _ _ s
 refine qD (qAV ho hd (x:=.int i 0) rfl ?_)
 show wpAny _ _ (seqItems? (.ref l) >>=_) _ _ s
 refine qD (qAW hol hdl ?_)
 simp only[qBf,hx]
 refine qD (qCj (qD (wpAny_setField ho hd (by simp) ?_)))
 show wpAny _ _ (newExc (.type "StopIteration") [] >>=_) _ _ _
 refine qD ?_
 simp only[newExc,newTuple]
 refine qD (qCk ?_ (by size_fits))
 refine qD (m:=firstArgMember _ _) (wpAny_of_eq (a:=Value.none) (by first|rfl|(simp only[firstArgMember];rfl)) ?_)
 refine qCk ?_ (by size_fits)
 simp only[raiseNew]
 refine qD (wpAny_handled ?_)
 first|rw[show A.in1.handled=none from hh]|rw[hh]
 refine qD (qO (wpAny_throw ?_))
 exact hE _ _ (((qBE ..).extBut.push _).push _) ⟨_,qW _ rfl,rfl⟩
theorem znz{b:Bool}{it l:Addr}{i:Nat}{xs:Array Value}{x:Value}{Q:Value->Shared->Prop}(hit:SqIt b s.heap it l i)(hl:zdt b s.heap l xs)(hx:xs[i]?=some x)
  (hQ:∀h',SqIt b h' it l (i+1)->Heap.SameBut it s.heap h'->Q x {s with heap:=h'}):wpAny (model prog w) A (qo (.ref it)) Q E s:=by
 cases b with
 | true=>exact wpAny_nextOf_list_item hit hl hx hQ
 | false=>exact zwv hit hl hx hQ
theorem zzt{b:Bool}{it l:Addr}{i:Nat}{xs:Array Value}{Q:Value->Shared->Prop}(hh:A.handled=none)(hit:SqIt b s.heap it l i)(hl:zdt b s.heap l xs)(hx:xs[i]?=none)
  (hE:∀h' e,Heap.ExtBut it s.heap h'->(∃o,h'.get? e=some o/\o.cls=.type "StopIteration")->E (.ref e) {s with heap:=h'}):wpAny (model prog w) A (qo (.ref it)) Q E s:=by
 cases b with
 | true=>exact wpAny_nextOf_list_end hh hit hl hx hE
 | false=>exact zzs hh hit hl hx hE
theorem zaha{b1 b2:Bool}{z TI TO i1 i2 l1 l2:Addr}{k1 k2:Nat}{xs ys:Array Value}{x y a b:Value}{Q:Value->Shared->Prop}(D:ZipApart z TI TO i1 i2 l1 l2)
  (hz:IsZip s.heap z TI TO .none)(hTI:IsPair s.heap TI (.ref i1) (.ref i2))(hTO:IsPair s.heap TO a b)
  (h1:SqIt b1 s.heap i1 l1 k1)(h2:SqIt b2 s.heap i2 l2 k2)(hl1:zdt b1 s.heap l1 xs)(hl2:zdt b2 s.heap l2 ys)(hx:xs[k1]?=some x)(hy:ys[k2]?=some y)
  (hQ:∀h',IsZip h' z TI TO (rawInt s.heap.objs.size)->IsPair h' TO x y->SqIt b1 h' i1 l1 (k1+1)->SqIt b2 h' i2 l2 (k2+1)->IsPair h' s.heap.objs.size x y->h'.objs.size=s.heap.objs.size+1->
   (∀c o,c≠z->c≠TO->c≠i1->c≠i2->s.heap.get? c=some o->h'.get? c=some o)->Q (.ref s.heap.objs.size) {s with heap:=h'}) :
  wpAny (model prog w) A (Builtin.«zip.__next__» ⟨[.ref z],[]⟩) (λfin s'=>∃v,fin=.done (.ret v)/\Q v s') E s:=by
 show wpAny _ _ (field (.ref z) 2 >>=_) _ _ _
 refine qD (qAV hz rfl (x:=.bool false) rfl ?_)
 show wpAny _ _ (field (.ref z) 3 >>=_) _ _ _
 refine qD (qAV hz rfl (x:=.ref TI) rfl ?_)
 refine qD (qAW hTI rfl ?_)
 show wpAny _ _ (Builtin.SmallTypes.ownedTupleIsFree (.ref z) >>=_) _ _ _
 refine qD ?_
 unfold Builtin.SmallTypes.ownedTupleIsFree
 refine qD (qAV hz rfl (x:=.none) rfl (qO ?_))
 simp only[if_true]
 refine qD (qCj ?_)
 refine qD (qAV hz rfl (x:=.ref TO) rfl ?_)
 refine qD (qA1 hz (by simp) λh₁ hz₁ hs₁=>?_)
 replace hz₁:IsZip h₁ z TI TO .ellipsis:=hz₁
 refine qD ?_
 simp only[List.zipIdx_cons,List.zipIdx_nil,qBS,qCQ]
 refine qD (qD (qCe ?_))
 show wpAny _ _ (qo (.ref i1) >>=_) _ _ _
 refine qD (znz (h1.extBut hs₁.extBut D.i1z) (hl1.extBut hs₁.extBut D.l1z) hx λh₂ h1₂ hs₂=>qO ?_)
 have hTO₂:IsPair h₂ TO a b:=hs₂.extBut _ _ D.TOi1 (hs₁.extBut _ _ D.TOz hTO)
 refine qD (qAW hTO₂ rfl ?_)
 refine qD (qCU hTO₂ λh₃ hTO₃ hs₃=>?_)
 replace hTO₃:IsPair h₃ TO x b:=hTO₃
 refine qD (qBx (qO ?_))
 refine qD (qD (qCe ?_))
 show wpAny _ _ (qo (.ref i2) >>=_) _ _ _
 refine qD (znz (((h2.extBut hs₁.extBut D.i2z).extBut hs₂.extBut D.i12.symm).extBut hs₃.extBut D.TOi2.symm)
  (((hl2.extBut hs₁.extBut D.l2z).extBut hs₂.extBut D.l2i1).extBut hs₃.extBut D.l2TO) hy λh₄ h2₄ hs₄=>qO ?_)
 have hTO₄:IsPair h₄ TO x b:=hs₄.extBut _ _ D.TOi2 hTO₃
 refine qD (qAW hTO₄ rfl ?_)
 refine qD (qCU hTO₄ λh₅ hTO₅ hs₅=>?_)
 replace hTO₅:IsPair h₅ TO x y:=hTO₅
 refine qD (qBx (qO (qO ?_)))
 refine qD (qAW hTO₅ rfl ?_)
 refine qD (wpAny_newTuple ?_)
 have hsz:h₅.objs.size=s.heap.objs.size:=by rw[hs₅.1,hs₄.1,hs₃.1,hs₂.1,hs₁.1]
 have hz₅:IsZip h₅ z TI TO .ellipsis:=hs₅.extBut _ _ D.TOz.symm (hs₄.extBut _ _ D.i2z.symm (hs₃.extBut _ _ D.TOz.symm (hs₂.extBut _ _ D.i1z.symm hz₁)))
 have hk₅:∀c o,c≠z->c≠TO->c≠i1->c≠i2->s.heap.get? c=some o->h₅.get? c=some o:=λc o c1 c2 c3 c4 e=>
  hs₅.extBut _ _ c2 (hs₄.extBut _ _ c4 (hs₃.extBut _ _ c2 (hs₂.extBut _ _ c3 (hs₁.extBut _ _ c1 e))))
 have h1₅:SqIt b1 h₅ i1 l1 (k1+1):=((h1₂.extBut hs₃.extBut D.TOi1.symm).extBut hs₄.extBut D.i12).extBut hs₅.extBut D.TOi1.symm
 have h2₅:SqIt b2 h₅ i2 l2 (k2+1):=h2₄.extBut hs₅.extBut D.TOi2.symm
 have hzlt:z<h₅.objs.size:=qP hz₅
 have hTOlt:TO<h₅.objs.size:=qP hTO₅
 have hi1lt:i1<h₅.objs.size:=by obtain⟨_,e,_⟩:=h1₅.obj;exact qP e
 have hi2lt:i2<h₅.objs.size:=by obtain⟨_,e,_⟩:=h2₅.obj;exact qP e
 show wpAny _ _ (Builtin.SmallTypes.ownedTupleHandOut (.ref z) (.ref h₅.objs.size) >>=_) _ _ _
 refine qD ?_
 unfold Builtin.SmallTypes.ownedTupleHandOut
 have hz₆:IsZip (h₅.push {cls:=.type "tuple",data:=.seq #[x,y]}) z TI TO .ellipsis:=qE _ hz₅
 refine qD (qA1 hz₆ (by simp) λh₇ hz₇ hs₇=>?_)
 replace hz₇:IsZip h₇ z TI TO (rawInt h₅.objs.size):=hz₇
 refine qA1 hz₇ (by simp) λh₈ hz₈ hs₈=>?_
 replace hz₈:IsZip h₈ z TI TO (rawInt h₅.objs.size):=hz₈
 have up:∀c o,c≠z->h₅.get? c=some o->h₈.get? c=some o:=λc o c1 e=>hs₈.extBut _ _ c1 (hs₇.extBut _ _ c1 (qE _ e))
 have hT₈:IsPair h₈ h₅.objs.size x y:=hs₈.extBut _ _ (qAm hzlt) (hs₇.extBut _ _ (qAm hzlt) (qW _ rfl))
 have hz8:h₈.objs.size=h₅.objs.size+1:=by rw[hs₈.1,hs₇.1,qAz]
 rw[hsz]at hz₈ hT₈ hz8
 refine qO ⟨_,rfl,?_⟩
 show Q (.ref h₅.objs.size) _
 rw[hsz]
 exact hQ h₈ hz₈ (up _ _ D.TOz hTO₅) (h1₅.at λo e=>up _ o D.i1z e) (h2₅.at λo e=>up _ o D.i2z e) hT₈ hz8 λc o c1 c2 c3 c4 e=>up c o c1 (hk₅ c o c1 c2 c3 c4 e)
theorem zako{b1 b2:Bool}{z TI TO i1 i2 l1 l2:Addr}{k1 k2:Nat}{xs ys:Array Value}{a b:Value}{Q:Fin->Shared->Prop}(hh:A.handled=none)(D:ZipApart z TI TO i1 i2 l1 l2)
  (hz:IsZip s.heap z TI TO .none)(hTI:IsPair s.heap TI (.ref i1) (.ref i2))(hTO:IsPair s.heap TO a b)
  (h1:SqIt b1 s.heap i1 l1 k1)(h2:SqIt b2 s.heap i2 l2 k2)(hl1:zdt b1 s.heap l1 xs)(hl2:zdt b2 s.heap l2 ys)(hend:xs[k1]?=none\/ys[k2]?=none)
  (hE:∀h' e,(∀c o,c≠z->c≠TO->c≠i1->c≠i2->s.heap.get? c=some o->h'.get? c=some o)->(∃o,h'.get? e=some o/\o.cls=.type "StopIteration")->E (.ref e) {s with heap:=h'}) :
  wpAny (model prog w) A (Builtin.«zip.__next__» ⟨[.ref z],[]⟩) Q E s:=by
 show wpAny _ _ (field (.ref z) 2 >>=_) _ _ _
 refine qD (qAV hz rfl (x:=.bool false) rfl ?_)
 show wpAny _ _ (field (.ref z) 3 >>=_) _ _ _
 refine qD (qAV hz rfl (x:=.ref TI) rfl ?_)
 refine qD (qAW hTI rfl ?_)
 show wpAny _ _ (Builtin.SmallTypes.ownedTupleIsFree (.ref z) >>=_) _ _ _
 refine qD ?_
 unfold Builtin.SmallTypes.ownedTupleIsFree
 refine qD (qAV hz rfl (x:=.none) rfl (qO ?_))
 simp only[if_true]
 refine qD (qCj ?_)
 refine qD (qAV hz rfl (x:=.ref TO) rfl ?_)
 refine qD (qA1 hz (by simp) λh₁ hz₁ hs₁=>?_)
 replace hz₁:IsZip h₁ z TI TO .ellipsis:=hz₁
 refine qD ?_
 simp only[List.zipIdx_cons,List.zipIdx_nil,qBS,qCQ]
 refine qD (qD (qCe ?_))
 show wpAny _ _ (qo (.ref i1) >>=_) _ _ _
 cases hx:xs[k1]? with
 | none=>
  refine qD (zzt hh (h1.extBut hs₁.extBut D.i1z) (hl1.extBut hs₁.extBut D.l1z) hx λh₂ e hs₂ he=>?_)
  obtain⟨oe,hoe,hce⟩:=he
  have hz₂:IsZip h₂ z TI TO .ellipsis:=hs₂ _ _ D.i1z.symm hz₁
  have hez:e≠z:=λx=>by subst x;rw[hz₂]at hoe;cases hoe;simp at hce
  refine qA1 hz₂ (by simp) λh₃ _ hs₃=>hE h₃ e (λc o c1 _ c3 _ x=>hs₃.extBut _ _ c1 (hs₂ _ _ c3 (hs₁.extBut _ _ c1 x))) ⟨oe,hs₃.extBut _ _ hez hoe,hce⟩
 | some x=>
  have hy:ys[k2]?=none:=by rcases hend with h|h;rw[hx]at h;cases h;exact h
  refine qD (znz (h1.extBut hs₁.extBut D.i1z) (hl1.extBut hs₁.extBut D.l1z) hx λh₂ h1₂ hs₂=>qO ?_)
  have hTO₂:IsPair h₂ TO a b:=hs₂.extBut _ _ D.TOi1 (hs₁.extBut _ _ D.TOz hTO)
  refine qD (qAW hTO₂ rfl ?_)
  refine qD (qCU hTO₂ λh₃ hTO₃ hs₃=>?_)
  refine qD (qBx (qO ?_))
  refine qD (qD (qCe ?_))
  show wpAny _ _ (qo (.ref i2) >>=_) _ _ _
  refine qD (zzt hh (((h2.extBut hs₁.extBut D.i2z).extBut hs₂.extBut D.i12.symm).extBut hs₃.extBut D.TOi2.symm)
   (((hl2.extBut hs₁.extBut D.l2z).extBut hs₂.extBut D.l2i1).extBut hs₃.extBut D.l2TO) hy λh₄ e hs₄ he=>?_)
  obtain⟨oe,hoe,hce⟩:=he
  have hz₄:IsZip h₄ z TI TO .ellipsis:=hs₄ _ _ D.i2z.symm (hs₃.extBut _ _ D.TOz.symm (hs₂.extBut _ _ D.i1z.symm hz₁))
  have hez:e≠z:=λx=>by subst x;rw[hz₄]at hoe;cases hoe;simp at hce
  refine qA1 hz₄ (by simp) λh₅ _ hs₅=>hE h₅ e (λc o c1 c2 c3 c4 x=>hs₅.extBut _ _ c1 (hs₄ _ _ c4 (hs₃.extBut _ _ c2 (hs₂.extBut _ _ c3 (hs₁.extBut _ _ c1 x))))) ⟨oe,hs₅.extBut _ _ hez hoe,hce⟩
structure ZipAt(b1 b2:Bool)(h:Heap)(z TI TO i1 i2 l1 l2:Addr)(f0:Value)(k:Nat):Prop where
 z:IsZip h z TI TO f0
 ti:IsPair h TI (.ref i1) (.ref i2)
 to:∃a b,IsPair h TO a b
 i1:SqIt b1 h i1 l1 k
 i2:SqIt b2 h i2 l2 k
theorem zzu{b1 b2:Bool}{z TI TO i1 i2 l1 l2:Addr}{k:Nat}{xs ys:Array Value}{x y:Value}{Q:Value->Shared->Prop}(D:ZipApart z TI TO i1 i2 l1 l2)
  (hz:ZipAt b1 b2 s.heap z TI TO i1 i2 l1 l2 .none k)(hl1:zdt b1 s.heap l1 xs)(hl2:zdt b2 s.heap l2 ys)(hx:xs[k]?=some x)(hy:ys[k]?=some y)
  (hQ:∀h',ZipAt b1 b2 h' z TI TO i1 i2 l1 l2 (rawInt s.heap.objs.size) (k+1)->IsPair h' s.heap.objs.size x y->
   (∀c o,c≠z->c≠TO->c≠i1->c≠i2->s.heap.get? c=some o->h'.get? c=some o)->Q (.ref s.heap.objs.size) {s with heap:=h'}) :
  wpAny (model prog w) A (Builtin.«zip.__next__» ⟨[.ref z],[]⟩) (λfin s'=>∃v,fin=.done (.ret v)/\Q v s') E s:=by
 obtain⟨p1,p2,⟨a,b,p3⟩,p4,p5⟩:=hz
 exact zaha D p1 p2 p3 p4 p5 hl1 hl2 hx hy λh' q1 q2 q3 q4 q5 _ q7=>hQ h' ⟨q1,q7 _ _ D.TIz D.TITO D.TIi1 D.TIi2 p2,⟨x,y,q2⟩,q3,q4⟩ q5 q7
theorem zafp{b1 b2:Bool}{z TI TO i1 i2 l1 l2:Addr}{k:Nat}{xs ys:Array Value}{Q:Fin->Shared->Prop}(hh:A.handled=none)(D:ZipApart z TI TO i1 i2 l1 l2)
  (hz:ZipAt b1 b2 s.heap z TI TO i1 i2 l1 l2 .none k)(hl1:zdt b1 s.heap l1 xs)(hl2:zdt b2 s.heap l2 ys)(hend:xs[k]?=none\/ys[k]?=none)
  (hE:∀h' e,(∀c o,c≠z->c≠TO->c≠i1->c≠i2->s.heap.get? c=some o->h'.get? c=some o)->(∃o,h'.get? e=some o/\o.cls=.type "StopIteration")->E (.ref e) {s with heap:=h'}) :
  wpAny (model prog w) A (Builtin.«zip.__next__» ⟨[.ref z],[]⟩) Q E s:=by
 obtain⟨p1,p2,⟨a,b,p3⟩,p4,p5⟩:=hz
 exact zako hh D p1 p2 p3 p4 p5 hl1 hl2 hend hE
end
end PySem
namespace L2
open PySem PySem.Spec PyProof.Rows
noncomputable def SqX(b:Bool)(K:qC)(H:Hp)(a:Addr)(xs:List V):Prop:=match b with
 | true=>SqL K H a xs
 | false=>SqT K H a xs
section
variable{X:Cx}{pins:List (Addr×Obj)}{σ:St}{H:Hp}{s:Shared}
theorem Inv.sq{b:Bool}{a:Addr}{xs:List V}(I:Inv X pins σ H s)(h:SqX b X.K H a xs):∃its:List Value,Vals xs its/\zdt b s.heap a its.toArray/\xs.length<=qZ:=by
 cases b with
 | true=>obtain⟨its,r,p,z⟩:=I.list h;exact⟨its,r,p.isList,z⟩
 | false=>obtain⟨its,r,p,z⟩:=I.tuple h;exact⟨its,r,(show s.heap.IsTuple a its.toArray from p),z⟩
theorem Inv.sq_inj{b:Bool}{a:Addr}{xs ys:List V}(I:Inv X pins σ H s)(h:SqX b X.K H a xs)(h':SqX b X.K H a ys):xs=ys:=by
 cases b with
 | true=>exact I.list_inj h h'
 | false=>exact I.tuple_inj h h'
end
noncomputable def Itz(K:qC)(b1:Bool)(a1:Addr)(b2:Bool)(a2:Addr):It:=
 ⟨λi H=>∃xs ys x y,SqX b1 K H a1 xs/\SqX b2 K H a2 ys/\xs[i]?=some x/\ys[i]?=some y,
  λi H v H'=>∃p x y,v=.ref p/\H p=none/\H'=upd H p (.tup [x,y])/\(∀xs,SqX b1 K H a1 xs->xs[i]?=some x)/\∀ys,SqX b2 K H a2 ys->ys[i]?=some y,
  λi H=>∃xs ys,SqX b1 K H a1 xs/\SqX b2 K H a2 ys/\(xs.length<=i\/ys.length<=i)⟩
theorem zaot{P:Program}{w:World}{K:qC}{elts:List Expr}{x1}{tpos:Pos}{b1 b2:Bool}{z TI TO i1 i2 l1 l2:Addr}(D:ZipApart z TI TO i1 i2 l1 l2) :
  Turn P w K (.Tuple elts x1 tpos) (Itz K b1 l1 b2 l2) [z,TI,TO,i1,i2] z (λi h=>ZipAt b1 b2 h z TI TO i1 i2 l1 l2 .none i) where
 mem:=by simp
 obj:=λi h st b hb=>by
  obtain⟨a,c,hto⟩:=st.to
  simp only[qJ,qf,or_false]at hb
  rcases hb with rfl|rfl|rfl|rfl|rfl
  ·exact⟨_,st.z,λv q=>by simp at q⟩
  ·exact⟨_,st.ti,λv q=>by simp at q⟩
  ·exact⟨_,hto,λv q=>by simp at q⟩
  ·exact st.i1.obj
  ·exact st.i2.obj
 keep:=λi h h' st k=>by
  obtain⟨a,c,hto⟩:=st.to
  exact⟨k z (by simp) _ st.z,k TI (by simp) _ st.ti,⟨a,c,k TO (by simp) _ hto⟩,st.i1.moved λo q=>k i1 (by simp) o q,st.i2.moved λo q=>k i2 (by simp) o q⟩
 item:=by
  intro X hP hw hK hc i pins s σ H E I hf st hg
  subst hP hw hK
  obtain⟨xs,ys,x,y,q1,q2,hx,hy⟩:=hg
  obtain⟨its1,rv1,p1,_⟩:=I.sq q1
  obtain⟨its2,rv2,p2,_⟩:=I.sq q2
  obtain⟨u1,hu1,ru1⟩:=rv1.get hx
  obtain⟨u2,hu2,ru2⟩:=rv2.get hy
  have hT:s.TypeIs (.ref z) "zip":=⟨_,st.z,rfl⟩
  unfold pyNext
  refine qD (qBr (qAh (name:=Str.ofString "__next__") hT qA5 (qBC qA5 hT qCK
   (zzu D st p1 p2 (x:=u1) (y:=u2) (by simpa using hu1) (by simpa using hu2) λh1 zt tp kp=>qO ?_) (qCB _))))
  refine⟨_,rfl,wpAny_letOwnedTupleGo_zip (s:={s with heap:=h1}) zt.z λh2 z2 sb2=>?_⟩
  have hp:H s.heap.objs.size=none:=I.hok.fresh (qN _)
  have fz:=hf z (by simp)
  have fO:=hf TO (by simp)
  have f1:=hf i1 (by simp)
  have f2:=hf i2 (by simp)
  have lt:∀b∈[z,TI,TO,i1,i2],b≠s.heap.objs.size:=λb hb=>by
   obtain⟨a,c,hto⟩:=st.to
   simp only[qJ,qf,or_false]at hb
   rcases hb with rfl|rfl|rfl|rfl|rfl
   ·exact qw (qP st.z)
   ·exact qw (qP st.ti)
   ·exact qw (qP hto)
   ·obtain⟨o,q,_⟩:=st.i1.obj;exact qw (qP q)
   ·obtain⟨o,q,_⟩:=st.i2.obj;exact qw (qP q)
  have k2:∀b o,b≠z->b≠TO->b≠i1->b≠i2->s.heap.get? b=some o->h2.get? b=some o:=λb o e1 e2 e3 e4 q=>(sb2.2 b e1).trans (kp b o e1 e2 e3 e4 q)
  have t2:IsPair h2 s.heap.objs.size u1 u2:=(sb2.2 _ (qAv (lt z (by simp)))).trans tp
  have nch:∀b,b∉[z,TO,i1,i2]->b≠z/\b≠TO/\b≠i1/\b≠i2:=λb hb=>⟨λq=>hb (by simp[q]),λq=>hb (by simp[q]),λq=>hb (by simp[q]),λq=>hb (by simp[q])⟩
  have k3:∀b o,b∉[z,TO,i1,i2]->s.heap.get? b=some o->h2.get? b=some o:=λb o hb q=>let⟨e1,e2,e3,e4⟩:=nch b hb;k2 b o e1 e2 e3 e4 q
  have nH:∀c v,H c=some v->c∉[z,TO,i1,i2]:=λc v q hc=>by
   have:H c=none:=by
    simp only[qJ,qf,or_false]at hc
    rcases hc with rfl|rfl|rfl|rfl
    ·exact fz.1
    ·exact fO.1
    ·exact f1.1
    ·exact f2.1
   rw[this]at q;cases q
  refine⟨.ref s.heap.objs.size,upd H s.heap.objs.size (.tup [x,y]),?_,rfl,⟨_,x,y,rfl,hp,rfl,λzs q=>by rw[I.sq_inj q q1];exact hx,λzs q=>by rw[I.sq_inj q q2];exact hy⟩,?_,λb hb=>by rw[zat (lt b hb)];exact(hf b hb).1⟩
  ·refine Inv.step (s:=s) (h':=h2) (g':=s.gens) (d':=s.drawn) (t':=s.toks) (ch:=[z,TO,i1,i2]) I (λb hb=>?_) (λb o _ _ hc q _=>k3 b o hc q) (λb o _ _ hc q _=>⟨o.slots,k3 b o hc q⟩)
    (λb o _ q n=>by rw[zat (qw (qP q))];exact n) (λb o hc q=>⟨o,k3 b o hc q⟩)
    (λb xs q=>by rw[zat (zbe q hp)];exact q) (λb o v q=>by rw[zat (zbe q hp)];exact q) (λb ps q=>⟨#[],by rw[zat (zbe q hp),q];simp⟩) (λm hm=>?_) (λb v q=>?_) I.bare
   ·have:=hf b (by
     simp only[qJ,qf,or_false]at hb ⊢
     rcases hb with rfl|rfl|rfl|rfl<;>simp)
    exact⟨this.2.2.2.1,this.2.1,this.2.2.2.2.1,this.2.2.2.2.2⟩
   ·obtain⟨o,es,ep,ho,r⟩:=hm
    exact⟨o,es,ep,k2 _ o (qAv fz.2.1) (qAv fO.2.1) (qAv f1.2.1) (qAv f2.2.1) ho,r⟩
   ·by_cases hb:b=s.heap.objs.size
    ·subst hb
     rw[zar]at q
     cases q
     exact⟨by show 2<=qZ;decide,[u1,u2],.cons ru1 (.cons ru2 .nil),_,t2,rfl,_,rfl⟩
    ·rw[zat hb]at q
     refine(I.hok b v q).stay (λc w' hc r=>?_) (λc r=>by rw[zat (zbe r hp)];exact r) λc ys r=>by rw[zat (zbe r hp)];exact r
     rcases hc with rfl|hc
     ·exact k3 c w' (nH c v q) r
     ·exact k3 c w' (nH c _ hc) r
  ·obtain⟨a,c,hto⟩:=zt.to
   exact⟨z2,(sb2.2 _ D.TIz).trans zt.ti,⟨a,c,(sb2.2 _ D.TOz).trans hto⟩,zt.i1.moved λo q=>(sb2.2 _ D.i1z).trans q,zt.i2.moved λo q=>(sb2.2 _ D.i2z).trans q⟩
 done:=by
  intro X hP hw hK hc i pins s σ H E I hf st hg
  subst hP hw hK
  obtain⟨xs,ys,q1,q2,hle⟩:=hg
  obtain⟨its1,rv1,p1,_⟩:=I.sq q1
  obtain⟨its2,rv2,p2,_⟩:=I.sq q2
  have l1':=rv1.length
  have l2':=rv2.length
  have hT:s.TypeIs (.ref z) "zip":=⟨_,st.z,rfl⟩
  unfold pyNext
  refine qD (qBr (qAh (name:=Str.ofString "__next__") hT qA5 (qBC qA5 hT qCK
   (zafp (by exact I.ok.hd hc) D st p1 p2 (by rcases hle with q|q;exact .inl (by simp;omega);exact .inr (by simp;omega)) λh' e kp he=>?_) (qCB _))))
  obtain⟨o,ho,hcl⟩:=he
  refine qD (qA0 (T:="StopIteration") (b:=true) ⟨o,ho,hcl⟩ qCV (qO ⟨rfl,?_⟩))
  have fz:=hf z (by simp)
  have fO:=hf TO (by simp)
  have f1:=hf i1 (by simp)
  have f2:=hf i2 (by simp)
  have nch:∀b,b∉[z,TO,i1,i2]->b≠z/\b≠TO/\b≠i1/\b≠i2:=λb hb=>⟨λq=>hb (by simp[q]),λq=>hb (by simp[q]),λq=>hb (by simp[q]),λq=>hb (by simp[q])⟩
  have k3:∀b o,b∉[z,TO,i1,i2]->s.heap.get? b=some o->h'.get? b=some o:=λb o hb q=>let⟨e1,e2,e3,e4⟩:=nch b hb;kp b o e1 e2 e3 e4 q
  have nH:∀c v,H c=some v->c∉[z,TO,i1,i2]:=λc v q hc=>by
   have:H c=none:=by
    simp only[qJ,qf,or_false]at hc
    rcases hc with rfl|rfl|rfl|rfl
    ·exact fz.1
    ·exact fO.1
    ·exact f1.1
    ·exact f2.1
   rw[this]at q;cases q
  refine Inv.step (s:=s) (h':=h') (g':=s.gens) (d':=s.drawn) (t':=s.toks) (ch:=[z,TO,i1,i2]) I (λb hb=>?_) (λb o _ _ hc q _=>k3 b o hc q) (λb o _ _ hc q _=>⟨o.slots,k3 b o hc q⟩)
    (λb o _ q n=>n) (λb o hc q=>⟨o,k3 b o hc q⟩) (λb xs q=>q) (λb o v q=>q) (λb ps q=>⟨#[],by rw[q];simp⟩) (λm hm=>?_) (λb v q=>?_) I.bare
  ·have:=hf b (by
     simp only[qJ,qf,or_false]at hb ⊢
     rcases hb with rfl|rfl|rfl|rfl<;>simp)
   exact⟨this.2.2.2.1,this.2.1,this.2.2.2.2.1,this.2.2.2.2.2⟩
  ·obtain⟨o,es,ep,ho,r⟩:=hm
   exact⟨o,es,ep,kp _ o (qAv fz.2.1) (qAv fO.2.1) (qAv f1.2.1) (qAv f2.2.1) ho,r⟩
  ·refine(I.hok b v q).stay (λc w' hc r=>?_) (λc r=>r) λc ys r=>r
   rcases hc with rfl|hc
   ·exact k3 c w' (nH c v q) r
   ·exact k3 c w' (nH c _ hc) r
 self:=λ_ _ _ _ _ st h=>qCr st.z h
end L2
namespace PySem
open Sem (wp)
noncomputable def itO(b:Bool)(l:Addr):Obj:=match b with
 | true=>{cls:=.type "list_iterator",data:=.fields #[.ref l,.int 0 0]}
 | false=>{cls:=.type "tuple_iterator",data:=.fields #[.ref l,.int 0 0]}
noncomputable def zx1(b1:Bool)(h:Heap)(l1:Addr):Heap:=h.push (itO b1 l1)
noncomputable def zx2(b1 b2:Bool)(h:Heap)(l1 l2:Addr):Heap:=(zx1 b1 h l1).push (itO b2 l2)
noncomputable def zx3(b1 b2:Bool)(h:Heap)(l1 l2:Addr):Heap:=(zx2 b1 b2 h l1 l2).push {cls:=.type "tuple",data:=.seq #[.ref h.objs.size,.ref (zx1 b1 h l1).objs.size]}
noncomputable def zx4(b1 b2:Bool)(h:Heap)(l1 l2:Addr):Heap:=(zx3 b1 b2 h l1 l2).push {cls:=.type "tuple",data:=.seq #[.none,.none]}
noncomputable def zx5(b1 b2:Bool)(h:Heap)(l1 l2:Addr):Heap:=(zx4 b1 b2 h l1 l2).push {cls:=.type "zip",data:=.fields #[.none,.bool false,.bool false,.ref (zx2 b1 b2 h l1 l2).objs.size,.ref (zx3 b1 b2 h l1 l2).objs.size]}
theorem zahb(b1 b2:Bool)(l1 l2:Addr)(xs ys:Array Value) :
  Meets (Builtin.«zip.__new__» ⟨[.type "zip",.ref l1,.ref l2],[]⟩) (λ_ R s=>zdt b1 s.heap l1 xs/\zdt b2 s.heap l2 ys/\R (.ok (.ret (.ref (zx4 b1 b2 s.heap l1 l2).objs.size))) {s with heap:=zx5 b1 b2 s.heap l1 l2}):=
 .of_wp λprog w A R s h=>by
  obtain⟨hp,g,d,tk,os⟩:=s;obtain⟨h1,h2,h⟩:=h
  have hsub:=sub_zip
  cases b1 with
  | true=>
   have e1:Heap.IsList (Shared.heap ⟨hp,g,d,tk,os⟩) l1 xs:=h1
   cases b2 with
   | true=>
    have e2:Heap.IsList (Shared.heap ⟨hp.push {cls:=.type "list_iterator",data:=.fields #[.ref l1,.int 0 0]},g,d,tk,os⟩) l2 ys:=qCy h2 _
    wp_walk using qAx e1,qAx e2
    exact⟨_,rfl,h⟩
   | false=>
    have e2:Heap.IsTuple (Shared.heap ⟨hp.push {cls:=.type "list_iterator",data:=.fields #[.ref l1,.int 0 0]},g,d,tk,os⟩) l2 ys:=qCp h2 _
    wp_walk using qAx e1,qAg e2
    exact⟨_,rfl,h⟩
  | false=>
   have e1:Heap.IsTuple (Shared.heap ⟨hp,g,d,tk,os⟩) l1 xs:=h1
   cases b2 with
   | true=>
    have e2:Heap.IsList (Shared.heap ⟨hp.push {cls:=.type "tuple_iterator",data:=.fields #[.ref l1,.int 0 0]},g,d,tk,os⟩) l2 ys:=qCy h2 _
    wp_walk using qAg e1,qAx e2
    exact⟨_,rfl,h⟩
   | false=>
    have e2:Heap.IsTuple (Shared.heap ⟨hp.push {cls:=.type "tuple_iterator",data:=.fields #[.ref l1,.int 0 0]},g,d,tk,os⟩) l2 ys:=qCp h2 _
    wp_walk using qAg e1,qAg e2
    exact⟨_,rfl,h⟩
theorem zww{b:Bool}{h:Heap}{a l:Addr}(e:h.get? a=some (itO b l)):SqIt b h a l 0:=by
 cases b with
 | true=>exact⟨_,e,rfl,rfl⟩
 | false=>exact⟨_,e,rfl,rfl⟩
theorem zzv{prog:Program}{w:World}{A:Around}{E:Value->Shared->Prop}{s:Shared}{b1 b2:Bool}{l1 l2:Addr}{xs ys:Array Value}{Q:Value->Shared->Prop}(h1:zdt b1 s.heap l1 xs)(h2:zdt b2 s.heap l2 ys)
  (h:∀h',ZipAt b1 b2 h' (s.heap.objs.size+4) (s.heap.objs.size+2) (s.heap.objs.size+3) s.heap.objs.size (s.heap.objs.size+1) l1 l2 .none 0->(∀c o,s.heap.get? c=some o->h'.get? c=some o)->Q (.ref (s.heap.objs.size+4)) {s with heap:=h'}) :
  wpAny (model prog w) A (call (.type "zip") [.ref l1,.ref l2]) Q E s:=by
 refine callType_new F.called_zip (by decide) (F.typeCall_zip_2 _ _) (F.newCall_zip_2 _ _) (λobj=>F.args_object_init_3 obj _ _) F.entry_zip_new (zahb b1 b2 l1 l2 xs ys) ⟨h1,h2,?_⟩
 have z1:(zx1 b1 s.heap l1).objs.size=s.heap.objs.size+1:=qAz ..
 have z2:(zx2 b1 b2 s.heap l1 l2).objs.size=s.heap.objs.size+2:=by unfold zx2;rw[qAz,z1]
 have z3:(zx3 b1 b2 s.heap l1 l2).objs.size=s.heap.objs.size+3:=by unfold zx3;rw[qAz,z2]
 have z4:(zx4 b1 b2 s.heap l1 l2).objs.size=s.heap.objs.size+4:=by unfold zx4;rw[qAz,z3]
 have fr:∀o:Obj,(zx5 b1 b2 s.heap l1 l2).get? (zx4 b1 b2 s.heap l1 l2).objs.size=some {cls:=.type "zip",dict:=none,data:=.fields #[.none,.bool false,.bool false,.ref (zx2 b1 b2 s.heap l1 l2).objs.size,.ref (zx3 b1 b2 s.heap l1 l2).objs.size],slots:=#[]}:=λ_=>qW _ rfl
 have g5:=fr {cls:=.none,data:=.seq #[]}
 have g4:(zx5 b1 b2 s.heap l1 l2).get? (zx3 b1 b2 s.heap l1 l2).objs.size=some {cls:=.type "tuple",data:=.seq #[.none,.none]}:=qE _ (qW _ rfl)
 have g3:(zx5 b1 b2 s.heap l1 l2).get? (zx2 b1 b2 s.heap l1 l2).objs.size=some {cls:=.type "tuple",data:=.seq #[.ref s.heap.objs.size,.ref (zx1 b1 s.heap l1).objs.size]}:=qE _ (qE _ (qW _ rfl))
 have g2:(zx5 b1 b2 s.heap l1 l2).get? (zx1 b1 s.heap l1).objs.size=some (itO b2 l2):=qE _ (qE _ (qE _ (qW _ (by cases b2<;>rfl))))
 have g1:(zx5 b1 b2 s.heap l1 l2).get? s.heap.objs.size=some (itO b1 l1):=qE _ (qE _ (qE _ (qE _ (qW _ (by cases b1<;>rfl)))))
 show _/\_
 rw[z2,z3,z4]at g5
 rw[z1,z2]at g3
 rw[z3]at g4
 rw[z1]at g2
 rw[z4]
 exact⟨⟨_,g5,rfl⟩,h _ ⟨g5,g3,⟨_,_,g4⟩,zww g1,zww g2⟩ λc o q=>qE _ (qE _ (qE _ (qE _ (qE _ q))))⟩
end PySem
namespace L2
open PySem PySem.Spec PyProof.Rows
theorem zarh:bootBuiltins "zip"=some (.type "zip"):=by decide +kernel
noncomputable def iZip(K:qC)(ta:TA):TI:=λσ H R=>ta σ H λvs H1=>∃b1 b2 a1 a2,vs=[.ref a1,.ref a2]/\(∃xs,SqX b1 K H1 a1 xs)/\(∃ys,SqX b2 K H1 a2 ys)/\R (Itz K b1 a1 b2 a2) H1
theorem zdt.there{b:Bool}{h:Heap}{l:Addr}{xs:Array Value}(x:zdt b h l xs):l<h.objs.size:=by
 cases b with
 | true=>obtain⟨o,q,_⟩:=x;exact qP q
 | false=>obtain⟨o,q,_⟩:=x;exact qP q
theorem zzw{n l1 l2:Nat}(h1:l1<n)(h2:l2<n):ZipApart (n+4) (n+2) (n+3) n (n+1) l1 l2:=by
 constructor<;>first|exact qw (by omega)|exact qAm (by omega)
theorem zayf{X:Cx}{K:qC}(hK:X.K=K){a b:Expr}{ta:TA}{p pos:Pos}{elts:List Expr}{x1}{tpos:Pos}(hg:Gl X "zip")(hm:X.mg "zip"=none)(ha:PA X [a,b] ta)(hs:starEach [a,b] X.env=(false,eval a X.env)::starEach [b] X.env:=by rfl)(hs2:(backTo pos (starEach [b] X.env)).any (·.1)=false:=by rfl) :
  PI X (.Tuple elts x1 tpos) (.Call (.Name "zip" p) [a,b] [] pos) (iZip K ta):=by
 subst hK
 intro pins s σ H R I h
 refine Call_ (zia I hg hm zarh (callWith_type1 (thn (ha pos pins s σ H _ I h) λus s1 ⟨vs,H1,I1,r1,q1⟩=>?_) hs hs2))
 obtain⟨b1,b2,l1,l2,rfl,⟨xs,e1⟩,⟨ys,e2⟩,q⟩:=q1
 obtain⟨u1,u2,rfl,ru1,ru2⟩:=zanp r1
 cases ru1
 cases ru2
 obtain⟨its1,rv1,p1,_⟩:=I1.sq e1
 obtain⟨its2,rv2,p2,_⟩:=I1.sq e2
 have t1:=zdt.there p1
 have t2:=zdt.there p2
 refine zzv p1 p2 λh' zt hk=>qCr zt.z ?_
 have I2:Inv X pins σ H1 {s1 with heap:=h'}:=I1.kept (t':=s1.toks) hk
 have D:=zzw t1 t2
 refine⟨s1.heap.objs.size+4,[s1.heap.objs.size+4,s1.heap.objs.size+2,s1.heap.objs.size+3,s1.heap.objs.size,s1.heap.objs.size+1],_,_,H1,rfl,I2,zaot D,zt,λc hc=>?_,q⟩
 have hge:s1.heap.objs.size<=c:=by
  simp only[qJ,qf,or_false]at hc
  rcases hc with rfl|rfl|rfl|rfl|rfl
  ·exact qAp _ _
  ·exact qAp _ _
  ·exact qAp _ _
  ·exact qN _
  ·exact qAp _ _
 exact I1.fpOk hge (I1.hok.fresh hge)
noncomputable def zrx(f:AF):IF':=λenv=>(f env).bind λrs=>match rs with
 | [r,t]=>(zfd r.d).bind λds=>(zfd t.d).map λes=>(List.zipWith (λd e=>.tuple [d,e]) ds es,r.bs++t.bs)
 | _=>none
theorem zzx{K:qC}{A:Addr->Prop}{H:Hp}{d:PyData}{ds:List PyData}{v:V}(h:Rp (Offs A H) d v)(e:zfd d=some ds):∃(b:Bool)(a:Addr)(xs:List V),v=.ref a/\Rps (Offs A H) ds xs/\∀(B:Addr->Prop)(H':Hp),Same (Offs A H) (Offs B H')->SqX b K H' a xs:=by
 cases d with
 | list es=>
  cases e
  obtain⟨a,xs,rfl,ha,r⟩:=zde h
  exact⟨true,a,xs,rfl,r,λB H' s=>SqL.of (zco (s _ _ ha))⟩
 | tuple es=>
  cases e
  obtain⟨a,xs,rfl,ha,r⟩:=zcx h
  exact⟨false,a,xs,rfl,r,λB H' s=>SqT.of (zco (s _ _ ha))⟩
 | _=>cases e
theorem zaou{ds es:List PyData}{i:Nat}{d:PyData}(h:(List.zipWith (λd e=>PyData.tuple [d,e]) ds es)[i]?=some d):∃a b,ds[i]?=some a/\es[i]?=some b/\d=.tuple [a,b]:=by
 rw[List.getElem?_zipWith]at h
 cases e1:ds[i]? with
 | none=>rw[e1]at h;cases h
 | some a=>
  cases e2:es[i]? with
  | none=>rw[e1,e2]at h;cases h
  | some b=>rw[e1,e2]at h;cases h;exact⟨a,b,rfl,rfl,rfl⟩
theorem zafq{K:qC}{ta:TA}{f:AF}(h1:SA ta f):SI (iZip K ta) (zrx f):=by
 intro fx H0 env σ H h ds bs e R q
 unfold zrx at e
 obtain⟨rs,er,e⟩:=qA.mp e
 split at e
 ·rename_i r t
  obtain⟨d1,ed1,e⟩:=qA.mp e
  obtain⟨d2,ed2,e⟩:=qF.mp e
  cases e
  refine h1 fx H0 env σ H h _ er _ λvs H1 s hv=>?_
  cases hv with
  | cons hv1 hv'=>
   cases hv' with
   | cons hv2 hv''=>
    cases hv''
    have sub1:∀b,(fx b\/own (frzs env (r.bs++t.bs)) σ b)->lim fx env σ r.bs b:=λb z=>zjm (λi hi=>qi _ hi) b (zfe b z)
    have sub2:∀b,(fx b\/own (frzs env (r.bs++t.bs)) σ b)->lim fx env σ t.bs b:=λb z=>zjm (λi hi=>qI _ hi) b (zfe b z)
    obtain⟨b1,a1,xs,rfl,r1,e1⟩:=zzx (K:=K) (Rp.same (Offs.sub sub1) _ hv1.rp) ed1
    obtain⟨b2,a2,ys,rfl,r2,e2⟩:=zzx (K:=K) (Rp.same (Offs.sub sub2) _ hv2.rp) ed2
    refine⟨b1,b2,a1,a2,rfl,⟨xs,e1 _ H1 (Same.refl _)⟩,⟨ys,e2 _ H1 (Same.refl _)⟩,q _ H1 s ?_⟩
    intro A H' hA ss
    have q1:=e1 A H' ss
    have q2:=e2 A H' ss
    have r1':=Rps.same ss _ r1
    have r2':=Rps.same ss _ r2
    refine⟨λi d e=>?_,⟨xs,ys,q1,q2,?_⟩⟩
    ·obtain⟨c1,c2,ec1,ec2,rfl⟩:=zaou e
     obtain⟨v1,g1,rv1⟩:=r1'.get2 ec1
     obtain⟨v2,g2,rv2⟩:=r2'.get2 ec2
     refine⟨⟨xs,ys,v1,v2,q1,q2,g1,g2⟩,λx H'' y=>?_⟩
     obtain⟨p,x',y',rfl,hp,rfl,y1,y2⟩:=y
     have z1:=y1 xs q1
     rw[g1]at z1
     cases z1
     have z2:=y2 ys q2
     rw[g2]at z2
     cases z2
     exact⟨Same.new hp,znv hp (zed hA hp) (zdc rv1 (zdc rv2 zcv))⟩
    ·rw[List.length_zipWith,r1.length,r2.length]
     rcases Nat.le_total xs.length ys.length with z|z
     ·exact .inl (by rw[qBW z];exact qN _)
     ·exact .inr (by rw[qBk z];exact qN _)
 ·cases e
noncomputable def rInS(K:qC)(neg:Bool):R2:=λx y H Q=>∃d c ds,Rep K H d x/\Rep K H c y/\zfd c=some ds/\qt d=true/\qt c=true/\Q (.bl (if neg then !(ds.any λe=>qX e d)else ds.any λe=>qX e d)) H
section
variable{X:Cx}
theorem shp{d:PyData}(h:qt d=true):d.canLay0=true/\d.depth<=64:=by
 unfold qt at h
 rw[qAC]at h
 exact⟨h.1,of_decide_eq_true h.2⟩
theorem zbbm{K:qC}(hK:X.K=K)(hu:X.A.units+64<cLine):OpR X (compareOp .In) (rInS K false):=by
 subst hK
 intro pins s σ H x y v u Q I rx ry h
 obtain⟨d,c,ds,hd,hc,hi,sd,sc,q⟩:=h
 obtain⟨as,r1⟩:=zec I d hd rx
 obtain⟨bs,r2⟩:=zec I c hc ry
 obtain⟨l1,p1⟩:=shp sd
 obtain⟨l2,p2⟩:=shp sc
 have q:EP X pins σ Q (.bool (ds.any λe=>qX e d)) s:=⟨.bl (ds.any λe=>qX e d),H,I,rfl,q⟩
 cases c with
 | list es=>
  cases hi
  have p2:qe ds+1<=64:=p2
  exact SeqAt.in_list_reads r2 r1 l2 l1 (by have:=qBV (qe ds) d.depth;omega) q
 | tuple es=>
  cases hi
  have p2:qe ds+1<=64:=p2
  exact SeqAt.in_tuple_reads r2 r1 l2 l1 (by have:=qBV (qe ds) d.depth;omega) q
 | _=>cases hi
theorem zzy{K:qC}(hK:X.K=K)(hu:X.A.units+64<cLine):OpR X (compareOp .NotIn) (rInS K true):=by
 subst hK
 intro pins s σ H x y v u Q I rx ry h
 obtain⟨d,c,ds,hd,hc,hi,sd,sc,q⟩:=h
 obtain⟨as,r1⟩:=zec I d hd rx
 obtain⟨bs,r2⟩:=zec I c hc ry
 obtain⟨l1,p1⟩:=shp sd
 obtain⟨l2,p2⟩:=shp sc
 have q:EP X pins σ Q (.bool (!(ds.any λe=>qX e d))) s:=⟨.bl (!(ds.any λe=>qX e d)),H,I,rfl,q⟩
 cases c with
 | list es=>
  cases hi
  have p2:qe ds+1<=64:=p2
  exact SeqAt.notIn_list_reads r2 r1 l2 l1 (by have:=qBV (qe ds) d.depth;omega) q
 | tuple es=>
  cases hi
  have p2:qe ds+1<=64:=p2
  exact SeqAt.notIn_tuple_reads r2 r1 l2 l1 (by have:=qBV (qe ds) d.depth;omega) q
 | _=>cases hi
end
noncomputable def inS(neg:Bool):OF:=λd c=>match zfd c with
 | some ds=>if qt d=true/\qt c=true then some (.bool (if neg then !(ds.any λe=>qX e d)else ds.any λe=>qX e d),false)else none
 | none=>none
theorem zari{K:qC}{neg:Bool}:SO (rInS K neg) (inS neg):=by
 intro A H x y dx dy hA rx ry d fr e Q q
 unfold inS at e
 split at e
 ·rename_i ds hi
  split at e
  ·rename_i h
   cases e
   refine⟨dx,dy,ds,zmj (qAS h.1) (Rp.same (Offs.same A H) _ rx),zmj (qAS h.2) (Rp.same (Offs.same A H) _ ry),hi,h.1,h.2,q _ H (Same.refl _) ?_ (λz=>by cases z)⟩
   cases neg<;>exact zbj
  ·cases e
 ·cases e
end L2
namespace PySem
open Sem (wp)
open AutoSeq1 (wpAny_loadPart')
theorem zaov{prog:Program}{w:World}{A:Around}(hh:A.handled=none)(b:Bool)(it l:Addr)(hne:l≠it)(items:Array Value) :
  Draws prog w A it [it,l] items.size (λi v=>items[i]?=some v) (λi h=>SqIt b h it l i/\zdt b h l items) where
 live:=λ_ _ st=>let⟨o,ho,_⟩:=st.1.obj;⟨o,ho⟩
 frame:=λ_ _ _ st hk=>⟨st.1.moved λo e=>hk it (by simp) o e,st.2.moved λo e=>hk l (by simp) o e⟩
 item:=λi s Q E hi st hQ=>by
  refine znz st.1 st.2 (x:=items[i]) (by simp[hi]) λh' hit' hs'=>?_
  exact hQ _ h' s.toks (by simp[hi]) ⟨hit',st.2.moved λo e=>hs'.extBut _ o hne e⟩ hs'
 done:=λs Q E st hE=>zzt hh st.1 st.2 (by simp) hE
theorem zqk(l:Addr)(items:Array Value)(n:Nat)(dct:Option Addr)(sl:Array (Option Value)) :
  Meets (Builtin.«enumerate.__new__» ⟨[.type "enumerate",.ref l],[]⟩) (λ_ R s=>s.heap.get? l=some {cls:=.type "tuple",dict:=dct,data:=.seq items n,slots:=sl}/\
   R (.ok (.ret (.ref (s.heap.push (itO false l)).objs.size))) {s with heap:=(s.heap.push (itO false l)).push {cls:=.type "enumerate",data:=.fields #[.none,.bool false,.ref s.heap.objs.size,rawInt 0,.none,.none]}}):=
 .of_wp λprog w A R s h=>by
  obtain⟨hp,g,d,tk,os⟩:=s;obtain⟨hl,h⟩:=h
  have hsub:=sub_enumerate
  have e1:Heap.IsTuple (Shared.heap ⟨hp,g,d,tk,os⟩) l items:=⟨_,hl,rfl,n,rfl⟩
  wp_walk using qBb hl
  refine wpAny_stack_any λst=>qO ?_
  split
  ·rename_i c _ _ _ _ _
   cases(c==Value.type "enumerate")
   ·wp_walk using qBb hl,qAg e1
    exact⟨_,rfl,h⟩
   ·wp_walk using qBb hl,qAg e1
    exact⟨_,rfl,h⟩
  ·wp_walk using qBb hl,qAg e1
   exact⟨_,rfl,h⟩
theorem zzz{prog:Program}{w:World}{A:Around}{E:Value->Shared->Prop}{s:Shared}{b:Bool}{l:Addr}{items:Array Value}{Q:Value->Shared->Prop}(hL:zdt b s.heap l items)
  (h:∀h',IsEnum h' (s.heap.objs.size+1) s.heap.objs.size 0 .none->SqIt b h' s.heap.objs.size l 0->(∀c o,s.heap.get? c=some o->h'.get? c=some o)->Q (.ref (s.heap.objs.size+1)) {s with heap:=h'}) :
  wpAny (model prog w) A (call (.type "enumerate") [.ref l]) Q E s:=by
 cases b with
 | true=>exact call_enumerate_list hL λh' e i _ k=>h h' e i k
 | false=>
  obtain⟨⟨c,dct,dt,sl⟩,hl,hc,n,hd⟩:=hL
  replace hc:c=.type "tuple":=hc
  replace hd:dt=.seq items n:=hd
  subst hc hd
  refine callType_new F.called_enumerate (by decide) (F.typeCall_enumerate_1 _) (F.newCall_enumerate_1 _) (λobj=>F.args_object_init_2 obj _) F.entry_enumerate_new (zqk l items n dct sl) ⟨hl,?_⟩
  have hz:(s.heap.push (itO false l)).objs.size=s.heap.objs.size+1:=qAz ..
  have he:=qW (s.heap.push (itO false l)) (o:={cls:=.type "enumerate",data:=.fields #[.none,.bool false,.ref s.heap.objs.size,rawInt 0,.none,.none]}) rfl
  show _/\_
  rw[hz]at he ⊢
  exact⟨⟨_,he,rfl⟩,h _ he (zww (b:=false) (qE _ (qW _ rfl))) λc o x=>qE _ (qE _ x)⟩
end PySem
namespace L2
open PySem PySem.Spec PyProof.Rows
noncomputable def Itx(K:qC)(b:Bool)(a:Addr):It:=
 ⟨λi H=>∃xs x,SqX b K H a xs/\xs[i]?=some x,λi H x H'=>∃p y,x=.ref p/\H p=none/\H'=upd H p (.tup [.int i,y])/\∀xs,SqX b K H a xs->xs[i]?=some y,λi H=>∃xs,SqX b K H a xs/\xs.length<=i⟩
theorem zahc{P:Program}{w:World}{K:qC}{elts:List Expr}{x1}{tpos:Pos}{b:Bool}(a e it:Addr)(hne:e≠it)(hea:e≠a)(hai:a≠it) :
  Turn P w K (.Tuple elts x1 tpos) (Itx K b a) [e,it] e (λi h=>SqIt b h it a i/\∃old,IsEnum h e it (i:Int) old) where
 mem:=by simp
 obj:=λi h st c hc=>by
  obtain⟨h1,old,h4⟩:=st
  rcases qJ.mp hc with rfl|hc
  ·exact⟨_,h4,λv z=>by simp at z⟩
  ·have q:c=it:=by simpa using hc
   subst q
   exact h1.obj
 keep:=λi h h' st k=>⟨st.1.moved λo q=>k it (by simp) o q,let⟨old,q⟩:=st.2;⟨old,k e (by simp) _ q⟩⟩
 item:=by
  intro X hP hw hK hc i pins s σ H E I hf st hg
  subst hP hw hK
  obtain⟨xs,x,hq,hx⟩:=hg
  obtain⟨its,rv,p,hz⟩:=I.sq hq
  obtain⟨u,hu,ru⟩:=rv.get hx
  obtain⟨hit,old,he⟩:=st
  have fe:=hf e (by simp)
  have fi:=hf it (by simp)
  have hlt:i<its.toArray.size:=by
   obtain⟨hh,_⟩:=qM.mp hu
   simpa using hh
  refine wpAny_pyNext_enum_itemD (zaov (by exact I.ok.hd hc) b it a hai its.toArray) he ⟨hit,p⟩ hlt hne (by simp[hne,hea]) λu' h1 tk pu e1 i1 t1 z1 k1=>?_
  have hu':u'=u:=by
   have pu:its.toArray[i]?=some u':=pu
   rw[List.getElem?_toArray,hu]at pu
   exact(qY pu).symm
  subst hu'
  refine⟨_,rfl,wpAny_letOwnedTupleGo_enum (s:={s with heap:=h1,toks:=tk+1}) e1 λh2 e2 sb2=>?_⟩
  have hp:H s.heap.objs.size=none:=I.hok.fresh (qN _)
  have hes:e≠s.heap.objs.size:=qw (qP he)
  have k2:∀c o,c≠e->c≠it->s.heap.get? c=some o->h2.get? c=some o:=λc o q1 q2 q=>(sb2.2 c q1).trans (k1 c o q1 q2 q)
  have t2:h2.get? s.heap.objs.size=some {cls:=.type "tuple",data:=.seq #[.int i tk,u']}:=(sb2.2 _ (qAv hes)).trans t1
  have nch:∀c,c∉[e,it]->c≠e/\c≠it:=λc hb=>⟨λz=>hb (by simp[z]),λz=>hb (by simp[z])⟩
  refine⟨.ref s.heap.objs.size,upd H s.heap.objs.size (.tup [.int i,x]),?_,rfl,⟨_,x,rfl,hp,rfl,λys hy=>by rw[I.sq_inj hy hq];exact hx⟩,⟨?_,u',e2⟩,λc hb=>?_⟩
  ·refine Inv.step (s:=s) (h':=h2) (g':=s.gens) (d':=s.drawn) (t':=tk+1) (ch:=[e,it]) I (λc hb=>?_) (λc o _ _ hc q _=>k2 c o (nch c hc).1 (nch c hc).2 q) (λc o _ _ hc q _=>⟨o.slots,k2 c o (nch c hc).1 (nch c hc).2 q⟩)
    (λc o _ q n=>by rw[zat (qw (qP q))];exact n) (λc o hc q=>⟨o,k2 c o (nch c hc).1 (nch c hc).2 q⟩)
    (λc xs q=>by rw[zat (zbe q hp)];exact q) (λc o v q=>by rw[zat (zbe q hp)];exact q) (λc ps q=>⟨#[],by rw[zat (zbe q hp),q];simp⟩) (λm hm=>?_) (λc v q=>?_) I.bare
   ·rcases qJ.mp hb with rfl|hb
    ·exact⟨fe.2.2.2.1,fe.2.1,fe.2.2.2.2.1,fe.2.2.2.2.2⟩
    ·have z:c=it:=by simpa using hb
     subst z
     exact⟨fi.2.2.2.1,fi.2.1,fi.2.2.2.2.1,fi.2.2.2.2.2⟩
   ·obtain⟨o,es,ep,ho,r⟩:=hm
    exact⟨o,es,ep,k2 _ o (qAv fe.2.1) (qAv fi.2.1) ho,r⟩
   ·by_cases hb:c=s.heap.objs.size
    ·subst hb
     rw[zar]at q
     cases q
     exact⟨by show 2<=qZ;decide,[.int i tk,u'],.cons ⟨_,rfl⟩ (.cons ru .nil),_,t2,rfl,_,rfl⟩
    ·rw[zat hb]at q
     have nt:∀c w',H c=some w'->c≠e/\c≠it:=λc w' z=>⟨(λy=>by rw[y,fe.1]at z;cases z),(λy=>by rw[y,fi.1]at z;cases z)⟩
     refine(I.hok c v q).stay (λc w' hc r=>?_) (λc r=>by rw[zat (zbe r hp)];exact r) λc ys r=>by rw[zat (zbe r hp)];exact r
     rcases hc with rfl|hc
     ·exact k2 c w' (nt c v q).1 (nt c v q).2 r
     ·exact k2 c w' (nt c _ hc).1 (nt c _ hc).2 r
  ·exact i1.1.moved λo q=>(sb2.2 _ (qAv hne)).trans q
  ·rcases qJ.mp hb with rfl|hb
   ·rw[zat hes];exact fe.1
   ·have z:c=it:=by simpa using hb
    subst z
    obtain⟨o,q1,_⟩:=hit.obj
    rw[zat (qw (qP q1))]
    exact fi.1
 done:=by
  intro X hP hw hK hc i pins s σ H E I hf st hg
  subst hP hw hK
  obtain⟨xs,hq,hx⟩:=hg
  obtain⟨its,rv,p,hz⟩:=I.sq hq
  obtain⟨hit,old,he⟩:=st
  obtain⟨f0,f1,f2,f3,f4,f5⟩:=hf it (by simp)
  have hl:=rv.length
  have hT:s.TypeIs (.ref e) "enumerate":=⟨_,he,rfl⟩
  unfold pyNext
  refine qD (qBr (qAh (name:=Str.ofString "__next__") hT F.slot_enumerate_next (qBC F.slot_enumerate_next hT F.entry_enumerate_next ?_ (F.args_enumerate_next_1 _))))
  show wpAny _ _ (field (.ref e) 2 >>=_) _ _ _
  refine qD (qAV he rfl (x:=.ref it) rfl ?_)
  refine qD (zzt (by exact I.ok.hd hc) hit p (by simp;omega) λh' x he' hx'=>?_)
  obtain⟨o,ho,hcl⟩:=hx'
  refine qD (qA0 (T:="StopIteration") (b:=true) ⟨o,ho,hcl⟩ qCV (qO ⟨rfl,?_⟩))
  exact I.turned (t':=s.toks) (λc o hb q=>he' c o hb q) f0 f1 f3 f4 f5
 self:=λ_ _ _ _ _ st h=>let⟨_,q⟩:=st.2;wpAny_pyIter_enum q h
noncomputable def iEnumX(K:qC)(ta:TA):TI:=λσ H R=>ta σ H λvs H1=>∃b a,vs=[.ref a]/\(∃xs,SqX b K H1 a xs)/\R (Itx K b a) H1
theorem zaow{X:Cx}{K:qC}(hK:X.K=K){a:Expr}{ta:TA}{p pos:Pos}{elts:List Expr}{x1}{tpos:Pos}(hg:Gl X "enumerate")(hm:X.mg "enumerate"=none)(ha:PA X [a] ta)(hs:starEach [a] X.env=[(false,eval a X.env)]:=by rfl) :
  PI X (.Tuple elts x1 tpos) (.Call (.Name "enumerate" p) [a] [] pos) (iEnumX K ta):=by
 subst hK
 intro pins s σ H R I h
 refine Call_ (zia I hg hm boot_enumerate (qBZ (thn (ha pos pins s σ H _ I h) λus s1 ⟨vs,H1,I1,r1,q1⟩=>?_) hs rfl))
 obtain⟨b,l,rfl,⟨xs,hq⟩,q⟩:=q1
 obtain⟨u,rfl,ru⟩:=zagp r1
 cases ru
 obtain⟨its,rv,pl,hz⟩:=I1.sq hq
 have lt:=zdt.there pl
 refine zzz pl λh' he hit hk=>wpAny_pyIter_enum he ?_
 have I2:Inv X pins σ H1 {s1 with heap:=h'}:=I1.kept (t':=s1.toks) hk
 refine⟨s1.heap.objs.size+1,[s1.heap.objs.size+1,s1.heap.objs.size],_,_,H1,rfl,I2,zahc l _ _ (Nat.succ_ne_self _) (qAm (Nat.lt_succ_of_lt lt)) (qw lt),⟨hit,_,he⟩,λc hb=>?_,q⟩
 rcases qJ.mp hb with rfl|hb
 ·exact I1.fpOk (qBe _) (I1.hok.fresh (qBe _))
 ·have e:c=s1.heap.objs.size:=by simpa using hb
  subst e
  exact I1.fpOk (qN _) (I1.hok.fresh (qN _))
noncomputable def Its(z:Str):It:=⟨λi _=>i<z.cps.size,λi H v H'=>H'=H/\∃c,z.cps[i]?=some c/\v=.str ⟨#[c]⟩,λi _=>z.cps.size<=i⟩
theorem zaox{P:Program}{w:World}{K:qC}{tg:Expr}(z:Str)(it:Addr){ty:String}{t:Tok}(hty:ty="str_ascii_iterator"\/ty="str_iterator"):Turn P w K tg (Its z) [it] it (λi h=>h.IsStrIter it ty z t i) where
 mem:=by simp
 obj:=λi h st b hb=>by
  have e:b=it:=by simpa using hb
  subst e
  obtain⟨o,e,c,d⟩:=st
  exact⟨o,e,λv z=>by rw[d]at z;cases z⟩
 keep:=λi h h' st k=>let⟨o,e,c,d⟩:=st;⟨o,k it (by simp) o e,c,d⟩
 item:=by
  intro X hP hw hK hc i pins s σ H E I hf st hg
  subst hP hw hK
  obtain⟨f0,f1,f2,f3,f4,f5⟩:=hf it (by simp)
  have W:Walks X.prog X.w X.A it [it] [it] z.cps.size (SignAt z) (λi h=>h.IsStrIter it ty z t i):=by
   rcases hty with rfl|rfl
   ·exact Walks.strAscii (I.ok.hd hc) it z t
   ·exact Walks.strWide (I.ok.hd hc) it z t
  refine W.item i s _ _ hg st λv h' tk hv st' kk=>?_
  obtain⟨c,u,e,rfl⟩:=hv
  have I1:Inv X pins σ H {s with heap:=h',toks:=tk}:=I.turned (λb o hb e=>kk b o (by simpa using hb) e) f0 f1 f3 f4 f5
  obtain⟨o,eo,co,dO⟩:=id st'
  refine⟨_,rfl,zanm (s:={s with heap:=h',toks:=tk}) eo co dO (by rcases hty with rfl|rfl<;>decide) ⟨.str ⟨#[c]⟩,H,I1,⟨u,rfl⟩,⟨rfl,c,e,rfl⟩,st',λb hb=>(hf b hb).1⟩⟩
 done:=by
  intro X hP hw hK hc i pins s σ H E I hf st hg
  subst hP hw hK
  obtain⟨f0,f1,f2,f3,f4,f5⟩:=hf it (by simp)
  have hx:z.cps[i]?=none:=by
   have:z.cps.size<=i:=hg
   simp[this]
  rcases hty with rfl|rfl
  ·exact wpAny_pyNext_ascii_end (I.ok.hd hc) st hx λh' eb=>⟨rfl,I.turned (t':=s.toks) (λb o hb e=>eb b o hb e) f0 f1 f3 f4 f5⟩
  ·exact wpAny_pyNext_wide_end (I.ok.hd hc) st hx λh' eb=>⟨rfl,I.turned (t':=s.toks) (λb o hb e=>eb b o hb e) f0 f1 f3 f4 f5⟩
 self:=λ_ _ _ _ _ st h=>by
  rcases hty with rfl|rfl
  ·exact wpAny_pyIter_striter_ascii st h
  ·exact wpAny_pyIter_striter_wide st h
noncomputable def iStr(te:TE):TI:=λσ H R=>te σ H λx H1=>∃z,x=.str z/\R (Its z) H1
theorem zayg{X:Cx}{tg l:Expr}{tl:TE}(hl:PE X l tl):PI X tg l (iStr tl):=by
 intro pins s σ H R I h
 refine thn (hl pins s σ H _ I h) λv s1 ⟨x,H1,I1,r1,q1⟩=>?_
 obtain⟨z,e,q⟩:=q1
 subst e
 obtain⟨t,rfl⟩:=r1
 have fin:∀(ty:String)(o:Obj),(ty="str_ascii_iterator"\/ty="str_iterator")->(s1.heap.push o).IsStrIter s1.heap.objs.size ty z t 0->PIE X pins σ tg R (.ref s1.heap.objs.size) {s1 with heap:=s1.heap.push o}:=by
  intro ty o hty st
  refine⟨s1.heap.objs.size,[s1.heap.objs.size],_,_,H1,rfl,I1.kept (t':=s1.toks) λb o e=>qE _ e,zaox z _ hty,st,λb hb=>?_,q⟩
  have e:b=s1.heap.objs.size:=by simpa using hb
  subst e
  exact I1.fpOk (qN _) (I1.hok.fresh (qN _))
 cases ha:z.cps.all (·<128)
 ·exact wpAny_pyIter_wide ha (fin "str_iterator" _ (.inr rfl) ⟨_,qW _ rfl,rfl,rfl⟩)
 ·exact wpAny_pyIter_ascii ha (fin "str_ascii_iterator" _ (.inl rfl) ⟨_,qW _ rfl,rfl,rfl⟩)
noncomputable def zaaa(z:Str):List PyData:=z.cps.toList.map λc=>.str ⟨#[c]⟩
noncomputable def zry(f:EF):IF':=λenv=>(f env).bind λr=>match r.d with
 | .str z=>some (zaaa z,[])
 | _=>none
theorem zayh{A0:Addr->Prop}{H1:Hp}{z:Str}:Yl A0 H1 (Its z) (zaaa z):=by
 intro A H' hA s
 have hl:(zaaa z).length=z.cps.size:=by unfold zaaa;simp
 refine⟨λi d e=>?_,by rw[hl];exact qN _⟩
 unfold zaaa at e
 rw[qh]at e
 by_cases hi:i<z.cps.size
 ·refine⟨hi,λx H'' y=>?_⟩
  obtain⟨rfl,c,ec,rfl⟩:=y
  have:z.cps.toList[i]?=some c:=by simpa using ec
  rw[this]at e
  cases e
  exact⟨Same.refl _,zcn⟩
 ·rw[qCI (by simpa using hi)]at e
  cases e
theorem zayi{te:TE}{f:EF}(h1:SE te f):SI (iStr te) (zry f):=by
 intro fx H0 env σ H h ds bs e R q
 unfold zry at e
 obtain⟨⟨d,fr,bs'⟩,er,e⟩:=qA.mp e
 split at e
 ·rename_i z hz
  cases e
  refine h1 fx H0 env σ H h _ er _ λv H1 s hv=>?_
  have rp:=hv.rp
  have hz:d=.str z:=hz
  rw[hz]at rp
  exact⟨z,zle rp,q _ H1 s zayh⟩
 ·cases e
noncomputable def isStar:Expr->Bool
 | .Starred ..=>true
 | _=>false
theorem zan{e:Expr}{es:List Expr}{env:Env}(h:isStar e=false):starEach (e::es) env=(false,eval e env)::starEach es env:=by
 cases e<;>first
  | rfl
  | cases h
theorem zaoy{X:Cx}{e:Expr}{es:List Expr}{te:TE}{t:TA}(ha:PE X e te)(hr:PA X es t)(hs:isStar e=false:=by rfl):PA X (e::es) (tCons te t):=zasn ha hr (zan hs)
end L2
namespace PySem.SeqAt
open AutoSeq1 (wpAny_loadPart')
open MeetsSeq PyProof.Rows
end PySem.SeqAt
namespace L2
open PySem PySem.Spec PyProof.Rows
structure Bx(p:Prop):Prop where
 out:p
theorem Bx.pt{X:Cx}{e:Expr}{t:TT}(h:Bx (PW X e t)):Bx (PT X e t):=⟨h.out.pt⟩
theorem zag{X:Cx}{i:Int}{j:Nat}{pos:qc}:Bx (PE X (qU.Constant (PySem.Const.int i) j pos) (tC (L2.V.int i))):=⟨zawc⟩
theorem zac{X:Cx}:Bx (PA X [] tNil):=⟨zaww⟩
theorem zau{X:Cx}{e:qU}{es:List qU}{te:TE}{t:TA}(ha:Bx (PE X e te))(hr:Bx (PA X es t))(hs:L2.isStar e=Bool.false):Bx (PA X (e::es) (tCons te t)):=⟨zaoy ha.out hr.out hs⟩
theorem zbk{X:Cx}{a b:qU}{ta tb:TE}{pos:qc}{op:PySem.Operator}{r:L2.R2}(ho:OpR X (PySem.binaryOp op) r)(ha:Bx (PE X a ta))(hb:Bx (PE X b tb)):Bx (PE X (a.BinOp op b pos) (tOp r ta tb)):=⟨zbah ho ha.out hb.out⟩
theorem zai{X:Cx}{st:Stmt}{t:TS}(h1:Bx (PS X st t)):Bx (PSs X [st] t):=⟨zasf h1.out⟩
theorem zaf{X:Cx}{st:Stmt}{rest:List Stmt}{t u:TS}(h1:Bx (PS X st t))(h2:Bx (PSs X rest u)):Bx (PSs X (st::rest) (L2.tSeq t u)):=⟨zani h1.out h2.out⟩
theorem zakp {X:Cx} {x:Str} {p pos:qc} {e:qU} {es:List qU} {t:TA} {ps:List Str} {k:Nat} {sp:L2.Sp} (D:L2.Dn X.prog X.w X.K X.mg X.base x ps k sp) (hr:L2.Room k X.A) (hg:Gl X x) (ha:Bx (PA X (e::es) t)) (hdb:(x==qAB "__debug__")=Bool.false) (he:qAH (e::es) X.env=(Bool.false,PySem.eval e X.env)::qAH es X.env) (hpl:((PySem.backTo pos (qAH es X.env)).any λ(x:Bool×PySem.Sem Value)=>x.fst)=Bool.false):Bx (PE X ((qU.Name x p).Call (e::es) [] pos) (L2.tCall sp [] L2.E0 t)):=⟨zbar D hr hg ha.out hdb he hpl⟩
theorem zav{X:Cx}{e:qU}{te:TE}{pos:qc}(he:Bx (PE X e te)):Bx (PS X (PySem.Stmt.Return (Option.some e) pos) (L2.tRet te)):=⟨zawo he.out⟩
theorem zatu{X:Cx}{pos:qc}{i:Nat}{x:Str}{e:qU}{te:TE}{pos':qc}(hN:X.N.Nodup)(hi:X.N[i]?=Option.some x)(hx:L2.Loc X.env.scope x)(he:Bx (PE X e te))(hs:PySem.swapsWith e (Option.some (qU.Name x pos')) pos.line X.env=Pure.pure Bool.false)(hf:X.fn x=Bool.true\/List.lookup x X.env.scope.names=Option.some PySem.NameKind.local):Bx (PS X (PySem.Stmt.Assign [qU.Name x pos'] e pos) (L2.tAsg te (L2.gName i))):=⟨zawr hN hi hx he.out hs hf⟩
theorem zcr {X:Cx} {x:Str} {p pos:qc} {e:qU} {es:List qU} {t:TA} {id:String} {r:List L2.V->Hp->VK->Prop} (hc:CallR X (PySem.Value.builtin id) r) (hg:Gl X x) (hm:X.mg x=Option.none) (hv:PySem.bootBuiltins x=Option.some (PySem.Value.builtin id)) (ha:Bx (PA X (e::es) t)) (hn:x≠qAB "__name__") (hdb:(x==qAB "__debug__")=Bool.false) (he:qAH (e::es) X.env=(Bool.false,PySem.eval e X.env)::qAH es X.env) (hpl:((PySem.backTo pos (qAH es X.env)).any λ(x:Bool×PySem.Sem Value)=>x.fst)=Bool.false):Bx (PE X ((qU.Name x p).Call (e::es) [] pos) (L2.tCB r t)):=⟨zanr hc hg hm hv ha.out hn hdb he hpl⟩
theorem zafr{X:Cx}{b:Bool}{j:Nat}{pos:qc}:Bx (PE X (qU.Constant (PySem.Const.bool b) j pos) (tC (L2.V.bl b))):=⟨zbae⟩
theorem zayj{X:Cx}{a b:qU}{ta tb:TE}{pos:qc}{r:L2.R2}(hr:IxR X r)(ha:Bx (PE X a ta))(hb:Bx (PE X b tb))(hs:L2.PlainIx b):Bx (PE X (a.Subscript b pos) (tOp r ta tb)):=⟨zbam hr ha.out hb.out hs⟩
theorem zeo{X:Cx}{t u:TS}{pos:qc}{c:qU}{a b:List Stmt}{tc:TT}(hc:Bx (PT X c tc))(ha:Bx (PSs X a t))(hb:Bx (PSs X b u)):Bx (PS X (PySem.Stmt.If c a b pos) (L2.tIfS tc t u)):=⟨zbag hc.out ha.out hb.out⟩
theorem zcb{X:Cx}:Bx (PSs X [] L2.tNext):=⟨zase⟩
theorem zoa{X:Cx}{a:qU}{pos:qc}{tA:TT}(ha:Bx (PT X a tA)):Bx (PT X (qU.UnaryOp PySem.UnaryOp.Not a pos) (L2.tNot tA)):=⟨zawk ha.out⟩
theorem zdg:∀{X:Cx}{K:qC},
 X.K=K->
  ∀{a:qU}{ta:TE},
   Bx (PE X a ta)->
    (∀(whole:PySem.Sem Value),
      PySem.isTrue a X.env whole=do
       let v <- whole
       PySem.standAt a.pos
       PySem.holding [v] (PySem.truthy v))->
     Bx (PT X a λ(σ:L2.St)(H:Hp)(Q:Bool->Hp->Prop)=>ta σ H λ(x:L2.V)(H':Hp)=>∃(k:Bool),L2.TruV K x H' k/\Q k H'):=by
 intro X K hK a ta ha he
 exact⟨zakk hK ha.out he⟩
theorem zmr{X:Cx}{pos:qc}{i:Nat}{x:Str}(hN:X.N.Nodup)(hi:X.N[i]?=Option.some x)(hx:L2.Loc X.env.scope x)(hf:X.fn x=Bool.true\/List.lookup x X.env.scope.names=Option.some PySem.NameKind.local):Bx (PG X (qU.Name x pos) (L2.gName i)):=⟨zash hN hi hx hf⟩
theorem zbl{X:Cx}{es:List qU}{t:TA}{pos:qc}(h:Bx (PA X es t)):Bx (PE X (qU.List es pos) (tLst t)):=⟨zawy h.out⟩
theorem zfw{X:Cx}{tg iter:qU}{body:List Stmt}{wi:TI}{g:TG}{tb:TS}{pos:qc}(hp:PySem.PassesOwn (PySem.model X.prog X.w) X.A X.env X.xe)(hc:X.calm=Bool.true)(hi:Bx (PI X tg iter wi))(hg:Bx (PG X tg g))(hb:Bx (PSs X body tb))(hs:(∀(x:Value),PySem.foldedSetIterable iter X.env x=Pure.pure x)):Bx (PS X (PySem.Stmt.For tg iter body [] pos) (L2.tFor wi g tb)):=⟨zaws hp hc hi.out hg.out hb.out hs⟩
theorem zcc{X:Cx}{a b:qU}{ta tb:TE}{pos:qc}{op:PySem.CmpOp}{r:L2.R2}(ho:OpR X (PySem.compareOp op) r)(ha:Bx (PE X a ta))(hb:Bx (PE X b tb))(hm:PySem.behindInMarks op b=Bool.false):Bx (PT X (a.Compare [op] [b] pos) (L2.tTest (tOp r ta tb))):=⟨zasl ho ha.out hb.out hm⟩
theorem zhy{X:Cx}{x:Str}{j:Nat}{pos:qc}:Bx (PE X (qU.Constant (PySem.Const.str x) j pos) (tC (L2.V.str x))):=⟨zawe⟩
theorem zdz{X:Cx}{e:qU}{te:TE}{pos:qc}(he:Bx (PE X e te))(hs:PySem.swapsWith e Option.none pos.line X.env=Pure.pure Bool.false):Bx (PS X (PySem.Stmt.Expr e pos) (L2.tDrop te)):=⟨zasg he.out hs⟩
theorem zhg{X:Cx}{es:List qU}{t:TA}{pos:qc}{x1:Nat}(h:Bx (PA X es t)):Bx (PE X (qU.Tuple es x1 pos) (tTup t)):=⟨zawx h.out⟩
theorem zwx{X:Cx}{a:qU}{pos:qc}{op:PySem.BoolOp}{t:TE}(h:Bx (PE X a t)):Bx (PE X (qU.BoolOp op [a] pos) t):=⟨zawl h.out⟩
theorem zwy{X:Cx}{a b:qU}{ta tb:TE}{pos:qc}{op:PySem.CmpOp}{r:L2.R2}(ho:OpR X (PySem.compareOp op) r)(ha:Bx (PE X a ta))(hb:Bx (PE X b tb))(hm:PySem.behindInMarks op b=Bool.false):Bx (PE X (a.Compare [op] [b] pos) (tOp r ta tb)):=⟨zask ho ha.out hb.out hm⟩
theorem zahd {X:Cx} {x:Str} {p pos:qc} {e:qU} {es:List qU} {t:TA} {T:String} {r:List L2.V->Hp->VK->Prop} (hc:CallR X (PySem.Value.type T) r) (hg:Gl X x) (hm:X.mg x=Option.none) (hv:PySem.bootBuiltins x=Option.some (PySem.Value.type T)) (ha:Bx (PA X (e::es) t)) (hn:x≠qAB "__name__") (hdb:(x==qAB "__debug__")=Bool.false) (he:qAH (e::es) X.env=(Bool.false,PySem.eval e X.env)::qAH es X.env) (hpl:((PySem.backTo pos (qAH es X.env)).any λ(x:Bool×PySem.Sem Value)=>x.fst)=Bool.false):Bx (PE X ((qU.Name x p).Call (e::es) [] pos) (L2.tCB r t)):=⟨zajb hc hg hm hv ha.out hn hdb he hpl⟩
theorem zgx{X:Cx}{x:Str}{v:L2.V}{u:Value}{pos:qc}(hg:Gl X x)(hm:X.mg x=Option.none)(hv:PySem.bootBuiltins x=Option.some u)(r:L2.RelV v u)(hn:x≠qAB "__name__")(hd:(x==qAB "__debug__")=Bool.false):Bx (PE X (qU.Name x pos) (tC v)):=⟨zasc hg hm hv r hn hd⟩
theorem zwz{X:Cx}{a:qU}{pos:qc}{tA:TT}(ha:Bx (PT X a tA)):Bx (PW X (qU.BoolOp PySem.BoolOp.Or [a] pos) tA):=⟨zawi ha.out⟩
theorem zafs {X:Cx} {a b:qU} {pos:qc} {tA tB':TT} {rest:List qU} (ha:Bx (PT X a tA)) (hb:Bx (PW X (qU.BoolOp PySem.BoolOp.Or (b::rest) pos) tB')):Bx (PW X (qU.BoolOp PySem.BoolOp.Or (a::b::rest) pos) (L2.tOr tA tB')):=⟨zbaf ha.out hb.out⟩
theorem zkx{X:Cx}{e:qU}{te:TE}(h:Bx (PE X e te)):Bx (PO X (Option.some e) (tPart te)):=⟨zasq h.out⟩
theorem zrb{X:Cx}:Bx (PO X Option.none L2.tNoPart):=⟨zasp⟩
theorem zjt{X:Cx}{e:qU}{te:TE}{lo hi:Option qU}{tl th:TO}{pos p2:qc}{r:L2.V->Option Int->Option Int->Hp->VK->Prop}(hr:SlR X r)(he:Bx (PE X e te))(hl:Bx (PO X lo tl))(hu:Bx (PO X hi th)):Bx (PE X (e.Subscript (qU.Slice lo hi Option.none p2) pos) (L2.tSl r te tl th)):=⟨zans hr he.out hl.out hu.out⟩
theorem zbd {X:Cx} {scope:Scope} {N' own:List Str} {fr:List Nat} {elt target iter:qU} {ifs:List qU} {cpos:qc} {wi:TI} {g:TG} {tt:TT} {te:TE} (c:L2.CompOk X scope N' own fr) (hc:X.calm=Bool.true) (hi:Bx (PI X target iter wi)) (hb:(∀(cl:List (Str×Addr))(C:Addr)(s:Shared)(H:Hp)(fp:List Addr),PG (cxComp X scope N' own cl C s H fp) target g/\PF (cxComp X scope N' own cl C s H fp) ifs tt/\PE (cxComp X scope N' own cl C s H fp) elt te)) (hs:(∀(x:Value),PySem.foldedSetIterable iter X.env x=Pure.pure x)):Bx (PE X (elt.ListComp [{target:=target,iter:=iter,ifs:=ifs,is_async:=0}] scope cpos) (L2.tComp1 wi g tt te own fr)):=⟨zaoc c hc hi.out hb hs⟩
theorem zet {X:Cx} {K:qC} (hK:X.K=K) {T:String} {name:Str} {id:String} {r:L2.V->List L2.V->Hp->VK->Prop} {o e:qU} {es:List qU} {to:TE} {t:TA} {apos cpos:qc} (pa:PySem.PlainAttrs T) (slot:PySem.Slot T name id) (hty:PySem.typeOf (PySem.Value.builtin id)=Pure.pure (PySem.Value.type "method_descriptor")) (hm:MtR X id r) (ho:Bx (PE X o to)) (ha:Bx (PA X (e::es) t)) (hbase:PySem.attributeBase o name X.env (PySem.eval o X.env)=PySem.eval o X.env) (hfew:((((PySem.backTo cpos (qAH (e::es) X.env)).all λ(x:Bool×PySem.Sem Value)=>!x.fst)&&(PySem.backToKw cpos (PySem.keywordEach [] X.env)).all λ(x:Option Str×PySem.Sem Value)=>x.fst.isSome)&&Decidable.decide (((e::es).length+([]:List Keyword).length+if([]:List Keyword).isEmpty=Bool.true then 0 else 1)<30))=Bool.true) (hline:(apos.endLine==cpos.line)=Bool.true) (hs:qAH (e::es) X.env=(Bool.false,PySem.eval e X.env)::qAH es X.env) (hplain:((PySem.backTo cpos (qAH es X.env)).any λ(x:Bool×PySem.Sem Value)=>x.fst)=Bool.false):Bx (PE X ((o.Attribute name apos).Call (e::es) [] cpos) (L2.tBM K T r to t)):=⟨zaxr hK pa slot hty hm ho.out ha.out hbase hfew hline hs hplain⟩
theorem zrz {X:Cx} {a b:qU} {ta tb:TE} {pos:qc} {rest:List qU} (ha:Bx (PE X a ta)) (hb:Bx (PE X (qU.BoolOp PySem.BoolOp.And (b::rest) pos) tb)):Bx (PE X (qU.BoolOp PySem.BoolOp.And (a::b::rest) pos) (L2.tAndV ta tb)):=⟨zawm ha.out hb.out⟩
theorem zaoz{X:Cx}{pos:qc}:Bx (PPs X pos [] [] []):=⟨zata⟩
theorem zakq{X:Cx}{pos:qc}{k v:qU}{ks:List (Option qU)}{vs:List qU}{tk tv:TE}{trs:List (TE×TE)}(hk:Bx (PE X k tk))(hv:Bx (PE X v tv))(hr:Bx (PPs X pos ks vs trs)):Bx (PPs X pos (Option.some k::ks) (v::vs) ((tk,tv)::trs)):=⟨zanz hk.out hv.out hr.out⟩
theorem zatv{X:Cx}{tg l:qU}{tl:TE}(hl:Bx (PE X l tl)):Bx (PI X tg l (L2.iStr tl)):=⟨zayg hl.out⟩
theorem zbb{X:Cx}{K:qC}(hK:X.K=K){tg l:qU}{tl:TE}(hl:Bx (PE X l tl)):Bx (PI X tg l (L2.iSeq K tl)):=⟨zatn hK hl.out⟩
theorem zew{X:Cx}{tg a:qU}{ta:TA}{p pos:qc}(hg:Gl X (qAB "range"))(hm:X.mg (qAB "range")=Option.none)(ha:Bx (PA X [a] ta))(hs:qAH [a] X.env=[(Bool.false,PySem.eval a X.env)]):Bx (PI X tg ((qU.Name (qAB "range") p).Call [a] [] pos) (L2.iRng1 ta)):=⟨zait hg hm ha.out hs⟩
theorem zce{X:Cx}:Bx (PF X [] L2.tAll):=⟨zaxk⟩
theorem zakr{X:Cx}{j:Nat}{pos:qc}:Bx (PE X (qU.Constant PySem.Const.none j pos) (tC L2.V.non)):=⟨zawd⟩
theorem zaab{X:Cx}{pos:qc}:Bx (PE X (qU.Dict [] [] pos) L2.tDNewK):=⟨zany⟩
theorem zapa{X:Cx}{pos:qc}{keys:List (Option qU)}{values:List qU}{trs:List (TE×TE)}(h:Bx (PPs X pos keys values trs))(hall:(keys.all λ(x:Option qU)=>x.isSome)=Bool.true)(hl:keys.length=values.length)(h0:keys≠[])(h15:keys.length<=15):Bx (PE X (qU.Dict keys values pos) (L2.tDisp trs)):=⟨zatb h.out hall hl h0 h15⟩
theorem zsa{X:Cx}{c:qU}{t:TT}(h:Bx (PT X c t)):Bx (PF X [c] t):=⟨zaxl h.out⟩
theorem zatw{X:Cx}{a:qU}{ta:TE}{pos:qc}(ha:Bx (PE X a ta)):Bx (PE X (qU.UnaryOp PySem.UnaryOp.Not a pos) (L2.tNotV ta)):=⟨zawn ha.out⟩
theorem zrc{X:Cx}{o i:qU}{pos:qc}{td ty:TE}(hu:X.A.units+1<PySem.cLine)(ho:Bx (PE X o td))(hi:Bx (PE X i ty))(hs:L2.NoSl i):Bx (PE X (o.Subscript i pos) (L2.tDGet td ty)):=⟨zasy hu ho.out hi.out hs⟩
theorem zaft{X:Cx}{a:qU}{pos:qc}{tA:TT}(ha:Bx (PT X a tA)):Bx (PW X (qU.BoolOp PySem.BoolOp.And [a] pos) tA):=⟨zasd ha.out⟩
theorem zaks {X:Cx} {a b:qU} {pos:qc} {tA tB':TT} {rest:List qU} (ha:Bx (PT X a tA)) (hb:Bx (PW X (qU.BoolOp PySem.BoolOp.And (b::rest) pos) tB')):Bx (PW X (qU.BoolOp PySem.BoolOp.And (a::b::rest) pos) (L2.tAnd tA tB')):=⟨zawj ha.out hb.out⟩
theorem zakt{X:Cx}{pos:qc}{c:qU}{body:List Stmt}{tc:TT}{tb:TS}(hp:PySem.PassesOwn (PySem.model X.prog X.w) X.A X.env X.xe)(hc:Bx (PT X c tc))(hb:Bx (PSs X body tb)):Bx (PS X (PySem.Stmt.While c body [] pos) (L2.tWhile tc tb)):=⟨zanl hp hc.out hb.out⟩
theorem zaac{X:Cx}{st:Stmt}:Bx (PS X st L2.tNever):=⟨zanj⟩
theorem zapb{X:Cx}{o i value:qU}{pos pos':qc}{td ty tv:TE}(hu:X.A.units+1<PySem.cLine)(ho:Bx (PE X o td))(hi:Bx (PE X i ty))(hv:Bx (PE X value tv))(hs:PySem.swapsWith value (Option.some (o.Subscript i pos')) pos.line X.env=Pure.pure Bool.false):Bx (PS X (PySem.Stmt.Assign [o.Subscript i pos'] value pos) (L2.sDPut td ty tv)):=⟨zasz hu ho.out hi.out hv.out hs⟩
theorem zaku {X:Cx} {scope:Scope} {N' own:List Str} {fr:List Nat} {elt target iter:qU} {ifs:List qU} {cpos:qc} {wi:TI} {g:TG} {tt:TT} {te:TE} {spos py:qc} {i:Nat} {y:Str} (c:L2.CompOk X scope N' own fr) (hc:X.calm=Bool.true) (hi:Bx (PI X target iter wi)) (hb:(∀(cl:List (Str×Addr))(C:Addr)(s:Shared)(H:Hp)(fp:List Addr),PG (cxComp X scope N' own cl C s H fp) target g/\PF (cxComp X scope N' own cl C s H fp) ifs tt/\PE (cxComp X scope N' own cl C s H fp) elt te)) (hsw:PySem.swapsWith (elt.ListComp [{target:=target,iter:=iter,ifs:=ifs,is_async:=0}] scope cpos) (Option.some (qU.Name y py)) spos.line X.env=Pure.pure Bool.true) (hN:X.N.Nodup) (hy:X.N[i]?=Option.some y) (hl:List.lookup y X.env.scope.names=Option.some PySem.NameKind.local) (hs:(∀(x:Value),PySem.foldedSetIterable iter X.env x=Pure.pure x)):Bx (PS X (PySem.Stmt.Assign [qU.Name y py] (elt.ListComp [{target:=target,iter:=iter,ifs:=ifs,is_async:=0}] scope cpos) spos) (L2.tAsgC1 wi g tt te own fr i)):=⟨zaod c hc hi.out hb hsw hN hy hl hs⟩
theorem zatx {X:Cx} {pos:qc} {tg e:qU} {te:TE} {g:TG} (he:Bx (PE X e te)) (hg:Bx (PG X tg g)) (hs:PySem.swapsWithSole [tg] e pos.line X.env=Pure.pure Bool.false) (hw:PySem.swappedStores [tg] e X.env=Pure.pure Option.none) (h1:List.map (λ(x:Bool×(Value->PySem.Sem Unit))=>x.snd) (PySem.assignEach [tg] X.env)=[PySem.assign tg X.env]):Bx (PS X (PySem.Stmt.Assign [tg] e pos) (L2.tAsg te g)):=⟨zara he.out hg.out hs hw h1⟩
theorem zxa {X:Cx} {K:qC} (hK:X.K=K) {a b:qU} {ta:TA} {p pos:qc} {elts:List qU} {x1:Nat} {tpos:qc} (hg:Gl X (qAB "zip")) (hm:X.mg (qAB "zip")=Option.none) (ha:Bx (PA X [a,b] ta)) (hs:qAH [a,b] X.env=(Bool.false,PySem.eval a X.env)::qAH [b] X.env) (hs2:((PySem.backTo pos (qAH [b] X.env)).any λ(x:Bool×PySem.Sem Value)=>x.fst)=Bool.false):Bx (PI X (qU.Tuple elts x1 tpos) ((qU.Name (qAB "zip") p).Call [a,b] [] pos) (L2.iZip K ta)):=⟨zayf hK hg hm ha.out hs hs2⟩
theorem zakv{X:Cx}{K:qC}(hK:X.K=K){a:qU}{ta:TA}{p pos:qc}{elts:List qU}{x1:Nat}{tpos:qc}(hg:Gl X (qAB "enumerate"))(hm:X.mg (qAB "enumerate")=Option.none)(ha:Bx (PA X [a] ta))(hs:qAH [a] X.env=[(Bool.false,PySem.eval a X.env)]):Bx (PI X (qU.Tuple elts x1 tpos) ((qU.Name (qAB "enumerate") p).Call [a] [] pos) (L2.iEnumX K ta)):=⟨zaow hK hg hm ha.out hs⟩
theorem zfh{X:Cx}:Bx (PGs X [] L2.gNil):=⟨zasi⟩
theorem zbg {X:Cx} {e:qU} {es:List qU} {t:TG} {u:L2.TGs} (h1:Bx (PG X e t)) (h2:Bx (PGs X es u)) (hs:List.map (λ(x:Bool×(Value->PySem.Sem Unit))=>x.snd) (PySem.assignEach (e::es) X.env)=PySem.assign e X.env::List.map (λ(x:Bool×(Value->PySem.Sem Unit))=>x.snd) (PySem.assignEach es X.env)):Bx (PGs X (e::es) (L2.gCons t u)):=⟨zank h1.out h2.out hs⟩
theorem zfi {X:Cx} {K:qC} (hK:X.K=K) {es:List qU} {k:Nat} {t:L2.TGs} {n:Nat} {pos:qc} (hc:X.calm=Bool.true) (h:Bx (PGs X es t)) (hn:(PySem.assignEach es X.env).length=n) (hst:List.findIdx? (λ(x:Bool×(Value->PySem.Sem Unit))=>x.fst) (PySem.assignEach es X.env)=Option.none):Bx (PG X (qU.Tuple es k pos) (L2.gTup K n t)):=⟨zate hK hc h.out hn hst⟩
theorem zaad {X:Cx} {scope:Scope} {N' own:List Str} {fr:List Nat} {elt target iter target2 iter2:qU} {ifs ifs2:List qU} {cpos:qc} {wi wi2:TI} {g g2:TG} {tt tt2:TT} {te:TE} (c:L2.CompOk X scope N' own fr) (hc:X.calm=Bool.true) (hi:Bx (PI X target iter wi)) (hb:(∀(cl:List (Str×Addr))(C:Addr)(s:Shared)(H:Hp)(fp:List Addr),PG (cxComp X scope N' own cl C s H fp) target g/\PF (cxComp X scope N' own cl C s H fp) ifs tt/\PI (cxComp X scope N' own cl C s H fp) target2 iter2 wi2/\PG (cxComp X scope N' own cl C s H fp) target2 g2/\PF (cxComp X scope N' own cl C s H fp) ifs2 tt2/\PE (cxComp X scope N' own cl C s H fp) elt te)) (hs:(∀(x:Value),PySem.foldedSetIterable iter X.env x=Pure.pure x)) (hs2:(∀(env:PySem.Env)(x:Value),PySem.foldedSetIterable iter2 env x=Pure.pure x)):Bx (PE X (elt.ListComp [{target:=target,iter:=iter,ifs:=ifs,is_async:=0},{target:=target2,iter:=iter2,ifs:=ifs2,is_async:=0}] scope cpos) (L2.tComp2 wi g tt wi2 g2 tt2 te own fr)):=⟨zaop c hc hi.out hb hs hs2⟩
theorem zapc{X:Cx}{K:qC}(hK:X.K=K){T:String}{name:Str}{id:String}{r:L2.V->List L2.V->Hp->VK->Prop}{o:qU}{to:TE}{apos cpos:qc}(pa:PySem.PlainAttrs T)(slot:PySem.Slot T name id)(hty:PySem.typeOf (PySem.Value.builtin id)=Pure.pure (PySem.Value.type "method_descriptor"))(hm:MtR X id r)(ho:Bx (PE X o to))(hbase:PySem.attributeBase o name X.env (PySem.eval o X.env)=PySem.eval o X.env)(hline:(apos.endLine==cpos.line)=Bool.true):Bx (PE X ((o.Attribute name apos).Call [] [] cpos) (L2.tBM0 K T r to)):=⟨zatr hK pa slot hty hm ho.out hbase hline⟩
theorem zaty{X:Cx}{a:qU}{ta:TE}{j:Nat}{pos':qc}(ha:Bx (PE X a ta)):Bx (L2.PC X PySem.CmpOp.Is a (qU.Constant PySem.Const.none j pos') (L2.tIsN ta)):=⟨zawf ha.out⟩
theorem zakw{X:Cx}{o i:qU}{td ty:TE}(hu:X.A.units+1<PySem.cLine)(hi:Bx (PE X i ty))(ho:Bx (PE X o td)):Bx (L2.PC X PySem.CmpOp.In i o (L2.tDIn ty td)):=⟨zaxi hu hi.out ho.out⟩
theorem zakx{X:Cx}{a b:qU}{pos:qc}{op:PySem.CmpOp}{t:TE}(h:Bx (L2.PC X op a b t))(h1:PySem.behindInMarks op b=Bool.false):Bx (PE X (a.Compare [op] [b] pos) t):=⟨zawg h.out h1⟩
theorem zatz{X:Cx}{a b:qU}{pos:qc}{op:PySem.CmpOp}{t:TE}(h:Bx (L2.PC X op a b t))(h1:PySem.behindInMarks op b=Bool.false):Bx (PT X (a.Compare [op] [b] pos) (L2.tB t)):=⟨zawh h.out h1⟩
theorem bv{X:Cx}(i:Nat){x:Str}{pos:Pos}(hN:X.N[i]?=some x:=by rfl)(hv:visB X.env.scope x=true:=by rfl)(hd:(x==("__debug__":Str))=false:=by decide)
  (hcd:(x==("__classdict__":Str))=false:=by decide):Bx (PE X (.Name x pos) (tVar i)):=⟨zawb hN (visB.of hv) hd hcd⟩
theorem zrd{X:Cx}{i:Nat}{o k e:Expr}{tk tv:TE}{pos pos':Pos}(ho:Bx (PE X o (tVar i)))(hk:Bx (PE X k tk))(hv:Bx (PE X e tv))
  (ha:∀v,assign (.Subscript o k pos') X.env v=(do
   let ov <- holding [v] (eval o X.env)
   let iv <- holding [v,ov] (eval k X.env)
   standAt pos'
   holding [v,ov,iv] (setItem ov iv v)
   release [v,ov,iv] []))
  (hs:swapsWithSole [.Subscript o k pos'] e pos.line X.env=pure false)(hw:swappedStores [.Subscript o k pos'] e X.env=pure none)(h1:(assignEach [.Subscript o k pos'] X.env).map (·.2)=[assign (.Subscript o k pos') X.env]) :
  Bx (PS X (.Assign [.Subscript o k pos'] e pos) (tAsg tv (gSub (tVar i) tk zast))):=⟨zara hv.out (zawq ho.out hk.out zant ha) hs hw h1⟩
noncomputable def SatK(fx:Addr->Prop)(H0:Hp)(J:Nat->Prop)(σ0:St)(D:Ends):Out->Prop
 | .nx env=>∀σ H,EnvOk fx H0 env σ H->(∀j,J j->σ[j]?=σ0[j]?)->D.nx σ H
 | .bk env=>∀σ H,EnvOk fx H0 env σ H->(∀j,J j->σ[j]?=σ0[j]?)->D.bk σ H
 | .ct env=>∀σ H,EnvOk fx H0 env σ H->(∀j,J j->σ[j]?=σ0[j]?)->D.ct σ H
 | .rt d fr=>∀v H,Same H0 H->zzq fx H0 d fr v H->D.rt v H
noncomputable def SSk(J:Nat->Prop)(ts:TS)(F:SF):Prop:=∀(fx:Addr->Prop)(H0:Hp)(env:DEnv)(σ:St)(H:Hp)(D:Ends),EnvOk fx H0 env σ H->∀o,F env=some o->SatK fx H0 J σ D o->ts D σ H
section
variable{J:Nat->Prop}
theorem zaky{te:TE}{f:EF}{i:Nat}(h1:SE te f)(hJ:¬J i):SSk J (tAsg te (gName i)) (sSet i f):=by
 intro fx H0 env σ H D h o e q
 unfold sSet at e
 obtain⟨r,er,rfl⟩:=qF.mp e
 exact h1 fx H0 env σ H h r er _ λv H' s hv=>q _ H' (h.put s hv i) λj hj=>qd λz=>hJ (by rw[z];exact hj)
noncomputable def SGk(J:Nat->Prop)(g:TG)(f:GT):Prop:=∀(fx:Addr->Prop)(H0:Hp)(env:DEnv)(σ:St)(H:Hp)(d:PyData)(v:V),EnvOk fx H0 env σ H->Rp (Offs (λa=>fx a\/own env σ a) H) d v->∀env',f d env=some env'->∀Q:St->Hp->Prop,
 (∀σ',EnvOk fx H0 env' σ' H->(∀j,J j->σ'[j]?=σ[j]?)->Q σ' H)->g v σ H Q
theorem zms{i:Nat}(hJ:¬J i):SGk J (gName i) (gN i):=by
 intro fx H0 env σ H d v h r env' e Q q
 cases e
 exact q _ (h.setPl i r) λj hj=>qd λz=>hJ (by rw[z];exact hj)
end
end L2
namespace HT
open PySem PySem.Spec PyProof.Rows L2
end HT
namespace L2
open PySem PySem.Spec PyProof.Rows
noncomputable def plS:Sl->Sl
 | .ac d=>.pl d
 | s=>s
noncomputable def plE(env:DEnv):DEnv:=env.map plS
noncomputable def noA(as:List Nat)(env:DEnv):DEnv:=as.foldl (λe i=>e.set i .no) env
noncomputable def zbbo(h:Nat)(as:List Nat)(f1 f2 f3:EF)(R1:SF)(c:TF)(ix:EF)(R2:SF):SF:=λenv=>
 (f1 (plE env)).bind λr1=>(f2 (plE env)).bind λr2=>(f3 (plE env)).bind λr3=>match r3.d with
 | .list ds=>if r3.fr=true/\h∉as then(R1 ((plE env).set h (.pl (.tuple [r1.d,r2.d,.list ds])))).bind λo=>match o with
  | .nx e=>if e.length=env.length/\h<env.length then(c e).bind λb=>if b=true then(ix e).bind λz=>(match z.d with
    | .int k=>if 0<=k/\k<100000/\k.toNat<ds.length then R2 ((noA as (plE env)).set h (.pl (.tuple [r1.d,r2.d,.list (ds.eraseIdx k.toNat)])))else none
    | _=>none)else R2 ((noA as (plE env)).set h (.pl (.tuple [r1.d,r2.d,.list ds])))else none
  | .rt d fr=>some (.rt d fr)
  | _=>none else none
 | _=>none
noncomputable def repD:OF
 | .list ds,.int n=>if 0<=n/\n<=100/\ds.length<=100 then some (.list (List.replicate n.toNat ds).flatten,true)else none
 | _,_=>none
theorem Rps.rep{H:Hp}{ds:List PyData}{vs:List V}(h:Rps H ds vs):∀(n:Nat),Rps H (List.replicate n ds).flatten (List.replicate n vs).flatten
 | 0=>zcv
 | n+1=>by
  rw[qAj,qAj,qBH,qBH]
  exact h.append (Rps.rep h n)
theorem zafu:SO rRep repD:=by
 intro A H x y dx dy hA rx ry d fr e Q q
 unfold repD at e
 split at e
 ·rename_i ds n
  split at e
  ·rename_i hl
   cases e
   obtain⟨a,xs,rfl,h1,r1⟩:=zde rx
   cases zdf ry
   have hlen:=r1.length
   refine⟨a,n,xs,rfl,rfl,zco h1,by omega,by omega,?_,λp hp=>?_⟩
   ·refine zfc ?_
    rw[<- hlen]
    calc ds.length * n.toNat<=100 * 100:=qCv hl.2.2 (by omega)
     _<=100000:=by decide
   ·have r:=r1.rep n.toNat
    exact q _ _ (Same.new hp) (zuo hp (zed hA hp) r) λ_=>⟨p,rfl,hp,znu hp r⟩
  ·cases e
 ·cases e
section
variable{J:Nat->Prop}{f:Nat}
noncomputable def SGks(J:Nat->Prop)(g:TGs)(f:GTs):Prop:=∀(fx:Addr->Prop)(H0:Hp)(env:DEnv)(σ:St)(H:Hp)(ds:List PyData)(vs:List V),EnvOk fx H0 env σ H->Rps (Offs (λa=>fx a\/own env σ a) H) ds vs->∀env',f ds env=some env'->∀Q:St->Hp->Prop,
 (∀σ',EnvOk fx H0 env' σ' H->(∀j,J j->σ'[j]?=σ[j]?)->Q σ' H)->g vs σ H Q
theorem zapd:SGks J gNil zft:=by
 intro fx H0 env σ H ds vs h r env' e Q q
 cases ds with
 | nil=>cases e;unfold Rps at r;exact⟨r,q _ h λ_ _=>rfl⟩
 | cons _ _=>cases e
theorem zaae{i:Nat}{t:TGs}{g:GTs}(hJ:¬J i)(h1:SGks J t g):SGks J (gCons (gName i) t) (zba i g):=by
 intro fx H0 env σ H ds vs h r env' e Q q
 cases ds with
 | nil=>cases e
 | cons d ds=>
  unfold Rps at r
  obtain⟨v,ws,rfl,r1,r2⟩:=r
  refine⟨v,ws,rfl,h1 fx H0 (env.set i (.pl d)) _ H ds ws (h.setPl i r1) (Rps.same (Offs.sub λb z=>z.imp (λy=>y) (zacz b)) _ r2) env' e Q λσ' k1 k2=>q σ' k1 λj hj=>(k2 j hj).trans (qd λz=>hJ (by rw[z];exact hj))⟩
theorem zaua{K:qC}{n:Nat}{t:TGs}{g:GTs}(h1:SGks J t g):SGk J (gTup K n t) (gT n g):=by
 intro fx H0 env σ H d v h r env' e Q q
 unfold gT at e
 cases d with
 | tuple ds=>
  have e:(if ds.length=n then g ds env else none)=some env':=e
  split at e
  ·rename_i hn
   obtain⟨a,xs,rfl,ha,rs⟩:=zcx r
   exact⟨a,xs,rfl,SqT.of (zco ha),by rw[<- rs.length];exact hn,h1 fx H0 env σ H ds xs h rs env' e Q q⟩
  ·cases e
 | _=>cases e
end
end L2
namespace PySem
open Sem (wp)
end PySem
namespace L2
open PySem PySem.Spec PyProof.Rows
end L2
namespace PySem
open Sem (wp)
end PySem
namespace L2
open PySem PySem.Spec PyProof.Rows
theorem zape(t b:Addr)(items items2:Array Value)(n n2:Nat)(dd dd2:Option Addr)(sl sl2:Array (Option Value))(hc0:items.isEmpty=true) :
  Meets (Builtin.«tuple.__add__» ⟨[.ref t,.ref b],[]⟩) (λ_ R s=>s.heap.get? t=some {cls:=.type "tuple",dict:=dd,data:=.seq items n,slots:=sl}/\s.heap.get? b=some {cls:=.type "tuple",dict:=dd2,data:=.seq items2 n2,slots:=sl2}/\R (.ok (.ret (.ref b))) s):=
 .of_wp λprog w A R s h=>by
  obtain⟨hp,g,d,tk,os⟩:=s;obtain⟨hl,hb,h⟩:=h
  have f2:=sub_tuple_tuple
  wp_walk using qBb hl,qBb hb
  exact⟨_,rfl,h⟩
noncomputable def zayk(K:qC):R2:=λx y H Q=>zaoh K x y H Q\/∃a b ys,x=.ref a/\y=.ref b/\SqT K H a []/\SqT K H b ys/\Q y H
theorem zaub{X:Cx}{K:qC}(hK:X.K=K):OpR X (binaryOp .Add) (zayk K):=by
 subst hK
 intro pins s σ H x y v u Q I rx ry h
 rcases h with h|⟨a,b,ys,rfl,rfl,ha,hb,q⟩
 ·exact zajr pins s σ H x y v u Q I rx ry h
 ·cases rx
  cases ry
  obtain⟨its,r1,p1,_⟩:=I.tuple ha
  obtain⟨its2,r2,p2,_⟩:=I.tuple hb
  cases r1
  obtain⟨⟨cls,dd,data,sl⟩,ho,hc,n,hd⟩:=id p1
  obtain⟨⟨cls2,dd2,data2,sl2⟩,ho2,hc2,n2,hd2⟩:=id p2
  simp only at hc hd hc2 hd2
  subst hc hd hc2 hd2
  exact concat_meets ⟨_,ho,rfl⟩ ⟨_,ho2,rfl⟩ qCs seq_tuple_add qB3 qBz (qBs _ _)
   (zape a b _ its2.toArray n n2 dd dd2 sl sl2 (by rfl)) ⟨ho,ho2,⟨.ref b,H,I,rfl,q⟩⟩
noncomputable def addE:OF
 | .tuple [],.tuple ys=>some (.tuple ys,false)
 | x,y=>addD x y
theorem zauc{K:qC}:SO (zayk K) addE:=by
 intro A H x y dx dy hA rx ry d fr e Q q
 unfold addE at e
 split at e
 ·cases e
  obtain⟨a,xs,rfl,ha,r⟩:=zcx rx
  obtain⟨b,ys',rfl,hb,r'⟩:=zcx ry
  have:xs=[]:=by unfold Rps at r;exact r
  subst this
  exact .inr ⟨a,b,_,rfl,rfl,SqT.of (zco ha),SqT.of (zco hb),q _ H (Same.refl _) ry λz=>by cases z⟩
 ·exact .inl (zgs A H x y dx dy hA rx ry d fr e Q q)
noncomputable abbrev TbH(P:Addr)(q:Str)(H:Hp):Prop:=H P=some (.tabO q)
noncomputable def SEb(P:Addr)(q:Str)(te:TE)(f:EF):Prop:=∀(fx:Addr->Prop)(H0:Hp)(env:DEnv)(σ:St)(H:Hp),TbH P q H->EnvOk fx H0 env σ H->∀r,f env=some r->∀Q:VK,(∀v H',Same H H'->ValOk (lim fx env σ r.bs) H H' r v->Q v H')->te σ H Q
noncomputable def STb(P:Addr)(q:Str)(tt:TT)(f:TF):Prop:=∀(fx:Addr->Prop)(H0:Hp)(env:DEnv)(σ:St)(H:Hp),TbH P q H->EnvOk fx H0 env σ H->∀b,f env=some b->∀Q:Bool->Hp->Prop,(∀H',Same H H'->Q b H')->tt σ H Q
noncomputable def SSb(P:Addr)(q:Str)(ts:TS)(F:SF):Prop:=∀(fx:Addr->Prop)(H0:Hp)(env:DEnv)(σ:St)(H:Hp)(D:Ends),TbH P q H0->EnvOk fx H0 env σ H->∀o,F env=some o->Sat fx H0 D o->ts D σ H
section
variable{P:Addr}{q:Str}
theorem zakz{te:TE}{f:EF}(h:SE te f):SEb P q te f:=λfx H0 env σ H _ hE=>h fx H0 env σ H hE
theorem zayl{tt:TT}{f:TF}(h:ST tt f):STb P q tt f:=λfx H0 env σ H _ hE=>h fx H0 env σ H hE
theorem zsb{ts:TS}{F:SF}(h:SS ts F):SSb P q ts F:=λfx H0 env σ H D _ hE=>h fx H0 env σ H D hE
theorem zaud{K:qC}{te:TE}{f:EF}(h:SEb P q te f):STb P q (λσ H Q=>te σ H λx H1=>∃k,TruV K x H1 k/\Q k H1) (tTru f):=by
 intro fx H0 env σ H hT hE b hb Q qq
 unfold tTru at hb
 obtain⟨r,e,hb⟩:=qA.mp hb
 exact h fx H0 env σ H hT hE _ e _ λv H' s v1=>⟨b,zaxs (Rp.same (Offs.same _ _) _ v1.rp) hb,qq H' s⟩
theorem zaym{t u:TT}{f g:TF}(h:STb P q t f)(k:STb P q u g):STb P q (tOr t u) (tOrF f g):=by
 intro fx H0 env σ H hT hE b hb Q qq
 unfold tOrF at hb
 obtain⟨c,e,hb⟩:=qA.mp hb
 refine h fx H0 env σ H hT hE c e _ λH' s=>?_
 cases c with
 | true=>cases hb;exact iteT (qq H' s)
 | false=>exact iteF (k fx H0 env σ H' (s _ _ hT) (hE.up s) b hb _ λH2 s2=>qq H2 (s.trans s2))
theorem zaue{t:TT}{f:TF}(h:STb P q t f):STb P q (tNot t) (zjp f):=by
 intro fx H0 env σ H hT hE b hb Q qq
 unfold zjp at hb
 obtain⟨c,e,rfl⟩:=qF.mp hb
 exact h fx H0 env σ H hT hE c e _ λH' s=>qq H' s
theorem zlx{t u:TS}{f g:SF}(h1:SSb P q t f)(h2:SSb P q u g):SSb P q (tSeq t u) (sSeq f g):=by
 intro fx H0 env σ H D hT h o e qq
 unfold sSeq at e
 obtain⟨o1,e1,e⟩:=qA.mp e
 refine h1 fx H0 env σ H _ hT h o1 e1 ?_
 cases o1 with
 | nx env'=>exact λσ' H' h'=>h2 fx H0 env' σ' H' D hT h' o e qq
 | bk env'=>cases e;exact qq
 | ct env'=>cases e;exact qq
 | rt d fr=>cases e;exact qq
theorem zayn{tc:TT}{t u:TS}{c:TF}{f g:SF}(hc:STb P q tc c)(h1:SSb P q t f)(h2:SSb P q u g):SSb P q (tIfS tc t u) (sIf c f g):=by
 intro fx H0 env σ H D hT h o e qq
 unfold sIf at e
 obtain⟨b,eb,e⟩:=qA.mp e
 refine hc fx H0 env σ H (h.base _ _ hT) h b eb _ λH' s=>?_
 cases b with
 | true=>exact iteT (h1 fx H0 env σ H' D hT (h.up s) o e qq)
 | false=>exact iteF (h2 fx H0 env σ H' D hT (h.up s) o e qq)
theorem zala{te:TE}{f:EF}(h1:SEb P q te f):SSb P q (tRet te) (sRet f):=by
 intro fx H0 env σ H D hT h o e qq
 unfold sRet at e
 obtain⟨r,er,rfl⟩:=qF.mp e
 refine h1 fx H0 env σ H (h.base _ _ hT) h r er _ λv H' s hv=>qq v H' (h.base.trans s) ⟨Rp.same (Offs.sub λb z=>.inl z) _ hv.rp,λz=>?_⟩
 obtain⟨a,g1,g2,g3⟩:=hv.fr z
 exact⟨a,g1,h.base.free g2,g3.same (Offs.sub λb y=>y.imp (λw=>.inl w) id) λo w=>w⟩
noncomputable def spDT(P:Addr)(q:Str)(n:Nat)(g:GF):Sp:=λvs H Q E=>TbH P q H/\spD n g vs H Q E
theorem zxb{n:Nat}{g:GF}{ta:TA}{f:AF}(ha:SA ta f):SEb P q (tCall (spDT P q n g) [] E0 ta) (zas n g f):=by
 intro fx H0 env σ H hT h rr hr Q qq
 unfold zas at hr
 obtain⟨rs,er,hr⟩:=qA.mp hr
 split at hr
 ·rename_i hn
  obtain⟨⟨d,fr⟩,ez,hr⟩:=qA.mp hr
  cases hr
  refine ha fx H0 env σ H h rs er _ λvs H1 s1 v1=>?_
  have hA:=(h.up s1).lims (bss rs)
  refine⟨s1 _ _ hT,lim fx env σ (bss rs),zfp rs,d,fr,by rw[zgi];exact hn,hA,?_,ez,λv H2 s2 rt=>qq v H2 (s1.trans s2) ⟨zjn rt.1,λe=>?_⟩⟩
  ·rw[qAD];exact zeq (λi hi=>hi) v1
  ·obtain⟨a,g1,g2,g3⟩:=rt.2 e
   refine⟨a,g1,s1.free g2,?_⟩
   have nf:zgp d=false:=by cases d<;>first|rfl|exact g3.elim
   show zfs (Offs (λb=>lim fx env σ (bsOf d (bss rs)) b\/b=a) H2) H2 a d
   rw[show bsOf d (bss rs)=bss rs by unfold bsOf;rw[if_neg (by rw[nf];decide)]]
   exact g3
 ·cases hr
theorem zbaw{N:List Str}{n:Nat}{f:SF}{t:TS}(hs:SSb P q t f){vs:List V}{H:Hp}{Q:VK}{E:XK}(h:spDT P q n (fnD N.length f) vs H Q E):t {nx:=λ_ H'=>Q .non H',rt:=Q} (zfo N vs) H:=by
 obtain⟨hT,fx,ds,d,fr,hn,hf,r,g,k⟩:=h
 unfold fnD at g
 split at g
 ·rename_i d' fr' eo
  cases g
  exact hs fx H _ _ H _ hT (zhe hf r) _ eo λv H' s rt=>k v H' s rt
 ·rename_i e' eo
  cases g
  exact hs fx H _ _ H _ hT (zhe hf r) _ eo λσ' H' h'=>k .non H' h'.base ⟨zib,λz=>by cases z⟩
 ·cases g
end
noncomputable def zapf:List Nat->AF
 | []=>aNil
 | j::js=>zaa (eVar j) (zapf js)
noncomputable def zauf:List Nat->TA
 | []=>tNil
 | j::js=>tCons (tVar j) (zauf js)
theorem zalb:∀js:List Nat,SA (zauf js) (zapf js)
 | []=>zah
 | j::js=>zab (zae j) (zalb js)
theorem zaaf:∀(js:List Nat){σ:St}{H:Hp}{Q:List V->Hp->Prop},zauf js σ H Q->∃vs:List V,(js.map λj=>σ[j]?)=vs.map (λv=>some (some v))/\Q vs H
 | [],σ,H,Q,h=>⟨[],rfl,h⟩
 | j::js,σ,H,Q,h=>by
  obtain⟨v,e,h⟩:=h
  obtain⟨vs,e2,h2⟩:=zaaf js h
  exact⟨v::vs,by rw[qa,qa,e,e2],h2⟩
theorem zaug{fx:Addr->Prop}{H:Hp}{ds:List PyData}{vs:List V}(hf:∀b,fx b->∃o,H b=some o)(r:Rps (Offs fx H) ds vs):EnvOk fx H (ds.map .pl) (vs.map some) H:=by
 have:=zhe (N:=List.replicate ds.length ("":Str)) hf r
 unfold zhr zfo at this
 rw[qBg,qCN,<- r.length,qCN]at this
 simpa using this
theorem zus{env:Env}:∀(l:List (Str×NameKind))(acc:List (Str×Addr)),(∀p∈l,p.2=.free->∃c,env.cells.lookup p.1=some c)->
  (forIn l acc (λ(x:Str×NameKind) (r:List (Str×Addr))=>match x with|(name,kind)=>if(kind==NameKind.free)=true then do let c <- cellOf env name;pure (ForInStep.yield ((name,c)::r))else pure (ForInStep.yield r)):Sem (List (Str×Addr))) =
   pure ((l.filterMap λp=>if p.2==.free then(env.cells.lookup p.1).map λc=>(p.1,c)else none).reverse++acc)
 | [],acc,_=>rfl
 | (x,k)::l,acc,h=>by
  rw[qBS,qBo]
  have ih:=λacc=>zus (env:=env) l acc λp hp=>h p (qL _ hp)
  cases hk:(k==NameKind.free)with
  | true=>
   obtain⟨c,e⟩:=h (x,k) (by simp) (by simpa using hk)
   have e2:cellOf env x=pure c:=by
    have e':env.cells.lookup x=some c:=e
    unfold cellOf
    rw[e']
   dsimp only
   rw[hk,if_pos rfl,if_pos rfl,e2,pure_bind,pure_bind]
   dsimp only
   rw[ih,show env.cells.lookup x=some c from e]
   simp
  | false=>
   dsimp only
   rw[hk,if_neg (by decide),if_neg (by decide),pure_bind]
   exact ih acc
theorem zahe{sc:Scope}{env:Env}(h:∀p∈sc.names,p.2=.free->∃c,env.cells.lookup p.1=some c):closureFor sc env=pure (clF sc env):=by
 unfold closureFor clF
 have:=zus (env:=env) sc.names [] h
 rw[qAD]at this
 show(forIn sc.names [] _ >>=λr=>pure r)=_
 rw[bind_pure]
 exact this
section
variable{X:Cx}
noncomputable def frB(sc so:Scope):Bool:=sc.names.all λq=>(q.2 != .free)||(so.names.lookup q.1==some .cell)
theorem frB.of{sc so:Scope}(h:frB sc so=true):∀q∈sc.names,q.2=.free->so.names.lookup q.1=some .cell:=λq hq hf=>by
 have:=qAE.mp h q hq
 rw[hf]at this
 simpa using this
end
theorem zayo{P:Program}{w:World}{K:qC}{mg:Str->Option Value}{base:Heap}{x qual:Str}{st:Stmt}{f c:Addr}{fd:qr}{N ps:List Str}{k:Nat}{sp:Sp}(Fu:Fun K x qual st f fd)(S:FnScope N ps (zal st))(len:∀vs H Q E,sp vs H Q E->vs.length=ps.length)(hc:fd.code=.ref c)
  (hbody:∀(A:Around)(outer:List Env)(s:Shared)(H:Hp)(vs:List V)(Q:VK)(E:XK),Room k (A.deeper (envOfC qual (zal st) s.heap.objs.size f (.ref c)))->sp vs H Q E->
   ∃t,PSs (cxOf CX0 P w K mg base N qual (zal st) f (.ref c) A outer s H E).nox (zgo st) t/\t {nx:=λ_ H'=>Q .non H',rt:=Q} (zfo N vs) H):FnOk P w K mg base CX0 (k+1) f fd ps sp:=by
 refine⟨len,λA outer s H args us vs Q E hr e0 hb r hsp=>?_⟩
 obtain⟨oc,od,kV,doc,pm,an,cdv,ct,osl,rfl,lk,hcd⟩:=Fu.ex
 have hc':cdv=.ref c:=hc
 subst hc'
 have KX:K.In s.heap:=e0.mod.kin.keeps λb o e=>(e0.bs b o e).1
 refine codeAny_call_function hr.depth (KX _ _ lk) rfl S.co S.gen rfl (qC8 KX hcd) (hb _ _ _ _ (qC7 S.kind (λ⟨n,v⟩ hy=>?_) λenv he s1 x=>?_))
 ·rcases S.par n (qBm hy).1 with q|q
  ·exact .inl q
  ·exact .inr ⟨q,qB1 _ _ _ (.inl q)⟩
 ·subst he
  obtain⟨t,ht,hq⟩:=hbody A outer s H vs Q E (hr.deeper _) hsp
  have I:=zzd (CX:=CX0) (E:=E) S hr.hd e0 (len _ _ _ _ hsp) r x
  refine⟨(e0.mod.nolimit.keeps λb o e=>(e0.bs b o e).1).keeps x.toInCall.keep,codeAny_func (qBN (ht [] s1 (zfo N vs) H _ (I.wish _) hq) (λfl s' hs=>?_) λe s' hs=>hs.elim)⟩
  cases fl with
  | ret u=>obtain⟨v,σ',H',J,rv,q⟩:=hs;exact⟨v,H',J.os,J.bare,J.base,J.hok,rv,q⟩
  | next=>obtain⟨σ',H',J,q⟩:=hs;exact⟨.non,H',J.os,J.bare,J.base,J.hok,rfl,q⟩
  | brk=>obtain⟨_,_,_,q⟩:=hs;exact q.elim
  | cont=>obtain⟨_,_,_,q⟩:=hs;exact q.elim
theorem zapg{P:Addr}{q:Str}{n:Nat}{g:GF}{vs:List V}{H:Hp}{Q:VK}{E:XK}(h:spDT P q n g vs H Q E):vs.length=n:=zbu h.2
theorem zauh{P:Program}{w:World}{K:qC}{mg mb:Str->Option Value}{CX:CXT}{k:Nat}{fa a c TP:Addr}{q:Str}{fd:qr}{x:Str}{sp:Sp}{s₁:Shared}{vs:List Value}{ns:List Int}
  (KX:K.In s₁.heap)(hns:s₁.heap.Ns qm mg)(hb:s₁.heap.Ns builtinsNs mb)(hbb:∀x:Str,x≠"__name__"->mb x=bootBuiltins x)(hlim:s₁.heap.NoLimit)(hg:s₁.gens=#[])
  (ha:s₁.heap.get? a=some {cls:=.type "list",data:=.seq vs.toArray}) (hi:IntsAre vs ns) (hl:ns.length<=qZ) (hr:Room k callerA)
  (hT:PySem.W.CodeHd s₁.heap c TP)(hT0:s₁.heap.get? TP=some (PySem.W.tabObj #[]))(nT:PySem.W.noTabs K=true)(hbm:BM mg s₁.heap)
  (F:∀base:Heap,K.In base->base.Ns qm mg->BM mg base->PySem.W.CodeHd base c TP->FnOk P w K mg base CX k fa fd [x] sp)(hbind:∀(s:Shared) (u:Value),BindsTo s fd ⟨[u],[]⟩ [(x,u)])
  (hsp:∀H:Hp,TbH TP q H->SqL K H a (ns.map V.int)->sp [.ref a] H (λv H'=>v=.bl true/\TbH TP q H') λ_ _ _=>False)
  (hCX:∀H e s',CX [] H s₁ (λ_ _ _=>False) e s'->False) :
  codeAny (model P w) callerA (.call (.ref fa) ⟨[.ref a],[]⟩) (λr s'=>r=.ok (.ret (.bool true))/\OldK s₁.heap s'.heap/\s'.os=s₁.os/\AllBare s'.gens) s₁:=by
 have rv:=zzk hi
 have lenV:=hi.length
 have naT:a≠TP:=λz=>by rw[z,hT0]at ha;cases ha
 have KT:K.lookup TP=none:=by
  cases e:K.lookup TP with
  | none=>rfl
  | some o=>
   have e1:=KX _ _ e
   rw[hT0]at e1
   cases e1
   have h2:=qAE.mp nT _ (PySem.W.mem_of_lookupK e)
   exact absurd (show false=true from h2) qV
 have core:∀H:Hp,TbH TP q H->SqL K H a (ns.map V.int)->HOk P w H s₁.heap->(∀b,H b≠none->b=a\/b=TP)->(H a≠none->K.lookup a=none/\∃o xs,H a=some (.frz o (.lst xs)))->
   codeAny (model P w) callerA (.call (.ref fa) ⟨[.ref a],[]⟩) (λr s'=>r=.ok (.ret (.bool true))/\OldK s₁.heap s'.heap/\s'.os=s₁.os/\AllBare s'.gens) s₁:=by
  intro H hTb hS hok hA hK
  have free:∀{b:Addr}{o:Obj},s₁.heap.get? b=some o->(∀xs n,o.data≠.seq xs n)->(∀vs,o.data≠.fields vs\/o.cls≠.none)->H b=none:=λ{b o} e n1 n2=>by
   cases z:H b with
   | none=>rfl
   | some u=>
    rcases hA b (by rw[z];simp)with rfl|rfl
    ·rw[ha]at e;cases e;exact absurd rfl (n1 _ _)
    ·rw[hT0]at e;cases e;exact(n2 #[]).elim (λy=>absurd rfl y) (λy=>absurd rfl y)
  have nsK:∀{b:Addr}{m:Str->Option Value},s₁.heap.Ns b m->(hidT s₁.heap H).Ns b m:=λ{b m} ⟨o,es,ep,e,d,r⟩=>⟨o,es,ep,zqw e (free e (λxs n z=>by rw[d]at z;cases z) (λvs=>.inl λz=>by rw[d]at z;cases z)),d,r⟩
  have hKb:K.In (hidT s₁.heap H):=λb o e=>zqw (KX b o e) (by
   cases z:H b with
   | none=>rfl
   | some u=>
    rcases hA b (by rw[z];simp)with rfl|rfl
    ·rw[(hK (by rw[z];simp)).1]at e;cases e
    ·rw[KT]at e;cases e)
  have hM:Mod K mg (hidT s₁.heap H):=⟨hKb,nsK hns,⟨mb,nsK hb,hbb⟩,let⟨mc,h1,h2⟩:=hlim;⟨mc,nsK h1,h2⟩⟩
  have hBM:BM mg (hidT s₁.heap H):=by
   obtain⟨bm,ob,b1,b2,b3,b4,b5,b6⟩:=hbm
   exact⟨bm,ob,b1,b2,zqw b3 (free b3 (λxs n z=>by rw[b6]at z;cases z) (λvs=>.inl λz=>by rw[b6]at z;cases z)),b4,b5,b6⟩
  have hCd:PySem.W.CodeHd (hidT s₁.heap H) c TP:=by
   obtain⟨o,vs',file,tf,flags,tg,inF,text,tt,e1,e2,e3,r⟩:=hT
   exact⟨o,vs',file,tf,flags,tg,inF,text,tt,zqw e1 (free e1 (λxs n z=>by rw[e3]at z;cases z) (λvs=>.inr λz=>by rw[e2]at z;cases z)),e2,e3,r⟩
  have e0:Env0 P w K mg (hidT s₁.heap H) callerA [] s₁ H:=⟨rfl,hM,λb o e=>zasa e,Nat.le_of_eq (zair _ _),trivial,λb hb=>absurd (show b∈([]:List Addr)from hb) (by simp),hok,.of_eq hg⟩
  refine qBX ((F _ hKb (nsK hns) hBM hCd).run callerA [] s₁ H ⟨[.ref a],[]⟩ [.ref a] [.ref a] _ _ hr e0 (hbind s₁ (.ref a)) (.cons rfl .nil) (hsp H hTb hS)) λr s' h=>?_
  cases r with
  | error e=>exact(hCX H e s' h).elim
  | ok fl=>
   cases fl with
   | next=>exact False.elim h
   | brk=>exact False.elim h
   | cont=>exact False.elim h
   | ret u=>
    obtain⟨v,H',os,bare,un,hok',r',qv,qT⟩:=h
    subst qv
    obtain rfl:u=Value.bool true:=r'
    have kept:∀b o,s₁.heap.get? b=some o->b≠TP->s'.heap.get? b=some o:=λb o e nb=>by
     cases z:H b with
     | none=>exact un.keep b o e z (by intro z;exact absurd (show b∈([]:List Addr)from z) (by simp)) (by simp)
     | some u=>
      rcases hA b (by rw[z];simp)with rfl|rfl
      ·obtain⟨_,ob,xs,z'⟩:=hK (by rw[z];simp)
       have z2:=un.frzs b ob _ z'
       obtain⟨e1,_⟩:=hok b _ z'
       obtain⟨e2,_⟩:=hok' b _ z2
       rw[e]at e1;cases e1
       exact e2
      ·exact absurd rfl nb
    obtain⟨ps,hps,_⟩:=hok' TP _ qT
    refine⟨rfl,⟨λb o e=>?_,λb o e=>?_⟩,os,bare⟩
    ·by_cases nb:b=TP
     ·subst nb
      rw[hT0]at e
      cases e
      exact .inr (.inl ⟨(hT.tab hT0).isCodeTable,rfl,#[],ps,rfl,by rw[Array.empty_append];exact hps⟩)
     ·exact .inl (kept b o e nb)
    ·by_cases nb:b=TP
     ·exact⟨_,by rw[nb];exact hps⟩
     ·exact⟨o,kept b o e nb⟩
 have tabOk:∀H:Hp,zes P w H s₁.heap TP (.tabO q):=λH=>⟨#[],hT0,trivial,λpos cv h=>by cases h⟩
 cases hk:K.lookup a with
 | some o=>
  have e:=KX a o hk
  rw[ha]at e
  cases e
  refine core (λb=>if b=TP then some (.tabO q)else none) (if_pos rfl) (.inr ⟨_,vs.toArray,_,hk,rfl,rfl,rfl,by rw[qS,lenV];exact hl,by simpa using rv⟩) (λb u z=>?_) (λb z=>?_) λz=>?_
  ·by_cases nb:b=TP
   ·subst nb;have z':=(if_pos rfl).symm.trans z;cases z';exact tabOk _
   ·have z':=(if_neg nb).symm.trans z;cases z'
  ·by_cases nb:b=TP
   ·exact .inr nb
   ·exact absurd (if_neg nb) z
  ·exact absurd (if_neg naT) z
 | none=>
  refine core (λb=>if b=TP then some (.tabO q)else if b=a then some (.frz {cls:=.type "list",data:=.seq vs.toArray} (.lst (ns.map V.int)))else none) (if_pos rfl) (.inl (.inr ⟨{cls:=.type "list",data:=.seq vs.toArray},(if_neg naT).trans (if_pos rfl)⟩)) (λb u z=>?_) (λb z=>?_) λ_=>⟨hk,_,_,(if_neg naT).trans (if_pos rfl)⟩
  ·by_cases nb:b=TP
   ·subst nb;have z':=(if_pos rfl).symm.trans z;cases z';exact tabOk _
   ·have z:=(if_neg nb).symm.trans z
    by_cases hb:b=a
    ·have z':=(if_pos hb).symm.trans z
     cases z'
     subst hb
     exact⟨ha,by rw[qG];exact hl,vs,_,rv,ha⟩
    ·have z':=(if_neg hb).symm.trans z
     cases z'
  ·by_cases nb:b=TP
   ·exact .inr nb
   ·by_cases hb:b=a
    ·exact .inl hb
    ·exact absurd ((if_neg nb).trans (if_neg hb)) z
noncomputable abbrev recDef(q:Program)(tx:Str)(dt:DefRec):Prop:=(recsOf q).find? (λe=>e.name==tx)=some dt
noncomputable abbrev zbax(X:Cx)(H:Hp)(s:Shared)(p:Addr×Obj):Prop:=s.heap.get? p.1=some p.2/\H p.1=none/\p.1≠X.env.locals/\p.1∉X.fs/\∀v,p.2.data≠.cell v
structure Mine(X:Cx)(pins:List (Addr×Obj))(a:Addr):Prop where
 new:X.s₀.heap.objs.size<=a
 cell:∀x c,X.env.cells.lookup x=some c->c≠a
 pin:∀p∈X.pn++pins,p.1≠a
section
variable{X:Cx}{pins:List (Addr×Obj)}{σ:St}
theorem Inv.repin{a:Addr}{o o':Obj}{H:Hp}{s:Shared}{h':Heap}{t':Nat}(I:Inv X ((a,o)::pins) σ H s)(m:Mine X pins a)(k:∀b u,b≠a->s.heap.get? b=some u->h'.get? b=some u)(ho:h'.get? a=some o')(hc:∀v,o'.data≠.cell v):Inv X ((a,o')::pins) σ H {s with heap:=h',toks:=t'}:=by
 have pa:=I.pin (a,o) (qI _ (qR ..))
 have I0:Inv X pins σ H s:=I.pins_of λp hp=>I.pin p (qI _ (qL _ hp))
 have I1:=I0.turned (t':=t') k pa.2.1 pa.2.2.1 (.inr m.new) m.cell m.pin
 refine I1.pins_of λp hp=>?_
 rcases qJ.mp hp with rfl|hp
 ·exact⟨ho,pa.2.1,pa.2.2.1,pa.2.2.2.1,hc⟩
 ·exact I1.pin p (qI _ hp)
theorem Inv.swap{p q:Addr×Obj}{H:Hp}{s:Shared}(I:Inv X (p::q::pins) σ H s):Inv X (q::p::pins) σ H s:=I.pins_of λr hr=>I.pin r (qI _ (by
 simp only[qJ]at hr ⊢
 rcases hr with h|h|h
 ·exact .inr (.inl h)
 ·exact .inl h
 ·exact .inr (.inr h)))
theorem Inv.unpin{p:Addr×Obj}{H:Hp}{s:Shared}(I:Inv X (p::pins) σ H s):Inv X pins σ H s:=I.pins_of λr hr=>I.pin r (qI _ (qL _ hr))
theorem Inv.at{p:Addr×Obj}{H:Hp}{s:Shared}(I:Inv X (p::pins) σ H s):s.heap.get? p.1=some p.2:=(I.pin p (qI _ (qR ..))).1
variable{l q S It:Addr}{xs:List V}{H0:Hp}{R:Result->Shared->Prop}
noncomputable def Keys(X:Cx)(pins:List (Addr×Obj))(σ:St)(H0:Hp)(q:Addr)(xs:List V)(kf:Nat->Int):Prop:=
 ∀(i:Nat)(v:V)(u:Value),xs[i]?=some v->RelV v u->∀(p1 p2:Addr×Obj)(H:Hp)(s:Shared),Inv X (p1::p2::pins) σ H s->Same H0 H->
  wpAny (model X.prog X.w) X.A.in1 (call (.ref q) [u]) (λr s'=>∃t H',r=.int (kf i) t/\Inv X (p1::p2::pins) σ H' s'/\Same H0 H') (λ_ _=>False) s
noncomputable def zaph(xs:List V)(kf:Nat->Int)(i n:Nat):Prop:=∀j,j<n->kf i<=kf j/\(j<i->kf i<kf j)
theorem zxc{H:Hp}{s:Shared}(I:Inv X pins σ H s)(h:H l=some (.lst xs)):∃its:List Value,Vals xs its/\s.heap.IsList l its.toArray:=by
 obtain⟨_,its,n,rv,hg⟩:=(show zes X.prog X.w H s.heap l (.lst xs)from I.hok l _ h)
 exact⟨its,rv,⟨_,hg,rfl,n,rfl⟩⟩
theorem zalc(kf:Nat->Int)(hA:X.A.handled=none)(hl:H0 l=some (.lst xs))(mS:Mine X pins S)(mI:Mine X pins It)(hSI:S≠It)(turn:Keys X pins σ H0 q xs kf)
  (hR:∀i v u H s,xs[i]?=some v->RelV v u->zaph xs kf i xs.length->Inv X pins σ H s->Same H0 H->R (.ok (.ret u)) s) :
  ∀(r j i:Nat)(H:Hp)(s:Shared)(v:V)(vb:Value)(tb:Tok)(c:Nat)(oI:Obj),xs.length - (j+1)=r->j+1<=xs.length->Inv X ((S,seqObj "list" #[vb,.int (kf i) tb] c)::(It,oI)::pins) σ H s->Same H0 H->
   oI.cls=.type "list_iterator"->oI.data=.fields #[.ref l,.int ((j+1:Nat):Int) 0]->xs[i]?=some v->RelV v vb->i<=j->zaph xs kf i (j+1)->
   codeAny (model X.prog X.w) X.A (.builtin "min.loop" ⟨[.ref It,.ref q,.ref S],[]⟩) R s:=by
 have hname:(toString "min"++toString ".loop":String)="min.loop":=by decide
 have mS2:∀o,Mine X ((It,o)::pins) S:=λo=>⟨mS.new,mS.cell,λp hp=>by
  rcases qj.mp hp with h|h
  ·exact mS.pin p (qi _ h)
  ·rcases qJ.mp h with rfl|h
   ·exact qAv hSI
   ·exact mS.pin p (qI _ h)⟩
 have mI2:∀o,Mine X ((S,o)::pins) It:=λo=>⟨mI.new,mI.cell,λp hp=>by
  rcases qj.mp hp with h|h
  ·exact mI.pin p (qi _ h)
  ·rcases qJ.mp h with rfl|h
   ·exact hSI
   ·exact mI.pin p (qI _ h)⟩
 have lI:∀{o1 o2:Obj}{H:Hp}{s:Shared},Inv X ((S,o1)::(It,o2)::pins) σ H s->Same H0 H->l≠It/\l≠S:=λI sm=>by
  have h1:=(I.pin _ (qI _ (qR ..))).2.1
  have h2:=(I.pin _ (qI _ (qL _ (qR ..)))).2.1
  exact⟨λz=>(by rw[<- z,sm _ _ hl]at h2;cases h2),λz=>(by rw[<- z,sm _ _ hl]at h1;cases h1)⟩
 intro r
 induction r with
 | zero=>
  intro j i H s v vb tb c oI hr hj I sm hc hd hv hrv hij hb
  have hin:j+1=xs.length:=by omega
  obtain⟨its,rv,hls⟩:=zxc I (sm _ _ hl)
  have ln:=rv.length
  have W:=Walks.list (prog:=X.prog) (w:=X.w) (A:=X.A.in1) hA It l (lI I sm).1 its.toArray
  have hsz:its.toArray.size=its.length:=qS ..
  have pS:=I.at
  have pI:=I.swap.at
  refine qA8 qB4 ?_
  rw[qAo qAf _]
  show wpAny _ X.A.in1 (seqItems? (.ref S) >>=_) _ _ _
  refine qD (qAW pS rfl ?_)
  show wpAny _ X.A.in1 (tryCatch (pyNext (.ref It)) _ >>=_) _ _ _
  refine qD (qBP (W.done _ _ _ ⟨by rw[hsz,<- ln,<- hin];exact⟨oI,pI,hc,hd⟩,hls⟩ λh' tk' hk'=>?_))
  have pS':=hk' S _ (by simpa using hSI) pS
  show wpAny _ X.A.in1 (updateSeq S (λ_=>#[]) >>=_) _ _ _
  refine qD ?_
  refine qC1 pS' rfl (qD (qBx (qO ?_)))
  have I1:Inv X ((S,seqObj "list" #[vb,.int (kf i) tb] c)::pins) σ H {s with heap:=h',toks:=tk'}:=Inv.turned (t':=tk') I.swap.unpin (λb u hb e=>hk' b u (by simpa using hb) e) (I.swap.pin _ (qI _ (qR ..))).2.1 (I.swap.pin _ (qI _ (qR ..))).2.2.1 (.inr mI.new) mI.cell (mI2 _).pin
  have s1:=qBE h' S (Obj.mapSeq λ_=>(#[]:Array Value))
  refine hR i v vb H _ hv hrv (by rw[<- hin];exact hb) (Inv.turned (t':=tk') I1.unpin (λb u hb e=>(s1.2 b hb).trans e) ?_ ?_ (.inr mS.new) mS.cell mS.pin) sm
  ·exact(I.pin _ (qI _ (qR ..))).2.1
  ·exact(I.pin _ (qI _ (qR ..))).2.2.1
 | succ r ih=>
  intro j i H s v vb tb c oI hr hj I sm hc hd hv hrv hij hb
  have hlt:j+1<xs.length:=by omega
  obtain⟨its,rv,hls⟩:=zxc I (sm _ _ hl)
  have ln:=rv.length
  have W:=Walks.list (prog:=X.prog) (w:=X.w) (A:=X.A.in1) hA It l (lI I sm).1 its.toArray
  have hsz:its.toArray.size=its.length:=qS ..
  have pS:=I.at
  have pI:=I.swap.at
  refine qA8 qB4 ?_
  rw[qAo qAf _]
  show wpAny _ X.A.in1 (seqItems? (.ref S) >>=_) _ _ _
  refine qD (qAW pS rfl ?_)
  show wpAny _ X.A.in1 (tryCatch (pyNext (.ref It)) _ >>=_) _ _ _
  refine qD (qBP (W.item (j+1) _ _ _ (by rw[hsz,<- ln];exact hlt) ⟨⟨oI,pI,hc,hd⟩,hls⟩ λu h' tk' hP hst' hk'=>?_))
  have hu:its[j+1]?=some u:=by simpa using hP
  obtain⟨w,hw,hwr⟩:∃w,xs[j+1]?=some w/\RelV w u:=by
   obtain⟨w,hw⟩:∃w,xs[j+1]?=some w:=⟨_,qH hlt⟩
   obtain⟨u',hu',ru⟩:=rv.get hw
   rw[hu]at hu';cases hu'
   exact⟨w,hw,ru⟩
  obtain⟨oI',hoI',hoc,hod⟩:=id hst'.1
  have I1:Inv X ((S,seqObj "list" #[vb,.int (kf i) tb] c)::(It,oI')::pins) σ H {s with heap:=h',toks:=tk'}:=(Inv.repin (t':=tk') I.swap (mI2 _) (λb u hb e=>hk' b u (by simpa using hb) e) hoI' (λv=>by rw[hod];simp)).swap
  show wpAny _ X.A.in1 (tryCatch (holding [u] (call (.ref q) [u])) _ >>=_) _ _ _
  refine qD (qBP (qAX (qBN (turn (j+1) w u hw hwr _ _ H _ I1 sm) (λx s2 he=>?_) λ_ _ hF=>hF.elim)))
  obtain⟨t2,H2,rfl,I2,sm2⟩:=he
  show wpAny _ X.A.in1 (tryCatch (holding [u,.int (kf (j+1)) t2] (richCompare .Lt (.int (kf (j+1)) t2) (.int (kf i) tb) >>=_)) _ >>=_) _ _ _
  refine qD (qBP (qAX (qD (CmpOf.ints_lt (prog:=X.prog) (w:=X.w) (A:=X.A.in1) (P:=λi v=>∃t,v=.int (kf i) t) kf (λi v h=>h) (j+1) i _ _ _ _ _ ⟨t2,rfl⟩ ⟨tb,rfl⟩ ?_))))
  refine qD (qAX (qAw ?_))
  refine qD (qBx (qO ?_))
  by_cases hb':kf (j+1)<kf i
  ·have p2:=I2.at
   have s1:=qBE s2.heap S (Obj.mapSeq λ_=>#[u,.int (kf (j+1)) t2])
   obtain⟨c2,hc2⟩:∃c2,(s2.heap.update S (Obj.mapSeq λ_=>#[u,.int (kf (j+1)) t2])).get? S=some (seqObj "list" #[u,.int (kf (j+1)) t2] c2):=⟨_,get?_update_seq p2 λ_=>#[u,.int (kf (j+1)) t2]⟩
   simp only[hb',decide_true,if_true]
   refine qD ?_
   refine qC1 p2 rfl (qD (qBx ?_))
   rw[hname]
   have I3:Inv X ((S,seqObj "list" #[u,.int (kf (j+1)) t2] c2)::(It,oI')::pins) σ H2 {s2 with heap:=s2.heap.update S (Obj.mapSeq λ_=>#[u,.int (kf (j+1)) t2])}:=Inv.repin (t':=s2.toks) I2 (mS2 _) (λb u hb e=>(s1.2 b hb).trans e) hc2 (λv=>by simp)
   refine qO ⟨qBd qAf _,ih (j+1) (j+1) H2 _ w u t2 c2 oI' (by omega) hlt I3 sm2 hoc (by simpa using hod) hw hwr (qN _) λj' hj'=>?_⟩
   by_cases e:j'=j+1
   ·subst e
    exact⟨by omega,λ_=>by omega⟩
   ·have hb1:=hb j' (by omega)
    have hb2:=hb1.1
    exact⟨by omega,λ_=>by omega⟩
  ·simp only[hb',decide_false,qAc,if_false]
   refine qD (qBx ?_)
   rw[hname]
   refine qO ⟨qBd qAf _,ih (j+1) i H2 _ v vb tb c oI' (by omega) hlt I2 sm2 hoc (by simpa using hod) hv hrv (by omega) λj' hj'=>?_⟩
   by_cases e:j'=j+1
   ·subst e
    exact⟨by omega,λ_=>by omega⟩
   ·exact hb j' (by omega)
theorem zade{H:Hp}{s:Shared}{Q:Value->Shared->Prop}{E:Value->Shared->Prop}(kf:Nat->Int)(hA:X.A.handled=none)(I:Inv X pins σ H s)(hl:H l=some (.lst xs))(hne:0<xs.length)(turn:Keys X pins σ H q xs kf)
  (hQ:∀i v u H' s',xs[i]?=some v->RelV v u->zaph xs kf i xs.length->Inv X pins σ H' s'->Same H H'->Q u s') :
  wpAny (model X.prog X.w) X.A (call (.builtin "min") [.ref l] [(Str.ofString "key",.ref q)]) Q E s:=by
 have hname:(toString "min"++toString ".loop":String)="min.loop":=by decide
 obtain⟨its,rv,hls⟩:=zxc I hl
 have ln:=rv.length
 refine kmk_tree PySem.F.kind_min PySem.F.plain_min PySem.F.entry_min (kmk_min_key _ _) ?_
 show wpAny _ X.A.in1 (Builtin.Builtins.bindParams "min" ["key","default"] 0 ⟨[],[(Str.ofString "key",.ref q)]⟩ >>=_) _ _ s
 refine qD (wpAny_of_eq (show Builtin.Builtins.bindParams "min" ["key","default"] 0 ⟨[],[(Str.ofString "key",.ref q)]⟩=pure [some (.ref q),none]from rfl) ?_)
 refine qD (qO ?_)
 refine qD (qAx hls ?_)
 refine qD (wpAny_newList ?_ (qAQ _))
 rw[hname]
 generalize hob:({cls:=.type "list_iterator",data:=.fields #[.ref l,.int 0 0]}:Obj)=ob
 have hS:(s.heap.push ob).objs.size=s.heap.objs.size+1:=size_push' ..
 have kp:∀b u,s.heap.get? b=some u->((s.heap.push ob).push (seqObj "list" #[] 0)).get? b=some u:=λb u e=>qE _ (qE _ e)
 have I1:Inv X pins σ H {s with heap:=(s.heap.push ob).push (seqObj "list" #[] 0)}:=I.kept (t':=s.toks) kp
 have lt:∀b o,s.heap.get? b=some o->b<s.heap.objs.size:=λb o e=>qP e
 have big:∀a,s.heap.objs.size<=a->Mine X pins a:=λa ha=>⟨qAA I.sz ha,λx c e z=>by
  obtain⟨v,o,ho,_⟩:=I.cell x c e
  exact absurd (lt _ _ ho) (qCx.mpr (z▸ha)),λp hp z=>absurd (lt _ _ (I.pin p hp).1) (qCx.mpr (z▸ha))⟩
 have pin:∀a o,s.heap.objs.size<=a->((s.heap.push ob).push (seqObj "list" #[] 0)).get? a=some o->(∀v,o.data≠.cell v)->zbax X H {s with heap:=(s.heap.push ob).push (seqObj "list" #[] 0)} (a,o):=λa o ha e hc=>⟨e,I.hok.fresh ha,λz=>absurd I.lt (qCx.mpr (z▸ha)),I.nofs ha,hc⟩
 have gI:((s.heap.push ob).push (seqObj "list" #[] 0)).get? s.heap.objs.size=some ob:=qE _ (qW _ (by rw[<- hob];rfl))
 have gS:((s.heap.push ob).push (seqObj "list" #[] 0)).get? (s.heap.push ob).objs.size=some (seqObj "list" #[] 0):=qW _ rfl
 have hSI:(s.heap.push ob).objs.size≠s.heap.objs.size:=by rw[hS];exact qAm (Nat.lt_succ_self _)
 have geS:s.heap.objs.size<=(s.heap.push ob).objs.size:=by rw[hS];exact qBe _
 have I2:Inv X (((s.heap.push ob).objs.size,seqObj "list" #[] 0)::(s.heap.objs.size,ob)::pins) σ H {s with heap:=(s.heap.push ob).push (seqObj "list" #[] 0)}:=I1.pins_of λp hp=>by
  rcases qJ.mp hp with rfl|hp
  ·exact pin _ _ geS gS (λv=>by simp)
  ·rcases qJ.mp hp with rfl|hp
   ·exact pin _ _ (qN _) gI (λv=>by rw[<- hob];simp)
   ·exact I1.pin p (qI _ hp)
 generalize hn1:(s.heap.push ob).objs.size=S at *
 generalize hn2:s.heap.objs.size=It at *
 generalize hst:({s with heap:=(s.heap.push ob).push (seqObj "list" #[] 0)}:Shared)=s2 at *
 have mS:=big S geS
 have mI:=big It (qN _)
 have mI2:∀o,Mine X ((S,o)::pins) It:=λo=>⟨mI.new,mI.cell,λp hp=>by
  rcases qj.mp hp with h|h
  ·exact mI.pin p (qi _ h)
  ·rcases qJ.mp h with rfl|h
   ·exact hSI
   ·exact mI.pin p (qI _ h)⟩
 have mS2:∀o,Mine X ((It,o)::pins) S:=λo=>⟨mS.new,mS.cell,λp hp=>by
  rcases qj.mp hp with h|h
  ·exact mS.pin p (qi _ h)
  ·rcases qJ.mp h with rfl|h
   ·exact qAv hSI
   ·exact mS.pin p (qI _ h)⟩
 have lI:l≠It:=λz=>by
  have:=(I2.swap.pin _ (qI _ (qR ..))).2.1
  rw[<- z,hl]at this;cases this
 obtain⟨its2,rv2,hls2⟩:=zxc I2 hl
 have ln2:=rv2.length
 have W:=Walks.list (prog:=X.prog) (w:=X.w) (A:=X.A.in1) hA It l lI its2.toArray
 have hsz:its2.toArray.size=its2.length:=qS ..
 refine qO ⟨qBd qAf _,?_⟩
 refine qA8 qB4 ?_
 rw[qAo qAf _]
 show wpAny _ X.A.in1 (seqItems? (.ref S) >>=_) _ _ _
 refine qD (qAW I2.at rfl ?_)
 show wpAny _ X.A.in1 (tryCatch (pyNext (.ref It)) _ >>=_) _ _ _
 refine qD (qBP (W.item 0 _ _ _ (by rw[hsz,<- ln2];exact hne) ⟨⟨ob,I2.swap.at,by rw[<- hob],by rw[<- hob];rfl⟩,hls2⟩ λu h' tk' hP hst' hk'=>?_))
 have hu:its2[0]?=some u:=by simpa using hP
 obtain⟨w,hw,hwr⟩:∃w,xs[0]?=some w/\RelV w u:=by
  obtain⟨w,hw⟩:∃w,xs[0]?=some w:=⟨_,qH hne⟩
  obtain⟨u',hu',ru⟩:=rv2.get hw
  rw[hu]at hu';cases hu'
  exact⟨w,hw,ru⟩
 obtain⟨oI',hoI',hoc,hod⟩:=id hst'.1
 have I3:Inv X ((S,seqObj "list" #[] 0)::(It,oI')::pins) σ H {s2 with heap:=h',toks:=tk'}:=(Inv.repin (t':=tk') I2.swap (mI2 _) (λb u hb e=>hk' b u (by simpa using hb) e) hoI' (λv=>by rw[hod];simp)).swap
 show wpAny _ X.A.in1 (tryCatch (holding [u] (call (.ref q) [u])) _ >>=_) _ _ _
 refine qD (qBP (qAX (qBN (turn 0 w u hw hwr _ _ H _ I3 (Same.refl _)) (λx s3 he=>?_) λ_ _ hF=>hF.elim)))
 obtain⟨t2,H2,rfl,I4,sm2⟩:=he
 have p2:=I4.at
 have s1:=qBE s3.heap S (Obj.mapSeq λ_=>#[u,.int (kf 0) t2])
 obtain⟨c2,hc2⟩:∃c2,(s3.heap.update S (Obj.mapSeq λ_=>#[u,.int (kf 0) t2])).get? S=some (seqObj "list" #[u,.int (kf 0) t2] c2):=⟨_,get?_update_seq p2 λ_=>#[u,.int (kf 0) t2]⟩
 show wpAny _ X.A.in1 (updateSeq S (λ_=>#[u,.int (kf 0) t2]) >>=_) _ _ _
 refine qD ?_
 refine qC1 p2 rfl ?_
 rw[hname]
 have I5:Inv X ((S,seqObj "list" #[u,.int (kf 0) t2] c2)::(It,oI')::pins) σ H2 {s3 with heap:=s3.heap.update S (Obj.mapSeq λ_=>#[u,.int (kf 0) t2])}:=Inv.repin (t':=s3.toks) I4 (mS2 _) (λb u hb e=>(s1.2 b hb).trans e) hc2 (λv=>by simp)
 refine qO ⟨qBd qAf _,zalc kf hA hl mS mI hSI turn (λi v u H s a b c d e=>hQ i v u H s a b c d e) _ 0 0 H2 _ w u t2 c2 oI' rfl hne I5 sm2 hoc (by simpa using hod) hw hwr (qN _) λj' hj'=>?_⟩
 have e:j'=0:=by omega
 subst e
 exact⟨by omega,λh=>absurd h (qAl _)⟩
end
structure MvR(R:Addr->Prop)(H H':Hp):Prop where
 keep:∀b o,¬R b->H b=some o->H' b=some o
 live:∀b o,H b=some o->∃o',H' b=some o'
theorem MvR.same{R:Addr->Prop}{H H':Hp}(s:Same H H'):MvR R H H':=⟨λb o _ e=>s b o e,λb o e=>⟨o,s b o e⟩⟩
theorem MvR.trans{R:Addr->Prop}{H H1 H2:Hp}(a:MvR R H H1)(b:MvR R H1 H2):MvR R H H2:=⟨λx o n e=>b.keep x o n (a.keep x o n e),λx o e=>let⟨o',e'⟩:=a.live x o e;b.live x o' e'⟩
theorem MvR.free{R:Addr->Prop}{H H':Hp}(m:MvR R H H'){b:Addr}(h:H' b=none):H b=none:=by
 cases e:H b with
 | none=>rfl
 | some o=>obtain⟨o',e'⟩:=m.live b o e;rw[h]at e';cases e'
theorem MvR.offs{R A:Addr->Prop}{H H':Hp}(m:MvR R H H')(h:∀b,R b->A b):Same (Offs A H) (Offs A H'):=λb o e=>by
 obtain⟨n,e⟩:=Offs.of e
 rw[Offs.get n]
 exact m.keep b o (λz=>n (h b z)) e
structure Kind (T:Type) where
 at_:Hp->V->(Addr->Prop)->T->Prop
 live:∀{H v R st},at_ H v R st->∀b,R b->∃o,H b=some o
 stay:∀{H H' v R st},at_ H v R st->(∀b o,R b->H b=some o->H' b=some o)->at_ H' v R st
structure Has{T:Type}(k:Kind T)(f:Nat)(fx:Addr->Prop)(H0:Hp)(env:DEnv)(σ:St)(H:Hp)(v:V)(R:Addr->Prop)(st:T):Prop where
 ok:EnvOk fx H0 env σ H
 no:env[f]?=some .no
 sl:σ[f]?=some (some v)
 th:k.at_ H v R st
 off:∀b,R b->fx b
 low:∀b,R b->H0 b=none
section
variable{T:Type}{k:Kind T}{f:Nat}{fx:Addr->Prop}{H0:Hp}{env:DEnv}{σ:St}{H H':Hp}{v:V}{R:Addr->Prop}{st st':T}
theorem Has.up(h:Has k f fx H0 env σ H v R st)(s:Same H H'):Has k f fx H0 env σ H' v R st:=⟨h.ok.up s,h.no,h.sl,k.stay h.th λb o _ e=>s b o e,h.off,h.low⟩
theorem Has.mv(h:Has k f fx H0 env σ H v R st)(m:MvR R H H')(t:k.at_ H' v R st'):Has k f fx H0 env σ H' v R st':=by
 have so:Same (Offs (λa=>fx a\/own env σ a) H) (Offs (λa=>fx a\/own env σ a) H'):=m.offs λb z=>.inl (h.off b z)
 refine⟨⟨h.ok.len,λi d e=>?_,λi d e=>?_,h.ok.inj,λb o e=>m.keep b o (λz=>by rw[h.low b z]at e;cases e) (h.ok.base b o e),λb z=>?_⟩,h.no,h.sl,t,h.off,h.low⟩
 ·obtain⟨u,h1,h2⟩:=h.ok.pl i d e
  exact⟨u,h1,Rp.same so d h2⟩
 ·obtain⟨a,h1,h2,h3,h4⟩:=h.ok.ac i d e
  exact⟨a,h1,h2,h3,h4.same so λo z=>m.keep a o (λy=>h3 (h.off a y)) z⟩
 ·obtain⟨o,e⟩:=h.ok.fxs b z
  exact m.live b o e
theorem Has.val(h:Has k f fx H0 env σ H v R st){H1:Hp}(m:MvR R H1 H'){r:Val}{w:V}(l:∀b,R b->∃o,H b=some o)(q:ValOk (lim fx env σ r.bs) H H1 r w):ValOk (lim fx env σ r.bs) H H' r w:=by
 refine⟨Rp.same (m.offs λb z=>.inl (h.off b z)) _ q.rp,λe=>?_⟩
 obtain⟨a,h1,h2,h3⟩:=q.fr e
 refine⟨a,h1,h2,h3.same (m.offs λb z=>.inl (.inl (h.off b z))) λo z=>m.keep a o (λy=>?_) z⟩
 obtain⟨o',e'⟩:=l a y
 rw[h2]at e';cases e'
end
noncomputable abbrev EFr(T:Type):=DEnv->T->Option (Val×T)
noncomputable def SEr{T:Type}(k:Kind T)(f:Nat)(te:TE)(g:EFr T):Prop:=∀(fx:Addr->Prop)(H0:Hp)(env:DEnv)(σ:St)(H:Hp)(v:V)(R:Addr->Prop)(st:T),Has k f fx H0 env σ H v R st->∀r st',g env st=some (r,st')->∀Q:VK,
 (∀w H',MvR R H H'->Has k f fx H0 env σ H' v R st'->ValOk (lim fx env σ r.bs) H H' r w->Q w H')->te σ H Q
noncomputable abbrev AFr(T:Type):=DEnv->T->Option (List Val×T)
noncomputable def SAr{T:Type}(k:Kind T)(f:Nat)(ta:TA)(g:AFr T):Prop:=∀(fx:Addr->Prop)(H0:Hp)(env:DEnv)(σ:St)(H:Hp)(v:V)(R:Addr->Prop)(st:T),Has k f fx H0 env σ H v R st->∀rs st',g env st=some (rs,st')->∀Q:List V->Hp->Prop,
 (∀ws H',MvR R H H'->Has k f fx H0 env σ H' v R st'->Paired (λr w=>ValOk (lim fx env σ r.bs) H H' r w) rs ws->Q ws H')->ta σ H Q
noncomputable abbrev TFr(T:Type):=DEnv->T->Option (Bool×T)
noncomputable def STr{T:Type}(k:Kind T)(f:Nat)(tt:TT)(g:TFr T):Prop:=∀(fx:Addr->Prop)(H0:Hp)(env:DEnv)(σ:St)(H:Hp)(v:V)(R:Addr->Prop)(st:T),Has k f fx H0 env σ H v R st->∀b st',g env st=some (b,st')->∀Q:Bool->Hp->Prop,
 (∀H',MvR R H H'->Has k f fx H0 env σ H' v R st'->Q b H')->tt σ H Q
section
variable{T:Type}{k:Kind T}{f:Nat}
noncomputable def zam(g:EF):EFr T:=λenv st=>(g env).map λr=>(r,st)
theorem zaj{te:TE}{g:EF}(h:SE te g):SEr k f te (zam g):=by
 intro fx H0 env σ H v R st hh r st' e Q q
 obtain⟨r',er,e⟩:=qF.mp e
 cases e
 exact h fx H0 env σ H hh.ok r er Q λw H' s hv=>q w H' (MvR.same s) (hh.up s) hv
noncomputable def rNil:AFr T:=λ_ st=>some ([],st)
theorem zcl:SAr k f tNil rNil:=by
 intro fx H0 env σ H v R st hh rs st' e Q q
 cases e
 exact q [] H (MvR.same (Same.refl _)) hh .nil
noncomputable def zbp(a:EFr T)(g:AFr T):AFr T:=λenv st=>(a env st).bind λx=>(g env x.2).bind λy=>some (x.1::y.1,y.2)
theorem zbq{te:TE}{ta:TA}{a:EFr T}{g:AFr T}(h1:SEr k f te a)(h2:SAr k f ta g):SAr k f (tCons te ta) (zbp a g):=by
 intro fx H0 env σ H v R st hh rs st' e Q q
 unfold zbp at e
 obtain⟨⟨x,s1⟩,ex,e⟩:=qA.mp e
 obtain⟨⟨ys,s2⟩,ey,e⟩:=qA.mp e
 cases e
 exact h1 fx H0 env σ H v R st hh x s1 ex _ λw H1 m1 k1 v1=>h2 fx H0 env σ H1 v R s1 k1 ys s2 ey _ λws H2 m2 k2 v2=>q (w::ws) H2 (m1.trans m2) k2
  (.cons (hh.val m2 (k.live hh.th) v1) (Paired.mapP v2 λ_ _ z=>⟨z.rp,λe=>let⟨a,g1,g2,g3⟩:=z.fr e;⟨a,g1,m1.free g2,g3⟩⟩))
noncomputable def rOp(w:OF)(a b:EFr T):EFr T:=λenv st=>(a env st).bind λx=>(b env x.2).bind λy=>(w x.1.d y.1.d).bind λz=>some (⟨z.1,z.2,bsOf z.1 (x.1.bs++y.1.bs)⟩,y.2)
theorem zaui{H:Hp}{Ho:Hp}{a:Addr}{d:PyData}(h:zfs Ho H a d):zgp d=false:=by cases d<;>first|rfl|exact h.elim
theorem zdh{r:R2}{w:OF}{ta tb:TE}{fa fb:EFr T}(ho:SO r w)(ha:SEr k f ta fa)(hb:SEr k f tb fb):SEr k f (tOp r ta tb) (rOp w fa fb):=by
 intro fx H0 env σ H v R st hh rr st' hr Q q
 unfold rOp at hr
 obtain⟨⟨x,s1⟩,ex,hr⟩:=qA.mp hr
 obtain⟨⟨y,s2⟩,ey,hr⟩:=qA.mp hr
 obtain⟨⟨d,fr⟩,ez,hr⟩:=qA.mp hr
 cases hr
 refine ha fx H0 env σ H v R st hh x s1 ex _ λu H1 m1 k1 v1=>hb fx H0 env σ H1 v R s1 k1 y s2 ey _ λu2 H2 m2 k2 v2=>?_
 have l1:∀b,lim fx env σ (x.bs++y.bs) b->lim fx env σ x.bs b:=zjm λi hi=>qi _ hi
 have l2:∀b,lim fx env σ (x.bs++y.bs) b->lim fx env σ y.bs b:=zjm λi hi=>qI _ hi
 have v1':=hh.val m2 (k.live hh.th) v1
 refine ho (lim fx env σ (x.bs++y.bs)) H2 u u2 x.d y.d (k2.ok.lims _) (v1'.later (Same.refl _) (Same.refl _) l1).rp (v2.later (Same.refl _) (Same.refl _) l2).rp d fr ez _ λz H3 s3 rp fr3=>q z H3 ((m1.trans m2).trans (MvR.same s3)) (k2.up s3) ⟨zjn rp,λe=>?_⟩
 obtain⟨a,g1,g2,g3⟩:=fr3 e
 refine⟨a,g1,(m1.trans m2).free g2,?_⟩
 show zfs (Offs (λb=>lim fx env σ (bsOf d (x.bs++y.bs)) b\/b=a) H3) H3 a d
 rw[show bsOf d (x.bs++y.bs)=x.bs++y.bs by unfold bsOf;rw[if_neg (by rw[zaui g3];decide)]]
 exact g3
noncomputable def rCB(g:GF)(a:AFr T):EFr T:=λenv st=>(a env st).bind λx=>(g (zfp x.1)).bind λz=>some (⟨z.1,z.2,bsOf z.1 (bss x.1)⟩,x.2)
theorem zarj{r:List V->Hp->VK->Prop}{g:GF}{ta:TA}{a:AFr T}(hc:SC r g)(ha:SAr k f ta a):SEr k f (tCB r ta) (rCB g a):=by
 intro fx H0 env σ H v R st hh rr st' hr Q q
 unfold rCB at hr
 obtain⟨⟨rs,s1⟩,er,hr⟩:=qA.mp hr
 obtain⟨⟨d,fr⟩,ez,hr⟩:=qA.mp hr
 cases hr
 refine ha fx H0 env σ H v R st hh rs s1 er _ λvs H1 m1 k1 v1=>?_
 refine hc (lim fx env σ (bss rs)) H1 vs (zfp rs) (k1.ok.lims _) (zeq (λi hi=>hi) v1) d fr ez _ λw H3 s3 rp fr3=>q w H3 (m1.trans (MvR.same s3)) (k1.up s3) ⟨zjn rp,λe=>?_⟩
 obtain⟨a,g1,g2,g3⟩:=fr3 e
 refine⟨a,g1,m1.free g2,?_⟩
 show zfs (Offs (λb=>lim fx env σ (bsOf d (bss rs)) b\/b=a) H3) H3 a d
 rw[show bsOf d (bss rs)=bss rs by unfold bsOf;rw[if_neg (by rw[zaui g3];decide)]]
 exact g3
noncomputable def rTup(a:AFr T):EFr T:=λenv st=>(a env st).bind λx=>if x.1.length<=100000 then some (⟨.tuple (zfp x.1),false,bss x.1⟩,x.2)else none
theorem zauj{ta:TA}{a:AFr T}(ha:SAr k f ta a):SEr k f (tTup ta) (rTup a):=by
 intro fx H0 env σ H v R st hh rr st' hr Q q
 unfold rTup at hr
 obtain⟨⟨rs,s1⟩,er,hr⟩:=qA.mp hr
 split at hr
 ·rename_i hl
  cases hr
  refine ha fx H0 env σ H v R st hh rs s1 er _ λvs H1 m1 k1 v1=>?_
  have r:=zeq (λi hi=>hi) v1
  have hA:=k1.ok.lims (bss rs)
  exact⟨zfc (by rw[<- r.length,zgi];exact hl),λp hp=>q _ _ (m1.trans (MvR.same (Same.new hp))) (k1.up (Same.new hp)) ⟨znv hp (zed hA hp) r,λz=>by cases z⟩⟩
 ·cases hr
end
section
variable{T:Type}{k:Kind T}{f:Nat}
noncomputable def zsc(c:TF):TFr T:=λenv st=>(c env).map λb=>(b,st)
theorem zre{tt:TT}{c:TF}(h:ST tt c):STr k f tt (zsc c):=by
 intro fx H0 env σ H v R st hh b st' e Q q
 obtain⟨b',er,e⟩:=qF.mp e
 cases e
 exact h fx H0 env σ H hh.ok b er Q λH' s=>q H' (MvR.same s) (hh.up s)
noncomputable def qAnd(a b:TFr T):TFr T:=λenv st=>(a env st).bind λx=>if x.1=true then b env x.2 else some (false,x.2)
theorem zauk{t u:TT}{a b:TFr T}(h:STr k f t a)(h2:STr k f u b):STr k f (tAnd t u) (qAnd a b):=by
 intro fx H0 env σ H v R st hh b' st' e Q q
 unfold qAnd at e
 obtain⟨⟨c,s1⟩,er,e⟩:=qA.mp e
 refine h fx H0 env σ H v R st hh c s1 er _ λH' m k1=>?_
 cases c with
 | true=>exact iteT (h2 fx H0 env σ H' v R s1 k1 b' st' e _ λH'' m' k2=>q H'' (m.trans m') k2)
 | false=>cases e;exact iteF (q H' m k1)
noncomputable def qB(g:EFr T):TFr T:=λenv st=>(g env st).bind λx=>match x.1.d with
 | .bool b=>some (b,x.2)
 | _=>none
theorem zaul{te:TE}{g:EFr T}(h:SEr k f te g):STr k f (tTest te) (qB g):=by
 intro fx H0 env σ H v R st hh b st' e Q q
 unfold qB at e
 obtain⟨⟨r,s1⟩,er,e⟩:=qA.mp e
 obtain⟨d,fr,bs⟩:=r
 cases d with
 | bool b'=>
  cases e
  exact h fx H0 env σ H v R st hh _ _ er _ λw H' m k1 hv=>⟨_,zjl hv.rp,q H' m k1⟩
 | _=>cases e
end
inductive OutR (T:Type) where
 | nx (env:DEnv) (st:T)
 | bk (env:DEnv) (st:T)
 | ct (env:DEnv) (st:T)
 | rt (d:PyData) (fr:Bool) (st:T)
noncomputable abbrev SFr(T:Type):=DEnv->T->Option (OutR T)
noncomputable def SatR{T:Type}(k:Kind T)(f:Nat)(fx:Addr->Prop)(H0:Hp)(D:Ends)(v:V)(R:Addr->Prop):OutR T->Prop
 | .nx env st=>∀σ H,Has k f fx H0 env σ H v R st->D.nx σ H
 | .bk env st=>∀σ H,Has k f fx H0 env σ H v R st->D.bk σ H
 | .ct env st=>∀σ H,Has k f fx H0 env σ H v R st->D.ct σ H
 | .rt d fr st=>∀w H,Same H0 H->(∀b,fx b->∃o,H b=some o)->k.at_ H v R st->zzq fx H0 d fr w H->(fr=true->∀a,w=.ref a->¬R a)->D.rt w H
noncomputable def SSr{T:Type}(k:Kind T)(f:Nat)(ts:TS)(F:SFr T):Prop:=∀(fx:Addr->Prop)(H0:Hp)(env:DEnv)(σ:St)(H:Hp)(v:V)(R:Addr->Prop)(st:T)(D:Ends),Has k f fx H0 env σ H v R st->∀o,F env st=some o->SatR k f fx H0 D v R o->ts D σ H
section
variable{T:Type}{k:Kind T}{f:Nat}{fx:Addr->Prop}{H0:Hp}{env:DEnv}{σ:St}{H H':Hp}{v:V}{R:Addr->Prop}{st st':T}
theorem Has.notOwn(h:Has k f fx H0 env σ H v R st){b:Addr}(hb:R b):¬own env σ b:=λ⟨i,d,h1,h2⟩=>by
 obtain⟨a,g1,g2,g3,g4⟩:=h.ok.ac i d h1
 rw[h2]at g1
 cases g1
 exact g3 (h.off _ hb)
noncomputable abbrev flr(env:DEnv)(σ:St)(R:Addr->Prop)(H:Hp):Hp:=Offs (λb=>own env σ b\/R b) H
theorem Has.rebase(h:Has k f fx H0 env σ H v R st):Has k f fx (flr env σ R H) env σ H v R st:=by
 refine⟨⟨h.ok.len,h.ok.pl,λi d e=>?_,h.ok.inj,Offs.same _ _,h.ok.fxs⟩,h.no,h.sl,h.th,h.off,λb hb=>Offs.out (.inr hb)⟩
 obtain⟨a,h1,h2,h3,h4⟩:=h.ok.ac i d e
 exact⟨a,h1,Offs.out (.inl ⟨i,d,e,h1⟩),h3,h4⟩
theorem Has.floor(h:Has k f fx H0 env σ H v R st):Same H0 (flr env σ R H):=λb o e=>by
 show Offs (λb=>own env σ b\/R b) H b=some o
 rw[Offs.get]
 ·exact h.ok.base b o e
 ·rintro(⟨i,d,h1,h2⟩|z)
  ·obtain⟨a,g1,g2,g3,g4⟩:=h.ok.ac i d h1
   rw[h2]at g1
   cases g1
   rw[g2]at e;cases e
  ·rw[h.low b z]at e;cases e
theorem Has.unbase{F:Hp}(h:Has k f fx F env σ H v R st)(s:Same H0 F):Has k f fx H0 env σ H v R st:=⟨h.ok.unbase s,h.no,h.sl,h.th,h.off,λb hb=>s.free (h.low b hb)⟩
theorem Has.seen{env':DEnv}{σ':St}(h:Has k f fx H0 env σ H v R st)(h':Has k f fx (flr env σ R H) env' σ' H' v R st'):Same (Offs (λb=>fx b\/own env σ b) H) (Offs (λb=>fx b\/own env' σ' b) H'):=λb o e=>by
 obtain⟨n,e⟩:=Offs.of e
 have hF:flr env σ R H b=some o:=by
  show Offs (λb=>own env σ b\/R b) H b=some o
  rw[Offs.get]
  ·exact e
  ·rintro(z|z)
   ·exact n (.inr z)
   ·exact n (.inl (h.off b z))
 rw[Offs.get]
 ·exact h'.ok.base b o hF
 ·rintro(z|⟨i,d,h1,h2⟩)
  ·exact n (.inl z)
  ·obtain⟨a,g1,g2,g3,g4⟩:=h'.ok.ac i d h1
   rw[h2]at g1
   cases g1
   rw[g2]at hF;cases hF
theorem zaum{env:DEnv}{i j:Nat}(h:env[j]?=some .no):(frz1 env i)[j]?=some .no:=by
 unfold frz1
 split
 ·rename_i d e
  rw[qd λz=>by subst z;rw[h]at e;cases e]
  exact h
 ·exact h
theorem zxd:∀(bs:List Nat){env:DEnv}{j:Nat},env[j]?=some .no->(frzs env bs)[j]?=some .no
 | [],_,_,h=>h
 | i::bs,_,_,h=>zxd bs (zaum h)
theorem zaun{r:Val}{i:Nat}(h:env[f]?=some .no)(hi:i≠f):(putV env i r)[f]?=some .no:=by
 unfold putV
 rw[qd hi]
 exact zxd _ h
theorem Has.put(hh:Has k f fx H0 env σ H v R st)(m:MvR R H H')(k1:Has k f fx H0 env σ H' v R st'){r:Val}{w:V}(hv:ValOk (lim fx env σ r.bs) H H' r w){i:Nat}(hi:i≠f):Has k f fx H0 (putV env i r) (σ.set i (some w)) H' v R st':=by
 classical
 let H1:Hp:=λb=>if R b then H b else H' b
 have hR:∀b,R b->H1 b=H b:=λb z=>if_pos z
 have hN:∀b,¬R b->H1 b=H' b:=λb z=>if_neg z
 have s1:Same H H1:=λb o e=>by
  by_cases z:R b
  ·rw[hR b z];exact e
  ·rw[hN b z];exact m.keep b o z e
 have nl:∀b,¬lim fx env σ r.bs b->¬R b:=λb n z=>n (.inl (hh.off b z))
 have v1:ValOk (lim fx env σ r.bs) H H1 r w:=by
  refine⟨Rp.same (λb o e=>?_) _ hv.rp,λe=>?_⟩
  ·obtain⟨n,e⟩:=Offs.of e
   rw[Offs.get n,hN b (nl b n)];exact e
  ·obtain⟨a,g1,g2,g3⟩:=hv.fr e
   have na:¬R a:=λz=>by obtain⟨o,eo⟩:=k.live hh.th a z;rw[g2]at eo;cases eo
   refine⟨a,g1,g2,g3.same (λb o e=>?_) λo e=>by rw[hN a na];exact e⟩
   obtain⟨n,e⟩:=Offs.of e
   rw[Offs.get n,hN b (nl b λz=>n (.inl z))];exact e
 have ok1:=hh.ok.put s1 v1 i
 have sl:(σ.set i (some w))[f]?=some (some v):=by rw[qd hi];exact hh.sl
 have h1:Has k f fx H0 (putV env i r) (σ.set i (some w)) H1 v R st:=⟨ok1,zaun hh.no hi,sl,k.stay hh.th λb o z e=>by rw[hR b z];exact e,hh.off,hh.low⟩
 refine h1.mv ⟨λb o z e=>by rw[hN b z]at e;exact e,λb o e=>?_⟩ k1.th
 by_cases z:R b
 ·exact k.live k1.th b z
 ·rw[hN b z]at e;exact⟨o,e⟩
end
section
variable{T:Type}{k:Kind T}{f:Nat}
noncomputable def rS(f:Nat)(F:SF):SFr T:=λenv st=>(F env).bind λo=>match o with
 | .nx e=>(match e[f]? with|some .no=>some (.nx e st)|_=>none)
 | .bk e=>(match e[f]? with|some .no=>some (.bk e st)|_=>none)
 | .ct e=>(match e[f]? with|some .no=>some (.ct e st)|_=>none)
 | .rt d fr=>some (.rt d fr st)
theorem zaag{ts:TS}{F:SF}(h:SSk (λj=>j=f) ts F):SSr k f ts (rS f F):=by
 intro fx H0 env σ H v R st D hh o e q
 unfold rS at e
 obtain⟨o1,e1,e⟩:=qA.mp e
 have fl:=hh.ok.floor
 have st':∀{env':DEnv}{σ':St}{H':Hp},EnvOk fx (Offs (own env σ) H) env' σ' H'->(∀j,j=f->σ'[j]?=σ[j]?)->env'[f]?=some .no->Has k f fx H0 env' σ' H' v R st:=λ{env' σ' H'} h' kp hn=>⟨h'.unbase fl,hn,(kp f rfl).trans hh.sl,k.stay hh.th λb o hb eb=>h'.base b o (by rw[Offs.get (hh.notOwn hb)];exact eb),hh.off,hh.low⟩
 refine h fx _ env σ H _ hh.ok.rebase o1 e1 ?_
 cases o1 with
 | nx e2=>
  dsimp only at e
  split at e
  ·rename_i hn;cases e;exact λσ' H' h' kp=>q σ' H' (st' h' kp hn)
  ·cases e
 | bk e2=>
  dsimp only at e
  split at e
  ·rename_i hn;cases e;exact λσ' H' h' kp=>q σ' H' (st' h' kp hn)
  ·cases e
 | ct e2=>
  dsimp only at e
  split at e
  ·rename_i hn;cases e;exact λσ' H' h' kp=>q σ' H' (st' h' kp hn)
  ·cases e
 | rt d fr=>
  cases e
  intro w H' s' rt
  have kp:∀b o,R b->H b=some o->H' b=some o:=λb o hb eb=>s' b o (by rw[Offs.get (hh.notOwn hb)];exact eb)
  have lv:∀b,fx b->∃o,H' b=some o:=λb hb=>by
   obtain⟨o,eo⟩:=hh.ok.fxs b hb
   have no:¬own env σ b:=λ⟨i,d,h1,h2⟩=>by
    obtain⟨a,g1,g2,g3,g4⟩:=hh.ok.ac i d h1
    rw[h2]at g1
    cases g1
    exact g3 hb
   exact⟨o,s' b o (by rw[Offs.get no];exact eo)⟩
  refine q w H' (fl.trans s') lv (k.stay hh.th kp) (rt.unbase fl) λhfr a ew hR=>?_
  obtain⟨a',g1,g2,_⟩:=rt.2 hfr
  rw[ew]at g1
  cases g1
  obtain⟨o,eo⟩:=k.live hh.th a hR
  rw[Offs.get (hh.notOwn hR),eo]at g2;cases g2
noncomputable def rSeq(a b:SFr T):SFr T:=λenv st=>(a env st).bind λo=>match o with
 | .nx e s=>b e s
 | o=>some o
theorem zbs{t u:TS}{a b:SFr T}(h1:SSr k f t a)(h2:SSr k f u b):SSr k f (tSeq t u) (rSeq a b):=by
 intro fx H0 env σ H v R st D hh o e q
 unfold rSeq at e
 obtain⟨o1,e1,e⟩:=qA.mp e
 refine h1 fx H0 env σ H v R st _ hh o1 e1 ?_
 cases o1 with
 | nx e2 s2=>exact λσ' H' h'=>h2 fx H0 e2 σ' H' v R s2 D h' o e q
 | bk e2 s2=>cases e;exact q
 | ct e2 s2=>cases e;exact q
 | rt d fr s2=>cases e;exact q
noncomputable def rSet(i:Nat)(g:EFr T):SFr T:=λenv st=>(g env st).map λx=>.nx (putV env i x.1) x.2
theorem zcz{te:TE}{g:EFr T}{i:Nat}(h1:SEr k f te g)(hi:i≠f):SSr k f (tAsg te (gName i)) (rSet i g):=by
 intro fx H0 env σ H v R st D hh o e q
 obtain⟨⟨r,s1⟩,er,rfl⟩:=qF.mp e
 exact h1 fx H0 env σ H v R st hh r s1 er _ λw H' m k1 hv=>q _ H' (hh.put m k1 hv hi)
noncomputable def rIf(c:TFr T)(a b:SFr T):SFr T:=λenv st=>(c env st).bind λx=>if x.1=true then a env x.2 else b env x.2
theorem zut{tc:TT}{t u:TS}{c:TFr T}{a b:SFr T}(hc:STr k f tc c)(h1:SSr k f t a)(h2:SSr k f u b):SSr k f (tIfS tc t u) (rIf c a b):=by
 intro fx H0 env σ H v R st D hh o e q
 unfold rIf at e
 obtain⟨⟨b',s1⟩,eb,e⟩:=qA.mp e
 refine hc fx H0 env σ H v R st hh b' s1 eb _ λH' m k1=>?_
 cases b' with
 | true=>exact iteT (h1 fx H0 env σ H' v R s1 D k1 o e q)
 | false=>exact iteF (h2 fx H0 env σ H' v R s1 D k1 o e q)
noncomputable def rNx:SFr T:=λenv st=>some (.nx env st)
theorem zob:SSr k f tNext rNx:=by
 intro fx H0 env σ H v R st D hh o e q
 cases e
 exact q σ H hh
noncomputable def rRet(g:EFr T):SFr T:=λenv st=>(g env st).map λx=>.rt x.1.d x.1.fr x.2
theorem zald{te:TE}{g:EFr T}(h1:SEr k f te g):SSr k f (tRet te) (rRet g):=by
 intro fx H0 env σ H v R st D hh o e q
 obtain⟨⟨r,s1⟩,er,rfl⟩:=qF.mp e
 refine h1 fx H0 env σ H v R st hh r s1 er _ λw H' m k1 hv=>q w H' k1.ok.base k1.ok.fxs k1.th ⟨Rp.same (Offs.sub λb z=>.inl z) _ hv.rp,λe=>?_⟩ λhfr a ew hR=>?_
 ·obtain⟨a,g1,g2,g3⟩:=hv.fr e
  exact⟨a,g1,hh.ok.base.free g2,g3.same (Offs.sub λb y=>y.imp .inl id) λo z=>z⟩
 ·obtain⟨a',g1,g2,_⟩:=hv.fr hfr
  rw[ew]at g1
  cases g1
  obtain⟨o,eo⟩:=k.live hh.th a hR
  rw[g2]at eo;cases eo
noncomputable def rApp(i:Nat)(g:EFr T):SFr T:=λenv st=>match env[i]? with
 | some (.ac (.list ds))=>(g env st).bind λx=>if ds.length<100000/\i∉x.1.bs then some (.nx ((frzs env x.1.bs).set i (.ac (.list (ds++[x.1.d])))) x.2)else none
 | _=>none
theorem zsd{K:qC}{i:Nat}{te:TE}{g:EFr T}(h1:SEr k f te g):SSr k f (tDrop (tBM K "list" zaco (tVar i) (tCons te tNil))) (rApp i g):=by
 intro fx H0 env σ H v R st D hh o e q
 unfold rApp at e
 split at e
 ·rename_i ds ei
  obtain⟨⟨r,s1⟩,er,e⟩:=qA.mp e
  dsimp only at e
  split at e
  ·rename_i hl
   cases e
   have hif:i≠f:=λz=>by rw[z,hh.no]at ei;cases ei
   obtain⟨a,g1,g2,g3,g4⟩:=hh.ok.ac i _ ei
   obtain⟨xs0,hx0,_⟩:=g4
   refine⟨_,g1,.inl ⟨rfl,_,SqL.of hx0⟩,h1 fx H0 env σ H v R st hh r s1 er _ λw H' m k1 hv=>?_⟩
   have h':=k1.ok.frzs r.bs
   have ei':=zik hl.2 ei
   obtain⟨a',z1,_,z3,z4⟩:=h'.ac i _ ei'
   rw[g1]at z1
   cases z1
   obtain⟨xs,hx',rx'⟩:=z4
   refine⟨a,xs,w,rfl,rfl,hx',zlt (by rw[<- rx'.length];exact hl.1),?_⟩
   refine q σ _ ⟨h'.mut ei' g1 ⟨_,zar,rx'.append (zdc (Rp.same (Offs.sub zfe) _ hv.rp) zcv)⟩,?_,hh.sl,k.stay k1.th λb o hb eb=>?_,hh.off,hh.low⟩
   ·rw[qd hif];exact zxd _ hh.no
   ·rw[zat λz=>g3 (by rw[<- z];exact hh.off b hb)];exact eb
  ·cases e
 ·cases e
noncomputable abbrev IFr(T:Type):=DEnv->T->Option (List PyData×List Nat×T)
noncomputable def SIr(k:Kind T)(f:Nat)(wi:TI)(g:IFr T):Prop:=∀(fx:Addr->Prop)(H0:Hp)(env:DEnv)(σ:St)(H:Hp)(v:V)(R:Addr->Prop)(st:T),Has k f fx H0 env σ H v R st->∀ds bs st',g env st=some (ds,bs,st')->∀Rk:It->Hp->Prop,
 (∀J H1,MvR R H H1->Has k f fx H0 env σ H1 v R st'->Yl (λb=>fx b\/own (frzs env bs) σ b) H1 J ds->Rk J H1)->wi σ H Rk
noncomputable def rIP(g:IF'):IFr T:=λenv st=>(g env).map λz=>(z.1,z.2,st)
theorem zafv{wi:TI}{g:IF'}(h:SI wi g):SIr k f wi (rIP g):=by
 intro fx H0 env σ H v R st hh ds bs st' e Rk q
 obtain⟨⟨d1,b1⟩,er,e⟩:=qF.mp e
 cases e
 exact h fx H0 env σ H hh.ok _ _ er Rk λJ H1 s y=>q J H1 (MvR.same s) (hh.up s) y
noncomputable def zxe(g:GT)(body:SFr T):List PyData->DEnv->T->Option (OutR T)
 | [],env,st=>some (.nx env st)
 | d::ds,env,st=>(g d env).bind λe1=>(body e1 st).bind λo=>match o with
  | .nx e2 s2=>zxe g body ds e2 s2
  | .ct e2 s2=>zxe g body ds e2 s2
  | .bk e2 s2=>some (.nx e2 s2)
  | .rt d fr s2=>some (.rt d fr s2)
noncomputable def rFor(it:IFr T)(g:GT)(body:SFr T):SFr T:=λenv st=>(it env st).bind λz=>zxe g body z.1 (frzs env z.2.1) z.2.2
noncomputable def GTno(f:Nat)(g:GT):Prop:=∀d env env',g d env=some env'->env[f]?=some .no->env'[f]?=some .no
theorem zmt{i:Nat}(h:i≠f):GTno f (gN i):=λd env env' e hn=>by
 cases e
 rw[qd h];exact hn
theorem zse{wi:TI}{g:TG}{tb:TS}{it:IFr T}{gf:GT}{body:SFr T}(h1:SIr k f wi it)(h2:SGk (λj=>j=f) g gf)(h2n:GTno f gf)(h3:SSr k f tb body):SSr k f (tFor wi g tb) (rFor it gf body):=by
 intro fx H0 env σ H v R st D hh o e q
 unfold rFor at e
 obtain⟨⟨ds,bs,s0⟩,er,e⟩:=qA.mp e
 refine h1 fx H0 env σ H v R st hh ds bs s0 er _ λJ H1 m0 k0 yl=>?_
 have hE:Has k f fx H0 (frzs env bs) σ H1 v R s0:=⟨k0.ok.frzs bs,zxd _ k0.no,k0.sl,k0.th,k0.off,k0.low⟩
 have fl:=hE.floor
 refine⟨λi n σ' H'=>n=ds.length - i/\i<=ds.length/\∃env' st',zxe gf body (ds.drop i) env' st'=some o/\Has k f fx (flr (frzs env bs) σ R H1) env' σ' H' v R st',⟨ds.length,rfl,qAQ _,_,_,e,hE.rebase⟩,?_⟩
 rintro i n σ' H' ⟨rfl,hi,env',st',e',h'⟩
 obtain⟨yi,ys⟩:=yl _ H' h'.ok.all (hE.seen h')
 by_cases hlt:i<ds.length
 ·obtain⟨yg,yy⟩:=yi i ds[i] (qH hlt)
  refine .inr ⟨yg,λσ'' H''=>i+1<=ds.length/\∃env'' st'',zxe gf body (ds.drop (i+1)) env'' st''=some o/\Has k f fx (flr (frzs env bs) σ R H1) env'' σ'' H'' v R st'',?_,?_⟩
  ·rintro σ'' H'' ⟨hle,env'',st'',e'',h''⟩
   exact⟨ds.length - (i+1),by omega,rfl,hle,env'',st'',e'',h''⟩
  ·intro x H'' hy
   obtain⟨sy,ry⟩:=yy x H'' hy
   rw[qAJ hlt]at e'
   obtain⟨e1,ee1,e'⟩:=qA.mp e'
   obtain⟨o1,eo1,e'⟩:=qA.mp e'
   have hu:=h'.up sy
   refine h2 fx _ env' σ' H'' _ x hu.ok ry e1 ee1 _ λσ2 h2' k2=>h3 fx _ e1 σ2 H'' v R st' _ ⟨h2',h2n _ _ _ ee1 hu.no,(k2 f rfl).trans hu.sl,hu.th,hu.off,hu.low⟩ o1 eo1 ?_
   cases o1 with
   | nx e2 s2=>exact λσ3 H3 hq=>⟨hlt,e2,s2,e',hq⟩
   | ct e2 s2=>exact λσ3 H3 hq=>⟨hlt,e2,s2,e',hq⟩
   | bk e2 s2=>cases e';exact λσ3 H3 hq=>q σ3 H3 (hq.unbase fl)
   | rt d fr s2=>cases e';exact λw H3 sh l t rt nr=>q w H3 (fl.trans sh) l t (rt.unbase fl) nr
 ·have hi':i=ds.length:=by omega
  subst hi'
  rw[qBA]at e'
  cases e'
  exact .inl ⟨ys,q σ' H' (h'.unbase fl)⟩
end
noncomputable abbrev GR(T:Type):=List PyData->T->Option (PyData×Bool×T)
noncomputable def spR{T:Type}(k:Kind T)(n:Nat)(g:GR T):Sp:=λvs H Q _=>∃(fx:Addr->Prop)(v:V)(vs':List V)(ds:List PyData)(R:Addr->Prop)(st:T)(d:PyData)(fr:Bool)(st':T),vs=v::vs'/\ds.length+1=n/\(∀b,fx b->∃o,H b=some o)/\(∀b,R b->fx b)/\k.at_ H v R st/\Rps (Offs fx H) ds vs'/\g ds st=some (d,fr,st')/\
 ∀w H',MvR R H H'->k.at_ H' v R st'->zzq fx H d fr w H'->Q w H'
theorem zxf{T:Type}{k:Kind T}{n:Nat}{g:GR T}{vs:List V}{H:Hp}{Q:VK}{E:XK}(h:spR k n g vs H Q E):vs.length=n:=by
 obtain⟨fx,v,vs',ds,R,st,d,fr,st',rfl,hn,_,_,_,r,_⟩:=h
 rw[qy,<- r.length];exact hn
section
variable{T:Type}{k:Kind T}{f:Nat}
noncomputable def zbn(n:Nat)(g:GR T)(a:AFr T):EFr T:=λenv st=>(a env st).bind λx=>if x.1.length+1=n then(g (zfp x.1) x.2).bind λz=>some (⟨z.1,z.2.1,bsOf z.1 (bss x.1)⟩,z.2.2)else none
theorem zcf{n:Nat}{g:GR T}{ta:TA}{a:AFr T}(ha:SAr k f ta a):SEr k f (tCall (spR k n g) [] E0 (tCons (tVar f) ta)) (zbn n g a):=by
 intro fx H0 env σ H v R st hh rr st' hr Q q
 unfold zbn at hr
 obtain⟨⟨rs,s1⟩,er,hr⟩:=qA.mp hr
 split at hr
 ·rename_i hn
  obtain⟨⟨d,fr,s2⟩,ez,hr⟩:=qA.mp hr
  cases hr
  refine⟨v,hh.sl,ha fx H0 env σ H v R st hh rs s1 er _ λvs H1 m1 k1 v1=>?_⟩
  show spR k n g ((v::vs)++[]) H1 Q E0
  rw[qAD]
  refine⟨lim fx env σ (bss rs),v,vs,zfp rs,R,s1,d,fr,_,rfl,by rw[zgi];exact hn,k1.ok.lims _,λb hb=>.inl (hh.off b hb),k1.th,zeq (λi hi=>hi) v1,ez,λw H3 m3 t3 ⟨rp,fr3⟩=>q w H3 (m1.trans m3) (k1.mv m3 t3) ⟨zjn rp,λe=>?_⟩⟩
  obtain⟨a,g1,g2,g3⟩:=fr3 e
  refine⟨a,g1,m1.free g2,?_⟩
  show zfs (Offs (λb=>lim fx env σ (bsOf d (bss rs)) b\/b=a) H3) H3 a d
  rw[show bsOf d (bss rs)=bss rs by unfold bsOf;rw[if_neg (by rw[zaui g3];decide)]]
  exact g3
 ·cases hr
noncomputable def zsf(n:Nat)(ds:List PyData):DEnv:=.no::zhr (n - 1) ds
noncomputable def fnR(n:Nat)(F:SFr T):GR T:=λds st=>match F (zsf n ds) st with
 | some (.rt d fr s)=>some (d,fr,s)
 | some (.nx _ s)=>some (.none,false,s)
 | _=>none
theorem zaah{fx:Addr->Prop}{H:Hp}{N:List Str}{v:V}{ds:List PyData}{vs:List V}{R:Addr->Prop}{st:T}(hN:0<N.length)(hf:∀b,fx b->∃o,H b=some o)(hR:∀b,R b->fx b)(t:k.at_ H v R st)(r:Rps (Offs fx H) ds vs) :
  Has k 0 fx (Offs R H) (zsf N.length ds) (zfo N (v::vs)) H v R st:=by
 obtain⟨x,N',rfl⟩:∃x N',N=x::N':=by
  cases N with
  | nil=>cases hN
  | cons x N'=>exact⟨x,N',rfl⟩
 have e0:=zhe (N:=N') hf r
 have es:zfo (x::N') (v::vs)=some v::zfo N' vs:=by
  unfold zfo
  rw[qa,qCA]
  congr 3
  simp
 have no:∀(i:Nat)(d:PyData),(zsf (x::N').length ds)[i]?≠some (Sl.ac d):=λi d e=>by
  cases i with
  | zero=>cases e
  | succ i=>
   have e:(zhr N'.length ds)[i]?=some (Sl.ac d):=e
   rcases zru e with⟨d',_,z⟩|z<;>cases z
 have ow:∀b,¬own (zsf (x::N').length ds) (zfo (x::N') (v::vs)) b:=λb ⟨i,d,h1,_⟩=>no i d h1
 rw[es]at ow ⊢
 refine⟨⟨?_,λi d e=>?_,λi d e=>absurd e (no i d),λi j d e a h1=>absurd h1 (no i d),Offs.same _ _,hf⟩,rfl,rfl,t,hR,λb hb=>Offs.out hb⟩
 ·show(zhr N'.length ds).length+1=(zfo N' vs).length+1
  rw[e0.len]
 ·cases i with
  | zero=>cases e
  | succ i=>
   obtain⟨u,h1,h2⟩:=e0.pl i d e
   exact⟨u,h1,Rp.same (Offs.sub λb z=>z.elim .inl λy=>absurd y (ow b)) _ h2⟩
theorem fn_r{N:List Str}{n:Nat}{F:SFr T}{t:TS}(hN:0<N.length)(hs:SSr k 0 t F){vs:List V}{H:Hp}{Q:VK}{E:XK}(h:spR k n (fnR N.length F) vs H Q E):t {nx:=λ_ H'=>Q .non H',rt:=Q} (zfo N vs) H:=by
 obtain⟨fx,v,vs',ds,R,st,d,fr,st',rfl,hn,hf,hR,ht,r,g,q⟩:=h
 have hh:=zaah (N:=N) (k:=k) hN hf hR ht r
 have mv:∀{H':Hp},Same (Offs R H) H'->(∀b,fx b->∃o,H' b=some o)->MvR R H H':=λ{H'} s l=>⟨λb o nb e=>s b o (by rw[Offs.get nb];exact e),λb o e=>by
  by_cases z:R b
  ·exact l b (hR b z)
  ·exact⟨o,s b o (by rw[Offs.get z];exact e)⟩⟩
 unfold fnR at g
 split at g
 ·rename_i d' fr' s' eo
  cases g
  refine hs fx _ _ _ H v R st _ hh _ eo λw H' s l t rt nr=>q w H' (mv s l) t ⟨rt.1,λe=>?_⟩
  obtain⟨a,g1,g2,g3⟩:=rt.2 e
  refine⟨a,g1,?_,g3⟩
  rw[Offs.get (nr e a g1)]at g2
  exact g2
 ·rename_i e' s' eo
  cases g
  exact hs fx _ _ _ H v R st _ hh _ eo λσ H' h'=>q .non H' (mv h'.ok.base h'.ok.fxs) h'.th ⟨zib,λz=>by cases z⟩
 ·cases g
noncomputable def zfx(a:AFr T):IFr T:=λenv st=>(a env st).bind λx=>match x.1 with
 | [⟨.int j,_,_⟩]=>if -(2 ^ 62)<=j/\j<2 ^ 62 then some (zpe 0 j.toNat,[],x.2)else none
 | _=>none
theorem zoc{ta:TA}{a:AFr T}(h1:SAr k f ta a):SIr k f (iRng1 ta) (zfx a):=by
 intro fx H0 env σ H v R st hh ds bs st' e Rk q
 unfold zfx at e
 obtain⟨⟨rs,s1⟩,er,e⟩:=qA.mp e
 dsimp only at e
 split at e
 ·split at e
  ·rename_i hj
   cases e
   refine h1 fx H0 env σ H v R st hh _ _ er _ λvs H1 m k1 hv=>?_
   cases hv with
   | cons hv t=>
    cases t
    cases zdf hv.rp
    exact⟨_,rfl,hj.1,hj.2,q _ H1 m k1 zafm⟩
  ·cases e
 ·cases e
end
section
variable{T:Type}{k:Kind T}{f:Nat}
noncomputable def zju(g:GT)(t:TF)(e:EFr T)(env:DEnv):List PyData->T->Option (List PyData×T)
 | [],st=>some ([],st)
 | d::ds,st=>(g d env).bind λe1=>(t e1).bind λb=>if b=true then(e e1 st).bind λx=>(zju g t e env ds x.2).map λy=>(x.1.d::y.1,y.2)else zju g t e env ds st
noncomputable def zale(own:List Str)(fr:List Nat)(it:IFr T)(g:GT)(t:TF)(e:EFr T):EFr T:=λenv st=>(it env st).bind λz=>if z.1.length<100000 then
 (zju g t e (envB own fr env) z.1 z.2.2).map λy=>(⟨.list y.1,true,if zdm y.1=true then[]else z.2.1++capA fr env⟩,y.2)else none
theorem zauo{own:List Str}{fr:List Nat}{env:DEnv}{kk:Nat}(hk:fr[kk]?=some f)(hn:env[f]?=some .no):(envB own fr env)[own.length+kk]?=some .no:=by
 unfold envB
 rw[qp (by simp)]
 simp only[qG,qB7,qh,hk,qBB]
 rw[qg,hn];rfl
theorem zapi{own:List Str}{fr:List Nat}{kk:Nat}{wi:TI}{g:TG}{tt:TT}{te:TE}{it:IFr T}{gf:GT}{t:TF}{e:EFr T}(hk:fr[kk]?=some f)(h1:SIr k f wi it)(h2:SGk (λj=>own.length<=j) g gf)(hx:GX own.length gf)(h3:ST tt t)(h4:SEr k (own.length+kk) te e) :
  SEr k f (tComp1 wi g tt te own fr) (zale own fr it gf t e):=by
 intro fx H0 env σ H v R st hh rr st' hr Q q
 unfold zale at hr
 obtain⟨⟨ds,bs,s0⟩,ei,hr⟩:=qA.mp hr
 split at hr
 ·rename_i hlen
  have hlen:ds.length<100000:=hlen
  obtain⟨⟨rs,sE⟩,ers,hr⟩:=qF.mp hr
  cases hr
  refine h1 fx H0 env σ H v R st hh ds bs s0 ei _ λJ H1 m0 k0 yl=>λp hp=>?_
  have pR:¬R p:=λz=>by obtain⟨o,eo⟩:=k.live k0.th p z;rw[hp]at eo;cases eo
  have hB:=zmp k0.ok (Same.refl H1) hp own fr bs
  generalize hA:(λb=>lim fx env σ (bs++capA fr env) b)=A
  have hA':∀b,lim fx env σ (bs++capA fr env) b↔A b:=λb=>by rw[<- hA]
  have eA:(λb=>lim fx env σ (bs++capA fr env) b\/b=p)=λb=>A b\/b=p:=by rw[<- hA]
  rw[eA]at hB
  have RA:∀b,R b->A b\/b=p:=λb z=>.inl ((hA' b).mp (.inl (hh.off b z)))
  have hB:Has k (own.length+kk) (λb=>A b\/b=p) (Offs R H1) (envB own fr env) (tau own fr σ) (upd H1 p (.lst [])) v R s0:=⟨hB.unbase (Offs.same _ _),zauo hk hh.no,zadb hk hh.sl,k.stay k0.th λb o z eo=>by rw[zat λy=>pR (by rw[<- y];exact z)];exact eo,RA,λb z=>Offs.out z⟩
  have nA:¬A p:=λz=>by
   obtain⟨o,eo⟩:=k0.ok.lims _ p ((hA' p).mpr z)
   rw[hp]at eo;cases eo
  have seen:∀{σ':St}{H':Hp}{s':T},Has k (own.length+kk) (λb=>A b\/b=p) (Offs R H1) (envB own fr env) σ' H' v R s'->Same (Offs (λb=>fx b\/L2.own (frzs env bs) σ b) H1) (Offs (λb=>A b\/b=p) H'):=λ{σ' H' s'} hE b o eb=>by
   obtain⟨n,eb⟩:=Offs.of eb
   have hb:H' b=some o:=hE.ok.base b o (by rw[Offs.get λz=>n (.inl (hh.off b z))];exact eb)
   rw[Offs.get]
   ·exact hb
   ·rintro(z|z)
    ·rcases(hA' b).mpr z with z|⟨i,d,z1,z2,z3⟩
     ·exact n (.inl z)
     ·exact n (.inr ⟨i,d,zik (λy=>z1 (qi _ y)) z2,z3⟩)
    ·rw[z,hp]at eb;cases eb
  refine⟨λi m σ' H'=>m=ds.length - i/\i<=ds.length/\∃vs done rest s',H' p=some (.lst vs)/\Rps (Offs (λb=>A b\/b=p) H') done vs/\done.length<=i/\zju gf t e (envB own fr env) (ds.drop i) s'=some (rest,sE)/\done++rest=rs/\Has k (own.length+kk) (λb=>A b\/b=p) (Offs R H1) (envB own fr env) σ' H' v R s',
   ⟨ds.length,rfl,qAQ _,[],[],rs,s0,zar,zcv,qAQ _,ers,rfl,hB⟩,?_⟩
  rintro i m σ' H' ⟨rfl,hi,vs,done,rest,s',ep,rd,dl,ec,edr,hE⟩
  obtain⟨yi,ys⟩:=yl _ H' hE.ok.fxs (seen hE)
  by_cases hlt:i<ds.length
  ·obtain⟨yg,yy⟩:=yi i ds[i] (qH hlt)
   refine .inr ⟨yg,λσ'' H''=>i+1<=ds.length/\∃vs done rest s'',H'' p=some (.lst vs)/\Rps (Offs (λb=>A b\/b=p) H'') done vs/\done.length<=i+1/\zju gf t e (envB own fr env) (ds.drop (i+1)) s''=some (rest,sE)/\done++rest=rs/\Has k (own.length+kk) (λb=>A b\/b=p) (Offs R H1) (envB own fr env) σ'' H'' v R s'',?_,?_⟩
   ·rintro σ'' H'' ⟨hle,hq⟩
    exact⟨ds.length - (i+1),by omega,rfl,hle,hq⟩
   ·intro x H'' hy
    obtain⟨sy,ry⟩:=yy x H'' hy
    rw[qAJ hlt]at ec
    obtain⟨e1,ee1,ec⟩:=qA.mp ec
    obtain⟨b,eb,ec⟩:=qA.mp ec
    have ry':Rp (Offs (λa=>(A a\/a=p)\/L2.own (envB own fr env) σ' a) H'') ds[i] x:=Rp.same (Offs.sub λb z=>z.elim (λy=>y) λ⟨j,d',z,_⟩=>absurd z zfv) _ ry
    have hU:=hE.up sy
    obtain⟨gl,gk⟩:=hx _ _ _ ee1
    refine h2 _ (Offs R H1) (envB own fr env) σ' H'' _ x hU.ok ry' e1 ee1 _ λσ2 hE2 k2=>?_
    refine h3 _ (Offs R H1) e1 σ2 H'' hE2 b eb _ λH3 s3=>?_
    have hE3:Has k (own.length+kk) (λb=>A b\/b=p) (Offs R H1) e1 σ2 H3 v R s':=⟨hE2.up s3,by rw[gk _ (by omega)];exact hU.no,(k2 _ (by omega)).trans hU.sl,(hU.up s3).th,hU.off,hU.low⟩
    have back:∀{H4:Hp}{s4:T},Has k (own.length+kk) (λb=>A b\/b=p) (Offs R H1) e1 σ2 H4 v R s4->Has k (own.length+kk) (λb=>A b\/b=p) (Offs R H1) (envB own fr env) σ2 H4 v R s4:=λ{H4 s4} hq=>⟨hq.ok.weaken gl.symm (λj d' ej=>by
     by_cases hj:own.length<=j
     ·rw[gk j hj];exact ej
     ·obtain⟨_,k,rfl,_⟩:=zmo ej;omega) λj d'=>zfv,hU.no,hq.sl,hq.th,hq.off,hq.low⟩
    cases b with
    | false=>
     have ec:zju gf t e (envB own fr env) (ds.drop (i+1)) s'=some (rest,sE):=ec
     exact iteF ⟨hlt,vs,done,rest,s',s3 _ _ (sy _ _ ep),Rps.same (Offs.grow (sy.trans s3)) _ rd,qBJ dl,ec,edr,back hE3⟩
    | true=>
     have ec:((e e1 s').bind λx=>(zju gf t e (envB own fr env) (ds.drop (i+1)) x.2).map λy=>(x.1.d::y.1,y.2))=some (rest,sE):=ec
     obtain⟨⟨r,s4⟩,er,ec⟩:=qA.mp ec
     obtain⟨⟨rest',sE'⟩,er',ec⟩:=qF.mp ec
     cases ec
     refine iteT (h4 _ (Offs R H1) e1 σ2 H3 v R s' hE3 r s4 er _ λw H4 m4 k4 hv=>?_)
     have t3:=sy.trans s3
     have ep4:H4 p=some (.lst vs):=m4.keep p _ pR (t3 _ _ ep)
     have so:Same (Offs (λb=>A b\/b=p) H') (Offs (λb=>A b\/b=p) H4):=λb o eb=>by
      obtain⟨n,eb⟩:=Offs.of eb
      rw[Offs.get n]
      exact m4.keep b o (λz=>n (RA b z)) (t3 _ _ eb)
     have k5:=back k4
     refine⟨vs,ep4,zlt (by rw[<- rd.length];omega),hlt,vs++[w],done++[r.d],rest',s4,zar,?_,by rw[qK];simp;omega,er',by rw[<- edr];simp,⟨k5.ok.updFx (.inr rfl) (by rw[Offs.get pR];exact hp),k5.no,k5.sl,k.stay k5.th λb o z eo=>by rw[zat λy=>pR (by rw[<- y];exact z)];exact eo,k5.off,k5.low⟩⟩
     rw[Offs.upd (.inr rfl)]
     exact(Rps.same so _ rd).append (zdc (Rp.same (Offs.sub λb z=>.inl z) _ hv.rp) zcv)
  ·have hi':i=ds.length:=by omega
   subst hi'
   rw[qBA]at ec
   cases ec
   rw[qAD]at edr
   subst edr
   have m1:MvR R H1 H':=⟨λb o n eb=>hE.ok.base b o (by rw[Offs.get n];exact eb),λb o eb=>by
    by_cases z:R b
    ·exact k.live hE.th b z
    ·exact⟨o,hE.ok.base b o (by rw[Offs.get z];exact eb)⟩⟩
   refine .inl ⟨ys,q _ H' (m0.trans m1) (k0.mv m1 hE.th) ⟨?_,λ_=>⟨p,rfl,m0.free hp,?_⟩⟩⟩
   ·show Rp (Offs (lim fx env σ (if zdm done=true then[]else bs++capA fr env)) H') (.list done) (.ref p)
    have nl:∀cs,¬lim fx env σ cs p:=λcs z=>by
     obtain⟨o,eo⟩:=k0.ok.lims _ p z
     rw[hp]at eo;cases eo
    refine zdx (by rw[Offs.get (nl _)];exact ep) ?_
    split
    ·rename_i f;exact zid f rd
    ·exact Rps.same (Offs.sub λb z=>.inl ((hA' b).mp z)) _ rd
   ·show zfs (Offs (λb=>lim fx env σ (if zdm done=true then[]else bs++capA fr env) b\/b=p) H') H' p (.list done)
    refine⟨vs,ep,?_⟩
    split
    ·rename_i f;exact zid f rd
    ·exact Rps.same (Offs.sub λb z=>z.elim (λy=>.inl ((hA' b).mp y)) .inr) _ rd
 ·cases hr
end
structure Pen where
 cells:List Int
 acc:Int
 seed:Int
 cnt:Int
noncomputable def zapj(H:Hp)(v:V)(R:Addr->Prop)(st:Pen):Prop:=∃p q,v=.ref p/\p≠q/\H p=some (.lst [.ref q,.int st.acc,.int st.seed,.int st.cnt])/\H q=some (.lst (st.cells.map .int))/\∀b,R b↔b=p\/b=q
noncomputable def penK:Kind Pen where
 at_:=zapj
 live:=λ{H v R st} ⟨p,q,_,_,hp,hq,hR⟩ b hb=>by
  rcases(hR b).mp hb with rfl|rfl
  ·exact⟨_,hp⟩
  ·exact⟨_,hq⟩
 stay:=λ{H H' v R st} ⟨p,q,e,ne,hp,hq,hR⟩ k=>⟨p,q,e,ne,k p _ ((hR p).mpr (.inl rfl)) hp,k q _ ((hR q).mpr (.inr rfl)) hq,hR⟩
noncomputable def Pen.get(st:Pen):Nat->Option Int
 | 1=>some st.acc
 | 2=>some st.seed
 | 3=>some st.cnt
 | _=>none
noncomputable def Pen.set(st:Pen):Nat->Int->Option Pen
 | 1,x=>some {st with acc:=x}
 | 2,x=>some {st with seed:=x}
 | 3,x=>some {st with cnt:=x}
 | _,_=>none
section
variable{f:Nat}
noncomputable def rGet(i:Nat):EFr Pen:=λ_ st=>(st.get i).map λx=>(⟨.int x,false,[]⟩,st)
theorem zim{K:qC}{i:Nat}:SEr penK f (tOp (rIxU K) (tVar f) (tC (.int (i:Int)))) (rGet i):=by
 intro fx H0 env σ H v R st hh r st' e Q q
 obtain⟨x,ex,e⟩:=qF.mp e
 cases e
 obtain⟨p,q',rfl,ne,hp,hq,hR⟩:=hh.th
 refine⟨.ref p,hh.sl,[.ref q',.int st.acc,.int st.seed,.int st.cnt],.int x,.inl (SqL.of hp),?_,q _ H (MvR.same (Same.refl _)) hh ⟨zad,λz=>by cases z⟩⟩
 unfold Pen.get at ex
 split at ex<;>cases ex<;>rfl
noncomputable def rPut(i:Nat)(g:EFr Pen):SFr Pen:=λenv st=>(g env st).bind λx=>match x.1.d with
 | .int y=>(x.2.set i y).map λs=>.nx env s
 | _=>none
theorem zalf{fx:Addr->Prop}{H0:Hp}{env:DEnv}{σ:St}{H:Hp}{v:V}{R:Addr->Prop}{st:Pen}(hh:Has penK f fx H0 env σ H v R st){p b:Addr}{o:HO}{st':Pen}(hb:R b)(t:zapj (upd H b o) v R st'):Has penK f fx H0 env σ (upd H b o) v R st':=
 hh.mv ⟨λc u n e=>by rw[zat λz=>n (by rw[z];exact hb)];exact e,λc u e=>by
  by_cases z:c=b
  ·rw[z];exact⟨_,zar⟩
  ·exact⟨u,by rw[zat z];exact e⟩⟩ t
theorem zxg{i:Nat}{te:TE}{g:EFr Pen}(h1:SEr penK f te g):SSr penK f (tAsg te (gSub (tVar f) (tC (.int (i:Int))) zast)) (rPut i g):=by
 intro fx H0 env σ H v R st D hh o e q
 unfold rPut at e
 obtain⟨⟨⟨d,fr,bs⟩,s1⟩,er,e⟩:=qA.mp e
 cases d with
 | int y=>
  obtain⟨s2,es,rfl⟩:=qF.mp e
  refine h1 fx H0 env σ H v R st hh _ s1 er _ λw H1 m1 k1 hv=>?_
  cases zdf hv.rp
  obtain⟨p,q',rfl,ne,hp,hq,hR⟩:=k1.th
  have es:s1.set i y=some s2:=es
  have fin:∀j,ixN 4 (i:Int)=some j->zapj (upd H1 p (.lst ([.ref q',.int s1.acc,.int s1.seed,.int s1.cnt].set j (.int y)))) (.ref p) R s2:=λj hj=>by
   refine⟨p,q',rfl,ne,?_,?_,hR⟩
   ·rw[zar]
    unfold Pen.set at es
    split at es
    ·cases es;cases hj;rfl
    ·cases es;cases hj;rfl
    ·cases es;cases hj;rfl
    ·cases es
   ·rw[zat ne.symm]
    unfold Pen.set at es
    split at es<;>cases es<;>exact hq
  obtain⟨j,hj⟩:∃j,ixN 4 (i:Int)=some j:=by
   unfold Pen.set at es
   split at es
   ·exact⟨1,rfl⟩
   ·exact⟨2,rfl⟩
   ·exact⟨3,rfl⟩
   ·cases es
  exact⟨_,k1.sl,p,_,_,j,rfl,rfl,hp,hj,q _ _ (zalf (p:=p) k1 ((hR p).mpr (.inl rfl)) (fin j hj))⟩
 | _=>cases e
noncomputable def zalg:EFr Pen:=λ_ st=>match st.cells with
 | []=>none
 | c::cs=>some (⟨.int c,false,[]⟩,{st with cells:=cs})
theorem zapk{K:qC}:SEr penK f (tBM K "list" zard (tOp (rIxU K) (tVar f) (tC (.int 0))) (tCons (tC (.int 0)) tNil)) zalg:=by
 intro fx H0 env σ H v R st hh r st' e Q q
 unfold zalg at e
 split at e
 ·cases e
 ·rename_i c cs ec
  cases e
  obtain⟨p,q',rfl,ne,hp,hq,hR⟩:=hh.th
  rw[ec]at hq
  have ht:zapj (upd H q' (.lst (cs.map .int))) (.ref p) R {st with cells:=cs}:=⟨p,q',rfl,ne,by rw[zat ne];exact hp,zar,hR⟩
  have k1:=zalf (p:=p) hh ((hR q').mpr (.inr rfl)) ht
  refine⟨.ref p,hh.sl,[.ref q',.int st.acc,.int st.seed,.int st.cnt],.ref q',.inl (SqL.of hp),rfl,.inl ⟨rfl,_,SqL.of hq⟩,q',(c::cs).map .int,0,0,.int c,rfl,rfl,hq,by decide,by decide,?_,rfl,q _ _ ⟨λb o n e=>by rw[zat λz=>n (by rw[z];exact(hR q').mpr (.inr rfl))];exact e,λb o e=>?_⟩ k1 ⟨zad,λz=>by cases z⟩⟩
  ·show seqIndex? 0 ((c::cs).map V.int).length=some 0
   rw[qG,qy]
   unfold seqIndex?
   simp
  ·by_cases z:b=q'
   ·rw[z];exact⟨_,zar⟩
   ·exact⟨o,by rw[zat z];exact e⟩
noncomputable def zuu:TFr Pen:=λ_ st=>if st.cells.length<100000 then some (!st.cells.isEmpty,st)else none
theorem zalh:∀(cs:List Int),qAN (cs.map PyData.int)=true/\qe (cs.map PyData.int)=0
 | []=>⟨by simp[qAN],by simp[qe]⟩
 | c::cs=>by
  obtain⟨h1,h2⟩:=zalh cs
  rw[qa]
  unfold qAN qe
  rw[h1,h2]
  exact⟨by simp[PyData.canLay0],by simp[PyData.depth]⟩
theorem zin{H:Hp}:∀(cs:List Int),Rps H (cs.map .int) (cs.map .int)
 | []=>zcv
 | c::cs=>zdc zad (zin cs)
theorem zapl(cs:List Int):neD (.list (cs.map .int)) (.list [])=some (.bool (!cs.isEmpty),false):=by
 obtain⟨h1,h2⟩:=zalh cs
 have s1:qt (.list (cs.map .int))=true:=by
  unfold qt PyData.canLay0 PyData.depth
  rw[h1,h2];rfl
 have s2:qt (.list [])=true:=by decide +kernel
 unfold neD
 rw[if_pos (by unfold eqOk;rw[s1,s2];simp)]
 cases cs with
 | nil=>rfl
 | cons c cs=>simp[qX,PyData.eqvAll]
theorem zali{K:qC}:STr penK f (tTest (tOp (λx y H Q=>rNe x y H Q\/rEqD K true x y H Q) (tOp (rIxU K) (tVar f) (tC (.int 0))) (tLst tNil))) zuu:=by
 intro fx H0 env σ H v R st hh b st' e Q q
 unfold zuu at e
 split at e
 ·cases e
  obtain⟨p,q',rfl,ne,hp,hq,hR⟩:=id hh.th
  refine⟨.ref p,hh.sl,[.ref q',.int st.acc,.int st.seed,.int st.cnt],.ref q',.inl (SqL.of hp),rfl,by show 0<=_;exact zfc (by decide),λn hn=>?_⟩
  have sn:Same H (upd H n (.lst [])):=Same.new hn
  have of:∀b,Offs (λ_=>False) (upd H n (.lst [])) b=upd H n (.lst []) b:=λb=>Offs.get λz=>z
  refine zagu (K:=K) (λ_=>False) (upd H n (.lst [])) (.ref q') (.ref n) (.list (st.cells.map .int)) (.list []) (λb z=>z.elim) (zdx (by rw[of];exact sn _ _ hq) (zin _)) (zdx (by rw[of];exact zar) zcv) _ _ (zapl _) _ λw H' s' rp _=>⟨_,zjl rp,q H' (MvR.same (sn.trans s')) (hh.up (sn.trans s'))⟩
 ·cases e
end
section
variable{T:Type}{k:Kind T}{f:Nat}
noncomputable def ziz(c:TFr T)(body:SFr T):Nat->SFr T
 | 0,_,_=>none
 | n+1,env,st=>(c env st).bind λx=>if x.1=true then(body env x.2).bind λo=>match o with
  | .nx e2 s2=>ziz c body n e2 s2
  | .ct e2 s2=>ziz c body n e2 s2
  | .bk e2 s2=>some (.nx e2 s2)
  | .rt d fr s2=>some (.rt d fr s2)
  else some (.nx env x.2)
theorem zalj{tc:TT}{tb:TS}{c:TFr T}{body:SFr T}(n:Nat)(h1:STr k f tc c)(h2:SSr k f tb body):SSr k f (tWhile tc tb) (ziz c body n):=by
 intro fx H0 env σ H v R st D hh o e q
 refine⟨λm σ' H'=>∃env' st',ziz c body m env' st'=some o/\Has k f fx H0 env' σ' H' v R st',⟨n,env,st,e,hh⟩,?_⟩
 rintro m σ' H' ⟨env',st',e',h'⟩
 cases m with
 | zero=>cases e'
 | succ m=>
  obtain⟨⟨b,s1⟩,eb,e'⟩:=qA.mp e'
  refine h1 fx H0 env' σ' H' v R st' h' b s1 eb _ λH1 m1 k1=>?_
  cases b with
  | false=>cases e';exact iteF (q σ' H1 k1)
  | true=>
   have e':((body env' s1).bind λo=>match o with
    | .nx e2 s2=>ziz c body m e2 s2
    | .ct e2 s2=>ziz c body m e2 s2
    | .bk e2 s2=>some (.nx e2 s2)
    | .rt d fr s2=>some (.rt d fr s2))=some o:=e'
   obtain⟨o1,eo1,e'⟩:=qA.mp e'
   refine iteT ⟨λσ'' H''=>∃env'' st'',ziz c body m env'' st''=some o/\Has k f fx H0 env'' σ'' H'' v R st'',λσ'' H'' hq=>⟨m,Nat.lt_succ_self _,hq⟩,?_⟩
   refine h2 fx H0 env' σ' H1 v R s1 _ k1 o1 eo1 ?_
   cases o1 with
   | nx e2 s2=>exact λσ3 H3 hq=>⟨e2,s2,e',hq⟩
   | ct e2 s2=>exact λσ3 H3 hq=>⟨e2,s2,e',hq⟩
   | bk e2 s2=>cases e';exact λσ3 H3 hq=>q σ3 H3 hq
   | rt d fr s2=>cases e';exact q
end
noncomputable def zayp(K:qC)(H:Hp)(v:V)(R:Addr->Prop)(ns:List Int):Prop:=∃a,v=.ref a/\(∀b,R b->b=a/\∃o,H b=some o)/\SqL K H a (ns.map .int)/\(R a\/∀H',SqL K H' a (ns.map .int))
noncomputable def scrK(K:qC):Kind (List Int) where
 at_:=zayp K
 live:=λ{H v R st} ⟨a,_,h,_⟩ b hb=>(h b hb).2
 stay:=λ{H H' v R st} ⟨a,e,h,q,r⟩ k=>⟨a,e,λb hb=>⟨(h b hb).1,let⟨o,eo⟩:=(h b hb).2;⟨o,k b o hb eo⟩⟩,by
  rcases r with r|r
  ·rcases q with(q|⟨o,q⟩)|q
   ·exact .inl (.inl (k a _ r q))
   ·exact .inl (.inr ⟨o,k a _ r q⟩)
   ·exact .inr q
  ·exact r H',r⟩
theorem zaup(ns:List Int):cutV (ns.map V.int) none (some 63)=(ns.take 63).map .int:=by
 unfold cutV
 have e1:HT.sIx (ns.map V.int).length 0 none=0:=rfl
 rw[e1,show(63:Int)=((63:Nat):Int)from rfl,HT.sIx_nat]
 rw[List.drop_zero,Nat.sub_zero,List.map_take,qG]
 by_cases h:63<=ns.length
 ·rw[qBW h]
 ·rw[qBk (by omega),qAZ (by simp),qAZ (by simp;omega)]
section
variable{K:qC}{f:Nat}
noncomputable def rScr:EFr (List Int):=λ_ ns=>some (⟨.list ((ns.take 63).map .int),true,[]⟩,ns)
theorem zalk:SEr (scrK K) f (tSl (rSlU K) (tVar f) tNoPart (tPart (tC (.int 63)))) rScr:=by
 intro fx H0 env σ H v R ns hh r st' e Q q
 cases e
 obtain⟨a,rfl,h1,h2,h3⟩:=id hh.th
 refine⟨.ref a,hh.sl,63,rfl,a,ns.map .int,rfl,h2,λp hp=>?_⟩
 rw[zaup]
 have sn:Same H (upd H p (.lst ((ns.take 63).map .int))):=Same.new hp
 have np:¬lim fx env σ [] p:=λz=>by obtain⟨o,eo⟩:=hh.ok.lims [] p z;rw[hp]at eo;cases eo
 refine q _ _ (MvR.same sn) (hh.up sn) ⟨zdx (by rw[Offs.get np];exact zar) (zin _),λ_=>⟨p,rfl,hp,_,zar,zin _⟩⟩
end
section
variable{T:Type}{k:Kind T}{f:Nat}
noncomputable def zall(a:AFr T):IFr T:=λenv st=>(a env st).bind λx=>match x.1 with
 | [r]=>(zfd r.d).map λds=>(zzr ds,r.bs,x.2)
 | _=>none
theorem zapm{K:qC}{ta:TA}{a:AFr T}(h1:SAr k f ta a):SIr k f (iEnumX K ta) (zall a):=by
 intro fx H0 env σ H v R st hh ds bs st' e Rk q
 unfold zall at e
 obtain⟨⟨rs,s1⟩,er,e⟩:=qA.mp e
 dsimp only at e
 split at e
 ·rename_i r
  obtain⟨d1,ed1,e⟩:=qF.mp e
  cases e
  refine h1 fx H0 env σ H v R st hh _ _ er _ λvs H1 m k1 hv=>?_
  cases hv with
  | cons hv t=>
   cases t
   obtain⟨b,a,xs,rfl,r1,e1⟩:=zzx (K:=K) (Rp.same (Offs.sub (zfe (bs:=r.bs))) _ hv.rp) ed1
   refine⟨b,a,rfl,⟨xs,e1 _ H1 (Same.refl _)⟩,q _ H1 m k1 ?_⟩
   intro A H' hA ss
   have q1:=e1 A H' ss
   have r1':=Rps.same ss _ r1
   have hl:(zzr d1).length=d1.length:=by unfold zzr;simp
   refine⟨λi d e=>?_,⟨xs,q1,by rw[hl,r1.length];exact qN _⟩⟩
   unfold zzr at e
   rw[qh,List.getElem?_zipIdx]at e
   cases e0:d1[i]? with
   | none=>rw[e0]at e;cases e
   | some d0=>
    rw[e0]at e
    obtain⟨v,hv,rv⟩:=r1'.get2 e0
    have e:PyData.tuple [.int ((0+i:Nat):Int),d0]=d:=qY e
    rw[qDE]at e
    subst e
    refine⟨⟨xs,v,q1,hv⟩,λx H'' y=>?_⟩
    obtain⟨p,y',rfl,hp,rfl,y⟩:=y
    have:=y xs q1
    rw[hv]at this
    cases this
    exact⟨Same.new hp,znv hp (zed hA hp) (zdc zad (zdc rv zcv))⟩
 ·cases e
end
noncomputable def zapn(F:SFr (List Int))(n:Nat)(g:EF):List Int->Option Int:=λns=>match F (.no::List.replicate n .no) ns with
 | some (.nx env st)=>if st=ns then(g env).bind λr=>match r.d with
  | .int s=>some s
  | _=>none else none
 | _=>none
theorem zio{H:Hp}:∀{cs:List Int}{xs:List V},Rps H (cs.map .int) xs->xs=cs.map .int
 | [],xs,h=>by unfold Rps at h;exact h
 | c::cs,xs,h=>by
  rw[qa]at h
  unfold Rps at h
  obtain⟨v,vs,rfl,h1,h2⟩:=h
  rw[zdf h1,zio h2];rfl
noncomputable abbrev zmu(xs:List Str):Str:=Builtin.Str.glued "" xs
noncomputable def zayq:V->List V->Hp->VK->Prop:=λx vs H Q=>∃a xs,x=.str ""/\vs=[.ref a]/\H a=some (.lst (xs.map .str))/\xs.foldl (λn z=>n+z.length+0) 0<=100000/\(zmu xs).length<=100000/\Q (.str (zmu xs)) H
theorem zaai:∀{xs:List Str}{us:List Value},Vals (xs.map V.str) us->∃l:List (Str×Tok),us=strValues l/\l.map (·.1)=xs
 | [],us,h=>by cases h;exact⟨[],rfl,rfl⟩
 | x::xs,us,h=>by
  cases h with
  | cons r h=>
   obtain⟨t,rfl⟩:=r
   obtain⟨l,rfl,rfl⟩:=zaai h
   exact⟨(x,t)::l,rfl,rfl⟩
theorem zauq{X:Cx}:MtR X "str.join" zayq:=by
 intro pins s σ H x vs v us Q I rx rv h
 obtain⟨a,xs,rfl,rfl,hH,hn,hg,q⟩:=h
 obtain⟨t,rfl⟩:=rx
 obtain⟨u,rfl,ru⟩:=rv.one
 cases ru
 obtain⟨_,its,n,r,hl,e⟩:=I.lstM hH
 obtain⟨l,rfl,hx⟩:=zaai r
 have big:(100000:Nat)<=qZ:=by rw[qCL];omega
 have ht:Builtin.Str.tooLong ((l.map (·.1)).toArray.foldl (·+·.length+("":Str).length) 0)=false:=by
  unfold Builtin.Str.tooLong
  rw[hx,List.foldl_toArray']
  refine decide_eq_false ?_
  have:xs.foldl (λn z=>n+z.length+("":Str).length) 0<=100000:=hn
  omega
  simp
 refine qBO F.slot_str_join (qDJ s _ _) F.entry_str_join (F.args_str_join_2 _ _) (meets_str_join_list "" t a l ht) ⟨⟨_,e,rfl,n,rfl⟩,?_⟩
 have fin:∀(tk tk':Nat),EP X pins σ Q (.str (zmu xs) tk) {s with toks:=tk'}:=λtk tk'=>⟨.str _,H,I.tok _,⟨_,rfl⟩,q⟩
 cases l with
 | nil=>cases hx;exact⟨qAA hg big,fin _ _⟩
 | cons p l=>
  cases l with
  | nil=>
   cases hx
   have e1:zmu [p.1]=p.1:=by unfold zmu Builtin.Str.glued;rfl
   show EP X pins σ Q (.str p.1 p.2) s
   have:=fin p.2 s.toks
   rw[show[p].map (·.1)=[p.1]from rfl,e1]at this
   exact this
  | cons p2 l=>subst hx;exact⟨qAA hg big,fin _ _⟩
noncomputable def zaaj:PyData->Option PyData
 | .list ds=>(unT ds).bind λxs=>if xs.foldl (λn z=>n+z.length+0) 0<=100000/\(zmu xs).length<=100000 then some (.str (zmu xs))else none
 | _=>none
where unT:List PyData->Option (List Str)
 | []=>some []
 | .str x::r=>(unT r).map λxs=>x::xs
 | _::_=>none
theorem zafw:∀{ds:List PyData}{xs:List Str},zaaj.unT ds=some xs->ds=xs.map .str
 | [],xs,h=>by cases h;rfl
 | d::r,xs,h=>by
  cases d with
  | str x=>
   obtain⟨ys,hy,rfl⟩:=qF.mp h
   rw[zafw hy];rfl
  | _=>cases h
theorem zsg{H:Hp}:∀{cs:List Str}{xs:List V},Rps H (cs.map .str) xs->xs=cs.map .str
 | [],xs,h=>by unfold Rps at h;exact h
 | c::cs,xs,h=>by
  rw[qa]at h
  unfold Rps at h
  obtain⟨v,vs,rfl,h1,h2⟩:=h
  rw[zle h1,zsg h2];rfl
section
variable{T:Type}{k:Kind T}{f:Nat}
noncomputable def zaak(g:EFr T):EFr T:=λenv st=>(g env st).bind λx=>(zaaj x.1.d).map λd=>(⟨d,false,[]⟩,x.2)
theorem zapo{K:qC}{te:TE}{g:EFr T}(h1:SEr k f te g):SEr k f (tBM K "str" zayq (tC (.str "")) (tCons te tNil)) (zaak g):=by
 intro fx H0 env σ H v R st hh r st' e Q q
 unfold zaak at e
 obtain⟨⟨x,s1⟩,ex,e⟩:=qA.mp e
 obtain⟨d,ed,e⟩:=qF.mp e
 cases e
 refine⟨rfl,h1 fx H0 env σ H v R st hh x s1 ex _ λw H1 m1 k1 hv=>?_⟩
 obtain⟨xd,xf,xb⟩:=x
 cases xd with
 | list ds=>
  have ed:((zaaj.unT ds).bind λxs=>if xs.foldl (λn z=>n+z.length+0) 0<=100000/\(zmu xs).length<=100000 then some (PyData.str (zmu xs))else none)=some d:=ed
  obtain⟨xs,eu,ed⟩:=qA.mp ed
  split at ed
  ·rename_i hl
   cases ed
   have:=zafw eu
   subst this
   obtain⟨a,ys,rfl,ha,ry⟩:=zde hv.rp
   have:=zsg ry
   subst this
   exact⟨a,xs,rfl,rfl,(Offs.of ha).2,hl.1,hl.2,q _ H1 m1 k1 ⟨zcn,λz=>by cases z⟩⟩
  ·cases ed
 | _=>cases ed
end
theorem zxh{J:Nat->Prop}{i:Nat}:SSk J (tRet (tVar i)) (zqj i):=λfx H0 env σ H D h o e q=>znx fx H0 env σ H D h o e (by
 unfold zqj at e
 split at e
 ·cases e;exact q
 ·cases e;exact q
 ·cases e)
theorem zapp{f m:Nat}{g:GTs}(h:∀ds env env',g ds env=some env'->env[f]?=some .no->env'[f]?=some .no):GTno f (gT m g):=λd env env' e hn=>by
 unfold gT at e
 cases d with
 | tuple ds=>
  have e:(if ds.length=m then g ds env else none)=some env':=e
  split at e
  ·exact h ds env env' e hn
  ·cases e
 | _=>cases e
theorem zapq{f:Nat}:∀ds env env',zft ds env=some env'->env[f]?=some Sl.no->env'[f]?=some .no:=λds env env' e hn=>by
 cases ds with
 | nil=>cases e;exact hn
 | cons _ _=>cases e
theorem zaal{f i:Nat}{g:GTs}(hi:i≠f)(h:∀ds env env',g ds env=some env'->env[f]?=some .no->env'[f]?=some .no):∀ds env env',zba i g ds env=some env'->env[f]?=some Sl.no->env'[f]?=some .no:=λds env env' e hn=>by
 cases ds with
 | nil=>cases e
 | cons d ds=>exact h ds _ env' e (by rw[qd hi];exact hn)
section
variable{X:Cx}
noncomputable def zark(wi:TI)(g:TG)(tt:TT)(wi2:TI)(g2:TG)(tt2:TT)(te:TE)(own:List Str)(fr:List Nat)(i:Nat):TS:=zatc wi g tt (λp=>zafn wi2 g2 tt2 (zacr p te)) own fr i
theorem zapr{scope:Scope}{N' own:List Str}{fr:List Nat}{elt target iter target2 iter2:Expr}{ifs ifs2:List Expr}{cpos spos py:Pos}{i:Nat}{y:Str}{wi wi2:TI}{g g2:TG}{tt tt2:TT}{te:TE}(c:CompOk X scope N' own fr)(hc:X.calm=true)(hi:PI X target iter wi)
  (hb:∀(cl:List (Str×Addr)) (C:Addr) (s:Shared) (H:Hp) (fp:List Addr),PG (cxComp X scope N' own cl C s H fp) target g/\PF (cxComp X scope N' own cl C s H fp) ifs tt/\PI (cxComp X scope N' own cl C s H fp) target2 iter2 wi2/\PG (cxComp X scope N' own cl C s H fp) target2 g2/\PF (cxComp X scope N' own cl C s H fp) ifs2 tt2/\PE (cxComp X scope N' own cl C s H fp) elt te)
  (hsw:swapsWith (.ListComp elt [⟨target,iter,ifs,0⟩,⟨target2,iter2,ifs2,0⟩] scope cpos) (some (.Name y py)) spos.line X.env=pure true)
  (hN:X.N.Nodup)(hy:X.N[i]?=some y)(hl:X.env.scope.names.lookup y=some .local)
  (hs:∀x,foldedSetIterable iter X.env x=pure x:=by intro _;rfl)(hs2:∀env x,foldedSetIterable iter2 env x=pure x:=by intro _ _;rfl) :
  PS X (.Assign [.Name y py] (.ListComp elt [⟨target,iter,ifs,0⟩,⟨target2,iter2,ifs2,0⟩] scope cpos) spos) (zark wi g tt wi2 g2 tt2 te own fr i):=
 zafe (emit:=λacc env=>do
   let x <- eval iter2 env
   standAt iter2.pos
   let x <- foldedSetIterable iter2 env x
   let _ <- runOwn (.compStart (.ListComp elt [⟨target,iter,ifs,0⟩,⟨target2,iter2,ifs2,0⟩] scope cpos) 1 (<- holding [x] (pyIter x)) acc env) env) c hc (λit acc env=>by
   rw[zayc]
   refine bind_congr λ_=>bind_congr λr=>?_
   cases r with
   | none=>rfl
   | some v=>
    refine bind_congr λ_=>bind_congr λ_=>bind_congr λok=>?_
    cases ok with
    | false=>rfl
    | true=>simp only[if_true,bind_assoc,pure_bind]) hi
  (λcl C s H fp p=>let⟨h1,h2,h3,h4,h5,h6⟩:=hb cl C s H fp;⟨h1,h2,zafo (X:=cxComp X scope N' own cl C s H fp) rfl hc h3 h4 h5 h6 (λx=>hs2 _ x)⟩) hsw hN hy hl hs
theorem zalm{scope:Scope}{N' own:List Str}{fr:List Nat}{elt target iter target2 iter2:Expr}{ifs ifs2:List Expr}{cpos spos py:Pos}{i:Nat}{y:Str}{wi wi2:TI}{g g2:TG}{tt tt2:TT}{te:TE}(c:CompOk X scope N' own fr)(hc:X.calm=true)(hi:Bx (PI X target iter wi))
  (hb:∀(cl:List (Str×Addr)) (C:Addr) (s:Shared) (H:Hp) (fp:List Addr),PG (cxComp X scope N' own cl C s H fp) target g/\PF (cxComp X scope N' own cl C s H fp) ifs tt/\PI (cxComp X scope N' own cl C s H fp) target2 iter2 wi2/\PG (cxComp X scope N' own cl C s H fp) target2 g2/\PF (cxComp X scope N' own cl C s H fp) ifs2 tt2/\PE (cxComp X scope N' own cl C s H fp) elt te)
  (hsw:swapsWith (.ListComp elt [⟨target,iter,ifs,0⟩,⟨target2,iter2,ifs2,0⟩] scope cpos) (some (.Name y py)) spos.line X.env=pure true)
  (hN:X.N.Nodup)(hy:X.N[i]?=some y)(hl:X.env.scope.names.lookup y=some .local)
  (hs:∀x,foldedSetIterable iter X.env x=pure x)(hs2:∀env x,foldedSetIterable iter2 env x=pure x) :
  Bx (PS X (.Assign [.Name y py] (.ListComp elt [⟨target,iter,ifs,0⟩,⟨target2,iter2,ifs2,0⟩] scope cpos) spos) (zark wi g tt wi2 g2 tt2 te own fr i)):=
 ⟨zapr c hc hi.out hb hsw hN hy hl hs hs2⟩
end
noncomputable def zayr(i j:Int):Prop:=0<=j/\j<=1000/\i.natAbs<2 ^ 1000
theorem zsh{X:Cx}:OpR X (binaryOp .Pow) (rI zayr λi j=>.int (i ^ j.toNat)):=opI λi j _ _ _ _ _ hc q=>pow_int hc.1 (by
 have hb:Builtin.Int.intBits i<=1000:=intBits_le hc.2.2
 have h0:(0:Int)<=j:=hc.1
 have hj:j<=1000:=hc.2.1
 have h1:(Builtin.Int.intBits i:Int) * j<=1000 * j:=Int.mul_le_mul_of_nonneg_right (by omega) h0
 omega) q
noncomputable def powB:OF:=intD (λi j=>decide (0<=j/\j<=1000)&&decide (i.natAbs<2 ^ 1000)) λi j=>.int (i ^ j.toNat)
theorem zsi:SO (rI zayr λi j=>.int (i ^ j.toNat)) powB:=zajw (λi j h=>by
 rw[qAC]at h
 exact⟨(of_decide_eq_true h.1).1,(of_decide_eq_true h.1).2,of_decide_eq_true h.2⟩) λ_ _ _=>zad
section
variable{T:Type}
theorem zbh{a b:SFr T}{env e1:DEnv}{st s1:T}{o:Option (OutR T)}(h:a env st=some (.nx e1 s1))(k:b e1 s1=o):rSeq a b env st=o:=by unfold rSeq;rw[h];exact k
theorem zaur{a b:SFr T}{env:DEnv}{st s1:T}{d:PyData}{fr:Bool}(h:a env st=some (.rt d fr s1)):rSeq a b env st=some (.rt d fr s1):=by unfold rSeq;rw[h];rfl
theorem zeu{i:Nat}{g:EFr T}{env:DEnv}{st s1:T}{r:Val}(h:g env st=some (r,s1)):rSet i g env st=some (.nx (putV env i r) s1):=by unfold rSet;rw[h];rfl
theorem zaln{g:EFr T}{env:DEnv}{st s1:T}{d:PyData}{fr:Bool}{bs:List Nat}(h:g env st=some (⟨d,fr,bs⟩,s1)):rRet g env st=some (.rt d fr s1):=by unfold rRet;rw[h];rfl
theorem zahf{c:TFr T}{a b:SFr T}{env:DEnv}{st s1:T}{o:Option (OutR T)}(h:c env st=some (true,s1))(k:a env s1=o):rIf c a b env st=o:=by unfold rIf;rw[h];exact k
theorem zahg{c:TFr T}{a b:SFr T}{env:DEnv}{st s1:T}{o:Option (OutR T)}(h:c env st=some (false,s1))(k:b env s1=o):rIf c a b env st=o:=by unfold rIf;rw[h];exact k
theorem zeh{g:EF}{env:DEnv}{st:T}{r:Val}(h:g env=some r):zam g env st=some (r,st):=by unfold zam;rw[h];rfl
theorem ziq{c:TF}{env:DEnv}{st:T}{b:Bool}(h:c env=some b):zsc c env st=some (b,st):=by unfold zsc;rw[h];rfl
theorem zdp{w:OF}{a b:EFr T}{env:DEnv}{st s1 s2:T}{x y:Val}{d:PyData}{fr:Bool}(h1:a env st=some (x,s1))(h2:b env s1=some (y,s2))(h3:w x.d y.d=some (d,fr)):rOp w a b env st=some (⟨d,fr,bsOf d (x.bs++y.bs)⟩,s2):=by unfold rOp;rw[h1];show((b env s1).bind _)=_;rw[h2];show((w x.d y.d).bind _)=_;rw[h3];rfl
theorem zer{a:EFr T}{g:AFr T}{env:DEnv}{st s1 s2:T}{x:Val}{xs:List Val}(h1:a env st=some (x,s1))(h2:g env s1=some (xs,s2)):zbp a g env st=some (x::xs,s2):=by unfold zbp;rw[h1];show((g env s1).bind _)=_;rw[h2];rfl
theorem zjv{n:Nat}{g:GR T}{a:AFr T}{env:DEnv}{st s1 s2:T}{rs:List Val}{d:PyData}{fr:Bool}(h:a env st=some (rs,s1))(hn:rs.length+1=n)(k:g (zfp rs) s1=some (d,fr,s2)):zbn n g a env st=some (⟨d,fr,bsOf d (bss rs)⟩,s2):=by unfold zbn;rw[h];show(if rs.length+1=n then _ else _)=_;rw[if_pos hn,k];rfl
theorem zaam{n:Nat}{F:SFr T}{ds:List PyData}{env:DEnv}{st s1:T}{d:PyData}{fr:Bool}(h:zsf n ds=env)(e:F env st=some (.rt d fr s1)):fnR n F ds st=some (d,fr,s1):=by unfold fnR;rw[h,e]
theorem zsj{it:IFr T}{g:GT}{body:SFr T}{env:DEnv}{st s1:T}{ds:List PyData}{bs:List Nat}{o:Option (OutR T)}(h:it env st=some (ds,bs,s1))(k:zxe g body ds (frzs env bs) s1=o):rFor it g body env st=o:=by unfold rFor;rw[h];exact k
theorem zuv{α:Type}{enc:α->PyData}{g:GT}{body:SFr T}(I:List α->DEnv->T->Prop)(all:List α):∀(l pre:List α)(env:DEnv)(st:T),pre++l=all->I pre env st->
  (∀pre x post env st,pre++x::post=all->I pre env st->∃e1 e2 s2,g (enc x) env=some e1/\body e1 st=some (.nx e2 s2)/\I (pre++[x]) e2 s2)->∃e' s',zxe g body (l.map enc) env st=some (.nx e' s')/\I all e' s'
 | [],pre,env,st,hp,h0,_=>⟨env,st,rfl,by rw[<- hp,qAD];exact h0⟩
 | x::l,pre,env,st,hp,h0,hs=>by
  obtain⟨e1,e2,s2,h1,h2,h3⟩:=hs pre x l env st hp h0
  obtain⟨e',s',h4,h5⟩:=zuv I all l (pre++[x]) e2 s2 (by rw[qBI];exact hp) h3 hs
  refine⟨e',s',?_,h5⟩
  rw[qa]
  unfold zxe
  rw[h1]
  show((body e1 st).bind _)=_
  rw[h2]
  exact h4
theorem zjw{α:Type}{enc:α->PyData}{g:GT}{body:SFr T}{l:List α}{env:DEnv}{st:T}(I:List α->DEnv->T->Prop)(h0:I [] env st)
  (hs:∀pre x post env st,pre++x::post=l->I pre env st->∃e1 e2 s2,g (enc x) env=some e1/\body e1 st=some (.nx e2 s2)/\I (pre++[x]) e2 s2):∃e' s',zxe g body (l.map enc) env st=some (.nx e' s')/\I l e' s':=
 zuv I l l [] env st rfl h0 hs
end
theorem zxi:∀{ns:List Int}{its:List Value},Vals (ns.map V.int) its->IntsAre its ns
 | [],its,h=>by cases h;exact .nil
 | n::ns,its,h=>by
  cases h with
  | cons h1 h2=>
   obtain⟨t,rfl⟩:=h1
   exact .cons n t (zxi h2)
noncomputable def zays(K:qC):List V->Hp->VK->Prop:=λxs H Q=>∃(a:Addr)(ns:List Int)(M:Int),xs=[.ref a]/\SqL K H a (ns.map .int)/\M∈ns/\(∀z∈ns,z<=M)/\Q (.int M) H
theorem zalo{X:Cx}{K:qC}(hK:X.K=K)(hc:X.calm=true):CallR X (.builtin "max") (zays K):=by
 subst hK
 intro pins s σ H xs us Q I r h
 obtain⟨a,ns,M,rfl,hS,hm,hM,q⟩:=h
 obtain⟨u,rfl,ru⟩:=r.one
 cases ru
 obtain⟨its,rv,hl,hz⟩:=I.list hS
 have hi:=zxi rv
 have hne:0<ns.length:=qC3 hm
 obtain⟨ys,e⟩:=hi.allInts.items
 have hns:ns=ys.toList.map (·.1):=by
  rw[<- hi.numsOf,<- nums_intItems,<- e]
 have hsz:0<ys.size:=by
  have h3:=hne;rw[hns,qG,qAr]at h3;exact h3
 rw[e]at hl
 have hl:s.heap.IsList a (intItems ys):=by obtain⟨o,n,h1,h2,_,h3⟩:=hl;exact⟨o,h1,h2,n,h3⟩
 refine max_intList (I.ok.hd hc) hl hsz λv h' tk hv hk=>?_
 obtain⟨t,rfl⟩:=intItems_at hv
 obtain⟨h1,h2⟩:=argBest_gt (numAt ys) (ys.size - 1)
 have hin:numAt ys (argBest (λi j=>decide (numAt ys i > numAt ys j)) (ys.size - 1))∈ns:=by
  rw[hns,numAt_eq];exact getD_mem (by rw[qG,qAr];omega)
 have hmx:∀z∈ns,z<=numAt ys (argBest (λi j=>decide (numAt ys i > numAt ys j)) (ys.size - 1)):=λz hz=>by
  rw[hns]at hz
  obtain⟨j,hj,rfl⟩:=mem_getD hz
  rw[qG,qAr]at hj
  rw[<- numAt_eq];exact h2 j (by omega)
 have eM:numAt ys (argBest (λi j=>decide (numAt ys i > numAt ys j)) (ys.size - 1))=M:=Int.le_antisymm (hM _ hin) (hmx _ hm)
 exact⟨.int M,H,I.kept hk,⟨t,by rw[eM]⟩,q⟩
noncomputable def maxL:List Int->Option Int
 | []=>none
 | n::ns=>some (ns.foldl (λa b=>if a<b then b else a) n)
theorem zalp:∀{ns:List Int}{M:Int},maxL ns=some M->M∈ns/\∀z∈ns,z<=M
 | [],_,h=>by cases h
 | n::ns,M,h=>by
  cases h
  obtain⟨h1,h2,h3⟩:=PyProof.Rows.fold_max ns n
  refine⟨h1.elim (λe=>by rw[e];exact qR ..) λe=>qL _ e,λz hz=>?_⟩
  rcases qJ.mp hz with rfl|hz
  ·exact h2
  ·exact h3 z hz
noncomputable def zmv:List PyData->Option (List Int)
 | []=>some []
 | .int n::ds=>(zmv ds).map λns=>n::ns
 | _::_=>none
theorem zod:∀{ds:List PyData}{ns:List Int},zmv ds=some ns->ds=ns.map .int
 | [],ns,h=>by cases h;rfl
 | d::ds,ns,h=>by
  cases d with
  | int n=>
   obtain⟨ms,hm,rfl⟩:=qF.mp h
   rw[zod hm];rfl
  | _=>cases h
noncomputable def zadf:GF
 | [.list ds]=>(zmv ds).bind λns=>(maxL ns).map λM=>(.int M,false)
 | _=>none
theorem zaus{K:qC}:SC (zays K) zadf:=by
 intro A H vs ds hA rv d fr e Q q
 unfold zadf at e
 split at e
 ·rename_i es
  obtain⟨ns,en,e⟩:=qA.mp e
  obtain⟨M,eM,e⟩:=qF.mp e
  cases e
  obtain⟨h1,h2⟩:=zalp eM
  have:=zod en
  subst this
  obtain⟨v,rfl,r⟩:=rps1 rv
  obtain⟨a,xs,rfl,hx,rx⟩:=zde r
  have ex:=zio rx
  subst ex
  exact⟨a,ns,M,rfl,SqL.of (zco hx),h1,h2,q _ H (Same.refl _) zad (λz=>by cases z)⟩
 ·cases e
section
variable{X:Cx}
theorem bpaC{e:Expr}{es:List Expr}{te:TE}{t:TA}(h1:Bx (PE X e te))(h2:Bx (PA X es t))(h3:isStar e=false:=by rfl):Bx (PA X (e::es) (tCons te t)):=zau h1 h2 h3
theorem bpeD{x:Str}{p pos:Pos}{e:Expr}{es:List Expr}{t:TA}{ps:List Str}{k m:Nat}{sp:Sp}(D:Dn X.prog X.w X.K X.mg X.base x ps k sp)(hr:Room m X.A)(ha:Bx (PA X (e::es) t))(hm:k<=m:=by decide)(hg:Gl X x:=by rfl)(hd:(x==("__debug__":Str))=false:=by decide)
  (hs:isStar e=false:=by rfl) (hp:((backTo pos (starEach es X.env)).any λx=>x.1)=false:=by rfl):Bx (PE X (.Call (.Name x p) (e::es) [] pos) (tCall sp [] E0 t)):=zakp D (hr.mono hm) hg ha hd (zan hs) hp
theorem bpeB{x:Str}{p pos:Pos}{e:Expr}{es:List Expr}{t:TA}{id:String}{r:List V->Hp->VK->Prop}(hc:CallR X (.builtin id) r)(hm:X.mg x=none)(hb:bootBuiltins x=some (.builtin id))(ha:Bx (PA X (e::es) t))(hg:Gl X x:=by rfl)(h1:x≠("__name__":Str):=by decide)(h2:(x==("__debug__":Str))=false:=by decide)
  (hs:isStar e=false:=by rfl) (hp:((backTo pos (starEach es X.env)).any λx=>x.1)=false:=by rfl):Bx (PE X (.Call (.Name x p) (e::es) [] pos) (tCB r t)):=zcr hc hg hm hb ha h1 h2 (zan hs) hp
theorem bpeT{x:Str}{p pos:Pos}{e:Expr}{es:List Expr}{t:TA}{T:String}{r:List V->Hp->VK->Prop}(hc:CallR X (.type T) r)(hm:X.mg x=none)(hb:bootBuiltins x=some (.type T))(ha:Bx (PA X (e::es) t))(hg:Gl X x:=by rfl)(h1:x≠("__name__":Str):=by decide)(h2:(x==("__debug__":Str))=false:=by decide)
  (hs:isStar e=false:=by rfl) (hp:((backTo pos (starEach es X.env)).any λx=>x.1)=false:=by rfl):Bx (PE X (.Call (.Name x p) (e::es) [] pos) (tCB r t)):=zahd hc hg hm hb ha h1 h2 (zan hs) hp
theorem bpsS{pos:Pos}{i:Nat}{x:Str}{e:Expr}{te:TE}{pos':Pos}(hN:X.N.Nodup)(hi:X.N[i]?=some x)(hl:Loc X.env.scope x)(he:Bx (PE X e te))(hs:swapsWith e (some (.Name x pos')) pos.line X.env=pure false:=by rfl)(hf:X.fn x=true\/X.env.scope.names.lookup x=some .local:=by exact .inl rfl):Bx (PS X (.Assign [.Name x pos'] e pos) (tAsg te (gName i))):=zatu hN hi hl he hs hf
theorem bpeX{a b:Expr}{ta tb:TE}{pos:Pos}{r:R2}(hr:IxR X r)(h1:Bx (PE X a ta))(h2:Bx (PE X b tb))(hp:PlainIx b:=by exact λ_ _=>rfl):Bx (PE X (.Subscript a b pos) (tOp r ta tb)):=zayj hr h1 h2 hp
theorem bpgN{pos:Pos}{i:Nat}{x:Str}(hN:X.N.Nodup)(hi:X.N[i]?=some x)(hl:Loc X.env.scope x)(hf:X.fn x=true\/X.env.scope.names.lookup x=some .local:=by first|exact .inl rfl|exact .inr rfl|assumption):Bx (PG X (.Name x pos) (gName i)):=zmr hN hi hl hf
end
noncomputable def zaut(te:TE):TE:=λσ H Q=>te σ H λx H1=>∃n:Nat,x=.int (n:Int)/\n<=100000/\∀l,H1 l=none->Q (.ref l) (upd H1 l (.lst ((List.range n).map λ(k:Nat)=>.int (k:Int))))
theorem zauu:bootBuiltins "list"=some (.type "list"):=by decide +kernel
theorem zahh:∀{n:Nat}{acc:Array Value},ItemsOf (λi v=>∃t,v=.int (0+(i:Int) * 1) t) acc n->Vals ((List.range n).map λ(k:Nat)=>V.int (k:Int)) acc.toList:=λ{n acc} h=>by
 have go:∀(m lo:Nat)(l:List Value),l.length=m->(∀j v,l[j]?=some v->∃t,v=Value.int ((lo+j:Nat):Int) t)->Vals ((List.range' lo m).map λ(k:Nat)=>V.int (k:Int)) l:=by
  intro m
  induction m with
  | zero=>intro lo l hl _;rw[qBQ.mp hl];exact .nil
  | succ m ih=>
   intro lo l hl hv
   cases l with
   | nil=>cases hl
   | cons v l=>
    obtain⟨t,e⟩:=hv 0 v rfl
    rw[List.range'_succ,qa]
    refine .cons ⟨t,by rw[e];rfl⟩ (ih (lo+1) l (Nat.succ.inj hl) λj u hj=>?_)
    obtain⟨t,e⟩:=hv (j+1) u hj
    exact⟨t,by rw[e];congr 1;omega⟩
 rw[List.range_eq_range']
 refine go n 0 acc.toList (by rw[qAr];exact h.1) λj v hj=>?_
 obtain⟨t,e⟩:=h.2 j v (by rw[<- qCD];exact hj)
 exact⟨t,by rw[e];congr 1;omega⟩
theorem zauv{X:Cx}{e:Expr}{te:TE}{p1 p2 pos1 pos2:Pos}(hc:X.calm=true)(hgl:Gl X "list")(hml:X.mg "list"=none)(hgs:Gl X "range")(hms:X.mg "range"=none)(he:PE X e te)
  (hs:starEach [e] X.env=(false,eval e X.env)::starEach [] X.env:=by rfl) :
  PE X (.Call (.Name "list" p1) [.Call (.Name "range" p2) [e] [] pos2] [] pos1) (zaut te):=by
 intro pins s σ H Q I h
 refine qAi (zia I hgl hml zauu ?_ (by decide) (by decide))
 refine callWith_type1 ?_ rfl rfl
 show wpAny _ _ (spliced ((false,eval (.Call (.Name "range" p2) [e] [] pos2) X.env)::[])) _ _ s
 refine qAy ?_
 refine qAi (zia I hgs hms boot_range ?_ (by decide) (by decide))
 refine callWith_type1 ?_ hs rfl
 rw[hs]
 show wpAny _ _ (spliced ((false,eval e X.env)::[])) _ _ s
 refine qAy (thn (he pins s σ H _ I h) λu s1 z=>?_)
 obtain⟨x,H1,I1,r1,n,rfl,hn,q⟩:=z
 obtain⟨t,rfl⟩:=r1
 refine qA3 ?_
 refine call_range_1 ?_
 refine qA3 ?_
 have I2:Inv X pins σ H1 {s1 with heap:=s1.heap.push {cls:=.type "range",data:=.fields #[.int 0 s1.toks,.int (n:Int) t,.int 1 (s1.toks+1)]},toks:=s1.toks+1+1}:=I1.kept λb o e=>qE _ e
 refine call_list_range (n:=n) (I2.ok.hd hc) (IsRange.new ..) (small_one (by decide) (by decide) (by omega) (by omega)) (by rw[rangeSize_one];split<;>omega) (by omega) λh' tk acc' c' kp e it=>?_
 refine⟨.ref _,_,I2.laid (t':=tk) kp (qN _) (show zes X.prog X.w _ h' _ (.lst ((List.range n).map λ(k:Nat)=>.int (k:Int)))from⟨?_,acc'.toList,c',zahh it,?_⟩),rfl,q _ (I2.hok.fresh (qN _))⟩
 ·rw[qG,qAG,qCL];omega
 ·rw[e]
theorem zafx{X:Cx}{e:Expr}{te:TE}{p1 p2 pos1 pos2:Pos}(hc:X.calm=true)(hgl:Gl X "list")(hml:X.mg "list"=none)(hgs:Gl X "range")(hms:X.mg "range"=none)(he:Bx (PE X e te))
  (hs:starEach [e] X.env=(false,eval e X.env)::starEach [] X.env) :
  Bx (PE X (.Call (.Name "list" p1) [.Call (.Name "range" p2) [e] [] pos2] [] pos1) (zaut te)):=⟨zauv hc hgl hml hgs hms he.out hs⟩
noncomputable def zaps(f:EF):EF:=λenv=>(f env).bind λr=>match r.d with
 | .int j=>if 0<=j/\j<=100000 then some ⟨.list ((List.range j.toNat).map λ(k:Nat)=>.int (k:Int)),true,[]⟩else none
 | _=>none
theorem zsk{H:Hp}:∀(l:List Nat),Rps H (l.map λ(k:Nat)=>.int (k:Int)) (l.map λ(k:Nat)=>V.int (k:Int))
 | []=>zcv
 | a::l=>zdc zad (zsk l)
theorem zalq{te:TE}{f:EF}(h:SE te f):SE (zaut te) (zaps f):=by
 intro fx H0 env σ H hE rr hr Q q
 unfold zaps at hr
 obtain⟨⟨d,fr,bs⟩,er,hr⟩:=qA.mp hr
 cases d with
 | int j=>
  have hr:(if 0<=j/\j<=100000 then some (⟨.list ((List.range j.toNat).map λ(k:Nat)=>.int (k:Int)),true,[]⟩:Val)else none)=some rr:=hr
  split at hr
  ·rename_i hj
   cases hr
   refine h fx H0 env σ H hE _ er _ λv H1 s1 hv=>?_
   cases zdf hv.rp
   refine⟨j.toNat,by congr 1;omega,by omega,λl hl=>?_⟩
   have hA:=(hE.up s1).lims []
   exact q _ _ (s1.trans (Same.new hl)) ⟨zuo hl (zed hA hl) (zsk _),λ_=>⟨l,rfl,s1.free hl,znu hl (zsk (H:=Offs (lim fx env σ []) H1) _)⟩⟩
  ·cases hr
 | _=>cases hr
open Classical in
section
variable{fx:Addr->Prop}{as:List Addr}{H0:Hp}{env:DEnv}{σ:St}{H H':Hp}{st:SyT}
end
inductive NT where
 | lf (d:PyData)
 | ls (ts:List NT)
 | tp (ts:List NT)
mutual
def NewT(L:PyData->V->Prop)(H:Hp):NT->V->List Addr->Prop
 | .lf d,v,as=>as=[]/\L d v
 | .ls ts,v,as=>∃a vs as1,v=.ref a/\H a=some (.lst vs)/\as=a::as1/\NewTs L H ts vs as1
 | .tp ts,v,as=>∃a vs as1,v=.ref a/\H a=some (.tup vs)/\as=a::as1/\NewTs L H ts vs as1
def NewTs(L:PyData->V->Prop)(H:Hp):List NT->List V->List Addr->Prop
 | [],vs,as=>vs=[]/\as=[]
 | t::ts,vs,as=>∃v vs' a1 a2,vs=v::vs'/\as=a1++a2/\NewT L H t v a1/\NewTs L H ts vs' a2
end
mutual
theorem NewT.mono{L L':PyData->V->Prop}{H H':Hp}(hL:∀d v,L d v->L' d v):∀(t:NT){v:V}{as:List Addr},NewT L H t v as->(∀a∈as,∀o,H a=some o->H' a=some o)->NewT L' H' t v as
 | .lf d,v,as,h,_=>by
  unfold NewT at h ⊢
  exact⟨h.1,hL _ _ h.2⟩
 | .ls ts,v,as,h,k=>by
  unfold NewT at h ⊢
  obtain⟨a,vs,as1,h1,h2,h3,h4⟩:=h
  exact⟨a,vs,as1,h1,k a (by rw[h3];exact .head _) _ h2,h3,NewTs.mono hL ts h4 λb hb=>k b (by rw[h3];exact .tail _ hb)⟩
 | .tp ts,v,as,h,k=>by
  unfold NewT at h ⊢
  obtain⟨a,vs,as1,h1,h2,h3,h4⟩:=h
  exact⟨a,vs,as1,h1,k a (by rw[h3];exact .head _) _ h2,h3,NewTs.mono hL ts h4 λb hb=>k b (by rw[h3];exact .tail _ hb)⟩
theorem NewTs.mono{L L':PyData->V->Prop}{H H':Hp}(hL:∀d v,L d v->L' d v):∀(ts:List NT){vs:List V}{as:List Addr},NewTs L H ts vs as->(∀a∈as,∀o,H a=some o->H' a=some o)->NewTs L' H' ts vs as
 | [],vs,as,h,_=>by unfold NewTs at h ⊢;exact h
 | t::ts,vs,as,h,k=>by
  unfold NewTs at h ⊢
  obtain⟨v,vs',a1,a2,h1,h2,h3,h4⟩:=h
  exact⟨v,vs',a1,a2,h1,h2,NewT.mono hL t h3 λb hb=>k b (by rw[h2];exact qi _ hb),NewTs.mono hL ts h4 λb hb=>k b (by rw[h2];exact qI _ hb)⟩
end
mutual
theorem NewT.live{L:PyData->V->Prop}{H:Hp}:∀(t:NT){v:V}{as:List Addr},NewT L H t v as->∀a∈as,∃o,H a=some o
 | .lf d,v,as,h=>by
  unfold NewT at h
  intro a ha;rw[h.1]at ha;cases ha
 | .ls ts,v,as,h=>by
  unfold NewT at h
  obtain⟨a,vs,as1,h1,h2,h3,h4⟩:=h
  intro b hb
  rw[h3]at hb
  rcases qJ.mp hb with rfl|hb
  ·exact⟨_,h2⟩
  ·exact NewTs.live ts h4 b hb
 | .tp ts,v,as,h=>by
  unfold NewT at h
  obtain⟨a,vs,as1,h1,h2,h3,h4⟩:=h
  intro b hb
  rw[h3]at hb
  rcases qJ.mp hb with rfl|hb
  ·exact⟨_,h2⟩
  ·exact NewTs.live ts h4 b hb
theorem NewTs.live{L:PyData->V->Prop}{H:Hp}:∀(ts:List NT){vs:List V}{as:List Addr},NewTs L H ts vs as->∀a∈as,∃o,H a=some o
 | [],vs,as,h=>by
  unfold NewTs at h
  intro a ha;rw[h.2]at ha;cases ha
 | t::ts,vs,as,h=>by
  unfold NewTs at h
  obtain⟨v,vs',a1,a2,h1,h2,h3,h4⟩:=h
  intro b hb
  rw[h2]at hb
  rcases qj.mp hb with hb|hb
  ·exact NewT.live t h3 b hb
  ·exact NewTs.live ts h4 b hb
end
theorem zsl{L:PyData->V->Prop}{H:Hp}:NewTs L H [] [] []:=by unfold NewTs;exact⟨rfl,rfl⟩
theorem zoe{L:PyData->V->Prop}{H:Hp}{t:NT}{ts:List NT}{v:V}{vs:List V}{a1 a2:List Addr}(h:NewT L H t v a1)(k:NewTs L H ts vs a2):NewTs L H (t::ts) (v::vs) (a1++a2):=by
 unfold NewTs;exact⟨v,vs,a1,a2,rfl,rfl,h,k⟩
theorem zaan{L:PyData->V->Prop}{H:Hp}:∀{ts us:List NT}{vs ws:List V}{a1 a2:List Addr},NewTs L H ts vs a1->NewTs L H us ws a2->NewTs L H (ts++us) (vs++ws) (a1++a2)
 | [],us,vs,ws,a1,a2,h,k=>by
  unfold NewTs at h
  rw[h.1,h.2];exact k
 | t::ts,us,vs,ws,a1,a2,h,k=>by
  unfold NewTs at h
  obtain⟨v,vs',b1,b2,h1,h2,h3,h4⟩:=h
  rw[h1,h2,qBI]
  exact zoe h3 (zaan h4 k)
theorem zaao{L:PyData->V->Prop}{H:Hp}:∀{ts:List NT}{vs:List V}{a1:List Addr},NewTs L H ts vs a1->ts.length=vs.length
 | [],vs,a1,h=>by
  unfold NewTs at h
  rw[h.1];rfl
 | t::ts,vs,a1,h=>by
  unfold NewTs at h
  obtain⟨v,vs',b1,b2,h1,h2,h3,h4⟩:=h
  rw[h1];exact congrArg (·+1) (zaao h4)
section
variable{fx:Addr->Prop}{as:List Addr}{H0:Hp}{env:DEnv}{σ:St}{H H':Hp}{st:SyT}
theorem EnvOk.more(h:EnvOk fx H0 env σ H)(s:Same H H'){as1:List Addr}(hn:∀a∈as1,H a=none)(hl:∀a∈as1,∃o,H' a=some o):EnvOk (λb=>fx b\/b∈as1) H0 env σ H':=
 h.grow s (λb o e n z=>z.elim n λy=>by rw[hn b y]at e;cases e) λb z=>z.elim (λy=>let⟨o,e⟩:=h.fxs b y;⟨o,s b o e⟩) (hl b)
end
noncomputable abbrev NTF:=DEnv->Option NT
noncomputable def SEt(te:TE)(g:NTF):Prop:=∀(fx:Addr->Prop)(H0:Hp)(env:DEnv)(σ:St)(H:Hp),EnvOk fx H0 env σ H->∀t,g env=some t->∀Q:VK,
 (∀v H' as,Same H H'->NewT (Rp (Offs (λb=>(fx b\/b∈as)\/own env σ b) H')) H' t v as->as.Nodup->(∀a∈as,H a=none)->Q v H')->te σ H Q
theorem zafy{L:PyData->V->Prop}{G H:Hp}(hL:∀d v,Rp G d v->L d v):∀{ds:List PyData}{vs:List V},Rps G ds vs->NewTs L H (ds.map .lf) vs []
 | [],vs,h=>by unfold Rps at h;rw[h];exact zsl
 | d::ds,vs,h=>by
  unfold Rps at h
  obtain⟨v,vs',rfl,h1,h2⟩:=h
  exact zoe (a1:=[]) (a2:=[]) (by unfold NewT;exact⟨rfl,hL _ _ h1⟩) (zafy hL h2)
noncomputable def pFr(g:EF):NTF:=λenv=>(g env).bind λr=>if r.bs.isEmpty=true/\r.fr=true then(match r.d with
 | .list ds=>some (.ls (ds.map .lf))
 | _=>none)else none
theorem zayt{te:TE}{g:EF}(h:SE te g):SEt te (pFr g):=by
 intro fx H0 env σ H hE t e Q q
 unfold pFr at e
 obtain⟨r,er,e⟩:=qA.mp e
 split at e
 ·rename_i hb
  have hb1:r.bs=[]:=qB9.mp hb.1
  split at e
  ·rename_i ds ed
   cases e
   refine h fx H0 env σ H hE r er Q λv H' s hv=>?_
   obtain⟨a,h1,h2,h3⟩:=hv.fr hb.2
   rw[ed]at h3
   obtain⟨xs,k1,k2⟩:=h3
   refine q v H' [a] s ?_ (qAs.mpr ⟨(λz=>by cases z),qCo⟩) λb z=>by
    rcases qJ.mp z with rfl|z
    ·exact h2
    ·cases z
   unfold NewT
   refine⟨a,xs,[],h1,k1,rfl,zafy (λd w y=>Rp.same (Offs.sub λb z=>?_) d y) k2⟩
   rw[hb1]
   rcases z with(z|z)|z
   ·exact .inl (znt b (.inl z))
   ·exact .inr (by rcases qJ.mp z with z|z;exact z;cases z)
   ·exact .inl (znt b (.inr z))
  ·cases e
 ·cases e
theorem zayu{as bs:List Addr}{H:Hp}(h1:as.Nodup)(h2:bs.Nodup)(hl:∀a∈as,∃o,H a=some o)(hn:∀a∈bs,H a=none):(as++bs).Nodup:=
 qBa.mpr ⟨h1,h2,λa ha b hb e=>by obtain⟨o,eo⟩:=hl a ha;rw[e,hn b hb]at eo;cases eo⟩
noncomputable def zadg(g:GT)(t:TF)(e:NTF)(env:DEnv):List PyData->Option (List NT)
 | []=>some []
 | d::ds=>(g d env).bind λe1=>(t e1).bind λb=>if b=true then(e e1).bind λr=>(zadg g t e env ds).map λrs=>r::rs else zadg g t e env ds
noncomputable def zauw(own:List Str)(fr:List Nat)(fi:IF')(g:GT)(t:TF)(e:NTF):NTF:=λenv=>(fi env).bind λz=>if z.1.length<100000/\z.2.isEmpty=true/\(capA fr env).isEmpty=true then
 (zadg g t e (envB own fr env) z.1).map .ls else none
theorem zaux{p:Prop}{as bs:List Addr}{b:Addr}:(p\/b∈as)\/b∈bs↔p\/b∈as++bs:=by rw[qj,or_assoc]
theorem zapt{own:List Str}{fr:List Nat}{wi:TI}{g:TG}{tt:TT}{te:TE}{fi:IF'}{gf:GT}{t:TF}{e:NTF}(h1:SI wi fi)(h2:SG g gf)(hx:GX own.length gf)(h3:ST tt t)(h4:SEt te e) :
  SEt (tComp1 wi g tt te own fr) (zauw own fr fi gf t e):=by
 intro fx H0 env σ H h rr hr Q q
 unfold zauw at hr
 obtain⟨⟨ds,bs⟩,ei,hr⟩:=qA.mp hr
 split at hr
 ·rename_i hc
  obtain⟨hlen,hb1,hb2⟩:=hc
  have hlen:ds.length<100000:=hlen
  have hb1:bs=[]:=qB9.mp hb1
  have hb2:=qB9.mp hb2
  subst hb1
  obtain⟨rs,ers,rfl⟩:=qF.mp hr
  refine h1 fx H0 env σ H h ds [] ei _ λJ H1 s yl=>λp hp=>?_
  have hB:=zmp h s hp own fr []
  rw[hb2]at hB
  generalize hA:(λb=>lim fx env σ ([]++[]) b)=A
  have hA':∀b,fx b\/L2.own env σ b↔A b:=λb=>by rw[<- hA];exact⟨znt b,zns b⟩
  have eA:(λb=>lim fx env σ ([]++[]) b\/b=p)=λb=>(A b\/b=p)\/b∈([]:List Addr):=by
   funext b;rw[<- hA];exact propext ⟨.inl,λz=>z.elim id λy=>by cases y⟩
  rw[eA]at hB
  have seen:∀{σ':St}{H':Hp}{as:List Addr},EnvOk (λb=>(A b\/b=p)\/b∈as) H1 (envB own fr env) σ' H'->(∀a∈as,H1 a=none/\a≠p)->Same (Offs (λb=>fx b\/L2.own (frzs env []) σ b) H1) (Offs (λb=>(A b\/b=p)\/b∈as) H'):=λ{σ' H' as} hE ha=>Offs.mono hE.base λb o eo n z=>by
   rcases z with(z|z)|z
   ·exact n ((hA' b).mpr z)
   ·rw[z,hp]at eo;cases eo
   ·rw[(ha b z).1]at eo;cases eo
  refine⟨λi m σ' H'=>m=ds.length - i/\i<=ds.length/\∃vs done rest as,H' p=some (.lst vs)/\NewTs (Rp (Offs (λb=>(A b\/b=p)\/b∈as) H')) H' done vs as/\as.Nodup/\(∀a∈as,H1 a=none/\a≠p)/\done.length<=i/\zadg gf t e (envB own fr env) (ds.drop i)=some rest/\done++rest=rs/\EnvOk (λb=>(A b\/b=p)\/b∈as) H1 (envB own fr env) σ' H',
   ⟨ds.length,rfl,qAQ _,[],[],rs,[],zar,zsl,.nil,λa z=>by(cases z),qAQ _,ers,rfl,hB⟩,?_⟩
  rintro i m σ' H' ⟨rfl,hi,vs,done,rest,as,ep,rd,nd,ha,dl,ec,edr,hE⟩
  obtain⟨yi,ys⟩:=yl _ H' hE.fxs (seen hE ha)
  by_cases hlt:i<ds.length
  ·obtain⟨yg,yy⟩:=yi i ds[i] (qH hlt)
   refine .inr ⟨yg,λσ'' H''=>i+1<=ds.length/\∃vs done rest as,H'' p=some (.lst vs)/\NewTs (Rp (Offs (λb=>(A b\/b=p)\/b∈as) H'')) H'' done vs as/\as.Nodup/\(∀a∈as,H1 a=none/\a≠p)/\done.length<=i+1/\zadg gf t e (envB own fr env) (ds.drop (i+1))=some rest/\done++rest=rs/\EnvOk (λb=>(A b\/b=p)\/b∈as) H1 (envB own fr env) σ'' H'',?_,?_⟩
   ·rintro σ'' H'' ⟨hle,hh⟩
    exact⟨ds.length - (i+1),by omega,rfl,hle,hh⟩
   ·intro x H'' hy
    obtain⟨sy,ry⟩:=yy x H'' hy
    rw[qAJ hlt]at ec
    obtain⟨e1,ee1,ec⟩:=qA.mp ec
    obtain⟨b,eb,ec⟩:=qA.mp ec
    have ry':Rp (Offs (λa=>((A a\/a=p)\/a∈as)\/L2.own (envB own fr env) σ' a) H'') ds[i] x:=Rp.same (Offs.sub λb z=>z.elim (λy=>y) λ⟨j,d',z,_⟩=>absurd z zfv) _ ry
    refine h2 _ H1 (envB own fr env) σ' H'' _ x (hE.up sy) ry' e1 ee1 _ λσ2 hE2=>?_
    refine h3 _ H1 e1 σ2 H'' hE2 b eb _ λH3 s3=>?_
    have hE3:=hE2.up s3
    obtain⟨gl,gk⟩:=hx _ _ _ ee1
    have back:∀{fx':Addr->Prop}{H4:Hp},EnvOk fx' H1 e1 σ2 H4->EnvOk fx' H1 (envB own fr env) σ2 H4:=λ{fx' H4} hh=>hh.weaken gl.symm (λj d' ej=>by
     by_cases hj:own.length<=j
     ·rw[gk j hj];exact ej
     ·obtain⟨_,k,rfl,_⟩:=zmo ej;omega) λj d'=>zfv
    cases b with
    | false=>
     have ec:zadg gf t e (envB own fr env) (ds.drop (i+1))=some rest:=ec
     exact iteF ⟨hlt,vs,done,rest,as,s3 _ _ (sy _ _ ep),NewTs.mono (λd w y=>Rp.same (Offs.grow (sy.trans s3)) d y) done rd λa _ o z=>s3 a o (sy a o z),nd,ha,qBJ dl,ec,edr,back hE3⟩
    | true=>
     have ec:((e e1).bind λr=>(zadg gf t e (envB own fr env) (ds.drop (i+1))).map λrs=>r::rs)=some rest:=ec
     obtain⟨r,er,ec⟩:=qA.mp ec
     obtain⟨rest',er',rfl⟩:=qF.mp ec
     refine iteT (h4 _ H1 e1 σ2 H3 hE3 r er _ λv H4 as1 s4 n1 d1 f1=>?_)
     have t3:=sy.trans s3
     have t4:=t3.trans s4
     have l1:=NewT.live r n1
     have l0:=NewTs.live done rd
     have p3:H3 p=some (.lst vs):=t3 _ _ ep
     have np:∀a∈as1,a≠p:=λa z y=>by rw[y]at z;rw[f1 p z]at p3;cases p3
     have eF:(λb=>((A b\/b=p)\/b∈as)\/b∈as1)=λb=>(A b\/b=p)\/b∈as++as1:=funext λb=>propext zaux
     have hE4:=back (hE3.more s4 f1 l1)
     rw[eF]at hE4
     refine⟨vs,t4 _ _ ep,zlt (by rw[<- zaao rd];omega),hlt,vs++[v],done++[r],rest',as++as1,zar,?_,zayu nd d1 (λa z=>let⟨o,eo⟩:=l0 a z;⟨o,t3 a o eo⟩) f1,λa z=>?_,by rw[qK];simp;omega,er',by rw[<- edr];simp,hE4.updFx (.inl (.inr rfl)) hp⟩
     ·rw[Offs.upd (.inl (.inr rfl))]
      refine zaan (NewTs.mono (λd w y=>Rp.same (Offs.mono t4 λb o eo n z=>?_) d y) done rd λa z o eo=>?_) (by
       rw[show as1=as1++[] by simp]
       refine zoe (NewT.mono (λd w y=>Rp.same (Offs.sub λb z=>?_) d y) r n1 λa z o eo=>?_) zsl
       ·rw[qAD]at z;exact .inl (zaux.mpr z)
       ·rw[zat (np a z)];exact eo)
      ·rcases zaux.mpr z with z|z
       ·exact n z
       ·have y:=f1 b z;rw[t3 b o eo]at y;cases y
      ·rw[zat (ha a z).2];exact t4 a o eo
     ·rcases qj.mp z with z|z
      ·exact ha a z
      ·exact⟨hE3.base.free (f1 a z),np a z⟩
  ·have hi':i=ds.length:=by omega
   subst hi'
   rw[qBA]at ec
   cases ec
   rw[qAD]at edr
   subst edr
   refine .inl ⟨ys,q _ H' (p::as) (s.trans hE.base) ?_ (qAs.mpr ⟨λz=>(ha p z).2 rfl,nd⟩) λa z=>?_⟩
   ·unfold NewT
    refine⟨p,vs,as,rfl,ep,rfl,NewTs.mono (λd w y=>Rp.same (Offs.sub λb z=>?_) d y) done rd λ_ _ _ z=>z⟩
    rcases z with(z|z)|z
    ·exact .inl (.inl ((hA' b).mp (.inl z)))
    ·exact(qJ.mp z).elim (λy=>.inl (.inr y)) .inr
    ·exact .inl (.inl ((hA' b).mp (.inr z)))
   ·rcases qJ.mp z with rfl|z
    ·exact s.free hp
    ·exact s.free (ha a z).1
 ·cases hr
noncomputable abbrev GFT:=List PyData->Option NT
noncomputable def spT(n:Nat)(g:GFT):Sp:=λvs H Q _=>∃(fx:Addr->Prop)(ds:List PyData)(t:NT),ds.length=n/\(∀b,fx b->∃o,H b=some o)/\Rps (Offs fx H) ds vs/\g ds=some t/\
 ∀v H' as,Same H H'->NewT (Rp (Offs (λb=>fx b\/b∈as) H')) H' t v as->as.Nodup->(∀a∈as,H a=none)->Q v H'
theorem zauy{n:Nat}{g:GFT}{vs:List V}{H:Hp}{Q:VK}{E:XK}(h:spT n g vs H Q E):vs.length=n:=by
 obtain⟨fx,ds,r,hn,hf,rr,_⟩:=h
 rw[<- rr.length];exact hn
noncomputable def fnT(n:Nat)(g:NTF):GFT:=λds=>g (zhr n ds)
noncomputable def SSq(ts:XK->TS)(F:NTF):Prop:=∀(fx:Addr->Prop)(H0:Hp)(env:DEnv)(σ:St)(H:Hp)(D:Ends)(E:XK),EnvOk fx H0 env σ H->∀t,F env=some t->
 (∀v H' as,Same H0 H'->NewT (Rp (Offs (λb=>fx b\/b∈as) H')) H' t v as->as.Nodup->(∀a∈as,H0 a=none)->D.rt v H')->ts E D σ H
theorem zauz{te:TE}{g:NTF}(h:SEt te g):SSq (λ_=>tRet te) g:=by
 intro fx H0 env σ H D E hE t e q
 exact h fx H0 env σ H hE t e _ λv H' as s n d f=>q v H' as (hE.base.trans s) (NewT.mono (λd w y=>Rp.same (Offs.sub λb z=>.inl z) d y) t n λ_ _ _ z=>z) d λa ha=>hE.base.free (f a ha)
theorem zbay{N:List Str}{n:Nat}{f:NTF}{t:XK->TS}(hs:SSq t f){vs:List V}{H:Hp}{Q:VK}{E E':XK}(h:spT n (fnT N.length f) vs H Q E):t E' {nx:=λ_ H'=>Q .non H',rt:=Q} (zfo N vs) H:=by
 obtain⟨fx,ds,r,hn,hf,rr,g,k⟩:=h
 exact hs fx H _ _ H _ _ (zhe hf rr) r g k
noncomputable def zalr(n:Nat)(g:GFT)(f:AF):NTF:=λenv=>(f env).bind λrs=>if rs.length=n/\(bss rs).isEmpty=true then g (zfp rs)else none
theorem zapu{n:Nat}{g:GFT}{ta:TA}{f:AF}{E:XK}(ha:SA ta f):SEt (tCall (spT n g) [] E ta) (zalr n g f):=by
 intro fx H0 env σ H hE t e Q q
 unfold zalr at e
 obtain⟨rs,er,e⟩:=qA.mp e
 split at e
 ·rename_i hn
  have hb:=qB9.mp hn.2
  refine ha fx H0 env σ H hE rs er _ λvs H1 s1 v1=>?_
  rw[qAD]
  refine⟨lim fx env σ (bss rs),zfp rs,t,by rw[zgi];exact hn.1,(hE.up s1).lims _,zeq (λi hi=>hi) v1,e,λv H' as s n d f=>q v H' as (s1.trans s) (NewT.mono (λd w y=>Rp.same (Offs.sub λb z=>?_) d y) t n λ_ _ _ z=>z) d λa ha=>s1.free (f a ha)⟩
  rw[hb]
  rcases z with(z|z)|z
  ·exact .inl (znt b (.inl z))
  ·exact .inr z
  ·exact .inl (znt b (.inr z))
 ·cases e
structure LamScope1(pr:Str)(N:List Str)(sc:Scope):Prop where
 kind:sc.kind=.function
 co:sc.isCoroutine=false
 gen:sc.isGenerator=false
 nocell:∀x∈sc.names,x.2≠.cell
 free:∀x∈N,sc.names.lookup x=some .free
 par:sc.names.lookup pr=some .local
section
variable{CX:CXT}{P:Program}{w:World}{K:qC}{mg:Str->Option Value}{base:Heap}{N:List Str}{name qual pr:Str}{params:Arguments}{body:Expr}{scope:Scope}{f c':Addr}{cl:List (Str×Addr)}{A:Around}{outer:List Env}{s:Shared}{H:Hp}{E:XK}{Q:VK}{vs:List V}{pm ctv:Value}{k:Nat}
theorem zapv{v0:V}{u0:Value}(S:LamScope1 pr N scope)(hr:Room (k+1) A)(e0:Env0 P w K mg base A outer s H){o:Obj}(ho:s.heap.get? f=some o)(hod:o.data=.func (PySem.W.kla_fn name qual params body scope cl pm (.ref c') ctv))(hcd:s.heap.CodeRec (.ref c') qual)
  (hbind:bindArgs (PySem.W.kla_fn name qual params body scope cl pm (.ref c') ctv) ⟨[u0],[]⟩=pure [(pr,u0)])(r0:RelV v0 u0)(Ce:Cells cl N vs s.heap H scope)
  (hbody:Room k (A.deeper (PySem.W.envX qual scope s.heap.objs.size f (.ref c') cl))->∃t,PE (zakh CX P w K mg base (pr::N) qual scope f (.ref c') cl A outer s H E) body t/\t (some v0::vs.map some) H Q) :
  codeAny (model P w) A (.call (.ref f) ⟨[u0],[]⟩) (CR CX outer P w H s Q E) s:=by
 refine PySem.W.kla_callFunE hr.depth ho hod S.co S.gen rfl hcd ?_
 rw[hbind]
 refine qO (wpAny_newFunctionEnv S.nocell (λx hx=>?_) (λh₁ hns hsb=>⟨((e0.mod.nolimit.keeps λb o e=>(e0.bs b o e).1)).fresh _ hsb,?_⟩) S.kind)
 ·cases ql.mp hx;exact S.par
 show codeAny _ _ (.expr body (PySem.W.envX qual scope s.heap.objs.size f (.ref c') cl)) _ _
 have hk:∀b o,s.heap.get? b=some o->h₁.get? b=some o:=λb o e=>hsb.extBut b o (qw (qP e)) (qE _ e)
 obtain⟨t,ht,hq⟩:=hbody (hr.deeper _)
 have noA:∀b:Addr,b∉(zakh CX P w K mg base (pr::N) qual scope f (.ref c') cl A outer s H E).ex:=λb z=>absurd (show b∈([]:List Addr)from z) (by simp)
 have cellK:∀c v,s.heap.IsCell c v->h₁.IsCell c v:=λc v ⟨o,e,d⟩=>⟨o,hk _ _ e,d⟩
 have I:Inv (zakh CX P w K mg base (pr::N) qual scope f (.ref c') cl A outer s H E) [] (some v0::vs.map some) H {s with heap:=h₁,toks:=s.toks+[(pr,u0)].length}:=by
  refine⟨⟨e0.mod,S.kind,rfl,rfl,qN _,Ce.inj,λy hy=>?_,λy c z _=>?_,λ_=>hr.hd,qC6 e0.frames,.inr ⟨rfl,rfl⟩,λb z=>absurd z (noA b),e0.bs,e0.bsz,λb _ _=>noA b,λb z=>absurd z (noA b),e0.funs,e0.frf⟩,
   rfl,e0.bare,Un.kept hk,⟨_,hns,λi y v h1 h2 h3=>?_⟩,λy c z=>?_,e0.hok.fresh (qN _),λy c z=>(Ce.cell y c z).2,λp hp=>absurd (show p∈([]:List (Addr×Obj))from hp) (by simp),e0.hok.kept hk,?_⟩
  ·have hy:scope.names.lookup y=some .cell\/scope.names.lookup y=some .free:=hy
   rcases hy with hy|hy
   ·exact absurd rfl (S.nocell _ (qx hy))
   ·exact Ce.has y hy
  ·cases z
  ·cases i with
   | zero=>
    have h1:some pr=some y:=h1
    have h2:some (some v0)=some (some v):=h2
    cases h1
    cases h2
    exact⟨u0,r0,.inl ⟨S.par,by show[(pr,u0)].lookup pr=some u0;simp[List.lookup]⟩⟩
   | succ i=>
    have h1:N[i]?=some y:=h1
    have h2:(vs.map some)[i]?=some (some v):=h2
    rw[qh]at h2
    cases ev:vs[i]? with
    | none=>rw[ev]at h2;cases h2
    | some v1=>
     rw[ev]at h2
     cases h2
     obtain⟨c,u,a1,a2,a3⟩:=Ce.val i y v h1 ev
     exact⟨u,a3,.inr ⟨.inr (S.free y (qAe h1)),c,a1,cellK _ _ a2⟩⟩
  ·obtain⟨v,z⟩:=(Ce.cell y c z).1
   exact⟨v,cellK _ _ z⟩
  ·show(vs.map some).length+1=N.length+1
   rw[qG,Ce.len]
 refine PySem.W.kla_codeExpr (qBN (ht [] _ (some v0::vs.map some) H Q I hq) (λu s' h=>?_) λe s' h=>h)
 obtain⟨v,H',J,rv,q⟩:=h
 exact⟨v,H',J.os,J.bare,J.base,J.hok,rv,q⟩
end
noncomputable def zava(P:Addr)(q:Str)(js:List Nat)(te:TE)(tb:Hp->TE):TE:=λσ H Q=>te σ H λx H1=>∃(a:Addr)(xs:List V)(vs:List V)(kf:Nat->Int),x=.ref a/\H1 a=some (.lst xs)/\0<xs.length/\TbH P q H1/\(js.map λj=>σ[j]?)=vs.map (λv=>some (some v))/\
 (∀(i:Nat) (v:V) (H2:Hp),xs[i]?=some v->Same H1 H2->tb H2 (some v::vs.map some) H2 λw H3=>w=.int (kf i)/\Same H1 H3)/\
 ∀(i:Nat)(v:V)(H2:Hp),xs[i]?=some v->zaph xs kf i xs.length->Same H1 H2->Q v H2
section
variable{X:Cx}{k j:Nat}{c P:Addr}{pr:Str}{p lp pos kp:Pos}{e:Expr}{te:TE}{params:Arguments}{body:Expr}{scope:Scope}{NB:List Str}{js:List Nat}{tb:Hp->TE}
theorem zayv:bootBuiltins "min"=some (.builtin "min"):=by decide +kernel
theorem zals(hc:X.calm=true)(hex:X.ex=[])(hr:Room (j+2) X.A)(hg:Gl X "min")(hm:X.mg "min"=none)(he:PE X e te)
  (hcode:X.env.code=.ref c)(C:PySem.W.CodeHd X.base c P)(hbm:BM X.mg X.base)(S:LamScope1 pr NB scope)(hdef:defaultsOf params X.env=([],[]))
  (hbind:∀(cl:List (Str×Addr)) (pm cd ctv u:Value),bindArgs (PySem.W.kla_fn "<lambda>" (lamQ X) params body scope cl pm cd ctv) ⟨[u],[]⟩=pure [(pr,u)])
  (hfr:frB scope X.env.scope=true)(hjs:js.map (λi=>X.N[i]?)=NB.map some)
  (hB:∀(A:Around)(outer:List Env)(s:Shared)(H:Hp)(g c':Addr)(cl:List (Str×Addr)),Room j (A.deeper (PySem.W.envX (lamQ X) scope s.heap.objs.size g (.ref c') cl))->PE (zakh CX0 X.prog X.w X.K X.mg X.base (pr::NB) (lamQ X) scope g (.ref c') cl A outer s H E0) body (tb H))
  (hs:starEach [e] X.env=(false,eval e X.env)::starEach [] X.env:=by rfl) :
  PE X (.Call (.Name "min" p) [e] [⟨some "key",.Lambda params body scope lp,kp⟩] pos) (zava P (lamQ X) js te tb):=by
 have hfree:∀q∈scope.names,q.2=.free->X.env.kindOf q.1=some .cell:=frB.of hfr
 intro pins s σ H Q I h
 refine qAi (zia I hg hm zayv ?_ (by decide) (by decide))
 refine callWith_kw ?_ (by rw[hs];rfl) (by rw[hs];rfl)
 rw[hs]
 show wpAny _ _ (spliced ((false,eval e X.env)::backTo pos (starEach [] X.env))) _ _ s
 refine qAy (thn (he pins s σ H _ I h) λu s1 ⟨x,H1,I1,rx,a,xs,vs,kf,ex,ha,hne,hP,hvs,hkey,q⟩=>?_)
 subst ex
 cases rx
 refine qA3 ?_
 refine kws_cons (zaoo I1 hcode C hP hbm (zahe λp hp hf=>I1.ok.has p.1 (.inl (hfree p hp hf))) hdef λs2 H2 f c' ctv pm I2 hH2 nf hob hrec hf0=>?_)
 refine kws_nil ?_
 have sm:Same H1 H2:=by
  rcases hH2 with rfl|⟨n,oc,rfl⟩
  ·exact Same.refl _
  ·exact Same.new n
 have ns:∀b o,s1.heap.get? b=some o->b≠f:=λb o e z=>by rw[z,hf0]at e;cases e
 generalize hobj:PySem.W.kla_obj "<lambda>" (lamQ X) params body scope (clF scope X.env) pm c' ctv=obj at hob
 have hod:obj.data=.func (PySem.W.kla_fn "<lambda>" (lamQ X) params body scope (clF scope X.env) pm (.ref c') ctv):=by rw[<- hobj]
 have I3:Inv X ((f,obj)::pins) σ H2 s2:=I2.pins_of λp hp=>by
  rcases qJ.mp hp with rfl|hp
  ·refine⟨hob,nf,λz=>?_,λz=>?_,λv=>by rw[hod];exact nofun⟩
   ·obtain⟨m,⟨o,es,ep,e,_⟩,_⟩:=I1.loc
    exact ns _ _ e z.symm
   ·obtain⟨_,o,ho,_⟩:=I1.ok.funs.mem z
    obtain⟨o',e'⟩:=I1.base.there f o ho (by rw[hex];simp)
    exact ns _ _ e' rfl
  ·exact I2.pin p (qI _ hp)
 have lenV:vs.length=NB.length:=by
  have h1:=congrArg List.length hvs
  have h2:=congrArg List.length hjs
  simp only[qG]at h1 h2
  omega
 have turn:Keys X ((f,obj)::pins) σ H2 f xs kf:=by
  intro i v u hv ru p1 p2 H' s' I' sm'
  have hob':s'.heap.get? f=some obj:=(I'.pin (f,obj) (qI _ (by simp))).1
  have hrec':s'.heap.CodeRec (.ref c') (lamQ X):=by
   obtain⟨oc,vs2,t,z1,z2,z3⟩:=hrec
   exact zaon.rec ⟨oc,vs2,t,sm' _ _ z1,z2,z3⟩ I'.hok
  have Ce:Cells (clF scope X.env) NB vs s'.heap H' scope:=by
   refine⟨λx y c z1 z2=>I'.ok.inj x y c (zic z1) (zic z2),λx z=>?_,λx c z=>⟨I'.cell x c (zic z),I'.freeC x c (zic z)⟩,λi x v e1 e2=>?_,lenV⟩
   ·have m:=qx z
    obtain⟨c,e⟩:=I'.ok.has x (.inl (hfree _ m rfl))
    exact⟨c,zakj m e⟩
   ·have h1:=congrArg (λl=>l[i]?) hjs
    have h2:=congrArg (λl=>l[i]?) hvs
    simp only[qh]at h1 h2
    rw[e1]at h1
    rw[e2]at h2
    cases ej:js[i]? with
    | none=>rw[ej]at h1;cases h1
    | some jj=>
     rw[ej]at h1 h2
     have g1:X.N[jj]?=some x:=qY h1
     have g2:σ[jj]?=some (some v):=qY h2
     have kf:scope.names.lookup x=some .free:=S.free x (qAe e1)
     have kc:X.env.kindOf x=some .cell:=hfree _ (qx kf) rfl
     obtain⟨m,hn,hl⟩:=I'.loc
     obtain⟨u,rv,lk⟩:=hl jj x v g1 g2 (.inr (.inl kc))
     rcases lk with⟨z,_⟩|⟨_,c,ec,ic⟩
     ·rw[kc]at z;cases z
     ·exact⟨c,u,zakj (qx kf) ec,ic,rv⟩
  have run:=zapv (CX:=CX0) (E:=E0) (Q:=λw H3=>w=.int (kf i)/\Same H1 H3) S (hr.in1) I'.env0.in1 hob' hod hrec' (hbind _ _ _ _ u) ru Ce λrm=>⟨_,hB X.A.in1 X.stack s' H' f c' _ rm,hkey i v H' hv (sm.trans sm')⟩
  refine wpAny_call (qBX run λres s'' hq=>?_)
  cases res with
  | error e=>exact hq.elim
  | ok fl=>
   cases fl with
   | ret u'=>
    obtain⟨v',H'',os,bare,un,ok,rv',rfl,sm''⟩:=hq
    obtain⟨t,rfl⟩:=(show ∃t,u'=Value.int (kf i) t from rv')
    have ab:=I'.after (Q:=λw H3=>w=.int (kf i)/\Same H1 H3/\H3=H'') (u:=.int (kf i) t) (s':=s'') ⟨.int (kf i),H'',os,bare,un,ok,⟨t,rfl⟩,rfl,sm'',rfl⟩
    obtain⟨_,H4,J,_,_,_,rfl⟩:=ab
    refine⟨t,H4,rfl,J,λb o e=>?_⟩
    rcases hH2 with rfl|⟨n,oc,rfl⟩
    ·exact sm'' _ _ e
    ·by_cases hb:b=c'
     ·subst hb
      rw[zar]at e
      cases e
      exact un.frzs _ _ _ (sm' _ _ zar)
     ·rw[zat hb]at e
      exact sm'' _ _ e
   | next=>exact False.elim hq
   | brk=>exact False.elim hq
   | cont=>exact False.elim hq
 show wpAny _ _ (call (.builtin "min") [.ref a] [("key",.ref f)]) _ _ _
 refine zade (q:=f) kf (I3.ok.hd hc) I3 (sm _ _ ha) hne turn λi v u H' s' hv ru hL I' sm'=>?_
 exact⟨v,H',I'.unpin,ru,q i v H' hv hL (sm.trans sm')⟩
end
noncomputable def zafz:List NT->Option (List Int)
 | []=>some []
 | .lf (.int n)::us=>(zafz us).map λr=>n::r
 | _::_=>none
noncomputable def zalt:List NT->Option (List (List Int))
 | []=>some []
 | .ls us::ts=>(zafz us).bind λr=>(zalt ts).map λrs=>r::rs
 | _::_=>none
noncomputable def zayw:NT->Option (List (List Int))
 | .ls ts=>zalt ts
 | _=>none
theorem zaap{G H:Hp}:∀{us:List NT}{vs:List V}{as:List Addr}{r:List Int},zafz us=some r->NewTs (Rp G) H us vs as->vs=r.map .int
 | [],vs,as,r,e,h=>by
  unfold NewTs at h
  cases e
  exact h.1
 | u::us,vs,as,r,e,h=>by
  unfold NewTs at h
  obtain⟨v,vs',a1,a2,rfl,rfl,h3,h4⟩:=h
  cases u with
  | lf d=>
   cases d with
   | int n=>
    unfold zafz at e
    obtain⟨r',e',rfl⟩:=qF.mp e
    unfold NewT at h3
    rw[zdf h3.2,zaap e' h4];rfl
   | _=>cases e
  | _=>cases e
theorem zaga{G H:Hp}:∀{ts:List NT}{vs:List V}{as:List Addr}{rows:List (List Int)},zalt ts=some rows->NewTs (Rp G) H ts vs as->Paired (λ(row:List Int)(w:V)=>∃b,w=.ref b/\b∈as/\H b=some (.lst (row.map .int))) rows vs
 | [],vs,as,rows,e,h=>by
  unfold NewTs at h
  cases e
  rw[h.1];exact .nil
 | t::ts,vs,as,rows,e,h=>by
  unfold NewTs at h
  obtain⟨v,vs',a1,a2,rfl,rfl,h3,h4⟩:=h
  cases t with
  | ls us=>
   unfold zalt at e
   obtain⟨r,er,e⟩:=qA.mp e
   obtain⟨rs,ers,rfl⟩:=qF.mp e
   unfold NewT at h3
   obtain⟨a,ws,as1,rfl,g2,rfl,g4⟩:=h3
   refine .cons ⟨a,rfl,by simp,by rw[g2,zaap er g4]⟩ ?_
   exact Paired.mapP (zaga ers h4) λ_ _ ⟨b,z1,z2,z3⟩=>⟨b,z1,qI _ z2,z3⟩
  | _=>cases e
noncomputable def zsm(body:EF)(env0:DEnv):List (List Int)->Option (List Int)
 | []=>some []
 | r::rs=>(body (.pl (.list (r.map .int))::env0)).bind λv=>match v.d with
  | .int n=>(zsm body env0 rs).map λks=>n::ks
  | _=>none
theorem zaaq{body:EF}{env0:DEnv}:∀{rows:List (List Int)}{ks:List Int},zsm body env0 rows=some ks->∀(i:Nat)(row:List Int),rows[i]?=some row->∃v n,body (.pl (.list (row.map .int))::env0)=some v/\v.d=.int n/\ks[i]?=some n
 | [],ks,e,i,row,h=>by simp at h
 | r::rs,ks,e,i,row,h=>by
  unfold zsm at e
  obtain⟨⟨d,fr,bs⟩,ev,e⟩:=qA.mp e
  cases d with
  | int n=>
   obtain⟨ks',e',rfl⟩:=qF.mp (show(zsm body env0 rs).map (λks=>n::ks)=some ks from e)
   cases i with
   | zero=>cases h;exact⟨_,n,ev,rfl,rfl⟩
   | succ i=>exact zaaq e' i row h
  | _=>cases e
theorem zaar{body:EF}{env0:DEnv}:∀{rows:List (List Int)}{ks:List Int},zsm body env0 rows=some ks->ks.length=rows.length
 | [],ks,e=>by cases e;rfl
 | r::rs,ks,e=>by
  unfold zsm at e
  obtain⟨⟨d,fr,bs⟩,ev,e⟩:=qA.mp e
  cases d with
  | int n=>
   obtain⟨ks',e',rfl⟩:=qF.mp (show(zsm body env0 rs).map (λks=>n::ks)=some ks from e)
   rw[qy,qy,zaar e']
  | _=>cases e
noncomputable def zji{α:Type}(b x:α×Int):α×Int:=if x.2<b.2 then x else b
noncomputable def zuw{α:Type}(rows:List α)(ks:List Int):Option α:=match rows.zip ks with
 | []=>none
 | p::ps=>some (ps.foldl zji p).1
theorem zof{α:Type}:∀(ps l:List (α×Int))(b:α×Int)(i:Nat),l[i]?=some b->(∀(j:Nat)(x:α×Int),l[j]?=some x->b.2<=x.2/\(j<i->b.2<x.2))->∃(i':Nat)(b':α×Int),ps.foldl zji b=b'/\(l++ps)[i']?=some b'/\∀(j:Nat)(x:α×Int),(l++ps)[j]?=some x->b'.2<=x.2/\(j<i'->b'.2<x.2)
 | [],l,b,i,hi,h=>⟨i,b,rfl,by simpa using hi,by simpa using h⟩
 | p::ps,l,b,i,hi,h=>by
  have hil:i<l.length:=(qM.mp hi).1
  have e:l++p::ps=(l++[p])++ps:=by simp
  rw[e,qA4]
  have sp:∀(j:Nat)(x:α×Int),(l++[p])[j]?=some x->l[j]?=some x\/(j=l.length/\x=p):=λj x e=>by
   by_cases hj:j<l.length
   ·rw[qk hj]at e;exact .inl e
   ·rw[qp (by omega)]at e
    obtain⟨h1,h2⟩:=qM.mp e
    have h1:j - l.length<1:=h1
    have:j=l.length:=by omega
    subst this
    simp at h2
    exact .inr ⟨rfl,h2.symm⟩
  unfold zji
  by_cases hp:p.2<b.2
  ·rw[if_pos hp]
   refine zof ps (l++[p]) p l.length (by simp) λj x e=>?_
   rcases sp j x e with e|⟨rfl,rfl⟩
   ·have:=h j x e
    exact⟨by omega,λ_=>by omega⟩
   ·exact⟨Int.le_refl _,λz=>absurd z (qAl _)⟩
  ·rw[if_neg hp]
   refine zof ps (l++[p]) b i (by rw[qk hil];exact hi) λj x e=>?_
   rcases sp j x e with e|⟨rfl,rfl⟩
   ·exact h j x e
   ·exact⟨by omega,λz=>absurd z (by omega)⟩
theorem zapw{α:Type}{rows:List α}{ks:List Int}{r:α}(h:zuw rows ks=some r)(hl:ks.length=rows.length){i:Nat}{row:α}(hi:rows[i]?=some row)(hL:∀j,j<rows.length->ks.getD i 0<=ks.getD j 0/\(j<i->ks.getD i 0<ks.getD j 0)):row=r:=by
 unfold zuw at h
 cases ez:rows.zip ks with
 | nil=>rw[ez]at h;cases h
 | cons p ps=>
  rw[ez]at h
  have h:some (ps.foldl zji p).1=some r:=h
  cases h
  obtain⟨i',b',e1,e2,e3⟩:=zof ps [p] p 0 rfl λj x e=>by
   cases j with
   | zero=>cases e;exact⟨Int.le_refl _,λz=>absurd z (qAl _)⟩
   | succ j=>simp at e
  rw[e1]
  have e2:(rows.zip ks)[i']?=some b':=by rw[ez];exact e2
  have e3:∀(j:Nat)(x:α×Int),(rows.zip ks)[j]?=some x->b'.2<=x.2/\(j<i'->b'.2<x.2):=by rw[ez];exact e3
  have zp:∀(j:Nat)(x:α),rows[j]?=some x->(rows.zip ks)[j]?=some (x,ks.getD j 0):=λj x e=>by
   obtain⟨hj,e⟩:=qM.mp e
   rw[qH (by rw[qBD];omega),List.getElem_zip,e]
   simp[List.getD,qH (show j<ks.length by omega)]
  have hil:=(qM.mp hi).1
  have hi'l:i'<rows.length:=by
   have:=(qM.mp e2).1
   rw[qBD]at this;omega
  have e4:=zp i' _ (qH hi'l)
  rw[e2]at e4
  cases e4
  have a:=e3 i _ (zp i row hi)
  have b:=hL i' hi'l
  have:i=i':=by
   dsimp only at a
   rcases Nat.lt_trichotomy i i' with z|z|z
   ·have:=a.2 z;omega
   ·exact z
   ·have:=b.2 z;omega
  subst this
  rw[qH hil]at hi
  exact(qY hi).symm
noncomputable def zapx(js:List Nat)(g:NTF)(body:EF):EF:=λenv=>(zapf js env).bind λcs=>(g env).bind λt=>(zayw t).bind λrows=>(zsm body ((zfp cs).map .pl) rows).bind λks=>(zuw rows ks).map λr=>⟨.list (r.map .int),true,[]⟩
theorem zapy{P:Addr}{q:Str}{js:List Nat}{te tb:TE}{g:NTF}{body:EF}(h1:SEt te g)(hb:SE tb body):SEb P q (zava P q js te λ_=>tb) (zapx js g body):=by
 intro fx H0 env σ H hT h rr hr Q qq
 unfold zapx at hr
 obtain⟨cs,ec,hr⟩:=qA.mp hr
 obtain⟨t,et,hr⟩:=qA.mp hr
 obtain⟨rows,ew,hr⟩:=qA.mp hr
 obtain⟨ks,ek,hr⟩:=qA.mp hr
 obtain⟨r,el,rfl⟩:=qF.mp hr
 obtain⟨vs,ev,Hx,sx,hv⟩:=zaaf js (zalb js fx H0 env σ H h cs ec (λvs H'=>∃Hx,Same H Hx/\Hx=H'/\Rps (Offs (lim fx env σ (bss cs)) H') (zfp cs) vs) λvs H' s v1=>⟨H',s,rfl,zeq (λi hi=>hi) v1⟩)
 obtain⟨rfl,hv⟩:=hv
 refine h1 fx H0 env σ Hx h t et _ λv H1 as s1 nt nd hn=>?_
 cases t with
 | ls ts=>
  unfold NewT at nt
  obtain⟨a,ws,as1,rfl,ha,rfl,nts⟩:=nt
  have pr:=zaga (show zalt ts=some rows from ew) nts
  have hl:=zaar ek
  have lr:=pr.length
  refine⟨a,ws,vs,λi=>ks.getD i 0,rfl,ha,?_,s1 _ _ hT,ev,λi w H2 hw s2=>?_,λi w H2 hw hL s2=>?_⟩
  ·rw[<- lr]
   cases rows with
   | nil=>unfold zuw at el;rw[qCX]at el;cases el
   | cons _ _=>simp
  ·have hi:i<rows.length:=by rw[lr];exact(qM.mp hw).1
   obtain⟨w',hw',b,rfl,hb1,hb2⟩:=zgj pr (qH hi)
   rw[hw]at hw'
   cases hw'
   obtain⟨v,n,e1,e2,e3⟩:=zaaq ek i _ (qH hi)
   have nb:¬lim fx env σ (bss cs) b:=λz=>by
    obtain⟨o,e⟩:=h.lims (bss cs) b z
    rw[hn b (qL _ hb1)]at e;cases e
   have hE:=zaug (fx:=lim fx env σ (bss cs)) (H:=H2) (ds:=.list (rows[i].map .int)::zfp cs) (vs:=.ref b::vs) ((h.up (s1.trans s2)).lims (bss cs)) (zdc (zdx (by rw[Offs.get nb];exact s2 _ _ hb2) (zin _)) (Rps.same (Offs.grow (s1.trans s2)) _ hv))
   refine hb _ H2 _ _ H2 hE v e1 _ λw3 H3 s3 v3=>⟨?_,s2.trans s3⟩
   have:=v3.rp
   rw[e2]at this
   rw[zdf this]
   simp[List.getD,e3]
  ·have hi:i<rows.length:=by rw[lr];exact(qM.mp hw).1
   obtain⟨w',hw',b,rfl,hb1,hb2⟩:=zgj pr (qH hi)
   rw[hw]at hw'
   cases hw'
   have er:rows[i]=r:=zapw el hl (qH hi) (by rw[lr];exact hL)
   rw[er]at hb2
   have nH:=hn b (qL _ hb1)
   have nb:¬lim fx env σ [] b:=λz=>by
    obtain⟨o,e⟩:=h.lims [] b z
    rw[nH]at e;cases e
   exact qq _ H2 (s1.trans s2) ⟨zdx (by rw[Offs.get nb];exact s2 _ _ hb2) (zin _),λ_=>⟨b,rfl,nH,_,s2 _ _ hb2,zin _⟩⟩
 | _=>cases ew
end L2
namespace PySem
theorem zadh:isSubtype (.type "tuple") (.type "set")=pure false:=by rw[isSubtype_type];kernel_rfl
theorem zaas:isSubtype (.type "tuple") (.type "frozenset")=pure false:=by rw[isSubtype_type];kernel_rfl
end PySem
namespace L2
open PySem PySem.Spec PyProof.Rows
theorem zalu{prog:Program}{w:World}{A:Around}{R:Result->Shared->Prop}{d it l:Addr}{h0:Heap}{items:List Value}{ks:List Key}(hA:A.in1.handled=none)
  (pr:Paired (λ(v:Value) (k:Key)=>zrj k v=true/\v.scannable=true) items ks)(hl:h0.IsTuple l items.toArray)(hd:h0.get? d=none)(hi:h0.get? it=none)(hdi:d≠it)(hz:items.length<4000) :
  ∀(k i:Nat)(s:Shared)(seen:List Key)(n:Nat),items.length - i=k->i<=items.length->s.heap.IsTupleIter it l i->s.heap.SetOf (zbt prog w) d (λx=>decide (x∈seen)) n->(∀b o,h0.get? b=some o->s.heap.get? b=some o)->n<=i->
  (∀h' tk' S,h'.SetOf (zbt prog w) d S (n+unl seen (ks.drop i))->(∀b o,h0.get? b=some o->h'.get? b=some o)->R (.ok (.ret .none)) {s with heap:=h',toks:=tk'})->
  codeAny (model prog w) A (.builtin "set.update.loop" ⟨[.ref d,.ref it],[]⟩) R s:=by
 have hlen:=pr.length
 have keepL:∀{h:Heap},(∀b o,h0.get? b=some o->h.get? b=some o)->h.IsTuple l items.toArray:=λ{h} kp=>Heap.IsTuple.at hl λo e=>kp _ o e
 intro k
 induction k with
 | zero=>
  intro i s seen n hk hile hit hdo kp hn hR
  have hin:i=items.length:=by omega
  subst hin
  refine qA8 zlj ?_
  rw[qAo zhx _]
  show wpAny _ A.in1 (pyNext (.ref it) >>=_) _ _ s
  refine qD (wpAny_pyNext_tuple_end hA hit (keepL kp) (by simp) λh' eb=>?_)
  refine qO ?_
  refine hR h' s.toks (λx=>decide (x∈seen)) ?_ λb o e=>eb b o (λz=>by rw[z,hi]at e;cases e) (kp b o e)
  rw[qAu (by omega)]
  obtain⟨o,es,ep,t,q1,q⟩:=hdo
  exact⟨o,es,ep,t,eb _ _ hdi q1,q⟩
 | succ k ih=>
  intro i s seen n hk hile hit hdo kp hn hR
  have hlt:i<items.length:=by omega
  obtain⟨p,hp,hkey,hsc⟩:=zgj pr (qH hlt)
  refine qA8 zlj ?_
  rw[qAo zhx _]
  show wpAny _ A.in1 (pyNext (.ref it) >>=_) _ _ s
  refine qD (wpAny_pyNext_tuple_item hit (keepL kp) (x:=items[i]) (by simp[hlt]) λh1 hit1 sb1=>?_)
  have kp1:∀b o,h0.get? b=some o->h1.get? b=some o:=λb o e=>(sb1.2 b (λz=>by rw[z,hi]at e;cases e)).trans (kp b o e)
  have hd1:h1.SetOf (zbt prog w) d (λx=>decide (x∈seen)) n:=by
   obtain⟨o,es,ep,t,q1,q⟩:=hdo
   exact⟨o,es,ep,t,(sb1.2 d hdi).trans q1,q⟩
  show wpAny _ _ (holding [items[i]] (setAdd d items[i]) >>=_) _ _ _
  refine qD (qAX ?_)
  unfold setAdd
  refine qAX (qD ((zbt prog w).pyHash hkey ?_))
  refine wpAny_setAddHashed_of (knd:=zbt prog w) (k:=p) hkey hsc hd1 (by show n+1<4096;omega) λh2 sb2 hd2=>?_
  have hit2:h2.IsTupleIter it l (i+1):=by obtain⟨o,q1,q2,q3⟩:=hit1;exact⟨o,(sb2.2 _ (qAv hdi)).trans q1,q2,q3⟩
  refine qO ⟨qBd zhx _,?_⟩
  have kp2:∀b o,h0.get? b=some o->h2.get? b=some o:=λb o e=>(sb2.2 b (λz=>by rw[z,hd]at e;cases e)).trans (kp1 b o e)
  have eS:(λk'=>decide (k'∈seen)||decide (k'=p))=λx=>decide (x∈p::seen):=by
   funext x;by_cases h1:x=p<;>by_cases h2:x∈seen<;>simp[h1,h2]
  rw[eS]at hd2
  refine ih (i+1) _ (p::seen) _ (by omega) hlt hit2 hd2 kp2 (by split<;>omega) λh' tk' S hS kp'=>?_
  refine hR h' tk' S ?_ kp'
  have e:ks.drop i=p::ks.drop (i+1):=by
   obtain⟨hh,e⟩:=qM.mp hp
   rw[<- e];exact qAJ hh
  rw[e]
  unfold unl
  have:n+((if p∈seen then 0 else 1)+unl (p::seen) (ks.drop (i+1)))=(if decide (p∈seen)=true then n else n+1)+unl (p::seen) (ks.drop (i+1)):=by
   by_cases h:p∈seen<;>simp[h]<;>omega
  rw[this]
  exact hS
theorem zaat{prog:Program}{w:World}{A:Around}{E:Value->Shared->Prop}{s:Shared}{l:Addr}{items:List Value}{ks:List Key}{Q:Value->Shared->Prop}(hA:A.handled=none)
  (pr:Paired (λ(v:Value) (k:Key)=>zrj k v=true/\v.scannable=true) items ks)(hl:s.heap.IsTuple l items.toArray)(hz:items.length<4000)
  (h:∀h' tk S,h'.SetOf (zbt prog w) s.heap.objs.size S (unl [] ks)->(∀b o,s.heap.get? b=some o->h'.get? b=some o)->Q (.ref s.heap.objs.size) {s with heap:=h',toks:=tk}) :
  wpAny (model prog w) A (call (.type "set") [.ref l]) Q E s:=by
 obtain⟨c,tl,hmro⟩:=qBU.mro
 have hmade:=qBU.made
 have hsub:=qBU.sub
 refine wpAny_call (codeAny_of_tree ?_)
 show wpAny _ _ (callAny (.type "set") _) _ _ _
 refine qO ⟨Code.quiet_builtin _ (by decide +kernel),qA8 F.entry_type_call ?_⟩
 rw[Around.under_plain (weight_type_call_type "set" [.ref l] []) rfl]
 have h1:=qBU.notType
 have h2:=qBU.canCreate
 have hct:=zagy (.ref l)
 repeat (any_goals (first|assumption|wp_step))
 refine qBX (zakn (E:=E) (.ref l) (Q₁:=λobj s₁=>∃led:Bool,obj=.ref s.heap.objs.size/\s₁={s with heap:=s.heap.push {cls:=.type "set",dict:=none,data:=.set #[] 0 (.fresh 0 0 led)}}) λled=>⟨led,rfl,rfl⟩) λr s₁ hr=>?_
 cases r with
 | error e=>exact hr
 | ok fl=>
  cases fl with
  | ret obj=>
   obtain⟨led,rfl,rfl⟩:=hr
   have hS:=zats (prog:=prog) (w:=w) (h:=s.heap) (led:=led)
   have hT:Shared.TypeIs {s with heap:=s.heap.push {cls:=.type "set",dict:=none,data:=.set #[] 0 (.fresh 0 0 led)}} (.ref s.heap.objs.size) "set":=⟨_,qW _ rfl,rfl⟩
   have hli:=qBU.init.lookup
   have hbi:=qBU.init.bind (.ref s.heap.objs.size)
   repeat (any_goals (first|assumption|wp_step))
   refine qBX (codeAny_call_builtin (R:=wants (λr s₂=>r=.none/\Q (.ref s.heap.objs.size) s₂) E) qBU.init.plain F.entry_set_init (zadd hT ?_)) λr₂ s₂ hr₂=>?_
   ·unfold Builtin.«set.__init__» noKeywords
    obtain⟨ol,g1,g2,n3,g3⟩:=id hl
    have hl':(s.heap.push {cls:=.type "set",dict:=none,data:=.set #[] 0 (.fresh 0 0 led)}).get? l=some ol:=qE _ g1
    have hTl:Shared.TypeIs {s with heap:=s.heap.push {cls:=.type "set",dict:=none,data:=.set #[] 0 (.fresh 0 0 led)}} (.ref l) "tuple":=⟨_,hl',g2⟩
    have n1:=zadh
    have n2:=zaas
    have hst:∀{P:Bool->Shared->Prop}{E':Value->Shared->Prop}{A':Around},P false {s with heap:=s.heap.push {cls:=.type "set",dict:=none,data:=.set #[] 0 (.fresh 0 0 led)}}->wpAny (model prog w) A' (setUsed s.heap.objs.size) P E' {s with heap:=s.heap.push {cls:=.type "set",dict:=none,data:=.set #[] 0 (.fresh 0 0 led)}}:=λhP=>by
     unfold setUsed
     refine qD (wpAny_setState_of (qW _ rfl) rfl (by cases led<;>rfl) (qO ?_))
     cases led<;>exact hP
    refine qD (m:=(pure ():Sem Unit)) (qO ?_)
    refine qD ?_
    unfold typeNameOfCut shownTypeOf
    refine qD ?_
    refine thn (Q:=λa s'=>a=.type "set"/\s'={s with heap:=s.heap.push {cls:=.type "set",dict:=none,data:=.set #[] 0 (.fresh 0 0 led)}}) ?_ λa s' ha=>?_
    ·repeat (any_goals (first|assumption|wp_step))
     exact⟨rfl,rfl⟩
    obtain⟨rfl,rfl⟩:=ha
    refine qO ?_
    refine qD (qO ?_)
    refine qD (qO ?_)
    refine qD (hst ?_)
    show wpAny _ _ (Builtin.Frozenset.updateFrom "set.__init__" s.heap.objs.size (.ref l) >>=_) _ _ _
    unfold Builtin.Frozenset.updateFrom Builtin.Frozenset.isAnySet
    refine qD (qD (thn (Q:=λb s'=>b=false/\s'={s with heap:=s.heap.push {cls:=.type "set",dict:=none,data:=.set #[] 0 (.fresh 0 0 led)}}) ?_ λb s' hb=>?_))
    ·simp only[orM]
     refine qD (qA0 hTl n1 ?_)
     exact qA0 hTl n2 ⟨rfl,rfl⟩
    obtain⟨rfl,rfl⟩:=hb
    rw[if_neg (by decide)]
    refine qD (wpAny_typeOf hTl ?_)
    rw[if_neg (by decide)]
    have g0:∀b o,s.heap.get? b=some o->(s.heap.push {cls:=.type "set",dict:=none,data:=.set #[] 0 (.fresh 0 0 led)}).get? b=some o:=λb o e=>qE _ e
    refine qD (qAg (items:=items.toArray) ⟨ol,hl',g2,n3,g3⟩ ?_)
    have hsz:s.heap.objs.size<(s.heap.push {cls:=.type "set",dict:=none,data:=.set #[] 0 (.fresh 0 0 led)}).objs.size:=qP (qW _ rfl)
    refine qD (wpAny_runValue (zalu (h0:=s.heap) (by exact hA) pr hl (qBK (qN _)) (qBK (qBu hsz)) (qw hsz) hz items.length 0 _ [] 0 rfl (qAQ _) ⟨_,qW _ rfl,rfl,rfl⟩ ?_ (λb o e=>qE _ (g0 b o e)) (qAQ _) λh' tk' S hd' kp'=>?_))
    ·obtain⟨o,es,ep,t,q1,q⟩:=hS
     exact⟨o,es,ep,t,qE _ q1,q⟩
    ·refine qO ?_
     refine qO ⟨rfl,h h' tk' S ?_ kp'⟩
     rw[qDE]at hd'
     exact hd'
   ·cases r₂ with
    | error e=>exact hr₂
    | ok fl₂=>
     cases fl₂ with
     | ret r=>
      obtain⟨rfl,hq⟩:=hr₂
      repeat (any_goals (first|assumption|wp_step))
     | _=>exact hr₂.elim
  | _=>exact hr.elim
noncomputable def zxj(te:TE):TE:=λσ H Q=>te σ H λx H1=>∃p vs ks,x=.ref p/\H1 p=some (.tup vs)/\vs=ks.map kV/\vs.length<4000/\Q (.int (unl [] ks)) H1
theorem zahi{X:Cx}{e:Expr}{te:TE}{p1 p2 pos1 pos2:Pos}(hc:X.calm=true)(hgl:Gl X "len")(hml:X.mg "len"=none)(hgs:Gl X "set")(hms:X.mg "set"=none)(he:PE X e te)
  (hs:starEach [e] X.env=(false,eval e X.env)::starEach [] X.env:=by rfl) :
  PE X (.Call (.Name "len" p1) [.Call (.Name "set" p2) [e] [] pos2] [] pos1) (zxj te):=by
 intro pins s σ H Q I h
 refine qAi (zia I hgl hml zayd ?_ (by decide) (by decide))
 refine callWith_builtin1 ?_ rfl rfl
 show wpAny _ _ (spliced ((false,eval (.Call (.Name "set" p2) [e] [] pos2) X.env)::[])) _ _ s
 refine qAy ?_
 refine qAi (zia I hgs hms zaye ?_ (by decide) (by decide))
 refine callWith_type1 ?_ hs rfl
 rw[hs]
 show wpAny _ _ (spliced ((false,eval e X.env)::[])) _ _ s
 refine qAy (thn (he pins s σ H _ I h) λu s1 z=>?_)
 obtain⟨x,H1,I1,r1,p,vs,ks,rfl,hp,rfl,hz,q⟩:=z
 cases r1
 refine qA3 ?_
 obtain⟨hz',its,rv,hg⟩:=(show zes X.prog X.w H1 s1.heap p (.tup (ks.map kV))from I1.hok p _ hp)
 have hl:=rv.length
 refine zaat (I1.ok.hd hc) (zrw (P:=X.prog) (w:=X.w) rv) hg (by omega) λh' tk S hS kp=>?_
 refine qA3 ?_
 obtain⟨o,es,ep,t,ho,hex,hd,_,_,hb,hf,hn⟩:=hS
 refine call_len_set (s:={s1 with heap:=h',toks:=tk}) ho hex hd hf (by have:es.size<4096:=hb;omega) ?_
 exact⟨.int (unl [] ks),H1,I1.kept (t':=_) kp,⟨tk+1,by rw[hn]⟩,q⟩
noncomputable def zrf(f:EF):EF:=λenv=>(f env).bind λr=>match r.d with
 | .tuple ds=>(zagz ds).bind λks=>if ds.length<4000 then some ⟨.int (unl [] ks),false,[]⟩else none
 | _=>none
theorem zux{te:TE}{f:EF}(h:SE te f):SE (zxj te) (zrf f):=by
 intro fx H0 env σ H hE rr hr Q q
 unfold zrf at hr
 obtain⟨⟨d,fr,bs⟩,er,hr⟩:=qA.mp hr
 cases d with
 | tuple ds=>
  have hr:((zagz ds).bind λks=>if ds.length<4000 then some (⟨.int (unl [] ks),false,[]⟩:Val)else none)=some rr:=hr
  obtain⟨ks,ek,hr⟩:=qA.mp hr
  split at hr
  ·rename_i hl
   cases hr
   refine h fx H0 env σ H hE _ er _ λv H1 s1 hv=>?_
   obtain⟨p,xs,rfl,h1,r⟩:=zcx hv.rp
   have e:=zwu r ek
   refine⟨p,xs,ks,rfl,zco h1,e,by rw[<- r.length];exact hl,q _ H1 s1 ⟨zad,λz=>by cases z⟩⟩
  ·cases hr
 | _=>cases hr
end L2
namespace PySem
open Sem (wp)
theorem zahj:typeLookup (.type "zip") "keys"=pure none:=by rw[typeLookup_type,builtinLookup_eq_fast];kernel_rfl
theorem zxk:typeLookup (.type "zip") "__getattr__"=pure none:=by rw[typeLookup_type,builtinLookup_eq_fast];kernel_rfl
theorem zalv:entryFor table "zip.__getattribute__"=some Builtin.«object.__getattribute__»:=entryFor_alias (id':="object.__getattribute__") (by kernel_rfl) (by decide +kernel) (by decide +kernel) (by kernel_rfl)
theorem ztx(a:Addr)(fl:Array Value)(u:Tok) :
  Meets (Builtin.«object.__getattribute__» ⟨[.ref a,.str "keys" u],[]⟩) (λA R s=>s.heap.get? a=some {cls:=.type "zip",dict:=none,data:=.fields fl,slots:=#[]}/\raisesAttr (.ref a) "keys" A R s):=
 Meets.of_wp λprog w A R s hs=>by
  obtain⟨hp,g,d,tk,os⟩:=s
  obtain⟨hx,hs⟩:=hs
  have hT:(⟨hp,g,d,tk,os⟩:Shared).TypeIs (.ref a) "zip":=⟨_,hx,rfl⟩
  have hm:=zahj
  have hname:(["__module__","__name__","__qualname__","__doc__","__annotations__"]:List Str).contains ("keys":Str)=false:=by decide
  unfold Builtin.«object.__getattribute__»
  repeat (any_goals (first|assumption|wp_step))
  try simp only[hname,qAc,if_false]
  try repeat (any_goals (first|assumption|wp_step))
  exact wpAny_raiseAttrError hs.1 hs.2 (attrMsg_fits (by decide +kernel) (by size_fits))
theorem zahk{prog:Program}{w:World}{A:Around}{E:Value->Shared->Prop}{s:Shared}{a:Addr}{fl:Array Value}{u:Tok}{Q:Value->Shared->Prop}
  (hx:s.heap.get? a=some {cls:=.type "zip",dict:=none,data:=.fields fl,slots:=#[]}) (hA:A.handled=none)
  (h:∀h' tk e,Heap.NewExcOf s.heap h' e "AttributeError"->E (.ref e) {s with heap:=h',toks:=tk}) :
  wpAny (model prog w) A (getAttrBy (.ref a) (.str "keys" u) false) Q E s:=by
 obtain⟨hp,g,d,tk,os⟩:=s
 have hT:∀tk',(⟨hp,g,d,tk',os⟩:Shared).TypeIs (.ref a) "zip":=λ_=>⟨_,hx,rfl⟩
 have f1:=sub_AttributeError
 have f3:=qCC.lookup
 have f4:=qCC.bind (.ref a)
 have f5:=zxk
 unfold getAttrBy
 repeat (any_goals (first|assumption|exact hT _|((with_reducible show wpAny _ _ (call (Value.builtin "zip.__getattribute__") _ _) _ _ _);refine qBO qCC (hT _) zalv (F.args_zip_getattribute_2 _ _) (ztx a fl _) ⟨hx,hA,λh' tk' e hx'=>?_⟩)|wp_step))
 obtain⟨t',u',he⟩:=hx'.there
 show wpAny _ _ (getattributeRaised _ _ _ _ _ _ _) _ _ _
 unfold getattributeRaised
 repeat (any_goals (first|assumption|wp_step))
 exact h _ _ _ hx'.of
theorem zalw{prog:Program}{w:World}{A:Around}{E:Value->Shared->Prop}{s:Shared}{a:Addr}{fl:Array Value}{Q:Option Value->Shared->Prop}
  (hx:s.heap.get? a=some {cls:=.type "zip",dict:=none,data:=.fields fl,slots:=#[]}) (hA:A.handled=none)
  (h:∀h' tk,(∀b o,s.heap.get? b=some o->h'.get? b=some o)->Q none {s with heap:=h',toks:=tk}) :
  wpAny (model prog w) A (getAttr? (.ref a) "keys") Q E s:=by
 unfold getAttr? getAttrBy?
 refine qD (wpAny_mkText (qD (qBr (zahk (s:={s with toks:=s.toks+1}) hx hA λh' tk e x=>?_))))
 obtain⟨ob,vs,he,hcl,_,_⟩:=x.there
 show wpAny _ _ (do if <- isInstance (.ref e) (.type "AttributeError")then pure none else throw (.ref e)) _ _ _
 refine qD (qA0 (T:="AttributeError") ⟨ob,he,hcl⟩ sub_AttributeError ?_)
 exact qO (h h' tk x.keeps)
noncomputable abbrev ZipO(h:Heap)(z TI TO T:Addr)(f:Bool):Prop:=
 h.get? z=some {cls:=.type "zip",dict:=none,data:=.fields #[rawInt T,.bool f,.bool false,.ref TI,.ref TO],slots:=#[]}
structure ZipBt(b1 b2:Bool)(h:Heap)(z TI TO i1 i2 l1 l2:Addr)(k:Nat):Prop where
 z:IsZip h z TI TO .none\/∃T f o,ZipO h z TI TO T f/\h.get? T=some o/\T≠z/\T≠TO/\T≠i1/\T≠i2
 ti:IsPair h TI (.ref i1) (.ref i2)
 to:∃a b,IsPair h TO a b
 i1:SqIt b1 h i1 l1 k
 i2:SqIt b2 h i2 l2 k
section
variable{prog:Program}{w:World}{A:Around}{E:Value->Shared->Prop}{s:Shared}{b1 b2:Bool}{z TI TO i1 i2 l1 l2 T:Addr}{f:Bool}{k:Nat}{xs ys:Array Value}{x y:Value}
theorem zaau {Q:Bool->Shared->Prop} {o:Obj} (hz:ZipO s.heap z TI TO T f) (hT:s.heap.get? T=some o) (hQ:∀h',ZipO h' z TI TO T true->Heap.SameBut z s.heap h'->Q false {s with heap:=h'}) :
  wpAny (model prog w) A (Builtin.SmallTypes.ownedTupleIsFree (.ref z)) Q E s:=by
 unfold Builtin.SmallTypes.ownedTupleIsFree
 refine qD (qAV hz rfl (x:=rawInt T) rfl ?_)
 show wpAny _ _ (loadIfAlive ((T:Int).toNat) >>=_) _ _ _
 refine qD ?_
 have hl:∀{P:Option Obj->Shared->Prop},P (s.heap.get? ((T:Int).toNat)) s->wpAny (model prog w) A (loadIfAlive ((T:Int).toNat)) P E s:=λ{P} h Γ p hΓ=>by
  first|exact h|(simpa [loadIfAlive]using h)
 refine hl ?_
 rw[show((T:Int).toNat)=T from rfl,hT]
 simp only[Option.isNone_some,qAc,if_false]
 refine qD (qAV hz rfl (x:=.bool f) rfl ?_)
 cases f with
 | true=>
  rw[if_neg (by decide)]
  refine qO ?_
  exact hQ s.heap hz (Heap.SameBut.refl _ _)
 | false=>
  rw[if_pos (by decide)]
  refine qD (qA1 hz (by simp) λh₁ hz₁ hs₁=>qO ?_)
  exact hQ h₁ hz₁ hs₁
end
section
variable{prog:Program}{w:World}{A:Around}{E:Value->Shared->Prop}{s:Shared}{b1 b2:Bool}{z TI TO i1 i2 l1 l2 T:Addr}{f:Bool}{k:Nat}{xs ys:Array Value}{x y:Value}
theorem zalx{o:Obj}{Q:Value->Shared->Prop}(D:ZipApart z TI TO i1 i2 l1 l2)(hz:ZipO s.heap z TI TO T f)(hT:s.heap.get? T=some o)(hTI:IsPair s.heap TI (.ref i1) (.ref i2))
  (h1:SqIt b1 s.heap i1 l1 k)(h2:SqIt b2 s.heap i2 l2 k)(hl1:zdt b1 s.heap l1 xs)(hl2:zdt b2 s.heap l2 ys)(hx:xs[k]?=some x)(hy:ys[k]?=some y)
  (hQ:∀h',ZipO h' z TI TO T true->SqIt b1 h' i1 l1 (k+1)->SqIt b2 h' i2 l2 (k+1)->IsPair h' s.heap.objs.size x y->(∀c o,c∉[z,i1,i2]->s.heap.get? c=some o->h'.get? c=some o)->Q (.ref s.heap.objs.size) {s with heap:=h'}) :
  wpAny (model prog w) A (Builtin.«zip.__next__» ⟨[.ref z],[]⟩) (λfin s'=>∃v,fin=.done (.ret v)/\Q v s') E s:=by
 show wpAny _ _ (field (.ref z) 2 >>=_) _ _ _
 refine qD (qAV hz rfl (x:=.bool false) rfl ?_)
 show wpAny _ _ (field (.ref z) 3 >>=_) _ _ _
 refine qD (qAV hz rfl (x:=.ref TI) rfl ?_)
 refine qD (qAW hTI rfl ?_)
 show wpAny _ _ (Builtin.SmallTypes.ownedTupleIsFree (.ref z) >>=_) _ _ _
 refine qD (zaau hz hT λg1 hz1 hs1=>?_)
 simp only[qAc,if_false]
 refine qD ?_
 simp only[List.forIn_toArray,qBS,qCQ]
 refine qD (qD (qAX ?_))
 show wpAny _ _ (qo (.ref i1) >>=_) _ _ _
 refine qD (znz (h1.extBut hs1.extBut D.i1z) (hl1.extBut hs1.extBut D.l1z) hx λg2 h12 hs2=>qO ?_)
 refine qO ?_
 refine qD (qD (qAX ?_))
 show wpAny _ _ (qo (.ref i2) >>=_) _ _ _
 refine qD (znz ((h2.extBut hs1.extBut D.i2z).extBut hs2.extBut D.i12.symm) ((hl2.extBut hs1.extBut D.l2z).extBut hs2.extBut D.l2i1) hy λg3 h23 hs3=>qO ?_)
 refine qO ?_
 refine qO ?_
 refine qD (wpAny_newTuple ?_ (by show 2<=qZ;decide))
 refine qO ⟨_,rfl,?_⟩
 have sz:g3.objs.size=s.heap.objs.size:=by rw[hs3.1,hs2.1,hs1.1]
 have lz:z<s.heap.objs.size:=qP hz
 have kp:∀c o,c∉[z,i1,i2]->s.heap.get? c=some o->g3.get? c=some o:=λc o hc e=>by
  simp only[qJ,qf,or_false,not_or]at hc
  exact hs3.extBut _ _ hc.2.2 (hs2.extBut _ _ hc.2.1 (hs1.extBut _ _ hc.1 e))
 show Q (.ref g3.objs.size) _
 rw[sz]
 refine hQ _ (qE _ (hs3.extBut _ _ D.i2z.symm (hs2.extBut _ _ D.i1z.symm hz1))) ((h12.extBut hs3.extBut D.i12).moved λo e=>qE _ e) (h23.moved λo e=>qE _ e) (by rw[<- sz];exact qW _ rfl) λc o hc e=>qE _ (kp c o hc e)
theorem zapz{o:Obj}{Q:Fin->Shared->Prop}(hh:A.handled=none)(D:ZipApart z TI TO i1 i2 l1 l2)(hz:ZipO s.heap z TI TO T f)(hT:s.heap.get? T=some o)(hTI:IsPair s.heap TI (.ref i1) (.ref i2))
  (h1:SqIt b1 s.heap i1 l1 k)(hl1:zdt b1 s.heap l1 xs)(hx:xs[k]?=none)
  (hE:∀h' e,(∀c o,c∉[z,i1,i2]->s.heap.get? c=some o->h'.get? c=some o)->(∃o,h'.get? e=some o/\o.cls=.type "StopIteration")->E (.ref e) {s with heap:=h'}) :
  wpAny (model prog w) A (Builtin.«zip.__next__» ⟨[.ref z],[]⟩) Q E s:=by
 show wpAny _ _ (field (.ref z) 2 >>=_) _ _ _
 refine qD (qAV hz rfl (x:=.bool false) rfl ?_)
 show wpAny _ _ (field (.ref z) 3 >>=_) _ _ _
 refine qD (qAV hz rfl (x:=.ref TI) rfl ?_)
 refine qD (qAW hTI rfl ?_)
 show wpAny _ _ (Builtin.SmallTypes.ownedTupleIsFree (.ref z) >>=_) _ _ _
 refine qD (zaau hz hT λg1 hz1 hs1=>?_)
 simp only[qAc,if_false]
 refine qD ?_
 simp only[List.forIn_toArray,qBS,qCQ]
 refine qD (qD (qAX ?_))
 show wpAny _ _ (qo (.ref i1) >>=_) _ _ _
 refine qD (zzt hh (h1.extBut hs1.extBut D.i1z) (hl1.extBut hs1.extBut D.l1z) hx λg2 e hs2 he=>?_)
 refine hE g2 e (λc o hc e=>?_) he
 simp only[qJ,qf,or_false,not_or]at hc
 exact hs2 _ _ hc.2.1 (hs1.extBut _ _ hc.1 e)
theorem zahl{Q:Option Value->Shared->Prop}(D:ZipApart z TI TO i1 i2 l1 l2)(st:ZipBt b1 b2 s.heap z TI TO i1 i2 l1 l2 k)(p1:zdt b1 s.heap l1 xs)(p2:zdt b2 s.heap l2 ys)(hx:xs[k]?=some x)(hy:ys[k]?=some y)
  (hQ:∀h',ZipBt b1 b2 h' z TI TO i1 i2 l1 l2 (k+1)->IsPair h' s.heap.objs.size x y->(∀c o,c∉[z,TO,i1,i2]->s.heap.get? c=some o->h'.get? c=some o)->Q (some (.ref s.heap.objs.size)) {s with heap:=h'}) :
  wpAny (model prog w) A (pyNext (.ref z)) Q E s:=by
 have hT:s.TypeIs (.ref z) "zip":=by
  rcases st.z with q|⟨T,f,o,q,_⟩
  ·exact⟨_,q,rfl⟩
  ·exact⟨_,q,rfl⟩
 have lz:∀b∈[z,TO,i1,i2],b<s.heap.objs.size:=λb hb=>by
  obtain⟨a,c,hto⟩:=st.to
  simp only[qJ,qf,or_false]at hb
  rcases hb with rfl|rfl|rfl|rfl
  ·rcases st.z with q|⟨T,f,o,q,_⟩
   ·exact qP q
   ·exact qP q
  ·exact qP hto
  ·obtain⟨o,q,_⟩:=st.i1.obj;exact qP q
  ·obtain⟨o,q,_⟩:=st.i2.obj;exact qP q
 unfold pyNext
 refine qD (qBr (qAh (name:=Str.ofString "__next__") hT qA5 (qBC qA5 hT qCK ?_ (qCB _))))
 rcases st.z with q|⟨T,f,o,q,hTo,n1,n2,n3,n4⟩
 ·refine zzu D ⟨q,st.ti,st.to,st.i1,st.i2⟩ p1 p2 hx hy λh1 zt tp kp=>qO ?_
  refine hQ h1 ⟨.inr ⟨s.heap.objs.size,false,_,zt.z,tp,?_,?_,?_,?_⟩,zt.ti,zt.to,zt.i1,zt.i2⟩ tp λb o hb q=>?_
  ·exact qAm (lz _ (by simp))
  ·exact qAm (lz _ (by simp))
  ·exact qAm (lz _ (by simp))
  ·exact qAm (lz _ (by simp))
  ·simp only[qJ,qf,or_false,not_or]at hb
   exact kp b o hb.1 hb.2.1 hb.2.2.1 hb.2.2.2 q
 ·refine zalx D q hTo st.ti st.i1 st.i2 p1 p2 hx hy λh1 zz j1 j2 tp kp=>qO ?_
  obtain⟨a,c,hto⟩:=st.to
  refine hQ h1 ⟨.inr ⟨T,true,o,zz,kp _ _ (by simp[n1,n3,n4]) hTo,n1,n2,n3,n4⟩,kp _ _ (by simp[D.TIz,D.TIi1,D.TIi2]) st.ti,⟨a,c,kp _ _ (by simp[D.TOz,D.TOi1,D.TOi2]) hto⟩,j1,j2⟩ tp λb o hb q=>?_
  refine kp b o (λm=>hb ?_) q
  simp only[qJ,qf,or_false]at m ⊢
  rcases m with m|m|m<;>simp[m]
theorem zaly{Q:Option Value->Shared->Prop}(hh:A.handled=none)(D:ZipApart z TI TO i1 i2 l1 l2)(st:ZipBt b1 b2 s.heap z TI TO i1 i2 l1 l2 k)(p1:zdt b1 s.heap l1 xs)(p2:zdt b2 s.heap l2 ys)(hend:xs[k]?=none)
  (hQ:∀h',(∀c o,c∉[z,TO,i1,i2]->s.heap.get? c=some o->h'.get? c=some o)->Q none {s with heap:=h'}) :
  wpAny (model prog w) A (pyNext (.ref z)) Q E s:=by
 have hT:s.TypeIs (.ref z) "zip":=by
  rcases st.z with q|⟨T,f,o,q,_⟩
  ·exact⟨_,q,rfl⟩
  ·exact⟨_,q,rfl⟩
 unfold pyNext
 refine qD (qBr (qAh (name:=Str.ofString "__next__") hT qA5 (qBC qA5 hT qCK ?_ (qCB _))))
 rcases st.z with q|⟨T,f,o,q,hTo,n1,n2,n3,n4⟩
 ·refine zafp (by exact hh) D ⟨q,st.ti,st.to,st.i1,st.i2⟩ p1 p2 (.inl hend) λh' e kp he=>?_
  obtain⟨o,ho,hcl⟩:=he
  refine qD (qA0 (T:="StopIteration") (b:=true) ⟨o,ho,hcl⟩ qCV (qO ?_))
  refine hQ h' λb o hb q=>?_
  simp only[qJ,qf,or_false,not_or]at hb
  exact kp b o hb.1 hb.2.1 hb.2.2.1 hb.2.2.2 q
 ·refine zapz (by exact hh) D q hTo st.ti st.i1 p1 hend λh' e kp he=>?_
  obtain⟨o,ho,hcl⟩:=he
  refine qD (qA0 (T:="StopIteration") (b:=true) ⟨o,ho,hcl⟩ qCV (qO ?_))
  refine hQ h' λb o hb q=>kp b o (λm=>hb ?_) q
  simp only[qJ,qf,or_false]at m ⊢
  rcases m with m|m|m<;>simp[m]
end
end PySem
namespace L2
open PySem PySem.Spec PyProof.Rows
theorem ZipBt.moved{b1 b2:Bool}{h h':Heap}{z TI TO i1 i2 l1 l2:Addr}{k:Nat}(q:ZipBt b1 b2 h z TI TO i1 i2 l1 l2 k)(n:Addr)(hn:h.get? n=none\/n∉[z,TI,TO,i1,i2])(e:∀b o,b≠n->h.get? b=some o->h'.get? b=some o)
  (hT:∀T o,h.get? T=some o->∃o',h'.get? T=some o'):ZipBt b1 b2 h' z TI TO i1 i2 l1 l2 k:=by
 obtain⟨q1,q2,⟨a,c,q3⟩,q4,q5⟩:=q
 have ne:∀b∈[z,TI,TO,i1,i2],∀o,h.get? b=some o->h'.get? b=some o:=λb m o y=>e b o (λx=>by
  subst x
  rcases hn with hn|hn
  ·rw[hn]at y;cases y
  ·exact hn m) y
 refine⟨?_,ne _ (by simp) _ q2,⟨a,c,ne _ (by simp) _ q3⟩,q4.moved λo q=>ne _ (by simp) _ q,q5.moved λo q=>ne _ (by simp) _ q⟩
 rcases q1 with q1|⟨T,f,o,q1,hTo,r⟩
 ·exact .inl (ne _ (by simp) _ q1)
 ·obtain⟨o',y⟩:=hT T o hTo
  exact .inr ⟨T,f,o',ne _ (by simp) _ q1,y,r⟩
theorem zahm{prog:Program}{w:World}{A:Around}{R:Result->Shared->Prop}{d z TI TO i1 i2 l1 l2:Addr}{b1 b2:Bool}{h0:Heap}{xs ys:List Value}{ks:List Key}(hA:A.in1.handled=none)(D:ZipApart z TI TO i1 i2 l1 l2)
  (pr:Paired (λ(v:Value) (k:Key)=>zrj k v=true) xs ks)(hl:xs.length=ys.length)(h1:zdt b1 h0 l1 xs.toArray)(h2:zdt b2 h0 l2 ys.toArray)(hd:h0.get? d=none)(hi:∀b∈[z,TI,TO,i1,i2],h0.get? b=none/\d≠b)(hz:xs.length<=qZ) :
  ∀(k i:Nat)(s:Shared)(kvs:List (Key×Value))(tk:Tok),xs.length - i=k->i<=xs.length->ZipBt b1 b2 s.heap z TI TO i1 i2 l1 l2 i->s.heap.DictOf (zbt prog w) d kvs->(∀b o,h0.get? b=some o->s.heap.get? b=some o)->kvs.length<=i->
  (∀h' tk',h'.DictOf (zbt prog w) d (zatq ((ks.zip ys).drop i) kvs)->(∀b o,h0.get? b=some o->h'.get? b=some o)->R (.ok (.ret .none)) {s with heap:=h',toks:=tk'})->
  codeAny (model prog w) A (.builtin "dict.update.loop" ⟨[.ref d,.ref z,.int i tk,.none],[]⟩) R s:=by
 have hlen:=pr.length
 have nin:∀b o,h0.get? b=some o->b∉[z,TO,i1,i2]:=λb o e m=>by
  have:=(hi b (by simp only[qJ,qf,or_false]at m ⊢;rcases m with q|q|q|q<;>simp[q])).1
  rw[this]at e;cases e
 have dn:d∉[z,TO,i1,i2]:=λm=>(hi d (by simp only[qJ,qf,or_false]at m ⊢;rcases m with q|q|q|q<;>simp[q])).2 rfl
 intro k
 induction k with
 | zero=>
  intro i s kvs tk hk hile hit hdo kp hkl hR
  have hin:i=xs.length:=by omega
  subst hin
  refine qA8 zjs ?_
  rw[qAo zff _]
  show wpAny _ A.in1 (pyNext (.ref z) >>=_) _ _ s
  refine qD (zaly hA D hit (h1.moved λo e=>kp _ _ e) (h2.moved λo e=>kp _ _ e) (by simp) λh' eb=>?_)
  show wpAny _ _ (Builtin.Dict.addKeywords d [] >>=_) _ _ _
  refine qD (qO (qO ?_))
  refine hR h' s.toks ?_ λb o e=>eb b o (nin b o e) (kp b o e)
  rw[qAu (by rw[qBD];omega)]
  obtain⟨o,es,ep,q1,q2⟩:=hdo
  exact⟨o,es,ep,eb _ _ dn q1,q2⟩
 | succ k ih=>
  intro i s kvs tk hk hile hit hdo kp hkl hR
  have hlt:i<xs.length:=by omega
  obtain⟨p,hp,hkey⟩:=zgj pr (qH hlt)
  have hly:i<ys.length:=by omega
  refine qA8 zjs ?_
  rw[qAo zff _]
  show wpAny _ A.in1 (pyNext (.ref z) >>=_) _ _ s
  refine qD (zahl (x:=xs[i]) (y:=ys[i]) D hit (h1.moved λo e=>kp _ _ e) (h2.moved λo e=>kp _ _ e) (by simp[hlt]) (by simp[hly]) λg1 hit1 tp eb=>?_)
  have kp1:∀b o,h0.get? b=some o->g1.get? b=some o:=λb o e=>eb b o (nin b o e) (kp b o e)
  have hd1:g1.DictOf (zbt prog w) d kvs:=by
   obtain⟨o,es,ep,q1,q2⟩:=hdo
   exact⟨o,es,ep,eb _ _ dn q1,q2⟩
  refine qD (qAX (qD (qBP ?_)))
  unfold Builtin.Dict.pairItems
  refine qD (wpAny_typeOf (T:="tuple") ⟨_,tp,rfl⟩ ?_)
  rw[if_pos (by decide)]
  refine qD (qAW tp rfl (qO ?_))
  show wpAny _ _ (holding [xs[i],ys[i]] (dictSet d xs[i] ys[i])) _ _ _
  refine qAX (wpAny_dictSet_pairs (knd:=zbt prog w) (k:=p) hkey hd1 (λg2 hd2 sb2=>?_) (by omega))
  have hit2:ZipBt b1 b2 g2 z TI TO i1 i2 l1 l2 (i+1):=by
   refine ZipBt.moved hit1 d (.inr λm=>(hi d m).2 rfl) (λb o hb e=>(sb2.2 b hb).trans e) λT o e=>?_
   by_cases hT:T=d
   ·subst hT
    obtain⟨o,es,ep,q1,q2⟩:=hd2
    exact⟨o,q1⟩
   ·exact⟨o,(sb2.2 T hT).trans e⟩
  refine qO ⟨qBd zff _,?_⟩
  have kp2:∀b o,h0.get? b=some o->g2.get? b=some o:=λb o e=>(sb2.2 b (λz=>by rw[z,hd]at e;cases e)).trans (kp1 b o e)
  refine ih (i+1) {s with heap:=g2,toks:=s.toks+1} (stored kvs p ys[i]) _ (by omega) hlt hit2 hd2 kp2 ?_ λh' tk' hd' kp'=>?_
  ·have:=zagx kvs p ys[i];omega
  ·refine hR h' tk' ?_ kp'
   have e:(ks.zip ys).drop i=(p,ys[i])::(ks.zip ys).drop (i+1):=by
    obtain⟨hh,e⟩:=qM.mp hp
    have hb:i<(ks.zip ys).length:=by rw[qBD];omega
    rw[qAJ hb,List.getElem_zip,e]
   rw[e]
   exact hd'
noncomputable def zalz(K:qC)(ta:TA):TE:=λσ H Q=>ta σ H λvs H1=>∃(b1 b2:Bool)(a1 a2:Addr)(ys:List V)(ks:List Key),vs=[.ref a1,.ref a2]/\SqX b1 K H1 a1 (ks.map kV)/\SqX b2 K H1 a2 ys/\ks.length=ys.length/\∀d,H1 d=none->Q (.ref d) (upd H1 d (.dK (zhc [] (ks.zip ys))))
theorem zayx{ys:List V}{its:List Value}(h:Vals ys its):∀(ks:List Key),KV (ks.zip ys) (ks.zip its):=by
 induction h with
 | nil=>intro ks;cases ks<;>exact .nil
 | cons r _ ih=>
  intro ks
  cases ks with
  | nil=>exact .nil
  | cons k ks=>exact .cons ⟨rfl,r⟩ (ih ks)
theorem zayy{P:Program}{w:World}:∀{ks:List Key}{us:List Value},Vals (ks.map kV) us->Paired (λ(v:Value)(k:Key)=>zrj k v=true) us ks
 | [],us,h=>by cases h;exact .nil
 | k::ks,us,h=>by cases h with|cons r t=>exact .cons (zacp (P:=P) (w:=w) r) (zayy (P:=P) (w:=w) t)
theorem zavb:bootBuiltins "dict"=some (.type "dict"):=by decide +kernel
theorem zahn{X:Cx}{K:qC}(hK:X.K=K){a b:Expr}{ta:TA}{p1 p2 pos1 pos2:Pos}(hc:X.calm=true)(hgd:Gl X "dict")(hmd:X.mg "dict"=none)(hgz:Gl X "zip")(hmz:X.mg "zip"=none)(ha:PA X [a,b] ta)
  (hs:starEach [a,b] X.env=(false,eval a X.env)::starEach [b] X.env:=by rfl)(hs2:(backTo pos2 (starEach [b] X.env)).any (·.1)=false:=by rfl) :
  PE X (.Call (.Name "dict" p1) [.Call (.Name "zip" p2) [a,b] [] pos2] [] pos1) (zalz K ta):=by
 subst hK
 intro pins s σ H Q I h
 refine qAi (zia I hgd hmd zavb ?_ (by decide) (by decide))
 refine callWith_type1 ?_ rfl rfl
 show wpAny _ _ (spliced ((false,eval (.Call (.Name "zip" p2) [a,b] [] pos2) X.env)::[])) _ _ s
 refine qAy ?_
 refine Call_ (zia I hgz hmz zarh (callWith_type1 (thn (ha pos2 pins s σ H _ I h) λus s1 ⟨vs,H1,I1,r1,q1⟩=>?_) hs hs2))
 obtain⟨b1,b2,l1,l2,ys,ks,rfl,e1,e2,hl,q⟩:=q1
 obtain⟨u1,u2,rfl,ru1,ru2⟩:=zanp r1
 cases ru1
 cases ru2
 obtain⟨its1,rv1,p1,hz1⟩:=I1.sq e1
 obtain⟨its2,rv2,p2,_⟩:=I1.sq e2
 have t1:=zdt.there p1
 have t2:=zdt.there p2
 refine zzv p1 p2 λh' zt hk=>?_
 refine qA3 ?_
 have D:=zzw t1 t2
 have ln1:=rv1.length
 have ln2:=rv2.length
 rw[qG]at ln1 hz1
 have lz:s1.heap.objs.size+4<h'.objs.size:=qP zt.z
 refine callType_codes (Q₁:=λobj s₁=>obj=.ref h'.objs.size/\s₁={s1 with heap:=h'.push {cls:=.type "dict",data:=.dict #[]}}) F.kt_called_dict (F.kt_typeCall_dict_1 _) F.entry_dict_init (kt_code_dict_new (s:={s1 with heap:=h'}) _ ⟨rfl,rfl⟩) ?_
 rintro obj s₁ ⟨rfl,rfl⟩
 have hnew:(h'.push {cls:=.type "dict",data:=.dict #[]}).DictOf (zbt X.prog X.w) h'.objs.size []:=qC5 h'
 have hzl:(h'.push {cls:=.type "dict",data:=.dict #[]}).get? (s1.heap.objs.size+4)=some {cls:=.type "zip",dict:=none,data:=.fields #[.none,.bool false,.bool false,.ref (s1.heap.objs.size+2),.ref (s1.heap.objs.size+3)],slots:=#[]}:=qE _ zt.z
 refine⟨hnew.typeIs,F.args_dict_init_2 _ _,?_⟩
 unfold Builtin.«dict.__init__»
 refine qD ?_
 unfold Builtin.Dict.selfAndRest
 refine qD (wpAny_notOrdered_dict hnew.typeIs ?_)
 show wpAny _ _ (pure (h'.objs.size,[Value.ref (s1.heap.objs.size+4)])) _ _ _
 refine qO ?_
 show wpAny _ _ (Builtin.Dict.updateFrom "dict.__init__" h'.objs.size (.ref (s1.heap.objs.size+4)) [] .none) _ _ _
 unfold Builtin.Dict.updateFrom
 refine qD (wpAny_typeOf (T:="zip") ⟨_,hzl,rfl⟩ ?_)
 rw[if_pos (by decide)]
 refine qD (zalw (s:={s1 with heap:=h'.push {cls:=.type "dict",data:=.dict #[]}}) hzl (I1.ok.hd hc) λg1 tk1 kp1=>?_)
 rw[if_pos (by rfl)]
 refine qD (qCj ?_)
 have k1:∀b o,h'.get? b=some o->g1.get? b=some o:=λb o e=>kp1 b o (qE _ e)
 have hd1:g1.DictOf (zbt X.prog X.w) h'.objs.size []:=by
  obtain⟨o,es,ep,q1,q2⟩:=hnew
  exact⟨o,es,ep,kp1 _ _ q1,q2⟩
 refine qD (qCr (k1 _ _ zt.z) ?_)
 refine qO ⟨qBd zff _,?_⟩
 have zt1:ZipBt b1 b2 g1 (s1.heap.objs.size+4) (s1.heap.objs.size+2) (s1.heap.objs.size+3) s1.heap.objs.size (s1.heap.objs.size+1) l1 l2 0:=by
  obtain⟨q1,q2,⟨a,c,q3⟩,q4,q5⟩:=zt
  exact⟨.inl (k1 _ _ q1),k1 _ _ q2,⟨a,c,k1 _ _ q3⟩,q4.moved λo q=>k1 _ _ q,q5.moved λo q=>k1 _ _ q⟩
 refine zahm (h0:=s1.heap) (xs:=its1) (ys:=its2) (ks:=ks) (by exact I1.ok.hd hc) D (zayy (P:=X.prog) (w:=X.w) rv1) (by omega) p1 p2 (qBK (by show s1.heap.objs.size<=h'.objs.size;omega)) (λb hb=>?_) (by omega) its1.length 0 _ [] _ rfl (qAQ _) zt1 hd1 (λb o e=>k1 b o (hk b o e)) (qAQ _) λg2 tk2 hd2 kp2=>?_
 ·have lb:s1.heap.objs.size<=b/\b<h'.objs.size:=by
   simp only[qJ,qf,or_false]at hb
   rcases hb with q|q|q|q|q<;>rw[q]
   ·exact⟨qAp _ _,lz⟩
   ·exact⟨qAp _ _,qAd (qBp (by decide) _) lz⟩
   ·exact⟨qAp _ _,qAd (qBp (by decide) _) lz⟩
   ·exact⟨qN _,qAd (qAp _ _) lz⟩
   ·exact⟨qAp _ _,qAd (qBp (by decide) _) lz⟩
  exact⟨qBK lb.1,qAm lb.2⟩
 ·have hb:s1.heap.objs.size<=h'.objs.size:=by omega
  refine⟨rfl,.ref h'.objs.size,_,I1.laid (t':=tk2) kp2 (a:=h'.objs.size) (o:=.dK (zhc [] (ks.zip ys))) hb ?_,rfl,q _ (I1.hok.fresh hb)⟩
  refine zafb ?_ ?_ (zakl .nil (zayx rv2 ks)) hd2
  ·refine qAA (zgu _ []) ?_
   rw[qCH,qDE,qBD]
   omega
  ·have:=I1.big
   exact beq_eq_false_iff_ne.mpr (qAm (qb this hb))
noncomputable def zarl:List Val->Option Val
 | [r,t]=>(zfd r.d).bind λds=>(zfd t.d).bind λes=>(zagz ds).bind λ_=>if ds.length=es.length then some ⟨.dict (zjo [] (ds.zip es)),true,r.bs++t.bs⟩else none
 | _=>none
noncomputable def zama(f:AF):EF:=λenv=>(f env).bind zarl
theorem zamb{H:Hp}:∀{ds es:List PyData}{ks:List Key}{ys:List V},zagz ds=some ks->Rps H es ys->Rpd H (ds.zip es) (ks.zip ys)
 | [],es,ks,ys,h,_=>by cases h;rw[qCX,qCX];exact zii
 | d::ds,[],ks,ys,_,r=>by unfold Rps at r;subst r;rw[List.zip_nil_right,List.zip_nil_right];exact zii
 | d::ds,e::es,ks,ys,h,r=>by
  obtain⟨k,ek,h⟩:=qA.mp h
  obtain⟨ks',e',rfl⟩:=qF.mp h
  unfold Rps at r
  obtain⟨v,vs,rfl,h1,h2⟩:=r
  exact zij ek h1 (zamb e' h2)
theorem zaho{K:qC}{ta:TA}{f:AF}(h1:SA ta f):SE (zalz K ta) (zama f):=by
 intro fx H0 env σ H h rr hr Q q
 unfold zama at hr
 obtain⟨rs,er,hr⟩:=qA.mp hr
 unfold zarl at hr
 split at hr
 ·rename_i r t
  obtain⟨ds,e1,hr⟩:=qA.mp hr
  obtain⟨es,e2,hr⟩:=qA.mp hr
  obtain⟨ks,e3,hr⟩:=qA.mp hr
  split at hr
  ·rename_i hl
   cases hr
   refine h1 fx H0 env σ H h _ er _ λvs H1 s1 v1=>?_
   cases v1 with
   | cons v1 v2=>
    cases v2 with
    | cons v2 v3=>
     cases v3
     rename_i u1 u2
     obtain⟨c1,a1,xs,rfl,r1,q1⟩:=zzx (K:=K) v1.rp e1
     obtain⟨c2,a2,ys,rfl,r2,q2⟩:=zzx (K:=K) v2.rp e2
     have ek:=zwu r1 e3
     subst ek
     have l1:=r1.length
     have l2:=r2.length
     rw[qG]at l1
     refine⟨c1,c2,a1,a2,ys,ks,rfl,q1 _ _ (Offs.sub (A:=lim fx env σ r.bs) (B:=λ_=>False) λb z=>z.elim) |>(λz=>by simpa using z),?_,by omega,λd hd=>?_⟩
     ·exact q2 _ _ (Offs.sub (A:=lim fx env σ t.bs) (B:=λ_=>False) λb z=>z.elim)
     ·have hA:=(h.up s1).lims (r.bs++t.bs)
      have r2':Rps (Offs (lim fx env σ (r.bs++t.bs)) H1) es ys:=Rps.same (Offs.sub (zjm λi hi=>qI _ hi)) _ r2
      have m:∀{B:Addr->Prop},(∀b,B b->lim fx env σ (r.bs++t.bs) b\/b=d)->Rpd (Offs B (upd H1 d (.dK (zhc [] (ks.zip ys))))) (zjo [] (ds.zip es)) (zhc [] (ks.zip ys)):=λ{B} hB=>Rpd.merge zii (Rpd.same (Offs.mono (Same.new hd) λb o eo n z=>(hB b z).elim n λy=>by rw[y,hd]at eo;cases eo) _ (zamb e3 r2'))
      exact q _ _ (s1.trans (Same.new hd)) ⟨zkw (by rw[Offs.get (zed hA hd)];exact zar) (m λb z=>.inl z),λ_=>⟨d,rfl,s1.free hd,⟨_,zar,m λb z=>z⟩⟩⟩
  ·cases hr
 ·cases hr
noncomputable def zayz(K:qC):List V->Hp->VK->Prop:=λxs H Q=>∃(a:Addr)(ns:List Int),xs=[.ref a]/\SqL K H a (ns.map .int)/\Q (.int ns.sum) H
theorem zaav{X:Cx}{K:qC}(hK:X.K=K)(hc:X.calm=true):CallR X (.builtin "sum") (zayz K):=by
 subst hK
 intro pins s σ H xs us Q I r h
 obtain⟨a,ns,rfl,hS,q⟩:=h
 obtain⟨u,rfl,ru⟩:=r.one
 cases ru
 obtain⟨its,rv,hl,hz⟩:=I.list hS
 have hi:=zxi rv
 obtain⟨ys,e⟩:=hi.allInts.items
 have hns:ns=ys.toList.map (·.1):=by
  rw[<- hi.numsOf,<- nums_intItems,<- e]
 rw[e]at hl
 have hl:s.heap.IsList a (intItems ys):=by obtain⟨o,n,h1,h2,_,h3⟩:=hl;exact⟨o,h1,h2,n,h3⟩
 refine sum_intListG (I.ok.hd hc) hl λh' tk t hk=>?_
 have eM:preSum (numAt ys) ys.size=ns.sum:=by
  rw[preSum_eq,hns,qAZ (by simp)]
 exact⟨.int ns.sum,H,I.kept hk,⟨t,by rw[eM]⟩,q⟩
noncomputable def zadi:GF
 | [.list ds]=>(zmv ds).map λns=>(.int ns.sum,false)
 | _=>none
theorem zamc{K:qC}:SC (zayz K) zadi:=by
 intro A H vs ds hA rv d fr e Q q
 unfold zadi at e
 split at e
 ·obtain⟨ns,en,e⟩:=qF.mp e
  cases e
  have:=zod en
  subst this
  obtain⟨v,rfl,r⟩:=rps1 rv
  obtain⟨a,xs,rfl,hx,rx⟩:=zde r
  have ex:=zio rx
  subst ex
  exact⟨a,ns,rfl,SqL.of (zco hx),q _ H (Same.refl _) zad (λz=>by cases z)⟩
 ·cases e
section
variable{P:Addr}{q:Str}
noncomputable def SAb(P:Addr)(q:Str)(ta:TA)(f:AF):Prop:=∀(fx:Addr->Prop)(H0:Hp)(env:DEnv)(σ:St)(H:Hp),TbH P q H->EnvOk fx H0 env σ H->∀rs,f env=some rs->∀Q:List V->Hp->Prop,(∀vs H',Same H H'->Paired (λr v=>ValOk (lim fx env σ r.bs) H H' r v) rs vs->Q vs H')->ta σ H Q
theorem zarm{ta:TA}{f:AF}(h:SA ta f):SAb P q ta f:=λfx H0 env σ H _ hE rs er Q k=>h fx H0 env σ H hE rs er Q k
theorem zrg{te:TE}{ta:TA}{f:EF}{g:AF}(h1:SEb P q te f)(h2:SAb P q ta g):SAb P q (tCons te ta) (zaa f g):=by
 intro fx H0 env σ H hT h rs hr Q k
 unfold zaa at hr
 obtain⟨x,ex,hr⟩:=qA.mp hr
 obtain⟨xs,exs,rfl⟩:=qF.mp hr
 exact h1 fx H0 env σ H hT h x ex _ λv H1 s1 v1=>h2 fx H0 env σ H1 (s1 _ _ hT) (h.up s1) xs exs _ λvs H2 s2 vs2=>k (v::vs) H2 (s1.trans s2)
  (.cons (v1.later (Same.refl _) s2 λ_ z=>z) (Paired.mapP vs2 λ_ _ z=>z.later s1 (Same.refl _) λ_ y=>y))
theorem zaaw{n:Nat}{g:GF}{ta:TA}{f:AF}(ha:SAb P q ta f):SEb P q (tCall (spD n g) [] E0 ta) (zas n g f):=by
 intro fx H0 env σ H hT h rr hr Q k
 unfold zas at hr
 obtain⟨rs,er,hr⟩:=qA.mp hr
 split at hr
 ·rename_i hn
  obtain⟨⟨d,fr⟩,ez,hr⟩:=qA.mp hr
  cases hr
  refine ha fx H0 env σ H hT h rs er _ λvs H1 s1 v1=>?_
  rw[qAD]
  refine⟨lim fx env σ (bss rs),zfp rs,d,fr,by rw[zgi];exact hn,(h.up s1).lims _,zeq (λi hi=>hi) v1,ez,λw H3 s3 ⟨rp,fr3⟩=>k w H3 (s1.trans s3) ⟨zjn rp,λe=>?_⟩⟩
  obtain⟨a,g1,g2,g3⟩:=fr3 e
  refine⟨a,g1,s1.free g2,?_⟩
  have nf:zgp d=false:=by cases d<;>first|rfl|exact g3.elim
  show zfs (Offs (λb=>lim fx env σ (bsOf d (bss rs)) b\/b=a) H3) H3 a d
  rw[show bsOf d (bss rs)=bss rs by unfold bsOf;rw[if_neg (by rw[nf];decide)]]
  exact g3
 ·cases hr
theorem zavc{ta tb:TE}{fa fb:EF}(ha:SEb P q ta fa)(hb:SEb P q tb fb):SEb P q (tAndV ta tb) (eAnd fa fb):=by
 intro fx H0 env σ H hT h rr hr Q k
 unfold eAnd at hr
 obtain⟨x,ex,hr⟩:=qA.mp hr
 obtain⟨c,ec,hr⟩:=qA.mp hr
 refine ha fx H0 env σ H hT h _ ex _ λv H1 s1 v1=>⟨c,as_b v1.rp ec,?_⟩
 cases c with
 | true=>exact iteT (hb fx H0 env σ H1 (s1 _ _ hT) (h.up s1) _ hr _ λu H2 s2 v2=>k u H2 (s1.trans s2) (v2.later s1 (Same.refl _) λ_ z=>z))
 | false=>cases hr;exact iteF (k _ H1 s1 ⟨zbj,λz=>by cases z⟩)
theorem zavd{te:TE}{f:EF}{i:Nat}(h1:SEb P q te f):SSb P q (tAsg te (gName i)) (sSet i f):=by
 intro fx H0 env σ H D hT h o e k
 unfold sSet at e
 obtain⟨r,er,rfl⟩:=qF.mp e
 exact h1 fx H0 env σ H (h.base _ _ hT) h r er _ λv H' s hv=>k _ H' (h.put s hv i)
end
noncomputable def zuy(P:Addr)(q:Str)(K:qC)(sd:List Int->Option Int):Sp:=λvs H Q _=>TbH P q H/\∃(a:Addr)(ns:List Int)(s:Int),vs=[.ref a]/\SqL K H a (ns.map .int)/\sd ns=some s/\∀p q1 H',TbH P q H'->p≠q1->H' p=some (.lst [.ref q1,.int 0,.int s,.int 0])->H' q1=some (.lst ((ns.take 63).map .int))->Q (.ref p) H'
theorem zahp{P:Addr}{q:Str}{K:qC}{sd:List Int->Option Int}{vs:List V}{H:Hp}{Q:VK}{E:XK}(h:zuy P q K sd vs H Q E):vs.length=1:=by
 obtain⟨_,a,ns,s,rfl,_⟩:=h
 rfl
theorem zave{P:Addr}{q:Str}{K:qC}{H:Hp}{a:Addr}{ns:List Int}(hT:TbH P q H)(h:SqL K H a (ns.map .int)):∃R:Addr->Prop,(∀b,R b->∃o,H b=some o)/\zayp K H (.ref a) R ns/\¬R P:=by
 rcases h with(h|⟨o,h⟩)|h
 ·have l:∀b,b=a->∃o,H b=some o:=λb hb=>⟨_,hb▸h⟩
  exact⟨λb=>b=a,l,⟨a,rfl,λb hb=>⟨hb,l b hb⟩,.inl (.inl h),.inl rfl⟩,λz=>by rw[<- z,hT]at h;cases h⟩
 ·have l:∀b,b=a->∃o,H b=some o:=λb hb=>⟨_,hb▸h⟩
  exact⟨λb=>b=a,l,⟨a,rfl,λb hb=>⟨hb,l b hb⟩,.inl (.inr ⟨o,h⟩),.inl rfl⟩,λz=>by rw[<- z,hT]at h;cases h⟩
 ·exact⟨λ_=>False,λb hb=>hb.elim,⟨a,rfl,λb hb=>hb.elim,.inr h,.inr λ_=>.inr h⟩,λz=>z⟩
theorem zavf{P:Addr}{q:Str}{K:qC}{N:List Str}{n:Nat}{F:SFr (List Int)}{g:EF}{t1:TS}{te:TE}{r:List V->Hp->VK->Prop}(hN:N.length=n+1)(hs:SSr (scrK K) 0 t1 F)(hg:SE te g)(hl:SC r zlv){vs:List V}{H:Hp}{Q:VK}{E:XK}(h:zuy P q K (zapn F n g) vs H Q E) :
  tSeq t1 (tRet (tLst (tCons (tCB r (tCons (tSl (rSlU K) (tVar 0) tNoPart (tPart (tC (.int 63)))) tNil)) (tCons (tC (.int 0)) (tCons te (tCons (tC (.int 0)) tNil)))))) {nx:=λ_ H'=>Q .non H',rt:=Q} (zfo N vs) H:=by
 obtain⟨hT,a,ns,s,rfl,hS,es,k⟩:=h
 obtain⟨R,hR,hsc,nP⟩:=zave hT hS
 have hh:=zaah (N:=N) (k:=scrK K) (ds:=[]) (vs:=[]) (fx:=R) (by omega) hR (λb z=>z) hsc zcv
 have e0:zsf N.length []=.no::List.replicate n .no:=by
  unfold zsf zhr
  rw[hN];rfl
 rw[e0]at hh
 unfold zapn at es
 split at es
 ·rename_i env st2 eo
  split at es
  ·rename_i est
   subst est
   obtain⟨⟨d,fr,bs⟩,er,es⟩:=qA.mp es
   cases d with
   | int s'=>
    cases es
    refine hs R _ _ _ H (.ref a) R st2 _ hh _ eo λσ1 H1 h1=>?_
    have hT1:TbH P q H1:=h1.ok.base _ _ (by rw[Offs.get nP];exact hT)
    refine zarj hl (zbq (zalk (K:=K) (f:=0)) zcl) R _ env σ1 H1 (.ref a) R st2 h1 ⟨.list ((st2.take 63).map .int),true,[]⟩ st2 rfl _ λw1 H2 m2 h2 v2=>?_
    have hT2:TbH P q H2:=m2.keep _ _ nP hT1
    obtain⟨q1,rfl,_,xs,hx,rx⟩:=v2.fr rfl
    have ex:=zio rx
    subst ex
    refine hg R _ env σ1 H2 h2.ok _ er _ λw3 H3 s3 v3=>?_
    cases zdf v3.rp
    refine⟨by show 4<=_;exact zfc (by decide),λp hp=>k p q1 _ ?_ (λz=>by rw[z,s3 _ _ hx]at hp;cases hp) zar ?_⟩
    ·show upd H3 p _ P=_
     rw[zat λz=>by rw[<- z,s3 _ _ hT2]at hp;cases hp]
     exact s3 _ _ hT2
    ·rw[zat λz=>by rw[<- z,s3 _ _ hx]at hp;cases hp]
     exact s3 _ _ hx
   | _=>cases es
  ·cases es
 ·cases es
noncomputable def zagb(K:qC)(P:Addr)(q:Str):Sp:=λvs H Q _=>∃(a:Addr)(ns:List Int),vs=[.ref a]/\SqL K H a (ns.map V.int)/\TbH P q H/\∀H',TbH P q H'->Q (.bl true) H'
theorem zamd{P:Addr}{q:Str}{K:qC}{N:List Str}{n:Nat}{sd:List Int->Option Int}{F:SFr Pen}{F2:SF}{t t2:TS}{ns:List Int}{s:Int}{a:Addr}{H:Hp}{D:Ends}{st':Pen}{env':DEnv}(hN:N.length=n+2)(hs:SSr penK 1 t F)(hs2:SSb P q t2 F2)(hT:TbH P q H)(hS:SqL K H a (ns.map .int))(es:sd ns=some s)
  (ef:F (List.replicate (n+2) .no) ⟨ns.take 63,0,s,0⟩=some (.nx env' st'))(ef2:F2 env'=some (.rt (.bool true) false))(k:∀H',TbH P q H'->D.rt (.bl true) H') :
  tSeq (tAsg (tCall (zuy P q K sd) [] E0 (tCons (tVar 0) tNil)) (gName 1)) (tSeq t t2) D (zfo N [.ref a]) H:=by
 have st:zfo N [.ref a]=some (.ref a)::List.replicate (n+1) none:=by
  unfold zfo
  rw[hN];rfl
 rw[st]
 refine⟨.ref a,rfl,?_⟩
 have key:zuy P q K sd [.ref a] H (λx H1=>tSeq t t2 D ((some (V.ref a)::List.replicate (n+1) none).set 1 (some x)) H1) E0:=?_
 exact key
 refine⟨hT,a,ns,s,rfl,hS,es,λp q1 H' hT' ne hp hq=>?_⟩
 have e1:(some (V.ref a)::List.replicate (n+1) none).set 1 (some (.ref p))=some (.ref a)::some (.ref p)::List.replicate n none:=by
  rw[qAj];rfl
 dsimp only
 rw[e1]
 have noE:∀(i:Nat)(x:Sl),(List.replicate (n+2) Sl.no)[i]?=some x->x=.no:=λi x e=>by
  obtain⟨h1,h2⟩:=qM.mp e
  rw[List.getElem_replicate]at h2
  exact h2.symm
 have tb:TbH P q (λb=>if b=P then some (.tabO q)else none):=if_pos rfl
 refine hs (λb=>b=p\/b=q1) (λb=>if b=P then some (.tabO q)else none) _ _ H' (.ref p) (λb=>b=p\/b=q1) _ _ ⟨⟨?_,λi d e=>?_,λi d e=>?_,λi j d e a' z=>?_,λb o z=>?_,λb z=>?_⟩,?_,rfl,⟨p,q1,rfl,ne,hp,hq,λb=>Iff.rfl⟩,λb z=>z,λb z=>?_⟩ _ ef λσ2 H2 h2=>?_
 ·simp
 ·cases noE i _ e
 ·cases noE i _ e
 ·cases noE i _ z
 ·split at z
  ·rename_i e;cases z;rw[e];exact hT'
  ·cases z
 ·rcases z with z|z
  ·exact⟨_,z▸hp⟩
  ·exact⟨_,z▸hq⟩
 ·rw[qB6];simp
 ·rw[if_neg]
  intro e
  rcases z with z|z
  ·rw[<- z,e,hT']at hp;cases hp
  ·rw[<- z,e,hT']at hq;cases hq
 ·refine hs2 _ _ _ _ H2 _ tb h2.ok _ ef2 λw H3 s3 rt=>?_
  rw[zjl rt.1]
  exact k H3 (s3 _ _ tb)
theorem walk_tabP{l:PySem.W.OpenLaw}{n k:Nat}{q:Program}{loose:List Str}{XP:(Str->Option Value)->Heap->Prop}{YP:World->Heap->Prop}{d dt:DefRec}{K:Params->qC}{x tx lq:Str}{c TP:Addr}
  (hn:l.most=some n)(hn2:n<=qZ)(hdf:d.params.defaults=[])(hr:Room k callerA)
  (hY:∀(w:World) (h:Heap),YP w h->(K w.params).In h)
  (hrec:recDef q tx dt)(hti:∀w:World,PySem.W.tabIn (K w.params) tx=some (c,TP))(hnt:∀w:World,PySem.W.noTabs (K w.params)=true)
  (F:∀(w:World)(mg:Str->Option Value)(fa:Addr)(h:Heap),(K w.params).In h->h.Ns qm mg->mg d.name=some (.ref fa)->
   ∃fd:qr,(∀(s:Shared)(u:Value),BindsTo s fd ⟨[u],[]⟩ [(x,u)])/\
    ∀base:Heap,(K w.params).In base->base.Ns qm mg->BM mg base->PySem.W.CodeHd base c TP->FnOk l.prog w (K w.params) mg base CX0 k fa fd [x] (zagb (K w.params) TP lq)) :
  PySem.W.WalkO q loose XP YP l.row.toRowW d [] (λf vs=>PySem.call f vs):=by
 refine Att.attach_call hn hdf λw s₀ s₁ mg mb fa o pm cd doc a vs ns G Y ho hd hcd hmg hobj hints hlen hg=>?_
 have KX:=hY w _ Y
 obtain⟨fd,hb,hF⟩:=F w mg fa _ KX G.T.g hmg
 obtain⟨t1,t2⟩:=PySem.W.tab_of (x:=tx) G.T KX hrec (hti w)
 obtain⟨bm,ob,b1,b2,b3,b4,b5,b6⟩:=G.T.bmain
 exact zauh (q:=lq) KX G.T.g G.T.b G.T.builtins G.T.nolimit hg hobj hints (qAA hlen hn2) hr t1 t2 (hnt w) ⟨bm,ob,b1,b2,b3,b4,b5,b6⟩ hF hb (λH hT hS=>⟨a,ns,rfl,hS,hT,λH' s'=>⟨rfl,s'⟩⟩) λH e s' z=>z.elim
theorem zsn{X:Cx}{e:Expr}{te:TE}{p1 p2 pos1 pos2:Pos}(hc:X.calm=true)(hgl:Gl X "len")(hml:X.mg "len"=none)(hgs:Gl X "set")(hms:X.mg "set"=none)(he:Bx (PE X e te))(hs:starEach [e] X.env=(false,eval e X.env)::starEach [] X.env) :
  Bx (PE X (.Call (.Name "len" p1) [.Call (.Name "set" p2) [e] [] pos2] [] pos1) (zxj te)):=⟨zahi hc hgl hml hgs hms he.out hs⟩
theorem zadj{X:Cx}{K:qC}(hK:X.K=K){a b:Expr}{ta:TA}{p1 p2 pos1 pos2:Pos}(hc:X.calm=true)(hgd:Gl X "dict")(hmd:X.mg "dict"=none)(hgz:Gl X "zip")(hmz:X.mg "zip"=none)(ha:Bx (PA X [a,b] ta))
  (hs:starEach [a,b] X.env=(false,eval a X.env)::starEach [b] X.env)(hs2:(backTo pos2 (starEach [b] X.env)).any (·.1)=false) :
  Bx (PE X (.Call (.Name "dict" p1) [.Call (.Name "zip" p2) [a,b] [] pos2] [] pos1) (zalz K ta)):=⟨zahn hK hc hgd hmd hgz hmz ha.out hs hs2⟩
theorem zahq{X:Cx}{j:Nat}{c P:Addr}{pr:Str}{p lp pos kp:Pos}{e:Expr}{te:TE}{params:Arguments}{body:Expr}{scope:Scope}{NB:List Str}{js:List Nat}{tb:TE}(hc:X.calm=true)(hex:X.ex=[])(hr:Room (j+2) X.A)(hg:Gl X "min")(hm:X.mg "min"=none)(he:Bx (PE X e te))
  (hcode:X.env.code=.ref c)(C:PySem.W.CodeHd X.base c P)(hbm:BM X.mg X.base)(S:LamScope1 pr NB scope)(hdef:defaultsOf params X.env=([],[]))
  (hbind:∀(cl:List (Str×Addr)) (pm cd ctv u:Value),bindArgs (PySem.W.kla_fn "<lambda>" (lamQ X) params body scope cl pm cd ctv) ⟨[u],[]⟩=pure [(pr,u)])
  (hfr:frB scope X.env.scope=true)(hjs:js.map (λi=>X.N[i]?)=NB.map some)
  (hB:∀(A:Around)(outer:List Env)(s:Shared)(H:Hp)(g c':Addr)(cl:List (Str×Addr)),Room j (A.deeper (PySem.W.envX (lamQ X) scope s.heap.objs.size g (.ref c') cl))->Bx (PE (zakh CX0 X.prog X.w X.K X.mg X.base (pr::NB) (lamQ X) scope g (.ref c') cl A outer s H E0) body tb))
  (hs:starEach [e] X.env=(false,eval e X.env)::starEach [] X.env) :
  Bx (PE X (.Call (.Name "min" p) [e] [⟨some "key",.Lambda params body scope lp,kp⟩] pos) (zava P (lamQ X) js te λ_=>tb)):=⟨zals hc hex hr hg hm he.out hcode C hbm S hdef hbind hfr hjs (λA outer s H g c' cl rm=>(hB A outer s H g c' cl rm).out) hs⟩
noncomputable def zarn:V->List V->Hp->VK->Prop:=λx vs H Q=>∃l xs y,∃(j:Nat),∃z,x=.ref l/\vs=[y]/\H l=some (.lst xs)/\znp y=true/\xs.all znp=true/\xs[j]?=some z/\eqV z y=true/\(∀m z,m<j->xs[m]?=some z->eqV z y=false)/\j<100000/\Q (.int (j:Int)) H
theorem zaqa{X:Cx}:MtR X "list.index" zarn:=by
 intro pins s σ H x vs v us Q I rx rv h
 obtain⟨l,xs,y,j,z,rfl,rfl,hH,fy,fs,hj,hz,hno,hlt,q⟩:=h
 cases rx
 obtain⟨u,rfl,ru⟩:=rv.one
 obtain⟨_,its,n,r,hl,e⟩:=I.lstM hH
 have fl:∀{m:Nat}{z:V},xs[m]?=some z->znp z=true:=λ{m z} hm=>qAE.mp fs z (qAe hm)
 have lk:∀(m:Nat)(hm:m<its.toArray.size),∃z,xs[m]?=some z/\eqU y its.toArray[m]=eqV z y:=λm hm=>by
  have hm':m<xs.length:=by rw[hl];simpa using hm
  obtain⟨w,hw,rw'⟩:=r.get (qH hm')
  refine⟨xs[m],qH hm',?_⟩
  have:its.toArray[m]=w:=by
   have h1:its[m]?=some its.toArray[m]:=by
    rw[qH (by simpa using hm)];simp
   rw[hw]at h1
   exact(qY h1).symm
  rw[this]
  exact zajd rw' (fl (qH hm'))
 have hjx:j<xs.length:=(qM.mp hj).1
 have hjs:j<its.toArray.size:=by rw[qS,<- hl];exact hjx
 refine qBO F.slot_list_index ⟨_,e,rfl⟩ F.entry_list_index (F.args_list_index_2 _ _) (qCW l its.toArray n none #[] u (eqU y) j hjs (by omega) ?_ ?_) ⟨e,λw hw=>zku ru fy r fs w (by simpa using hw),?_⟩
 ·obtain⟨z',h1,h2⟩:=lk j hjs
  rw[hj]at h1
  cases h1
  rw[h2];exact hz
 ·intro m hm hlt
  obtain⟨z',h1,h2⟩:=lk m hm
  rw[h2];exact hno m z' hlt h1
 ·exact⟨.int j,H,I.tok _,⟨_,rfl⟩,q⟩
noncomputable def zmw(a b:EF):EF:=λenv=>(a env).bind λx=>(b env).bind λy=>match x.d with
 | .list ds=>if zgp y.d=true/\zdm ds=true/\ds.length<=100000 then(ds.findIdx? λe=>qX e y.d).map λ(j:Nat)=>(⟨.int (j:Int),false,[]⟩:Val)else none
 | _=>none
theorem zaqb{K:qC}{ta tb:TE}{a b:EF}(h1:SE ta a)(h2:SE tb b):SE (tBM K "list" zarn ta (tCons tb tNil)) (zmw a b):=by
 intro fx H0 env σ H h rr hr Q q
 unfold zmw at hr
 obtain⟨⟨xd,xf,xb⟩,ex,hr⟩:=qA.mp hr
 obtain⟨⟨yd,yf,yb⟩,ey,hr⟩:=qA.mp hr
 cases xd with
 | list ds=>
  have hr:(if zgp yd=true/\zdm ds=true/\ds.length<=100000 then(ds.findIdx? λe=>qX e yd).map λ(j:Nat)=>(⟨.int (j:Int),false,[]⟩:Val)else none)=some rr:=hr
  split at hr
  ·rename_i hf
   obtain⟨j,ej,rfl⟩:=qF.mp hr
   refine h1 fx H0 env σ H h _ ex _ λv H1 s1 v1=>?_
   obtain⟨p,xs,rfl,hp,rx⟩:=zde v1.rp
   have hp:=zco hp
   refine⟨.inl ⟨rfl,_,SqL.of hp⟩,h2 fx H0 env σ H1 (h.up s1) _ ey _ λu H2 s2 v2=>?_⟩
   have ru:=Rp.same (Offs.same _ _) _ v2.rp
   have rx2:=Rps.same ((Offs.same _ _).trans s2) _ rx
   obtain⟨hj,hhit,hno⟩:=qAU.mp ej
   have hjx:j<xs.length:=by rw[<- rx.length];exact hj
   have at_:∀(m:Nat)(hm:m<ds.length)(z:V),xs[m]?=some z->eqV z u=qX ds[m] yd:=λm hm z hz=>by
    obtain⟨d',hd',rz⟩:=rx2.get hz
    rw[qH hm]at hd'
    cases hd'
    exact zaka (qAE.mp hf.2.1 _ (qA9 hm)) hf.1 rz ru
   refine⟨p,xs,u,j,xs[j],rfl,rfl,s2 _ _ hp,zajy hf.1 ru,zajz hf.2.1 rx2,qH hjx,?_,λm z hm hz=>?_,by omega,q _ H2 (s1.trans s2) ⟨zad,λz=>by cases z⟩⟩
   ·rw[at_ j hj _ (qH hjx)];exact hhit
   ·have hml:m<ds.length:=by omega
    rw[at_ m hml z hz]
    have:=hno m hm
    simpa using this
  ·cases hr
 | _=>cases hr
noncomputable def zame(K:qC):V->List V->Hp->VK->Prop:=λx vs H Q=>∃(l:Addr)(y:V)(ds:List PyData)(d:PyData)(j:Nat),x=.ref l/\vs=[y]/\Rep K H (.list ds) (.ref l)/\Rep K H d y/\qt (.list ds)=true/\qt d=true/\(ds.findIdx? λe=>qX e d)=some j/\j<100000/\Q (.int (j:Int)) H
theorem zpi{h:Heap}:∀{vs:List Value}{xs:List PyData}{as:List Addr},ReadsAll h vs xs as->vs.length=xs.length
 | _,[],_,r=>by cases r;rfl
 | _,x::xs,_,r=>by cases r with|cons r1 r2=>rw[qy,qy,zpi r2]
theorem zamf{X:Cx}{K:qC}(hK:X.K=K)(hu:X.A.units+64<cLine):MtR X "list.index" (zame K):=by
 subst hK
 intro pins s σ H x vs v us Q I rx rv h
 obtain⟨l,y,ds,d,j,rfl,rfl,hr,hy,sl,sy,ej,hlt,q⟩:=h
 cases rx
 obtain⟨u,rfl,ru⟩:=rv.one
 obtain⟨as,r1⟩:=zec I _ hr (u:=.ref l) rfl
 obtain⟨bs,r2⟩:=zec I d hy ru
 obtain⟨l1,p1⟩:=shp sl
 obtain⟨l2,p2⟩:=shp sy
 have p1:qe ds+1<=64:=p1
 cases r1 with
 | list h1 h2 h3 h4=>
  rename_i o items n as'
  obtain⟨oc,od,odt,os⟩:=o
  simp only at h2 h3
  subst h2 h3
  have hm:=SeqAt.readsAll_map ds _ _ l1 h4
  have hlen:=zpi h4
  obtain⟨hj,hhit,hno⟩:=qAU.mp ej
  have at_:∀(m:Nat)(hm':m<items.size)(hd:m<ds.length),SeqAt.readOf s.heap items[m]=ds[m]:=λm hm' hd=>by
   have:(items.toList.map (SeqAt.readOf s.heap))[m]?=ds[m]?:=by rw[hm]
   rw[qh,qH (by simpa using hm'),qH hd]at this
   simpa using this
  have hjs:j<items.size:=by rw[<- qAr,hlen];exact hj
  refine qBO F.slot_list_index ⟨_,h1,rfl⟩ F.entry_list_index (F.args_list_index_2 _ _) (qCW l items n od os u (λz=>qX (SeqAt.readOf s.heap z) d) j hjs (by omega) ?_ ?_) ⟨h1,SeqAt.items_eqAt h4 r2 l1 l2 (by have:=qBV (qe ds) d.depth;omega),?_⟩
  ·show qX (SeqAt.readOf s.heap items[j]) d=true
   rw[at_ j hjs hj];exact hhit
  ·intro m hm' hml
   have hmd:m<ds.length:=by omega
   show qX (SeqAt.readOf s.heap items[m]) d=false
   rw[at_ m hm' hmd]
   have:=hno m hml
   simpa using this
  ·exact⟨.int j,H,I.tok _,⟨_,rfl⟩,q⟩
noncomputable def zadk(c d:PyData):Option Int:=match c with
 | .list ds=>if qt (.list ds)=true/\qt d=true/\ds.length<=100000 then(ds.findIdx? λe=>qX e d).map λ(j:Nat)=>(j:Int)else none
 | _=>none
noncomputable def zso(a b:EF):EF:=λenv=>(a env).bind λx=>(b env).bind λy=>(zadk x.d y.d).map λj=>(⟨.int j,false,[]⟩:Val)
theorem zamg{K:qC}{ta tb:TE}{a b:EF}(h1:SE ta a)(h2:SE tb b):SE (tBM K "list" (zame K) ta (tCons tb tNil)) (zso a b):=by
 intro fx H0 env σ H h rr hr Q q
 unfold zso at hr
 obtain⟨⟨xd,xf,xb⟩,ex,hr⟩:=qA.mp hr
 obtain⟨⟨yd,yf,yb⟩,ey,hr⟩:=qA.mp hr
 obtain⟨jj,ejj,rfl⟩:=qF.mp hr
 cases xd with
 | list ds=>
  have ejj:(if qt (.list ds)=true/\qt yd=true/\ds.length<=100000 then(ds.findIdx? λe=>qX e yd).map λ(j:Nat)=>(j:Int)else none)=some jj:=ejj
  split at ejj
  ·rename_i hf
   obtain⟨j,ej,rfl⟩:=qF.mp ejj
   refine h1 fx H0 env σ H h _ ex _ λv H1 s1 v1=>?_
   obtain⟨p,xs,rfl,hp,rx⟩:=zde v1.rp
   have hp':=zco hp
   refine⟨.inl ⟨rfl,_,SqL.of hp'⟩,h2 fx H0 env σ H1 (h.up s1) _ ey _ λu H2 s2 v2=>?_⟩
   have ru:=zmj (K:=K) (qAS hf.2.1) (Rp.same (Offs.same _ _) _ v2.rp)
   have rl:Rep K H2 (.list ds) (.ref p):=zmj (qAS hf.1) (Rp.same ((Offs.same _ _).trans s2) _ v1.rp)
   obtain⟨hj,_,_⟩:=qAU.mp ej
   exact⟨p,u,ds,yd,j,rfl,rfl,rl,ru,hf.1,hf.2.1,ej,by omega,q _ H2 (s1.trans s2) ⟨zad,λz=>by cases z⟩⟩
  ·cases ejj
 | _=>cases ejj
section
variable{P:Program}{w:World}{K:qC}{h:Heap}{mg:Str->Option Value}{base:Heap}{x:Str}{st:Stmt}{f:Addr}{fd:qr}{ps:List Str}{k:Nat}{sp:Sp}
structure DefIn(K:qC)(x:Str)(st:Stmt)(f:Addr)(fd:qr):Prop where
 ns:qAK K qm x=some (some (.ref f))
 fn:Fun K x x st f fd
theorem def_mk{oc:Value}{od an:Option Addr}{osl:Array (Option Value)}{kV doc pm cdv ct:Value}(a:qAK K qm x=some (some (.ref f)))(l:K.lookup f=some ⟨oc,od,.func (qAq x x (zhv st) (zgo st) (zal st) .none kV doc pm an cdv ct),osl⟩)
  (c:qCE K cdv x=true) (k:qBY K (.ref f)=true):DefIn K x st f (qAq x x (zhv st) (zgo st) (zal st) .none kV doc pm an cdv ct):=⟨a,zaxj l c k⟩
theorem DefIn.b1{p:Str}(d:DefIn K x st f fd)(h:∀(kV doc pm:Value) (an:Option Addr) (cdv ct a:Value),bindArgs (qAq x x (zhv st) (zgo st) (zal st) .none kV doc pm an cdv ct) ⟨[a],[]⟩=pure [(p,a)]):zrl K fd [p] []:=
 d.fn.binds λkV doc pm an cdv ct us hl=>match us,hl with|[a],_=>h kV doc pm an cdv ct a
theorem DefIn.b2{p q:Str}(d:DefIn K x st f fd)(h:∀(kV doc pm:Value) (an:Option Addr) (cdv ct a b:Value),bindArgs (qAq x x (zhv st) (zgo st) (zal st) .none kV doc pm an cdv ct) ⟨[a,b],[]⟩=pure [(p,a),(q,b)]):zrl K fd [p,q] []:=
 d.fn.binds λkV doc pm an cdv ct us hl=>match us,hl with|[a,b],_=>h kV doc pm an cdv ct a b
theorem DefIn.b3{p q r:Str}(d:DefIn K x st f fd)(h:∀(kV doc pm:Value) (an:Option Addr) (cdv ct a b c:Value),bindArgs (qAq x x (zhv st) (zgo st) (zal st) .none kV doc pm an cdv ct) ⟨[a,b,c],[]⟩=pure [(p,a),(q,b),(r,c)]):zrl K fd [p,q,r] []:=
 d.fn.binds λkV doc pm an cdv ct us hl=>match us,hl with|[a,b,c],_=>h kV doc pm an cdv ct a b c
theorem DefIn.dn(d:DefIn K x st f fd)(X:K.In h)(G:h.Ns qm mg)(ok:FnOk P w K mg base CX0 k f fd ps sp)(b:zrl K fd ps []):Dn P w K mg base x ps k sp:=⟨f,fd,ok,qBy X G d.ns,d.fn.kp,b⟩
theorem DefIn.code{c T:Addr}(d:DefIn K x st f fd)(X:K.In h)(G:h.Ns qm mg)(ht:PySem.W.tabIn K x=some (c,T)):fd.code=.ref c:=by
 obtain⟨oc,od,kV,doc,pm,an,cdv,ct,osl,rfl,lk,hcd⟩:=d.fn.ex
 exact PySem.W.law_code X G ht (qBy X G d.ns) (X _ _ lk) rfl
universe u9
end
end L2
namespace Bc
open PySem L2
noncomputable def zif:SF:=(sRet (zdb ["name","elders"] [] (zap (eVar 0)) (gT 2 (zba 0 (zba 1 zft))) zbi (eVar 0)))
noncomputable def zex:GF:=fnD 1 zif
noncomputable def zfj:SF:=(sSeq (sSet 2 (zas 1 zex (zaa (eVar 0) aNil)))
  (sFor (zap (eVar 1)) (gN 3)
  (sIf (zck (eOp (inD true) (eVar 3) (eVar 2))) zafj sNil)))
noncomputable def zfk:GF:=fnD 4 zfj
noncomputable def zuz:SF:=(sSeq (sSet 1 zatj)
  (sSeq (sFor (zap (eVar 0)) (gT 2 (zba 2 (zba 3 zft)))
  (sSeq (sSet 4 (eD1 (eVar 2) (eC (.bool true))))
  (sSeq (sFor (zap (eVar 3)) (gN 5)
  (sUpd 4 (zhf 1 (eVar 5))))
  (sPut 1 (eVar 2) (eVar 4)))))
  (zqj 1)))
noncomputable def zey:GF:=fnD 6 zuz
theorem zgk{α:Type}{enc out:α->PyData}{g:GT}{t:TF}{e:EF}{env:DEnv}(p:α->Bool):∀{l:List α},(∀x∈l,∃e1,g (enc x) env=some e1/\t e1=some (p x)/\(p x=true->∃r,e e1=some r/\r.d=out x))->
  zdl g t e env (l.map enc)=some ((l.filter p).map out)
 | [],_=>rfl
 | x::l,h=>by
  obtain⟨e1,h1,h2,h3⟩:=h x qR
  have ih:=zgk (l:=l) p λy hy=>h y (qL _ hy)
  rw[qa]
  unfold zdl
  rw[h1,qQ,h2,qQ]
  cases hp:p x with
  | false=>
   rw[if_neg qV,ih,List.filter_cons,hp];rfl
  | true=>
   obtain⟨r,h4,h5⟩:=h3 hp
   rw[if_pos rfl,h4,qQ,ih,List.filter_cons,hp]
   simp[h5]
theorem zbw{α:Type}{enc out:α->PyData}{g:GT}{t:TF}{e:EF}{env:DEnv}{l:List α}(h:∀x∈l,∃e1,g (enc x) env=some e1/\t e1=some true/\∃r,e e1=some r/\r.d=out x):zdl g t e env (l.map enc)=some (l.map out):=by
 have q:=zgk (enc:=enc) (out:=out) (g:=g) (t:=t) (e:=e) (env:=env) (λ_=>true) (l:=l) λx hx=>let⟨e1,h1,h2,h3⟩:=h x hx;⟨e1,h1,h2,λ_=>h3⟩
 rw[q]
 congr 2
 exact List.filter_eq_self.mpr λ_ _=>rfl
theorem zagc{α:Type}{enc:α->PyData}{g:GT}{body:SF}(I:List α->DEnv->Prop)(all:List α):∀(l pre:List α)(env:DEnv),pre++l=all->I pre env->
  (∀pre x post env,pre++x::post=all->I pre env->∃e1 e2,g (enc x) env=some e1/\(body e1=some (.nx e2)\/body e1=some (.ct e2))/\I (pre++[x]) e2)->∃env',forL g body (l.map enc) env=some (.nx env')/\I all env'
 | [],pre,env,hall,h0,hs=>by
  rw[qAD]at hall
  subst hall
  exact⟨env,rfl,h0⟩
 | x::l,pre,env,hall,h0,hs=>by
  obtain⟨e1,e2,h1,h2,h3⟩:=hs pre x l env hall h0
  obtain⟨env',h4,h5⟩:=zagc I all l (pre++[x]) e2 (by rw[<- hall];simp) h3 hs
  refine⟨env',?_,h5⟩
  rw[qa]
  unfold forL
  rw[h1,qQ]
  rcases h2 with h2|h2<;>rw[h2,qQ]<;>exact h4
theorem zhh{α:Type}{enc:α->PyData}{g:GT}{body:SF}{l:List α}{env:DEnv}(I:List α->DEnv->Prop)(h0:I [] env)(hs:∀pre x post env,pre++x::post=l->I pre env->∃e1 e2,g (enc x) env=some e1/\(body e1=some (.nx e2)\/body e1=some (.ct e2))/\I (pre++[x]) e2) :
  ∃env',forL g body (l.map enc) env=some (.nx env')/\I l env':=zagc I l l [] env rfl h0 hs
noncomputable def zbz(cs:List Int):PyData:=.list (cs.map .int)
theorem zbf{f g:SF}{env e1:DEnv}{o:Option Out}(h:f env=some (.nx e1))(k:g e1=o):sSeq f g env=o:=by unfold sSeq;rw[h];exact k
theorem zamh{f g:SF}{env:DEnv}{d:PyData}{fr:Bool}(h:f env=some (.rt d fr)):sSeq f g env=some (.rt d fr):=by unfold sSeq;rw[h];rfl
theorem zir{f:EF}{g:GT}{b:SF}{env:DEnv}{ds:List PyData}{fr:Bool}{bs:List Nat}{o:Option Out}(h:f env=some ⟨.list ds,fr,bs⟩)(k:forL g b ds (frzs env bs)=o):sFor (zap f) g b env=o:=by
 unfold sFor zap;rw[h];exact k
theorem if_t{c:TF}{f g:SF}{env:DEnv}{o:Option Out}(h:c env=some true)(k:f env=o):sIf c f g env=o:=by unfold sIf;rw[h];exact k
theorem if_f{c:TF}{f g:SF}{env:DEnv}{o:Option Out}(h:c env=some false)(k:g env=o):sIf c f g env=o:=by unfold sIf;rw[h];exact k
theorem zgt{i:Nat}{f:EF}{env:DEnv}{r:Val}(h:f env=some r):sSet i f env=some (.nx (putV env i r)):=by unfold sSet;rw[h];rfl
theorem zami{f:EF}{env:DEnv}{r:Val}(h:f env=some r):zagw f env=some (.nx env):=by unfold zagw;rw[h];rfl
theorem zez{f:EF}{env:DEnv}{d:PyData}{fr:Bool}{bs:List Nat}(h:f env=some ⟨d,fr,bs⟩):sRet f env=some (.rt d fr):=by unfold sRet;rw[h];rfl
theorem zay{n:Nat}{g:GF}{f:AF}{env:DEnv}{rs:List Val}{d:PyData}{fr:Bool}(h:f env=some rs)(hn:rs.length=n)(k:g (zfp rs)=some (d,fr)):zas n g f env=some ⟨d,fr,bsOf d (bss rs)⟩:=by
 unfold zas;rw[h,qQ,if_pos hn,k];rfl
theorem zdy{own:List Str}{fr:List Nat}{fi:IF'}{g:GT}{t:TF}{e:EF}{env:DEnv}{ds:List PyData}{bs:List Nat}{rs:List PyData}(h:fi env=some (ds,bs))(hl:ds.length<100000)(k:zdl g t e (envB own fr env) ds=some rs) :
  zdb own fr fi g t e env=some ⟨.list rs,true,if zdm rs=true then[]else bs++capA fr env⟩:=by
 unfold zdb;rw[h,qQ,if_pos hl,k];rfl
theorem zhn{n:Nat}{f:SF}{ds:List PyData}{env:DEnv}{d:PyData}{fr:Bool}(h:zhr n ds=env)(e:f env=some (.rt d fr)):fnD n f ds=some (d,fr):=by
 unfold fnD;rw[h,e]
theorem zbaz{n:Nat}{f:SF}{ds:List PyData}{env env':DEnv}(h:zhr n ds=env)(e:f env=some (.nx env')):fnD n f ds=some (.none,false):=by
 unfold fnD;rw[h,e]
theorem zsp(n:Int):neD (.int n) (.int n)=some (.bool false,false):=by
 have e:qX (.int n) (.int n)=true:=by unfold qX;exact beq_self_eq_true n
 show some (PyData.bool (!PyData.eqv (.int n) (.int n)),false)=_
 rw[e];rfl
noncomputable def zak(xs:List Str):PyData:=.list (xs.map .str)
noncomputable def rowD(p:Str×List Str):PyData:=.tuple [.str p.1,zak p.2]
noncomputable def webD(W:Web):PyData:=.list (W.map rowD)
theorem zva(xs:List Str):zdm (xs.map .str)=true:=by
 unfold zdm
 rw[qC9]
 exact qAE.mpr λ_ _=>rfl
theorem zaqc(xs:List Str)(x:Str):((xs.map PyData.str).any λe=>qX e (.str x))=decide (x∈xs):=by
 rw[qCJ,qAt,qAn,decide_eq_true_iff]
 constructor
 ·rintro⟨y,hy,h⟩
  have:y=x:=by simpa [qX]using h
  rw[<- this];exact hy
 ·exact λh=>⟨x,h,by simp[qX]⟩
theorem zamj(b:Bool)(xs:List Str)(x:Str):inD b (.str x) (zak xs)=some (.bool (if b then !decide (x∈xs)else decide (x∈xs)),false):=by
 unfold inD zak
 simp only[zfd]
 rw[if_pos ⟨rfl,zva xs⟩,zaqc]
theorem zvb{W:Web}(hl:W.length<100000):zex [webD W]=some (zak (nm W),true):=by
 have c:zdl (gT 2 (zba 0 (zba 1 zft))) zbi (eVar 0) [.no,.no] (W.map rowD)=some (W.map λp=>PyData.str p.1):=zbw λp _=>⟨[.pl (.str p.1),.pl (zak p.2)],rfl,rfl,⟨.str p.1,false,[]⟩,rfl,rfl⟩
 have e:zif [.pl (webD W)]=some (.rt (zak (nm W)) true):=by
  unfold zif sRet zdb zap
  simp only[eVar,qA6,qQ,webD,zfd,qBB,qG]
  rw[if_pos hl]
  show Option.map _ (Option.map _ (zdl _ _ _ [.no,.no] _))=_
  rw[c]
  unfold zak nm
  simp
 show(match zif [.pl (webD W)]with|some (.rt d fr)=>some (d,fr)|some (.nx _)=>some (.none,false)|_=>none)=_
 rw[e]
theorem zxl{W:Web}(hl:W.length<100000){ns:List Str}(h:∀n∈ns,n∈nm W):zfk [webD W,zak ns]=some (.none,false):=by
 have l:∃env',forL (gN 3) (sIf (zck (eOp (inD true) (eVar 3) (eVar 2))) zafj sNil) (ns.map .str) [.pl (webD W),.pl (zak ns),.ac (zak (nm W)),.no]=some (.nx env')/\True:=by
  refine zhh (λ_ env=>∃s,env=[.pl (webD W),.pl (zak ns),.ac (zak (nm W)),s]) ⟨_,rfl⟩ ?_ |>.imp λ_ q=>⟨q.1,trivial⟩
  rintro pre x post env hx ⟨s,rfl⟩
  have hm:=h x (by rw[<- hx];simp)
  refine⟨_,[.pl (webD W),.pl (zak ns),.ac (zak (nm W)),.pl (.str x)],rfl,.inl ?_,_,rfl⟩
  simp[sIf,zck,eOp,eVar,sNil,zamj,hm,bsOf,zgp]
 obtain⟨env',l,_⟩:=l
 have e:zfj [.pl (webD W),.pl (zak ns),.no,.no]=some (.nx env'):=by
  unfold zfj sSeq sSet zas sFor zap
  simp only[zaa,aNil,eVar,qA6,qBR,qQ,qBB,zfp,qa,qCF,qy,qCH,zvb hl,if_true]
  simp[putV,frzs,bsOf,zak,zgp,bss,slOf,zfd]
  exact l
 show(match zfj [.pl (webD W),.pl (zak ns),.no,.no]with|some (.rt d fr)=>some (d,fr)|some (.nx _)=>some (.none,false)|_=>none)=_
 rw[e]
noncomputable def insS(ks:List Str)(k:Str):List Str:=if k∈ks then ks else ks++[k]
noncomputable def upL(acc:List (Str×List Str))(e:Str):List Str:=(acc.lookup e).getD []
noncomputable def zjx(acc:List (Str×List Str))(p:Str×List Str):List (Str×List Str):=acc++[(p.1,p.2.foldl (λks e=>(upL acc e).foldl insS ks) [p.1])]
noncomputable def ups(W:Web):List (Str×List Str):=W.foldl zjx []
noncomputable def up(W:Web)(n:Str):List Str:=upL (ups W) n
theorem zky(W:Web)(p:Str×List Str):ups (W++[p])=zjx (ups W) p:=by unfold ups;rw[qBG];rfl
theorem zaqd{ks:List Str}{k x:Str}:x∈insS ks k↔x∈ks\/x=k:=by
 unfold insS
 split
 ·rename_i h
  exact⟨.inl,λz=>z.elim id λe=>e▸h⟩
 ·simp
theorem zsq{x:Str}:∀{ms ks:List Str},x∈ms.foldl insS ks↔x∈ks\/x∈ms
 | [],ks=>by simp
 | m::ms,ks=>by
  rw[qA4,zsq,zaqd]
  simp[or_assoc]
theorem zavg{ks:List Str}{k:Str}(h:ks.Nodup):(insS ks k).Nodup:=by
 unfold insS
 split
 ·exact h
 ·rename_i hk;exact nd_snoc h hk
theorem zxm:∀{ms ks:List Str},ks.Nodup->(ms.foldl insS ks).Nodup
 | [],_,h=>h
 | _::ms,_,h=>zxm (ms:=ms) (zavg h)
theorem zadl{acc:List (Str×List Str)}{x:Str}:∀{es ks:List Str},x∈es.foldl (λks e=>(upL acc e).foldl insS ks) ks↔x∈ks\/∃e∈es,x∈upL acc e
 | [],ks=>by simp
 | e::es,ks=>by
  rw[qA4,zadl,zsq]
  simp[or_assoc]
theorem zamk{acc:List (Str×List Str)}:∀{es ks:List Str},ks.Nodup->(es.foldl (λks e=>(upL acc e).foldl insS ks) ks).Nodup
 | [],_,h=>h
 | _::es,_,h=>zamk (es:=es) (zxm h)
theorem zgy{l:List (Str×List Str)}{n:Str}{p:Str×List Str}:(l++[p]).lookup n=(l.lookup n).or (if n==p.1 then some p.2 else none):=by
 induction l with
 | nil=>
  obtain⟨a,b⟩:=p
  show List.lookup n [(a,b)]=_
  rw[qAI]
  cases n==a<;>rfl
 | cons q l ih=>
  obtain⟨a,b⟩:=q
  rw[qCA,qAI,qAI]
  cases n==a with
  | true=>rfl
  | false=>exact ih
theorem zxn{α:Type}{P:List α->Prop}(h0:P [])(hs:∀l x,P l->P (l++[x])):∀l,P l:=by
 intro l
 have:∀n (l:List α),l.length=n->P l:=by
  intro n
  induction n with
  | zero=>intro l e;rw[qBQ.mp e];exact h0
  | succ n ih=>
   intro l e
   have hne:l≠[]:=λz=>by rw[z]at e;cases e
   rw[<- List.dropLast_concat_getLast hne]
   exact hs _ _ (ih _ (by rw[qDG,e];rfl))
 exact this _ l rfl
theorem zis:∀(W:Web),(ups W).map (·.1)=nm W:=by
 refine zxn rfl λW p ih=>?_
 rw[zky]
 unfold zjx nm
 rw[qAF,qAF,ih]
 rfl
theorem zsr(W:Web)(p:Str×List Str):nm (W++[p])=nm W++[p.1]:=by unfold nm;rw[qAF];rfl
theorem zkz{W:Web}{p:Str×List Str}(h:WebOk (W++[p])):WebOk W/\p.1∉nm W/\(∀e∈p.2,e∈nm W)/\p.2.length<=4:=by
 have hp:(W++[p])[W.length]?=some p:=by simp
 refine⟨⟨?_,λi n es e=>?_,λq hq=>h.few q (qi _ hq),?_⟩,?_,λe he=>?_,h.few p (by simp)⟩
 ·have:=h.nd;rw[zsr]at this;exact(qBa.mp this).1
 ·have hi:i<W.length:=(qM.mp e).1
  have q:=h.el i n es (by rw[qk hi];exact e)
  rw[qBh (by omega)]at q
  exact q
 ·have:=h.len;simp at this;omega
 ·have:=h.nd
  rw[zsr]at this
  intro hm
  exact(qBa.mp this).2.2 p.1 hm p.1 (by simp) rfl
 ·have q:=h.el W.length p.1 p.2 hp e he
  rw[qBh (qN _),List.take_length]at q
  exact q
theorem zly{l:List (Str×List Str)}{n:Str}(h:n∈l.map (·.1)):∃ks,l.lookup n=some ks/\(n,ks)∈l:=by
 induction l with
 | nil=>simp at h
 | cons q l ih=>
  obtain⟨a,b⟩:=q
  rw[qAI]
  cases e:n==a with
  | true=>rw[eq_of_beq e];exact⟨b,rfl,qR⟩
  | false=>
   have hn:n≠a:=beq_eq_false_iff_ne.mp e
   rcases qJ.mp h with z|z
   ·exact absurd z hn
   ·obtain⟨ks,h1,h2⟩:=ih z
    exact⟨ks,h1,qL _ h2⟩
theorem zavh{W:Web}{p:Str×List Str}{m:Str}(h:m∈nm W):up (W++[p]) m=up W m:=by
 unfold up upL
 rw[zky]
 unfold zjx
 obtain⟨ks,e,_⟩:=zly (l:=ups W) (n:=m) (by rw[zis];exact h)
 rw[zgy,e]
 rfl
theorem zss{l:List (Str×List Str)}{n:Str}(h:n∉l.map (·.1)):l.lookup n=none:=by
 induction l with
 | nil=>rfl
 | cons q l ih=>
  obtain⟨a,b⟩:=q
  rw[qAI]
  have h1:n≠a:=λz=>h (by simp[z])
  rw[beq_eq_false_iff_ne.mpr h1]
  exact ih λz=>h (qL _ z)
theorem zaza{W:Web}{p:Str×List Str}(h:p.1∉nm W):up (W++[p]) p.1=p.2.foldl (λks e=>(upL (ups W) e).foldl insS ks) [p.1]:=by
 unfold up upL
 rw[zky]
 unfold zjx
 rw[zgy,zss (by rw[zis];exact h)]
 simp[upL]
theorem zaml:∀{W:Web},WebOk W->∀{n x:Str},x∈up W n->x∈nm W:=by
 intro W
 refine zxn (P:=λW=>WebOk W->∀{n x:Str},x∈up W n->x∈nm W) (λ_ n x h=>by simp[up,ups,upL]at h) (λW p ih h n x hx=>?_) W
 obtain⟨hW,hp,hel,_⟩:=zkz h
 rw[zsr]
 by_cases hn:n∈nm W
 ·rw[zavh hn]at hx
  exact qi _ (ih hW hx)
 ·by_cases e:n=p.1
  ·rw[e,zaza hp,zadl]at hx
   rcases hx with hx|⟨e',_,hx⟩
   ·exact qI _ (by simpa using hx)
   ·exact qi _ (ih hW hx)
  ·unfold up upL at hx
   rw[zky]at hx
   unfold zjx at hx
   rw[zgy,zss (by rw[zis];exact hn),beq_eq_false_iff_ne.mpr e]at hx
   simp at hx
theorem zbba:∀{W:Web}{n:Str},(up W n).Nodup:=by
 intro W
 refine zxn (P:=λW=>∀{n:Str},(up W n).Nodup) (λ{n}=>by simp[up,ups,upL]) (λW p ih n=>?_) W
 unfold up upL
 rw[zky]
 unfold zjx
 rw[zgy]
 cases e:(ups W).lookup n with
 | some ks=>
  have q:=ih (n:=n)
  unfold up upL at q
  rw[e]at q
  exact q
 | none=>
  show((if n==p.1 then some _ else none).getD []).Nodup
  split
  ·exact zamk (by simp)
  ·exact qCo
theorem zaro{W:Web}(h:WebOk W)(n:Str):(up W n).length<=12:=by
 have:=zjk _ (nm W) (zbba (W:=W) (n:=n)) λx hx=>zaml h hx
 have:=zaff h
 omega
noncomputable def dS(f:List Str->PyData)(l:List (Str×List Str)):List (PyData×PyData):=l.map λp=>(.str p.1,f p.2)
theorem zxo(f:List Str->PyData)(n:Str):∀l:List (Str×List Str),zmk (dS f l) (Sum.inr n)=(l.lookup n).map f
 | []=>rfl
 | (a,b)::l=>by
  have ih:=zxo f n l
  show(if keyD (.str a)=some (Sum.inr n)then some (f b)else zmk (dS f l) (Sum.inr n))=_
  rw[qAI]
  by_cases e:a=n
  ·subst e;rw[if_pos (show keyD (.str a)=some (Sum.inr a)from rfl),beq_self_eq_true];rfl
  ·rw[if_neg (show ¬keyD (.str a)=some (Sum.inr n)from λz=>e (qCM (qY z))),beq_eq_false_iff_ne.mpr (qAv e)]
   exact ih
theorem zavi(f:List Str->PyData){l:List (Str×List Str)}{n:Str}{ks:List Str}(h:n∉l.map (·.1)):ztw (dS f l) (.str n) (f ks)=dS f (l++[(n,ks)]):=by
 unfold ztw dS
 rw[if_neg,qAF]
 ·rfl
 ·intro z
  rw[qCJ,qAn]at z
  obtain⟨p,hp,e⟩:=z
  have e:=of_decide_eq_true e
  exact h (qu.mpr ⟨p,hp,qCM (qY e)⟩)
noncomputable def zho(ks:List Str):List (PyData×PyData):=ks.map λk=>(.str k,.bool true)
noncomputable def zbc(ks:List Str):PyData:=.dict (zho ks)
theorem zaax(x:Str):∀ks:List Str,zacx (zho ks) (Sum.inr x)=decide (x∈ks)
 | []=>by simp[zho,zacx,zmk]
 | k::ks=>by
  have ih:=zaax x ks
  unfold zacx at ih ⊢
  show(if keyD (.str k)=some (Sum.inr x)then some (PyData.bool true)else zmk (zho ks) (Sum.inr x)).isSome=_
  by_cases e:k=x
  ·subst e;rw[if_pos (show keyD (.str k)=some (Sum.inr k)from rfl)];simp
  ·rw[if_neg (show ¬keyD (.str k)=some (Sum.inr x)from λz=>e (qCM (qY z))),ih]
   have:¬x=k:=λz=>e z.symm
   simp[this]
theorem zamm(ks:List Str)(k:Str):ztw (zho ks) (.str k) (.bool true)=zho (insS ks k):=by
 have ha:((zho ks).any λkv=>decide (keyD kv.1=keyD (.str k)))=decide (k∈ks):=by
  unfold zho
  rw[qCJ,qAt,qAn,decide_eq_true_iff]
  constructor
  ·rintro⟨y,hy,h⟩
   have h:=of_decide_eq_true h
   have:y=k:=qCM (qY h)
   rw[<- this];exact hy
  ·exact λh=>⟨k,h,decide_eq_true rfl⟩
 unfold ztw insS
 rw[ha]
 by_cases hk:k∈ks
 ·rw[if_pos (decide_eq_true hk),if_pos hk]
  unfold zho
  rw[qAY]
  refine qBn λy _=>?_
  show(if keyD (PyData.str y)=keyD (.str k)then(PyData.str y,PyData.bool true)else(PyData.str y,PyData.bool true))=_
  split<;>rfl
 ·rw[if_neg (by simpa using hk),if_neg hk]
  unfold zho
  rw[qAF];rfl
theorem zlz:∀(ms ks:List Str),zjo (zho ks) (zho ms)=zho (ms.foldl insS ks)
 | [],_=>rfl
 | m::ms,ks=>by
  show zjo (ztw (zho ks) (.str m) (.bool true)) (zho ms)=_
  rw[zamm,zlz ms];rfl
theorem zaqe{α:Type}{pre post:List α}{x:α}{l:List α}(h:pre++x::post=l):l=(pre++[x])++post:=by rw[<- h];simp
theorem zamn:∀{post W:Web},WebOk (W++post)->WebOk W:=by
 intro post
 refine zxn (P:=λpost=>∀{W:Web},WebOk (W++post)->WebOk W) (λ{W} h=>by rwa [qAD]at h) (λpost p ih W h=>?_) post
 rw[<- qBI]at h
 exact ih (zkz h).1
theorem zvc{W:Web}(h:WebOk W):zey [webD W]=some (.dict (dS zbc (ups W)),true):=by
 have inner:∀(V:Web)(p:Str×List Str)(es pre:List Str)(s5:Sl),WebOk (V++[p])->pre++es=p.2->
   ∃s5',forL (gN 5) (sUpd 4 (zhf 1 (eVar 5))) (es.map .str) [.pl (webD W),.ac (.dict (dS zbc (ups V))),.pl (.str p.1),.pl (zak p.2),.ac (zbc (pre.foldl (λks e=>(upL (ups V) e).foldl insS ks) [p.1])),s5] =
    some (.nx [.pl (webD W),.ac (.dict (dS zbc (ups V))),.pl (.str p.1),.pl (zak p.2),.ac (zbc (p.2.foldl (λks e=>(upL (ups V) e).foldl insS ks) [p.1])),s5']):=by
  intro V p es
  induction es with
  | nil=>intro pre s5 _ e;rw[qAD]at e;subst e;exact⟨s5,rfl⟩
  | cons e es ih=>
   intro pre s5 hV hp
   obtain⟨hV',hn,hel,hfew⟩:=zkz hV
   have he:e∈nm V:=hel e (by rw[<- hp];simp)
   obtain⟨ks,lk,_⟩:=zly (l:=ups V) (n:=e) (by rw[zis];exact he)
   have eup:upL (ups V) e=ks:=by unfold upL;rw[lk];rfl
   have l1:ks.length<=12:=by rw[<- eup];exact zaro hV' e
   have sub:∀x∈pre.foldl (λks e=>(upL (ups V) e).foldl insS ks) [p.1],x∈nm (V++[p]):=λx hx=>by
    rw[zsr]
    rcases zadl.mp hx with z|⟨e',_,z⟩
    ·exact qI _ (by simpa using z)
    ·exact qi _ (zaml hV' z)
   have l2:(pre.foldl (λks e=>(upL (ups V) e).foldl insS ks) [p.1]).length<=12:=by
    have:=zjk _ _ (zamk (acc:=ups V) (es:=pre) (ks:=[p.1]) (by simp)) sub
    have:=zaff hV
    omega
   obtain⟨s5',q⟩:=ih (pre++[e]) (.pl (.str e)) hV (by rw[<- hp];simp)
   refine⟨s5',?_⟩
   rw[qa]
   unfold forL
   simp only[gN,qQ,List.set_cons_succ,List.set_cons_zero]
   have b:sUpd 4 (zhf 1 (eVar 5)) [.pl (webD W),.ac (.dict (dS zbc (ups V))),.pl (.str p.1),.pl (zak p.2),.ac (zbc (pre.foldl (λks e=>(upL (ups V) e).foldl insS ks) [p.1])),.pl (.str e)] =
     some (.nx [.pl (webD W),.ac (.dict (dS zbc (ups V))),.pl (.str p.1),.pl (zak p.2),.ac (zbc ((pre++[e]).foldl (λks e=>(upL (ups V) e).foldl insS ks) [p.1])),.pl (.str e)]):=by
    have lz:(zho (pre.foldl (λks e=>(upL (ups V) e).foldl insS ks) [p.1])).length+(zho ks).length<=100000:=by unfold zho;rw[qG,qG];omega
    simp only[sUpd,zbc,zhf,eVar,qBR,qA6,qQ,keyD,zxo,lk,qBB]
    rw[if_pos ⟨lz,by simp⟩,zlz]
    simp[frzs,qBG,eup]
   rw[b,qQ]
   exact q
 have outer:∃env',forL (gT 2 (zba 2 (zba 3 zft))) (sSeq (sSet 4 (eD1 (eVar 2) (eC (.bool true)))) (sSeq (sFor (zap (eVar 3)) (gN 5) (sUpd 4 (zhf 1 (eVar 5)))) (sPut 1 (eVar 2) (eVar 4)))) (W.map rowD) [.pl (webD W),.ac (.dict []),.no,.no,.no,.no]=some (.nx env')/\
   ∃s2 s3 s4 s5,env'=[.pl (webD W),.ac (.dict (dS zbc (ups W))),s2,s3,s4,s5]:=by
  refine zhh (λpre env=>∃s2 s3 s4 s5,env=[.pl (webD W),.ac (.dict (dS zbc (ups pre))),s2,s3,s4,s5]) ⟨_,_,_,_,rfl⟩ ?_
  rintro pre p post env hp ⟨s2,s3,s4,s5,rfl⟩
  have hV:WebOk (pre++[p]):=zamn (post:=post) (by rw[<- zaqe hp];exact h)
  obtain⟨hV',hn,hel,hfew⟩:=zkz hV
  obtain⟨s5',q⟩:=inner pre p p.2 [] s5 hV rfl
  refine⟨[.pl (webD W),.ac (.dict (dS zbc (ups pre))),.pl (.str p.1),.pl (zak p.2),s4,s5],[.pl (webD W),.ac (.dict (dS zbc (ups (pre++[p])))),.pl (.str p.1),.pl (zak p.2),.pl (zbc (p.2.foldl (λks e=>(upL (ups pre) e).foldl insS ks) [p.1])),s5'],rfl,.inl ?_,_,_,_,_,rfl⟩
  have lz:(dS zbc (ups pre)).length<100000:=by
   unfold dS
   rw[qG,<- qG (f:=(·.1)),zis]
   have:=zaff hV'
   omega
  have st:sSet 4 (eD1 (eVar 2) (eC (.bool true))) [.pl (webD W),.ac (.dict (dS zbc (ups pre))),.pl (.str p.1),.pl (zak p.2),s4,s5]=some (.nx [.pl (webD W),.ac (.dict (dS zbc (ups pre))),.pl (.str p.1),.pl (zak p.2),.ac (zbc [p.1]),s5]):=by
   simp[sSet,eD1,eVar,eC,keyD,putV,frzs,slOf,zbc,zho]
  have pt:sPut 1 (eVar 2) (eVar 4) [.pl (webD W),.ac (.dict (dS zbc (ups pre))),.pl (.str p.1),.pl (zak p.2),.ac (zbc (p.2.foldl (λks e=>(upL (ups pre) e).foldl insS ks) [p.1])),s5'] =
    some (.nx [.pl (webD W),.ac (.dict (dS zbc (ups (pre++[p])))),.pl (.str p.1),.pl (zak p.2),.pl (zbc (p.2.foldl (λks e=>(upL (ups pre) e).foldl insS ks) [p.1])),s5']):=by
   simp only[sPut,eVar,qBR,qA6,qQ,keyD]
   rw[if_pos ⟨lz,by simp⟩,zavi zbc (by rw[zis];exact hn),zky]
   simp[frzs,frz1,zjx]
  exact zbf st (zbf (zir rfl q) pt)
 obtain⟨env',hl,s2,s3,s4,s5,rfl⟩:=outer
 exact zhn (env:=[.pl (webD W),.no,.no,.no,.no,.no]) rfl (zbf rfl (zbf (zir rfl hl) rfl))
noncomputable def ltr(i:Int):Str:=⟨#[97+i.toNat]⟩
noncomputable def Low(x:Str):Prop:=∀c∈x.cps.toList,c<128
theorem zst{x:Str}(h:Low x):qAk x=true:=by
 unfold qAk
 rw[<- Array.all_toList,qAE]
 intro c hc
 have:=h c hc
 exact decide_eq_true (by omega)
theorem zagd(a b:Str):(a++b).cps.toList=a.cps.toList++b.cps.toList:=by
 show(a.cps++b.cps).toList=_
 simp
theorem Low.app{a b:Str}(h1:Low a)(h2:Low b):Low (a++b):=λc hc=>by
 rw[zagd]at hc
 exact(qj.mp hc).elim (h1 c) (h2 c)
theorem Low.slice{x:Str}(h:Low x)(l u:Option Int):Low (Txt.slice x l u):=λc hc=>by
 unfold Txt.slice at hc
 split at hc
 ·exact h c hc
 ·have hc:c∈(List.filterMap (x.cps[·]?) (Builtin.Str.strSliceIndices l u 1 x.length)):=by simpa using hc
  obtain⟨i,_,e⟩:=qBt.mp hc
  exact h c (by
   have:=Array.mem_of_getElem? e
   simpa using this)
theorem Low.ltr{i:Int}(h0:0<=i)(h1:i<26):Low (ltr i):=λc hc=>by
 have:c=97+i.toNat:=by simpa [Bc.ltr]using hc
 omega
theorem zsu{α:Type}{f:Nat->α}{n:Nat}(h:∀a b,a<n->b<n->f a=f b->a=b):((List.range n).map f).Nodup:=by
 rw[List.nodup_iff_pairwise_ne,List.pairwise_map]
 refine List.Pairwise.imp_of_mem ?_ (List.pairwise_lt_range (n:=n))
 intro a b ha hb hab e
 have:=h a b (qAR.mp ha) (qAR.mp hb) e
 omega
noncomputable abbrev vi(i:Int):Val:=⟨.int i,false,[]⟩
noncomputable abbrev vs(x:Str):Val:=⟨.str x,false,[]⟩
noncomputable abbrev vb(b:Bool):Val:=⟨.bool b,false,[]⟩
section
variable{a b:EF}{env:DEnv}{i j:Int}
theorem zazb(ha:a env=some (vi i))(hb:b env=some (vi j))(h:0<j)(h2:j<1073741824):eOp zqh a b env=some (vi (i / j)):=by
 unfold eOp;rw[ha,hb];simp[zqh,intD,h,h2,bsOf,zgp]
theorem zazc(ha:a env=some (vi i))(hb:b env=some (vi j)):eOp addD a b env=some (vi (i+j)):=by
 unfold eOp;rw[ha,hb];simp[addD,bsOf,zgp]
theorem zazd(ha:a env=some (vi i))(hb:b env=some (vi j))(h:(-(2 ^ 64)<i/\i<2 ^ 64)\/(-(2 ^ 64)<j/\j<2 ^ 64)):eOp mulD a b env=some (vi (i * j)):=by
 unfold eOp;rw[ha,hb]
 simp only[qQ,mulD]
 rw[if_pos h];simp[bsOf,zgp]
theorem zbbb(ha:a env=some (vi i))(hb:b env=some (vi j)):eOp eqD a b env=some (vb (i==j)):=by
 unfold eOp;rw[ha,hb];rfl
theorem zbbc{x:Str}{l h:PF'}{lo hi:Option Int}(ha:a env=some (vs x))(hl:l env=some lo)(hh:h env=some hi)(hz:x.length<=100000):eSl a l h env=some (vs (Txt.slice x lo hi)):=by
 unfold eSl;rw[ha,hl,hh]
 simp only[qQ,slD]
 rw[if_pos hz];simp[bsOf,zgp]
theorem zjy{c:Bool}(ha:a env=some (vb c)):zck a env=some c:=by unfold zck;rw[ha];rfl
theorem zhp{r:Val}(ha:a env=some r):zaa a aNil env=some [r]:=by unfold zaa aNil;rw[ha];rfl
theorem zaay{ds:List PyData}{fr:Bool}{bs:List Nat}(ha:a env=some ⟨.list ds,fr,bs⟩):eCB lenD (zaa a aNil) env=some (vi ds.length):=by
 unfold eCB
 rw[zhp ha]
 simp[zfp,lenD,bsOf,zgp]
theorem zarp{α β:Type}(f:α->β){l:List α}{n:Nat}{x:α}(h:l[n]?=some x):atI (l.map f) (n:Int)=some (f x):=zwj (by rw[qh,h];rfl)
theorem zbbd{k n:Nat}{b:EF}{ds:List PyData}{d:PyData}(he:env[k]?=some (.ac (.list ds)))(hb:b env=some (vi (n:Int)))(hd:ds[n]?=some d):eIxV k b env=some ⟨d,false,[]⟩:=by
 unfold eIxV
 rw[he]
 simp only
 rw[hb]
 simp only[qQ]
 rw[zwj hd];rfl
end
noncomputable def abc:Str:="abcdefghijklmnopqrstuvwxyz"
theorem zamo:(List.range 26).all (λi=>abc.cps.toList[i]?==some (97+i))=true:=by decide +kernel
theorem zadm:abc.length=26:=by decide +kernel
theorem zarq{i:Int}(h0:0<=i)(h1:i<26):atI abc.cps.toList i=some (97+i.toNat):=by
 have q:=qAE.mp zamo i.toNat (qAR.mpr (by omega))
 have e:((i.toNat:Nat):Int)=i:=by omega
 rw[<- e]
 have z:=zwj (eq_of_beq q)
 rw[e]at z ⊢
 exact z
theorem zarr{i:Nat}{f:EF}{env:DEnv}{ds:List PyData}{d:PyData}{fr:Bool}(he:env[i]?=some (.ac (.list ds)))(hf:f env=some ⟨d,fr,[]⟩)(hl:ds.length<100000):sApp i f env=some (.nx (env.set i (.ac (.list (ds++[d]))))):=by
 unfold sApp
 rw[he]
 simp only
 rw[hf]
 simp only[qQ]
 rw[if_pos ⟨hl,by simp⟩];rfl
theorem zmx(n:Nat):zpe 0 n=(List.range n).map (λ(k:Nat)=>PyData.int (k:Int)):=by
 unfold zpe
 refine qBn λk _=>?_
 show PyData.int (0+(k:Int))=_
 rw[Int.zero_add]
theorem zamp(a b:Str):(a++b).length=a.length+b.length:=by
 have:=congrArg List.length (zagd a b)
 rw[qK]at this
 simpa [Str.length]using this
section
variable{a b:EF}{env:DEnv}{x y:Str}
theorem e_in{neg:Bool}{xs:List Str}{fr:Bool}{bs:List Nat}(ha:a env=some (vs x))(hb:b env=some ⟨zak xs,fr,bs⟩):eOp (inD neg) a b env=some (vb (if neg then !decide (x∈xs)else decide (x∈xs))):=by
 unfold eOp;rw[ha,hb];simp[zamj,bsOf,zgp]
theorem zaze{k:Nat}{kvs:List (PyData×PyData)}{d:PyData}(he:env[k]?=some (.pl (.dict kvs))\/env[k]?=some (.ac (.dict kvs)))(hb:b env=some (vs y))(hd:zmk kvs (Sum.inr y)=some d):zhf k b env=some ⟨d,false,[]⟩:=by
 unfold zhf
 rcases he with he|he<;>rw[he]<;>simp only<;>rw[hb]<;>simp[keyD,hd]
theorem zars{neg:Bool}{ks:List Str}{fr:Bool}{bs:List Nat}(ha:a env=some (vs x))(hb:b env=some ⟨zbc ks,fr,bs⟩):eDIn neg a b env=some (vb (if neg then !decide (x∈ks)else decide (x∈ks))):=by
 unfold eDIn;rw[ha,hb];simp[zbc,keyD,zaax]
end
theorem zvd{W:Web}{n:Str}(h:n∈nm W):(ups W).lookup n=some (up W n):=by
 obtain⟨ks,e,_⟩:=zly (l:=ups W) (n:=n) (by rw[zis];exact h)
 unfold up upL
 rw[e];rfl
theorem zcs{a:EF}{f:AF}{env:DEnv}{r:Val}{rs:List Val}(ha:a env=some r)(hf:f env=some rs):zaa a f env=some (r::rs):=by unfold zaa;rw[ha,hf];rfl
theorem zamq{f:EF}{env:DEnv}{c:Bool}(h:f env=some (vb c)):zjp (tTru f) env=some (!c):=by unfold zjp tTru;rw[h];rfl
theorem zmy:∀(xs:List Str),(∀x∈xs,qAk x=true)->qAN (xs.map .str)=true/\qe (xs.map .str)=0
 | [],_=>⟨rfl,rfl⟩
 | x::xs,h=>by
  obtain⟨h1,h2⟩:=zmy xs λy hy=>h y (qL _ hy)
  rw[qa]
  refine⟨?_,?_⟩
  ·show(qAk x&&qAN (xs.map .str))=true
   rw[h x qR,h1];rfl
  ·show max 0 (qe (xs.map .str))=0
   rw[h2];rfl
noncomputable def zve:SF:=(sSeq (sIf (tTru (eIsi "tuple" (eVar 0))) (sRet (eCB zlv (zaa (eVar 0) aNil))) sNil)
  (sRet (eLst (zaa (eVar 0) aNil))))
noncomputable def zfy:GF:=fnD 1 zve
noncomputable def zaaz:SF:=(sSeq (sSet 2 zatj)
  (sSeq (sFor (zap (zas 1 zfy (zaa (eVar 1) aNil))) (gN 3)
  (sUpd 2 (zhf 0 (eVar 3))))
  (zqj 2)))
noncomputable def zjz:GF:=fnD 4 zaaz
theorem zmz{α:Type}(f:α->Bool):∀(l:List α),zpd (l.map λx=>.bool (f x))=some (l.map f)
 | []=>rfl
 | x::l=>by
  show(zpd (l.map λx=>.bool (f x))).map _=_
  rw[zmz f l];rfl
theorem zazf{α:Type}{f:α->Bool}{l:List α}{a:EF}{env:DEnv}{fr:Bool}{bs:List Nat}(ha:a env=some ⟨.list (l.map λx=>.bool (f x)),fr,bs⟩):eCB (anyD λbs=>bs.all id) (zaa a aNil) env=some (vb (l.all f)):=by
 unfold eCB
 rw[zhp ha,qQ]
 show((zpd (l.map λx=>.bool (f x))).map _).bind _=_
 rw[zmz]
 simp only[qBB,qQ,qC9]
 rfl
theorem zit{α:Type}{enc:α->PyData}{out:α->List PyData}{g:GT}{t:TF}{f2:IF'}{g2:GT}{t2:TF}{e:EF}{env:DEnv}:∀{l:List α},(∀x∈l,∃e1,g (enc x) env=some e1/\t e1=some true/\innL f2 g2 t2 e e1=some (out x))->
  zie g t f2 g2 t2 e env (l.map enc)=some (l.flatMap out)
 | [],_=>rfl
 | x::l,h=>by
  obtain⟨e1,h1,h2,h3⟩:=h x qR
  have ih:=zit (l:=l) λy hy=>h y (qL _ hy)
  rw[qa]
  unfold zie
  rw[h1,qQ,h2,qQ,if_pos rfl,h3,qQ,ih,qCY]
  rfl
theorem zxp{own:List Str}{fr:List Nat}{fi:IF'}{g:GT}{t:TF}{f2:IF'}{g2:GT}{t2:TF}{e:EF}{env:DEnv}{ds:List PyData}{bs:List Nat}{rs:List PyData}(h:fi env=some (ds,bs))(hl:ds.length<300)(k:zie g t f2 g2 t2 e (envB own fr env) ds=some rs) :
  zmq own fr fi g t f2 g2 t2 e env=some ⟨.list rs,true,if zdm rs=true then[]else bs++capA fr env⟩:=by
 unfold zmq;rw[h,qQ,if_pos hl,k];rfl
noncomputable def zka:SF:=(sRet (zmq ["arm","name"] [] (zap (eVar 0)) (gN 0) zbi (zap (zas 1 zfy (zaa (eVar 0) aNil))) (gN 1) zbi (eVar 1)))
noncomputable def zfl:GF:=fnD 1 zka
noncomputable def zpj:SF:=(sSeq (sIf (zck (eOp neD (eCB lenD (zaa (eVar 2) aNil)) (eVar 1))) zafj sNil)
  (zagw (zas 2 zfk (zaa (eVar 0) (zaa (zas 1 zfl (zaa (eVar 2) aNil)) aNil)))))
noncomputable def zhs:GF:=fnD 3 zpj
noncomputable def zkb:SF:=(sRet (zdb ["arm"] [0] (zap (eVar 1)) (gN 0) zbi (zas 2 zjz (zaa (eVar 1) (zaa (eVar 0) aNil)))))
noncomputable def zeg:GF:=fnD 2 zkb
noncomputable def zpk:SF:=(sRet (eCB (anyD λbs=>bs.all id) (zaa (zdb ["kind","roof"] [] (zrx (zaa (eVar 0) (zaa (eVar 1) aNil))) (gT 2 (zba 0 (zba 1 zft))) zbi (eDIn false (eVar 0) (eVar 1))) aNil)))
noncomputable def zgl:GF:=fnD 2 zpk
noncomputable def zsv:SF:=(sRet (eAnd (eOp neD (eVar 1) (eVar 2)) (eCB (anyD λbs=>bs.all id) (zaa (zdb ["low","high"] [0] (zrx (zaa (eVar 1) (zaa (eVar 2) aNil))) (gT 2 (zba 0 (zba 1 zft))) zbi (eDIn false (eVar 1) (zhf 2 (eVar 0)))) aNil))))
noncomputable def zfz:GF:=fnD 3 zsv
noncomputable def zja:SF:=(sSeq (sAsg (eVar 0) (gT 3 (zba 2 (zba 3 (zba 4 zft)))))
  (sSeq (zagw (zas 3 zhs (zaa (eVar 2) (zaa (eVar 3) (zaa (eVar 1) aNil)))))
  (sSeq (sSet 5 (zas 2 zeg (zaa (zas 1 zey (zaa (eVar 2) aNil)) (zaa (eVar 1) aNil))))
  (sRet (zdb ["rule"] [5] (zap (eVar 4)) (gN 0) (tTru (zas 2 zgl (zaa (eIxV 0 (eC (.int 1))) (zaa (eVar 1) aNil)))) (eVar 0))))))
noncomputable def zdv:GF:=fnD 6 zja
noncomputable def zpl:SF:=(sRet (zdb ["rule"] [0,1] (zap (eVar 1)) (gN 0) (zjp (tTru (eCB (anyD λbs=>bs.any id) (zaa (zdb ["name","kinds"] [0,1] (zap (eVar 2)) (gT 2 (zba 0 (zba 1 zft))) zbi (zas 3 zfz (zaa (eVar 3) (zaa (eVar 1) (zaa (eIxV 2 (eC (.int 1))) aNil))))) aNil)))) (eVar 0)))
noncomputable def zgm:GF:=fnD 2 zpl
noncomputable def zpm:SF:=(sRet (zdb ["name","kinds"] [] (zap (eVar 0)) (gT 2 (zba 0 (zba 1 zft))) zbi (eVar 0)))
noncomputable def zht:GF:=fnD 1 zpm
noncomputable def zsw:SF:=(sSeq (sIf (zjp (tTru (eVar 0))) (sRet (eTup (zaa (eC (.str "none")) aNil))) sNil)
  (sSeq (sIf (zck (eOp eqD (eCB lenD (zaa (eVar 0) aNil)) (eC (.int 1)))) (sRet (eTup (zaa (eC (.str "rule")) (zaa (eIxV 0 (eC (.int 0))) aNil)))) sNil)
  (sRet (eTup (zaa (eC (.str "quarrel")) (zaa (eCB zlh (zaa (eVar 0) aNil)) aNil))))))
noncomputable def ziu:GF:=fnD 1 zsw
noncomputable def zaba:SF:=(sSeq (sSet 2 (zas 2 zdv (zaa (eVar 0) (zaa (eVar 1) aNil))))
  (sRet (zas 1 zht (zaa (zas 2 zgm (zaa (zas 1 zey (zaa (eIxV 0 (eC (.int 0))) aNil)) (zaa (eVar 2) aNil))) aNil))))
noncomputable def zna:GF:=fnD 3 zaba
noncomputable def zsx:SF:=(sRet (zas 1 ziu (zaa (zas 2 zna (zaa (eVar 0) (zaa (eVar 1) aNil))) aNil)))
noncomputable def zhi:GF:=fnD 2 zsx
inductive Arm where
 | one (n:Str)
 | many (ns:List Str)
noncomputable def Arm.parts:Arm->List Str
 | .one n=>[n]
 | .many ns=>ns
noncomputable def armD:Arm->PyData
 | .one n=>.str n
 | .many ns=>.tuple (ns.map .str)
noncomputable def zga(c:List Arm):PyData:=.tuple (c.map armD)
noncomputable def zaq(ks:List Str):PyData:=.tuple (ks.map .str)
noncomputable def zel(r:Str×List Str):PyData:=.tuple [.str r.1,zaq r.2]
noncomputable def zbo(rs:List (Str×List Str)):PyData:=.list (rs.map zel)
noncomputable def zax(W:Web)(p:Nat)(rs:List (Str×List Str)):PyData:=.tuple [webD W,.int p,zbo rs]
theorem zlk(a:Arm):zfy [armD a]=some (zak a.parts,true):=by
 cases a with
 | one n=>rfl
 | many ns=>rfl
theorem zsy{c:List Arm}(hc:c.length<300)(ha:∀a∈c,a.parts.length<300):zfl [zga c]=some (zak (c.flatMap Arm.parts),true):=by
 have k:zie (gN 0) zbi (zap (zas 1 zfy (zaa (eVar 0) aNil))) (gN 1) zbi (eVar 1) [.no,.no] (c.map armD)=some (c.flatMap λa=>a.parts.map .str):=by
  refine zit λa hm=>⟨[.pl (armD a),.no],rfl,rfl,?_⟩
  have e:zap (zas 1 zfy (zaa (eVar 0) aNil)) [.pl (armD a),.no]=some (a.parts.map .str,[]):=by
   unfold zap
   rw[zay (n:=1) (rs:=[⟨armD a,false,[]⟩]) rfl rfl (zlk a)]
   rfl
  unfold innL
  rw[e]
  show(if(a.parts.map PyData.str).length<300 then zdl (gN 1) zbi (eVar 1) [.pl (armD a),.no] (a.parts.map .str)else none)=_
  rw[if_pos (by rw[qG];exact ha a hm)]
  exact zbw λx _=>⟨[.pl (armD a),.pl (.str x)],rfl,rfl,vs x,rfl,rfl⟩
 have fl:(c.flatMap λa=>a.parts.map PyData.str)=(c.flatMap Arm.parts).map .str:=by
  rw[qCd]
 rw[fl]at k
 exact zhn (env:=[.pl (zga c)]) rfl (zez (zxp (own:=["arm","name"]) (fr:=[]) (fi:=zap (eVar 0)) (ds:=c.map armD) (bs:=[]) rfl (by rw[qG];exact hc) k))
theorem zabb{W:Web}(h:WebOk W){c:List Arm}(hc:c.length<300)(ha:∀a∈c,a.parts.length<300)(hk:∀a∈c,∀n∈a.parts,n∈nm W):zhs [webD W,.int c.length,zga c]=some (.none,false):=by
 have hW:W.length<=12:=h.len
 have e2:eCB lenD (zaa (eVar 2) aNil) [.pl (webD W),.pl (.int c.length),.pl (zga c)]=some (vi (c.map armD).length):=rfl
 have t:zck (eOp neD (eCB lenD (zaa (eVar 2) aNil)) (eVar 1)) [.pl (webD W),.pl (.int c.length),.pl (zga c)]=some false:=by
  refine zjy ?_
  unfold eOp
  rw[e2]
  show((neD (.int ((c.map armD).length:Nat)) (.int (c.length:Nat))).bind λz=>some (⟨z.1,z.2,bsOf z.1 ([]++[])⟩:Val))=_
  rw[qG]
  rw[zsp];rfl
 have cn:zfk [webD W,zak (c.flatMap Arm.parts)]=some (.none,false):=zxl (by omega) λn hn=>by
  obtain⟨a,ha',hn'⟩:=qBi.mp hn
  exact hk a ha' n hn'
 exact zbaz (env:=[.pl (webD W),.pl (.int c.length),.pl (zga c)]) rfl (zbf (if_f t rfl) (zami (zay (n:=2) (rs:=[⟨webD W,false,[]⟩,⟨zak (c.flatMap Arm.parts),true,[]⟩]) (zcs rfl (zhp (zay (n:=1) (rs:=[⟨zga c,false,[]⟩]) rfl rfl (zsy hc ha)))) rfl cn)))
noncomputable def upA(W:Web)(a:Arm):List Str:=a.parts.foldl (λks n=>(up W n).foldl insS ks) []
theorem zahr{W:Web}(h:WebOk W){a:Arm}(hk:∀n∈a.parts,n∈nm W):zjz [.dict (dS zbc (ups W)),armD a]=some (zbc (upA W a),true):=by
 have nd:∀(l ks:List Str),ks.Nodup->(∀x∈ks,x∈nm W)->(l.foldl (λks n=>(up W n).foldl insS ks) ks).Nodup/\∀x∈l.foldl (λks n=>(up W n).foldl insS ks) ks,x∈nm W:=by
  intro l
  induction l with
  | nil=>intro ks h1 h2;exact⟨h1,h2⟩
  | cons n l ih=>
   intro ks h1 h2
   refine ih _ (zxm h1) λx hx=>?_
   rcases zsq.mp hx with z|z
   ·exact h2 x z
   ·exact zaml h z
 obtain⟨env',lp,s3,rfl⟩:=zhh (enc:=PyData.str) (g:=gN 3) (body:=sUpd 2 (zhf 0 (eVar 3))) (l:=a.parts) (env:=[.pl (.dict (dS zbc (ups W))),.pl (armD a),.ac (zbc []),.no])
  (λpre env=>∃s3,env=[.pl (.dict (dS zbc (ups W))),.pl (armD a),.ac (zbc (pre.foldl (λks n=>(up W n).foldl insS ks) [])),s3]) ⟨_,rfl⟩ (by
   rintro pre n post env hp ⟨s3,rfl⟩
   have hn:n∈nm W:=hk n (by rw[<- hp];simp)
   refine⟨[.pl (.dict (dS zbc (ups W))),.pl (armD a),.ac (zbc (pre.foldl (λks n=>(up W n).foldl insS ks) [])),.pl (.str n)],[.pl (.dict (dS zbc (ups W))),.pl (armD a),.ac (zbc ((pre++[n]).foldl (λks n=>(up W n).foldl insS ks) [])),.pl (.str n)],rfl,.inl ?_,_,rfl⟩
   ·have l1:=zaro h n
    obtain⟨n1,n2⟩:=nd pre [] qCo (by simp)
    have l2:=zjk _ _ n1 n2
    have l3:=zaff h
    have lz:(zho (pre.foldl (λks n=>(up W n).foldl insS ks) [])).length+(zho (up W n)).length<=100000:=by unfold zho;rw[qG,qG];omega
    simp only[sUpd,zbc,zhf,eVar,qBR,qA6,qQ,keyD,zxo,zvd hn,qBB]
    rw[if_pos ⟨lz,by simp⟩,zlz,qBG]
    simp[frzs])
 exact zhn (env:=[.pl (.dict (dS zbc (ups W))),.pl (armD a),.no,.no]) rfl (zbf rfl (zbf (zir (zay (n:=1) (rs:=[⟨armD a,false,[]⟩]) rfl rfl (zlk a)) lp) rfl))
theorem zsz{W:Web}(h:WebOk W){c:List Arm}(hc:c.length<300)(hk:∀a∈c,∀n∈a.parts,n∈nm W):zeg [.dict (dS zbc (ups W)),zga c]=some (.list (c.map λa=>zbc (upA W a)),true):=by
 have k:zdl (gN 0) zbi (zas 2 zjz (zaa (eVar 1) (zaa (eVar 0) aNil))) [.no,.pl (.dict (dS zbc (ups W)))] (c.map armD)=some (c.map λa=>zbc (upA W a)):=
  zbw λa hm=>⟨[.pl (armD a),.pl (.dict (dS zbc (ups W)))],rfl,rfl,_,zay (n:=2) (rs:=[⟨.dict (dS zbc (ups W)),false,[]⟩,⟨armD a,false,[]⟩]) rfl rfl (zahr h (hk a hm)),rfl⟩
 exact zhn (env:=[.pl (.dict (dS zbc (ups W))),.pl (zga c)]) rfl (zez (zdy (own:=["arm"]) (fr:=[0]) (fi:=zap (eVar 1)) (ds:=c.map armD) (bs:=[]) rfl (by rw[qG];omega) k))
theorem zage{α β:Type}(f:α->PyData)(g:β->PyData)(l:List α)(r:List β):List.zipWith (λd e=>PyData.tuple [d,e]) (l.map f) (r.map g)=(l.zip r).map λz=>PyData.tuple [f z.1,g z.2]:=by
 induction l generalizing r with
 | nil=>rfl
 | cons a l ih=>cases r with
  | nil=>rfl
  | cons b r=>rw[qa,qa,qC2,ih,List.zip_cons_cons,qa]
noncomputable def fitB(W:Web)(ks:List Str)(c:List Arm):Bool:=(ks.zip c).all λz=>decide (z.1∈upA W z.2)
theorem zabc{W:Web}{ks:List Str}{c:List Arm}(hc:c.length<300):zgl [zaq ks,.list (c.map λa=>zbc (upA W a))]=some (.bool (fitB W ks c),false):=by
 have it:zrx (zaa (eVar 0) (zaa (eVar 1) aNil)) [.pl (zaq ks),.pl (.list (c.map λa=>zbc (upA W a)))]=some ((ks.zip c).map λz=>PyData.tuple [.str z.1,zbc (upA W z.2)],[]):=by
  show some (List.zipWith (λd e=>PyData.tuple [d,e]) (ks.map .str) (c.map λa=>zbc (upA W a)),[]++[])=_
  rw[zage];rfl
 have k:zdl (gT 2 (zba 0 (zba 1 zft))) zbi (eDIn false (eVar 0) (eVar 1)) [.no,.no] ((ks.zip c).map λz=>PyData.tuple [.str z.1,zbc (upA W z.2)])=some ((ks.zip c).map λz=>.bool (decide (z.1∈upA W z.2))):=
  zbw λz _=>⟨[.pl (.str z.1),.pl (zbc (upA W z.2))],rfl,rfl,vb (decide (z.1∈upA W z.2)),zars (neg:=false) (fr:=false) (bs:=[]) rfl rfl,rfl⟩
 have lz:(ks.zip c).length<=c.length:=by rw[qBD];exact Nat.min_le_right _ _
 exact zhn (env:=[.pl (zaq ks),.pl (.list (c.map λa=>zbc (upA W a)))]) rfl (zez (bs:=[]) (zazf (zdy (own:=["kind","roof"]) (fr:=[]) it (by rw[qG];omega) k)))
noncomputable def zahs(W:Web)(ks ls:List Str):Bool:=!(ks==ls)&&(ks.zip ls).all λz=>decide (z.2∈up W z.1)
theorem zxq:∀(a b:List Str),PyData.eqvAll (a.map .str) (b.map .str)=(a==b)
 | [],[]=>rfl
 | [],_::_=>rfl
 | _::_,[]=>rfl
 | x::a,y::b=>by
  show(qX (.str x) (.str y)&&PyData.eqvAll (a.map .str) (b.map .str))=_
  rw[zxq a b]
  show((x==y)&&(a==b))=_
  rfl
noncomputable def LowS(ks:List Str):Prop:=∀k∈ks,qAk k=true
theorem zkc{ks:List Str}(h:LowS ks):qt (zaq ks)=true:=by
 obtain⟨h1,h2⟩:=zmy ks h
 unfold qt zaq
 rw[qAC]
 refine⟨h1,decide_eq_true ?_⟩
 show qe (ks.map .str)+1<=64
 omega
theorem zaqf{ks ls:List Str}(h1:LowS ks)(h2:LowS ls):neD (zaq ks) (zaq ls)=some (.bool (!(ks==ls)),false):=by
 unfold neD eqOk
 rw[zkc h1,zkc h2,Bool.and_self,Bool.or_true,if_pos rfl]
 show some (PyData.bool (!PyData.eqvAll (ks.map .str) (ls.map .str)),false)=_
 rw[zxq]
theorem zadn{W:Web}(h:WebOk W){ks ls:List Str}(h1:LowS ks)(h2:LowS ls)(hk:∀k∈ks,k∈nm W)(hl:ks.length<300):zfz [.dict (dS zbc (ups W)),zaq ks,zaq ls]=some (.bool (zahs W ks ls),false):=by
 have it:zrx (zaa (eVar 1) (zaa (eVar 2) aNil)) [.pl (.dict (dS zbc (ups W))),.pl (zaq ks),.pl (zaq ls)]=some ((ks.zip ls).map λz=>PyData.tuple [.str z.1,.str z.2],[]):=by
  show some (List.zipWith (λd e=>PyData.tuple [d,e]) (ks.map .str) (ls.map .str),[]++[])=_
  rw[zage];rfl
 have k:zdl (gT 2 (zba 0 (zba 1 zft))) zbi (eDIn false (eVar 1) (zhf 2 (eVar 0))) [.no,.no,.pl (.dict (dS zbc (ups W)))] ((ks.zip ls).map λz=>PyData.tuple [.str z.1,.str z.2])=some ((ks.zip ls).map λz=>.bool (decide (z.2∈up W z.1))):=
  zbw λz hz=>⟨[.pl (.str z.1),.pl (.str z.2),.pl (.dict (dS zbc (ups W)))],rfl,rfl,vb (decide (z.2∈up W z.1)),zars (neg:=false) (fr:=false) (bs:=[]) rfl (zaze (d:=zbc (up W z.1)) (.inl rfl) rfl (by rw[zxo,zvd (hk z.1 (qBm hz).1)];rfl)),rfl⟩
 have lz:(ks.zip ls).length<=ks.length:=by rw[qBD];exact qBV _ _
 have e1:eOp neD (eVar 1) (eVar 2) [.pl (.dict (dS zbc (ups W))),.pl (zaq ks),.pl (zaq ls)]=some (vb (!(ks==ls))):=by
  show((neD (zaq ks) (zaq ls)).bind λz=>some (⟨z.1,z.2,bsOf z.1 ([]++[])⟩:Val))=_
  rw[zaqf h1 h2];rfl
 have e2:=zazf (f:=λz:Str×Str=>decide (z.2∈up W z.1)) (zdy (own:=["low","high"]) (fr:=[0]) it (by rw[qG];omega) k)
 refine zhn (env:=[.pl (.dict (dS zbc (ups W))),.pl (zaq ks),.pl (zaq ls)]) rfl (zez (bs:=[]) ?_)
 unfold eAnd
 rw[e1,qQ]
 unfold zahs
 cases ks==ls with
 | true=>rfl
 | false=>exact e2
structure RulesOk(W:Web)(rs:List (Str×List Str)):Prop where
 low:∀r∈rs,LowS r.2
 kinds:∀r∈rs,∀k∈r.2,k∈nm W
 few:∀r∈rs,r.2.length<300
 len:rs.length<300
theorem RulesOk.filter{W:Web}{rs:List (Str×List Str)}(h:RulesOk W rs)(p:Str×List Str->Bool):RulesOk W (rs.filter p):=
 ⟨λr hr=>h.low r (qAb.mp hr).1,λr hr=>h.kinds r (qAb.mp hr).1,λr hr=>h.few r (qAb.mp hr).1,qAd (List.length_filter_le _ _) h.len⟩
structure CallOk(W:Web)(c:List Arm):Prop where
 len:c.length<300
 few:∀a∈c,a.parts.length<300
 kinds:∀a∈c,∀n∈a.parts,n∈nm W
noncomputable def fitL(W:Web)(rs:List (Str×List Str))(c:List Arm):List (Str×List Str):=rs.filter λr=>fitB W r.2 c
noncomputable def zabd(W:Web)(rs:List (Str×List Str)):List (Str×List Str):=rs.filter λr=>!(rs.any λq=>zahs W q.2 r.2)
theorem zaqg{n:Nat}{g:GF}{f:AF}{env:DEnv}{rs:List Val}{b:Bool}(h:f env=some rs)(hn:rs.length=n)(k:g (zfp rs)=some (.bool b,false)):tTru (zas n g f) env=some b:=by
 unfold tTru;rw[zay h hn k];rfl
theorem zbbe{α:Type}{f:α->Bool}{l:List α}{a:EF}{env:DEnv}{fr:Bool}{bs:List Nat}(ha:a env=some ⟨.list (l.map λx=>.bool (f x)),fr,bs⟩):eCB (anyD λbs=>bs.any id) (zaa a aNil) env=some (vb (l.any f)):=by
 unfold eCB
 rw[zhp ha,qQ]
 show((zpd (l.map λx=>.bool (f x))).map _).bind _=_
 rw[zmz]
 simp only[qBB,qQ,qCJ]
 rfl
theorem zabe{W:Web}(h:WebOk W){rs:List (Str×List Str)}(hr:RulesOk W rs):zgm [.dict (dS zbc (ups W)),zbo rs]=some (zbo (zabd W rs),true):=by
 have hlen:=hr.len
 have k:zdl (gN 0) (zjp (tTru (eCB (anyD λbs=>bs.any id) (zaa (zdb ["name","kinds"] [0,1] (zap (eVar 2)) (gT 2 (zba 0 (zba 1 zft))) zbi (zas 3 zfz (zaa (eVar 3) (zaa (eVar 1) (zaa (eIxV 2 (eC (.int 1))) aNil))))) aNil)))) (eVar 0) [.no,.pl (.dict (dS zbc (ups W))),.pl (zbo rs)] (rs.map zel)=some ((zabd W rs).map zel):=by
  refine zgk (enc:=zel) (out:=zel) (e:=eVar 0) (λr=>!(rs.any λq=>zahs W q.2 r.2)) λr hm=>⟨[.pl (zel r),.pl (.dict (dS zbc (ups W))),.pl (zbo rs)],rfl,?_,λ_=>⟨⟨zel r,false,[]⟩,rfl,rfl⟩⟩
  have k2:zdl (gT 2 (zba 0 (zba 1 zft))) zbi (zas 3 zfz (zaa (eVar 3) (zaa (eVar 1) (zaa (eIxV 2 (eC (.int 1))) aNil)))) [.no,.no,.pl (zel r),.pl (.dict (dS zbc (ups W)))] (rs.map zel)=some (rs.map λq=>.bool (zahs W q.2 r.2)):=
   zbw λq hq=>⟨[.pl (.str q.1),.pl (zaq q.2),.pl (zel r),.pl (.dict (dS zbc (ups W)))],rfl,rfl,_,zay (n:=3) (rs:=[⟨.dict (dS zbc (ups W)),false,[]⟩,⟨zaq q.2,false,[]⟩,⟨zaq r.2,false,[]⟩]) rfl rfl (zadn h (hr.low q hq) (hr.low r hm) (hr.kinds q hq) (hr.few q hq)),rfl⟩
  exact zamq (zbbe (f:=λq:Str×List Str=>zahs W q.2 r.2) (zdy (own:=["name","kinds"]) (fr:=[0,1]) (fi:=zap (eVar 2)) (env:=[.pl (zel r),.pl (.dict (dS zbc (ups W))),.pl (zbo rs)]) (ds:=rs.map zel) (bs:=[]) rfl (by rw[qG];omega) k2))
 exact zhn (env:=[.pl (.dict (dS zbc (ups W))),.pl (zbo rs)]) rfl (zez (zdy (own:=["rule"]) (fr:=[0,1]) (fi:=zap (eVar 1)) (ds:=rs.map zel) (bs:=[]) rfl (by rw[qG];omega) k))
theorem zabf{rs:List (Str×List Str)}(hl:rs.length<300):zht [zbo rs]=some (zak (rs.map (·.1)),true):=by
 have k:zdl (gT 2 (zba 0 (zba 1 zft))) zbi (eVar 0) [.no,.no] (rs.map zel)=some (rs.map λr=>.str r.1):=zbw λr _=>⟨[.pl (.str r.1),.pl (zaq r.2)],rfl,rfl,vs r.1,rfl,rfl⟩
 have e:(rs.map λr=>PyData.str r.1)=(rs.map (·.1)).map .str:=by rw[qAY];rfl
 rw[e]at k
 exact zhn (env:=[.pl (zbo rs)]) rfl (zez (zdy (own:=["name","kinds"]) (fr:=[]) (fi:=zap (eVar 0)) (ds:=rs.map zel) (bs:=[]) rfl (by rw[qG];omega) k))
noncomputable def ziv:List Str->PyData
 | []=>.tuple [.str "none"]
 | [x]=>.tuple [.str "rule",.str x]
 | xs=>.tuple [.str "quarrel",zaq xs]
theorem zado:∀(xs:List Str),ziu [zak xs]=some (ziv xs,false)
 | []=>rfl
 | [x]=>rfl
 | x::y::xs=>by
  have t:zck (eOp eqD (eCB lenD (zaa (eVar 0) aNil)) (eC (.int 1))) [.pl (zak (x::y::xs))]=some false:=by
   rw[zjy (zbbb (i:=((x::y::xs).map PyData.str).length) (j:=1) (zaay rfl) rfl)]
   congr 1
  exact zhn (env:=[.pl (zak (x::y::xs))]) rfl (zbf (if_f rfl rfl) (zbf (if_f t rfl) rfl))
theorem zql{W:Web}(h:WebOk W){rs:List (Str×List Str)}{c:List Arm}(hr:RulesOk W rs)(hc:CallOk W c):zdv [zax W c.length rs,zga c]=some (zbo (fitL W rs c),true):=by
 have hl:=hr.len
 have e5:sSet 5 (zas 2 zeg (zaa (zas 1 zey (zaa (eVar 2) aNil)) (zaa (eVar 1) aNil))) [.pl (zax W c.length rs),.pl (zga c),.pl (webD W),.pl (.int c.length),.pl (zbo rs),.no]=some (.nx [.pl (zax W c.length rs),.pl (zga c),.pl (webD W),.pl (.int c.length),.pl (zbo rs),.ac (.list (c.map λa=>zbc (upA W a)))]):=
  zgt (r:=⟨.list (c.map λa=>zbc (upA W a)),true,[]⟩) (zay (n:=2) (rs:=[⟨.dict (dS zbc (ups W)),true,[]⟩,⟨zga c,false,[]⟩]) (zcs (zay (n:=1) (rs:=[⟨webD W,false,[]⟩]) rfl rfl (zvc h)) (zhp rfl)) rfl (zsz h hc.len hc.kinds))
 have k:zdl (gN 0) (tTru (zas 2 zgl (zaa (eIxV 0 (eC (.int 1))) (zaa (eVar 1) aNil)))) (eVar 0) [.no,.pl (.list (c.map λa=>zbc (upA W a)))] (rs.map zel)=some ((fitL W rs c).map zel):=
  zgk (enc:=zel) (out:=zel) (e:=eVar 0) (λr=>fitB W r.2 c) λr hm=>⟨[.pl (zel r),.pl (.list (c.map λa=>zbc (upA W a)))],rfl,zaqg (n:=2) (rs:=[⟨zaq r.2,false,[]⟩,⟨.list (c.map λa=>zbc (upA W a)),false,[]⟩]) rfl rfl (zabc hc.len),λ_=>⟨⟨zel r,false,[]⟩,rfl,rfl⟩⟩
 exact zhn (env:=[.pl (zax W c.length rs),.pl (zga c),.no,.no,.no,.no]) rfl (zbf rfl (zbf (zami (zay (n:=3) (rs:=[⟨webD W,false,[]⟩,vi c.length,⟨zga c,false,[]⟩]) rfl rfl (zabb h hc.len hc.few hc.kinds))) (zbf e5 (zez (zdy (own:=["rule"]) (fr:=[5]) (fi:=zap (eVar 4)) (ds:=rs.map zel) (bs:=[]) rfl (by rw[qG];omega) k)))))
theorem zamr{W:Web}(h:WebOk W){rs:List (Str×List Str)}{c:List Arm}(hr:RulesOk W rs)(hc:CallOk W c):zna [zax W c.length rs,zga c]=some (zak ((zabd W (fitL W rs c)).map (·.1)),true):=by
 have e2:sSet 2 (zas 2 zdv (zaa (eVar 0) (zaa (eVar 1) aNil))) [.pl (zax W c.length rs),.pl (zga c),.no]=some (.nx [.pl (zax W c.length rs),.pl (zga c),.ac (zbo (fitL W rs c))]):=
  zgt (r:=⟨zbo (fitL W rs c),true,[]⟩) (zay (n:=2) (rs:=[⟨zax W c.length rs,false,[]⟩,⟨zga c,false,[]⟩]) rfl rfl (zql h hr hc))
 have e3:zas 1 zey (zaa (eIxV 0 (eC (.int 0))) aNil) [.pl (zax W c.length rs),.pl (zga c),.ac (zbo (fitL W rs c))]=some ⟨.dict (dS zbc (ups W)),true,[]⟩:=zay (n:=1) (rs:=[⟨webD W,false,[]⟩]) rfl rfl (zvc h)
 have e4:zas 2 zgm (zaa (zas 1 zey (zaa (eIxV 0 (eC (.int 0))) aNil)) (zaa (eVar 2) aNil)) [.pl (zax W c.length rs),.pl (zga c),.ac (zbo (fitL W rs c))]=some ⟨zbo (zabd W (fitL W rs c)),true,[2]⟩:=zay (n:=2) (rs:=[⟨.dict (dS zbc (ups W)),true,[]⟩,⟨zbo (fitL W rs c),false,[2]⟩]) (zcs e3 (zhp rfl)) rfl (zabe h (hr.filter _))
 exact zhn (env:=[.pl (zax W c.length rs),.pl (zga c),.no]) rfl (zbf e2 (zez (zay (n:=1) (rs:=[⟨zbo (zabd W (fitL W rs c)),true,[2]⟩]) (zhp e4) rfl (zabf ((hr.filter _).filter _).len))))
theorem zadp{W:Web}(h:WebOk W){rs:List (Str×List Str)}{c:List Arm}(hr:RulesOk W rs)(hc:CallOk W c):zhi [zax W c.length rs,zga c]=some (ziv ((zabd W (fitL W rs c)).map (·.1)),false):=
 zhn (env:=[.pl (zax W c.length rs),.pl (zga c)]) rfl (zez (zay (n:=1) (rs:=[⟨zak ((zabd W (fitL W rs c)).map λr:Str×List Str=>r.1),true,[]⟩]) (zhp (zay (n:=2) (rs:=[⟨zax W c.length rs,false,[]⟩,⟨zga c,false,[]⟩]) rfl rfl (zamr h hr hc))) rfl (zado _)))
noncomputable def zvf:SF:=(sSeq (sSet 1 (eLst (zaa (eTup aNil) aNil)))
  (sSeq (sFor (zap (eVar 0)) (gN 2)
  (sSet 1 (zmq ["ahead","thing"] [2] (zap (eVar 1)) (gN 0) zbi (zap (eVar 2)) (gN 1) zbi (eOp addE (eVar 0) (eTup (zaa (eVar 1) aNil))))))
  (zqj 1)))
noncomputable def zgb:GF:=fnD 3 zvf
noncomputable def znb:SFr (List Int):=(rSeq (rS 0 (sSet 1 (eC (.int 7)))) (rFor (zall (zbp rScr rNil)) (gT 2 (zba 2 (zba 3 zft))) (rS 0 (sSet 1 (eOp modD (eOp addD (eOp addD (eOp mulD (eVar 1) (eC (.int 48271))) (eOp mulD (eOp modD (eVar 3) (eC (.int 2147483629))) (eOp addD (eOp mulD (eVar 2) (eVar 2)) (eC (.int 3))))) (eC (.int 5))) (eC (.int 2147483647)))))))
noncomputable def zig:List Int->Option Int:=zapn znb 3 (eVar 1)
noncomputable def zvg:SFr Pen:=(rSeq (ziz (qAnd (qB (rOp ltD (rGet 1) (zam (eOp powB (eC (.int 10)) (eC (.int 18)))))) zuu) (rPut 1 (rOp modD zalg (zam (eOp powB (eOp powB (eC (.int 10)) (eC (.int 50))) (eC (.int 8)))))) 1000)
  (rSeq (rIf (qB (rOp geD (rGet 1) (zam (eOp powB (eC (.int 10)) (eC (.int 18)))))) (rSeq (rSet 2 (rOp modD (rGet 1) (zam (eVar 1))))
  (rSeq (rPut 1 (rOp zqh (rGet 1) (zam (eVar 1))))
  (rS 0 (zqj 2)))) rNx)
  (rSeq (rPut 3 (rOp addD (rGet 3) (zam (eC (.int 1)))))
  (rSeq (rPut 2 (rOp modD (rOp addD (rOp addD (rOp mulD (rGet 2) (zam (eC (.int 48271)))) (rOp mulD (rGet 3) (rGet 3))) (zam (eC (.int 11)))) (zam (eC (.int 2147483647)))))
  (rRet (rOp modD (rOp zqh (rOp modD (rOp powB (rGet 2) (zam (eC (.int 3)))) (zam (eC (.int 2305843009213693951)))) (zam (eC (.int 64)))) (zam (eVar 1))))))))
noncomputable def zao:GR Pen:=fnR 3 zvg
noncomputable def zvh:SFr Pen:=(rSeq (rSet 2 (zam (eC (.str "abcdefghijklmnopqrstuvwxyz"))))
  (rSeq (rSet 3 (zaak (zale ["_law_k"] [0,2] (zfx (zbp (rOp addD (zam (eC (.int 1))) (zbn 2 zao (zbp (zam (eC (.int 3))) rNil))) rNil)) (gN 0) zbi (rOp ixD (zam (eVar 2)) (zbn 2 zao (zbp (zam (eC (.int 26))) rNil))))))
  (rSeq (rSet 4 (zbn 2 zao (zbp (zam (eC (.int 4))) rNil)))
  (rSeq (rIf (zsc (zwr (zck (eOp neD (eVar 1) (eLst aNil))) (zck (eOp ltD (eVar 4) (eC (.int 2)))))) (rSeq (rSet 5 (rOp ixD (zam (eVar 1)) (zbn 2 zao (zbp (zam (eCB lenD (zaa (eVar 1) aNil))) rNil))))
  (rSet 3 (zam (eSl (eOp ixD (eLst (zaa (eOp addD (eVar 5) (eVar 3)) (zaa (eOp addD (eVar 3) (eVar 5)) aNil))) (eVar 4)) zagv (zqi (eC (.int 8))))))) rNx)
  (rSeq (rSet 6 (zam (eOp addD (eOp repD (eLst (zaa (eVar 3) aNil)) (eC (.int 5))) (eLst (zaa (eC (.str "none")) (zaa (eC (.str "rule")) (zaa (eC (.str "quarrel")) (zaa (eC (.str "kind")) (zaa (eC (.str "own")) aNil)))))))))
  (rSeq (rSet 3 (rOp ixD (zam (eVar 6)) (zbn 2 zao (zbp (zam (eC (.int 10))) rNil))))
  (rSeq (rIf (zsc (zck (eOp (inD false) (eVar 3) (eVar 1)))) (rSet 3 (zam (eOp ixD (zdb ["_law_sign"] [1] (zry (eVar 2)) (gN 0) (zck (eOp (inD true) (eVar 0) (eVar 1))) (eVar 0)) (eC (.int 0))))) rNx)
  (rS 0 (zqj 3)))))))))
noncomputable def zei:GR Pen:=fnR 7 zvh
noncomputable def znc:SFr Pen:=(rSeq (rSet 2 (zam (eLst aNil)))
  (rSeq (rSet 3 (zam (eLst aNil)))
  (rSeq (rFor (rIP (zfu (zaa (eVar 1) aNil))) (gN 4)
  (rSeq (rSet 5 (zam (eLst aNil)))
  (rSeq (rFor (zfx (zbp (rCB minD (zbp (zam (eVar 4)) (zbp (zbn 2 zao (zbp (zam (eC (.int 5))) rNil)) rNil))) rNil)) (gN 6)
  (rSeq (rSet 7 (rOp ixD (zam (eVar 3)) (zbn 2 zao (zbp (zam (eVar 4)) rNil))))
  (rIf (zsc (zck (eOp (inD true) (eVar 7) (eVar 5)))) (rApp 5 (zam (eVar 7))) rNx)))
  (rSeq (rApp 3 (zbn 2 zei (zbp (zam (eVar 3)) rNil)))
  (rApp 2 (zam (eTup (zaa (eIxV 3 (eVar 4)) (zaa (eVar 5) aNil)))))))))
  (rS 0 (zqj 2)))))
noncomputable def zej:GR Pen:=fnR 8 znc
noncomputable def zog:GF->SF:=λ(G:GF)=>(sSeq (sIf (tTru (eIsi "str" (eVar 0))) (sRet (eAnd (eIsi "str" (eVar 1)) (eOp eqD (eVar 1) (eVar 0)))) sNil)
  (sSeq (sIf (tTru (eIsi "list" (eVar 0))) (sSeq (sIf (tOrF (zjp (tTru (eIsi "list" (eVar 1)))) (zck (eOp neD (eCB lenD (zaa (eVar 1) aNil)) (eCB lenD (zaa (eVar 0) aNil))))) (sRet (eC (.bool false))) sNil)
  (sRet (eCB (anyD λbs=>bs.all id) (zaa (zdb ["_law_one","_law_two"] [] (zrx (zaa (eVar 0) (zaa (eVar 1) aNil))) (gT 2 (zba 0 (zba 1 zft))) zbi (zas 2 G (zaa (eVar 0) (zaa (eVar 1) aNil)))) aNil)))) sNil)
  (sSeq (sIf (tTru (eIsi "tuple" (eVar 0))) (sSeq (sIf (tOrF (zjp (tTru (eIsi "tuple" (eVar 1)))) (zck (eOp neD (eCB lenD (zaa (eVar 1) aNil)) (eCB lenD (zaa (eVar 0) aNil))))) (sRet (eC (.bool false))) sNil)
  (sRet (eCB (anyD λbs=>bs.all id) (zaa (zdb ["_law_one","_law_two"] [] (zrx (zaa (eVar 0) (zaa (eVar 1) aNil))) (gT 2 (zba 0 (zba 1 zft))) zbi (zas 2 G (zaa (eVar 0) (zaa (eVar 1) aNil)))) aNil)))) sNil)
  (sRet (eAnd (eIsi "int" (eVar 1)) (eAnd (eNot (eIsi "bool" (eVar 1))) (eOp eqD (eVar 1) (eVar 0))))))))
noncomputable def zev:Nat->GF
 | 0=>λ_=>none
 | n+1=>fnD 2 (zog (zev n))
noncomputable def zcj:GF:=zev 7
noncomputable def zvi:SF:=(sRet (eTup (zaa (zdb ["_law_name_here","_law_elders"] [] (zap (eIxV 0 (eC (.int 0)))) (gT 2 (zba 0 (zba 1 zft))) zbi (eTup (zaa (eVar 0) (zaa (eCB zlv (zaa (eVar 1) aNil)) aNil)))) (zaa (eIxV 0 (eC (.int 1))) (zaa (eCB zlv (zaa (eIxV 0 (eC (.int 2))) aNil)) aNil)))))
noncomputable def zha:GF:=fnD 1 zvi
noncomputable def zvj:SF:=(sSeq (sSet 1 (eLst aNil))
  (sSeq (sFor (zap (eVar 0)) (gN 2)
  (sIf (zck (eOp (inS true) (eVar 2) (eVar 1))) (sApp 1 (eVar 2)) sNil))
  (sRet (zdb ["mark"] [1] (zap (eVar 0)) (gN 0) zbi (zso (eVar 1) (eVar 0))))))
noncomputable def zhb:GF:=fnD 3 zvj
noncomputable def zpn:SF:=(sSeq (sSet 2 (zama (zaa (eVar 0) (zaa (eVar 1) aNil))))
  (sRet (eCB zlh (zaa (zdb ["place"] [2] (zfu (zaa (eCB lenD (zaa (eVar 0) aNil)) aNil)) (gN 0) zbi (zhf 1 (eVar 0))) aNil))))
noncomputable def zdq:GF:=fnD 3 zpn
noncomputable def zkd:SF:=(sSeq (sSet 2 (eOp repD (eLst (zaa (zas 1 zex (zaa (eIxV 0 (eC (.int 0))) aNil)) aNil)) (eCB lenD (zaa (eVar 1) aNil))))
  (sRet (zdb ["kinds"] [0,1] (zap (zas 1 zgb (zaa (eVar 2) aNil))) (gN 0) zbi (zas 2 zhi (zaa (eVar 1) (zaa (zas 2 zdq (zaa (eVar 2) (zaa (eVar 0) aNil))) aNil))))))
noncomputable def zdi:GF:=fnD 3 zkd
noncomputable def zazg:SF:=(sSeq (sSet 2 (eOp zqh (eCB lenD (zaa (eVar 0) aNil)) (eVar 1)))
  (sRet (zdb ["number"] [0,2] (zfu (zaa (eVar 1) aNil)) (gN 0) zbi (eSl (eVar 1) (zqi (eOp mulD (eVar 2) (eVar 0))) (zqi (eOp mulD (eVar 2) (eOp addD (eVar 0) (eC (.int 1)))))))))
noncomputable def zta:GF:=fnD 3 zazg
noncomputable def zabg:SF:=(sSeq (sSet 2 (eCB lenD (zaa (eIxV 0 (eC (.int 0))) aNil)))
  (sSeq (sSet 3 (eLst (zaa (zas 2 zdi (zaa (eVar 0) (zaa (eVar 1) aNil))) aNil)))
  (sSeq (sSet 4 (eLst aNil))
  (sSeq (sFor (zap (eVar 1)) (gN 5)
  (sSeq (sSet 6 (zmq ["row","part"] [2] (zap (eVar 3)) (gN 0) zbi (zap (zas 2 zta (zaa (eVar 0) (zaa (eVar 2) aNil)))) (gN 1) zbi (eVar 1)))
  (sSeq (sSet 7 (zas 1 zhb (zaa (eVar 6) aNil)))
  (sSeq (sApp 4 (zas 2 zta (zaa (eVar 7) (zaa (eCB lenD (zaa (eVar 3) aNil)) aNil))))
  (sSet 3 (zdb ["number"] [6,7] (zfu (zaa (eOp addD (eCB zadf (zaa (eVar 7) aNil)) (eC (.int 1))) aNil)) (gN 0) zbi (eIxV 1 (zmw (eVar 2) (eVar 0)))))))))
  (sSeq (sApp 4 (zdb ["row"] [] (zap (eVar 3)) (gN 0) zbi (eIxV 0 (eC (.int 0)))))
  (zqj 4))))))
noncomputable def zdw:GF:=fnD 8 zabg
noncomputable def zpo:SF:=(sRet (zdb ["order"] [0] (zap (zas 1 zgb (zaa (eOp repD (eLst (zaa (zaps (eVar 0)) aNil)) (eVar 0)) aNil))) (gN 0) (zck (eOp eqD (zrf (eVar 0)) (eVar 1))) (eCB zlv (zaa (eVar 0) aNil))))
noncomputable def zpp:GF:=fnD 1 zpo
noncomputable def znd:NTF:=(zauw ["order"] [0] (zap (zas 1 zgb (zaa (eOp repD (eLst (zaa (zaps (eVar 0)) aNil)) (eVar 0)) aNil))) (gN 0) (zck (eOp eqD (zrf (eVar 0)) (eVar 1))) (pFr (eCB zlv (zaa (eVar 0) aNil))))
noncomputable def zfm:GFT:=fnT 1 znd
noncomputable def zne:SF:=(sRet (eCB zadi (zaa (zdb ["level"] [] (zap (eVar 0)) (gN 0) zbi (eCB lenD (zaa (eVar 0) aNil))) aNil)))
noncomputable def zek:GF:=fnD 1 zne
noncomputable def zpq:SF:=(sRet (zapx [0] (zalr 1 zfm (zaa (eIxV 0 (eC (.int 1))) aNil)) (zas 1 zek (zaa (zas 2 zdw (zaa (eVar 1) (zaa (eVar 0) aNil))) aNil))))
noncomputable def zcg:GF:=fnD 1 zpq
noncomputable def zll:SFr Pen:=(rSeq (rSet 1 (rOp addD (zam (eC (.int 1))) (zbn 2 zao (zbp (zam (eC (.int 3))) rNil))))
  (rSeq (rSet 2 (rOp addD (zam (eC (.int 1))) (zbn 2 zao (zbp (zam (eOp ixD (eLst (zaa (eC (.int 6)) (zaa (eC (.int 5)) (zaa (eC (.int 3)) aNil)))) (eOp subD (eVar 1) (eC (.int 1))))) rNil))))
  (rSeq (rIf (qB (rOp eqD (zbn 2 zao (zbp (zam (eC (.int 8))) rNil)) (zam (eC (.int 7))))) (rSet 2 (zam (eOp ixD (eLst (zaa (eC (.int 10)) (zaa (eC (.int 6)) (zaa (eC (.int 3)) aNil)))) (eOp subD (eVar 1) (eC (.int 1)))))) rNx)
  (rSeq (rSet 3 (zbn 2 zej (zbp (zam (eVar 2)) rNil)))
  (rSeq (rSet 4 (zam (eLst aNil)))
  (rSeq (rFor (zfx (zbp (zbn 2 zao (zbp (zam (eC (.int 13))) rNil)) rNil)) (gN 5)
  (rSeq (rSet 6 (zam (eLst aNil)))
  (rSeq (rFor (rIP (zfu (zaa (eVar 1) aNil))) (gN 7)
  (rSeq (rSet 8 (zbn 2 zao (zbp (zam (eVar 2)) rNil)))
  (rApp 6 (rOp ixD (rOp ixD (zam (eVar 3)) (rOp zqh (zam (eVar 8)) (rOp addD (zam (eC (.int 1))) (zbn 2 zao (zbp (zam (eC (.int 2))) rNil))))) (zam (eC (.int 0)))))))
  (rIf (zsc (zck (eOp (inS true) (eCB zlh (zaa (eVar 6) aNil)) (zdb ["_law_rule"] [] (zap (eVar 4)) (gN 0) zbi (eIxV 0 (eC (.int 1))))))) (rApp 4 (rTup (zbp (zbn 2 zei (zbp (zam (zdb ["_law_rule"] [] (zap (eVar 4)) (gN 0) zbi (eIxV 0 (eC (.int 0))))) rNil)) (zbp (zam (eCB zlh (zaa (eVar 6) aNil))) rNil)))) rNx))))
  (rRet (zam (eTup (zaa (eVar 3) (zaa (eVar 1) (zaa (eVar 4) aNil))))))))))))
noncomputable def zep:GR Pen:=fnR 9 zll
noncomputable def zpr:SF:=(sSeq (sIf (zck (eOp eqD (eVar 0) (eC (.int 1)))) (sRet (eLst (zaa (eLst (zaa (eC (.int 0)) aNil)) aNil))) sNil)
  (sSeq (sIf (zck (eOp eqD (eVar 0) (eC (.int 2)))) (sRet (eLst (zaa (eLst (zaa (eC (.int 0)) (zaa (eC (.int 1)) aNil))) (zaa (eLst (zaa (eC (.int 1)) (zaa (eC (.int 0)) aNil))) aNil)))) sNil)
  (sRet (eLst (zaa (eLst (zaa (eC (.int 0)) (zaa (eC (.int 1)) (zaa (eC (.int 2)) aNil)))) (zaa (eLst (zaa (eC (.int 0)) (zaa (eC (.int 2)) (zaa (eC (.int 1)) aNil)))) (zaa (eLst (zaa (eC (.int 1)) (zaa (eC (.int 0)) (zaa (eC (.int 2)) aNil)))) (zaa (eLst (zaa (eC (.int 1)) (zaa (eC (.int 2)) (zaa (eC (.int 0)) aNil)))) (zaa (eLst (zaa (eC (.int 2)) (zaa (eC (.int 0)) (zaa (eC (.int 1)) aNil)))) (zaa (eLst (zaa (eC (.int 2)) (zaa (eC (.int 1)) (zaa (eC (.int 0)) aNil)))) aNil))))))))))
noncomputable def zgn:GF:=fnD 1 zpr
noncomputable def znf:SF:=(sSeq (sSet 1 (eC .none))
  (sSeq (sSet 2 (eC .none))
  (sSeq (sFor (zap (zas 1 zgn (zaa (eIxV 0 (eC (.int 1))) aNil))) (gN 3)
  (sSeq (sSet 4 (eCB zadi (zaa (zdb ["_law_nodes"] [] (zap (zas 2 zdw (zaa (eVar 0) (zaa (eCB zlv (zaa (eVar 3) aNil)) aNil)))) (gN 0) zbi (eCB lenD (zaa (eVar 0) aNil))) aNil)))
  (sIf (tOrF (zck (eIsN false (eVar 1))) (zck (eOp ltD (eVar 4) (eVar 1)))) (sSeq (sSet 1 (eVar 4))
  (sSet 2 (eVar 3))) sNil)))
  (zqj 2))))
noncomputable def zcy:GF:=fnD 5 znf
theorem zrh:bootBuiltins "all"=some (.builtin "all"):=by decide +kernel
theorem zaqh:bootBuiltins "any"=some (.builtin "any"):=by decide +kernel
theorem zams:bootBuiltins "bool"=some (.type "bool"):=by decide +kernel
theorem zazh:bootBuiltins "dict"=some (.type "dict"):=by decide +kernel
theorem zaqi:bootBuiltins "int"=some (.type "int"):=by decide +kernel
theorem zbx:bootBuiltins "isinstance"=some (.builtin "isinstance"):=by decide +kernel
theorem zea:bootBuiltins "len"=some (.builtin "len"):=by decide +kernel
theorem zfn:bootBuiltins "list"=some (.type "list"):=by decide +kernel
theorem zaqj:bootBuiltins "max"=some (.builtin "max"):=by decide +kernel
theorem zaqk:bootBuiltins "min"=some (.builtin "min"):=by decide +kernel
theorem zbaa:bootBuiltins "set"=some (.type "set"):=by decide +kernel
theorem zagf:bootBuiltins "str"=some (.type "str"):=by decide +kernel
theorem zagg:bootBuiltins "sum"=some (.builtin "sum"):=by decide +kernel
theorem zgc:bootBuiltins "tuple"=some (.type "tuple"):=by decide +kernel
theorem zbab:bootBuiltins "zip"=some (.type "zip"):=by decide +kernel
noncomputable def top(i:Nat):Stmt:=PySem.Challenge.pw_bestcalls_k48_the_best_order.main.body.getD i (.Pass ⟨0,0,0,0⟩)
structure Txt(mg:Str->Option Value):Prop where
 all:mg "all"=none
 any:mg "any"=none
 bool:mg "bool"=none
 dict:mg "dict"=none
 enumerate:mg "enumerate"=none
 int:mg "int"=none
 isinstance:mg "isinstance"=none
 len:mg "len"=none
 list:mg "list"=none
 max:mg "max"=none
 min:mg "min"=none
 range:mg "range"=none
 set:mg "set"=none
 str:mg "str"=none
 sum:mg "sum"=none
 tuple:mg "tuple"=none
 zip:mg "zip"=none
noncomputable abbrev zoh:Stmt:=top 5
noncomputable abbrev zvk:List Str:=["rows","told","row"]
theorem ziw:zvk.Nodup:=by decide +kernel
theorem zadq:FnScope zvk ["rows"] (zal zoh):=⟨rfl,rfl,rfl,ziw,rfl,by decide +kernel,by decide +kernel⟩
noncomputable abbrev zoi:Stmt:=top 6
noncomputable abbrev zvl:List Str:=["marks","firsts","mark"]
theorem zma:zvl.Nodup:=by decide +kernel
theorem zadr:FnScope zvl ["marks"] (zal zoi):=⟨rfl,rfl,rfl,zma,rfl,by decide +kernel,by decide +kernel⟩
noncomputable abbrev zoj:Stmt:=top 8
noncomputable abbrev zvm:List Str:=["web"]
theorem zads:zvm.Nodup:=by decide +kernel
theorem zadt:FnScope zvm ["web"] (zal zoj):=⟨rfl,rfl,rfl,zads,rfl,by decide +kernel,by decide +kernel⟩
noncomputable abbrev zok:Stmt:=top 9
noncomputable abbrev zvn:List Str:=["arm"]
theorem zadu:zvn.Nodup:=by decide +kernel
theorem zadv:FnScope zvn ["arm"] (zal zok):=⟨rfl,rfl,rfl,zadu,rfl,by decide +kernel,by decide +kernel⟩
noncomputable abbrev zix:Stmt:=top 10
noncomputable abbrev zng:List Str:=["web","names","known","name"]
theorem zhz:zng.Nodup:=by decide +kernel
theorem zty:FnScope zng ["web","names"] (zal zix):=⟨rfl,rfl,rfl,zhz,rfl,by decide +kernel,by decide +kernel⟩
noncomputable abbrev zol:Stmt:=top 11
noncomputable abbrev zvo:List Str:=["web","roofs","name","elders","roof","elder"]
theorem zgd:zvo.Nodup:=by decide +kernel
theorem zadw:FnScope zvo ["web"] (zal zol):=⟨rfl,rfl,rfl,zgd,rfl,by decide +kernel,by decide +kernel⟩
noncomputable abbrev ztb:Stmt:=top 12
noncomputable abbrev zabh:List Str:=["roofs","arm","roof","name"]
theorem zom:zabh.Nodup:=by decide +kernel
theorem zaht:FnScope zabh ["roofs","arm"] (zal ztb):=⟨rfl,rfl,rfl,zom,rfl,by decide +kernel,by decide +kernel⟩
noncomputable abbrev zhj:Stmt:=top 14
noncomputable abbrev zke:List Str:=["call"]
theorem zqm:zke.Nodup:=by decide +kernel
theorem zqn:FnScope zke ["call"] (zal zhj):=⟨rfl,rfl,rfl,zqm,rfl,by decide +kernel,by decide +kernel⟩
noncomputable abbrev zkf:Stmt:=top 15
noncomputable abbrev zps:List Str:=["web","places","call"]
theorem zxr:zps.Nodup:=by decide +kernel
theorem zxs:FnScope zps ["web","places","call"] (zal zkf):=⟨rfl,rfl,rfl,zxr,rfl,by decide +kernel,by decide +kernel⟩
noncomputable abbrev zhk:Stmt:=top 16
noncomputable abbrev zkg:List Str:=["roofs","call"]
theorem zqo:zkg.Nodup:=by decide +kernel
theorem zqp:FnScope zkg ["roofs","call"] (zal zhk):=⟨rfl,rfl,rfl,zqo,rfl,by decide +kernel,by decide +kernel⟩
noncomputable abbrev zkh:Stmt:=top 17
noncomputable abbrev zpt:List Str:=["kinds","call_roofs"]
theorem zxt:zpt.Nodup:=by decide +kernel
theorem zxu:FnScope zpt ["kinds","call_roofs"] (zal zkh):=⟨rfl,rfl,rfl,zxt,rfl,by decide +kernel,by decide +kernel⟩
noncomputable abbrev zmb:Stmt:=top 18
noncomputable abbrev ztc:List Str:=["roofs","one","other"]
theorem zabi:ztc.Nodup:=by decide +kernel
theorem zabj:FnScope ztc ["roofs","one","other"] (zal zmb):=⟨rfl,rfl,rfl,zabi,rfl,by decide +kernel,by decide +kernel⟩
noncomputable abbrev zgq:Stmt:=top 20
noncomputable abbrev zjb:List Str:=["book","call","web","places","rules","call_roofs"]
theorem zdj:zjb.Nodup:=by decide +kernel
theorem zon:FnScope zjb ["book","call"] (zal zgq):=⟨rfl,rfl,rfl,zdj,rfl,by decide +kernel,by decide +kernel⟩
noncomputable abbrev zki:Stmt:=top 21
noncomputable abbrev zpu:List Str:=["roofs","rules"]
theorem zxv:zpu.Nodup:=by decide +kernel
theorem zxw:FnScope zpu ["roofs","rules"] (zal zki):=⟨rfl,rfl,rfl,zxv,rfl,by decide +kernel,by decide +kernel⟩
noncomputable abbrev zkj:Stmt:=top 22
noncomputable abbrev zpv:List Str:=["rules"]
theorem zxx:zpv.Nodup:=by decide +kernel
theorem zxy:FnScope zpv ["rules"] (zal zkj):=⟨rfl,rfl,rfl,zxx,rfl,by decide +kernel,by decide +kernel⟩
noncomputable abbrev zmc:Stmt:=top 23
noncomputable abbrev ztd:List Str:=["names"]
theorem zabk:ztd.Nodup:=by decide +kernel
theorem zabl:FnScope ztd ["names"] (zal zmc):=⟨rfl,rfl,rfl,zabk,rfl,by decide +kernel,by decide +kernel⟩
noncomputable abbrev zte:Stmt:=top 24
noncomputable abbrev zabm:List Str:=["book","call","rules"]
theorem zvp:zabm.Nodup:=by decide +kernel
theorem zahu:FnScope zabm ["book","call"] (zal zte):=⟨rfl,rfl,rfl,zvp,rfl,by decide +kernel,by decide +kernel⟩
noncomputable abbrev zmd:Stmt:=top 25
noncomputable abbrev ztf:List Str:=["book","call"]
theorem zabn:ztf.Nodup:=by decide +kernel
theorem zabo:FnScope ztf ["book","call"] (zal zmd):=⟨rfl,rfl,rfl,zabn,rfl,by decide +kernel,by decide +kernel⟩
noncomputable abbrev zkk:Stmt:=top 27
noncomputable abbrev zpw:List Str:=["order","kinds","at"]
theorem znh:zpw.Nodup:=by decide +kernel
theorem zxz:FnScope zpw ["order","kinds"] (zal zkk):=⟨rfl,rfl,rfl,znh,rfl,by decide +kernel,by decide +kernel⟩
noncomputable abbrev zhl:Stmt:=top 28
noncomputable abbrev zkl:List Str:=["book","order","rows"]
theorem zjc:zkl.Nodup:=by decide +kernel
theorem zqq:FnScope zkl ["book","order"] (zal zhl):=⟨rfl,rfl,rfl,zjc,rfl,by decide +kernel,by decide +kernel⟩
noncomputable abbrev zavj:Stmt:=top 29
noncomputable abbrev zazi:List Str:=["row","count","length"]
theorem zart:zazi.Nodup:=by decide +kernel
theorem zazj:FnScope zazi ["row","count"] (zal zavj):=⟨rfl,rfl,rfl,zart,rfl,by decide +kernel,by decide +kernel⟩
noncomputable abbrev ztg:Stmt:=top 30
noncomputable abbrev zabp:List Str:=["book","order","count","open_rows","walk","place","parts","numbers"]
theorem zfa:zabp.Nodup:=by decide +kernel
theorem zahv:FnScope zabp ["book","order"] (zal ztg):=⟨rfl,rfl,rfl,zfa,rfl,by decide +kernel,by decide +kernel⟩
noncomputable abbrev zhu:Stmt:=top 31
noncomputable abbrev zpx:List Str:=["places"]
theorem zya:zpx.Nodup:=by decide +kernel
theorem zni:FnScope zpx ["places"] (zal zhu):=⟨rfl,rfl,rfl,zya,rfl,by decide +kernel,by decide +kernel⟩
noncomputable abbrev ziy:Stmt:=top 32
noncomputable abbrev znj:List Str:=["walk"]
theorem ztz:znj.Nodup:=by decide +kernel
theorem zua:FnScope znj ["walk"] (zal ziy):=⟨rfl,rfl,rfl,ztz,rfl,by decide +kernel,by decide +kernel⟩
noncomputable abbrev zkm:Stmt:=top 33
noncomputable abbrev zpy:List Str:=["book"]
theorem zyb:zpy.Nodup:=by decide +kernel
theorem zyc:FnScope zpy ["book"] (zal zkm):=⟨rfl,rfl,rfl,zyb,rfl,by decide +kernel,by decide +kernel⟩
noncomputable abbrev zth:Stmt:=top 35
noncomputable abbrev zti:List Str:=["_law_script","_law_seed","_law_k","_law_cell"]
theorem zih:zti.Nodup:=by decide +kernel
theorem zahw:FnScope zti ["_law_script"] (zal zth):=⟨rfl,rfl,rfl,zih,rfl,by decide +kernel,by decide +kernel⟩
noncomputable abbrev zoo:Stmt:=top 36
noncomputable abbrev zvq:List Str:=["_law_pen_here","_law_many","_law_digit"]
theorem ztj:zvq.Nodup:=by decide +kernel
theorem zadx:FnScope zvq ["_law_pen_here","_law_many"] (zal zoo):=⟨rfl,rfl,rfl,ztj,rfl,by decide +kernel,by decide +kernel⟩
noncomputable abbrev zop:Stmt:=top 37
noncomputable abbrev zvr:List Str:=["_law_pen_here","_law_names","_law_signs","_law_word","_law_way","_law_beside","_law_pool"]
theorem zdu:zvr.Nodup:=by decide +kernel
theorem zady:FnScope zvr ["_law_pen_here","_law_names"] (zal zop):=⟨rfl,rfl,rfl,zdu,rfl,by decide +kernel,by decide +kernel⟩
noncomputable abbrev ztk:Stmt:=top 38
noncomputable abbrev zabq:List Str:=["_law_pen_here","_law_size","_law_web_here","_law_names","_law_k","_law_elders","_law_turn","_law_elder"]
theorem zge:zabq.Nodup:=by decide +kernel
theorem zahx:FnScope zabq ["_law_pen_here","_law_size"] (zal ztk):=⟨rfl,rfl,rfl,zge,rfl,by decide +kernel,by decide +kernel⟩
noncomputable abbrev zoq:Stmt:=top 39
noncomputable abbrev zvs:List Str:=["_law_pen_here","_law_places","_law_size","_law_web_here","_law_rules","_law_turn","_law_kinds","_law_place","_law_at"]
theorem zda:zvs.Nodup:=by decide +kernel
theorem zadz:FnScope zvs ["_law_pen_here"] (zal zoq):=⟨rfl,rfl,rfl,zda,rfl,by decide +kernel,by decide +kernel⟩
noncomputable abbrev zor:Stmt:=top 40
noncomputable abbrev zvt:List Str:=["_law_due_here","_law_thing"]
theorem zaea:zvt.Nodup:=by decide +kernel
theorem ztl:FnScope zvt ["_law_due_here","_law_thing"] (zal zor):=⟨rfl,rfl,rfl,zaea,rfl,by decide +kernel,by decide +kernel⟩
noncomputable abbrev zos:Stmt:=top 41
noncomputable abbrev zvu:List Str:=["_law_book_here"]
theorem zaeb:zvu.Nodup:=by decide +kernel
theorem zaec:FnScope zvu ["_law_book_here"] (zal zos):=⟨rfl,rfl,rfl,zaeb,rfl,by decide +kernel,by decide +kernel⟩
noncomputable abbrev zkn:Stmt:=top 42
noncomputable abbrev zpz:List Str:=["_law_places"]
theorem zyd:zpz.Nodup:=by decide +kernel
theorem zye:FnScope zpz ["_law_places"] (zal zkn):=⟨rfl,rfl,rfl,zyd,rfl,by decide +kernel,by decide +kernel⟩
noncomputable abbrev ztm:Stmt:=top 43
noncomputable abbrev zabr:List Str:=["_law_book_here","_law_fewest","_law_due_here","_law_order","_law_many"]
theorem zgf:zabr.Nodup:=by decide +kernel
theorem zahy:FnScope zabr ["_law_book_here"] (zal ztm):=⟨rfl,rfl,rfl,zgf,rfl,by decide +kernel,by decide +kernel⟩
noncomputable abbrev zahz:Stmt:=top 44
noncomputable abbrev zavk:List Str:=["_law_script","_law_pen_here","_law_book_here","_law_other","_law_handed","_law_due_here","_law_first"]
theorem ztn:zavk.Nodup:=by decide +kernel
theorem zazk:FnScope zavk ["_law_script"] (zal zahz):=⟨rfl,rfl,rfl,ztn,rfl,by decide +kernel,by decide +kernel⟩
theorem zlm:(["ahead","thing","row"]:List Str).Nodup:=by decide +kernel
theorem zub:(["mark","firsts"]:List Str).Nodup:=by decide +kernel
theorem zln:(["name","elders"]:List Str).Nodup:=by decide +kernel
theorem zhm:(["arm","name"]:List Str).Nodup:=by decide +kernel
theorem zme:(["arm","roofs"]:List Str).Nodup:=by decide +kernel
theorem zjd:(["kind","roof"]:List Str).Nodup:=by decide +kernel
theorem zko:(["low","high","roofs"]:List Str).Nodup:=by decide +kernel
theorem zld:(["rule","call_roofs"]:List Str).Nodup:=by decide +kernel
theorem zqr:(["rule","roofs","rules"]:List Str).Nodup:=by decide +kernel
theorem zje:(["name","kinds","rule","roofs"]:List Str).Nodup:=by decide +kernel
theorem zjf:(["name","kinds"]:List Str).Nodup:=by decide +kernel
theorem zqs:(["place","at"]:List Str).Nodup:=by decide +kernel
theorem zmf:(["kinds","book","order"]:List Str).Nodup:=by decide +kernel
theorem zamt:(["number","row","length"]:List Str).Nodup:=by decide +kernel
theorem znk:(["row","part","count"]:List Str).Nodup:=by decide +kernel
theorem zyf:(["number","parts","numbers"]:List Str).Nodup:=by decide +kernel
theorem zyg:(["row"]:List Str).Nodup:=by decide +kernel
theorem zjg:(["order","places"]:List Str).Nodup:=by decide +kernel
theorem zot:(["level"]:List Str).Nodup:=by decide +kernel
theorem zuc:(["_law_k","_law_pen_here","_law_signs"]:List Str).Nodup:=by decide +kernel
theorem zud:(["_law_sign","_law_names"]:List Str).Nodup:=by decide +kernel
theorem zue:(["_law_rule"]:List Str).Nodup:=by decide +kernel
theorem zuf:(["_law_rule"]:List Str).Nodup:=by decide +kernel
theorem zlo:(["_law_one","_law_two"]:List Str).Nodup:=by decide +kernel
theorem zlp:(["_law_one","_law_two"]:List Str).Nodup:=by decide +kernel
theorem zlq:(["_law_name_here","_law_elders"]:List Str).Nodup:=by decide +kernel
theorem zyh:(["_law_nodes"]:List Str).Nodup:=by decide +kernel
section
variable(P:Program)(w:World)(K:qC)(mg:Str->Option Value)(base:Heap)
noncomputable abbrev zla:Prop:=Dn P w K mg base "products" ["rows"] 1 (spD 1 zgb)
noncomputable abbrev zvv:Prop:=Dn P w K mg base "numbered" ["marks"] 1 (spD 1 zhb)
noncomputable abbrev zou:Prop:=Dn P w K mg base "names_of" ["web"] 1 (spD 1 zex)
noncomputable abbrev zov:Prop:=Dn P w K mg base "names_in" ["arm"] 1 (spD 1 zfy)
noncomputable abbrev znl:Prop:=Dn P w K mg base "check_kinds" ["web","names"] 2 (spD 2 zfk)
noncomputable abbrev zow:Prop:=Dn P w K mg base "roofs_of" ["web"] 1 (spD 1 zey)
noncomputable abbrev zabs:Prop:=Dn P w K mg base "roof_of" ["roofs","arm"] 2 (spD 2 zjz)
noncomputable abbrev zkp:Prop:=Dn P w K mg base "names_in_call" ["call"] 2 (spD 1 zfl)
noncomputable abbrev zqa:Prop:=Dn P w K mg base "check_call" ["web","places","call"] 3 (spD 3 zhs)
noncomputable abbrev zkq:Prop:=Dn P w K mg base "roofs_in_call" ["roofs","call"] 3 (spD 2 zeg)
noncomputable abbrev zqb:Prop:=Dn P w K mg base "fits_under" ["kinds","call_roofs"] 1 (spD 2 zgl)
noncomputable abbrev zto:Prop:=Dn P w K mg base "is_nearer" ["roofs","one","other"] 1 (spD 3 zfz)
noncomputable abbrev zjh:Prop:=Dn P w K mg base "rules_that_fit" ["book","call"] 4 (spD 2 zdv)
noncomputable abbrev zqc:Prop:=Dn P w K mg base "nearest_of" ["roofs","rules"] 2 (spD 2 zgm)
noncomputable abbrev zqd:Prop:=Dn P w K mg base "rule_names" ["rules"] 1 (spD 1 zht)
noncomputable abbrev ztp:Prop:=Dn P w K mg base "answer_by" ["names"] 1 (spD 1 ziu)
noncomputable abbrev zabt:Prop:=Dn P w K mg base "nearest" ["book","call"] 5 (spD 2 zna)
noncomputable abbrev ztq:Prop:=Dn P w K mg base "answer_of" ["book","call"] 6 (spD 2 zhi)
noncomputable abbrev zqe:Prop:=Dn P w K mg base "call_along" ["order","kinds"] 1 (spD 2 zdq)
noncomputable abbrev zkr:Prop:=Dn P w K mg base "answers_along" ["book","order"] 7 (spD 2 zdi)
noncomputable abbrev zazl:Prop:=Dn P w K mg base "cut" ["row","count"] 1 (spD 2 zta)
noncomputable abbrev ztr:Prop:=Dn P w K mg base "walk_of" ["book","order"] 8 (spD 2 zdw)
noncomputable abbrev zabu:Prop:=Dn P w K mg base "all_orders" ["places"] 2 (spD 1 zpp)
noncomputable abbrev znm:Prop:=Dn P w K mg base "count_nodes" ["walk"] 1 (spD 1 zek)
noncomputable abbrev zqf(PT:Addr):Prop:=Dn P w K mg base "best_order" ["book"] 11 (spDT PT (("best_order":Str)++".<locals>."++"<lambda>") 1 zcg)
noncomputable abbrev zabv(PT:Addr):Prop:=Dn P w K mg base "_law_pen" ["_law_script"] 1 (zuy PT (("best_order":Str)++".<locals>."++"<lambda>") K zig)
noncomputable abbrev zlb:Prop:=Dn P w K mg base "_law_draw" ["_law_pen_here","_law_many"] 1 (spR penK 2 zao)
noncomputable abbrev zox:Prop:=Dn P w K mg base "_law_name" ["_law_pen_here","_law_names"] 2 (spR penK 2 zei)
noncomputable abbrev zabw:Prop:=Dn P w K mg base "_law_web" ["_law_pen_here","_law_size"] 3 (spR penK 2 zej)
noncomputable abbrev zvw:Prop:=Dn P w K mg base "_law_book" ["_law_pen_here"] 4 (spR penK 1 zep)
noncomputable abbrev zvx:Prop:=Dn P w K mg base "_law_same" ["_law_due_here","_law_thing"] 8 (spD 2 zcj)
noncomputable abbrev zvy:Prop:=Dn P w K mg base "_law_copy" ["_law_book_here"] 1 (spD 1 zha)
noncomputable abbrev zqg:Prop:=Dn P w K mg base "_law_orders" ["_law_places"] 1 (spD 1 zgn)
noncomputable abbrev zabx:Prop:=Dn P w K mg base "_law_due" ["_law_book_here"] 9 (spD 1 zcy)
noncomputable abbrev znn:Prop:=Dn P w K mg base "all_orders" ["places"] 2 (spT 1 zfm)
end
section
variable{P:Program}{w:World}{K:qC}{mg:Str->Option Value}{base:Heap}
theorem zaed {f:Addr} {fd:qr} (F:Fun K "products" "products" zoh f fd) (T:Txt mg)  : FnOk P w K mg base CX0 1 f fd ["rows"] (spD 1 zgb):=by
 refine F.ok zadq (λvs H Q E h=>zbu h) (λcdv A outer s H vs Q E hr h=>?_)
 have hu:=zeb hr
 apply Exists.intro
 apply And.intro
 ·refine' Bx.out (zaf (bpsS (i:=1) ziw rfl (Or.inl rfl) (zbl (bpaC (zhg zac) zac)))
 (zaf (zfw qAP rfl (zbb (K:=K) rfl (bv 0)) (bpgN (i:=2) ziw rfl (Or.inr rfl))
  (zai (zalm (i:=1) (zaw (N':=["ahead","thing","row"]) (own:=["ahead","thing"]) (fr:=[2]) (by kernel_rfl)) rfl (zbb (K:=K) rfl (bv 1)) ?hb1 (by rfl) ziw rfl rfl (by intro _;rfl) (by intro _ _;rfl))) (by intro _;rfl))
 (zai (zav (bv 1)))))
  case hb1=>(intro cl C s H fp;refine'⟨Bx.out (bpgN (i:=0) zlm rfl (Or.inl rfl)),Bx.out zce,Bx.out (zbb (K:=K) rfl (bv 2)),Bx.out (bpgN (i:=1) zlm rfl (Or.inl rfl)),Bx.out zce,Bx.out (zbk (zaub (K:=K) rfl) (bv 0) (zhg (bpaC (bv 1) zac)))⟩)
 exact fn_d (f:=zvf) ((zbr (zdn (zcp (zab (zlg zah) zah))) (zbr (zpf (zcu (zae 0)) zbv (zdn (zwt (k:=1) (zcu (zae 1)) zbv (zny (by decide) (by decide)) (by decide) zdo (zcu (zae 2)) zbv (zny (by decide) (by decide)) zdo (zch zauc (zae 0) (zlg (zab (zae 1) zah)))))) znx))) h
theorem zaee {f:Addr} {fd:qr} (F:Fun K "numbered" "numbered" zoi f fd) (T:Txt mg)  : FnOk P w K mg base CX0 1 f fd ["marks"] (spD 1 zhb):=by
 refine F.ok zadr (λvs H Q E h=>zbu h) (λcdv A outer s H vs Q E hr h=>?_)
 have hu:=zeb hr
 apply Exists.intro
 apply And.intro
 ·refine' Bx.out (zaf (bpsS (i:=1) zma rfl (Or.inr rfl) (zbl zac))
 (zaf (zfw qAP rfl (zbb (K:=K) rfl (bv 0)) (bpgN (i:=2) zma rfl (Or.inl rfl))
  (zai (zeo (zcc (zzy (K:=K) rfl hr.units) (bv 2) (bv 1) (by rfl)) (zai (zdz (zet (K:=K) rfl q9 qAM qAL zem (bv 1) (bpaC (bv 2) zac) (by rfl) (by rfl) (by rfl) (zan (by rfl)) (by rfl)) (by rfl))) zcb)) (by intro _;rfl))
 (zai (zav (zbd (zaw (N':=["mark","firsts"]) (own:=["mark"]) (fr:=[1]) (by kernel_rfl)) rfl (zbb (K:=K) rfl (bv 0)) ?hb1 (by intro _;rfl))))))
  case hb1=>(intro cl C s H fp;refine'⟨Bx.out (bpgN (i:=0) zub rfl (Or.inl rfl)),Bx.out zce,Bx.out (zet (K:=K) rfl q9 qCm qCl (zamf (K:=K) rfl hr.units) (bv 1) (bpaC (bv 0) zac) (by rfl) (by rfl) (by rfl) (zan (by rfl)) (by rfl))⟩)
 exact fn_d (f:=zvj) ((zbr (zdn (zcp zah)) (zbr (zpf (zcu (zae 0)) zbv (zmn (st_t (zch zari (zae 2) (zae 1))) (zafl (zae 2)) zhd)) (zcm (zcq (zcu (zae 0)) zbv (zef (by decide)) zdo (zamg (zae 1) (zae 0))))))) h
theorem zaef {f:Addr} {fd:qr} (F:Fun K "names_of" "names_of" zoj f fd) (T:Txt mg)  : FnOk P w K mg base CX0 1 f fd ["web"] (spD 1 zex):=by
 refine F.ok zadt (λvs H Q E h=>zbu h) (λcdv A outer s H vs Q E hr h=>?_)
 have hu:=zeb hr
 apply Exists.intro
 apply And.intro
 ·refine' Bx.out (zai (zav (zbd (zaw (N':=["name","elders"]) (own:=["name","elders"]) (fr:=[]) (by kernel_rfl)) rfl (zbb (K:=K) rfl (bv 0)) ?hb1 (by intro _;rfl))))
  case hb1=>(intro cl C s H fp;refine'⟨Bx.out (zfi (K:=K) (n:=2) rfl rfl (zbg (bpgN (i:=0) zln rfl (Or.inl rfl)) (zbg (bpgN (i:=1) zln rfl (Or.inl rfl)) zfh (by rfl)) (by rfl)) (by rfl) (by rfl)),Bx.out zce,Bx.out (bv 0)⟩)
 exact fn_d (f:=zif) ((zcm (zcq (zcu (zae 0)) (zli (zca (zca zhw))) (zpg (zdd (by decide) (zdd (by decide) zjr))) zdo (zae 0)))) h
theorem zaeg {f:Addr} {fd:qr} (F:Fun K "names_in" "names_in" zok f fd) (T:Txt mg)  : FnOk P w K mg base CX0 1 f fd ["arm"] (spD 1 zfy):=by
 refine F.ok zadv (λvs H Q E h=>zbu h) (λcdv A outer s H vs Q E hr h=>?_)
 have hu:=zeb hr
 apply Exists.intro
 apply And.intro
 ·refine' Bx.out (zaf (zeo (zdg (K:=K) rfl (bpeB (zfb (K:=K) rfl) T.isinstance zbx (bpaC (bv 0) (bpaC (zgx (v:=.ty "tuple") (by rfl) T.tuple zgc rfl (by decide) (by decide)) zac))) (λ_=>rfl)) (zai (zav (bpeT (zfr (K:=K) rfl) T.list zfn (bpaC (bv 0) zac)))) zcb)
 (zai (zav (zbl (bpaC (bv 0) zac)))))
 exact fn_d (f:=zve) ((zbr (zmn (zlf (zmm (zae 0) zrt)) (zcm (zen zlw (zab (zae 0) zah))) zhd) (zcm (zcp (zab (zae 0) zah))))) h
theorem zug{f:Addr}{fd:qr}(F:Fun K "check_kinds" "check_kinds" zix f fd)(T:Txt mg)(D_names_of:zou P w K mg base):FnOk P w K mg base CX0 2 f fd ["web","names"] (spD 2 zfk):=by
 refine F.ok zty (λvs H Q E h=>zbu h) (λcdv A outer s H vs Q E hr h=>?_)
 have hu:=zeb hr
 apply Exists.intro
 apply And.intro
 ·refine' Bx.out (zaf (bpsS (i:=2) zhz rfl (Or.inl rfl) (bpeD D_names_of hr (bpaC (bv 0) zac)))
 (zai (zfw qAP rfl (zbb (K:=K) rfl (bv 1)) (bpgN (i:=3) zhz rfl (Or.inl rfl))
  (zai (zeo (zcc (zrp (K:=K) rfl) (bv 3) (bv 2) (by rfl)) (zai zaac) zcb)) (by intro _;rfl))))
 exact fn_d (f:=zfj) ((zbr (zdn (zaz (zab (zae 0) zah))) (zpf (zcu (zae 1)) zbv (zmn (st_t (zch zaoi (zae 3) (zae 2))) zafk zhd)))) h
theorem zaeh {f:Addr} {fd:qr} (F:Fun K "roofs_of" "roofs_of" zol f fd) (T:Txt mg)  : FnOk P w K mg base CX0 1 f fd ["web"] (spD 1 zey):=by
 refine F.ok zadw (λvs H Q E h=>zbu h) (λcdv A outer s H vs Q E hr h=>?_)
 have hu:=zeb hr
 apply Exists.intro
 apply And.intro
 ·refine' Bx.out (zaf (bpsS (i:=1) zgd rfl (Or.inl rfl) zaab)
 (zaf (zfw qAP rfl (zbb (K:=K) rfl (bv 0)) (zfi (K:=K) (n:=2) rfl rfl (zbg (bpgN (i:=2) zgd rfl (Or.inl rfl)) (zbg (bpgN (i:=3) zgd rfl (Or.inl rfl)) zfh (by rfl)) (by rfl)) (by rfl) (by rfl))
  (zaf (bpsS (i:=4) zgd rfl (Or.inl rfl) (zapa (zakq (bv 2) zafr zaoz) rfl rfl (by simp) (by decide)))
 (zaf (zfw qAP rfl (zbb (K:=K) rfl (bv 3)) (bpgN (i:=5) zgd rfl (Or.inl rfl))
  (zai (zdz (zet (K:=K) rfl qCn qCh qCg zzl (bv 4) (bpaC (zrc hu (bv 1) (bv 5) (λ_ _=>rfl)) zac) (by rfl) (by rfl) (by rfl) (zan (by rfl)) (by rfl)) (by rfl))) (by intro _;rfl))
 (zai (zapb hu (bv 1) (bv 2) (bv 4) rfl)))) (by intro _;rfl))
 (zai (zav (bv 1)))))
 exact fn_d (f:=zuz) ((zbr (zdn zakb) (zbr (zpf (zcu (zae 0)) (zli (zca (zca zhw))) (zbr (zdn (zbau (zae 2) (se_c λ_=>zbj))) (zbr (zpf (zcu (zae 3)) zbv (zarg (zra (zae 5)))) (zaxy (zae 2) (zae 4))))) znx))) h
theorem zaia{f:Addr}{fd:qr}(F:Fun K "roof_of" "roof_of" ztb f fd)(T:Txt mg)(D_names_in:zov P w K mg base):FnOk P w K mg base CX0 2 f fd ["roofs","arm"] (spD 2 zjz):=by
 refine F.ok zaht (λvs H Q E h=>zbu h) (λcdv A outer s H vs Q E hr h=>?_)
 have hu:=zeb hr
 apply Exists.intro
 apply And.intro
 ·refine' Bx.out (zaf (bpsS (i:=2) zom rfl (Or.inl rfl) zaab)
 (zaf (zfw qAP rfl (zbb (K:=K) rfl (bpeD D_names_in hr (bpaC (bv 1) zac))) (bpgN (i:=3) zom rfl (Or.inl rfl))
  (zai (zdz (zet (K:=K) rfl qCn qCh qCg zzl (bv 2) (bpaC (zrc hu (bv 0) (bv 3) (λ_ _=>rfl)) zac) (by rfl) (by rfl) (by rfl) (zan (by rfl)) (by rfl)) (by rfl))) (by intro _;rfl))
 (zai (zav (bv 2)))))
 exact fn_d (f:=zaaz) ((zbr (zdn zakb) (zbr (zpf (zcu (zaz (zab (zae 1) zah))) zbv (zarg (zra (zae 3)))) znx))) h
theorem zqt{f:Addr}{fd:qr}(F:Fun K "names_in_call" "names_in_call" zhj f fd)(T:Txt mg)(D_names_in:zov P w K mg base):FnOk P w K mg base CX0 2 f fd ["call"] (spD 1 zfl):=by
 refine F.ok zqn (λvs H Q E h=>zbu h) (λcdv A outer s H vs Q E hr h=>?_)
 have hu:=zeb hr
 apply Exists.intro
 apply And.intro
 ·refine' Bx.out (zai (zav (zaad (zaw (N':=["arm","name"]) (own:=["arm","name"]) (fr:=[]) (by kernel_rfl)) rfl (zbb (K:=K) rfl (bv 0)) ?hb1 (by intro _;rfl) (by intro _ _;rfl))))
  case hb1=>(intro cl C s H fp;refine'⟨Bx.out (bpgN (i:=0) zhm rfl (Or.inl rfl)),Bx.out zce,Bx.out (zbb (K:=K) rfl (bpeD D_names_in hr (bpaC (bv 0) zac))),Bx.out (bpgN (i:=1) zhm rfl (Or.inl rfl)),Bx.out zce,Bx.out (bv 1)⟩)
 exact fn_d (f:=zka) ((zcm (zwt (k:=1) (zcu (zae 0)) zbv (zny (by decide) (by decide)) (by decide) zdo (zcu (zaz (zab (zae 0) zah))) zbv (zny (by decide) (by decide)) zdo (zae 1)))) h
theorem zyi{f:Addr}{fd:qr}(F:Fun K "check_call" "check_call" zkf f fd)(T:Txt mg)(D_check_kinds:znl P w K mg base)(D_names_in_call:zkp P w K mg base):FnOk P w K mg base CX0 3 f fd ["web","places","call"] (spD 3 zhs):=by
 refine F.ok zxs (λvs H Q E h=>zbu h) (λcdv A outer s H vs Q E hr h=>?_)
 have hu:=zeb hr
 apply Exists.intro
 apply And.intro
 ·refine' Bx.out (zaf (zeo (zcc (zur (K:=K) rfl hr.units) (bpeB (zcw (K:=K) rfl) T.len zea (bpaC (bv 2) zac)) (bv 1) (zfq _)) (zai zaac) zcb)
 (zai (zdz (bpeD D_check_kinds hr (bpaC (bv 0) (bpaC (bpeD D_names_in_call hr (bpaC (bv 2) zac)) zac))) (by rfl))))
 exact fn_d (f:=zpj) ((zbr (zmn (st_t (zch zagu (zen zhq (zab (zae 2) zah)) (zae 1))) zafk zhd) (zakf (zaz (zab (zae 0) (zab (zaz (zab (zae 2) zah)) zah)))))) h
theorem zqu{f:Addr}{fd:qr}(F:Fun K "roofs_in_call" "roofs_in_call" zhk f fd)(T:Txt mg)(D_roof_of:zabs P w K mg base):FnOk P w K mg base CX0 3 f fd ["roofs","call"] (spD 2 zeg):=by
 refine F.ok zqp (λvs H Q E h=>zbu h) (λcdv A outer s H vs Q E hr h=>?_)
 have hu:=zeb hr
 apply Exists.intro
 apply And.intro
 ·refine' Bx.out (zai (zav (zbd (zaw (N':=["arm","roofs"]) (own:=["arm"]) (fr:=[0]) (by kernel_rfl)) rfl (zbb (K:=K) rfl (bv 1)) ?hb1 (by intro _;rfl))))
  case hb1=>(intro cl C s H fp;refine'⟨Bx.out (bpgN (i:=0) zme rfl (Or.inl rfl)),Bx.out zce,Bx.out (bpeD D_roof_of hr (bpaC (bv 1) (bpaC (bv 0) zac)))⟩)
 exact fn_d (f:=zkb) ((zcm (zcq (zcu (zae 1)) zbv (zef (by decide)) zdo (zaz (zab (zae 1) (zab (zae 0) zah)))))) h
theorem zyj {f:Addr} {fd:qr} (F:Fun K "fits_under" "fits_under" zkh f fd) (T:Txt mg)  : FnOk P w K mg base CX0 1 f fd ["kinds","call_roofs"] (spD 2 zgl):=by
 refine F.ok zxu (λvs H Q E h=>zbu h) (λcdv A outer s H vs Q E hr h=>?_)
 have hu:=zeb hr
 apply Exists.intro
 apply And.intro
 ·refine' Bx.out (zai (zav (bpeB (zmi (K:=K) rfl rfl) T.all zrh (bpaC (zbd (zaw (N':=["kind","roof"]) (own:=["kind","roof"]) (fr:=[]) (by kernel_rfl)) rfl (zxa (K:=K) rfl rfl T.zip (bpaC (bv 0) (bpaC (bv 1) zac)) (by rfl) (by rfl)) ?hb1 (by intro _;rfl)) zac))))
  case hb1=>(intro cl C s H fp;refine'⟨Bx.out (zfi (K:=K) (n:=2) rfl rfl (zbg (bpgN (i:=0) zjd rfl (Or.inl rfl)) (zbg (bpgN (i:=1) zjd rfl (Or.inl rfl)) zfh (by rfl)) (by rfl)) (by rfl) (by rfl)),Bx.out zce,Bx.out (zakx (zakw hu (bv 0) (bv 1)) (by rfl))⟩)
 exact fn_d (f:=zpk) ((zcm (zen zzp (zab (zcq (zafq (zab (zae 0) (zab (zae 1) zah))) (zli (zca (zca zhw))) (zpg (zdd (by decide) (zdd (by decide) zjr))) zdo (zarf (zae 0) (zae 1))) zah)))) h
theorem zaby {f:Addr} {fd:qr} (F:Fun K "is_nearer" "is_nearer" zmb f fd) (T:Txt mg)  : FnOk P w K mg base CX0 1 f fd ["roofs","one","other"] (spD 3 zfz):=by
 refine F.ok zabj (λvs H Q E h=>zbu h) (λcdv A outer s H vs Q E hr h=>?_)
 have hu:=zeb hr
 apply Exists.intro
 apply And.intro
 ·refine' Bx.out (zai (zav (zrz (zwy (zur (K:=K) rfl hr.units) (bv 1) (bv 2) (zfq _)) (zwx (bpeB (zmi (K:=K) rfl rfl) T.all zrh (bpaC (zbd (zaw (N':=["low","high","roofs"]) (own:=["low","high"]) (fr:=[0]) (by kernel_rfl)) rfl (zxa (K:=K) rfl rfl T.zip (bpaC (bv 1) (bpaC (bv 2) zac)) (by rfl) (by rfl)) ?hb1 (by intro _;rfl)) zac))))))
  case hb1=>(intro cl C s H fp;refine'⟨Bx.out (zfi (K:=K) (n:=2) rfl rfl (zbg (bpgN (i:=0) zko rfl (Or.inl rfl)) (zbg (bpgN (i:=1) zko rfl (Or.inl rfl)) zfh (by rfl)) (by rfl)) (by rfl) (by rfl)),Bx.out zce,Bx.out (zakx (zakw hu (bv 1) (zrc hu (bv 2) (bv 0) (λ_ _=>rfl))) (by rfl))⟩)
 exact fn_d (f:=zsv) ((zcm (zafh (zch zagu (zae 1) (zae 2)) (zen zzp (zab (zcq (zafq (zab (zae 1) (zab (zae 2) zah))) (zli (zca (zca zhw))) (zpg (zdd (by decide) (zdd (by decide) zjr))) zdo (zarf (zae 1) (zra (zae 0)))) zah))))) h
theorem zoy{f:Addr}{fd:qr}(F:Fun K "rules_that_fit" "rules_that_fit" zgq f fd)(T:Txt mg)(D_check_call:zqa P w K mg base)(D_fits_under:zqb P w K mg base)(D_roofs_in_call:zkq P w K mg base)(D_roofs_of:zow P w K mg base):FnOk P w K mg base CX0 4 f fd ["book","call"] (spD 2 zdv):=by
 refine F.ok zon (λvs H Q E h=>zbu h) (λcdv A outer s H vs Q E hr h=>?_)
 have hu:=zeb hr
 apply Exists.intro
 apply And.intro
 ·refine' Bx.out (zaf (zatx (bv 0) (zfi (K:=K) (n:=3) rfl rfl (zbg (bpgN (i:=2) zdj rfl (Or.inl rfl)) (zbg (bpgN (i:=3) zdj rfl (Or.inl rfl)) (zbg (bpgN (i:=4) zdj rfl (Or.inl rfl)) zfh (by rfl)) (by rfl)) (by rfl)) (by rfl) (by rfl)) (by rfl) (by rfl) (by rfl))
 (zaf (zdz (bpeD D_check_call hr (bpaC (bv 2) (bpaC (bv 3) (bpaC (bv 1) zac)))) (by rfl))
 (zaf (bpsS (i:=5) zdj rfl (Or.inr rfl) (bpeD D_roofs_in_call hr (bpaC (bpeD D_roofs_of hr (bpaC (bv 2) zac)) (bpaC (bv 1) zac))))
 (zai (zav (zbd (zaw (N':=["rule","call_roofs"]) (own:=["rule"]) (fr:=[5]) (by kernel_rfl)) rfl (zbb (K:=K) rfl (bv 4)) ?hb1 (by intro _;rfl)))))))
  case hb1=>(intro cl C s H fp;refine'⟨Bx.out (bpgN (i:=0) zld rfl (Or.inl rfl)),Bx.out (zsa (zdg (K:=K) rfl (bpeD D_fits_under hr (bpaC (bpeX (zdk (K:=K) rfl) (bv 0) zag) (bpaC (bv 1) zac))) (λ_=>rfl))),Bx.out (bv 0)⟩)
 exact fn_d (f:=zja) ((zbr (zaxx (zae 0) (zli (zca (zca (zca zhw))))) (zbr (zakf (zaz (zab (zae 2) (zab (zae 3) (zab (zae 1) zah))))) (zbr (zdn (zaz (zab (zaz (zab (zae 2) zah)) (zab (zae 1) zah)))) (zcm (zcq (zcu (zae 4)) zbv (zef (by decide)) (zlf (zaz (zab (zfg (se_c λ_=>zad)) (zab (zae 1) zah)))) (zae 0))))))) h
theorem zyk{f:Addr}{fd:qr}(F:Fun K "nearest_of" "nearest_of" zki f fd)(T:Txt mg)(D_is_nearer:zto P w K mg base):FnOk P w K mg base CX0 2 f fd ["roofs","rules"] (spD 2 zgm):=by
 refine F.ok zxw (λvs H Q E h=>zbu h) (λcdv A outer s H vs Q E hr h=>?_)
 have hu:=zeb hr
 apply Exists.intro
 apply And.intro
 ·refine' Bx.out (zai (zav (zbd (zaw (N':=["rule","roofs","rules"]) (own:=["rule"]) (fr:=[0,1]) (by kernel_rfl)) rfl (zbb (K:=K) rfl (bv 1)) ?hb1 (by intro _;rfl))))
  case hb1=>(intro cl C s H fp;refine'⟨Bx.out (bpgN (i:=0) zqr rfl (Or.inr rfl)),Bx.out (zsa (zoa (zdg (K:=K) rfl (bpeB (zajt (K:=K) rfl rfl) T.any zaqh (bpaC (zbd (zaw (N':=["name","kinds","rule","roofs"]) (own:=["name","kinds"]) (fr:=[0,1]) (by kernel_rfl)) rfl (zbb (K:=K) rfl (bv 2)) ?hb2 (by intro _;rfl)) zac)) (λ_=>rfl)))),Bx.out (bv 0)⟩;case hb2=>(intro cl C s H fp;refine'⟨Bx.out (zfi (K:=K) (n:=2) rfl rfl (zbg (bpgN (i:=0) zje rfl (Or.inl rfl)) (zbg (bpgN (i:=1) zje rfl (Or.inl rfl)) zfh (by rfl)) (by rfl)) (by rfl) (by rfl)),Bx.out zce,Bx.out (bpeD D_is_nearer hr (bpaC (bv 3) (bpaC (bv 1) (bpaC (bpeX (zdk (K:=K) rfl) (bv 2) zag) zac))))⟩))
 exact fn_d (f:=zpl) ((zcm (zcq (zcu (zae 1)) zbv (zef (by decide)) (zzn (zlf (zen zzp (zab (zcq (zcu (zae 2)) (zli (zca (zca zhw))) (zpg (zdd (by decide) (zdd (by decide) zjr))) zdo (zaz (zab (zae 3) (zab (zae 1) (zab (zfg (se_c λ_=>zad)) zah))))) zah)))) (zae 0)))) h
theorem zyl {f:Addr} {fd:qr} (F:Fun K "rule_names" "rule_names" zkj f fd) (T:Txt mg)  : FnOk P w K mg base CX0 1 f fd ["rules"] (spD 1 zht):=by
 refine F.ok zxy (λvs H Q E h=>zbu h) (λcdv A outer s H vs Q E hr h=>?_)
 have hu:=zeb hr
 apply Exists.intro
 apply And.intro
 ·refine' Bx.out (zai (zav (zbd (zaw (N':=["name","kinds"]) (own:=["name","kinds"]) (fr:=[]) (by kernel_rfl)) rfl (zbb (K:=K) rfl (bv 0)) ?hb1 (by intro _;rfl))))
  case hb1=>(intro cl C s H fp;refine'⟨Bx.out (zfi (K:=K) (n:=2) rfl rfl (zbg (bpgN (i:=0) zjf rfl (Or.inl rfl)) (zbg (bpgN (i:=1) zjf rfl (Or.inl rfl)) zfh (by rfl)) (by rfl)) (by rfl) (by rfl)),Bx.out zce,Bx.out (bv 0)⟩)
 exact fn_d (f:=zpm) ((zcm (zcq (zcu (zae 0)) (zli (zca (zca zhw))) (zpg (zdd (by decide) (zdd (by decide) zjr))) zdo (zae 0)))) h
theorem zabz {f:Addr} {fd:qr} (F:Fun K "answer_by" "answer_by" zmc f fd) (T:Txt mg)  : FnOk P w K mg base CX0 1 f fd ["names"] (spD 1 ziu):=by
 refine F.ok zabl (λvs H Q E h=>zbu h) (λcdv A outer s H vs Q E hr h=>?_)
 have hu:=zeb hr
 apply Exists.intro
 apply And.intro
 ·refine' Bx.out (zaf (zeo (zoa (zdg (K:=K) rfl (bv 0) (λ_=>rfl))) (zai (zav (zhg (bpaC zhy zac)))) zcb)
 (zaf (zeo (zcc (zph (K:=K) rfl hr.units) (bpeB (zcw (K:=K) rfl) T.len zea (bpaC (bv 0) zac)) zag (zfq _)) (zai (zav (zhg (bpaC zhy (bpaC (bpeX (zdk (K:=K) rfl) (bv 0) zag) zac))))) zcb)
 (zai (zav (zhg (bpaC zhy (bpaC (bpeT (zil (K:=K) rfl) T.tuple zgc (bpaC (bv 0) zac)) zac)))))))
 exact fn_d (f:=zsw) ((zbr (zmn (zzn (zlf (zae 0))) (zcm (zlg (zab (se_c λ_=>zcn) zah))) zhd) (zbr (zmn (st_t (zch zzm (zen zhq (zab (zae 0) zah)) (se_c λ_=>zad))) (zcm (zlg (zab (se_c λ_=>zcn) (zab (zfg (se_c λ_=>zad)) zah)))) zhd) (zcm (zlg (zab (se_c λ_=>zcn) (zab (zen zqz (zab (zae 0) zah)) zah))))))) h
theorem zaib{f:Addr}{fd:qr}(F:Fun K "nearest" "nearest" zte f fd)(T:Txt mg)(D_nearest_of:zqc P w K mg base)(D_roofs_of:zow P w K mg base)(D_rule_names:zqd P w K mg base)(D_rules_that_fit:zjh P w K mg base):FnOk P w K mg base CX0 5 f fd ["book","call"] (spD 2 zna):=by
 refine F.ok zahu (λvs H Q E h=>zbu h) (λcdv A outer s H vs Q E hr h=>?_)
 have hu:=zeb hr
 apply Exists.intro
 apply And.intro
 ·refine' Bx.out (zaf (bpsS (i:=2) zvp rfl (Or.inl rfl) (bpeD D_rules_that_fit hr (bpaC (bv 0) (bpaC (bv 1) zac))))
 (zai (zav (bpeD D_rule_names hr (bpaC (bpeD D_nearest_of hr (bpaC (bpeD D_roofs_of hr (bpaC (bpeX (zdk (K:=K) rfl) (bv 0) zag) zac)) (bpaC (bv 2) zac))) zac)))))
 exact fn_d (f:=zaba) ((zbr (zdn (zaz (zab (zae 0) (zab (zae 1) zah)))) (zcm (zaz (zab (zaz (zab (zaz (zab (zfg (se_c λ_=>zad)) zah)) (zab (zae 2) zah))) zah))))) h
theorem zaca{f:Addr}{fd:qr}(F:Fun K "answer_of" "answer_of" zmd f fd)(T:Txt mg)(D_answer_by:ztp P w K mg base)(D_nearest:zabt P w K mg base):FnOk P w K mg base CX0 6 f fd ["book","call"] (spD 2 zhi):=by
 refine F.ok zabo (λvs H Q E h=>zbu h) (λcdv A outer s H vs Q E hr h=>?_)
 have hu:=zeb hr
 apply Exists.intro
 apply And.intro
 ·refine' Bx.out (zai (zav (bpeD D_answer_by hr (bpaC (bpeD D_nearest hr (bpaC (bv 0) (bpaC (bv 1) zac))) zac))))
 exact fn_d (f:=zsx) ((zcm (zaz (zab (zaz (zab (zae 0) (zab (zae 1) zah))) zah)))) h
theorem zym {f:Addr} {fd:qr} (F:Fun K "call_along" "call_along" zkk f fd) (T:Txt mg)  : FnOk P w K mg base CX0 1 f fd ["order","kinds"] (spD 2 zdq):=by
 refine F.ok zxz (λvs H Q E h=>zbu h) (λcdv A outer s H vs Q E hr h=>?_)
 have hu:=zeb hr
 apply Exists.intro
 apply And.intro
 ·refine' Bx.out (zaf (bpsS (i:=2) znh rfl (Or.inr rfl) (zadj (K:=K) rfl rfl (by rfl) T.dict (by rfl) T.zip (bpaC (bv 0) (bpaC (bv 1) zac)) (zan (by rfl)) (by rfl)))
 (zai (zav (bpeT (zil (K:=K) rfl) T.tuple zgc (bpaC (zbd (zaw (N':=["place","at"]) (own:=["place"]) (fr:=[2]) (by kernel_rfl)) rfl (zew rfl T.range (bpaC (bpeB (zcw (K:=K) rfl) T.len zea (bpaC (bv 0) zac)) zac) (by rfl)) ?hb1 (by intro _;rfl)) zac)))))
  case hb1=>(intro cl C s H fp;refine'⟨Bx.out (bpgN (i:=0) zqs rfl (Or.inl rfl)),Bx.out zce,Bx.out (zrc hu (bv 1) (bv 0) (λ_ _=>rfl))⟩)
 exact fn_d (f:=zpn) ((zbr (zdn (zaho (zab (zae 0) (zab (zae 1) zah)))) (zcm (zen zqz (zab (zcq (zjq (zab (zen zhq (zab (zae 0) zah)) zah)) zbv (zef (by decide)) zdo (zra (zae 0))) zah))))) h
theorem zqv{f:Addr}{fd:qr}(F:Fun K "answers_along" "answers_along" zhl f fd)(T:Txt mg)(D_answer_of:ztq P w K mg base)(D_call_along:zqe P w K mg base)(D_names_of:zou P w K mg base)(D_products:zla P w K mg base):FnOk P w K mg base CX0 7 f fd ["book","order"] (spD 2 zdi):=by
 refine F.ok zqq (λvs H Q E h=>zbu h) (λcdv A outer s H vs Q E hr h=>?_)
 have hu:=zeb hr
 apply Exists.intro
 apply And.intro
 ·refine' Bx.out (zaf (bpsS (i:=2) zjc rfl (Or.inl rfl) (zbk zaey (zbl (bpaC (bpeD D_names_of hr (bpaC (bpeX (zdk (K:=K) rfl) (bv 0) zag) zac)) zac)) (bpeB (zcw (K:=K) rfl) T.len zea (bpaC (bv 1) zac))))
 (zai (zav (zbd (zaw (N':=["kinds","book","order"]) (own:=["kinds"]) (fr:=[0,1]) (by kernel_rfl)) rfl (zbb (K:=K) rfl (bpeD D_products hr (bpaC (bv 2) zac))) ?hb1 (by intro _;rfl)))))
  case hb1=>(intro cl C s H fp;refine'⟨Bx.out (bpgN (i:=0) zmf rfl (Or.inl rfl)),Bx.out zce,Bx.out (bpeD D_answer_of hr (bpaC (bv 1) (bpaC (bpeD D_call_along hr (bpaC (bv 2) (bpaC (bv 0) zac))) zac)))⟩)
 exact fn_d (f:=zkd) ((zbr (zdn (zch zafu (zcp (zab (zaz (zab (zfg (se_c λ_=>zad)) zah)) zah)) (zen zhq (zab (zae 1) zah)))) (zcm (zcq (zcu (zaz (zab (zae 2) zah))) zbv (zef (by decide)) zdo (zaz (zab (zae 1) (zab (zaz (zab (zae 2) (zab (zae 0) zah))) zah))))))) h
theorem zazm {f:Addr} {fd:qr} (F:Fun K "cut" "cut" zavj f fd) (T:Txt mg)  : FnOk P w K mg base CX0 1 f fd ["row","count"] (spD 2 zta):=by
 refine F.ok zazj (λvs H Q E h=>zbu h) (λcdv A outer s H vs Q E hr h=>?_)
 have hu:=zeb hr
 apply Exists.intro
 apply And.intro
 ·refine' Bx.out (zaf (bpsS (i:=2) zart rfl (Or.inr rfl) (zbk zwh (bpeB (zcw (K:=K) rfl) T.len zea (bpaC (bv 0) zac)) (bv 1)))
 (zai (zav (zbd (zaw (N':=["number","row","length"]) (own:=["number"]) (fr:=[0,2]) (by kernel_rfl)) rfl (zew rfl T.range (bpaC (bv 1) zac) (by rfl)) ?hb1 (by intro _;rfl)))))
  case hb1=>(intro cl C s H fp;refine'⟨Bx.out (bpgN (i:=0) zamt rfl (Or.inl rfl)),Bx.out zce,Bx.out (zjt (zajs (K:=K) rfl) (bv 1) (zkx (zbk zls (bv 2) (bv 0))) (zkx (zbk zls (bv 2) (zbk (zds (K:=K) rfl) (bv 0) zag))))⟩)
 exact fn_d (f:=zazg) ((zbr (zdn (zch zwq (zen zhq (zab (zae 0) zah)) (zae 1))) (zcm (zcq (zjq (zab (zae 1) zah)) zbv (zef (by decide)) zdo (zatl (zae 1) (zws (zch zrr (zae 2) (zae 0))) (zws (zch zrr (zae 2) (zch zgs (zae 0) (se_c λ_=>zad))))))))) h
theorem zaic{f:Addr}{fd:qr}(F:Fun K "walk_of" "walk_of" ztg f fd)(T:Txt mg)(D_answers_along:zkr P w K mg base)(D_cut:zazl P w K mg base)(D_numbered:zvv P w K mg base):FnOk P w K mg base CX0 8 f fd ["book","order"] (spD 2 zdw):=by
 refine F.ok zahv (λvs H Q E h=>zbu h) (λcdv A outer s H vs Q E hr h=>?_)
 have hu:=zeb hr
 apply Exists.intro
 apply And.intro
 ·refine' Bx.out (zaf (bpsS (i:=2) zfa rfl (Or.inr rfl) (bpeB (zcw (K:=K) rfl) T.len zea (bpaC (bpeX (zdk (K:=K) rfl) (bv 0) zag) zac)))
 (zaf (bpsS (i:=3) zfa rfl (Or.inl rfl) (zbl (bpaC (bpeD D_answers_along hr (bpaC (bv 0) (bpaC (bv 1) zac))) zac)))
 (zaf (bpsS (i:=4) zfa rfl (Or.inl rfl) (zbl zac))
 (zaf (zfw qAP rfl (zbb (K:=K) rfl (bv 1)) (bpgN (i:=5) zfa rfl (Or.inl rfl))
  (zaf (bpsS (i:=6) zfa rfl (Or.inr rfl) (zaad (zaw (N':=["row","part","count"]) (own:=["row","part"]) (fr:=[2]) (by kernel_rfl)) rfl (zbb (K:=K) rfl (bv 3)) ?hb1 (by intro _;rfl) (by intro _ _;rfl)))
 (zaf (bpsS (i:=7) zfa rfl (Or.inr rfl) (bpeD D_numbered hr (bpaC (bv 6) zac)))
 (zaf (zdz (zet (K:=K) rfl q9 qAM qAL zem (bv 4) (bpaC (bpeD D_cut hr (bpaC (bv 7) (bpaC (bpeB (zcw (K:=K) rfl) T.len zea (bpaC (bv 3) zac)) zac))) zac) (by rfl) (by rfl) (by rfl) (zan (by rfl)) (by rfl)) (by rfl))
 (zai (zaku (i:=3) (zaw (N':=["number","parts","numbers"]) (own:=["number"]) (fr:=[6,7]) (by kernel_rfl)) rfl (zew rfl T.range (bpaC (zbk (zds (K:=K) rfl) (bpeB (zalo (K:=K) rfl rfl) T.max zaqj (bpaC (bv 7) zac)) zag) zac) (by rfl)) ?hb2 (by rfl) zfa rfl rfl (by intro _;rfl)))))) (by intro _;rfl))
 (zaf (zdz (zet (K:=K) rfl q9 qAM qAL zem (bv 4) (bpaC (zbd (zaw (N':=["row"]) (own:=["row"]) (fr:=[]) (by kernel_rfl)) rfl (zbb (K:=K) rfl (bv 3)) ?hb3 (by intro _;rfl)) zac) (by rfl) (by rfl) (by rfl) (zan (by rfl)) (by rfl)) (by rfl))
 (zai (zav (bv 4))))))))
  case hb1=>(intro cl C s H fp;refine'⟨Bx.out (bpgN (i:=0) znk rfl (Or.inl rfl)),Bx.out zce,Bx.out (zbb (K:=K) rfl (bpeD D_cut hr (bpaC (bv 0) (bpaC (bv 2) zac)))),Bx.out (bpgN (i:=1) znk rfl (Or.inl rfl)),Bx.out zce,Bx.out (bv 1)⟩)
  case hb2=>(intro cl C s H fp;refine'⟨Bx.out (bpgN (i:=0) zyf rfl (Or.inl rfl)),Bx.out zce,Bx.out (bpeX (zdk (K:=K) rfl) (bv 1) (zet (K:=K) rfl q9 qCm qCl zaqa (bv 2) (bpaC (bv 0) zac) (by rfl) (by rfl) (by rfl) (zan (by rfl)) (by rfl)))⟩)
  case hb3=>(intro cl C s H fp;refine'⟨Bx.out (bpgN (i:=0) zyg rfl (Or.inl rfl)),Bx.out zce,Bx.out (bpeX (zdk (K:=K) rfl) (bv 0) zag)⟩)
 exact fn_d (f:=zabg) ((zbr (zdn (zen zhq (zab (zfg (se_c λ_=>zad)) zah))) (zbr (zdn (zcp (zab (zaz (zab (zae 0) (zab (zae 1) zah))) zah))) (zbr (zdn (zcp zah)) (zbr (zpf (zcu (zae 1)) zbv (zbr (zdn (zwt (k:=1) (zcu (zae 3)) zbv (zny (by decide) (by decide)) (by decide) zdo (zcu (zaz (zab (zae 0) (zab (zae 2) zah)))) zbv (zny (by decide) (by decide)) zdo (zae 1))) (zbr (zdn (zaz (zab (zae 6) zah))) (zbr (zafl (zaz (zab (zae 7) (zab (zen zhq (zab (zae 3) zah)) zah)))) (zdn (zcq (zjq (zab (zch zgs (zen zaus (zab (zae 7) zah)) (se_c λ_=>zad)) zah)) zbv (zef (by decide)) zdo (zfg (zaqb (zae 2) (zae 0))))))))) (zbr (zafl (zcq (zcu (zae 3)) zbv (zef (by decide)) zdo (zfg (se_c λ_=>zad)))) znx)))))) h
theorem zyn{f:Addr}{fd:qr}(F:Fun K "all_orders" "all_orders" zhu f fd)(T:Txt mg)(D_products:zla P w K mg base):FnOk P w K mg base CX0 2 f fd ["places"] (spD 1 zpp):=by
 refine F.ok zni (λvs H Q E h=>zbu h) (λcdv A outer s H vs Q E hr h=>?_)
 have hu:=zeb hr
 apply Exists.intro
 apply And.intro
 ·refine' Bx.out (zai (zav (zbd (zaw (N':=["order","places"]) (own:=["order"]) (fr:=[0]) (by kernel_rfl)) rfl (zbb (K:=K) rfl (bpeD D_products hr (bpaC (zbk zaey (zbl (bpaC (zafx rfl (by rfl) T.list (by rfl) T.range (bv 0) (zan (by rfl))) zac)) (bv 0)) zac))) ?hb1 (by intro _;rfl))))
  case hb1=>(intro cl C s H fp;refine'⟨Bx.out (bpgN (i:=0) zjg rfl (Or.inl rfl)),Bx.out (zsa (zcc (zph (K:=K) rfl hr.units) (zsn rfl (by rfl) T.len (by rfl) T.set (bv 0) (zan (by rfl))) (bv 1) (zfq _))),Bx.out (bpeT (zfr (K:=K) rfl) T.list zfn (bpaC (bv 0) zac))⟩)
 exact fn_d (f:=zpo) ((zcm (zcq (zcu (zaz (zab (zch zafu (zcp (zab (zalq (zae 0)) zah)) (zae 0)) zah))) zbv (zef (by decide)) (st_t (zch zzm (zux (zae 0)) (zae 1))) (zen zlw (zab (zae 0) zah))))) h
theorem zuh {f:Addr} {fd:qr} (F:Fun K "count_nodes" "count_nodes" ziy f fd) (T:Txt mg)  : FnOk P w K mg base CX0 1 f fd ["walk"] (spD 1 zek):=by
 refine F.ok zua (λvs H Q E h=>zbu h) (λcdv A outer s H vs Q E hr h=>?_)
 have hu:=zeb hr
 apply Exists.intro
 apply And.intro
 ·refine' Bx.out (zai (zav (bpeB (zaav (K:=K) rfl rfl) T.sum zagg (bpaC (zbd (zaw (N':=["level"]) (own:=["level"]) (fr:=[]) (by kernel_rfl)) rfl (zbb (K:=K) rfl (bv 0)) ?hb1 (by intro _;rfl)) zac))))
  case hb1=>(intro cl C s H fp;refine'⟨Bx.out (bpgN (i:=0) zot rfl (Or.inl rfl)),Bx.out zce,Bx.out (bpeB (zcw (K:=K) rfl) T.len zea (bpaC (bv 0) zac))⟩)
 exact fn_d (f:=zne) ((zcm (zen zamc (zab (zcq (zcu (zae 0)) zbv (zef (by decide)) zdo (zen zhq (zab (zae 0) zah))) zah)))) h
theorem zyo{f cT PT:Addr}{fd:qr}(F:Fun K "best_order" "best_order" zkm f fd)(T:Txt mg)(DT_all_orders:znn P w K mg base)(D_count_nodes:znm P w K mg base)(D_walk_of:ztr P w K mg base)(hcd:fd.code=.ref cT)(HC:PySem.W.CodeHd base cT PT)(hbm:BM mg base):FnOk P w K mg base CX0 11 f fd ["book"] (spDT PT (("best_order":Str)++".<locals>."++"<lambda>") 1 zcg):=by
 refine zayo F zyc (λvs H Q E h=>zapg h) hcd (λA outer s H vs Q E hr h=>?_)
 have hu:=zeb hr
 apply Exists.intro
 apply And.intro
 ·refine' Bx.out (zai (zav (zahq (j:=8) (pr:="order") (NB:=["book"]) (js:=[0]) rfl rfl (hr.mono (by decide)) (by rfl) T.min (bpeD DT_all_orders hr (bpaC (bpeX (zdk (K:=K) rfl) (bv 0) zag) zac)) rfl HC hbm ⟨rfl,rfl,rfl,by decide,by decide,by decide⟩ rfl (by intros;rfl) (by rfl) (by rfl) (λ_ _ _ _ _ _ _ hr=>(bpeD D_count_nodes hr (bpaC (bpeD D_walk_of hr (bpaC (bv 1) (bpaC (bv 0) zac))) zac))) (zan (by rfl)))))
 exact zbaw (f:=zpq) ((zala (zapy (zapu (zab (zfg (se_c λ_=>zad)) zah)) (zaz (zab (zaz (zab (zae 1) (zab (zae 0) zah))) zah))))) h
theorem zaid{f PT:Addr}{fd:qr}(F:Fun K "_law_pen" "_law_pen" zth f fd)(T:Txt mg):FnOk P w K mg base CX0 1 f fd ["_law_script"] (zuy PT (("best_order":Str)++".<locals>."++"<lambda>") K zig):=by
 refine F.ok zahw (λvs H Q E h=>zahp h) (λcdv A outer s H vs Q E hr h=>?_)
 have hu:=zeb hr
 apply Exists.intro
 apply And.intro
 ·refine' Bx.out (zaf (bpsS (i:=1) zih rfl (Or.inl rfl) zag)
 (zaf (zfw qAP rfl (zakv (K:=K) rfl rfl T.enumerate (bpaC (zjt (zajs (K:=K) rfl) (bv 0) zrb (zkx zag)) zac) (by rfl)) (zfi (K:=K) (n:=2) rfl rfl (zbg (bpgN (i:=2) zih rfl (Or.inl rfl)) (zbg (bpgN (i:=3) zih rfl (Or.inl rfl)) zfh (by rfl)) (by rfl)) (by rfl) (by rfl))
  (zai (bpsS (i:=1) zih rfl (Or.inl rfl) (zbk zrk (zbk (zds (K:=K) rfl) (zbk (zds (K:=K) rfl) (zbk zls (bv 1) zag) (zbk zls (zbk zrk (bv 3) zag) (zbk (zds (K:=K) rfl) (zbk zls (bv 2) (bv 2)) zag))) zag) zag))) (by intro _;rfl))
 (zai (zav (zbl (bpaC (bpeT (zfr (K:=K) rfl) T.list zfn (bpaC (zjt (zajs (K:=K) rfl) (bv 0) zrb (zkx zag)) zac)) (bpaC zag (bpaC (bv 1) (bpaC zag zac)))))))))
 exact zavf (N:=zti) (n:=3) (F:=znb) (g:=eVar 1) rfl ((zbs (zaag (zaky (se_c λ_=>zad) (by decide))) (zse (zapm (zbq zalk zcl)) (zaua (zaae (by decide) (zaae (by decide) zapd))) (zapp (zaal (by decide) (zaal (by decide) zapq))) (zaag (zaky (zch zrq (zch zgs (zch zgs (zch zrr (zae 1) (se_c λ_=>zad)) (zch zrr (zch zrq (zae 3) (se_c λ_=>zad)) (zch zgs (zch zrr (zae 2) (zae 2)) (se_c λ_=>zad)))) (se_c λ_=>zad)) (se_c λ_=>zad)) (by decide)))))) (zae 1) zlw h
theorem zaei {f:Addr} {fd:qr} (F:Fun K "_law_draw" "_law_draw" zoo f fd) (T:Txt mg)  : FnOk P w K mg base CX0 1 f fd ["_law_pen_here","_law_many"] (spR penK 2 zao):=by
 refine F.ok zadx (λvs H Q E h=>zxf h) (λcdv A outer s H vs Q E hr h=>?_)
 have hu:=zeb hr
 apply Exists.intro
 apply And.intro
 ·refine' Bx.out (zaf (zakt qAP (zaks (zcc zasj (bpeX (zdk (K:=K) rfl) (bv 0) zag) (zbk zsh zag zag) (zfq _)) (zaft (zcc (zur (K:=K) rfl hr.units) (bpeX (zdk (K:=K) rfl) (bv 0) zag) (zbl zac) (zfq _)))).pt (zai (zrd (bv 0) zag (zbk zrk (zet (K:=K) rfl q9 PySem.F.slot_list_pop PySem.F.type_list_pop zanu (bpeX (zdk (K:=K) rfl) (bv 0) zag) (bpaC zag zac) (by rfl) (by rfl) (by rfl) (zan (by rfl)) (by rfl)) (zbk zsh (zbk zsh zag zag) zag)) (by intro _;rfl) (by rfl) (by rfl) (by rfl))))
 (zaf (zeo (zcc zbak (bpeX (zdk (K:=K) rfl) (bv 0) zag) (zbk zsh zag zag) (zfq _)) (zaf (bpsS (i:=2) ztj rfl (Or.inl rfl) (zbk zrk (bpeX (zdk (K:=K) rfl) (bv 0) zag) (bv 1)))
 (zaf (zrd (bv 0) zag (zbk zwh (bpeX (zdk (K:=K) rfl) (bv 0) zag) (bv 1)) (by intro _;rfl) (by rfl) (by rfl) (by rfl))
 (zai (zav (bv 2))))) zcb)
 (zaf (zrd (bv 0) zag (zbk (zds (K:=K) rfl) (bpeX (zdk (K:=K) rfl) (bv 0) zag) zag) (by intro _;rfl) (by rfl) (by rfl) (by rfl))
 (zaf (zrd (bv 0) zag (zbk zrk (zbk (zds (K:=K) rfl) (zbk (zds (K:=K) rfl) (zbk zls (bpeX (zdk (K:=K) rfl) (bv 0) zag) zag) (zbk zls (bpeX (zdk (K:=K) rfl) (bv 0) zag) (bpeX (zdk (K:=K) rfl) (bv 0) zag))) zag) zag) (by intro _;rfl) (by rfl) (by rfl) (by rfl))
 (zai (zav (zbk zrk (zbk zwh (zbk zrk (zbk zsh (bpeX (zdk (K:=K) rfl) (bv 0) zag) zag) zag) zag) (bv 1))))))))
 exact fn_r (by decide) (F:=zvg) ((zbs (zalj 1000 (zauk (zaul (zdh zatf (zim (i:=1)) (zaj (zch zsi (se_c λ_=>zad) (se_c λ_=>zad))))) zali) (zxg (i:=1) (zdh zrq zapk (zaj (zch zsi (zch zsi (se_c λ_=>zad) (se_c λ_=>zad)) (se_c λ_=>zad)))))) (zbs (zut (zaul (zdh zbas (zim (i:=1)) (zaj (zch zsi (se_c λ_=>zad) (se_c λ_=>zad))))) (zbs (zcz (zdh zrq (zim (i:=1)) (zaj (zae 1))) (by decide)) (zbs (zxg (i:=1) (zdh zwq (zim (i:=1)) (zaj (zae 1)))) (zaag zxh))) zob) (zbs (zxg (i:=3) (zdh zgs (zim (i:=3)) (zaj (se_c λ_=>zad)))) (zbs (zxg (i:=2) (zdh zrq (zdh zgs (zdh zgs (zdh zrr (zim (i:=2)) (zaj (se_c λ_=>zad))) (zdh zrr (zim (i:=3)) (zim (i:=3)))) (zaj (se_c λ_=>zad))) (zaj (se_c λ_=>zad)))) (zald (zdh zrq (zdh zwq (zdh zrq (zdh zsi (zim (i:=2)) (zaj (se_c λ_=>zad))) (zaj (se_c λ_=>zad))) (zaj (se_c λ_=>zad))) (zaj (zae 1))))))))) h
theorem zaej{f:Addr}{fd:qr}(F:Fun K "_law_name" "_law_name" zop f fd)(T:Txt mg)(D_law_draw:zlb P w K mg base):FnOk P w K mg base CX0 2 f fd ["_law_pen_here","_law_names"] (spR penK 2 zei):=by
 refine F.ok zady (λvs H Q E h=>zxf h) (λcdv A outer s H vs Q E hr h=>?_)
 have hu:=zeb hr
 apply Exists.intro
 apply And.intro
 ·refine' Bx.out (zaf (bpsS (i:=2) zdu rfl (Or.inr rfl) zhy)
 (zaf (bpsS (i:=3) zdu rfl (Or.inl rfl) (zet (K:=K) rfl PySem.F.plainAttrs_str PySem.F.slot_str_join PySem.F.type_str_join zauq zhy (bpaC (zbd (zaw (N':=["_law_k","_law_pen_here","_law_signs"]) (own:=["_law_k"]) (fr:=[0,2]) (by kernel_rfl)) rfl (zew rfl T.range (bpaC (zbk (zds (K:=K) rfl) zag (bpeD D_law_draw hr (bpaC (bv 0) (bpaC zag zac)))) zac) (by rfl)) ?hb1 (by intro _;rfl)) zac) (by rfl) (by rfl) (by rfl) (zan (by rfl)) (by rfl)))
 (zaf (bpsS (i:=4) zdu rfl (Or.inl rfl) (bpeD D_law_draw hr (bpaC (bv 0) (bpaC zag zac))))
 (zaf (zeo (zaks (zcc (zur (K:=K) rfl hr.units) (bv 1) (zbl zac) (zfq _)) (zaft (zcc zasj (bv 4) zag (zfq _)))).pt (zaf (bpsS (i:=5) zdu rfl (Or.inl rfl) (bpeX (zdk (K:=K) rfl) (bv 1) (bpeD D_law_draw hr (bpaC (bv 0) (bpaC (bpeB (zcw (K:=K) rfl) T.len zea (bpaC (bv 1) zac)) zac)))))
 (zai (bpsS (i:=3) zdu rfl (Or.inl rfl) (zjt (zajs (K:=K) rfl) (bpeX (zdk (K:=K) rfl) (zbl (bpaC (zbk (zds (K:=K) rfl) (bv 5) (bv 3)) (bpaC (zbk (zds (K:=K) rfl) (bv 3) (bv 5)) zac))) (bv 4)) zrb (zkx zag))))) zcb)
 (zaf (bpsS (i:=6) zdu rfl (Or.inl rfl) (zbk (zds (K:=K) rfl) (zbk zaey (zbl (bpaC (bv 3) zac)) zag) (zbl (bpaC zhy (bpaC zhy (bpaC zhy (bpaC zhy (bpaC zhy zac))))))))
 (zaf (bpsS (i:=3) zdu rfl (Or.inl rfl) (bpeX (zdk (K:=K) rfl) (bv 6) (bpeD D_law_draw hr (bpaC (bv 0) (bpaC zag zac)))))
 (zaf (zeo (zcc (zaxq (K:=K) rfl) (bv 3) (bv 1) (by rfl)) (zai (bpsS (i:=3) zdu rfl (Or.inl rfl) (bpeX (zdk (K:=K) rfl) (zbd (zaw (N':=["_law_sign","_law_names"]) (own:=["_law_sign"]) (fr:=[1]) (by kernel_rfl)) rfl (zatv (bv 2)) ?hb2 (by intro _;rfl)) zag))) zcb)
 (zai (zav (bv 3))))))))))
  case hb1=>(intro cl C s H fp;refine'⟨Bx.out (bpgN (i:=0) zuc rfl (Or.inl rfl)),Bx.out zce,Bx.out (bpeX (zdk (K:=K) rfl) (bv 2) (bpeD D_law_draw hr (bpaC (bv 1) (bpaC zag zac))))⟩)
  case hb2=>(intro cl C s H fp;refine'⟨Bx.out (bpgN (i:=0) zud rfl (Or.inl rfl)),Bx.out (zsa (zcc (zrp (K:=K) rfl) (bv 0) (bv 1) (by rfl))),Bx.out (bv 0)⟩)
 exact fn_r (by decide) (F:=zvh) ((zbs (zcz (zaj (se_c λ_=>zcn)) (by decide)) (zbs (zcz (zapo (zapi (kk:=0) (by rfl) (zoc (zbq (zdh zgs (zaj (se_c λ_=>zad)) (zcf (zbq (zaj (se_c λ_=>zad)) zcl))) zcl)) (zms (by decide)) (zef (by decide)) zdo (zdh zrs (zaj (zae 2)) (zcf (zbq (zaj (se_c λ_=>zad)) zcl))))) (by decide)) (zbs (zcz (zcf (zbq (zaj (se_c λ_=>zad)) zcl)) (by decide)) (zbs (zut (zre (zaxt (st_t (zch zagu (zae 1) (zcp zah))) (st_t (zch zatf (zae 4) (se_c λ_=>zad))))) (zbs (zcz (zdh zrs (zaj (zae 1)) (zcf (zbq (zaj (zen zhq (zab (zae 1) zah))) zcl))) (by decide)) (zcz (zaj (zatl (zch zrs (zcp (zab (zch zgs (zae 5) (zae 3)) (zab (zch zgs (zae 3) (zae 5)) zah))) (zae 4)) zakd (zws (se_c λ_=>zad)))) (by decide))) zob) (zbs (zcz (zaj (zch zgs (zch zafu (zcp (zab (zae 3) zah)) (se_c λ_=>zad)) (zcp (zab (se_c λ_=>zcn) (zab (se_c λ_=>zcn) (zab (se_c λ_=>zcn) (zab (se_c λ_=>zcn) (zab (se_c λ_=>zcn) zah)))))))) (by decide)) (zbs (zcz (zdh zrs (zaj (zae 6)) (zcf (zbq (zaj (se_c λ_=>zad)) zcl))) (by decide)) (zbs (zut (zre (st_t (zch zaoi (zae 3) (zae 1)))) (zcz (zaj (zch zrs (zcq (zayi (zae 2)) zbv (zef (by decide)) (st_t (zch zaoi (zae 0) (zae 1))) (zae 0)) (se_c λ_=>zad))) (by decide)) zob) (zaag zxh))))))))) h
theorem zaie{f:Addr}{fd:qr}(F:Fun K "_law_web" "_law_web" ztk f fd)(T:Txt mg)(D_law_draw:zlb P w K mg base)(D_law_name:zox P w K mg base):FnOk P w K mg base CX0 3 f fd ["_law_pen_here","_law_size"] (spR penK 2 zej):=by
 refine F.ok zahx (λvs H Q E h=>zxf h) (λcdv A outer s H vs Q E hr h=>?_)
 have hu:=zeb hr
 apply Exists.intro
 apply And.intro
 ·refine' Bx.out (zaf (bpsS (i:=2) zge rfl (Or.inl rfl) (zbl zac))
 (zaf (bpsS (i:=3) zge rfl (Or.inl rfl) (zbl zac))
 (zaf (zfw qAP rfl (zew rfl T.range (bpaC (bv 1) zac) (by rfl)) (bpgN (i:=4) zge rfl (Or.inl rfl))
  (zaf (bpsS (i:=5) zge rfl (Or.inl rfl) (zbl zac))
 (zaf (zfw qAP rfl (zew rfl T.range (bpaC (bpeB (zaix rfl) T.min zaqk (bpaC (bv 4) (bpaC (bpeD D_law_draw hr (bpaC (bv 0) (bpaC zag zac))) zac))) zac) (by rfl)) (bpgN (i:=6) zge rfl (Or.inl rfl))
  (zaf (bpsS (i:=7) zge rfl (Or.inl rfl) (bpeX (zdk (K:=K) rfl) (bv 3) (bpeD D_law_draw hr (bpaC (bv 0) (bpaC (bv 4) zac)))))
 (zai (zeo (zcc (zrp (K:=K) rfl) (bv 7) (bv 5) (by rfl)) (zai (zdz (zet (K:=K) rfl q9 qAM qAL zem (bv 5) (bpaC (bv 7) zac) (by rfl) (by rfl) (by rfl) (zan (by rfl)) (by rfl)) (by rfl))) zcb))) (by intro _;rfl))
 (zaf (zdz (zet (K:=K) rfl q9 qAM qAL zem (bv 3) (bpaC (bpeD D_law_name hr (bpaC (bv 0) (bpaC (bv 3) zac))) zac) (by rfl) (by rfl) (by rfl) (zan (by rfl)) (by rfl)) (by rfl))
 (zai (zdz (zet (K:=K) rfl q9 qAM qAL zem (bv 2) (bpaC (zhg (bpaC (bpeX (zdk (K:=K) rfl) (bv 3) (bv 4)) (bpaC (bv 5) zac))) zac) (by rfl) (by rfl) (by rfl) (zan (by rfl)) (by rfl)) (by rfl)))))) (by intro _;rfl))
 (zai (zav (bv 2))))))
 exact fn_r (by decide) (F:=znc) ((zbs (zcz (zaj (zcp zah)) (by decide)) (zbs (zcz (zaj (zcp zah)) (by decide)) (zbs (zse (zafv (zjq (zab (zae 1) zah))) (zms (by decide)) (zmt (by decide)) (zbs (zcz (zaj (zcp zah)) (by decide)) (zbs (zse (zoc (zbq (zarj zaxw (zbq (zaj (zae 4)) (zbq (zcf (zbq (zaj (se_c λ_=>zad)) zcl)) zcl))) zcl)) (zms (by decide)) (zmt (by decide)) (zbs (zcz (zdh zrs (zaj (zae 3)) (zcf (zbq (zaj (zae 4)) zcl))) (by decide)) (zut (zre (st_t (zch zaoi (zae 7) (zae 5)))) (zsd (zaj (zae 7))) zob))) (zbs (zsd (zcf (zbq (zaj (zae 3)) zcl))) (zsd (zaj (zlg (zab (zfg (zae 4)) (zab (zae 5) zah))))))))) (zaag zxh))))) h
theorem zaek{f:Addr}{fd:qr}(F:Fun K "_law_book" "_law_book" zoq f fd)(T:Txt mg)(D_law_draw:zlb P w K mg base)(D_law_name:zox P w K mg base)(D_law_web:zabw P w K mg base):FnOk P w K mg base CX0 4 f fd ["_law_pen_here"] (spR penK 1 zep):=by
 refine F.ok zadz (λvs H Q E h=>zxf h) (λcdv A outer s H vs Q E hr h=>?_)
 have hu:=zeb hr
 apply Exists.intro
 apply And.intro
 ·refine' Bx.out (zaf (bpsS (i:=1) zda rfl (Or.inl rfl) (zbk (zds (K:=K) rfl) zag (bpeD D_law_draw hr (bpaC (bv 0) (bpaC zag zac)))))
 (zaf (bpsS (i:=2) zda rfl (Or.inl rfl) (zbk (zds (K:=K) rfl) zag (bpeD D_law_draw hr (bpaC (bv 0) (bpaC (bpeX (zdk (K:=K) rfl) (zbl (bpaC zag (bpaC zag (bpaC zag zac)))) (zbk zarb (bv 1) zag)) zac)))))
 (zaf (zeo (zcc (zph (K:=K) rfl hr.units) (bpeD D_law_draw hr (bpaC (bv 0) (bpaC zag zac))) zag (zfq _)) (zai (bpsS (i:=2) zda rfl (Or.inl rfl) (bpeX (zdk (K:=K) rfl) (zbl (bpaC zag (bpaC zag (bpaC zag zac)))) (zbk zarb (bv 1) zag)))) zcb)
 (zaf (bpsS (i:=3) zda rfl (Or.inl rfl) (bpeD D_law_web hr (bpaC (bv 0) (bpaC (bv 2) zac))))
 (zaf (bpsS (i:=4) zda rfl (Or.inl rfl) (zbl zac))
 (zaf (zfw qAP rfl (zew rfl T.range (bpaC (bpeD D_law_draw hr (bpaC (bv 0) (bpaC zag zac))) zac) (by rfl)) (bpgN (i:=5) zda rfl (Or.inl rfl))
  (zaf (bpsS (i:=6) zda rfl (Or.inl rfl) (zbl zac))
 (zaf (zfw qAP rfl (zew rfl T.range (bpaC (bv 1) zac) (by rfl)) (bpgN (i:=7) zda rfl (Or.inl rfl))
  (zaf (bpsS (i:=8) zda rfl (Or.inl rfl) (bpeD D_law_draw hr (bpaC (bv 0) (bpaC (bv 2) zac))))
 (zai (zdz (zet (K:=K) rfl q9 qAM qAL zem (bv 6) (bpaC (bpeX (zdk (K:=K) rfl) (bpeX (zdk (K:=K) rfl) (bv 3) (zbk zwh (bv 8) (zbk (zds (K:=K) rfl) zag (bpeD D_law_draw hr (bpaC (bv 0) (bpaC zag zac)))))) zag) zac) (by rfl) (by rfl) (by rfl) (zan (by rfl)) (by rfl)) (by rfl)))) (by intro _;rfl))
 (zai (zeo (zcc (zzy (K:=K) rfl hr.units) (bpeT (zil (K:=K) rfl) T.tuple zgc (bpaC (bv 6) zac)) (zbd (zaw (N':=["_law_rule"]) (own:=["_law_rule"]) (fr:=[]) (by kernel_rfl)) rfl (zbb (K:=K) rfl (bv 4)) ?hb1 (by intro _;rfl)) (by rfl)) (zai (zdz (zet (K:=K) rfl q9 qAM qAL zem (bv 4) (bpaC (zhg (bpaC (bpeD D_law_name hr (bpaC (bv 0) (bpaC (zbd (zaw (N':=["_law_rule"]) (own:=["_law_rule"]) (fr:=[]) (by kernel_rfl)) rfl (zbb (K:=K) rfl (bv 4)) ?hb2 (by intro _;rfl)) zac))) (bpaC (bpeT (zil (K:=K) rfl) T.tuple zgc (bpaC (bv 6) zac)) zac))) zac) (by rfl) (by rfl) (by rfl) (zan (by rfl)) (by rfl)) (by rfl))) zcb)))) (by intro _;rfl))
 (zai (zav (zhg (bpaC (bv 3) (bpaC (bv 1) (bpaC (bv 4) zac))))))))))))
  case hb1=>(intro cl C s H fp;refine'⟨Bx.out (bpgN (i:=0) zue rfl (Or.inl rfl)),Bx.out zce,Bx.out (bpeX (zdk (K:=K) rfl) (bv 0) zag)⟩)
  case hb2=>(intro cl C s H fp;refine'⟨Bx.out (bpgN (i:=0) zuf rfl (Or.inl rfl)),Bx.out zce,Bx.out (bpeX (zdk (K:=K) rfl) (bv 0) zag)⟩)
 exact fn_r (by decide) (F:=zll) ((zbs (zcz (zdh zgs (zaj (se_c λ_=>zad)) (zcf (zbq (zaj (se_c λ_=>zad)) zcl))) (by decide)) (zbs (zcz (zdh zgs (zaj (se_c λ_=>zad)) (zcf (zbq (zaj (zch zrs (zcp (zab (se_c λ_=>zad) (zab (se_c λ_=>zad) (zab (se_c λ_=>zad) zah)))) (zch zare (zae 1) (se_c λ_=>zad)))) zcl))) (by decide)) (zbs (zut (zaul (zdh zzm (zcf (zbq (zaj (se_c λ_=>zad)) zcl)) (zaj (se_c λ_=>zad)))) (zcz (zaj (zch zrs (zcp (zab (se_c λ_=>zad) (zab (se_c λ_=>zad) (zab (se_c λ_=>zad) zah)))) (zch zare (zae 1) (se_c λ_=>zad)))) (by decide)) zob) (zbs (zcz (zcf (zbq (zaj (zae 2)) zcl)) (by decide)) (zbs (zcz (zaj (zcp zah)) (by decide)) (zbs (zse (zoc (zbq (zcf (zbq (zaj (se_c λ_=>zad)) zcl)) zcl)) (zms (by decide)) (zmt (by decide)) (zbs (zcz (zaj (zcp zah)) (by decide)) (zbs (zse (zafv (zjq (zab (zae 1) zah))) (zms (by decide)) (zmt (by decide)) (zbs (zcz (zcf (zbq (zaj (zae 2)) zcl)) (by decide)) (zsd (zdh zrs (zdh zrs (zaj (zae 3)) (zdh zwq (zaj (zae 8)) (zdh zgs (zaj (se_c λ_=>zad)) (zcf (zbq (zaj (se_c λ_=>zad)) zcl))))) (zaj (se_c λ_=>zad)))))) (zut (zre (st_t (zch zari (zen zqz (zab (zae 6) zah)) (zcq (zcu (zae 4)) zbv (zef (by decide)) zdo (zfg (se_c λ_=>zad)))))) (zsd (zauj (zbq (zcf (zbq (zaj (zcq (zcu (zae 4)) zbv (zef (by decide)) zdo (zfg (se_c λ_=>zad)))) zcl)) (zbq (zaj (zen zqz (zab (zae 6) zah))) zcl)))) zob)))) (zald (zaj (zlg (zab (zae 3) (zab (zae 1) (zab (zae 4) zah))))))))))))) h
theorem zael {f:Addr} {fd:qr} (F:Fun K "_law_same" "_law_same" zor f fd) (T:Txt mg)  (hm:mg "_law_same"=some (.ref f)) (hk:qBY K (.ref f)=true) (hbd:zrl K fd ["_law_due_here","_law_thing"] []):∀n:Nat,FnOk P w K mg base CX0 (n+0+1) f fd ["_law_due_here","_law_thing"] (spD 2 (zev n)):=by
 intro n
 induction n with
 | zero=>exact F.ok ztl (λvs H Q E h=>zbu h) (λcdv A outer s H vs Q E hr h=>by obtain⟨_,_,_,_,_,_,_,e,_⟩:=h;cases e)
 | succ n ih=>
 have D_law_same:Dn P w K mg base "_law_same" ["_law_due_here","_law_thing"] (n+0+1) (spD 2 (zev n)):=⟨f,fd,ih,hm,hk,hbd⟩
 rw[show n+1+0+1=(n+0+1)+1 by omega]
 refine F.ok ztl (λvs H Q E h=>zbu h) (λcdv A outer s H vs Q E hr h=>?_)
 have hu:=zeb hr
 apply Exists.intro
 apply And.intro
 ·refine' Bx.out (zaf (zeo (zdg (K:=K) rfl (zcr (zfb (K:=K) rfl) (by rfl) T.isinstance zbx (zau (bv 0) (zau (zgx (v:=.ty "str") (by rfl) T.str zagf rfl (by decide) (by decide)) zac (by rfl)) (by rfl)) (by decide) (by decide) (zan (by rfl)) (by rfl)) (λ_=>rfl)) (zai (zav (zrz (zcr (zfb (K:=K) rfl) (by rfl) T.isinstance zbx (zau (bv 1) (zau (zgx (v:=.ty "str") (by rfl) T.str zagf rfl (by decide) (by decide)) zac (by rfl)) (by rfl)) (by decide) (by decide) (zan (by rfl)) (by rfl)) (zwx (zwy (zph (K:=K) rfl hr.units) (bv 1) (bv 0) (zfq _)))))) zcb)
 (zaf (zeo (zdg (K:=K) rfl (zcr (zfb (K:=K) rfl) (by rfl) T.isinstance zbx (zau (bv 0) (zau (zgx (v:=.ty "list") (by rfl) T.list zfn rfl (by decide) (by decide)) zac (by rfl)) (by rfl)) (by decide) (by decide) (zan (by rfl)) (by rfl)) (λ_=>rfl)) (zaf (zeo (zafs (zoa (zdg (K:=K) rfl (zcr (zfb (K:=K) rfl) (by rfl) T.isinstance zbx (zau (bv 1) (zau (zgx (v:=.ty "list") (by rfl) T.list zfn rfl (by decide) (by decide)) zac (by rfl)) (by rfl)) (by decide) (by decide) (zan (by rfl)) (by rfl)) (λ_=>rfl))) (zwz (zcc (zur (K:=K) rfl hr.units) (zcr (zcw (K:=K) rfl) (by rfl) T.len zea (zau (bv 1) zac (by rfl)) (by decide) (by decide) (zan (by rfl)) (by rfl)) (zcr (zcw (K:=K) rfl) (by rfl) T.len zea (zau (bv 0) zac (by rfl)) (by decide) (by decide) (zan (by rfl)) (by rfl)) (zfq _)))).pt (zai (zav zafr)) zcb)
 (zai (zav (zcr (zmi (K:=K) rfl rfl) (by rfl) T.all zrh (zau (zbd (zaw (N':=["_law_one","_law_two"]) (own:=["_law_one","_law_two"]) (fr:=[]) (by kernel_rfl)) rfl (zxa (K:=K) rfl rfl T.zip (zau (bv 0) (zau (bv 1) zac (by rfl)) (by rfl)) (by rfl) (by rfl)) ?hb1 (by intro _;rfl)) zac (by rfl)) (by decide) (by decide) (zan (by rfl)) (by rfl))))) zcb)
 (zaf (zeo (zdg (K:=K) rfl (zcr (zfb (K:=K) rfl) (by rfl) T.isinstance zbx (zau (bv 0) (zau (zgx (v:=.ty "tuple") (by rfl) T.tuple zgc rfl (by decide) (by decide)) zac (by rfl)) (by rfl)) (by decide) (by decide) (zan (by rfl)) (by rfl)) (λ_=>rfl)) (zaf (zeo (zafs (zoa (zdg (K:=K) rfl (zcr (zfb (K:=K) rfl) (by rfl) T.isinstance zbx (zau (bv 1) (zau (zgx (v:=.ty "tuple") (by rfl) T.tuple zgc rfl (by decide) (by decide)) zac (by rfl)) (by rfl)) (by decide) (by decide) (zan (by rfl)) (by rfl)) (λ_=>rfl))) (zwz (zcc (zur (K:=K) rfl hr.units) (zcr (zcw (K:=K) rfl) (by rfl) T.len zea (zau (bv 1) zac (by rfl)) (by decide) (by decide) (zan (by rfl)) (by rfl)) (zcr (zcw (K:=K) rfl) (by rfl) T.len zea (zau (bv 0) zac (by rfl)) (by decide) (by decide) (zan (by rfl)) (by rfl)) (zfq _)))).pt (zai (zav zafr)) zcb)
 (zai (zav (zcr (zmi (K:=K) rfl rfl) (by rfl) T.all zrh (zau (zbd (zaw (N':=["_law_one","_law_two"]) (own:=["_law_one","_law_two"]) (fr:=[]) (by kernel_rfl)) rfl (zxa (K:=K) rfl rfl T.zip (zau (bv 0) (zau (bv 1) zac (by rfl)) (by rfl)) (by rfl) (by rfl)) ?hb2 (by intro _;rfl)) zac (by rfl)) (by decide) (by decide) (zan (by rfl)) (by rfl))))) zcb)
 (zai (zav (zrz (zcr (zfb (K:=K) rfl) (by rfl) T.isinstance zbx (zau (bv 1) (zau (zgx (v:=.ty "int") (by rfl) T.int zaqi rfl (by decide) (by decide)) zac (by rfl)) (by rfl)) (by decide) (by decide) (zan (by rfl)) (by rfl)) (zrz (zatw (zcr (zfb (K:=K) rfl) (by rfl) T.isinstance zbx (zau (bv 1) (zau (zgx (v:=.ty "bool") (by rfl) T.bool zams rfl (by decide) (by decide)) zac (by rfl)) (by rfl)) (by decide) (by decide) (zan (by rfl)) (by rfl))) (zwx (zwy (zph (K:=K) rfl hr.units) (bv 1) (bv 0) (zfq _))))))))))
  case hb1=>(intro cl C s H fp;refine'⟨Bx.out (zfi (K:=K) (n:=2) rfl rfl (zbg (zmr (i:=0) zlo rfl (Or.inl rfl) (by first|exact .inl rfl|exact .inr rfl|assumption)) (zbg (zmr (i:=1) zlo rfl (Or.inl rfl) (by first|exact .inl rfl|exact .inr rfl|assumption)) zfh (by rfl)) (by rfl)) (by rfl) (by rfl)),Bx.out zce,Bx.out (zakp D_law_same (hr.mono (qN _)) (by rfl) (zau (bv 0) (zau (bv 1) zac (by rfl)) (by rfl)) (by decide) (zan (by rfl)) (by rfl))⟩)
  case hb2=>(intro cl C s H fp;refine'⟨Bx.out (zfi (K:=K) (n:=2) rfl rfl (zbg (zmr (i:=0) zlp rfl (Or.inl rfl) (by first|exact .inl rfl|exact .inr rfl|assumption)) (zbg (zmr (i:=1) zlp rfl (Or.inl rfl) (by first|exact .inl rfl|exact .inr rfl|assumption)) zfh (by rfl)) (by rfl)) (by rfl) (by rfl)),Bx.out zce,Bx.out (zakp D_law_same (hr.mono (qN _)) (by rfl) (zau (bv 0) (zau (bv 1) zac (by rfl)) (by rfl)) (by decide) (zan (by rfl)) (by rfl))⟩)
 exact fn_d (f:=zog (zev n)) ((zbr (zmn (zlf (zmm (zae 0) zakc)) (zcm (zafh (zmm (zae 1) zakc) (zch zzm (zae 1) (zae 0)))) zhd) (zbr (zmn (zlf (zmm (zae 0) zafi)) (zbr (zmn (zati (zzn (zlf (zmm (zae 1) zafi))) (st_t (zch zagu (zen zhq (zab (zae 1) zah)) (zen zhq (zab (zae 0) zah))))) (zcm (se_c λ_=>zbj)) zhd) (zcm (zen zzp (zab (zcq (zafq (zab (zae 0) (zab (zae 1) zah))) (zli (zca (zca zhw))) (zpg (zdd (by decide) (zdd (by decide) zjr))) zdo (zaz (zab (zae 0) (zab (zae 1) zah)))) zah)))) zhd) (zbr (zmn (zlf (zmm (zae 0) zrt)) (zbr (zmn (zati (zzn (zlf (zmm (zae 1) zrt))) (st_t (zch zagu (zen zhq (zab (zae 1) zah)) (zen zhq (zab (zae 0) zah))))) (zcm (se_c λ_=>zbj)) zhd) (zcm (zen zzp (zab (zcq (zafq (zab (zae 0) (zab (zae 1) zah))) (zli (zca (zca zhw))) (zpg (zdd (by decide) (zdd (by decide) zjr))) zdo (zaz (zab (zae 0) (zab (zae 1) zah)))) zah)))) zhd) (zcm (zafh (zmm (zae 1) zatk) (zafh (zaxu (zmm (zae 1) zaok)) (zch zzm (zae 1) (zae 0))))))))) h
theorem zaem {f:Addr} {fd:qr} (F:Fun K "_law_copy" "_law_copy" zos f fd) (T:Txt mg)  : FnOk P w K mg base CX0 1 f fd ["_law_book_here"] (spD 1 zha):=by
 refine F.ok zaec (λvs H Q E h=>zbu h) (λcdv A outer s H vs Q E hr h=>?_)
 have hu:=zeb hr
 apply Exists.intro
 apply And.intro
 ·refine' Bx.out (zai (zav (zhg (bpaC (zbd (zaw (N':=["_law_name_here","_law_elders"]) (own:=["_law_name_here","_law_elders"]) (fr:=[]) (by kernel_rfl)) rfl (zbb (K:=K) rfl (bpeX (zdk (K:=K) rfl) (bv 0) zag)) ?hb1 (by intro _;rfl)) (bpaC (bpeX (zdk (K:=K) rfl) (bv 0) zag) (bpaC (bpeT (zfr (K:=K) rfl) T.list zfn (bpaC (bpeX (zdk (K:=K) rfl) (bv 0) zag) zac)) zac))))))
  case hb1=>(intro cl C s H fp;refine'⟨Bx.out (zfi (K:=K) (n:=2) rfl rfl (zbg (bpgN (i:=0) zlq rfl (Or.inl rfl)) (zbg (bpgN (i:=1) zlq rfl (Or.inl rfl)) zfh (by rfl)) (by rfl)) (by rfl) (by rfl)),Bx.out zce,Bx.out (zhg (bpaC (bv 0) (bpaC (bpeT (zfr (K:=K) rfl) T.list zfn (bpaC (bv 1) zac)) zac)))⟩)
 exact fn_d (f:=zvi) ((zcm (zlg (zab (zcq (zcu (zfg (se_c λ_=>zad))) (zli (zca (zca zhw))) (zpg (zdd (by decide) (zdd (by decide) zjr))) zdo (zlg (zab (zae 0) (zab (zen zlw (zab (zae 1) zah)) zah)))) (zab (zfg (se_c λ_=>zad)) (zab (zen zlw (zab (zfg (se_c λ_=>zad)) zah)) zah)))))) h
theorem zyp {f:Addr} {fd:qr} (F:Fun K "_law_orders" "_law_orders" zkn f fd) (T:Txt mg)  : FnOk P w K mg base CX0 1 f fd ["_law_places"] (spD 1 zgn):=by
 refine F.ok zye (λvs H Q E h=>zbu h) (λcdv A outer s H vs Q E hr h=>?_)
 have hu:=zeb hr
 apply Exists.intro
 apply And.intro
 ·refine' Bx.out (zaf (zeo (zcc (zph (K:=K) rfl hr.units) (bv 0) zag (zfq _)) (zai (zav (zbl (bpaC (zbl (bpaC zag zac)) zac)))) zcb)
 (zaf (zeo (zcc (zph (K:=K) rfl hr.units) (bv 0) zag (zfq _)) (zai (zav (zbl (bpaC (zbl (bpaC zag (bpaC zag zac))) (bpaC (zbl (bpaC zag (bpaC zag zac))) zac))))) zcb)
 (zai (zav (zbl (bpaC (zbl (bpaC zag (bpaC zag (bpaC zag zac)))) (bpaC (zbl (bpaC zag (bpaC zag (bpaC zag zac)))) (bpaC (zbl (bpaC zag (bpaC zag (bpaC zag zac)))) (bpaC (zbl (bpaC zag (bpaC zag (bpaC zag zac)))) (bpaC (zbl (bpaC zag (bpaC zag (bpaC zag zac)))) (bpaC (zbl (bpaC zag (bpaC zag (bpaC zag zac)))) zac)))))))))))
 exact fn_d (f:=zpr) ((zbr (zmn (st_t (zch zzm (zae 0) (se_c λ_=>zad))) (zcm (zcp (zab (zcp (zab (se_c λ_=>zad) zah)) zah))) zhd) (zbr (zmn (st_t (zch zzm (zae 0) (se_c λ_=>zad))) (zcm (zcp (zab (zcp (zab (se_c λ_=>zad) (zab (se_c λ_=>zad) zah))) (zab (zcp (zab (se_c λ_=>zad) (zab (se_c λ_=>zad) zah))) zah)))) zhd) (zcm (zcp (zab (zcp (zab (se_c λ_=>zad) (zab (se_c λ_=>zad) (zab (se_c λ_=>zad) zah)))) (zab (zcp (zab (se_c λ_=>zad) (zab (se_c λ_=>zad) (zab (se_c λ_=>zad) zah)))) (zab (zcp (zab (se_c λ_=>zad) (zab (se_c λ_=>zad) (zab (se_c λ_=>zad) zah)))) (zab (zcp (zab (se_c λ_=>zad) (zab (se_c λ_=>zad) (zab (se_c λ_=>zad) zah)))) (zab (zcp (zab (se_c λ_=>zad) (zab (se_c λ_=>zad) (zab (se_c λ_=>zad) zah)))) (zab (zcp (zab (se_c λ_=>zad) (zab (se_c λ_=>zad) (zab (se_c λ_=>zad) zah)))) zah))))))))))) h
theorem zaif{f:Addr}{fd:qr}(F:Fun K "_law_due" "_law_due" ztm f fd)(T:Txt mg)(D_law_orders:zqg P w K mg base)(D_walk_of:ztr P w K mg base):FnOk P w K mg base CX0 9 f fd ["_law_book_here"] (spD 1 zcy):=by
 refine F.ok zahy (λvs H Q E h=>zbu h) (λcdv A outer s H vs Q E hr h=>?_)
 have hu:=zeb hr
 apply Exists.intro
 apply And.intro
 ·refine' Bx.out (zaf (bpsS (i:=1) zgf rfl (Or.inl rfl) zakr)
 (zaf (bpsS (i:=2) zgf rfl (Or.inl rfl) zakr)
 (zaf (zfw qAP rfl (zbb (K:=K) rfl (bpeD D_law_orders hr (bpaC (bpeX (zdk (K:=K) rfl) (bv 0) zag) zac))) (bpgN (i:=3) zgf rfl (Or.inl rfl))
  (zaf (bpsS (i:=4) zgf rfl (Or.inl rfl) (bpeB (zaav (K:=K) rfl rfl) T.sum zagg (bpaC (zbd (zaw (N':=["_law_nodes"]) (own:=["_law_nodes"]) (fr:=[]) (by kernel_rfl)) rfl (zbb (K:=K) rfl (bpeD D_walk_of hr (bpaC (bv 0) (bpaC (bpeT (zfr (K:=K) rfl) T.list zfn (bpaC (bv 3) zac)) zac)))) ?hb1 (by intro _;rfl)) zac)))
 (zai (zeo (zafs (zatz (zaty (bv 1)) (by first|exact zanh _ (by decide) (by decide)|rfl)) (zwz (zcc zasj (bv 4) (bv 1) (zfq _)))).pt (zaf (bpsS (i:=1) zgf rfl (Or.inl rfl) (bv 4))
 (zai (bpsS (i:=2) zgf rfl (Or.inl rfl) (bv 3)))) zcb))) (by intro _;rfl))
 (zai (zav (bv 2))))))
  case hb1=>(intro cl C s H fp;refine'⟨Bx.out (bpgN (i:=0) zyh rfl (Or.inl rfl)),Bx.out zce,Bx.out (bpeB (zcw (K:=K) rfl) T.len zea (bpaC (bv 0) zac))⟩)
 exact fn_d (f:=znf) ((zbr (zdn (se_c λ_=>zib)) (zbr (zdn (se_c λ_=>zib)) (zbr (zpf (zcu (zaz (zab (zfg (se_c λ_=>zad)) zah))) zbv (zbr (zdn (zen zamc (zab (zcq (zcu (zaz (zab (zae 0) (zab (zen zlw (zab (zae 3) zah)) zah)))) zbv (zef (by decide)) zdo (zen zhq (zab (zae 0) zah))) zah))) (zmn (zati (st_b (zaxv (zae 1))) (st_t (zch zatf (zae 4) (zae 1)))) (zbr (zdn (zae 4)) (zdn (zae 3))) zhd))) znx)))) h
theorem zui{f:Addr}{fd:qr}(F:Fun K "all_orders" "all_orders" zhu f fd)(T:Txt mg)(D_products:zla P w K mg base):FnOk P w K mg base CX0 2 f fd ["places"] (spT 1 zfm):=by
 refine F.ok zni (λvs H Q E h=>zauy h) (λcdv A outer s H vs Q E hr h=>?_)
 have hu:=zeb hr
 apply Exists.intro
 apply And.intro
 ·refine' Bx.out (zai (zav (zbd (zaw (N':=["order","places"]) (own:=["order"]) (fr:=[0]) (by kernel_rfl)) rfl (zbb (K:=K) rfl (bpeD D_products hr (bpaC (zbk zaey (zbl (bpaC (zafx rfl (by rfl) T.list (by rfl) T.range (bv 0) (zan (by rfl))) zac)) (bv 0)) zac))) ?hb1 (by intro _;rfl))))
  case hb1=>(intro cl C s H fp;refine'⟨Bx.out (bpgN (i:=0) zjg rfl (Or.inl rfl)),Bx.out (zsa (zcc (zph (K:=K) rfl hr.units) (zsn rfl (by rfl) T.len (by rfl) T.set (bv 0) (zan (by rfl))) (bv 1) (zfq _))),Bx.out (bpeT (zfr (K:=K) rfl) T.list zfn (bpaC (bv 0) zac))⟩)
 exact zbay (E:=E) (E':=E0) (f:=znd) ((zauz (zapt (zcu (zaz (zab (zch zafu (zcp (zab (zalq (zae 0)) zah)) (zae 0)) zah))) zbv (zef (by decide)) (st_t (zch zzm (zux (zae 0)) (zae 1))) (zayt (zen zlw (zab (zae 0) zah)))))) h
end
theorem zgg{w:OF}{a b:EF}{env:DEnv}{x y:Val}{d:PyData}{fr:Bool}(h1:a env=some x)(h2:b env=some y)(h3:w x.d y.d=some (d,fr)):eOp w a b env=some ⟨d,fr,bsOf d (x.bs++y.bs)⟩:=by unfold eOp;rw[h1,h2];show((w x.d y.d).bind _)=_;rw[h3];rfl
structure PenB(n:Nat)(st:Pen):Prop where
 few:st.cells.length<=63
 lo:0<=st.cnt
 hi:st.cnt+n<=1000000
theorem PenB.mono{n m:Nat}{st:Pen}(h:PenB m st)(l:n<=m):PenB n st:=⟨h.few,h.lo,by have:=h.hi;omega⟩
noncomputable abbrev drE(k:Int)(s:Sl):DEnv:=[.no,.pl (.int k),s]
noncomputable abbrev drC:TFr Pen:=qAnd (qB (rOp ltD (rGet 1) (zam (eOp powB (eC (.int 10)) (eC (.int 18)))))) zuu
noncomputable abbrev drB:SFr Pen:=rPut 1 (rOp modD zalg (zam (eOp powB (eOp powB (eC (.int 10)) (eC (.int 50))) (eC (.int 8)))))
theorem zazn(env:DEnv):eOp powB (eC (.int 10)) (eC (.int 18)) env=some ⟨.int 1000000000000000000,false,[]⟩:=by
 have e:powB (.int 10) (.int 18)=some (.int 1000000000000000000,false):=by
  unfold powB intD
  dsimp only
  rw[if_pos (by decide +kernel)]
  rfl
 exact zgg rfl rfl e
theorem zazo(env:DEnv):∃N:Int,0<N/\eOp powB (eOp powB (eC (.int 10)) (eC (.int 50))) (eC (.int 8)) env=some ⟨.int N,false,[]⟩:=by
 have e1:powB (.int 10) (.int 50)=some (.int (10 ^ 50),false):=by
  unfold powB intD
  dsimp only
  rw[if_pos (by decide +kernel)]
  rfl
 have e2:powB (.int (10 ^ 50)) (.int 8)=some (.int ((10 ^ 50) ^ 8),false):=by
  unfold powB intD
  dsimp only
  rw[if_pos (by decide +kernel)]
  rfl
 exact⟨(10 ^ 50) ^ 8,by decide +kernel,zgg (zgg rfl rfl e1) rfl e2⟩
theorem zvz{k:Int}{s:Sl}:∀(n:Nat)(st:Pen),st.cells.length<n->st.cells.length<=63->∃st',ziz drC drB n (drE k s) st=some (.nx (drE k s) st')/\st'.cells.length<=63/\st'.cnt=st.cnt
 | 0,st,h,_=>absurd h (Nat.not_lt_zero _)
 | n+1,st,h,hl=>by
  have c1:qB (rOp ltD (rGet 1) (zam (eOp powB (eC (.int 10)) (eC (.int 18))))) (drE k s) st=some (decide (st.acc<1000000000000000000),st):=by
   unfold qB
   rw[zdp (T:=Pen) (x:=⟨.int st.acc,false,[]⟩) (s1:=st) rfl (zeh (zazn _)) rfl]
   rfl
  have c2:zuu (drE k s) st=some (!st.cells.isEmpty,st):=by unfold zuu;rw[if_pos (by omega)]
  by_cases h1:st.acc<1000000000000000000
  ·have c3:drC (drE k s) st=some (!st.cells.isEmpty,st):=by
    show qAnd _ _ _ _=_
    unfold qAnd
    rw[c1,decide_eq_true h1]
    exact c2
   cases hc:st.cells with
   | nil=>
    refine⟨st,?_,hl,rfl⟩
    unfold ziz
    rw[c3,hc];rfl
   | cons c cs=>
    obtain⟨N,hN,eN⟩:=zazo (drE k s)
    have b1:drB (drE k s) st=some (.nx (drE k s) ⟨cs,c % N,st.seed,st.cnt⟩):=by
     show rPut _ _ _ _=_
     unfold rPut
     rw[zdp (T:=Pen) (x:=⟨.int c,false,[]⟩) (s1:={st with cells:=cs}) (by unfold zalg;rw[hc]) (zeh eN) (show modD (.int c) (.int N)=some (.int (c % N),false) by unfold modD intD;dsimp only;rw[if_pos (decide_eq_true hN)])]
     rfl
    have hl':cs.length<n:=by rw[hc]at h;exact Nat.lt_of_succ_lt_succ h
    have hl2:cs.length<=63:=by rw[hc]at hl;exact qB5 hl
    obtain⟨st',w1,w2,w3⟩:=zvz n (⟨cs,c % N,st.seed,st.cnt⟩:Pen) hl' hl2
    refine⟨st',?_,w2,w3⟩
    unfold ziz
    rw[c3,hc]
    show((drB (drE k s) st).bind _)=_
    rw[b1]
    exact w1
  ·refine⟨st,?_,hl,rfl⟩
   have c3:drC (drE k s) st=some (false,st):=by
    show qAnd _ _ _ _=_
    unfold qAnd
    rw[c1,decide_eq_false h1]
    rfl
   unfold ziz
   rw[c3];rfl
theorem zwa{i j:Int}(h:0<j):modD (.int i) (.int j)=some (.int (i % j),false):=by unfold modD intD;dsimp only;rw[if_pos (decide_eq_true h)]
theorem zaen{i j:Int}(h:0<j)(h2:j<1073741824):zqh (.int i) (.int j)=some (.int (i / j),false):=by unfold zqh intD;dsimp only;rw[if_pos (decide_eq_true ⟨h,h2⟩)]
theorem zyq{i j:Int}(h1:-(2 ^ 64)<j)(h2:j<2 ^ 64):mulD (.int i) (.int j)=some (.int (i * j),false):=by unfold mulD;dsimp only;rw[if_pos (.inr ⟨h1,h2⟩)]
theorem zavl{i:Int}(h1:0<=i)(h2:i<2147483647):powB (.int i) (.int 3)=some (.int (i ^ 3),false):=by
 unfold powB intD
 dsimp only
 rw[if_pos ?_]
 ·rfl
 ·rw[qAC]
  refine⟨by decide,decide_eq_true ?_⟩
  have:i.natAbs<2147483647:=by omega
  exact qb this (by decide +kernel)
theorem zazp{n:Nat}{st:Pen}(h:PenB (n+1) st){k:Int}(k1:1<=k)(k2:k<=1000):∃r st',zao [.int k] st=some (.int r,false,st')/\0<=r/\r<k/\PenB n st':=by
 obtain⟨s1,w1,l1,c1⟩:=zvz (k:=k) (s:=.no) 1000 st (by have:=h.few;omega) h.few
 have lo:0<=s1.cnt:=by rw[c1];exact h.lo
 have hi:s1.cnt+(n+1:Nat)<=1000000:=by rw[c1];exact h.hi
 have t1:qB (rOp geD (rGet 1) (zam (eOp powB (eC (.int 10)) (eC (.int 18))))) (drE k .no) s1=some (decide (1000000000000000000<=s1.acc),s1):=by
  unfold qB
  rw[zdp (T:=Pen) (x:=⟨.int s1.acc,false,[]⟩) (s1:=s1) rfl (zeh (zazn _)) rfl]
  rfl
 by_cases hA:1000000000000000000<=s1.acc
 ·rw[decide_eq_true hA]at t1
  refine⟨s1.acc % k,{s1 with acc:=s1.acc / k},?_,qCO _ (by omega),qBw _ (by omega),⟨l1,lo,by show s1.cnt+(n:Int)<=_;omega⟩⟩
  refine zaam (env:=drE k .no) rfl (zbh w1 (zaur (zahf t1 ?_)))
  refine zbh (e1:=drE k (.pl (.int (s1.acc % k)))) (s1:=s1) (zeu (zdp (T:=Pen) (x:=⟨.int s1.acc,false,[]⟩) (y:=⟨.int k,false,[]⟩) (s1:=s1) rfl rfl (zwa (by omega)))) ?_
  refine zbh (e1:=drE k (.pl (.int (s1.acc % k)))) (s1:={s1 with acc:=s1.acc / k}) ?_ rfl
  unfold rPut
  rw[zdp (T:=Pen) (x:=⟨.int s1.acc,false,[]⟩) (y:=⟨.int k,false,[]⟩) (s1:=s1) rfl rfl (zaen (by omega) (by omega))]
  rfl
 ·rw[decide_eq_false hA]at t1
  have m1:0<=(s1.seed * 48271+(s1.cnt+1) * (s1.cnt+1)+11) % 2147483647:=qCO _ (by decide)
  have m2:(s1.seed * 48271+(s1.cnt+1) * (s1.cnt+1)+11) % 2147483647<2147483647:=qBw _ (by decide)
  generalize hsd:(s1.seed * 48271+(s1.cnt+1) * (s1.cnt+1)+11) % 2147483647=sd at m1 m2
  refine⟨sd ^ 3 % 2305843009213693951 / 64 % k,⟨s1.cells,s1.acc,sd,s1.cnt+1⟩,?_,qCO _ (by omega),qBw _ (by omega),⟨l1,by show 0<=s1.cnt+1;omega,by show s1.cnt+1+(n:Int)<=_;omega⟩⟩
  refine zaam (env:=drE k .no) rfl (zbh w1 (zbh (zahg t1 rfl) ?_))
  refine zbh (e1:=drE k .no) (s1:={s1 with cnt:=s1.cnt+1}) rfl ?_
  refine zbh (e1:=drE k .no) (s1:=⟨s1.cells,s1.acc,sd,s1.cnt+1⟩) ?_ ?_
  ·unfold rPut
   rw[zdp (T:=Pen) (x:=⟨.int (s1.seed * 48271+(s1.cnt+1) * (s1.cnt+1)+11),false,[]⟩) (y:=⟨.int 2147483647,false,[]⟩) (s1:={s1 with cnt:=s1.cnt+1})
    (zdp (T:=Pen) (x:=⟨.int (s1.seed * 48271+(s1.cnt+1) * (s1.cnt+1)),false,[]⟩) (y:=⟨.int 11,false,[]⟩) (s1:={s1 with cnt:=s1.cnt+1})
     (zdp (T:=Pen) (x:=⟨.int (s1.seed * 48271),false,[]⟩) (y:=⟨.int ((s1.cnt+1) * (s1.cnt+1)),false,[]⟩) (s1:={s1 with cnt:=s1.cnt+1})
      (zdp (T:=Pen) (x:=⟨.int s1.seed,false,[]⟩) (y:=⟨.int 48271,false,[]⟩) (s1:={s1 with cnt:=s1.cnt+1}) rfl rfl (zyq (by decide) (by decide)))
      (zdp (T:=Pen) (x:=⟨.int (s1.cnt+1),false,[]⟩) (y:=⟨.int (s1.cnt+1),false,[]⟩) (s1:={s1 with cnt:=s1.cnt+1}) rfl rfl (zyq (by omega) (by omega))) rfl) rfl rfl) rfl (zwa (by decide))]
   rw[hsd];rfl
  ·refine zaln (zdp (T:=Pen) (x:=⟨.int (sd ^ 3 % 2305843009213693951 / 64),false,[]⟩) (y:=⟨.int k,false,[]⟩) (s1:=⟨s1.cells,s1.acc,sd,s1.cnt+1⟩) ?_ rfl (zwa (by omega)))
   refine zdp (T:=Pen) (x:=⟨.int (sd ^ 3 % 2305843009213693951),false,[]⟩) (y:=⟨.int 64,false,[]⟩) (s1:=⟨s1.cells,s1.acc,sd,s1.cnt+1⟩) ?_ rfl (zaen (by decide) (by decide))
   refine zdp (T:=Pen) (x:=⟨.int (sd ^ 3),false,[]⟩) (y:=⟨.int 2305843009213693951,false,[]⟩) (s1:=⟨s1.cells,s1.acc,sd,s1.cnt+1⟩) ?_ rfl (zwa (by decide))
   exact zdp (T:=Pen) (x:=⟨.int sd,false,[]⟩) (y:=⟨.int 3,false,[]⟩) (s1:=⟨s1.cells,s1.acc,sd,s1.cnt+1⟩) rfl rfl (zavl m1 m2)
theorem zaeo{i:Nat}{f:EF}{env:DEnv}{ds:List PyData}{d:PyData}{fr:Bool}{bs:List Nat}(he:env[i]?=some (.ac (.list ds)))(hf:f env=some ⟨d,fr,bs⟩)(hl:ds.length<100000)(hi:i∉bs):sApp i f env=some (.nx ((frzs env bs).set i (.ac (.list (ds++[d]))))):=by
 unfold sApp
 rw[he,hf]
 show(if ds.length<100000/\i∉bs then _ else _)=_
 rw[if_pos ⟨hl,hi⟩]
theorem zacb:∀(l:List (List Str)),(∀ks∈l,LowS ks)->qAN (l.map zaq)=true/\qe (l.map zaq)<=1
 | [],_=>⟨rfl,by simp[qe]⟩
 | ks::l,h=>by
  obtain⟨h1,h2⟩:=zacb l λx hx=>h x (qL _ hx)
  obtain⟨g1,g2⟩:=zmy ks (h ks qR)
  constructor
  ·rw[qa]
   simp only[qAN,zaq,PyData.canLay0,qAC]
   exact⟨g1,h1⟩
  ·rw[qa]
   simp only[qe,zaq,PyData.depth]
   rw[g2]
   have:qe (l.map λks=>PyData.tuple (ks.map .str))<=1:=h2
   omega
theorem zaep{l:List (List Str)}(h:∀ks∈l,LowS ks):qt (.list (l.map zaq))=true:=by
 obtain⟨h1,h2⟩:=zacb l h
 unfold qt
 rw[qAC]
 refine⟨by simpa [PyData.canLay0]using h1,decide_eq_true ?_⟩
 simp only[PyData.depth]
 omega
theorem zamu(l:List (List Str))(ks:List Str):((l.map zaq).any λe=>qX e (zaq ks))=decide (ks∈l):=by
 rw[qCJ,qAt,qAn,decide_eq_true_iff]
 have e:∀a b:List Str,qX (zaq a) (zaq b)=(a==b):=λa b=>by
  unfold zaq
  simp only[qX]
  exact zxq a b
 constructor
 ·rintro⟨y,hy,h⟩
  have h:qX (zaq y) (zaq ks)=true:=h
  rw[e,beq_iff_eq]at h
  rw[<- h];exact hy
 ·intro h
  refine⟨ks,h,?_⟩
  show qX (zaq ks) (zaq ks)=true
  rw[e];exact beq_self_eq_true _
theorem zavm{neg:Bool}{l:List (List Str)}{ks:List Str}(h:∀x∈l,LowS x)(hk:LowS ks):inS neg (zaq ks) (.list (l.map zaq))=some (.bool (if neg then !decide (ks∈l)else decide (ks∈l)),false):=by
 unfold inS
 simp only[zfd]
 rw[if_pos ⟨zkc hk,zaep h⟩,zamu]
noncomputable abbrev Rule:=Str×List Str
theorem zts{xs:List Str}(h:∀x∈xs,qAk x=true):qt (zak xs)=true:=by
 obtain⟨h1,h2⟩:=zmy xs h
 unfold qt zak
 rw[qAC]
 refine⟨h1,decide_eq_true ?_⟩
 show qe (xs.map .str)+1<=64
 omega
theorem zyr{α:Type}{l:List α}{i:Int}(h0:0<=i)(h1:i<l.length):∃x,atI l i=some x/\x∈l:=by
 have hn:i.toNat<l.length:=by omega
 refine⟨l[i.toNat],?_,qA9 _⟩
 have:=zwj (xs:=l) (j:=i.toNat) (qH hn)
 rw[show((i.toNat:Nat):Int)=i by omega]at this
 exact this
theorem zoz{n:Nat}{a:EFr Pen}{env:DEnv}{st s1:Pen}{k:Int}{bs:List Nat}(ha:a env st=some (⟨.int k,false,bs⟩,s1))(h:PenB (n+1) s1)(k1:1<=k)(k2:k<=1000) :
  ∃r s2,zbn 2 zao (zbp a rNil) env st=some (vi r,s2)/\0<=r/\r<k/\PenB n s2:=by
 obtain⟨r,s2,e,r0,r1,hb⟩:=zazp h k1 k2
 exact⟨r,s2,zjv (zer ha rfl) rfl e,r0,r1,hb⟩
noncomputable abbrev letE:EFr Pen:=rOp ixD (zam (eVar 2)) (zbn 2 zao (zbp (zam (eC (.int 26))) rNil))
theorem ix_abc{i:Int}(h0:0<=i)(h1:i<26):ixD (.str abc) (.int i)=some (.str (ltr i),false):=by
 unfold ixD
 dsimp only
 rw[if_pos (by rw[zadm];decide),zarq h0 h1]
 simp[ltr]
theorem zamv:∀(l:List Nat)(n:Nat)(st:Pen),PenB (n+l.length) st->∃(cs:List Int)(st':Pen),zju (gN 0) zbi letE [.no,.no,.pl (.str abc)] (l.map λ(k:Nat)=>PyData.int (k:Int)) st=some (cs.map (λc=>.str (ltr c)),st')/\cs.length=l.length/\(∀c∈cs,0<=c/\c<26)/\PenB n st'
 | [],n,st,h=>⟨[],st,rfl,rfl,(λc hc=>nomatch hc),h⟩
 | k::l,n,st,h=>by
  obtain⟨r,s2,e,r0,r1,hb⟩:=zoz (n:=n+l.length) (a:=zam (eC (.int 26))) (env:=[.pl (.int (k:Int)),.no,.pl (.str abc)]) (st:=st) (s1:=st) (bs:=[]) rfl (h.mono (by simp;omega)) (by decide) (by decide)
  obtain⟨cs,st',e2,l2,c2,h2⟩:=zamv l n s2 hb
  refine⟨r::cs,st',?_,by simp[l2],λc hc=>?_,h2⟩
  ·have e1:letE [.pl (.int (k:Int)),.no,.pl (.str abc)] st=some (vs (ltr r),s2):=zdp (T:=Pen) (x:=vs abc) (y:=vi r) (s1:=st) rfl e (ix_abc r0 r1)
   rw[qa]
   unfold zju
   show((letE [.pl (.int (k:Int)),.no,.pl (.str abc)] st).bind _)=_
   rw[e1]
   show((zju (gN 0) zbi letE [.no,.no,.pl (.str abc)] (l.map λ(k:Nat)=>PyData.int (k:Int)) s2).map _)=_
   rw[e2];rfl
  ·rcases qJ.mp hc with rfl|hc
   ·exact⟨r0,r1⟩
   ·exact c2 c hc
theorem zagh:∀(xs:List Str),zaaj.unT (xs.map .str)=some xs
 | []=>rfl
 | x::xs=>by
  show((zaaj.unT (xs.map .str)).map _)=_
  rw[zagh xs];rfl
theorem zaql{cs:List Int}(h:cs.length<=3)(hc:∀c∈cs,0<=c/\c<26):∃w:Str,zaaj (.list (cs.map λc=>.str (ltr c)))=some (.str w)/\Low w/\w.length<=3:=by
 have e:cs.map (λc=>PyData.str (ltr c))=(cs.map ltr).map .str:=by rw[qAY];rfl
 have hlow:∀{i:Int},0<=i->i<26->97+i.toNat<128:=λ{i} h0 h1=>by omega
 have e0:(Str.ofString "").cps=#[]:=rfl
 have key:Low (zmu (cs.map ltr))/\(zmu (cs.map ltr)).length<=3/\(cs.map ltr).foldl (λn z=>n+z.length+0) 0<=3:=by
  match cs,h,hc with
  | [],_,_=>exact⟨λc hc=>(nomatch hc),by decide,by decide⟩
  | [a],_,hc=>
   have ha:=hc a (by simp)
   exact⟨λc hc'=>Low.ltr ha.1 ha.2 c hc',by show(ltr a).length<=3;exact qBJ (qBe 1),by show 0+(ltr a).length+0<=3;exact qBJ (qBe 1)⟩
  | [a,b],_,hc=>
   have ha:=hc a (by simp);have hb:=hc b (by simp)
   refine⟨λc hc'=>?_,?_,?_⟩
   ·have:c∈(ltr a).cps.toList++(ltr b).cps.toList:=by simpa [zmu,Builtin.Str.glued,e0]using hc'
    rcases qj.mp this with z|z
    ·exact Low.ltr ha.1 ha.2 c z
    ·exact Low.ltr hb.1 hb.2 c z
   ·show((ltr a).cps++("":Str).cps++(ltr b).cps).size<=3
    rw[qBF,qBF]
    exact qBe 2
   ·show 0+(ltr a).length+0+(ltr b).length+0<=3
    exact qBe 2
  | [a,b,c],_,hc=>
   have ha:=hc a (by simp);have hb:=hc b (by simp);have hcc:=hc c (by simp)
   refine⟨λd hd'=>?_,?_,?_⟩
   ·have:d∈(ltr a).cps.toList++((ltr b).cps.toList++(ltr c).cps.toList):=by simpa [zmu,Builtin.Str.glued,e0]using hd'
    rcases qj.mp this with z|z
    ·exact Low.ltr ha.1 ha.2 d z
    ·rcases qj.mp z with z|z
     ·exact Low.ltr hb.1 hb.2 d z
     ·exact Low.ltr hcc.1 hcc.2 d z
   ·show((ltr a).cps++("":Str).cps++(ltr b).cps++("":Str).cps++(ltr c).cps).size<=3
    rw[qBF,qBF,qBF,qBF]
    exact qN 3
   ·show 0+(ltr a).length+0+(ltr b).length+0+(ltr c).length+0<=3
    exact qN 3
  | a::b::c::d::r,h,_=>exact absurd h (by simp)
 refine⟨zmu (cs.map ltr),?_,key.1,key.2.1⟩
 rw[e]
 show((zaaj.unT ((cs.map ltr).map .str)).bind _)=_
 rw[zagh]
 show(if _/\_ then _ else _)=_
 rw[if_pos ⟨qAA key.2.2 (by decide),qAA key.2.1 (by decide)⟩]
theorem zavn{A:List Str}(h:∀x∈A,Low x):neD (zak A) (.list [])=some (.bool (!A.isEmpty),false):=by
 unfold neD eqOk
 have s1:=zts (xs:=A) λx hx=>zst (h x hx)
 have s2:qt (.list [])=true:=zts (xs:=[]) λx hx=>by cases hx
 rw[s1,s2,if_pos (by simp)]
 cases A with
 | nil=>rfl
 | cons a A=>rfl
theorem zaeq{A:List Str}(h:A.length<=25):∃i:Nat,i<26/\ltr (i:Int)∉A:=by
 refine qCa λhn=>?_
 have all:∀i:Nat,i<26->ltr (i:Int)∈A:=λi hi=>qCa λz=>hn ⟨i,hi,z⟩
 have nd:((List.range 26).map λ(i:Nat)=>ltr (i:Int)).Nodup:=zsu λa b ha hb e=>by
  have:=congrArg (λx:Str=>x.cps.toList) e
  have:[97+a]=[97+b]:=by simpa [ltr]using this
  have:97+a=97+b:=by simpa using this
  omega
 have:=zjk _ A nd λx hx=>by
  obtain⟨i,hi,rfl⟩:=qu.mp hx
  exact all i (qAR.mp hi)
 rw[qG,qAG]at this
 omega
theorem zamw{A:List Str}(h:A.length<=25){env:DEnv}(h1:env[1]?=some (.pl (zak A)))(h2:env[2]?=some (.pl (.str abc))) :
  ∃x:Str,eOp ixD (zdb ["_law_sign"] [1] (zry (eVar 2)) (gN 0) (zck (eOp (inD true) (eVar 0) (eVar 1))) (eVar 0)) (eC (.int 0)) env=some (vs x)/\Low x/\x.length<=8/\x∉A:=by
 have it:zry (eVar 2) env=some (abc.cps.toList.map λc=>PyData.str ⟨#[c]⟩,[]):=by
  unfold zry eVar
  rw[h2];rfl
 have eb:envB ["_law_sign"] [1] env=[.no,.pl (zak A)]:=by
  unfold envB
  simp[qg,h1]
  rfl
 have cm:zdl (gN 0) (zck (eOp (inD true) (eVar 0) (eVar 1))) (eVar 0) (envB ["_law_sign"] [1] env) (abc.cps.toList.map λc=>PyData.str ⟨#[c]⟩)=some ((abc.cps.toList.filter λc=>!decide ((⟨#[c]⟩:Str)∈A)).map λc=>PyData.str ⟨#[c]⟩):=by
  rw[eb]
  refine zgk (λc=>!decide ((⟨#[c]⟩:Str)∈A)) λc hc=>⟨[.pl (.str ⟨#[c]⟩),.pl (zak A)],rfl,zjy (e_in (neg:=true) rfl rfl),λ_=>⟨_,rfl,rfl⟩⟩
 obtain⟨i,hi,hn⟩:=zaeq h
 have lc:ltr (i:Int)=⟨#[97+i]⟩:=rfl
 have ei:=qAE.mp zamo i (qAR.mpr hi)
 have mem:97+i∈abc.cps.toList.filter λc=>!decide ((⟨#[c]⟩:Str)∈A):=by
  refine qAb.mpr ⟨qAe (eq_of_beq ei),?_⟩
  rw[<- lc,decide_eq_false hn];rfl
 cases hf:abc.cps.toList.filter λc=>!decide ((⟨#[c]⟩:Str)∈A)with
 | nil=>rw[hf]at mem;cases mem
 | cons c cs=>
  rw[hf]at cm
  refine⟨⟨#[c]⟩,zgg (zdy it (by rw[qG];show abc.length<_;rw[zadm];decide) cm) rfl ?_,λd hd=>?_,by show 1<=8;decide,λhin=>?_⟩
  ·show((atI (List.map (λc=>PyData.str ⟨#[c]⟩) (c::cs)) ((0:Nat):Int)).map _)=_
   rw[zarp (λc:Nat=>PyData.str ⟨#[c]⟩) (l:=c::cs) (n:=0) rfl];rfl
  ·have hd:d=c:=by simpa using hd
   have hm:c∈abc.cps.toList:=(qAb.mp (by rw[hf];exact qR ..):_/\_).1
   have al:∀z∈abc.cps.toList,z<128:=by decide +kernel
   rw[hd]
   exact al c hm
  ·have h3:=(qAb.mp (by rw[hf];exact qR ..):c∈abc.cps.toList/\(!decide ((⟨#[c]⟩:Str)∈A))=true).2
   rw[decide_eq_true hin]at h3
   cases h3
noncomputable abbrev naE(A:List Str)(s3 s4 s5 s6:Sl):DEnv:=[.no,.pl (zak A),.pl (.str abc),s3,s4,s5,s6]
theorem zbbf{A:List Str}(env:DEnv)(h:env[1]?=some (.pl (zak A)))(st:Pen):zam (eCB lenD (zaa (eVar 1) aNil)) env st=some (vi (A.length:Int),st):=by
 have:eVar 1 env=some ⟨.list (A.map .str),false,[]⟩:=by unfold eVar;rw[h];rfl
 have:=zaay this
 rw[qG]at this
 exact zeh this
noncomputable abbrev poE:EF:=eOp addD (eOp repD (eLst (zaa (eVar 3) aNil)) (eC (.int 5))) (eLst (zaa (eC (.str "none")) (zaa (eC (.str "rule")) (zaa (eC (.str "quarrel")) (zaa (eC (.str "kind")) (zaa (eC (.str "own")) aNil))))))
noncomputable abbrev zpa(w:Str):List Str:=[w,w,w,w,w,"none","rule","quarrel","kind","own"]
theorem zaqm:∀x∈(["none","rule","quarrel","kind","own"]:List Str),x.cps.toList.all (λc=>decide (c<128))=true/\x.length<=8:=by decide +kernel
theorem zaqn{w:Str}(h:Low w){m:Nat}(hl:w.length<=m)(hm:8<=m):∀x∈zpa w,Low x/\x.length<=m:=λx hx=>by
 have five:∀x∈(["none","rule","quarrel","kind","own"]:List Str),Low x/\x.length<=m:=λx hx=>by
  obtain⟨h1,h2⟩:=zaqm x hx
  exact⟨λc hc=>of_decide_eq_true (qAE.mp h1 c hc),qAA h2 hm⟩
 rcases qj.mp (show x∈[w,w,w,w,w]++(["none","rule","quarrel","kind","own"]:List Str)from hx)with hx|hx
 ·have:x=w:=by simpa using hx
  exact⟨this▸h,this▸hl⟩
 ·exact five x hx
noncomputable abbrev naB:SFr Pen:=rIf (zsc (zwr (zck (eOp neD (eVar 1) (eLst aNil))) (zck (eOp ltD (eVar 4) (eC (.int 2)))))) (rSeq (rSet 5 (rOp ixD (zam (eVar 1)) (zbn 2 zao (zbp (zam (eCB lenD (zaa (eVar 1) aNil))) rNil))))
  (rSet 3 (zam (eSl (eOp ixD (eLst (zaa (eOp addD (eVar 5) (eVar 3)) (zaa (eOp addD (eVar 3) (eVar 5)) aNil))) (eVar 4)) zagv (zqi (eC (.int 8))))))) rNx
noncomputable abbrev naF(A:List Str)(w:Str)(r3:Int):DEnv:=naE A (.pl (.str w)) (.pl (.int r3)) .no .no
theorem zaru{n:Nat}{st:Pen}(h:PenB (n+7) st){A:List Str}{L:Nat}(hl:A.length<=25)(hA:∀x∈A,Low x/\x.length<=L)(hL:L<=1000) :
  ∃x st',zei [zak A] st=some (.str x,false,st')/\Low x/\x.length<=L+8/\PenB n st'/\x∉A:=by
 obtain⟨r1,s1,e1,a1,b1,p1⟩:=zoz (n:=n+6) (a:=zam (eC (.int 3))) (env:=naE A .no .no .no .no) (st:=st) (s1:=st) (bs:=[]) rfl h (by decide) (by decide)
 obtain⟨cs,s2,e2,l2,c2,p2⟩:=zamv (List.range (1+r1).toNat) (n+3) s1 (p1.mono (by rw[qAG];omega))
 obtain⟨w,ew,lw,nw⟩:=zaql (cs:=cs) (by rw[l2,qAG];omega) c2
 have x1:zfx (zbp (rOp addD (zam (eC (.int 1))) (zbn 2 zao (zbp (zam (eC (.int 3))) rNil))) rNil) (naE A .no .no .no .no) st=some ((List.range (1+r1).toNat).map (λ(k:Nat)=>PyData.int (k:Int)),[],s1):=by
  unfold zfx
  rw[zer (T:=Pen) (x:=vi (1+r1)) (xs:=[]) (s2:=s1) (zdp (T:=Pen) (x:=vi 1) (y:=vi r1) (s1:=st) rfl e1 rfl) rfl]
  show(if _/\_ then _ else _)=_
  rw[if_pos ⟨by omega,by omega⟩,zmx]
 have x2:zaak (zale ["_law_k"] [0,2] (zfx (zbp (rOp addD (zam (eC (.int 1))) (zbn 2 zao (zbp (zam (eC (.int 3))) rNil))) rNil)) (gN 0) zbi letE) (naE A .no .no .no .no) st=some (vs w,s2):=by
  unfold zaak zale
  rw[x1]
  show(((if _<100000 then _ else _):Option (Val×Pen)).bind _)=_
  rw[if_pos (by rw[qG,qAG];omega)]
  show(((zju (gN 0) zbi letE [.no,.no,.pl (.str abc)] ((List.range (1+r1).toNat).map (λ(k:Nat)=>PyData.int (k:Int))) s1).map _).bind _)=_
  rw[e2]
  show((zaaj (.list (cs.map λc=>.str (ltr c)))).map _)=_
  rw[ew];rfl
 obtain⟨r3,s3,e3,a3,b3,p3⟩:=zoz (n:=n+2) (a:=zam (eC (.int 4))) (env:=naE A (.pl (.str w)) .no .no .no) (st:=s2) (s1:=s2) (bs:=[]) rfl p2 (by decide) (by decide)
 have step4:∃(w2:Str)(s4:Pen)(sb:Sl),naB (naF A w r3) s3=some (.nx (naE A (.pl (.str w2)) (.pl (.int r3)) sb .no) s4)/\Low w2/\w2.length<=L+8/\PenB (n+1) s4:=by
  have t1:zck (eOp neD (eVar 1) (eLst aNil)) (naF A w r3)=some (!A.isEmpty):=zjy (zgg (x:=⟨zak A,false,[]⟩) (y:=⟨.list [],true,[]⟩) rfl rfl (zavn λx hx=>(hA x hx).1))
  have t2:zck (eOp ltD (eVar 4) (eC (.int 2))) (naF A w r3)=some (decide (r3<2)):=rfl
  have no:∀b,zwr (zck (eOp neD (eVar 1) (eLst aNil))) (zck (eOp ltD (eVar 4) (eC (.int 2)))) (naF A w r3)=some b->b=false->∃(w2:Str)(s4:Pen)(sb:Sl),naB (naF A w r3) s3=some (.nx (naE A (.pl (.str w2)) (.pl (.int r3)) sb .no) s4)/\Low w2/\w2.length<=L+8/\PenB (n+1) s4:=λb eb hb=>by
   subst hb
   exact⟨w,s3,.no,zahg (ziq eb) rfl,lw,by omega,p3.mono (by omega)⟩
  cases hE:A.isEmpty with
  | true=>exact no false (by unfold zwr;rw[t1,hE];rfl) rfl
  | false=>
   by_cases hr:r3<2
   ·have tt:zwr (zck (eOp neD (eVar 1) (eLst aNil))) (zck (eOp ltD (eVar 4) (eC (.int 2)))) (naF A w r3)=some true:=by
     unfold zwr;rw[t1,hE,t2,decide_eq_true hr];rfl
    have hpos:0<A.length:=by
     cases A with
     | nil=>cases hE
     | cons a A=>simp
    obtain⟨r4,s4,e4,a4,b4,p4⟩:=zoz (n:=n+1) (a:=zam (eCB lenD (zaa (eVar 1) aNil))) (env:=naF A w r3) (st:=s3) (bs:=[]) (zbbf _ rfl s3) p3 (by omega) (by omega)
    obtain⟨d,ed,md⟩:=zyr (l:=A.map PyData.str) a4 (by rw[qG];exact b4)
    obtain⟨b,hb,rfl⟩:=qu.mp md
    have ix:ixD (zak A) (.int r4)=some (.str b,false):=by
     show((atI (A.map PyData.str) r4).map _)=_
     rw[ed];rfl
    have q1:rSet 5 (rOp ixD (zam (eVar 1)) (zbn 2 zao (zbp (zam (eCB lenD (zaa (eVar 1) aNil))) rNil))) (naF A w r3) s3=some (.nx (naE A (.pl (.str w)) (.pl (.int r3)) (.pl (.str b)) .no) s4):=zeu (zdp (T:=Pen) (x:=⟨zak A,false,[]⟩) (s1:=s3) rfl e4 ix)
    have lb:=hA b hb
    have ad:∀{x y:Str},x.length<=1000->y.length<=1000->addD (.str x) (.str y)=some (.str (x++y),false):=λ{x y} h1 h2=>by
     unfold addD
     dsimp only
     rw[if_pos (by omega)]
    have f1:eOp addD (eVar 5) (eVar 3) (naE A (.pl (.str w)) (.pl (.int r3)) (.pl (.str b)) .no)=some (vs (b++w)):=zgg (x:=vs b) (y:=vs w) rfl rfl (ad (by omega) (by omega))
    have f2:eOp addD (eVar 3) (eVar 5) (naE A (.pl (.str w)) (.pl (.int r3)) (.pl (.str b)) .no)=some (vs (w++b)):=zgg (x:=vs w) (y:=vs b) rfl rfl (ad (by omega) (by omega))
    have f3:eLst (zaa (eOp addD (eVar 5) (eVar 3)) (zaa (eOp addD (eVar 3) (eVar 5)) aNil)) (naE A (.pl (.str w)) (.pl (.int r3)) (.pl (.str b)) .no)=some ⟨.list [.str (b++w),.str (w++b)],true,[]⟩:=by
     unfold eLst
     rw[zcs f1 (zhp f2)];rfl
    have f4:∃y:Str,eOp ixD (eLst (zaa (eOp addD (eVar 5) (eVar 3)) (zaa (eOp addD (eVar 3) (eVar 5)) aNil))) (eVar 4) (naE A (.pl (.str w)) (.pl (.int r3)) (.pl (.str b)) .no)=some (vs y)/\Low y/\y.length<=L+3:=by
     rcases(show r3=0\/r3=1 by omega)with rfl|rfl
     ·exact⟨b++w,zgg f3 (y:=vi 0) rfl rfl,lb.1.app lw,by rw[zamp];omega⟩
     ·exact⟨w++b,zgg f3 (y:=vi 1) rfl rfl,lw.app lb.1,by rw[zamp];omega⟩
    obtain⟨y,ey,ly,ny⟩:=f4
    refine⟨Txt.slice y none (some 8),s4,.pl (.str b),zahf (ziq tt) (zbh q1 (zeu (zeh (zbbc ey rfl rfl (by omega))))),ly.slice _ _,qAA (Txt.slice_le y none (some 8)) (by omega),p4⟩
   ·exact no false (by unfold zwr;rw[t1,hE,t2,decide_eq_false hr];rfl) rfl
 obtain⟨w2,s4,sb,e4,lw2,nw2,p4⟩:=step4
 have e5:poE (naE A (.pl (.str w2)) (.pl (.int r3)) sb .no)=some ⟨zak (zpa w2),true,[]⟩:=rfl
 obtain⟨r6,s6,e6,a6,b6,p6⟩:=zoz (n:=n) (a:=zam (eC (.int 10))) (env:=naE A (.pl (.str w2)) (.pl (.int r3)) sb (.ac (zak (zpa w2)))) (st:=s4) (s1:=s4) (bs:=[]) rfl p4 (by decide) (by decide)
 obtain⟨d,ed,md⟩:=zyr (l:=(zpa w2).map PyData.str) a6 (by rw[qG];exact b6)
 obtain⟨w3,hw3,rfl⟩:=qu.mp md
 obtain⟨lw3,nw3⟩:=zaqn lw2 nw2 (by omega) w3 hw3
 have ix:ixD (zak (zpa w2)) (.int r6)=some (.str w3,false):=by
  show((atI ((zpa w2).map PyData.str) r6).map _)=_
  rw[ed];rfl
 have last:∃x:Str,rIf (zsc (zck (eOp (inD false) (eVar 3) (eVar 1)))) (rSet 3 (zam (eOp ixD (zdb ["_law_sign"] [1] (zry (eVar 2)) (gN 0) (zck (eOp (inD true) (eVar 0) (eVar 1))) (eVar 0)) (eC (.int 0))))) rNx (naE A (.pl (.str w3)) (.pl (.int r3)) sb (.ac (zak (zpa w2)))) s6=some (.nx (naE A (.pl (.str x)) (.pl (.int r3)) sb (.ac (zak (zpa w2)))) s6)/\Low x/\x.length<=L+8/\x∉A:=by
  have t:zck (eOp (inD false) (eVar 3) (eVar 1)) (naE A (.pl (.str w3)) (.pl (.int r3)) sb (.ac (zak (zpa w2))))=some (decide (w3∈A)):=zjy (e_in (neg:=false) rfl rfl)
  by_cases hm:w3∈A
  ·rw[decide_eq_true hm]at t
   obtain⟨x,ex,lx,nx,mx⟩:=zamw hl (env:=naE A (.pl (.str w3)) (.pl (.int r3)) sb (.ac (zak (zpa w2)))) rfl rfl
   exact⟨x,zahf (ziq t) (zeu (zeh ex)),lx,by omega,mx⟩
  ·rw[decide_eq_false hm]at t
   exact⟨w3,zahg (ziq t) rfl,lw3,nw3,hm⟩
 obtain⟨x,ex,lx,nx,mx⟩:=last
 refine⟨x,s6,zaam (env:=[.no,.pl (zak A),.no,.no,.no,.no,.no]) rfl ?_,lx,nx,p6,mx⟩
 refine zbh (e1:=naE A .no .no .no .no) (s1:=st) rfl ?_
 refine zbh (zeu x2) ?_
 refine zbh (e1:=naE A (.pl (.str w)) (.pl (.int r3)) .no .no) (zeu e3) ?_
 refine zbh e4 ?_
 refine zbh (e1:=naE A (.pl (.str w2)) (.pl (.int r3)) sb (.ac (zak (zpa w2)))) (zeu (zeh e5)) ?_
 refine zbh (e1:=naE A (.pl (.str w3)) (.pl (.int r3)) sb (.ac (zak (zpa w2)))) (zeu (zdp (T:=Pen) (x:=⟨zak (zpa w2),false,[6]⟩) (s1:=s4) rfl e6 ix)) ?_
 exact zbh ex rfl
theorem zavo{a:EF}{env:DEnv}{i:Int}{bs:List Nat}(ha:a env=some ⟨.int i,false,bs⟩)(h1:-4611686018427387904<=i)(h2:i<4611686018427387904):zfu (zaa a aNil) env=some ((List.range i.toNat).map (λ(k:Nat)=>PyData.int (k:Int)),[]):=by
 unfold zfu
 rw[zhp ha]
 simp only[qQ]
 rw[if_pos ⟨h1,h2⟩,zmx]
structure WbOk(W:Web)(m:Nat):Prop where
 low:∀p∈W,Low p.1/\p.1.length<=m
 few:∀p∈W,p.2.length<=100
theorem ztt{i:Nat}{g:EFr Pen}{env:DEnv}{st s1:Pen}{ds:List PyData}{d:PyData}{fr:Bool}{bs:List Nat}(he:env[i]?=some (.ac (.list ds)))(hg:g env st=some (⟨d,fr,bs⟩,s1))(hl:ds.length<100000)(hb:i∉bs):rApp i g env st=some (.nx ((frzs env bs).set i (.ac (.list (ds++[d])))) s1):=by
 unfold rApp
 rw[he]
 show((g env st).bind _)=_
 rw[hg]
 show(if _/\_ then _ else _)=_
 rw[if_pos ⟨hl,hb⟩]
noncomputable abbrev wbE(s:Int)(W:Web)(s4 s5 s6 s7:Sl):DEnv:=[.no,.pl (.int s),.ac (webD W),.ac (zak (nm W)),s4,s5,s6,s7]
noncomputable abbrev wbI:SFr Pen:=(rSeq (rSet 7 (rOp ixD (zam (eVar 3)) (zbn 2 zao (zbp (zam (eVar 4)) rNil))))
  (rIf (zsc (zck (eOp (inD true) (eVar 7) (eVar 5)))) (rApp 5 (zam (eVar 7))) rNx))
noncomputable abbrev wbT:IFr Pen:=zfx (zbp (rCB minD (zbp (zam (eVar 4)) (zbp (zbn 2 zao (zbp (zam (eC (.int 5))) rNil)) rNil))) rNil)
noncomputable abbrev wbF(s:Int)(W:Web)(s5 s6 s7:Sl):DEnv:=wbE s W (.pl (.int (W.length:Int))) s5 s6 s7
theorem zamx{n:Nat}{st:Pen}{s:Int}{W:Web}{s6 s7:Sl}(hW:W.length<=100)(h:PenB (n+5) st) :
  ∃(es:List Str)(t6 t7:Sl)(st':Pen),rFor wbT (gN 6) wbI (wbF s W (.ac (zak [])) s6 s7) st=some (.nx (wbF s W (.ac (zak es)) t6 t7) st')/\es.length<=4/\PenB n st'/\∀e∈es,e∈nm W:=by
 obtain⟨r,s1,e1,a1,b1,p1⟩:=zoz (n:=n+4) (a:=zam (eC (.int 5))) (env:=wbF s W (.ac (zak [])) s6 s7) (st:=st) (s1:=st) (bs:=[]) rfl h (by decide) (by decide)
 generalize hj:(if r<(W.length:Int)then r else(W.length:Int))=j
 have j0:0<=j/\j<=4/\j<=(W.length:Int):=by
  rw[<- hj];split<;>omega
 have it:wbT (wbF s W (.ac (zak [])) s6 s7) st=some ((List.range j.toNat).map (λ(k:Nat)=>PyData.int (k:Int)),[],s1):=by
  show zfx _ _ _=_
  unfold zfx
  have ea:rCB minD (zbp (zam (eVar 4)) (zbp (zbn 2 zao (zbp (zam (eC (.int 5))) rNil)) rNil)) (wbF s W (.ac (zak [])) s6 s7) st=some (vi j,s1):=by
   unfold rCB
   rw[zer (T:=Pen) (x:=vi (W.length:Int)) (xs:=[vi r]) (s1:=st) (s2:=s1) rfl (zer e1 rfl),<- hj]
   rfl
  rw[zer (T:=Pen) (x:=vi j) (xs:=[]) (s2:=s1) ea rfl]
  show(if _/\_ then _ else _)=_
  rw[if_pos ⟨by omega,by omega⟩,zmx]
 obtain⟨e',s',lp,es,t6,t7,rfl,hes,hp,hin⟩:=zjw (T:=Pen) (enc:=λ(k:Nat)=>PyData.int (k:Int)) (g:=gN 6) (body:=wbI) (l:=List.range j.toNat) (env:=wbF s W (.ac (zak [])) s6 s7) (st:=s1)
  (λpre env st=>∃(es:List Str) (t6 t7:Sl),env=wbF s W (.ac (zak es)) t6 t7/\es.length<=pre.length/\PenB (n+(4 - pre.length)) st/\∀e∈es,e∈nm W)
  ⟨[],s6,s7,rfl,qN _,p1,λe he=>(nomatch he)⟩ (by
   rintro pre x post env st hpre ⟨es,t6,t7,rfl,hes,hp,hin⟩
   have hlen:pre.length+1<=j.toNat:=by
    have:=congrArg List.length hpre
    rw[qK,qy,qAG]at this
    omega
   obtain⟨r2,s2,e2,a2,b2,p2⟩:=zoz (n:=n+(4 - (pre.length+1))) (a:=zam (eVar 4)) (env:=wbF s W (.ac (zak es)) (.pl (.int (x:Int))) t7) (st:=st) (s1:=st) (bs:=[]) rfl (hp.mono (by omega)) (by omega) (by omega)
   obtain⟨d,ed,md⟩:=zyr (l:=(nm W).map PyData.str) a2 (by rw[qG];show r2<((W.map _).length:Int);rw[qG];exact b2)
   obtain⟨w,hw,rfl⟩:=qu.mp md
   have ix:ixD (zak (nm W)) (.int r2)=some (.str w,false):=by
    show((atI ((nm W).map PyData.str) r2).map _)=_
    rw[ed];rfl
   have q1:rSet 7 (rOp ixD (zam (eVar 3)) (zbn 2 zao (zbp (zam (eVar 4)) rNil))) (wbF s W (.ac (zak es)) (.pl (.int (x:Int))) t7) st=some (.nx (wbF s W (.ac (zak es)) (.pl (.int (x:Int))) (.pl (.str w))) s2):=
    zeu (zdp (T:=Pen) (x:=⟨zak (nm W),false,[3]⟩) (s1:=st) rfl e2 ix)
   have t:zck (eOp (inD true) (eVar 7) (eVar 5)) (wbF s W (.ac (zak es)) (.pl (.int (x:Int))) (.pl (.str w)))=some (!decide (w∈es)):=zjy (e_in (neg:=true) rfl rfl)
   by_cases hm:w∈es
   ·rw[decide_eq_true hm]at t
    exact⟨_,_,_,rfl,zbh q1 (zahg (ziq t) rfl),es,_,_,rfl,by rw[qK];omega,by rw[qK];exact p2,hin⟩
   ·rw[decide_eq_false hm]at t
    refine⟨_,_,_,rfl,zbh q1 (zahf (ziq t) (ztt (ds:=es.map .str) (d:=.str w) (fr:=false) (bs:=[]) rfl rfl (by rw[qG];omega) (by simp))),es++[w],.pl (.int (x:Int)),.pl (.str w),?_,by rw[qK,qK];simp;exact hes,by rw[qK];exact p2,λe he=>(qj.mp he).elim (hin e) λz=>by rw[ql.mp z];exact hw⟩
    rw[show zak (es++[w])=.list (es.map .str++[.str w]) by unfold zak;rw[qAF];rfl]
    rfl)
 refine⟨es,t6,t7,s',zsj it lp,?_,hp.mono (by omega),hin⟩
 rw[qAG]at hes
 omega
noncomputable abbrev wbO:SFr Pen:=(rSeq (rSet 5 (zam (eLst aNil)))
  (rSeq (rFor wbT (gN 6) wbI)
  (rSeq (rApp 3 (zbn 2 zei (zbp (zam (eVar 3)) rNil)))
  (rApp 2 (zam (eTup (zaa (eIxV 3 (eVar 4)) (zaa (eVar 5) aNil))))))))
theorem zaig{W:Web}{w:Str}{es:List Str}(h:WebOk W)(hw:w∉nm W)(he:∀e∈es,e∈nm W)(hl:es.length<=4)(hn:W.length<12):WebOk (W++[(w,es)]):=by
 refine⟨?_,λi n fs e x hx=>?_,λp hp=>?_,by rw[qK];simp;omega⟩
 ·rw[zsr,qBa]
  refine⟨h.nd,by simp,λa ha b hb=>?_⟩
  intro z
  rw[z,ql.mp hb]at ha
  exact hw ha
 ·by_cases hi:i<W.length
  ·rw[qk hi]at e
   rw[qBh (qBu hi)]
   exact h.el i n fs e x hx
  ·rw[qp (by omega)]at e
   have hi2:i - W.length=0:=by
    have:=qM.mp e
    obtain⟨q,_⟩:=this
    simp at q
    omega
   rw[hi2]at e
   cases e
   have:i=W.length:=by omega
   rw[this,List.take_left]
   exact he x hx
 ·rcases qj.mp hp with hp|hp
  ·exact h.few p hp
  ·rw[ql.mp hp];exact hl
theorem zbbg{n:Nat}{st:Pen}{s:Nat}(hs:s<=12)(h:PenB (n+12 * s) st):∃(W:Web)(st':Pen),zej [.int (s:Int)] st=some (webD W,true,st')/\W.length=s/\WbOk W (8 * s)/\PenB n st'/\WebOk W:=by
 obtain⟨e',s',lp,W,s4,s5,s6,s7,rfl,hl,ok,hp,wok⟩:=zjw (T:=Pen) (enc:=λ(k:Nat)=>PyData.int (k:Int)) (g:=gN 4) (body:=wbO) (l:=List.range s) (env:=wbE (s:Int) [] .no .no .no .no) (st:=st)
  (λpre env st=>∃(W:Web) (s4 s5 s6 s7:Sl),env=wbE (s:Int) W s4 s5 s6 s7/\W.length=pre.length/\WbOk W (8 * pre.length)/\PenB (n+12 * (s - pre.length)) st/\WebOk W)
  ⟨[],.no,.no,.no,.no,rfl,rfl,⟨λp hp=>(nomatch hp),λp hp=>(nomatch hp)⟩,h,⟨by simp[nm],λi n es e=>(nomatch e),λp hp=>(nomatch hp),by simp⟩⟩ (by
   rintro pre x post env st hpre ⟨W,s4,s5,s6,s7,rfl,hl,ok,hp,wok⟩
   have hlen:pre.length+1<=s:=by
    have:=congrArg List.length hpre
    rw[qK,qy,qAG]at this
    omega
   have hx:x=W.length:=by
    have h1:(List.range s)[pre.length]?=some x:=by rw[<- hpre,qp (qN _),qCN];rfl
    rw[qDM (by omega)]at h1
    cases h1
    exact hl.symm
   subst hx
   obtain⟨es,t6,t7,s1,e1,l1,p1,hin⟩:=zamx (n:=n+12 * (s - (pre.length+1))+7) (st:=st) (s:=(s:Int)) (W:=W) (s6:=s6) (s7:=s7) (by omega) (hp.mono (by omega))
   have nml:(nm W).length=W.length:=qG ..
   obtain⟨w,s2,e2,lw,nw,p2,mw⟩:=zaru (A:=nm W) (L:=8 * pre.length) p1 (by rw[nml];omega) (λy hy=>by
    obtain⟨p,hp1,rfl⟩:=qu.mp hy
    exact ok.low p hp1) (by omega)
   refine⟨_,wbE (s:Int) (W++[(w,es)]) (.pl (.int (W.length:Int))) (.pl (zak es)) t6 t7,s2,rfl,zbh rfl (zbh e1 (zbh (ztt (ds:=(nm W).map .str) (d:=.str w) (fr:=false) (bs:=[]) rfl (zjv (zer (x:=⟨zak (nm W),false,[3]⟩) rfl rfl) rfl e2) (by rw[qG,nml];omega) (by simp)) ?_)),W++[(w,es)],_,_,_,_,rfl,by rw[qK,qK,hl];rfl,?_,by rw[qK];exact p2,zaig wok mw hin l1 (by omega)⟩
   ·have ix:eIxV 3 (eVar 4) ([.no,.pl (.int (s:Int)),.ac (webD W),.ac (.list ((nm W).map PyData.str++[.str w])),.pl (.int (W.length:Int)),.ac (zak es),t6,t7]:DEnv)=some ⟨.str w,false,[]⟩:=by
     refine zbbd (k:=3) (n:=W.length) (ds:=(nm W).map PyData.str++[.str w]) rfl rfl ?_
     rw[qp (by rw[qG,nml];exact qN _),qG,nml,qCN];rfl
    have tp:eTup (zaa (eIxV 3 (eVar 4)) (zaa (eVar 5) aNil)) ([.no,.pl (.int (s:Int)),.ac (webD W),.ac (.list ((nm W).map PyData.str++[.str w])),.pl (.int (W.length:Int)),.ac (zak es),t6,t7]:DEnv)=some ⟨.tuple [.str w,zak es],false,[5]⟩:=by
     unfold eTup
     rw[zcs ix (zhp (r:=⟨zak es,false,[5]⟩) rfl)];rfl
    have:=ztt (i:=2) (ds:=W.map rowD) (st:=s2) (d:=.tuple [.str w,zak es]) (fr:=false) (bs:=[5]) (env:=([.no,.pl (.int (s:Int)),.ac (webD W),.ac (.list ((nm W).map PyData.str++[.str w])),.pl (.int (W.length:Int)),.ac (zak es),t6,t7]:DEnv)) rfl (zeh tp) (by rw[qG];omega) (by decide)
    refine this.trans ?_
    show _=some (OutR.nx [.no,.pl (.int (s:Int)),.ac (webD (W++[(w,es)])),.ac (zak (nm (W++[(w,es)]))),.pl (.int (W.length:Int)),.pl (zak es),t6,t7] s2)
    rw[show webD (W++[(w,es)])=.list (W.map rowD++[rowD (w,es)]) by unfold webD;rw[qAF];rfl,show zak (nm (W++[(w,es)]))=.list ((nm W).map .str++[.str w]) by unfold zak nm;rw[qAF,qAF];rfl]
    rfl
   ·refine⟨λp hp1=>?_,λp hp1=>?_⟩
    ·rcases qj.mp hp1 with hp1|hp1
     ·have:=ok.low p hp1
      exact⟨this.1,by rw[qK];have:=this.2;simp;omega⟩
     ·cases ql.mp hp1
      exact⟨lw,by rw[qK];simp;omega⟩
    ·rcases qj.mp hp1 with hp1|hp1
     ·exact ok.few p hp1
     ·cases ql.mp hp1
      show es.length<=100
      omega)
 rw[qAG]at hl ok hp
 refine⟨W,s',zaam (env:=[.no,.pl (.int (s:Int)),.no,.no,.no,.no,.no,.no]) rfl ?_,hl,ok,hp.mono (by omega),wok⟩
 refine zbh (e1:=[.no,.pl (.int (s:Int)),.ac (.list []),.no,.no,.no,.no,.no]) (s1:=st) rfl ?_
 refine zbh (e1:=wbE (s:Int) [] .no .no .no .no) (s1:=st) rfl ?_
 refine zbh (zsj (ds:=(List.range s).map (λ(k:Nat)=>PyData.int (k:Int))) (bs:=[]) (s1:=st) ?_ lp) rfl
 unfold rIP
 rw[zavo (i:=(s:Int)) rfl (by omega) (by omega)]
 show some _=some _
 rw[qBf]
noncomputable def szB(p s:Nat):Prop:=1<=s/\1<=p/\((p<=2/\s<=10)\/(p=3/\s<=6))
theorem szB.pow{p s:Nat}(h:szB p s):s ^ p<=216:=by
 obtain⟨h1,h2,h3⟩:=h
 have a:∀s,s<11->s ^ 1<=216/\s ^ 2<=216:=by decide
 have b:∀s,s<7->s ^ 3<=216:=by decide
 rcases h3 with⟨h3,h4⟩|⟨rfl,h4⟩
 ·rcases(show p=1\/p=2 by omega)with rfl|rfl
  ·exact(a s (by omega)).1
  ·exact(a s (by omega)).2
 ·exact b s (by omega)
noncomputable abbrev bkE(s1 s2 s3 s4 s5 s6 s7 s8:Sl):DEnv:=[.no,s1,s2,s3,s4,s5,s6,s7,s8]
theorem zacc{r:Int}(h:0<=r):∃k:Nat,r=(k:Int):=⟨r.toNat,by omega⟩
noncomputable abbrev bkI:SFr Pen:=(rSeq (rSet 8 (zbn 2 zao (zbp (zam (eVar 2)) rNil)))
  (rApp 6 (rOp ixD (rOp ixD (zam (eVar 3)) (rOp zqh (zam (eVar 8)) (rOp addD (zam (eC (.int 1))) (zbn 2 zao (zbp (zam (eC (.int 2))) rNil))))) (zam (eC (.int 0))))))
noncomputable abbrev bkW(p:Nat)(W:Web)(s4 s5 s6 s7 s8:Sl):DEnv:=bkE (.pl (.int (p:Int))) (.pl (.int (W.length:Int))) (.ac (webD W)) s4 s5 s6 s7 s8
theorem zaih{n:Nat}{st:Pen}{p:Nat}{W:Web}{m:Nat}(hp:p<=3)(hW:1<=W.length)(hW2:W.length<=100)(ok:WbOk W m)(h:PenB (n+6) st){s4 s5 s7 s8:Sl} :
  ∃(ks:List Str)(t7 t8:Sl)(st':Pen),rFor (rIP (zfu (zaa (eVar 1) aNil))) (gN 7) bkI (bkW p W s4 s5 (.ac (zak [])) s7 s8) st=some (.nx (bkW p W s4 s5 (.ac (zak ks)) t7 t8) st')/\ks.length=p/\LowS ks/\PenB n st'/\∀k∈ks,k∈nm W:=by
 obtain⟨e',s',lp,ks,t7,t8,rfl,hk,lo,hb,hin⟩:=zjw (T:=Pen) (enc:=λ(k:Nat)=>PyData.int (k:Int)) (g:=gN 7) (body:=bkI) (l:=List.range p) (env:=bkW p W s4 s5 (.ac (zak [])) s7 s8) (st:=st)
  (λpre env st=>∃(ks:List Str) (t7 t8:Sl),env=bkW p W s4 s5 (.ac (zak ks)) t7 t8/\ks.length=pre.length/\LowS ks/\PenB (n+2 * (3 - pre.length)) st/\∀k∈ks,k∈nm W)
  ⟨[],s7,s8,rfl,rfl,λk hk=>(nomatch hk),h,λk hk=>(nomatch hk)⟩ (by
   rintro pre x post env st hpre ⟨ks,t7,t8,rfl,hk,lo,hb,hin⟩
   have hlen:pre.length+1<=p:=by
    have:=congrArg List.length hpre
    rw[qK,qy,qAG]at this
    omega
   obtain⟨r1,s1,e1,a1,b1,p1⟩:=zoz (n:=n+2 * (3 - (pre.length+1))+1) (a:=zam (eVar 2)) (env:=bkW p W s4 s5 (.ac (zak ks)) (.pl (.int (x:Int))) t8) (st:=st) (s1:=st) (bs:=[]) rfl (hb.mono (by omega)) (by omega) (by omega)
   obtain⟨r2,s2,e2,a2,b2,p2⟩:=zoz (n:=n+2 * (3 - (pre.length+1))) (a:=zam (eC (.int 2))) (env:=bkW p W s4 s5 (.ac (zak ks)) (.pl (.int (x:Int))) (.pl (.int r1))) (st:=s1) (s1:=s1) (bs:=[]) rfl p1 (by decide) (by decide)
   have q0:0<=r1 / (1+r2):=Int.ediv_nonneg a1 (by omega)
   have q1:r1 / (1+r2)<=r1:=Int.ediv_le_self _ a1
   obtain⟨d,ed,md⟩:=zyr (l:=W.map rowD) q0 (by rw[qG];omega)
   obtain⟨row,hrow,rfl⟩:=qu.mp md
   have i1:ixD (webD W) (.int (r1 / (1+r2)))=some (rowD row,false):=by
    show((atI (W.map rowD) (r1 / (1+r2))).map _)=_
    rw[ed];rfl
   have ev:rOp ixD (rOp ixD (zam (eVar 3)) (rOp zqh (zam (eVar 8)) (rOp addD (zam (eC (.int 1))) (zbn 2 zao (zbp (zam (eC (.int 2))) rNil))))) (zam (eC (.int 0))) (bkW p W s4 s5 (.ac (zak ks)) (.pl (.int (x:Int))) (.pl (.int r1))) s1=some (vs row.1,s2):=
    zdp (T:=Pen) (y:=vi 0) (s1:=s2) (zdp (T:=Pen) (x:=⟨webD W,false,[3]⟩) (s1:=s1) rfl (zdp (T:=Pen) (x:=vi r1) (s1:=s1) rfl (zdp (T:=Pen) (x:=vi 1) (y:=vi r2) (s1:=s1) rfl e2 rfl) (zaen (by omega) (by omega))) i1) rfl rfl
   refine⟨_,_,s2,rfl,zbh (zeu e1) (ztt (i:=6) (ds:=ks.map .str) (d:=.str row.1) (fr:=false) (bs:=[]) rfl ev (by rw[qG];omega) (by simp)),ks++[row.1],.pl (.int (x:Int)),.pl (.int r1),?_,by rw[qK,qK,hk];rfl,λk hk'=>?_,by rw[qK];exact p2,λk hk'=>(qj.mp hk').elim (hin k) λz=>by rw[ql.mp z];exact qu.mpr ⟨row,hrow,rfl⟩⟩
   ·rw[show zak (ks++[row.1])=.list (ks.map .str++[.str row.1]) by unfold zak;rw[qAF];rfl]
    rfl
   ·rcases qj.mp hk' with hk'|hk'
    ·exact lo k hk'
    ·rw[ql.mp hk']
     exact zst (ok.low row hrow).1)
 rw[qAG]at hk hb
 refine⟨ks,t7,t8,s',zsj (ds:=(List.range p).map (λ(k:Nat)=>PyData.int (k:Int))) (bs:=[]) (s1:=st) ?_ lp,hk,lo,hb.mono (by omega),hin⟩
 unfold rIP
 rw[zavo (i:=(p:Int)) rfl (by omega) (by omega),qBf];rfl
noncomputable abbrev bkA:TFr Pen:=zsc (zck (eOp (inS true) (eCB zlh (zaa (eVar 6) aNil)) (zdb ["_law_rule"] [] (zap (eVar 4)) (gN 0) zbi (eIxV 0 (eC (.int 1))))))
noncomputable abbrev bkB:SFr Pen:=rApp 4 (rTup (zbp (zbn 2 zei (zbp (zam (zdb ["_law_rule"] [] (zap (eVar 4)) (gN 0) zbi (eIxV 0 (eC (.int 0))))) rNil)) (zbp (zam (eCB zlh (zaa (eVar 6) aNil))) rNil)))
noncomputable abbrev bkO:SFr Pen:=(rSeq (rSet 6 (zam (eLst aNil)))
  (rSeq (rFor (rIP (zfu (zaa (eVar 1) aNil))) (gN 7) bkI)
  (rIf bkA bkB rNx)))
structure RlOk(R:List Rule)(m:Nat):Prop where
 low:∀r∈R,Low r.1/\r.1.length<=m
 kin:∀r∈R,LowS r.2/\r.2.length<=3
structure RlIn(W:Web)(p:Nat)(R:List Rule):Prop where
 kinds:∀r∈R,(∀k∈r.2,k∈nm W)/\r.2.length=p
 nd1:(R.map (·.1)).Nodup
 nd2:(R.map (·.2)).Nodup
theorem nd_snoc{α:Type}{l:List α}{x:α}(h:l.Nodup)(hx:x∉l):(l++[x]).Nodup:=by
 rw[qBa]
 refine⟨h,by simp,λa ha b hb=>?_⟩
 intro z
 rw[z,ql.mp hb]at ha
 exact hx ha
theorem zaqo{R:List Rule}{env:DEnv}(h4:env[4]?=some (.ac (zbo R)))(hl:R.length<=100):∃bs,zdb ["_law_rule"] [] (zap (eVar 4)) (gN 0) zbi (eIxV 0 (eC (.int 1))) env=some ⟨.list ((R.map (·.2)).map zaq),true,bs⟩:=by
 have it:zap (eVar 4) env=some (R.map zel,[4]):=by
  unfold zap eVar
  rw[h4];rfl
 have cm:zdl (gN 0) zbi (eIxV 0 (eC (.int 1))) (envB ["_law_rule"] [] env) (R.map zel)=some (R.map λr=>zaq r.2):=zbw λr hr=>⟨[.pl (zel r)],rfl,rfl,_,rfl,rfl⟩
 rw[qAY]
 exact⟨_,zdy it (by rw[qG];omega) cm⟩
theorem zaii{R:List Rule}{env:DEnv}(h4:env[4]?=some (.ac (zbo R)))(hl:R.length<=100):zdb ["_law_rule"] [] (zap (eVar 4)) (gN 0) zbi (eIxV 0 (eC (.int 0))) env=some ⟨zak (R.map (·.1)),true,[]⟩:=by
 have it:zap (eVar 4) env=some (R.map zel,[4]):=by
  unfold zap eVar
  rw[h4];rfl
 have cm:zdl (gN 0) zbi (eIxV 0 (eC (.int 0))) (envB ["_law_rule"] [] env) (R.map zel)=some (R.map λr=>.str r.1):=zbw λr hr=>⟨[.pl (zel r)],rfl,rfl,_,rfl,rfl⟩
 rw[zdy it (by rw[qG];omega) cm]
 have e:(R.map λr=>PyData.str r.1)=(R.map (·.1)).map .str:=by rw[qAY];rfl
 rw[e,if_pos (zva _)];rfl
noncomputable def SmOk:Nat->PyData->Prop
 | 0,_=>False
 | _+1,.str _=>True
 | _+1,.int _=>True
 | n+1,.list ds=>ds.length<100000/\∀d∈ds,SmOk n d
 | n+1,.tuple ds=>ds.length<100000/\∀d∈ds,SmOk n d
 | _+1,_=>False
theorem zaqp(ds:List PyData):List.zipWith (λd e=>PyData.tuple [d,e]) ds ds=ds.map λd=>.tuple [d,d]:=by
 induction ds with
 | nil=>rfl
 | cons d ds ih=>rw[qC2,ih];rfl
noncomputable abbrev smC(G:GF):EF:=eCB (anyD λbs=>bs.all id) (zaa (zdb ["_law_one","_law_two"] [] (zrx (zaa (eVar 0) (zaa (eVar 1) aNil))) (gT 2 (zba 0 (zba 1 zft))) zbi (zas 2 G (zaa (eVar 0) (zaa (eVar 1) aNil)))) aNil)
theorem zwb{G:GF}{d:PyData}{ds:List PyData}(hi:zfd d=some ds)(hl:ds.length<100000)(h:∀x∈ds,G [x,x]=some (.bool true,false)):smC G [.pl d,.pl d]=some (vb true):=by
 have it:zrx (zaa (eVar 0) (zaa (eVar 1) aNil)) [.pl d,.pl d]=some (ds.map λd=>.tuple [d,d],[]):=by
  unfold zrx
  rw[zcs (r:=⟨d,false,[]⟩) rfl (zhp (r:=⟨d,false,[]⟩) rfl)]
  show((zfd d).bind _)=_
  rw[hi]
  show some (List.zipWith (λd e=>PyData.tuple [d,e]) ds ds,_)=_
  rw[zaqp];rfl
 have cm:zdl (gT 2 (zba 0 (zba 1 zft))) zbi (zas 2 G (zaa (eVar 0) (zaa (eVar 1) aNil))) (envB ["_law_one","_law_two"] [] [.pl d,.pl d]) (ds.map λd=>.tuple [d,d])=some (ds.map λ_=>.bool true):=
  zbw λx hx=>⟨[.pl x,.pl x],rfl,rfl,_,zay (n:=2) (rs:=[⟨x,false,[]⟩,⟨x,false,[]⟩]) (zcs rfl (zhp rfl)) rfl (h x hx),rfl⟩
 show eCB _ _ _=_
 unfold eCB
 rw[zhp (zdy it (by rw[qG];exact hl) cm)]
 show((anyD (λbs=>bs.all id) [.list (ds.map λ_=>.bool true)]).bind _)=_
 have:anyD (λbs=>bs.all id) [.list (ds.map λ_=>.bool true)]=some (.bool true,false):=by
  unfold anyD
  show((zpd (ds.map λx=>PyData.bool ((λ_=>true) x))).map _)=_
  rw[zmz]
  show some (PyData.bool ((ds.map λ_=>true).all id),false)=_
  rw[show((ds.map λ_=>true).all id)=true by rw[qAE];intro b hb;obtain⟨_,_,rfl⟩:=qu.mp hb;rfl]
 rw[this];rfl
theorem zbbh(x:Str):eqD (.str x) (.str x)=some (.bool true,false):=by
 unfold eqD eqOk
 rw[show zacw (.str x) (.str x)=true from rfl,qCb,if_pos rfl]
 simp[qX]
theorem zbbi(x:Int):eqD (.int x) (.int x)=some (.bool true,false):=by
 unfold eqD eqOk
 rw[show zacw (.int x) (.int x)=true from rfl,qCb,if_pos rfl]
 simp[qX]
theorem zks:∀(n:Nat)(d:PyData),SmOk n d->zev n [d,d]=some (.bool true,false)
 | 0,_,h=>h.elim
 | n+1,d,h=>by
  show fnD 2 (zog (zev n)) [d,d]=_
  refine zhn (env:=[.pl d,.pl d]) rfl ?_
  cases d with
  | str x=>
   refine zamh (if_t rfl (zez (bs:=[]) ?_))
   unfold eAnd
   rw[show eIsi "str" (eVar 1) [.pl (.str x),.pl (.str x)]=some (vb true)from rfl,zgg (x:=vs x) (y:=vs x) rfl rfl (zbbh x)]
   rfl
  | int x=>
   refine zbf (if_f rfl rfl) (zbf (if_f rfl rfl) (zbf (if_f rfl rfl) (zez (bs:=[]) ?_)))
   unfold eAnd
   rw[show eIsi "int" (eVar 1) [.pl (.int x),.pl (.int x)]=some (vb true)from rfl,show eNot (eIsi "bool" (eVar 1)) [.pl (.int x),.pl (.int x)]=some (vb true)from rfl,zgg (x:=vi x) (y:=vi x) rfl rfl (zbbi x)]
   rfl
  | list ds=>
   obtain⟨h1,h2⟩:=h
   refine zbf (if_f rfl rfl) (zamh (if_t rfl (zbf (if_f ?_ rfl) (zez (bs:=[]) (zwb (d:=.list ds) rfl h1 λx hx=>zks n x (h2 x hx))))))
   unfold tOrF
   rw[show zjp (tTru (eIsi "list" (eVar 1))) [.pl (.list ds),.pl (.list ds)]=some false from rfl,zjy (zgg (x:=vi (ds.length:Int)) (y:=vi (ds.length:Int)) rfl rfl (zsp _))]
   rfl
  | tuple ds=>
   obtain⟨h1,h2⟩:=h
   refine zbf (if_f rfl rfl) (zbf (if_f rfl rfl) (zamh (if_t rfl (zbf (if_f ?_ rfl) (zez (bs:=[]) (zwb (d:=.tuple ds) rfl h1 λx hx=>zks n x (h2 x hx)))))))
   unfold tOrF
   rw[show zjp (tTru (eIsi "tuple" (eVar 1))) [.pl (.tuple ds),.pl (.tuple ds)]=some false from rfl,zjy (zgg (x:=vi (ds.length:Int)) (y:=vi (ds.length:Int)) rfl rfl (zsp _))]
   rfl
  | _=>exact h.elim
theorem zamy{n:Nat}{xs:List Str}:∀d∈xs.map PyData.str,SmOk (n+1) d:=λd hd=>by
 obtain⟨x,_,rfl⟩:=qu.mp hd
 trivial
theorem zavp{W:Web}{p:Nat}{R:List Rule}(hW:W.length<=100)(few:∀q∈W,q.2.length<=100)(hR:R.length<=100)(hk:∀r∈R,r.2.length<=3):SmOk 7 (zax W p R):=by
 refine⟨by show 3<100000;decide,λd hd=>?_⟩
 rcases qJ.mp hd with rfl|hd
 ·refine⟨by rw[qG];omega,λd hd=>?_⟩
  obtain⟨q,hq,rfl⟩:=qu.mp hd
  refine⟨by show 2<100000;decide,λd hd=>?_⟩
  rcases qJ.mp hd with rfl|hd
  ·trivial
  ·rw[ql.mp hd]
   exact⟨by rw[qG];have:=few q hq;omega,zamy⟩
 ·rcases qJ.mp hd with rfl|hd
  ·trivial
  ·rw[ql.mp hd]
   refine⟨by rw[qG];omega,λd hd=>?_⟩
   obtain⟨r,hr,rfl⟩:=qu.mp hd
   refine⟨by show 2<100000;decide,λd hd=>?_⟩
   rcases qJ.mp hd with rfl|hd
   ·trivial
   ·rw[ql.mp hd]
    exact⟨by rw[qG];have:=hk r hr;omega,zamy⟩
theorem zarv{a:AF}{env:DEnv}{rs:List Val}(h:a env=some rs)(hl:rs.length<=100000):eTup a env=some ⟨.tuple (zfp rs),false,bss rs⟩:=by
 unfold eTup;rw[h,qQ,if_pos hl]
theorem zazq{W:Web}{p:Nat}{R:List Rule}(hW:W.length<=100):zha [zax W p R]=some (zax W p R,false):=by
 have i0:eIxV 0 (eC (.int 0)) [.pl (zax W p R)]=some ⟨webD W,false,[]⟩:=rfl
 have i1:eIxV 0 (eC (.int 1)) [.pl (zax W p R)]=some (vi (p:Int)):=rfl
 have i2:eCB zlv (zaa (eIxV 0 (eC (.int 2))) aNil) [.pl (zax W p R)]=some ⟨zbo R,true,[]⟩:=rfl
 have it:zap (eIxV 0 (eC (.int 0))) [.pl (zax W p R)]=some (W.map rowD,[]):=by
  unfold zap
  rw[i0];rfl
 have cm:zdl (gT 2 (zba 0 (zba 1 zft))) zbi (eTup (zaa (eVar 0) (zaa (eCB zlv (zaa (eVar 1) aNil)) aNil))) (envB ["_law_name_here","_law_elders"] [] [.pl (zax W p R)]) (W.map rowD)=some (W.map rowD):=
  zbw λq hq=>⟨[.pl (.str q.1),.pl (zak q.2)],rfl,rfl,⟨rowD q,false,[]⟩,rfl,rfl⟩
 refine zhn (env:=[.pl (zax W p R)]) rfl ?_
 have ec:∃bs,zdb ["_law_name_here","_law_elders"] [] (zap (eIxV 0 (eC (.int 0)))) (gT 2 (zba 0 (zba 1 zft))) zbi (eTup (zaa (eVar 0) (zaa (eCB zlv (zaa (eVar 1) aNil)) aNil))) [.pl (zax W p R)]=some ⟨webD W,true,bs⟩:=⟨_,zdy it (by rw[qG];omega) cm⟩
 obtain⟨bs,ec⟩:=ec
 exact zez (zarv (zcs ec (zcs i1 (zhp i2))) (by show 3<=100000;decide))
noncomputable def zgr(A:List Str):Nat->List (List Str)
 | 0=>[[]]
 | j+1=>(zgr A j).flatMap λa=>A.map λx=>a++[x]
noncomputable def dig(A:List Str):Nat->Nat->List Str
 | 0,_=>[]
 | j+1,k=>dig A j (k / A.length)++[A.getD (k % A.length) ""]
theorem zaer(A:List Str):∀(j k:Nat),(dig A j k).length=j
 | 0,_=>rfl
 | j+1,k=>by show(dig A j (k / A.length)++[A.getD (k % A.length) ""]).length=_;rw[qK,zaer A j];rfl
theorem zaqq(A:List Str){β:Type}(g:Str->β):A.map g=(List.range A.length).map λi=>g (A.getD i ""):=by
 refine List.ext_getElem (by simp) λi h1 h2=>?_
 rw[qG]at h1
 simp[qg,h1]
theorem zwc(A:List Str)(h:0<A.length){β:Type}(f:Nat->Str->β):∀M:Nat,((List.range M).flatMap λi=>A.map λx=>f i x)=(List.range (M * A.length)).map λk=>f (k / A.length) (A.getD (k % A.length) "")
 | 0=>by simp
 | M+1=>by
  rw[List.range_succ,List.flatMap_append,zwc A h f M,Nat.add_mul,Nat.one_mul,List.range_add,qAF,qAY]
  congr 1
  rw[qCY,List.flatMap_nil,qAD,zaqq]
  refine qBn λi hi=>?_
  have hi:i<A.length:=qAR.mp hi
  show f M _=f ((M * A.length+i) / A.length) (A.getD ((M * A.length+i) % A.length) "")
  rw[qCc M,Nat.mul_add_div h,Nat.mul_add_mod,Nat.div_eq_of_lt hi,Nat.mod_eq_of_lt hi,Nat.add_zero]
theorem zri(A:List Str)(h:0<A.length):∀j:Nat,zgr A j=(List.range (A.length ^ j)).map (dig A j)
 | 0=>rfl
 | j+1=>by
  show((zgr A j).flatMap λa=>A.map λx=>a++[x])=_
  rw[zri A h j,List.flatMap_map,zwc A h (λi x=>dig A j i++[x]),qDF]
  rfl
theorem zys(A:List Str)(h:0<A.length)(j:Nat):(zgr A j).length=A.length ^ j:=by rw[zri A h];simp
theorem zaqr{a:List Str}{x:Str}{env:DEnv}(h0:env[0]?=some (.pl (zaq a)))(h1:env[1]?=some (.pl (.str x)))(hl:a.length<=100):eOp addE (eVar 0) (eTup (zaa (eVar 1) aNil)) env=some ⟨zaq (a++[x]),false,[]⟩:=by
 have e0:eVar 0 env=some ⟨zaq a,false,[]⟩:=by unfold eVar;rw[h0]
 have e1:eTup (zaa (eVar 1) aNil) env=some ⟨zaq [x],false,[]⟩:=by
  unfold eTup
  rw[zhp (r:=vs x) (by unfold eVar;rw[h1])];rfl
 refine zgg e0 e1 ?_
 cases a with
 | nil=>rfl
 | cons b a=>
  show addD (.tuple ((b::a).map .str)) (.tuple [.str x])=_
  unfold addD
  dsimp only
  rw[if_pos ⟨rfl,by rw[qG];simp at hl ⊢;omega⟩]
  unfold zaq
  rw[qAF];rfl
theorem zaij{A:List Str}(h:0<A.length)(hl:A.length<=100){p:Nat}(hp:p<=3)(hs:∀j,j<=p->A.length ^ j<300):zgb [.list (List.replicate p (zak A))]=some (.list ((zgr A p).map zaq),true):=by
 have hm:(List.replicate p (zak A))=(List.range p).map λ_=>zak A:=by
  refine List.ext_getElem (by simp) λi h1 h2=>by simp
 rw[hm]
 obtain⟨e',lp,s2,rfl⟩:=zhh (enc:=λ(_:Nat)=>zak A) (g:=gN 2) (l:=List.range p) (env:=[.pl (.list ((List.range p).map λ_=>zak A)),.ac (.list ((zgr A 0).map zaq)),.no])
  (body:=(sSet 1 (zmq ["ahead","thing"] [2] (zap (eVar 1)) (gN 0) zbi (zap (eVar 2)) (gN 1) zbi (eOp addE (eVar 0) (eTup (zaa (eVar 1) aNil))))))
  (λpre env=>∃s2,env=[.pl (.list ((List.range p).map λ_=>zak A)),.ac (.list ((zgr A pre.length).map zaq)),s2]) ⟨.no,rfl⟩ (by
   rintro pre x post env hpre ⟨s2,rfl⟩
   have hlen:pre.length+1<=p:=by
    have:=congrArg List.length hpre
    rw[qK,qy,qAG]at this
    omega
   have cm:zie (gN 0) zbi (zap (eVar 2)) (gN 1) zbi (eOp addE (eVar 0) (eTup (zaa (eVar 1) aNil))) [.no,.no,.pl (zak A)] ((zgr A pre.length).map zaq)=some ((zgr A pre.length).flatMap λa=>A.map λx=>zaq (a++[x])):=
    zit λa ha=>⟨[.pl (zaq a),.no,.pl (zak A)],rfl,rfl,by
     have al:a.length<=100:=by
      rw[zri A h]at ha
      obtain⟨k,_,rfl⟩:=qu.mp ha
      rw[zaer];omega
     unfold innL
     rw[show zap (eVar 2) [.pl (zaq a),.no,.pl (zak A)]=some (A.map .str,[])from rfl,qQ,if_pos (by rw[qG];omega)]
     exact zbw λx hx=>⟨[.pl (zaq a),.pl (.str x),.pl (zak A)],rfl,rfl,_,zaqr rfl rfl al,rfl⟩⟩
   have ex:=zxp (own:=["ahead","thing"]) (fr:=[2]) (env:=[.pl (.list ((List.range p).map λ_=>zak A)),.ac (.list ((zgr A pre.length).map zaq)),.pl (zak A)]) (fi:=zap (eVar 1)) (ds:=(zgr A pre.length).map zaq) (bs:=[1]) rfl (by rw[qG,zys A h];exact hs _ (by omega)) cm
   have et:((zgr A pre.length).flatMap λa=>A.map λx=>zaq (a++[x]))=(zgr A (pre++[x]).length).map zaq:=by
    rw[qK]
    show _=((zgr A pre.length).flatMap λa=>A.map λx=>a++[x]).map zaq
    rw[qCd]
    congr 1
    funext a
    rw[qAY];rfl
   rw[et]at ex
   refine⟨_,[.pl (.list ((List.range p).map λ_=>zak A)),.ac (.list ((zgr A (pre++[x]).length).map zaq)),.pl (zak A)],rfl,.inl ((zgt ex).trans ?_),_,rfl⟩
   unfold putV
   dsimp only
   split<;>rfl)
 rw[qAG]at lp
 exact zhn (env:=[.pl (.list ((List.range p).map λ_=>zak A)),.no,.no]) rfl (zbf (e1:=[.pl (.list ((List.range p).map λ_=>zak A)),.ac (.list ((zgr A 0).map zaq)),.no]) rfl (zbf (zir (fr:=false) (bs:=[]) rfl lp) rfl))
noncomputable abbrev sdB:SFr (List Int):=rS 0 (sSet 1 (eOp modD (eOp addD (eOp addD (eOp mulD (eVar 1) (eC (.int 48271))) (eOp mulD (eOp modD (eVar 3) (eC (.int 2147483629))) (eOp addD (eOp mulD (eVar 2) (eVar 2)) (eC (.int 3))))) (eC (.int 5))) (eC (.int 2147483647))))
theorem zavq(ns:List Int):∃s,zig ns=some s:=by
 obtain⟨e',s',lp,s,s2,s3,rfl,hs'⟩:=zjw (T:=List Int) (enc:=λ(z:Int×Nat)=>PyData.tuple [.int (z.2:Int),.int z.1]) (g:=gT 2 (zba 2 (zba 3 zft))) (body:=sdB) (l:=(ns.take 63).zipIdx) (env:=[.no,.pl (.int 7),.no,.no]) (st:=ns)
  (λpre env st=>∃(s:Int) (s2 s3:Sl),env=[.no,.pl (.int s),s2,s3]/\st=ns) ⟨7,.no,.no,rfl,rfl⟩ (by
   rintro pre ⟨c,i⟩ post env st hpre ⟨s,s2,s3,rfl,rfl⟩
   have hi:i<63:=by
    have hm:(c,i)∈(st.take 63).zipIdx:=by rw[<- hpre];simp
    have:=List.snd_lt_of_mem_zipIdx hm
    have:i<(st.take 63).length:=by simpa using this
    have h3:(st.take 63).length<=63:=by rw[qBj];omega
    omega
   have m0:=qCO c (show(2147483629:Int)≠0 by decide)
   have m1:=qBw c (show(0:Int)<2147483629 by decide)
   refine⟨[.no,.pl (.int s),.pl (.int (i:Int)),.pl (.int c)],[.no,.pl (.int ((s * 48271+c % 2147483629 * ((i:Int) * (i:Int)+3)+5) % 2147483647)),.pl (.int (i:Int)),.pl (.int c)],st,rfl,?_,_,_,_,rfl,rfl⟩
   have ev:eOp modD (eOp addD (eOp addD (eOp mulD (eVar 1) (eC (.int 48271))) (eOp mulD (eOp modD (eVar 3) (eC (.int 2147483629))) (eOp addD (eOp mulD (eVar 2) (eVar 2)) (eC (.int 3))))) (eC (.int 5))) (eC (.int 2147483647)) [.no,.pl (.int s),.pl (.int (i:Int)),.pl (.int c)]=some (vi ((s * 48271+c % 2147483629 * ((i:Int) * (i:Int)+3)+5) % 2147483647)):=by
    have a1:eOp mulD (eVar 1) (eC (.int 48271)) [.no,.pl (.int s),.pl (.int (i:Int)),.pl (.int c)]=some (vi (s * 48271)):=zgg (x:=vi s) (y:=vi 48271) rfl rfl (zyq (by decide) (by decide))
    have a2:eOp modD (eVar 3) (eC (.int 2147483629)) [.no,.pl (.int s),.pl (.int (i:Int)),.pl (.int c)]=some (vi (c % 2147483629)):=zgg (x:=vi c) (y:=vi 2147483629) rfl rfl (zwa (by decide))
    have a3:eOp mulD (eVar 2) (eVar 2) [.no,.pl (.int s),.pl (.int (i:Int)),.pl (.int c)]=some (vi ((i:Int) * (i:Int))):=zgg (x:=vi (i:Int)) (y:=vi (i:Int)) rfl rfl (zyq (by omega) (by omega))
    have a4:eOp addD (eOp mulD (eVar 2) (eVar 2)) (eC (.int 3)) [.no,.pl (.int s),.pl (.int (i:Int)),.pl (.int c)]=some (vi ((i:Int) * (i:Int)+3)):=zgg a3 (y:=vi 3) rfl rfl
    have mul5:mulD (.int (c % 2147483629)) (.int ((i:Int) * (i:Int)+3))=some (.int (c % 2147483629 * ((i:Int) * (i:Int)+3)),false):=by
     unfold mulD
     dsimp only
     rw[if_pos (.inl ⟨by omega,by omega⟩)]
    have a5:=zgg a2 a4 mul5
    have a6:=zgg (w:=addD) a1 a5 rfl
    have a7:=zgg (w:=addD) a6 (b:=eC (.int 5)) (y:=vi 5) rfl rfl
    exact zgg a7 (b:=eC (.int 2147483647)) (y:=vi 2147483647) rfl (zwa (by decide))
   show rS 0 _ _ _=_
   unfold rS
   rw[zgt ev];rfl)
 rw[hs']at lp
 refine⟨s,?_⟩
 have it:zall (zbp rScr rNil) [.no,.pl (.int 7),.no,.no] ns=some (((ns.take 63).zipIdx).map (λ(z:Int×Nat)=>PyData.tuple [.int (z.2:Int),.int z.1]),[],ns):=by
  unfold zall
  rw[zer (T:=List Int) (g:=rNil) (x:=⟨.list ((ns.take 63).map .int),true,[]⟩) (xs:=[]) (s1:=ns) (s2:=ns) rfl rfl]
  show some (zzr ((ns.take 63).map .int),_,_)=_
  have:zzr ((ns.take 63).map .int)=((ns.take 63).zipIdx).map (λ(z:Int×Nat)=>PyData.tuple [.int (z.2:Int),.int z.1]):=by
   unfold zzr
   rw[List.zipIdx_map,qAY];rfl
  rw[this]
 have run:znb [.no,.no,.no,.no] ns=some (.nx [.no,.pl (.int s),s2,s3] ns):=zbh (e1:=[.no,.pl (.int 7),.no,.no]) (s1:=ns) rfl (zsj it lp)
 unfold zig zapn
 show(match znb [.no,.no,.no,.no] ns with|some (.nx env st)=>_|_=>_)=_
 rw[run]
 simp only[if_true]
 rfl
noncomputable abbrev lwE(s2 s3 s4 s5 s6:Sl):DEnv:=[.no,.no,s2,s3,s4,s5,s6]
noncomputable abbrev ansL(W:Web)(R:List Rule)(c:List Str):List Str:=(zabd W (fitL W R (c.map .one))).map (·.1)
theorem zaqs(c:List Str):zaq c=zga (c.map .one):=by
 unfold zaq zga
 rw[qAY];rfl
structure Bo(W:Web)(p:Nat)(R:List Rule):Prop where
 web:WebOk W
 sz:szB p W.length
 rul:RulesOk W R
 low:∀r∈R,qAk r.1=true
 few:∀r∈R,r.2.length<=100
theorem zaqt{W:Web}{p:Nat}(sz:szB p W.length){c:List Str}(hc:c∈zgr (nm W) p):c.length=p/\∀x∈c,x∈nm W:=by
 have hn:(nm W).length=W.length:=qG ..
 have h0:0<(nm W).length:=by rw[hn];unfold szB at sz;omega
 rw[zri _ h0]at hc
 obtain⟨k,_,rfl⟩:=qu.mp hc
 refine⟨zaer _ _ _,?_⟩
 have:∀(j k:Nat),∀x∈dig (nm W) j k,x∈nm W:=by
  intro j
  induction j with
  | zero=>intro k x hx;cases hx
  | succ j ih=>
   intro k x hx
   rcases qj.mp hx with hx|hx
   ·exact ih _ x hx
   ·rw[ql.mp hx,qg,qH (Nat.mod_lt _ h0)]
    exact qA9 _
 exact this p k
theorem zyt{xs:List Str}(h:LowS xs):qt (ziv xs)=true:=by
 have w1:qAk "none"=true:=by decide +kernel
 have w2:qAk "rule"=true:=by decide +kernel
 have w3:qAk "quarrel"=true:=by decide +kernel
 match xs,h with
 | [],_=>decide +kernel
 | [x],h=>
  unfold qt ziv
  rw[qAC]
  refine⟨?_,decide_eq_true (by show max 0 (max 0 0)+1<=64;decide)⟩
  show(qAk "rule"&&(qAk x&&true))=true
  rw[w2,h x qR];rfl
 | x::y::xs,h=>
  obtain⟨h1,h2⟩:=zmy (x::y::xs) h
  unfold qt ziv zaq
  rw[qAC]
  refine⟨?_,decide_eq_true ?_⟩
  ·show(qAk "quarrel"&&(qAN ((x::y::xs).map .str)&&true))=true
   rw[w3,h1];rfl
  ·show max 0 (max (qe ((x::y::xs).map .str)+1) 0)+1<=64
   rw[h2];decide
theorem zbac(xs:List PyData)(k:Nat):cutD xs none (some (k:Int))=xs.take k:=by
 unfold cutD
 rw[show HT.sIx xs.length 0 none=0 from rfl,HT.sIx_nat,List.drop_zero,Nat.sub_zero]
 by_cases h:k<=xs.length
 ·rw[qBW h]
 ·rw[qBk (by omega),qAZ (qN _),qAZ (by omega)]
theorem zaqu(xs:List PyData)(k:Nat):cutD xs (some (k:Int)) none=xs.drop k:=by
 unfold cutD
 rw[show HT.sIx xs.length xs.length none=xs.length from rfl,HT.sIx_nat]
 by_cases h:k<=xs.length
 ·rw[qBW h,qAZ (by rw[qB8];exact qN _)]
 ·rw[qBk (by omega),qAu (qN _),qAu (by omega),List.take_nil]
theorem zavr{W:Web}{p:Nat}{R:List Rule}(b:Bo W p R)(c:List Str):LowS (ansL W R c):=λx hx=>by
 obtain⟨r,hr,rfl⟩:=qu.mp hx
 exact b.low r (qAb.mp (qAb.mp hr).1).1
noncomputable def zcd(l:List Nat):PyData:=.list (l.map λ(k:Nat)=>.int (k:Int))
theorem zazr{W:Web}{c:List Str}(hl:c.length<300)(h:∀x∈c,x∈nm W):CallOk W (c.map .one):=⟨by rw[qG];exact hl,λa ha=>by
  obtain⟨x,_,rfl⟩:=qu.mp ha
  show 1<300;decide,λa ha n hn=>by
  obtain⟨x,hx',rfl⟩:=qu.mp ha
  have:n=x:=by simpa [Arm.parts]using hn
  rw[this];exact h x hx'⟩
noncomputable def mxN(l:List Nat):Nat:=l.foldr max 0
theorem zazs{l:List Nat}:∀x∈l,x<=mxN l:=λx hx=>by
 induction l with
 | nil=>cases hx
 | cons a l ih=>
  show x<=max a (mxN l)
  rcases qJ.mp hx with rfl|hx
  ·exact Nat.le_max_left _ _
  ·exact qAA (ih hx) (Nat.le_max_right _ _)
theorem zaes:∀{l:List Nat},l≠[]->mxN l∈l
 | [],h=>absurd rfl h
 | [a],_=>by show max a 0∈[a];rw[Nat.max_zero];exact ql.mpr rfl
 | a::b::l,_=>by
  have ih:=zaes (l:=b::l) (by simp)
  show max a (mxN (b::l))∈_
  by_cases h:a<=mxN (b::l)
  ·rw[Nat.max_eq_right h];exact qL _ ih
  ·rw[Nat.max_eq_left (by omega)];exact qR ..
theorem zwd:∀(l:List Nat),zmv (l.map λ(k:Nat)=>PyData.int (k:Int))=some (l.map λ(k:Nat)=>(k:Int))
 | []=>rfl
 | a::l=>by
  rw[qa]
  show((zmv (l.map λ(k:Nat)=>PyData.int (k:Int))).map _)=_
  rw[zwd l];rfl
theorem zazt{l:List Nat}(h:l≠[]):zadf [zcd l]=some (.int (mxN l:Int),false):=by
 show((zmv (l.map λ(k:Nat)=>PyData.int (k:Int))).bind _)=_
 rw[zwd,qQ]
 cases hm:maxL (l.map λ(k:Nat)=>(k:Int))with
 | none=>cases l with
  | nil=>exact absurd rfl h
  | cons a l=>cases hm
 | some M=>
  obtain⟨h1,h2⟩:=zalp hm
  obtain⟨m,hm1,rfl⟩:=qu.mp h1
  have h3:=zazs m hm1
  have h4:=h2 _ (qu.mpr ⟨mxN l,zaes h,rfl⟩)
  have:m=mxN l:=by omega
  rw[this];rfl
theorem zbbj{r:Nat}{env:DEnv}{l:List Nat}(hr:env[r]?=some (.pl (zcd l)))(h:l≠[]):eCB zadf (zaa (eVar r) aNil) env=some (vi (mxN l:Int)):=by
 have e:eVar r env=some ⟨zcd l,false,[]⟩:=by unfold eVar;rw[hr]
 unfold eCB
 rw[zhp e,qQ]
 show((zadf [zcd l]).bind _)=_
 rw[zazt h];rfl
theorem zazu{p:Nat}(h1:1<=p)(h2:p<=3)(s2 s3 s4 s5 s6 s7 s8:Sl):∃m:Nat,eOp ixD (eLst (zaa (eC (.int 6)) (zaa (eC (.int 5)) (zaa (eC (.int 3)) aNil)))) (eOp subD (eVar 1) (eC (.int 1))) (bkE (.pl (.int (p:Int))) s2 s3 s4 s5 s6 s7 s8)=some (vi (m:Int))/\1<=m/\szB p m:=by
 rcases(show p=1\/p=2\/p=3 by omega)with rfl|rfl|rfl
 ·exact⟨6,rfl,by decide,by unfold szB;omega⟩
 ·exact⟨5,rfl,by decide,by unfold szB;omega⟩
 ·exact⟨3,rfl,by decide,by unfold szB;omega⟩
theorem zavs{p:Nat}(h1:1<=p)(h2:p<=3)(s2 s3 s4 s5 s6 s7 s8:Sl):∃m:Nat,eOp ixD (eLst (zaa (eC (.int 10)) (zaa (eC (.int 6)) (zaa (eC (.int 3)) aNil)))) (eOp subD (eVar 1) (eC (.int 1))) (bkE (.pl (.int (p:Int))) s2 s3 s4 s5 s6 s7 s8)=some (vi (m:Int))/\szB p m:=by
 rcases(show p=1\/p=2\/p=3 by omega)with rfl|rfl|rfl
 ·exact⟨10,rfl,by unfold szB;omega⟩
 ·exact⟨6,rfl,by unfold szB;omega⟩
 ·exact⟨3,rfl,by unfold szB;omega⟩
theorem zaqv{n:Nat}{st:Pen}(h:PenB (n+300) st):∃(W:Web)(p:Nat)(R:List Rule)(st':Pen),zep [] st=some (zax W p R,false,st')/\szB p W.length/\WbOk W 100/\RlOk R 200/\R.length<=100/\PenB n st'/\WebOk W/\RlIn W p R:=by
 obtain⟨r1,s1,e1,a1,b1,p1⟩:=zoz (n:=n+299) (a:=zam (eC (.int 3))) (env:=bkE .no .no .no .no .no .no .no .no) (st:=st) (s1:=st) (bs:=[]) rfl h (by decide) (by decide)
 obtain⟨p,hp⟩:=zacc (r:=1+r1) (by omega)
 have hp1:1<=p:=by omega
 have hp3:p<=3:=by omega
 have f1:rSet 1 (rOp addD (zam (eC (.int 1))) (zbn 2 zao (zbp (zam (eC (.int 3))) rNil))) (bkE .no .no .no .no .no .no .no .no) st=some (.nx (bkE (.pl (.int (p:Int))) .no .no .no .no .no .no .no) s1):=by
  rw[<- hp]
  exact zeu (zdp (T:=Pen) (x:=vi 1) (y:=vi r1) (s1:=st) rfl e1 (show addD (.int 1) (.int r1)=some (.int (1+r1),false)from rfl))
 obtain⟨m,em,m1,szm⟩:=zazu hp1 hp3 .no .no .no .no .no .no .no
 obtain⟨r2,s2,e2,a2,b2,p2⟩:=zoz (n:=n+298) (env:=bkE (.pl (.int (p:Int))) .no .no .no .no .no .no .no) (st:=s1) (zeh em) p1 (by omega) (by unfold szB at szm;omega)
 obtain⟨s0,hs0⟩:=zacc (r:=1+r2) (by omega)
 have f2:rSet 2 (rOp addD (zam (eC (.int 1))) (zbn 2 zao (zbp (zam (eOp ixD (eLst (zaa (eC (.int 6)) (zaa (eC (.int 5)) (zaa (eC (.int 3)) aNil)))) (eOp subD (eVar 1) (eC (.int 1))))) rNil))) (bkE (.pl (.int (p:Int))) .no .no .no .no .no .no .no) s1=some (.nx (bkE (.pl (.int (p:Int))) (.pl (.int (s0:Int))) .no .no .no .no .no .no) s2):=by
  rw[<- hs0]
  exact zeu (zdp (T:=Pen) (x:=vi 1) (y:=vi r2) (s1:=s1) rfl e2 (show addD (.int 1) (.int r2)=some (.int (1+r2),false)from rfl))
 have sz0:szB p s0:=by unfold szB at szm ⊢;omega
 obtain⟨r3,s3,e3,a3,b3,p3⟩:=zoz (n:=n+297) (a:=zam (eC (.int 8))) (env:=bkE (.pl (.int (p:Int))) (.pl (.int (s0:Int))) .no .no .no .no .no .no) (st:=s2) (s1:=s2) (bs:=[]) rfl p2 (by decide) (by decide)
 have t3:qB (rOp eqD (zbn 2 zao (zbp (zam (eC (.int 8))) rNil)) (zam (eC (.int 7)))) (bkE (.pl (.int (p:Int))) (.pl (.int (s0:Int))) .no .no .no .no .no .no) s2=some (decide (r3=7),s3):=by
  have ee:eqD (.int r3) (.int 7)=some (.bool (decide (r3=7)),false):=by
   unfold eqD eqOk
   rw[show zacw (.int r3) (.int 7)=true from rfl,qCb,if_pos rfl]
   simp[qX]
   try rfl
  unfold qB
  rw[zdp (T:=Pen) (x:=vi r3) (y:=vi 7) (s1:=s3) e3 rfl ee]
  rfl
 have f3:∃s:Nat,rIf (qB (rOp eqD (zbn 2 zao (zbp (zam (eC (.int 8))) rNil)) (zam (eC (.int 7))))) (rSet 2 (zam (eOp ixD (eLst (zaa (eC (.int 10)) (zaa (eC (.int 6)) (zaa (eC (.int 3)) aNil)))) (eOp subD (eVar 1) (eC (.int 1)))))) rNx (bkE (.pl (.int (p:Int))) (.pl (.int (s0:Int))) .no .no .no .no .no .no) s2=some (.nx (bkE (.pl (.int (p:Int))) (.pl (.int (s:Int))) .no .no .no .no .no .no) s3)/\szB p s:=by
  by_cases h7:r3=7
  ·rw[decide_eq_true h7]at t3
   obtain⟨m2,em2,sz2⟩:=zavs hp1 hp3 (.pl (.int (s0:Int))) .no .no .no .no .no .no
   exact⟨m2,zahf t3 (zeu (zeh em2)),sz2⟩
  ·rw[decide_eq_false h7]at t3
   exact⟨s0,zahg t3 rfl,sz0⟩
 obtain⟨s,f3,sz⟩:=f3
 have hs10:s<=10:=by unfold szB at sz;omega
 obtain⟨W,s4,e4,hWl,ok,p4,wok⟩:=zbbg (n:=n+177) (s:=s) (by omega) (p3.mono (by omega))
 subst hWl
 have f4:rSet 3 (zbn 2 zej (zbp (zam (eVar 2)) rNil)) (bkE (.pl (.int (p:Int))) (.pl (.int (W.length:Int))) .no .no .no .no .no .no) s3=some (.nx (bkW p W .no .no .no .no .no) s4):=by
  have a0:zbp (zam (eVar 2)) rNil (bkE (.pl (.int (p:Int))) (.pl (.int (W.length:Int))) .no .no .no .no .no .no) s3=some ([vi (W.length:Int)],s3):=zer (T:=Pen) (x:=vi (W.length:Int)) (xs:=[]) (s1:=s3) rfl rfl
  have a1:=zjv (n:=2) (g:=zej) a0 rfl e4
  exact zeu a1
 have ok:WbOk W 100:=⟨λq hq=>⟨(ok.low q hq).1,qAA (ok.low q hq).2 (by omega)⟩,ok.few⟩
 obtain⟨r5,s5,e5,a5,b5,p5⟩:=zoz (n:=n+176) (a:=zam (eC (.int 13))) (env:=bkW p W (.ac (zbo [])) .no .no .no .no) (st:=s4) (s1:=s4) (bs:=[]) rfl p4 (by decide) (by decide)
 have it:zfx (zbp (zbn 2 zao (zbp (zam (eC (.int 13))) rNil)) rNil) (bkW p W (.ac (zbo [])) .no .no .no .no) s4=some ((List.range r5.toNat).map (λ(k:Nat)=>PyData.int (k:Int)),[],s5):=by
  unfold zfx
  rw[zer (T:=Pen) (x:=vi r5) (xs:=[]) (s2:=s5) e5 rfl]
  show(if _/\_ then _ else _)=_
  rw[if_pos ⟨by omega,by omega⟩,zmx]
 obtain⟨e',s',lp,R,t5,t6,t7,t8,rfl,hR,rok,hb,rin⟩:=zjw (T:=Pen) (enc:=λ(k:Nat)=>PyData.int (k:Int)) (g:=gN 5) (body:=bkO) (l:=List.range r5.toNat) (env:=bkW p W (.ac (zbo [])) .no .no .no .no) (st:=s5)
  (λpre env st=>∃(R:List Rule) (t5 t6 t7 t8:Sl),env=bkW p W (.ac (zbo R)) t5 t6 t7 t8/\R.length<=pre.length/\RlOk R (8 * pre.length)/\PenB (n+13 * (12 - pre.length)) st/\RlIn W p R)
  ⟨[],.no,.no,.no,.no,rfl,qN _,⟨λq hq=>(nomatch hq),λq hq=>(nomatch hq)⟩,p5.mono (by show n+13 * (12 - 0)<=n+176;omega),⟨λr hr=>(nomatch hr),by simp,by simp⟩⟩ (by
   rintro pre x post env st hpre ⟨R,t5,t6,t7,t8,rfl,hR,rok,hb,rin⟩
   have hlen:pre.length+1<=r5.toNat:=by
    have:=congrArg List.length hpre
    rw[qK,qy,qAG]at this
    omega
   obtain⟨ks,u7,u8,sa,ea,kl,lo,pa,kin⟩:=zaih (n:=n+13 * (12 - (pre.length+1))+7) (st:=st) (p:=p) (W:=W) (s4:=.ac (zbo R)) (s5:=.pl (.int (x:Int))) (s7:=t7) (s8:=t8) hp3 (by unfold szB at sz;omega) (by omega) ok (hb.mono (by omega))
   obtain⟨bs1,k1⟩:=zaqo (R:=R) (env:=bkW p W (.ac (zbo R)) (.pl (.int (x:Int))) (.ac (zak ks)) u7 u8) rfl (by omega)
   have tup:eCB zlh (zaa (eVar 6) aNil) (bkW p W (.ac (zbo R)) (.pl (.int (x:Int))) (.ac (zak ks)) u7 u8)=some ⟨zaq ks,false,[6]⟩:=rfl
   have tA:bkA (bkW p W (.ac (zbo R)) (.pl (.int (x:Int))) (.ac (zak ks)) u7 u8) sa=some (!decide (ks∈R.map (·.2)),sa):=
    ziq (zjy (zgg tup k1 (zavm (neg:=true) (λy hy=>by
     obtain⟨q,hq,rfl⟩:=qu.mp hy
     exact(rok.kin q hq).1) lo)))
   have hpre1:(pre++[x]).length=pre.length+1:=by simp
   by_cases hm:ks∈R.map (·.2)
   ·rw[decide_eq_true hm]at tA
    refine⟨_,_,sa,rfl,zbh rfl (zbh ea (zahg tA rfl)),R,_,_,_,_,rfl,by omega,⟨λq hq=>⟨(rok.low q hq).1,by rw[hpre1];have:=(rok.low q hq).2;omega⟩,rok.kin⟩,by rw[hpre1];exact pa.mono (by omega),rin⟩
   ·rw[decide_eq_false hm]at tA
    obtain⟨w,sb,eb,lw,nw,pb,mw⟩:=zaru (A:=R.map (·.1)) (L:=8 * pre.length) pa (by rw[qG];omega) (λy hy=>by
     obtain⟨q,hq,rfl⟩:=qu.mp hy
     exact rok.low q hq) (by omega)
    have vB:rTup (zbp (zbn 2 zei (zbp (zam (zdb ["_law_rule"] [] (zap (eVar 4)) (gN 0) zbi (eIxV 0 (eC (.int 0))))) rNil)) (zbp (zam (eCB zlh (zaa (eVar 6) aNil))) rNil)) (bkW p W (.ac (zbo R)) (.pl (.int (x:Int))) (.ac (zak ks)) u7 u8) sa=some (⟨zel (w,ks),false,[6]⟩,sb):=by
     unfold rTup
     have n0:=zaii (R:=R) (env:=bkW p W (.ac (zbo R)) (.pl (.int (x:Int))) (.ac (zak ks)) u7 u8) rfl (by omega)
     have n1:=zer (T:=Pen) (g:=rNil) (xs:=[]) (s2:=sa) (zeh (st:=sa) n0) rfl
     have n2:=zjv (n:=2) (g:=zei) n1 rfl eb
     have n3:=zer (T:=Pen) n2 (zer (T:=Pen) (g:=rNil) (xs:=[]) (s2:=sb) (zeh (st:=sb) tup) rfl)
     rw[n3]
     rfl
    refine⟨_,bkW p W (.ac (zbo (R++[(w,ks)]))) (.pl (.int (x:Int))) (.pl (zak ks)) u7 u8,sb,rfl,zbh rfl (zbh ea (zahf tA ((ztt (i:=4) (ds:=R.map zel) rfl vB (by rw[qG];omega) (by decide)).trans ?_))),R++[(w,ks)],_,_,_,_,rfl,by rw[hpre1,qK];simp;exact hR,⟨λq hq=>?_,λq hq=>?_⟩,by rw[hpre1];exact pb,⟨λq hq=>(qj.mp hq).elim (rin.kinds q) λz=>by rw[ql.mp z];exact⟨kin,kl⟩,by rw[qAF];exact nd_snoc rin.nd1 mw,by rw[qAF];exact nd_snoc rin.nd2 hm⟩⟩
    ·show _=some (OutR.nx [.no,.pl (.int (p:Int)),.pl (.int (W.length:Int)),.ac (webD W),.ac (zbo (R++[(w,ks)])),.pl (.int (x:Int)),.pl (zak ks),u7,u8] sb)
     rw[show zbo (R++[(w,ks)])=.list (R.map zel++[zel (w,ks)]) by unfold zbo;rw[qAF];rfl]
     rfl
    ·rw[hpre1]
     rcases qj.mp hq with hq|hq
     ·exact⟨(rok.low q hq).1,by have:=(rok.low q hq).2;omega⟩
     ·cases ql.mp hq
      exact⟨lw,by show w.length<=_;omega⟩
    ·rcases qj.mp hq with hq|hq
     ·exact rok.kin q hq
     ·cases ql.mp hq
      exact⟨lo,by show ks.length<=3;omega⟩)
 rw[qAG]at hR rok hb
 refine⟨W,p,R,s',zaam (env:=bkE .no .no .no .no .no .no .no .no) rfl ?_,sz,ok,⟨λq hq=>⟨(rok.low q hq).1,by have:=(rok.low q hq).2;omega⟩,rok.kin⟩,by omega,hb.mono (by omega),wok,rin⟩
 refine zbh f1 (zbh f2 (zbh f3 (zbh f4 (zbh (e1:=bkW p W (.ac (zbo [])) .no .no .no .no) (s1:=s4) rfl (zbh (zsj it lp) (zaln (bs:=[3,4]) (zeh (r:=⟨zax W p R,false,[3,4]⟩) ?_)))))))
 rfl
theorem zuj{a:EF}{g:AF}{env:DEnv}{x:Val}{xs:List Val}(h1:a env=some x)(h2:g env=some xs):zaa a g env=some (x::xs):=by
 unfold zaa
 rw[h1,qQ,h2];rfl
theorem zazv{a:AF}{env:DEnv}{rs:List Val}(h:a env=some rs)(hl:rs.length<=100000):eLst a env=some ⟨.list (zfp rs),true,bss rs⟩:=by
 unfold eLst
 rw[h,qQ,if_pos hl]
noncomputable def ordL:Nat->List (List Nat)
 | 1=>[[0]]
 | 2=>[[0,1],[1,0]]
 | _=>[[0,1,2],[0,2,1],[1,0,2],[1,2,0],[2,0,1],[2,1,0]]
noncomputable def alg(o:List Nat)(c:List Str):List Str:=(List.range o.length).map λi=>c.getD (o.findIdx (·==i)) ""
theorem zacd{p:Nat}(h1:1<=p)(h3:p<=3){o:List Nat}(ho:o∈ordL p){c:List Str}(hc:c.length=p):zdq [zcd o,zaq c]=some (zaq (alg o c),false):=by
 rcases(show p=1\/p=2\/p=3 by omega)with rfl|rfl|rfl
 ·match c,hc with
  | [x],_=>
   simp only[ordL,qJ,qf,or_false]at ho
   subst ho
   rfl
 ·match c,hc with
  | [x,y],_=>
   simp only[ordL,qJ,qf,or_false]at ho
   rcases ho with rfl|rfl<;>rfl
 ·match c,hc with
  | [x,y,z],_=>
   simp only[ordL,qJ,qf,or_false]at ho
   rcases ho with rfl|rfl|rfl|rfl|rfl|rfl<;>rfl
theorem zamz{p:Nat}(h1:1<=p)(h3:p<=3){o:List Nat}(ho:o∈ordL p):o.length=p:=by
 rcases(show p=1\/p=2\/p=3 by omega)with rfl|rfl|rfl<;>simp only[ordL,qJ,qf,or_false]at ho
 ·subst ho;rfl
 ·rcases ho with rfl|rfl<;>rfl
 ·rcases ho with rfl|rfl|rfl|rfl|rfl|rfl<;>rfl
theorem zavt{p:Nat}(h1:1<=p)(h3:p<=3){o:List Nat}(ho:o∈ordL p){c:List Str}(hc:c.length=p):(alg o c).length=p/\∀x∈alg o c,x∈c:=by
 rcases(show p=1\/p=2\/p=3 by omega)with rfl|rfl|rfl
 ·match c,hc with
  | [x],_=>
   simp only[ordL,qJ,qf,or_false]at ho
   subst ho
   exact⟨rfl,λy hy=>hy⟩
 ·match c,hc with
  | [x,y],_=>
   simp only[ordL,qJ,qf,or_false]at ho
   rcases ho with rfl|rfl
   ·exact⟨rfl,λz hz=>hz⟩
   ·refine⟨rfl,λz hz=>?_⟩
    have hz:z∈[y,x]:=hz
    simp at hz ⊢;exact hz.symm
 ·match c,hc with
  | [x,y,z],_=>
   simp only[ordL,qJ,qf,or_false]at ho
   rcases ho with rfl|rfl|rfl|rfl|rfl|rfl<;>refine⟨rfl,λu hu=>?_⟩
   ·exact hu
   ·have hu:u∈[x,z,y]:=hu
    simp at hu ⊢;rcases hu with h|h|h<;>simp[h]
   ·have hu:u∈[y,x,z]:=hu
    simp at hu ⊢;rcases hu with h|h|h<;>simp[h]
   ·have hu:u∈[z,x,y]:=hu
    simp at hu ⊢;rcases hu with h|h|h<;>simp[h]
   ·have hu:u∈[y,z,x]:=hu
    simp at hu ⊢;rcases hu with h|h|h<;>simp[h]
   ·have hu:u∈[z,y,x]:=hu
    simp at hu ⊢;rcases hu with h|h|h<;>simp[h]
noncomputable def ansO(W:Web)(R:List Rule)(o:List Nat)(c:List Str):PyData:=ziv (ansL W R (alg o c))
theorem ztu{W:Web}{p:Nat}{R:List Rule}(b:Bo W p R){o:List Nat}(ho:o∈ordL p):zdi [zax W p R,zcd o]=some (.list ((zgr (nm W) p).map (ansO W R o)),true):=by
 have hp:1<=p/\p<=3:=by have:=b.sz;unfold szB at this;omega
 have hW:1<=W.length/\W.length<=10:=by have:=b.sz;unfold szB at this;omega
 have hn:(nm W).length=W.length:=qG ..
 have h0:0<(nm W).length:=by omega
 have ol:=zamz hp.1 hp.2 ho
 have f2:sSet 2 (eOp repD (eLst (zaa (zas 1 zex (zaa (eIxV 0 (eC (.int 0))) aNil)) aNil)) (eCB lenD (zaa (eVar 1) aNil))) [.pl (zax W p R),.pl (zcd o),.no]=some (.nx [.pl (zax W p R),.pl (zcd o),.ac (.list (List.replicate p (zak (nm W))))]):=by
  have c1:zas 1 zex (zaa (eIxV 0 (eC (.int 0))) aNil) [.pl (zax W p R),.pl (zcd o),.no]=some ⟨zak (nm W),true,[]⟩:=zay (n:=1) (rs:=[⟨webD W,false,[]⟩]) rfl rfl (zvb (by omega))
  have l1:eLst (zaa (zas 1 zex (zaa (eIxV 0 (eC (.int 0))) aNil)) aNil) [.pl (zax W p R),.pl (zcd o),.no]=some ⟨.list [zak (nm W)],true,[]⟩:=by
   exact zazv (zuj (g:=aNil) (xs:=[]) c1 rfl) (by show 1<=100000;decide)
  have l2:eCB lenD (zaa (eVar 1) aNil) [.pl (zax W p R),.pl (zcd o),.no]=some (vi (p:Int)):=by
   show some (vi ((o.map λ(k:Nat)=>PyData.int (k:Int)).length:Int))=_
   rw[qG,ol]
  have l3:repD (.list [zak (nm W)]) (.int (p:Int))=some (.list (List.replicate p (zak (nm W))),true):=by
   rcases(show p=1\/p=2\/p=3 by omega)with rfl|rfl|rfl<;>rfl
  exact zgt (zgg l1 l2 l3)
 have it:zap (zas 1 zgb (zaa (eVar 2) aNil)) [.pl (zax W p R),.pl (zcd o),.ac (.list (List.replicate p (zak (nm W))))]=some ((zgr (nm W) p).map zaq,[2]):=by
  unfold zap
  rw[zay (n:=1) (rs:=[⟨.list (List.replicate p (zak (nm W))),false,[2]⟩]) rfl rfl (zaij h0 (by omega) hp.2 (λj hj=>by
   have sz:=b.sz
   have:=sz.pow
   rw[hn]
   refine qAd (qCP (by omega) hj) (by omega)))]
  rfl
 have cm:zdl (gN 0) zbi (zas 2 zhi (zaa (eVar 1) (zaa (zas 2 zdq (zaa (eVar 2) (zaa (eVar 0) aNil))) aNil))) (envB ["kinds"] [0,1] [.pl (zax W p R),.pl (zcd o),.ac (.list (List.replicate p (zak (nm W))))]) ((zgr (nm W) p).map zaq)=some ((zgr (nm W) p).map (ansO W R o)):=
  zbw λc hc=>by
   obtain⟨cl,ci⟩:=zaqt b.sz hc
   obtain⟨al,am⟩:=zavt hp.1 hp.2 ho cl
   have ck:CallOk W ((alg o c).map .one):=zazr (by omega) λx hx=>ci x (am x hx)
   have g:=zadp b.web b.rul ck
   rw[qG,al,<- zaqs]at g
   have ca:zas 2 zdq (zaa (eVar 2) (zaa (eVar 0) aNil)) [.pl (zaq c),.pl (zax W p R),.pl (zcd o)]=some ⟨zaq (alg o c),false,[]⟩:=by
    have:=zay (n:=2) (g:=zdq) (f:=zaa (eVar 2) (zaa (eVar 0) aNil)) (env:=[.pl (zaq c),.pl (zax W p R),.pl (zcd o)]) (rs:=[⟨zcd o,false,[]⟩,⟨zaq c,false,[]⟩]) rfl rfl (zacd hp.1 hp.2 ho cl)
    exact this
   have aa:zaa (eVar 1) (zaa (zas 2 zdq (zaa (eVar 2) (zaa (eVar 0) aNil))) aNil) [.pl (zaq c),.pl (zax W p R),.pl (zcd o)]=some [⟨zax W p R,false,[]⟩,⟨zaq (alg o c),false,[]⟩]:=by
    exact zuj rfl (zuj ca rfl)
   exact⟨[.pl (zaq c),.pl (zax W p R),.pl (zcd o)],rfl,rfl,_,zay (n:=2) aa rfl g,rfl⟩
 have hl:((zgr (nm W) p).map zaq).length<100000:=by rw[qG,zys _ h0,hn];exact qAd b.sz.pow (by decide)
 exact zhn (env:=[.pl (zax W p R),.pl (zcd o),.no]) rfl (zbf f2 (zez (zdy it hl cm)))
theorem zazw(xs:List PyData)(a b:Nat):cutD xs (some (a:Int)) (some (b:Int))=(xs.drop a).take (b - a):=by
 unfold cutD
 rw[HT.sIx_nat,HT.sIx_nat]
 by_cases ha:a<=xs.length
 ·rw[qBW ha]
  by_cases hb:b<=xs.length
  ·rw[qBW hb]
  ·rw[qBk (by omega),qAZ (by simp),qAZ (by simp;omega)]
 ·rw[show min a xs.length=xs.length by omega,qAu (qN _),qAu (by omega)]
  simp
noncomputable def cutL(row:List PyData)(n:Nat):List (List PyData):=(List.range n).map λi=>(row.drop (row.length / n * i)).take (row.length / n)
theorem zarw{a:EF}{env:DEnv}{n:Nat}{bs:List Nat}(ha:a env=some ⟨.int (n:Int),false,bs⟩)(h:n<=100000):zfu (zaa a aNil) env=some ((List.range n).map (λ(k:Nat)=>PyData.int (k:Int)),[]):=by
 have:=zavo (i:=(n:Int)) ha (by omega) (by omega)
 rw[this]
 congr 2
theorem zazx{row:List PyData}{n:Nat}(hn:1<=n)(hn2:n<=1000)(hr:row.length<=1000):zta [.list row,.int (n:Int)]=some (.list ((cutL row n).map .list),true):=by
 have f2:sSet 2 (eOp zqh (eCB lenD (zaa (eVar 0) aNil)) (eVar 1)) [.pl (.list row),.pl (.int (n:Int)),.no]=some (.nx [.pl (.list row),.pl (.int (n:Int)),.pl (.int ((row.length / n:Nat):Int))]):=by
  have:=zazb (a:=eCB lenD (zaa (eVar 0) aNil)) (b:=eVar 1) (env:=[.pl (.list row),.pl (.int (n:Int)),.no]) (i:=(row.length:Int)) (j:=(n:Int)) (zaay (a:=eVar 0) (fr:=false) (bs:=[]) rfl) rfl (by omega) (by omega)
  exact(zgt this).trans (by rw[<- Int.natCast_ediv];rfl)
 have cm:zdl (gN 0) zbi (eSl (eVar 1) (zqi (eOp mulD (eVar 2) (eVar 0))) (zqi (eOp mulD (eVar 2) (eOp addD (eVar 0) (eC (.int 1)))))) (envB ["number"] [0,2] [.pl (.list row),.pl (.int (n:Int)),.pl (.int ((row.length / n:Nat):Int))]) ((List.range n).map λ(k:Nat)=>PyData.int (k:Int))=some ((List.range n).map λi=>.list ((row.drop (row.length / n * i)).take (row.length / n))):=
  zbw λk hk=>by
   have hk:k<n:=qAR.mp hk
   refine⟨[.pl (.int (k:Int)),.pl (.list row),.pl (.int ((row.length / n:Nat):Int))],rfl,rfl,?_⟩
   have hd:row.length / n<=1000:=qAA (Nat.div_le_self _ _) hr
   have m1:=zazd (a:=eVar 2) (b:=eVar 0) (env:=[.pl (.int (k:Int)),.pl (.list row),.pl (.int ((row.length / n:Nat):Int))]) (i:=((row.length / n:Nat):Int)) (j:=(k:Int)) rfl rfl (.inr ⟨by omega,by omega⟩)
   have a1:=zazc (a:=eVar 0) (b:=eC (.int 1)) (env:=[.pl (.int (k:Int)),.pl (.list row),.pl (.int ((row.length / n:Nat):Int))]) (i:=(k:Int)) (j:=1) rfl rfl
   have m2:=zazd (a:=eVar 2) (env:=[.pl (.int (k:Int)),.pl (.list row),.pl (.int ((row.length / n:Nat):Int))]) (i:=((row.length / n:Nat):Int)) rfl a1 (.inr ⟨by omega,by omega⟩)
   have c1:((row.length / n:Nat):Int) * (k:Int)=((row.length / n * k:Nat):Int):=by rw[Int.natCast_mul]
   have c2:((row.length / n:Nat):Int) * ((k:Int)+1)=((row.length / n * (k+1):Nat):Int):=by rw[Int.natCast_mul];rfl
   rw[c1]at m1
   rw[c2]at m2
   refine⟨⟨.list ((row.drop (row.length / n * k)).take (row.length / n)),true,[]⟩,?_,rfl⟩
   unfold eSl zqi
   rw[show(eVar 1) [.pl (.int (k:Int)),.pl (.list row),.pl (.int ((row.length / n:Nat):Int))]=some ⟨.list row,false,[]⟩from rfl,m1,m2]
   show some (⟨.list (cutD row (some ((row.length / n * k:Nat):Int)) (some ((row.length / n * (k+1):Nat):Int))),true,[]⟩:Val)=_
   rw[zazw,show row.length / n * (k+1) - row.length / n * k=row.length / n by rw[Nat.mul_add,Nat.mul_one,qB7]]
 have it:=zarw (a:=eVar 1) (env:=[.pl (.list row),.pl (.int (n:Int)),.pl (.int ((row.length / n:Nat):Int))]) (n:=n) (bs:=[]) rfl (by omega)
 have:=zdy (own:=["number"]) (fr:=[0,2]) it (by simp;omega) cm
 refine zhn (env:=[.pl (.list row),.pl (.int (n:Int)),.no]) rfl (zbf f2 ((zez this).trans ?_))
 unfold cutL
 rw[qAY]
 rfl
theorem zaet{row:List PyData}{n L:Nat}(hn:1<=n)(h:row.length=n * L):(cutL row n).length=n/\∀x∈cutL row n,x.length=L/\∀d∈x,d∈row:=by
 have e:row.length / n=L:=by rw[h];exact Nat.mul_div_cancel_left L (by omega)
 refine⟨by unfold cutL;simp,λx hx=>?_⟩
 unfold cutL at hx
 rw[e]at hx
 obtain⟨i,hi,rfl⟩:=qu.mp hx
 have hi:i<n:=qAR.mp hi
 refine⟨?_,λd hd=>qA2 (List.mem_of_mem_take hd)⟩
 rw[qBj,qB8,h]
 have:L * i+L<=n * L:=by
  have:=Nat.mul_le_mul_left L (show i+1<=n by omega)
  rw[Nat.mul_add,Nat.mul_one]at this
  rw[qCc n L];exact this
 omega
noncomputable abbrev Lay(k:Nat)(d:PyData):Prop:=d.canLay0=true/\d.depth<=k
theorem zana{k:Nat}:∀{ds:List PyData},(∀d∈ds,Lay k d)->qAN ds=true/\qe ds<=k
 | [],_=>⟨rfl,qAQ _⟩
 | d::ds,h=>by
  obtain⟨h1,h2⟩:=h d qR
  obtain⟨g1,g2⟩:=zana λx hx=>h x (qL _ hx)
  refine⟨?_,Nat.max_le.mpr ⟨h2,g2⟩⟩
  unfold qAN
  rw[h1,g1];rfl
theorem zyu{k:Nat}{ds:List PyData}(h:∀d∈ds,Lay k d):Lay (k+1) (.list ds):=by
 obtain⟨h1,h2⟩:=zana h
 exact⟨by unfold PyData.canLay0;exact h1,Nat.succ_le_succ h2⟩
theorem zlc{k:Nat}{d:PyData}(h:Lay k d)(hk:k<=64):qt d=true:=by
 unfold qt
 rw[h.1,Bool.true_and]
 exact decide_eq_true (qAA h.2 hk)
noncomputable def addF(acc:List PyData)(d:PyData):List PyData:=if(acc.any λe=>qX e d)=true then acc else acc++[d]
noncomputable def zbm(ds:List PyData):List PyData:=ds.foldl addF []
noncomputable def numN(ds:List PyData):List Nat:=ds.map λd=>((zbm ds).findIdx? λe=>qX e d).getD 0
theorem zaqw(acc:List PyData)(d:PyData):(addF acc d).length<=acc.length+1:=by
 unfold addF;split<;>simp
theorem zyv:∀(ds acc:List PyData),∃t,ds.foldl addF acc=acc++t/\∀x∈t,x∈ds
 | [],acc=>⟨[],by simp,λx h=>(nomatch h)⟩
 | d::ds,acc=>by
  rw[qA4]
  obtain⟨t,e,ht⟩:=zyv ds (addF acc d)
  rw[e]
  unfold addF
  split
  ·exact⟨t,rfl,λx hx=>qL _ (ht x hx)⟩
  ·refine⟨d::t,by simp,λx hx=>?_⟩
   rcases qJ.mp hx with rfl|hx
   ·exact qR
   ·exact qL _ (ht x hx)
theorem zwe{ds:List PyData}(ok:∀d∈ds,d.canLay0=true){d:PyData}(hd:d∈ds):((zbm ds).any λe=>qX e d)=true:=by
 obtain⟨l,r,rfl⟩:=List.append_of_mem hd
 unfold zbm
 rw[qBG,qA4]
 obtain⟨t,e,_⟩:=zyv r (addF (l.foldl addF []) d)
 rw[e,List.any_append]
 have:((addF (l.foldl addF []) d).any λe=>qX e d)=true:=by
  unfold addF
  split
  ·rename_i h;exact h
  ·rw[List.any_append]
   simp[qB2 d (ok d (by simp))]
 rw[this];rfl
noncomputable def zaik(l:List PyData):Prop:=∀(i j:Nat)(x y:PyData),i<j->l[i]?=some x->l[j]?=some y->qX x y=false
theorem zanb{acc:List PyData}{d:PyData}(h:zaik acc):zaik (addF acc d):=by
 unfold addF
 split
 ·exact h
 ·rename_i hn
  intro i j x y hij hi hj
  by_cases hjl:j<acc.length
  ·rw[qk hjl]at hj
   rw[qk (by omega)]at hi
   exact h i j x y hij hi hj
  ·rw[qp (by omega)]at hj
   have hj':=(qM.mp hj).1
   have hj':j - acc.length<1:=hj'
   have e:j=acc.length:=by omega
   subst e
   simp at hj
   subst hj
   rw[qk hij]at hi
   have hm:=qAe hi
   cases hb:qX x d with
   | false=>rfl
   | true=>exact absurd (qAn.mpr ⟨x,hm,hb⟩) hn
theorem zace(ds:List PyData):zaik (zbm ds):=by
 unfold zbm
 have:∀(ds acc:List PyData),zaik acc->zaik (ds.foldl addF acc):=by
  intro ds
  induction ds with
  | nil=>intro acc h;exact h
  | cons d ds ih=>intro acc h;exact ih _ (zanb h)
 exact this ds [] λi j x y _ hi=>by simp at hi
theorem zpb{ds:List PyData}:∀x∈zbm ds,x∈ds:=λx hx=>by
 obtain⟨t,e,h⟩:=zyv ds []
 unfold zbm at hx
 rw[e]at hx
 exact h x (by simpa using hx)
theorem zpc(ds:List PyData):(zbm ds).length<=ds.length:=by
 have:∀(ds acc:List PyData),(ds.foldl addF acc).length<=acc.length+ds.length:=by
  intro ds
  induction ds with
  | nil=>intro acc;simp
  | cons d ds ih=>
   intro acc
   rw[qA4]
   have h1:=ih (addF acc d)
   have h2:=zaqw acc d
   rw[qy];omega
 have:=this ds []
 simpa [zbm]using this
theorem zavu{l:List PyData}(hA:zaik l){j:Nat}{x:PyData}(hj:l[j]?=some x)(hx:x.canLay0=true):(l.findIdx? λe=>qX e x)=some j:=by
 obtain⟨hl,e⟩:=qM.mp hj
 refine qAU.mpr ⟨hl,by rw[e];exact qB2 x hx,λi hi=>?_⟩
 have:=hA i j _ x hi (qH (by omega)) hj
 simp[this]
theorem zavv{ds:List PyData}(ok:∀d∈ds,d.canLay0=true):(∀k∈numN ds,k<(zbm ds).length)/\∀j,j<(zbm ds).length->j∈numN ds:=by
 constructor
 ·intro k hk
  obtain⟨d,hd,rfl⟩:=qu.mp hk
  have h:=zwe ok hd
  cases e:(zbm ds).findIdx? λe=>qX e d with
  | none=>
   rw[qBv]at e
   obtain⟨x,hx,hxe⟩:=qAn.mp h
   rw[e x hx]at hxe;cases hxe
  | some i=>exact(qAU.mp e).1
 ·intro j hj
  have hm:=zpb _ (qA9 hj)
  refine qu.mpr ⟨(zbm ds)[j],hm,?_⟩
  rw[zavu (zace ds) (qH hj) (ok _ hm)];rfl
theorem zail{ds:List PyData}{k:Nat}(hk:k<=60)(ok:∀d∈ds,Lay k d)(hl:ds.length<=1000):zhb [.list ds]=some (zcd (numN ds),true):=by
 obtain⟨e',lp,s2,rfl⟩:=zhh (enc:=λ(d:PyData)=>d) (g:=gN 2) (l:=ds) (env:=[.pl (.list ds),.ac (.list []),.no])
  (body:=(sIf (zck (eOp (inS true) (eVar 2) (eVar 1))) (sApp 1 (eVar 2)) sNil))
  (λpre env=>∃s2,env=[.pl (.list ds),.ac (.list (zbm pre)),s2]) ⟨.no,rfl⟩ (by
   rintro pre d post env hpre ⟨s2,rfl⟩
   have hd:Lay k d:=ok d (by rw[<- hpre];simp)
   have hf:Lay (k+1) (.list (zbm pre)):=zyu λx hx=>ok x (by rw[<- hpre];exact qi _ (zpb x hx))
   have hpl:pre.length<=1000:=by
    have:=congrArg List.length hpre
    rw[qK]at this;omega
   have tt:zck (eOp (inS true) (eVar 2) (eVar 1)) [.pl (.list ds),.ac (.list (zbm pre)),.pl d]=some (!((zbm pre).any λe=>qX e d)):=by
    refine zjy (zgg (x:=⟨d,false,[]⟩) (y:=⟨.list (zbm pre),false,[1]⟩) rfl rfl ?_)
    unfold inS
    show(if _/\_ then _ else _)=_
    rw[if_pos ⟨zlc hd (by omega),zlc hf (by omega)⟩]
    rfl
   refine⟨[.pl (.list ds),.ac (.list (zbm pre)),.pl d],[.pl (.list ds),.ac (.list (zbm (pre++[d]))),.pl d],rfl,.inl ?_,.pl d,rfl⟩
   have ef:zbm (pre++[d])=addF (zbm pre) d:=by unfold zbm;rw[qBG];rfl
   rw[ef]
   unfold addF
   cases hb:(zbm pre).any λe=>qX e d with
   | true=>
    rw[hb]at tt
    exact if_f tt rfl
   | false=>
    rw[hb]at tt
    rw[if_neg (by decide)]
    exact if_t tt (zarr (i:=1) (ds:=zbm pre) (d:=d) (fr:=false) rfl rfl (by have:=zpc pre;omega)))
 have lay:Lay (k+1) (.list (zbm ds)):=zyu λx hx=>ok x (zpb x hx)
 have fl:=zpc ds
 have cm:zdl (gN 0) zbi (zso (eVar 1) (eVar 0)) (envB ["mark"] [1] [.pl (.list ds),.ac (.list (zbm ds)),s2]) (ds.map λ(d:PyData)=>d)=some (ds.map λd=>.int (((zbm ds).findIdx? λe=>qX e d).getD 0:Nat)):=
  zbw λd hd=>by
   refine⟨[.pl d,.pl (.list (zbm ds))],rfl,rfl,?_⟩
   have h:=zwe (λx hx=>(ok x hx).1) hd
   cases e:(zbm ds).findIdx? λe=>qX e d with
   | none=>
    rw[qBv]at e
    obtain⟨x,hx,hxe⟩:=qAn.mp h
    rw[e x hx]at hxe;cases hxe
   | some i=>
    refine⟨⟨.int (i:Int),false,[]⟩,?_,rfl⟩
    unfold zso
    show(zadk (.list (zbm ds)) d).map (λj=>(⟨.int j,false,[]⟩:Val))=_
    unfold zadk
    dsimp only
    rw[if_pos ⟨zlc lay (by omega),zlc (ok d hd) (by omega),by omega⟩,e]
    rfl
 rw[List.map_id']at cm lp
 have:=zdy (own:=["mark"]) (fr:=[1]) (env:=[.pl (.list ds),.ac (.list (zbm ds)),s2]) (fi:=zap (eVar 0)) (ds:=ds) (bs:=[]) rfl (by omega) cm
 refine zhn (env:=[.pl (.list ds),.no,.no]) rfl (zbf (e1:=[.pl (.list ds),.ac (.list []),.no]) rfl (zbf (zir (fr:=false) (bs:=[]) rfl lp) ((zez this).trans ?_)))
 unfold zcd numN
 rw[qAY]
 rfl
noncomputable abbrev wkE(B O:PyData)(n:Nat)(s3 s4 s5 s6 s7:Sl):DEnv:=[.pl B,.pl O,.pl (.int (n:Int)),s3,s4,s5,s6,s7]
noncomputable abbrev wkP:EF:=zmq ["row","part"] [2] (zap (eVar 3)) (gN 0) zbi (zap (zas 2 zta (zaa (eVar 0) (zaa (eVar 2) aNil)))) (gN 1) zbi (eVar 1)
noncomputable abbrev wkN:EF:=zdb ["number"] [6,7] (zfu (zaa (eOp addD (eCB zadf (zaa (eVar 7) aNil)) (eC (.int 1))) aNil)) (gN 0) zbi (eIxV 1 (zmw (eVar 2) (eVar 0)))
noncomputable abbrev wkB:SF:=(sSeq (sSet 6 wkP)
  (sSeq (sSet 7 (zas 1 zhb (zaa (eVar 6) aNil)))
  (sSeq (sApp 4 (zas 2 zta (zaa (eVar 7) (zaa (eCB lenD (zaa (eVar 3) aNil)) aNil))))
  (sSet 3 wkN))))
noncomputable def zby(rows:List (List PyData))(n:Nat):List (List PyData):=rows.flatMap λr=>cutL r n
theorem zaqx{rows:List (List PyData)}{n L:Nat}(hn:1<=n)(hr:∀r∈rows,r.length=n * L/\∀d∈r,Lay 5 d):(zby rows n).length=rows.length * n/\∀x∈zby rows n,x.length=L/\∀d∈x,Lay 5 d:=by
 constructor
 ·unfold zby
  induction rows with
  | nil=>simp
  | cons r rows ih=>
   rw[qCY,qK,ih λx hx=>hr x (qL _ hx),(zaet hn (hr r qR).1).1,qy,Nat.add_mul,Nat.one_mul,Nat.add_comm]
 ·intro x hx
  obtain⟨r,hrm,hx⟩:=qBi.mp hx
  obtain⟨h1,h2⟩:=(zaet hn (hr r hrm).1).2 x hx
  exact⟨h1,λd hd=>(hr r hrm).2 d (h2 d hd)⟩
theorem ztv{l:List (List PyData)}(h:l≠[]):zdm (l.map .list)=false:=by
 cases l with
 | nil=>exact absurd rfl h
 | cons a l=>rfl
theorem zagi(l:List Nat):(l.map λ(k:Nat)=>PyData.int (k:Int)).length=l.length:=by simp
theorem zaim(l:List Nat):zdm (l.map λ(k:Nat)=>PyData.int (k:Int))=true:=by
 unfold zdm
 rw[qC9]
 exact qAE.mpr λ_ _=>rfl
theorem zanc{l:List Nat}{k:Nat}(h:k∈l):∃i,((l.map λ(k:Nat)=>PyData.int (k:Int)).findIdx? λe=>qX e (.int (k:Int)))=some i/\i<l.length:=by
 cases e:(l.map λ(k:Nat)=>PyData.int (k:Int)).findIdx? λe=>qX e (.int (k:Int))with
 | none=>
  rw[qBv]at e
  have:=e (.int (k:Int)) (qu.mpr ⟨k,h,rfl⟩)
  rw[qB2 _ rfl]at this;cases this
 | some i=>
  have:=(qAU.mp e).1
  exact⟨i,rfl,by simpa using this⟩
theorem zand{B O:PyData}{n L pl:Nat}{rows:List (List PyData)}{ws:List PyData}{s6 s7:Sl}(hn:1<=n)(hn2:n<=10)(hm:1<=rows.length)(hm2:rows.length<=100)(hr:∀r∈rows,r.length=n * L/\∀d∈r,Lay 5 d)(hL2:n * L<=1000)(hw:ws.length<=10) :
  ∃(rows':List (List PyData))(lv:List PyData)(t6 t7:Sl),wkB (wkE B O n (.ac (.list (rows.map .list))) (.ac (.list ws)) (.pl (.int (pl:Int))) s6 s7)=some (.nx (wkE B O n (.ac (.list (rows'.map .list))) (.ac (.list (ws++[.list lv]))) (.pl (.int (pl:Int))) t6 t7))/\1<=rows'.length/\rows'.length<=rows.length * n/\∀r∈rows',r.length=L/\∀d∈r,Lay 5 d:=by
 obtain⟨plen,pok⟩:=zaqx hn hr
 have pm:(zby rows n).length<=1000:=by
  rw[plen]
  have:=qCv hm2 hn2
  omega
 have p1:1<=(zby rows n).length:=by rw[plen];exact qCv hm hn
 have pne:zby rows n≠[]:=λz=>by rw[z]at p1;simp at p1
 have f6:sSet 6 wkP (wkE B O n (.ac (.list (rows.map .list))) (.ac (.list ws)) (.pl (.int (pl:Int))) s6 s7)=some (.nx (wkE B O n (.pl (.list (rows.map .list))) (.ac (.list ws)) (.pl (.int (pl:Int))) (.ac (.list ((zby rows n).map .list))) s7)):=by
  have cm:zie (gN 0) zbi (zap (zas 2 zta (zaa (eVar 0) (zaa (eVar 2) aNil)))) (gN 1) zbi (eVar 1) [.no,.no,.pl (.int (n:Int))] (rows.map .list)=some (rows.flatMap λr=>(cutL r n).map .list):=
   zit λr hrm=>⟨[.pl (.list r),.no,.pl (.int (n:Int))],rfl,rfl,by
    have c1:=zay (n:=2) (g:=zta) (f:=zaa (eVar 0) (zaa (eVar 2) aNil)) (env:=[.pl (.list r),.no,.pl (.int (n:Int))]) (rs:=[⟨.list r,false,[]⟩,vi (n:Int)]) rfl rfl (zazx hn (by omega) (by rw[(hr r hrm).1];exact hL2))
    unfold innL zap
    rw[c1]
    show(if((cutL r n).map PyData.list).length<300 then _ else _)=_
    rw[if_pos (by rw[qG,(zaet hn (hr r hrm).1).1];omega)]
    exact zbw λx hx=>⟨[.pl (.list r),.pl (.list x),.pl (.int (n:Int))],rfl,rfl,_,rfl,rfl⟩⟩
  have:=zxp (own:=["row","part"]) (fr:=[2]) (env:=wkE B O n (.ac (.list (rows.map .list))) (.ac (.list ws)) (.pl (.int (pl:Int))) s6 s7) (fi:=zap (eVar 3)) (ds:=rows.map .list) (bs:=[3]) rfl (by rw[qG];omega) cm
  rw[show(rows.flatMap λr=>(cutL r n).map PyData.list)=(zby rows n).map .list by unfold zby;rw[qCd],if_neg (by rw[ztv pne];decide)]at this
  exact(zgt this).trans rfl
 have pl5:∀d∈(zby rows n).map PyData.list,Lay 6 d:=λd hd=>by
  obtain⟨x,hx,rfl⟩:=qu.mp hd
  exact zyu (pok x hx).2
 have gn:=zail (ds:=(zby rows n).map .list) (k:=6) (by decide) pl5 (by rw[qG];exact pm)
 generalize hnu:numN ((zby rows n).map PyData.list)=nums at gn
 have nl:nums.length=(zby rows n).length:=by rw[<- hnu];unfold numN;simp
 obtain⟨nlt,nall⟩:=zavv (ds:=(zby rows n).map PyData.list) (λd hd=>(pl5 d hd).1)
 rw[hnu]at nlt nall
 have nne:nums≠[]:=λz=>by rw[z]at nl;simp at nl;omega
 have f7:sSet 7 (zas 1 zhb (zaa (eVar 6) aNil)) (wkE B O n (.pl (.list (rows.map .list))) (.ac (.list ws)) (.pl (.int (pl:Int))) (.ac (.list ((zby rows n).map .list))) s7)=some (.nx (wkE B O n (.pl (.list (rows.map .list))) (.ac (.list ws)) (.pl (.int (pl:Int))) (.pl (.list ((zby rows n).map .list))) (.ac (zcd nums)))):=
  (zgt (zay (n:=1) (rs:=[⟨.list ((zby rows n).map .list),false,[6]⟩]) rfl rfl gn)).trans rfl
 have f4:sApp 4 (zas 2 zta (zaa (eVar 7) (zaa (eCB lenD (zaa (eVar 3) aNil)) aNil))) (wkE B O n (.pl (.list (rows.map .list))) (.ac (.list ws)) (.pl (.int (pl:Int))) (.pl (.list ((zby rows n).map .list))) (.ac (zcd nums)))=some (.nx (wkE B O n (.pl (.list (rows.map .list))) (.ac (.list (ws++[.list ((cutL (nums.map λ(k:Nat)=>PyData.int (k:Int)) rows.length).map .list)]))) (.pl (.int (pl:Int))) (.pl (.list ((zby rows n).map .list))) (.pl (zcd nums)))):=by
  have l1:eCB lenD (zaa (eVar 3) aNil) (wkE B O n (.pl (.list (rows.map .list))) (.ac (.list ws)) (.pl (.int (pl:Int))) (.pl (.list ((zby rows n).map .list))) (.ac (zcd nums)))=some (vi (rows.length:Int)):=by
   have:=zaay (a:=eVar 3) (env:=wkE B O n (.pl (.list (rows.map .list))) (.ac (.list ws)) (.pl (.int (pl:Int))) (.pl (.list ((zby rows n).map .list))) (.ac (zcd nums))) (ds:=rows.map .list) (fr:=false) (bs:=[]) rfl
   rw[qG]at this;exact this
  have a1:=zuj (a:=eVar 7) (env:=wkE B O n (.pl (.list (rows.map .list))) (.ac (.list ws)) (.pl (.int (pl:Int))) (.pl (.list ((zby rows n).map .list))) (.ac (zcd nums))) (x:=⟨zcd nums,false,[7]⟩) rfl (zuj (g:=aNil) (xs:=[]) l1 rfl)
  have c1:=zay (n:=2) (g:=zta) a1 rfl (zazx (row:=nums.map λ(k:Nat)=>PyData.int (k:Int)) (n:=rows.length) hm (by omega) (by rw[zagi];omega))
  exact(zaeo (i:=4) (ds:=ws) rfl c1 (by omega) (by simp[bsOf,zgp,bss])).trans rfl
 have mxl:mxN nums<(zbm ((zby rows n).map PyData.list)).length:=nlt _ (zaes nne)
 have fl:=zpc ((zby rows n).map PyData.list)
 rw[qG]at fl
 have f3:∃rows':List (List PyData),sSet 3 wkN (wkE B O n (.pl (.list (rows.map .list))) (.ac (.list (ws++[.list ((cutL (nums.map λ(k:Nat)=>PyData.int (k:Int)) rows.length).map .list)]))) (.pl (.int (pl:Int))) (.pl (.list ((zby rows n).map .list))) (.pl (zcd nums)))=some (.nx (wkE B O n (.ac (.list (rows'.map .list))) (.ac (.list (ws++[.list ((cutL (nums.map λ(k:Nat)=>PyData.int (k:Int)) rows.length).map .list)]))) (.pl (.int (pl:Int))) (.pl (.list ((zby rows n).map .list))) (.pl (zcd nums))))/\rows'.length=mxN nums+1/\∀r∈rows',r∈zby rows n:=by
  have key:∀k,k<mxN nums+1->∃x∈zby rows n,eIxV 1 (zmw (eVar 2) (eVar 0)) [.pl (.int (k:Int)),.pl (.list ((zby rows n).map .list)),.pl (zcd nums)]=some ⟨.list x,false,[]⟩:=λk hk=>by
   obtain⟨i,ei,hi⟩:=zanc (nall k (by omega))
   have ix:zmw (eVar 2) (eVar 0) [.pl (.int (k:Int)),.pl (.list ((zby rows n).map .list)),.pl (zcd nums)]=some (vi (i:Int)):=by
    unfold zmw
    show(if _/\_/\_ then _ else _)=_
    rw[if_pos ⟨rfl,zaim nums,by rw[zagi];omega⟩,ei];rfl
   have hi':i<(zby rows n).length:=by omega
   refine⟨(zby rows n)[i],qA9 hi',?_⟩
   show eOp ixD (eVar 1) (zmw (eVar 2) (eVar 0)) [.pl (.int (k:Int)),.pl (.list ((zby rows n).map .list)),.pl (zcd nums)]=_
   exact zgg (x:=⟨.list ((zby rows n).map .list),false,[]⟩) rfl ix (by
    show(atI ((zby rows n).map PyData.list) (i:Int)).map (λd=>(d,false))=_
    rw[zarp PyData.list (qH hi')];rfl)
  let pick:Nat->List PyData:=λk=>if h:k<mxN nums+1 then(key k h).choose else[]
  have cm:zdl (gN 0) zbi (eIxV 1 (zmw (eVar 2) (eVar 0))) [.no,.pl (.list ((zby rows n).map .list)),.pl (zcd nums)] ((List.range (mxN nums+1)).map λ(k:Nat)=>PyData.int (k:Int))=some ((List.range (mxN nums+1)).map λk=>.list (pick k)):=
   zbw λk hk=>by
    have hk:=qAR.mp hk
    refine⟨[.pl (.int (k:Int)),.pl (.list ((zby rows n).map .list)),.pl (zcd nums)],rfl,rfl,_,(key k hk).choose_spec.2,?_⟩
    show PyData.list (key k hk).choose=.list (pick k)
    rw[show pick k=(key k hk).choose from dif_pos hk]
  have mx:=zbbj (r:=7) (env:=wkE B O n (.pl (.list (rows.map .list))) (.ac (.list (ws++[.list ((cutL (nums.map λ(k:Nat)=>PyData.int (k:Int)) rows.length).map .list)]))) (.pl (.int (pl:Int))) (.pl (.list ((zby rows n).map .list))) (.pl (zcd nums))) rfl nne
  have ad:=zazc (b:=eC (.int 1)) (j:=1) mx rfl
  have it:=zarw (n:=mxN nums+1) (bs:=[]) ad (by omega)
  have:=zdy (own:=["number"]) (fr:=[6,7]) it (by simp;omega) cm
  refine⟨(List.range (mxN nums+1)).map pick,?_,by simp,λr hr'=>?_⟩
  ·rw[if_neg (by rw[show((List.range (mxN nums+1)).map λk=>PyData.list (pick k))=((List.range (mxN nums+1)).map pick).map .list by rw[qAY];rfl,ztv (by simp)];decide)]at this
   rw[show((List.range (mxN nums+1)).map λk=>PyData.list (pick k))=((List.range (mxN nums+1)).map pick).map .list by rw[qAY];rfl]at this
   exact(zgt this).trans rfl
  ·obtain⟨k,hk,rfl⟩:=qu.mp hr'
   have hk:=qAR.mp hk
   rw[show pick k=(key k hk).choose from dif_pos hk]
   exact(key k hk).choose_spec.1
 obtain⟨rows',f3,rl,rin⟩:=f3
 refine⟨rows',_,_,_,zbf f6 (zbf f7 (zbf f4 f3)),by omega,by rw[rl,<- plen];omega,λr hr'=>pok r (rin r hr')⟩
theorem zain(xs:List Str):qe (xs.map .str)=0:=by
 induction xs with
 | nil=>rfl
 | cons x xs ih=>rw[qa];show max 0 (qe (xs.map .str))=0;rw[ih];rfl
theorem zaio{xs:List Str}(h:LowS xs):Lay 5 (ziv xs):=by
 refine⟨qAS (zyt h),?_⟩
 match xs with
 | []=>decide
 | [x]=>
  have:(ziv [x]).depth=1:=rfl
  omega
 | x::y::r=>
  have:(ziv (x::y::r)).depth=max 0 (max (qe ((x::y::r).map .str)+1) 0)+1:=rfl
  rw[this,zain];decide
theorem zane{W:Web}{p:Nat}{R:List Rule}(b:Bo W p R){o:List Nat}(ho:o∈ordL p):∃(ls:List (List PyData))(fr:Bool),zdw [zax W p R,zcd o]=some (.list (ls.map .list),fr)/\ls.length<=100:=by
 have hp:1<=p/\p<=3:=by have:=b.sz;unfold szB at this;omega
 have hW:1<=W.length/\W.length<=10:=by have:=b.sz;unfold szB at this;omega
 have hn:(nm W).length=W.length:=qG ..
 have ol:=zamz hp.1 hp.2 ho
 have pw:=b.sz.pow
 have pl:∀j,j<=p->W.length ^ j<=W.length ^ p:=λj hj=>qCP hW.1 hj
 have p2:∀j,j+1<=p->W.length ^ j<=100:=λj hj=>by
  have h3:j<=2:=by omega
  exact qAA (Nat.pow_le_pow_left hW.2 j) (qAA (qCP (by decide) h3) (by decide))
 have f2:sSet 2 (eCB lenD (zaa (eIxV 0 (eC (.int 0))) aNil)) [.pl (zax W p R),.pl (zcd o),.no,.no,.no,.no,.no,.no]=some (.nx (wkE (zax W p R) (zcd o) W.length .no .no .no .no .no)):=by
  have:=zaay (a:=eIxV 0 (eC (.int 0))) (env:=[.pl (zax W p R),.pl (zcd o),.no,.no,.no,.no,.no,.no]) (ds:=W.map rowD) (fr:=false) (bs:=[]) rfl
  rw[qG]at this
  exact zgt this
 have c1:=zay (n:=2) (g:=zdi) (f:=zaa (eVar 0) (zaa (eVar 1) aNil)) (env:=wkE (zax W p R) (zcd o) W.length .no .no .no .no .no) (rs:=[⟨zax W p R,false,[]⟩,⟨zcd o,false,[]⟩]) rfl rfl (ztu b ho)
 have f3:sSet 3 (eLst (zaa (zas 2 zdi (zaa (eVar 0) (zaa (eVar 1) aNil))) aNil)) (wkE (zax W p R) (zcd o) W.length .no .no .no .no .no)=some (.nx (wkE (zax W p R) (zcd o) W.length (.ac (.list ([(zgr (nm W) p).map (ansO W R o)].map .list))) .no .no .no .no)):=
  (zgt (zazv (zuj (g:=aNil) (xs:=[]) c1 rfl) (by show 1<=100000;decide))).trans rfl
 obtain⟨e',lp,rows,ws,s5,s6,s7,rfl,h1,h2,h3,h4,h5⟩:=zhh (enc:=λ(k:Nat)=>PyData.int (k:Int)) (g:=gN 5) (l:=o) (body:=wkB) (env:=wkE (zax W p R) (zcd o) W.length (.ac (.list ([(zgr (nm W) p).map (ansO W R o)].map .list))) (.ac (.list [])) .no .no .no)
  (λpre env=>∃(rows:List (List PyData)) (ws:List (List PyData)) (s5 s6 s7:Sl),env=wkE (zax W p R) (zcd o) W.length (.ac (.list (rows.map .list))) (.ac (.list (ws.map .list))) s5 s6 s7/\1<=rows.length/\rows.length<=W.length ^ pre.length/\(∀r∈rows,r.length=W.length ^ (p - pre.length)/\∀d∈r,Lay 5 d)/\ws.length=pre.length/\pre.length<=p)
  ⟨_,[],.no,.no,.no,rfl,by simp,by simp,λr hr=>by
   rw[ql.mp hr]
   refine⟨by rw[qG,zys _ (by omega),hn];rfl,λd hd=>?_⟩
   obtain⟨c,_,rfl⟩:=qu.mp hd
   exact zaio (zavr b _),rfl,qAQ _⟩ (by
   rintro pre x post env hpre ⟨rows,ws,s5,s6,s7,rfl,h1,h2,h3,h4,h5⟩
   have hlen:pre.length+1<=p:=by
    have:=congrArg List.length hpre
    rw[qK,qy,ol]at this
    omega
   have e1:W.length ^ (p - pre.length)=W.length * W.length ^ (p - (pre.length+1)):=by
    rw[show p - pre.length=(p - (pre.length+1))+1 by omega,qDF,qCc]
   obtain⟨rows',lv,t6,t7,ee,g1,g2,g3⟩:=zand (B:=zax W p R) (O:=zcd o) (n:=W.length) (L:=W.length ^ (p - (pre.length+1))) (pl:=x) (rows:=rows) (ws:=ws.map .list) (s6:=s6) (s7:=s7) hW.1 hW.2 h1 (qAA h2 (p2 _ hlen)) (λr hr=>by rw[<- e1];exact h3 r hr) (by rw[<- e1];exact qAA (pl _ (by omega)) (by omega)) (by rw[qG];omega)
   refine⟨_,_,rfl,.inl ee,rows',ws++[lv],_,t6,t7,by rw[qAF];rfl,g1,?_,λr hr=>?_,by simp[h4],by simp;omega⟩
   ·rw[qK,qCG,qDF]
    exact qAA g2 (Nat.mul_le_mul_right _ h2)
   ·rw[qK,qCG];exact g3 r hr)
 rw[ol]at h2 h3 h4
 rw[qCN]at h3
 have rl:rows.length<100000:=by omega
 have cm:zdl (gN 0) zbi (eIxV 0 (eC (.int 0))) [.no] (rows.map .list)=some (rows.map λr=>r.headD .none):=
  zbw λr hr=>by
   have:=(h3 r hr).1
   match r,this with
   | [d],_=>exact⟨[.pl (.list [d])],rfl,rfl,_,rfl,rfl⟩
 have cc:=zdy (own:=["row"]) (fr:=[]) (env:=wkE (zax W p R) (zcd o) W.length (.ac (.list (rows.map .list))) (.ac (.list (ws.map .list))) s5 s6 s7) (fi:=zap (eVar 3)) (ds:=rows.map .list) (bs:=[3]) rfl (by rw[qG];exact rl) cm
 obtain⟨s3',fL⟩:∃s3',sApp 4 (zdb ["row"] [] (zap (eVar 3)) (gN 0) zbi (eIxV 0 (eC (.int 0)))) (wkE (zax W p R) (zcd o) W.length (.ac (.list (rows.map .list))) (.ac (.list (ws.map .list))) s5 s6 s7)=some (.nx (wkE (zax W p R) (zcd o) W.length s3' (.ac (.list ((ws++[rows.map λr=>r.headD .none]).map .list))) s5 s6 s7)):=by
  rw[qAF]
  by_cases hf:zdm (rows.map λr=>r.headD PyData.none)=true
  ·rw[if_pos hf]at cc
   exact⟨_,(zaeo (i:=4) (ds:=ws.map .list) rfl cc (by rw[qG];omega) (by simp)).trans rfl⟩
  ·rw[if_neg hf]at cc
   exact⟨_,(zaeo (i:=4) (ds:=ws.map .list) rfl cc (by rw[qG];omega) (by simp[capA])).trans rfl⟩
 refine⟨ws++[rows.map λr=>r.headD .none],true,zhn (env:=[.pl (zax W p R),.pl (zcd o),.no,.no,.no,.no,.no,.no]) rfl (zbf f2 (zbf f3 (zbf (e1:=wkE (zax W p R) (zcd o) W.length (.ac (.list ([(zgr (nm W) p).map (ansO W R o)].map .list))) (.ac (.list [])) .no .no .no) rfl (zbf (zir (fr:=false) (bs:=[]) rfl lp) (zbf fL rfl))))),by simp;omega⟩
noncomputable def lvO(B:PyData)(r:List Int):List (List PyData):=match zdw [B,zbz r]with
 | some (.list ds,_)=>ds.map λd=>match d with
  | .list x=>x
  | _=>[]
 | _=>[]
noncomputable def cntO(B:PyData)(r:List Int):Int:=((lvO B r).map λl=>(l.length:Int)).sum
noncomputable def ordI(p:Nat):List (List Int):=(ordL p).map λo=>o.map λ(k:Nat)=>(k:Int)
theorem zanf(o:List Nat):zbz (o.map λ(k:Nat)=>(k:Int))=zcd o:=by unfold zbz zcd;rw[qAY];rfl
noncomputable def Walks(B:PyData)(p:Nat):Prop:=∀r∈ordI p,∃fr,zdw [B,zbz r]=some (.list ((lvO B r).map .list),fr)/\(lvO B r).length<=100
theorem zagj{W:Web}{p:Nat}{R:List Rule}(b:Bo W p R):Walks (zax W p R) p:=λr hr=>by
 obtain⟨o,ho,rfl⟩:=qu.mp hr
 rw[zanf]
 obtain⟨ls,fr,e,hl⟩:=zane b ho
 have:lvO (zax W p R) (o.map λ(k:Nat)=>(k:Int))=ls:=by
  unfold lvO
  rw[zanf,e]
  dsimp only
  rw[qAY]
  exact(qBn λ_ _=>rfl).trans (List.map_id _)
 rw[this]
 exact⟨fr,e,hl⟩
theorem zacf:∀(ns:List Int),zmv (ns.map .int)=some ns
 | []=>rfl
 | n::ns=>by show(zmv (ns.map .int)).map _=_;rw[zacf ns];rfl
noncomputable abbrev cntE(x:Str)(f:EF):EF:=eCB zadi (zaa (zdb [x] [] (zap f) (gN 0) zbi (eCB lenD (zaa (eVar 0) aNil))) aNil)
theorem zarx{x:Str}{f:EF}{env:DEnv}{ls:List (List PyData)}{fr:Bool}{bs:List Nat}(hf:f env=some ⟨.list (ls.map .list),fr,bs⟩)(hl:ls.length<=100):cntE x f env=some (vi (ls.map λl=>(l.length:Int)).sum):=by
 have cm:zdl (gN 0) zbi (eCB lenD (zaa (eVar 0) aNil)) (envB [x] [] env) (ls.map .list)=some (ls.map λl=>.int (l.length:Int)):=zbw λl _=>⟨[.pl (.list l)],rfl,rfl,_,rfl,rfl⟩
 have:=zdy (own:=[x]) (fr:=[]) (fi:=zap f) (env:=env) (ds:=ls.map .list) (bs:=bs) (by unfold zap;rw[hf];rfl) (by rw[qG];omega) cm
 show(zaa (zdb [x] [] (zap f) (gN 0) zbi (eCB lenD (zaa (eVar 0) aNil))) aNil env).bind _=_
 rw[zuj (g:=aNil) (xs:=[]) this rfl]
 show(zadi [.list (ls.map λl=>PyData.int (l.length:Int))]).bind _=_
 rw[show(ls.map λl=>PyData.int (l.length:Int))=(ls.map λl=>(l.length:Int)).map .int by rw[qAY];rfl]
 unfold zadi
 dsimp only
 rw[zacf]
 rfl
theorem zavw{ls:List (List PyData)}(hl:ls.length<=100):zek [.list (ls.map .list)]=some (.int (ls.map λl=>(l.length:Int)).sum,false):=
 zhn (env:=[.pl (.list (ls.map .list))]) rfl (zez (zarx (x:="level") (f:=eVar 0) (fr:=false) (bs:=[]) rfl hl))
theorem zaqy{p:Nat}(h1:1<=p)(h3:p<=3):∃fr,zgn [.int (p:Int)]=some (.list ((ordI p).map zbz),fr):=by
 rcases(show p=1\/p=2\/p=3 by omega)with rfl|rfl|rfl
 ·exact⟨_,rfl⟩
 ·exact⟨_,rfl⟩
 ·exact⟨_,rfl⟩
noncomputable def zno(B:PyData)(p:Nat):List Int:=match ordI p with
 | []=>[]
 | r::rs=>((rs.map λr=>(r,cntO B r)).foldl zji (r,cntO B r)).1
noncomputable abbrev ckE(B:PyData)(s1 s2 s3 s4:Sl):DEnv:=[.pl B,s1,s2,s3,s4]
noncomputable def ckI(B:PyData):List (List Int)->DEnv->Prop
 | [],env=>∃s3 s4,env=ckE B (.pl .none) (.pl .none) s3 s4
 | r::rs,env=>∃s3 s4,env=ckE B (.pl (.int ((rs.map λr=>(r,cntO B r)).foldl zji (r,cntO B r)).2)) (.pl (zbz ((rs.map λr=>(r,cntO B r)).foldl zji (r,cntO B r)).1)) s3 s4
theorem ltI(a b:Int):ltD (.int a) (.int b)=some (.bool (decide (a<b)),false):=by
 unfold ltD
 rfl
theorem zang{B:PyData}{W:PyData}{p:Nat}{R:PyData}(hB:B=.tuple [W,.int (p:Int),R])(h1:1<=p)(h3:p<=3)(hw:Walks B p):zcy [B]=some (zbz (zno B p),false):=by
 obtain⟨fro,go⟩:=zaqy h1 h3
 have ix:eIxV 0 (eC (.int 1)) (ckE B (.pl .none) (.pl .none) .no .no)=some (vi (p:Int)):=by subst hB;rfl
 have co:=zay (n:=1) (g:=zgn) (f:=zaa (eIxV 0 (eC (.int 1))) aNil) (env:=ckE B (.pl .none) (.pl .none) .no .no) (zuj (g:=aNil) (xs:=[]) ix rfl) rfl go
 obtain⟨e',lp,hI⟩:=zhh (enc:=zbz) (g:=gN 3) (l:=ordI p) (env:=ckE B (.pl .none) (.pl .none) .no .no)
  (body:=(sSeq (sSet 4 (cntE "_law_nodes" (zas 2 zdw (zaa (eVar 0) (zaa (eCB zlv (zaa (eVar 3) aNil)) aNil)))))
  (sIf (tOrF (zck (eIsN false (eVar 1))) (zck (eOp ltD (eVar 4) (eVar 1)))) (sSeq (sSet 1 (eVar 4))
  (sSet 2 (eVar 3))) sNil)))
  (ckI B) ⟨.no,.no,rfl⟩ (by
   intro pre r post env hpre hI
   obtain⟨fr,gw,gl⟩:=hw r (by rw[<- hpre];simp)
   have st:∀s1 s2 s4,sSet 4 (cntE "_law_nodes" (zas 2 zdw (zaa (eVar 0) (zaa (eCB zlv (zaa (eVar 3) aNil)) aNil)))) (ckE B (.pl s1) (.pl s2) (.pl (zbz r)) s4)=some (.nx (ckE B (.pl s1) (.pl s2) (.pl (zbz r)) (.pl (.int (cntO B r))))):=λs1 s2 s4=>by
    have c1:=zay (n:=2) (g:=zdw) (f:=zaa (eVar 0) (zaa (eCB zlv (zaa (eVar 3) aNil)) aNil)) (env:=ckE B (.pl s1) (.pl s2) (.pl (zbz r)) s4) (rs:=[⟨B,false,[]⟩,⟨zbz r,true,[]⟩]) rfl rfl gw
    exact zgt (zarx c1 gl)
   cases pre with
   | nil=>
    obtain⟨s3,s4,rfl⟩:=hI
    exact⟨_,ckE B (.pl (.int (cntO B r))) (.pl (zbz r)) (.pl (zbz r)) (.pl (.int (cntO B r))),rfl,.inl (zbf (st _ _ _) (if_t rfl rfl)),_,_,rfl⟩
   | cons q qs=>
    obtain⟨s3,s4,rfl⟩:=hI
    have ee:(((qs++[r]).map λr=>(r,cntO B r)).foldl zji (q,cntO B q))=zji ((qs.map λr=>(r,cntO B r)).foldl zji (q,cntO B q)) (r,cntO B r):=by rw[qAF,qBG];rfl
    show ∃e1 e2,_/\_/\∃s3 s4,e2=ckE B (.pl (.int (((qs++[r]).map λr=>(r,cntO B r)).foldl zji (q,cntO B q)).2)) (.pl (zbz (((qs++[r]).map λr=>(r,cntO B r)).foldl zji (q,cntO B q)).1)) s3 s4
    rw[ee]
    generalize (qs.map λr=>(r,cntO B r)).foldl zji (q,cntO B q)=bb
    have tt:tOrF (zck (eIsN false (eVar 1))) (zck (eOp ltD (eVar 4) (eVar 1))) (ckE B (.pl (.int bb.2)) (.pl (zbz bb.1)) (.pl (zbz r)) (.pl (.int (cntO B r))))=some (decide (cntO B r<bb.2)):=by
     unfold tOrF
     rw[show zck (eIsN false (eVar 1)) (ckE B (.pl (.int bb.2)) (.pl (zbz bb.1)) (.pl (zbz r)) (.pl (.int (cntO B r))))=some false from rfl]
     exact zjy (zgg (w:=ltD) (a:=eVar 4) (b:=eVar 1) (env:=ckE B (.pl (.int bb.2)) (.pl (zbz bb.1)) (.pl (zbz r)) (.pl (.int (cntO B r)))) (x:=vi (cntO B r)) (y:=vi bb.2) rfl rfl (ltI _ _))
    unfold zji
    by_cases hlt:cntO B r<bb.2
    ·rw[decide_eq_true hlt]at tt
     rw[if_pos hlt]
     exact⟨_,_,rfl,.inl (zbf (st _ _ _) (if_t tt rfl)),_,_,rfl⟩
    ·rw[decide_eq_false hlt]at tt
     rw[if_neg hlt]
     exact⟨_,_,rfl,.inl (zbf (st _ _ _) (if_f tt rfl)),_,_,rfl⟩)
 have fin:∃s1 s3 s4,e'=ckE B s1 (.pl (zbz (zno B p))) s3 s4:=by
  unfold zno
  cases e:ordI p with
  | nil=>
   rcases(show p=1\/p=2\/p=3 by omega)with rfl|rfl|rfl<;>cases e
  | cons r rs=>
   rw[e]at hI
   obtain⟨s3,s4,rfl⟩:=hI
   exact⟨_,_,_,rfl⟩
 obtain⟨s1,s3,s4,rfl⟩:=fin
 exact zhn (env:=ckE B .no .no .no .no) rfl (zbf (e1:=ckE B (.pl .none) .no .no .no) rfl (zbf (e1:=ckE B (.pl .none) (.pl .none) .no .no) rfl (zbf (zir co lp) rfl)))
theorem zazy{p:Nat}(h1:1<=p)(h3:p<=3):∃t,zfm [.int (p:Int)]=some t/\zayw t=some (ordI p):=by
 rcases(show p=1\/p=2\/p=3 by omega)with rfl|rfl|rfl
 ·exact⟨_,rfl,rfl⟩
 ·exact⟨_,rfl,rfl⟩
 ·exact⟨_,rfl,rfl⟩
theorem zary{B:PyData}{p:Nat}(hw:Walks B p):∀(l:List (List Int)),(∀r∈l,r∈ordI p)->zsm (zas 1 zek (zaa (zas 2 zdw (zaa (eVar 1) (zaa (eVar 0) aNil))) aNil)) [.pl B] l=some (l.map (cntO B))
 | [],_=>rfl
 | r::l,h=>by
  obtain⟨fr,gw,gl⟩:=hw r (h r qR)
  have c1:=zay (n:=2) (g:=zdw) (f:=zaa (eVar 1) (zaa (eVar 0) aNil)) (env:=[.pl (zbz r),.pl B]) (rs:=[⟨B,false,[]⟩,⟨zbz r,false,[]⟩]) rfl rfl gw
  have c2:=zay (n:=1) (g:=zek) (zuj (g:=aNil) (xs:=[]) c1 rfl) rfl (zavw gl)
  unfold zsm
  rw[show(PyData.list (r.map PyData.int))=zbz r from rfl,c2,qQ,zary hw l λx hx=>h x (qL _ hx)]
  rfl
theorem zwf{α:Type}(f:α->Int):∀(l:List α),l.zip (l.map f)=l.map λx=>(x,f x)
 | []=>rfl
 | x::l=>by rw[qa,List.zip_cons_cons,zwf f l];rfl
theorem zarz{B:PyData}{W:PyData}{p:Nat}{R:PyData}(hB:B=.tuple [W,.int (p:Int),R])(h1:1<=p)(h3:p<=3)(hw:Walks B p):zcg [B]=some (zbz (zno B p),true):=by
 obtain⟨t,et,er⟩:=zazy h1 h3
 have ix:eIxV 0 (eC (.int 1)) [.pl B]=some (vi (p:Int)):=by subst hB;rfl
 have pc:zalr 1 zfm (zaa (eIxV 0 (eC (.int 1))) aNil) [.pl B]=some t:=by
  unfold zalr
  rw[zuj (g:=aNil) (xs:=[]) ix rfl]
  exact et
 have key:=zary hw (ordI p) λr hr=>hr
 have le:zuw (ordI p) ((ordI p).map (cntO B))=some (zno B p):=by
  unfold zuw zno
  rw[zwf]
  cases e:ordI p with
  | nil=>
   rcases(show p=1\/p=2\/p=3 by omega)with rfl|rfl|rfl<;>cases e
  | cons r rs=>rfl
 refine zhn (env:=[.pl B]) rfl (zez (bs:=[]) ?_)
 unfold zapx
 rw[show zapf [0] [.pl B]=some [⟨B,false,[]⟩]from rfl,qQ,pc,qQ,er,qQ]
 show(zsm _ [.pl B] (ordI p)).bind _=_
 rw[key,qQ,le]
 rfl
theorem Bo.drop{W:Web}{p:Nat}{R:List Rule}(b:Bo W p R)(m:Nat):Bo W p (R.drop m):=
 ⟨b.web,b.sz,⟨λr hr=>b.rul.low r (qA2 hr),λr hr=>b.rul.kinds r (qA2 hr),λr hr=>b.rul.few r (qA2 hr),by rw[qB8];have:=b.rul.len;omega⟩,λr hr=>b.low r (qA2 hr),λr hr=>b.few r (qA2 hr)⟩
theorem zagk{α:Type}:∀(ps:List (α×Int))(p:α×Int),ps.foldl zji p∈p::ps
 | [],p=>qR
 | q::ps,p=>by
  rw[qA4]
  have:=zagk ps (zji p q)
  rcases qJ.mp this with e|e
  ·rw[e]
   unfold zji
   split<;>simp
  ·exact qL _ (qL _ e)
theorem zyw{B:PyData}{p:Nat}(h1:1<=p)(h3:p<=3):(zno B p).length<=3:=by
 have all:∀r∈ordI p,r.length<=3:=by
  rcases(show p=1\/p=2\/p=3 by omega)with rfl|rfl|rfl<;>decide
 unfold zno
 cases e:ordI p with
 | nil=>simp
 | cons r rs=>
  rw[e]at all
  have:=zagk (rs.map λr=>(r,cntO B r)) (r,cntO B r)
  rw[show(r,cntO B r)::(rs.map λr=>(r,cntO B r))=(r::rs).map λr=>(r,cntO B r)from rfl]at this
  obtain⟨x,hx,ex⟩:=qu.mp this
  show((rs.map λr=>(r,cntO B r)).foldl zji (r,cntO B r)).1.length<=3
  rw[<- ex]
  exact all x hx
theorem zacg{r:List Int}(h:r.length<=3):SmOk 7 (zbz r):=
 ⟨by rw[qG];omega,λd hd=>by
  obtain⟨i,_,rfl⟩:=qu.mp hd
  trivial⟩
noncomputable def zach:SFr Pen:=(rSet 2 (zbn 1 zep rNil))
noncomputable def zwg:SF:=(sSeq (sSet 3 (eTup (zaa (eIxV 2 (eC (.int 0))) (zaa (eIxV 2 (eC (.int 1))) (zaa (eSl (eIxV 2 (eC (.int 2))) (zqi (eC (.int 1))) zagv) aNil)))))
  (sSeq (sSet 4 (zas 1 zha (zaa (eVar 2) aNil)))
  (sSeq (sSet 5 (zas 1 zcy (zaa (eVar 2) aNil)))
  (sSeq (sSet 6 (zas 1 zcg (zaa (eVar 4) aNil)))
  (sSeq (sIf (tOrF (zjp (tTru (zas 2 zcj (zaa (eVar 5) (zaa (eVar 6) aNil))))) (zjp (tTru (zas 2 zcj (zaa (zas 1 zcy (zaa (eVar 3) aNil)) (zaa (zas 1 zcg (zaa (eVar 3) aNil)) aNil)))))) (sRet (eC (.bool false))) sNil)
  (sSeq (sRev 6)
  (sSeq (sApp 6 (eC (.int 0)))
  (sRet (eAnd (zas 2 zcj (zaa (eVar 5) (zaa (zas 1 zcg (zaa (eVar 4) aNil)) aNil))) (zas 2 zcj (zaa (eVar 2) (zaa (eVar 4) aNil))))))))))))
theorem zaqz(ns:List Int):∃s st' env',zig ns=some s/\zach (List.replicate 7 .no) ⟨ns.take 63,0,s,0⟩=some (.nx env' st')/\zwg env'=some (.rt (.bool true) false):=by
 obtain⟨sd,es⟩:=zavq ns
 have b0:PenB (699+300) (⟨ns.take 63,0,sd,0⟩:Pen):=⟨by show(ns.take 63).length<=63;rw[qBj];omega,Int.le_refl 0,by show(0:Int)+_<=_;omega⟩
 obtain⟨W,p,R,s1,e1,sz,ok,rok,hR,p1,wok,rin⟩:=zaqv b0
 have hW1:1<=W.length/\W.length<=10/\1<=p/\p<=3:=by unfold szB at sz;omega
 have bo:Bo W p R:=⟨wok,sz,⟨λr hr=>(rok.kin r hr).1,λr hr=>(rin.kinds r hr).1,λr hr=>by have:=(rok.kin r hr).2;omega,by omega⟩,λr hr=>zst (rok.low r hr).1,λr hr=>by have:=(rok.kin r hr).2;omega⟩
 have f1:rSet 2 (zbn 1 zep rNil) (lwE .no .no .no .no .no) ⟨ns.take 63,0,sd,0⟩=some (.nx (lwE (.pl (zax W p R)) .no .no .no .no) s1):=zeu (zjv (T:=Pen) (n:=1) (rs:=[]) (s1:=⟨ns.take 63,0,sd,0⟩) rfl rfl e1)
 have bo2:=bo.drop 1
 have t3:eTup (zaa (eIxV 2 (eC (.int 0))) (zaa (eIxV 2 (eC (.int 1))) (zaa (eSl (eIxV 2 (eC (.int 2))) (zqi (eC (.int 1))) zagv) aNil))) (lwE (.pl (zax W p R)) .no .no .no .no)=some ⟨zax W p (R.drop 1),false,[]⟩:=by
  have sl:eSl (eIxV 2 (eC (.int 2))) (zqi (eC (.int 1))) zagv (lwE (.pl (zax W p R)) .no .no .no .no)=some ⟨zbo (R.drop 1),true,[]⟩:=by
   show some (⟨.list (cutD (R.map zel) (some ((1:Nat):Int)) none),true,_⟩:Val)=_
   rw[zaqu,<- List.map_drop];rfl
  exact zarv (rs:=[⟨webD W,false,[]⟩,vi (p:Int),⟨zbo (R.drop 1),true,[]⟩]) (zcs rfl (zcs rfl (zhp sl))) (by show 3<=100000;decide)
 have sb:SmOk 7 (zax W p R):=zavp (by omega) ok.few hR λr hr=>(rok.kin r hr).2
 have c1:zha [zax W p R]=some (zax W p R,false):=zazq (by omega)
 have w1:=zagj bo
 have w2:=zagj bo2
 have d1:=zang (B:=zax W p R) (W:=webD W) (R:=zbo R) rfl hW1.2.2.1 hW1.2.2.2 w1
 have d2:=zarz (B:=zax W p R) (W:=webD W) (R:=zbo R) rfl hW1.2.2.1 hW1.2.2.2 w1
 have d3:=zang (B:=zax W p (R.drop 1)) (W:=webD W) (R:=zbo (R.drop 1)) rfl hW1.2.2.1 hW1.2.2.2 w2
 have d4:=zarz (B:=zax W p (R.drop 1)) (W:=webD W) (R:=zbo (R.drop 1)) rfl hW1.2.2.1 hW1.2.2.2 w2
 have q1:zcj [zbz (zno (zax W p R) p),zbz (zno (zax W p R) p)]=some (.bool true,false):=zks 7 _ (zacg (zyw hW1.2.2.1 hW1.2.2.2))
 have q2:zcj [zbz (zno (zax W p (R.drop 1)) p),zbz (zno (zax W p (R.drop 1)) p)]=some (.bool true,false):=zks 7 _ (zacg (zyw hW1.2.2.1 hW1.2.2.2))
 have q3:zcj [zax W p R,zax W p R]=some (.bool true,false):=zks 7 _ sb
 have bl:=zyw (B:=zax W p R) hW1.2.2.1 hW1.2.2.2
 generalize zno (zax W p R) p=r1 at d1 d2 q1 bl
 generalize zno (zax W p (R.drop 1)) p=r2 at d3 d4 q2
 have f4:sSet 4 (zas 1 zha (zaa (eVar 2) aNil)) (lwE (.pl (zax W p R)) (.pl (zax W p (R.drop 1))) .no .no .no)=some (.nx (lwE (.pl (zax W p R)) (.pl (zax W p (R.drop 1))) (.pl (zax W p R)) .no .no)):=zgt (zay (n:=1) (rs:=[⟨zax W p R,false,[]⟩]) rfl rfl c1)
 generalize hB:zax W p R=B at *
 generalize hB2:zax W p (R.drop 1)=B2 at *
 have s56:zas 2 zcj (zaa (eVar 5) (zaa (eVar 6) aNil)) (lwE (.pl B) (.pl B2) (.pl B) (.pl (zbz r1)) (.ac (zbz r1)))=some (vb true):=zay (n:=2) (rs:=[⟨zbz r1,false,[]⟩,⟨zbz r1,false,[6]⟩]) (zcs rfl (zhp rfl)) rfl q1
 have s33:zas 2 zcj (zaa (zas 1 zcy (zaa (eVar 3) aNil)) (zaa (zas 1 zcg (zaa (eVar 3) aNil)) aNil)) (lwE (.pl B) (.pl B2) (.pl B) (.pl (zbz r1)) (.ac (zbz r1)))=some (vb true):=by
  have z1:=zay (n:=1) (g:=zcy) (rs:=[⟨B2,false,[]⟩]) (f:=zaa (eVar 3) aNil) (env:=lwE (.pl B) (.pl B2) (.pl B) (.pl (zbz r1)) (.ac (zbz r1))) rfl rfl d3
  have z2:=zay (n:=1) (g:=zcg) (rs:=[⟨B2,false,[]⟩]) (f:=zaa (eVar 3) aNil) (env:=lwE (.pl B) (.pl B2) (.pl B) (.pl (zbz r1)) (.ac (zbz r1))) rfl rfl d4
  exact zay (n:=2) (zcs z1 (zhp z2)) rfl q2
 have tst:tOrF (zjp (tTru (zas 2 zcj (zaa (eVar 5) (zaa (eVar 6) aNil))))) (zjp (tTru (zas 2 zcj (zaa (zas 1 zcy (zaa (eVar 3) aNil)) (zaa (zas 1 zcg (zaa (eVar 3) aNil)) aNil))))) (lwE (.pl B) (.pl B2) (.pl B) (.pl (zbz r1)) (.ac (zbz r1)))=some false:=by
  unfold tOrF
  rw[zamq s56,zamq s33];rfl
 have f8:sRev 6 (lwE (.pl B) (.pl B2) (.pl B) (.pl (zbz r1)) (.ac (zbz r1)))=some (.nx (lwE (.pl B) (.pl B2) (.pl B) (.pl (zbz r1)) (.ac (.list (r1.map PyData.int).reverse)))):=rfl
 have f9:sApp 6 (eC (.int 0)) (lwE (.pl B) (.pl B2) (.pl B) (.pl (zbz r1)) (.ac (.list (r1.map PyData.int).reverse)))=some (.nx (lwE (.pl B) (.pl B2) (.pl B) (.pl (zbz r1)) (.ac (.list ((r1.map PyData.int).reverse++[.int 0]))))):=zarr (i:=6) (ds:=(r1.map PyData.int).reverse) (d:=.int 0) (fr:=false) rfl rfl (by simp;omega)
 generalize (r1.map PyData.int).reverse++[.int 0]=hs at f9
 have l54:zas 2 zcj (zaa (eVar 5) (zaa (zas 1 zcg (zaa (eVar 4) aNil)) aNil)) (lwE (.pl B) (.pl B2) (.pl B) (.pl (zbz r1)) (.ac (.list hs)))=some (vb true):=by
  have z2:=zay (n:=1) (g:=zcg) (rs:=[⟨B,false,[]⟩]) (f:=zaa (eVar 4) aNil) (env:=lwE (.pl B) (.pl B2) (.pl B) (.pl (zbz r1)) (.ac (.list hs))) rfl rfl d2
  exact zay (n:=2) (zcs (r:=⟨zbz r1,false,[]⟩) rfl (zhp z2)) rfl q1
 have l24:zas 2 zcj (zaa (eVar 2) (zaa (eVar 4) aNil)) (lwE (.pl B) (.pl B2) (.pl B) (.pl (zbz r1)) (.ac (.list hs)))=some (vb true):=zay (n:=2) (rs:=[⟨B,false,[]⟩,⟨B,false,[]⟩]) (zcs rfl (zhp rfl)) rfl q3
 refine⟨sd,s1,_,es,f1,?_⟩
 refine zbf (e1:=lwE (.pl B) (.pl B2) .no .no .no) (zgt t3) ?_
 refine zbf f4 ?_
 refine zbf (e1:=lwE (.pl B) (.pl B2) (.pl B) (.pl (zbz r1)) .no) (zgt (zay (n:=1) (rs:=[⟨B,false,[]⟩]) rfl rfl d1)) ?_
 refine zbf (e1:=lwE (.pl B) (.pl B2) (.pl B) (.pl (zbz r1)) (.ac (zbz r1))) (zgt (zay (n:=1) (rs:=[⟨B,false,[]⟩]) rfl rfl d2)) ?_
 refine zbf (if_f tst rfl) (zbf f8 (zbf f9 (zez (bs:=[]) ?_)))
 unfold eAnd
 rw[l54,l24];rfl
section
variable{P:Program}{w:World}{K:qC}{mg:Str->Option Value}{base:Heap}
noncomputable def zbbp(K:qC):Sp:=λvs H Q _=>∃(a:Addr)(ns:List Int),vs=[.ref a]/\SqL K H a (ns.map V.int)/\∀H',Q (.bl true) H'
theorem zazz{f PT:Addr}{fd:qr}(F:Fun K "law" "law" zahz f fd)(T:Txt mg)(D_law_book:zvw P w K mg base)(D_law_copy:zvy P w K mg base)(D_law_due:zabx P w K mg base)(D_law_pen:zabv P w K mg base PT)(D_law_same:zvx P w K mg base)(D_best_order:zqf P w K mg base PT):FnOk P w K mg base CX0 12 f fd ["_law_script"] (zagb K PT (("best_order":Str)++".<locals>."++"<lambda>")):=by
 refine F.ok zazk (λvs H Q E h=>?_) (λcdv A outer s H vs Q E hr h=>?_)
 ·obtain⟨a,ns,rfl,_⟩:=h
  rfl
 ·obtain⟨a,ns,rfl,hS,hTb,k⟩:=h
  have hu:=zeb hr
  obtain⟨sd,st1,env1,es,ef,ef2⟩:=zaqz ns
  apply Exists.intro
  apply And.intro
  ·refine' Bx.out (zaf (bpsS (i:=1) ztn rfl (Or.inl rfl) (bpeD D_law_pen hr (bpaC (bv 0) zac)))
 (zaf (bpsS (i:=2) ztn rfl (Or.inl rfl) (bpeD D_law_book hr (bpaC (bv 1) zac)))
 (zaf (bpsS (i:=3) ztn rfl (Or.inl rfl) (zhg (bpaC (bpeX (zdk (K:=K) rfl) (bv 2) zag) (bpaC (bpeX (zdk (K:=K) rfl) (bv 2) zag) (bpaC (zjt (zajs (K:=K) rfl) (bpeX (zdk (K:=K) rfl) (bv 2) zag) (zkx zag) zrb) zac)))))
 (zaf (bpsS (i:=4) ztn rfl (Or.inl rfl) (bpeD D_law_copy hr (bpaC (bv 2) zac)))
 (zaf (bpsS (i:=5) ztn rfl (Or.inl rfl) (bpeD D_law_due hr (bpaC (bv 2) zac)))
 (zaf (bpsS (i:=6) ztn rfl (Or.inl rfl) (bpeD D_best_order hr (bpaC (bv 4) zac)))
 (zaf (zeo (zafs (zoa (zdg (K:=K) rfl (bpeD D_law_same hr (bpaC (bv 5) (bpaC (bv 6) zac))) (λ_=>rfl))) (zwz (zoa (zdg (K:=K) rfl (bpeD D_law_same hr (bpaC (bpeD D_law_due hr (bpaC (bv 3) zac)) (bpaC (bpeD D_best_order hr (bpaC (bv 3) zac)) zac))) (λ_=>rfl))))).pt (zai (zav zafr)) zcb)
 (zaf (zdz (zapc (K:=K) rfl q9 PySem.F.slot_list_reverse PySem.F.type_list_reverse zags (bv 6) (by rfl) (by rfl)) (by rfl))
 (zaf (zdz (zet (K:=K) rfl q9 qAM qAL zem (bv 6) (bpaC zag zac) (by rfl) (by rfl) (by rfl) (zan (by rfl)) (by rfl)) (by rfl))
 (zai (zav (zrz (bpeD D_law_same hr (bpaC (bv 5) (bpaC (bpeD D_best_order hr (bpaC (bv 4) zac)) zac))) (zwx (bpeD D_law_same hr (bpaC (bv 2) (bpaC (bv 4) zac))))))))))))))))
  exact zamd (N:=zavk) (F:=zach) (F2:=zwg) (n:=5) rfl ((zcz (zcf zcl) (by decide))) ((zlx (zsb (zdn (zlg (zab (zfg (se_c λ_=>zad)) (zab (zfg (se_c λ_=>zad)) (zab (zatl (zfg (se_c λ_=>zad)) (zws (se_c λ_=>zad)) zakd) zah)))))) (zlx (zsb (zdn (zaz (zab (zae 2) zah)))) (zlx (zsb (zdn (zaz (zab (zae 2) zah)))) (zlx (zavd (zxb (zab (zae 4) zah))) (zlx (zayn (zaym (zayl (zzn (zlf (zaz (zab (zae 5) (zab (zae 6) zah)))))) (zaue (zaud (zaaw (zrg (zakz (zaz (zab (zae 3) zah))) (zrg (zxb (zab (zae 3) zah)) (zarm zah))))))) (zsb (zcm (se_c λ_=>zbj))) (zsb zhd)) (zlx (zsb zaxz) (zlx (zsb (zafl (se_c λ_=>zad))) (zala (zavc (zaaw (zrg (zakz (zae 5)) (zrg (zxb (zab (zae 4) zah)) (zarm zah)))) (zakz (zaz (zab (zae 2) (zab (zae 4) zah)))))))))))))) hTb hS es ef ef2 k
end
theorem all_mk{l:PySem.W.OpenLaw}{w:World}{K:qC}{h:Heap}{mg:Str->Option Value}{fa f1 f2 f3 f4 f5 f6 f7 f8 f9 f10 f11 f12 f13 f14 f15 f16 f17 f18 f19 f20 f21 f22 f23 f24 f25 f26 f27 f28 f29 f30 f31 f32 f33 f34 f35:Addr}{e1 e2 e3 e4 e5 e6 e7 e8 e9 e10 e11 e12 e13 e14 e15 e16 e17 e18 e19 e20 e21 e22 e23 e24 e25 e26 e27 e28 e29 e30 e31 e32 e33 e34 e35:qr}(X:K.In h)(G:h.Ns qm mg)(hfa:mg "law"=some (.ref fa))
  (d1:DefIn K "products" zoh f1 e1)
  (d2:DefIn K "numbered" zoi f2 e2)
  (d3:DefIn K "names_of" zoj f3 e3)
  (d4:DefIn K "names_in" zok f4 e4)
  (d5:DefIn K "check_kinds" zix f5 e5)
  (d6:DefIn K "roofs_of" zol f6 e6)
  (d7:DefIn K "roof_of" ztb f7 e7)
  (d8:DefIn K "names_in_call" zhj f8 e8)
  (d9:DefIn K "check_call" zkf f9 e9)
  (d10:DefIn K "roofs_in_call" zhk f10 e10)
  (d11:DefIn K "fits_under" zkh f11 e11)
  (d12:DefIn K "is_nearer" zmb f12 e12)
  (d13:DefIn K "rules_that_fit" zgq f13 e13)
  (d14:DefIn K "nearest_of" zki f14 e14)
  (d15:DefIn K "rule_names" zkj f15 e15)
  (d16:DefIn K "answer_by" zmc f16 e16)
  (d17:DefIn K "nearest" zte f17 e17)
  (d18:DefIn K "answer_of" zmd f18 e18)
  (d19:DefIn K "call_along" zkk f19 e19)
  (d20:DefIn K "answers_along" zhl f20 e20)
  (d21:DefIn K "cut" zavj f21 e21)
  (d22:DefIn K "walk_of" ztg f22 e22)
  (d23:DefIn K "all_orders" zhu f23 e23)
  (d24:DefIn K "count_nodes" ziy f24 e24)
  (d25:DefIn K "best_order" zkm f25 e25)
  (d26:DefIn K "_law_pen" zth f26 e26)
  (d27:DefIn K "_law_draw" zoo f27 e27)
  (d28:DefIn K "_law_name" zop f28 e28)
  (d29:DefIn K "_law_web" ztk f29 e29)
  (d30:DefIn K "_law_book" zoq f30 e30)
  (d31:DefIn K "_law_same" zor f31 e31)
  (d32:DefIn K "_law_copy" zos f32 e32)
  (d33:DefIn K "_law_orders" zkn f33 e33)
  (d34:DefIn K "_law_due" ztm f34 e34)
  (d35:DefIn K "law" zahz f35 e35)
  {cT PT:Addr}(hti:PySem.W.tabIn K "best_order"=some (cT,PT))
  (z1:qAK K qm "all"=some none)(z2:qAK K qm "any"=some none)(z3:qAK K qm "bool"=some none)(z4:qAK K qm "dict"=some none)(z5:qAK K qm "enumerate"=some none)(z6:qAK K qm "int"=some none)(z7:qAK K qm "isinstance"=some none)(z8:qAK K qm "len"=some none)(z9:qAK K qm "list"=some none)(z10:qAK K qm "max"=some none)(z11:qAK K qm "min"=some none)(z12:qAK K qm "range"=some none)(z13:qAK K qm "set"=some none)(z14:qAK K qm "str"=some none)(z15:qAK K qm "sum"=some none)(z16:qAK K qm "tuple"=some none)(z17:qAK K qm "zip"=some none) :
  ∃fd:qr,(∀(s:Shared)(v:Value),BindsTo s fd ⟨[v],[]⟩ [("_law_script",v)])/\∀base:Heap,K.In base->base.Ns qm mg->BM mg base->PySem.W.CodeHd base cT PT->FnOk l.prog w K mg base CX0 12 fa fd ["_law_script"] (zagb K PT (("best_order":Str)++".<locals>."++"<lambda>")):=by
 have e:=hfa.symm.trans (qBy X G d35.ns)
 cases e
 have T:Txt mg:=⟨qz X G z1,qz X G z2,qz X G z3,qz X G z4,qz X G z5,qz X G z6,qz X G z7,qz X G z8,qz X G z9,qz X G z10,qz X G z11,qz X G z12,qz X G z13,qz X G z14,qz X G z15,qz X G z16,qz X G z17⟩
 obtain⟨_,_,q1,q2,q3,q4,q5,q6,_,rfl,_,_⟩:=d35.fn.ex
 refine⟨qAq "law" "law" (zhv zahz) (zgo zahz) (zal zahz) .none q1 q2 q3 q4 q5 q6,λs v=>.of_eq rfl,λbase _ _ hbm HC=>?_⟩
 have D_products:zla l.prog w K mg base:=d1.dn X G (zaed d1.fn T ) (d1.b1 λ_ _ _ _ _ _ _=>rfl)
 have D_numbered:zvv l.prog w K mg base:=d2.dn X G (zaee d2.fn T ) (d2.b1 λ_ _ _ _ _ _ _=>rfl)
 have D_names_of:zou l.prog w K mg base:=d3.dn X G (zaef d3.fn T ) (d3.b1 λ_ _ _ _ _ _ _=>rfl)
 have D_names_in:zov l.prog w K mg base:=d4.dn X G (zaeg d4.fn T ) (d4.b1 λ_ _ _ _ _ _ _=>rfl)
 have D_check_kinds:znl l.prog w K mg base:=d5.dn X G (zug d5.fn T D_names_of) (d5.b2 λ_ _ _ _ _ _ _ _=>rfl)
 have D_roofs_of:zow l.prog w K mg base:=d6.dn X G (zaeh d6.fn T ) (d6.b1 λ_ _ _ _ _ _ _=>rfl)
 have D_roof_of:zabs l.prog w K mg base:=d7.dn X G (zaia d7.fn T D_names_in) (d7.b2 λ_ _ _ _ _ _ _ _=>rfl)
 have D_names_in_call:zkp l.prog w K mg base:=d8.dn X G (zqt d8.fn T D_names_in) (d8.b1 λ_ _ _ _ _ _ _=>rfl)
 have D_check_call:zqa l.prog w K mg base:=d9.dn X G (zyi d9.fn T D_check_kinds D_names_in_call) (d9.b3 λ_ _ _ _ _ _ _ _ _=>rfl)
 have D_roofs_in_call:zkq l.prog w K mg base:=d10.dn X G (zqu d10.fn T D_roof_of) (d10.b2 λ_ _ _ _ _ _ _ _=>rfl)
 have D_fits_under:zqb l.prog w K mg base:=d11.dn X G (zyj d11.fn T ) (d11.b2 λ_ _ _ _ _ _ _ _=>rfl)
 have D_is_nearer:zto l.prog w K mg base:=d12.dn X G (zaby d12.fn T ) (d12.b3 λ_ _ _ _ _ _ _ _ _=>rfl)
 have D_rules_that_fit:zjh l.prog w K mg base:=d13.dn X G (zoy d13.fn T D_check_call D_fits_under D_roofs_in_call D_roofs_of) (d13.b2 λ_ _ _ _ _ _ _ _=>rfl)
 have D_nearest_of:zqc l.prog w K mg base:=d14.dn X G (zyk d14.fn T D_is_nearer) (d14.b2 λ_ _ _ _ _ _ _ _=>rfl)
 have D_rule_names:zqd l.prog w K mg base:=d15.dn X G (zyl d15.fn T ) (d15.b1 λ_ _ _ _ _ _ _=>rfl)
 have D_answer_by:ztp l.prog w K mg base:=d16.dn X G (zabz d16.fn T ) (d16.b1 λ_ _ _ _ _ _ _=>rfl)
 have D_nearest:zabt l.prog w K mg base:=d17.dn X G (zaib d17.fn T D_nearest_of D_roofs_of D_rule_names D_rules_that_fit) (d17.b2 λ_ _ _ _ _ _ _ _=>rfl)
 have D_answer_of:ztq l.prog w K mg base:=d18.dn X G (zaca d18.fn T D_answer_by D_nearest) (d18.b2 λ_ _ _ _ _ _ _ _=>rfl)
 have D_call_along:zqe l.prog w K mg base:=d19.dn X G (zym d19.fn T ) (d19.b2 λ_ _ _ _ _ _ _ _=>rfl)
 have D_answers_along:zkr l.prog w K mg base:=d20.dn X G (zqv d20.fn T D_answer_of D_call_along D_names_of D_products) (d20.b2 λ_ _ _ _ _ _ _ _=>rfl)
 have D_cut:zazl l.prog w K mg base:=d21.dn X G (zazm d21.fn T ) (d21.b2 λ_ _ _ _ _ _ _ _=>rfl)
 have D_walk_of:ztr l.prog w K mg base:=d22.dn X G (zaic d22.fn T D_answers_along D_cut D_numbered) (d22.b2 λ_ _ _ _ _ _ _ _=>rfl)
 have D_all_orders:zabu l.prog w K mg base:=d23.dn X G (zyn d23.fn T D_products) (d23.b1 λ_ _ _ _ _ _ _=>rfl)
 have DT_all_orders:znn l.prog w K mg base:=d23.dn X G (zui d23.fn T D_products) (d23.b1 λ_ _ _ _ _ _ _=>rfl)
 have D_count_nodes:znm l.prog w K mg base:=d24.dn X G (zuh d24.fn T ) (d24.b1 λ_ _ _ _ _ _ _=>rfl)
 have D_best_order:zqf l.prog w K mg base PT:=d25.dn X G (zyo d25.fn T DT_all_orders D_count_nodes D_walk_of (d25.code X G hti) HC hbm) (d25.b1 λ_ _ _ _ _ _ _=>rfl)
 have D_law_pen:zabv l.prog w K mg base PT:=d26.dn X G (zaid d26.fn T) (d26.b1 λ_ _ _ _ _ _ _=>rfl)
 have D_law_draw:zlb l.prog w K mg base:=d27.dn X G (zaei d27.fn T ) (d27.b2 λ_ _ _ _ _ _ _ _=>rfl)
 have D_law_name:zox l.prog w K mg base:=d28.dn X G (zaej d28.fn T D_law_draw) (d28.b2 λ_ _ _ _ _ _ _ _=>rfl)
 have D_law_web:zabw l.prog w K mg base:=d29.dn X G (zaie d29.fn T D_law_draw D_law_name) (d29.b2 λ_ _ _ _ _ _ _ _=>rfl)
 have D_law_book:zvw l.prog w K mg base:=d30.dn X G (zaek d30.fn T D_law_draw D_law_name D_law_web) (d30.b1 λ_ _ _ _ _ _ _=>rfl)
 have D_law_same:zvx l.prog w K mg base:=d31.dn X G (zael d31.fn T  (qBy X G d31.ns) d31.fn.kp (d31.b2 λ_ _ _ _ _ _ _ _=>rfl) 7) (d31.b2 λ_ _ _ _ _ _ _ _=>rfl)
 have D_law_copy:zvy l.prog w K mg base:=d32.dn X G (zaem d32.fn T ) (d32.b1 λ_ _ _ _ _ _ _=>rfl)
 have D_law_orders:zqg l.prog w K mg base:=d33.dn X G (zyp d33.fn T ) (d33.b1 λ_ _ _ _ _ _ _=>rfl)
 have D_law_due:zabx l.prog w K mg base:=d34.dn X G (zaif d34.fn T D_law_orders D_walk_of) (d34.b1 λ_ _ _ _ _ _ _=>rfl)
 exact zazz d35.fn T D_law_book D_law_copy D_law_due D_law_pen D_law_same D_best_order
theorem tab_mk{K:qC}{x:Str}{f c P:Addr}{o o2:Value}{d d2:Option Addr}{fd:qr}{sl sl2:Array (Option Value)}{vs:Array Value}(h1:qAK K qm x=some (some (.ref f)))(h2:K.lookup f=some ⟨o,d,.func fd,sl⟩)(h3:fd.code=.ref c)(h4:K.lookup c=some ⟨o2,d2,.fields vs,sl2⟩)(h5:(vs[11]?:Option Value)=some (.ref P)):PySem.W.tabIn K x=some (c,P):=by
 unfold PySem.W.tabIn
 simp only[h1,h2,h3,h4,h5]
theorem walk{l:PySem.W.OpenLaw}{q:Program}{loose:List Str}{XP:(Str->Option Value)->Heap->Prop}{YP:World->Heap->Prop}{d dt:DefRec}{K:Params->qC}{cT PT:Addr}(hn:l.most=some 63)(hdf:d.params.defaults=[])
  (hY:∀(w:World) (h:Heap),YP w h->(K w.params).In h)
  (hrec:L2.recDef q "best_order" dt)(hti:∀w:World,PySem.W.tabIn (K w.params) "best_order"=some (cT,PT))(hnt:∀w:World,PySem.W.noTabs (K w.params)=true)
  (F:∀(w:World)(mg:Str->Option Value)(fa:Addr)(h:Heap),(K w.params).In h->h.Ns qm mg->mg d.name=some (.ref fa)->
   ∃fd:qr,(∀(s:Shared)(u:Value),BindsTo s fd ⟨[u],[]⟩ [("_law_script",u)])/\∀base:Heap,(K w.params).In base->base.Ns qm mg->BM mg base->PySem.W.CodeHd base cT PT->FnOk l.prog w (K w.params) mg base CX0 12 fa fd ["_law_script"] (zagb (K w.params) PT (("best_order":Str)++".<locals>."++"<lambda>"))) :
  PySem.W.WalkO q loose XP YP l.row.toRowW d [] (λf vs=>PySem.call f vs):=
 L2.walk_tabP (n:=63) (k:=12) (x:="_law_script") hn (by decide) hdf ⟨rfl,by decide,by decide,rfl⟩ hY hrec hti hnt F
end Bc
theorem PySem.W.Fast.tw3101933730974605674:True:=trivial
theorem PySem.W.Fast.tw16713987909960941375:True:=trivial
theorem PySem.W.Fast.tw13899773902865683650:True:=trivial
theorem PySem.W.Fast.tw16927233742019231229:True:=trivial
theorem PySem.W.Fast.tw4953182935575843687:True:=trivial
theorem PySem.W.Fast.tw1146025419899469227:True:=trivial
theorem PySem.W.Fast.tw17108475158253995651:True:=trivial
theorem PySem.W.Fast.tw17889302188435729810:True:=trivial
theorem PySem.W.Fast.tw2627731323804416935:True:=trivial
open PySem PySem.W PyProof.Rows
set_option maxRecDepth 100000 in
set_option maxHeartbeats 0 in
theorem PySem.Challenge.cw_bestcalls_k48_the_best_order_holds : PySem.Challenge.rw_bestcalls_k48_the_best_order.Holds := by
 w_on;o_law;k_head;(case hw=>w_witness2)
 k_fill
 refine' Bc.walk (l:=PySem.Challenge.rw_bestcalls_k48_the_best_order) rfl rfl (λw h Y=>PySem.W.km_in_of Y) ?hrec ?hti ?hnt ?F
 case hrec=>rfl
 case hti=>intro w;refine' Bc.tab_mk ?h1 ?h2 ?h3 ?h4 ?h5;(case h1=>k_is);(case h2=>k_is);(case h3=>rfl);(case h4=>k_is);(case h5=>rfl)
 case hnt=>intro w;kernel_rfl
 case F=>
  intro w mg fa h KX G hmg
  refine' Bc.all_mk KX G hmg ?_ ?_ ?_ ?_ ?_ ?_ ?_ ?_ ?_ ?_ ?_ ?_ ?_ ?_ ?_ ?_ ?_ ?_ ?_ ?_ ?_ ?_ ?_ ?_ ?_ ?_ ?_ ?_ ?_ ?_ ?_ ?_ ?_ ?_ ?_ ?hti ?_ ?_ ?_ ?_ ?_ ?_ ?_ ?_ ?_ ?_ ?_ ?_ ?_ ?_ ?_ ?_ ?_
  (case hti=>refine' Bc.tab_mk ?h1 ?h2 ?h3 ?h4 ?h5;(case h1=>k_is);(case h2=>k_is);(case h3=>rfl);(case h4=>k_is);(case h5=>rfl))
  any_goals (first|refine' L2.def_mk ?_ ?_ ?_ ?_|skip)
  any_goals (first|k_is|rfl)
