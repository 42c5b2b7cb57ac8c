import PyProof.Rows.All
import KE.KLam
import Wide.All
import OpenK.AllK
import Wide.FinOn
import Lean
import PyProof.EqAt
import PyProof.EqKinds
import PyProof.TupleCall
import KE.KRevSl
import PyProof.MeetsStr
import PyProof.Rows.MinMaxN
import PyProof.ListRange
import KE.KTryOn
import PyProof.ExcInit
import PyProof.ExcClass3
import PyProof.ExcBaseAll.ValueError
import PyProof.InstStoreFacts
import ObjForm.Fk.InstStore
import PyProof.ExcArgsOwn
import PyProof.ExcAttrAll.ValueError
import PyProof.PureStr
import PyProof.FString2
import PyProof.Rows.FactsFmt
import PyProof.FactsAll.NoneType_2
import PyProof.NsDelKeeps
import PyProof.IsiBase
import PyProof.AutoListH
import PyProof.AutoSeq1
import PyProof.DictWalks
import PySem.Challenge.RW_bestcalls_k14_fitting_and_nearest
set_option genSizeOf false
set_option Elab.async false
set_option linter.all false
set_option maxRecDepth 100000
noncomputable section
open Option renaming bind_eq_some_iff→qA,bind_some→qB,map_eq_some_iff→qE,map_some→qAo,isSome_some→qCs,isSome_map→qC0
open PySem.W renaming Frag→qC,mg_none_of→qAR,kia_one→qAb,nsIn→qAg,fnOf→qAh,keepIn→qBN,codeIn→qBg,mg_of→qCM,cellsFrom_some→qCR,kitx_list→qCq,kitx_dict→qCr
open List renaming length_map→qD,getElem?_append_right→qH,getElem?_append_left→qI,length_append→qJ,getElem?_eq_some_iff→qK,getElem?_eq_getElem→qL,map_cons→qM,mem_cons→qP,mem_cons_of_mem→qQ,getElem?_map→qS,size_toArray→qU,mem_append→qV,getElem?_set_ne→qY,mem_cons_self→qb,mem_append_right→qc,mem_singleton→qf,mem_map→qg,mem_of_getElem?→qj,nodup_cons→qo,append_nil→qr,mem_append_left→qw,getElem?_set_self→q9,getD_eq_getElem?_getD→qAB,getElem?_cons_zero→qAC,getElem?_cons_succ→qAD,not_mem_nil→qAF,length_set→qAG,mem_filter→qAK,map_append→qAL,lookup_cons→qAN,getElem_mem→qAP,append_assoc→qAQ,nodup_append→qAT,mem_range→qAW,all_eq_true→qAX,map_map→qAZ,length_replicate→qAa,getElem?_replicate→qAc,length_cons→qAe,drop_eq_getElem_cons→qAi,take_append_of_le_length→qAj,length_take→qAk,length_drop→qAl,all_cons→qAn,any_eq_true→qAr,length_filter_le→qAt,mem_of_mem_take→qAw,mem_of_mem_drop→qAx,any_cons→qAy,drop_length→qA0,zip_cons_cons→qA2,nodup_nil→qA5,set_cons_zero→qA7,set_cons_succ→qA8,of_mem_zip→qA9,find?_cons→qBA,flatten_cons→qBC,mem_flatMap→qBF,zipIdx_map_fst→qBH,replicate_succ→qBI,map_congr_left→qBJ,getElem_of_mem→qBK,foldl_cons→qBL,mem_filterMap→qBQ,mapM_cons→qBT,reverse_cons→qBV,foldl_append→qBW,eq_of_mem_replicate→qBX,map_take→qBY,length_eq_zero_iff→qBZ,mem_nil_iff→qBc,isEmpty_iff→qBd,filter_cons→qBe,set_append_right→qBh,length_nil→qBi,any_map→qBj,filterMap_cons→qBq,take_sublist→qBz,flatMap_cons→qB0,eraseIdxIfInBounds_toArray→qB1,map_nil→qB4,zipIdx_cons→qB7,take_length→qB8,cons_append→qB9,nil_append→qCH,forIn_cons→qCI,length_eraseIdx_of_lt→qCP,pairwise_iff_getElem→qCT,map_drop→qCb,range_succ_eq_map→qCi,length_pos_of_mem→qCj,length_singleton→qCn,getElem?_eq_none→qCo,range_eq_range'→qCu,length_dropLast→qCv,getElem?_zipIdx→qCw,length_reverse→qC1
open PySem.Heap renaming get?_push_of_some→qF,lt_size→qR,get?_push_size→qd,size_push→qAv
open PySem renaming wpAny_bind→qG,sizeLine→qZ,wpAny_pure→qi,Expr→qk,FuncData→qx,mainGlobals→qAE,starEach→qAI,mem_of_lookup→qAM,Pos→qAf,wpAny_pyIter_tuple→qAm,wpAny_pyIter_list→qAp,wpAny_field→qAq,wpAny_callSpecial?_slot→qA1,wpAny_seqItems→qA3,wpAny_setField_rec→qA4,wpAny_getItem_str_slice→qBD,wpAny_truthy_bool→qBG,wpAny_call_entry→qBM,wpAny_passesOwn→qBU,wpAny_mono→qBf,wpAny_standAt→qBk,wpAny_loadPart'→qBt,post_val_or_str→qBu,codeAny_mono→qBv,call_meets→qBw,wpAny_updateSeq_pair→qBy,wpAny_onRaise→qCA,wpAny_Call_Name_kw→qCB,tupleKind_room_in1→qCC,wpAny_newObj_type→qCL,wpAny_execs_nil→qCg,sizeLine_eq→qCh,wpAny_rule→qCy,wpAny_comprehension_free→qCz
open PySem.F renaming plainAttrs_list→qN,type_list_append→qW,slot_list_append→qX,slot_tuple_iterator_next→qA6,type_list_pop→qBa,slot_list_pop→qBb,slot_zip_next→qBo,type_dict_update→qCE,slot_dict_update→qCF,args_tuple_add_2→qCG,plainAttrs_dict→qCN,entry_tuple_add→qCO,slot_tuple_add→qCS,args_tuple_iterator_next_1→qCW,entry_tuple_iterator_next→qCa
open Nat renaming le_refl→qO,lt_of_lt_of_le→qh,ne_of_lt→qp,add_sub_cancel_left→qy,le_trans→qAS,zero_le→qAU,le_add_right→qAY,lt_of_le_of_lt→qAu,lt_irrefl→qAz,min_le_left→qBO,lt_trans→qBS,zero_add→qBm,ne_of_gt→qBn,le_succ_of_le→qB2,le_of_succ_le→qB3,sub_self→qB6,le_of_lt→qCt
open Bool renaming false_ne_true→qT,and_eq_true→qAO,eq_iff_iff→qAd,or_eq_true_iff→qBs,false_eq_true→qBx,false_or→qCe,and_self→qCf,or_true→qCp
open PySem.PyData renaming depthAll→qa,canLayAll0→qm,eqv→qAH,strOk→qAJ
open Option.some renaming inj→qe
open PySem.Str renaming ofString→qq
open Int renaming emod_nonneg→qt,emod_lt_of_pos→qu,toNat_natCast→qBE,ediv_nonneg→qBP,mul_nonneg→qCZ,eq_ofNat_of_zero_le→qCk
open PySem.PassesOwn renaming never→qv
open PySem.Builtin.SmallTypes renaming nextOf→qz
open PySem.SeqAt renaming shaped→qAA,canLay_of_shaped→qAV,eqv_refl→qCD
open Ne renaming symm→qAs
open PyProof.Rows renaming callWith_type1→qBB
open Classical renaming axiomOfChoice→qBR
open Sum.inr renaming inj→qBl
open PySem.Paired renaming length→qBp
open Function renaming comp_def→qBr
open List.Perm renaming refl→qB5,append_left→qCQ
open PySem.Heap.SameBut renaming update→qCJ
open PySem.Calls renaming Name_function_global→qCK,callWith_builtin→qCd
open List.Sublist renaming refl→qCU
open PySem.Heap.IsTuple renaming push→qCV
open PySem.SeqAt.EqAt renaming str_int→qCX,int_str→qCY
open PySem.Heap.IsList renaming push→qCc
open Array renaming mem_of_getElem?→qCl,getElem?_toList→qCm,length_toList→qCx
open PySem.W (findIn instObj kitOne lookIn methodObj plainGet)
namespace L2
open PySem PySem.Spec PyProof.Rows
noncomputable abbrev Key:=Sum Int Str
noncomputable def zaaz:Key->Value->Bool
 | .inl k,v=>Value.isInt k v
 | .inr x,v=>Value.isStrOf x v
noncomputable def keyH(w:World):Key->Int
 | .inl k=>hashInt k
 | .inr x=>hashStr w x
theorem zdc:∀{k:Key}{v:Value},zaaz k v=true->(∃i t,k=Sum.inl i/\v=Value.int i t)\/(∃x t,k=Sum.inr x/\v=Value.str x t)
 | .inl i,v,h=>by
  obtain⟨t,e⟩:=Value.isInt_shape (k:=i) (v:=v) h
  exact .inl ⟨i,t,rfl,e⟩
 | .inr x,v,h=>by
  obtain⟨t,e⟩:=Value.isStrOf_shape (x:=x) (v:=v) h
  exact .inr ⟨x,t,rfl,e⟩
theorem zach(i:Int)(t:Tok):zaaz (.inl i) (.int i t)=true:=by simp[zaaz,Value.isInt]
theorem zaci(x:Str)(t:Tok):zaaz (.inr x) (.str x t)=true:=by simp[zaaz,Value.isStrOf]
theorem zaof(a b:Int):decide ((Sum.inl a:Key)=Sum.inl b)=(a==b):=by
 by_cases e:a=b
 ·subst e;simp
 ·have h:¬(Sum.inl a:Key)=Sum.inl b:=λq=>e (Sum.inl.inj q)
  rw[decide_eq_false h]
  exact(beq_eq_false_iff_ne.mpr e).symm
theorem zaog(a b:Str):decide ((Sum.inr a:Key)=Sum.inr b)=decide (a=b):=by
 by_cases e:a=b
 ·subst e;simp
 ·have h:¬(Sum.inr a:Key)=Sum.inr b:=λq=>e (qBl q)
  rw[decide_eq_false h,decide_eq_false e]
theorem zaoh(a:Int)(b:Str):decide ((Sum.inl a:Key)=Sum.inr b)=false:=decide_eq_false (λq=>nomatch q)
theorem zaoi(a:Str)(b:Int):decide ((Sum.inr a:Key)=Sum.inl b)=false:=decide_eq_false (λq=>nomatch q)
noncomputable def zdl(prog:Program)(w:World):PySem.KeyKind prog w Key where
 is:=zaaz
 hash:=keyH w
 inj:=λv a b ha hb=>by
  rcases zdc ha with⟨i,t,rfl,rfl⟩|⟨x,t,rfl,rfl⟩
  ·rcases zdc hb with⟨j,u,rfl,e⟩|⟨y,u,rfl,e⟩
   ·injection e with e1 _;rw[e1]
   ·exact nomatch e
  ·rcases zdc hb with⟨j,u,rfl,e⟩|⟨y,u,rfl,e⟩
   ·exact nomatch e
   ·injection e with e1 _;rw[e1]
 byValue:=λk v h=>by
  rcases zdc h with⟨i,t,rfl,rfl⟩|⟨x,t,rfl,rfl⟩<;>rfl
 pyHash:=λhv h=>by
  rcases zdc hv with⟨i,t,rfl,rfl⟩|⟨x,t,rfl,rfl⟩
  ·exact wpAny_pyHash_int h
  ·exact wpAny_pyHash_str h
 eqBool:=λhu hv h=>by
  rcases zdc hu with⟨i,t,rfl,rfl⟩|⟨x,t,rfl,rfl⟩
  ·rcases zdc hv with⟨j,u,rfl,rfl⟩|⟨y,u,rfl,rfl⟩
   ·rw[zaof]at h;exact wpAny_eqBool_int h
   ·rw[zaoh]at h;exact qCY i t y u _ _ _ _ h
  ·rcases zdc hv with⟨j,u,rfl,rfl⟩|⟨y,u,rfl,rfl⟩
   ·rw[zaoi]at h;exact qCX x t j u _ _ _ _ h
   ·rw[zaog]at h;exact wpAny_eqBool_str h
 «strs»:=λk x t v h=>by
  rcases zdc h with⟨i,u,rfl,e⟩|⟨y,u,rfl,e⟩
  ·exact nomatch e
  ·injection e with e1 _
   subst e1
   cases v<;>rfl
theorem zxi(prog:Program)(w:World)(i:Int)(t:Tok):(zdl prog w).is (.inl i) (.int i t)=true:=zach i t
theorem zxj(prog:Program)(w:World)(x:Str)(t:Tok):(zdl prog w).is (.inr x) (.str x t)=true:=zaci x t
inductive V where
 | non|bl (b:Bool)|int (i:Int)|str (x:Str)|byt (b:Array UInt8)|flt (b:UInt64)|ref (a:Addr)|ty (n:String)
 deriving DecidableEq
noncomputable def RelV:V->Value->Prop
 | .non,u=>u=Value.none
 | .bl b,u=>u=Value.bool b
 | .int i,u=>∃t,u=Value.int i t
 | .str x,u=>∃t,u=Value.str x t
 | .byt b,u=>∃t,u=Value.bytes b t
 | .flt b,u=>∃t,u=Value.float b t
 | .ref a,u=>u=Value.ref a
 | .ty n,u=>u=Value.type n
noncomputable abbrev Vals:List V->List Value->Prop:=Paired RelV
theorem Vals.length{xs:List V}{us:List Value}(r:Vals xs us):xs.length=us.length:=qBp r
theorem Vals.get:∀{xs:List V}{us:List Value}{i:Nat}{x:V},Vals xs us->xs[i]?=some x->∃u,us[i]?=some u/\RelV x u
 | _,_,_,_,.nil,e=>by simp at e
 | _,_,0,_,.cons r _,e=>by simp at e;subst e;exact⟨_,rfl,r⟩
 | _,_,i+1,x,.cons _ t,e=>by
  obtain⟨u,h1,h2⟩:=Vals.get (i:=i) (x:=x) t (by simpa using e)
  exact⟨u,by simpa using h1,h2⟩
theorem Vals.set(r:RelV x u):∀{xs:List V}{us:List Value}(i:Nat),Vals xs us->Vals (xs.set i x) (us.set i u)
 | _,_,_,.nil=>.nil
 | _,_,0,.cons _ t=>.cons r t
 | _,_,i+1,.cons q t=>.cons q (Vals.set r i t)
theorem Vals.append:∀{xs ys:List V}{us ws:List Value},Vals xs us->Vals ys ws->Vals (xs++ys) (us++ws)
 | _,_,_,_,.nil,s=>s
 | _,_,_,_,.cons r t,s=>.cons r (Vals.append t s)
theorem Vals.take:∀{xs:List V}{us:List Value}(n:Nat),Vals xs us->Vals (xs.take n) (us.take n)
 | _,_,0,_=>.nil
 | _,_,_+1,.nil=>.nil
 | _,_,n+1,.cons r t=>.cons r (Vals.take n t)
theorem Vals.drop:∀{xs:List V}{us:List Value}(n:Nat),Vals xs us->Vals (xs.drop n) (us.drop n)
 | _,_,0,r=>r
 | _,_,_+1,.nil=>.nil
 | _,_,n+1,.cons _ t=>Vals.drop n t
noncomputable def RelO:Option V->Option Value->Prop
 | some v,some u=>RelV v u
 | none,none=>True
 | _,_=>False
noncomputable def KV{κ:Type}:List (κ×V)->List (κ×Value)->Prop:=Paired λ(p:κ×V)(q:κ×Value)=>p.1=q.1/\RelV p.2 q.2
noncomputable def kV:Key->V
 | .inl i=>.int i
 | .inr x=>.str x
inductive HO where
  | lst (xs:List V)
  | tup (xs:List V)
  | dK (kvs:List (Key×V))|dT (kvs:List (List Key×V))
  | set (S:Int->Bool) (n:Nat)
  | ins (C dx:Addr) (fs:List (Str×V))
  | own (x:Addr)
  | xd (fs:List (Str×V))
  | met (f x:Addr)
  | rng (lo hi:Int)
  | frz (o:Obj) (u:HO)
  | tbl (ps:Array Value)
 | tabO (q:Str)
  | ext (φ:Heap->Prop)
noncomputable abbrev Hp:=Addr->Option HO
noncomputable def upd(H:Hp)(a:Addr)(o:HO):Hp:=λb=>if b=a then some o else H b
theorem zap:upd H a o a=some o:=by unfold upd;rw[if_pos rfl]
theorem zau(h:b≠a):upd H a o b=H b:=by unfold upd;rw[if_neg h]
theorem zalf:upd (upd H a o) a u=upd H a u:=by
 funext b;unfold upd;split<;>rfl
theorem zark{H:Hp}{a b:Addr}{o u:HO}(h:H a=some o)(h':H b=some u)(d:o≠u):a≠b:=by
 intro e;subst e;rw[h]at h';exact d (qe h')
theorem zay{H:Hp}{a b:Addr}{o:HO}(h:H a=some o)(h':H b=none):a≠b:=by
 intro e;subst e;rw[h]at h';cases h'
section
variable(P:Program)(w:World)
noncomputable def zeq(H:Hp)(h:Heap)(a:Addr):HO->Prop
 | .lst xs=>xs.length<=qZ/\∃(its:List Value)(n:Nat),Vals xs its/\h.get? a=some {cls:=.type "list",data:=.seq its.toArray n}
 | .tup xs=>xs.length<=qZ/\∃its:List Value,Vals xs its/\IsTup h a its.toArray
 | .dK kvs=>kvs.length<=qZ/\(a==sysModules)=false/\∃vs,KV kvs vs/\h.DictOf (zdl P w) a vs
 | .dT kvs=>kvs.length<=qZ/\(a==sysModules)=false/\∃xs:List (List Key×Addr×Value),
   Paired (λ(p:List Key×V)(q:List Key×Addr×Value)=>p.1=q.1/\H q.2.1=some (.tup (p.1.map kV))/\RelV p.2 q.2.2) kvs xs/\
   ∃o es ep,h.get? a=some o/\o.ExactDict/\o.data=.dict es ep/\es.toList=xs.map (entryOfKey (tupleKind (zdl P w)))/\(xs.map (·.1)).Nodup
 | .set S n=>h.SetOf (intKind P w) a S n
 | .ins C dx fs=>H dx=some (.own a)/\fs.length<=1000/\dx≠a/\h.get? a=some (instObj C dx)/\
   ∃mA,h.Ns1 dx mA/\(∀f,RelO (fs.lookup f) (mA f))/\PySem.Within mA (fs.map (·.1))
 | .own _=>∃o,h.get? a=some o
 | .xd fs=>∃mA,h.Ns1 a mA/\∀f,RelO (fs.lookup f) (mA f)
 | .rng lo hi=>∃t u v,h.get? a=some {cls:=.type "range",data:=.fields #[.int lo t,.int hi u,.int 1 v]}
 | .frz o u=>h.get? a=some o/\zeq H h a u
 | .tbl ps=>h.get? a=some {cls:=.none,data:=.fields ps}
 | .tabO q=>∃ps:Array Value,h.get? a=some (PySem.W.tabObj ps)/\TriplesOk ps.toList/\∀pos cv,codeAmong pos ps.toList=some cv->∃c o vs t,cv=.ref c/\c≠a/\H c=some (.frz o (.own a))/\o.data=.fields vs/\vs[1]?=some (.str q t)
 | .met f x=>h.get? a=some (methodObj (.ref f) (.ref x))
 | .ext φ=>φ h/\(∃o,h.get? a=some o)/\∀h1 h2:Heap,φ h1->(∀o,h1.get? a=some o->h2.get? a=some o)->φ h2
noncomputable def HOk(H:Hp)(h:Heap):Prop:=∀a o,H a=some o->zeq P w H h a o
end
section
variable{P:Program}{w:World}{H H':Hp}{h h':Heap}{a:Addr}{o:HO}
theorem zeq.lt(x:zeq P w H h a o):a<h.objs.size:=by
 cases o with
 | lst xs=>obtain⟨_,_,_,_,e⟩:=x;exact qR e
 | tup xs=>obtain⟨_,_,_,p⟩:=x;exact p.lt
 | dK kvs=>obtain⟨_,_,_,_,o,_,_,e,_⟩:=x;exact qR e
 | dT kvs=>obtain⟨_,_,_,_,o,_,_,e,_⟩:=x;exact qR e
 | set S n=>obtain⟨o,_,_,_,e,_⟩:=x;exact qR e
 | ins C dx fs=>obtain⟨_,_,_,e,_⟩:=x;exact qR e
 | own y=>obtain⟨_,e⟩:=x;exact qR e
 | xd fs=>obtain⟨_,⟨_,_,_,e,_⟩,_⟩:=x;exact qR e
 | rng lo hi=>obtain⟨_,_,_,e⟩:=x;exact qR e
 | frz ob u=>obtain⟨e,_⟩:=x;exact qR e
 | tbl ps=>exact qR (show h.get? a=some _ from x)
 | tabO q=>obtain⟨_,e,_⟩:=x;exact qR e
 | met f y=>exact qR (show h.get? a=some _ from x)
 | ext φ=>obtain⟨_,⟨_,e⟩,_⟩:=x;exact qR e
theorem Paired.mapP{F G:α->β->Prop}:∀{l₁:List α}{l₂:List β},Paired F l₁ l₂->(∀a b,F a b->G a b)->Paired G l₁ l₂
 | _,_,.nil,_=>.nil
 | _,_,.cons r t,f=>.cons (f _ _ r) (Paired.mapP t f)
theorem zeq.stay(x:zeq P w H h a o)(k:∀b u,(b=a\/H b=some (.own a))->h.get? b=some u->h'.get? b=some u)
  (ho:∀b,H b=some (.own a)->H' b=some (.own a)) (ht:∀b xs,H b=some (.tup xs)->H' b=some (.tup xs)) (hf:∀(b:Addr)(o':Obj),H b=some (.frz o' (.own a))->H' b=some (.frz o' (.own a)):=by first|exact λ_ _ q=>q|(intro b o' q;rw[zau (zay q (by assumption))];exact q)|(intro b o' q;rw[zau (λz=>by subst z;simp_all)];exact q)):zeq P w H' h' a o:=by
 induction o with
 | lst xs=>obtain⟨z,its,n,r,e⟩:=x;exact⟨z,its,n,r,k _ _ (.inl rfl) e⟩
 | tup xs=>obtain⟨z,its,r,ob,e,c⟩:=x;exact⟨z,its,r,ob,k _ _ (.inl rfl) e,c⟩
 | dK kvs=>obtain⟨z,y,vs,r,ob,es,ep,e,c⟩:=x;exact⟨z,y,vs,r,ob,es,ep,k _ _ (.inl rfl) e,c⟩
 | dT kvs=>
  obtain⟨z,y,xs,r,ob,es,ep,e,c⟩:=x
  exact⟨z,y,xs,Paired.mapP r λp q z=>⟨z.1,ht _ _ z.2.1,z.2.2⟩,ob,es,ep,k _ _ (.inl rfl) e,c⟩
 | set S n=>obtain⟨ob,es,ep,t,e,c⟩:=x;exact⟨ob,es,ep,t,k _ _ (.inl rfl) e,c⟩
 | ins C dx fs=>
  obtain⟨d,z,ne,e,mA,⟨od,es,ep,e2,c⟩,r⟩:=x
  exact⟨ho _ d,z,ne,k _ _ (.inl rfl) e,mA,⟨od,es,ep,k _ _ (.inr d) e2,c⟩,r⟩
 | own y=>obtain⟨ob,e⟩:=x;exact⟨ob,k _ _ (.inl rfl) e⟩
 | xd fs=>obtain⟨mA,⟨od,es,ep,e,c⟩,r⟩:=x;exact⟨mA,⟨od,es,ep,k _ _ (.inl rfl) e,c⟩,r⟩
 | rng lo hi=>obtain⟨t,u,v,e⟩:=x;exact⟨t,u,v,k _ _ (.inl rfl) e⟩
 | frz ob u ih=>obtain⟨e,q⟩:=x;exact⟨k _ _ (.inl rfl) e,ih q⟩
 | tabO q=>
  obtain⟨ps,e,t,c⟩:=x
  exact⟨ps,k _ _ (.inl rfl) e,t,λpos cv hc=>by
   obtain⟨c',o,vs,tt,e1,e2,e3,e5⟩:=c pos cv hc
   exact⟨c',o,vs,tt,e1,e2,hf _ _ e3,e5⟩⟩
 | tbl ps=>
  have e:h.get? a=some {cls:=.none,data:=.fields ps}:=x
  show h'.get? a=some {cls:=.none,data:=.fields ps}
  exact k a _ (.inl rfl) e
 | met f y=>
  have e:h.get? a=some (methodObj (.ref f) (.ref y)):=x
  show h'.get? a=some (methodObj (.ref f) (.ref y))
  exact k a _ (.inl rfl) e
 | ext φ=>obtain⟨p,⟨o,e⟩,st⟩:=x;exact⟨st _ _ p λo q=>k _ _ (.inl rfl) q,⟨o,k _ _ (.inl rfl) e⟩,st⟩
theorem HOk.lt(x:HOk P w H h)(e:H a=some o):a<h.objs.size:=(x a o e).lt
theorem HOk.fresh(x:HOk P w H h)(e:h.objs.size<=a):H a=none:=by
 cases q:H a with
 | none=>rfl
 | some u=>exact absurd (qh (x.lt q) e) (qAz _)
theorem HOk.kept(x:HOk P w H h)(k:∀b u,h.get? b=some u->h'.get? b=some u):HOk P w H h':=λa o e=>
 (x a o e).stay (λb u _ q=>k b u q) (λ_ q=>q) λ_ _ q=>q
theorem HOk.laid(x:HOk P w H h)(k:∀b u,h.get? b=some u->h'.get? b=some u)(hp:h.objs.size<=a)(new:zeq P w (upd H a o) h' a o):HOk P w (upd H a o) h':=λb u e=>by
 have hn:=x.fresh hp
 by_cases hb:b=a
 ·subst hb;rw[zap]at e;cases e;exact new
 ·rw[zau hb]at e
  exact(x b u e).stay (λc v _ q=>k c v q) (λc q=>by rw[zau (zay q hn)];exact q) λc xs q=>by rw[zau (zay q hn)];exact q
end
noncomputable def Rd(H:Hp)(a:Addr)(u:HO):Prop:=H a=some u\/∃o,H a=some (.frz o u)
theorem Rd.ok(r:Rd H a u)(x:HOk P w H h):zeq P w H h a u:=by
 rcases r with r|⟨o,r⟩
 ·exact x a u r
 ·obtain⟨_,q⟩:=x a _ r
  exact q
noncomputable def Mut:Option HO->Prop
 | some (.lst _)=>True
 | some (.dK _)=>True
 | some (.dT _)=>True
 | some (.set _ _)=>True
 | some (.ins _ _ _)=>True
 | some (.ext _)=>True
 | _=>False
section
variable{P:Program}{w:World}{H:Hp}{h h':Heap}{x e:Addr}{o':HO}
theorem HOk.write(ok:HOk P w H h)(mu:Mut (H x))(he:e=x\/H e=some (.own x))(k:∀b u,b≠e->h.get? b=some u->h'.get? b=some u)(heo:∃u,h'.get? e=some u)
  (new:zeq P w (upd H x o') h' x o'):HOk P w (upd H x o') h':=λb u q=>by
 have nown:∀c y,H c=some (.own y)->c≠x:=λc y r z=>by subst z;rw[r]at mu;exact mu
 have ntup:∀c xs,H c=some (.tup xs)->c≠x:=λc xs r z=>by subst z;rw[r]at mu;exact mu
 have nfrz:∀c o2 u2,H c=some (.frz o2 u2)->c≠x:=λc o2 u2 r z=>by subst z;rw[r]at mu;exact mu
 by_cases hb:b=x
 ·subst hb;rw[zap]at q;cases q;exact new
 ·rw[zau hb]at q
  by_cases hbe:b=e
  ·have q':H b=some (.own x):=by
    rcases he with z|z
    ·exact absurd (hbe.trans z) hb
    ·rw[hbe];exact z
   rw[q]at q';cases q'
   obtain⟨v,hv⟩:=heo
   exact⟨v,by rw[hbe];exact hv⟩
  ·refine(ok b u q).stay (λc v hc r=>k c v ?_ r) (λc r=>by rw[zau (nown c b r)];exact r) (λc xs r=>by rw[zau (ntup c xs r)];exact r) (λc o2 r=>by rw[zau (nfrz c o2 _ r)];exact r)
   rcases hc with rfl|hc
   ·exact hbe
   ·rintro rfl
    rcases he with z|z
    ·exact nown c b hc z
    ·rw[hc]at z;cases z;exact hb rfl
end
set_option genInjectivity false in
structure Un(fs ex:List Addr)(H H':Hp)(h h':Heap):Prop where
 keep:∀b o,h.get? b=some o->H b=none->b∉fs->b∉ex->h'.get? b=some o
 slot:∀b o,h.get? b=some o->H b=none->b∈fs->b∉ex->∃sl,h'.get? b=some {o with slots:=sl}
 free:∀b o,h.get? b=some o->H b=none->b∉ex->H' b=none
 there:∀b o,h.get? b=some o->b∉ex->∃o',h'.get? b=some o'
 tups:∀b xs,H b=some (.tup xs)->H' b=some (.tup xs)
 frzs:∀b o u,H b=some (.frz o u)->H' b=some (.frz o u)
 tbls:∀b ps,H b=some (.tbl ps)->∃more,H' b=some (.tbl (ps++more))
section
variable{fs fs' ex ex':List Addr}{H H1 H2:Hp}{h h1 h2 h':Heap}{a x e:Addr}{o:HO}
theorem Un.any(u:Un fs ex H H1 h h1)(q:h.get? b=some ob)(n:H b=none)(hx:b∉ex):∃sl,h1.get? b=some {ob with slots:=sl}:=by
 by_cases hb:b∈fs
 ·exact u.slot b ob q n hb hx
 ·exact⟨ob.slots,u.keep b ob q n hb hx⟩
theorem Un.kept(k:∀b u,h.get? b=some u->h'.get? b=some u):Un fs ex H H h h':=
 ⟨λb ob q _ _ _=>k b ob q,λb ob q _ _ _=>⟨ob.slots,k b ob q⟩,λ_ _ _ n _=>n,λb ob q _=>⟨ob,k b ob q⟩,λ_ _ q=>q,λ_ _ _ q=>q,λ_ ps q=>⟨#[],by rw[q];simp⟩⟩
theorem Un.refl:Un fs ex H H h h:=Un.kept λ_ _ q=>q
theorem Un.laid(k:∀b u,h.get? b=some u->h'.get? b=some u)(hp:h.objs.size<=a)(hn:H a=none):Un fs ex H (upd H a o) h h' where
 keep:=λb u q _ _ _=>k b u q
 slot:=λb u q _ _ _=>⟨u.slots,k b u q⟩
 free:=λb u q n _=>by rw[zau (qp (qh (qR q) hp))];exact n
 there:=λb u q _=>⟨u,k b u q⟩
 tups:=λb xs q=>by rw[zau (zay q hn)];exact q
 frzs:=λb u xs q=>by rw[zau (zay q hn)];exact q
 tbls:=λb ps q=>⟨#[],by rw[zau (zay q hn),q];simp⟩
theorem Un.write(mu:Mut (H x))(he:e=x\/H e=some (.own x))(k:∀b u,b≠e->h.get? b=some u->h'.get? b=some u)(heo:∃u,h'.get? e=some u):Un fs ex H (upd H x o) h h':=by
 have hx:∀b,H b=none->b≠x:=λb n z=>by subst z;rw[n]at mu;exact mu
 have hb:∀b,H b=none->b≠e:=λb n z=>by
  subst z
  rcases he with r|r
  ·exact hx b n r
  ·rw[n]at r;cases r
 have hm:∀b u,H b=some u->¬Mut (some u)->b≠x:=λb u q nm z=>by subst z;rw[q]at mu;exact nm mu
 refine⟨λb u q n _ _=>k b u (hb b n) q,λb u q n _ _=>⟨u.slots,k b u (hb b n) q⟩,λb u q n _=>by rw[zau (hx b n)];exact n,λb u q _=>?_,
  λb xs q=>by rw[zau (hm b _ q λz=>z)];exact q,λb u xs q=>by rw[zau (hm b _ q λz=>z)];exact q,λb ps q=>⟨#[],by rw[zau (hm b _ q λz=>z),q];simp⟩⟩
 by_cases hbe:b=e
 ·subst hbe;exact heo
 ·exact⟨u,k b u hbe q⟩
end
noncomputable def trk(h:Heap)(H:Hp):List Addr:=(List.range h.objs.size).filter λa=>(H a).isSome
noncomputable def hidT(h:Heap)(H:Hp):Heap:=PySem.W.hideAll h (trk h H)
theorem zacj(h:Heap)(H:Hp):(hidT h H).objs.size=h.objs.size:=PySem.W.hideAll_size _ _
theorem zahb{h:Heap}(e:h.get? b=some o)(n:H b=none):(hidT h H).get? b=some o:=
 PySem.W.hideAll_get _ e λhm=>by
  have q:(H b).isSome=true:=(qAK.mp hm).2
  rw[n]at q;simp at q
theorem zalg{h:Heap}(e:(hidT h H).get? b=some o):h.get? b=some o/\H b=none:=by
 have e':h.get? b=some o:=PySem.W.of_hideAll (trk h H) e
 refine⟨e',?_⟩
 cases q:H b with
 | none=>rfl
 | some x=>
  have hm:b∈trk h H:=qAK.mpr ⟨qAW.mpr (qR e'),by simp[q]⟩
  have z:(hidT h H).get? b=none:=PySem.W.hideAll_none (trk h H) hm
  rw[z]at e;cases e
set_option genInjectivity false in
structure Mod(K:qC)(mg:Str->Option Value)(base:Heap):Prop where
 kin:K.In base
 glob:base.Ns qAE mg
 blt:∃mb,base.Ns builtinsNs mb/\∀x:Str,x≠"__name__"->mb x=bootBuiltins x
 nolimit:base.NoLimit
set_option genInjectivity false in
structure Cx where
 prog:Program
 w:World
 K:qC
 mg:Str->Option Value
 base:Heap
 A:Around
 N:List Str
 s₀:Shared
 H₀:Hp
 env:Env
 outer:List Env
 stack:List Env
 ex:List Addr
 fn:Str->Bool
 calm:Bool
 pn:List (Addr×Obj)
 xe:Value->Shared->Prop
noncomputable def frs(l:List Env):List Addr:=l.filterMap (·.frame)
noncomputable abbrev Cx.fs(X:Cx):List Addr:=frs X.outer
noncomputable def Vis(sc:Scope)(x:Str):Prop:=sc.names.lookup x=some .local\/sc.names.lookup x=some .cell\/sc.names.lookup x=some .free
noncomputable def visB(sc:Scope)(x:Str):Bool:=match sc.names.lookup x with
 | some .local=>true
 | some .cell=>true
 | some .free=>true
 | _=>false
theorem visB.of(h:visB sc x=true):Vis sc x:=by
 unfold visB at h
 cases e:sc.names.lookup x with
 | none=>rw[e]at h;cases h
 | some k=>rw[e]at h;cases k<;>first|exact .inl e|exact .inr (.inl e)|exact .inr (.inr e)|cases h
noncomputable def Loc(sc:Scope)(x:Str):Prop:=sc.names.lookup x=some .local\/sc.names.lookup x=some .cell
noncomputable def Look(env:Env)(h:Heap)(m:Str->Option Value)(x:Str)(u:Value):Prop:=
 (env.kindOf x=some .local/\m x=some u)\/((env.kindOf x=some .cell\/env.kindOf x=some .free)/\∃c,env.cells.lookup x=some c/\h.IsCell c (some u))
set_option genInjectivity false in
structure Cx.Ok(X:Cx):Prop where
 mod:Mod X.K X.mg X.base
 kind:X.env.scope.kind=.function
 glob:X.env.globals=qAE
 blt:X.env.builtins=builtinsNs
 above:X.s₀.heap.objs.size<=X.env.locals
 inj:∀x y c,X.env.cells.lookup x=some c->X.env.cells.lookup y=some c->x=y
 has:∀x,(X.env.kindOf x=some .cell\/X.env.kindOf x=some .free)->∃c,X.env.cells.lookup x=some c
 cab:∀x c,X.fn x=true->X.env.cells.lookup x=some c->X.s₀.heap.objs.size<=c
 hd:X.calm=true->X.A.handled=none
 frames:X.A.frames=some X.stack
 stk:X.stack=X.outer\/(X.stack=X.env::X.outer/\X.env.frame=some X.env.locals)
 exf:∀b∈X.ex,b≠X.env.locals/\∀x c,X.env.cells.lookup x=some c->c≠b
 bs:∀b o,X.base.get? b=some o->X.s₀.heap.get? b=some o/\X.H₀ b=none
 bsz:X.base.objs.size<=X.s₀.heap.objs.size
 noex:∀b o,X.base.get? b=some o->b∉X.ex
 exfs:∀b∈X.ex,b∉X.fs
 funs:X.s₀.heap.FunFrames X.base X.outer
 frf:∀b∈X.fs,X.H₀ b=none
set_option genInjectivity false in
structure Inv(X:Cx)(pins:List (Addr×Obj))(σ:List (Option V))(H:Hp)(s:Shared):Prop where
 ok:X.Ok
 os:s.os=X.s₀.os
 bare:AllBare s.gens
 base:Un X.fs X.ex X.H₀ H X.s₀.heap s.heap
 loc:∃m,s.heap.Ns X.env.locals m/\∀(i:Nat)(x:Str)(v:V),X.N[i]?=some x->σ[i]?=some (some v)->Vis X.env.scope x->∃u,RelV v u/\Look X.env s.heap m x u
 cell:∀x c,X.env.cells.lookup x=some c->∃v,s.heap.IsCell c v
 free:H X.env.locals=none
 freeC:∀x c,X.env.cells.lookup x=some c->H c=none
 pin:∀p∈X.pn++pins,s.heap.get? p.1=some p.2/\H p.1=none/\p.1≠X.env.locals/\p.1∉X.fs/\∀v,p.2.data≠.cell v
 hok:HOk X.prog X.w H s.heap
 len:σ.length=X.N.length
section
variable{X:Cx}{pins:List (Addr×Obj)}{σ:List (Option V)}{H H':Hp}{s:Shared}{h':Heap}
theorem Cx.Ok.nofr(ok:X.Ok)(e:X.base.get? b=some o):b∉X.fs:=λhb=>by
 have:=(ok.funs.mem hb).1
 rw[e]at this;cases this
theorem Inv.bs(I:Inv X pins σ H s):∀b o,X.base.get? b=some o->s.heap.get? b=some o/\H b=none:=λb o e=>
 ⟨I.base.keep b o (I.ok.bs b o e).1 (I.ok.bs b o e).2 (I.ok.nofr e) (I.ok.noex b o e),I.base.free b o (I.ok.bs b o e).1 (I.ok.bs b o e).2 (I.ok.noex b o e)⟩
theorem Inv.bk(I:Inv X pins σ H s):∀b o,X.base.get? b=some o->s.heap.get? b=some o:=λb o e=>(I.bs b o e).1
theorem Inv.mod(I:Inv X pins σ H s):Mod X.K X.mg X.base:=I.ok.mod
theorem Inv.kIn(I:Inv X pins σ H s):X.K.In s.heap:=I.ok.mod.kin.keeps I.bk
theorem Inv.lt(I:Inv X pins σ H s):X.env.locals<s.heap.objs.size:=let⟨_,hn,_⟩:=I.loc;hn.lt
theorem Inv.sz(I:Inv X pins σ H s):X.s₀.heap.objs.size<=s.heap.objs.size:=qAS I.ok.above (qCt I.lt)
theorem Inv.nofs(I:Inv X pins σ H s)(h:s.heap.objs.size<=a):a∉X.fs:=λhb=>by
 obtain⟨_,o,ho,_⟩:=I.ok.funs.mem hb
 exact absurd (qh (qR ho) (qAS I.sz h)) (qAz _)
theorem Inv.cne(I:Inv X pins σ H s):∀x c,X.env.cells.lookup x=some c->c≠X.env.locals:=λx c e z=>by
 obtain⟨v,o,ho,hd⟩:=I.cell x c e
 obtain⟨m,⟨o',es,ep,ho',hd',_⟩,_⟩:=I.loc
 rw[z,ho']at ho;cases ho;rw[hd']at hd;cases hd
theorem Inv.funs(I:Inv X pins σ H s):s.heap.FunFrames X.base X.outer:=by
 have all:∀(l:List Env),(∀b∈frs l,b∈X.fs)->X.s₀.heap.FunFrames X.base l->s.heap.FunFrames X.base l:=by
  intro l
  induction l with
  | nil=>intro _ _;trivial
  | cons env r ih=>
   intro hs hl
   obtain⟨hk,⟨L,o,hf,hn,ho,hd⟩,hr⟩:=hl
   have hL:L∈X.fs:=hs L (by unfold frs;rw[qBq,hf];exact qb)
   obtain⟨sl,e⟩:=I.base.slot L o ho (I.ok.frf L hL) hL λz=>I.ok.exfs L z hL
   exact⟨hk,⟨L,_,hf,hn,e,hd⟩,ih (λb hb=>hs b (by unfold frs;rw[qBq,hf];exact qQ _ hb)) hr⟩
 exact all X.outer (λ_ hb=>hb) I.ok.funs
theorem Inv.stack(I:Inv X pins σ H s):s.heap.FunFrames X.base X.stack:=by
 rcases I.ok.stk with e|⟨e,hf⟩
 ·rw[e];exact I.funs
 ·rw[e]
  obtain⟨m,hn,_⟩:=I.loc
  refine .cons (by rw[I.ok.kind];decide) hf hn ?_ I.funs
  exact Heap.get?_none_of_le (qAS I.ok.bsz I.ok.above)
theorem Inv.stkSub(I:Inv X pins σ H s):∀b∈frs X.stack,b∈X.env.locals::X.fs:=λb hb=>by
 rcases I.ok.stk with e|⟨e,hf⟩
 ·rw[e]at hb;exact qQ _ hb
 ·rw[e]at hb
  unfold frs at hb
  rw[qBq,hf]at hb
  exact hb
theorem Inv.stkFree(I:Inv X pins σ H s):∀b∈frs X.stack,H b=none:=λb hb=>by
 rcases qP.mp (I.stkSub b hb)with e|hb
 ·rw[e];exact I.free
 ·obtain⟨_,o,ho,_⟩:=I.ok.funs.mem hb
  exact I.base.free b o ho (I.ok.frf b hb) λz=>I.ok.exfs b z hb
theorem Inv.step{g':Array GenState}{t':Nat}{d':Drawn}{ch:List Addr}(I:Inv X pins σ H s)
  (hch:∀b∈ch,(b∈X.ex\/X.s₀.heap.objs.size<=b)/\b≠X.env.locals/\(∀x c,X.env.cells.lookup x=some c->c≠b)/\∀p∈X.pn++pins,p.1≠b)
  (keep:∀b o,b≠X.env.locals->b∉X.fs->b∉ch->s.heap.get? b=some o->H b=none->h'.get? b=some o)
  (slot:∀b o,b≠X.env.locals->b∈X.fs->b∉ch->s.heap.get? b=some o->H b=none->∃sl,h'.get? b=some {o with slots:=sl}) (free:∀b o,b∉ch->s.heap.get? b=some o->H b=none->H' b=none)
  (there:∀b o,b∉ch->s.heap.get? b=some o->∃o',h'.get? b=some o')
  (tups:∀b xs,H b=some (.tup xs)->H' b=some (.tup xs))(frzs:∀b o u,H b=some (.frz o u)->H' b=some (.frz o u))(tbls:∀b ps,H b=some (.tbl ps)->∃more,H' b=some (.tbl (ps++more)))
  (ns:∀m,s.heap.Ns X.env.locals m->h'.Ns X.env.locals m)(hok:HOk X.prog X.w H' h')(hg:AllBare g') :
  Inv X pins σ H' {s with heap:=h',gens:=g',drawn:=d',toks:=t'}:=by
 have neL:∀b o,X.s₀.heap.get? b=some o->b≠X.env.locals:=λb o e=>qp (qh (qR e) I.ok.above)
 have neC:∀b o,X.s₀.heap.get? b=some o->b∉X.ex->b∉ch:=λb o e hx hb=>by
  rcases(hch b hb).1 with z|z
  ·exact hx z
  ·exact absurd (qh (qR e) z) (qAz _)
 have cellK:∀x c,X.env.cells.lookup x=some c->∀v,s.heap.IsCell c v->h'.IsCell c v:=λx c e v ⟨o,ho,hd⟩=>by
  have nch:c∉ch:=λz=>(hch c z).2.2.1 x c e rfl
  by_cases hc:c∈X.fs
  ·obtain⟨sl,q⟩:=slot c o (I.cne x c e) hc nch ho (I.freeC x c e)
   exact⟨_,q,hd⟩
  ·exact⟨o,keep c o (I.cne x c e) hc nch ho (I.freeC x c e),hd⟩
 refine⟨I.ok,I.os,hg,⟨λb o e n hb hx=>?_,λb o e n hb hx=>?_,λb o e n hx=>?_,λb o e hx=>?_,λb xs e=>tups b xs (I.base.tups b xs e),λb o xs e=>frzs b o xs (I.base.frzs b o xs e),λb ps e=>?_⟩,?_,λx c e=>?_,?_,λx c e=>?_,λp hp=>?_,hok,I.len⟩
 ·exact keep b o (neL b o e) hb (neC b o e hx) (I.base.keep b o e n hb hx) (I.base.free b o e n hx)
 ·obtain⟨sl,e1⟩:=I.base.slot b o e n hb hx
  obtain⟨sl',e2⟩:=slot b _ (neL b o e) hb (neC b o e hx) e1 (I.base.free b o e n hx)
  exact⟨sl',e2⟩
 ·obtain⟨o',e1⟩:=I.base.there b o e hx
  exact free b o' (neC b o e hx) e1 (I.base.free b o e n hx)
 ·obtain⟨o',e1⟩:=I.base.there b o e hx
  exact there b o' (neC b o e hx) e1
 ·obtain⟨m1,e1⟩:=I.base.tbls b ps e
  obtain⟨m2,e2⟩:=tbls b _ e1
  exact⟨m1++m2,by rw[e2,Array.append_assoc]⟩
 ·obtain⟨m,hn,hl⟩:=I.loc
  refine⟨m,ns m hn,λi x v e1 e2 e3=>?_⟩
  obtain⟨u,r,l⟩:=hl i x v e1 e2 e3
  refine⟨u,r,?_⟩
  rcases l with l|⟨k,c,e,z⟩
  ·exact .inl l
  ·exact .inr ⟨k,c,e,cellK x c e _ z⟩
 ·obtain⟨v,z⟩:=I.cell x c e
  exact⟨v,cellK x c e v z⟩
 ·obtain⟨m,⟨o,_,_,ho,_⟩,_⟩:=I.loc
  exact free _ o (λz=>(hch _ z).2.1 rfl) ho I.free
 ·obtain⟨v,o,ho,hd⟩:=I.cell x c e
  exact free c o (λz=>(hch c z).2.2.1 x c e rfl) ho (I.freeC x c e)
 ·obtain⟨e,n,ne,nf,d⟩:=I.pin p hp
  have nch:p.1∉ch:=λz=>(hch p.1 z).2.2.2 p hp rfl
  exact⟨keep p.1 p.2 ne nf nch e n,free p.1 p.2 nch e n,ne,nf,d⟩
theorem Inv.un{t':Nat}(I:Inv X pins σ H s)(u:Un X.fs [] H H' s.heap h')(hok:HOk X.prog X.w H' h'):Inv X pins σ H' {s with heap:=h',toks:=t'}:=by
 obtain⟨m,⟨o,es,ep,ho,r⟩,_⟩:=id I.loc
 obtain⟨sl,hL⟩:=u.any ho I.free (by simp)
 exact I.step (g':=s.gens) (d':=s.drawn) (ch:=[]) (λ_ z=>nomatch z) (λb o _ hb _ e n=>u.keep b o e n hb (by simp)) (λb o _ hb _ e n=>u.slot b o e n hb (by simp)) (λb o _ e n=>u.free b o e n (by simp)) (λb o _ e=>u.there b o e (by simp)) u.tups u.frzs u.tbls (λm' hm=>by
  obtain⟨o',es',ep',ho',r'⟩:=hm
  rw[ho]at ho';cases ho'
  exact⟨_,es',ep',hL,r'⟩) hok I.bare
theorem Inv.call{g':Array GenState}{t':Nat}{d':Drawn}{ch:List Addr}(I:Inv X pins σ H s)(u:Un (frs X.stack) ch H H' s.heap h')(hok:HOk X.prog X.w H' h')(hg:AllBare g')
  (hch:∀b∈ch,(b∈X.ex\/X.s₀.heap.objs.size<=b)/\b≠X.env.locals/\(∀x c,X.env.cells.lookup x=some c->c≠b)/\∀p∈X.pn++pins,p.1≠b) :
  Inv X pins σ H' {s with heap:=h',gens:=g',drawn:=d',toks:=t'}:=by
 obtain⟨m,⟨o,es,ep,ho,r⟩,_⟩:=id I.loc
 obtain⟨sl,hL⟩:=u.any ho I.free λz=>(hch _ z).2.1 rfl
 exact I.step (ch:=ch) hch (λb o hL hb hc e n=>u.keep b o e n (λz=>(qP.mp (I.stkSub b z)).elim hL hb) hc) (λb o _ _ hc e n=>u.any e n hc) (λb o hc e n=>u.free b o e n hc) (λb o hc e=>u.there b o e hc) u.tups u.frzs u.tbls (λm' hm=>by
  obtain⟨o',es',ep',ho',r'⟩:=hm
  rw[ho]at ho';cases ho'
  exact⟨_,es',ep',hL,r'⟩) hok hg
theorem Inv.turned{t':Nat}{it:Addr}(I:Inv X pins σ H s)(k:∀b o,b≠it->s.heap.get? b=some o->h'.get? b=some o)(hn:H it=none)(hL:it≠X.env.locals)
  (h1:it∈X.ex\/X.s₀.heap.objs.size<=it) (h2:∀x c,X.env.cells.lookup x=some c->c≠it) (h3:∀p∈X.pn++pins,p.1≠it):Inv X pins σ H {s with heap:=h',toks:=t'}:=by
 have nit:∀b u,H b=some u->b≠it:=λb u e z=>by rw[z,hn]at e;cases e
 refine I.step (g':=s.gens) (d':=s.drawn) (ch:=[it]) (λb hb=>?_) (λb o _ _ hc e _=>k b o (λz=>hc (by simp[z])) e) (λb o _ _ hc e _=>⟨o.slots,k b o (λz=>hc (by simp[z])) e⟩) (λ_ _ _ _ n=>n)
  (λb o hc e=>⟨o,k b o (λz=>hc (by simp[z])) e⟩) (λ_ _ e=>e) (λ_ _ _ e=>e) (λb ps e=>⟨#[],by rw[e];simp⟩) (λm hm=>?_) (λb u e=>?_) I.bare
 ·have e:b=it:=by simpa using hb
  subst e
  exact⟨h1,hL,h2,h3⟩
 ·obtain⟨o,es,ep,ho,r⟩:=hm
  exact⟨o,es,ep,k _ o (qAs hL) ho,r⟩
 ·refine(I.hok b u e).stay (λc v hc q=>k c v ?_ q) (λ_ q=>q) λ_ _ q=>q
  rcases hc with z|z
  ·rw[z];exact nit b u e
  ·exact nit c _ z
theorem Inv.tok(I:Inv X pins σ H s)(t:Nat):Inv X pins σ H {s with toks:=t}:=I.un (h':=s.heap) (t':=t) Un.refl I.hok
theorem Inv.kept(I:Inv X pins σ H s)(k:∀b u,s.heap.get? b=some u->h'.get? b=some u):Inv X pins σ H {s with heap:=h',toks:=t'}:=I.un (Un.kept k) (I.hok.kept k)
theorem Inv.laid(I:Inv X pins σ H s)(k:∀b u,s.heap.get? b=some u->h'.get? b=some u)(hp:s.heap.objs.size<=a)(new:zeq X.prog X.w (upd H a o) h' a o) :
  Inv X pins σ (upd H a o) {s with heap:=h',toks:=t'}:=I.un (Un.laid k hp (I.hok.fresh hp)) (I.hok.laid k hp new)
theorem Inv.write(I:Inv X pins σ H s)(mu:Mut (H x))(he:e=x\/H e=some (.own x))(k:∀b u,b≠e->s.heap.get? b=some u->h'.get? b=some u)(heo:∃u,h'.get? e=some u)
  (new:zeq X.prog X.w (upd H x o) h' x o):Inv X pins σ (upd H x o) {s with heap:=h',toks:=t'}:=I.un (Un.write mu he k heo) (I.hok.write mu he k heo new)
theorem Inv.pins_of(I:Inv X pins σ H s)(h:∀p∈pins',s.heap.get? p.1=some p.2/\H p.1=none/\p.1≠X.env.locals/\p.1∉X.fs/\∀v,p.2.data≠.cell v):Inv X pins' σ H s:=
 ⟨I.ok,I.os,I.bare,I.base,I.loc,I.cell,I.free,I.freeC,λp hp=>(qV.mp hp).elim (λz=>I.pin p (qw _ z)) (h p),I.hok,I.len⟩
theorem zzh{N:List Str}(hN:N.Nodup){i j:Nat}{x:Str}(a:N[i]?=some x)(b:N[j]?=some x):i=j:=by
 obtain⟨h1,e1⟩:=qK.mp a
 obtain⟨h2,e2⟩:=qK.mp b
 exact(List.getElem_inj hN).mp (e1.trans e2.symm)
theorem zug{M:Model}{A:Around}{E:Value->Shared->Prop}{i:Nat}{x:Str}{v:V}{u:Value}{Q:Unit->Shared->Prop}(I:Inv X pins σ H s)(hN:X.N.Nodup)(hi:X.N[i]?=some x)(hx:Loc X.env.scope x)(r:RelV v u)
  (h:∀s',Inv X pins (σ.set i (some v)) H s'->(∃a,Heap.SameBut a s.heap s'.heap/\(a=X.env.locals\/X.env.cells.lookup x=some a))->Q () s') (hf:X.fn x=true\/X.env.scope.names.lookup x=some .local:=by assumption):wpAny M A (storeName X.env x u) Q E s:=by
 obtain⟨m,hn,hl⟩:=id I.loc
 have hcls:(X.env.scope.kind==.class||(X.env.scope.kind==.module&&X.env.locals != X.env.globals))=false:=by rw[I.ok.kind];rfl
 have hiσ:i<σ.length:=by rw[I.len];exact(qK.mp hi).1
 have cne:=I.cne
 have tracked:∀{a:Addr}{h':Heap},(∃o,s.heap.get? a=some o/\H a=none)->Heap.SameBut a s.heap h'->HOk X.prog X.w H h':=λ{a h'} ha hs b ob e=>by
  obtain⟨_,_,hfree⟩:=ha
  refine(I.hok b ob e).stay (λc w' hc q=>(hs.2 c ?_).trans q) (λ_ q=>q) λ_ _ q=>q
  rintro rfl
  rcases hc with rfl|hc
  ·rw[hfree]at e;cases e
  ·rw[hfree]at hc;cases hc
 rcases hx with hk|hk
 ·refine wpAny_storeName_local hk hn (λh' hn' hs=>?_) hcls
  obtain⟨oL,_,_,hoL,_⟩:=id hn
  refine h _ ⟨I.ok,I.os,I.bare,⟨λb o e n hb hx=>?_,λb o e n hb hx=>?_,I.base.free,λb o e hx=>?_,I.base.tups,I.base.frzs,I.base.tbls⟩,⟨_,hn',λj y v' e1 e2 e3=>?_⟩,λy c e=>?_,I.free,I.freeC,λp hp=>?_,tracked ⟨oL,hoL,I.free⟩ hs,by simpa using I.len⟩ ⟨_,hs,.inl rfl⟩
  ·exact(hs.2 b (qp (qh (qR e) I.ok.above))).trans (I.base.keep b o e n hb hx)
  ·obtain⟨sl,e1⟩:=I.base.slot b o e n hb hx
   exact⟨sl,(hs.2 b (qp (qh (qR e) I.ok.above))).trans e1⟩
  ·obtain⟨o',e1⟩:=I.base.there b o e hx
   exact⟨o',(hs.2 b (qp (qh (qR e) I.ok.above))).trans e1⟩
  ·by_cases hj:j=i
   ·subst hj
    rw[hi]at e1;cases e1
    rw[q9 hiσ]at e2
    cases e2
    exact⟨u,r,.inl ⟨hk,by simp⟩⟩
   ·rw[qY (qAs hj)]at e2
    obtain⟨u',r',q⟩:=hl j y v' e1 e2 e3
    refine⟨u',r',?_⟩
    rcases q with⟨k,e⟩|⟨k,c,e,z⟩
    ·refine .inl ⟨k,?_⟩
     have:y≠x:=λe=>hj (zzh hN e1 (e▸hi))
     simp[this,e]
    ·exact .inr ⟨k,c,e,z.sameBut hs (cne y c e)⟩
  ·obtain⟨w',z⟩:=I.cell y c e
   exact⟨w',z.sameBut hs (cne y c e)⟩
  ·obtain⟨e,n,ne,nf,d⟩:=I.pin p hp
   exact⟨(hs.2 p.1 ne).trans e,n,ne,nf,d⟩
 ·have hfn:X.fn x=true:=by
   rcases hf with z|z
   ·exact z
   ·rw[z]at hk;cases hk
  obtain⟨c,hc⟩:=I.ok.has x (.inl hk)
  obtain⟨w',z⟩:=I.cell x c hc
  refine wpAny_storeName_cell I.ok.kind hk hc z (λh' hc' hs=>?_)
  obtain⟨oc,hoc,hocd⟩:=id z
  refine h {s with heap:=h'} ⟨I.ok,I.os,I.bare,⟨λb o e n hb hx=>?_,λb o e n hb hx=>?_,I.base.free,λb o e hx=>?_,I.base.tups,I.base.frzs,I.base.tbls⟩,⟨m,hn.sameBut hs (qAs (cne x c hc)),λj y v' e1 e2 e3=>?_⟩,λy c' e=>?_,I.free,I.freeC,λp hp=>?_,tracked ⟨oc,hoc,I.freeC x c hc⟩ hs,by simpa using I.len⟩ ⟨c,hs,.inr hc⟩
  ·exact(hs.2 b (qp (qh (qR e) (I.ok.cab x c hfn hc)))).trans (I.base.keep b o e n hb hx)
  ·obtain⟨sl,e1⟩:=I.base.slot b o e n hb hx
   exact⟨sl,(hs.2 b (qp (qh (qR e) (I.ok.cab x c hfn hc)))).trans e1⟩
  ·obtain⟨o',e1⟩:=I.base.there b o e hx
   exact⟨o',(hs.2 b (qp (qh (qR e) (I.ok.cab x c hfn hc)))).trans e1⟩
  ·by_cases hj:j=i
   ·subst hj
    rw[hi]at e1;cases e1
    rw[q9 hiσ]at e2
    cases e2
    exact⟨u,r,.inr ⟨.inl hk,c,hc,hc'⟩⟩
   ·rw[qY (qAs hj)]at e2
    obtain⟨u',r',q⟩:=hl j y v' e1 e2 e3
    refine⟨u',r',?_⟩
    rcases q with q|⟨k,c',e,z'⟩
    ·exact .inl q
    ·refine .inr ⟨k,c',e,z'.sameBut hs ?_⟩
     rintro rfl
     exact hj (zzh hN e1 (I.ok.inj _ _ _ e hc▸hi))
  ·by_cases hcc:c'=c
   ·subst hcc;exact⟨_,hc'⟩
   ·obtain⟨w2,z2⟩:=I.cell y c' e
    exact⟨w2,z2.sameBut hs hcc⟩
  ·obtain⟨e,n,ne,nf,d⟩:=I.pin p hp
   refine⟨(hs.2 p.1 ?_).trans e,n,ne,nf,d⟩
   intro q
   rw[q,hoc]at e
   have q':oc=p.2:=qe e
   exact d w' (by rw[<- q'];exact hocd)
theorem zzi{E:Value->Shared->Prop}{Q:Unit->Shared->Prop}(I:Inv X pins σ H s)(hN:X.N.Nodup)(hi:X.N[i]?=some x)(hx:Loc X.env.scope x)(r:RelV v u)
  (h:∀s',Inv X pins (σ.set i (some v)) H s'->Q () s') (hf:X.fn x=true\/X.env.scope.names.lookup x=some .local:=by assumption):wpAny M A (storeName X.env x u) Q E s:=
 zug I hN hi hx r (λs' I' _=>h s' I') hf
end
noncomputable abbrev XK:=Value->Option Addr->Hp->Prop
noncomputable abbrev St:=List (Option V)
noncomputable abbrev VK:=V->Hp->Prop
noncomputable abbrev TE:=St->Hp->VK->Prop
noncomputable abbrev TT:=St->Hp->(Bool->Hp->Prop)->Prop
noncomputable abbrev TA:=St->Hp->(List V->Hp->Prop)->Prop
set_option genInjectivity false in
structure Ends where
 nx:St->Hp->Prop
 rt:VK
 bk:St->Hp->Prop:=λ_ _=>False
 ct:St->Hp->Prop:=λ_ _=>False
noncomputable abbrev TS:=Ends->St->Hp->Prop
noncomputable def EP(X:Cx)(pins:List (Addr×Obj))(σ:St)(Q:VK)(u:Value)(s':Shared):Prop:=∃v H',Inv X pins σ H' s'/\RelV v u/\Q v H'
noncomputable def TP(X:Cx)(pins:List (Addr×Obj))(σ:St)(Q:Bool->Hp->Prop)(b:Bool)(s':Shared):Prop:=∃H',Inv X pins σ H' s'/\Q b H'
noncomputable def AP(X:Cx)(pins:List (Addr×Obj))(σ:St)(Q:List V->Hp->Prop)(us:List Value)(s':Shared):Prop:=∃vs H',Inv X pins σ H' s'/\Vals vs us/\Q vs H'
noncomputable def SP(X:Cx)(pins:List (Addr×Obj))(D:Ends)(f:Flow)(s':Shared):Prop:=
 match f with
 | .next=>∃σ' H',Inv X pins σ' H' s'/\D.nx σ' H'
 | .brk=>∃σ' H',Inv X pins σ' H' s'/\D.bk σ' H'
 | .cont=>∃σ' H',Inv X pins σ' H' s'/\D.ct σ' H'
 | .ret u=>∃v σ' H',Inv X pins σ' H' s'/\RelV v u/\D.rt v H'
noncomputable def PE(X:Cx)(e:Expr)(t:TE):Prop:=
 ∀(pins:List (Addr×Obj))(s:Shared)(σ:St)(H:Hp)(Q:VK),Inv X pins σ H s->t σ H Q->wpAny (model X.prog X.w) X.A (eval e X.env) (EP X pins σ Q) X.xe s
noncomputable def PT(X:Cx)(e:Expr)(t:TT):Prop:=
 ∀(pins:List (Addr×Obj))(s:Shared)(σ:St)(H:Hp)(Q:Bool->Hp->Prop),Inv X pins σ H s->t σ H Q->wpAny (model X.prog X.w) X.A (isTrue e X.env (eval e X.env)) (TP X pins σ Q) X.xe s
noncomputable def PW(X:Cx)(e:Expr)(t:TT):Prop:=
 ∀(whole:Sem Value)(pins:List (Addr×Obj))(s:Shared)(σ:St)(H:Hp)(Q:Bool->Hp->Prop),Inv X pins σ H s->t σ H Q->wpAny (model X.prog X.w) X.A (isTrue e X.env whole) (TP X pins σ Q) X.xe s
theorem PW.pt(h:PW X e t):PT X e t:=h _
noncomputable def PA(X:Cx)(es:List Expr)(t:TA):Prop:=
 ∀(pos:Pos)(pins:List (Addr×Obj))(s:Shared)(σ:St)(H:Hp)(Q:List V->Hp->Prop),Inv X pins σ H s->t σ H Q->wpAny (model X.prog X.w) X.A (spliced (backTo pos (starEach es X.env))) (AP X pins σ Q) X.xe s
noncomputable def PS(X:Cx)(st:Stmt)(t:TS):Prop:=
 ∀(pins:List (Addr×Obj))(s:Shared)(σ:St)(H:Hp)(D:Ends),Inv X pins σ H s->t D σ H->wpAny (model X.prog X.w) X.A (exec st X.env) (SP X pins D) X.xe s
noncomputable def PSs(X:Cx)(st:List Stmt)(t:TS):Prop:=
 ∀(pins:List (Addr×Obj))(s:Shared)(σ:St)(H:Hp)(D:Ends),Inv X pins σ H s->t D σ H->wpAny (model X.prog X.w) X.A (execs st X.env) (SP X pins D) X.xe s
theorem thn{Q Q':α->Shared->Prop}{E:Value->Shared->Prop}(h:wpAny M A t Q E s)(hQ:∀a s,Q a s->Q' a s):wpAny M A t Q' E s:=qBf h hQ λ_ _ x=>x
section
variable{X:Cx}
theorem bin(ha:PE X a ta)(hb:PE X b tb){R:V->V->Hp->Prop}(I:Inv X pins σ H s)(h:ta σ H λx H1=>tb σ H1 λy H2=>R x y H2)
  {Q:α->Shared->Prop}{f:Value->Value->Sem α}
  (hf:∀v u s2 x y H2,Inv X pins σ H2 s2->RelV x v->RelV y u->R x y H2->wpAny (model X.prog X.w) X.A (f v u) Q X.xe s2) :
  wpAny (model X.prog X.w) X.A (eval a X.env) (λv s₁=>wpAny (model X.prog X.w) X.A (eval b X.env) (λu s₂=>wpAny (model X.prog X.w) X.A (f v u) Q X.xe s₂) X.xe s₁) X.xe s:=by
 refine thn (ha pins s σ H _ I h) λv s1 ⟨x,H1,I1,r1,q1⟩=>?_
 refine thn (hb pins s1 σ H1 _ I1 q1) λu s2 ⟨y,H2,I2,r2,q2⟩=>?_
 exact hf v u s2 x y H2 I2 r1 r2 q2
noncomputable def tVar(i:Nat):TE:=λσ H Q=>∃v,σ[i]?=some (some v)/\Q v H
noncomputable def tC(v:V):TE:=λ_ H Q=>Q v H
theorem zaka(hN:X.N[i]?=some x)(hv:Vis X.env.scope x)(hd:(x==("__debug__":Str))=false:=by decide)(hcd:(x==("__classdict__":Str))=false:=by decide):PE X (.Name x pos) (tVar i):=by
 intro pins s σ H Q I h
 obtain⟨v,e,h⟩:=h
 obtain⟨m,hn,hl⟩:=I.loc
 obtain⟨u,r,l⟩:=hl i x v hN e hv
 have fin:EP X pins σ Q u s:=⟨v,H,I,r,h⟩
 rcases l with⟨hk,hm⟩|⟨hk,c,hc,hcell⟩
 ·exact wpAny_Name (wpAny_loadName_local I.ok.kind hk hn hm fin) hd
 ·rcases hk with hk|hk
  ·exact wpAny_Name (wpAny_loadName_cell I.ok.kind hk hc hcell fin) hd
  ·exact wpAny_Name (wpAny_loadName_free I.ok.kind hk hc hcell fin hcd) hd
theorem zgs{i j pos}:PE X (.Constant (.int i) j pos) (tC (.int i)):=λ_ _ _ H _ I h=>wpAny_Constant_int ⟨.int i,H,I.tok _,⟨_,rfl⟩,h⟩
theorem zarl{b j pos}:PE X (.Constant (.bool b) j pos) (tC (.bl b)):=λ_ _ _ H _ I h=>Constant_bool ⟨.bl b,H,I,rfl,h⟩
theorem zaoj{x j pos}:PE X (.Constant (.str x) j pos) (tC (.str x)):=λ_ _ _ H _ I h=>Calls.Constant_str ⟨.str x,H,I.tok _,⟨_,rfl⟩,h⟩
noncomputable def Gl(X:Cx)(x:Str):Prop:=X.env.kindOf x=some .globalImplicit
theorem zalh{E:Value->Shared->Prop}{Q:Value->Shared->Prop}(I:Inv X pins σ H s)(hg:Gl X x)(hm:X.mg x=some u)(h:Q u s)
  (hd:(x==("__debug__":Str))=false:=by decide):wpAny (model X.prog X.w) X.A (eval (.Name x pos) X.env) Q E s:=
 qCK I.ok.kind hg (Calls.loadGlobal_global (by rw[I.ok.glob];exact I.mod.glob.keeps I.bk) hm h) hd
theorem zrh{E:Value->Shared->Prop}{Q:Value->Shared->Prop}(I:Inv X pins σ H s)(hg:Gl X x)(hm:X.mg x=none)(hv:bootBuiltins x=some u)(h:Q u s)
  (hn:x≠"__name__":=by decide) (hd:(x==("__debug__":Str))=false:=by decide):wpAny (model X.prog X.w) X.A (eval (.Name x pos) X.env) Q E s:=by
 obtain⟨mb,h1,h2⟩:=I.mod.blt
 exact qCK I.ok.kind hg (Calls.loadGlobal_builtin (by rw[I.ok.glob];exact I.mod.glob.keeps I.bk) hm (by rw[I.ok.blt];exact h1.keeps I.bk) ((h2 x hn).trans hv) h) hd
theorem zali(hg:Gl X x)(hm:X.mg x=none)(hv:bootBuiltins x=some u)(r:RelV v u)(hn:x≠"__name__":=by decide)(hd:(x==("__debug__":Str))=false:=by decide):PE X (.Name x pos) (tC v):=
 λ_ _ _ H _ I h=>zrh I hg hm hv ⟨v,H,I,r,h⟩ hn hd
variable{a b:Expr}{ta tb:TE}{pos:Pos}
noncomputable def PC(X:Cx)(op:CmpOp)(a b:Expr)(t:TE):Prop:=
 ∀(pins:List (Addr×Obj))(s:Shared)(σ:St)(H:Hp)(Q:VK),Inv X pins σ H s->t σ H Q->
  wpAny (model X.prog X.w) X.A (eval a X.env) (λv s₁=>wpAny (model X.prog X.w) X.A (eval b X.env) (λu s₂=>wpAny (model X.prog X.w) X.A (compareOp op v u) (EP X pins σ Q) X.xe s₂) X.xe s₁) X.xe s
noncomputable def tB(t:TE):TT:=λσ H Q=>t σ H λx H1=>∃c,x=.bl c/\Q c H1
theorem zaok(h:PC X op a b t)(h1:behindInMarks op b=false:=by rfl):PE X (.Compare a [op] [b] pos) t:=λpins s σ H Q I hw=>wpAny_Compare1 (h pins s σ H Q I hw) h1
variable{tA tB':TT}{rest:List Expr}
noncomputable def tAnd(t u:TT):TT:=λσ H Q=>t σ H λc H1=>if c=true then u σ H1 Q else Q false H1
noncomputable def tOr(t u:TT):TT:=λσ H Q=>t σ H λc H1=>if c=true then Q true H1 else u σ H1 Q
noncomputable def tNot(t:TT):TT:=λσ H Q=>t σ H λc H1=>Q (!c) H1
theorem zalj(ha:PT X a tA):PW X (.BoolOp .And [a] pos) tA:=by
 intro wh pins s σ H Q I h
 refine isTrue_and (thn (ha pins s σ H Q I h) λc s1 e=>?_)
 cases c with
 | true=>exact isTrue_and_nil e
 | false=>exact e
theorem zaol(ha:PT X a tA):PW X (.BoolOp .Or [a] pos) tA:=by
 intro wh pins s σ H Q I h
 refine isTrue_or (thn (ha pins s σ H Q I h) λc s1 e=>?_)
 cases c with
 | false=>exact isTrue_or_nil e
 | true=>exact e
theorem zaom(ha:PT X a tA)(hb:PW X (.BoolOp .And (b::rest) pos) tB'):PW X (.BoolOp .And (a::b::rest) pos) (tAnd tA tB'):=by
 intro wh pins s σ H Q I h
 refine isTrue_and (thn (ha pins s σ H _ I h) λc s1 ⟨H1,I1,q1⟩=>?_)
 cases c with
 | true=>exact hb wh pins s1 σ H1 Q I1 q1
 | false=>exact⟨H1,I1,q1⟩
theorem zarm(ha:PT X a tA)(hb:PW X (.BoolOp .Or (b::rest) pos) tB'):PW X (.BoolOp .Or (a::b::rest) pos) (tOr tA tB'):=by
 intro wh pins s σ H Q I h
 refine isTrue_or (thn (ha pins s σ H _ I h) λc s1 ⟨H1,I1,q1⟩=>?_)
 cases c with
 | true=>exact⟨H1,I1,q1⟩
 | false=>exact hb wh pins s1 σ H1 Q I1 q1
theorem zaon(ha:PT X a tA):PT X (.UnaryOp .Not a pos) (tNot tA):=by
 intro pins s σ H Q I h
 exact isTrue_not (ha pins s σ H (λc H1=>Q (!c) H1) I h)
noncomputable def tAndV(ta tb:TE):TE:=λσ H Q=>ta σ H λx H1=>∃c,x=.bl c/\if c=true then tb σ H1 Q else Q (.bl false) H1
theorem zaoo{op}(h:PE X a t):PE X (.BoolOp op [a] pos) t:=λpins s σ H Q I hw=>BoolOp_one (h pins s σ H Q I hw)
theorem zaop(ha:PE X a ta)(hb:PE X (.BoolOp .And (b::rest) pos) tb):PE X (.BoolOp .And (a::b::rest) pos) (tAndV ta tb):=by
 intro pins s σ H Q I h
 refine BoolOp_and (thn (ha pins s σ H _ I h) λv s1 ⟨x,H1,I1,r1,q1⟩=>?_)
 obtain⟨c,rfl,q1⟩:=q1
 cases r1
 refine qBG ?_
 cases c with
 | true=>exact hb pins s1 σ H1 Q I1 q1
 | false=>exact⟨.bl false,H1,I1,rfl,q1⟩
end
noncomputable def SqL(K:qC)(H:Hp)(a:Addr)(xs:List V):Prop:=
 Rd H a (.lst xs)\/
  ∃(o:Obj)(its:Array Value)(n:Nat),K.lookup a=some o/\o.cls=.type "list"/\o.dict=none/\o.data=.seq its n/\its.size<=qZ/\Vals xs its.toList
noncomputable def SqT(K:qC)(H:Hp)(a:Addr)(xs:List V):Prop:=
 Rd H a (.tup xs)\/
  ∃(o:Obj)(its:Array Value)(n:Nat),K.lookup a=some o/\o.cls=.type "tuple"/\o.data=.seq its n/\its.size<=qZ/\Vals xs its.toList
noncomputable def absV:Value->Option V
 | .none=>some .non
 | .bool b=>some (.bl b)
 | .int i _=>some (.int i)
 | .str x _=>some (.str x)
 | .bytes b _=>some (.byt b)
 | .float b _=>some (.flt b)
 | .ref a=>some (.ref a)
 | .type n=>some (.ty n)
 | _=>none
theorem RelV.abs(r:RelV x u):absV u=some x:=by
 cases x with
 | non=>cases r;rfl
 | bl _=>cases r;rfl
 | int _=>obtain⟨t,rfl⟩:=r;rfl
 | str _=>obtain⟨t,rfl⟩:=r;rfl
 | byt _=>obtain⟨t,rfl⟩:=r;rfl
 | flt _=>obtain⟨t,rfl⟩:=r;rfl
 | ref _=>cases r;rfl
 | ty _=>cases r;rfl
theorem RelV.inj(r:RelV x u)(q:RelV y u):x=y:=qe (r.abs.symm.trans q.abs)
theorem Vals.inj:∀{xs ys:List V}{us:List Value},Vals xs us->Vals ys us->xs=ys
 | _,_,_,.nil,.nil=>rfl
 | _,_,_,.cons r t,.cons r' t'=>by rw[r.inj r',Vals.inj t t']
section
variable{X:Cx}{pins:List (Addr×Obj)}{σ:St}{H:Hp}{s:Shared}{a:Addr}{xs ys:List V}
theorem SqL.of{K:qC}(h:H a=some (.lst xs)):SqL K H a xs:=.inl (.inl h)
theorem SqT.of{K:qC}(h:H a=some (.tup xs)):SqT K H a xs:=.inl (.inl h)
theorem Inv.list(I:Inv X pins σ H s)(h:SqL X.K H a xs):∃its:List Value,Vals xs its/\PlainL s.heap a its.toArray/\xs.length<=qZ:=by
 rcases h with h|⟨o,its,n,hk,hc,hd,hs,hz,r⟩
 ·obtain⟨z,its,n,r,e⟩:=h.ok I.hok
  exact⟨its,r,⟨_,n,e,rfl,rfl,rfl⟩,z⟩
 ·refine⟨its.toList,r,⟨o,n,I.kIn a o hk,hc,hd,by simpa using hs⟩,?_⟩
  have e:=r.length
  simp only[qCx]at e
  omega
theorem Inv.tuple(I:Inv X pins σ H s)(h:SqT X.K H a xs):∃its:List Value,Vals xs its/\IsTup s.heap a its.toArray/\xs.length<=qZ:=by
 rcases h with h|⟨o,its,n,hk,hc,hs,hz,r⟩
 ·obtain⟨z,its,r,p⟩:=h.ok I.hok
  exact⟨its,r,p,z⟩
 ·refine⟨its.toList,r,⟨o,I.kIn a o hk,hc,n,by simpa using hs⟩,?_⟩
  have e:=r.length
  simp only[qCx]at e
  omega
theorem Inv.list_inj(I:Inv X pins σ H s)(h:SqL X.K H a xs)(h':SqL X.K H a ys):xs=ys:=by
 obtain⟨its,r,⟨o,n,e,_,_,d⟩,_⟩:=I.list h
 obtain⟨its',r',⟨o',n',e',_,_,d'⟩,_⟩:=I.list h'
 rw[e]at e';cases e'
 rw[d]at d'
 injection d' with d1 _
 have:its=its':=by simpa using congrArg Array.toList d1
 subst this
 exact r.inj r'
theorem Inv.tuple_inj(I:Inv X pins σ H s)(h:SqT X.K H a xs)(h':SqT X.K H a ys):xs=ys:=by
 obtain⟨its,r,⟨o,e,_,n,d⟩,_⟩:=I.tuple h
 obtain⟨its',r',⟨o',e',_,n',d'⟩,_⟩:=I.tuple h'
 rw[e]at e';cases e'
 rw[d]at d'
 injection d' with d1 _
 have:its=its':=by simpa using congrArg Array.toList d1
 subst this
 exact r.inj r'
end
noncomputable abbrev Cx.wish(X:Cx)(E:Value->Shared->Prop):Cx:={X with xe:=E}
noncomputable abbrev Cx.nox(X:Cx):Cx:=X.wish λ_ _=>False
theorem Cx.Ok.wish{X:Cx}(ok:X.Ok)(E:Value->Shared->Prop):(X.wish E).Ok:=
 ⟨ok.mod,ok.kind,ok.glob,ok.blt,ok.above,ok.inj,ok.has,ok.cab,ok.hd,ok.frames,ok.stk,ok.exf,ok.bs,ok.bsz,ok.noex,ok.exfs,ok.funs,ok.frf⟩
theorem Cx.Ok.unwish{X:Cx}{E:Value->Shared->Prop}(ok:(X.wish E).Ok):X.Ok:=
 ⟨ok.mod,ok.kind,ok.glob,ok.blt,ok.above,ok.inj,ok.has,ok.cab,ok.hd,ok.frames,ok.stk,ok.exf,ok.bs,ok.bsz,ok.noex,ok.exfs,ok.funs,ok.frf⟩
section
variable{X:Cx}{pins:List (Addr×Obj)}{σ:St}{H:Hp}{s:Shared}{E:Value->Shared->Prop}
theorem Inv.wish(I:Inv X pins σ H s)(E:Value->Shared->Prop):Inv (X.wish E) pins σ H s:=⟨I.ok.wish E,I.os,I.bare,I.base,I.loc,I.cell,I.free,I.freeC,I.pin,I.hok,I.len⟩
theorem Inv.unwish(I:Inv (X.wish E) pins σ H s):Inv X pins σ H s:=⟨I.ok.unwish,I.os,I.bare,I.base,I.loc,I.cell,I.free,I.freeC,I.pin,I.hok,I.len⟩
theorem SP.unwish(h:SP (X.wish E) pins D f s'):SP X pins D f s':=by
 cases f with
 | next=>obtain⟨σ',H',I,q⟩:=h;exact⟨σ',H',I.unwish,q⟩
 | brk=>obtain⟨σ',H',I,q⟩:=h;exact⟨σ',H',I.unwish,q⟩
 | cont=>obtain⟨σ',H',I,q⟩:=h;exact⟨σ',H',I.unwish,q⟩
 | ret u=>obtain⟨v,σ',H',I,r,q⟩:=h;exact⟨v,σ',H',I.unwish,r,q⟩
theorem PSs.nox{st:List Stmt}{t:TS}(h:PSs X.nox st t):PSs X st t:=λpins s σ H D I hw=>
 qBf (h pins s σ H D (I.wish _) hw) (λ_ _ q=>q.unwish) λ_ _ z=>False.elim z
end
section
variable{X:Cx}{st:Stmt}{rest:List Stmt}{t u:TS}{e:Expr}{te:TE}{pos:Pos}
noncomputable def tNext:TS:=λD σ H=>D.nx σ H
noncomputable def tSeq(t u:TS):TS:=λD σ H=>t {D with nx:=u D} σ H
theorem zalk:PSs X [] tNext:=λ_ _ σ H _ I h=>qCg ⟨σ,H,I,h⟩
theorem zld(h1:PS X st t)(h2:PSs X rest u):PSs X (st::rest) (tSeq t u):=by
 intro pins s σ H D I h
 refine wpAny_execs_cons (thn (h1 pins s σ H {D with nx:=u D} I h) λf s1 q=>?_)
 cases f with
 | next=>
  obtain⟨σ',H',I',q⟩:=q
  exact h2 pins s1 σ' H' D I' q
 | ret v=>exact q
 | brk=>exact q
 | cont=>exact q
theorem zmi(h1:PS X st t):PSs X [st] t:=by
 intro pins s σ H D I h
 refine wpAny_execs_cons (thn (h1 pins s σ H D I h) λf s1 q=>?_)
 cases f with
 | next=>exact qCg q
 | ret v=>exact q
 | brk=>exact q
 | cont=>exact q
theorem Inv.quiet(I:Inv X pins σ H s):interactive X.env=false:=by simp[interactive,I.ok.kind]
noncomputable def tDrop(te:TE):TS:=λD σ H=>te σ H λ_ H1=>D.nx σ H1
theorem zxk(he:PE X e te)(hs:swapsWith e none pos.line X.env=pure false:=by rfl):PS X (.Expr e pos) (tDrop te):=by
 intro pins s σ H D I h
 exact wpAny_Expr_any (thn (he pins s σ H _ I h) λv s1 ⟨x,H1,I1,r1,q1⟩=>⟨σ,H1,I1,q1⟩) I.quiet hs
noncomputable def tRet(te:TE):TS:=λD σ H=>te σ H D.rt
theorem zakb(he:PE X e te):PS X (.Return (some e) pos) (tRet te):=by
 intro pins s σ H D I h
 exact wpAny_Return_some (thn (he pins s σ H _ I h) λv s1 ⟨x,H1,I1,r1,q1⟩=>⟨x,σ,H1,I1,r1,q1⟩)
noncomputable def tIfS(c:TT)(t u:TS):TS:=λD σ H=>c σ H λb H1=>if b=true then t D σ H1 else u D σ H1
theorem zaoq(hc:PT X c tc)(ha:PSs X a t)(hb:PSs X b u):PS X (.If c a b pos) (tIfS tc t u):=by
 intro pins s σ H D I h
 refine wpAny_If (thn (hc pins s σ H _ I h) λd s1 ⟨H1,I1,q1⟩=>?_)
 cases d with
 | true=>exact ha pins s1 σ H1 D I1 q1
 | false=>exact hb pins s1 σ H1 D I1 q1
noncomputable def tNever:TS:=λ_ _ _=>False
theorem zahc:PS X st tNever:=λ_ _ _ _ _ _ h=>h.elim
end
noncomputable abbrev TG:=V->St->Hp->(St->Hp->Prop)->Prop
noncomputable abbrev TGs:=List V->St->Hp->(St->Hp->Prop)->Prop
noncomputable def PG(X:Cx)(target:Expr)(t:TG):Prop:=
 ∀(pins:List (Addr×Obj))(s:Shared)(σ:St)(H:Hp)(v:V)(u:Value)(Q:St->Hp->Prop),Inv X pins σ H s->RelV v u->t v σ H Q->
  wpAny (model X.prog X.w) X.A (assign target X.env u) (λ_ s'=>∃σ' H',Inv X pins σ' H' s'/\Q σ' H') X.xe s
noncomputable def PGs(X:Cx)(ts:List Expr)(t:TGs):Prop:=
 ∀(pins:List (Addr×Obj))(s:Shared)(σ:St)(H:Hp)(vs:List V)(us:List Value)(Q:St->Hp->Prop),Inv X pins σ H s->Vals vs us->t vs σ H Q->
  wpAny (model X.prog X.w) X.A (assignInOrder ((assignEach ts X.env).map (·.2)) us) (λ_ s'=>∃σ' H',Inv X pins σ' H' s'/\Q σ' H') X.xe s
section
variable{X:Cx}{pos:Pos}
noncomputable def gName(i:Nat):TG:=λv σ H Q=>Q (σ.set i (some v)) H
theorem zxl(hN:X.N.Nodup)(hi:X.N[i]?=some x)(hx:Loc X.env.scope x)(hf:X.fn x=true\/X.env.scope.names.lookup x=some .local:=by assumption):PG X (.Name x pos) (gName i):=by
 intro pins s σ H v u Q I r h
 exact wpAny_assign_Name (zzi I hN hi hx r (λs' I'=>⟨_,H,I',h⟩) hf)
noncomputable def gNil:TGs:=λvs σ H Q=>vs=[]/\Q σ H
noncomputable def gCons(t:TG)(u:TGs):TGs:=λvs σ H Q=>∃v r,vs=v::r/\t v σ H λσ' H'=>u r σ' H' Q
theorem zall:PGs X [] gNil:=by
 intro pins s σ H vs us Q I r h
 obtain⟨e,h⟩:=h
 subst e
 cases r
 exact assignInOrder_nil ⟨σ,H,I,h⟩
theorem zahd(h1:PG X e t)(h2:PGs X es u)
  (hs:(assignEach (e::es) X.env).map (·.2)=assign e X.env::(assignEach es X.env).map (·.2):=by rfl):PGs X (e::es) (gCons t u):=by
 intro pins s σ H vs us Q I r h
 obtain⟨v,vr,e1,h⟩:=h
 subst e1
 cases r with
 | cons r rr=>
  rw[hs]
  refine assignInOrder_cons (thn (h1 pins s σ H _ _ _ I r h) λ_ s1 ⟨σ1,H1,I1,q1⟩=>?_)
  exact h2 pins s1 σ1 H1 _ _ Q I1 rr q1
noncomputable def gTup(K:qC)(n:Nat)(t:TGs):TG:=λv σ H Q=>∃a xs,v=.ref a/\SqT K H a xs/\xs.length=n/\t xs σ H Q
theorem zaor(hc:X.calm=true)(h:PGs X es t)
  (hn:(assignEach es X.env).length=n:=by rfl) (hst:(assignEach es X.env).findIdx? (·.1)=none:=by rfl):PG X (.Tuple es k pos) (gTup X.K n t):=by
 intro pins s σ H v u Q I r hw
 obtain⟨a,xs,e1,hq,hl,hw⟩:=hw
 subst e1
 cases r
 obtain⟨its,rv,ht,hz⟩:=I.tuple hq
 refine assign_Tuple_tuple (I.ok.hd hc) ht (by simp[hn,<- hl,rv.length]) hst λh' hx=>?_
 have I1:Inv X pins σ H {s with heap:=h'}:=I.kept (t':=s.toks) λb o e=>hx b o (qp (qR e)) e
 exact h pins _ σ H xs _ Q I1 (by simpa using rv) hw
noncomputable def tAsg(te:TE)(g:TG):TS:=λD σ H=>te σ H λx H1=>g x σ H1 D.nx
theorem zaos(he:PE X e te)(hg:PG X tg g)(hs:swapsWithSole [tg] e pos.line X.env=pure false:=by rfl)(hw:swappedStores [tg] e X.env=pure none:=by rfl)
  (h1:(assignEach [tg] X.env).map (·.2)=[assign tg X.env]:=by rfl):PS X (.Assign [tg] e pos) (tAsg te g):=by
 intro pins s σ H D I h
 refine wpAny_Assign_stores (thn (he pins s σ H _ I h) λv s1 ⟨x,H1,I1,r1,q1⟩=>?_) hs hw
 rw[h1]
 exact thn (hg pins s1 σ H1 x v _ I1 r1 q1) λ_ s2 q=>q
theorem zzj(hN:X.N.Nodup)(hi:X.N[i]?=some x)(hx:Loc X.env.scope x)(he:PE X e te)(hs:swapsWith e (some (.Name x pos')) pos.line X.env=pure false:=by rfl)(hf:X.fn x=true\/X.env.scope.names.lookup x=some .local:=by assumption) :
  PS X (.Assign [.Name x pos'] e pos) (tAsg te (gName i)):=by
 intro pins s σ H D I h
 refine wpAny_Assign_Name (thn (he pins s σ H _ I h) λv s1 ⟨y,H1,I1,r1,q1⟩=>?_) hs
 exact zzi I1 hN hi hx r1 (λs2 I2=>⟨_,H1,I2,q1⟩) hf
end
set_option genInjectivity false in
structure It where
 go:Nat->Hp->Prop
 yld:Nat->Hp->V->Hp->Prop
 stop:Nat->Hp->Prop
noncomputable def FpOk(X:Cx)(pins:List (Addr×Obj))(H:Hp)(b:Addr):Prop:=
 H b=none/\b≠X.env.locals/\b∉X.fs/\(b∈X.ex\/X.s₀.heap.objs.size<=b)/\(∀x c,X.env.cells.lookup x=some c->c≠b)/\∀p∈X.pn++pins,p.1≠b
theorem Inv.fpOk{s:Shared}(I:Inv X pins σ H s)(hb:s.heap.objs.size<=b)(hn:H' b=none):FpOk X pins H' b:=by
 refine⟨hn,qBn (qh I.lt hb),I.nofs hb,.inr (qAS I.sz hb),λx c e z=>?_,λp hp z=>?_⟩
 ·obtain⟨v,q⟩:=I.cell x c e
  exact absurd (qh q.lt (by rw[z];exact hb)) (qAz _)
 ·exact absurd (qh (qR (I.pin p hp).1) (by rw[z];exact hb)) (qAz _)
set_option genInjectivity false in
structure Turn(P:Program)(w:World)(K:qC)(tg:Expr)(J:It)(fp:List Addr)(it:Addr)(tn:Nat->Heap->Prop):Prop where
 mem:it∈fp
 obj:∀i h,tn i h->∀b∈fp,∃o,h.get? b=some o/\∀v,o.data≠.cell v
 keep:∀i h h',tn i h->(∀b∈fp,∀o,h.get? b=some o->h'.get? b=some o)->tn i h'
 item:∀(X:Cx),X.prog=P->X.w=w->X.K=K->X.calm=true->∀(i:Nat)(pins:List (Addr×Obj))(s:Shared)(σ:St)(H:Hp)(E:Value->Shared->Prop),Inv X pins σ H s->(∀b∈fp,FpOk X pins H b)->tn i s.heap->J.go i H->
  wpAny (model P w) X.A (pyNext (.ref it)) (λr s1=>∃u,r=some u/\
   wpAny (model P w) X.A (letOwnedTupleGo tg (.ref it) u) (λ_ s2=>∃x H',Inv X pins σ H' s2/\RelV x u/\J.yld i H x H'/\tn (i+1) s2.heap/\∀b∈fp,H' b=none) E s1) E s
 done:∀(X:Cx),X.prog=P->X.w=w->X.K=K->X.calm=true->∀(i:Nat)(pins:List (Addr×Obj))(s:Shared)(σ:St)(H:Hp)(E:Value->Shared->Prop),Inv X pins σ H s->(∀b∈fp,FpOk X pins H b)->tn i s.heap->J.stop i H->
  wpAny (model P w) X.A (pyNext (.ref it)) (λr s1=>r=none/\Inv X pins σ H s1) E s
 self:∀(A:Around)(i:Nat)(s:Shared)(Q:Value->Shared->Prop)(E:Value->Shared->Prop),tn i s.heap->Q (.ref it) s->wpAny (model P w) A (pyIter (.ref it)) Q E s
noncomputable abbrev TI:=St->Hp->(It->Hp->Prop)->Prop
noncomputable def PIE(X:Cx)(pins:List (Addr×Obj))(σ:St)(tg:Expr)(R:It->Hp->Prop)(itv:Value)(s2:Shared):Prop:=
 ∃(it:Addr)(fp:List Addr)(tn:Nat->Heap->Prop)(J:It)(H':Hp),itv=.ref it/\Inv X pins σ H' s2/\Turn X.prog X.w X.K tg J fp it tn/\tn 0 s2.heap/\(∀b∈fp,FpOk X pins H' b)/\R J H'
noncomputable def PI(X:Cx)(tg iter:Expr)(wi:TI):Prop:=
 ∀(pins:List (Addr×Obj))(s:Shared)(σ:St)(H:Hp)(R:It->Hp->Prop),Inv X pins σ H s->wi σ H R->
  wpAny (model X.prog X.w) X.A (eval iter X.env) (λv s1=>wpAny (model X.prog X.w) X.A (pyIter v) (PIE X pins σ tg R) X.xe s1) X.xe s
theorem zalm{E:Value->Shared->Prop}{s:Shared}{o:Obj}{Q:Unit->Shared->Prop}(ho:s.heap.get? it=some o)(hc:o.cls=.type n)(hd:o.data=.fields vs)
  (hn:["enumerate","zip","dict_itemiterator","dict_reverseitemiterator","odict_iterator","itertools.zip_longest","itertools.pairwise"].contains n=false) (hQ:Q () s):wpAny M A (letOwnedTupleGo tg (.ref it) u) Q E s:=by
 unfold letOwnedTupleGo
 cases tg<;>first
  | exact qi hQ
  | (cases u<;>first
    | exact qi hQ
    | (refine qG (wpAny_load ho ?_)
       rw[hc,hd]
       show wpAny M A (if(["enumerate","zip","dict_itemiterator","dict_reverseitemiterator","odict_iterator","itertools.zip_longest","itertools.pairwise"].contains n&&vs[0]?==some (rawInt _))=true then _ else _) Q E s
       rw[if_neg (by intro h;rw[hn,Bool.false_and]at h;cases h)]
       exact qi hQ))
noncomputable def Itl(K:qC)(a:Addr):It:=
 ⟨λi H=>∃xs x,SqL K H a xs/\xs[i]?=some x,λi H x H'=>H'=H/\∀xs,SqL K H a xs->xs[i]?=some x,λi H=>∃xs,SqL K H a xs/\xs.length<=i⟩
noncomputable def Itt(K:qC)(a:Addr):It:=
 ⟨λi H=>∃xs x,SqT K H a xs/\xs[i]?=some x,λi H x H'=>H'=H/\∀xs,SqT K H a xs->xs[i]?=some x,λi H=>∃xs,SqT K H a xs/\xs.length<=i⟩
noncomputable def Itr(lo:Int)(n:Nat):It:=⟨λi _=>i<n,λi H x H'=>H'=H/\x=.int (lo+i),λi _=>n<=i⟩
theorem zuh{P:Program}{w:World}{K:qC}{tg:Expr}(a it:Addr):Turn P w K tg (Itl K a) [it] it (λi h=>h.IsListIter it a i) where
 mem:=by simp
 obj:=λi h st b hb=>by
  have e:b=it:=by simpa using hb
  subst e
  obtain⟨o,e,c,d⟩:=st
  exact⟨o,e,λv z=>by rw[d]at z;cases z⟩
 keep:=λi h h' st k=>st.at λo e=>k it (by simp) o e
 item:=by
  intro X hP hw hK hc i pins s σ H E I hf st hg
  subst hP hw hK
  obtain⟨xs,x,hq,hx⟩:=hg
  obtain⟨its,rv,p,hz⟩:=I.list hq
  obtain⟨u,hu,ru⟩:=rv.get hx
  obtain⟨f0,f1,f2,f3,f4,f5⟩:=hf it (by simp)
  refine wpAny_pyNext_list_item st p.isList (x:=u) (by simpa using hu) λh' st' sb=>?_
  have I1:Inv X pins σ H {s with heap:=h'}:=I.turned (t':=s.toks) (λb o hb e=>(sb.2 b hb).trans e) f0 f1 f3 f4 f5
  obtain⟨o,e,c,d⟩:=id st'
  exact⟨u,rfl,zalm (s:={s with heap:=h'}) e c d (by decide) ⟨x,H,I1,ru,⟨rfl,λys hy=>by rw[I.list_inj hy hq];exact hx⟩,st',λb hb=>(hf b hb).1⟩⟩
 done:=by
  intro X hP hw hK hc i pins s σ H E I hf st hg
  subst hP hw hK
  obtain⟨xs,hq,hx⟩:=hg
  obtain⟨its,rv,p,hz⟩:=I.list hq
  obtain⟨f0,f1,f2,f3,f4,f5⟩:=hf it (by simp)
  have hl:=rv.length
  exact wpAny_pyNext_list_end (I.ok.hd hc) st p.isList (by simp;omega) λh' eb=>⟨rfl,I.turned (t':=s.toks) (λb o hb e=>eb b o hb e) f0 f1 f3 f4 f5⟩
 self:=λ_ _ _ _ _ st h=>wpAny_pyIter_listiter st h
theorem zaba{P:Program}{w:World}{K:qC}{tg:Expr}(a it:Addr):Turn P w K tg (Itt K a) [it] it (λi h=>h.IsTupleIter it a i) where
 mem:=by simp
 obj:=λi h st b hb=>by
  have e:b=it:=by simpa using hb
  subst e
  obtain⟨o,e,c,d⟩:=st
  exact⟨o,e,λv z=>by rw[d]at z;cases z⟩
 keep:=λi h h' st k=>st.at λo e=>k it (by simp) o e
 item:=by
  intro X hP hw hK hc i pins s σ H E I hf st hg
  subst hP hw hK
  obtain⟨xs,x,hq,hx⟩:=hg
  obtain⟨its,rv,p,hz⟩:=I.tuple hq
  obtain⟨u,hu,ru⟩:=rv.get hx
  obtain⟨f0,f1,f2,f3,f4,f5⟩:=hf it (by simp)
  refine wpAny_pyNext_tuple_item st (show s.heap.IsTuple a its.toArray from p) (x:=u) (by simpa using hu) λh' st' sb=>?_
  have I1:Inv X pins σ H {s with heap:=h'}:=I.turned (t':=s.toks) (λb o hb e=>(sb.2 b hb).trans e) f0 f1 f3 f4 f5
  obtain⟨o,e,c,d⟩:=id st'
  exact⟨u,rfl,zalm (s:={s with heap:=h'}) e c d (by decide) ⟨x,H,I1,ru,⟨rfl,λys hy=>by rw[I.tuple_inj hy hq];exact hx⟩,st',λb hb=>(hf b hb).1⟩⟩
 done:=by
  intro X hP hw hK hc i pins s σ H E I hf st hg
  subst hP hw hK
  obtain⟨xs,hq,hx⟩:=hg
  obtain⟨its,rv,p,hz⟩:=I.tuple hq
  obtain⟨f0,f1,f2,f3,f4,f5⟩:=hf it (by simp)
  have hl:=rv.length
  exact wpAny_pyNext_tuple_end (I.ok.hd hc) st (show s.heap.IsTuple a its.toArray from p) (by simp;omega) λh' eb=>⟨rfl,I.turned (t':=s.toks) (λb o hb e=>eb b o hb e) f0 f1 f3 f4 f5⟩
 self:=λ_ _ _ _ _ st h=>wpAny_pyIter_tupleiter st h
theorem zabb{P:Program}{w:World}{K:qC}{tg:Expr}(it:Addr)(lo:Int)(n:Nat):Turn P w K tg (Itr lo n) [it] it (λi h=>IsRangeIter h it (lo+(i:Nat) * 1) ((n:Int) - (i:Nat)) 1) where
 mem:=by simp
 obj:=λi h st b hb=>by
  have e:b=it:=by simpa using hb
  subst e
  exact⟨_,st,λv z=>by
   have z':Data.fields _=Data.cell v:=z
   cases z'⟩
 keep:=λi h h' st k=>k it (by simp) _ st
 item:=by
  intro X hP hw hK hc i pins s σ H E I hf st hg
  subst hP hw hK
  obtain⟨f0,f1,f2,f3,f4,f5⟩:=hf it (by simp)
  have W:=Walks.range (prog:=X.prog) (w:=X.w) (I.ok.hd hc) it lo 1 n
  refine W.item i s _ _ hg st λv h' tk hv st' kk=>?_
  obtain⟨t,rfl⟩:=hv
  have I1:Inv X pins σ H {s with heap:=h',toks:=tk}:=I.turned (λb o hb e=>kk b o (by simpa using hb) e) f0 f1 f3 f4 f5
  refine⟨_,rfl,zalm (s:={s with heap:=h',toks:=tk}) (n:="range_iterator") st' rfl rfl (by decide) ⟨.int (lo+i),H,I1,⟨t,?_⟩,⟨rfl,rfl⟩,st',λb hb=>(hf b hb).1⟩⟩
  rw[Int.mul_one]
 done:=by
  intro X hP hw hK hc i pins s σ H E I hf st hg
  subst hP hw hK
  obtain⟨f0,f1,f2,f3,f4,f5⟩:=hf it (by simp)
  exact wpAny_pyNext_range_end (I.ok.hd hc) st (by have:n<=i:=hg;omega) λh' eb=>⟨rfl,I.turned (t':=s.toks) (λb o hb e=>eb b o hb e) f0 f1 f3 f4 f5⟩
 self:=λ_ _ _ _ _ st h=>wpAny_pyIter_rangeiter st h
section
variable{X:Cx}{tg:Expr}
noncomputable def zaot(K:qC)(tl:TE):TI:=λσ H R=>tl σ H λx H1=>∃a,x=.ref a/\(∃xs,SqL K H1 a xs)/\R (Itl K a) H1
theorem zaln{l:Expr}{tl:TE}(hl:PE X l tl):PI X tg l (zaot X.K tl):=by
 intro pins s σ H R I h
 refine thn (hl pins s σ H _ I h) λv s1 ⟨x,H1,I1,r1,q1⟩=>?_
 obtain⟨a,e,⟨xs,hq⟩,q⟩:=q1
 subst e
 cases r1
 obtain⟨its,rv,p,hz⟩:=I1.list hq
 refine qAp p.isList ?_
 refine⟨s1.heap.objs.size,[s1.heap.objs.size],_,_,H1,rfl,I1.kept (t':=s1.toks) λb o e=>qF _ e,zuh a _,⟨_,qd _ rfl,rfl,rfl⟩,λb hb=>?_,q⟩
 have e:b=s1.heap.objs.size:=by simpa using hb
 subst e
 exact I1.fpOk (qO _) (I1.hok.fresh (qO _))
theorem zahe{pins:List (Addr×Obj)}{σ:St}{H:Hp}{s:Shared}{R:It->Hp->Prop}{E:Value->Shared->Prop}{lo hi:Int}{t u v:Tok}{tk:Nat}(I:Inv X pins σ H s)(h1:-(2 ^ 62)<=lo)(h2:lo<2 ^ 62)(h3:-(2 ^ 62)<=hi)(h4:hi<2 ^ 62)
  (q:R (Itr lo (hi - lo).toNat) H):wpAny (model X.prog X.w) X.A (pyIter (.ref s.heap.objs.size)) (PIE X pins σ tg R) E {s with heap:=s.heap.push {cls:=.type "range",data:=.fields #[.int lo t,.int hi u,.int 1 v]},toks:=tk}:=by
 refine wpAny_pyIter_range (IsRange.new ..) (small_one h1 h2 h3 h4) ?_
 have I1:Inv X pins σ H {s with heap:=s.heap.push {cls:=.type "range",data:=.fields #[.int lo t,.int hi u,.int 1 v]},toks:=tk}:=I.kept λb o e=>qF _ e
 refine⟨(s.heap.push {cls:=.type "range",data:=.fields #[.int lo t,.int hi u,.int 1 v]}).objs.size,[(s.heap.push {cls:=.type "range",data:=.fields #[.int lo t,.int hi u,.int 1 v]}).objs.size],_,_,H,rfl,
  I1.kept (t':=tk) λb o e=>qF _ e,zabb _ lo (hi - lo).toNat,?_,λb hb=>?_,q⟩
 ·have e1:lo+((0:Nat):Int) * 1=lo:=by simp
  have e2:(((hi - lo).toNat:Nat):Int) - ((0:Nat):Int)=Builtin.Range.rangeSize lo hi 1:=by rw[rangeSize_one];split<;>omega
  show IsRangeIter _ _ (lo+((0:Nat):Int) * 1) ((((hi - lo).toNat:Nat):Int) - ((0:Nat):Int)) 1
  rw[e1,e2]
  exact qd _ rfl
 ·have e:b=(s.heap.push {cls:=.type "range",data:=.fields #[.int lo t,.int hi u,.int 1 v]}).objs.size:=by simpa using hb
  subst e
  exact I1.fpOk (qO _) (I1.hok.fresh (qO _))
noncomputable def iRng1(ta:TA):TI:=λσ H R=>ta σ H λvs H1=>∃j:Int,vs=[.int j]/\-(2 ^ 62)<=j/\j<2 ^ 62/\R (Itr 0 j.toNat) H1
theorem zui{a:Expr}{ta:TA}{p pos:Pos}(hg:Gl X "range")(hm:X.mg "range"=none)(ha:PA X [a] ta)(hs:starEach [a] X.env=[(false,eval a X.env)]:=by rfl):PI X tg (.Call (.Name "range" p) [a] [] pos) (iRng1 ta):=by
 intro pins s σ H R I h
 refine Call_ (zrh I hg hm boot_range (qBB (thn (ha pos pins s σ H _ I h) λus s1 ⟨vs,H1,I1,r1,q1⟩=>?_) hs rfl))
 obtain⟨j,e,q1,q2,q⟩:=q1
 subst e
 cases r1 with
 | cons r rr=>
  cases rr
  obtain⟨t,rfl⟩:=r
  exact call_range_1 (zahe I1 (by omega) (by omega) q1 q2 (by simpa using q))
noncomputable def tFor(wi:TI)(g:TG)(tb:TS):TS:=λD σ H=>wi σ H λJ H1=>∃W:Nat->Nat->St->Hp->Prop,(∃m,W 0 m σ H1)/\∀i m σ H,W i m σ H->
 (J.stop i H/\D.nx σ H)\/(J.go i H/\∃N:St->Hp->Prop,(∀σ' H',N σ' H'->∃m',m'<m/\W (i+1) m' σ' H')/\∀x H',J.yld i H x H'->g x σ H' λσ2 H2=>tb {D with nx:=N,ct:=N,bk:=D.nx} σ2 H2)
noncomputable def zuj(fp:List Addr)(h:Heap):List (Addr×Obj):=fp.filterMap λb=>(h.get? b).map λo=>(b,o)
theorem zjk{h:Heap}(hb:b∈fp)(e:h.get? b=some o):(b,o)∈zuj fp h:=qBQ.mpr ⟨b,hb,by rw[e];rfl⟩
theorem zack{h:Heap}{p:Addr×Obj}(hp:p∈zuj fp h):p.1∈fp/\h.get? p.1=some p.2:=by
 obtain⟨b,hb,e⟩:=qBQ.mp hp
 cases q:h.get? b with
 | none=>rw[q]at e;cases e
 | some o=>
  rw[q]at e
  have e':(b,o)=p:=qe e
  subst e'
  exact⟨hb,q⟩
theorem Inv.pinned{s:Shared}(I:Inv X pins σ H s)(hf:∀b∈fp,FpOk X pins H b)(ho:∀b∈fp,∃o,s.heap.get? b=some o/\∀v,o.data≠.cell v):Inv X (pins++zuj fp s.heap) σ H s:=
 I.pins_of λp hp=>(qV.mp hp).elim (λz=>I.pin p (qc _ z)) λz=>by
  obtain⟨hb,e⟩:=zack z
  obtain⟨f0,f1,f2,_⟩:=hf p.1 hb
  obtain⟨o,e',d⟩:=ho p.1 hb
  rw[e]at e';cases e'
  exact⟨e,f0,f1,f2,d⟩
theorem Inv.unpinned(I:Inv X (pins++pl) σ H s):Inv X pins σ H s:=I.pins_of λp hp=>I.pin p (qc _ (qw _ hp))
theorem zacl(hp:PassesOwn (model X.prog X.w) X.A X.env X.xe)(hc:X.calm=true)(hi:PI X tg iter wi)(hg:PG X tg g)(hb:PSs X body tb)
  (hs:∀x,foldedSetIterable iter X.env x=pure x:=by intro _;rfl):PS X (.For tg iter body [] pos) (tFor wi g tb):=by
 intro pins s σ H D I h
 refine wpAny_For (thn (hi pins s σ H _ I h) λv s1 h1=>thn h1 λitv s2 h2=>?_) hs
 obtain⟨it,fp,tn,J,H2,e,I2,T,st2,f2,W,⟨m0,w0⟩,turn⟩:=h2
 subst e
 have stat:∀{H':Hp},(∀b∈fp,H' b=none)->∀b∈fp,FpOk X pins H' b:=λhn b hb=>⟨hn b hb,(f2 b hb).2⟩
 refine codeAny_forLoop_any (λn s'=>∃i σ' H',Inv X pins σ' H' s'/\tn i s'.heap/\(∀b∈fp,H' b=none)/\W i n σ' H') ?_ m0 ⟨0,σ,H2,I2,st2,λb hb=>(f2 b hb).1,w0⟩
 rintro n s3 ⟨i,σ3,H3,I3,st3,fr3,w3⟩
 rcases turn i n σ3 H3 w3 with⟨stop,qn⟩|⟨go,N,hN,step⟩
 ·refine qBU hp (thn (T.done X rfl rfl rfl hc i pins s3 σ3 H3 X.xe I3 (stat fr3) st3 stop) λr s4 ⟨hr,I4⟩=>?_)
  subst hr
  exact qCg ⟨σ3,H3,I4,qn⟩
 ·refine qBU hp (thn (T.item X rfl rfl rfl hc i pins s3 σ3 H3 X.xe I3 (stat fr3) st3 go) λr s4 ⟨u,hr,h4⟩=>?_)
  subst hr
  refine qBU hp (thn h4 λ_ s5 ⟨x,H5,I5,r5,y5,st5,fr5⟩=>?_)
  have I5':=I5.pinned (stat fr5) (T.obj _ _ st5)
  refine qBU hp (thn (hg _ s5 σ3 H5 x u _ I5' r5 (step x H5 y5)) λ_ s6 ⟨σ6,H6,I6,q6⟩=>?_)
  refine qBU hp (thn (hb _ s6 σ6 H6 _ I6 q6) λf s7 q7=>?_)
  have again:∀{σ7:St}{H7:Hp},Inv X (pins++zuj fp s5.heap) σ7 H7 s7->N σ7 H7->∃m,m<n/\∃i σ' H',Inv X pins σ' H' s7/\tn i s7.heap/\(∀b∈fp,H' b=none)/\W i m σ' H':=λ{σ7 H7} I7 n7=>by
   obtain⟨m',hm,w7⟩:=hN σ7 H7 n7
   refine⟨m',hm,i+1,σ7,H7,I7.unpinned,T.keep _ _ _ st5 λb hb o e=>(I7.pin (b,o) (qc _ (qc _ (zjk hb e)))).1,λb hb=>?_,w7⟩
   obtain⟨o,e,d⟩:=T.obj _ _ st5 b hb
   exact(I7.pin (b,o) (qc _ (qc _ (zjk hb e)))).2.1
  cases f with
  | next=>obtain⟨σ7,H7,I7,n7⟩:=q7;exact again I7 n7
  | cont=>obtain⟨σ7,H7,I7,n7⟩:=q7;exact again I7 n7
  | brk=>obtain⟨σ7,H7,I7,q7⟩:=q7;exact⟨σ7,H7,I7.unpinned,q7⟩
  | ret v=>obtain⟨x7,σ7,H7,I7,r7,q7⟩:=q7;exact⟨x7,σ7,H7,I7.unpinned,r7,q7⟩
end
theorem for_list{K:qC}{a:Addr}{xs:List V}{g:TG}{tb:TS}{D:Ends}{σ:St}{H:Hp}(Pv:Nat->St->Hp->Prop)(h0:Pv 0 σ H)(hl:∀i σ H,i<=xs.length->Pv i σ H->SqL K H a xs)
  (hs:∀i x σ H,xs[i]?=some x->Pv i σ H->g x σ H λσ2 H2=>tb {D with nx:=Pv (i+1),ct:=Pv (i+1),bk:=D.nx} σ2 H2) (hd:∀σ H,Pv xs.length σ H->D.nx σ H) :
  ∃W:Nat->Nat->St->Hp->Prop,(∃m,W 0 m σ H)/\∀i m σ H,W i m σ H->
   ((Itl K a).stop i H/\D.nx σ H)\/((Itl K a).go i H/\∃N:St->Hp->Prop,(∀σ' H',N σ' H'->∃m',m'<m/\W (i+1) m' σ' H')/\∀x H',(Itl K a).yld i H x H'->g x σ H' λσ2 H2=>tb {D with nx:=N,ct:=N,bk:=D.nx} σ2 H2):=by
 refine⟨λi m σ H=>m=xs.length - i/\i<=xs.length/\Pv i σ H,⟨xs.length,by simp,qAU _,h0⟩,?_⟩
 rintro i m σ H ⟨rfl,hi,p⟩
 have q:=hl i σ H hi p
 by_cases hlt:i<xs.length
 ·refine .inr ⟨⟨xs,xs[i],q,by simp[hlt]⟩,Pv (i+1),λσ' H' p'=>⟨xs.length - (i+1),by omega,rfl,hlt,p'⟩,λx H' y=>?_⟩
  obtain⟨e,y⟩:=y
  subst e
  exact hs i x σ _ (y xs q) p
 ·have e:i=xs.length:=by omega
  subst e
  exact .inl ⟨⟨xs,q,qO _⟩,hd σ H p⟩
theorem for_range{lo:Int}{n:Nat}{g:TG}{tb:TS}{D:Ends}{σ:St}{H:Hp}(Pv:Nat->St->Hp->Prop)(h0:Pv 0 σ H)
  (hs:∀i σ H,i<n->Pv i σ H->g (.int (lo+i)) σ H λσ2 H2=>tb {D with nx:=Pv (i+1),ct:=Pv (i+1),bk:=D.nx} σ2 H2) (hd:∀σ H,Pv n σ H->D.nx σ H) :
  ∃W:Nat->Nat->St->Hp->Prop,(∃m,W 0 m σ H)/\∀i m σ H,W i m σ H->
   ((Itr lo n).stop i H/\D.nx σ H)\/((Itr lo n).go i H/\∃N:St->Hp->Prop,(∀σ' H',N σ' H'->∃m',m'<m/\W (i+1) m' σ' H')/\∀x H',(Itr lo n).yld i H x H'->g x σ H' λσ2 H2=>tb {D with nx:=N,ct:=N,bk:=D.nx} σ2 H2):=by
 refine⟨λi m σ H=>m=n - i/\i<=n/\Pv i σ H,⟨n,by simp,qAU _,h0⟩,?_⟩
 rintro i m σ H ⟨rfl,hi,p⟩
 by_cases hlt:i<n
 ·refine .inr ⟨hlt,Pv (i+1),λσ' H' p'=>⟨n - (i+1),by omega,rfl,hlt,p'⟩,λx H' y=>?_⟩
  obtain⟨e,y⟩:=y
  subst e y
  exact hs i σ _ hlt p
 ·have e:i=n:=by omega
  subst e
  exact .inl ⟨qO _,hd σ H p⟩
noncomputable abbrev R2:=V->V->Hp->VK->Prop
noncomputable def OpR(X:Cx)(f:Value->Value->Sem Value)(r:R2):Prop:=
 ∀(pins:List (Addr×Obj))(s:Shared)(σ:St)(H:Hp)(x y:V)(v u:Value)(Q:VK),Inv X pins σ H s->RelV x v->RelV y u->r x y H Q->
  wpAny (model X.prog X.w) X.A (f v u) (EP X pins σ Q) X.xe s
noncomputable def CallR(X:Cx)(f:Value)(r:List V->Hp->VK->Prop):Prop:=
 ∀(pins:List (Addr×Obj))(s:Shared)(σ:St)(H:Hp)(xs:List V)(us:List Value)(Q:VK),Inv X pins σ H s->Vals xs us->r xs H Q->
  wpAny (model X.prog X.w) X.A (call f us) (EP X pins σ Q) X.xe s
noncomputable def TruR(X:Cx)(r:V->Hp->(Bool->Hp->Prop)->Prop):Prop:=
 ∀(pins:List (Addr×Obj))(s:Shared)(σ:St)(H:Hp)(x:V)(v:Value)(Q:Bool->Hp->Prop),Inv X pins σ H s->RelV x v->r x H Q->
  wpAny (model X.prog X.w) X.A (truthy v) (TP X pins σ Q) X.xe s
noncomputable def tOp(r:R2)(ta tb:TE):TE:=λσ H Q=>ta σ H λx H1=>tb σ H1 λy H2=>r x y H2 Q
noncomputable def rI(C:Int->Int->Prop)(g:Int->Int->V):R2:=λx y H Q=>∃i j,x=.int i/\y=.int j/\C i j/\Q (g i j) H
noncomputable def rI0(g:Int->Int->V):R2:=λx y H Q=>∃i j,x=.int i/\y=.int j/\Q (g i j) H
section
variable{X:Cx}{a b c:Expr}{ta tb tc:TE}{pos:Pos}
theorem binT(ha:PE X a ta)(hb:PE X b tb){R:V->V->Hp->Prop}(I:Inv X pins σ H s)
  (h:ta σ H λx H1=>tb σ H1 λy H2=>R x y H2){Q:Value->Shared->Prop}{f:Value->Value->Sem Value}
  (hf:∀v u s2 x y H2,Inv X pins σ H2 s2->RelV x v->RelV y u->R x y H2->wpAny (model X.prog X.w) X.A (f v u) Q X.xe s2) :
  wpAny (model X.prog X.w) X.A (eval a X.env) (λv s₁=>wpAny (model X.prog X.w) X.A (eval b X.env) (λu s₂=>wpAny (model X.prog X.w) X.A (f v u) Q X.xe s₂) X.xe s₁) X.xe s:=by
 refine thn (ha pins s σ H _ I h) λv s1 ⟨x,H1,I1,r1,q1⟩=>?_
 refine thn (hb pins s1 σ H1 _ I1 q1) λu s2 ⟨y,H2,I2,r2,q2⟩=>?_
 exact hf v u s2 x y H2 I2 r1 r2 q2
theorem zju(ho:OpR X (binaryOp op) r)(ha:PE X a ta)(hb:PE X b tb):PE X (.BinOp a op b pos) (tOp r ta tb):=by
 intro pins s σ H Q I h
 exact wpAny_BinOp (binT ha hb I h λv u s2 x y H2 I2 rx ry q=>ho pins s2 σ H2 x y v u Q I2 rx ry q)
theorem opI{f:Value->Value->Sem Value}{C:Int->Int->Prop}{g:Int->Int->Int}
  (rule:∀(i j:Int)(t u:Tok)(s:Shared)(Q:Value->Shared->Prop)(E:Value->Shared->Prop),C i j->Q (.int (g i j) s.toks) {s with toks:=s.toks+1}->wpAny (model X.prog X.w) X.A (f (.int i t) (.int j u)) Q E s) :
  OpR X f (rI C λi j=>.int (g i j)):=by
 intro pins s σ H x y v u Q I rx ry h
 obtain⟨i,j,rfl,rfl,hc,q⟩:=h
 obtain⟨t,rfl⟩:=rx
 obtain⟨t',rfl⟩:=ry
 exact rule i j t t' s _ _ hc ⟨.int (g i j),H,I.tok _,⟨_,rfl⟩,q⟩
theorem opI0{f:Value->Value->Sem Value}{g:Int->Int->Int}
  (rule:∀(i j:Int)(t u:Tok)(s:Shared)(Q:Value->Shared->Prop)(E:Value->Shared->Prop),Q (.int (g i j) s.toks) {s with toks:=s.toks+1}->wpAny (model X.prog X.w) X.A (f (.int i t) (.int j u)) Q E s) :
  OpR X f (rI0 λi j=>.int (g i j)):=by
 intro pins s σ H x y v u Q I rx ry h
 obtain⟨i,j,rfl,rfl,q⟩:=h
 obtain⟨t,rfl⟩:=rx
 obtain⟨t',rfl⟩:=ry
 exact rule i j t t' s _ _ ⟨.int (g i j),H,I.tok _,⟨_,rfl⟩,q⟩
theorem opB0{f:Value->Value->Sem Value}{g:Int->Int->Bool}
  (rule:∀(i j:Int) (t u:Tok) (s:Shared) (Q:Value->Shared->Prop) (E:Value->Shared->Prop),Q (.bool (g i j)) s->wpAny (model X.prog X.w) X.A (f (.int i t) (.int j u)) Q E s) :
  OpR X f (rI0 λi j=>.bl (g i j)):=by
 intro pins s σ H x y v u Q I rx ry h
 obtain⟨i,j,rfl,rfl,q⟩:=h
 obtain⟨t,rfl⟩:=rx
 obtain⟨t',rfl⟩:=ry
 exact rule i j t t' s _ _ ⟨.bl (g i j),H,I,rfl,q⟩
noncomputable def CDiv(i j:Int):Prop:=0<j/\j<1073741824
noncomputable def CPow(i j:Int):Prop:=0<=j/\j<=1000000/\i.natAbs<2 ^ 64
noncomputable def CMul(i j:Int):Prop:=(-(2 ^ 64)<i/\i<2 ^ 64)\/(-(2 ^ 64)<j/\j<2 ^ 64)
theorem CMul.ok(h:CMul i j):IntMulOk i j:=by
 rcases h with⟨h1,h2⟩|⟨h1,h2⟩
 ·exact .of_left (intBits_le_64 h1 h2)
 ·exact .of_right (intBits_le_64 h1 h2)
theorem zaou:OpR X (binaryOp .Add) (rI0 λi j=>.int (i+j)):=opI0 λ_ _ _ _ _ _ _ q=>add_int q
theorem zri:OpR X (binaryOp .Sub) (rI0 λi j=>.int (i - j)):=opI0 λ_ _ _ _ _ _ _ q=>sub_int q
theorem zaov:OpR X (binaryOp .Mult) (rI CMul λi j=>.int (i * j)):=opI λ_ _ _ _ _ _ _ hc q=>mul_int q hc.ok
theorem zcy:OpR X (binaryOp .FloorDiv) (rI CDiv λi j=>.int (i / j)):=opI λi j _ _ _ _ _ hc q=>by
 have h1:(0:Int)<j:=hc.1
 have h2:j<1073741824:=hc.2
 exact floordiv_int (by omega) (by rw[Int.fdiv_eq_ediv_of_nonneg i (by omega)];exact q) (.inl (PyProof.noPylong_small (by omega)))
theorem zcb:OpR X (binaryOp .Mod) (rI (λ_ j=>0<j) λi j=>.int (i % j)):=opI λi j _ _ _ _ _ hc q=>by
 have h1:(0:Int)<j:=hc
 exact mod_int' (by omega) (by rw[Int.fmod_eq_emod_of_nonneg i (by omega)];exact q)
theorem zakc:OpR X (binaryOp .Pow) (rI CPow λi j=>.int (i ^ j.toNat)):=opI λ_ _ _ _ _ _ _ hc q=>pow_int_small hc.1 hc.2.1 hc.2.2 q
end
noncomputable def scal:V->V->Bool
 | .non,.non=>true|.non,.int _=>true|.int _,.non=>true|.non,.bl _=>true|.bl _,.non=>true|.non,.str _=>true|.str _,.non=>true
 | .int _,.int _=>true|.bl _,.bl _=>true|.str _,.str _=>true|.byt _,.byt _=>true
 | .int _,.str _=>true|.str _,.int _=>true|.bl _,.str _=>true|.str _,.bl _=>true
 | _,_=>false
noncomputable def rEq:R2:=λx y H Q=>scal x y=true/\Q (.bl (decide (x=y))) H
noncomputable def rNe:R2:=λx y H Q=>scal x y=true/\Q (.bl (!decide (x=y))) H
theorem zxm:decide (V.int i=V.int j)=(i==j):=by
 rw[qAd]
 simp
theorem zacm:decide (V.bl i=V.bl j)=(i==j):=by
 rw[qAd]
 simp
theorem zxn:decide (V.str i=V.str j)=(i==j):=by
 rw[qAd]
 simp
theorem zacn{i j:Array UInt8}:decide (V.byt i=V.byt j)=(i.toList==j.toList):=by
 rw[qAd]
 cases i
 cases j
 simp
section
variable{X:Cx}{a b c:Expr}{ta tb tc:TE}{pos:Pos}
theorem zco(I:Inv X pins σ H s)(q:Q (.bl k) H)(e:k=k'):EP X pins σ Q (.bool k') s:=by
 subst e
 exact⟨.bl k,H,I,rfl,q⟩
theorem zarn:OpR X (compareOp .Eq) rEq:=by
 intro pins s σ H x y v u Q I rx ry h
 obtain⟨hs,q⟩:=h
 cases x with
 | non=>
  cases rx
  cases y with
  | non=>cases ry;exact EqNone.eq_none_none (zco I q (by simp))
  | bl j=>cases ry;exact EqNone.eq_none_bool (zco I q (by simp))
  | int j=>obtain⟨t',rfl⟩:=ry;exact EqNone.eq_none_int (zco I q (by simp))
  | str j=>obtain⟨t',rfl⟩:=ry;exact EqNone.eq_none_str (zco I q (by simp))
  | _=>exact absurd (show false=true from hs) qT
 | bl i=>
  cases rx
  cases y with
  | non=>cases ry;exact EqNone.eq_bool_none (zco I q (by simp))
  | bl j=>cases ry;exact eq_bool (zco I q zacm)
  | str j=>obtain⟨t',rfl⟩:=ry;exact EqMixed.eq_bool_str (zco I q (by simp))
  | _=>exact absurd (show false=true from hs) qT
 | int i=>
  obtain⟨t,rfl⟩:=rx
  cases y with
  | non=>cases ry;exact EqNone.eq_int_none (zco I q (by simp))
  | int j=>obtain⟨t',rfl⟩:=ry;exact eq_int (zco I q zxm)
  | str j=>obtain⟨t',rfl⟩:=ry;exact EqMixed.eq_int_str (zco I q (by simp))
  | _=>exact absurd (show false=true from hs) qT
 | str i=>
  obtain⟨t,rfl⟩:=rx
  cases y with
  | non=>cases ry;exact EqNone.eq_str_none (zco I q (by simp))
  | bl j=>cases ry;exact EqMixed.eq_str_bool (zco I q (by simp))
  | int j=>obtain⟨t',rfl⟩:=ry;exact EqMixed.eq_str_int (zco I q (by simp))
  | str j=>obtain⟨t',rfl⟩:=ry;exact eq_str (zco I q zxn)
  | _=>exact absurd (show false=true from hs) qT
 | byt i=>
  obtain⟨t,rfl⟩:=rx
  cases y with
  | byt j=>obtain⟨t',rfl⟩:=ry;exact PySem.W.eq_bytes (zco I q zacn)
  | _=>exact absurd (show false=true from hs) qT
 | _=>cases y<;>exact absurd (show false=true from hs) qT
theorem zaro:OpR X (compareOp .NotEq) rNe:=by
 intro pins s σ H x y v u Q I rx ry h
 obtain⟨hs,q⟩:=h
 cases x with
 | non=>
  cases rx
  cases y with
  | non=>cases ry;exact EqNone.ne_none_none (zco I q (by simp))
  | bl j=>cases ry;exact EqNone.ne_none_bool (zco I q (by simp))
  | int j=>obtain⟨t',rfl⟩:=ry;exact EqNone.ne_none_int (zco I q (by simp))
  | str j=>obtain⟨t',rfl⟩:=ry;exact EqNone.ne_none_str (zco I q (by simp))
  | _=>exact absurd (show false=true from hs) qT
 | bl i=>
  cases rx
  cases y with
  | non=>cases ry;exact EqNone.ne_bool_none (zco I q (by simp))
  | bl j=>cases ry;exact ne_bool (zco I q (congrArg not zacm))
  | str j=>obtain⟨t',rfl⟩:=ry;exact EqMixed.ne_bool_str (zco I q (by simp))
  | _=>exact absurd (show false=true from hs) qT
 | int i=>
  obtain⟨t,rfl⟩:=rx
  cases y with
  | non=>cases ry;exact EqNone.ne_int_none (zco I q (by simp))
  | int j=>obtain⟨t',rfl⟩:=ry;exact ne_int (zco I q (congrArg not zxm))
  | str j=>obtain⟨t',rfl⟩:=ry;exact EqMixed.ne_int_str (zco I q (by simp))
  | _=>exact absurd (show false=true from hs) qT
 | str i=>
  obtain⟨t,rfl⟩:=rx
  cases y with
  | non=>cases ry;exact EqNone.ne_str_none (zco I q (by simp))
  | bl j=>cases ry;exact EqMixed.ne_str_bool (zco I q (by simp))
  | int j=>obtain⟨t',rfl⟩:=ry;exact EqMixed.ne_str_int (zco I q (by simp))
  | str j=>obtain⟨t',rfl⟩:=ry;exact ne_str (zco I q (congrArg not zxn))
  | _=>exact absurd (show false=true from hs) qT
 | byt i=>
  obtain⟨t,rfl⟩:=rx
  cases y with
  | byt j=>obtain⟨t',rfl⟩:=ry;exact PySem.W.ne_bytes (zco I q (congrArg not zacn))
  | _=>exact absurd (show false=true from hs) qT
 | _=>cases y<;>exact absurd (show false=true from hs) qT
theorem zarp:OpR X (compareOp .Lt) (rI0 λi j=>.bl (decide (i<j))):=opB0 λ_ _ _ _ _ _ _ q=>lt_int q
theorem zalo:OpR X (compareOp .Gt) (rI0 λi j=>.bl (decide (j<i))):=opB0 λ_ _ _ _ _ _ _ q=>gt_int q
theorem OpR.or{f:Value->Value->Sem Value}(h:OpR X f r)(h':OpR X f r'):OpR X f (λx y H Q=>r x y H Q\/r' x y H Q):=by
 intro pins s σ H x y v u Q I rx ry q
 rcases q with q|q
 ·exact h pins s σ H x y v u Q I rx ry q
 ·exact h' pins s σ H x y v u Q I rx ry q
theorem zfe(b:Expr)(h:op≠.In:=by decide)(h2:op≠.NotIn:=by decide):behindInMarks op b=false:=by
 have e1:(op==CmpOp.In)=false:=by cases op<;>first|rfl|exact absurd rfl h
 have e2:(op==CmpOp.NotIn)=false:=by cases op<;>first|rfl|exact absurd rfl h2
 cases b<;>simp[behindInMarks,e1,e2]
theorem zalp(ho:OpR X (compareOp op) r)(ha:PE X a ta)(hb:PE X b tb)(hm:behindInMarks op b=false):PE X (.Compare a [op] [b] pos) (tOp r ta tb):=by
 intro pins s σ H Q I h
 exact wpAny_Compare1 (binT ha hb I h λv u s2 x y H2 I2 rx ry q=>ho pins s2 σ H2 x y v u Q I2 rx ry q) hm
noncomputable def tTest(t:TE):TT:=λσ H Q=>t σ H λx H'=>∃k,x=.bl k/\Q k H'
theorem zaco(ho:OpR X (compareOp op) r)(ha:PE X a ta)(hb:PE X b tb)(hm:behindInMarks op b=false):PT X (.Compare a [op] [b] pos) (tTest (tOp r ta tb)):=by
 intro pins s σ H Q I h
 refine wpAny_isTrue_Compare1 (thn (ha pins s σ H _ I h) λv s1 ⟨x,H1,I1,r1,q1⟩=>thn (hb pins s1 σ H1 _ I1 q1) λu s2 ⟨y,H2,I2,r2,q2⟩=>
  thn (ho pins s2 σ H2 x y v u _ I2 r1 r2 q2) λc s3 ⟨z,H3,I3,r3,k,e,q3⟩=>?_) hm
 subst e
 cases r3
 exact qBG ⟨H3,I3,q3⟩
noncomputable def TruV(K:qC)(x:V)(H:Hp)(k:Bool):Prop:=
 match x with
 | .non=>k=false
 | .bl b=>k=b
 | .int i=>k=(i != 0)
 | .str y=>y.length<=qZ/\k=((y.length:Int) != 0)
 | .byt y=>y.size<=qZ/\k=((y.size:Int) != 0)
 | .ref p=>(∃xs,SqL K H p xs/\k=!xs.isEmpty)\/(∃xs,SqT K H p xs/\k=!xs.isEmpty)\/∃kvs,H p=some (.dK kvs)/\k=!kvs.isEmpty
 | _=>False
theorem zabc{kvs:List (κ×V)}{vs:List (κ×Value)}(r:KV kvs vs):(!vs.isEmpty)=!kvs.isEmpty:=by
 cases r<;>rfl
theorem zrj{xs:List V}{its:List Value}(r:Vals xs its):(!its.toArray.isEmpty)=!xs.isEmpty:=by
 cases r<;>simp
theorem zuk:(qZ:Nat)<2 ^ 63:=by rw[qCh];decide
theorem zaow:TruR X (λx H Q=>∃k,TruV X.K x H k/\Q k H):=by
 intro pins s σ H x v Q I rx h
 obtain⟨k,e,q⟩:=h
 have hl:=zuk
 have hs:qZ=16777216:=qCh
 cases x with
 | non=>
  cases rx
  have e':k=false:=e
  subst e'
  exact truthy_none ⟨H,I,q⟩
 | bl b=>
  cases rx
  have e':k=b:=e
  subst e'
  exact qBG ⟨H,I,q⟩
 | int i=>
  obtain⟨t,rfl⟩:=rx
  have e':k=(i != 0):=e
  subst e'
  exact PySem.P.truthy_int ⟨H,I,q⟩
 | str y=>
  obtain⟨t,rfl⟩:=rx
  obtain⟨hy,e'⟩:y.length<=qZ/\k=((y.length:Int) != 0):=e
  subst e'
  exact PySem.P.truthy_str (by omega) ⟨H,I.tok _,q⟩
 | byt y=>
  obtain⟨t,rfl⟩:=rx
  obtain⟨hy,e'⟩:y.size<=qZ/\k=((y.size:Int) != 0):=e
  subst e'
  exact PySem.W.truthy_bytes (by omega) ⟨H,I.tok _,q⟩
 | ref p=>
  cases rx
  have e':(∃xs,SqL X.K H p xs/\k=!xs.isEmpty)\/(∃xs,SqT X.K H p xs/\k=!xs.isEmpty)\/∃kvs,H p=some (.dK kvs)/\k=!kvs.isEmpty:=e
  rcases e' with⟨xs,hx,e'⟩|⟨xs,hx,e'⟩|⟨kvs,hx,e'⟩
  ·subst e'
   obtain⟨its,r,pl,hz⟩:=I.list hx
   have hlen:=r.length
   exact wpAny_truthy_list pl.isList (by simp only[qU];omega) ⟨H,I.tok _,by rw[zrj r];exact q⟩
  ·subst e'
   obtain⟨its,r,pl,hz⟩:=I.tuple hx
   have hlen:=r.length
   exact truthy_tuple pl (by simp only[qU];omega) ⟨H,I.tok _,by rw[zrj r];exact q⟩
  ·subst e'
   obtain⟨hz,hS,vs,r,m⟩:kvs.length<=qZ/\(p==sysModules)=false/\∃vs,KV kvs vs/\s.heap.DictOf (zdl X.prog X.w) p vs:=I.hok p _ hx
   have hlen:kvs.length=vs.length:=qBp r
   exact wpAny_truthy_dict hS m (by omega) ⟨H,I.tok _,by rw[zabc r];exact q⟩
 | _=>exact(show False from e).elim
theorem zahf(ha:PE X a ta)(he:∀whole,isTrue a X.env whole=(do let v <- whole;standAt a.pos;holding [v] (truthy v))) :
  PT X a (λσ H Q=>ta σ H λx H'=>∃k,TruV X.K x H' k/\Q k H'):=by
 intro pins s σ H Q I h
 exact isTrue_plain (thn (ha pins s σ H _ I h) λv s1 ⟨x,H1,I1,r1,q1⟩=>zaow pins s1 σ H1 x v Q I1 r1 q1) (he _)
theorem zabd:OpR X (binaryOp .Add) (λx y H Q=>∃i j,x=.str i/\y=.str j/\i.length+j.length<=qZ/\Q (.str (i++j)) H):=by
 intro pins s σ H x y v u Q I rx ry h
 obtain⟨i,j,rfl,rfl,hz,q⟩:=h
 obtain⟨t,rfl⟩:=rx
 obtain⟨t',rfl⟩:=ry
 exact add_str (λt' tk=>⟨.str (i++j),H,I.tok _,⟨_,rfl⟩,q⟩) hz
theorem zabe(r:Vals [x] us):∃u,us=[u]/\RelV x u:=by
 cases r with
 | cons r1 r2=>cases r2;exact⟨_,rfl,r1⟩
theorem zalq(r:Vals [x,y] us):∃u w',us=[u,w']/\RelV x u/\RelV y w':=by
 cases r with
 | cons r1 r2=>
  cases r2 with
  | cons r3 r4=>cases r4;exact⟨_,_,rfl,r1,r3⟩
theorem zacp(hc:X.calm=true):CallR X (.builtin "min") (λxs H Q=>∃i j,xs=[.int i,.int j]/\Q (.int (if j<i then j else i)) H):=by
 intro pins s σ H xs us Q I r h
 obtain⟨i,j,rfl,q⟩:=h
 obtain⟨u,w',rfl,⟨t,rfl⟩,⟨t',rfl⟩⟩:=zalq r
 refine min_two_ints (I.ok.hd hc) λh' tk k=>⟨_,H,I.kept k,?_,q⟩
 by_cases hj:j<i
 ·rw[if_pos hj,if_pos hj];exact⟨_,rfl⟩
 ·rw[if_neg hj,if_neg hj];exact⟨_,rfl⟩
noncomputable def LenV(K:qC)(x:V)(H:Hp)(n:Nat):Prop:=
 match x with
 | .str y=>y.length<=qZ/\n=y.length
 | .byt y=>y.size<=qZ/\n=y.size
 | .ref p=>(∃xs,SqL K H p xs/\n=xs.length)\/∃xs,SqT K H p xs/\n=xs.length
 | _=>False
theorem zahg:CallR X (.builtin "len") (λxs H Q=>∃x n,xs=[x]/\LenV X.K x H n/\Q (.int n) H):=by
 intro pins s σ H xs us Q I r h
 obtain⟨x,n,rfl,e,q⟩:=h
 obtain⟨u,rfl,rx⟩:=zabe r
 have hl:=zuk
 have hs:qZ=16777216:=qCh
 cases x with
 | str y=>
  obtain⟨t,rfl⟩:=rx
  obtain⟨hy,e'⟩:y.length<=qZ/\n=y.length:=e
  subst e'
  exact len_str (by omega) ⟨.int _,H,I.tok _,⟨_,rfl⟩,q⟩
 | byt y=>
  obtain⟨t,rfl⟩:=rx
  obtain⟨hy,e'⟩:y.size<=qZ/\n=y.size:=e
  subst e'
  exact PySem.W.len_bytes (by omega) ⟨.int _,H,I.tok _,⟨_,rfl⟩,q⟩
 | ref p=>
  cases rx
  have e':(∃xs,SqL X.K H p xs/\n=xs.length)\/∃xs,SqT X.K H p xs/\n=xs.length:=e
  rcases e' with⟨xs,hx,e'⟩|⟨xs,hx,e'⟩
  ·subst e'
   obtain⟨its,r',pl,hz⟩:=I.list hx
   have hlen:=r'.length
   exact Calls.call_len_list pl.isList (by simp only[qU];omega) ⟨.int xs.length,H,I.tok _,⟨_,by simp only[qU];rw[hlen]⟩,q⟩
  ·subst e'
   obtain⟨its,r',pl,hz⟩:=I.tuple hx
   have hlen:=r'.length
   exact len_tuple pl (by simp only[qU];omega) ⟨.int xs.length,H,I.tok _,⟨_,by simp only[qU];rw[hlen]⟩,q⟩
 | _=>exact(show False from e).elim
end
set_option genInjectivity false in
structure ObjM(h:Heap)(x dx C:Addr)(mA:Str->Option Value):Prop where
 obj:h.get? x=some (instObj C dx)
 ns:h.Ns1 dx mA
 ne:dx≠x
theorem zacq{h:Heap}{mA:Str->Option Value}(n:h.Ns1 dx mA):∃od,h.get? dx=some od/\∀name,lookIn name od=some (mA name):=by
 obtain⟨o,es,ep,ho,hd,hk,_,hm⟩:=n
 refine⟨o,ho,λname=>?_⟩
 have e:=hm name
 unfold nsFind findBy at e
 rw[<- Array.find?_toList]at e
 unfold lookIn
 rw[hd]
 dsimp only
 split
 ·rename_i y q
  rw[q]at e
  exact congrArg some e
 ·rename_i q
  rw[q]at e
  have a:es.toList.any (·.refKey)=false:=by
   rw[List.any_eq_false]
   intro y hy
   obtain⟨z,t,hkey⟩:=hk y (Array.mem_toList_iff.mp hy)
   simp[DictEntry.refKey,hkey]
  have a':¬es.toList.any (·.refKey)=true:=by rw[a];exact qT
  rw[if_neg a']
  exact congrArg some e
theorem ObjM.look{mA:Str->Option Value}(I:ObjM h x dx C mA):∃od,PySem.W.InstAt h x (instObj C dx) C (some od)/\∀name,lookIn name od=some (mA name):=
 let⟨od,ho,hl⟩:=zacq I.ns
 ⟨od,⟨I.obj,rfl,rfl,ho⟩,hl⟩
theorem RelO.some_of(r:RelO (some v) o):∃u,o=some u/\RelV v u:=by
 cases o with
 | none=>exact(show False from r).elim
 | some u=>exact⟨u,rfl,r⟩
section
variable{P:Program}{w:World}{H H':Hp}{h h':Heap}{a C dx:Addr}{fs fs':List (Str×V)}
theorem zalr(hok:HOk P w H h)(e:H a=some (.ins C dx fs)):∃mA,ObjM h a dx C mA/\(∀f,RelO (fs.lookup f) (mA f))/\PySem.Within mA (fs.map (·.1))/\fs.length<=1000/\H dx=some (.own a):=by
 obtain⟨d,z,ne,ob,mA,n,r,q⟩:=(show zeq P w H h a (.ins C dx fs)from hok a _ e)
 exact⟨mA,⟨ob,n,ne⟩,r,q,z,d⟩
end
set_option genInjectivity false in
structure Cls(K:qC)(C:Addr):Prop where
 pg:plainGet K C Str.empty=true
 hd:PySem.W.hasDictIn K C=true
 po:PySem.W.plainOver K C=true
 sa:findIn K (.ref C) "__setattr__"=some (some (.builtin "object.__setattr__"))
theorem Cls.get{K:qC}{C:Addr}(c:Cls K C)(f:Str):plainGet K C f=true:=c.pg
set_option genInjectivity false in
set_option genInjectivity false in
section
variable{X:Cx}{pins:List (Addr×Obj)}{σ:St}{H:Hp}{s:Shared}{a C dx:Addr}{fs:List (Str×V)}{f:Str}{v:V}{A:Around}{E:Value->Shared->Prop}
end
section
variable{X:Cx}{pins:List (Addr×Obj)}{σ:St}{H:Hp}{s:Shared}{A:Around}{E:Value->Shared->Prop}{Q:Value->Shared->Prop}{c:Value}{b:Bool}
inductive TyOf(K:qC)(H:Hp):V->Value->Prop where
 | non:TyOf K H .non (.type "NoneType")
 | bl (x:Bool):TyOf K H (.bl x) (.type "bool")
 | int (i:Int):TyOf K H (.int i) (.type "int")
 | str (x:Str):TyOf K H (.str x) (.type "str")
 | flt (x:UInt64):TyOf K H (.flt x) (.type "float")
 | lst {a:Addr} {xs:List V} (e:H a=some (.lst xs)):TyOf K H (.ref a) (.type "list")
 | frz {a:Addr} {o:Obj} {xs:List V} (e:H a=some (.frz o (.lst xs))):TyOf K H (.ref a) (.type "list")
 | tup {a:Addr} {xs:List V} (e:H a=some (.tup xs)):TyOf K H (.ref a) (.type "tuple")
 | dK {a:Addr} {kvs:List (Key×V)} (e:H a=some (.dK kvs)):TyOf K H (.ref a) (.type "dict")
 | dT {a:Addr} {kvs:List (List Key×V)} (e:H a=some (.dT kvs)):TyOf K H (.ref a) (.type "dict")
 | ins {a C dx:Addr} {fs:List (Str×V)} (e:H a=some (.ins C dx fs)) (cl:Cls K C) (ha:findIn K (.ref C) "__class__"=some (some (.builtin "object.__class__")))
   (hn:PySem.W.specialIn K (.builtin "object.__class__") "__get__"=some (some (.builtin "getset_descriptor.__get__")))(htk:PySem.W.takesIn K (.builtin "object.__class__")=some true)
   (hm:PySem.W.mroIn K C (.type "object")=some true):TyOf K H (.ref a) (.ref C)
theorem zacr (I:Inv X pins σ H s) (rx:RelV x u) (ty:TyOf X.K H x t) (e:kitOne X.K t c=some b) (h:∀tk,Q (.bool b) {s with toks:=tk}) :
  wpAny (model X.prog X.w) A (call (.builtin "isinstance") [u,c]) Q E s:=by
 cases ty with
 | non=>cases(show u=Value.none from rx);exact qAb PySem.W.kitx_none I.kIn True.intro e (λz=>nomatch z) h
 | bl y=>cases(show u=Value.bool y from rx);exact qAb PySem.W.kitx_bool I.kIn True.intro e (λz=>nomatch z) h
 | int i=>obtain⟨t,q⟩:=(show ∃t,u=Value.int i t from rx);cases q;exact qAb PySem.W.kitx_int I.kIn True.intro e (λz=>nomatch z) h
 | str y=>obtain⟨t,q⟩:=(show ∃t,u=Value.str y t from rx);cases q;exact qAb PySem.W.kitx_str I.kIn True.intro e (λz=>nomatch z) h
 | flt y=>obtain⟨t,q⟩:=(show ∃t,u=Value.float y t from rx);cases q;exact qAb PySem.W.kitx_float I.kIn True.intro e (λz=>nomatch z) h
 | @lst a xs ea=>
  cases(show u=Value.ref a from rx)
  obtain⟨_,_,n,_,h1⟩:=(show zeq X.prog X.w H s.heap a (.lst xs)from I.hok a _ ea)
  exact qAb qCq I.kIn ⟨_,h1,rfl⟩ e (λz=>nomatch z) h
 | @frz a ob xs ea=>
  cases(show u=Value.ref a from rx)
  obtain⟨_,_,_,n,_,h1⟩:=(show zeq X.prog X.w H s.heap a (.frz ob (.lst xs))from I.hok a _ ea)
  exact qAb qCq I.kIn ⟨_,h1,rfl⟩ e (λz=>nomatch z) h
 | @tup a xs ea=>
  cases(show u=Value.ref a from rx)
  obtain⟨_,_,_,p⟩:=(show zeq X.prog X.w H s.heap a (.tup xs)from I.hok a _ ea)
  obtain⟨o,h1,h2,_⟩:=p
  exact qAb PySem.W.kitx_tuple I.kIn ⟨o,h1,h2⟩ e (λz=>nomatch z) h
 | @dK a kvs ea=>
  cases(show u=Value.ref a from rx)
  obtain⟨_,_,vs,_,p⟩:=(show zeq X.prog X.w H s.heap a (.dK kvs)from I.hok a _ ea)
  obtain⟨o,es,ep,h1,h2,_⟩:=p
  exact qAb qCr I.kIn ⟨o,h1,h2.1⟩ e (λz=>nomatch z) h
 | @dT a kvs ea=>
  cases(show u=Value.ref a from rx)
  obtain⟨_,_,xs,_,o,es,ep,h1,h2,_⟩:=(show zeq X.prog X.w H s.heap a (.dT kvs)from I.hok a _ ea)
  exact qAb qCr I.kIn ⟨o,h1,h2.1⟩ e (λz=>nomatch z) h
 | @ins a C dx fs ea cl ha hn htk hm=>
  cases(show u=Value.ref a from rx)
  obtain⟨mA,O,_⟩:=zalr I.hok ea
  obtain⟨od,J,_⟩:=O.look
  exact qAb (PySem.W.kitx_own (cl.get _) cl.hd ha hn htk hm) I.kIn J e (λz=>nomatch z) h
end
set_option genInjectivity false in
structure Room(k:Nat)(A:Around):Prop where
 hd:A.handled=none
 dp:A.depth+3 * k+5<recursionLimit
 un:A.units+16 * k+200<cLine
 gd:A.guards=some []
theorem Room.mono(r:Room k A)(h:j<=k):Room j A:=⟨r.hd,by have:=r.dp;omega,by have:=r.un;omega,r.gd⟩
theorem Room.deeper{A:Around}(r:Room (k+1) A)(env:Env):Room k (A.deeper env):=
 ⟨r.hd,by have:=r.dp;show A.depth+1+3 * k+5<_;omega,by have:=r.un;show A.units+3+16 * k+200<_;omega,r.gd⟩
theorem Room.depth{A:Around}(r:Room k A):A.depth<recursionLimit:=by have:=r.dp;omega
theorem Room.units{A:Around}(r:Room k A):A.units+64<cLine:=by have:=r.un;omega
noncomputable def tNil:TA:=λ_ H Q=>Q [] H
noncomputable def tCons(ta:TE)(tr:TA):TA:=λσ H Q=>ta σ H λx H1=>tr σ H1 λxs H2=>Q (x::xs) H2
section
variable{X:Cx}{e:Expr}{es:List Expr}{te:TE}{t:TA}{pos:Pos}
theorem zrk:PA X [] tNil:=λ_ _ _ _ H Q I h=>Calls.spliced_nil ⟨[],H,I,.nil,h⟩
theorem zox(ha:PE X e te)(hr:PA X es t)(hs:starEach (e::es) X.env=(false,eval e X.env)::starEach es X.env:=by rfl):PA X (e::es) (tCons te t):=by
 intro pos pins s σ H Q I h
 rw[hs]
 show wpAny _ _ (spliced ((false,eval e X.env)::backTo pos (starEach es X.env))) _ _ s
 refine Calls.spliced_cons (thn (ha pins s σ H _ I h) λu s1 ⟨x,H1,I1,r1,q1⟩=>?_)
 exact thn (hr pos pins s1 σ H1 _ I1 q1) λus s2 ⟨xs,H2,I2,r2,q2⟩=>⟨x::xs,H2,I2,.cons r1 r2,q2⟩
noncomputable def tTup(t:TA):TE:=λσ H Q=>t σ H λxs H1=>xs.length<=qZ/\∀p,H1 p=none->Q (.ref p) (upd H1 p (.tup xs))
noncomputable def tLst(t:TA):TE:=λσ H Q=>t σ H λxs H1=>xs.length<=qZ/\∀p,H1 p=none->Q (.ref p) (upd H1 p (.lst xs))
theorem zaox{x1}(h:PA X es t):PE X (.Tuple es x1 pos) (tTup t):=by
 intro pins s σ H Q I hq
 refine wpAny_Tuple_spliced (thn (h pos pins s σ H _ I hq) λus s1 ⟨xs,H1,I1,r,z,q⟩=>⟨by rw[<- r.length];exact z,?_⟩)
 have hf:H1 s1.heap.objs.size=none:=I1.hok.fresh (qO _)
 refine⟨.ref s1.heap.objs.size,upd H1 s1.heap.objs.size (.tup xs),I1.laid (t':=s1.toks) (λb u e=>qF _ e) (qO _) ?_,rfl,q _ hf⟩
 exact⟨z,us,r,⟨_,qd _ rfl,rfl,_,rfl⟩⟩
theorem zakd(h:PA X es t):PE X (.List es pos) (tLst t):=by
 intro pins s σ H Q I hq
 refine wpAny_List_spliced (thn (h pos pins s σ H _ I hq) λus s1 ⟨xs,H1,I1,r,z,q⟩=>⟨by rw[<- r.length];exact z,?_⟩)
 have hf:H1 s1.heap.objs.size=none:=I1.hok.fresh (qO _)
 refine⟨.ref s1.heap.objs.size,upd H1 s1.heap.objs.size (.lst xs),I1.laid (t':=s1.toks) (λb u e=>qF _ e) (qO _) ?_,rfl,q _ hf⟩
 exact⟨z,us,0,r,qd _ rfl⟩
end
noncomputable abbrev Sp:=List V->Hp->VK->XK->Prop
noncomputable abbrev CXT:=List Env->Hp->Shared->XK->Value->Shared->Prop
set_option genInjectivity false in
structure Env0(P:Program)(w:World)(K:qC)(mg:Str->Option Value)(base:Heap)(A:Around)(outer:List Env)(s:Shared)(H:Hp):Prop where
 frames:A.frames=some outer
 mod:Mod K mg base
 bs:∀b o,base.get? b=some o->s.heap.get? b=some o/\H b=none
 bsz:base.objs.size<=s.heap.objs.size
 funs:s.heap.FunFrames base outer
 frf:∀b∈frs outer,H b=none
 hok:HOk P w H s.heap
 bare:AllBare s.gens
noncomputable def CE(outer:List Env)(P:Program)(w:World)(H:Hp)(s:Shared)(Q:VK)(u:Value)(s':Shared):Prop:=
 ∃v H',s'.os=s.os/\AllBare s'.gens/\Un (frs outer) [] H H' s.heap s'.heap/\HOk P w H' s'.heap/\RelV v u/\Q v H'
noncomputable def CR(CX:CXT)(outer:List Env)(P:Program)(w:World)(H:Hp)(s:Shared)(Q:VK)(E:XK)(r:Result)(s':Shared):Prop:=
 match r with
 | .ok (.ret u)=>CE outer P w H s Q u s'
 | .ok _=>False
 | .error e=>CX outer H s E e s'
set_option genInjectivity false in
structure FnOk(P:Program)(w:World)(K:qC)(mg:Str->Option Value)(base:Heap)(CX:CXT)(k:Nat)(f:Addr)(fd:qx)(ps:List Str)(sp:Sp):Prop where
 len:∀vs H Q E,sp vs H Q E->vs.length=ps.length
 run:∀(A:Around)(outer:List Env)(s:Shared)(H:Hp)(args:Args)(us:List Value)(vs:List V)(Q:VK)(E:XK),Room k A->Env0 P w K mg base A outer s H->BindsTo s fd args (ps.zip us)->Vals vs us->sp vs H Q E->
  codeAny (model P w) A (.call (.ref f) args) (CR CX outer P w H s Q E) s
section
variable{X:Cx}{pins:List (Addr×Obj)}{σ:St}{H:Hp}{s s':Shared}
theorem Inv.env0(I:Inv X pins σ H s):Env0 X.prog X.w X.K X.mg X.base X.A X.stack s H:=
 ⟨I.ok.frames,I.ok.mod,I.bs,qAS I.ok.bsz I.sz,I.stack,I.stkFree,I.hok,I.bare⟩
theorem Inv.after(I:Inv X pins σ H s)(h:CE X.stack X.prog X.w H s Q u s'):EP X pins σ Q u s':=by
 obtain⟨v,H',os,bare,un,hok,r,q⟩:=h
 obtain⟨hh,g,d,t,os'⟩:=s'
 obtain rfl:os'=s.os:=os
 exact⟨v,H',I.call (h':=hh) (g':=g) (d':=d) (t':=t) (ch:=[]) un hok bare (λb z=>absurd z (by simp)),r,q⟩
end
noncomputable def tCall(sp:Sp)(dvs:List V)(E:XK)(t:TA):TE:=λσ H Q=>t σ H λvs H1=>sp (vs++dvs) H1 Q E
noncomputable def zoy(K:qC)(fd:qx)(ps:List Str)(ds:List Value):Prop:=
 ∀(s:Shared)(us:List Value),K.In s.heap->(us++ds).length=ps.length->BindsTo s fd ⟨us,[]⟩ (ps.zip (us++ds))
theorem zoy.all{K:qC}{fd:qx}{ps:List Str}(h:∀us:List Value,us.length=ps.length->bindArgs fd ⟨us,[]⟩=pure (ps.zip us)):zoy K fd ps []:=λs us _ hl=>by
 rw[qr]at hl ⊢
 exact .of_eq (h us hl)
noncomputable def zacs(CX:CXT)(X:Cx)(E:XK):Prop:=∀(pins:List (Addr×Obj))(σ:St)(H:Hp)(s:Shared)(e:Value)(s':Shared),Inv X pins σ H s->CX X.stack H s E e s'->X.xe e s'
section
variable{X:Cx}{CX:CXT}{k:Nat}{f C:Addr}{fd:qx}{ps:List Str}{sp:Sp}{dvs:List V}{ds:List Value}{E:XK}{x m:Str}{p pos apos:Pos}{e o:Expr}{es:List Expr}{ta:TE}{t:TA}
theorem zaoy(F:FnOk X.prog X.w X.K X.mg X.base CX k f fd ps sp)(hr:Room k X.A)(hb:zoy X.K fd ps ds)(hd:Vals dvs ds)(hx:zacs CX X E)
  (I:Inv X pins σ H s) (r:Vals vs us) (h:sp (vs++dvs) H Q E):wpAny (model X.prog X.w) X.A (call (.ref f) us) (EP X pins σ Q) X.xe s:=by
 have r2:Vals (vs++dvs) (us++ds):=r.append hd
 have hl:(us++ds).length=ps.length:=by rw[<- r2.length];exact F.len _ _ _ _ h
 refine wpAny_call (qBv (F.run X.A X.stack s H ⟨us,[]⟩ (us++ds) (vs++dvs) Q E hr I.env0 (hb s us I.kIn hl) r2 h) λr s' hq=>?_)
 cases r with
 | error e=>exact hx pins σ H s e s' I hq
 | ok fl=>
  cases fl with
  | ret u=>exact I.after hq
  | next=>exact False.elim hq
  | brk=>exact False.elim hq
  | cont=>exact False.elim hq
theorem zals(F:FnOk X.prog X.w X.K X.mg X.base CX k f fd ps sp)(hr:Room k X.A)(hg:Gl X x)(hm:X.mg x=some (.ref f))(hk:qBN X.K (.ref f)=true)(hb:zoy X.K fd ps ds)(hd:Vals dvs ds)(hx:zacs CX X E)
  (ha:PA X (e::es) t)(hdb:(x==("__debug__":Str))=false:=by decide)(he:starEach (e::es) X.env=(false,eval e X.env)::starEach es X.env:=by rfl)(hpl:(backTo pos (starEach es X.env)).any (·.1)=false:=by rfl) :
  PE X (.Call (.Name x p) (e::es) [] pos) (tCall sp dvs E t):=by
 intro pins s σ H Q I h
 refine qCB (zalh I hg hm ?_ hdb)
 refine PySem.W.callWith_K (h₀:=X.base) I.ok.mod.kin hk (thn (ha pos pins s σ H _ I h) λus s1 ⟨vs,H1,I1,r,q⟩=>⟨I1.kIn,?_⟩) he hpl
 exact zaoy F hr hb hd hx I1 r q
set_option genInjectivity false in
end
section
variable{X:Cx}{CX:CXT}{k:Nat}{f C:Addr}{fd:qx}{ps ks:List Str}{sp:Sp}{E:XK}{x m:Str}{p pos apos kpos:Pos}{e o:Expr}{es:List Expr}{kws:List Keyword}{te ta:TE}{t tk:TA}{nm:Option Str}
set_option genInjectivity false in
variable{g:List Value->List Value->List Value}{gV:List V->List V->List V}
end
set_option genInjectivity false in
structure FnScope(N P:List Str)(sc:Scope):Prop where
 kind:sc.kind=.function
 co:sc.isCoroutine=false
 gen:sc.isGenerator=false
 nd:N.Nodup
 pre:N.take P.length=P
 par:∀x∈P,sc.names.lookup x=some .local\/sc.names.lookup x=some .cell
 nofree:∀y∈sc.names,y.2≠.free
theorem zul{kindOf:Str->Option NameKind}:∀{binds:List (Str×Value)}{m:Str->Option Value},(∀v,(x,v)∉binds)->bindL kindOf binds m x=m x
 | [],_,_=>rfl
 | (n,v)::r,m,h=>by
  unfold bindL
  rw[zul λw hw=>h w (qQ _ hw)]
  split
  ·have:x≠n:=by rintro rfl;exact h v qb
   simp[this]
  ·rfl
theorem zum{kindOf:Str->Option NameKind}:∀{binds:List (Str×Value)}{m:Str->Option Value},(∀v,(x,v)∉binds)->bindC kindOf binds m x=m x
 | [],_,_=>rfl
 | (n,v)::r,m,h=>by
  unfold bindC
  rw[zum λw hw=>h w (qQ _ hw)]
  split
  ·rfl
  ·have:x≠n:=by rintro rfl;exact h v qb
   simp[this]
theorem zun{kindOf:Str->Option NameKind}:∀{P:List Str}{vs:List Value}{i:Nat}{m:Str->Option Value},P.Nodup->P[i]?=some x->vs[i]?=some v->kindOf x=some .local->
  bindL kindOf (P.zip vs) m x=some v
 | [],_,_,_,_,h,_,_=>by simp at h
 | _::_,[],_,_,_,_,h,_=>by simp at h
 | p::P,w::vs,0,m,nd,h1,h2,hk=>by
  simp at h1 h2;subst h1;subst h2
  show bindL kindOf ((p,w)::P.zip vs) m p=_
  unfold bindL
  rw[zul λv hv=>(qo.mp nd).1 (qA9 hv).1,if_pos hk]
  simp
 | p::P,w::vs,i+1,m,nd,h1,h2,hk=>by
  show bindL kindOf ((p,w)::P.zip vs) m x=_
  unfold bindL
  exact zun (i:=i) (qo.mp nd).2 (by simpa using h1) (by simpa using h2) hk
theorem zuo{kindOf:Str->Option NameKind}:∀{P:List Str}{vs:List Value}{i:Nat}{m:Str->Option Value},P.Nodup->P[i]?=some x->vs[i]?=some v->kindOf x≠some .local->
  bindC kindOf (P.zip vs) m x=some v
 | [],_,_,_,_,h,_,_=>by simp at h
 | _::_,[],_,_,_,_,h,_=>by simp at h
 | p::P,w::vs,0,m,nd,h1,h2,hk=>by
  simp at h1 h2;subst h1;subst h2
  show bindC kindOf ((p,w)::P.zip vs) m p=_
  unfold bindC
  rw[zum λv hv=>(qo.mp nd).1 (qA9 hv).1,if_neg hk]
  simp
 | p::P,w::vs,i+1,m,nd,h1,h2,hk=>by
  show bindC kindOf ((p,w)::P.zip vs) m x=_
  unfold bindC
  exact zuo (i:=i) (qo.mp nd).2 (by simpa using h1) (by simpa using h2) hk
noncomputable def start(N:List Str)(vs:List V):St:=vs.map some++List.replicate (N.length - vs.length) none
noncomputable def cxOf(CX:CXT)(P:Program)(w:World)(K:qC)(mg:Str->Option Value)(base:Heap)(N:List Str)(qual:Str)(scope:Scope)(f:Addr)(cd:Value)(A:Around)(outer:List Env)(s:Shared)(H:Hp)(E:XK):Cx where
 prog:=P
 w:=w
 K:=K
 mg:=mg
 base:=base
 A:=A.deeper (envOfC qual scope s.heap.objs.size f cd)
 N:=N
 s₀:=s
 H₀:=H
 env:=envOfC qual scope s.heap.objs.size f cd
 outer:=outer
 stack:=envOfC qual scope s.heap.objs.size f cd::outer
 ex:=[]
 calm:=true
 fn:=λ_=>true
 pn:=[]
 xe:=λe s'=>wpAny (model P w) (A.deeper (envOfC qual scope s.heap.objs.size f cd)) (leaving (envOfC qual scope s.heap.objs.size f cd) e) (λ_ s''=>CX outer H s E e s'') (λe' s''=>CX outer H s E e' s'') s'
theorem zsk{sc:Scope}(h:sc.names.lookup x=some .cell):∃c,(cellsFrom n sc.names []).lookup x=some c:=by
 have q:=qCR sc.names n [] (.inl h)
 exact Option.isSome_iff_exists.mp q
theorem zact{CX:CXT}{P:Program}{w:World}{K:qC}{mg:Str->Option Value}{base:Heap}{N ps:List Str}{qual:Str}{scope:Scope}{f:Addr}{cd:Value}{A:Around}{outer:List Env}{s s1:Shared}{H:Hp}{E:XK}{us:List Value}{vs:List V}
  (S:FnScope N ps scope)(hd:A.handled=none)(e0:Env0 P w K mg base A outer s H)(hl:vs.length=ps.length)(r:Vals vs us)
  (x:InCallC s s.heap.objs.size (bindL (envOfC qual scope s.heap.objs.size f cd).kindOf (ps.zip us) λ_=>none) (cellsFrom (s.heap.objs.size+1) scope.names []) (bindC (envOfC qual scope s.heap.objs.size f cd).kindOf (ps.zip us) λ_=>none) s1) :
  Inv (cxOf CX P w K mg base N qual scope f cd A outer s H E) [] (start N vs) H s1:=by
 have hpl:ps.length<=N.length:=by have:=congrArg List.length S.pre;rw[qAk]at this;omega
 obtain⟨h1,tk,rfl,hk⟩:=x.done
 have noA:∀b:Addr,b∉(cxOf CX P w K mg base N qual scope f cd A outer s H E).ex:=λb z=>absurd (show b∈([]:List Addr)from z) (by simp)
 refine⟨⟨e0.mod,S.kind,rfl,rfl,qO _,λy z c h1 h2=>?_,λy hy=>?_,λy c _ h=>?_,λ_=>hd,Around.frames_deeper e0.frames,.inr ⟨rfl,rfl⟩,λb z=>absurd z (noA b),e0.bs,e0.bsz,λb _ _=>noA b,λb z=>absurd z (noA b),e0.funs,e0.frf⟩,
  rfl,e0.bare,Un.kept hk,⟨_,x.toInCall.ns,λi y v h1 h2 h3=>?_⟩,λy c h=>⟨_,x.cell y c h⟩,e0.hok.fresh (qO _),λy c h=>?_,λp hp=>absurd (show p∈([]:List (Addr×Obj))from hp) (by simp),e0.hok.kept hk,?_⟩
 ·exact name_of_addr x.apart (qAM h1) (qAM h2)
 ·have hy:scope.names.lookup y=some .cell\/scope.names.lookup y=some .free:=hy
  rcases hy with hy|hy
  ·exact zsk hy
  ·exact absurd rfl (S.nofree _ (qAM hy))
 ·exact qCt (x.above y c (qAM h))
 ·have hi:i<vs.length:=by
   unfold start at h2
   by_cases hi:i<vs.length
   ·exact hi
   ·rw[qH (by simpa using hi)]at h2
    rw[qAc]at h2
    split at h2<;>cases h2
  have ha:vs[i]?=some v:=by
   unfold start at h2
   rw[qI (by simpa using hi),qS]at h2
   cases e:vs[i]? with
   | none=>rw[e]at h2;cases h2
   | some a=>rw[e]at h2;cases h2;rfl
  obtain⟨u,hu,rv⟩:=r.get ha
  have hp:ps[i]?=some y:=by
   rw[<- S.pre,List.getElem?_take_of_lt (by omega)];exact h1
  have ndP:ps.Nodup:=by rw[<- S.pre];exact S.nd.sublist (qBz _ _)
  refine⟨u,rv,?_⟩
  rcases S.par y (qj hp)with k|k
  ·exact .inl ⟨k,zun ndP hp hu k⟩
  ·obtain⟨c,e⟩:=zsk (n:=s.heap.objs.size+1) k
   refine .inr ⟨.inl k,c,e,?_⟩
   have q:=x.cell y c e
   rw[zuo ndP hp hu (by show scope.names.lookup y≠_;rw[k];decide)]at q
   exact q
 ·exact e0.hok.fresh (qCt (x.above y c (qAM h)))
 ·unfold start
  show _=N.length
  rw[qJ,qD,qAa]
  omega
theorem zarq{CX:CXT}{P:Program}{w:World}{K:qC}{mg:Str->Option Value}{base:Heap}{k:Nat}{f:Addr}{name qual:Str}{params:Arguments}{body:List Stmt}{scope:Scope}{dV kV doc pm cdv ct oc:Value}{an od:Option Addr}
  {osl:Array (Option Value)}{N ps:List Str}{sp:Sp}(lk:K.lookup f=some ⟨oc,od,.func (qAh name qual params body scope dV kV doc pm an cdv ct),osl⟩)(hcd:qBg K cdv qual=true)(S:FnScope N ps scope)
  (len:∀vs H Q E,sp vs H Q E->vs.length=ps.length)
  (hbody:∀(A:Around)(outer:List Env)(s:Shared)(H:Hp)(vs:List V)(Q:VK)(E:XK),Room k (A.deeper (envOfC qual scope s.heap.objs.size f cdv))->sp vs H Q E->
   ∃t,PSs (cxOf CX P w K mg base N qual scope f cdv A outer s H E) body t/\t {nx:=λ_ H'=>Q .non H',rt:=Q} (start N vs) H) :
  FnOk P w K mg base CX (k+1) f (qAh name qual params body scope dV kV doc pm an cdv ct) ps sp:=by
 refine⟨len,λA outer s H args us vs Q E hr e0 hb r hsp=>?_⟩
 have hl:=len _ _ _ _ hsp
 have KX:K.In s.heap:=e0.mod.kin.keeps λb o e=>(e0.bs b o e).1
 have lim:s.heap.NoLimit:=e0.mod.nolimit.keeps λb o e=>(e0.bs b o e).1
 have hkind:∀y∈ps.zip us,scope.names.lookup y.1=some .local\/(scope.names.lookup y.1=some .cell/\((cellsFrom (s.heap.objs.size+1) scope.names []).lookup y.1).isSome=true):=λ⟨n,v⟩ hy=>by
  rcases S.par n (qA9 hy).1 with q|q
  ·exact .inl q
  ·exact .inr ⟨q,qCR _ _ _ (.inl q)⟩
 refine codeAny_call_function hr.depth (KX _ _ lk) rfl S.co S.gen rfl (PySem.W.codeRec_of KX hcd) (hb _ _ _ _ ?_)
 refine wpAny_newFunctionEnv_cells S.kind hkind λenv he s1 x=>?_
 subst he
 refine⟨lim.keeps x.toInCall.keep,codeAny_func ?_⟩
 obtain⟨t,ht,hq⟩:=hbody A outer s H vs Q E (hr.deeper _) hsp
 have I:Inv (cxOf CX P w K mg base N qual scope f cdv A outer s H E) [] (start N vs) H s1:=zact S hr.hd e0 hl r x
 refine qBf (ht [] s1 (start N vs) H _ I hq) (λfl s' hs=>?_) λe s' hs=>hs
 have fin:∀{σ':St}{H':Hp}{v:V}{u:Value},Inv (cxOf CX P w K mg base N qual scope f cdv A outer s H E) [] σ' H' s'->RelV v u->Q v H'->CE outer P w H s Q u s':=
  λ{σ' H' v u} J rv q=>⟨v,H',J.os,J.bare,J.base,J.hok,rv,q⟩
 cases fl with
 | ret u=>
  obtain⟨v,σ',H',J,rv,q⟩:=hs
  exact fin J rv q
 | next=>
  obtain⟨σ',H',J,q⟩:=hs
  exact fin (v:=V.non) (u:=Value.none) J rfl q
 | brk=>
  obtain⟨_,_,_,q⟩:=hs
  exact False.elim q
 | cont=>
  obtain⟨_,_,_,q⟩:=hs
  exact False.elim q
section
variable{X:Cx}{x:Str}{p pos:Pos}{e:Expr}{es:List Expr}{t:TA}{id T:String}{r:List V->Hp->VK->Prop}
noncomputable def tCB(r:List V->Hp->VK->Prop)(t:TA):TE:=λσ H Q=>t σ H λvs H1=>r vs H1 Q
theorem zzk(hc:CallR X (.builtin id) r)(hg:Gl X x)(hm:X.mg x=none)(hv:bootBuiltins x=some (.builtin id))(ha:PA X (e::es) t)(hn:x≠"__name__":=by decide)(hdb:(x==("__debug__":Str))=false:=by decide)
  (he:starEach (e::es) X.env=(false,eval e X.env)::starEach es X.env:=by rfl) (hpl:(backTo pos (starEach es X.env)).any (·.1)=false:=by rfl):PE X (.Call (.Name x p) (e::es) [] pos) (tCB r t):=by
 intro pins s σ H Q I h
 refine qCB (zrh I hg hm hv ?_ hn hdb)
 exact PyProof.Rows.callWith_builtin1 (thn (ha pos pins s σ H _ I h) λus s1 ⟨vs,H1,I1,r1,q1⟩=>hc pins s1 σ H1 vs us Q I1 r1 q1) he hpl
theorem zacu(hc:CallR X (.type T) r)(hg:Gl X x)(hm:X.mg x=none)(hv:bootBuiltins x=some (.type T))(ha:PA X (e::es) t)(hn:x≠"__name__":=by decide)(hdb:(x==("__debug__":Str))=false:=by decide)
  (he:starEach (e::es) X.env=(false,eval e X.env)::starEach es X.env:=by rfl) (hpl:(backTo pos (starEach es X.env)).any (·.1)=false:=by rfl):PE X (.Call (.Name x p) (e::es) [] pos) (tCB r t):=by
 intro pins s σ H Q I h
 refine qCB (zrh I hg hm hv ?_ hn hdb)
 exact qBB (thn (ha pos pins s σ H _ I h) λus s1 ⟨vs,H1,I1,r1,q1⟩=>hc pins s1 σ H1 vs us Q I1 r1 q1) he hpl
end
end L2
namespace HT
open PySem PyProof.Rows
section
open PySem.SeqAt
open PySem.AutoSeq1 (wpAny_loadPart')
open PySem.MeetsSeq PySem.MeetsSeq2 PySem.MeetsSeq3
end
section
variable{prog:Program}{w:World}{A:Around}{E:Value->Shared->Prop}{s:Shared}
theorem cat_tup{vs ws:List Value}{Q:Value->Shared->Prop}(ht:IsTup s.heap t vs.toArray)(hb:IsTup s.heap b ws.toArray)(hv:vs≠[])
  (h1:ws=[]->Q (.ref t) s) (h2:ws≠[]->Q (.ref s.heap.objs.size) {s with heap:=s.heap.push {cls:=.type "tuple",data:=.seq (vs++ws).toArray}})
  (hsz:vs.length+ws.length<=qZ):wpAny (model prog w) A (binaryOp .Add (.ref t) (.ref b)) Q E s:=by
 obtain⟨⟨cls,dd,data,sl⟩,ho,hc,n,hd⟩:=id ht
 obtain⟨⟨cls2,dd2,data2,sl2⟩,ho2,hc2,n2,hd2⟩:=id hb
 simp only at hc hd hc2 hd2
 subst hc hd hc2 hd2
 have e:vs.toArray++ws.toArray=(vs++ws).toArray:=by simp
 by_cases hw:ws=[]
 ·exact concat_meets ⟨_,ho,rfl⟩ ⟨_,ho2,rfl⟩ noFill_tuple_add seq_tuple_add qCS qCO (qCG _ _)
   (tuple_addW1 t b vs.toArray ws.toArray n n2 dd dd2 sl sl2 (by simpa using hv) (by simp[hw])) ⟨ho,ho2,h1 hw⟩
 ·refine concat_meets ⟨_,ho,rfl⟩ ⟨_,ho2,rfl⟩ noFill_tuple_add seq_tuple_add qCS qCO (qCG _ _)
   (tuple_addW2 t b vs.toArray ws.toArray n n2 dd dd2 sl sl2 (by simpa using hv) (by simpa using hw) (by rw[qU,qU];exact hsz)) ⟨ho,ho2,?_⟩
  rw[e]
  exact h2 hw
noncomputable def sIx(n d:Nat):Option Int->Nat
 | none=>d
 | some v=>if v<0 then(v+(n:Int)).toNat else min v.toNat n
theorem sIx_nat(n d k:Nat):sIx n d (some (k:Int))=min k n:=by
 show(if(k:Int)<0 then((k:Int)+(n:Int)).toNat else min (k:Int).toNat n)=min k n
 rw[if_neg (by omega),qBE]
end
end HT
namespace L2
open PySem PySem.Spec PyProof.Rows
noncomputable abbrev TO:=St->Hp->(Option Int->Hp->Prop)->Prop
noncomputable def PO(X:Cx)(e:Option Expr)(t:TO):Prop:=
 ∀(pins:List (Addr×Obj))(s:Shared)(σ:St)(H:Hp)(Q:Option Int->Hp->Prop),Inv X pins σ H s->t σ H Q->
  wpAny (model X.prog X.w) X.A (evalPart e X.env) (λu s'=>∃o H',Inv X pins σ H' s'/\IsPart u o/\Q o H') X.xe s
noncomputable def tNoPart:TO:=λ_ H Q=>Q none H
noncomputable def tPart(t:TE):TO:=λσ H Q=>t σ H λx H1=>∃i,x=.int i/\Q (some i) H1
section
variable{X:Cx}{e:Expr}{te:TE}{lo hi:Option Expr}{tl th:TO}{pos p2:Pos}
theorem zacv:PO X none tNoPart:=by
 intro pins s σ H Q I h
 rw[evalPart_none]
 exact qi ⟨none,H,I,.none,h⟩
theorem zacw(h:PE X e te):PO X (some e) (tPart te):=by
 intro pins s σ H Q I hw
 rw[evalPart_some]
 refine thn (h pins s σ H _ I hw) λu s1 ⟨x,H1,I1,r1,q1⟩=>?_
 obtain⟨i,rfl,q⟩:=q1
 obtain⟨t,rfl⟩:=r1
 exact⟨some i,H1,I1,.int i t,q⟩
noncomputable def SlR(X:Cx)(r:V->Option Int->Option Int->Hp->VK->Prop):Prop:=
 ∀(pins:List (Addr×Obj))(s:Shared)(σ:St)(H:Hp)(x:V)(v vl vu:Value)(lo hi:Option Int)(sl:Addr)(Q:VK),Inv X pins σ H s->RelV x v->s.heap.IsSliceOf sl vl vu .none->IsPart vl lo->IsPart vu hi->r x lo hi H Q->
  ∃T id,typeLookup (.type T) "__getitem__"=pure (some (.builtin id))/\s.TypeIs v T/\wpAny (model X.prog X.w) X.A (getItem v (.ref sl)) (EP X pins σ Q) X.xe s
noncomputable def tSl(r:V->Option Int->Option Int->Hp->VK->Prop)(te:TE)(tl th:TO):TE:=λσ H Q=>te σ H λx H1=>tl σ H1 λl H2=>th σ H2 λu H3=>r x l u H3 Q
theorem zzl{r:V->Option Int->Option Int->Hp->VK->Prop}(hr:SlR X r)(he:PE X e te)(hl:PO X lo tl)(hu:PO X hi th):PE X (.Subscript e (.Slice lo hi none p2) pos) (tSl r te tl th):=by
 intro pins s σ H Q I h
 refine Subscript_ (thn (he pins s σ H _ I h) λv s1 ⟨x,H1,I1,r1,q1⟩=>?_)
 refine wpAny_Slice (thn (hl pins s1 σ H1 _ I1 q1) λvl s2 ⟨l,H2,I2,pl,q2⟩=>thn (hu pins s2 σ H2 _ I2 q2) λvu s3 ⟨u,H3,I3,pu,q3⟩=>?_)
 rw[evalPart_none]
 refine qi ?_
 have I4:Inv X pins σ H3 {s3 with heap:=s3.heap.push {cls:=.type "slice",data:=.fields #[vl,vu,.none]}}:=I3.kept (t':=s3.toks) λb ob q=>qF _ q
 obtain⟨T,id,hT,ht,hg⟩:=hr pins {s3 with heap:=s3.heap.push {cls:=.type "slice",data:=.fields #[vl,vu,.none]}} σ H3 x v vl vu l u s3.heap.objs.size Q I4 r1 (Heap.IsSliceOf.new ..) pl pu q3
 show wpAny (model X.prog X.w) X.A (subscriptTail e (.Slice lo hi none p2) v (.ref s3.heap.objs.size)) (EP X pins σ Q) X.xe {s3 with heap:=s3.heap.push {cls:=.type "slice",data:=.fields #[vl,vu,.none]}}
 exact tail_any (ops:=[.ref s3.heap.objs.size,v]) ht hT hg (by with_unfolding_all rfl)
noncomputable def cutV(xs:List V)(lo hi:Option Int):List V:=(xs.drop (HT.sIx xs.length 0 lo)).take (HT.sIx xs.length xs.length hi - HT.sIx xs.length 0 lo)
theorem zxo(xs:List V)(lo hi:Option Int):(cutV xs lo hi).length<=xs.length:=by
 unfold cutV
 rw[qAk,qAl]
 omega
noncomputable def zaoz(K:qC):R2:=λx y H Q=>∃a b xs ys,x=.ref a/\y=.ref b/\SqT K H a xs/\SqT K H b ys/\xs≠[]/\xs.length+ys.length<=qZ/\
 (ys=[]->Q (.ref a) H)/\(ys≠[]->∀p,H p=none->Q (.ref p) (upd H p (.tup (xs++ys))))
theorem Vals.nil_iff(r:Vals xs us):us=[]↔xs=[]:=by
 cases r with
 | nil=>simp
 | cons _ _=>simp
theorem zalt:OpR X (binaryOp .Add) (zaoz X.K):=by
 intro pins s σ H x y v u Q I rx ry h
 obtain⟨a,b,xs,ys,rfl,rfl,ha,hb,hx,hz,q1,q2⟩:=h
 cases rx
 cases ry
 obtain⟨its,r1,p1,_⟩:=I.tuple ha
 obtain⟨its2,r2,p2,_⟩:=I.tuple hb
 refine HT.cat_tup p1 p2 (λz=>hx (r1.nil_iff.mp z)) (λz=>⟨.ref a,H,I,rfl,q1 (r2.nil_iff.mp z)⟩) (λz=>?_) (by rw[<- r1.length,<- r2.length];exact hz)
 refine⟨.ref s.heap.objs.size,_,I.laid (t':=s.toks) (o:=.tup (xs++ys)) (λb ob q=>qF _ q) (qO _) ?_,rfl,q2 (λw=>z (r2.nil_iff.mpr w)) _ (I.hok.fresh (qO _))⟩
 exact⟨by rw[qJ];exact hz,_,r1.append r2,IsTup.new _ _⟩
end
noncomputable def ixN(n:Nat)(i:Int):Option Nat:=if 0<=i then(if i<n then some i.toNat else none)else if -(n:Int)<=i then some (i+n).toNat else none
noncomputable def atI{α:Type}(xs:List α)(i:Int):Option α:=(ixN xs.length i).bind λj=>xs[j]?
theorem zacx(h:ixN n i=some j):seqIndex? i n=some j/\j<n/\-(n:Int)<=i/\i<n:=by
 unfold ixN at h
 by_cases h0:0<=i
 ·rw[if_pos h0]at h
  by_cases h1:i<n
  ·rw[if_pos h1]at h
   have e:i.toNat=j:=qe h
   exact⟨by rw[seqIndex_of h0 h1,e],by omega,by omega,h1⟩
  ·rw[if_neg h1]at h;cases h
 ·rw[if_neg h0]at h
  by_cases h1:-(n:Int)<=i
  ·rw[if_pos h1]at h
   have e:(i+n).toNat=j:=qe h
   exact⟨by rw[seqIndex_neg (by omega) h1,e],by omega,h1,by omega⟩
  ·rw[if_neg h1]at h;cases h
theorem zxp{xs:List α}(h:atI xs i=some v):∃j,seqIndex? i xs.length=some j/\xs[j]?=some v/\j<xs.length/\-(xs.length:Int)<=i/\i<xs.length:=by
 unfold atI at h
 cases e:ixN xs.length i with
 | none=>rw[e]at h;cases h
 | some j=>
  rw[e]at h
  obtain⟨h1,h2,h3,h4⟩:=zacx e
  exact⟨j,h1,h,h2,h3,h4⟩
theorem zki{α:Type}{xs:List α}{j:Nat}{v:α}(h:xs[j]?=some v):atI xs (j:Int)=some v:=by
 have hj:j<xs.length:=(qK.mp h).1
 have e:ixN xs.length (j:Int)=some j:=by
  unfold ixN
  rw[if_pos (by omega),if_pos (by omega)];simp
 unfold atI;rw[e];exact h
noncomputable def PlainIx(b:Expr):Prop:=∀o i,subscripted b false o i=operate [o,i] (getItem o i)
noncomputable def IxR(X:Cx)(r:R2):Prop:=
 ∀(value slice:Expr)(pins:List (Addr×Obj))(s:Shared)(σ:St)(H:Hp)(x y:V)(v u:Value)(Q:VK),Inv X pins σ H s->RelV x v->RelV y u->r x y H Q->
  subscripted slice false v u=operate [v,u] (getItem v u)->wpAny (model X.prog X.w) X.A (subscriptTail value slice v u) (EP X pins σ Q) X.xe s
noncomputable def MtR(X:Cx)(id:String)(r:V->List V->Hp->VK->Prop):Prop:=
 ∀(pins:List (Addr×Obj))(s:Shared)(σ:St)(H:Hp)(x:V)(xs:List V)(v:Value)(us:List Value)(Q:VK),Inv X pins σ H s->RelV x v->Vals xs us->r x xs H Q->
  wpAny (model X.prog X.w) X.A (call (.builtin id) (v::us)) (EP X pins σ Q) X.xe s
section
variable{X:Cx}{a b:Expr}{ta tb:TE}{pos:Pos}
theorem zapa(hr:IxR X r)(ha:PE X a ta)(hb:PE X b tb)(hs:PlainIx b):PE X (.Subscript a b pos) (tOp r ta tb):=by
 intro pins s σ H Q I h
 exact Subscript_ (binT ha hb I h λv u s2 x y H2 I2 rx ry q=>hr a b pins s2 σ H2 x y v u Q I2 rx ry q (hs _ _))
noncomputable def rIxL(K:qC):R2:=λx y H Q=>∃p xs i v,x=.ref p/\y=.int i/\SqL K H p xs/\atI xs i=some v/\Q v H
noncomputable def rIxT(K:qC):R2:=λx y H Q=>∃p xs i v,x=.ref p/\y=.int i/\SqT K H p xs/\atI xs i=some v/\Q v H
noncomputable def rIxS:R2:=λx y H Q=>∃z i c,x=.str z/\y=.int i/\z.length<=qZ/\atI z.cps.toList i=some c/\Q (.str ⟨#[c]⟩) H
theorem zalu:IxR X (rIxL X.K):=by
 intro value slice pins s σ H x y v u Q I rx ry h hs
 obtain⟨p,xs,i,z,rfl,rfl,hq,he,q⟩:=h
 cases rx
 obtain⟨t,rfl⟩:=ry
 obtain⟨its,r,pl,hz⟩:=I.list hq
 obtain⟨j,h1,h2,h3,h4,h5⟩:=zxp he
 obtain⟨w,ew,rw'⟩:=r.get h2
 have hl:=r.length
 have hn:=zuk
 have fin:EP X pins σ Q w s:=⟨z,H,I,rw',q⟩
 by_cases h0:0<=i
 ·have hj:i.toNat=j:=by
   rw[seqIndex_of h0 h5]at h1
   exact qe h1
  exact item_listR pl.isList h0 (by omega) (by rw[hj];simpa using ew) fin hs
 ·have hj:(i+(its.toArray.size:Int)).toNat=j:=by
   rw[seqIndex_neg (by omega) h4]at h1
   rw[qU,<- hl]
   exact qe h1
  exact subscriptTail_builtinR (x:=w) pl.isList.typeIs slot_list_getitem.lookup
   (wpAny_getItem_list_neg (Q:=λr s'=>r=w/\EP X pins σ Q r s') pl.isList (by omega) (by rw[qU]<;>omega) (by omega) (by rw[hj];simpa using ew) ⟨rfl,fin⟩) hs
theorem zapb:IxR X (rIxT X.K):=by
 intro value slice pins s σ H x y v u Q I rx ry h hs
 obtain⟨p,xs,i,z,rfl,rfl,hq,he,q⟩:=h
 cases rx
 obtain⟨t,rfl⟩:=ry
 obtain⟨its,r,pl,hz⟩:=I.tuple hq
 obtain⟨j,h1,h2,h3,h4,h5⟩:=zxp he
 obtain⟨w,ew,rw'⟩:=r.get h2
 have hl:=r.length
 have hn:=zuk
 have fin:EP X pins σ Q w s:=⟨z,H,I,rw',q⟩
 exact subscriptTail_builtinR (x:=w) pl.typeIs slot_tuple_getitem.lookup
  (getItem_tuple (j:=j) (Q:=λr s'=>r=w/\EP X pins σ Q r s') pl (by omega) (by omega) (by rw[qU,<- hl];exact h1) (by simpa using ew) ⟨rfl,fin⟩) hs
theorem zapc:IxR X rIxS:=by
 intro value slice pins s σ H x y v u Q I rx ry h hs
 obtain⟨z,i,c,rfl,rfl,hz,he,q⟩:=h
 obtain⟨t,rfl⟩:=rx
 obtain⟨t',rfl⟩:=ry
 obtain⟨j,h1,h2,h3,h4,h5⟩:=zxp he
 have hl:z.cps.toList.length=z.length:=by simp[Str.length]
 rw[hl]at h1 h4 h5
 have hn:=zuk
 exact tail_any (typeIs_str s z t) slot_str_getitem.lookup (getItem_str (c:=c) (by
  have e1:decide (i < -(2 ^ 63:Int))=false:=decide_eq_false (by omega)
  have e2:decide (i>=2 ^ 63)=false:=decide_eq_false (by omega)
  rw[e1,e2,Bool.or_false]) (by rw[h1];simpa using h2) ⟨.str ⟨#[c]⟩,H,I.tok _,⟨_,rfl⟩,q⟩) hs
theorem zup(lo hi:Option Int)(n:Nat):(sliceBounds lo hi none n).1=((HT.sIx n 0 lo:Nat):Int)/\(sliceBounds lo hi none n).2.1=((HT.sIx n n hi:Nat):Int)/\(sliceBounds lo hi none n).2.2=1:=by
 refine⟨?_,?_,rfl⟩
 ·cases lo with
  | none=>simp[sliceBounds,HT.sIx]
  | some i=>
   simp only[sliceBounds,HT.sIx,Option.getD_none,show(1:Int) > 0 by decide,if_true]
   by_cases h:i<0
   ·simp only[h,if_true]<;>omega
   ·simp only[h,if_false]<;>omega
 ·cases hi with
  | none=>simp[sliceBounds,HT.sIx]
  | some i=>
   simp only[sliceBounds,HT.sIx,Option.getD_none,show(1:Int) > 0 by decide,if_true]
   by_cases h:i<0
   ·simp only[h,if_true]<;>omega
   ·simp only[h,if_false]<;>omega
theorem zsl(its:List Value)(lo hi:Option Int):slicePick its.toArray lo hi none=((its.drop (HT.sIx its.length 0 lo)).take (HT.sIx its.length its.length hi - HT.sIx its.length 0 lo)).toArray:=by
 obtain⟨h1,h2,h3⟩:=zup lo hi its.toArray.size
 unfold slicePick
 rw[h1,h2,h3]
 simp only[sliceRange_one,pick_run,qU]<;>rfl
noncomputable def rSlL(K:qC):V->Option Int->Option Int->Hp->VK->Prop:=λx lo hi H Q=>∃a xs,x=.ref a/\SqL K H a xs/\∀p,H p=none->Q (.ref p) (upd H p (.lst (cutV xs lo hi)))
theorem zalv:SlR X (rSlL X.K):=by
 intro pins s σ H x v vl vu lo hi sl Q I rx hs pl pu h
 obtain⟨a,xs,rfl,hx,q⟩:=h
 cases rx
 obtain⟨its,r,ht,hz⟩:=I.list hx
 have hlen:=r.length
 refine⟨"list",_,slot_list_getitem.lookup,ht.isList.typeIs,?_⟩
 refine wpAny_getItem_list_slice ht.isList hs pl pu .none (by simp) ?_ (by rw[qU]<;>omega)
 rw[zsl,<- hlen]
 refine⟨.ref s.heap.objs.size,_,I.laid (t':=s.toks) (o:=.lst (cutV xs lo hi)) (λb ob q=>qF _ q) (qO _) ?_,rfl,q _ (I.hok.fresh (qO _))⟩
 exact⟨qAS (zxo xs lo hi) hz,_,0,(r.drop (HT.sIx xs.length 0 lo)).take (HT.sIx xs.length xs.length hi - HT.sIx xs.length 0 lo),qd _ rfl⟩
noncomputable def zqx:V->Bool
 | .non=>true
 | .bl _=>true
 | .int _=>true
 | .str _=>true
 | _=>false
noncomputable def eqV:V->V->Bool
 | .non,.non=>true
 | .bl a,.bl b=>a==b
 | .bl a,.int b=>(if a then 1 else 0)==b
 | .int a,.bl b=>a==(if b then 1 else 0)
 | .int a,.int b=>a==b
 | .str a,.str b=>a==b
 | _,_=>false
theorem zapd(ry:RelV y u)(rx:RelV x v)(fy:zqx y=true)(fx:zqx x=true):SeqAt.EqAt A s u v (eqV y x):=by
 cases y with
 | non=>
  cases ry
  cases x with
  | non=>cases rx;exact SeqAt.EqAt.same _
  | bl b=>cases rx;exact SeqAt.EqAt.none_bool b
  | int b=>obtain⟨t,rfl⟩:=rx;exact SeqAt.EqAt.none_int b t
  | str b=>obtain⟨t,rfl⟩:=rx;exact SeqAt.EqAt.none_str b t
  | _=>exact absurd (show false=true from fx) qT
 | bl a=>
  cases ry
  cases x with
  | non=>cases rx;exact SeqAt.EqAt.bool_none a
  | bl b=>cases rx;exact SeqAt.EqAt.bool_bool a b
  | int b=>obtain⟨t,rfl⟩:=rx;exact SeqAt.EqAt.bool_int a b t
  | str b=>obtain⟨t,rfl⟩:=rx;exact SeqAt.EqAt.bool_str a b t
  | _=>exact absurd (show false=true from fx) qT
 | int a=>
  obtain⟨t',rfl⟩:=ry
  cases x with
  | non=>cases rx;exact SeqAt.EqAt.int_none a t'
  | bl b=>cases rx;exact SeqAt.EqAt.int_bool a t' b
  | int b=>obtain⟨t,rfl⟩:=rx;exact SeqAt.EqAt.int_int a t' b t
  | str b=>obtain⟨t,rfl⟩:=rx;exact qCY a t' b t
  | _=>exact absurd (show false=true from fx) qT
 | str a=>
  obtain⟨t',rfl⟩:=ry
  cases x with
  | non=>cases rx;exact SeqAt.EqAt.str_none a t'
  | bl b=>cases rx;exact SeqAt.EqAt.str_bool a t' b
  | int b=>obtain⟨t,rfl⟩:=rx;exact qCX a t' b t
  | str b=>obtain⟨t,rfl⟩:=rx;exact SeqAt.EqAt.str_str a t' b t
  | _=>exact absurd (show false=true from fx) qT
 | _=>exact absurd (show false=true from fy) qT
noncomputable def eqU(x:V)(u:Value):Bool:=match u with
 | .none=>eqV .non x
 | .bool b=>eqV (.bl b) x
 | .int i _=>eqV (.int i) x
 | .str z _=>eqV (.str z) x
 | _=>false
theorem zake(r:RelV y u)(f:zqx y=true):eqU x u=eqV y x:=by
 cases y with
 | non=>cases r;rfl
 | bl b=>cases r;rfl
 | int i=>obtain⟨t,rfl⟩:=r;rfl
 | str z=>obtain⟨t,rfl⟩:=r;rfl
 | _=>exact absurd (show false=true from f) qT
theorem zoz:∀{xs:List V}{us:List Value},Vals xs us->xs.all zqx=true->us.any (eqU x)=xs.any λy=>eqV y x
 | _,_,.nil,_=>rfl
 | y::xs,u::us,.cons r t,f=>by
  rw[qAn,qAO]at f
  rw[qAy,qAy,zake r f.1,zoz t f.2]
theorem zle(rx:RelV x v)(fx:zqx x=true):∀{xs:List V}{us:List Value},Vals xs us->xs.all zqx=true->∀u∈us,SeqAt.EqAt A s u v (eqU x u)
 | _,_,.nil,_=>λu hu=>by cases hu
 | y::xs,u::us,.cons r t,f=>λu' hu=>by
  rw[qAn,qAO]at f
  rcases qP.mp hu with rfl|hu
  ·rw[zake r f.1];exact zapd r rx f.1 fx
  ·exact zle rx fx t f.2 u' hu
noncomputable def inV(x:V)(xs:List V):Bool:=xs.any λy=>eqV y x
noncomputable def rIn(K:qC)(neg:Bool):R2:=λx y H Q=>∃p xs,y=.ref p/\(SqL K H p xs\/SqT K H p xs)/\zqx x=true/\xs.all zqx=true/\Q (.bl (if neg then !inV x xs else inV x xs)) H
theorem zacy:OpR X (compareOp .In) (rIn X.K false):=by
 intro pins s σ H x y v u Q I rx ry h
 obtain⟨p,xs,rfl,hq,fx,fs,q⟩:=h
 cases ry
 rcases hq with hq|hq
 ·obtain⟨its,r,pl,hz⟩:=I.list hq
  refine SeqAt.in_listAt (eqU x) pl.isList (λw hw=>zle rx fx r fs w (by simpa using hw)) ⟨.bl _,H,I,rfl,?_⟩
  rw[show its.toArray.any (eqU x)=its.any (eqU x) by simp,zoz r fs]
  exact q
 ·obtain⟨its,r,pl,hz⟩:=I.tuple hq
  refine SeqAt.in_tupleAt (eqU x) pl (λw hw=>zle rx fx r fs w (by simpa using hw)) ⟨.bl _,H,I,rfl,?_⟩
  rw[show its.toArray.any (eqU x)=its.any (eqU x) by simp,zoz r fs]
  exact q
theorem zuq:OpR X (compareOp .NotIn) (rIn X.K true):=by
 intro pins s σ H x y v u Q I rx ry h
 obtain⟨p,xs,rfl,hq,fx,fs,q⟩:=h
 cases ry
 rcases hq with hq|hq
 ·obtain⟨its,r,pl,hz⟩:=I.list hq
  refine SeqAt.notIn_listAt (eqU x) pl.isList (λw hw=>zle rx fx r fs w (by simpa using hw)) ⟨.bl _,H,I,rfl,?_⟩
  rw[show its.toArray.any (eqU x)=its.any (eqU x) by simp,zoz r fs]
  exact q
 ·obtain⟨its,r,pl,hz⟩:=I.tuple hq
  refine SeqAt.notIn_tupleAt (eqU x) pl (λw hw=>zle rx fx r fs w (by simpa using hw)) ⟨.bl _,H,I,rfl,?_⟩
  rw[show its.toArray.any (eqU x)=its.any (eqU x) by simp,zoz r fs]
  exact q
theorem zur:CallR X (.type "list") (λxs H Q=>∃p ys,xs=[.ref p]/\(SqL X.K H p ys\/SqT X.K H p ys)/\∀l,H l=none->Q (.ref l) (upd H l (.lst ys))):=by
 intro pins s σ H xs us Q I r h
 obtain⟨p,ys,rfl,hq,q⟩:=h
 obtain⟨u,rfl,rx⟩:=zabe r
 cases rx
 have fin:∀(its:List Value),Vals ys its->ys.length<=qZ->∀(h':Heap)(c':Nat),(∀b o',s.heap.get? b=some o'->h'.get? b=some o')->
   h'.get? s.heap.objs.size=some {cls:=.type "list",dict:=none,data:=.seq its.toArray c',slots:=#[]}->EP X pins σ Q (.ref s.heap.objs.size) {s with heap:=h'}:=λits r' hz h' c' kp e=>
  ⟨.ref s.heap.objs.size,_,I.laid (t':=s.toks) kp (qO _) (show zeq X.prog X.w _ h' _ (.lst ys)from⟨hz,its,c',r',e⟩),rfl,q _ (I.hok.fresh (qO _))⟩
 rcases hq with hq|hq
 ·obtain⟨its,r',pl,hz⟩:=I.list hq
  have hlen:=r'.length
  obtain⟨o,ho,hc,n,hd⟩:=pl.isList
  exact call_list_seq p (.inl rfl) ho hc hd (λh' c' kp e=>fin its r' hz h' c' kp e) (by simp only[qU]<;>omega)
 ·obtain⟨its,r',pl,hz⟩:=I.tuple hq
  have hlen:=r'.length
  obtain⟨o,ho,hc,n,hd⟩:=pl
  exact call_list_seq p (.inr rfl) ho hc hd (λh' c' kp e=>fin its r' hz h' c' kp e) (by simp only[qU]<;>omega)
theorem zsm:CallR X (.type "tuple") (λxs H Q=>∃p ys,xs=[.ref p]/\((SqL X.K H p ys/\∀l,H l=none->Q (.ref l) (upd H l (.tup ys)))\/(SqT X.K H p ys/\Q (.ref p) H))):=by
 intro pins s σ H xs us Q I r h
 obtain⟨p,ys,rfl,h⟩:=h
 obtain⟨u,rfl,rx⟩:=zabe r
 cases rx
 rcases h with⟨hq,q⟩|⟨hq,q⟩
 ·obtain⟨its,r',pl,hz⟩:=I.list hq
  have hlen:=r'.length
  refine call_tuple_list pl.isList (λh' kp=>?_) (by simp only[qU]<;>omega)
  have I1:Inv X pins σ H {s with heap:=h'}:=I.kept (t':=s.toks) kp
  have I2:Inv X pins σ (upd H h'.objs.size (.tup ys)) {s with heap:=h'.push {cls:=.type "tuple",data:=.seq its.toArray}}:=
   I1.laid (t':=s.toks) (λb o e=>qF _ e) (qO _) (show zeq X.prog X.w _ _ _ (.tup ys)from⟨hz,its,r',IsTup.new _ _⟩)
  exact⟨.ref h'.objs.size,_,I2,rfl,q _ (I1.hok.fresh (qO _))⟩
 ·obtain⟨its,r',pl,hz⟩:=I.tuple hq
  exact call_tuple_same pl ⟨.ref p,H,I,rfl,q⟩
noncomputable def tyV(K:qC)(T:String)(x:V)(H:Hp):Prop:=match x with
 | .str _=>T="str"
 | .int _=>T="int"
 | .ref p=>(T="list"/\∃xs,SqL K H p xs)\/(T="tuple"/\∃o,K.lookup p=some o/\o.cls=.type "tuple"/\o.dict=none)\/
   (T="dict"/\((∃kvs,H p=some (.dK kvs))\/∃kvs,H p=some (.dT kvs)))\/(T="set"/\∃S n,H p=some (.set S n))
 | _=>False
theorem zakf{s:Shared}(I:Inv X pins σ H s)(r:RelV x v)(ty:tyV X.K T x H) :
  s.TypeIs v T/\∀a,v=.ref a->∃ob,s.heap.get? a=some ob/\ob.dict=none:=by
 cases x with
 | str z=>
  obtain⟨t,rfl⟩:=r
  cases(show T="str"from ty)
  exact⟨typeIs_str s z t,λ_ e=>nomatch e⟩
 | int i=>
  obtain⟨t,rfl⟩:=r
  cases(show T="int"from ty)
  exact⟨typeIs_int s i t,λ_ e=>nomatch e⟩
 | ref p=>
  cases r
  rcases ty with⟨rfl,xs,hq⟩|⟨rfl,o,hk,hc,hd⟩|⟨rfl,hk⟩|⟨rfl,S,n,hk⟩
  ·obtain⟨its,_,pl,_⟩:=I.list hq
   refine⟨pl.isList.typeIs,λa e=>?_⟩
   cases e
   obtain⟨o,n,e,c,hd,_⟩:=pl
   exact⟨o,e,hd⟩
  ·refine⟨⟨o,I.kIn p o hk,hc⟩,λa e=>?_⟩
   cases e
   exact⟨o,I.kIn _ o hk,hd⟩
  ·have z:∃o,s.heap.get? p=some o/\o.ExactDict:=by
    rcases hk with⟨kvs,hk⟩|⟨kvs,hk⟩
    ·obtain⟨_,_,_,_,o,_,_,e,ex,_⟩:=I.hok p _ hk
     exact⟨o,e,ex⟩
    ·obtain⟨_,_,_,_,o,_,_,e,ex,_⟩:=I.hok p _ hk
     exact⟨o,e,ex⟩
   obtain⟨o,e,ex⟩:=z
   refine⟨⟨o,e,ex.1⟩,λa e2=>?_⟩
   cases e2
   exact⟨o,e,ex.2.1⟩
  ·obtain⟨o,_,_,_,e,ex,_⟩:=I.hok p _ hk
   refine⟨⟨o,e,ex.1⟩,λa e2=>?_⟩
   cases e2
   exact⟨o,e,ex.2.1⟩
 | _=>exact False.elim ty
noncomputable def tBM0(K:qC)(T:String)(r:V->List V->Hp->VK->Prop)(to:TE):TE:=λσ H Q=>to σ H λx H1=>tyV K T x H1/\r x [] H1 Q
noncomputable def tBM(K:qC)(T:String)(r:V->List V->Hp->VK->Prop)(to:TE)(t:TA):TE:=λσ H Q=>to σ H λx H1=>tyV K T x H1/\t σ H1 λxs H2=>r x xs H2 Q
variable{o e:Expr}{es:List Expr}{to:TE}{t:TA}{name:Str}{apos cpos:Pos}{T id:String}{r:V->List V->Hp->VK->Prop}
theorem zape(pa:PlainAttrs T)(slot:Slot T name id)(hty:typeOf (.builtin id)=pure (.type "method_descriptor"))(hm:MtR X id r)(ho:PE X o to)
  (hbase:attributeBase o name X.env (eval o X.env)=eval o X.env:=by rfl) (hline:(apos.endLine==cpos.line)=true:=by rfl):PE X (.Call (.Attribute o name apos) [] [] cpos) (tBM0 X.K T r to):=by
 intro pins s σ H Q I h
 refine wpAny_Call_method0_late hbase hline (thn (ho pins s σ H _ I h) λv s1 ⟨x,H1,I1,r1,ty,q1⟩=>?_)
 obtain⟨h1,h2⟩:=zakf I1 r1 ty
 exact⟨T,id,pa,slot,hty,h1,h2,qCd rfl (PySem.evalArgs_none (hm pins s1 σ H1 x [] v [] Q I1 r1 .nil q1))⟩
theorem zarr(pa:PlainAttrs T)(slot:Slot T name id)(hty:typeOf (.builtin id)=pure (.type "method_descriptor"))(hm:MtR X id r)(ho:PE X o to)(ha:PA X (e::es) t)
  (hbase:attributeBase o name X.env (eval o X.env)=eval o X.env:=by rfl)
  (hfew:((backTo cpos (starEach (e::es) X.env)).all (λx=>!x.1)&&(backToKw cpos (keywordEach [] X.env)).all (λx=>x.1.isSome)
   && decide ((e::es).length+([]:List Keyword).length+(if([]:List Keyword).isEmpty then 0 else 1)<30))=true:=by rfl)
  (hline:(apos.endLine==cpos.line)=true:=by rfl)(hs:starEach (e::es) X.env=(false,eval e X.env)::starEach es X.env:=by rfl)(hplain:(backTo cpos (starEach es X.env)).any (·.1)=false:=by rfl) :
  PE X (.Call (.Attribute o name apos) (e::es) [] cpos) (tBM X.K T r to t):=by
 intro pins s σ H Q I h
 refine wpAny_Call_method_late hbase hfew hline rfl (thn (ho pins s σ H _ I h) λv s1 ⟨x,H1,I1,r1,ty,q1⟩=>?_)
 obtain⟨h1,h2⟩:=zakf I1 r1 ty
 refine⟨T,id,pa,slot,hty,h1,h2,?_⟩
 have hA:=ha cpos pins s1 σ H1 _ I1 q1
 rw[hs]at hA ⊢
 refine qCd (by show(false||(backTo cpos (starEach es X.env)).any (·.1))=false;rw[hplain]<;>rfl) (Calls.evalArgs_plain ?_)
 exact thn hA λus s2 ⟨vs,H2,I2,r2,q2⟩=>hm pins s2 σ H2 x vs v us Q I2 r1 r2 q2
end
noncomputable def MtM(X:Cx)(id:String)(r:V->List V->Hp->VK->Prop):Prop:=
 ∀(pins:List (Addr×Obj))(s:Shared)(σ:St)(H:Hp)(x:V)(xs:List V)(v:Value)(us:List Value)(Q:VK),Inv X pins σ H s->RelV x v->Vals xs us->r x xs H Q->
  wpAny (model X.prog X.w) X.A (call (.builtin id) (v::us)) (EP X pins σ Q) X.xe s
theorem Vals.one:∀{x:V}{us:List Value},Vals [x] us->∃u,us=[u]/\RelV x u
 | _,_,.cons r .nil=>⟨_,rfl,r⟩
theorem Vals.zero:∀{us:List Value},Vals [] us->us=[]
 | _,.nil=>rfl
theorem Vals.dropLast{xs:List V}{us:List Value}(h:Vals xs us):Vals xs.dropLast us.dropLast:=by
 induction h with
 | nil=>exact .nil
 | cons r t ih=>
  cases t with
  | nil=>exact .nil
  | cons q t'=>exact .cons r ih
theorem Vals.eraseIdx:∀{xs:List V}{us:List Value}(i:Nat),Vals xs us->Vals (xs.eraseIdx i) (us.eraseIdx i)
 | _,_,_,.nil=>.nil
 | _,_,0,.cons _ t=>t
 | _,_,i+1,.cons r t=>.cons r (Vals.eraseIdx i t)
theorem Vals.reverse{xs:List V}{us:List Value}(h:Vals xs us):Vals xs.reverse us.reverse:=by
 induction h with
 | nil=>exact .nil
 | cons r t ih=>rw[qBV,qBV];exact Vals.append ih (.cons r .nil)
theorem zabf(l:List α):l.eraseIdx (l.length - 1)=l.dropLast:=by
 induction l with
 | nil=>rfl
 | cons a r ih=>
  cases r with
  | nil=>rfl
  | cons b r=>
   have e:(a::b::r).length - 1=((b::r).length - 1)+1:=by
    have h1:(a::b::r).length=r.length+2:=rfl
    have h2:(b::r).length=r.length+1:=rfl
    omega
   rw[e,List.eraseIdx_cons_succ,ih]
   all_goals rfl
theorem zus:∀(l:List α)(i:Nat),(l.eraseIdx i).length<=l.length
 | [],_=>qO _
 | _::_,0=>Nat.le_succ _
 | _::r,i+1=>Nat.succ_le_succ (zus r i)
section
variable{X:Cx}{pins:List (Addr×Obj)}{σ:St}{H:Hp}{s:Shared}{l b:Addr}{xs ys zs:List V}
theorem Inv.lset{its its':List Value}{f:Array Value->Array Value}(I:Inv X pins σ H s)(hH:H l=some (.lst xs))
  (e:s.heap.get? l=some {cls:=.type "list",data:=.seq its.toArray n}) (hf:f its.toArray=its'.toArray) (hv:Vals ys its') (hz:ys.length<=qZ) :
  Inv X pins σ (upd H l (.lst ys)) {s with heap:=s.heap.update l (Obj.mapSeq f),toks:=t'}:=by
 have q:=PySem.IsL.update e f
 rw[hf]at q
 refine I.write (x:=l) (e:=l) (by rw[hH];exact trivial) (.inl rfl) (λb' u hb hu=>(Heap.get?_update_other s.heap (Obj.mapSeq f) (qAs hb)).trans hu) ⟨_,q⟩ ?_
 exact⟨hz,its',_,hv,q⟩
theorem Inv.lnew{its:List Value}(I:Inv X pins σ H s)(hv:Vals ys its)(hz:ys.length<=qZ) :
  Inv X pins σ (upd H s.heap.objs.size (.lst ys)) {s with heap:=s.heap.push {cls:=.type "list",data:=.seq its.toArray},toks:=t'}:=
 I.laid (λ_ _ q=>qF _ q) (qO _) ⟨hz,its,0,hv,qd _ rfl⟩
theorem Inv.fresh(I:Inv X pins σ H s):H s.heap.objs.size=none:=I.hok.fresh (qO _)
theorem Inv.lstM(I:Inv X pins σ H s)(hH:H l=some (.lst xs)):xs.length<=qZ/\∃(its:List Value)(n:Nat),Vals xs its/\xs.length=its.length/\s.heap.get? l=some {cls:=.type "list",data:=.seq its.toArray n}:=by
 obtain⟨z,its,n,r,e⟩:=I.hok l _ hH
 exact⟨z,its,n,r,r.length,e⟩
theorem zahh(h:n<=qZ):Builtin.List.listTooLong n=false:=by
 unfold Builtin.List.listTooLong
 exact decide_eq_false (by omega)
end
section
variable{X:Cx}
noncomputable def zmj:V->List V->Hp->VK->Prop:=λx vs H Q=>∃l xs y,x=.ref l/\vs=[y]/\H l=some (.lst xs)/\xs.length<qZ/\Q .non (upd H l (.lst (xs++[y])))
theorem zbi:MtM X "list.append" zmj:=by
 intro pins s σ H x vs v us Q I rx rv h
 obtain⟨l,xs,y,rfl,rfl,hH,hz,q⟩:=h
 cases rx
 obtain⟨u,rfl,ru⟩:=rv.one
 obtain⟨z,its,n,r,hl,e⟩:=I.lstM hH
 refine qBw F.slot_list_append ⟨_,e,rfl⟩ F.entry_list_append (F.args_list_append_2 _ _) (PySem.list_append l its.toArray n u (by rw[qU];omega)) ⟨e,?_⟩
 refine⟨.non,_,I.lset (its':=its++[u]) hH e (by simp) (r.append (.cons ru .nil)) ?_,rfl,q⟩
 rw[qJ,qCn]
 omega
noncomputable def zalw:V->List V->Hp->VK->Prop:=λx vs H Q=>∃l b xs zs,x=.ref l/\vs=[.ref b]/\H l=some (.lst xs)/\H b=some (.lst zs)/\xs.length+zs.length<=qZ/\Q .non (upd H l (.lst (xs++zs)))
theorem zapf:MtM X "list.extend" zalw:=by
 intro pins s σ H x vs v us Q I rx rv h
 obtain⟨l,b,xs,zs,rfl,rfl,hH,hB,hz,q⟩:=h
 cases rx
 obtain⟨u,rfl,ru⟩:=rv.one
 cases ru
 obtain⟨z,its,n,r,hl,e⟩:=I.lstM hH
 obtain⟨z2,its2,n2,r2,hl2,e2⟩:=I.lstM hB
 have hsz:its.toArray.size+its2.toArray.size<=qZ:=by rw[qU,qU];omega
 have hlong:¬(!its.toArray.isEmpty&&Builtin.List.listTooLong (its.toArray.size+its2.toArray.size))=true:=by
  rw[zahh hsz,Bool.and_false]
  exact qT
 refine qBw F.slot_list_extend ⟨_,e,rfl⟩ F.entry_list_extend (F.args_list_extend_2 _ _)
  (AutoSeq1.list_extend_list_list_0 l its.toArray n b its2.toArray n2 hlong (by rw[qU];omega) (by omega)) ⟨e,e2,?_⟩
 refine⟨.non,_,I.lset (its':=its++its2) hH e (by simp) (r.append r2) ?_,rfl,q⟩
 rw[qJ]
 omega
noncomputable def rPop:V->List V->Hp->VK->Prop:=λx vs H Q=>∃l xs y,x=.ref l/\vs=[]/\H l=some (.lst xs)/\xs[xs.length - 1]?=some y/\Q y (upd H l (.lst xs.dropLast))
theorem zaso:MtM X "list.pop" rPop:=by
 intro pins s σ H x vs v us Q I rx rv h
 obtain⟨l,xs,y,rfl,rfl,hH,hy,q⟩:=h
 cases rx
 have hus:=rv.zero
 subst hus
 obtain⟨z,its,n,r,hl,e⟩:=I.lstM hH
 obtain⟨u,hu,ru⟩:=r.get hy
 have hy':its.toArray[its.toArray.size - 1]?=some u:=by
  show its.toArray[its.length - 1]?=some u
  rw[<- qCm,<- hl]
  exact hu
 refine qBw F.slot_list_pop ⟨_,e,rfl⟩ F.entry_list_pop (F.args_list_pop_1 _) (MeetsSeq.list_pop_last l its.toArray n u hy' (by rw[qU];omega)) ⟨e,?_⟩
 refine⟨y,_,I.lset (its':=its.dropLast) hH e ?_ r.dropLast ?_,ru,q⟩
 ·show its.toArray.eraseIdxIfInBounds (its.toArray.size - 1)=its.dropLast.toArray
  rw[qU,qB1,zabf]
 ·rw[qCv]
  omega
noncomputable def zacz:V->List V->Hp->VK->Prop:=λx vs H Q=>∃l xs i k y,x=.ref l/\vs=[.int i]/\H l=some (.lst xs)/\-(2 ^ 63)<=i/\i<2 ^ 63/\seqIndex? i xs.length=some k/\xs[k]?=some y/\Q y (upd H l (.lst (xs.eraseIdx k)))
theorem zsn:MtM X "list.pop" zacz:=by
 intro pins s σ H x vs v us Q I rx rv h
 obtain⟨l,xs,i,k,y,rfl,rfl,hH,h1,h2,hk,hy,q⟩:=h
 cases rx
 obtain⟨u,rfl,ru⟩:=rv.one
 obtain⟨t,rfl⟩:=ru
 obtain⟨z,its,n,r,hl,e⟩:=I.lstM hH
 obtain⟨w,hw,rw'⟩:=r.get hy
 refine qBw F.slot_list_pop ⟨_,e,rfl⟩ F.entry_list_pop (F.args_list_pop_2 _ _)
  (MeetsSeq.list_pop_at l its.toArray n i t k w (fitsIndex_both h1 h2) (by rw[qU,<- hl];exact hk) (by rw[<- qCm];exact hw) (by rw[qU];omega)) ⟨e,?_⟩
 refine⟨y,_,I.lset (its':=its.eraseIdx k) hH e ?_ (r.eraseIdx k) ?_,rw',q⟩
 ·show its.toArray.eraseIdxIfInBounds k=(its.eraseIdx k).toArray
  rw[qB1]
 ·have:=zus xs k
  omega
noncomputable def zzm:V->List V->Hp->VK->Prop:=λx vs H Q=>∃l xs,x=.ref l/\vs=[]/\H l=some (.lst xs)/\Q .non (upd H l (.lst xs.reverse))
theorem zabg:MtM X "list.reverse" zzm:=by
 intro pins s σ H x vs v us Q I rx rv h
 obtain⟨l,xs,rfl,rfl,hH,q⟩:=h
 cases rx
 have hus:=rv.zero
 subst hus
 obtain⟨z,its,n,r,hl,e⟩:=I.lstM hH
 refine qBw F.slot_list_reverse ⟨_,e,rfl⟩ F.entry_list_reverse (F.args_list_reverse_1 _) (AutoSeq1.list_reverse_list_0 l its.toArray n (by rw[qU];omega)) ⟨e,?_⟩
 refine⟨.non,_,I.lset (its':=its.reverse) hH e (by simp) r.reverse ?_,rfl,q⟩
 rw[qC1]
 omega
noncomputable def zakg:V->List V->Hp->VK->Prop:=λx vs H Q=>∃l xs,x=.ref l/\vs=[]/\H l=some (.lst xs)/\Q .non (upd H l (.lst []))
theorem zahi:MtM X "list.clear" zakg:=by
 intro pins s σ H x vs v us Q I rx rv h
 obtain⟨l,xs,rfl,rfl,hH,q⟩:=h
 cases rx
 have hus:=rv.zero
 subst hus
 obtain⟨z,its,n,r,hl,e⟩:=I.lstM hH
 refine qBw F.slot_list_clear ⟨_,e,rfl⟩ F.entry_list_clear (F.args_list_clear_1 _) (AutoSeq1.list_clear_list_0 l its.toArray n (by rw[qU];omega)) ⟨e,?_⟩
 exact⟨.non,_,I.lset (its':=[]) (ys:=[]) hH e rfl .nil (qAU _),rfl,q⟩
noncomputable def rCat:R2:=λx y H Q=>∃l b xs zs,x=.ref l/\y=.ref b/\H l=some (.lst xs)/\H b=some (.lst zs)/\xs.length+zs.length<=qZ/\∀p,H p=none->Q (.ref p) (upd H p (.lst (xs++zs)))
theorem zapg:OpR X (binaryOp .Add) rCat:=by
 intro pins s σ H x y v u Q I rx ry h
 obtain⟨l,b,xs,zs,rfl,rfl,hH,hB,hz,q⟩:=h
 cases rx
 cases ry
 obtain⟨z,its,n,r,hl,e⟩:=I.lstM hH
 obtain⟨z2,its2,n2,r2,hl2,e2⟩:=I.lstM hB
 refine PySem.P.add_list e e2 ?_ (by rw[qU,qU];omega)
 have ea:its.toArray++its2.toArray=(its++its2).toArray:=by simp
 rw[ea]
 exact⟨.ref _,_,I.lnew (t':=s.toks) (r.append r2) (by rw[qJ];omega),rfl,q _ I.fresh⟩
end
section
variable{prog:Program}{w:World}{A:Around}{E:Value->Shared->Prop}{s:Shared}
set_option maxRecDepth 100000 in
end
section
variable{κ:Type}[DecidableEq κ]
noncomputable def valV(kvs:List (κ×V))(k:κ):Option V:=(kvs.find? λkv=>decide (kv.1=k)).map (·.2)
noncomputable def putK(kvs:List (κ×V))(k:κ)(v:V):List (κ×V):=
 if(kvs.any λkv=>decide (kv.1=k))=true then kvs.map (λkv=>if kv.1=k then(kv.1,v)else kv)else kvs++[(k,v)]
theorem zor{p:κ×V}(e:p.1=k):valV (p::r) k=some p.2:=by simp[valV,qBA,e]
theorem zos{p:κ×V}(e:¬p.1=k):valV (p::r) k=valV r k:=by simp[valV,qBA,e]
theorem zzn(k:κ):∀kvs:List (κ×V),(kvs.any λkv=>decide (kv.1=k))=(valV kvs k).isSome
 | []=>rfl
 | p::r=>by
  rw[qAy]
  by_cases e:p.1=k
  ·simp only[zor e,decide_eq_true e,Bool.true_or,qCs]
  ·rw[zos e,decide_eq_false e,qCe];exact zzn k r
theorem zkj(kvs:List (κ×V))(k:κ)(v:V):(putK kvs k v).length<=kvs.length+1:=by
 unfold putK
 split
 ·rw[qD];omega
 ·rw[qJ,qAe,qBi];omega
theorem RelO.isSome_eq{o:Option V}{u:Option Value}(r:RelO o u):o.isSome=u.isSome:=by
 cases o with
 | none=>cases u with
  | none=>rfl
  | some _=>exact(show False from r).elim
 | some _=>cases u with
  | none=>exact(show False from r).elim
  | some _=>rfl
theorem KV.val(r:KV kvs vs)(k:κ):RelO (valV kvs k) (valueAt vs k):=by
 unfold KV at r
 induction r with
 | nil=>exact True.intro
 | @cons p q ps qs h t ih=>
  obtain⟨h1,h2⟩:=h
  by_cases e:p.1=k
  ·have e':q.1=k:=h1.symm.trans e
   have b:valueAt (q::qs) k=some q.2:=by simp[valueAt,qBA,e']
   rw[zor e,b];exact h2
  ·have e':¬q.1=k:=λz=>e (h1.trans z)
   have b:valueAt (q::qs) k=valueAt qs k:=by simp[valueAt,qBA,e']
   rw[zos e,b];exact ih
theorem KV.any{kvs:List (κ×V)}{vs:List (κ×Value)}(r:KV kvs vs)(k:κ):(kvs.any λkv=>decide (kv.1=k))=vs.any λkv=>decide (kv.1=k):=by
 unfold KV at r
 induction r with
 | nil=>rfl
 | cons h t ih=>rw[qAy,qAy,ih,h.1]
theorem KV.repl{kvs:List (κ×V)}{vs:List (κ×Value)}(r:KV kvs vs)(k:κ)(ry:RelV y u) :
  KV (kvs.map λkv=>if kv.1=k then(kv.1,y)else kv) (vs.map λkv=>if kv.1=k then(kv.1,u)else kv):=by
 unfold KV at r ⊢
 induction r with
 | nil=>exact .nil
 | @cons p q ps qs h t ih=>
  rw[qM,qM]
  refine .cons ?_ ih
  obtain⟨h1,h2⟩:=h
  by_cases e:p.1=k
  ·rw[if_pos e,if_pos (h1.symm.trans e)];exact⟨h1,ry⟩
  ·rw[if_neg e,if_neg (λz=>e (h1.trans z))];exact⟨h1,h2⟩
theorem KV.put(r:KV kvs vs)(k:κ)(ry:RelV y u):KV (putK kvs k y) (stored vs k u):=by
 unfold putK stored
 rw[r.any k]
 by_cases e:(vs.any λkv=>decide (kv.1=k))=true
 ·rw[if_pos e,if_pos e];exact r.repl k ry
 ·rw[if_neg e,if_neg e];exact Paired.snoc r ⟨rfl,ry⟩
theorem KV.length{kvs:List (κ×V)}{vs:List (κ×Value)}(r:KV kvs vs):kvs.length=vs.length:=qBp r
end
theorem zada(r:RelV (kV k) u):(zdl P w).is k u=true:=by
 cases k with
 | inl i=>obtain⟨t,e⟩:=(show ∃t,u=Value.int i t from r);subst e;exact zxi P w i t
 | inr x=>obtain⟨t,e⟩:=(show ∃t,u=Value.str x t from r);subst e;exact zxj P w x t
theorem zut:∀{ks:List Key}{us:List Value},Vals (ks.map kV) us->ItemsAre (zdl P w) ks us
 | [],_,r=>by rw[qB4]at r;cases r;exact .nil
 | k::ks,_,r=>by
  rw[qM]at r
  cases r with
  | cons h t=>exact .cons (zada h) (zut t)
noncomputable abbrev KT(H:Hp):List (List Key×V)->List (List Key×Addr×Value)->Prop:=Paired λp q=>p.1=q.1/\H q.2.1=some (.tup (p.1.map kV))/\RelV p.2 q.2.2
theorem KT.val(r:KT H kvs xs)(k:List Key):RelO (valV kvs k) ((atKey xs k).map (·.2)):=by
 induction r with
 | nil=>exact True.intro
 | @cons p q ps qs h t ih=>
  obtain⟨h1,_,h2⟩:=h
  by_cases e:p.1=k
  ·have e':q.1=k:=h1.symm.trans e
   have b:atKey (q::qs) k=some q.2:=by simp[atKey,qBA,e']
   rw[zor e,b];exact h2
  ·have e':¬q.1=k:=λz=>e (h1.trans z)
   have b:atKey (q::qs) k=atKey qs k:=by simp[atKey,qBA,e']
   rw[zos e,b];exact ih
theorem KT.repl{kvs:List (List Key×V)}{xs:List (List Key×Addr×Value)}(r:KT H kvs xs)(k:List Key)(ry:RelV y u) :
  KT H (kvs.map λkv=>if kv.1=k then(kv.1,y)else kv) (xs.map (putAt k u)):=by
 induction r with
 | nil=>exact .nil
 | @cons p q ps qs h t ih=>
  rw[qM,qM]
  refine .cons ?_ ih
  obtain⟨h1,h2,h3⟩:=h
  unfold putAt
  by_cases e:p.1=k
  ·rw[if_pos e,if_pos (h1.symm.trans e)];exact⟨h1,h2,ry⟩
  ·rw[if_neg e,if_neg (λz=>e (h1.trans z))];exact⟨h1,h2,h3⟩
theorem KT.put(r:KT H kvs xs)(k:List Key)(hb:H b=some (.tup (k.map kV)))(ry:RelV y u) :
  KT H (putK kvs k y) (storedH xs k b u):=by
 have e:(kvs.any λkv=>decide (kv.1=k))=(atKey xs k).isSome:=by
  rw[zzn,(r.val k).isSome_eq,qC0]
 unfold putK storedH
 rw[e]
 by_cases q:(atKey xs k).isSome=true
 ·rw[if_pos q,if_pos q];exact r.repl k ry
 ·rw[if_neg q,if_neg q];exact Paired.snoc r ⟨rfl,hb,ry⟩
theorem KT.keeps(r:KT H kvs xs)(ht:∀b ys,H b=some (.tup ys)->H' b=some (.tup ys)):KT H' kvs xs:=
 Paired.mapP r λ_ _ z=>⟨z.1,ht _ _ z.2.1,z.2.2⟩
section
variable{P:Program}{w:World}{H:Hp}{h:Heap}{a:Addr}
theorem zaph(ok:HOk P w H h)(e:Rd H a u):zeq P w H h a u:=e.ok ok
theorem zahj{kvs:List (Key×V)}(ok:HOk P w H h)(e:Rd H a (.dK kvs)):kvs.length<=qZ/\(a==sysModules)=false/\∃vs,KV kvs vs/\h.DictOf (zdl P w) a vs:=
 show zeq P w H h a (.dK kvs)from zaph ok e
theorem zahk{kvs:List (Key×V)}(ok:HOk P w H h)(e:H a=some (.dK kvs)):kvs.length<=qZ/\(a==sysModules)=false/\∃vs,KV kvs vs/\h.DictOf (zdl P w) a vs:=zahj ok (.inl e)
theorem zzo{ks:List Key}(ok:HOk P w H h)(e:H a=some (.tup (ks.map kV))):(tupleKind (zdl P w)).is h ks a:=by
 obtain⟨_,its,r,o,h1,h2,n,h3⟩:=(show zeq P w H h a (.tup (ks.map kV))from ok a _ e)
 exact⟨o,its.toArray,n,h1,h2,h3,by simpa using zut r⟩
theorem zahl{kvs:List (List Key×V)}(ok:HOk P w H h)(e:Rd H a (.dT kvs)):kvs.length<=qZ/\(a==sysModules)=false/\
  ∃xs,KT H kvs xs/\h.DictOfH (tupleKind (zdl P w)) a xs:=by
 obtain⟨z,y,xs,r,o,es,ep,h1,h2,h3,h4,h5⟩:=(show zeq P w H h a (.dT kvs)from zaph ok e)
 refine⟨z,y,xs,r,o,es,ep,h1,h2,h3,h4,λx hx=>?_,h5⟩
 have all:∀{l:List (List Key×V)}{m:List (List Key×Addr×Value)},KT H l m->∀x∈m,(tupleKind (zdl P w)).is h x.1 x.2.1:=by
  intro l m q
  induction q with
  | nil=>intro x hx;exact nomatch hx
  | @cons p q ps qs hq t ih=>
   intro x hx
   rcases qP.mp hx with e|hx
   ·subst e
    exact zzo ok (by rw[<- hq.1];exact hq.2.1)
   ·exact ih x hx
 exact all r x hx
theorem zars{kvs:List (List Key×V)}(ok:HOk P w H h)(e:H a=some (.dT kvs)):kvs.length<=qZ/\(a==sysModules)=false/\
  ∃xs,KT H kvs xs/\h.DictOfH (tupleKind (zdl P w)) a xs:=zahl ok (.inl e)
end
noncomputable def DGet(H:Hp)(a:Addr)(y:V)(r:Option V):Prop:=
 (∃kvs k,Rd H a (.dK kvs)/\y=kV k/\r=valV kvs k)\/∃kvs k b,Rd H a (.dT kvs)/\y=.ref b/\H b=some (.tup (k.map kV))/\r=valV kvs k
noncomputable def DPut(H:Hp)(a:Addr)(y v:V)(H':Hp):Prop:=
 (∃kvs k,H a=some (.dK kvs)/\y=kV k/\kvs.length<qZ/\H'=upd H a (.dK (putK kvs k v)))\/
 ∃kvs k b,H a=some (.dT kvs)/\y=.ref b/\H b=some (.tup (k.map kV))/\kvs.length<qZ/\H'=upd H a (.dT (putK kvs k v))
theorem DGet.k{H:Hp}{a:Addr}{kvs:List (Key×V)}{k:Key}(e:H a=some (.dK kvs)):DGet H a (kV k) (valV kvs k):=.inl ⟨kvs,k,.inl e,rfl,rfl⟩
theorem DPut.k{H:Hp}{a:Addr}{kvs:List (Key×V)}{k:Key}{v:V}(e:H a=some (.dK kvs))(hl:kvs.length<qZ):DPut H a (kV k) v (upd H a (.dK (putK kvs k v))):=.inl ⟨kvs,k,e,rfl,hl,rfl⟩
section
variable{X:Cx}{pins:List (Addr×Obj)}{σ:St}{H:Hp}{s:Shared}{a:Addr}{y v:V}{u r:Value}{o:Option V}{A:Around}{E:Value->Shared->Prop}
theorem Inv.big(I:Inv X pins σ H s):sysModules<s.heap.objs.size:=by
 have h:qAE<s.heap.objs.size:=(I.mod.glob.keeps I.bk).lt
 exact qBS (by decide) h
theorem zadb{Q:Value->Shared->Prop}(hu:A.units+1<cLine)(I:Inv X pins σ H s)(g:DGet H a y (some v))(ry:RelV y u)(h:∀w' s',Inv X pins σ H s'->RelV v w'->Q w' s') :
  wpAny (model X.prog X.w) A (getItem (.ref a) u) Q E s:=by
 rcases g with⟨kvs,k,e,ey,l⟩|⟨kvs,k,b,e,ey,eb,l⟩
 ·subst ey
  obtain⟨z,hd,vs,rel,dd⟩:=zahj I.hok e
  obtain⟨w',hw,rw'⟩:=RelO.some_of (v:=v) (o:=valueAt vs k) (by rw[l];exact rel.val k)
  exact wpAny_getItem_of (zada ry) dd.mapOf hw (h w' _ (I.tok _) rw')
 ·subst ey
  cases(show u=Value.ref b from ry)
  obtain⟨z,hd,xs,rel,dd⟩:=zahl I.hok e
  obtain⟨w',hw,rw'⟩:=RelO.some_of (v:=v) (o:=(atKey xs k).map (·.2)) (by rw[l];exact rel.val k)
  obtain⟨p,hp,hp2⟩:=qE.mp hw
  refine wpAny_getItem_heap (qCC hu) (zzo I.hok eb) dd hp ?_
  rw[hp2]
  exact h w' _ (I.tok _) rw'
theorem d_in{Q:Value->Shared->Prop}(hu:A.units+1<cLine)(I:Inv X pins σ H s)(g:DGet H a y o)(ry:RelV y u)(h:∀s',Inv X pins σ H s'->Q (.bool o.isSome) s') :
  wpAny (model X.prog X.w) A (compareOp .In u (.ref a)) Q E s:=by
 rcases g with⟨kvs,k,e,ey,l⟩|⟨kvs,k,b,e,ey,eb,l⟩
 ·subst ey
  obtain⟨z,hd,vs,rel,dd⟩:=zahj I.hok e
  refine wpAny_in_of (zada ry) hd dd.mapOf ?_
  rw[<- (rel.val k).isSome_eq,<- l]
  exact h _ (I.tok _)
 ·subst ey
  cases(show u=Value.ref b from ry)
  obtain⟨z,hd,xs,rel,dd⟩:=zahl I.hok e
  refine wpAny_in_heap (qCC hu) (zzo I.hok eb) hd dd ?_
  have q:=(rel.val k).isSome_eq
  rw[qC0]at q
  rw[<- q,<- l]
  exact h _ (I.tok _)
theorem zso{h':Heap}(I:Inv X pins σ H s)(mu:Mut (H a))(hs:Heap.SameBut a s.heap h')(he:∃q,h'.get? a=some q)(new:zeq X.prog X.w (upd H a ob) h' a ob) :
  Inv X pins σ (upd H a ob) {s with heap:=h',toks:=t'}:=
 I.write (x:=a) (e:=a) mu (.inl rfl) (λb q hb z=>(hs.2 b hb).trans z) he new
theorem zadc{h':Heap}{kvs:List (Key×V)}(z:kvs.length<=qZ)(hd:(a==sysModules)=false)(rel:KV kvs vs)(dd:h'.DictOf (zdl P w) a vs) :
  zeq P w H' h' a (.dK kvs):=⟨z,hd,vs,rel,dd⟩
theorem zadd{Q:Unit->Shared->Prop}(hu:A.units+1<cLine)(I:Inv X pins σ H s)(g:DPut H a y v H')(ry:RelV y u)(rv:RelV v r)(h:∀s',Inv X pins σ H' s'->Q () s') :
  wpAny (model X.prog X.w) A (setItem (.ref a) u r) Q E s:=by
 rcases g with⟨kvs,k,e,ey,l,eH⟩|⟨kvs,k,b,e,ey,eb,l,eH⟩
 ·subst ey eH
  obtain⟨z,hd,vs,rel,dd⟩:=zahk I.hok e
  have hz:vs.length<=qZ:=by rw[<- rel.length];exact z
  have hl:(putK kvs k v).length<=qZ:=by have:=zkj kvs k v;omega
  refine wpAny_setItem_pairs (hsz:=hz) (zada ry) dd λh' dd' hs=>h _ ?_
  have he:∃q,h'.get? a=some q:=let⟨q,_,_,hq,_⟩:=dd';⟨q,hq⟩
  exact zso I (by rw[e];exact True.intro) hs he (zadc hl hd (rel.put k rv) dd')
 ·subst ey eH
  cases(show u=Value.ref b from ry)
  obtain⟨z,hd,xs,rel,dd⟩:=zars I.hok e
  have hz:xs.length<=qZ:=by rw[<- qBp rel];exact z
  have hl:(putK kvs k v).length<=qZ:=by have:=zkj kvs k v;omega
  refine wpAny_setItem_heap (hsz:=hz) (qCC hu) (zzo I.hok eb) dd λh' dd' hs=>h _ ?_
  obtain⟨q,es,ep,hq,h2,h3,h4,_,h5⟩:=dd'
  refine zso I (by rw[e];exact True.intro) hs ⟨q,hq⟩ ⟨hl,hd,_,(rel.put k eb rv).keeps λc ys ec=>?_,q,es,ep,hq,h2,h3,h4,h5⟩
  rw[zau (zark ec e (λz=>nomatch z))]
  exact ec
end
noncomputable def NoSl(i:Expr):Prop:=∀ov iv,subscripted i false ov iv=operate [ov,iv] (getItem ov iv)
theorem zalx{prog:Program}{w:World}{A:Around}{E:Value->Shared->Prop}{s:Shared}{env:Env}{value slice:Expr}{pos:Pos}{T id:String}{Q:Value->Shared->Prop}
  (hl:typeLookup (.type T) "__getitem__"=pure (some (.builtin id)))(hs:NoSl slice)
  (h:wpAny (model prog w) A (eval value env) (λo s₁=>wpAny (model prog w) A (eval slice env) (λi s₂=>s₂.TypeIs o T/\wpAny (model prog w) A (getItem o i) Q E s₂) E s₁) E s) :
  wpAny (model prog w) A (eval (.Subscript value slice pos) env) Q E s:=by
 refine Subscript_ (qBf h (λo s₁ h₁=>qBf h₁ (λi s₂ h₂=>?_) λ_ _ x=>x) λ_ _ x=>x)
 obtain⟨hT,h₂⟩:=h₂
 unfold subscriptTail
 refine qG ?_
 rw[getitemInPython_of_ne hT.not_modules]
 refine qG (wpAny_specialOf hT hl ?_)
 have fin:wpAny (model prog w) A (subscripted slice false o i) (λr s₃=>wpAny (model prog w) A (letTemporaryGo value o r >>=λ_=>pure r) Q E s₃) E s₂:=by
  rw[hs o i]
  exact wpAny_operating (qBf h₂ (λr s₃ h₃=>qG (wpAny_letTemporaryGo (qi h₃))) λ_ _ x=>x)
 first
  | exact qi (qG fin)
  | exact qG (qi (qG fin))
  | exact qG fin
theorem zxq{s:Shared}(I:Inv X pins σ H s)(g:DGet H a y o):s.TypeIs (.ref a) "dict":=by
 rcases g with⟨kvs,k,e,_,_⟩|⟨kvs,k,b,e,_,_,_⟩
 ·obtain⟨_,_,vs,_,dd⟩:=zahj I.hok e
  exact dd.typeIs
 ·obtain⟨_,_,xs,_,dd⟩:=zahl I.hok e
  exact dd.typeIs
noncomputable def tDGet(td ty:TE):TE:=λσ H Q=>td σ H λx H1=>ty σ H1 λy H2=>∃a v,x=.ref a/\DGet H2 a y (some v)/\Q v H2
noncomputable def tDIn(ty td:TE):TE:=λσ H Q=>ty σ H λy H1=>td σ H1 λx H2=>∃a o,x=.ref a/\DGet H2 a y o/\Q (.bl o.isSome) H2
noncomputable def sDPut(td ty tv:TE):TS:=λD σ H=>tv σ H λv H1=>td σ H1 λx H2=>ty σ H2 λy H3=>∃a H4,x=.ref a/\DPut H3 a y v H4/\D.nx σ H4
section
variable{X:Cx}{o i e value:Expr}{pos pos' tpos:Pos}{td ty tv:TE}
theorem zaly(hu:X.A.units+1<cLine)(ho:PE X o td)(hi:PE X i ty)(hs:NoSl i):PE X (.Subscript o i pos) (tDGet td ty):=by
 intro pins s σ H Q I h
 refine zalx PySem.F.slot_dict_getitem.lookup hs (thn (ho pins s σ H _ I h) λu s1 ⟨x,H1,I1,rx,q1⟩=>thn (hi pins s1 σ H1 _ I1 q1) λiv s2 ⟨y,H2,I2,ry,a,v,ex,g,q2⟩=>?_)
 subst ex
 obtain rfl:u=Value.ref a:=rx
 exact⟨zxq I2 g,zadb hu I2 g ry λw' s3 I3 rw'=>⟨v,H2,I3,rw',q2⟩⟩
theorem zapi(hu:X.A.units+1<cLine)(hi:PE X i ty)(ho:PE X o td):PC X .In i o (tDIn ty td):=by
 intro pins s σ H Q I h
 refine thn (hi pins s σ H _ I h) λiv s1 ⟨y,H1,I1,ry,q1⟩=>thn (ho pins s1 σ H1 _ I1 q1) λu s2 ⟨x,H2,I2,rx,a,ov,ex,g,q2⟩=>?_
 subst ex
 obtain rfl:u=Value.ref a:=rx
 exact d_in hu I2 g ry λs3 I3=>⟨.bl ov.isSome,H2,I3,rfl,q2⟩
theorem zalz(hu:X.A.units+1<cLine)(ho:PE X o td)(hi:PE X i ty)(hv:PE X value tv)(hs:swapsWith value (some (.Subscript o i pos')) pos.line X.env=pure false) :
  PS X (.Assign [.Subscript o i pos'] value pos) (sDPut td ty tv):=by
 intro pins s σ H D I h
 refine wpAny_Assign_Subscript (thn (hv pins s σ H _ I h) λr s1 ⟨v,H1,I1,rv,q1⟩=>thn (ho pins s1 σ H1 _ I1 q1) λu s2 ⟨x,H2,I2,rx,q2⟩=>thn (hi pins s2 σ H2 _ I2 q2) λiv s3 ⟨y,H3,I3,ry,a,H4,ex,g,q3⟩=>?_) hs
 subst ex
 obtain rfl:u=Value.ref a:=rx
 exact zadd hu I3 g ry rv λs4 I4=>⟨σ,H4,I4,q3⟩
end
theorem zzp(h:Heap)(hb:sysModules<h.objs.size):zeq P w H (h.push {cls:=.type "dict",data:=.dict #[]}) h.objs.size (.dK []):=
 ⟨qAU _,beq_eq_false_iff_ne.mpr (qAs (qp hb)),[],.nil,Heap.DictOf.new h⟩
noncomputable def tDNewK:TE:=λ_ H Q=>∀p,H p=none->Q (.ref p) (upd H p (.dK []))
section
variable{X:Cx}{pos:Pos}
theorem zahm:PE X (.Dict [] [] pos) tDNewK:=λpins s σ H Q I h=>
 wpAny_Dict_empty ⟨.ref s.heap.objs.size,_,I.laid (a:=s.heap.objs.size) (o:=.dK []) (t':=s.toks) (λ_ _ q=>qF _ q) (qO _) (zzp s.heap I.big),rfl,h _ (I.hok.fresh (qO _))⟩
end
noncomputable def zade:List (TE×TE)->St->Hp->(List (V×V)->Hp->Prop)->Prop
 | [],_,H,Q=>Q [] H
 | (tk,tv)::r,σ,H,Q=>tk σ H λx H1=>tv σ H1 λy H2=>zade r σ H2 λps H3=>Q ((x,y)::ps) H3
noncomputable abbrev VV:List (V×V)->List (Value×Value)->Prop:=Paired λp q=>RelV p.1 q.1/\RelV p.2 q.2
noncomputable def PPs(X:Cx)(pos:Pos)(keys:List (Option Expr))(values:List Expr)(trs:List (TE×TE)):Prop:=
 ∀(pins:List (Addr×Obj))(s:Shared)(σ:St)(H:Hp)(Q:List (V×V)->Hp->Prop),Inv X pins σ H s->zade trs σ H Q->
  wpAny (model X.prog X.w) X.A (evalPairs (pairTrees keys values X.env pos)) (λvs s'=>∃ps H',Inv X pins σ H' s'/\VV ps vs/\Q ps H') X.xe s
theorem zama:PPs X pos [] [] []:=λpins s σ H Q I h=>pairTrees_nil_walk ⟨[],H,I,.nil,h⟩
theorem zahn(hk:PE X k tk)(hv:PE X v tv)(hr:PPs X pos ks vs trs) :
  PPs X pos (some k::ks) (v::vs) ((tk,tv)::trs):=λpins s σ H Q I h=>
 pairTrees_cons_walk (thn (hk pins s σ H _ I h) λu s1 ⟨x,H1,I1,rx,q1⟩=>thn (hv pins s1 σ H1 _ I1 q1) λw2 s2 ⟨y,H2,I2,ry,q2⟩=>
  thn (hr pins s2 σ H2 _ I2 q2) λws s3 ⟨ps,H3,I3,rel,q3⟩=>⟨(x,y)::ps,H3,I3,.cons ⟨rx,ry⟩ rel,q3⟩)
noncomputable def zlf(kvs more:List (Key×V)):List (Key×V):=more.foldl (λacc kv=>putK acc kv.1 kv.2) kvs
theorem KV.merge:∀{more:List (Key×V)}{rs:List (Key×Value)}{kvs:List (Key×V)}{vs:List (Key×Value)},KV more rs->KV kvs vs->KV (zlf kvs more) (merged vs rs):=by
 intro more rs kvs vs r
 unfold KV at r
 induction r generalizing kvs vs with
 | nil=>intro q;exact q
 | @cons p q ps qs h t ih=>
  intro r0
  have e:KV (putK kvs p.1 p.2) (stored vs q.1 q.2):=by
   have:=r0.put p.1 h.2
   rw[<- h.1];exact this
  exact ih e
theorem zhi:∀(more kvs:List (Key×V)),(zlf kvs more).length<=kvs.length+more.length
 | [],kvs=>by show kvs.length<=kvs.length+0;omega
 | p::r,kvs=>by
  have h1:=zhi r (putK kvs p.1 p.2)
  have h2:=zkj kvs p.1 p.2
  show(zlf (putK kvs p.1 p.2) r).length<=_
  rw[qAe];omega
theorem zrl:∀{kvs:List (Key×V)}{ws:List (Value×Value)},VV (kvs.map λkv=>(kV kv.1,kv.2)) ws->∃rs,Carries (zdl P w) ws rs/\KV kvs rs
 | [],_,r=>by rw[qB4]at r;cases r;exact⟨[],True.intro,.nil⟩
 | p::kvs,_,r=>by
  rw[qM]at r
  cases r with
  | @cons a b as bs h t=>
   obtain⟨rs,c,q⟩:=zrl (P:=P) (w:=w) t
   obtain⟨b1,b2⟩:=b
   exact⟨(p.1,b2)::rs,⟨zada h.1,rfl,c⟩,.cons ⟨rfl,h.2⟩ q⟩
noncomputable def tDisp(trs:List (TE×TE)):TE:=λσ H Q=>∀p,H p=none->zade trs σ (upd H p (.dK [])) λps H2=>H2 p=some (.dK [])/\∃kvs:List (Key×V),ps=kvs.map (λkv=>(kV kv.1,kv.2))/\kvs.length<=15/\Q (.ref p) (upd H2 p (.dK (zlf [] kvs)))
theorem zamb{keys:List (Option Expr)}{values:List Expr}(h:PPs X pos keys values trs)(hall:keys.all (·.isSome)=true)(hl:keys.length=values.length)(h0:keys≠[])
  (h15:keys.length<=15):PE X (.Dict keys values pos) (tDisp trs):=by
 intro pins s σ H Q I q
 have hn:=I.hok.fresh (qO s.heap.objs.size)
 have I1:=I.laid (a:=s.heap.objs.size) (o:=.dK []) (h':=s.heap.push {cls:=.type "dict",data:=.dict #[]}) (t':=s.toks) (λ_ _ q=>qF _ q) (qO _) (zzp s.heap I.big)
 refine wpAny_Dict_walk (knd:=zdl X.prog X.w) hall hl h0 h15 (thn (h pins _ σ _ _ I1 (q _ hn)) λws s2 ⟨ps,H2,I2,rel,e,kvs,ep,lk,q2⟩=>?_)
 subst ep
 obtain⟨rs,c,rk⟩:=zrl (P:=X.prog) (w:=X.w) rel
 obtain⟨z,hd,vs0,r0,dd⟩:=zahk I2.hok e
 cases r0
 refine⟨rs,c,dd,λh' dd' hs=>⟨.ref s.heap.objs.size,_,?_,rfl,q2⟩⟩
 have hz:(zlf [] kvs).length<=qZ:=by
  have h1:=zhi kvs []
  rw[qBi]at h1
  rw[qCh];omega
 have he:∃q,h'.get? s.heap.objs.size=some q:=let⟨q,_,_,hq,_⟩:=dd';⟨q,hq⟩
 exact zso I2 (by rw[e];exact True.intro) hs he (zadc hz hd (rk.merge .nil) dd')
set_option genInjectivity false in
set_option genInjectivity false in
section
variable{X:Cx}{pins:List (Addr×Obj)}{σ:St}{H:Hp}{s:Shared}{a:Addr}{y d:V}{u r:Value}{o:Option V}{A:Around}{E:Value->Shared->Prop}
end
end L2
namespace Att
open PySem PySem.W PySem.Calls PyProof.Rows
theorem zpa:∀(ns:List Int)(vs:List Value),WellAll P h vs (ns.map WData.int)->IntsAre vs ns:=by
 intro ns
 induction ns with
 | nil=>
  intro vs w
  rw[qB4]at w
  cases w
  exact .nil
 | cons n ns ih=>
  intro vs w
  rw[qM]at w
  cases w with
  | cons a b=>
   cases a
   exact .cons _ _ (ih _ b)
theorem zadf{l:OpenLaw}(hn:l.most=some n){h:Heap}
  (hpre:l.row.toRowW.claim.pre args=true)(hwl:WellAll P h vals args) :
  ∃a vs ns,vals=[Value.ref a]/\args=[WData.list (ns.map WData.int)]/\h.get? a=some {cls:=.type "list",data:=.seq vs.toArray}/\IntsAre vs ns/\ns.length<=n:=by
 have hsh:WShape.hasAll [] args [.list .int]=true:=(pre_splitW hpre).1
 have hc:l.pre.holds [] {args:=args}=true:=(pre_splitW hpre).2
 obtain⟨d,r,rfl,h1,h2⟩:=hasAllW_cons hsh
 obtain rfl:=hasAllW_nil h2
 obtain⟨xs,rfl,h3⟩:=hasW_list h1
 obtain⟨ns,rfl⟩:=items_int h3
 have hlen:ns.length<=n:=by
  unfold OpenLaw.pre at hc
  have h4:(WTm.not (.lt (.lit (.int (n:Int))) (.len (.arg 0)))).holds [] {args:=[.list (ns.map .int)]}=true:=by
   have h4:=(holds_andW hc).1
   rw[hn]at h4
   exact h4
  have h5:=condW_of h4 (w_not (w_lt w_lit (w_len_list (w_arg rfl))))
  rw[qD]at h5
  refine Nat.le_of_not_lt λq=>?_
  have q':(n:Int)<((ns.length:Nat):Int):=by omega
  first
   | (rw[decide_eq_true q']at h5;exact absurd h5 (by decide))
   | (simp at h5;omega)
 cases hwl with
 | cons w1 w2=>
  cases w2
  cases w1 with
  | list ho hall=>exact⟨_,_,ns,rfl,rfl,ho,zpa ns _ hall,hlen⟩
theorem zadg(l:OpenLaw)(args:List WData):l.row.toRowW.claim.post args (.bool true) args=true:=
 postW_of (r:=l.row.toRowW) (X:=(true==true))
  (show WShape.has [] (.bool true) .bool=true by first|rfl|decide|simp[WShape.has,WShape.arms,WShape.armsAll])
  (show(WTm.eq .res (.lit (.bool true))).value [] {args:=args,res:=some (.bool true),after:=args}=some (.bool (true==true))from w_eq_bool (w_res rfl) w_lit) rfl
theorem attach_call{l:OpenLaw}{XP:(Str->Option Value)->Heap->Prop}{YP:World->Heap->Prop}{d:DefRec}
  (hn:l.most=some n)(hdf:d.params.defaults=[])
  (call:∀(w:World)(s₀ s₁:Shared)(mg mb:Str->Option Value)(fa:Addr)(o:Obj)(pm cd doc:Value)(a:Addr)(vs:List Value)(ns:List Int),
   Ground q loose [] XP w s₀ mg mb s₁.heap->YP w s₁.heap->
   s₁.heap.get? fa=some o->o.data=.func (docDef d.name d.params d.body d.scope pm cd doc)->s₁.heap.CodeRec cd d.name->mg d.name=some (.ref fa)->
   s₁.heap.get? a=some {cls:=.type "list",data:=.seq vs.toArray}->IntsAre vs ns->ns.length<=n->s₁.gens=#[]->
   codeAny (model l.prog w) callerA (.call (.ref fa) ⟨[.ref a],[]⟩) (λr s'=>r=.ok (.ret (.bool true))/\OldK s₁.heap s'.heap/\s'.os=s₁.os/\AllBare s'.gens) s₁) :
  WalkO q loose XP YP l.row.toRowW d [] (λf vs=>PySem.call f vs):=by
 intro w s₀ s₁ mg mb G Y fa o pm cd doc dV kV ho hd hcd hD hmg hg args vals as hpre hlay hrd hwl hlo
 obtain rfl:dV=.none:=Dflts.none hD hdf
 obtain rfl:kV=.none:=Dflts.noKw hD
 obtain⟨a,vs,ns,rfl,rfl,hobj,hints,hlen⟩:=zadf hn hpre hwl
 refine enter_call (qBv (call w s₀ s₁ mg mb fa o pm cd doc a vs ns G Y ho (fd_plain hd) hcd hmg hobj hints hlen hg) λr s' hq=>?_)
 obtain⟨rfl,h2,h3,h4⟩:=hq
 exact⟨.inl ⟨.bool true,.bool true,[],rfl,λ_=>rfl,.bool true,zadg l _,λ_=>⟨List.Pairwise.nil,λ_ hm=>(nomatch hm)⟩⟩,h2,h3,h4⟩
end Att
namespace L2
open PySem PySem.Spec PyProof.Rows
theorem zuu:∀{vs:List Value}{ns:List Int},IntsAre vs ns->Vals (ns.map V.int) vs
 | _,_,.nil=>.nil
 | _,_,.cons n t h=>.cons ⟨t,rfl⟩ (zuu h)
noncomputable def Only(H:Hp):Prop:=∀b,H b=none\/∃o xs,H b=some (.frz o (.lst xs))
theorem zaho{K:qC}{mg mb:Str->Option Value}{s₁:Shared}{vs:List Value}{ns:List Int}
  (KX:K.In s₁.heap)(hns:s₁.heap.Ns qAE mg)(hb:s₁.heap.Ns builtinsNs mb)(hbb:∀x:Str,x≠"__name__"->mb x=bootBuiltins x)(hlim:s₁.heap.NoLimit)(hg:s₁.gens=#[])
  (ha:s₁.heap.get? a=some {cls:=.type "list",data:=.seq vs.toArray}) (hi:IntsAre vs ns) (hl:ns.length<=qZ) (hr:Room k callerA)
  (F:∀base:Heap,K.In base->base.Ns qAE mg->FnOk P w K mg base CX k fa fd [x] sp)(hbind:∀(s:Shared) (u:Value),BindsTo s fd ⟨[u],[]⟩ [(x,u)])
  (hsp:∀H:Hp,Only H->SqL K H a (ns.map V.int)->sp [.ref a] H (λv _=>v=.bl true) λ_ _ _=>False)
  (hCX:∀H e s',CX [] H s₁ (λ_ _ _=>False) e s'->False) :
  codeAny (model P w) callerA (.call (.ref fa) ⟨[.ref a],[]⟩) (λr s'=>r=.ok (.ret (.bool true))/\OldK s₁.heap s'.heap/\s'.os=s₁.os/\AllBare s'.gens) s₁:=by
 have rv:=zuu hi
 have lenV:=hi.length
 have core:∀H:Hp,Only H->SqL K H a (ns.map V.int)->HOk P w H s₁.heap->(∀b,H b≠none->b=a)->(H a≠none->K.lookup a=none)->
   codeAny (model P w) callerA (.call (.ref fa) ⟨[.ref a],[]⟩) (λr s'=>r=.ok (.ret (.bool true))/\OldK s₁.heap s'.heap/\s'.os=s₁.os/\AllBare s'.gens) s₁:=by
  intro H hO hS hok hA hK
  have base_of:∀{b:Addr}{o:Obj},s₁.heap.get? b=some o->H b=none->(hidT s₁.heap H).get? b=some o:=λe n=>zahb e n
  have noA:∀{b:Addr}{o:Obj}{es:Array DictEntry}{ep:Nat},s₁.heap.get? b=some o->o.data=.dict es ep->H b=none:=λ{b o es ep} e d=>by
   cases q:H b with
   | none=>rfl
   | some u=>
    have e':b=a:=hA b (by rw[q];simp)
    subst e'
    rw[ha]at e;cases e
    have d':Data.seq vs.toArray _=Data.dict es ep:=d
    cases d'
  have nsK:∀{b:Addr}{m:Str->Option Value},s₁.heap.Ns b m->(hidT s₁.heap H).Ns b m:=λ{b m} ⟨o,es,ep,e,d,r⟩=>⟨o,es,ep,base_of e (noA e d),d,r⟩
  have hKb:K.In (hidT s₁.heap H):=λb o e=>base_of (KX b o e) (by
   cases q:H b with
   | none=>rfl
   | some u=>
    have e':b=a:=hA b (by rw[q];simp)
    subst e'
    rw[hK (by rw[q];simp)]at e;cases e)
  have hM:Mod K mg (hidT s₁.heap H):=⟨hKb,nsK hns,⟨mb,nsK hb,hbb⟩,let⟨mc,h1,h2⟩:=hlim;⟨mc,nsK h1,h2⟩⟩
  have e0:Env0 P w K mg (hidT s₁.heap H) callerA [] s₁ H:=⟨rfl,hM,λb o e=>zalg e,Nat.le_of_eq (zacj _ _),trivial,λb hb=>absurd (show b∈([]:List Addr)from hb) (by simp),hok,.of_eq hg⟩
  refine qBv ((F _ hKb (nsK hns)).run callerA [] s₁ H ⟨[.ref a],[]⟩ [.ref a] [.ref a] _ _ hr e0 (hbind s₁ (.ref a)) (.cons rfl .nil) (hsp H hO hS)) λr s' h=>?_
  cases r with
  | error e=>exact(hCX H e s' h).elim
  | ok fl=>
   cases fl with
   | next=>exact False.elim h
   | brk=>exact False.elim h
   | cont=>exact False.elim h
   | ret u=>
    obtain⟨v,H',os,bare,un,hok',r',q⟩:=h
    have q':v=.bl true:=q
    subst q'
    obtain rfl:u=Value.bool true:=r'
    refine⟨rfl,OldK.of_keep λb o e=>?_,os,bare⟩
    cases q:H b with
    | none=>exact un.keep b o e q (by intro z;exact absurd (show b∈([]:List Addr)from z) (by simp)) (by simp)
    | some u=>
     rcases hO b with z|⟨ob,xs,z⟩
     ·rw[q]at z;cases z
     ·have z2:=un.frzs b ob _ z
      obtain⟨e1,_⟩:=hok b _ z
      obtain⟨e2,_⟩:=hok' b _ z2
      rw[e]at e1;cases e1
      exact e2
 cases hk:K.lookup a with
 | some o=>
  have e:=KX a o hk
  rw[ha]at e
  cases e
  refine core (λ_=>none) (λ_=>.inl rfl) (.inr ⟨_,vs.toArray,_,hk,rfl,rfl,rfl,by rw[qU,lenV];exact hl,by simpa using rv⟩) (λb u z=>by have z':(none:Option HO)=some u:=z;cases z') (λb z=>absurd rfl z) λz=>absurd rfl z
 | none=>
  refine core (λb=>if b=a then some (.frz {cls:=.type "list",data:=.seq vs.toArray} (.lst (ns.map V.int)))else none) (λb=>?_) (.inl (.inr ⟨{cls:=.type "list",data:=.seq vs.toArray},if_pos rfl⟩)) (λb u z=>?_) (λb z=>?_) λ_=>hk
  ·by_cases hb:b=a
   ·exact .inr ⟨_,_,if_pos hb⟩
   ·exact .inl (if_neg hb)
  ·by_cases hb:b=a
   ·have z':=(if_pos hb).symm.trans z
    cases z'
    subst hb
    exact⟨ha,by rw[qD];exact hl,vs,_,rv,ha⟩
   ·have z':=(if_neg hb).symm.trans z
    cases z'
  ·by_cases hb:b=a
   ·exact hb
   ·exact absurd (if_neg hb) z
theorem walk_of{l:PySem.W.OpenLaw}{XP:(Str->Option Value)->Heap->Prop}{YP:World->Heap->Prop}{d:DefRec}{K:Params->qC}{CX:World->CXT}{sp:World->Sp}
  (hn:l.most=some n)(hn2:n<=qZ)(hdf:d.params.defaults=[])(hr:Room k callerA)
  (hY:∀(w:World) (h:Heap),YP w h->(K w.params).In h)
  (F:∀(w:World)(mg:Str->Option Value)(fa:Addr)(h:Heap),(K w.params).In h->h.Ns qAE mg->mg d.name=some (.ref fa)->
   ∃fd:qx,(∀(s:Shared)(u:Value),BindsTo s fd ⟨[u],[]⟩ [(x,u)])/\
    ∀base:Heap,(K w.params).In base->base.Ns qAE mg->FnOk l.prog w (K w.params) mg base (CX w) k fa fd [x] (sp w))
  (hsp:∀(w:World) (H:Hp) (a:Addr) (ns:List Int),ns.length<=n->Only H->SqL (K w.params) H a (ns.map V.int)->sp w [.ref a] H (λv _=>v=.bl true) λ_ _ _=>False)
  (hCX:∀(w:World) (H:Hp) (s:Shared) (e:Value) (s':Shared),CX w [] H s (λ_ _ _=>False) e s'->False) :
  PySem.W.WalkO q loose XP YP l.row.toRowW d [] (λf vs=>PySem.call f vs):=by
 refine Att.attach_call hn hdf λw s₀ s₁ mg mb fa o pm cd doc a vs ns G Y ho hd hcd hmg hobj hints hlen hg=>?_
 have KX:=hY w _ Y
 obtain⟨fd,hb,hF⟩:=F w mg fa _ KX G.T.g hmg
 exact zaho KX G.T.g G.T.b G.T.builtins G.T.nolimit hg hobj hints (qAS hlen hn2) hr hF hb (λH hO hS=>hsp w H a ns hlen hO hS) λH e s'=>hCX w H s₁ e s'
end L2
namespace L2
open PySem PySem.Spec PyProof.Rows
noncomputable def zfx(s:Stmt):Arguments:=match s with
 | .FunctionDef _ a _ _ _ _ _ _ _ _=>a
 | _=>{posonlyargs:=[],args:=[],vararg:=none,kwonlyargs:=[],kw_defaults:=[],kwarg:=none,defaults:=[]}
noncomputable def zfi(s:Stmt):List Stmt:=match s with
 | .FunctionDef _ _ b _ _ _ _ _ _ _=>b
 | _=>[]
noncomputable def zaq(s:Stmt):Scope:=match s with
 | .FunctionDef _ _ _ _ _ _ sc _ _ _=>sc
 | _=>{kind:=.function,names:=[],isGenerator:=false,isCoroutine:=false}
noncomputable abbrev CX0:CXT:=λ_ _ _ _ _ _=>False
noncomputable abbrev E0:XK:=λ_ _ _=>False
theorem zart:zacs CX0 X E0:=λ_ _ _ _ _ _ _ h=>h.elim
set_option genInjectivity false in
structure Fun(K:qC)(x qual:Str)(st:Stmt)(f:Addr)(fd:qx):Prop where
 ex:∃(oc:Value)(od:Option Addr)(kV doc pm:Value)(an:Option Addr)(cdv ct:Value)(osl:Array (Option Value)),
  fd=qAh x qual (zfx st) (zfi st) (zaq st) .none kV doc pm an cdv ct/\K.lookup f=some ⟨oc,od,.func fd,osl⟩/\qBg K cdv qual=true
 kp:qBN K (.ref f)=true
section
variable{P:Program}{w:World}{K:qC}{mg:Str->Option Value}{base:Heap}
theorem Fun.ok{x qual:Str}{st:Stmt}{f:Addr}{fd:qx}{N ps:List Str}{k:Nat}{sp:Sp}(F:Fun K x qual st f fd)(S:FnScope N ps (zaq st))(len:∀vs H Q E,sp vs H Q E->vs.length=ps.length)
  (hbody:∀(cdv:Value)(A:Around)(outer:List Env)(s:Shared)(H:Hp)(vs:List V)(Q:VK)(E:XK),Room k (A.deeper (envOfC qual (zaq st) s.heap.objs.size f cdv))->sp vs H Q E->
   ∃t,PSs (cxOf CX0 P w K mg base N qual (zaq st) f cdv A outer s H E).nox (zfi st) t/\t {nx:=λ_ H'=>Q .non H',rt:=Q} (start N vs) H):FnOk P w K mg base CX0 (k+1) f fd ps sp:=by
 obtain⟨oc,od,kV,doc,pm,an,cdv,ct,osl,rfl,lk,hcd⟩:=F.ex
 refine zarq lk hcd S len λA outer s H vs Q E hr hsp=>?_
 obtain⟨t,h,q⟩:=hbody cdv A outer s H vs Q E hr hsp
 exact⟨t,h.nox,q⟩
theorem Fun.binds{x qual:Str}{st:Stmt}{f:Addr}{fd:qx}{ps:List Str}(F:Fun K x qual st f fd)
  (h:∀(kV doc pm:Value) (an:Option Addr) (cdv ct:Value) (us:List Value),us.length=ps.length->bindArgs (qAh x qual (zfx st) (zfi st) (zaq st) .none kV doc pm an cdv ct) ⟨us,[]⟩=pure (ps.zip us)):zoy K fd ps []:=by
 obtain⟨oc,od,kV,doc,pm,an,cdv,ct,osl,rfl,lk,hcd⟩:=F.ex
 exact .all (h kV doc pm an cdv ct)
theorem zapj{x qual:Str}{st:Stmt}{f:Addr}{oc:Value}{od an:Option Addr}{osl:Array (Option Value)}{kV doc pm cdv ct:Value}(l:K.lookup f=some ⟨oc,od,.func (qAh x qual (zfx st) (zfi st) (zaq st) .none kV doc pm an cdv ct),osl⟩)
  (c:qBg K cdv qual=true) (k:qBN K (.ref f)=true):Fun K x qual st f (qAh x qual (zfx st) (zfi st) (zaq st) .none kV doc pm an cdv ct):=⟨⟨oc,od,kV,doc,pm,an,cdv,ct,osl,rfl,l,c⟩,k⟩
end
theorem zer{A:Around}(hr:Room k A):A.units+1<cLine:=qAu (Nat.add_le_add_left (by decide:1<=64) _) hr.units
section
variable{X:Cx}
theorem pv(i:Nat)(hN:X.N[i]?=some x:=by rfl)(hv:visB X.env.scope x=true:=by rfl)(hd:(x==("__debug__":Str))=false:=by decide)
  (hcd:(x==("__classdict__":Str))=false:=by decide):PE X (.Name x pos) (tVar i):=zaka hN (visB.of hv) hd hcd
end
theorem iteF{A B:Prop}(h:B):if false=true then A else B:=by
 rw[if_neg qT]
 exact h
theorem iteT{A B:Prop}(h:A):if true=true then A else B:=by
 rw[if_pos rfl]
 exact h
theorem ite2{c A B:Prop}[Decidable c](h1:c->A)(h2:¬c->B):if c then A else B:=by
 by_cases h:c
 ·rw[if_pos h]
  exact h1 h
 ·rw[if_neg h]
  exact h2 h
noncomputable def Same(H H':Hp):Prop:=∀b o,H b=some o->H' b=some o
theorem Same.refl(H:Hp):Same H H:=λ_ _ h=>h
theorem Same.trans(a:Same H H1)(b:Same H1 H2):Same H H2:=λc o h=>b c o (a c o h)
theorem Same.free(e:Same H H')(h:H' l=none):H l=none:=by
 cases q:H l with
 | none=>rfl
 | some o=>
  rw[e l o q]at h
  cases h
theorem Same.seq{K:qC}{H H':Hp}{a:Addr}{xs:List V}(e:Same H H')(h:SqL K H a xs):SqL K H' a xs:=by
 rcases h with(h|⟨o,h⟩)|h
 ·exact .inl (.inl (e _ _ h))
 ·exact .inl (.inr ⟨o,e _ _ h⟩)
 ·exact .inr h
section
variable{κ:Type}[DecidableEq κ]
theorem zxr:∀{l:List κ}{k:κ},l.Nodup->¬k∈l->(l++[k]).Nodup
 | [],k,_,_=>by simp
 | a::r,k,h,hk=>by
  obtain⟨h1,h2⟩:=qo.mp h
  show(a::(r++[k])).Nodup
  refine qo.mpr ⟨λm=>?_,zxr h2 λm=>hk (qP.mpr (Or.inr m))⟩
  rcases qV.mp m with q|q
  ·exact h1 q
  ·exact hk (qP.mpr (Or.inl (qf.mp q).symm))
end
end L2
set_option maxHeartbeats 4000000
namespace L2
open PySem PySem.Spec PyProof.Rows
noncomputable def clos(cells:List (Str×Addr)):List (Str×NameKind)->List (Str×Addr)->List (Str×Addr)
 | [],acc=>acc
 | (n,k)::r,acc=>if k==.free then clos cells r ((n,(cells.lookup n).getD 0)::acc)else clos cells r acc
theorem zsp{cells:List (Str×Addr)}:∀{names:List (Str×NameKind)}{acc:List (Str×Addr)},(∀y∈names,y.2=.free->∃c,cells.lookup y.1=some c)->∀p∈clos cells names acc,p∈acc\/((p.1,NameKind.free)∈names/\cells.lookup p.1=some p.2)
 | [],acc,_,p,hp=>.inl hp
 | (n,k)::r,acc,h,p,hp=>by
  unfold clos at hp
  have hr:∀y∈r,y.2=.free->∃c,cells.lookup y.1=some c:=λy hy=>h y (qQ _ hy)
  split at hp
  ·rename_i hk
   rcases zsp hr p hp with q|q
   ·rcases qP.mp q with q|q
    ·subst q
     have hk':k=.free:=by simpa using hk
     subst hk'
     obtain⟨c,hc⟩:=h (n,.free) qb rfl
     exact .inr ⟨qb,by show cells.lookup n=some ((cells.lookup n).getD 0);rw[hc];rfl⟩
    ·exact .inl q
   ·exact .inr ⟨qQ _ q.1,q.2⟩
  ·rcases zsp hr p hp with q|q
   ·exact .inl q
   ·exact .inr ⟨qQ _ q.1,q.2⟩
theorem zsq:∀{names:List (Str×NameKind)}{acc:List (Str×Addr)},∀p∈acc,p∈clos cells names acc
 | [],acc,p,hp=>hp
 | (n,k)::r,acc,p,hp=>by
  unfold clos
  split
  ·exact zsq p (qQ _ hp)
  ·exact zsq p hp
theorem zsr:∀{names:List (Str×NameKind)}{acc:List (Str×Addr)},(x,NameKind.free)∈names->∃c,(x,c)∈clos cells names acc
 | [],_,h=>by simp at h
 | (n,k)::r,acc,h=>by
  unfold clos
  rcases qP.mp h with e|h
  ·cases e
   rw[if_pos (show(NameKind.free==NameKind.free)=true by decide)]
   exact⟨_,zsq _ qb⟩
  ·split
   ·exact zsr h
   ·exact zsr h
theorem zlg:∀{l:List (Str×α)},(x,c)∈l->∃c',l.lookup x=some c'
 | [],h=>by simp at h
 | (k,v)::r,h=>by
  rw[qAN]
  cases hb:x==k with
  | true=>exact⟨v,rfl⟩
  | false=>
   rcases qP.mp h with e|h
   ·cases e;simp at hb
   ·exact zlg h
theorem zlh{scope:Scope}{env:Env}(h:∀y∈scope.names,y.2=.free->∃c,env.cells.lookup y.1=some c):closureFor scope env=pure (clos env.cells scope.names []):=by
 unfold closureFor
 have key:∀(names:List (Str×NameKind))(acc:List (Str×Addr)),(∀y∈names,y.2=.free->∃c,env.cells.lookup y.1=some c)->
   (forIn names acc (λ(x:Str×NameKind) (r:List (Str×Addr))=>(if(x.2==.free)=true then(do let a <- cellOf env x.1;pure (ForInStep.yield ((x.1,a)::r)))else pure (ForInStep.yield r):Sem (ForInStep (List (Str×Addr))))))=pure (clos env.cells names acc):=by
  intro names
  induction names with
  | nil=>intro acc _;rfl
  | cons y r ih=>
   intro acc hy
   obtain⟨n,k⟩:=y
   have hr:=λy (hm:y∈r)=>hy y (qQ _ hm)
   rw[qCI]
   unfold clos
   cases hk:(k==NameKind.free)with
   | true=>
    have hk':k=.free:=by simpa using hk
    subst hk'
    obtain⟨c,hc⟩:=hy (n,.free) qb rfl
    have e1:cellOf env n=pure c:=by unfold cellOf;rw[hc]
    simp only[if_true]
    have hc':env.cells.lookup n=some c:=hc
    rw[e1,hc']
    simp only[pure_bind,Option.getD_some]
    exact ih _ hr
   | false=>
    simp only[qBx,if_false,pure_bind]
    exact ih _ hr
 simpa using key scope.names [] h
theorem zfr:∀(names:List (Str×NameKind))(n:Nat)(acc:List (Str×Addr)),cellsFrom n names acc=cellsFrom n names []++acc
 | [],_,_=>rfl
 | (name,kind)::r,n,acc=>by
  unfold cellsFrom
  split
  ·rw[zfr r (n+1) ((name,n)::acc),zfr r (n+1) [(name,n)],qAQ];rfl
  ·exact zfr r n acc
theorem zfs:∀(names:List (Str×NameKind))(n:Nat)(acc:List (Str×Addr)),(x,c)∈cellsFrom n names acc->(x,c)∈acc\/(x,NameKind.cell)∈names
 | [],_,_,h=>.inl h
 | (name,kind)::r,n,acc,h=>by
  unfold cellsFrom at h
  split at h
  ·rename_i hk
   have hk':kind=.cell:=by simpa using hk
   subst hk'
   rcases zfs r _ _ h with q|q
   ·rcases qP.mp q with q|q
    ·cases q;exact .inr qb
    ·exact .inl q
   ·exact .inr (qQ _ q)
  ·rcases zfs r _ _ h with q|q
   ·exact .inl q
   ·exact .inr (qQ _ q)
theorem zjl:∀{l r:List (Str×α)},(l++r).lookup x=(l.lookup x).or (r.lookup x)
 | [],_=>by simp
 | (k,v)::l,r=>by
  rw[qB9,qAN,qAN]
  cases x==k with
  | true=>rfl
  | false=>exact zjl
theorem zfa{env:Env}:∀{names:List (Str×NameKind)},
  (names.map λ(n,k)=>if(k==NameKind.free&&env.scope.kind==.function&&env.kindOf n==some .cell)then(n,NameKind.cell)else(n,k)).lookup x=some k'->
  ∃k,names.lookup x=some k/\(k'=k\/(k=.free/\k'=.cell))
 | [],h=>by simp at h
 | (n,k)::r,h=>by
  rw[qM]at h
  by_cases hc:(k==NameKind.free&&env.scope.kind==.function&&env.kindOf n==some .cell)=true
  ·simp only[hc,if_true]at h
   rw[qAN]at h ⊢
   cases hx:x==n with
   | true=>
    rw[hx]at h
    have hk:k=.free:=by simp at hc;exact hc.1.1
    exact⟨k,rfl,.inr ⟨hk,(qe h).symm⟩⟩
   | false=>rw[hx]at h;exact zfa h
  ·simp only[hc,qBx,if_false]at h
   rw[qAN]at h ⊢
   cases hx:x==n with
   | true=>rw[hx]at h;exact⟨k,rfl,.inl (qe h).symm⟩
   | false=>rw[hx]at h;exact zfa h
theorem zie{env:Env}:∀{names:List (Str×NameKind)},names.lookup x=some .free->
  ((names.map λ(n,k)=>if(k==NameKind.free&&env.scope.kind==.function&&env.kindOf n==some .cell)then(n,NameKind.cell)else(n,k)).lookup x=some .free\/
   (names.map λ(n,k)=>if(k==NameKind.free&&env.scope.kind==.function&&env.kindOf n==some .cell)then(n,NameKind.cell)else(n,k)).lookup x=some .cell)
 | [],h=>by simp at h
 | (n,k)::r,h=>by
  rw[qM]
  rw[qAN]at h
  by_cases hc:(k==NameKind.free&&env.scope.kind==.function&&env.kindOf n==some .cell)=true
  ·simp only[hc,if_true]
   rw[qAN]
   cases hx:x==n with
   | true=>exact .inr rfl
   | false=>rw[hx]at h;exact zie h
  ·simp only[hc,qBx,if_false]
   rw[qAN]
   cases hx:x==n with
   | true=>rw[hx]at h;exact .inl h
   | false=>rw[hx]at h;exact zie h
theorem zabh{E:Value->Shared->Prop}{s:Shared}{scope:Scope}{env:Env}{Q:Env->Shared->Prop}
  (hQ:∀h',(∀b o,s.heap.get? b=some o->h'.get? b=some o)->h'.Ns s.heap.objs.size (λ_=>none)->(∀n c,(n,c)∈cellsFrom (s.heap.objs.size+1) scope.names []->h'.IsCell c none/\s.heap.objs.size+1<=c)->
   ((cellsFrom (s.heap.objs.size+1) scope.names []).Pairwise λx y=>x.2≠y.2)->
   Q {scope:=scope,locals:=s.heap.objs.size,globals:=globals,cells:=cellsFrom (s.heap.objs.size+1) scope.names []++cl,qual:=qual,func:=none,code:=env.code,frame:=env.frame,builtins:=env.builtins} {s with heap:=h'}) :
  wpAny M A (newFunctionEnv scope globals cl [] qual none .none (some env)) Q E s:=by
 simp only[newFunctionEnv,qCs,if_true]
 refine qG (wpAny_alloc ?_)
 refine qG (wpAny_layCells _ (λname kind cells=>by cases hkc:kind==NameKind.cell<;>simp[hkc]) _ _ _ _ ?_)
 have ok:=cellsFrom_ok scope.names (s.heap.push {cls:=.type "dict",data:=.dict #[]}) (s.heap.objs.size+1) [] ⟨λ_ _ hm=>(nomatch hm),List.Pairwise.nil⟩ (by rw[qAv];exact qO _)
 rw[qAv]at ok
 rw[show({s with heap:=s.heap.push {cls:=.type "dict",data:=.dict #[]}}:Shared).heap.objs.size=s.heap.objs.size+1 from qAv ..]
 rw[zfr]
 refine qG ?_
 refine qi (qi ?_)
 exact hQ _ (λb o e=>pushCells_keeps _ _ b o (qF _ e)) ((Heap.Ns.new s.heap (.type "dict")).keeps (pushCells_keeps _ _)) ok.empty ok.apart
noncomputable def cxComp(X:Cx)(scope:Scope)(N' own:List Str)(cl:List (Str×Addr))(C:Addr)(s:Shared)(H:Hp)(fp:List Addr):Cx:=
 {X with N:=N',s₀:=s,H₀:=H,env:=compEnvC scope cl C X.env,outer:=X.stack,stack:=X.stack,ex:=fp,fn:=λx=>own.contains x,pn:=[],xe:=λ_ _=>False}
structure CompOk(X:Cx)(scope:Scope)(N' own:List Str)(fr:List Nat):Prop where
 kind:scope.kind=.function
 names:∀y∈scope.names,scope.names.lookup y.1=some y.2
 up:∀y∈scope.names,y.2=.free->(X.env.kindOf y.1=some .cell\/X.env.kindOf y.1=some .free)
 nm:N'=own++fr.map (λj=>X.N.getD j Str.empty)
 fr:∀j∈fr,j<X.N.length/\scope.names.lookup (X.N.getD j Str.empty)=some .free
 own:∀x∈own,scope.names.lookup x=some .local\/scope.names.lookup x=some .cell
noncomputable def tau(own:List Str)(fr:List Nat)(σ:St):St:=own.map (λ_=>none)++fr.map (λj=>σ.getD j none)
section
variable{X:Cx}{pins:List (Addr×Obj)}{σ:St}{H:Hp}{s:Shared}{scope:Scope}{N' own:List Str}{fr:List Nat}
theorem zmk(c:CompOk X scope N' own fr)(ok:X.Ok):∀y∈scope.names,y.2=.free->∃a,X.env.cells.lookup y.1=some a:=λy hy e=>ok.has y.1 (c.up y hy e)
theorem zahp{h':Heap}(c:CompOk X scope N' own fr)(I:Inv X pins σ H s)
  (hf:∀b∈fp,FpOk X pins H b)(ho:∀b∈fp,∃o,s.heap.get? b=some o/\∀v,o.data≠.cell v)
  (keep:∀b o,s.heap.get? b=some o->h'.get? b=some o)(ns:h'.Ns s.heap.objs.size (λ_=>none))
  (cells:∀n c,(n,c)∈cellsFrom (s.heap.objs.size+1) scope.names []->h'.IsCell c none/\s.heap.objs.size+1<=c)
  (apart:(cellsFrom (s.heap.objs.size+1) scope.names []).Pairwise λx y=>x.2≠y.2) :
  Inv (cxComp X scope N' own (cellsFrom (s.heap.objs.size+1) scope.names []++clos X.env.cells scope.names []) s.heap.objs.size s H fp) [] (tau own fr σ) H {s with heap:=h'}:=by
 have found:=zmk c I.ok
 have clm:∀x a,(x,a)∈clos X.env.cells scope.names []->(x,NameKind.free)∈scope.names/\X.env.cells.lookup x=some a:=λx a hm=>by
  rcases zsp found (x,a) hm with q|q
  ·simp at q
  ·exact q
 have look:∀x a,(cellsFrom (s.heap.objs.size+1) scope.names []++clos X.env.cells scope.names []).lookup x=some a->
   ((x,a)∈cellsFrom (s.heap.objs.size+1) scope.names []/\(x,NameKind.cell)∈scope.names)\/((x,NameKind.free)∈scope.names/\X.env.cells.lookup x=some a):=λx a e=>by
  rw[zjl]at e
  cases q:(cellsFrom (s.heap.objs.size+1) scope.names []).lookup x with
  | some b=>
   rw[q]at e
   cases e
   have hm:=qAM q
   rcases zfs _ _ _ hm with z|z
   ·simp at z
   ·exact .inl ⟨hm,z⟩
  | none=>
   rw[q]at e
   exact .inr (clm x a (qAM e))
 have lookF:∀x a,(x,NameKind.free)∈scope.names->X.env.cells.lookup x=some a->(cellsFrom (s.heap.objs.size+1) scope.names []++clos X.env.cells scope.names []).lookup x=some a:=λx a hx e=>by
  rw[zjl]
  have q:(cellsFrom (s.heap.objs.size+1) scope.names []).lookup x=none:=by
   cases q:(cellsFrom (s.heap.objs.size+1) scope.names []).lookup x with
   | none=>rfl
   | some b=>
    rcases zfs _ _ _ (qAM q)with z|z
    ·simp at z
    ·have h1:=c.names _ hx
     have h2:=c.names _ z
     rw[h1]at h2
     cases h2
  rw[q]
  obtain⟨d,hd⟩:=zsr (cells:=X.env.cells) (acc:=[]) hx
  obtain⟨d',hd'⟩:=zlg hd
  have:=(clm x d' (qAM hd')).2
  rw[e]at this
  cases this
  exact hd'
 have below:∀b o,s.heap.get? b=some o->b<s.heap.objs.size:=λb o e=>qR e
 have cold:∀x a,X.env.cells.lookup x=some a->a<s.heap.objs.size:=λx a e=>let⟨v,q⟩:=I.cell x a e;q.lt
 refine⟨⟨I.ok.mod,c.kind,I.ok.glob,I.ok.blt,qO _,?inj,?has,?cab,I.ok.hd,I.ok.frames,.inl rfl,?exf,I.bs,qAS I.ok.bsz I.sz,?noex,?exfs,I.stack,I.stkFree⟩,
  rfl,I.bare,Un.kept keep,⟨_,ns,?loc⟩,?cell,I.hok.fresh (qO _),?freeC,?pin,I.hok.kept keep,?len⟩
 case inj=>
  intro x y a h1 h2
  rcases look x a h1 with⟨m1,k1⟩|⟨k1,e1⟩<;>rcases look y a h2 with⟨m2,k2⟩|⟨k2,e2⟩
  ·exact name_of_addr apart m1 m2
  ·exact absurd (qh (cold y a e2) (qB3 (cells x a m1).2)) (qAz _)
  ·exact absurd (qh (cold x a e1) (qB3 (cells y a m2).2)) (qAz _)
  ·exact I.ok.inj x y a e1 e2
 case has=>
  intro x hx
  have hx':(∃k,scope.names.lookup x=some k/\(k=.cell\/k=.free)):=by
   rcases hx with hx|hx
   ·obtain⟨k,e,q⟩:=zfa (env:=X.env) (names:=scope.names) hx
    rcases q with q|⟨q,_⟩
    ·exact⟨k,e,.inl q.symm⟩
    ·exact⟨k,e,.inr q⟩
   ·obtain⟨k,e,q⟩:=zfa (env:=X.env) (names:=scope.names) hx
    rcases q with q|⟨q,_⟩
    ·exact⟨k,e,.inr q.symm⟩
    ·exact⟨k,e,.inr q⟩
  obtain⟨k,e,q⟩:=hx'
  show ∃a,(cellsFrom (s.heap.objs.size+1) scope.names []++clos X.env.cells scope.names []).lookup x=some a
  rcases q with rfl|rfl
  ·obtain⟨a,ha⟩:=zsk (n:=s.heap.objs.size+1) e
   exact⟨a,by rw[zjl,ha];rfl⟩
  ·obtain⟨a,ha⟩:=found _ (qAM e) rfl
   exact⟨a,lookF x a (qAM e) ha⟩
 case cab=>
  intro x a hx e
  have hx:own.contains x=true:=hx
  have hx':x∈own:=by simpa using hx
  rcases look x a e with⟨m1,_⟩|⟨k1,_⟩
  ·have:=(cells x a m1).2
   show s.heap.objs.size<=a
   omega
  ·have h1:=c.names _ k1
   rcases c.own x hx' with h2|h2
   ·rw[h1]at h2;cases h2
   ·rw[h1]at h2;cases h2
 case exf=>
  intro b hb
  obtain⟨o,e,d⟩:=ho b hb
  refine⟨qp (below b o e),λx a q z=>?_⟩
  subst z
  rcases look x a q with⟨m1,_⟩|⟨k1,e1⟩
  ·exact absurd (qh (below a o e) (qB3 (cells x a m1).2)) (qAz _)
  ·obtain⟨v,o',e',d'⟩:=I.cell x a e1
   rw[e]at e'
   cases e'
   exact d v d'
 case noex=>
  intro b o e hb
  rcases(hf b hb).2.2.2.1 with z|z
  ·exact I.ok.noex b o e z
  ·exact absurd (qh (qh (qR e) I.ok.bsz) z) (qAz _)
 case exfs=>
  intro b hb z
  rcases qP.mp (I.stkSub b z)with q|q
  ·exact(hf b hb).2.1 q
  ·exact(hf b hb).2.2.1 q
 case loc=>
  intro i x v h1 h2 h3
  have h1:N'[i]?=some x:=h1
  rw[c.nm]at h1
  unfold tau at h2
  by_cases hi:i<own.length
  ·rw[qI (by simpa using hi),qS]at h2
   cases q:own[i]? with
   | none=>rw[q]at h2;cases h2
   | some z=>rw[q]at h2;cases h2
  ·rw[qH (by simpa using hi),qS,qD]at h2
   rw[qH (by simpa using hi),qS]at h1
   cases q:fr[i - own.length]? with
   | none=>rw[q]at h2;cases h2
   | some j=>
    rw[q]at h1 h2
    have e1:X.N.getD j Str.empty=x:=qe h1
    have e2:σ.getD j none=some v:=qe h2
    obtain⟨hj,hfree⟩:=c.fr j (qj q)
    rw[e1]at hfree
    have hNj:X.N[j]?=some x:=by
     rw[<- e1,qAB,qL hj];rfl
    have hσj:σ[j]?=some (some v):=by
     rw[qAB]at e2
     cases z:σ[j]? with
     | none=>rw[z]at e2;cases e2
     | some w=>rw[z]at e2;rw[show w=some v from e2]
    have hmem:(x,NameKind.free)∈scope.names:=qAM hfree
    have hup:=c.up _ hmem rfl
    obtain⟨m,hn,hl⟩:=I.loc
    obtain⟨u,ru,lk⟩:=hl j x v hNj hσj (by rcases hup with z|z;exact .inr (.inl z);exact .inr (.inr z))
    refine⟨u,ru,.inr ⟨?_,?_⟩⟩
    ·rcases zie (env:=X.env) (names:=scope.names) hfree with z|z
     ·exact .inr z
     ·exact .inl z
    ·rcases lk with⟨k1,_⟩|⟨_,a,ha,hc⟩
     ·rcases hup with z|z
      ·rw[show X.env.kindOf x=some .cell from z]at k1;cases k1
      ·rw[show X.env.kindOf x=some .free from z]at k1;cases k1
     ·exact⟨a,lookF x a hmem ha,hc.keeps keep⟩
 case cell=>
  intro x a e
  rcases look x a e with⟨m1,_⟩|⟨k1,e1⟩
  ·exact⟨_,(cells x a m1).1⟩
  ·obtain⟨v,q⟩:=I.cell x a e1
   exact⟨v,q.keeps keep⟩
 case freeC=>
  intro x a e
  rcases look x a e with⟨m1,_⟩|⟨k1,e1⟩
  ·exact I.hok.fresh (by have:=(cells x a m1).2;omega)
  ·exact I.freeC x a e1
 case pin=>intro p hp;exact absurd (show p∈([]:List (Addr×Obj))from hp) (by simp)
 case len=>
  show(tau own fr σ).length=N'.length
  rw[c.nm];unfold tau;simp
end
noncomputable abbrev TM:=St->Hp->(St->Hp->Prop)->Prop
noncomputable def PM(X:Cx)(act:Sem Unit)(t:TM):Prop:=
 ∀(pins:List (Addr×Obj))(s:Shared)(σ:St)(H:Hp)(Q:St->Hp->Prop),Inv X pins σ H s->t σ H Q->wpAny (model X.prog X.w) X.A act (λ_ s'=>∃σ' H',Inv X pins σ' H' s'/\Q σ' H') X.xe s
noncomputable def PF(X:Cx)(ifs:List Expr)(t:TT):Prop:=
 ∀(pins:List (Addr×Obj))(s:Shared)(σ:St)(H:Hp)(Q:Bool->Hp->Prop),Inv X pins σ H s->t σ H Q->
  wpAny (model X.prog X.w) X.A (forIn ifs true λc r=>if r=true then do let ok <- isTrue c X.env (eval c X.env);pure (ForInStep.yield ok)else pure (ForInStep.yield r)) (TP X pins σ Q) X.xe s
noncomputable def tAll:TT:=λ_ H Q=>Q true H
section
variable{X:Cx}
theorem zapk:PF X [] tAll:=λ_ s σ H Q I h=>wpAny_tests_nil ⟨H,I,h⟩
theorem zapl(h:PT X c t):PF X [c] t:=λpins s σ H Q I q=>wpAny_tests_one (h pins s σ H Q I q)
noncomputable def zabi(p:Addr)(te:TE):TM:=λσ H Q=>te σ H λv H1=>∃ys,H1 p=some (.lst ys)/\ys.length<qZ/\Q σ (upd H1 p (.lst (ys++[v])))
theorem zxs(h:PE X elt te):PM X (do let _ <- call (.builtin "list.append") [.ref p,<- eval elt X.env]) (zabi p te):=by
 intro pins s σ H Q I q
 refine qG (thn (h pins s σ H _ I q) λu s1 ⟨v,H1,I1,r,ys,hp,hz,q1⟩=>?_)
 refine qG (thn (zbi pins s1 σ H1 (.ref p) [v] (.ref p) [u] (λ_ H2=>Q σ H2) I1 rfl (.cons r .nil) ⟨p,ys,v,rfl,rfl,hp,hz,q1⟩) λ_ s2 ⟨_,H2,I2,_,q2⟩=>?_)
 exact qi ⟨σ,H2,I2,q2⟩
noncomputable def zadh(J:It)(g:TG)(tt:TT)(tm:TM):TM:=λσ H Q=>∃W:Nat->Nat->St->Hp->Prop,(∃m,W 0 m σ H)/\∀i m σ H,W i m σ H->
 (J.stop i H/\Q σ H)\/(J.go i H/\∃N:St->Hp->Prop,(∀σ' H',N σ' H'->∃m',m'<m/\W (i+1) m' σ' H')/\∀x H',J.yld i H x H'->g x σ H' λσ2 H2=>tt σ2 H2 λb H3=>if b=true then tm σ2 H3 N else N σ2 H3)
theorem zpb{tn:Nat->Heap->Prop}{s:Shared}{Q:St->Hp->Prop}
  (hx:X.xe=λ_ _=>False)(hc:X.calm=true)
  (eq:compTurn (.ListComp elt0 gens scope cpos) depth (.ref it) acc X.env=(do
   standAt ip
   match <- pyNext (.ref it)with
   | none=>pure (.done .next)
   | some v=>
    letOwnedTupleGo target (.ref it) v
    assign target X.env v
    let mut ok:=true
    for c in ifs do
     if ok then ok <- isTrue c X.env (eval c X.env)
    if ok then emit
    again (.compLoop (.ListComp elt0 gens scope cpos) depth (.ref it) acc X.env)))
  (T:Turn X.prog X.w X.K target J fp it tn)(hg:PG X target g)(ht:PF X ifs tt)(hm:PM X emit tm)
  (I:Inv X pins σ H s)(st:tn 0 s.heap)(hf:∀b∈fp,FpOk X pins H b)(h:zadh J g tt tm σ H Q) :
  codeAny (model X.prog X.w) X.A (.compLoop (.ListComp elt0 gens scope cpos) depth (.ref it) acc X.env) (λr s'=>r=.ok .next/\∃σ' H',Inv X pins σ' H' s'/\Q σ' H') s:=by
 obtain⟨W,⟨m0,w0⟩,turn⟩:=h
 have stat:∀{H':Hp},(∀b∈fp,H' b=none)->∀b∈fp,FpOk X pins H' b:=λhn b hb=>⟨hn b hb,(hf b hb).2⟩
 have xe:∀{α:Type}{m:Sem α}{Q':α->Shared->Prop}{E:Value->Shared->Prop}{s:Shared},wpAny (model X.prog X.w) X.A m Q' X.xe s->wpAny (model X.prog X.w) X.A m Q' E s:=λq=>qBf q (λ_ _ z=>z) λ_ _ z=>by rw[hx]at z;exact z.elim
 refine codeAny_loop rfl (λn s'=>∃i σ' H',Inv X pins σ' H' s'/\tn i s'.heap/\(∀b∈fp,H' b=none)/\W i n σ' H') ?_ m0 ⟨0,σ,H,I,st,λb hb=>(hf b hb).1,w0⟩
 rintro n s3 ⟨i,σ3,H3,I3,st3,fr3,w3⟩
 show wpAny _ X.A ((compTurn (.ListComp elt0 gens scope cpos) depth (.ref it) acc X.env).onRaise (λx=>do noteFrame x X.env;theTreesLotGoes x)) _ _ s3
 refine wpAny_noted ?_
 rw[eq]
 refine qG (qBk (qG ?_))
 rcases turn i n σ3 H3 w3 with⟨stop,qn⟩|⟨go,N,hN,step⟩
 ·refine thn (T.done X rfl rfl rfl hc i pins s3 σ3 H3 _ I3 (stat fr3) st3 stop) λr s4 ⟨hr,I4⟩=>?_
  subst hr
  exact qi ⟨rfl,σ3,H3,I4,qn⟩
 ·refine thn (T.item X rfl rfl rfl hc i pins s3 σ3 H3 _ I3 (stat fr3) st3 go) λr s4 ⟨u,hr,h4⟩=>?_
  subst hr
  refine qG (thn h4 λ_ s5 ⟨x,H5,I5,r5,y5,st5,fr5⟩=>?_)
  have I5':=I5.pinned (stat fr5) (T.obj _ _ st5)
  refine qG (xe (thn (hg _ s5 σ3 H5 x u _ I5' r5 (step x H5 y5)) λ_ s6 ⟨σ6,H6,I6,q6⟩=>?_))
  have again:∀{σ7:St}{H7:Hp}{s7:Shared},Inv X (pins++zuj fp s5.heap) σ7 H7 s7->N σ7 H7->∃m,m<n/\∃i σ' H',Inv X pins σ' H' s7/\tn i s7.heap/\(∀b∈fp,H' b=none)/\W i m σ' H':=λ{σ7 H7 s7} I7 n7=>by
   obtain⟨m',hm,w7⟩:=hN σ7 H7 n7
   refine⟨m',hm,i+1,σ7,H7,I7.unpinned,T.keep _ _ _ st5 λb hb o e=>(I7.pin (b,o) (qc _ (qc _ (zjk hb e)))).1,λb hb=>?_,w7⟩
   obtain⟨o,e,d⟩:=T.obj _ _ st5 b hb
   exact(I7.pin (b,o) (qc _ (qc _ (zjk hb e)))).2.1
  refine qG (xe (thn (ht _ s6 σ6 H6 _ I6 q6) λok s7 ⟨H7,I7,q7⟩=>?_))
  cases ok with
  | false=>
   rw[if_neg (by decide)]at q7
   exact qi ⟨rfl,again I7 q7⟩
  | true=>
   rw[if_pos rfl]at q7
   refine qG (xe (thn (hm _ s7 σ6 H7 _ I7 q7) λ_ s8 ⟨σ8,H8,I8,q8⟩=>?_))
   exact qi ⟨rfl,again I8 q8⟩
end
section
variable{X:Cx}{pins:List (Addr×Obj)}{σ:St}{H:Hp}{s:Shared}{scope:Scope}{N' own:List Str}{fr:List Nat}
theorem zxt{elt0 target iter:Expr}{ifs:List Expr}{rest:List Comprehension}{cpos:Pos}{g:TG}{tt:TT}{tm:Addr->TM}{emit:Value->Env->Sem Unit}{it:Addr}{fp:List Addr}{tn:Nat->Heap->Prop}{J:It}{Q:VK}{E:Value->Shared->Prop}{RR:Value->Addr->Result->Shared->Prop}
  (c:CompOk X scope N' own fr)(hc:X.calm=true)
  (eq:∀it acc env,compTurn (.ListComp elt0 (⟨target,iter,ifs,0⟩::rest) scope cpos) 0 it acc env=(do
   standAt iter.pos
   match <- pyNext it with
   | none=>pure (.done .next)
   | some v=>
    letOwnedTupleGo target it v
    assign target env v
    let mut ok:=true
    for c in ifs do
     if ok then ok <- isTrue c env (eval c env)
    if ok then emit acc env
    again (.compLoop (.ListComp elt0 (⟨target,iter,ifs,0⟩::rest) scope cpos) 0 it acc env)))
  (T:Turn X.prog X.w X.K target J fp it tn)
  (hb:∀(cl:List (Str×Addr)) (C:Addr) (s:Shared) (H:Hp) (fp:List Addr) (p:Addr),Inv X pins σ H s->(∀b∈fp,FpOk X pins H b)->PG (cxComp X scope N' own cl C s H fp) target g/\PF (cxComp X scope N' own cl C s H fp) ifs tt/\PM (cxComp X scope N' own cl C s H fp) (emit (.ref p) (compEnvC scope cl C X.env)) (tm p))
  (I:Inv X pins σ H s)(st:tn 0 s.heap)(hf:∀b∈fp,FpOk X pins H b)
  (h:∀p,H p=none->zadh J g tt (tm p) (tau own fr σ) (upd H p (.lst [])) (λ_ H'=>Q (.ref p) H'))
  (hRR:∀(p C:Addr) (m:Str->Option Value) (H':Hp) (s':Shared),Inv X pins σ H' s'->s'.heap.Ns C m->FpOk X pins H' C->Q (.ref p) H'->RR (.ref p) C (.ok .next) s') :
  wpAny (model X.prog X.w) X.A (newList []) (λacc s₃=>wpAny (model X.prog X.w) X.A (newFunctionEnv scope X.env.globals (clos X.env.cells scope.names []) [] X.env.qual none .none (some X.env)) (λcenv s₄=>
   codeAny (model X.prog X.w) X.A (.compStart (.ListComp elt0 (⟨target,iter,ifs,0⟩::rest) scope cpos) 0 (.ref it) acc {cenv with scope:=relabel scope X.env}) (RR acc cenv.locals) s₄) E s₃) E s:=by
 refine qCL ?_
 have I3:Inv X pins σ (upd H s.heap.objs.size (.lst [])) {s with heap:=s.heap.push {cls:=.type "list",dict:=none,data:=.seq ([]:List Value).toArray}}:=I.lnew (t':=s.toks) .nil (qAU _)
 have hn0:H s.heap.objs.size=none:=I.hok.fresh (qO _)
 generalize e3:({s with heap:=s.heap.push {cls:=.type "list",dict:=none,data:=.seq ([]:List Value).toArray}}:Shared)=s3 at I3 ⊢
 have k3:∀b o,s.heap.get? b=some o->s3.heap.get? b=some o:=λb o e=>by rw[<- e3];exact qF _ e
 have hne:∀b∈fp,b≠s.heap.objs.size:=λb hb=>by
  obtain⟨o,e,_⟩:=T.obj _ _ st b hb
  exact qp (qR e)
 have hf3:∀b∈fp,FpOk X pins (upd H s.heap.objs.size (.lst [])) b:=λb hb=>⟨by rw[zau (hne b hb)];exact(hf b hb).1,(hf b hb).2⟩
 have st3:tn 0 s3.heap:=T.keep _ _ _ st λb _ o e=>k3 b o e
 refine zabh λh' keep ns cells apart=>?_
 have I4:=zahp c I3 hf3 (T.obj _ _ st3) keep ns cells apart
 have st4:tn 0 h':=T.keep _ _ _ st3 λb _ o e=>keep b o e
 obtain⟨hg,ht,hm⟩:=hb (cellsFrom (s3.heap.objs.size+1) scope.names []++clos X.env.cells scope.names []) s3.heap.objs.size s3 (upd H s.heap.objs.size (.lst [])) fp s.heap.objs.size I3 hf3
 have hf4:∀b∈fp,FpOk (cxComp X scope N' own (cellsFrom (s3.heap.objs.size+1) scope.names []++clos X.env.cells scope.names []) s3.heap.objs.size s3 (upd H s.heap.objs.size (.lst [])) fp) [] (upd H s.heap.objs.size (.lst [])) b:=λb hb=>
  ⟨(hf3 b hb).1,(I4.ok.exf b hb).1,I4.ok.exfs b hb,.inl hb,(I4.ok.exf b hb).2,λp hp=>absurd (show p∈([]:List (Addr×Obj))from hp) (by simp)⟩
 have loop:codeAny (model X.prog X.w) X.A (.compLoop (.ListComp elt0 (⟨target,iter,ifs,0⟩::rest) scope cpos) 0 (.ref it) (.ref s.heap.objs.size) (compEnvC scope (cellsFrom (s3.heap.objs.size+1) scope.names []++clos X.env.cells scope.names []) s3.heap.objs.size X.env)) (RR (.ref s.heap.objs.size) s3.heap.objs.size) {s3 with heap:=h'}:=by
  refine qBv (zpb (X:=cxComp X scope N' own (cellsFrom (s3.heap.objs.size+1) scope.names []++clos X.env.cells scope.names []) s3.heap.objs.size s3 (upd H s.heap.objs.size (.lst [])) fp) (pins:=[]) rfl hc (eq _ _ _) T hg ht hm I4 st4 hf4 (h _ hn0)) λr s5 hr=>?_
  obtain⟨rfl,σ5,H5,I5,q5⟩:=hr
  obtain⟨m,hn,_⟩:=id I5.loc
  have u5:Un (frs X.stack) fp (upd H s.heap.objs.size (.lst [])) H5 s3.heap s5.heap:=I5.base
  have hok5:HOk X.prog X.w H5 s5.heap:=I5.hok
  have os5:s5.os=s3.os:=I5.os
  have bare5:=I5.bare
  have free5:H5 s3.heap.objs.size=none:=I5.free
  have hn:s5.heap.Ns s3.heap.objs.size m:=hn
  clear I5
  obtain⟨hh,gg,dd,tk,os'⟩:=s5
  obtain rfl:os'=s3.os:=os5
  have I6:Inv X pins σ H5 {s3 with heap:=hh,gens:=gg,drawn:=dd,toks:=tk}:=I3.call (ch:=fp) u5 hok5 bare5 λb hb=>⟨(hf3 b hb).2.2.2.1,(hf3 b hb).2.1,(hf3 b hb).2.2.2.2.1,(hf3 b hb).2.2.2.2.2⟩
  exact hRR _ _ m H5 _ I6 hn (I3.fpOk (qO _) free5) q5
 exact codeAny_compStart_list loop (T.self _ 0 _ _ _ st4 loop)
theorem zrm{elt0 target iter:Expr}{ifs:List Expr}{rest:List Comprehension}{cpos:Pos}{g:TG}{tt:TT}{tm:Addr->TM}{emit:Value->Env->Sem Unit}{it:Addr}{fp:List Addr}{tn:Nat->Heap->Prop}{J:It}{Q:VK}{E:Value->Shared->Prop}{RR:Value->Addr->Result->Shared->Prop}
  (c:CompOk X scope N' own fr)(hc:X.calm=true)
  (eq:∀it acc env,compTurn (.ListComp elt0 (⟨target,iter,ifs,0⟩::rest) scope cpos) 0 it acc env=(do
   standAt iter.pos
   match <- pyNext it with
   | none=>pure (.done .next)
   | some v=>
    letOwnedTupleGo target it v
    assign target env v
    let mut ok:=true
    for c in ifs do
     if ok then ok <- isTrue c env (eval c env)
    if ok then emit acc env
    again (.compLoop (.ListComp elt0 (⟨target,iter,ifs,0⟩::rest) scope cpos) 0 it acc env)))
  (T:Turn X.prog X.w X.K target J fp it tn)
  (hb:∀(cl:List (Str×Addr)) (C:Addr) (s:Shared) (H:Hp) (fp:List Addr) (p:Addr),PG (cxComp X scope N' own cl C s H fp) target g/\PF (cxComp X scope N' own cl C s H fp) ifs tt/\PM (cxComp X scope N' own cl C s H fp) (emit (.ref p) (compEnvC scope cl C X.env)) (tm p))
  (I:Inv X pins σ H s)(st:tn 0 s.heap)(hf:∀b∈fp,FpOk X pins H b)
  (h:∀p,H p=none->zadh J g tt (tm p) (tau own fr σ) (upd H p (.lst [])) (λ_ H'=>Q (.ref p) H'))
  (hRR:∀(p C:Addr) (m:Str->Option Value) (H':Hp) (s':Shared),Inv X pins σ H' s'->s'.heap.Ns C m->FpOk X pins H' C->Q (.ref p) H'->RR (.ref p) C (.ok .next) s') :
  wpAny (model X.prog X.w) X.A (newList []) (λacc s₃=>wpAny (model X.prog X.w) X.A (newFunctionEnv scope X.env.globals (clos X.env.cells scope.names []) [] X.env.qual none .none (some X.env)) (λcenv s₄=>
   codeAny (model X.prog X.w) X.A (.compStart (.ListComp elt0 (⟨target,iter,ifs,0⟩::rest) scope cpos) 0 (.ref it) acc {cenv with scope:=relabel scope X.env}) (RR acc cenv.locals) s₄) E s₃) E s:=zxt c hc eq T (λcl C s H fp p _ _=>hb cl C s H fp p) I st hf h hRR
noncomputable def zahq(wi:TI)(g:TG)(tt:TT)(tm:Addr->TM)(own:List Str)(fr:List Nat):TE:=λσ H Q=>wi σ H λJ H1=>∀p,H1 p=none->zadh J g tt (tm p) (tau own fr σ) (upd H1 p (.lst [])) (λ_ H'=>Q (.ref p) H')
theorem zzq{elt0 target iter:Expr}{ifs:List Expr}{rest:List Comprehension}{cpos:Pos}{wi:TI}{g:TG}{tt:TT}{tm:Addr->TM}{emit:Value->Env->Sem Unit}(c:CompOk X scope N' own fr)(hc:X.calm=true)
  (eq:∀it acc env,compTurn (.ListComp elt0 (⟨target,iter,ifs,0⟩::rest) scope cpos) 0 it acc env=(do
   standAt iter.pos
   match <- pyNext it with
   | none=>pure (.done .next)
   | some v=>
    letOwnedTupleGo target it v
    assign target env v
    let mut ok:=true
    for c in ifs do
     if ok then ok <- isTrue c env (eval c env)
    if ok then emit acc env
    again (.compLoop (.ListComp elt0 (⟨target,iter,ifs,0⟩::rest) scope cpos) 0 it acc env)))
  (hi:PI X target iter wi)
  (hb:∀(cl:List (Str×Addr)) (C:Addr) (s:Shared) (H:Hp) (fp:List Addr) (p:Addr),PG (cxComp X scope N' own cl C s H fp) target g/\PF (cxComp X scope N' own cl C s H fp) ifs tt/\PM (cxComp X scope N' own cl C s H fp) (emit (.ref p) (compEnvC scope cl C X.env)) (tm p))
  (hs:∀x,foldedSetIterable iter X.env x=pure x:=by intro _;rfl) :
  PE X (.ListComp elt0 (⟨target,iter,ifs,0⟩::rest) scope cpos) (zahq wi g tt tm own fr):=by
 intro pins s σ H Q I h
 rw[eval_ListComp]
 refine qCz (use:=none) rfl hs (zlh (zmk c I.ok)) c.kind (λy hy e=>(c.names y hy).trans (by rw[e])) ?_
 refine thn (hi pins s σ H _ I h) λv s1 h1=>thn h1 λitv s2 h2=>?_
 obtain⟨it,fp,tn,J,H2,e,I2,T,st2,f2,q⟩:=h2
 subst e
 refine zrm (Q:=Q) c hc eq T hb I2 st2 f2 q λp C m H' s' I' hn hC q'=>?_
 exact⟨m,hn,λh' sb=>⟨.ref p,H',I'.turned (t':=s'.toks) (λb o hb e=>(sb.2 b hb).trans e) hC.1 hC.2.1 hC.2.2.2.1 hC.2.2.2.2.1 hC.2.2.2.2.2,rfl,q'⟩⟩
noncomputable def zapm(wi:TI)(g:TG)(tt:TT)(tm:Addr->TM)(own:List Str)(fr:List Nat)(i:Nat):TS:=λD σ H=>zahq wi g tt tm own fr σ H λv H'=>D.nx (σ.set i (some v)) H'
theorem zahr{elt0 target iter:Expr}{ifs:List Expr}{rest:List Comprehension}{cpos spos py:Pos}{wi:TI}{g:TG}{tt:TT}{tm:Addr->TM}{emit:Value->Env->Sem Unit}{i:Nat}{y:Str}(c:CompOk X scope N' own fr)(hc:X.calm=true)
  (eq:∀it acc env,compTurn (.ListComp elt0 (⟨target,iter,ifs,0⟩::rest) scope cpos) 0 it acc env=(do
   standAt iter.pos
   match <- pyNext it with
   | none=>pure (.done .next)
   | some v=>
    letOwnedTupleGo target it v
    assign target env v
    let mut ok:=true
    for c in ifs do
     if ok then ok <- isTrue c env (eval c env)
    if ok then emit acc env
    again (.compLoop (.ListComp elt0 (⟨target,iter,ifs,0⟩::rest) scope cpos) 0 it acc env)))
  (hi:PI X target iter wi)
  (hb:∀(cl:List (Str×Addr)) (C:Addr) (s:Shared) (H:Hp) (fp:List Addr) (p:Addr),PG (cxComp X scope N' own cl C s H fp) target g/\PF (cxComp X scope N' own cl C s H fp) ifs tt/\PM (cxComp X scope N' own cl C s H fp) (emit (.ref p) (compEnvC scope cl C X.env)) (tm p))
  (hsw:swapsWith (.ListComp elt0 (⟨target,iter,ifs,0⟩::rest) scope cpos) (some (.Name y py)) spos.line X.env=pure true)
  (hN:X.N.Nodup)(hy:X.N[i]?=some y)(hl:X.env.scope.names.lookup y=some .local)
  (hs:∀x,foldedSetIterable iter X.env x=pure x:=by intro _;rfl) :
  PS X (.Assign [.Name y py] (.ListComp elt0 (⟨target,iter,ifs,0⟩::rest) scope cpos) spos) (zapm wi g tt tm own fr i):=by
 intro pins s σ H D I h
 rw[exec_Assign_Name_used _ _ _ _ hsw]
 refine qG (qBk (qG ?_))
 show wpAny _ X.A (do let _ <- comprehension (.ListComp elt0 (⟨target,iter,ifs,0⟩::rest) scope cpos) scope X.env _ (newList []) false (eval iter X.env) (some (assign (.Name y py) X.env))) _ _ s
 refine qG (thn (qCz (use:=some (assign (.Name y py) X.env)) (Q:=λ_ s'=>SP X pins D .next s') rfl hs (zlh (zmk c I.ok)) c.kind (λy hy e=>(c.names y hy).trans (by rw[e])) ?_) λ_ s' q=>qi (qi q))
 refine thn (hi pins s σ H _ I h) λv s1 h1=>thn h1 λitv s2 h2=>?_
 obtain⟨it,fp,tn,J,H2,e,I2,T,st2,f2,q⟩:=h2
 subst e
 refine zrm (Q:=λv H'=>D.nx (σ.set i (some v)) H') c hc eq T hb I2 st2 f2 q λp C m H' s' I' hn hC q'=>?_
 show wpAny _ X.A (assign (.Name y py) X.env (.ref p)) _ _ _
 refine wpAny_assign_Name (zug I' hN hy (.inl hl) (v:=.ref p) rfl (λs'' I'' ⟨a,sb,ha⟩=>?_) (.inr hl))
 have hCa:C≠a:=by
  rcases ha with rfl|ha
  ·exact hC.2.1
  ·exact qAs (hC.2.2.2.2.1 y a ha)
 refine⟨m,hn.sameBut sb hCa,λh' sb'=>⟨σ.set i (some (.ref p)),H',I''.turned (t':=s''.toks) (λb o hb e=>(sb'.2 b hb).trans e) hC.1 hC.2.1 hC.2.2.2.1 hC.2.2.2.2.1 hC.2.2.2.2.2,q'⟩⟩
end
section
variable{X:Cx}
section
variable{scope:Scope}{N' own:List Str}{fr:List Nat}{elt target iter:Expr}{ifs:List Expr}{cpos:Pos}{wi:TI}{g:TG}{tt:TT}{te:TE}
noncomputable def tComp1(wi:TI)(g:TG)(tt:TT)(te:TE)(own:List Str)(fr:List Nat):TE:=zahq wi g tt (λp=>zabi p te) own fr
theorem zahs(c:CompOk X scope N' own fr)(hc:X.calm=true)(hi:PI X target iter wi)
  (hb:∀(cl:List (Str×Addr)) (C:Addr) (s:Shared) (H:Hp) (fp:List Addr),PG (cxComp X scope N' own cl C s H fp) target g/\PF (cxComp X scope N' own cl C s H fp) ifs tt/\PE (cxComp X scope N' own cl C s H fp) elt te)
  (hs:∀x,foldedSetIterable iter X.env x=pure x:=by intro _;rfl):PE X (.ListComp elt [⟨target,iter,ifs,0⟩] scope cpos) (tComp1 wi g tt te own fr):=
 zzq (emit:=λacc env=>do let _ <- call (.builtin "list.append") [acc,<- eval elt env]) c hc (λ_ _ _=>rfl) hi
  (λcl C s H fp p=>⟨(hb cl C s H fp).1,(hb cl C s H fp).2.1,zxs (hb cl C s H fp).2.2⟩) hs
noncomputable def tAsgC1(wi:TI)(g:TG)(tt:TT)(te:TE)(own:List Str)(fr:List Nat)(i:Nat):TS:=zapm wi g tt (λp=>zabi p te) own fr i
theorem zaht{spos py:Pos}(c:CompOk X scope N' own fr)(hc:X.calm=true)(hi:PI X target iter wi)
  (hb:∀(cl:List (Str×Addr)) (C:Addr) (s:Shared) (H:Hp) (fp:List Addr),PG (cxComp X scope N' own cl C s H fp) target g/\PF (cxComp X scope N' own cl C s H fp) ifs tt/\PE (cxComp X scope N' own cl C s H fp) elt te)
  (hsw:swapsWith (.ListComp elt [⟨target,iter,ifs,0⟩] scope cpos) (some (.Name y py)) spos.line X.env=pure true)
  (hN:X.N.Nodup)(hy:X.N[i]?=some y)(hl:X.env.scope.names.lookup y=some .local)
  (hs:∀x,foldedSetIterable iter X.env x=pure x:=by intro _;rfl):PS X (.Assign [.Name y py] (.ListComp elt [⟨target,iter,ifs,0⟩] scope cpos) spos) (tAsgC1 wi g tt te own fr i):=
 zahr (emit:=λacc env=>do let _ <- call (.builtin "list.append") [acc,<- eval elt env]) c hc (λ_ _ _=>rfl) hi
  (λcl C s H fp p=>⟨(hb cl C s H fp).1,(hb cl C s H fp).2.1,zxs (hb cl C s H fp).2.2⟩) hsw hN hy hl hs
end
noncomputable def zaru:R2:=λx y H Q=>∃z n,x=.str z/\y=.int n/\z.length<=1000/\-1000<=n/\n<=1000/\Q (.str (Txt.mul z n)) H
theorem zamc:OpR X (binaryOp .Mult) zaru:=by
 intro pins s σ H x y v u Q I rx ry h
 obtain⟨z,n,rfl,rfl,h1,h2,h3,q⟩:=h
 obtain⟨t,rfl⟩:=rx
 obtain⟨t',rfl⟩:=ry
 exact SB.mul (mulOk_of 1000 1000 h1 (by omega) (by omega) (by decide) (by decide)) λt' k=>⟨.str (Txt.mul z n),H,I.tok _,⟨_,rfl⟩,q⟩
noncomputable def rSlS:V->Option Int->Option Int->Hp->VK->Prop:=λx lo hi H Q=>∃z,x=.str z/\z.length<=qZ/\Q (.str (Txt.slice z lo hi)) H
theorem zapn:SlR X rSlS:=by
 intro pins s σ H x v vl vu lo hi sl Q I rx hs pl pu h
 obtain⟨z,rfl,hz,q⟩:=h
 obtain⟨t,rfl⟩:=rx
 refine⟨"str",_,F.slot_str_getitem.lookup,typeIs_str _ _ _,?_⟩
 have fin:∀t' k,EP X pins σ Q (.str (Txt.slice z lo hi) t') {s with toks:=k}:=λt' k=>⟨.str (Txt.slice z lo hi),H,I.tok _,⟨_,rfl⟩,q⟩
 have fz:(Txt.slice z lo hi).length<=qZ:=qAS (Txt.slice_le z _ _) hz
 cases pl with
 | none=>cases pu with
  | none=>exact qBD (l:=none) (u:=none) (st:=none) hs rfl (qBu ⟨fz,fin⟩)
  | int j tj=>exact qBD (l:=none) (u:=some (j,tj)) (st:=none) hs rfl (qBu ⟨fz,fin⟩)
 | int i ti=>cases pu with
  | none=>exact qBD (l:=some (i,ti)) (u:=none) (st:=none) hs rfl (qBu ⟨fz,fin⟩)
  | int j tj=>exact qBD (l:=some (i,ti)) (u:=some (j,tj)) (st:=none) hs rfl (qBu ⟨fz,fin⟩)
noncomputable def zadi:V->List V->Hp->VK->Prop:=λx vs H Q=>∃d o kvs more,x=.ref d/\vs=[.ref o]/\d≠o/\H d=some (.dK kvs)/\H o=some (.dK more)/\kvs.length+more.length<=qZ/\Q .non (upd H d (.dK (zlf kvs more)))
theorem zuv:MtM X "dict.update" zadi:=by
 intro pins s σ H x vs v us Q I rx rv h
 obtain⟨d,o,kvs,more,rfl,rfl,hne,hd,ho,hz,q⟩:=h
 cases rx
 obtain⟨u,rfl,ru⟩:=rv.one
 cases ru
 obtain⟨z1,s1,vs1,rel1,dd1⟩:=zahk I.hok hd
 obtain⟨z2,s2,vs2,rel2,dd2⟩:=zahk I.hok ho
 refine call_meetsIn F.slot_dict_update dd1.typeIs F.entry_dict_update (F.args_dict_update_2 _ _) (meets_dict_update (zdl X.prog X.w) d o hne s2) ⟨vs1,vs2,dd1,dd2,?_,λh' h1 h2 sb=>?_⟩
 ·rw[<- rel1.length,<- rel2.length];exact hz
 ·have he:∃q,h'.get? d=some q:=by obtain⟨ob,_,_,e,_⟩:=h1;exact⟨ob,e⟩
  refine⟨.non,_,zso (t':=s.toks) I (by rw[hd];trivial) sb he (zadc (qAS (zhi more kvs) hz) s1 (rel2.merge rel1) h1),rfl,q⟩
theorem zahu{id:String}(hid:id="isinstance"):CallR X (.builtin id) (λxs H Q=>∃x n t b,xs=[x,.ty n]/\TyOf X.K H x t/\kitOne X.K t (.type n)=some b/\Q (.bl b) H):=by
 subst hid
 intro pins s σ H xs us Q I r h
 obtain⟨x,n,t,b,rfl,ty,e,q⟩:=h
 obtain⟨u,w',rfl,rx,ry⟩:=zalq r
 cases ry
 exact zacr I rx ty e λtk=>⟨.bl b,H,I.tok _,rfl,q⟩
end
mutual
def Rep(K:qC)(H:Hp):PyData->V->Prop
 | .none,v=>v=.non
 | .bool b,v=>v=.bl b
 | .int i,v=>v=.int i
 | .str x,v=>v=.str x
 | .list ds,v=>∃a xs,v=.ref a/\SqL K H a xs/\Reps K H ds xs
 | .tuple ds,v=>∃a xs,v=.ref a/\SqT K H a xs/\Reps K H ds xs
 | .dict _,_=>False
def Reps(K:qC)(H:Hp):List PyData->List V->Prop
 | [],xs=>xs=[]
 | d::ds,xs=>∃v vs,xs=v::vs/\Rep K H d v/\Reps K H ds vs
end
mutual
theorem zef{X:Cx}{s:Shared}(I:Inv X pins σ H s):∀(d:PyData){v:V}{u:Value},Rep X.K H d v->RelV v u->∃as,Reads s.heap u d as
 | .none,v,u,h,r=>by unfold Rep at h;subst h;cases r;exact⟨_,.none⟩
 | .bool b,v,u,h,r=>by unfold Rep at h;subst h;cases r;exact⟨_,.bool b⟩
 | .int i,v,u,h,r=>by unfold Rep at h;subst h;obtain⟨t,rfl⟩:=r;exact⟨_,.int i t⟩
 | .str x,v,u,h,r=>by unfold Rep at h;subst h;obtain⟨t,rfl⟩:=r;exact⟨_,.str x t⟩
 | .list ds,v,u,h,r=>by
  unfold Rep at h
  obtain⟨a,xs,rfl,hq,hr⟩:=h
  cases r
  obtain⟨its,rv,p,hz⟩:=I.list hq
  obtain⟨as,q⟩:=reps_reads I ds hr rv
  obtain⟨o,h1,h2,n,h3⟩:=p.isList
  exact⟨_,reads_list_at h1 h2 h3 (by simpa using q)⟩
 | .tuple ds,v,u,h,r=>by
  unfold Rep at h
  obtain⟨a,xs,rfl,hq,hr⟩:=h
  cases r
  obtain⟨its,rv,p,hz⟩:=I.tuple hq
  obtain⟨as,q⟩:=reps_reads I ds hr rv
  obtain⟨o,h1,h2,n,h3⟩:=p
  exact⟨_,reads_tuple_at h1 h2 h3 (by simpa using q)⟩
 | .dict _,_,_,h,_=>by unfold Rep at h;exact h.elim
theorem reps_reads{X:Cx}{s:Shared}(I:Inv X pins σ H s):∀(ds:List PyData){vs:List V}{us:List Value},Reps X.K H ds vs->Vals vs us->∃as,ReadsAll s.heap us ds as
 | [],vs,us,h,r=>by unfold Reps at h;subst h;cases r;exact⟨_,.nil⟩
 | d::ds,vs,us,h,r=>by
  unfold Reps at h
  obtain⟨v,vs',rfl,h1,h2⟩:=h
  cases r with
  | cons r rr=>
   obtain⟨as,q1⟩:=zef I d h1 r
   obtain⟨bs,q2⟩:=reps_reads I ds h2 rr
   exact⟨_,.cons q1 q2⟩
end
theorem SqT.same{K:qC}{H H':Hp}{a:Addr}{xs:List V}(h:Same H H')(q:SqT K H a xs):SqT K H' a xs:=by
 rcases q with(q|⟨o,q⟩)|q
 ·exact .inl (.inl (h _ _ q))
 ·exact .inl (.inr ⟨o,h _ _ q⟩)
 ·exact .inr q
section
variable{X:Cx}
noncomputable def rEqD(K:qC)(neg:Bool):R2:=λx y H Q=>∃d e,Rep K H d x/\Rep K H e y/\qAA d=true/\qAA e=true/\Q (.bl (if neg then !PyData.eqv d e else qAH d e)) H
theorem zapo(hu:X.A.units+64<cLine):OpR X (compareOp .Eq) (rEqD X.K false):=by
 intro pins s σ H x y v u Q I rx ry h
 obtain⟨d,e,hd,he,sd,se,q⟩:=h
 obtain⟨as,r1⟩:=zef I d hd rx
 obtain⟨bs,r2⟩:=zef I e he ry
 exact eq_dataH r1 r2 sd se hu ⟨.bl (qAH d e),H,I,rfl,q⟩
theorem zapp(hu:X.A.units+64<cLine):OpR X (compareOp .NotEq) (rEqD X.K true):=by
 intro pins s σ H x y v u Q I rx ry h
 obtain⟨d,e,hd,he,sd,se,q⟩:=h
 obtain⟨as,r1⟩:=zef I d hd rx
 obtain⟨bs,r2⟩:=zef I e he ry
 exact ne_dataH r1 r2 sd se hu ⟨.bl (!PyData.eqv d e),H,I,rfl,q⟩
theorem zadj{bs:List Bool}:∀{its:List Value},Vals (bs.map V.bl) its->its=bs.map Value.bool:=by
 induction bs with
 | nil=>intro its r;cases r;rfl
 | cons b bs ih=>
  intro its r
  cases r with
  | cons r rr=>cases r;rw[ih rr];rfl
theorem zadk(bs:List Bool):(List.range bs.length).any (λi=>bs.getD i false)=bs.any id:=by
 rw[qAd,qAr,qAr]
 constructor
 ·rintro⟨i,hi,h⟩
  have hi:=qAW.mp hi
  rw[qAB,qL hi]at h
  exact⟨_,qAP hi,h⟩
 ·rintro⟨b,hb,h⟩
  obtain⟨i,hi,e⟩:=qBK hb
  exact⟨i,qAW.mpr hi,by rw[qAB,qL hi,e];exact h⟩
theorem zadl(bs:List Bool):(List.range bs.length).all (λi=>bs.getD i false)=bs.all id:=by
 rw[qAd,qAX,qAX]
 constructor
 ·intro h b hb
  obtain⟨i,hi,e⟩:=qBK hb
  have q:=h i (qAW.mpr hi)
  rw[qAB,qL hi,e]at q
  exact q
 ·intro h i hi
  have hi:=qAW.mp hi
  have q:=h _ (qAP hi)
  rw[qAB,qL hi]
  exact q
noncomputable def rAny(K:qC)(f:List Bool->Bool):List V->Hp->VK->Prop:=λxs H Q=>∃p bs,xs=[.ref p]/\SqL K H p (bs.map V.bl)/\Q (.bl (f bs)) H
theorem zahv(hc:X.calm=true):CallR X (.builtin "any") (rAny X.K λbs=>bs.any id):=by
 intro pins s σ H xs us Q I r h
 obtain⟨p,bs,rfl,hq,q⟩:=h
 obtain⟨u,rfl,ru⟩:=zabe r
 cases ru
 obtain⟨its,rv,pl,hz⟩:=I.list hq
 cases zadj rv
 have hne:p≠s.heap.objs.size:=by obtain⟨o,e,_⟩:=pl.isList;exact qp (qR e)
 refine call_any_walk (qAp pl.isList ⟨s.heap.objs.size,_,_,_,_,_,λi=>bs.getD i false,rfl,Walks.list (A:=X.A.in1) (show X.A.in1.handled=none from I.ok.hd hc) _ p hne (bs.map Value.bool).toArray,⟨⟨_,qd _ rfl,rfl,rfl⟩,?_⟩,?_,?_⟩)
 ·obtain⟨o,e,z⟩:=pl.isList
  exact⟨o,qF _ e,z⟩
 ·intro i v s' Q' E' hv hQ
  have hv:(bs.map Value.bool)[i]?=some v:=by simpa using hv
  rw[qS]at hv
  cases e:bs[i]? with
  | none=>rw[e]at hv;cases hv
  | some b=>
   rw[e]at hv
   cases hv
   have z:bs.getD i false=b:=by rw[qAB,e];rfl
   have hQ:Q' (bs.getD i false) s':=hQ
   rw[z]at hQ
   exact qBG hQ
 ·intro h' tk hk
  refine⟨.bl (bs.any id),H,?_,by rw[<- zadk bs];simp;rfl,q⟩
  exact I.kept (t':=tk) λb o e=>hk b o (by have:=qR e;simp;exact qp this) (qF _ e)
theorem zahw(hc:X.calm=true):CallR X (.builtin "all") (rAny X.K λbs=>bs.all id):=by
 intro pins s σ H xs us Q I r h
 obtain⟨p,bs,rfl,hq,q⟩:=h
 obtain⟨u,rfl,ru⟩:=zabe r
 cases ru
 obtain⟨its,rv,pl,hz⟩:=I.list hq
 cases zadj rv
 have hne:p≠s.heap.objs.size:=by obtain⟨o,e,_⟩:=pl.isList;exact qp (qR e)
 refine call_all_walk (qAp pl.isList ⟨s.heap.objs.size,_,_,_,_,_,λi=>bs.getD i false,rfl,Walks.list (A:=X.A.in1) (show X.A.in1.handled=none from I.ok.hd hc) _ p hne (bs.map Value.bool).toArray,⟨⟨_,qd _ rfl,rfl,rfl⟩,?_⟩,?_,?_⟩)
 ·obtain⟨o,e,z⟩:=pl.isList
  exact⟨o,qF _ e,z⟩
 ·intro i v s' Q' E' hv hQ
  have hv:(bs.map Value.bool)[i]?=some v:=by simpa using hv
  rw[qS]at hv
  cases e:bs[i]? with
  | none=>rw[e]at hv;cases hv
  | some b=>
   rw[e]at hv
   cases hv
   have z:bs.getD i false=b:=by rw[qAB,e];rfl
   have hQ:Q' (bs.getD i false) s':=hQ
   rw[z]at hQ
   exact qBG hQ
 ·intro h' tk hk
  refine⟨.bl (bs.all id),H,?_,by rw[<- zadl bs];simp;rfl,q⟩
  exact I.kept (t':=tk) λb o e=>hk b o (by have:=qR e;simp;exact qp this) (qF _ e)
end
noncomputable def zadm(o:Option NameKind):Bool:=o==some .cell||o==some .free
noncomputable def zadn(sc:Scope)(N:List Str)(scope:Scope)(N' own:List Str)(fr:List Nat):Bool:=
 (scope.kind==.function)&&(scope.names.all λy=>scope.names.lookup y.1==some y.2)&&(scope.names.all λy=>!(y.2==.free)||zadm (sc.names.lookup y.1))&&
 (N'==own++fr.map λj=>N.getD j Str.empty)&&(fr.all λj=>decide (j<N.length)&&(scope.names.lookup (N.getD j Str.empty)==some .free))&&
 (own.all λx=>scope.names.lookup x==some .local||scope.names.lookup x==some .cell)
section
variable{X:Cx}
theorem zbc(h:zadn X.env.scope X.N scope N' own fr=true):CompOk X scope N' own fr:=by
 unfold zadn at h
 simp only[qAO]at h
 obtain⟨⟨⟨⟨⟨h1,h2⟩,h3⟩,h4⟩,h5⟩,h6⟩:=h
 refine⟨eq_of_beq h1,λy hy=>eq_of_beq (qAX.mp h2 y hy),λy hy e=>?_,eq_of_beq h4,λj hj=>?_,λx hx=>?_⟩
 ·have q:=qAX.mp h3 y hy
  rw[e]at q
  have q:zadm (X.env.scope.names.lookup y.1)=true:=by simpa using q
  unfold zadm at q
  rcases qBs.mp q with z|z
  ·exact .inl (eq_of_beq z)
  ·exact .inr (eq_of_beq z)
 ·have q:=qAX.mp h5 j hj
  rw[qAO]at q
  exact⟨of_decide_eq_true q.1,eq_of_beq q.2⟩
 ·have q:=qAX.mp h6 x hx
  rcases qBs.mp q with z|z
  ·exact .inl (eq_of_beq z)
  ·exact .inr (eq_of_beq z)
noncomputable def zahx(K:qC):R2:=λx y H Q=>match x,y with
 | .int i,.int j=>Q (.int (i+j)) H
 | .str a,.str b=>a.length+b.length<=qZ/\Q (.str (a++b)) H
 | .ref _,.ref _=>rCat x y H Q\/zaoz K x y H Q
 | _,_=>False
theorem zamd:OpR X (binaryOp .Add) (zahx X.K):=by
 intro pins s σ H x y v u Q I rx ry h
 cases x<;>cases y<;>first
  | exact h.elim
  | exact zaou pins s σ H _ _ v u Q I rx ry ⟨_,_,rfl,rfl,h⟩
  | exact zabd pins s σ H _ _ v u Q I rx ry ⟨_,_,rfl,rfl,h.1,h.2⟩
  | exact(zapg.or zalt) pins s σ H _ _ v u Q I rx ry h
noncomputable def zame:R2:=λx y H Q=>match x,y with
 | .int i,.int j=>CMul i j/\Q (.int (i * j)) H
 | .str z,.int n=>z.length<=1000/\-1000<=n/\n<=1000/\Q (.str (Txt.mul z n)) H
 | _,_=>False
theorem zgx:OpR X (binaryOp .Mult) zame:=by
 intro pins s σ H x y v u Q I rx ry h
 cases x<;>cases y<;>first
  | exact h.elim
  | exact zaov pins s σ H _ _ v u Q I rx ry ⟨_,_,rfl,rfl,h.1,h.2⟩
  | exact zamc pins s σ H _ _ v u Q I rx ry ⟨_,_,rfl,rfl,h.1,h.2.1,h.2.2.1,h.2.2.2⟩
noncomputable def rIxU(K:qC):R2:=λx y H Q=>match x,y with
 | .str z,.int i=>z.length<=qZ/\∃c,atI z.cps.toList i=some c/\Q (.str ⟨#[c]⟩) H
 | .ref p,.int i=>∃xs v,(SqL K H p xs\/SqT K H p xs)/\atI xs i=some v/\Q v H
 | _,_=>False
theorem ix_U:IxR X (rIxU X.K):=by
 intro value slice pins s σ H x y v u Q I rx ry h hs
 cases x<;>cases y<;>first
  | exact h.elim
  | (obtain⟨h1,c,h2,h3⟩:=h;exact zapc value slice pins s σ H _ _ v u Q I rx ry ⟨_,_,c,rfl,rfl,h1,h2,h3⟩ hs)
  | (obtain⟨xs,w,h1,h2,h3⟩:=h
     rcases h1 with h1|h1
     ·exact zalu value slice pins s σ H _ _ v u Q I rx ry ⟨_,xs,_,w,rfl,rfl,h1,h2,h3⟩ hs
     ·exact zapb value slice pins s σ H _ _ v u Q I rx ry ⟨_,xs,_,w,rfl,rfl,h1,h2,h3⟩ hs)
noncomputable def rSlU(K:qC):V->Option Int->Option Int->Hp->VK->Prop:=λx lo hi H Q=>match x with
 | .str z=>z.length<=qZ/\Q (.str (Txt.slice z lo hi)) H
 | .ref _=>rSlL K x lo hi H Q
 | _=>False
theorem sl_U:SlR X (rSlU X.K):=by
 intro pins s σ H x v vl vu lo hi sl Q I rx hs pl pu h
 cases x<;>first
  | exact h.elim
  | exact zapn pins s σ H _ v vl vu lo hi sl Q I rx hs pl pu ⟨_,rfl,h.1,h.2⟩
  | exact zalv pins s σ H _ v vl vu lo hi sl Q I rx hs pl pu h
noncomputable def Dn(P:Program)(w:World)(K:qC)(mg:Str->Option Value)(base:Heap)(x:Str)(ps:List Str)(k:Nat)(sp:Sp):Prop:=
 ∃f fd,FnOk P w K mg base CX0 k f fd ps sp/\mg x=some (.ref f)/\qBN K (.ref f)=true/\zoy K fd ps []
theorem zarv(D:Dn X.prog X.w X.K X.mg X.base x ps k sp)(hr:Room k X.A)(hg:Gl X x)(ha:PA X (e::es) t)
  (hdb:(x==("__debug__":Str))=false:=by decide)(he:starEach (e::es) X.env=(false,eval e X.env)::starEach es X.env:=by rfl)(hpl:(backTo pos (starEach es X.env)).any (·.1)=false:=by rfl) :
  PE X (.Call (.Name x p) (e::es) [] pos) (tCall sp [] E0 t):=by
 obtain⟨f,fd,F,hm,hk,hb⟩:=D
 exact zals F hr hg hm hk hb .nil zart ha hdb he hpl
end
theorem Same.upd(h:Same H H')(hp:H p=none):Same H (upd H' p o):=λb u e=>by rw[zau (zay e hp)];exact h b u e
theorem Same.new(hp:H p=none):Same H (L2.upd H p o):=(Same.refl H).upd hp
end L2
namespace Bc
open PySem L2
noncomputable abbrev Web:=List (Str×List Str)
noncomputable def nm(W:Web):List Str:=W.map (·.1)
structure WebOk(W:Web):Prop where
 nd:(nm W).Nodup
 el:∀i n es,W[i]?=some (n,es)->∀e∈es,e∈nm (W.take i)
 few:∀p∈W,p.2.length<=4
 len:W.length<=12
theorem zif[DecidableEq α]:∀(l m:List α),l.Nodup->(∀x∈l,x∈m)->l.length<=m.length
 | [],_,_,_=>qAU _
 | a::l,m,h,s=>by
  obtain⟨h1,h2⟩:=qo.mp h
  have ha:=s a qb
  have q:=zif l (m.erase a) h2 λx hx=>(List.mem_erase_of_ne (λ(z:x=a)=>h1 (by rw[<- z];exact hx))).mpr (s x (qQ _ hx))
  rw[List.length_erase_of_mem ha]at q
  have:=qCj ha
  rw[qAe]
  omega
theorem zpc(h:WebOk W):(nm W).length<=12:=by unfold nm;rw[qD];exact h.len
end Bc
namespace L2
open PySem PySem.Spec PyProof.Rows
section
variable{X:Cx}{K:qC}(hK:X.K=K)
include hK
theorem zamf(hc:X.calm=true)(h:PGs X es t)
  (hn:(assignEach es X.env).length=n:=by rfl) (hst:(assignEach es X.env).findIdx? (·.1)=none:=by rfl):PG X (.Tuple es k pos) (gTup K n t):=by subst hK;exact zaor hc h hn hst
theorem zdx:IxR X (rIxU K):=by subst hK;exact ix_U
theorem zml:SlR X (rSlU K):=by subst hK;exact sl_U
theorem zbu:OpR X (binaryOp .Add) (zahx K):=by subst hK;exact zamd
theorem zakh:OpR X (compareOp .In) (rIn K false):=by subst hK;exact zacy
theorem zuw:OpR X (compareOp .NotIn) (rIn K true):=by subst hK;exact zuq
theorem zbv:CallR X (.builtin "len") (λxs H Q=>∃x n,xs=[x]/\LenV K x H n/\Q (.int n) H):=by subst hK;exact zahg
theorem zli(hc:X.calm=true):CallR X (.builtin "any") (rAny K λbs=>bs.any id):=by subst hK;exact zahv hc
theorem zlj(hc:X.calm=true):CallR X (.builtin "all") (rAny K λbs=>bs.all id):=by subst hK;exact zahw hc
theorem zlk:CallR X (.builtin "isinstance") (λxs H Q=>∃x n t b,xs=[x,.ty n]/\TyOf K H x t/\kitOne K t (.type n)=some b/\Q (.bl b) H):=by subst hK;exact zahu rfl
theorem zgz:CallR X (.type "list") (λxs H Q=>∃p ys,xs=[.ref p]/\(SqL K H p ys\/SqT K H p ys)/\∀l,H l=none->Q (.ref l) (upd H l (.lst ys))):=by subst hK;exact zur
theorem zahy(hl:PE X l tl):PI X tg l (zaot K tl):=by subst hK;exact zaln hl
theorem zado{T:String}{name:Str}{id:String}{r:V->List V->Hp->VK->Prop}{o e:Expr}{es:List Expr}{to:TE}{t:TA}{apos cpos:Pos}(pa:PlainAttrs T)(slot:Slot T name id)(hty:typeOf (.builtin id)=pure (.type "method_descriptor"))(hm:MtR X id r)(ho:PE X o to)(ha:PA X (e::es) t)
  (hbase:attributeBase o name X.env (eval o X.env)=eval o X.env:=by rfl)
  (hfew:((backTo cpos (starEach (e::es) X.env)).all (λx=>!x.1)&&(backToKw cpos (keywordEach [] X.env)).all (λx=>x.1.isSome)
   && decide ((e::es).length+([]:List Keyword).length+(if([]:List Keyword).isEmpty then 0 else 1)<30))=true:=by rfl)
  (hline:(apos.endLine==cpos.line)=true:=by rfl)(hs:starEach (e::es) X.env=(false,eval e X.env)::starEach es X.env:=by rfl)(hplain:(backTo cpos (starEach es X.env)).any (·.1)=false:=by rfl) :
  PE X (.Call (.Attribute o name apos) (e::es) [] cpos) (tBM K T r to t):=by subst hK;exact zarr pa slot hty hm ho ha hbase hfew hline hs hplain
end
noncomputable def keyD:PyData->Option Key
 | .int i=>some (Sum.inl i)
 | .str s=>some (Sum.inr s)
 | _=>none
mutual
def Rp(H:Hp):PyData->V->Prop
 | .none,v=>v=.non
 | .bool b,v=>v=.bl b
 | .int i,v=>v=.int i
 | .str x,v=>v=.str x
 | .list ds,v=>∃a xs,v=.ref a/\H a=some (.lst xs)/\Rps H ds xs
 | .tuple ds,v=>∃a xs,v=.ref a/\H a=some (.tup xs)/\Rps H ds xs
 | .dict kvs,v=>∃a ps,v=.ref a/\H a=some (.dK ps)/\Rpd H kvs ps
def Rps(H:Hp):List PyData->List V->Prop
 | [],xs=>xs=[]
 | d::ds,xs=>∃v vs,xs=v::vs/\Rp H d v/\Rps H ds vs
def Rpd(H:Hp):List (PyData×PyData)->List (Key×V)->Prop
 | [],ps=>ps=[]
 | (k,d)::r,ps=>∃k' v vs,ps=(k',v)::vs/\keyD k=some k'/\Rp H d v/\Rpd H r vs
end
mutual
theorem Rp.same(h:Same H H'):∀(d:PyData){v:V},Rp H d v->Rp H' d v
 | .none,v,q=>by unfold Rp at q ⊢;exact q
 | .bool b,v,q=>by unfold Rp at q ⊢;exact q
 | .int i,v,q=>by unfold Rp at q ⊢;exact q
 | .str x,v,q=>by unfold Rp at q ⊢;exact q
 | .list ds,v,q=>by
  unfold Rp at q ⊢
  obtain⟨a,xs,e,hq,hr⟩:=q
  exact⟨a,xs,e,h _ _ hq,Rps.same h ds hr⟩
 | .tuple ds,v,q=>by
  unfold Rp at q ⊢
  obtain⟨a,xs,e,hq,hr⟩:=q
  exact⟨a,xs,e,h _ _ hq,Rps.same h ds hr⟩
 | .dict kvs,v,q=>by
  unfold Rp at q ⊢
  obtain⟨a,xs,e,hq,hr⟩:=q
  exact⟨a,xs,e,h _ _ hq,Rpd.same h kvs hr⟩
theorem Rps.same(h:Same H H'):∀(ds:List PyData){vs:List V},Rps H ds vs->Rps H' ds vs
 | [],vs,q=>by unfold Rps at q ⊢;exact q
 | d::ds,vs,q=>by
  unfold Rps at q ⊢
  obtain⟨v,vs',e,h1,h2⟩:=q
  exact⟨v,vs',e,Rp.same h d h1,Rps.same h ds h2⟩
theorem Rpd.same(h:Same H H'):∀(ds:List (PyData×PyData)){vs:List (Key×V)},Rpd H ds vs->Rpd H' ds vs
 | [],vs,q=>by unfold Rpd at q ⊢;exact q
 | (k,d)::ds,vs,q=>by
  unfold Rpd at q ⊢
  obtain⟨k',v,vs',e,h0,h1,h2⟩:=q
  exact⟨k',v,vs',e,h0,Rp.same h d h1,Rpd.same h ds h2⟩
end
theorem zdh:∀{ds:List PyData}{xs:List V},Rps H ds xs↔Paired (Rp H) ds xs
 | [],xs=>by
  constructor
  ·intro h;unfold Rps at h;subst h;exact .nil
  ·intro h;cases h;unfold Rps;rfl
 | d::ds,xs=>by
  constructor
  ·intro h
   unfold Rps at h
   obtain⟨v,vs,rfl,h1,h2⟩:=h
   exact .cons h1 (zdh.mp h2)
  ·intro h
   cases h with
   | cons h1 h2=>unfold Rps;exact⟨_,_,rfl,h1,zdh.mpr h2⟩
theorem Rps.length{ds:List PyData}{xs:List V}(h:Rps H ds xs):ds.length=xs.length:=(zdh.mp h).length
theorem zes(h:Rp H (.list ds) v):∃a xs,v=.ref a/\H a=some (.lst xs)/\Rps H ds xs:=by unfold Rp at h;exact h
theorem zdt(h:Rp H (.tuple ds) v):∃a xs,v=.ref a/\H a=some (.tup xs)/\Rps H ds xs:=by unfold Rp at h;exact h
theorem zpd(h:Rp H (.dict ds) v):∃a xs,v=.ref a/\H a=some (.dK xs)/\Rpd H ds xs:=by unfold Rp at h;exact h
theorem zdv(h:Rp H (.int i) v):v=.int i:=by unfold Rp at h;exact h
theorem znm(h:Rp H (.str i) v):v=.str i:=by unfold Rp at h;exact h
theorem zkk(h:Rp H (.bool i) v):v=.bl i:=by unfold Rp at h;exact h
theorem zadp(h:Rp H .none v):v=.non:=by unfold Rp at h;exact h
theorem zai:Rp H (.int i) (.int i):=by unfold Rp;rfl
theorem zig:Rp H (.str i) (.str i):=by unfold Rp;rfl
theorem zbp:Rp H (.bool i) (.bl i):=by unfold Rp;rfl
theorem zabj:Rp H .none .non:=by unfold Rp;rfl
theorem zet(h:H a=some (.lst xs))(r:Rps H ds xs):Rp H (.list ds) (.ref a):=by unfold Rp;exact⟨a,xs,rfl,h,r⟩
theorem zkl(h:H a=some (.tup xs))(r:Rps H ds xs):Rp H (.tuple ds) (.ref a):=by unfold Rp;exact⟨a,xs,rfl,h,r⟩
theorem zmm(h:H a=some (.dK xs))(r:Rpd H ds xs):Rp H (.dict ds) (.ref a):=by unfold Rp;exact⟨a,xs,rfl,h,r⟩
theorem zdm:Rps H [] []:=by unfold Rps;rfl
theorem zmn:Rpd H [] []:=by unfold Rpd;rfl
theorem zdk(h:Rp H d v)(r:Rps H ds vs):Rps H (d::ds) (v::vs):=by
 show Rps H (d::ds) _
 unfold Rps;exact⟨v,vs,rfl,h,r⟩
theorem Rps.append(h:Rps H ds vs)(r:Rps H es ws):Rps H (ds++es) (vs++ws):=by
 replace h:=zdh.mp h
 refine zdh.mpr ?_
 induction h with
 | nil=>exact zdh.mp r
 | cons h _ ih=>exact .cons h ih
theorem Rps.get2{H:Hp}{ds:List PyData}{vs:List V}(h:Rps H ds vs){i:Nat}{d:PyData}(e:ds[i]?=some d):∃v,vs[i]?=some v/\Rp H d v:=by
 replace h:=zdh.mp h
 induction h generalizing i with
 | nil=>simp at e
 | cons h _ ih=>
  cases i with
  | zero=>simp at e;subst e;exact⟨_,rfl,h⟩
  | succ i=>simpa using ih (by simpa using e)
open Classical in
noncomputable def Offs(A:Addr->Prop)(H:Hp):Hp:=λb=>if A b then none else H b
theorem Offs.get{A:Addr->Prop}(h:¬A b):Offs A H b=H b:=if_neg h
theorem Offs.out{A:Addr->Prop}(h:A b):Offs A H b=none:=if_pos h
theorem Offs.of{A:Addr->Prop}(h:Offs A H b=some o):¬A b/\H b=some o:=by
 by_cases hb:A b
 ·rw[Offs.out hb]at h;cases h
 ·rw[Offs.get hb]at h;exact⟨hb,h⟩
theorem Offs.mono{A B:Addr->Prop}(s:Same H H')(h:∀b o,H b=some o->¬A b->¬B b):Same (Offs A H) (Offs B H'):=λb o e=>by
 obtain⟨h1,h2⟩:=Offs.of e
 rw[Offs.get (h b o h2 h1)]
 exact s b o h2
theorem Offs.same(A:Addr->Prop)(H:Hp):Same (Offs A H) H:=λb o e=>(Offs.of e).2
theorem Offs.sub{A B:Addr->Prop}(h:∀b,B b->A b):Same (Offs A H) (Offs B H):=Offs.mono (Same.refl _) λb _ _ n z=>n (h b z)
theorem Offs.grow{A:Addr->Prop}(s:Same H H'):Same (Offs A H) (Offs A H'):=Offs.mono s λ_ _ _ z=>z
theorem Offs.upd{A:Addr->Prop}(h:A a):Offs A (upd H a o)=Offs A H:=by
 funext b
 by_cases hb:A b
 ·rw[Offs.out hb,Offs.out hb]
 ·rw[Offs.get hb,Offs.get hb,zau (λe=>hb (by rw[e];exact h))]
inductive Sl where
 | no
  | pl (d:PyData)
  | ac (d:PyData)
noncomputable abbrev DEnv:=List Sl
noncomputable def own(env:DEnv)(σ:St)(a:Addr):Prop:=∃(i:Nat)(d:PyData),env[i]?=some (.ac d)/\σ[i]?=some (some (.ref a))
noncomputable def zha(Ho H:Hp)(a:Addr):PyData->Prop
 | .list ds=>∃xs,H a=some (.lst xs)/\Rps Ho ds xs
 | .dict kvs=>∃ps,H a=some (.dK ps)/\Rpd Ho kvs ps
 | _=>False
theorem zha.rp(h:zha Ho H a d)(s:Same Ho H')(e:∀o,H a=some o->H' a=some o):Rp H' d (.ref a):=by
 cases d with
 | list ds=>
  obtain⟨xs,h1,h2⟩:=h
  exact zet (e _ h1) (Rps.same s _ h2)
 | dict ds=>
  obtain⟨xs,h1,h2⟩:=h
  exact zmm (e _ h1) (Rpd.same s _ h2)
 | _=>exact h.elim
theorem zha.same(h:zha Ho H a d)(s:Same Ho Ho')(e:∀o,H a=some o->H' a=some o):zha Ho' H' a d:=by
 cases d with
 | list ds=>
  obtain⟨xs,h1,h2⟩:=h
  exact⟨xs,e _ h1,Rps.same s _ h2⟩
 | dict ds=>
  obtain⟨xs,h1,h2⟩:=h
  exact⟨xs,e _ h1,Rpd.same s _ h2⟩
 | _=>exact h.elim
theorem zha.ex(h:zha Ho H a d):∃o,H a=some o:=by
 cases d with
 | list ds=>obtain⟨xs,h1,h2⟩:=h;exact⟨_,h1⟩
 | dict ds=>obtain⟨xs,h1,h2⟩:=h;exact⟨_,h1⟩
 | _=>exact h.elim
structure EnvOk(fx:Addr->Prop)(H0:Hp)(env:DEnv)(σ:St)(H:Hp):Prop where
 len:env.length=σ.length
 pl:∀(i:Nat)(d:PyData),env[i]?=some (.pl d)->∃v,σ[i]?=some (some v)/\Rp (Offs (λa=>fx a\/own env σ a) H) d v
 ac:∀(i:Nat)(d:PyData),env[i]?=some (.ac d)->∃a,σ[i]?=some (some (.ref a))/\H0 a=none/\¬fx a/\zha (Offs (λa=>fx a\/own env σ a) H) H a d
 inj:∀(i j:Nat)(d e:PyData)(a:Addr),env[i]?=some (.ac d)->env[j]?=some (.ac e)->σ[i]?=some (some (.ref a))->σ[j]?=some (some (.ref a))->i=j
 base:Same H0 H
 fxs:∀b,fx b->∃o,H b=some o
theorem EnvOk.grow{fx fx':Addr->Prop}(h:EnvOk fx H0 env σ H)(s:Same H H')(f:∀b o,H b=some o->¬fx b->¬fx' b)(g:∀b,fx' b->∃o,H' b=some o):EnvOk fx' H0 env σ H':=by
 have so:Same (Offs (λa=>fx a\/own env σ a) H) (Offs (λa=>fx' a\/own env σ a) H'):=Offs.mono s λb o e n=>λz=>z.elim (f b o e λy=>n (.inl y)) λy=>n (.inr y)
 refine⟨h.len,λi d e=>?_,λi d e=>?_,h.inj,h.base.trans s,g⟩
 ·obtain⟨v,h1,h2⟩:=h.pl i d e
  exact⟨v,h1,Rp.same so d h2⟩
 ·obtain⟨a,h1,h2,h3,h4⟩:=h.ac i d e
  obtain⟨o,ho⟩:=h4.ex
  exact⟨a,h1,h2,f a o ho h3,h4.same so λo=>s a o⟩
theorem EnvOk.up{fx:Addr->Prop}(h:EnvOk fx H0 env σ H)(s:Same H H'):EnvOk fx H0 env σ H':=
 h.grow s (λ_ _ _ z=>z) λb z=>let⟨o,e⟩:=h.fxs b z;⟨o,s b o e⟩
structure Val where
 d:PyData
 fr:Bool
 bs:List Nat
noncomputable def lim(fx:Addr->Prop)(env:DEnv)(σ:St)(bs:List Nat)(a:Addr):Prop:=fx a\/∃(i:Nat)(d:PyData),i∉bs/\env[i]?=some (.ac d)/\σ[i]?=some (some (.ref a))
structure ValOk(A:Addr->Prop)(H H':Hp)(r:Val)(v:V):Prop where
 rp:Rp (Offs A H') r.d v
 fr:r.fr=true->∃a,v=.ref a/\H a=none/\zha (Offs (λb=>A b\/b=a) H') H' a r.d
theorem zpe{fx:Addr->Prop}(h:∀i∈bs,i∈cs):∀a,lim fx env σ cs a->lim fx env σ bs a:=by
 rintro a (z|⟨i,d,h1,h2,h3⟩)
 ·exact .inl z
 ·exact .inr ⟨i,d,λq=>h1 (h i q),h2,h3⟩
theorem zmo{fx:Addr->Prop}:∀a,lim fx env σ bs a->fx a\/own env σ a:=by
 rintro a (z|⟨i,d,h1,h2,h3⟩)
 ·exact .inl z
 ·exact .inr ⟨i,d,h2,h3⟩
theorem zpf{fx:Addr->Prop}:∀a,fx a\/own env σ a->lim fx env σ [] a:=by
 rintro a (z|⟨i,d,h2,h3⟩)
 ·exact .inl z
 ·exact .inr ⟨i,d,by simp,h2,h3⟩
theorem EnvOk.lims{fx:Addr->Prop}(h:EnvOk fx H0 env σ H)(bs:List Nat):∀b,lim fx env σ bs b->∃o,H b=some o:=by
 rintro b (z|⟨i,d,h1,h2,h3⟩)
 ·exact h.fxs b z
 ·obtain⟨a,g1,g2,g3,g4⟩:=h.ac i d h2
  rw[h3]at g1
  cases g1
  exact g4.ex
theorem ValOk.later{A B:Addr->Prop}(h:ValOk A H H' r v)(s0:Same H0 H)(s:Same H' H'')(hB:∀b,B b->A b):ValOk B H0 H'' r v:=by
 refine⟨Rp.same (Offs.mono s λb _ _ n z=>n (hB b z)) _ h.rp,λe=>?_⟩
 obtain⟨a,h1,h2,h3⟩:=h.fr e
 exact⟨a,h1,s0.free h2,h3.same (Offs.mono s λb _ _ n z=>n (z.elim (λy=>.inl (hB b y)) .inr)) λo=>s a o⟩
noncomputable def zdy:PyData->Bool
 | .list _=>false
 | .tuple _=>false
 | .dict _=>false
 | _=>true
theorem zpg(f:zdy d=true)(h:Rp H d v):Rp H' d v:=by
 cases d<;>first
  | (unfold Rp at h ⊢;exact h)
  | cases f
noncomputable def bsOf(d:PyData)(bs:List Nat):List Nat:=if zdy d=true then[]else bs
theorem zxu{fx:Addr->Prop}(h:Rp (Offs (lim fx env σ bs) H) d v):Rp (Offs (lim fx env σ (bsOf d bs)) H) d v:=by
 unfold bsOf
 split
 ·rename_i e;exact zpg e h
 ·exact h
noncomputable abbrev EF:=DEnv->Option Val
noncomputable def SE(te:TE)(f:EF):Prop:=∀(fx:Addr->Prop)(H0:Hp)(env:DEnv)(σ:St)(H:Hp),EnvOk fx H0 env σ H->∀r,f env=some r->∀Q:VK,(∀v H',Same H H'->ValOk (lim fx env σ r.bs) H H' r v->Q v H')->te σ H Q
noncomputable abbrev TF:=DEnv->Option Bool
noncomputable def ST(tt:TT)(f:TF):Prop:=∀(fx:Addr->Prop)(H0:Hp)(env:DEnv)(σ:St)(H:Hp),EnvOk fx H0 env σ H->∀b,f env=some b->∀Q:Bool->Hp->Prop,(∀H',Same H H'->Q b H')->tt σ H Q
noncomputable abbrev AF:=DEnv->Option (List Val)
noncomputable def SA(ta:TA)(f:AF):Prop:=∀(fx:Addr->Prop)(H0:Hp)(env:DEnv)(σ:St)(H:Hp),EnvOk fx H0 env σ H->∀rs,f env=some rs->∀Q:List V->Hp->Prop,
 (∀vs H',Same H H'->Paired (λr v=>ValOk (lim fx env σ r.bs) H H' r v) rs vs->Q vs H')->ta σ H Q
section
variable{X:Cx}
noncomputable def eVar(i:Nat):EF:=λenv=>match env[i]? with
 | some (.pl d)=>some ⟨d,false,[]⟩
 | some (.ac d)=>some ⟨d,false,[i]⟩
 | _=>none
theorem zbh(i:Nat):SE (tVar i) (eVar i):=by
 intro fx H0 env σ H h r hr Q q
 unfold eVar at hr
 cases e:env[i]? with
 | none=>rw[e]at hr;cases hr
 | some sl=>
  rw[e]at hr
  cases sl with
  | no=>cases hr
  | pl d=>
   cases hr
   obtain⟨v,h1,h2⟩:=h.pl i d e
   exact⟨v,h1,q v H (Same.refl _) ⟨Rp.same (Offs.sub zmo) _ h2,λz=>by cases z⟩⟩
  | ac d=>
   cases hr
   obtain⟨a,h1,h2,h3,h4⟩:=h.ac i d e
   have hna:¬lim fx env σ [i] a:=by
    rintro(z|⟨j,d',g1,g2,g3⟩)
    ·exact h3 z
    ·exact g1 (qf.mpr (h.inj j i d' d a g2 e g3 h1))
   exact⟨_,h1,q _ H (Same.refl _) ⟨h4.rp (Offs.sub zmo) λo z=>by rw[Offs.get hna];exact z,λz=>by cases z⟩⟩
noncomputable def eC(d:PyData):EF:=λ_=>some ⟨d,false,[]⟩
theorem se_c(h:∀H,Rp H d v):SE (tC v) (eC d):=by
 intro fx H0 env σ H _ r hr Q q
 cases hr
 exact q v H (Same.refl _) ⟨h _,λz=>by cases z⟩
noncomputable abbrev OF:=PyData->PyData->Option (PyData×Bool)
noncomputable def SO(r:R2)(f:OF):Prop:=∀(A:Addr->Prop)(H:Hp)(x y:V)(dx dy:PyData),(∀b,A b->∃o,H b=some o)->Rp (Offs A H) dx x->Rp (Offs A H) dy y->∀d fr,f dx dy=some (d,fr)->∀Q:VK,
 (∀v H',Same H H'->Rp (Offs A H') d v->(fr=true->∃a,v=.ref a/\H a=none/\zha (Offs (λb=>A b\/b=a) H') H' a d)->Q v H')->r x y H Q
noncomputable def eOp(f:OF)(a b:EF):EF:=λenv=>(a env).bind λx=>(b env).bind λy=>(f x.d y.d).bind λz=>some ⟨z.1,z.2,bsOf z.1 (x.bs++y.bs)⟩
theorem zhj(ho:SO r f)(ha:SE ta fa)(hb:SE tb fb):SE (tOp r ta tb) (eOp f fa fb):=by
 intro fx H0 env σ H h rr hr Q q
 unfold eOp at hr
 obtain⟨x,ex,hr⟩:=qA.mp hr
 obtain⟨y,ey,hr⟩:=qA.mp hr
 obtain⟨⟨d,fr⟩,ez,hr⟩:=qA.mp hr
 cases hr
 refine ha fx H0 env σ H h x ex _ λv H1 s1 v1=>hb fx H0 env σ H1 (h.up s1) y ey _ λu H2 s2 v2=>?_
 have l1:∀b,lim fx env σ (x.bs++y.bs) b->lim fx env σ x.bs b:=zpe λi hi=>qw _ hi
 have l2:∀b,lim fx env σ (x.bs++y.bs) b->lim fx env σ y.bs b:=zpe λi hi=>qc _ hi
 refine ho (lim fx env σ (x.bs++y.bs)) H2 v u x.d y.d ((h.up (s1.trans s2)).lims _) (v1.later (Same.refl _) s2 l1).rp (v2.later (Same.refl _) (Same.refl _) l2).rp d fr ez _ λw H3 s3 rp fr3=>q w H3 ((s1.trans s2).trans s3) ⟨zxu rp,λe=>?_⟩
 obtain⟨a,g1,g2,g3⟩:=fr3 e
 refine⟨a,g1,(s1.trans s2).free g2,?_⟩
 have nf:zdy d=false:=by cases d<;>first|rfl|exact g3.elim
 show zha (Offs (λb=>lim fx env σ (bsOf d (x.bs++y.bs)) b\/b=a) H3) H3 a d
 rw[show bsOf d (x.bs++y.bs)=x.bs++y.bs by unfold bsOf;rw[if_neg (by rw[nf];decide)]]
 exact g3
end
theorem zfj(h:n<=100000):n<=qZ:=qAS h (by decide)
theorem zih(h:n<100000):n<qZ:=qBS h (by decide)
theorem zeu{A:Addr->Prop}{H:Hp}(hA:∀b,A b->∃o,H b=some o){p:Addr}(hp:H p=none):¬A p:=λz=>by
 obtain⟨o,e⟩:=hA p z
 rw[hp]at e;cases e
theorem zss{A:Addr->Prop}(hp:H p=none)(r:Rps (Offs A H) ds xs):zha (Offs (λb=>A b\/b=p) (upd H p (.lst xs))) (upd H p (.lst xs)) p (.list ds):=by
 refine⟨xs,zap,Rps.same (Offs.mono (Same.new hp) λb o e n z=>?_) _ r⟩
 rcases z with z|z
 ·exact n z
 ·rw[z,hp]at e;cases e
theorem zzr{A:Addr->Prop}(hp:H p=none)(hA:¬A p)(r:Rps (Offs A H) ds xs):Rp (Offs A (upd H p (.lst xs))) (.list ds) (.ref p):=
 zet (by rw[Offs.get hA];exact zap) (Rps.same (Offs.grow (Same.new hp)) _ r)
theorem zph{A:Addr->Prop}(hp:H p=none)(hA:¬A p)(r:Rps (Offs A H) ds xs):Rp (Offs A (upd H p (.tup xs))) (.tuple ds) (.ref p):=
 zkl (by rw[Offs.get hA];exact zap) (Rps.same (Offs.grow (Same.new hp)) _ r)
theorem zdn{A:Addr->Prop}(h:Offs A H a=some o):H a=some o:=(Offs.of h).2
noncomputable def addD:OF
 | .int i,.int j=>some (.int (i+j),false)
 | .str a,.str b=>if a.length+b.length<=100000 then some (.str (a++b),false)else none
 | .list a,.list b=>if a.length+b.length<=100000 then some (.list (a++b),true)else none
 | .tuple a,.tuple b=>if a.isEmpty=false/\a.length+b.length<=100000 then some (.tuple (a++b),false)else none
 | _,_=>none
theorem zux{K:qC}:SO (zahx K) addD:=by
 intro A H x y dx dy hA rx ry d fr e Q q
 unfold addD at e
 split at e
 ·cases e
  cases zdv rx;cases zdv ry
  exact q _ H (Same.refl _) zai (λz=>by cases z)
 ·split at e
  ·rename_i hl
   cases e
   cases znm rx;cases znm ry
   exact⟨zfj hl,q _ H (Same.refl _) zig (λz=>by cases z)⟩
  ·cases e
 ·split at e
  ·rename_i hl
   cases e
   obtain⟨p,xs,rfl,hp,r1⟩:=zes rx
   obtain⟨p',ys,rfl,hp',r2⟩:=zes ry
   refine .inl ⟨p,p',xs,ys,rfl,rfl,zdn hp,zdn hp',zfj (by rw[<- r1.length,<- r2.length];exact hl),λb hb=>?_⟩
   exact q _ _ (Same.new hb) (zzr hb (zeu hA hb) (r1.append r2)) λ_=>⟨b,rfl,hb,zss hb (r1.append r2)⟩
  ·cases e
 ·split at e
  ·rename_i hl
   cases e
   obtain⟨p,xs,rfl,hp,r1⟩:=zdt rx
   obtain⟨p',ys,rfl,hp',r2⟩:=zdt ry
   refine .inr ⟨p,p',xs,ys,rfl,rfl,SqT.of (zdn hp),SqT.of (zdn hp'),λz=>?_,zfj (by rw[<- r1.length,<- r2.length];exact hl.2),λz=>?_,λ_ b hb=>?_⟩
   ·have h1:=r1.length
    have h0:=hl.1
    rw[z]at h1
    rw[List.isEmpty_eq_false_iff]at h0
    exact h0 (qBZ.mp h1)
   ·have h2:=r2.length
    rw[z]at h2
    have:=qBZ.mp h2
    subst this
    rw[qr]at q
    exact q _ H (Same.refl _) rx (λz=>by cases z)
   ·exact q _ _ (Same.new hb) (zph hb (zeu hA hb) (r1.append r2)) (λz=>by cases z)
  ·cases e
 ·cases e
noncomputable def intD(c:Int->Int->Bool)(f:Int->Int->PyData):OF
 | .int i,.int j=>if c i j=true then some (f i j,false)else none
 | _,_=>none
theorem zaki{C:Int->Int->Prop}{g:Int->Int->V}{c:Int->Int->Bool}{f:Int->Int->PyData}(hc:∀i j,c i j=true->C i j)(hf:∀H i j,Rp H (f i j) (g i j)):SO (rI C g) (intD c f):=by
 intro A H x y dx dy hA rx ry d fr e Q q
 unfold intD at e
 split at e
 ·split at e
  ·rename_i h
   cases e
   cases zdv rx;cases zdv ry
   exact⟨_,_,rfl,rfl,hc _ _ h,q _ H (Same.refl _) (hf _ _ _) (λz=>by cases z)⟩
  ·cases e
 ·cases e
theorem zadq{g:Int->Int->V}{f:Int->Int->PyData}(hf:∀H i j,Rp H (f i j) (g i j)):SO (rI0 g) (intD (λ_ _=>true) f):=by
 intro A H x y dx dy hA rx ry d fr e Q q
 unfold intD at e
 split at e
 ·split at e
  ·cases e
   cases zdv rx;cases zdv ry
   exact⟨_,_,rfl,rfl,q _ H (Same.refl _) (hf _ _ _) (λz=>by cases z)⟩
  ·cases e
 ·cases e
noncomputable def subD:OF:=intD (λ_ _=>true) λi j=>.int (i - j)
theorem zakj:SO (rI0 λi j=>.int (i - j)) subD:=zadq λ_ _ _=>zai
noncomputable def gtD:OF:=intD (λ_ _=>true) λi j=>.bool (decide (j<i))
theorem zapq:SO (rI0 λi j=>.bl (decide (j<i))) gtD:=zadq λ_ _ _=>zbp
noncomputable def modD:OF:=intD (λ_ j=>decide (0<j)) λi j=>.int (i % j)
theorem zrn:SO (rI (λ_ j=>0<j) λi j=>.int (i % j)) modD:=zaki (λ_ _ h=>of_decide_eq_true h) λ_ _ _=>zai
noncomputable def zbk:OF:=intD (λ_ j=>decide (0<j/\j<1073741824)) λi j=>.int (i / j)
theorem zxv:SO (rI CDiv λi j=>.int (i / j)) zbk:=zaki (λi j h=>(of_decide_eq_true h:0<j/\j<1073741824)) λ_ _ _=>zai
noncomputable def mulD:OF
 | .int i,.int j=>if(-(2 ^ 64)<i/\i<2 ^ 64)\/(-(2 ^ 64)<j/\j<2 ^ 64)then some (.int (i * j),false)else none
 | .str z,.int n=>if z.length<=1000/\-1000<=n/\n<=1000 then some (.str (Txt.mul z n),false)else none
 | _,_=>none
theorem zapr:SO zame mulD:=by
 intro A H x y dx dy hA rx ry d fr e Q q
 unfold mulD at e
 split at e
 ·split at e
  ·rename_i h
   cases e
   cases zdv rx;cases zdv ry
   exact⟨h,q _ H (Same.refl _) zai (λz=>by cases z)⟩
  ·cases e
 ·split at e
  ·rename_i h
   cases e
   cases znm rx;cases zdv ry
   exact⟨h.1,h.2.1,h.2.2,q _ H (Same.refl _) zig (λz=>by cases z)⟩
  ·cases e
 ·cases e
mutual
theorem zpi{K:qC}{H:Hp}:∀{d:PyData}{v:V},d.canLay0=true->Rp H d v->Rep K H d v
 | .none,v,_,h=>by unfold Rp at h;unfold Rep;exact h
 | .bool b,v,_,h=>by unfold Rp at h;unfold Rep;exact h
 | .int i,v,_,h=>by unfold Rp at h;unfold Rep;exact h
 | .str x,v,_,h=>by unfold Rp at h;unfold Rep;exact h
 | .list ds,v,c,h=>by
  obtain⟨a,xs,e,h1,h2⟩:=zes h
  unfold Rep
  exact⟨a,xs,e,SqL.of h1,rps_reps (by simpa [PyData.canLay0]using c) h2⟩
 | .tuple ds,v,c,h=>by
  obtain⟨a,xs,e,h1,h2⟩:=zdt h
  unfold Rep
  exact⟨a,xs,e,SqT.of h1,rps_reps (by simpa [PyData.canLay0]using c) h2⟩
 | .dict _,v,c,h=>by simp[PyData.canLay0]at c
theorem rps_reps{K:qC}{H:Hp}:∀{ds:List PyData}{vs:List V},qm ds=true->Rps H ds vs->Reps K H ds vs
 | [],vs,_,h=>by unfold Rps at h;unfold Reps;exact h
 | d::ds,vs,c,h=>by
  unfold Rps at h
  obtain⟨v,ws,e,h1,h2⟩:=h
  have c:d.canLay0=true/\qm ds=true:=by simpa [qm]using c
  unfold Reps
  exact⟨v,ws,e,zpi c.1 h1,rps_reps c.2 h2⟩
end
noncomputable def zahz:PyData->PyData->Bool
 | .none,.none=>true|.none,.int _=>true|.int _,.none=>true|.none,.bool _=>true|.bool _,.none=>true|.none,.str _=>true|.str _,.none=>true
 | .int _,.int _=>true|.bool _,.bool _=>true|.str _,.str _=>true
 | .int _,.str _=>true|.str _,.int _=>true|.bool _,.str _=>true|.str _,.bool _=>true
 | _,_=>false
noncomputable def eqOk(dx dy:PyData):Bool:=zahz dx dy||(qAA dx&&qAA dy)
noncomputable def eqD:OF:=λdx dy=>if eqOk dx dy=true then some (.bool (qAH dx dy),false)else none
noncomputable def neD:OF:=λdx dy=>if eqOk dx dy=true then some (.bool (!PyData.eqv dx dy),false)else none
theorem zadr(s:zahz dx dy=true)(rx:Rp H dx x)(ry:Rp H dy y):scal x y=true/\decide (x=y)=qAH dx dy:=by
 cases dx<;>cases dy<;>first
  | (exact absurd (show false=true from s) qT)
  | (unfold Rp at rx ry;subst rx;subst ry;refine⟨rfl,?_⟩;first|rfl|exact zxm|exact zacm|exact zxn|simp[qAH])
theorem zaps{K:qC}:SO (λx y H Q=>rEq x y H Q\/rEqD K false x y H Q) eqD:=by
 intro A H x y dx dy hA rx ry d fr e Q q
 unfold eqD at e
 split at e
 ·rename_i h
  cases e
  cases hs:zahz dx dy with
  | true=>
   obtain⟨h1,h2⟩:=zadr hs rx ry
   exact .inl ⟨h1,by rw[h2];exact q _ H (Same.refl _) zbp (λz=>by cases z)⟩
  | false=>
   unfold eqOk at h
   rw[hs,qCe,qAO]at h
   have rx:=Rp.same (Offs.same A H) _ rx
   have ry:=Rp.same (Offs.same A H) _ ry
   exact .inr ⟨dx,dy,zpi (qAV h.1) rx,zpi (qAV h.2) ry,h.1,h.2,q _ H (Same.refl _) zbp (λz=>by cases z)⟩
 ·cases e
theorem zapt{K:qC}:SO (λx y H Q=>rNe x y H Q\/rEqD K true x y H Q) neD:=by
 intro A H x y dx dy hA rx ry d fr e Q q
 unfold neD at e
 split at e
 ·rename_i h
  cases e
  cases hs:zahz dx dy with
  | true=>
   obtain⟨h1,h2⟩:=zadr hs rx ry
   exact .inl ⟨h1,by rw[h2];exact q _ H (Same.refl _) zbp (λz=>by cases z)⟩
  | false=>
   unfold eqOk at h
   rw[hs,qCe,qAO]at h
   have rx:=Rp.same (Offs.same A H) _ rx
   have ry:=Rp.same (Offs.same A H) _ ry
   exact .inr ⟨dx,dy,zpi (qAV h.1) rx,zpi (qAV h.2) ry,h.1,h.2,q _ H (Same.refl _) zbp (λz=>by cases z)⟩
 ·cases e
noncomputable def zdo(ds:List PyData):Bool:=ds.all zdy
theorem zakk(f:zdy d=true)(h:Rp H d v):zqx v=true:=by
 cases d<;>first
  | (unfold Rp at h;subst h;rfl)
  | cases f
theorem zamg{vs:List V}(f:zdo ds=true)(h:Rps H ds vs):vs.all zqx=true:=by
 replace h:=zdh.mp h
 induction h with
 | nil=>rfl
 | cons h _ ih=>
  unfold zdo at f
  rw[qAn,qAO]at f
  rw[qAn,zakk f.1 h,ih f.2];rfl
theorem zamh(f:zdy d=true)(g:zdy e=true)(h:Rp H d v)(k:Rp H e u):eqV v u=qAH d e:=by
 cases d<;>cases e<;>first
  | (unfold Rp at h k;subst h;subst k;rfl)
  | exact absurd (show false=true from f) qT
  | exact absurd (show false=true from g) qT
theorem zami(f:zdy d=true)(h:Rp H d v){ds:List PyData}(g:zdo ds=true)(r:Rps H ds vs):inV v vs=ds.any λe=>qAH e d:=by
 replace r:=zdh.mp r
 unfold inV
 induction r with
 | nil=>rfl
 | cons r _ ih=>
  unfold zdo at g
  rw[qAn,qAO]at g
  rw[qAy,qAy,zamh g.1 f r h,ih g.2]
noncomputable def zfp:PyData->Option (List PyData)
 | .list ds=>some ds
 | .tuple ds=>some ds
 | _=>none
noncomputable def inD(neg:Bool):OF:=λd c=>match zfp c with
 | some ds=>if zdy d=true/\zdo ds=true then some (.bool (if neg then !(ds.any λe=>qAH e d)else ds.any λe=>qAH e d),false)else none
 | none=>none
theorem zzs{K:qC}{H:Hp}{c:PyData}{v:V}{ds:List PyData}(h:Rp H c v)(e:zfp c=some ds):∃p xs,v=.ref p/\(SqL K H p xs\/SqT K H p xs)/\Rps H ds xs:=by
 cases c<;>first
  | cases e
  | skip
 ·obtain⟨a,xs,e,h1,h2⟩:=zes h;exact⟨a,xs,e,.inl (SqL.of h1),h2⟩
 ·obtain⟨a,xs,e,h1,h2⟩:=zdt h;exact⟨a,xs,e,.inr (SqT.of h1),h2⟩
theorem zarw{K:qC}{neg:Bool}:SO (rIn K neg) (inD neg):=by
 intro A H x y dx dy hA rx ry d fr e Q q
 unfold inD at e
 split at e
 ·rename_i ds hi
  split at e
  ·rename_i h
   cases e
   have rx:=Rp.same (Offs.same A H) _ rx
   obtain⟨p,xs,rfl,hq,r⟩:=zzs (K:=K) (Rp.same (Offs.same A H) _ ry) hi
   refine⟨p,xs,rfl,hq,zakk h.1 rx,zamg h.2 r,?_⟩
   rw[zami h.1 rx h.2 r]
   refine q _ H (Same.refl _) ?_ (λz=>by cases z)
   cases neg<;>exact zbp
  ·cases e
 ·cases e
noncomputable def ixD:OF
 | .str z,.int i=>if z.length<=100000 then(atI z.cps.toList i).map λc=>(.str ⟨#[c]⟩,false)else none
 | .list ds,.int i=>(atI ds i).map λd=>(d,false)
 | .tuple ds,.int i=>(atI ds i).map λd=>(d,false)
 | _,_=>none
theorem Rps.atI(h:Rps H ds vs)(e:atI ds i=some d):∃v,L2.atI vs i=some v/\Rp H d v:=by
 unfold L2.atI at e ⊢
 rw[<- h.length]
 cases g:ixN ds.length i with
 | none=>rw[g]at e;cases e
 | some j=>
  rw[g]at e
  exact h.get2 e
theorem zamj{K:qC}:SO (rIxU K) ixD:=by
 intro A H x y dx dy hA rx ry d fr e Q q
 unfold ixD at e
 split at e
 ·split at e
  ·rename_i z i hl
   obtain⟨c,hc,e⟩:=qE.mp e
   cases e
   cases znm rx;cases zdv ry
   exact⟨zfj hl,c,hc,q _ H (Same.refl _) zig (λz=>by cases z)⟩
  ·cases e
 ·obtain⟨c,hc,e⟩:=qE.mp e
  cases e
  obtain⟨p,xs,rfl,hp,r⟩:=zes rx
  cases zdv ry
  obtain⟨v,hv,rv⟩:=r.atI hc
  exact⟨xs,v,.inl (SqL.of (zdn hp)),hv,q _ H (Same.refl _) rv (λz=>by cases z)⟩
 ·obtain⟨c,hc,e⟩:=qE.mp e
  cases e
  obtain⟨p,xs,rfl,hp,r⟩:=zdt rx
  cases zdv ry
  obtain⟨v,hv,rv⟩:=r.atI hc
  exact⟨xs,v,.inr (SqT.of (zdn hp)),hv,q _ H (Same.refl _) rv (λz=>by cases z)⟩
 ·cases e
noncomputable def zll:List (PyData×PyData)->Key->Option PyData
 | [],_=>none
 | (k,d)::r,j=>if keyD k=some j then some d else zll r j
noncomputable def zxw(kvs:List (PyData×PyData))(j:Key):Bool:=(zll kvs j).isSome
noncomputable def zqy(kvs:List (PyData×PyData))(k:PyData)(d:PyData):List (PyData×PyData):=
 if(kvs.any λkv=>decide (keyD kv.1=keyD k))=true then kvs.map (λkv=>if keyD kv.1=keyD k then(kv.1,d)else kv)else kvs++[(k,d)]
noncomputable def zkm(kvs more:List (PyData×PyData)):List (PyData×PyData):=more.foldl (λacc kv=>zqy acc kv.1 kv.2) kvs
theorem zjm(hk:keyD k=some k')(h:Rp H d v)(q:Rpd H r vs):Rpd H ((k,d)::r) ((k',v)::vs):=by
 show Rpd H ((k,d)::r) _
 unfold Rpd;exact⟨k',v,vs,rfl,hk,h,q⟩
theorem zfv(h:Rpd H ((k,d)::r) ps):∃k' v vs,ps=(k',v)::vs/\keyD k=some k'/\Rp H d v/\Rpd H r vs:=by
 unfold Rpd at h;exact h
theorem Rpd.length:∀{kvs:List (PyData×PyData)}{ps:List (Key×V)},Rpd H kvs ps->kvs.length=ps.length
 | [],ps,h=>by unfold Rpd at h;subst h;rfl
 | (k,d)::r,ps,h=>by
  obtain⟨k',v,vs,rfl,_,_,h3⟩:=zfv h
  rw[qAe,qAe,h3.length]
theorem Rpd.get:∀{kvs:List (PyData×PyData)}{ps:List (Key×V)},Rpd H kvs ps->match zll kvs j with
  | some d=>∃v,valV ps j=some v/\Rp H d v
  | none=>valV ps j=none
 | [],ps,h=>by unfold Rpd at h;subst h;rfl
 | (k,d)::r,ps,h=>by
  obtain⟨k',v,vs,rfl,hk,h2,h3⟩:=zfv h
  have ih:=Rpd.get (j:=j) h3
  unfold zll
  by_cases e:k'=j
  ·rw[if_pos (by rw[hk,e])]
   exact⟨v,zor e,h2⟩
  ·rw[if_neg (λz=>e (by rw[hk]at z;exact qe z)),zos e]
   exact ih
theorem Rpd.any:∀{kvs:List (PyData×PyData)}{ps:List (Key×V)},Rpd H kvs ps->(kvs.any λkv=>decide (keyD kv.1=some j))=ps.any λkv=>decide (kv.1=j)
 | [],ps,h=>by unfold Rpd at h;subst h;rfl
 | (k,d)::r,ps,h=>by
  obtain⟨k',v,vs,rfl,hk,h2,h3⟩:=zfv h
  rw[qAy,qAy,h3.any,hk]
  congr 1
  simp
theorem Rpd.map(h':Rp H d' v'):∀{kvs:List (PyData×PyData)}{ps:List (Key×V)},Rpd H kvs ps->Rpd H (kvs.map λkv=>if keyD kv.1=some j then(kv.1,d')else kv) (ps.map λkv=>if kv.1=j then(kv.1,v')else kv)
 | [],ps,h=>by unfold Rpd at h;subst h;exact zmn
 | (k,d)::r,ps,h=>by
  obtain⟨k',v,vs,rfl,hk,h2,h3⟩:=zfv h
  rw[qM,qM]
  by_cases e:k'=j
  ·rw[if_pos (show keyD (k,d).1=some j by rw[hk,e]),if_pos (show((k',v):Key×V).1=j from e)]
   exact zjm hk h' (Rpd.map h' h3)
  ·rw[if_neg (show ¬keyD (k,d).1=some j from λz=>e (by rw[hk]at z;exact qe z)),if_neg (show ¬((k',v):Key×V).1=j from e)]
   exact zjm hk h2 (Rpd.map h' h3)
theorem Rpd.snoc(hk:keyD k=some k')(h':Rp H d v):∀{kvs:List (PyData×PyData)}{ps:List (Key×V)},Rpd H kvs ps->Rpd H (kvs++[(k,d)]) (ps++[(k',v)])
 | [],ps,h=>by unfold Rpd at h;subst h;exact zjm hk h' zmn
 | (k0,d0)::r,ps,h=>by
  obtain⟨k1,v1,vs,rfl,hk1,h2,h3⟩:=zfv h
  exact zjm hk1 h2 (Rpd.snoc hk h' h3)
theorem Rpd.put(h:Rpd H kvs ps)(hk:keyD k=some j)(h':Rp H d v):Rpd H (zqy kvs k d) (putK ps j v):=by
 unfold zqy putK
 rw[hk,h.any]
 split
 ·exact h.map h'
 ·exact h.snoc hk h'
theorem Rpd.merge:∀{more:List (PyData×PyData)}{ps:List (Key×V)}{kvs:List (PyData×PyData)}{qs:List (Key×V)},Rpd H kvs qs->Rpd H more ps->Rpd H (zkm kvs more) (zlf qs ps)
 | [],ps,kvs,qs,h,g=>by unfold Rpd at g;subst g;exact h
 | (k,d)::r,ps,kvs,qs,h,g=>by
  obtain⟨k',v,vs,rfl,hk,h2,h3⟩:=zfv g
  show Rpd H (zkm (zqy kvs k d) r) (zlf (putK qs k' v) vs)
  exact Rpd.merge (h.put hk h2) h3
theorem zaia(h:Rp H d v)(e:keyD d=some k):v=kV k:=by
 cases d<;>first
  | (cases e;unfold Rp at h;exact h)
  | cases e
noncomputable def zasr(a b:EF):EF:=λenv=>(a env).bind λx=>(b env).bind λy=>match x.d with
 | .dict kvs=>(keyD y.d).bind λk=>(zll kvs k).bind λd=>some ⟨d,false,bsOf d x.bs⟩
 | _=>none
noncomputable def eDIn(neg:Bool)(a b:EF):EF:=λenv=>(a env).bind λx=>(b env).bind λy=>match y.d with
 | .dict kvs=>(keyD x.d).bind λk=>some ⟨.bool (if neg then !zxw kvs k else zxw kvs k),false,[]⟩
 | _=>none
theorem zamk(r:Rpd H kvs ps)(k:Key):(valV ps k).isSome=zxw kvs k:=by
 have g:=r.get (j:=k)
 unfold zxw
 cases e:zll kvs k with
 | none=>rw[e]at g;rw[show valV ps k=none from g];rfl
 | some d=>rw[e]at g;obtain⟨w,e1,_⟩:=g;rw[e1];rfl
theorem zapu(ha:SE ty fa)(hb:SE td fb):SE (tDIn ty td) (eDIn false fa fb):=by
 intro fx H0 env σ H h rr hr Q q
 unfold eDIn at hr
 obtain⟨⟨dx,frx,bx⟩,ex,hr⟩:=qA.mp hr
 obtain⟨⟨dy,fry,by'⟩,ey,hr⟩:=qA.mp hr
 cases dy with
 | dict kvs=>
  obtain⟨k,ek,hr⟩:=qA.mp hr
  cases hr
  refine ha fx H0 env σ H h _ ex _ λv H1 s1 v1=>hb fx H0 env σ H1 (h.up s1) _ ey _ λu H2 s2 v2=>?_
  obtain⟨a,ps,rfl,hp,r⟩:=zpd v2.rp
  rw[zaia v1.rp ek]
  exact⟨a,_,rfl,DGet.k (zdn hp),by rw[zamk r k];exact q _ H2 (s1.trans s2) ⟨zbp,λz=>by cases z⟩⟩
 | _=>cases hr
noncomputable def zbr(f:EF):TF:=λenv=>(f env).bind λr=>match r.d with|.bool b=>some b|_=>none
theorem st_b(h:SE te f):ST (tB te) (zbr f):=by
 intro fx H0 env σ H hE b hb Q q
 unfold zbr at hb
 obtain⟨⟨d,fr,bs⟩,e,hb⟩:=qA.mp hb
 cases d with
 | bool c=>
  have hb:some c=some b:=hb
  cases hb
  exact h fx H0 env σ H hE _ e _ λv H' s v1=>⟨_,zkk v1.rp,q H' s⟩
 | _=>cases hb
theorem st_t(h:SE te f):ST (tTest te) (zbr f):=st_b h
noncomputable def truD:PyData->Option Bool
 | .none=>some false
 | .bool b=>some b
 | .int i=>some (i != 0)
 | .str x=>if x.length<=100000 then some ((x.length:Int) != 0)else none
 | .list ds=>some (!ds.isEmpty)
 | .tuple ds=>some (!ds.isEmpty)
 | .dict ds=>some (!ds.isEmpty)
noncomputable def tTru(f:EF):TF:=λenv=>(f env).bind λr=>truD r.d
theorem zkn{xs:List α}{ys:List β}(h:xs.length=ys.length):xs.isEmpty=ys.isEmpty:=by
 cases xs<;>cases ys<;>simp at h<;>rfl
theorem zarx{K:qC}{H:Hp}{d:PyData}{v:V}{b:Bool}(h:Rp H d v)(e:truD d=some b):TruV K v H b:=by
 cases d with
 | none=>cases e;cases zadp h;rfl
 | bool c=>cases e;cases zkk h;rfl
 | int i=>cases e;cases zdv h;rfl
 | str x=>
  have e:(if x.length<=100000 then some ((x.length:Int) != 0)else none)=some b:=e
  split at e
  ·rename_i hl;cases e;cases znm h;exact⟨zfj hl,rfl⟩
  ·cases e
 | list ds=>cases e;obtain⟨a,xs,rfl,h1,h2⟩:=zes h;exact .inl ⟨xs,SqL.of h1,by rw[zkn h2.length]⟩
 | tuple ds=>cases e;obtain⟨a,xs,rfl,h1,h2⟩:=zdt h;exact .inr (.inl ⟨xs,SqT.of h1,by rw[zkn h2.length]⟩)
 | dict ds=>cases e;obtain⟨a,xs,rfl,h1,h2⟩:=zpd h;exact .inr (.inr ⟨xs,h1,by rw[zkn h2.length]⟩)
theorem zhb{K:qC}{te:TE}{f:EF}(h:SE te f):ST (λσ H Q=>te σ H λx H1=>∃k,TruV K x H1 k/\Q k H1) (tTru f):=by
 intro fx H0 env σ H hE b hb Q q
 unfold tTru at hb
 obtain⟨r,e,hb⟩:=qA.mp hb
 exact h fx H0 env σ H hE _ e _ λv H' s v1=>⟨b,zarx (Rp.same (Offs.same _ _) _ v1.rp) hb,q H' s⟩
noncomputable def zxx(f g:TF):TF:=λenv=>(f env).bind λb=>if b=true then g env else some false
noncomputable def tOrF(f g:TF):TF:=λenv=>(f env).bind λb=>if b=true then some true else g env
noncomputable def zeg(f:TF):TF:=λenv=>(f env).map λb=>!b
theorem zapv(h:ST t f)(k:ST u g):ST (tAnd t u) (zxx f g):=by
 intro fx H0 env σ H hE b hb Q q
 unfold zxx at hb
 obtain⟨c,e,hb⟩:=qA.mp hb
 refine h fx H0 env σ H hE c e _ λH' s=>?_
 cases c with
 | true=>exact iteT (k fx H0 env σ H' (hE.up s) b hb _ λH'' s'=>q H'' (s.trans s'))
 | false=>cases hb;exact iteF (q H' s)
theorem zaml(h:ST t f)(k:ST u g):ST (tOr t u) (tOrF f g):=by
 intro fx H0 env σ H hE b hb Q q
 unfold tOrF at hb
 obtain⟨c,e,hb⟩:=qA.mp hb
 refine h fx H0 env σ H hE c e _ λH' s=>?_
 cases c with
 | false=>exact iteF (k fx H0 env σ H' (hE.up s) b hb _ λH'' s'=>q H'' (s.trans s'))
 | true=>cases hb;exact iteT (q H' s)
theorem znn(h:ST t f):ST (tNot t) (zeg f):=by
 intro fx H0 env σ H hE b hb Q q
 unfold zeg at hb
 obtain⟨c,e,rfl⟩:=qE.mp hb
 exact h fx H0 env σ H hE c e _ λH' s=>q H' s
noncomputable def asB:PyData->Option Bool|.bool b=>some b|_=>none
noncomputable def eAnd(a b:EF):EF:=λenv=>(a env).bind λx=>(asB x.d).bind λc=>if c=true then b env else some ⟨.bool false,false,[]⟩
theorem as_b(h:Rp H d v)(e:asB d=some c):v=.bl c:=by
 cases d<;>first
  | (cases e;exact zkk h)
  | cases e
theorem zakl(ha:SE ta fa)(hb:SE tb fb):SE (tAndV ta tb) (eAnd fa fb):=by
 intro fx H0 env σ H h rr hr Q q
 unfold eAnd at hr
 obtain⟨x,ex,hr⟩:=qA.mp hr
 obtain⟨c,ec,hr⟩:=qA.mp hr
 refine ha fx H0 env σ H h _ ex _ λv H1 s1 v1=>⟨c,as_b v1.rp ec,?_⟩
 cases c with
 | true=>exact iteT (hb fx H0 env σ H1 (h.up s1) _ hr _ λu H2 s2 v2=>q u H2 (s1.trans s2) (v2.later s1 (Same.refl _) λ_ z=>z))
 | false=>cases hr;exact iteF (q _ H1 s1 ⟨zbp,λz=>by cases z⟩)
noncomputable def aNil:AF:=λ_=>some []
noncomputable def zaa(a:EF)(r:AF):AF:=λenv=>(a env).bind λx=>(r env).map λxs=>x::xs
theorem zdz:SA tNil aNil:=by
 intro fx H0 env σ H h rs hr Q q
 cases hr
 exact q [] H (Same.refl _) .nil
theorem zaz(h1:SE te f)(h2:SA ta g):SA (tCons te ta) (zaa f g):=by
 intro fx H0 env σ H h rs hr Q q
 unfold zaa at hr
 obtain⟨x,ex,hr⟩:=qA.mp hr
 obtain⟨xs,exs,rfl⟩:=qE.mp hr
 exact h1 fx H0 env σ H h x ex _ λv H1 s1 v1=>h2 fx H0 env σ H1 (h.up s1) xs exs _ λvs H2 s2 vs2=>q (v::vs) H2 (s1.trans s2)
  (.cons (v1.later (Same.refl _) s2 λ_ z=>z) (Paired.mapP vs2 λ_ _ z=>z.later s1 (Same.refl _) λ_ y=>y))
noncomputable def zii(rs:List Val):List PyData:=rs.map (·.d)
noncomputable def bss(rs:List Val):List Nat:=rs.flatMap (·.bs)
theorem zjn{fx:Addr->Prop}:∀{rs:List Val}{vs:List V}{cs:List Nat},(∀i∈bss rs,i∈cs)->Paired (λr v=>ValOk (lim fx env σ r.bs) H H' r v) rs vs->Rps (Offs (lim fx env σ cs) H') (zii rs) vs
 | _,_,_,_,.nil=>zdm
 | r::rs,v::vs,cs,hc,.cons h t=>zdk (Rp.same (Offs.sub (zpe λi hi=>hc i (qBF.mpr ⟨r,qb,hi⟩))) _ h.rp)
   (zjn (λi hi=>hc i (by obtain⟨x,h1,h2⟩:=qBF.mp hi;exact qBF.mpr ⟨x,qQ _ h1,h2⟩)) t)
noncomputable def eTup(f:AF):EF:=λenv=>(f env).bind λrs=>if rs.length<=100000 then some ⟨.tuple (zii rs),false,bss rs⟩else none
noncomputable def eLst(f:AF):EF:=λenv=>(f env).bind λrs=>if rs.length<=100000 then some ⟨.list (zii rs),true,bss rs⟩else none
theorem zlm(rs:List Val):(zii rs).length=rs.length:=by unfold zii;rw[qD]
theorem zads(ha:SA ta f):SE (tTup ta) (eTup f):=by
 intro fx H0 env σ H h rr hr Q q
 unfold eTup at hr
 obtain⟨rs,er,hr⟩:=qA.mp hr
 split at hr
 ·rename_i hl
  cases hr
  refine ha fx H0 env σ H h rs er _ λvs H1 s1 v1=>?_
  have r:=zjn (λi hi=>hi) v1
  have hA:=(h.up s1).lims (bss rs)
  refine⟨zfj (by rw[<- r.length,zlm];exact hl),λp hp=>q _ _ (s1.trans (Same.new hp)) ⟨zph hp (zeu hA hp) r,λz=>by cases z⟩⟩
 ·cases hr
theorem zadt(ha:SA ta f):SE (tLst ta) (eLst f):=by
 intro fx H0 env σ H h rr hr Q q
 unfold eLst at hr
 obtain⟨rs,er,hr⟩:=qA.mp hr
 split at hr
 ·rename_i hl
  cases hr
  refine ha fx H0 env σ H h rs er _ λvs H1 s1 v1=>?_
  have r:=zjn (λi hi=>hi) v1
  have hA:=(h.up s1).lims (bss rs)
  refine⟨zfj (by rw[<- r.length,zlm];exact hl),λp hp=>q _ _ (s1.trans (Same.new hp)) ⟨zzr hp (zeu hA hp) r,λ_=>⟨p,rfl,s1.free hp,zss hp r⟩⟩⟩
 ·cases hr
noncomputable def zadu:EF:=λ_=>some ⟨.dict [],true,[]⟩
theorem zamm:SE tDNewK zadu:=by
 intro fx H0 env σ H h rr hr Q q
 cases hr
 intro p hp
 have hA:=h.lims []
 exact q _ _ (Same.new hp) ⟨zmm (by rw[Offs.get (zeu hA hp)];exact zap) zmn,λ_=>⟨p,rfl,hp,⟨[],zap,zmn⟩⟩⟩
noncomputable def eD1(k v:EF):EF:=λenv=>(k env).bind λx=>(v env).bind λy=>(keyD x.d).bind λ_=>some ⟨.dict [(x.d,y.d)],true,y.bs⟩
theorem zary(h1:SE tk f)(h2:SE tv g):SE (tDisp [(tk,tv)]) (eD1 f g):=by
 intro fx H0 env σ H h rr hr Q q
 unfold eD1 at hr
 obtain⟨x,ex,hr⟩:=qA.mp hr
 obtain⟨y,ey,hr⟩:=qA.mp hr
 obtain⟨k,ek,hr⟩:=qA.mp hr
 cases hr
 intro p hp
 have hp0:Same H (upd H p (.dK [])):=Same.new hp
 have npf:¬fx p:=zeu h.fxs hp
 have hE:EnvOk (λb=>fx b\/b=p) H0 env σ (upd H p (.dK [])):=h.grow hp0 (λb o e n z=>z.elim n λy=>by rw[y,hp]at e;cases e) λb z=>by
  rcases z with z|z
  ·obtain⟨o,e⟩:=h.fxs b z;exact⟨o,hp0 b o e⟩
  ·rw[z];exact⟨_,zap⟩
 refine h1 _ H0 env σ _ hE x ex _ λv H1 s1 v1=>h2 _ H0 env σ H1 (hE.up s1) y ey _ λu H2 s2 v2=>?_
 have ep:H2 p=some (.dK []):=(s1.trans s2) _ _ zap
 refine⟨ep,[(k,u)],by rw[zaia v1.rp ek];rfl,(by show 1<=15;decide),?_⟩
 have em:zlf [] [(k,u)]=[(k,u)]:=rfl
 rw[em]
 have rp2:Rp (Offs (λb=>lim fx env σ y.bs b\/b=p) (upd H2 p (.dK [(k,u)]))) y.d u:=by
  rw[Offs.upd (.inr rfl)]
  exact Rp.same (Offs.sub λb z=>by
   rcases z with(z|z)|z
   ·exact .inl (.inl z)
   ·exact .inr z
   ·exact .inl (.inr z)) _ v2.rp
 have hs:Same H (upd H2 p (.dK [(k,u)])):=λb o e=>by
  rw[zau (zay e hp)]
  exact s2 _ _ (s1 _ _ (hp0 _ _ e))
 have hnp:¬lim fx env σ y.bs p:=zeu (h.lims y.bs) hp
 refine q _ _ hs ⟨zmm (by rw[Offs.get hnp];exact zap) (zjm ek (Rp.same (Offs.sub λb z=>.inl z) _ rp2) zmn),λ_=>⟨p,rfl,hp,⟨_,zap,zjm ek rp2 zmn⟩⟩⟩
noncomputable abbrev GF:=List PyData->Option (PyData×Bool)
noncomputable def SC(r:List V->Hp->VK->Prop)(g:GF):Prop:=∀(A:Addr->Prop)(H:Hp)(vs:List V)(ds:List PyData),(∀b,A b->∃o,H b=some o)->Rps (Offs A H) ds vs->∀d fr,g ds=some (d,fr)->∀Q:VK,
 (∀v H',Same H H'->Rp (Offs A H') d v->(fr=true->∃a,v=.ref a/\H a=none/\zha (Offs (λb=>A b\/b=a) H') H' a d)->Q v H')->r vs H Q
noncomputable def eCB(g:GF)(f:AF):EF:=λenv=>(f env).bind λrs=>(g (zii rs)).bind λz=>some ⟨z.1,z.2,bsOf z.1 (bss rs)⟩
theorem zst{r:List V->Hp->VK->Prop}(hc:SC r g)(ha:SA ta f):SE (tCB r ta) (eCB g f):=by
 intro fx H0 env σ H h rr hr Q q
 unfold eCB at hr
 obtain⟨rs,er,hr⟩:=qA.mp hr
 obtain⟨⟨d,fr⟩,ez,hr⟩:=qA.mp hr
 cases hr
 refine ha fx H0 env σ H h rs er _ λvs H1 s1 v1=>hc (lim fx env σ (bss rs)) H1 vs (zii rs) ((h.up s1).lims _) (zjn (λi hi=>hi) v1) d fr ez _ λw H3 s3 rp fr3=>q w H3 (s1.trans s3) ⟨zxu rp,λe=>?_⟩
 obtain⟨a,g1,g2,g3⟩:=fr3 e
 refine⟨a,g1,s1.free g2,?_⟩
 have nf:zdy d=false:=by cases d<;>first|rfl|exact g3.elim
 show zha (Offs (λb=>lim fx env σ (bsOf d (bss rs)) b\/b=a) H3) H3 a d
 rw[show bsOf d (bss rs)=bss rs by unfold bsOf;rw[if_neg (by rw[nf];decide)]]
 exact g3
theorem rps1(h:Rps H [d] vs):∃v,vs=[v]/\Rp H d v:=by
 unfold Rps at h
 obtain⟨v,ws,rfl,h1,h2⟩:=h
 unfold Rps at h2
 subst h2
 exact⟨v,rfl,h1⟩
theorem rps2(h:Rps H [d,e] vs):∃v u,vs=[v,u]/\Rp H d v/\Rp H e u:=by
 unfold Rps at h
 obtain⟨v,ws,rfl,h1,h2⟩:=h
 obtain⟨u,rfl,h3⟩:=rps1 h2
 exact⟨v,u,rfl,h1,h3⟩
noncomputable def lenD:GF
 | [.str x]=>if x.length<=100000 then some (.int x.length,false)else none
 | [.list ds]=>some (.int ds.length,false)
 | [.tuple ds]=>some (.int ds.length,false)
 | _=>none
theorem zadv{K:qC}:SC (λxs H Q=>∃x n,xs=[x]/\LenV K x H n/\Q (.int n) H) lenD:=by
 intro A H vs ds hA rv d fr e Q q
 unfold lenD at e
 split at e
 ·split at e
  ·rename_i hl
   cases e
   obtain⟨v,rfl,r⟩:=rps1 rv
   cases znm r
   exact⟨_,_,rfl,⟨zfj hl,rfl⟩,q _ H (Same.refl _) zai (λz=>by cases z)⟩
  ·cases e
 ·cases e
  obtain⟨v,rfl,r⟩:=rps1 rv
  obtain⟨a,xs,rfl,h1,h2⟩:=zes r
  exact⟨_,_,rfl,.inl ⟨xs,SqL.of (zdn h1),rfl⟩,by rw[<- h2.length];exact q _ H (Same.refl _) zai (λz=>by cases z)⟩
 ·cases e
  obtain⟨v,rfl,r⟩:=rps1 rv
  obtain⟨a,xs,rfl,h1,h2⟩:=zdt r
  exact⟨_,_,rfl,.inr ⟨xs,SqT.of (zdn h1),rfl⟩,by rw[<- h2.length];exact q _ H (Same.refl _) zai (λz=>by cases z)⟩
 ·cases e
noncomputable def minD:GF
 | [.int i,.int j]=>some (.int (if j<i then j else i),false)
 | _=>none
theorem zapw:SC (λxs H Q=>∃i j,xs=[.int i,.int j]/\Q (.int (if j<i then j else i)) H) minD:=by
 intro A H vs ds hA rv d fr e Q q
 unfold minD at e
 split at e
 ·cases e
  obtain⟨v,u,rfl,r1,r2⟩:=rps2 rv
  cases zdv r1;cases zdv r2
  exact⟨_,_,rfl,q _ H (Same.refl _) zai (λz=>by cases z)⟩
 ·cases e
noncomputable def zln:GF
 | [c]=>(zfp c).map λds=>(.list ds,true)
 | _=>none
theorem zxy{K:qC}:SC (λxs H Q=>∃p ys,xs=[.ref p]/\(SqL K H p ys\/SqT K H p ys)/\∀l,H l=none->Q (.ref l) (upd H l (.lst ys))) zln:=by
 intro A H vs ds hA rv d fr e Q q
 unfold zln at e
 split at e
 ·obtain⟨es,he,e⟩:=qE.mp e
  cases e
  obtain⟨v,rfl,r1⟩:=rps1 rv
  obtain⟨p,xs,rfl,hq,r⟩:=zzs (K:=K) r1 he
  refine⟨p,xs,rfl,hq.imp (Offs.same A H).seq (SqT.same (Offs.same A H)),λl hl=>?_⟩
  exact q _ _ (Same.new hl) (zzr hl (zeu hA hl) r) λ_=>⟨l,rfl,hl,zss hl r⟩
 ·cases e
noncomputable def zfq:GF
 | [c]=>(zfp c).map λds=>(.tuple ds,false)
 | _=>none
theorem zzt{K:qC}:SC (λxs H Q=>∃p ys,xs=[.ref p]/\((SqL K H p ys/\∀l,H l=none->Q (.ref l) (upd H l (.tup ys)))\/(SqT K H p ys/\Q (.ref p) H))) zfq:=by
 intro A H vs ds hA rv d fr e Q q
 unfold zfq at e
 split at e
 ·obtain⟨es,he,e⟩:=qE.mp e
  cases e
  obtain⟨v,rfl,r1⟩:=rps1 rv
  rename_i c
  cases c with
  | list ds=>
   cases he
   obtain⟨p,xs,rfl,h1,r⟩:=zes r1
   exact⟨p,xs,rfl,.inl ⟨SqL.of (zdn h1),λl hl=>q _ _ (Same.new hl) (zph hl (zeu hA hl) r) (λz=>by cases z)⟩⟩
  | tuple ds=>
   cases he
   obtain⟨p,xs,rfl,h1,r⟩:=zdt r1
   exact⟨p,xs,rfl,.inr ⟨SqT.of (zdn h1),q _ H (Same.refl _) r1 (λz=>by cases z)⟩⟩
  | _=>cases he
 ·cases e
noncomputable def zpj:List PyData->Option (List Bool)
 | []=>some []
 | .bool b::r=>(zpj r).map λbs=>b::bs
 | _=>none
theorem zuy:∀{ds:List PyData}{vs:List V}{bs:List Bool},Rps H ds vs->zpj ds=some bs->vs=bs.map V.bl
 | [],vs,bs,h,e=>by unfold Rps at h;cases e;exact h
 | d::ds,vs,bs,h,e=>by
  unfold Rps at h
  obtain⟨v,ws,rfl,h1,h2⟩:=h
  cases d with
  | bool b=>
   obtain⟨cs,ec,rfl⟩:=qE.mp e
   rw[zkk h1,zuy h2 ec];rfl
  | _=>cases e
noncomputable def anyD(f:List Bool->Bool):GF
 | [.list ds]=>(zpj ds).map λbs=>(.bool (f bs),false)
 | _=>none
theorem zadw{K:qC}{f:List Bool->Bool}:SC (rAny K f) (anyD f):=by
 intro A H vs ds hA rv d fr e Q q
 unfold anyD at e
 split at e
 ·obtain⟨bs,he,e⟩:=qE.mp e
  cases e
  obtain⟨v,rfl,r1⟩:=rps1 rv
  obtain⟨p,xs,rfl,h1,r⟩:=zes r1
  cases zuy r he
  exact⟨p,bs,rfl,SqL.of (zdn h1),q _ H (Same.refl _) zbp (λz=>by cases z)⟩
 ·cases e
noncomputable def zpk:PyData->String
 | .none=>"NoneType"|.bool _=>"bool"|.int _=>"int"|.str _=>"str"|.list _=>"list"|.tuple _=>"tuple"|.dict _=>"dict"
theorem zarz{K:qC}{H:Hp}{d:PyData}{v:V}(h:Rp H d v):TyOf K H v (.type (zpk d)):=by
 cases d with
 | list ds=>obtain⟨a,xs,rfl,h1,_⟩:=zes h;exact .lst h1
 | tuple ds=>obtain⟨a,xs,rfl,h1,_⟩:=zdt h;exact .tup h1
 | dict ds=>obtain⟨a,xs,rfl,h1,_⟩:=zpd h;exact .dK h1
 | none=>cases zadp h;exact .non
 | bool b=>cases zkk h;exact .bl _
 | int b=>cases zdv h;exact .int _
 | str b=>cases znm h;exact .str _
noncomputable def isiB(n:String)(d:PyData):Bool:=zpk d==n||(zpk d=="bool"&&n=="int")
noncomputable def eIsi(n:String)(a:EF):EF:=λenv=>(a env).map λx=>⟨.bool (isiB n x.d),false,[]⟩
theorem zzu{K:qC}{n:String}{te:TE}{f:EF}(h1:SE te f)(hk:∀d,kitOne K (.type (zpk d)) (.type n)=some (isiB n d)) :
  SE (tCB (λxs H Q=>∃x n t b,xs=[x,.ty n]/\TyOf K H x t/\kitOne K t (.type n)=some b/\Q (.bl b) H) (tCons te (tCons (tC (.ty n)) tNil))) (eIsi n f):=by
 intro fx H0 env σ H h rr hr Q q
 unfold eIsi at hr
 obtain⟨x,ex,rfl⟩:=qE.mp hr
 refine h1 fx H0 env σ H h _ ex _ λv H1 s1 v1=>?_
 exact⟨v,n,_,_,rfl,zarz (Rp.same (Offs.same _ _) _ v1.rp),hk _,q _ H1 s1 ⟨zbp,λz=>by cases z⟩⟩
theorem zaib{K:qC}:∀d,kitOne K (.type (zpk d)) (.type "list")=some (isiB "list" d):=by intro d;cases d<;>rfl
theorem zuz{K:qC}:∀d,kitOne K (.type (zpk d)) (.type "tuple")=some (isiB "tuple" d):=by intro d;cases d<;>rfl
theorem zamn{K:qC}:∀d,kitOne K (.type (zpk d)) (.type "str")=some (isiB "str" d):=by intro d;cases d<;>rfl
noncomputable abbrev PF':=DEnv->Option (Option Int)
noncomputable def SPt(t:TO)(f:PF'):Prop:=∀(fx:Addr->Prop)(H0:Hp)(env:DEnv)(σ:St)(H:Hp),EnvOk fx H0 env σ H->∀r,f env=some r->∀Q:Option Int->Hp->Prop,(∀H',Same H H'->Q r H')->t σ H Q
noncomputable def zfk:PF':=λ_=>some none
noncomputable def zca(a:EF):PF':=λenv=>(a env).bind λx=>match x.d with|.int i=>some (some i)|_=>none
theorem zamo:SPt tNoPart zfk:=by
 intro fx H0 env σ H h r hr Q q
 cases hr
 exact q H (Same.refl _)
theorem zhk(h1:SE te f):SPt (tPart te) (zca f):=by
 intro fx H0 env σ H h r hr Q q
 unfold zca at hr
 obtain⟨⟨d,fr,bs⟩,ex,hr⟩:=qA.mp hr
 cases d with
 | int i=>
  cases hr
  exact h1 fx H0 env σ H h _ ex _ λv H1 s1 v1=>⟨i,zdv v1.rp,q H1 s1⟩
 | _=>cases hr
noncomputable def cutD(xs:List PyData)(lo hi:Option Int):List PyData:=(xs.drop (HT.sIx xs.length 0 lo)).take (HT.sIx xs.length xs.length hi - HT.sIx xs.length 0 lo)
theorem Rps.drop{ds:List PyData}{vs:List V}(h:Rps H ds vs)(n:Nat):Rps H (ds.drop n) (vs.drop n):=by
 induction n generalizing ds vs with
 | zero=>exact h
 | succ n ih=>
  cases ds with
  | nil=>unfold Rps at h;subst h;exact zdm
  | cons d ds=>unfold Rps at h;obtain⟨v,ws,rfl,h1,h2⟩:=h;exact ih h2
theorem Rps.take{ds:List PyData}{vs:List V}(h:Rps H ds vs)(n:Nat):Rps H (ds.take n) (vs.take n):=by
 induction n generalizing ds vs with
 | zero=>exact zdm
 | succ n ih=>
  cases ds with
  | nil=>unfold Rps at h;subst h;exact zdm
  | cons d ds=>unfold Rps at h;obtain⟨v,ws,rfl,h1,h2⟩:=h;exact zdk h1 (ih h2)
theorem Rps.cut(h:Rps H ds vs)(lo hi:Option Int):Rps H (cutD ds lo hi) (cutV vs lo hi):=by
 unfold cutD cutV
 rw[<- h.length]
 exact(h.drop _).take _
noncomputable def slD(d:PyData)(lo hi:Option Int):Option (PyData×Bool):=match d with
 | .str z=>if z.length<=100000 then some (.str (Txt.slice z lo hi),false)else none
 | .list ds=>some (.list (cutD ds lo hi),true)
 | _=>none
noncomputable def eSl(a:EF)(l h:PF'):EF:=λenv=>(a env).bind λx=>(l env).bind λlo=>(h env).bind λhi=>(slD x.d lo hi).bind λz=>some ⟨z.1,z.2,bsOf z.1 x.bs⟩
theorem zadx{K:qC}{te:TE}{tl th:TO}{f:EF}{fl fh:PF'}(h1:SE te f)(h2:SPt tl fl)(h3:SPt th fh):SE (tSl (rSlU K) te tl th) (eSl f fl fh):=by
 intro fx H0 env σ H h rr hr Q q
 unfold eSl at hr
 obtain⟨⟨d,frd,bs⟩,ex,hr⟩:=qA.mp hr
 obtain⟨lo,el,hr⟩:=qA.mp hr
 obtain⟨hi,eh,hr⟩:=qA.mp hr
 obtain⟨⟨d',fr'⟩,ez,hr⟩:=qA.mp hr
 cases hr
 refine h1 fx H0 env σ H h _ ex _ λv H1 s1 v1=>h2 fx H0 env σ H1 (h.up s1) _ el _ λH2 s2=>h3 fx H0 env σ H2 (h.up (s1.trans s2)) _ eh _ λH3 s3=>?_
 have v3:=(v1.later (Same.refl _) (s2.trans s3) λ_ z=>z).rp
 have t3:=(s1.trans s2).trans s3
 cases d with
 | str z=>
  have ez:(if z.length<=100000 then some (PyData.str (Txt.slice z lo hi),false)else none)=some (d',fr'):=ez
  split at ez
  ·rename_i hl
   cases ez
   cases znm v3
   exact⟨zfj hl,q _ H3 t3 ⟨zig,λz=>by cases z⟩⟩
  ·cases ez
 | list ds=>
  cases ez
  obtain⟨p,xs,rfl,hp,r⟩:=zes v3
  refine⟨p,xs,rfl,SqL.of (zdn hp),λl hl=>q _ _ (t3.trans (Same.new hl)) ?_⟩
  have hA:=(h.up t3).lims bs
  exact⟨zzr hl (zeu hA hl) (r.cut lo hi),λ_=>⟨l,rfl,t3.free hl,zss hl (r.cut lo hi)⟩⟩
 | _=>cases ez
noncomputable def zabk(fx:Addr->Prop)(H0:Hp)(d:PyData)(fr:Bool)(v:V)(H:Hp):Prop:=Rp (Offs fx H) d v/\(fr=true->∃a,v=.ref a/\H0 a=none/\zha (Offs (λb=>fx b\/b=a) H) H a d)
noncomputable def spD(n:Nat)(g:GF):Sp:=λvs H Q _=>∃(fx:Addr->Prop)(ds:List PyData)(d:PyData)(fr:Bool),ds.length=n/\(∀b,fx b->∃o,H b=some o)/\Rps (Offs fx H) ds vs/\g ds=some (d,fr)/\∀v H',Same H H'->zabk fx H d fr v H'->Q v H'
noncomputable def zal(n:Nat)(g:GF)(f:AF):EF:=λenv=>(f env).bind λrs=>if rs.length=n then(g (zii rs)).bind λz=>some ⟨z.1,z.2,bsOf z.1 (bss rs)⟩else none
theorem zhl(ha:SA ta f):SE (tCall (spD n g) [] E0 ta) (zal n g f):=by
 intro fx H0 env σ H h rr hr Q q
 unfold zal at hr
 obtain⟨rs,er,hr⟩:=qA.mp hr
 split at hr
 ·rename_i hn
  obtain⟨⟨d,fr⟩,ez,hr⟩:=qA.mp hr
  cases hr
  refine ha fx H0 env σ H h rs er _ λvs H1 s1 v1=>?_
  rw[qr]
  refine⟨lim fx env σ (bss rs),zii rs,d,fr,by rw[zlm];exact hn,(h.up s1).lims _,zjn (λi hi=>hi) v1,ez,λw H3 s3 ⟨rp,fr3⟩=>q w H3 (s1.trans s3) ⟨zxu rp,λe=>?_⟩⟩
  obtain⟨a,g1,g2,g3⟩:=fr3 e
  refine⟨a,g1,s1.free g2,?_⟩
  have nf:zdy d=false:=by cases d<;>first|rfl|exact g3.elim
  show zha (Offs (λb=>lim fx env σ (bsOf d (bss rs)) b\/b=a) H3) H3 a d
  rw[show bsOf d (bss rs)=bss rs by unfold bsOf;rw[if_neg (by rw[nf];decide)]]
  exact g3
 ·cases hr
inductive Out where
 | nx (env:DEnv)
 | bk (env:DEnv)
 | ct (env:DEnv)
 | rt (d:PyData) (fr:Bool)
noncomputable def Sat(fx:Addr->Prop)(H0:Hp)(D:Ends):Out->Prop
 | .nx env=>∀σ H,EnvOk fx H0 env σ H->D.nx σ H
 | .bk env=>∀σ H,EnvOk fx H0 env σ H->D.bk σ H
 | .ct env=>∀σ H,EnvOk fx H0 env σ H->D.ct σ H
 | .rt d fr=>∀v H,Same H0 H->zabk fx H0 d fr v H->D.rt v H
noncomputable abbrev SF:=DEnv->Option Out
noncomputable def SS(ts:TS)(F:SF):Prop:=∀(fx:Addr->Prop)(H0:Hp)(env:DEnv)(σ:St)(H:Hp)(D:Ends),EnvOk fx H0 env σ H->∀o,F env=some o->Sat fx H0 D o->ts D σ H
noncomputable def frz1(env:DEnv)(i:Nat):DEnv:=match env[i]? with
 | some (.ac d)=>env.set i (.pl d)
 | _=>env
noncomputable def frzs(env:DEnv)(bs:List Nat):DEnv:=bs.foldl frz1 env
theorem zzv(env:DEnv)(i:Nat):(frz1 env i).length=env.length:=by
 unfold frz1;split
 ·rw[qAG]
 ·rfl
theorem zcp{l:List α}(h:(l.set i x)[j]?=some y):(j=i/\y=x)\/(j≠i/\l[j]?=some y):=by
 rw[List.getElem?_set]at h
 by_cases e:i=j
 ·subst e
  rw[if_pos rfl]at h
  split at h
  ·exact .inl ⟨rfl,(qe h).symm⟩
  ·cases h
 ·rw[if_neg e]at h
  exact .inr ⟨λz=>e z.symm,h⟩
theorem zmp(h:(frz1 env i)[j]?=some (.ac d)):env[j]?=some (.ac d)/\j≠i:=by
 unfold frz1 at h
 split at h
 ·rcases zcp h with⟨_,e⟩|⟨e,h⟩
  ·cases e
  ·exact⟨h,e⟩
 ·rename_i hn
  refine⟨h,λe=>?_⟩
  subst e
  exact hn d h
theorem zamp(h:(frz1 env i)[j]?=some (.pl d)):env[j]?=some (.pl d)\/(j=i/\env[i]?=some (.ac d)):=by
 unfold frz1 at h
 split at h
 ·rename_i d' hd
  rcases zcp h with⟨e1,e⟩|⟨e,h⟩
  ·cases e;exact .inr ⟨e1,hd⟩
  ·exact .inl h
 ·exact .inl h
theorem zzw:∀a,own (frz1 env i) σ a->own env σ a:=by
 rintro a ⟨j,d,h1,h2⟩
 exact⟨j,d,(zmp h1).1,h2⟩
theorem EnvOk.frz1{fx:Addr->Prop}(h:EnvOk fx H0 env σ H)(i:Nat):EnvOk fx H0 (frz1 env i) σ H:=by
 have so:Same (Offs (λa=>fx a\/own env σ a) H) (Offs (λa=>fx a\/own (L2.frz1 env i) σ a) H):=Offs.sub λb z=>z.imp (λy=>y) (zzw b)
 refine⟨by rw[zzv];exact h.len,λj d e=>?_,λj d e=>?_,λj k d d' a h1 h2 h3 h4=>h.inj j k d d' a (zmp h1).1 (zmp h2).1 h3 h4,h.base,h.fxs⟩
 ·rcases zamp e with e|⟨rfl,e⟩
  ·obtain⟨v,h1,h2⟩:=h.pl j d e
   exact⟨v,h1,Rp.same so _ h2⟩
  ·obtain⟨a,h1,h2,h3,h4⟩:=h.ac j d e
   refine⟨_,h1,h4.rp so λo eo=>?_⟩
   rw[Offs.get]
   ·exact eo
   ·rintro(z|⟨k,d',z1,z2⟩)
    ·exact h3 z
    ·obtain⟨z1,z3⟩:=zmp z1
     exact z3 (h.inj k j d' d a z1 e z2 h1)
 ·obtain⟨a,h1,h2,h3,h4⟩:=h.ac j d (zmp e).1
  exact⟨a,h1,h2,h3,h4.same so λo z=>z⟩
theorem EnvOk.frzs{fx:Addr->Prop}:∀(bs:List Nat){env:DEnv},EnvOk fx H0 env σ H->EnvOk fx H0 (frzs env bs) σ H
 | [],_,h=>h
 | i::bs,_,h=>EnvOk.frzs bs (h.frz1 i)
theorem zady:∀{bs:List Nat}{env:DEnv}{j:Nat}{d:PyData},(frzs env bs)[j]?=some (.ac d)->env[j]?=some (.ac d)/\j∉bs
 | [],_,_,_,h=>⟨h,by simp⟩
 | i::bs,env,j,d,h=>by
  obtain⟨h1,h2⟩:=zady (bs:=bs) h
  obtain⟨h3,h4⟩:=zmp h1
  exact⟨h3,by simp[h4,h2]⟩
theorem zfb{fx:Addr->Prop}:∀a,fx a\/own (frzs env bs) σ a->lim fx env σ bs a:=by
 rintro a (z|⟨i,d,h1,h2⟩)
 ·exact .inl z
 ·obtain⟨h3,h4⟩:=zady h1
  exact .inr ⟨i,d,h4,h3,h2⟩
theorem zsu:∀(bs:List Nat)(env:DEnv),(frzs env bs).length=env.length
 | [],_=>rfl
 | i::bs,env=>(zsu bs _).trans (zzv env i)
theorem zxz{env:DEnv}{σ:St}:∀a,own (env.set i (.pl d)) (σ.set i (some v)) a->own env σ a:=by
 rintro a ⟨j,e,h1,h2⟩
 rcases zcp h1 with⟨_,z⟩|⟨ne,h1⟩
 ·cases z
 ·rcases zcp h2 with⟨z,_⟩|⟨_,h2⟩
  ·exact absurd z ne
  ·exact⟨j,e,h1,h2⟩
theorem EnvOk.setPl{fx:Addr->Prop}{env:DEnv}{σ:St}(h:EnvOk fx H0 env σ H)(i:Nat)(r:Rp (Offs (λa=>fx a\/own env σ a) H) d v):EnvOk fx H0 (env.set i (.pl d)) (σ.set i (some v)) H:=by
 have so:Same (Offs (λa=>fx a\/own env σ a) H) (Offs (λa=>fx a\/own (env.set i (.pl d)) (σ.set i (some v)) a) H):=Offs.sub λb z=>z.imp (λy=>y) (zxz b)
 have kept:∀{j:Nat},j≠i->(σ.set i (some v))[j]?=σ[j]?:=λ{j} n=>qY λz=>n z.symm
 refine⟨by rw[qAG,qAG];exact h.len,λj e hj=>?_,λj e hj=>?_,λj k d1 d2 a h1 h2 h3 h4=>?_,h.base,h.fxs⟩
 ·rcases zcp hj with⟨rfl,z⟩|⟨ne,hj'⟩
  ·cases z
   have hl:j<env.length:=by have:=(qK.mp hj).1;rwa [qAG]at this
   exact⟨v,by rw[q9 (by rw[<- h.len];exact hl)],Rp.same so _ r⟩
  ·obtain⟨u,h1,h2⟩:=h.pl j e hj'
   exact⟨u,by rw[kept ne];exact h1,Rp.same so _ h2⟩
 ·rcases zcp hj with⟨_,z⟩|⟨ne,hj'⟩
  ·cases z
  ·obtain⟨a,h1,h2,h3,h4⟩:=h.ac j e hj'
   exact⟨a,by rw[kept ne];exact h1,h2,h3,h4.same so λo z=>z⟩
 ·rcases zcp h1 with⟨_,z⟩|⟨n1,h1⟩
  ·cases z
  rcases zcp h2 with⟨_,z⟩|⟨n2,h2⟩
  ·cases z
  rw[kept n1]at h3
  rw[kept n2]at h4
  exact h.inj j k d1 d2 a h1 h2 h3 h4
theorem EnvOk.setAc {fx:Addr->Prop} {env:DEnv} {σ:St} (h:EnvOk (λb=>fx b\/b=a) H0 env σ H) (i:Nat) (r:zha (Offs (λb=>(fx b\/own env σ b)\/b=a) H) H a d) (h0:H0 a=none) (hf:¬fx a) :
  EnvOk fx H0 (env.set i (.ac d)) (σ.set i (some (.ref a))) H:=by
 have kept:∀{j:Nat},j≠i->(σ.set i (some (V.ref a)))[j]?=σ[j]?:=λ{j} n=>qY λz=>n z.symm
 have sub:∀b,fx b\/own (env.set i (.ac d)) (σ.set i (some (.ref a))) b->(fx b\/b=a)\/own env σ b:=by
  rintro b (z|⟨j,e,h1,h2⟩)
  ·exact .inl (.inl z)
  ·rcases zcp h1 with⟨rfl,z⟩|⟨ne,h1⟩
   ·have hl:j<env.length:=by have:=(qK.mp ‹(env.set j (.ac d))[j]?=_›).1;rwa [qAG]at this
    rw[q9 (by rw[<- h.len];exact hl)]at h2
    cases h2
    exact .inl (.inr rfl)
   ·rw[kept ne]at h2
    exact .inr ⟨j,e,h1,h2⟩
 have so:Same (Offs (λb=>(fx b\/b=a)\/own env σ b) H) (Offs (λb=>fx b\/own (env.set i (.ac d)) (σ.set i (some (.ref a))) b) H):=Offs.sub sub
 have so2:Same (Offs (λb=>(fx b\/own env σ b)\/b=a) H) (Offs (λb=>fx b\/own (env.set i (.ac d)) (σ.set i (some (.ref a))) b) H):=Offs.sub λb z=>by
  rcases sub b z with(y|y)|y
  ·exact .inl (.inl y)
  ·exact .inr y
  ·exact .inl (.inr y)
 refine⟨by rw[qAG,qAG];exact h.len,λj e hj=>?_,λj e hj=>?_,λj k d1 d2 b h1 h2 h3 h4=>?_,h.base,λb z=>h.fxs b (.inl z)⟩
 ·rcases zcp hj with⟨_,z⟩|⟨ne,hj'⟩
  ·cases z
  ·obtain⟨u,h1,h2⟩:=h.pl j e hj'
   exact⟨u,by rw[kept ne];exact h1,Rp.same so _ h2⟩
 ·rcases zcp hj with⟨rfl,z⟩|⟨ne,hj'⟩
  ·cases z
   have hl:j<env.length:=by have:=(qK.mp hj).1;rwa [qAG]at this
   exact⟨a,by rw[q9 (by rw[<- h.len];exact hl)],h0,hf,r.same so2 λo z=>z⟩
  ·obtain⟨b,h1,h2,h3,h4⟩:=h.ac j e hj'
   exact⟨b,by rw[kept ne];exact h1,h2,λz=>h3 (.inl z),h4.same so λo z=>z⟩
 ·rcases zcp h1 with⟨e1,z1⟩|⟨n1,h1'⟩<;>rcases zcp h2 with⟨e2,z2⟩|⟨n2,h2'⟩
  ·rw[e1,e2]
  ·subst e1
   have hl:j<env.length:=by have:=(qK.mp h1).1;rwa [qAG]at this
   rw[q9 (by rw[<- h.len];exact hl)]at h3
   rw[kept n2]at h4
   cases h3
   obtain⟨b,g1,g2,g3,g4⟩:=h.ac k d2 h2'
   rw[h4]at g1
   cases g1
   exact absurd (.inr rfl) g3
  ·subst e2
   have hl:k<env.length:=by have:=(qK.mp h2).1;rwa [qAG]at this
   rw[q9 (by rw[<- h.len];exact hl)]at h4
   rw[kept n1]at h3
   cases h4
   obtain⟨b,g1,g2,g3,g4⟩:=h.ac j d1 h1'
   rw[h3]at g1
   cases g1
   exact absurd (.inr rfl) g3
  ·rw[kept n1]at h3
   rw[kept n2]at h4
   exact h.inj j k d1 d2 b h1' h2' h3 h4
noncomputable def slOf(r:Val):Sl:=if r.fr=true then .ac r.d else .pl r.d
noncomputable def putV(env:DEnv)(i:Nat)(r:Val):DEnv:=(frzs env r.bs).set i (slOf r)
theorem EnvOk.put{fx:Addr->Prop}{σ:St}(h:EnvOk fx H0 env σ H)(s:Same H H'){r:Val}(hv:ValOk (lim fx env σ r.bs) H H' r v)(i:Nat):EnvOk fx H0 (putV env i r) (σ.set i (some v)) H':=by
 unfold putV slOf
 cases e:r.fr with
 | false=>
  rw[if_neg qT]
  exact((h.up s).frzs r.bs).setPl i (Rp.same (Offs.sub zfb) _ hv.rp)
 | true=>
  rw[if_pos rfl]
  obtain⟨a,rfl,ha,hacc⟩:=hv.fr e
  have nfx:¬fx a:=zeu h.fxs ha
  have g:EnvOk (λb=>fx b\/b=a) H0 env σ H':=h.grow s (λb o eo n z=>z.elim n λy=>by rw[y,ha]at eo;cases eo) λb z=>by
   rcases z with z|z
   ·obtain⟨o,eo⟩:=h.fxs b z;exact⟨o,s b o eo⟩
   ·rw[z];exact hacc.ex
  refine(g.frzs r.bs).setAc i (hacc.same (Offs.sub λb z=>?_) λo z=>z) (h.base.free ha) nfx
  rcases z with z|z
  ·exact .inl (zfb b z)
  ·exact .inr z
noncomputable def sNil:SF:=λenv=>some (.nx env)
noncomputable def sSeq(f g:SF):SF:=λenv=>(f env).bind λo=>match o with
 | .nx env'=>g env'
 | o=>some o
theorem zij:SS tNext sNil:=by
 intro fx H0 env σ H D h o e q
 cases e
 exact q σ H h
theorem zas(h1:SS t f)(h2:SS u g):SS (tSeq t u) (sSeq f g):=by
 intro fx H0 env σ H D h o e q
 unfold sSeq at e
 obtain⟨o1,e1,e⟩:=qA.mp e
 refine h1 fx H0 env σ H _ h o1 e1 ?_
 cases o1 with
 | nx env'=>exact λσ' H' h'=>h2 fx H0 env' σ' H' D h' o e q
 | bk env'=>cases e;exact q
 | ct env'=>cases e;exact q
 | rt d fr=>cases e;exact q
noncomputable def zzx:SF:=λ_=>none
theorem zzy:SS tNever zzx:=by
 intro fx H0 env σ H D h o e q
 cases e
noncomputable def zabl(f:EF):SF:=λenv=>(f env).map λ_=>.nx env
theorem zadz(h1:SE te f):SS (tDrop te) (zabl f):=by
 intro fx H0 env σ H D h o e q
 unfold zabl at e
 obtain⟨r,er,rfl⟩:=qE.mp e
 exact h1 fx H0 env σ H h r er _ λv H' s _=>q σ H' (h.up s)
noncomputable def sRet(f:EF):SF:=λenv=>(f env).map λr=>.rt r.d r.fr
theorem zik(h1:SE te f):SS (tRet te) (sRet f):=by
 intro fx H0 env σ H D h o e q
 unfold sRet at e
 obtain⟨r,er,rfl⟩:=qE.mp e
 refine h1 fx H0 env σ H h r er _ λv H' s hv=>q v H' (h.base.trans s) ⟨Rp.same (Offs.sub λb z=>.inl z) _ hv.rp,λz=>?_⟩
 obtain⟨a,g1,g2,g3⟩:=hv.fr z
 exact⟨a,g1,h.base.free g2,g3.same (Offs.sub λb y=>y.imp .inl id) λo z=>z⟩
noncomputable def zqz(i:Nat):SF:=λenv=>match env[i]? with
 | some (.pl d)=>some (.rt d false)
 | some (.ac d)=>some (.rt d true)
 | _=>none
theorem zko:SS (tRet (tVar i)) (zqz i):=by
 intro fx H0 env σ H D h o e q
 unfold zqz at e
 cases ei:env[i]? with
 | none=>rw[ei]at e;cases e
 | some sl=>
  rw[ei]at e
  cases sl with
  | no=>cases e
  | pl d=>
   cases e
   obtain⟨v,h1,h2⟩:=h.pl i d ei
   exact⟨v,h1,q v H h.base ⟨Rp.same (Offs.sub λb z=>.inl z) _ h2,λz=>by cases z⟩⟩
  | ac d=>
   cases e
   obtain⟨a,h1,h2,h3,h4⟩:=h.ac i d ei
   refine⟨_,h1,q _ H h.base ⟨h4.rp (Offs.sub λb z=>.inl z) λo eo=>by rw[Offs.get h3];exact eo,λ_=>⟨a,rfl,h2,h4.same (Offs.sub λb z=>?_) λo z=>z⟩⟩⟩
   rcases z with z|z
   ·exact .inl z
   ·rw[z];exact .inr ⟨i,d,ei,h1⟩
noncomputable def sIf(c:TF)(f g:SF):SF:=λenv=>(c env).bind λb=>if b=true then f env else g env
theorem zkp(hc:ST tc c)(h1:SS t f)(h2:SS u g):SS (tIfS tc t u) (sIf c f g):=by
 intro fx H0 env σ H D h o e q
 unfold sIf at e
 obtain⟨b,eb,e⟩:=qA.mp e
 refine hc fx H0 env σ H h b eb _ λH' s=>?_
 cases b with
 | true=>exact iteT (h1 fx H0 env σ H' D (h.up s) o e q)
 | false=>exact iteF (h2 fx H0 env σ H' D (h.up s) o e q)
noncomputable def sSet(i:Nat)(f:EF):SF:=λenv=>(f env).map λr=>.nx (putV env i r)
theorem zzz(h1:SE te f):SS (tAsg te (gName i)) (sSet i f):=by
 intro fx H0 env σ H D h o e q
 unfold sSet at e
 obtain⟨r,er,rfl⟩:=qE.mp e
 exact h1 fx H0 env σ H h r er _ λv H' s hv=>q _ H' (h.put s hv i)
noncomputable abbrev GT:=PyData->DEnv->Option DEnv
noncomputable def SG(g:TG)(f:GT):Prop:=∀(fx:Addr->Prop)(H0:Hp)(env:DEnv)(σ:St)(H:Hp)(d:PyData)(v:V),EnvOk fx H0 env σ H->Rp (Offs (λa=>fx a\/own env σ a) H) d v->∀env',f d env=some env'->∀Q:St->Hp->Prop,
 (∀σ',EnvOk fx H0 env' σ' H->Q σ' H)->g v σ H Q
noncomputable abbrev GTs:=List PyData->DEnv->Option DEnv
noncomputable def SGs(g:TGs)(f:GTs):Prop:=∀(fx:Addr->Prop)(H0:Hp)(env:DEnv)(σ:St)(H:Hp)(ds:List PyData)(vs:List V),EnvOk fx H0 env σ H->Rps (Offs (λa=>fx a\/own env σ a) H) ds vs->∀env',f ds env=some env'->∀Q:St->Hp->Prop,
 (∀σ',EnvOk fx H0 env' σ' H->Q σ' H)->g vs σ H Q
noncomputable def gN(i:Nat):GT:=λd env=>some (env.set i (.pl d))
theorem zcz:SG (gName i) (gN i):=by
 intro fx H0 env σ H d v h r env' e Q q
 cases e
 exact q _ (h.setPl i r)
noncomputable def zbw:GTs:=λds env=>match ds with|[]=>some env|_=>none
noncomputable def zag(i:Nat)(g:GTs):GTs:=λds env=>match ds with|d::r=>g r (env.set i (.pl d))|[]=>none
theorem zfy:SGs gNil zbw:=by
 intro fx H0 env σ H ds vs h r env' e Q q
 cases ds with
 | nil=>cases e;unfold Rps at r;exact⟨r,q _ h⟩
 | cons _ _=>cases e
theorem zbl(h1:SGs t g):SGs (gCons (gName i) t) (zag i g):=by
 intro fx H0 env σ H ds vs h r env' e Q q
 cases ds with
 | nil=>cases e
 | cons d ds=>
  unfold Rps at r
  obtain⟨v,ws,rfl,r1,r2⟩:=r
  refine⟨v,ws,rfl,h1 fx H0 (env.set i (.pl d)) _ H ds ws (h.setPl i r1) (Rps.same (Offs.sub λb z=>z.imp (λy=>y) (zxz b)) _ r2) env' e Q q⟩
noncomputable def gT(n:Nat)(g:GTs):GT:=λd env=>match d with|.tuple ds=>if ds.length=n then g ds env else none|_=>none
theorem zil{K:qC}{n:Nat}{t:TGs}{g:GTs}(h1:SGs t g):SG (gTup K n t) (gT n g):=by
 intro fx H0 env σ H d v h r env' e Q q
 unfold gT at e
 cases d with
 | tuple ds=>
  have e:(if ds.length=n then g ds env else none)=some env':=e
  split at e
  ·rename_i hn
   obtain⟨a,xs,rfl,ha,rs⟩:=zdt r
   exact⟨a,xs,rfl,SqT.of (zdn ha),by rw[<- rs.length];exact hn,h1 fx H0 env σ H ds xs h rs env' e Q q⟩
  ·cases e
 | _=>cases e
noncomputable def sAsg(f:EF)(g:GT):SF:=λenv=>(f env).bind λr=>(g r.d (frzs env r.bs)).map .nx
theorem zapx(h1:SE te f)(h2:SG g gf):SS (tAsg te g) (sAsg f gf):=by
 intro fx H0 env σ H D h o e q
 unfold sAsg at e
 obtain⟨r,er,e⟩:=qA.mp e
 obtain⟨env',e',rfl⟩:=qE.mp e
 exact h1 fx H0 env σ H h r er _ λv H' s hv=>h2 fx H0 _ σ H' r.d v ((h.up s).frzs r.bs) (Rp.same (Offs.sub zfb) _ hv.rp) env' e' _ λσ' h'=>q σ' H' h'
theorem EnvOk.mut{fx:Addr->Prop}{env:DEnv}(h:EnvOk fx H0 env σ H)(e:env[i]?=some (.ac d))(ea:σ[i]?=some (some (.ref a)))
  (r:zha (Offs (λb=>fx b\/own env σ b) H) (upd H a o) a d'):EnvOk fx H0 (env.set i (.ac d')) σ (upd H a o):=by
 have hl:i<env.length:=(qK.mp e).1
 have oa:own env σ a:=⟨i,d,e,ea⟩
 have ow:∀b,own (env.set i (.ac d')) σ b↔own env σ b:=by
  intro b
  constructor
  ·rintro⟨j,d1,h1,h2⟩
   rcases zcp h1 with⟨rfl,z⟩|⟨ne,h1⟩
   ·exact⟨j,d,e,h2⟩
   ·exact⟨j,d1,h1,h2⟩
  ·rintro⟨j,d1,h1,h2⟩
   by_cases hj:j=i
   ·subst hj;exact⟨j,d',by rw[q9 hl],h2⟩
   ·exact⟨j,d1,by rw[qY λz=>hj z.symm];exact h1,h2⟩
 have so:Same (Offs (λb=>fx b\/own env σ b) H) (Offs (λb=>fx b\/own (env.set i (.ac d')) σ b) (upd H a o)):=by
  have:Same (Offs (λb=>fx b\/own env σ b) (upd H a o)) (Offs (λb=>fx b\/own (env.set i (.ac d')) σ b) (upd H a o)):=Offs.sub λb z=>z.imp (λy=>y) (ow b).mp
  rw[Offs.upd (.inr oa)]at this
  exact this
 obtain⟨a',g1,g2,g3,g4⟩:=h.ac i d e
 rw[ea]at g1
 cases g1
 refine⟨by rw[qAG];exact h.len,λj d1 hj=>?_,λj d1 hj=>?_,λj k d1 d2 b h1 h2 h3 h4=>?_,λb u eb=>by rw[zau (zay eb g2)];exact h.base b u eb,λb z=>?_⟩
 ·rcases zcp hj with⟨_,z⟩|⟨ne,hj'⟩
  ·cases z
  ·obtain⟨u,h1,h2⟩:=h.pl j d1 hj'
   exact⟨u,h1,Rp.same so _ h2⟩
 ·rcases zcp hj with⟨rfl,z⟩|⟨ne,hj'⟩
  ·cases z
   exact⟨a,ea,g2,g3,r.same so λo z=>z⟩
  ·obtain⟨b,h1,h2,h3,h4⟩:=h.ac j d1 hj'
   refine⟨b,h1,h2,h3,h4.same so λo' z=>?_⟩
   rw[zau λy=>ne (h.inj j i d1 d a hj' e (by rw[<- y];exact h1) ea)]
   exact z
 ·have f:∀{j:Nat}{d1:PyData},(env.set i (.ac d'))[j]?=some (.ac d1)->∃d2,env[j]?=some (.ac d2):=λ{j d1} hj=>by
   rcases zcp hj with⟨rfl,z⟩|⟨ne,hj'⟩
   ·exact⟨d,e⟩
   ·exact⟨d1,hj'⟩
  obtain⟨e1,h1⟩:=f h1
  obtain⟨e2,h2⟩:=f h2
  exact h.inj j k e1 e2 b h1 h2 h3 h4
 ·obtain⟨u,eu⟩:=h.fxs b z
  exact⟨u,by rw[zau λy=>g3 (by rw[<- y];exact z)];exact eu⟩
noncomputable def sApp(i:Nat)(f:EF):SF:=λenv=>match env[i]? with
 | some (.ac (.list ds))=>(f env).bind λr=>if ds.length<100000/\i∉r.bs then some (.nx ((frzs env r.bs).set i (.ac (.list (ds++[r.d])))))else none
 | _=>none
theorem zlo:∀{bs:List Nat},i∉bs->env[i]?=some (.ac d)->(frzs env bs)[i]?=some (.ac d):=by
 intro bs
 induction bs generalizing env with
 | nil=>intro _ e;exact e
 | cons j bs ih=>
  intro hn e
  have hj:i≠j:=λz=>hn (by simp[z])
  refine ih (λz=>hn (qQ _ z)) ?_
  unfold frz1
  split
  ·rw[qY λz=>hj z.symm];exact e
  ·exact e
theorem zapy{K:qC}{i:Nat}{te:TE}{f:EF}(h1:SE te f):SS (tDrop (tBM K "list" zmj (tVar i) (tCons te tNil))) (sApp i f):=by
 intro fx H0 env σ H D h o e q
 unfold sApp at e
 split at e
 ·rename_i ds ei
  obtain⟨r,er,e⟩:=qA.mp e
  split at e
  ·rename_i hl
   cases e
   obtain⟨a,g1,g2,g3,g4⟩:=h.ac i _ ei
   obtain⟨xs,hx,rx⟩:=g4
   refine⟨_,g1,.inl ⟨rfl,_,SqL.of hx⟩,h1 fx H0 env σ H h r er _ λv H' s hv=>?_⟩
   have h':=(h.up s).frzs r.bs
   have ei':=zlo hl.2 ei
   have hx':=s _ _ hx
   have rx':Rps (Offs (λb=>fx b\/own (frzs env r.bs) σ b) H') ds xs:=by
    obtain⟨a',z1,_,_,z4⟩:=h'.ac i _ ei'
    rw[g1]at z1
    cases z1
    obtain⟨ys,y1,y2⟩:=z4
    rw[hx']at y1
    cases y1
    exact y2
   refine⟨a,xs,v,rfl,rfl,hx',zih (by rw[<- rx.length];exact hl.1),?_⟩
   refine q σ _ (h'.mut ei' g1 ⟨_,zap,rx'.append (zdk (Rp.same (Offs.sub zfb) _ hv.rp) zdm)⟩)
  ·cases e
 ·cases e
noncomputable def sPut(i:Nat)(fk fv:EF):SF:=λenv=>match env[i]? with
 | some (.ac (.dict kvs))=>(fv env).bind λr=>(fk env).bind λk=>(keyD k.d).bind λ_=>if kvs.length<100000/\i∉r.bs then some (.nx ((frzs env r.bs).set i (.ac (.dict (zqy kvs k.d r.d)))))else none
 | _=>none
theorem zakm(h1:SE tk fk)(h2:SE tv fv):SS (sDPut (tVar i) tk tv) (sPut i fk fv):=by
 intro fx H0 env σ H D h o e q
 unfold sPut at e
 split at e
 ·rename_i kvs ei
  obtain⟨r,er,e⟩:=qA.mp e
  obtain⟨k,ek,e⟩:=qA.mp e
  obtain⟨kk,ekk,e⟩:=qA.mp e
  split at e
  ·rename_i hl
   cases e
   obtain⟨a,g1,g2,g3,g4⟩:=h.ac i _ ei
   obtain⟨ps,hx,rx⟩:=g4
   refine h2 fx H0 env σ H h r er _ λv H' s hv=>⟨_,g1,h1 fx H0 env σ H' (h.up s) k ek _ λu H2 s2 hk=>?_⟩
   have t2:=s.trans s2
   have h':=(h.up t2).frzs r.bs
   have ei':=zlo hl.2 ei
   have hx':=t2 _ _ hx
   have rx':Rpd (Offs (λb=>fx b\/own (frzs env r.bs) σ b) H2) kvs ps:=by
    obtain⟨a',z1,_,_,z4⟩:=h'.ac i _ ei'
    rw[g1]at z1
    cases z1
    obtain⟨ys,y1,y2⟩:=z4
    rw[hx']at y1
    cases y1
    exact y2
   rw[zaia hk.rp ekk]
   refine⟨a,_,rfl,DPut.k hx' (zih (by rw[<- rx.length];exact hl.1)),?_⟩
   refine q σ _ (h'.mut ei' g1 ⟨_,zap,rx'.put ekk (Rp.same (Offs.sub zfb) _ (hv.later (Same.refl _) s2 λ_ z=>z).rp)⟩)
  ·cases e
 ·cases e
noncomputable def sUpd(i:Nat)(f:EF):SF:=λenv=>match env[i]? with
 | some (.ac (.dict kvs))=>(f env).bind λr=>match r.d with
  | .dict more=>if kvs.length+more.length<=100000/\i∉r.bs then some (.nx ((frzs env r.bs).set i (.ac (.dict (zkm kvs more)))))else none
  | _=>none
 | _=>none
theorem zakn{K:qC}{i:Nat}{te:TE}{f:EF}(h1:SE te f):SS (tDrop (tBM K "dict" zadi (tVar i) (tCons te tNil))) (sUpd i f):=by
 intro fx H0 env σ H D h o e q
 unfold sUpd at e
 split at e
 ·rename_i kvs ei
  obtain⟨⟨rd,rfr,rbs⟩,er,e⟩:=qA.mp e
  cases rd with
  | dict more=>
   have e:(if kvs.length+more.length<=100000/\i∉rbs then some (Out.nx ((frzs env rbs).set i (.ac (.dict (zkm kvs more)))))else none)=some o:=e
   split at e
   ·rename_i hl
    cases e
    obtain⟨a,g1,g2,g3,g4⟩:=h.ac i _ ei
    obtain⟨ps,hx,rx⟩:=g4
    refine⟨_,g1,.inr (.inr (.inl ⟨rfl,.inl ⟨_,hx⟩⟩)),h1 fx H0 env σ H h _ er _ λv H' s hv=>?_⟩
    have h':=(h.up s).frzs rbs
    have ei':=zlo hl.2 ei
    have hx':=s _ _ hx
    have rx':Rpd (Offs (λb=>fx b\/own (frzs env rbs) σ b) H') kvs ps:=by
     obtain⟨a',z1,_,_,z4⟩:=h'.ac i _ ei'
     rw[g1]at z1
     cases z1
     obtain⟨ys,y1,y2⟩:=z4
     rw[hx']at y1
     cases y1
     exact y2
    obtain⟨b,qs,rfl,hb,rb⟩:=zpd (Rp.same (Offs.sub zfb) _ hv.rp)
    have hab:a≠b:=λz=>by
     subst z
     exact(Offs.of hb).1 (.inr ⟨i,_,ei',g1⟩)
    refine⟨a,b,ps,qs,rfl,rfl,hab,hx',zdn hb,zfj (by rw[<- rx.length,<- rb.length];exact hl.1),?_⟩
    exact q σ _ (h'.mut ei' g1 ⟨_,zap,rx'.merge rb⟩)
   ·cases e
  | _=>cases e
 ·cases e
theorem EnvOk.rebase{fx:Addr->Prop}(h:EnvOk fx H0 env σ H):EnvOk fx (Offs (own env σ) H) env σ H:=by
 refine⟨h.len,h.pl,λi d e=>?_,h.inj,Offs.same _ _,h.fxs⟩
 obtain⟨a,h1,h2,h3,h4⟩:=h.ac i d e
 exact⟨a,h1,Offs.out ⟨i,d,e,h1⟩,h3,h4⟩
theorem EnvOk.floor{fx:Addr->Prop}(h:EnvOk fx H0 env σ H):Same H0 (Offs (own env σ) H):=λb o e=>by
 rw[Offs.get]
 ·exact h.base b o e
 ·rintro⟨i,d,h1,h2⟩
  obtain⟨a,g1,g2,_⟩:=h.ac i d h1
  rw[h2]at g1
  cases g1
  rw[g2]at e
  cases e
theorem EnvOk.unbase{fx:Addr->Prop}(h:EnvOk fx F env σ H)(s:Same H0 F):EnvOk fx H0 env σ H:=by
 refine⟨h.len,h.pl,λi d e=>?_,h.inj,s.trans h.base,h.fxs⟩
 obtain⟨a,h1,h2,h3,h4⟩:=h.ac i d e
 exact⟨a,h1,s.free h2,h3,h4⟩
theorem zabk.unbase{fx:Addr->Prop}(h:zabk fx F d fr v H)(s:Same H0 F):zabk fx H0 d fr v H:=
 ⟨h.1,λe=>let⟨a,h1,h2,h3⟩:=h.2 e;⟨a,h1,s.free h2,h3⟩⟩
theorem EnvOk.seen{fx:Addr->Prop}(h:EnvOk fx (Offs (own env σ) H) env' σ' H'):Same (Offs (λb=>fx b\/own env σ b) H) (Offs (λb=>fx b\/own env' σ' b) H'):=λb o e=>by
 obtain⟨h1,h2⟩:=Offs.of e
 have hF:Offs (own env σ) H b=some o:=by rw[Offs.get λz=>h1 (.inr z)];exact h2
 rw[Offs.get]
 ·exact h.base b o hF
 ·rintro(z|⟨i,d,g1,g2⟩)
  ·exact h1 (.inl z)
  ·obtain⟨a,k1,k2,_⟩:=h.ac i d g1
   rw[g2]at k1
   cases k1
   rw[k2]at hF
   cases hF
theorem EnvOk.all{fx:Addr->Prop}(h:EnvOk fx H0 env σ H):∀b,fx b\/own env σ b->∃o,H b=some o:=λb z=>h.lims [] b (zpf b z)
noncomputable def Yl(A0:Addr->Prop)(H1:Hp)(J:It)(ds:List PyData):Prop:=∀(A:Addr->Prop)(H':Hp),(∀b,A b->∃o,H' b=some o)->Same (Offs A0 H1) (Offs A H')->
 (∀i d,ds[i]?=some d->J.go i H'/\∀x H'',J.yld i H' x H''->Same H' H''/\Rp (Offs A H'') d x)/\J.stop ds.length H'
noncomputable abbrev IF':=DEnv->Option (List PyData×List Nat)
noncomputable def SI(wi:TI)(f:IF'):Prop:=∀(fx:Addr->Prop)(H0:Hp)(env:DEnv)(σ:St)(H:Hp),EnvOk fx H0 env σ H->∀ds bs,f env=some (ds,bs)->∀R:It->Hp->Prop,
 (∀J H1,Same H H1->Yl (λb=>fx b\/own (frzs env bs) σ b) H1 J ds->R J H1)->wi σ H R
noncomputable def iSeq(K:qC)(te:TE):TI:=λσ H R=>te σ H λx H1=>∃a,x=.ref a/\((∃xs,SqL K H1 a xs)/\R (Itl K a) H1\/(∃xs,SqT K H1 a xs)/\R (Itt K a) H1)
theorem zapz{X:Cx}(hl:PE X l tl):PI X tg l (iSeq X.K tl):=by
 intro pins s σ H R I h
 refine thn (hl pins s σ H _ I h) λv s1 ⟨x,H1,I1,r1,q1⟩=>?_
 obtain⟨a,e,q⟩:=q1
 subst e
 cases r1
 rcases q with⟨⟨xs,hq⟩,q⟩|⟨⟨xs,hq⟩,q⟩
 ·obtain⟨its,rv,p,hz⟩:=I1.list hq
  refine qAp p.isList ?_
  refine⟨s1.heap.objs.size,[s1.heap.objs.size],_,_,H1,rfl,I1.kept (t':=s1.toks) λb o e=>qF _ e,zuh a _,⟨_,qd _ rfl,rfl,rfl⟩,λb hb=>?_,q⟩
  have e:b=s1.heap.objs.size:=by simpa using hb
  subst e
  exact I1.fpOk (qO _) (I1.hok.fresh (qO _))
 ·obtain⟨its,rv,p,hz⟩:=I1.tuple hq
  refine qAm (show s1.heap.IsTuple a its.toArray from p) ?_
  refine⟨s1.heap.objs.size,[s1.heap.objs.size],_,_,H1,rfl,I1.kept (t':=s1.toks) λb o e=>qF _ e,zaba a _,⟨_,qd _ rfl,rfl,rfl⟩,λb hb=>?_,q⟩
  have e:b=s1.heap.objs.size:=by simpa using hb
  subst e
  exact I1.fpOk (qO _) (I1.hok.fresh (qO _))
theorem zamq{X:Cx}{K:qC}(hK:X.K=K){tg l:Expr}{tl:TE}(hl:PE X l tl):PI X tg l (iSeq K tl):=by subst hK;exact zapz hl
noncomputable def zaj(f:EF):IF':=λenv=>(f env).bind λr=>(zfp r.d).map λds=>(ds,r.bs)
theorem zamr{K:qC}{A0:Addr->Prop}{H1:Hp}{a:Addr}{ds:List PyData}{xs:List V}(h:Offs A0 H1 a=some (.lst xs))(r:Rps (Offs A0 H1) ds xs):Yl A0 H1 (Itl K a) ds:=by
 intro A H' hA s
 have ha:=zdn (s _ _ h)
 have r':=Rps.same s _ r
 refine⟨λi d e=>?_,⟨xs,SqL.of ha,by rw[r.length];exact qO _⟩⟩
 obtain⟨v,hv,rv⟩:=r'.get2 e
 refine⟨⟨xs,v,SqL.of ha,hv⟩,λx H'' y=>?_⟩
 obtain⟨rfl,y⟩:=y
 have:=y xs (SqL.of ha)
 rw[hv]at this
 cases this
 exact⟨Same.refl _,rv⟩
theorem zaqa{K:qC}{A0:Addr->Prop}{H1:Hp}{a:Addr}{ds:List PyData}{xs:List V}(h:Offs A0 H1 a=some (.tup xs))(r:Rps (Offs A0 H1) ds xs):Yl A0 H1 (Itt K a) ds:=by
 intro A H' hA s
 have ha:=zdn (s _ _ h)
 have r':=Rps.same s _ r
 refine⟨λi d e=>?_,⟨xs,SqT.of ha,by rw[r.length];exact qO _⟩⟩
 obtain⟨v,hv,rv⟩:=r'.get2 e
 refine⟨⟨xs,v,SqT.of ha,hv⟩,λx H'' y=>?_⟩
 obtain⟨rfl,y⟩:=y
 have:=y xs (SqT.of ha)
 rw[hv]at this
 cases this
 exact⟨Same.refl _,rv⟩
theorem zro{K:qC}{te:TE}{f:EF}(h1:SE te f):SI (iSeq K te) (zaj f):=by
 intro fx H0 env σ H h ds bs e R q
 unfold zaj at e
 obtain⟨⟨d,fr,bs'⟩,er,e⟩:=qA.mp e
 obtain⟨es,he,e⟩:=qE.mp e
 cases e
 refine h1 fx H0 env σ H h _ er _ λv H1 s hv=>?_
 have rp:=Rp.same (Offs.sub (zfb (bs:=bs'))) _ hv.rp
 cases d with
 | list ds=>
  cases he
  obtain⟨a,xs,rfl,ha,r⟩:=zes rp
  exact⟨a,rfl,.inl ⟨⟨xs,SqL.of (zdn ha)⟩,q _ H1 s (zamr ha r)⟩⟩
 | tuple ds=>
  cases he
  obtain⟨a,xs,rfl,ha,r⟩:=zdt rp
  exact⟨a,rfl,.inr ⟨⟨xs,SqT.of (zdn ha)⟩,q _ H1 s (zaqa ha r)⟩⟩
 | _=>cases he
noncomputable def zmq(ds:List PyData):List PyData:=ds.zipIdx.map λp=>.tuple [.int p.2,p.1]
noncomputable def zlp(f:AF):IF':=λenv=>(f env).bind λrs=>match rs with
 | [r]=>match r.d with
  | .list ds=>some (zmq ds,r.bs)
  | _=>none
 | _=>none
noncomputable def zpl(lo:Int)(n:Nat):List PyData:=(List.range n).map λ(k:Nat)=>.int (lo+(k:Int))
theorem zaic{A0:Addr->Prop}{H1:Hp}{lo:Int}{n:Nat}:Yl A0 H1 (Itr lo n) (zpl lo n):=by
 intro A H' hA s
 have hl:(zpl lo n).length=n:=by unfold zpl;simp
 refine⟨λi d e=>?_,by rw[hl];exact qO _⟩
 unfold zpl at e
 rw[qS]at e
 by_cases hi:i<n
 ·rw[List.getElem?_range hi]at e
  cases e
  exact⟨hi,λx H'' ⟨e1,e2⟩=>by subst e1;subst e2;exact⟨Same.refl _,zai⟩⟩
 ·rw[qCo (by simpa using hi)]at e
  cases e
noncomputable def zdw(f:AF):IF':=λenv=>(f env).bind λrs=>match rs with
 | [⟨.int j,_,_⟩]=>if -(2 ^ 62)<=j/\j<2 ^ 62 then some (zpl 0 j.toNat,[])else none
 | _=>none
theorem zva(h1:SA ta f):SI (iRng1 ta) (zdw f):=by
 intro fx H0 env σ H h ds bs e R q
 unfold zdw at e
 obtain⟨rs,er,e⟩:=qA.mp e
 split at e
 ·split at e
  ·rename_i hj
   cases e
   refine h1 fx H0 env σ H h _ er _ λvs H1 s hv=>?_
   cases hv with
   | cons hv t=>
    cases t
    cases zdv hv.rp
    exact⟨_,rfl,hj.1,hj.2,q _ H1 s zaic⟩
  ·cases e
 ·cases e
noncomputable def forL(g:GT)(body:SF):List PyData->DEnv->Option Out
 | [],env=>some (.nx env)
 | d::ds,env=>(g d env).bind λe1=>(body e1).bind λo=>match o with
  | .nx e2=>forL g body ds e2
  | .ct e2=>forL g body ds e2
  | .bk e2=>some (.nx e2)
  | .rt d fr=>some (.rt d fr)
noncomputable def sFor(f:IF')(g:GT)(body:SF):SF:=λenv=>(f env).bind λz=>forL g body z.1 (frzs env z.2)
theorem zfz(h1:SI wi f)(h2:SG g gf)(h3:SS tb body):SS (tFor wi g tb) (sFor f gf body):=by
 intro fx H0 env σ H D h o e q
 unfold sFor at e
 obtain⟨⟨ds,bs⟩,er,e⟩:=qA.mp e
 refine h1 fx H0 env σ H h ds bs er _ λJ H1 s yl=>?_
 have hE:=(h.up s).frzs bs
 have fl:=hE.floor
 refine⟨λi m σ' H'=>m=ds.length - i/\i<=ds.length/\∃env',forL gf body (ds.drop i) env'=some o/\EnvOk fx (Offs (own (frzs env bs) σ) H1) env' σ' H',⟨ds.length,rfl,qAU _,_,e,hE.rebase⟩,?_⟩
 rintro i m σ' H' ⟨rfl,hi,env',e',h'⟩
 obtain⟨yi,ys⟩:=yl _ H' h'.all h'.seen
 by_cases hlt:i<ds.length
 ·obtain⟨yg,yy⟩:=yi i ds[i] (qL hlt)
  refine .inr ⟨yg,λσ'' H''=>i+1<=ds.length/\∃env'',forL gf body (ds.drop (i+1)) env''=some o/\EnvOk fx (Offs (own (frzs env bs) σ) H1) env'' σ'' H'',?_,?_⟩
  ·rintro σ'' H'' ⟨hle,env'',e'',h''⟩
   exact⟨ds.length - (i+1),by omega,rfl,hle,env'',e'',h''⟩
  ·intro x H'' hy
   obtain⟨sy,ry⟩:=yy x H'' hy
   rw[qAi hlt]at e'
   obtain⟨e1,ee1,e'⟩:=qA.mp e'
   obtain⟨o1,eo1,e'⟩:=qA.mp e'
   refine h2 fx _ env' σ' H'' _ x (h'.up sy) ry e1 ee1 _ λσ2 h2'=>h3 fx _ e1 σ2 H'' _ h2' o1 eo1 ?_
   cases o1 with
   | nx e2=>exact λσ3 H3 hh=>⟨hlt,e2,e',hh⟩
   | ct e2=>exact λσ3 H3 hh=>⟨hlt,e2,e',hh⟩
   | bk e2=>cases e';exact λσ3 H3 hh=>q σ3 H3 (hh.unbase fl)
   | rt d fr=>cases e';exact λv H3 sh rt=>q v H3 (fl.trans sh) (rt.unbase fl)
 ·have hi':i=ds.length:=by omega
  subst hi'
  rw[qA0]at e'
  cases e'
  exact .inl ⟨ys,q σ' H' (h'.unbase fl)⟩
noncomputable def zga(n:Nat)(ds:List PyData):DEnv:=ds.map .pl++List.replicate (n - ds.length) .no
noncomputable def fnD(n:Nat)(f:SF):GF:=λds=>match f (zga n ds)with
 | some (.rt d fr)=>some (d,fr)
 | some (.nx _)=>some (.none,false)
 | _=>none
theorem zlq{ds:List PyData}{n i:Nat}{sl:Sl}(e:(zga n ds)[i]?=some sl):(∃d,ds[i]?=some d/\sl=.pl d)\/sl=.no:=by
 unfold zga at e
 by_cases hi:i<ds.length
 ·rw[qI (by simpa using hi),qS,qL hi]at e
  cases e
  exact .inl ⟨_,qL hi,rfl⟩
 ·rw[qH (by simpa using hi),qAc]at e
  split at e
  ·cases e;exact .inr rfl
  ·cases e
theorem zvb{fx:Addr->Prop}{H:Hp}{N:List Str}{ds:List PyData}{vs:List V}(hf:∀b,fx b->∃o,H b=some o)(r:Rps (Offs fx H) ds vs):EnvOk fx H (zga N.length ds) (start N vs) H:=by
 have no:∀(i:Nat)(d:PyData),(zga N.length ds)[i]?≠some (Sl.ac d):=λi d e=>by
  rcases zlq e with⟨d',_,z⟩|z<;>cases z
 refine⟨?_,λi d e=>?_,λi d e=>absurd e (no i d),λi j d e a h1=>absurd h1 (no i d),Same.refl _,hf⟩
 ·unfold zga start
  rw[qJ,qJ,qD,qD,qAa,qAa,r.length]
 ·rcases zlq e with⟨d',hd,z⟩|z
  ·cases z
   obtain⟨v,hv,rv⟩:=r.get2 hd
   refine⟨v,?_,Rp.same (Offs.sub λb z=>?_) _ rv⟩
   ·unfold start
    have hi:i<vs.length:=(qK.mp hv).1
    rw[qI (by simpa using hi),qS,hv];rfl
   ·rcases z with z|⟨j,d',z,_⟩
    ·exact z
    ·exact absurd z (no j d')
  ·cases z
theorem fn_d{N:List Str}(hs:SS t f)(h:spD n (fnD N.length f) vs H Q E):t {nx:=λ_ H'=>Q .non H',rt:=Q} (start N vs) H:=by
 obtain⟨fx,ds,d,fr,hn,hf,r,g,k⟩:=h
 unfold fnD at g
 split at g
 ·rename_i d' fr' eo
  cases g
  exact hs fx H _ _ H _ (zvb hf r) _ eo λv H' s rt=>k v H' s rt
 ·rename_i e' eo
  cases g
  exact hs fx H _ _ H _ (zvb hf r) _ eo λσ H' hE=>k .non H' hE.base ⟨zabj,λz=>by cases z⟩
 ·cases g
theorem zce{vs:List V}(h:spD n g vs H Q E):vs.length=n:=by
 obtain⟨fx,ds,d,fr,hn,hf,r,_⟩:=h
 rw[<- r.length];exact hn
noncomputable def zams:Sl->Sl
 | .ac d=>.pl d
 | s=>s
noncomputable def envB(own:List Str)(fr:List Nat)(env:DEnv):DEnv:=own.map (λ_=>Sl.no)++fr.map (λj=>zams (env.getD j .no))
noncomputable def isAc:Option Sl->Bool
 | some (.ac _)=>true
 | _=>false
noncomputable def capA(fr:List Nat)(env:DEnv):List Nat:=fr.filter λj=>isAc env[j]?
theorem zot{own:List Str}(e:(envB own fr env)[i]?=some (.pl d)):∃j k,i=own.length+k/\fr[k]?=some j/\(env[j]?=some (.pl d)\/env[j]?=some (.ac d)):=by
 unfold envB at e
 by_cases hi:i<own.length
 ·rw[qI (by simpa using hi),qS,qL hi]at e
  cases e
 ·rw[qH (by simpa using hi),qD,qS]at e
  cases ej:fr[i - own.length]? with
  | none=>rw[ej]at e;cases e
  | some j=>
   rw[ej]at e
   refine⟨j,i - own.length,by omega,ej,?_⟩
   have e:zams (env.getD j .no)=.pl d:=qe e
   rw[qAB]at e
   cases ev:env[j]? with
   | none=>rw[ev]at e;cases e
   | some s=>
    rw[ev]at e
    cases s with
    | no=>cases e
    | pl d'=>cases e;exact .inl rfl
    | ac d'=>cases e;exact .inr rfl
theorem zgb{own:List Str}{fr:List Nat}{env:DEnv}{i:Nat}{d:PyData}:(envB own fr env)[i]?≠some (.ac d):=by
 intro e
 unfold envB at e
 by_cases hi:i<own.length
 ·rw[qI (by simpa using hi),qS,qL hi]at e
  cases e
 ·rw[qH (by simpa using hi),qD,qS]at e
  cases ej:fr[i - own.length]? with
  | none=>rw[ej]at e;cases e
  | some j=>
   rw[ej]at e
   have e:zams (env.getD j .no)=.ac d:=qe e
   cases ev:env.getD j .no with
   | no=>rw[ev]at e;cases e
   | pl d'=>rw[ev]at e;cases e
   | ac d'=>rw[ev]at e;cases e
theorem zaea{own:List Str}(hk:fr[k]?=some j)(hv:σ[j]?=some (some v)):(tau own fr σ)[own.length+k]?=some (some v):=by
 unfold tau
 rw[qH (by simp),qD,qy,qS,hk]
 show some (σ.getD j none)=_
 rw[qAB,hv];rfl
theorem zpm{fx:Addr->Prop}{H0:Hp}{env:DEnv}{σ:St}{H H1:Hp}{p:Addr}(h:EnvOk fx H0 env σ H)(s:Same H H1)(hp:H1 p=none)(own:List Str)(fr:List Nat)(bs:List Nat) :
  EnvOk (λb=>lim fx env σ (bs++capA fr env) b\/b=p) H1 (envB own fr env) (tau own fr σ) (upd H1 p (.lst [])):=by
 have h1:=h.up s
 have sp:Same H1 (upd H1 p (.lst [])):=Same.new hp
 have so:Same (Offs (λb=>fx b\/L2.own env σ b) H1) (Offs (λb=>(lim fx env σ (bs++capA fr env) b\/b=p)\/L2.own (envB own fr env) (tau own fr σ) b) (upd H1 p (.lst []))):=Offs.mono sp λb o e n z=>by
  rcases z with(z|z)|⟨i,d,z,_⟩
  ·exact n (zmo b z)
  ·rw[z,hp]at e;cases e
  ·exact absurd z zgb
 refine⟨?_,λi d e=>?_,λi d e=>absurd e zgb,λi j d e a z=>absurd z zgb,sp,λb z=>?_⟩
 ·unfold envB tau;simp
 ·obtain⟨j,k,rfl,hk,hj⟩:=zot e
  rcases hj with hj|hj
  ·obtain⟨v,h2,h3⟩:=h1.pl j d hj
   exact⟨v,zaea hk h2,Rp.same so _ h3⟩
  ·obtain⟨a,h2,h3,h4,h5⟩:=h1.ac j d hj
   refine⟨_,zaea hk h2,h5.rp so λo eo=>?_⟩
   rw[Offs.get]
   ·exact sp _ _ eo
   ·rintro((z|⟨i',d',z1,z2,z3⟩)|⟨i',d',z,_⟩)
    ·rcases z with z|⟨i',d',z1,z2,z3⟩
     ·exact h4 z
     ·have e2:=h1.inj i' j d' d a z2 hj z3 h2
      subst e2
      refine z1 (qc _ (qAK.mpr ⟨qj hk,?_⟩))
      rw[hj];rfl
    ·rw[hp]at eo;cases eo
    ·exact absurd z zgb
 ·rcases z with z|z
  ·obtain⟨o,e⟩:=h1.lims _ b z;exact⟨o,sp b o e⟩
  ·rw[z];exact⟨_,zap⟩
theorem EnvOk.weaken{fx:Addr->Prop}{env e1:DEnv}(h:EnvOk fx H0 e1 σ H)(hl:env.length=e1.length)(hp:∀(i:Nat) (d:PyData),env[i]?=some (.pl d)->e1[i]?=some (.pl d))(ha:∀(i:Nat) (d:PyData),env[i]?≠some (.ac d)):EnvOk fx H0 env σ H:=by
 refine⟨hl.trans h.len,λi d e=>?_,λi d e=>absurd e (ha i d),λi j d e a z=>absurd z (ha i d),h.base,h.fxs⟩
 obtain⟨v,h1,h2⟩:=h.pl i d (hp i d e)
 exact⟨v,h1,Rp.same (Offs.sub λb z=>z.imp (λy=>y) λ⟨j,d',z,_⟩=>absurd z (ha j d')) _ h2⟩
theorem EnvOk.updFx{fx:Addr->Prop}(h:EnvOk fx H0 env σ H)(hp:fx p)(h0:H0 p=none):EnvOk fx H0 env σ (upd H p o):=by
 have so:Offs (λb=>fx b\/own env σ b) (upd H p o)=Offs (λb=>fx b\/own env σ b) H:=Offs.upd (.inl hp)
 refine⟨h.len,λi d e=>?_,λi d e=>?_,h.inj,λb u e=>by rw[zau (zay e h0)];exact h.base b u e,λb z=>?_⟩
 ·rw[so];exact h.pl i d e
 ·obtain⟨a,h1,h2,h3,h4⟩:=h.ac i d e
  rw[so]
  exact⟨a,h1,h2,h3,h4.same (Same.refl _) λu z=>by rw[zau λy=>h3 (by rw[y];exact hp)];exact z⟩
 ·by_cases e:b=p
  ·rw[e];exact⟨_,zap⟩
  ·obtain⟨u,hu⟩:=h.fxs b z
   exact⟨u,by rw[zau e];exact hu⟩
noncomputable def GX(n:Nat)(g:GT):Prop:=∀d env e1,g d env=some e1->e1.length=env.length/\∀i,n<=i->e1[i]?=env[i]?
noncomputable def GXs(n:Nat)(g:GTs):Prop:=∀ds env e1,g ds env=some e1->e1.length=env.length/\∀i,n<=i->e1[i]?=env[i]?
theorem zhm(h:i<n):GX n (gN i):=by
 intro d env e1 e
 cases e
 exact⟨qAG,λj hj=>qY (by omega)⟩
theorem zsv:GXs n zbw:=by
 intro ds env e1 e
 cases ds with
 | nil=>cases e;exact⟨rfl,λ_ _=>rfl⟩
 | cons _ _=>cases e
theorem zgt(h:i<n)(hg:GXs n g):GXs n (zag i g):=by
 intro ds env e1 e
 cases ds with
 | nil=>cases e
 | cons d ds=>
  obtain⟨h1,h2⟩:=hg ds _ e1 e
  rw[qAG]at h1
  exact⟨h1,λj hj=>(h2 j hj).trans (qY (by omega))⟩
theorem zaaa(hg:GXs n g):GX n (gT m g):=by
 intro d env e1 e
 unfold gT at e
 cases d with
 | tuple ds=>
  have e:(if ds.length=m then g ds env else none)=some e1:=e
  split at e
  ·exact hg ds env e1 e
  ·cases e
 | _=>cases e
noncomputable def zda(g:GT)(t:TF)(e:EF)(env:DEnv):List PyData->Option (List PyData)
 | []=>some []
 | d::ds=>(g d env).bind λe1=>(t e1).bind λb=>if b=true then(e e1).bind λr=>(zda g t e env ds).map λrs=>r.d::rs else zda g t e env ds
noncomputable def zbx(own:List Str)(fr:List Nat)(fi:IF')(g:GT)(t:TF)(e:EF):EF:=λenv=>(fi env).bind λz=>if z.1.length<100000 then
 (zda g t e (envB own fr env) z.1).map λrs=>⟨.list rs,true,if zdo rs=true then[]else z.2++capA fr env⟩else none
theorem zlr(f:zdo ds=true)(h:Rps H ds vs):Rps H' ds vs:=by
 replace h:=zdh.mp h
 induction h with
 | nil=>exact zdm
 | cons h _ ih=>
  unfold zdo at f
  rw[qAn,qAO]at f
  exact zdk (zpg f.1 h) (ih f.2)
theorem zfl{own:List Str}{fr:List Nat}{wi:TI}{g:TG}{tt:TT}{te:TE}{fi:IF'}{gf:GT}{t:TF}{e:EF}(h1:SI wi fi)(h2:SG g gf)(hx:GX own.length gf)(h3:ST tt t)(h4:SE te e) :
  SE (tComp1 wi g tt te own fr) (zbx own fr fi gf t e):=by
 intro fx H0 env σ H h rr hr Q q
 unfold zbx at hr
 obtain⟨⟨ds,bs⟩,ei,hr⟩:=qA.mp hr
 split at hr
 ·rename_i hlen
  have hlen:ds.length<100000:=hlen
  obtain⟨rs,ers,rfl⟩:=qE.mp hr
  refine h1 fx H0 env σ H h ds bs ei _ λJ H1 s yl=>λp hp=>?_
  have hB:=zpm h s hp own fr bs
  generalize hA:(λb=>lim fx env σ (bs++capA fr env) b)=A
  have hA':∀b,lim fx env σ (bs++capA fr env) b↔A b:=λb=>by rw[<- hA]
  have eA:(λb=>lim fx env σ (bs++capA fr env) b\/b=p)=λb=>A b\/b=p:=by rw[<- hA]
  rw[eA]at hB
  have nA:¬A p:=λz=>by
   obtain⟨o,eo⟩:=(h.up s).lims _ p ((hA' p).mpr z)
   rw[hp]at eo;cases eo
  have seen:∀{σ':St}{H':Hp},EnvOk (λb=>A b\/b=p) H1 (envB own fr env) σ' H'->Same (Offs (λb=>fx b\/L2.own (frzs env bs) σ b) H1) (Offs (λb=>A b\/b=p) H'):=λ{σ' H'} hE=>Offs.mono hE.base λb o eo n z=>by
   rcases z with z|z
   ·rcases(hA' b).mpr z with z|⟨i,d,z1,z2,z3⟩
    ·exact n (.inl z)
    ·exact n (.inr ⟨i,d,zlo (λy=>z1 (qw _ y)) z2,z3⟩)
   ·rw[z,hp]at eo;cases eo
  refine⟨λi m σ' H'=>m=ds.length - i/\i<=ds.length/\∃vs done rest,H' p=some (.lst vs)/\Rps (Offs (λb=>A b\/b=p) H') done vs/\done.length<=i/\zda gf t e (envB own fr env) (ds.drop i)=some rest/\done++rest=rs/\EnvOk (λb=>A b\/b=p) H1 (envB own fr env) σ' H',
   ⟨ds.length,rfl,qAU _,[],[],rs,zap,zdm,qAU _,ers,rfl,hB⟩,?_⟩
  rintro i m σ' H' ⟨rfl,hi,vs,done,rest,ep,rd,dl,ec,edr,hE⟩
  obtain⟨yi,ys⟩:=yl _ H' hE.fxs (seen hE)
  by_cases hlt:i<ds.length
  ·obtain⟨yg,yy⟩:=yi i ds[i] (qL hlt)
   refine .inr ⟨yg,λσ'' H''=>i+1<=ds.length/\∃vs done rest,H'' p=some (.lst vs)/\Rps (Offs (λb=>A b\/b=p) H'') done vs/\done.length<=i+1/\zda gf t e (envB own fr env) (ds.drop (i+1))=some rest/\done++rest=rs/\EnvOk (λb=>A b\/b=p) H1 (envB own fr env) σ'' H'',?_,?_⟩
   ·rintro σ'' H'' ⟨hle,hh⟩
    exact⟨ds.length - (i+1),by omega,rfl,hle,hh⟩
   ·intro x H'' hy
    obtain⟨sy,ry⟩:=yy x H'' hy
    rw[qAi hlt]at ec
    obtain⟨e1,ee1,ec⟩:=qA.mp ec
    obtain⟨b,eb,ec⟩:=qA.mp ec
    have ry':Rp (Offs (λa=>(A a\/a=p)\/L2.own (envB own fr env) σ' a) H'') ds[i] x:=Rp.same (Offs.sub λb z=>z.elim (λy=>y) λ⟨j,d',z,_⟩=>absurd z zgb) _ ry
    refine h2 _ H1 (envB own fr env) σ' H'' _ x (hE.up sy) ry' e1 ee1 _ λσ2 hE2=>?_
    refine h3 _ H1 e1 σ2 H'' hE2 b eb _ λH3 s3=>?_
    have hE3:=hE2.up s3
    obtain⟨gl,gk⟩:=hx _ _ _ ee1
    have back:∀{H4:Hp},EnvOk (λb=>A b\/b=p) H1 e1 σ2 H4->EnvOk (λb=>A b\/b=p) H1 (envB own fr env) σ2 H4:=λ{H4} hh=>hh.weaken gl.symm (λj d' ej=>by
     by_cases hj:own.length<=j
     ·rw[gk j hj];exact ej
     ·obtain⟨_,k,rfl,_⟩:=zot ej;omega) λj d'=>zgb
    cases b with
    | false=>
     have ec:zda gf t e (envB own fr env) (ds.drop (i+1))=some rest:=ec
     exact iteF ⟨hlt,vs,done,rest,s3 _ _ (sy _ _ ep),Rps.same (Offs.grow (sy.trans s3)) _ rd,qB2 dl,ec,edr,back hE3⟩
    | true=>
     have ec:((e e1).bind λr=>(zda gf t e (envB own fr env) (ds.drop (i+1))).map λrs=>r.d::rs)=some rest:=ec
     obtain⟨r,er,ec⟩:=qA.mp ec
     obtain⟨rest',er',rfl⟩:=qE.mp ec
     refine iteT (h4 _ H1 e1 σ2 H3 hE3 r er _ λv H4 s4 hv=>?_)
     have t4:=(sy.trans s3).trans s4
     refine⟨vs,t4 _ _ ep,zih (by rw[<- rd.length];omega),hlt,vs++[v],done++[r.d],rest',zap,?_,by rw[qJ];simp;omega,er',by rw[<- edr];simp,(back (hE3.up s4)).updFx (.inr rfl) hp⟩
     rw[Offs.upd (.inr rfl)]
     exact(Rps.same (Offs.grow t4) _ rd).append (zdk (Rp.same (Offs.sub λb z=>.inl z) _ hv.rp) zdm)
  ·have hi':i=ds.length:=by omega
   subst hi'
   rw[qA0]at ec
   cases ec
   rw[qr]at edr
   subst edr
   refine .inl ⟨ys,q _ H' (s.trans hE.base) ⟨?_,λ_=>⟨p,rfl,s.free hp,?_⟩⟩⟩
   ·show Rp (Offs (lim fx env σ (if zdo done=true then[]else bs++capA fr env)) H') (.list done) (.ref p)
    have nl:∀cs,¬lim fx env σ cs p:=λcs z=>by
     obtain⟨o,eo⟩:=(h.up s).lims _ p z
     rw[hp]at eo;cases eo
    refine zet (by rw[Offs.get (nl _)];exact ep) ?_
    split
    ·rename_i f;exact zlr f rd
    ·exact Rps.same (Offs.sub λb z=>.inl ((hA' b).mp z)) _ rd
   ·show zha (Offs (λb=>lim fx env σ (if zdo done=true then[]else bs++capA fr env) b\/b=p) H') H' p (.list done)
    refine⟨vs,ep,?_⟩
    split
    ·rename_i f;exact zlr f rd
    ·exact Rps.same (Offs.sub λb z=>z.imp (hA' b).mp id) _ rd
 ·cases hr
section
variable{X:Cx}{K:qC}
theorem zaeb(hK:X.K=K){a:Expr}(ha:PE X a ta)(he:∀whole,isTrue a X.env whole=(do let v <- whole;standAt a.pos;holding [v] (truthy v))) :
  PT X a (λσ H Q=>ta σ H λx H'=>∃k,TruV K x H' k/\Q k H'):=by subst hK;exact zahf ha he
theorem zgc(hK:X.K=K):CallR X (.type "tuple") (λxs H Q=>∃p ys,xs=[.ref p]/\((SqL K H p ys/\∀l,H l=none->Q (.ref l) (upd H l (.tup ys)))\/(SqT K H p ys/\Q (.ref p) H))):=by subst hK;exact zsm
theorem zno(hK:X.K=K)(hu:X.A.units+64<cLine):OpR X (compareOp .Eq) (λx y H Q=>rEq x y H Q\/rEqD K false x y H Q):=by subst hK;exact zarn.or (zapo hu)
theorem zvc(hK:X.K=K)(hu:X.A.units+64<cLine):OpR X (compareOp .NotEq) (λx y H Q=>rNe x y H Q\/rEqD K true x y H Q):=by subst hK;exact zaro.or (zapp hu)
noncomputable def zbf:TF:=λ_=>some true
theorem zjx:ST tAll zbf:=by
 intro fx H0 env σ H hE b hb Q q
 cases hb
 exact q H (Same.refl _)
end
end L2
namespace PySem
open Sem (wp)
end PySem
namespace L2
open PySem PySem.Spec PyProof.Rows
noncomputable def zako:List PyData->Option (List (PyData×PyData))
 | []=>some []
 | .tuple [k,v]::r=>(keyD k).bind λ_=>(zako r).map λps=>(k,v)::ps
 | _=>none
noncomputable def zass:GF
 | [.list rows]=>(zako rows).map λps=>(.dict (zkm [] ps),true)
 | _=>none
noncomputable def zgd(i j:Nat)(f:EF):SF:=λenv=>match env[i]?,env[j]? with
 | some (.ac (.list ds)),some (.ac (.list es))=>(f env).bind λr=>match r.d with
  | .int k=>if 0<=k/\k<100000/\ds.length<100000/\i≠j then(es[k.toNat]?).bind λd=>some (.nx ((env.set j (.ac (.list (es.eraseIdx k.toNat)))).set i (.ac (.list (ds++[d])))))else none
  | _=>none
 | _,_=>none
theorem Rps.erase{ds:List PyData}{vs:List V}(h:Rps H ds vs)(n:Nat):Rps H (ds.eraseIdx n) (vs.eraseIdx n):=by
 induction n generalizing ds vs with
 | zero=>
  cases ds with
  | nil=>unfold Rps at h;subst h;exact zdm
  | cons d ds=>unfold Rps at h;obtain⟨v,ws,rfl,h1,h2⟩:=h;exact h2
 | succ n ih=>
  cases ds with
  | nil=>unfold Rps at h;subst h;exact zdm
  | cons d ds=>unfold Rps at h;obtain⟨v,ws,rfl,h1,h2⟩:=h;exact zdk h1 (ih h2)
theorem zvd{K:qC}{i j:Nat}{te:TE}{f:EF}(h1:SE te f):SS (tDrop (tBM K "list" zmj (tVar i) (tCons (tBM K "list" zacz (tVar j) (tCons te tNil)) tNil))) (zgd i j f):=by
 intro fx H0 env σ H D h o e q
 unfold zgd at e
 split at e
 ·rename_i ds es ei ej
  obtain⟨⟨rd,rfr,rbs⟩,er,e⟩:=qA.mp e
  cases rd with
  | int k=>
   have e:(if 0<=k/\k<100000/\ds.length<100000/\i≠j then(es[k.toNat]?).bind λd=>some (Out.nx ((env.set j (.ac (.list (es.eraseIdx k.toNat)))).set i (.ac (.list (ds++[d])))))else none)=some o:=e
   split at e
   ·rename_i hl
    obtain⟨d,ed,e⟩:=qA.mp e
    cases e
    obtain⟨a,g1,g2,g3,g4⟩:=h.ac i _ ei
    obtain⟨xs,hx,rx⟩:=g4
    obtain⟨b,k1,k2,k3,k4⟩:=h.ac j _ ej
    obtain⟨ys,hy,ry⟩:=k4
    have hab:a≠b:=λz=>hl.2.2.2 (h.inj i j _ _ a ei ej g1 (by rw[z];exact k1))
    refine⟨_,g1,.inl ⟨rfl,_,SqL.of hx⟩,_,k1,.inl ⟨rfl,_,SqL.of hy⟩,h1 fx H0 env σ H h _ er _ λv H' s hv=>?_⟩
    cases zdv hv.rp
    have h':=h.up s
    have hy':=s _ _ hy
    have hx':=s _ _ hx
    have ry':Rps (Offs (λb=>fx b\/own env σ b) H') es ys:=Rps.same (Offs.grow s) _ ry
    have rx':Rps (Offs (λb=>fx b\/own env σ b) H') ds xs:=Rps.same (Offs.grow s) _ rx
    obtain⟨u,hu,ru⟩:=ry'.get2 ed
    have hlt:k.toNat<ys.length:=(qK.mp hu).1
    have hsq:seqIndex? k ys.length=some k.toNat:=seqIndex_of hl.1 (by omega)
    refine⟨b,ys,k,k.toNat,u,rfl,rfl,hy',by omega,by omega,hsq,hu,?_⟩
    have h2:=h'.mut ej k1 (d':=.list (es.eraseIdx k.toNat)) (o:=.lst (ys.eraseIdx k.toNat)) ⟨_,zap,ry'.erase _⟩
    have ei2:(env.set j (.ac (.list (es.eraseIdx k.toNat))))[i]?=some (.ac (.list ds)):=by rw[qY (qAs hl.2.2.2)];exact ei
    have hx2:(upd H' b (.lst (ys.eraseIdx k.toNat))) a=some (.lst xs):=by rw[zau hab];exact hx'
    obtain⟨a',z1,_,_,z4⟩:=h2.ac i _ ei2
    rw[g1]at z1
    cases z1
    obtain⟨zs,y1,y2⟩:=z4
    rw[hx2]at y1
    cases y1
    have ow:Same (Offs (λb=>fx b\/own env σ b) H') (Offs (λc=>fx c\/own (env.set j (.ac (.list (es.eraseIdx k.toNat)))) σ c) (upd H' b (.lst (ys.eraseIdx k.toNat)))):=by
     have t:Same (Offs (λb=>fx b\/own env σ b) (upd H' b (.lst (ys.eraseIdx k.toNat)))) (Offs (λc=>fx c\/own (env.set j (.ac (.list (es.eraseIdx k.toNat)))) σ c) (upd H' b (.lst (ys.eraseIdx k.toNat)))):=Offs.sub λc z=>z.imp (λy=>y) λ⟨m,d1,w1,w2⟩=>by
      rcases zcp w1 with⟨rfl,_⟩|⟨_,w1⟩
      ·exact⟨m,_,ej,w2⟩
      ·exact⟨m,d1,w1,w2⟩
     rw[Offs.upd (.inr ⟨j,_,ej,k1⟩)]at t
     exact t
    refine⟨a,xs,u,rfl,rfl,hx2,zih (by rw[<- rx.length];exact hl.2.2.1),?_⟩
    exact q σ _ (h2.mut ei2 g1 ⟨_,zap,y2.append (zdk (Rp.same ow _ ru) zdm)⟩)
   ·cases e
  | _=>cases e
 ·cases e
theorem zamt{X:Cx}{K:qC}(hK:X.K=K){T:String}{name:Str}{id:String}{r:V->List V->Hp->VK->Prop}{o:Expr}{to:TE}{apos cpos:Pos}(pa:PlainAttrs T)(slot:Slot T name id)(hty:typeOf (.builtin id)=pure (.type "method_descriptor"))(hm:MtR X id r)(ho:PE X o to)
  (hbase:attributeBase o name X.env (eval o X.env)=eval o X.env:=by rfl)
  (hline:(apos.endLine==cpos.line)=true:=by rfl) :
  PE X (.Call (.Attribute o name apos) [] [] cpos) (tBM0 K T r to):=by subst hK;exact zape pa slot hty hm ho hbase hline
noncomputable def zcs(i:Nat)(b:EF):EF:=λenv=>match env[i]? with
 | some (.pl (.dict kvs))=>(b env).bind λy=>(keyD y.d).bind λk=>(zll kvs k).bind λd=>some ⟨d,false,[]⟩
 | some (.ac (.dict kvs))=>(b env).bind λy=>(keyD y.d).bind λk=>(zll kvs k).bind λd=>some ⟨d,false,[]⟩
 | _=>none
theorem zaid(hb:SE ty fb):SE (tDGet (tVar i) ty) (zcs i fb):=by
 intro fx H0 env σ H h rr hr Q q
 unfold zcs at hr
 have key:∀(a:Addr)(ps:List (Key×V))(kvs:List (PyData×PyData)),σ[i]?=some (some (.ref a))->H a=some (.dK ps)->Rpd (Offs (λb=>fx b\/own env σ b) H) kvs ps->((fb env).bind λy=>(keyD y.d).bind λk=>(zll kvs k).bind λd=>some (⟨d,false,[]⟩:Val))=some rr->tDGet (tVar i) ty σ H Q:=by
  intro a ps kvs hs ha r hr
  obtain⟨y,ey,hr⟩:=qA.mp hr
  obtain⟨k,ek,hr⟩:=qA.mp hr
  obtain⟨d,ed,hr⟩:=qA.mp hr
  cases hr
  refine⟨_,hs,hb fx H0 env σ H h _ ey _ λu H2 s2 v2=>?_⟩
  have g:=(Rpd.same (Offs.grow s2) _ r).get (j:=k)
  rw[ed]at g
  obtain⟨w,e1,e2⟩:=g
  rw[zaia v2.rp ek]
  have dg:=DGet.k (k:=k) (s2 _ _ ha)
  rw[e1]at dg
  exact⟨a,w,rfl,dg,q w H2 s2 ⟨Rp.same (Offs.sub zmo) _ e2,λz=>by cases z⟩⟩
 split at hr
 ·rename_i kvs ei
  obtain⟨v,h1,h2⟩:=h.pl i _ ei
  obtain⟨a,ps,rfl,ha,r⟩:=zpd h2
  exact key a ps kvs h1 (zdn ha) r hr
 ·rename_i kvs ei
  obtain⟨a,h1,h2,h3,ps,ha,r⟩:=h.ac i _ ei
  exact key a ps kvs h1 ha r hr
 ·cases hr
noncomputable def eIxV(i:Nat)(b:EF):EF:=λenv=>match env[i]? with
 | some (.ac (.list ds))=>(b env).bind λy=>match y.d with
  | .int k=>(atI ds k).map λd=>⟨d,false,[]⟩
  | _=>none
 | _=>eOp ixD (eVar i) b env
theorem zjy{K:qC}{i:Nat}{tb:TE}{fb:EF}(hb:SE tb fb):SE (tOp (rIxU K) (tVar i) tb) (eIxV i fb):=by
 intro fx H0 env σ H h rr hr Q q
 unfold eIxV at hr
 split at hr
 ·rename_i ds ei
  obtain⟨⟨dy,fy,bys⟩,ey,hr⟩:=qA.mp hr
  cases dy with
  | int k=>
   obtain⟨d,ed,rfl⟩:=qE.mp hr
   obtain⟨a,h1,h2,h3,xs,ha,r⟩:=h.ac i _ ei
   refine⟨_,h1,hb fx H0 env σ H h _ ey _ λu H2 s2 v2=>?_⟩
   cases zdv v2.rp
   obtain⟨v,hv,rv⟩:=(Rps.same (Offs.grow s2) _ r).atI ed
   exact⟨xs,v,.inl (SqL.of (s2 _ _ ha)),hv,q _ H2 s2 ⟨Rp.same (Offs.sub zmo) _ rv,λz=>by cases z⟩⟩
  | _=>cases hr
 ·exact zhj zamj (zbh i) hb fx H0 env σ H h rr hr Q q
noncomputable def zaec(wi:TI)(g:TG)(tt:TT)(tm:TM):TM:=λσ H Q=>wi σ H λJ H1=>zadh J g tt tm σ H1 Q
section
variable{X:Cx}
theorem zya{M:Model}{P:Program}{w:World}{A:Around}{R:Result->Shared->Prop}{s:Shared}{elt:Expr}{g0:Comprehension}{target iter:Expr}{ifs:List Expr}{rest:List Comprehension}{scope:Scope}{cpos:Pos}{it acc:Value}{env:Env}
  (l:codeAny (model P w) A (.compLoop (.ListComp elt (g0::⟨target,iter,ifs,0⟩::rest) scope cpos) 1 it acc env) R s)
  (t:∀(A:Around) (E:Value->Shared->Prop),wpAny (model P w) A (pyIter it) (λu s'=>u=it/\s'=s) E s) :
  codeAny (model P w) A (.compStart (.ListComp elt (g0::⟨target,iter,ifs,0⟩::rest) scope cpos) 1 it acc env) R s:=by
 refine codeAny_of_tree ?_
 show wpAny _ _ ((compStart (.ListComp elt (g0::⟨target,iter,ifs,0⟩::rest) scope cpos) 1 it acc env).onRaise (λx=>do noteFrame x env;standAt theWindowsPlace)) _ _ s
 refine wpAny_notedAt ?_
 unfold compStart
 show wpAny _ _ (ask >>=_) _ _ s
 refine qG (wpAny_askSetting (wpAny_ite ?_))
 split
 ·first
   | exact qG (qi (qi (And.intro rfl l)))
   | exact qi (And.intro rfl l)
 ·refine qG (qCy ?_)
  first
   | exact qG (qBk (qG (thn (t _ _) λu s' z=>by obtain⟨e1,e2⟩:=z;subst e1;subst e2;exact qi (And.intro rfl l))))
   | (show wpAny _ _ (standAt iter.pos >>=_) _ _ s;exact qG (qBk (qG (thn (t _ _) λu s' z=>by obtain⟨e1,e2⟩:=z;subst e1;subst e2;exact qi (And.intro rfl l)))))
theorem zaie{target iter:Expr}
  (hx:X.xe=λ_ _=>False)(hc:X.calm=true)(hi:PI X target iter wi)(hg:PG X target g)(ht:PF X ifs tt)(he:PE X elt0 te)
  (hs:∀x,foldedSetIterable iter X.env x=pure x) :
  PM X (do
   let x <- eval iter X.env
   standAt iter.pos
   let x <- foldedSetIterable iter X.env x
   let _ <- runOwn (.compStart (.ListComp elt0 [g0,⟨target,iter,ifs,0⟩] scope cpos) 1 (<- holding [x] (pyIter x)) (.ref p) X.env) X.env) (zaec wi g tt (zabi p te)):=by
 intro pins s σ H Q I h
 refine qG (thn (hi pins s σ H _ I h) λv s1 h1=>?_)
 refine qG (qBk ?_)
 rw[hs]
 refine qG (qi (qG (wpAny_holding (thn h1 λitv s2 h2=>?_))))
 obtain⟨it,fp,tn,J,H2,e,I2,T,st2,f2,q⟩:=h2
 subst e
 refine qG (thn (wpAny_runOwn (h:=none) (Q:=λ_ s'=>∃σ' H',Inv X pins σ' H' s'/\Q σ' H') ?_) λ_ _ z=>qi z)
 refine zya (M:=model X.prog X.w) ?_ λA E=>T.self A 0 s2 _ E st2 ⟨rfl,rfl⟩
 refine qBv (zpb (X:=X) (pins:=pins) hx hc (elt0:=elt0) (gens:=[g0,⟨target,iter,ifs,0⟩]) (depth:=1) (ip:=iter.pos) (emit:=(do let _ <- call (.builtin "list.append") [.ref p,<- eval elt0 X.env])) rfl T hg ht (zxs he) I2 st2 f2 q) λr s5 hr=>?_
 obtain⟨rfl,z⟩:=hr
 exact z
theorem zasa(elt target iter target2 iter2:Expr)(ifs ifs2:List Expr)(scope:Scope)(cpos:Pos)(it acc:Value)(env:Env) :
  compTurn (.ListComp elt [⟨target,iter,ifs,0⟩,⟨target2,iter2,ifs2,0⟩] scope cpos) 0 it acc env=(do
   standAt iter.pos
   match <- pyNext it with
   | none=>pure (.done .next)
   | some v=>
    letOwnedTupleGo target it v
    assign target env v
    let mut ok:=true
    for c in ifs do
     if ok then ok <- isTrue c env (eval c env)
    if ok then do
     let x <- eval iter2 env
     standAt iter2.pos
     let x <- foldedSetIterable iter2 env x
     let i <- holding [x] (pyIter x)
     let _ <- runOwn (.compStart (.ListComp elt [⟨target,iter,ifs,0⟩,⟨target2,iter2,ifs2,0⟩] scope cpos) 1 i acc env) env
     again (.compLoop (.ListComp elt [⟨target,iter,ifs,0⟩,⟨target2,iter2,ifs2,0⟩] scope cpos) 0 it acc env)
    else again (.compLoop (.ListComp elt [⟨target,iter,ifs,0⟩,⟨target2,iter2,ifs2,0⟩] scope cpos) 0 it acc env)):=rfl
noncomputable def tComp2(wi:TI)(g:TG)(tt:TT)(wi2:TI)(g2:TG)(tt2:TT)(te:TE)(own:List Str)(fr:List Nat):TE:=zahq wi g tt (λp=>zaec wi2 g2 tt2 (zabi p te)) own fr
theorem zaif{scope:Scope}{N' own:List Str}{fr:List Nat}{elt target iter target2 iter2:Expr}{ifs ifs2:List Expr}{cpos:Pos}{wi wi2:TI}{g g2:TG}{tt tt2:TT}{te:TE}(c:CompOk X scope N' own fr)(hc:X.calm=true)(hi:PI X target iter wi)
  (hb:∀(cl:List (Str×Addr)) (C:Addr) (s:Shared) (H:Hp) (fp:List Addr),PG (cxComp X scope N' own cl C s H fp) target g/\PF (cxComp X scope N' own cl C s H fp) ifs tt/\PI (cxComp X scope N' own cl C s H fp) target2 iter2 wi2/\PG (cxComp X scope N' own cl C s H fp) target2 g2/\PF (cxComp X scope N' own cl C s H fp) ifs2 tt2/\PE (cxComp X scope N' own cl C s H fp) elt te)
  (hs:∀x,foldedSetIterable iter X.env x=pure x:=by intro _;rfl)(hs2:∀env x,foldedSetIterable iter2 env x=pure x:=by intro _ _;rfl) :
  PE X (.ListComp elt [⟨target,iter,ifs,0⟩,⟨target2,iter2,ifs2,0⟩] scope cpos) (tComp2 wi g tt wi2 g2 tt2 te own fr):=
 zzq (emit:=λacc env=>do
   let x <- eval iter2 env
   standAt iter2.pos
   let x <- foldedSetIterable iter2 env x
   let _ <- runOwn (.compStart (.ListComp elt [⟨target,iter,ifs,0⟩,⟨target2,iter2,ifs2,0⟩] scope cpos) 1 (<- holding [x] (pyIter x)) acc env) env) c hc (λit acc env=>by
   rw[zasa]
   refine bind_congr λ_=>bind_congr λr=>?_
   cases r with
   | none=>rfl
   | some v=>
    refine bind_congr λ_=>bind_congr λ_=>bind_congr λok=>?_
    cases ok with
    | false=>rfl
    | true=>simp only[if_true,bind_assoc,pure_bind]) hi
  (λcl C s H fp p=>let⟨h1,h2,h3,h4,h5,h6⟩:=hb cl C s H fp;⟨h1,h2,zaie (X:=cxComp X scope N' own cl C s H fp) rfl hc h3 h4 h5 h6 (λx=>hs2 _ x)⟩) hs
end
noncomputable def NoAc(env:DEnv):Prop:=∀(i:Nat)(d:PyData),env[i]?≠some (.ac d)
noncomputable def GZ(lo hi:Nat)(g:GT):Prop:=∀d env e1,g d env=some e1->e1.length=env.length/\(∀i,(i<lo\/hi<=i)->e1[i]?=env[i]?)/\(NoAc env->NoAc e1)
theorem zaig{env:DEnv}(h:NoAc env):NoAc (env.set i (.pl d)):=by
 intro j d' e
 by_cases q:i=j
 ·subst q
  by_cases l:i<env.length
  ·rw[q9 l]at e;cases e
  ·rw[qCo (by simp;omega)]at e;cases e
 ·rw[qY q]at e;exact h j d' e
theorem zaed{lo hi i:Nat}(h:lo<=i)(h':i<hi):GZ lo hi (gN i):=by
 intro d env e1 e
 cases e
 exact⟨qAG,λj hj=>qY (by omega),zaig⟩
theorem zpn:∀{ds rs:List PyData},zda g t e env ds=some rs->rs.length<=ds.length
 | [],rs,h=>by cases h;exact qO _
 | d::ds,rs,h=>by
  unfold zda at h
  obtain⟨e1,_,h⟩:=qA.mp h
  obtain⟨b,_,h⟩:=qA.mp h
  split at h
  ·obtain⟨r,_,h⟩:=qA.mp h
   obtain⟨rs',h',rfl⟩:=qE.mp h
   have:=zpn h'
   simp;omega
  ·have:=zpn h
   simp;omega
noncomputable def innL(f2:IF')(g2:GT)(t2:TF)(e:EF)(e1:DEnv):Option (List PyData):=(f2 e1).bind λz=>if z.1.length<300 then zda g2 t2 e e1 z.1 else none
noncomputable def zim(g:GT)(t:TF)(f2:IF')(g2:GT)(t2:TF)(e:EF)(env:DEnv):List PyData->Option (List PyData)
 | []=>some []
 | d::ds=>(g d env).bind λe1=>(t e1).bind λb=>if b=true then(innL f2 g2 t2 e e1).bind λr1=>(zim g t f2 g2 t2 e env ds).map λrs=>r1++rs else zim g t f2 g2 t2 e env ds
noncomputable def zve(own:List Str)(fr:List Nat)(fi:IF')(g:GT)(t:TF)(f2:IF')(g2:GT)(t2:TF)(e:EF):EF:=λenv=>(fi env).bind λz=>if z.1.length<300 then
 (zim g t f2 g2 t2 e (envB own fr env) z.1).map λrs=>⟨.list rs,true,if zdo rs=true then[]else z.2++capA fr env⟩else none
theorem zaih{B:Addr->Prop}{done rest ds:List PyData}{Q:St->Hp->Prop}
  (h5:SI wi2 f2)(h6:SG g2 gf2)(hy:GZ k n gf2)(h7:ST tt2 t2)(h4:SE te e)(na:NoAc e1)(no:∀(i:Nat) (d:PyData),k<=i->i<n->e1[i]?≠some (.pl d))
  (hB:B p)(hp:H1 p=none)(hE:EnvOk B H1 e1 σ H)(ep:H p=some (.lst vs))(rd:Rps (Offs B H) done vs)(ei:f2 e1=some (ds,bs))(dl:done.length+ds.length<100000)(ec:zda gf2 t2 e e1 ds=some rest)
  (q:∀σ' H' vs',H' p=some (.lst vs')->Rps (Offs B H') (done++rest) vs'->EnvOk B H1 e1 σ' H'->Q σ' H'):zaec wi2 g2 tt2 (zabi p te) σ H Q:=by
 refine h5 B H1 e1 σ H hE ds bs ei _ λJ H4 s4 yl=>?_
 have hE4:=hE.up s4
 have n4:Offs (λb=>b=p) H4 p=none:=Offs.out rfl
 refine⟨λi m σ' H'=>m=ds.length - i/\i<=ds.length/\∃vs done' rest',H' p=some (.lst vs)/\Rps (Offs B H') done' vs/\done'.length<=done.length+i/\zda gf2 t2 e e1 (ds.drop i)=some rest'/\done'++rest'=done++rest/\EnvOk B (Offs (λb=>b=p) H4) e1 σ' H',
  ⟨ds.length,rfl,qAU _,vs,done,rest,s4 _ _ ep,Rps.same (Offs.grow s4) _ rd,qO _,ec,rfl,⟨hE4.len,hE4.pl,λi d z=>absurd z (na i d),hE4.inj,Offs.same _ _,hE4.fxs⟩⟩,?_⟩
 rintro i m σ' H' ⟨rfl,hi,vs,done',rest',ep',rd',dl',ec',edr,hE'⟩
 obtain⟨yi,ys⟩:=yl B H' hE'.fxs λb o z=>by
  obtain⟨z1,z2⟩:=Offs.of z
  have hb:¬B b:=λy=>z1 (.inl y)
  rw[Offs.get hb]
  exact hE'.base b o (by rw[Offs.get λy=>hb (by rw[y];exact hB)];exact z2)
 by_cases hlt:i<ds.length
 ·obtain⟨yg,yy⟩:=yi i ds[i] (qL hlt)
  refine .inr ⟨yg,λσ'' H''=>i+1<=ds.length/\∃vs done' rest',H'' p=some (.lst vs)/\Rps (Offs B H'') done' vs/\done'.length<=done.length+(i+1)/\zda gf2 t2 e e1 (ds.drop (i+1))=some rest'/\done'++rest'=done++rest/\EnvOk B (Offs (λb=>b=p) H4) e1 σ'' H'',?_,?_⟩
  ·rintro σ'' H'' ⟨hle,hh⟩
   exact⟨ds.length - (i+1),by omega,rfl,hle,hh⟩
  ·intro x H'' hyx
   obtain⟨sy,ry⟩:=yy x H'' hyx
   rw[qAi hlt]at ec'
   obtain⟨e2,ee2,ec'⟩:=qA.mp ec'
   obtain⟨b,eb,ec'⟩:=qA.mp ec'
   have ry':Rp (Offs (λa=>B a\/L2.own e1 σ' a) H'') ds[i] x:=Rp.same (Offs.sub λb z=>z.elim (λy=>y) λ⟨j,d',z,_⟩=>absurd z (na _ _)) _ ry
   refine h6 _ _ e1 σ' H'' _ x (hE'.up sy) ry' e2 ee2 _ λσ2 hE2=>?_
   refine h7 _ _ e2 σ2 H'' hE2 b eb _ λH3 s3=>?_
   have hE3:=hE2.up s3
   obtain⟨gl,gk,_⟩:=hy _ _ _ ee2
   have back:∀{H4':Hp},EnvOk B (Offs (λb=>b=p) H4) e2 σ2 H4'->EnvOk B (Offs (λb=>b=p) H4) e1 σ2 H4':=λ{H4'} hh=>hh.weaken gl.symm (λj d' ej=>by
    by_cases hj:j<k\/n<=j
    ·rw[gk j hj];exact ej
    ·exact absurd ej (no j d' (by omega) (by omega))) na
   cases b with
   | false=>
    have ec':zda gf2 t2 e e1 (ds.drop (i+1))=some rest':=ec'
    exact iteF ⟨hlt,vs,done',rest',s3 _ _ (sy _ _ ep'),Rps.same (Offs.grow (sy.trans s3)) _ rd',qB2 dl',ec',edr,back hE3⟩
   | true=>
    have ec':((e e2).bind λr=>(zda gf2 t2 e e1 (ds.drop (i+1))).map λrs=>r.d::rs)=some rest':=ec'
    obtain⟨r,er,ec'⟩:=qA.mp ec'
    obtain⟨rest2,er',rfl⟩:=qE.mp ec'
    refine iteT (h4 _ _ e2 σ2 H3 hE3 r er _ λv H5 s5 hv=>?_)
    have t5:=(sy.trans s3).trans s5
    refine⟨vs,t5 _ _ ep',zih (by rw[<- rd'.length];omega),hlt,vs++[v],done'++[r.d],rest2,zap,?_,by rw[qJ];simp;omega,er',by rw[<- edr];simp,(back (hE3.up s5)).updFx hB n4⟩
    rw[Offs.upd hB]
    refine(Rps.same (Offs.grow t5) _ rd').append (zdk (Rp.same (Offs.sub λb z=>.inl z) _ hv.rp) zdm)
 ·have hi':i=ds.length:=by omega
  subst hi'
  rw[qA0]at ec'
  cases ec'
  rw[qr]at edr
  subst edr
  exact .inl ⟨ys,q σ' H' vs ep' rd' ⟨hE'.len,hE'.pl,λi d z=>absurd z (na i d),hE'.inj,λb o z=>hE'.base b o (by rw[Offs.get λy=>by rw[y,hp]at z;cases z];exact s4 b o (hE.base b o z)),hE'.fxs⟩⟩
theorem zaii{own:List Str}(h:i<own.length):(envB own fr env)[i]?=some .no:=by
 unfold envB
 rw[qI (by simpa using h),qS,qL h];rfl
theorem zaij{own:List Str}(h1:SI wi fi)(h2:SG g gf)(hx:GZ 0 k gf)(hk:k<=own.length)(h3:ST tt t)
  (h5:SI wi2 f2)(h6:SG g2 gf2)(hy:GZ k own.length gf2)(h7:ST tt2 t2)(h4:SE te e) :
  SE (tComp2 wi g tt wi2 g2 tt2 te own fr) (zve own fr fi gf t f2 gf2 t2 e):=by
 intro fx H0 env σ H h rr hr Q q
 unfold zve at hr
 obtain⟨⟨ds,bs⟩,ei,hr⟩:=qA.mp hr
 split at hr
 ·rename_i hlen
  have hlen:ds.length<300:=hlen
  obtain⟨rs,ers,rfl⟩:=qE.mp hr
  refine h1 fx H0 env σ H h ds bs ei _ λJ H1 s yl=>λp hp=>?_
  have hB:=zpm h s hp own fr bs
  generalize hA:(λb=>lim fx env σ (bs++capA fr env) b)=A
  have hA':∀b,lim fx env σ (bs++capA fr env) b↔A b:=λb=>by rw[<- hA]
  have eA:(λb=>lim fx env σ (bs++capA fr env) b\/b=p)=λb=>A b\/b=p:=by rw[<- hA]
  rw[eA]at hB
  have seen:∀{σ':St}{H':Hp},EnvOk (λb=>A b\/b=p) H1 (envB own fr env) σ' H'->Same (Offs (λb=>fx b\/L2.own (frzs env bs) σ b) H1) (Offs (λb=>A b\/b=p) H'):=λ{σ' H'} hE=>Offs.mono hE.base λb o eo n z=>by
   rcases z with z|z
   ·rcases(hA' b).mpr z with z|⟨i,d,z1,z2,z3⟩
    ·exact n (.inl z)
    ·exact n (.inr ⟨i,d,zlo (λy=>z1 (qw _ y)) z2,z3⟩)
   ·rw[z,hp]at eo;cases eo
  refine⟨λi m σ' H'=>m=ds.length - i/\i<=ds.length/\∃vs done rest,H' p=some (.lst vs)/\Rps (Offs (λb=>A b\/b=p) H') done vs/\done.length<=i * 300/\zim gf t f2 gf2 t2 e (envB own fr env) (ds.drop i)=some rest/\done++rest=rs/\EnvOk (λb=>A b\/b=p) H1 (envB own fr env) σ' H',
   ⟨ds.length,rfl,qAU _,[],[],rs,zap,zdm,qAU _,ers,rfl,hB⟩,?_⟩
  rintro i m σ' H' ⟨rfl,hi,vs,done,rest,ep,rd,dl,ec,edr,hE⟩
  obtain⟨yi,ys⟩:=yl _ H' hE.fxs (seen hE)
  by_cases hlt:i<ds.length
  ·obtain⟨yg,yy⟩:=yi i ds[i] (qL hlt)
   refine .inr ⟨yg,λσ'' H''=>i+1<=ds.length/\∃vs done rest,H'' p=some (.lst vs)/\Rps (Offs (λb=>A b\/b=p) H'') done vs/\done.length<=(i+1) * 300/\zim gf t f2 gf2 t2 e (envB own fr env) (ds.drop (i+1))=some rest/\done++rest=rs/\EnvOk (λb=>A b\/b=p) H1 (envB own fr env) σ'' H'',?_,?_⟩
   ·rintro σ'' H'' ⟨hle,hh⟩
    exact⟨ds.length - (i+1),by omega,rfl,hle,hh⟩
   ·intro x H'' hyx
    obtain⟨sy,ry⟩:=yy x H'' hyx
    rw[qAi hlt]at ec
    obtain⟨e1,ee1,ec⟩:=qA.mp ec
    obtain⟨b,eb,ec⟩:=qA.mp ec
    have ry':Rp (Offs (λa=>(A a\/a=p)\/L2.own (envB own fr env) σ' a) H'') ds[i] x:=Rp.same (Offs.sub λb z=>z.elim (λy=>y) λ⟨j,d',z,_⟩=>absurd z zgb) _ ry
    refine h2 _ H1 (envB own fr env) σ' H'' _ x (hE.up sy) ry' e1 ee1 _ λσ2 hE2=>?_
    refine h3 _ H1 e1 σ2 H'' hE2 b eb _ λH3 s3=>?_
    have hE3:=hE2.up s3
    obtain⟨gl,gk,gn⟩:=hx _ _ _ ee1
    have na:NoAc e1:=gn λ_ _=>zgb
    have back:∀{σ4:St}{H4:Hp},EnvOk (λb=>A b\/b=p) H1 e1 σ4 H4->EnvOk (λb=>A b\/b=p) H1 (envB own fr env) σ4 H4:=λ{σ4 H4} hh=>hh.weaken gl.symm (λj d' ej=>by
     by_cases hj:own.length<=j
     ·rw[gk j (.inr (by omega))];exact ej
     ·obtain⟨_,k,rfl,_⟩:=zot ej;omega) λj d'=>zgb
    cases b with
    | false=>
     have ec:zim gf t f2 gf2 t2 e (envB own fr env) (ds.drop (i+1))=some rest:=ec
     exact iteF ⟨hlt,vs,done,rest,s3 _ _ (sy _ _ ep),Rps.same (Offs.grow (sy.trans s3)) _ rd,by omega,ec,edr,back hE3⟩
    | true=>
     have ec:((innL f2 gf2 t2 e e1).bind λr1=>(zim gf t f2 gf2 t2 e (envB own fr env) (ds.drop (i+1))).map λrs=>r1++rs)=some rest:=ec
     obtain⟨r1,er,ec⟩:=qA.mp ec
     obtain⟨rest',er',rfl⟩:=qE.mp ec
     obtain⟨⟨ds2,bs2⟩,e2,er⟩:=qA.mp er
     split at er
     ·rename_i hl2
      have hl2:ds2.length<300:=hl2
      have l2:=zpn er
      refine iteT (zaih (B:=λb=>A b\/b=p) (p:=p) (vs:=vs) (done:=done) h5 h6 hy h7 h4 na (λj d' h8 h9 ej=>?_) (.inr rfl) hp hE3 (s3 _ _ (sy _ _ ep)) (Rps.same (Offs.grow (sy.trans s3)) _ rd) e2 (by omega) er λσ5 H5 vs5 ep5 rd5 hE5=>?_)
      ·rw[gk j (.inr h8),zaii h9]at ej;cases ej
      ·have l2':r1.length<=ds2.length:=l2
       exact⟨hlt,vs5,done++r1,rest',ep5,rd5,by rw[qJ];omega,er',by rw[<- edr,qAQ],back hE5⟩
     ·cases er
  ·have hi':i=ds.length:=by omega
   subst hi'
   rw[qA0]at ec
   cases ec
   rw[qr]at edr
   subst edr
   refine .inl ⟨ys,q _ H' (s.trans hE.base) ⟨?_,λ_=>⟨p,rfl,s.free hp,?_⟩⟩⟩
   ·show Rp (Offs (lim fx env σ (if zdo done=true then[]else bs++capA fr env)) H') (.list done) (.ref p)
    have nl:∀cs,¬lim fx env σ cs p:=λcs z=>by
     obtain⟨o,eo⟩:=(h.up s).lims _ p z
     rw[hp]at eo;cases eo
    refine zet (by rw[Offs.get (nl _)];exact ep) ?_
    split
    ·rename_i f;exact zlr f rd
    ·exact Rps.same (Offs.sub λb z=>.inl ((hA' b).mp z)) _ rd
   ·show zha (Offs (λb=>lim fx env σ (if zdo done=true then[]else bs++capA fr env) b\/b=p) H') H' p (.list done)
    refine⟨vs,ep,?_⟩
    split
    ·rename_i f;exact zlr f rd
    ·exact Rps.same (Offs.sub λb z=>z.imp (hA' b).mp id) _ rd
 ·cases hr
end L2
namespace PySem
open Sem (wp)
end PySem
namespace L2
open PySem PySem.Spec PyProof.Rows
end L2
namespace PySem
open Sem (wp)
noncomputable def SqIt(b:Bool)(h:Heap)(it l:Addr)(i:Nat):Prop:=match b with
 | true=>h.IsListIter it l i
 | false=>h.IsTupleIter it l i
noncomputable def zeo(b:Bool)(h:Heap)(l:Addr)(xs:Array Value):Prop:=match b with
 | true=>h.IsList l xs
 | false=>h.IsTuple l xs
theorem SqIt.moved{h h':Heap}(x:SqIt b h it l i)(e:∀o,h.get? it=some o->h'.get? it=some o):SqIt b h' it l i:=by
 cases b with
 | true=>obtain⟨o,q,r⟩:=x;exact⟨o,e o q,r⟩
 | false=>obtain⟨o,q,r⟩:=x;exact⟨o,e o q,r⟩
theorem zeo.moved{h h':Heap}(x:zeo b h l xs)(e:∀o,h.get? l=some o->h'.get? l=some o):zeo b h' l xs:=by
 cases b with
 | true=>obtain⟨o,q,r⟩:=x;exact⟨o,e o q,r⟩
 | false=>obtain⟨o,q,r⟩:=x;exact⟨o,e o q,r⟩
theorem SqIt.at{h h':Heap}(x:SqIt b h it l i)(e:∀o,h.get? it=some o->h'.get? it=some o):SqIt b h' it l i:=x.moved e
theorem SqIt.extBut(x:SqIt b h it l i)(s:Heap.ExtBut c h h')(n:it≠c):SqIt b h' it l i:=x.moved λo e=>s _ o n e
theorem zeo.extBut(x:zeo b h l xs)(s:Heap.ExtBut c h h')(n:l≠c):zeo b h' l xs:=x.moved λo e=>s _ o n e
theorem SqIt.obj{h:Heap}(x:SqIt b h it l i):∃o,h.get? it=some o/\∀v,o.data≠.cell v:=by
 cases b with
 | true=>obtain⟨o,q,_,r⟩:=x;exact⟨o,q,λv z=>by rw[r]at z;cases z⟩
 | false=>obtain⟨o,q,_,r⟩:=x;exact⟨o,q,λv z=>by rw[r]at z;cases z⟩
section
variable{prog:Program}{w:World}{A:Around}{E:Value->Shared->Prop}{s:Shared}
theorem zsw{items}{Q:Value->Shared->Prop}(hit:s.heap.IsTupleIter it l i)
  (hl:s.heap.IsTuple l items)(hx:items[i]?=some x)
  (hQ:∀h',h'.IsTupleIter it l (i+1)->Heap.SameBut it s.heap h'->Q x {s with heap:=h'}) :
  wpAny (model prog w) A (qz (.ref it)) Q E s:=by
 obtain⟨o,ho,hc,hd⟩:=id hit
 obtain⟨ol,hol,_,nl,hdl⟩:=hl
 unfold qz
 refine qG (qA1 (name:=Str.ofString "__next__") hit.typeIs qA6
  (qBM qA6 hit.typeIs qCa ?_ (qCW _)))
 show wpAny _ _ (field (.ref it) 0 >>=_) _ _ s
 refine qG (qAq ho hd (x:=.ref l) rfl ?_)
 show wpAny _ _ (if(Value.ref l==Value.none)=true then _ else _) _ _ s
 rw[if_neg (show ¬((Value.ref l==Value.none)=true)from qT)]
 show wpAny _ _ (field (.ref it) 1 >>=_) _ _ s
 refine qG (qAq ho hd (x:=.int i 0) rfl ?_)
 show wpAny _ _ (seqItems? (.ref l) >>=_) _ _ s
 refine qG (qA3 hol hdl ?_)
 simp only[qBE,hx]
 refine qG (wpAny_setField ho hd (by simp) (qi ⟨x,rfl,qi (hQ _ ?_ (qCJ ..))⟩))
 exact⟨_,Heap.get?_update_self _ ho (Obj.isFreed_of_fields (Obj.data_mapFields hd _)),(Obj.cls_mapFields ..).trans hc,by
  rw[Obj.data_mapFields hd];simp[rawInt]⟩
theorem zvf{items}{Q:Value->Shared->Prop}(hh:A.handled=none)
  (hit:s.heap.IsTupleIter it l i)(hl:s.heap.IsTuple l items)(hx:items[i]?=none)
  (hE:∀h' e,Heap.ExtBut it s.heap h'->(∃o,h'.get? e=some o/\o.cls=.type "StopIteration")->E (.ref e) {s with heap:=h'}) :
  wpAny (model prog w) A (qz (.ref it)) Q E s:=by
 obtain⟨o,ho,hc,hd⟩:=id hit
 obtain⟨ol,hol,_,nl,hdl⟩:=hl
 unfold qz
 refine qG (qA1 (name:=Str.ofString "__next__") hit.typeIs qA6
  (qBM qA6 hit.typeIs qCa ?_ (qCW _)))
 show wpAny _ _ (field (.ref it) 0 >>=_) _ _ s
 refine qG (qAq ho hd (x:=.ref l) rfl ?_)
 show wpAny _ _ (if(Value.ref l==Value.none)=true then _ else _) _ _ s
 rw[if_neg (show ¬((Value.ref l==Value.none)=true)from qT)]
 show wpAny _ _ (field (.ref it) 1 >>=_) _ _ s
 refine qG (qAq ho hd (x:=.int i 0) rfl ?_)
 show wpAny _ _ (seqItems? (.ref l) >>=_) _ _ s
 refine qG (qA3 hol hdl ?_)
 simp only[qBE,hx]
 refine qG (qCy (qG (wpAny_setField ho hd (by simp) ?_)))
 show wpAny _ _ (newExc (.type "StopIteration") [] >>=_) _ _ _
 refine qG ?_
 simp only[newExc,newTuple]
 refine qG (qCL ?_ (by size_fits))
 refine qG (m:=firstArgMember _ _) (wpAny_of_eq (a:=Value.none) (by first|rfl|(simp only[firstArgMember];rfl)) ?_)
 refine qCL ?_ (by size_fits)
 simp only[raiseNew]
 refine qG (wpAny_handled ?_)
 first|rw[show A.in1.handled=none from hh]|rw[hh]
 refine qG (qi (wpAny_throw ?_))
 exact hE _ _ (((qCJ ..).extBut.push _).push _) ⟨_,qd _ rfl,rfl⟩
theorem zsx{Q:Value->Shared->Prop}(hit:SqIt b s.heap it l i)(hl:zeo b s.heap l xs)(hx:xs[i]?=some x)
  (hQ:∀h',SqIt b h' it l (i+1)->Heap.SameBut it s.heap h'->Q x {s with heap:=h'}):wpAny (model prog w) A (qz (.ref it)) Q E s:=by
 cases b with
 | true=>exact wpAny_nextOf_list_item hit hl hx hQ
 | false=>exact zsw hit hl hx hQ
theorem zaab{Q:Value->Shared->Prop}(hh:A.handled=none)(hit:SqIt b s.heap it l i)(hl:zeo b s.heap l xs)(hx:xs[i]?=none)
  (hE:∀h' e,Heap.ExtBut it s.heap h'->(∃o,h'.get? e=some o/\o.cls=.type "StopIteration")->E (.ref e) {s with heap:=h'}):wpAny (model prog w) A (qz (.ref it)) Q E s:=by
 cases b with
 | true=>exact wpAny_nextOf_list_end hh hit hl hx hE
 | false=>exact zvf hh hit hl hx hE
theorem zabm{Q:Value->Shared->Prop}(D:ZipApart z TI TO i1 i2 l1 l2)
  (hz:IsZip s.heap z TI TO .none)(hTI:IsPair s.heap TI (.ref i1) (.ref i2))(hTO:IsPair s.heap TO a b)
  (h1:SqIt b1 s.heap i1 l1 k1)(h2:SqIt b2 s.heap i2 l2 k2)(hl1:zeo b1 s.heap l1 xs)(hl2:zeo b2 s.heap l2 ys)(hx:xs[k1]?=some x)(hy:ys[k2]?=some y)
  (hQ:∀h',IsZip h' z TI TO (rawInt s.heap.objs.size)->IsPair h' TO x y->SqIt b1 h' i1 l1 (k1+1)->SqIt b2 h' i2 l2 (k2+1)->IsPair h' s.heap.objs.size x y->h'.objs.size=s.heap.objs.size+1->
   (∀c o,c≠z->c≠TO->c≠i1->c≠i2->s.heap.get? c=some o->h'.get? c=some o)->Q (.ref s.heap.objs.size) {s with heap:=h'}) :
  wpAny (model prog w) A (Builtin.«zip.__next__» ⟨[.ref z],[]⟩) (λfin s'=>∃v,fin=.done (.ret v)/\Q v s') E s:=by
 show wpAny _ _ (field (.ref z) 2 >>=_) _ _ _
 refine qG (qAq hz rfl (x:=.bool false) rfl ?_)
 show wpAny _ _ (field (.ref z) 3 >>=_) _ _ _
 refine qG (qAq hz rfl (x:=.ref TI) rfl ?_)
 refine qG (qA3 hTI rfl ?_)
 show wpAny _ _ (Builtin.SmallTypes.ownedTupleIsFree (.ref z) >>=_) _ _ _
 refine qG ?_
 unfold Builtin.SmallTypes.ownedTupleIsFree
 refine qG (qAq hz rfl (x:=.none) rfl (qi ?_))
 simp only[if_true]
 refine qG (qCy ?_)
 refine qG (qAq hz rfl (x:=.ref TO) rfl ?_)
 refine qG (qA4 hz (by simp) λh₁ hz₁ hs₁=>?_)
 replace hz₁:IsZip h₁ z TI TO .ellipsis:=hz₁
 refine qG ?_
 simp only[qB7,List.zipIdx_nil,qCI,List.forIn_nil]
 refine qG (qG (qCA ?_))
 show wpAny _ _ (qz (.ref i1) >>=_) _ _ _
 refine qG (zsx (h1.extBut hs₁.extBut D.i1z) (hl1.extBut hs₁.extBut D.l1z) hx λh₂ h1₂ hs₂=>qi ?_)
 have hTO₂:IsPair h₂ TO a b:=hs₂.extBut _ _ D.TOi1 (hs₁.extBut _ _ D.TOz hTO)
 refine qG (qA3 hTO₂ rfl ?_)
 refine qG (qBy hTO₂ λh₃ hTO₃ hs₃=>?_)
 replace hTO₃:IsPair h₃ TO x b:=hTO₃
 refine qG (wpAny_letGo (qi ?_))
 refine qG (qG (qCA ?_))
 show wpAny _ _ (qz (.ref i2) >>=_) _ _ _
 refine qG (zsx (((h2.extBut hs₁.extBut D.i2z).extBut hs₂.extBut D.i12.symm).extBut hs₃.extBut D.TOi2.symm)
  (((hl2.extBut hs₁.extBut D.l2z).extBut hs₂.extBut D.l2i1).extBut hs₃.extBut D.l2TO) hy λh₄ h2₄ hs₄=>qi ?_)
 have hTO₄:IsPair h₄ TO x b:=hs₄.extBut _ _ D.TOi2 hTO₃
 refine qG (qA3 hTO₄ rfl ?_)
 refine qG (qBy hTO₄ λh₅ hTO₅ hs₅=>?_)
 replace hTO₅:IsPair h₅ TO x y:=hTO₅
 refine qG (wpAny_letGo (qi (qi ?_)))
 refine qG (qA3 hTO₅ rfl ?_)
 refine qG (wpAny_newTuple ?_)
 have hsz:h₅.objs.size=s.heap.objs.size:=by rw[hs₅.1,hs₄.1,hs₃.1,hs₂.1,hs₁.1]
 have hz₅:IsZip h₅ z TI TO .ellipsis:=hs₅.extBut _ _ D.TOz.symm (hs₄.extBut _ _ D.i2z.symm (hs₃.extBut _ _ D.TOz.symm (hs₂.extBut _ _ D.i1z.symm hz₁)))
 have hk₅:∀c o,c≠z->c≠TO->c≠i1->c≠i2->s.heap.get? c=some o->h₅.get? c=some o:=λc o c1 c2 c3 c4 e=>
  hs₅.extBut _ _ c2 (hs₄.extBut _ _ c4 (hs₃.extBut _ _ c2 (hs₂.extBut _ _ c3 (hs₁.extBut _ _ c1 e))))
 have h1₅:SqIt b1 h₅ i1 l1 (k1+1):=((h1₂.extBut hs₃.extBut D.TOi1.symm).extBut hs₄.extBut D.i12).extBut hs₅.extBut D.TOi1.symm
 have h2₅:SqIt b2 h₅ i2 l2 (k2+1):=h2₄.extBut hs₅.extBut D.TOi2.symm
 have hzlt:z<h₅.objs.size:=qR hz₅
 have hTOlt:TO<h₅.objs.size:=qR hTO₅
 have hi1lt:i1<h₅.objs.size:=by obtain⟨_,e,_⟩:=h1₅.obj;exact qR e
 have hi2lt:i2<h₅.objs.size:=by obtain⟨_,e,_⟩:=h2₅.obj;exact qR e
 show wpAny _ _ (Builtin.SmallTypes.ownedTupleHandOut (.ref z) (.ref h₅.objs.size) >>=_) _ _ _
 refine qG ?_
 unfold Builtin.SmallTypes.ownedTupleHandOut
 have hz₆:IsZip (h₅.push {cls:=.type "tuple",data:=.seq #[x,y]}) z TI TO .ellipsis:=qF _ hz₅
 refine qG (qA4 hz₆ (by simp) λh₇ hz₇ hs₇=>?_)
 replace hz₇:IsZip h₇ z TI TO (rawInt h₅.objs.size):=hz₇
 refine qA4 hz₇ (by simp) λh₈ hz₈ hs₈=>?_
 replace hz₈:IsZip h₈ z TI TO (rawInt h₅.objs.size):=hz₈
 have up:∀c o,c≠z->h₅.get? c=some o->h₈.get? c=some o:=λc o c1 e=>hs₈.extBut _ _ c1 (hs₇.extBut _ _ c1 (qF _ e))
 have hT₈:IsPair h₈ h₅.objs.size x y:=hs₈.extBut _ _ (qBn hzlt) (hs₇.extBut _ _ (qBn hzlt) (qd _ rfl))
 have hz8:h₈.objs.size=h₅.objs.size+1:=by rw[hs₈.1,hs₇.1,qAv]
 rw[hsz]at hz₈ hT₈ hz8
 refine qi ⟨_,rfl,?_⟩
 show Q (.ref h₅.objs.size) _
 rw[hsz]
 exact hQ h₈ hz₈ (up _ _ D.TOz hTO₅) (h1₅.at λo e=>up _ o D.i1z e) (h2₅.at λo e=>up _ o D.i2z e) hT₈ hz8 λc o c1 c2 c3 c4 e=>up c o c1 (hk₅ c o c1 c2 c3 c4 e)
theorem zaee{Q:Fin->Shared->Prop}(hh:A.handled=none)(D:ZipApart z TI TO i1 i2 l1 l2)
  (hz:IsZip s.heap z TI TO .none)(hTI:IsPair s.heap TI (.ref i1) (.ref i2))(hTO:IsPair s.heap TO a b)
  (h1:SqIt b1 s.heap i1 l1 k1)(h2:SqIt b2 s.heap i2 l2 k2)(hl1:zeo b1 s.heap l1 xs)(hl2:zeo b2 s.heap l2 ys)(hend:xs[k1]?=none\/ys[k2]?=none)
  (hE:∀h' e,(∀c o,c≠z->c≠TO->c≠i1->c≠i2->s.heap.get? c=some o->h'.get? c=some o)->(∃o,h'.get? e=some o/\o.cls=.type "StopIteration")->E (.ref e) {s with heap:=h'}) :
  wpAny (model prog w) A (Builtin.«zip.__next__» ⟨[.ref z],[]⟩) Q E s:=by
 show wpAny _ _ (field (.ref z) 2 >>=_) _ _ _
 refine qG (qAq hz rfl (x:=.bool false) rfl ?_)
 show wpAny _ _ (field (.ref z) 3 >>=_) _ _ _
 refine qG (qAq hz rfl (x:=.ref TI) rfl ?_)
 refine qG (qA3 hTI rfl ?_)
 show wpAny _ _ (Builtin.SmallTypes.ownedTupleIsFree (.ref z) >>=_) _ _ _
 refine qG ?_
 unfold Builtin.SmallTypes.ownedTupleIsFree
 refine qG (qAq hz rfl (x:=.none) rfl (qi ?_))
 simp only[if_true]
 refine qG (qCy ?_)
 refine qG (qAq hz rfl (x:=.ref TO) rfl ?_)
 refine qG (qA4 hz (by simp) λh₁ hz₁ hs₁=>?_)
 replace hz₁:IsZip h₁ z TI TO .ellipsis:=hz₁
 refine qG ?_
 simp only[qB7,List.zipIdx_nil,qCI,List.forIn_nil]
 refine qG (qG (qCA ?_))
 show wpAny _ _ (qz (.ref i1) >>=_) _ _ _
 cases hx:xs[k1]? with
 | none=>
  refine qG (zaab hh (h1.extBut hs₁.extBut D.i1z) (hl1.extBut hs₁.extBut D.l1z) hx λh₂ e hs₂ he=>?_)
  obtain⟨oe,hoe,hce⟩:=he
  have hz₂:IsZip h₂ z TI TO .ellipsis:=hs₂ _ _ D.i1z.symm hz₁
  have hez:e≠z:=λx=>by subst x;rw[hz₂]at hoe;cases hoe;simp at hce
  refine qA4 hz₂ (by simp) λh₃ _ hs₃=>hE h₃ e (λc o c1 _ c3 _ x=>hs₃.extBut _ _ c1 (hs₂ _ _ c3 (hs₁.extBut _ _ c1 x))) ⟨oe,hs₃.extBut _ _ hez hoe,hce⟩
 | some x=>
  have hy:ys[k2]?=none:=by rcases hend with h|h;rw[hx]at h;cases h;exact h
  refine qG (zsx (h1.extBut hs₁.extBut D.i1z) (hl1.extBut hs₁.extBut D.l1z) hx λh₂ h1₂ hs₂=>qi ?_)
  have hTO₂:IsPair h₂ TO a b:=hs₂.extBut _ _ D.TOi1 (hs₁.extBut _ _ D.TOz hTO)
  refine qG (qA3 hTO₂ rfl ?_)
  refine qG (qBy hTO₂ λh₃ hTO₃ hs₃=>?_)
  refine qG (wpAny_letGo (qi ?_))
  refine qG (qG (qCA ?_))
  show wpAny _ _ (qz (.ref i2) >>=_) _ _ _
  refine qG (zaab hh (((h2.extBut hs₁.extBut D.i2z).extBut hs₂.extBut D.i12.symm).extBut hs₃.extBut D.TOi2.symm)
   (((hl2.extBut hs₁.extBut D.l2z).extBut hs₂.extBut D.l2i1).extBut hs₃.extBut D.l2TO) hy λh₄ e hs₄ he=>?_)
  obtain⟨oe,hoe,hce⟩:=he
  have hz₄:IsZip h₄ z TI TO .ellipsis:=hs₄ _ _ D.i2z.symm (hs₃.extBut _ _ D.TOz.symm (hs₂.extBut _ _ D.i1z.symm hz₁))
  have hez:e≠z:=λx=>by subst x;rw[hz₄]at hoe;cases hoe;simp at hce
  refine qA4 hz₄ (by simp) λh₅ _ hs₅=>hE h₅ e (λc o c1 c2 c3 c4 x=>hs₅.extBut _ _ c1 (hs₄ _ _ c4 (hs₃.extBut _ _ c2 (hs₂.extBut _ _ c3 (hs₁.extBut _ _ c1 x))))) ⟨oe,hs₅.extBut _ _ hez hoe,hce⟩
structure ZipAt(b1 b2:Bool)(h:Heap)(z TI TO i1 i2 l1 l2:Addr)(f0:Value)(k:Nat):Prop where
 z:IsZip h z TI TO f0
 ti:IsPair h TI (.ref i1) (.ref i2)
 to:∃a b,IsPair h TO a b
 i1:SqIt b1 h i1 l1 k
 i2:SqIt b2 h i2 l2 k
theorem zaef{Q:Value->Shared->Prop}(D:ZipApart z TI TO i1 i2 l1 l2)
  (hz:ZipAt b1 b2 s.heap z TI TO i1 i2 l1 l2 .none k)(hl1:zeo b1 s.heap l1 xs)(hl2:zeo b2 s.heap l2 ys)(hx:xs[k]?=some x)(hy:ys[k]?=some y)
  (hQ:∀h',ZipAt b1 b2 h' z TI TO i1 i2 l1 l2 (rawInt s.heap.objs.size) (k+1)->IsPair h' s.heap.objs.size x y->
   (∀c o,c≠z->c≠TO->c≠i1->c≠i2->s.heap.get? c=some o->h'.get? c=some o)->Q (.ref s.heap.objs.size) {s with heap:=h'}) :
  wpAny (model prog w) A (Builtin.«zip.__next__» ⟨[.ref z],[]⟩) (λfin s'=>∃v,fin=.done (.ret v)/\Q v s') E s:=by
 obtain⟨p1,p2,⟨a,b,p3⟩,p4,p5⟩:=hz
 exact zabm D p1 p2 p3 p4 p5 hl1 hl2 hx hy λh' q1 q2 q3 q4 q5 _ q7=>hQ h' ⟨q1,q7 _ _ D.TIz D.TITO D.TIi1 D.TIi2 p2,⟨x,y,q2⟩,q3,q4⟩ q5 q7
theorem zaik{Q:Fin->Shared->Prop}(hh:A.handled=none)(D:ZipApart z TI TO i1 i2 l1 l2)
  (hz:ZipAt b1 b2 s.heap z TI TO i1 i2 l1 l2 .none k)(hl1:zeo b1 s.heap l1 xs)(hl2:zeo b2 s.heap l2 ys)(hend:xs[k]?=none\/ys[k]?=none)
  (hE:∀h' e,(∀c o,c≠z->c≠TO->c≠i1->c≠i2->s.heap.get? c=some o->h'.get? c=some o)->(∃o,h'.get? e=some o/\o.cls=.type "StopIteration")->E (.ref e) {s with heap:=h'}) :
  wpAny (model prog w) A (Builtin.«zip.__next__» ⟨[.ref z],[]⟩) Q E s:=by
 obtain⟨p1,p2,⟨a,b,p3⟩,p4,p5⟩:=hz
 exact zaee hh D p1 p2 p3 p4 p5 hl1 hl2 hend hE
end
end PySem
namespace L2
open PySem PySem.Spec PyProof.Rows
noncomputable def SqX(b:Bool)(K:qC)(H:Hp)(a:Addr)(xs:List V):Prop:=match b with
 | true=>SqL K H a xs
 | false=>SqT K H a xs
section
variable{X:Cx}{pins:List (Addr×Obj)}{σ:St}{H:Hp}{s:Shared}
theorem Inv.sq{xs:List V}(I:Inv X pins σ H s)(h:SqX b X.K H a xs):∃its:List Value,Vals xs its/\zeo b s.heap a its.toArray/\xs.length<=qZ:=by
 cases b with
 | true=>obtain⟨its,r,p,z⟩:=I.list h;exact⟨its,r,p.isList,z⟩
 | false=>obtain⟨its,r,p,z⟩:=I.tuple h;exact⟨its,r,(show s.heap.IsTuple a its.toArray from p),z⟩
theorem Inv.sq_inj(I:Inv X pins σ H s)(h:SqX b X.K H a xs)(h':SqX b X.K H a ys):xs=ys:=by
 cases b with
 | true=>exact I.list_inj h h'
 | false=>exact I.tuple_inj h h'
end
noncomputable def Itz(K:qC)(b1:Bool)(a1:Addr)(b2:Bool)(a2:Addr):It:=
 ⟨λi H=>∃xs ys x y,SqX b1 K H a1 xs/\SqX b2 K H a2 ys/\xs[i]?=some x/\ys[i]?=some y,
  λi H v H'=>∃p x y,v=.ref p/\H p=none/\H'=upd H p (.tup [x,y])/\(∀xs,SqX b1 K H a1 xs->xs[i]?=some x)/\∀ys,SqX b2 K H a2 ys->ys[i]?=some y,
  λi H=>∃xs ys,SqX b1 K H a1 xs/\SqX b2 K H a2 ys/\(xs.length<=i\/ys.length<=i)⟩
theorem zail{P:Program}{w:World}{K:qC}{elts:List Expr}{x1}{tpos:Pos}{b1 b2:Bool}{z TI TO i1 i2 l1 l2:Addr}(D:ZipApart z TI TO i1 i2 l1 l2) :
  Turn P w K (.Tuple elts x1 tpos) (Itz K b1 l1 b2 l2) [z,TI,TO,i1,i2] z (λi h=>ZipAt b1 b2 h z TI TO i1 i2 l1 l2 .none i) where
 mem:=by simp
 obj:=λi h st b hb=>by
  obtain⟨a,c,hto⟩:=st.to
  simp only[qP,qAF,or_false]at hb
  rcases hb with rfl|rfl|rfl|rfl|rfl
  ·exact⟨_,st.z,λv q=>by simp at q⟩
  ·exact⟨_,st.ti,λv q=>by simp at q⟩
  ·exact⟨_,hto,λv q=>by simp at q⟩
  ·exact st.i1.obj
  ·exact st.i2.obj
 keep:=λi h h' st k=>by
  obtain⟨a,c,hto⟩:=st.to
  exact⟨k z (by simp) _ st.z,k TI (by simp) _ st.ti,⟨a,c,k TO (by simp) _ hto⟩,st.i1.moved λo q=>k i1 (by simp) o q,st.i2.moved λo q=>k i2 (by simp) o q⟩
 item:=by
  intro X hP hw hK hc i pins s σ H E I hf st hg
  subst hP hw hK
  obtain⟨xs,ys,x,y,q1,q2,hx,hy⟩:=hg
  obtain⟨its1,rv1,p1,_⟩:=I.sq q1
  obtain⟨its2,rv2,p2,_⟩:=I.sq q2
  obtain⟨u1,hu1,ru1⟩:=rv1.get hx
  obtain⟨u2,hu2,ru2⟩:=rv2.get hy
  have hT:s.TypeIs (.ref z) "zip":=⟨_,st.z,rfl⟩
  unfold pyNext
  refine qG (wpAny_attempt (qA1 (name:=Str.ofString "__next__") hT qBo (qBM qBo hT F.entry_zip_next
   (zaef D st p1 p2 (x:=u1) (y:=u2) (by simpa using hu1) (by simpa using hu2) λh1 zt tp kp=>qi ?_) (F.args_zip_next_1 _))))
  refine⟨_,rfl,wpAny_letOwnedTupleGo_zip (s:={s with heap:=h1}) zt.z λh2 z2 sb2=>?_⟩
  have hp:H s.heap.objs.size=none:=I.hok.fresh (qO _)
  have fz:=hf z (by simp)
  have fO:=hf TO (by simp)
  have f1:=hf i1 (by simp)
  have f2:=hf i2 (by simp)
  have lt:∀b∈[z,TI,TO,i1,i2],b≠s.heap.objs.size:=λb hb=>by
   obtain⟨a,c,hto⟩:=st.to
   simp only[qP,qAF,or_false]at hb
   rcases hb with rfl|rfl|rfl|rfl|rfl
   ·exact qp (qR st.z)
   ·exact qp (qR st.ti)
   ·exact qp (qR hto)
   ·obtain⟨o,q,_⟩:=st.i1.obj;exact qp (qR q)
   ·obtain⟨o,q,_⟩:=st.i2.obj;exact qp (qR q)
  have k2:∀b o,b≠z->b≠TO->b≠i1->b≠i2->s.heap.get? b=some o->h2.get? b=some o:=λb o e1 e2 e3 e4 q=>(sb2.2 b e1).trans (kp b o e1 e2 e3 e4 q)
  have t2:IsPair h2 s.heap.objs.size u1 u2:=(sb2.2 _ (qAs (lt z (by simp)))).trans tp
  have nch:∀b,b∉[z,TO,i1,i2]->b≠z/\b≠TO/\b≠i1/\b≠i2:=λb hb=>⟨λq=>hb (by simp[q]),λq=>hb (by simp[q]),λq=>hb (by simp[q]),λq=>hb (by simp[q])⟩
  have k3:∀b o,b∉[z,TO,i1,i2]->s.heap.get? b=some o->h2.get? b=some o:=λb o hb q=>let⟨e1,e2,e3,e4⟩:=nch b hb;k2 b o e1 e2 e3 e4 q
  have nH:∀c v,H c=some v->c∉[z,TO,i1,i2]:=λc v q hc=>by
   have:H c=none:=by
    simp only[qP,qAF,or_false]at hc
    rcases hc with rfl|rfl|rfl|rfl
    ·exact fz.1
    ·exact fO.1
    ·exact f1.1
    ·exact f2.1
   rw[this]at q;cases q
  refine⟨.ref s.heap.objs.size,upd H s.heap.objs.size (.tup [x,y]),?_,rfl,⟨_,x,y,rfl,hp,rfl,λzs q=>by rw[I.sq_inj q q1];exact hx,λzs q=>by rw[I.sq_inj q q2];exact hy⟩,?_,λb hb=>by rw[zau (lt b hb)];exact(hf b hb).1⟩
  ·refine Inv.step (s:=s) (h':=h2) (g':=s.gens) (d':=s.drawn) (t':=s.toks) (ch:=[z,TO,i1,i2]) I (λb hb=>?_) (λb o _ _ hc q _=>k3 b o hc q) (λb o _ _ hc q _=>⟨o.slots,k3 b o hc q⟩)
    (λb o _ q n=>by rw[zau (qp (qR q))];exact n) (λb o hc q=>⟨o,k3 b o hc q⟩)
    (λb xs q=>by rw[zau (zay q hp)];exact q) (λb o v q=>by rw[zau (zay q hp)];exact q) (λb ps q=>⟨#[],by rw[zau (zay q hp),q];simp⟩) (λm hm=>?_) (λb v q=>?_) I.bare
   ·have:=hf b (by
     simp only[qP,qAF,or_false]at hb ⊢
     rcases hb with rfl|rfl|rfl|rfl<;>simp)
    exact⟨this.2.2.2.1,this.2.1,this.2.2.2.2.1,this.2.2.2.2.2⟩
   ·obtain⟨o,es,ep,ho,r⟩:=hm
    exact⟨o,es,ep,k2 _ o (qAs fz.2.1) (qAs fO.2.1) (qAs f1.2.1) (qAs f2.2.1) ho,r⟩
   ·by_cases hb:b=s.heap.objs.size
    ·subst hb
     rw[zap]at q
     cases q
     exact⟨by show 2<=qZ;decide,[u1,u2],.cons ru1 (.cons ru2 .nil),_,t2,rfl,_,rfl⟩
    ·rw[zau hb]at q
     refine(I.hok b v q).stay (λc w' hc r=>?_) (λc r=>by rw[zau (zay r hp)];exact r) λc ys r=>by rw[zau (zay r hp)];exact r
     rcases hc with rfl|hc
     ·exact k3 c w' (nH c v q) r
     ·exact k3 c w' (nH c _ hc) r
  ·obtain⟨a,c,hto⟩:=zt.to
   exact⟨z2,(sb2.2 _ D.TIz).trans zt.ti,⟨a,c,(sb2.2 _ D.TOz).trans hto⟩,zt.i1.moved λo q=>(sb2.2 _ D.i1z).trans q,zt.i2.moved λo q=>(sb2.2 _ D.i2z).trans q⟩
 done:=by
  intro X hP hw hK hc i pins s σ H E I hf st hg
  subst hP hw hK
  obtain⟨xs,ys,q1,q2,hle⟩:=hg
  obtain⟨its1,rv1,p1,_⟩:=I.sq q1
  obtain⟨its2,rv2,p2,_⟩:=I.sq q2
  have l1':=rv1.length
  have l2':=rv2.length
  have hT:s.TypeIs (.ref z) "zip":=⟨_,st.z,rfl⟩
  unfold pyNext
  refine qG (wpAny_attempt (qA1 (name:=Str.ofString "__next__") hT qBo (qBM qBo hT F.entry_zip_next
   (zaik (by exact I.ok.hd hc) D st p1 p2 (by rcases hle with q|q;exact .inl (by simp;omega);exact .inr (by simp;omega)) λh' e kp he=>?_) (F.args_zip_next_1 _))))
  obtain⟨o,ho,hcl⟩:=he
  refine qG (wpAny_isInstance (T:="StopIteration") (b:=true) ⟨o,ho,hcl⟩ isSubtype_stop (qi ⟨rfl,?_⟩))
  have fz:=hf z (by simp)
  have fO:=hf TO (by simp)
  have f1:=hf i1 (by simp)
  have f2:=hf i2 (by simp)
  have nch:∀b,b∉[z,TO,i1,i2]->b≠z/\b≠TO/\b≠i1/\b≠i2:=λb hb=>⟨λq=>hb (by simp[q]),λq=>hb (by simp[q]),λq=>hb (by simp[q]),λq=>hb (by simp[q])⟩
  have k3:∀b o,b∉[z,TO,i1,i2]->s.heap.get? b=some o->h'.get? b=some o:=λb o hb q=>let⟨e1,e2,e3,e4⟩:=nch b hb;kp b o e1 e2 e3 e4 q
  have nH:∀c v,H c=some v->c∉[z,TO,i1,i2]:=λc v q hc=>by
   have:H c=none:=by
    simp only[qP,qAF,or_false]at hc
    rcases hc with rfl|rfl|rfl|rfl
    ·exact fz.1
    ·exact fO.1
    ·exact f1.1
    ·exact f2.1
   rw[this]at q;cases q
  refine Inv.step (s:=s) (h':=h') (g':=s.gens) (d':=s.drawn) (t':=s.toks) (ch:=[z,TO,i1,i2]) I (λb hb=>?_) (λb o _ _ hc q _=>k3 b o hc q) (λb o _ _ hc q _=>⟨o.slots,k3 b o hc q⟩)
    (λb o _ q n=>n) (λb o hc q=>⟨o,k3 b o hc q⟩) (λb xs q=>q) (λb o v q=>q) (λb ps q=>⟨#[],by rw[q];simp⟩) (λm hm=>?_) (λb v q=>?_) I.bare
  ·have:=hf b (by
     simp only[qP,qAF,or_false]at hb ⊢
     rcases hb with rfl|rfl|rfl|rfl<;>simp)
   exact⟨this.2.2.2.1,this.2.1,this.2.2.2.2.1,this.2.2.2.2.2⟩
  ·obtain⟨o,es,ep,ho,r⟩:=hm
   exact⟨o,es,ep,kp _ o (qAs fz.2.1) (qAs fO.2.1) (qAs f1.2.1) (qAs f2.2.1) ho,r⟩
  ·refine(I.hok b v q).stay (λc w' hc r=>?_) (λc r=>r) λc ys r=>r
   rcases hc with rfl|hc
   ·exact k3 c w' (nH c v q) r
   ·exact k3 c w' (nH c _ hc) r
 self:=λ_ _ _ _ _ st h=>wpAny_pyIter_zip st.z h
end L2
namespace PySem
open Sem (wp)
noncomputable def itO(b:Bool)(l:Addr):Obj:=match b with
 | true=>{cls:=.type "list_iterator",data:=.fields #[.ref l,.int 0 0]}
 | false=>{cls:=.type "tuple_iterator",data:=.fields #[.ref l,.int 0 0]}
noncomputable def zx1(b1:Bool)(h:Heap)(l1:Addr):Heap:=h.push (itO b1 l1)
noncomputable def zx2(b1 b2:Bool)(h:Heap)(l1 l2:Addr):Heap:=(zx1 b1 h l1).push (itO b2 l2)
noncomputable def zx3(b1 b2:Bool)(h:Heap)(l1 l2:Addr):Heap:=(zx2 b1 b2 h l1 l2).push {cls:=.type "tuple",data:=.seq #[.ref h.objs.size,.ref (zx1 b1 h l1).objs.size]}
noncomputable def zx4(b1 b2:Bool)(h:Heap)(l1 l2:Addr):Heap:=(zx3 b1 b2 h l1 l2).push {cls:=.type "tuple",data:=.seq #[.none,.none]}
noncomputable def zx5(b1 b2:Bool)(h:Heap)(l1 l2:Addr):Heap:=(zx4 b1 b2 h l1 l2).push {cls:=.type "zip",data:=.fields #[.none,.bool false,.bool false,.ref (zx2 b1 b2 h l1 l2).objs.size,.ref (zx3 b1 b2 h l1 l2).objs.size]}
theorem zabn(b1 b2:Bool)(l1 l2:Addr)(xs ys:Array Value) :
  Meets (Builtin.«zip.__new__» ⟨[.type "zip",.ref l1,.ref l2],[]⟩) (λ_ R s=>zeo b1 s.heap l1 xs/\zeo b2 s.heap l2 ys/\R (.ok (.ret (.ref (zx4 b1 b2 s.heap l1 l2).objs.size))) {s with heap:=zx5 b1 b2 s.heap l1 l2}):=
 .of_wp λprog w A R s h=>by
  obtain⟨hp,g,d,tk,os⟩:=s;obtain⟨h1,h2,h⟩:=h
  have hsub:=sub_zip
  cases b1 with
  | true=>
   have e1:Heap.IsList (Shared.heap ⟨hp,g,d,tk,os⟩) l1 xs:=h1
   cases b2 with
   | true=>
    have e2:Heap.IsList (Shared.heap ⟨hp.push {cls:=.type "list_iterator",data:=.fields #[.ref l1,.int 0 0]},g,d,tk,os⟩) l2 ys:=qCc h2 _
    wp_walk using qAp e1,qAp e2
    exact⟨_,rfl,h⟩
   | false=>
    have e2:Heap.IsTuple (Shared.heap ⟨hp.push {cls:=.type "list_iterator",data:=.fields #[.ref l1,.int 0 0]},g,d,tk,os⟩) l2 ys:=qCV h2 _
    wp_walk using qAp e1,qAm e2
    exact⟨_,rfl,h⟩
  | false=>
   have e1:Heap.IsTuple (Shared.heap ⟨hp,g,d,tk,os⟩) l1 xs:=h1
   cases b2 with
   | true=>
    have e2:Heap.IsList (Shared.heap ⟨hp.push {cls:=.type "tuple_iterator",data:=.fields #[.ref l1,.int 0 0]},g,d,tk,os⟩) l2 ys:=qCc h2 _
    wp_walk using qAm e1,qAp e2
    exact⟨_,rfl,h⟩
   | false=>
    have e2:Heap.IsTuple (Shared.heap ⟨hp.push {cls:=.type "tuple_iterator",data:=.fields #[.ref l1,.int 0 0]},g,d,tk,os⟩) l2 ys:=qCV h2 _
    wp_walk using qAm e1,qAm e2
    exact⟨_,rfl,h⟩
theorem zsy{h:Heap}(e:h.get? a=some (itO b l)):SqIt b h a l 0:=by
 cases b with
 | true=>exact⟨_,e,rfl,rfl⟩
 | false=>exact⟨_,e,rfl,rfl⟩
theorem zaeg{E:Value->Shared->Prop}{s:Shared}{Q:Value->Shared->Prop}(h1:zeo b1 s.heap l1 xs)(h2:zeo b2 s.heap l2 ys)
  (h:∀h',ZipAt b1 b2 h' (s.heap.objs.size+4) (s.heap.objs.size+2) (s.heap.objs.size+3) s.heap.objs.size (s.heap.objs.size+1) l1 l2 .none 0->(∀c o,s.heap.get? c=some o->h'.get? c=some o)->Q (.ref (s.heap.objs.size+4)) {s with heap:=h'}) :
  wpAny (model prog w) A (call (.type "zip") [.ref l1,.ref l2]) Q E s:=by
 refine callType_new F.called_zip (by decide) (F.typeCall_zip_2 _ _) (F.newCall_zip_2 _ _) (λobj=>F.args_object_init_3 obj _ _) F.entry_zip_new (zabn b1 b2 l1 l2 xs ys) ⟨h1,h2,?_⟩
 have z1:(zx1 b1 s.heap l1).objs.size=s.heap.objs.size+1:=qAv ..
 have z2:(zx2 b1 b2 s.heap l1 l2).objs.size=s.heap.objs.size+2:=by unfold zx2;rw[qAv,z1]
 have z3:(zx3 b1 b2 s.heap l1 l2).objs.size=s.heap.objs.size+3:=by unfold zx3;rw[qAv,z2]
 have z4:(zx4 b1 b2 s.heap l1 l2).objs.size=s.heap.objs.size+4:=by unfold zx4;rw[qAv,z3]
 have fr:∀o:Obj,(zx5 b1 b2 s.heap l1 l2).get? (zx4 b1 b2 s.heap l1 l2).objs.size=some {cls:=.type "zip",dict:=none,data:=.fields #[.none,.bool false,.bool false,.ref (zx2 b1 b2 s.heap l1 l2).objs.size,.ref (zx3 b1 b2 s.heap l1 l2).objs.size],slots:=#[]}:=λ_=>qd _ rfl
 have g5:=fr {cls:=.none,data:=.seq #[]}
 have g4:(zx5 b1 b2 s.heap l1 l2).get? (zx3 b1 b2 s.heap l1 l2).objs.size=some {cls:=.type "tuple",data:=.seq #[.none,.none]}:=qF _ (qd _ rfl)
 have g3:(zx5 b1 b2 s.heap l1 l2).get? (zx2 b1 b2 s.heap l1 l2).objs.size=some {cls:=.type "tuple",data:=.seq #[.ref s.heap.objs.size,.ref (zx1 b1 s.heap l1).objs.size]}:=qF _ (qF _ (qd _ rfl))
 have g2:(zx5 b1 b2 s.heap l1 l2).get? (zx1 b1 s.heap l1).objs.size=some (itO b2 l2):=qF _ (qF _ (qF _ (qd _ (by cases b2<;>rfl))))
 have g1:(zx5 b1 b2 s.heap l1 l2).get? s.heap.objs.size=some (itO b1 l1):=qF _ (qF _ (qF _ (qF _ (qd _ (by cases b1<;>rfl)))))
 show _/\_
 rw[z2,z3,z4]at g5
 rw[z1,z2]at g3
 rw[z3]at g4
 rw[z1]at g2
 rw[z4]
 exact⟨⟨_,g5,rfl⟩,h _ ⟨g5,g3,⟨_,_,g4⟩,zsy g1,zsy g2⟩ λc o q=>qF _ (qF _ (qF _ (qF _ (qF _ q))))⟩
end PySem
namespace L2
open PySem PySem.Spec PyProof.Rows
theorem zaqb:bootBuiltins "zip"=some (.type "zip"):=by decide +kernel
noncomputable def iZip(K:qC)(ta:TA):TI:=λσ H R=>ta σ H λvs H1=>∃b1 b2 a1 a2,vs=[.ref a1,.ref a2]/\(∃xs,SqX b1 K H1 a1 xs)/\(∃ys,SqX b2 K H1 a2 ys)/\R (Itz K b1 a1 b2 a2) H1
theorem zeo.there{h:Heap}(x:zeo b h l xs):l<h.objs.size:=by
 cases b with
 | true=>obtain⟨o,q,_⟩:=x;exact qR q
 | false=>obtain⟨o,q,_⟩:=x;exact qR q
theorem zaeh{n l1 l2:Nat}(h1:l1<n)(h2:l2<n):ZipApart (n+4) (n+2) (n+3) n (n+1) l1 l2:=by
 constructor<;>first|exact qp (by omega)|exact qBn (by omega)
theorem zaqc{X:Cx}{K:qC}(hK:X.K=K){a b:Expr}{ta:TA}{p pos:Pos}{elts:List Expr}{x1}{tpos:Pos}(hg:Gl X "zip")(hm:X.mg "zip"=none)(ha:PA X [a,b] ta)(hs:starEach [a,b] X.env=(false,eval a X.env)::starEach [b] X.env:=by rfl)(hs2:(backTo pos (starEach [b] X.env)).any (·.1)=false:=by rfl) :
  PI X (.Tuple elts x1 tpos) (.Call (.Name "zip" p) [a,b] [] pos) (iZip K ta):=by
 subst hK
 intro pins s σ H R I h
 refine Call_ (zrh I hg hm zaqb (callWith_type1 (thn (ha pos pins s σ H _ I h) λus s1 ⟨vs,H1,I1,r1,q1⟩=>?_) hs hs2))
 obtain⟨b1,b2,l1,l2,rfl,⟨xs,e1⟩,⟨ys,e2⟩,q⟩:=q1
 obtain⟨u1,u2,rfl,ru1,ru2⟩:=zalq r1
 cases ru1
 cases ru2
 obtain⟨its1,rv1,p1,_⟩:=I1.sq e1
 obtain⟨its2,rv2,p2,_⟩:=I1.sq e2
 have t1:=zeo.there p1
 have t2:=zeo.there p2
 refine zaeg p1 p2 λh' zt hk=>wpAny_pyIter_zip zt.z ?_
 have I2:Inv X pins σ H1 {s1 with heap:=h'}:=I1.kept (t':=s1.toks) hk
 have D:=zaeh t1 t2
 refine⟨s1.heap.objs.size+4,[s1.heap.objs.size+4,s1.heap.objs.size+2,s1.heap.objs.size+3,s1.heap.objs.size,s1.heap.objs.size+1],_,_,H1,rfl,I2,zail D,zt,λc hc=>?_,q⟩
 have hge:s1.heap.objs.size<=c:=by
  simp only[qP,qAF,or_false]at hc
  rcases hc with rfl|rfl|rfl|rfl|rfl
  ·exact qAY _ _
  ·exact qAY _ _
  ·exact qAY _ _
  ·exact qO _
  ·exact qAY _ _
 exact I1.fpOk hge (I1.hok.fresh hge)
noncomputable def zyb(f:AF):IF':=λenv=>(f env).bind λrs=>match rs with
 | [r,t]=>(zfp r.d).bind λds=>(zfp t.d).map λes=>(List.zipWith (λd e=>.tuple [d,e]) ds es,r.bs++t.bs)
 | _=>none
theorem zaei{K:qC}{A:Addr->Prop}{H:Hp}{d:PyData}{ds:List PyData}{v:V}(h:Rp (Offs A H) d v)(e:zfp d=some ds):∃(b:Bool)(a:Addr)(xs:List V),v=.ref a/\Rps (Offs A H) ds xs/\∀(B:Addr->Prop)(H':Hp),Same (Offs A H) (Offs B H')->SqX b K H' a xs:=by
 cases d with
 | list es=>
  cases e
  obtain⟨a,xs,rfl,ha,r⟩:=zes h
  exact⟨true,a,xs,rfl,r,λB H' s=>SqL.of (zdn (s _ _ ha))⟩
 | tuple es=>
  cases e
  obtain⟨a,xs,rfl,ha,r⟩:=zdt h
  exact⟨false,a,xs,rfl,r,λB H' s=>SqT.of (zdn (s _ _ ha))⟩
 | _=>cases e
theorem zaim{ds es:List PyData}{i:Nat}{d:PyData}(h:(List.zipWith (λd e=>PyData.tuple [d,e]) ds es)[i]?=some d):∃a b,ds[i]?=some a/\es[i]?=some b/\d=.tuple [a,b]:=by
 rw[List.getElem?_zipWith]at h
 cases e1:ds[i]? with
 | none=>rw[e1]at h;cases h
 | some a=>
  cases e2:es[i]? with
  | none=>rw[e1,e2]at h;cases h
  | some b=>rw[e1,e2]at h;cases h;exact⟨a,b,rfl,rfl,rfl⟩
theorem zaqd{K:qC}{ta:TA}{f:AF}(h1:SA ta f):SI (iZip K ta) (zyb f):=by
 intro fx H0 env σ H h ds bs e R q
 unfold zyb at e
 obtain⟨rs,er,e⟩:=qA.mp e
 split at e
 ·rename_i r t
  obtain⟨d1,ed1,e⟩:=qA.mp e
  obtain⟨d2,ed2,e⟩:=qE.mp e
  cases e
  refine h1 fx H0 env σ H h _ er _ λvs H1 s hv=>?_
  cases hv with
  | cons hv1 hv'=>
   cases hv' with
   | cons hv2 hv''=>
    cases hv''
    have sub1:∀b,(fx b\/own (frzs env (r.bs++t.bs)) σ b)->lim fx env σ r.bs b:=λb z=>zpe (λi hi=>qw _ hi) b (zfb b z)
    have sub2:∀b,(fx b\/own (frzs env (r.bs++t.bs)) σ b)->lim fx env σ t.bs b:=λb z=>zpe (λi hi=>qc _ hi) b (zfb b z)
    obtain⟨b1,a1,xs,rfl,r1,e1⟩:=zaei (K:=K) (Rp.same (Offs.sub sub1) _ hv1.rp) ed1
    obtain⟨b2,a2,ys,rfl,r2,e2⟩:=zaei (K:=K) (Rp.same (Offs.sub sub2) _ hv2.rp) ed2
    refine⟨b1,b2,a1,a2,rfl,⟨xs,e1 _ H1 (Same.refl _)⟩,⟨ys,e2 _ H1 (Same.refl _)⟩,q _ H1 s ?_⟩
    intro A H' hA ss
    have q1:=e1 A H' ss
    have q2:=e2 A H' ss
    have r1':=Rps.same ss _ r1
    have r2':=Rps.same ss _ r2
    refine⟨λi d e=>?_,⟨xs,ys,q1,q2,?_⟩⟩
    ·obtain⟨c1,c2,ec1,ec2,rfl⟩:=zaim e
     obtain⟨v1,g1,rv1⟩:=r1'.get2 ec1
     obtain⟨v2,g2,rv2⟩:=r2'.get2 ec2
     refine⟨⟨xs,ys,v1,v2,q1,q2,g1,g2⟩,λx H'' y=>?_⟩
     obtain⟨p,x',y',rfl,hp,rfl,y1,y2⟩:=y
     have z1:=y1 xs q1
     rw[g1]at z1
     cases z1
     have z2:=y2 ys q2
     rw[g2]at z2
     cases z2
     exact⟨Same.new hp,zph hp (zeu hA hp) (zdk rv1 (zdk rv2 zdm))⟩
    ·rw[List.length_zipWith,r1.length,r2.length]
     rcases Nat.le_total xs.length ys.length with z|z
     ·exact .inl (by rw[Nat.min_eq_left z];exact qO _)
     ·exact .inr (by rw[Nat.min_eq_right z];exact qO _)
 ·cases e
noncomputable def rInS(K:qC)(neg:Bool):R2:=λx y H Q=>∃d c ds,Rep K H d x/\Rep K H c y/\zfp c=some ds/\qAA d=true/\qAA c=true/\Q (.bl (if neg then !(ds.any λe=>qAH e d)else ds.any λe=>qAH e d)) H
section
variable{X:Cx}
theorem shp{d:PyData}(h:qAA d=true):d.canLay0=true/\d.depth<=64:=by
 unfold qAA at h
 rw[qAO]at h
 exact⟨h.1,of_decide_eq_true h.2⟩
theorem zasp{K:qC}(hK:X.K=K)(hu:X.A.units+64<cLine):OpR X (compareOp .In) (rInS K false):=by
 subst hK
 intro pins s σ H x y v u Q I rx ry h
 obtain⟨d,c,ds,hd,hc,hi,sd,sc,q⟩:=h
 obtain⟨as,r1⟩:=zef I d hd rx
 obtain⟨bs,r2⟩:=zef I c hc ry
 obtain⟨l1,p1⟩:=shp sd
 obtain⟨l2,p2⟩:=shp sc
 have q:EP X pins σ Q (.bool (ds.any λe=>qAH e d)) s:=⟨.bl (ds.any λe=>qAH e d),H,I,rfl,q⟩
 cases c with
 | list es=>
  cases hi
  have p2:qa ds+1<=64:=p2
  exact SeqAt.in_list_reads r2 r1 l2 l1 (by have:=qBO (qa ds) d.depth;omega) q
 | tuple es=>
  cases hi
  have p2:qa ds+1<=64:=p2
  exact SeqAt.in_tuple_reads r2 r1 l2 l1 (by have:=qBO (qa ds) d.depth;omega) q
 | _=>cases hi
theorem zaej{K:qC}(hK:X.K=K)(hu:X.A.units+64<cLine):OpR X (compareOp .NotIn) (rInS K true):=by
 subst hK
 intro pins s σ H x y v u Q I rx ry h
 obtain⟨d,c,ds,hd,hc,hi,sd,sc,q⟩:=h
 obtain⟨as,r1⟩:=zef I d hd rx
 obtain⟨bs,r2⟩:=zef I c hc ry
 obtain⟨l1,p1⟩:=shp sd
 obtain⟨l2,p2⟩:=shp sc
 have q:EP X pins σ Q (.bool (!(ds.any λe=>qAH e d))) s:=⟨.bl (!(ds.any λe=>qAH e d)),H,I,rfl,q⟩
 cases c with
 | list es=>
  cases hi
  have p2:qa ds+1<=64:=p2
  exact SeqAt.notIn_list_reads r2 r1 l2 l1 (by have:=qBO (qa ds) d.depth;omega) q
 | tuple es=>
  cases hi
  have p2:qa ds+1<=64:=p2
  exact SeqAt.notIn_tuple_reads r2 r1 l2 l1 (by have:=qBO (qa ds) d.depth;omega) q
 | _=>cases hi
end
noncomputable def inS(neg:Bool):OF:=λd c=>match zfp c with
 | some ds=>if qAA d=true/\qAA c=true then some (.bool (if neg then !(ds.any λe=>qAH e d)else ds.any λe=>qAH e d),false)else none
 | none=>none
theorem zaqe{K:qC}{neg:Bool}:SO (rInS K neg) (inS neg):=by
 intro A H x y dx dy hA rx ry d fr e Q q
 unfold inS at e
 split at e
 ·rename_i ds hi
  split at e
  ·rename_i h
   cases e
   refine⟨dx,dy,ds,zpi (qAV h.1) (Rp.same (Offs.same A H) _ rx),zpi (qAV h.2) (Rp.same (Offs.same A H) _ ry),hi,h.1,h.2,q _ H (Same.refl _) ?_ (λz=>by cases z)⟩
   cases neg<;>exact zbp
  ·cases e
 ·cases e
end L2
namespace PySem
open Sem (wp)
open AutoSeq1 (wpAny_loadPart')
theorem zain{A:Around}(hh:A.handled=none)(b:Bool)(it l:Addr)(hne:l≠it)(items:Array Value) :
  Draws prog w A it [it,l] items.size (λi v=>items[i]?=some v) (λi h=>SqIt b h it l i/\zeo b h l items) where
 live:=λ_ _ st=>let⟨o,ho,_⟩:=st.1.obj;⟨o,ho⟩
 frame:=λ_ _ _ st hk=>⟨st.1.moved λo e=>hk it (by simp) o e,st.2.moved λo e=>hk l (by simp) o e⟩
 item:=λi s Q E hi st hQ=>by
  refine zsx st.1 st.2 (x:=items[i]) (by simp[hi]) λh' hit' hs'=>?_
  exact hQ _ h' s.toks (by simp[hi]) ⟨hit',st.2.moved λo e=>hs'.extBut _ o hne e⟩ hs'
 done:=λs Q E st hE=>zaab hh st.1 st.2 (by simp) hE
theorem zoh(l:Addr)(items:Array Value)(n:Nat)(dct:Option Addr)(sl:Array (Option Value)) :
  Meets (Builtin.«enumerate.__new__» ⟨[.type "enumerate",.ref l],[]⟩) (λ_ R s=>s.heap.get? l=some {cls:=.type "tuple",dict:=dct,data:=.seq items n,slots:=sl}/\
   R (.ok (.ret (.ref (s.heap.push (itO false l)).objs.size))) {s with heap:=(s.heap.push (itO false l)).push {cls:=.type "enumerate",data:=.fields #[.none,.bool false,.ref s.heap.objs.size,rawInt 0,.none,.none]}}):=
 .of_wp λprog w A R s h=>by
  obtain⟨hp,g,d,tk,os⟩:=s;obtain⟨hl,h⟩:=h
  have hsub:=sub_enumerate
  have e1:Heap.IsTuple (Shared.heap ⟨hp,g,d,tk,os⟩) l items:=⟨_,hl,rfl,n,rfl⟩
  wp_walk using qBt hl
  refine wpAny_stack_any λst=>qi ?_
  split
  ·rename_i c _ _ _ _ _
   cases(c==Value.type "enumerate")
   ·wp_walk using qBt hl,qAm e1
    exact⟨_,rfl,h⟩
   ·wp_walk using qBt hl,qAm e1
    exact⟨_,rfl,h⟩
  ·wp_walk using qBt hl,qAm e1
   exact⟨_,rfl,h⟩
theorem zvg{E:Value->Shared->Prop}{s:Shared}{Q:Value->Shared->Prop}(hL:zeo b s.heap l items)
  (h:∀h',IsEnum h' (s.heap.objs.size+1) s.heap.objs.size 0 .none->SqIt b h' s.heap.objs.size l 0->(∀c o,s.heap.get? c=some o->h'.get? c=some o)->Q (.ref (s.heap.objs.size+1)) {s with heap:=h'}) :
  wpAny (model prog w) A (call (.type "enumerate") [.ref l]) Q E s:=by
 cases b with
 | true=>exact call_enumerate_list hL λh' e i _ k=>h h' e i k
 | false=>
  obtain⟨⟨c,dct,dt,sl⟩,hl,hc,n,hd⟩:=hL
  replace hc:c=.type "tuple":=hc
  replace hd:dt=.seq items n:=hd
  subst hc hd
  refine callType_new F.called_enumerate (by decide) (F.typeCall_enumerate_1 _) (F.newCall_enumerate_1 _) (λobj=>F.args_object_init_2 obj _) F.entry_enumerate_new (zoh l items n dct sl) ⟨hl,?_⟩
  have hz:(s.heap.push (itO false l)).objs.size=s.heap.objs.size+1:=qAv ..
  have he:=qd (s.heap.push (itO false l)) (o:={cls:=.type "enumerate",data:=.fields #[.none,.bool false,.ref s.heap.objs.size,rawInt 0,.none,.none]}) rfl
  show _/\_
  rw[hz]at he ⊢
  exact⟨⟨_,he,rfl⟩,h _ he (zsy (b:=false) (qF _ (qd _ rfl))) λc o x=>qF _ (qF _ x)⟩
end PySem
namespace L2
open PySem PySem.Spec PyProof.Rows
noncomputable def Itx(K:qC)(b:Bool)(a:Addr):It:=
 ⟨λi H=>∃xs x,SqX b K H a xs/\xs[i]?=some x,λi H x H'=>∃p y,x=.ref p/\H p=none/\H'=upd H p (.tup [.int i,y])/\∀xs,SqX b K H a xs->xs[i]?=some y,λi H=>∃xs,SqX b K H a xs/\xs.length<=i⟩
theorem zabo{P:Program}{w:World}{K:qC}{elts:List Expr}{x1}{tpos:Pos}{b:Bool}(a e it:Addr)(hne:e≠it)(hea:e≠a)(hai:a≠it) :
  Turn P w K (.Tuple elts x1 tpos) (Itx K b a) [e,it] e (λi h=>SqIt b h it a i/\∃old,IsEnum h e it (i:Int) old) where
 mem:=by simp
 obj:=λi h st c hc=>by
  obtain⟨h1,old,h4⟩:=st
  rcases qP.mp hc with rfl|hc
  ·exact⟨_,h4,λv z=>by simp at z⟩
  ·have q:c=it:=by simpa using hc
   subst q
   exact h1.obj
 keep:=λi h h' st k=>⟨st.1.moved λo q=>k it (by simp) o q,let⟨old,q⟩:=st.2;⟨old,k e (by simp) _ q⟩⟩
 item:=by
  intro X hP hw hK hc i pins s σ H E I hf st hg
  subst hP hw hK
  obtain⟨xs,x,hq,hx⟩:=hg
  obtain⟨its,rv,p,hz⟩:=I.sq hq
  obtain⟨u,hu,ru⟩:=rv.get hx
  obtain⟨hit,old,he⟩:=st
  have fe:=hf e (by simp)
  have fi:=hf it (by simp)
  have hlt:i<its.toArray.size:=by
   obtain⟨hh,_⟩:=qK.mp hu
   simpa using hh
  refine wpAny_pyNext_enum_itemD (zain (by exact I.ok.hd hc) b it a hai its.toArray) he ⟨hit,p⟩ hlt hne (by simp[hne,hea]) λu' h1 tk pu e1 i1 t1 z1 k1=>?_
  have hu':u'=u:=by
   have pu:its.toArray[i]?=some u':=pu
   rw[List.getElem?_toArray,hu]at pu
   exact(qe pu).symm
  subst hu'
  refine⟨_,rfl,wpAny_letOwnedTupleGo_enum (s:={s with heap:=h1,toks:=tk+1}) e1 λh2 e2 sb2=>?_⟩
  have hp:H s.heap.objs.size=none:=I.hok.fresh (qO _)
  have hes:e≠s.heap.objs.size:=qp (qR he)
  have k2:∀c o,c≠e->c≠it->s.heap.get? c=some o->h2.get? c=some o:=λc o q1 q2 q=>(sb2.2 c q1).trans (k1 c o q1 q2 q)
  have t2:h2.get? s.heap.objs.size=some {cls:=.type "tuple",data:=.seq #[.int i tk,u']}:=(sb2.2 _ (qAs hes)).trans t1
  have nch:∀c,c∉[e,it]->c≠e/\c≠it:=λc hb=>⟨λz=>hb (by simp[z]),λz=>hb (by simp[z])⟩
  refine⟨.ref s.heap.objs.size,upd H s.heap.objs.size (.tup [.int i,x]),?_,rfl,⟨_,x,rfl,hp,rfl,λys hy=>by rw[I.sq_inj hy hq];exact hx⟩,⟨?_,u',e2⟩,λc hb=>?_⟩
  ·refine Inv.step (s:=s) (h':=h2) (g':=s.gens) (d':=s.drawn) (t':=tk+1) (ch:=[e,it]) I (λc hb=>?_) (λc o _ _ hc q _=>k2 c o (nch c hc).1 (nch c hc).2 q) (λc o _ _ hc q _=>⟨o.slots,k2 c o (nch c hc).1 (nch c hc).2 q⟩)
    (λc o _ q n=>by rw[zau (qp (qR q))];exact n) (λc o hc q=>⟨o,k2 c o (nch c hc).1 (nch c hc).2 q⟩)
    (λc xs q=>by rw[zau (zay q hp)];exact q) (λc o v q=>by rw[zau (zay q hp)];exact q) (λc ps q=>⟨#[],by rw[zau (zay q hp),q];simp⟩) (λm hm=>?_) (λc v q=>?_) I.bare
   ·rcases qP.mp hb with rfl|hb
    ·exact⟨fe.2.2.2.1,fe.2.1,fe.2.2.2.2.1,fe.2.2.2.2.2⟩
    ·have z:c=it:=by simpa using hb
     subst z
     exact⟨fi.2.2.2.1,fi.2.1,fi.2.2.2.2.1,fi.2.2.2.2.2⟩
   ·obtain⟨o,es,ep,ho,r⟩:=hm
    exact⟨o,es,ep,k2 _ o (qAs fe.2.1) (qAs fi.2.1) ho,r⟩
   ·by_cases hb:c=s.heap.objs.size
    ·subst hb
     rw[zap]at q
     cases q
     exact⟨by show 2<=qZ;decide,[.int i tk,u'],.cons ⟨_,rfl⟩ (.cons ru .nil),_,t2,rfl,_,rfl⟩
    ·rw[zau hb]at q
     have nt:∀c w',H c=some w'->c≠e/\c≠it:=λc w' z=>⟨(λy=>by rw[y,fe.1]at z;cases z),(λy=>by rw[y,fi.1]at z;cases z)⟩
     refine(I.hok c v q).stay (λc w' hc r=>?_) (λc r=>by rw[zau (zay r hp)];exact r) λc ys r=>by rw[zau (zay r hp)];exact r
     rcases hc with rfl|hc
     ·exact k2 c w' (nt c v q).1 (nt c v q).2 r
     ·exact k2 c w' (nt c _ hc).1 (nt c _ hc).2 r
  ·exact i1.1.moved λo q=>(sb2.2 _ (qAs hne)).trans q
  ·rcases qP.mp hb with rfl|hb
   ·rw[zau hes];exact fe.1
   ·have z:c=it:=by simpa using hb
    subst z
    obtain⟨o,q1,_⟩:=hit.obj
    rw[zau (qp (qR q1))]
    exact fi.1
 done:=by
  intro X hP hw hK hc i pins s σ H E I hf st hg
  subst hP hw hK
  obtain⟨xs,hq,hx⟩:=hg
  obtain⟨its,rv,p,hz⟩:=I.sq hq
  obtain⟨hit,old,he⟩:=st
  obtain⟨f0,f1,f2,f3,f4,f5⟩:=hf it (by simp)
  have hl:=rv.length
  have hT:s.TypeIs (.ref e) "enumerate":=⟨_,he,rfl⟩
  unfold pyNext
  refine qG (wpAny_attempt (qA1 (name:=Str.ofString "__next__") hT F.slot_enumerate_next (qBM F.slot_enumerate_next hT F.entry_enumerate_next ?_ (F.args_enumerate_next_1 _))))
  show wpAny _ _ (field (.ref e) 2 >>=_) _ _ _
  refine qG (qAq he rfl (x:=.ref it) rfl ?_)
  refine qG (zaab (by exact I.ok.hd hc) hit p (by simp;omega) λh' x he' hx'=>?_)
  obtain⟨o,ho,hcl⟩:=hx'
  refine qG (wpAny_isInstance (T:="StopIteration") (b:=true) ⟨o,ho,hcl⟩ isSubtype_stop (qi ⟨rfl,?_⟩))
  exact I.turned (t':=s.toks) (λc o hb q=>he' c o hb q) f0 f1 f3 f4 f5
 self:=λ_ _ _ _ _ st h=>let⟨_,q⟩:=st.2;wpAny_pyIter_enum q h
noncomputable def iEnumX(K:qC)(ta:TA):TI:=λσ H R=>ta σ H λvs H1=>∃b a,vs=[.ref a]/\(∃xs,SqX b K H1 a xs)/\R (Itx K b a) H1
theorem zaio{X:Cx}{K:qC}(hK:X.K=K){a:Expr}{ta:TA}{p pos:Pos}{elts:List Expr}{x1}{tpos:Pos}(hg:Gl X "enumerate")(hm:X.mg "enumerate"=none)(ha:PA X [a] ta)(hs:starEach [a] X.env=[(false,eval a X.env)]:=by rfl) :
  PI X (.Tuple elts x1 tpos) (.Call (.Name "enumerate" p) [a] [] pos) (iEnumX K ta):=by
 subst hK
 intro pins s σ H R I h
 refine Call_ (zrh I hg hm boot_enumerate (qBB (thn (ha pos pins s σ H _ I h) λus s1 ⟨vs,H1,I1,r1,q1⟩=>?_) hs rfl))
 obtain⟨b,l,rfl,⟨xs,hq⟩,q⟩:=q1
 obtain⟨u,rfl,ru⟩:=zabe r1
 cases ru
 obtain⟨its,rv,pl,hz⟩:=I1.sq hq
 have lt:=zeo.there pl
 refine zvg pl λh' he hit hk=>wpAny_pyIter_enum he ?_
 have I2:Inv X pins σ H1 {s1 with heap:=h'}:=I1.kept (t':=s1.toks) hk
 refine⟨s1.heap.objs.size+1,[s1.heap.objs.size+1,s1.heap.objs.size],_,_,H1,rfl,I2,zabo l _ _ (Nat.succ_ne_self _) (qBn (Nat.lt_succ_of_lt lt)) (qp lt),⟨hit,_,he⟩,λc hb=>?_,q⟩
 rcases qP.mp hb with rfl|hb
 ·exact I1.fpOk (Nat.le_succ _) (I1.hok.fresh (Nat.le_succ _))
 ·have e:c=s1.heap.objs.size:=by simpa using hb
  subst e
  exact I1.fpOk (qO _) (I1.hok.fresh (qO _))
noncomputable def zrp(f:AF):IF':=λenv=>(f env).bind λrs=>match rs with
 | [r]=>(zfp r.d).map λds=>(zmq ds,r.bs)
 | _=>none
theorem zaac{K:qC}{ta:TA}{f:AF}(h1:SA ta f):SI (iEnumX K ta) (zrp f):=by
 intro fx H0 env σ H h ds bs e R q
 unfold zrp at e
 obtain⟨rs,er,e⟩:=qA.mp e
 split at e
 ·rename_i r
  obtain⟨d1,ed1,e⟩:=qE.mp e
  cases e
  refine h1 fx H0 env σ H h _ er _ λvs H1 s hv=>?_
  cases hv with
  | cons hv t=>
   cases t
   obtain⟨b,a,xs,rfl,r1,e1⟩:=zaei (K:=K) (Rp.same (Offs.sub (zfb (bs:=r.bs))) _ hv.rp) ed1
   refine⟨b,a,rfl,⟨xs,e1 _ H1 (Same.refl _)⟩,q _ H1 s ?_⟩
   intro A H' hA ss
   have q1:=e1 A H' ss
   have r1':=Rps.same ss _ r1
   have hl:(zmq d1).length=d1.length:=by unfold zmq;simp
   refine⟨λi d e=>?_,⟨xs,q1,by rw[hl,r1.length];exact qO _⟩⟩
   unfold zmq at e
   rw[qS,qCw]at e
   cases e0:d1[i]? with
   | none=>rw[e0]at e;cases e
   | some d0=>
    rw[e0]at e
    obtain⟨v,hv,rv⟩:=r1'.get2 e0
    have e:PyData.tuple [.int ((0+i:Nat):Int),d0]=d:=qe e
    rw[qBm]at e
    subst e
    refine⟨⟨xs,v,q1,hv⟩,λx H'' y=>?_⟩
    obtain⟨p,y',rfl,hp,rfl,y⟩:=y
    have:=y xs q1
    rw[hv]at this
    cases this
    exact⟨Same.new hp,zph hp (zeu hA hp) (zdk zai (zdk rv zdm))⟩
 ·cases e
theorem zaek{K:qC}{ta:TA}{f:AF}(h1:SA ta f):SI (iEnumX K ta) (zlp f):=λfx H0 env σ H h ds bs e R q=>
 zaac h1 fx H0 env σ H h ds bs (by
  unfold zlp at e
  unfold zrp
  obtain⟨rs,er,e⟩:=qA.mp e
  rw[er]
  cases rs with
  | nil=>cases e
  | cons r t=>
   cases t with
   | nil=>
    obtain⟨d,fr,b⟩:=r
    cases d<;>first|exact e|cases e
   | cons _ _=>cases e) R q
noncomputable def isStar:Expr->Bool
 | .Starred ..=>true
 | _=>false
theorem zav(h:isStar e=false):starEach (e::es) env=(false,eval e env)::starEach es env:=by
 cases e<;>first
  | rfl
  | cases h
theorem zaip(ha:PE X e te)(hr:PA X es t)(hs:isStar e=false:=by rfl):PA X (e::es) (tCons te t):=zox ha hr (zav hs)
end L2
namespace PySem.SeqAt
open AutoSeq1 (wpAny_loadPart')
open MeetsSeq PyProof.Rows
end PySem.SeqAt
namespace L2
open PySem PySem.Spec PyProof.Rows
structure Bx(p:Prop):Prop where
 out:p
theorem Bx.pt(h:Bx (PW X e t)):Bx (PT X e t):=⟨h.out.pt⟩
theorem zae:Bx (PE X (qk.Constant (Const.int i) j pos) (tC (V.int i))):=⟨zgs⟩
theorem zac:Bx (PA X [] tNil):=⟨zrk⟩
theorem zael(ha:Bx (PE X e te))(hr:Bx (PA X es t))(hs:L2.isStar e=false):Bx (PA X (e::es) (tCons te t)):=⟨zaip ha.out hr.out hs⟩
theorem zan{a b:qk}(ho:OpR X (PySem.binaryOp op) r)(ha:Bx (PE X a ta))(hb:Bx (PE X b tb)):Bx (PE X (a.BinOp op b pos) (tOp r ta tb)):=⟨zju ho ha.out hb.out⟩
theorem zaf{X:Cx}{st:Stmt}{t:TS}(h1:Bx (PS X st t)):Bx (PSs X [st] t):=⟨zmi h1.out⟩
theorem zad{X:Cx}{st:Stmt}{rest:List Stmt}{t u:TS}(h1:Bx (PS X st t))(h2:Bx (PSs X rest u)):Bx (PSs X (st::rest) (L2.tSeq t u)):=⟨zld h1.out h2.out⟩
theorem zaqf {X:Cx} {x:Str} (D:L2.Dn X.prog X.w X.K X.mg X.base x ps k sp) (hr:L2.Room k X.A) (hg:Gl X x) (ha:Bx (PA X (e::es) t)) (hdb:(x==qq "__debug__")=false) (he:qAI (e::es) X.env=(false,eval e X.env)::qAI es X.env) (hpl:((backTo pos (qAI es X.env)).any λ(x:Bool×PySem.Sem Value)=>x.fst)=false):Bx (PE X ((qk.Name x p).Call (e::es) [] pos) (L2.tCall sp [] L2.E0 t)):=⟨zarv D hr hg ha.out hdb he hpl⟩
theorem zba(he:Bx (PE X e te)):Bx (PS X (Stmt.Return (some e) pos) (L2.tRet te)):=⟨zakb he.out⟩
theorem zamu{X:Cx}{pos:qAf}(hN:X.N.Nodup)(hi:X.N[i]?=some x)(hx:L2.Loc X.env.scope x)(he:Bx (PE X e te))(hs:swapsWith e (some (qk.Name x pos')) pos.line X.env=Pure.pure false)(hf:X.fn x=true\/List.lookup x X.env.scope.names=some PySem.NameKind.local):Bx (PS X (Stmt.Assign [qk.Name x pos'] e pos) (tAsg te (gName i))):=⟨zzj hN hi hx he.out hs hf⟩
theorem zaem {X:Cx} {x:Str} {p pos:qAf} {e:qk} {es:List qk} {t:TA} {id:String} {r:List V->Hp->VK->Prop} (hc:CallR X (Value.builtin id) r) (hg:Gl X x) (hm:X.mg x=none) (hv:PySem.bootBuiltins x=some (Value.builtin id)) (ha:Bx (PA X (e::es) t)) (hn:x≠qq "__name__") (hdb:(x==qq "__debug__")=false) (he:qAI (e::es) X.env=(false,eval e X.env)::qAI es X.env) (hpl:((backTo pos (qAI es X.env)).any λ(x:Bool×PySem.Sem Value)=>x.fst)=false):Bx (PE X ((qk.Name x p).Call (e::es) [] pos) (tCB r t)):=⟨zzk hc hg hm hv ha.out hn hdb he hpl⟩
theorem zjz:Bx (PE X (qk.Constant (Const.bool b) j pos) (tC (V.bl b))):=⟨zarl⟩
theorem zaqg{a b:qk}(hr:IxR X r)(ha:Bx (PE X a ta))(hb:Bx (PE X b tb))(hs:L2.PlainIx b):Bx (PE X (a.Subscript b pos) (tOp r ta tb)):=⟨zapa hr ha.out hb.out hs⟩
theorem zdp(hc:Bx (PT X c tc))(ha:Bx (PSs X a t))(hb:Bx (PSs X b u)):Bx (PS X (Stmt.If c a b pos) (L2.tIfS tc t u)):=⟨zaoq hc.out ha.out hb.out⟩
theorem zcl:Bx (PSs X [] L2.tNext):=⟨zalk⟩
theorem zge(ha:Bx (PT X a tA)):Bx (PT X (qk.UnaryOp UnaryOp.Not a pos) (L2.tNot tA)):=⟨zaon ha.out⟩
theorem zbq:∀{X:Cx}{K:qC},
 X.K=K->
  ∀{a:qk}{ta:TE},
   Bx (PE X a ta)->
    (∀(whole:PySem.Sem Value),
      PySem.isTrue a X.env whole=do
       let v <- whole
       PySem.standAt a.pos
       PySem.holding [v] (PySem.truthy v))->
     Bx (PT X a λ(σ:L2.St)(H:Hp)(Q:Bool->Hp->Prop)=>ta σ H λ(x:V)(H':Hp)=>∃(k:Bool),L2.TruV K x H' k/\Q k H'):=by
 intro X K hK a ta ha he
 exact⟨zaeb hK ha.out he⟩
theorem zaiq{X:Cx}(hN:X.N.Nodup)(hi:X.N[i]?=some x)(hx:L2.Loc X.env.scope x)(hf:X.fn x=true\/List.lookup x X.env.scope.names=some PySem.NameKind.local):Bx (PG X (qk.Name x pos) (gName i)):=⟨zxl hN hi hx hf⟩
theorem zeh(h:Bx (PA X es t)):Bx (PE X (qk.List es pos) (tLst t)):=⟨zakd h.out⟩
theorem zdq{X:Cx}(hp:PySem.PassesOwn (PySem.model X.prog X.w) X.A X.env X.xe)(hc:X.calm=true)(hi:Bx (PI X tg iter wi))(hg:Bx (PG X tg g))(hb:Bx (PSs X body tb))(hs:(∀(x:Value),foldedSetIterable iter X.env x=Pure.pure x)):Bx (PS X (Stmt.For tg iter body [] pos) (L2.tFor wi g tb)):=⟨zacl hp hc hi.out hg.out hb.out hs⟩
theorem zcw{a b:qk}(ho:OpR X (PySem.compareOp op) r)(ha:Bx (PE X a ta))(hb:Bx (PE X b tb))(hm:behindInMarks op b=false):Bx (PT X (a.Compare [op] [b] pos) (L2.tTest (tOp r ta tb))):=⟨zaco ho ha.out hb.out hm⟩
theorem zin:Bx (PE X (qk.Constant (Const.str x) j pos) (tC (V.str x))):=⟨zaoj⟩
theorem zbm{X:Cx}{pos:qAf}(he:Bx (PE X e te))(hs:swapsWith e none pos.line X.env=Pure.pure false):Bx (PS X (Stmt.Expr e pos) (L2.tDrop te)):=⟨zxk he.out hs⟩
theorem zgf(h:Bx (PA X es t)):Bx (PE X (qk.Tuple es x1 pos) (tTup t)):=⟨zaox h.out⟩
theorem zyc(h:Bx (PE X a t)):Bx (PE X (qk.BoolOp op [a] pos) t):=⟨zaoo h.out⟩
theorem zls{a b:qk}(ho:OpR X (PySem.compareOp op) r)(ha:Bx (PE X a ta))(hb:Bx (PE X b tb))(hm:behindInMarks op b=false):Bx (PE X (a.Compare [op] [b] pos) (tOp r ta tb)):=⟨zalp ho ha.out hb.out hm⟩
theorem zabp {X:Cx} {x:Str} {r:List V->Hp->VK->Prop} (hc:CallR X (Value.type T) r) (hg:Gl X x) (hm:X.mg x=none) (hv:PySem.bootBuiltins x=some (Value.type T)) (ha:Bx (PA X (e::es) t)) (hn:x≠qq "__name__") (hdb:(x==qq "__debug__")=false) (he:qAI (e::es) X.env=(false,eval e X.env)::qAI es X.env) (hpl:((backTo pos (qAI es X.env)).any λ(x:Bool×PySem.Sem Value)=>x.fst)=false):Bx (PE X ((qk.Name x p).Call (e::es) [] pos) (tCB r t)):=⟨zacu hc hg hm hv ha.out hn hdb he hpl⟩
theorem zou{X:Cx}(hg:Gl X x)(hm:X.mg x=none)(hv:PySem.bootBuiltins x=some u)(r:L2.RelV v u)(hn:x≠qq "__name__")(hd:(x==qq "__debug__")=false):Bx (PE X (qk.Name x pos) (tC v)):=⟨zali hg hm hv r hn hd⟩
theorem zsz(ha:Bx (PT X a tA)):Bx (PW X (qk.BoolOp BoolOp.Or [a] pos) tA):=⟨zaol ha.out⟩
theorem zaad {X:Cx} {a b:qk} {pos:qAf} {tA tB':TT} {rest:List qk} (ha:Bx (PT X a tA)) (hb:Bx (PW X (qk.BoolOp BoolOp.Or (b::rest) pos) tB')):Bx (PW X (qk.BoolOp BoolOp.Or (a::b::rest) pos) (L2.tOr tA tB')):=⟨zarm ha.out hb.out⟩
theorem zcx(h:Bx (PE X e te)):Bx (PO X (some e) (tPart te)):=⟨zacw h.out⟩
theorem zgu:Bx (PO X none L2.tNoPart):=⟨zacv⟩
theorem zdg{X:Cx}{e:qk}{te:TE}{lo hi:Option qk}{tl th:TO}{pos p2:qAf}{r:V->Option Int->Option Int->Hp->VK->Prop}(hr:SlR X r)(he:Bx (PE X e te))(hl:Bx (PO X lo tl))(hu:Bx (PO X hi th)):Bx (PE X (e.Subscript (qk.Slice lo hi none p2) pos) (L2.tSl r te tl th)):=⟨zzl hr he.out hl.out hu.out⟩
theorem zcf {X:Cx} {scope:Scope} {N' own:List Str} {fr:List Nat} {elt target iter:qk} {ifs:List qk} {cpos:qAf} {wi:TI} {g:TG} {tt:TT} {te:TE} (c:CompOk X scope N' own fr) (hc:X.calm=true) (hi:Bx (PI X target iter wi)) (hb:(∀(cl:List (Str×Addr))(C:Addr)(s:Shared)(H:Hp)(fp:List Addr),PG (cxComp X scope N' own cl C s H fp) target g/\PF (cxComp X scope N' own cl C s H fp) ifs tt/\PE (cxComp X scope N' own cl C s H fp) elt te)) (hs:(∀(x:Value),foldedSetIterable iter X.env x=Pure.pure x)):Bx (PE X (elt.ListComp [{target:=target,iter:=iter,ifs:=ifs,is_async:=0}] scope cpos) (L2.tComp1 wi g tt te own fr)):=⟨zahs c hc hi.out hb hs⟩
theorem zcq {X:Cx} {K:qC} (hK:X.K=K) {T:String} {name:Str} {id:String} {r:V->List V->Hp->VK->Prop} {o e:qk} {es:List qk} {to:TE} {t:TA} {apos cpos:qAf} (pa:PySem.PlainAttrs T) (slot:PySem.Slot T name id) (hty:PySem.typeOf (Value.builtin id)=Pure.pure (Value.type "method_descriptor")) (hm:MtR X id r) (ho:Bx (PE X o to)) (ha:Bx (PA X (e::es) t)) (hbase:PySem.attributeBase o name X.env (eval o X.env)=eval o X.env) (hfew:((((backTo cpos (qAI (e::es) X.env)).all λ(x:Bool×PySem.Sem Value)=>!x.fst)&&(PySem.backToKw cpos (PySem.keywordEach [] X.env)).all λ(x:Option Str×PySem.Sem Value)=>x.fst.isSome)&&Decidable.decide (((e::es).length+([]:List Keyword).length+if([]:List Keyword).isEmpty=true then 0 else 1)<30))=true) (hline:(apos.endLine==cpos.line)=true) (hs:qAI (e::es) X.env=(false,eval e X.env)::qAI es X.env) (hplain:((backTo cpos (qAI es X.env)).any λ(x:Bool×PySem.Sem Value)=>x.fst)=false):Bx (PE X ((o.Attribute name apos).Call (e::es) [] cpos) (L2.tBM K T r to t)):=⟨zado hK pa slot hty hm ho.out ha.out hbase hfew hline hs hplain⟩
theorem zyd {X:Cx} {a b:qk} {ta tb:TE} {pos:qAf} {rest:List qk} (ha:Bx (PE X a ta)) (hb:Bx (PE X (qk.BoolOp BoolOp.And (b::rest) pos) tb)):Bx (PE X (qk.BoolOp BoolOp.And (a::b::rest) pos) (L2.tAndV ta tb)):=⟨zaop ha.out hb.out⟩
theorem zair:Bx (PPs X pos [] [] []):=⟨zama⟩
theorem zaen(hk:Bx (PE X k tk))(hv:Bx (PE X v tv))(hr:Bx (PPs X pos ks vs trs)):Bx (PPs X pos (some k::ks) (v::vs) ((tk,tv)::trs)):=⟨zahn hk.out hv.out hr.out⟩
theorem zaw{X:Cx}{K:qC}(hK:X.K=K){tg l:qk}{tl:TE}(hl:Bx (PE X l tl)):Bx (PI X tg l (L2.iSeq K tl)):=⟨zamq hK hl.out⟩
theorem zjo{X:Cx}(hg:Gl X (qq "range"))(hm:X.mg (qq "range")=none)(ha:Bx (PA X [a] ta))(hs:qAI [a] X.env=[(false,eval a X.env)]):Bx (PI X tg ((qk.Name (qq "range") p).Call [a] [] pos) (L2.iRng1 ta)):=⟨zui hg hm ha.out hs⟩
theorem zdd:Bx (PF X [] L2.tAll):=⟨zapk⟩
theorem zpo:Bx (PE X (qk.Dict [] [] pos) L2.tDNewK):=⟨zahm⟩
theorem zais{keys:List (Option qk)}{values:List qk}(h:Bx (PPs X pos keys values trs))(hall:(keys.all λ(x:Option qk)=>x.isSome)=true)(hl:keys.length=values.length)(h0:keys≠[])(h15:keys.length<=15):Bx (PE X (qk.Dict keys values pos) (L2.tDisp trs)):=⟨zamb h.out hall hl h0 h15⟩
theorem zta(h:Bx (PT X c t)):Bx (PF X [c] t):=⟨zapl h.out⟩
theorem zjp{X:Cx}{o i:qk}(hu:X.A.units+1<PySem.cLine)(ho:Bx (PE X o td))(hi:Bx (PE X i ty))(hs:L2.NoSl i):Bx (PE X (o.Subscript i pos) (L2.tDGet td ty)):=⟨zaly hu ho.out hi.out hs⟩
theorem zait(ha:Bx (PT X a tA)):Bx (PW X (qk.BoolOp BoolOp.And [a] pos) tA):=⟨zalj ha.out⟩
theorem zamv {X:Cx} {a b:qk} {pos:qAf} {tA tB':TT} {rest:List qk} (ha:Bx (PT X a tA)) (hb:Bx (PW X (qk.BoolOp BoolOp.And (b::rest) pos) tB')):Bx (PW X (qk.BoolOp BoolOp.And (a::b::rest) pos) (L2.tAnd tA tB')):=⟨zaom ha.out hb.out⟩
theorem zvh{X:Cx}{st:Stmt}:Bx (PS X st L2.tNever):=⟨zahc⟩
theorem zaae{X:Cx}{o i value:qk}{pos pos':qAf}(hu:X.A.units+1<PySem.cLine)(ho:Bx (PE X o td))(hi:Bx (PE X i ty))(hv:Bx (PE X value tv))(hs:swapsWith value (some (o.Subscript i pos')) pos.line X.env=Pure.pure false):Bx (PS X (Stmt.Assign [o.Subscript i pos'] value pos) (L2.sDPut td ty tv)):=⟨zalz hu ho.out hi.out hv.out hs⟩
theorem zio {X:Cx} {scope:Scope} {N' own:List Str} {fr:List Nat} {elt target iter:qk} {ifs:List qk} {cpos:qAf} {wi:TI} {g:TG} {tt:TT} {te:TE} {spos py:qAf} {i:Nat} {y:Str} (c:CompOk X scope N' own fr) (hc:X.calm=true) (hi:Bx (PI X target iter wi)) (hb:(∀(cl:List (Str×Addr))(C:Addr)(s:Shared)(H:Hp)(fp:List Addr),PG (cxComp X scope N' own cl C s H fp) target g/\PF (cxComp X scope N' own cl C s H fp) ifs tt/\PE (cxComp X scope N' own cl C s H fp) elt te)) (hsw:swapsWith (elt.ListComp [{target:=target,iter:=iter,ifs:=ifs,is_async:=0}] scope cpos) (some (qk.Name y py)) spos.line X.env=Pure.pure true) (hN:X.N.Nodup) (hy:X.N[i]?=some y) (hl:List.lookup y X.env.scope.names=some PySem.NameKind.local) (hs:(∀(x:Value),foldedSetIterable iter X.env x=Pure.pure x)):Bx (PS X (Stmt.Assign [qk.Name y py] (elt.ListComp [{target:=target,iter:=iter,ifs:=ifs,is_async:=0}] scope cpos) spos) (L2.tAsgC1 wi g tt te own fr i)):=⟨zaht c hc hi.out hb hsw hN hy hl hs⟩
theorem zamw {X:Cx} {pos:qAf} (he:Bx (PE X e te)) (hg:Bx (PG X tg g)) (hs:PySem.swapsWithSole [tg] e pos.line X.env=Pure.pure false) (hw:PySem.swappedStores [tg] e X.env=Pure.pure none) (h1:List.map (λ(x:Bool×(Value->PySem.Sem Unit))=>x.snd) (assignEach [tg] X.env)=[assign tg X.env]):Bx (PS X (Stmt.Assign [tg] e pos) (tAsg te g)):=⟨zaos he.out hg.out hs hw h1⟩
theorem zaeo {X:Cx} {K:qC} (hK:X.K=K) {a b:qk} {ta:TA} {p pos:qAf} {elts:List qk} {x1:Nat} {tpos:qAf} (hg:Gl X (qq "zip")) (hm:X.mg (qq "zip")=none) (ha:Bx (PA X [a,b] ta)) (hs:qAI [a,b] X.env=(false,eval a X.env)::qAI [b] X.env) (hs2:((backTo pos (qAI [b] X.env)).any λ(x:Bool×PySem.Sem Value)=>x.fst)=false):Bx (PI X (qk.Tuple elts x1 tpos) ((qk.Name (qq "zip") p).Call [a,b] [] pos) (L2.iZip K ta)):=⟨zaqc hK hg hm ha.out hs hs2⟩
theorem zlt{X:Cx}{K:qC}(hK:X.K=K){a:qk}{ta:TA}{p pos:qAf}{elts:List qk}{x1:Nat}{tpos:qAf}(hg:Gl X (qq "enumerate"))(hm:X.mg (qq "enumerate")=none)(ha:Bx (PA X [a] ta))(hs:qAI [a] X.env=[(false,eval a X.env)]):Bx (PI X (qk.Tuple elts x1 tpos) ((qk.Name (qq "enumerate") p).Call [a] [] pos) (L2.iEnumX K ta)):=⟨zaio hK hg hm ha.out hs⟩
theorem zcm:Bx (PGs X [] L2.gNil):=⟨zall⟩
theorem zao {X:Cx} (h1:Bx (PG X e t)) (h2:Bx (PGs X es u)) (hs:List.map (λ(x:Bool×(Value->PySem.Sem Unit))=>x.snd) (assignEach (e::es) X.env)=assign e X.env::List.map (λ(x:Bool×(Value->PySem.Sem Unit))=>x.snd) (assignEach es X.env)):Bx (PGs X (e::es) (L2.gCons t u)):=⟨zahd h1.out h2.out hs⟩
theorem zcn {X:Cx} {K:qC} (hK:X.K=K) {es:List qk} {k:Nat} {t:TGs} {n:Nat} {pos:qAf} (hc:X.calm=true) (h:Bx (PGs X es t)) (hn:(assignEach es X.env).length=n) (hst:List.findIdx? (λ(x:Bool×(Value->PySem.Sem Unit))=>x.fst) (assignEach es X.env)=none):Bx (PG X (qk.Tuple es k pos) (L2.gTup K n t)):=⟨zamf hK hc h.out hn hst⟩
theorem zaep {X:Cx} {scope:Scope} {N' own:List Str} {fr:List Nat} {elt target iter target2 iter2:qk} {ifs ifs2:List qk} {cpos:qAf} {wi wi2:TI} {g g2:TG} {tt tt2:TT} {te:TE} (c:CompOk X scope N' own fr) (hc:X.calm=true) (hi:Bx (PI X target iter wi)) (hb:(∀(cl:List (Str×Addr))(C:Addr)(s:Shared)(H:Hp)(fp:List Addr),PG (cxComp X scope N' own cl C s H fp) target g/\PF (cxComp X scope N' own cl C s H fp) ifs tt/\PI (cxComp X scope N' own cl C s H fp) target2 iter2 wi2/\PG (cxComp X scope N' own cl C s H fp) target2 g2/\PF (cxComp X scope N' own cl C s H fp) ifs2 tt2/\PE (cxComp X scope N' own cl C s H fp) elt te)) (hs:(∀(x:Value),foldedSetIterable iter X.env x=Pure.pure x)) (hs2:(∀(env:PySem.Env)(x:Value),foldedSetIterable iter2 env x=Pure.pure x)):Bx (PE X (elt.ListComp [{target:=target,iter:=iter,ifs:=ifs,is_async:=0},{target:=target2,iter:=iter2,ifs:=ifs2,is_async:=0}] scope cpos) (L2.tComp2 wi g tt wi2 g2 tt2 te own fr)):=⟨zaif c hc hi.out hb hs hs2⟩
theorem zaaf{X:Cx}{K:qC}(hK:X.K=K){T:String}{name:Str}{id:String}{r:V->List V->Hp->VK->Prop}{o:qk}{to:TE}{apos cpos:qAf}(pa:PySem.PlainAttrs T)(slot:PySem.Slot T name id)(hty:PySem.typeOf (Value.builtin id)=Pure.pure (Value.type "method_descriptor"))(hm:MtR X id r)(ho:Bx (PE X o to))(hbase:PySem.attributeBase o name X.env (eval o X.env)=eval o X.env)(hline:(apos.endLine==cpos.line)=true):Bx (PE X ((o.Attribute name apos).Call [] [] cpos) (L2.tBM0 K T r to)):=⟨zamt hK pa slot hty hm ho.out hbase hline⟩
theorem zaeq{X:Cx}(hu:X.A.units+1<PySem.cLine)(hi:Bx (PE X i ty))(ho:Bx (PE X o td)):Bx (PC X CmpOp.In i o (L2.tDIn ty td)):=⟨zapi hu hi.out ho.out⟩
theorem zaer{a b:qk}(h:Bx (PC X op a b t))(h1:behindInMarks op b=false):Bx (PE X (a.Compare [op] [b] pos) t):=⟨zaok h.out h1⟩
theorem bv{X:Cx}(i:Nat)(hN:X.N[i]?=some x:=by rfl)(hv:visB X.env.scope x=true:=by rfl)(hd:(x==("__debug__":Str))=false:=by decide)
  (hcd:(x==("__classdict__":Str))=false:=by decide):Bx (PE X (.Name x pos) (tVar i)):=⟨zaka hN (visB.of hv) hd hcd⟩
noncomputable def SatK(fx:Addr->Prop)(H0:Hp)(J:Nat->Prop)(σ0:St)(D:Ends):Out->Prop
 | .nx env=>∀σ H,EnvOk fx H0 env σ H->(∀j,J j->σ[j]?=σ0[j]?)->D.nx σ H
 | .bk env=>∀σ H,EnvOk fx H0 env σ H->(∀j,J j->σ[j]?=σ0[j]?)->D.bk σ H
 | .ct env=>∀σ H,EnvOk fx H0 env σ H->(∀j,J j->σ[j]?=σ0[j]?)->D.ct σ H
 | .rt d fr=>∀v H,Same H0 H->zabk fx H0 d fr v H->D.rt v H
noncomputable def SSk(J:Nat->Prop)(ts:TS)(F:SF):Prop:=∀(fx:Addr->Prop)(H0:Hp)(env:DEnv)(σ:St)(H:Hp)(D:Ends),EnvOk fx H0 env σ H->∀o,F env=some o->SatK fx H0 J σ D o->ts D σ H
section
variable{J:Nat->Prop}
theorem zhn(h1:SE te f)(hJ:¬J i):SSk J (tAsg te (gName i)) (sSet i f):=by
 intro fx H0 env σ H D h o e q
 unfold sSet at e
 obtain⟨r,er,rfl⟩:=qE.mp e
 exact h1 fx H0 env σ H h r er _ λv H' s hv=>q _ H' (h.put s hv i) λj hj=>qY λz=>hJ (by rw[z];exact hj)
noncomputable def SGk(J:Nat->Prop)(g:TG)(f:GT):Prop:=∀(fx:Addr->Prop)(H0:Hp)(env:DEnv)(σ:St)(H:Hp)(d:PyData)(v:V),EnvOk fx H0 env σ H->Rp (Offs (λa=>fx a\/own env σ a) H) d v->∀env',f d env=some env'->∀Q:St->Hp->Prop,
 (∀σ',EnvOk fx H0 env' σ' H->(∀j,J j->σ'[j]?=σ[j]?)->Q σ' H)->g v σ H Q
end
end L2
namespace HT
open PySem PySem.Spec PyProof.Rows L2
end HT
namespace L2
open PySem PySem.Spec PyProof.Rows
end L2
namespace PySem
open Sem (wp)
end PySem
namespace L2
open PySem PySem.Spec PyProof.Rows
end L2
namespace PySem
open Sem (wp)
end PySem
namespace L2
open PySem PySem.Spec PyProof.Rows
section
variable{J:Nat->Prop}{f:Nat}
noncomputable def SGks(J:Nat->Prop)(g:TGs)(f:GTs):Prop:=∀(fx:Addr->Prop)(H0:Hp)(env:DEnv)(σ:St)(H:Hp)(ds:List PyData)(vs:List V),EnvOk fx H0 env σ H->Rps (Offs (λa=>fx a\/own env σ a) H) ds vs->∀env',f ds env=some env'->∀Q:St->Hp->Prop,
 (∀σ',EnvOk fx H0 env' σ' H->(∀j,J j->σ'[j]?=σ[j]?)->Q σ' H)->g vs σ H Q
theorem zaiu:SGks J gNil zbw:=by
 intro fx H0 env σ H ds vs h r env' e Q q
 cases ds with
 | nil=>cases e;unfold Rps at r;exact⟨r,q _ h λ_ _=>rfl⟩
 | cons _ _=>cases e
theorem zvi(hJ:¬J i)(h1:SGks J t g):SGks J (gCons (gName i) t) (zag i g):=by
 intro fx H0 env σ H ds vs h r env' e Q q
 cases ds with
 | nil=>cases e
 | cons d ds=>
  unfold Rps at r
  obtain⟨v,ws,rfl,r1,r2⟩:=r
  refine⟨v,ws,rfl,h1 fx H0 (env.set i (.pl d)) _ H ds ws (h.setPl i r1) (Rps.same (Offs.sub λb z=>z.imp (λy=>y) (zxz b)) _ r2) env' e Q λσ' k1 k2=>q σ' k1 λj hj=>(k2 j hj).trans (qY λz=>hJ (by rw[z];exact hj))⟩
theorem zamx{K:qC}{n:Nat}{t:TGs}{g:GTs}(h1:SGks J t g):SGk J (gTup K n t) (gT n g):=by
 intro fx H0 env σ H d v h r env' e Q q
 unfold gT at e
 cases d with
 | tuple ds=>
  have e:(if ds.length=n then g ds env else none)=some env':=e
  split at e
  ·rename_i hn
   obtain⟨a,xs,rfl,ha,rs⟩:=zdt r
   exact⟨a,xs,rfl,SqT.of (zdn ha),by rw[<- rs.length];exact hn,h1 fx H0 env σ H ds xs h rs env' e Q q⟩
  ·cases e
 | _=>cases e
end
section
variable{X:Cx}
theorem bpaC(h1:Bx (PE X e te))(h2:Bx (PA X es t))(h3:isStar e=false:=by rfl):Bx (PA X (e::es) (tCons te t)):=zael h1 h2 h3
theorem bpeD{x:Str}(D:Dn X.prog X.w X.K X.mg X.base x ps k sp)(hr:Room m X.A)(ha:Bx (PA X (e::es) t))(hm:k<=m:=by decide)(hg:Gl X x:=by rfl)(hd:(x==("__debug__":Str))=false:=by decide)
  (hs:isStar e=false:=by rfl) (hp:((backTo pos (starEach es X.env)).any λx=>x.1)=false:=by rfl):Bx (PE X (.Call (.Name x p) (e::es) [] pos) (tCall sp [] E0 t)):=zaqf D (hr.mono hm) hg ha hd (zav hs) hp
theorem bpeB{x:Str}{p pos:Pos}{e:Expr}{es:List Expr}{t:TA}{id:String}{r:List V->Hp->VK->Prop}(hc:CallR X (.builtin id) r)(hm:X.mg x=none)(hb:bootBuiltins x=some (.builtin id))(ha:Bx (PA X (e::es) t))(hg:Gl X x:=by rfl)(h1:x≠("__name__":Str):=by decide)(h2:(x==("__debug__":Str))=false:=by decide)
  (hs:isStar e=false:=by rfl) (hp:((backTo pos (starEach es X.env)).any λx=>x.1)=false:=by rfl):Bx (PE X (.Call (.Name x p) (e::es) [] pos) (tCB r t)):=zaem hc hg hm hb ha h1 h2 (zav hs) hp
theorem bpeT{x:Str}{r:List V->Hp->VK->Prop}(hc:CallR X (.type T) r)(hm:X.mg x=none)(hb:bootBuiltins x=some (.type T))(ha:Bx (PA X (e::es) t))(hg:Gl X x:=by rfl)(h1:x≠("__name__":Str):=by decide)(h2:(x==("__debug__":Str))=false:=by decide)
  (hs:isStar e=false:=by rfl) (hp:((backTo pos (starEach es X.env)).any λx=>x.1)=false:=by rfl):Bx (PE X (.Call (.Name x p) (e::es) [] pos) (tCB r t)):=zabp hc hg hm hb ha h1 h2 (zav hs) hp
theorem bpsS{pos:Pos}(hN:X.N.Nodup)(hi:X.N[i]?=some x)(hl:Loc X.env.scope x)(he:Bx (PE X e te))(hs:swapsWith e (some (.Name x pos')) pos.line X.env=pure false:=by rfl)(hf:X.fn x=true\/X.env.scope.names.lookup x=some .local:=by exact .inl rfl):Bx (PS X (.Assign [.Name x pos'] e pos) (tAsg te (gName i))):=zamu hN hi hl he hs hf
theorem bpeX(hr:IxR X r)(h1:Bx (PE X a ta))(h2:Bx (PE X b tb))(hp:PlainIx b:=by exact λ_ _=>rfl):Bx (PE X (.Subscript a b pos) (tOp r ta tb)):=zaqg hr h1 h2 hp
theorem bpgN(hN:X.N.Nodup)(hi:X.N[i]?=some x)(hl:Loc X.env.scope x)(hf:X.fn x=true\/X.env.scope.names.lookup x=some .local:=by first|exact .inl rfl|exact .inr rfl|assumption):Bx (PG X (.Name x pos) (gName i)):=zaiq hN hi hl hf
end
end L2
namespace PySem
open Sem (wp)
open Builtin Builtin.ObjectAttr
end PySem
namespace L2
open PySem PySem.Spec PyProof.Rows
end L2
namespace PySem
open Sem (wp)
open Builtin Builtin.ObjectAttr
end PySem
namespace L2
open PySem PySem.Spec PyProof.Rows
theorem EnvOk.kill{fx:Addr->Prop}{env:DEnv}{σ:St}(h:EnvOk fx H0 env σ H)(x:Nat)(w:Option V):EnvOk fx H0 (env.set x .no) (σ.set x w) H:=by
 have get:∀{i:Nat}{s:Sl},(env.set x .no)[i]?=some s->s≠.no->i≠x/\env[i]?=some s:=λ{i s} e ns=>by
  rcases zcp e with⟨_,z⟩|⟨ne,e⟩
  ·exact absurd z ns
  ·exact⟨ne,e⟩
 have kept:∀{i:Nat},i≠x->(σ.set x w)[i]?=σ[i]?:=λ{i} ne=>qY (qAs ne)
 have ow:∀b,own (env.set x .no) (σ.set x w) b->own env σ b:=λb ⟨i,d,h1,h2⟩=>by
  obtain⟨ne,e⟩:=get h1 (by simp)
  rw[kept ne]at h2
  exact⟨i,d,e,h2⟩
 have so:Same (Offs (λa=>fx a\/own env σ a) H) (Offs (λa=>fx a\/own (env.set x .no) (σ.set x w) a) H):=Offs.sub λb z=>z.imp id (ow b)
 refine⟨by rw[qAG,qAG];exact h.len,λi d e=>?_,λi d e=>?_,λi j d e a h1 h2 h3 h4=>?_,h.base,h.fxs⟩
 ·obtain⟨ne,e⟩:=get e (by simp)
  obtain⟨v,h1,h2⟩:=h.pl i d e
  exact⟨v,by rw[kept ne];exact h1,Rp.same so d h2⟩
 ·obtain⟨ne,e⟩:=get e (by simp)
  obtain⟨a,h1,h2,h3,h4⟩:=h.ac i d e
  exact⟨a,by rw[kept ne];exact h1,h2,h3,h4.same so λ_ z=>z⟩
 ·obtain⟨n1,h1⟩:=get h1 (by simp)
  obtain⟨n2,h2⟩:=get h2 (by simp)
  rw[kept n1]at h3
  rw[kept n2]at h4
  exact h.inj i j d e a h1 h2 h3 h4
theorem EnvOk.notOwn{fx:Addr->Prop}(h:EnvOk fx H0 env σ H)(f:fx b):¬own env σ b:=by
 rintro⟨i,d,h1,h2⟩
 obtain⟨c,g1,_,g3,_⟩:=h.ac i d h1
 rw[h2]at g1
 cases g1
 exact g3 f
inductive SV where
 | dt (d:PyData)
 | lo (n:Nat)
 | op (v:V)
inductive SN where
 | ls (xs:List SV)
 | tp (xs:List SV)
structure SyT where
 sl:List (Option SV)
 hp:List SN
open Classical in
noncomputable def OffT(A:Addr->Prop)(H:Hp):Hp:=λb=>match H b with
 | some (.tup xs)=>some (.tup xs)
 | o=>if A b then none else o
theorem OffT.tup{A:Addr->Prop}{H:Hp}{b:Addr}{xs:List V}(h:H b=some (.tup xs)):OffT A H b=some (.tup xs):=by unfold OffT;rw[h]
theorem OffT.get{A:Addr->Prop}{H:Hp}{b:Addr}(h:¬A b):OffT A H b=H b:=by
 unfold OffT
 split
 ·rename_i xs e;exact e.symm
 ·exact if_neg h
theorem OffT.of{A:Addr->Prop}{H:Hp}{b:Addr}{o:HO}(h:OffT A H b=some o):H b=some o/\(¬A b\/∃xs,o=.tup xs):=by
 unfold OffT at h
 split at h
 ·rename_i xs e;cases h;exact⟨e,.inr ⟨xs,rfl⟩⟩
 ·by_cases a:A b
  ·rw[if_pos a]at h;cases h
  ·rw[if_neg a]at h;exact⟨h,.inl a⟩
theorem OffT.mono{A B:Addr->Prop}{H H':Hp}(s:Same H H')(h:∀b o,H b=some o->¬A b->¬B b):Same (OffT A H) (OffT B H'):=λb o e=>by
 obtain⟨e1,z⟩:=OffT.of e
 rcases z with z|⟨xs,rfl⟩
 ·rw[OffT.get (h b o e1 z)];exact s b o e1
 ·exact OffT.tup (s b _ e1)
theorem OffT.grow{A:Addr->Prop}{H H':Hp}(s:Same H H'):Same (OffT A H) (OffT A H'):=OffT.mono s λ_ _ _ z=>z
theorem OffT.sub{A B:Addr->Prop}{H:Hp}(h:∀b,B b->A b):Same (OffT A H) (OffT B H):=OffT.mono (Same.refl _) λb _ _ n z=>n (h b z)
theorem OffT.offs(A:Addr->Prop)(H:Hp):Same (Offs A H) (OffT A H):=λb o e=>by
 obtain⟨n,e⟩:=Offs.of e
 rw[OffT.get n];exact e
theorem OffT.upd{A:Addr->Prop}{H:Hp}{a:Addr}{xs ys:List V}(ha:A a)(h:H a=some (.lst xs)):OffT A (upd H a (.lst ys))=OffT A H:=by
 funext b
 by_cases e:b=a
 ·subst e
  have h1:L2.upd H b (.lst ys) b=some (.lst ys):=zap
  unfold OffT
  rw[h1,h]
  dsimp only
  rw[if_pos ha,if_pos ha]
 ·have h1:L2.upd H a (.lst ys) b=H b:=zau e
  unfold OffT
  rw[h1]
noncomputable def SVr(Ho:Hp)(as:List Addr):SV->V->Prop
 | .dt d,v=>Rp Ho d v
 | .lo n,v=>∃a,as[n]?=some a/\v=.ref a
 | .op u,v=>v=u
theorem SVr.same{Ho Ho':Hp}{as:List Addr}(s:Same Ho Ho'):∀{x:SV}{v:V},SVr Ho as x v->SVr Ho' as x v
 | .dt d,_,h=>Rp.same s d h
 | .lo _,_,h=>h
 | .op _,_,h=>h
theorem SVr.ext{Ho:Hp}{as bs:List Addr}:∀{x:SV}{v:V},SVr Ho as x v->SVr Ho (as++bs) x v
 | .dt _,_,h=>h
 | .lo n,_,⟨a,h1,h2⟩=>⟨a,by rw[qI (qK.mp h1).1];exact h1,h2⟩
 | .op _,_,h=>h
noncomputable def SNr(Ho H:Hp)(as:List Addr):SN->Addr->Prop
 | .ls xs,a=>∃vs,H a=some (.lst vs)/\Paired (SVr Ho as) xs vs
 | .tp xs,a=>∃vs,H a=some (.tup vs)/\Paired (SVr Ho as) xs vs
theorem SNr.mono{Ho Ho' H H':Hp}{as bs:List Addr}{s:SN}{a:Addr}(h:SNr Ho H as s a)(e:∀o,H a=some o->H' a=some o)(f:∀x v,SVr Ho as x v->SVr Ho' bs x v):SNr Ho' H' bs s a:=by
 cases s with
 | ls xs=>obtain⟨vs,h1,h2⟩:=h;exact⟨vs,e _ h1,Paired.mapP h2 f⟩
 | tp xs=>obtain⟨vs,h1,h2⟩:=h;exact⟨vs,e _ h1,Paired.mapP h2 f⟩
structure SymOk(fx:Addr->Prop)(as:List Addr)(H0:Hp)(env:DEnv)(σ:St)(H:Hp)(st:SyT):Prop where
 ok:EnvOk fx H0 env σ H
 nd:as.Nodup
 len:as.length=st.hp.length
 off:∀a∈as,fx a
 low:∀a∈as,H0 a=none
 nod:∀(n:Nat)(s:SN)(a:Addr),st.hp[n]?=some s->as[n]?=some a->SNr (OffT (λb=>fx b\/own env σ b) H) H as s a
 sl:∀(i:Nat)(x:SV),st.sl[i]?=some (some x)->env[i]?=some .no/\∃v,σ[i]?=some (some v)/\SVr (OffT (λb=>fx b\/own env σ b) H) as x v
structure Bnd where
 fx:Addr->Prop
 pre:List Addr
structure BndOk(B:Bnd)(H0:Hp)(fx:Addr->Prop)(as:List Addr):Prop where
 lo:∀b,B.fx b->fx b
 up:∀b,fx b->B.fx b\/H0 b=none
 pre:B.pre <+: as
theorem BndOk.rfl'{H0:Hp}{fx:Addr->Prop}{as:List Addr}:BndOk ⟨fx,as⟩ H0 fx as:=⟨λ_ z=>z,λ_ z=>.inl z,List.prefix_refl _⟩
theorem BndOk.grow{B:Bnd}{H0:Hp}{fx:Addr->Prop}{as as1:List Addr}(k:BndOk B H0 fx as)(h:∀a∈as1,H0 a=none):BndOk B H0 (λb=>fx b\/b∈as1) (as++as1):=
 ⟨λb z=>.inl (k.lo b z),λb z=>z.elim (k.up b) λy=>.inr (h b y),k.pre.trans (List.prefix_append _ _)⟩
noncomputable def HasF(B:Bnd)(H0:Hp)(env:DEnv)(σ:St)(H:Hp)(st:SyT):Prop:=∃fx as,SymOk fx as H0 env σ H st/\BndOk B H0 fx as
section
variable{fx:Addr->Prop}{as:List Addr}{H0:Hp}{env:DEnv}{σ:St}{H H':Hp}{st:SyT}
theorem SymOk.up(h:SymOk fx as H0 env σ H st)(s:Same H H'):SymOk fx as H0 env σ H' st:=
 ⟨h.ok.up s,h.nd,h.len,h.off,h.low,λn x a e1 e2=>(h.nod n x a e1 e2).mono (λo z=>s a o z) λ_ _ z=>z.same (OffT.grow s),λi x e=>let⟨h1,v,h2,h3⟩:=h.sl i x e;⟨h1,v,h2,h3.same (OffT.grow s)⟩⟩
theorem HasF.up{B:Bnd}(h:HasF B H0 env σ H st)(s:Same H H'):HasF B H0 env σ H' st:=let⟨fx,as,k,kb⟩:=h;⟨fx,as,k.up s,kb⟩
theorem HasF.start(h:EnvOk fx H0 env σ H):HasF ⟨fx,[]⟩ H0 env σ H ⟨[],[]⟩:=
 ⟨fx,[],⟨h,.nil,rfl,λ_ z=>by(cases z),λ_ z=>by(cases z),λn s a e=>by(cases e),λi x e=>by(cases e)⟩,.rfl'⟩
noncomputable def mapO{α β:Type}(f:α->Option β):List α->Option (List β)
 | []=>some []
 | x::xs=>(f x).bind λy=>(mapO f xs).map λys=>y::ys
noncomputable def rdV(hp:List SN):Nat->SV->Option PyData
 | _,.dt d=>some d
 | _,.op _=>none
 | 0,.lo _=>none
 | k+1,.lo n=>match hp[n]? with
  | some (.ls xs)=>(mapO (rdV hp k) xs).map .list
  | some (.tp xs)=>(mapO (rdV hp k) xs).map .tuple
  | none=>none
theorem zlu{f:SV->Option PyData}{F:SV->V->Prop}{G:Hp}(hf:∀x v d,F x v->f x=some d->Rp G d v):∀{xs:List SV}{vs:List V}{ds:List PyData},Paired F xs vs->mapO f xs=some ds->Rps G ds vs
 | _,_,ds,.nil,e=>by cases e;exact zdm
 | _,_,ds,.cons r t,e=>by
  obtain⟨d,e1,e⟩:=qA.mp e
  obtain⟨ds',e2,rfl⟩:=qE.mp e
  exact zdk (hf _ _ _ r e1) (zlu hf t e2)
theorem SymOk.offO(h:SymOk fx as H0 env σ H st):Same (OffT (λb=>fx b\/own env σ b) H) (Offs (own env σ) H):=λb o e=>by
 obtain⟨e1,z⟩:=OffT.of e
 rw[Offs.get]
 ·exact e1
 ·rintro⟨i,d,g1,g2⟩
  rcases z with z|⟨xs,rfl⟩
  ·exact z (.inr ⟨i,d,g1,g2⟩)
  ·obtain⟨a,k1,k2,k3,k4⟩:=h.ok.ac i d g1
   rw[g2]at k1
   cases k1
   cases d with
   | list ds=>obtain⟨ys,k5,_⟩:=k4;rw[e1]at k5;cases k5
   | dict ds=>obtain⟨ys,k5,_⟩:=k4;rw[e1]at k5;cases k5
   | _=>exact k4
theorem SymOk.rd(h:SymOk fx as H0 env σ H st):∀(k:Nat)(x:SV)(v:V)(d:PyData),SVr (OffT (λb=>fx b\/own env σ b) H) as x v->rdV st.hp k x=some d->Rp (Offs (own env σ) H) d v
 | k,.dt d,v,d',r,e=>by
  have e:some d=some d':=by cases k<;>exact e
  cases e
  exact Rp.same h.offO d r
 | k,.op u,v,d,r,e=>by cases k<;>cases e
 | 0,.lo n,v,d,r,e=>by cases e
 | k+1,.lo n,v,d,⟨a,h1,h2⟩,e=>by
  subst h2
  have no:¬own env σ a:=h.ok.notOwn (h.off a (qj h1))
  have ih:=h.rd k
  unfold rdV at e
  split at e
  ·rename_i xs en
   obtain⟨ds,e1,rfl⟩:=qE.mp e
   obtain⟨vs,g1,g2⟩:=h.nod n _ a en h1
   exact zet (by rw[Offs.get no];exact g1) (zlu ih g2 e1)
  ·rename_i xs en
   obtain⟨ds,e1,rfl⟩:=qE.mp e
   obtain⟨vs,g1,g2⟩:=h.nod n _ a en h1
   exact zkl (by rw[Offs.get no];exact g1) (zlu ih g2 e1)
  ·cases e
noncomputable def shS(hp:List SN)(s:Sl):Option SV->Sl
 | some x=>match rdV hp 9 x with
  | some d=>.pl d
  | none=>.no
 | none=>s
noncomputable def zee(hp:List SN):DEnv->List (Option SV)->DEnv
 | [],_=>[]
 | s::env,[]=>s::env
 | s::env,o::sl=>shS hp s o::zee hp env sl
theorem zpp{hp:List SN}:∀(env:DEnv)(sl:List (Option SV)),(zee hp env sl).length=env.length
 | [],_=>rfl
 | s::env,[]=>rfl
 | s::env,o::sl=>by show(zee hp env sl).length+1=_;rw[zpp env sl];rfl
theorem zgg{hp:List SN}:∀{env:DEnv}{sl:List (Option SV)}{i:Nat}{t:Sl},(zee hp env sl)[i]?=some t->(∃x d,sl[i]?=some (some x)/\rdV hp 9 x=some d/\t=.pl d)\/env[i]?=some t\/t=.no
 | [],_,i,t,e=>by cases e
 | s::env,[],i,t,e=>.inr (.inl e)
 | s::env,o::sl,0,t,e=>by
  cases o with
  | none=>exact .inr (.inl e)
  | some x=>
   have e:shS hp s (some x)=t:=qe e
   unfold shS at e
   dsimp only at e
   split at e
   ·rename_i d ed;exact .inl ⟨x,d,rfl,ed,e.symm⟩
   ·exact .inr (.inr e.symm)
 | s::env,o::sl,i+1,t,e=>zgg (env:=env) (sl:=sl) (i:=i) e
theorem SymOk.view(h:SymOk fx as H0 env σ H st):EnvOk (λ_=>False) H0 (zee st.hp env st.sl) σ H:=by
 have ow:∀a,own (zee st.hp env st.sl) σ a->own env σ a:=λa ⟨i,d,e1,e2⟩=>by
  rcases zgg e1 with⟨x,d',_,_,z⟩|z|z
  ·cases z
  ·exact⟨i,d,z,e2⟩
  ·cases z
 have s1:Same (Offs (λb=>fx b\/own env σ b) H) (Offs (λb=>False\/own (zee st.hp env st.sl) σ b) H):=Offs.sub λb z=>z.elim False.elim λy=>.inr (ow b y)
 have s2:Same (Offs (own env σ) H) (Offs (λb=>False\/own (zee st.hp env st.sl) σ b) H):=Offs.sub λb z=>z.elim False.elim λy=>ow b y
 have ac:∀(i:Nat)(d:PyData),(zee st.hp env st.sl)[i]?=some (.ac d)->env[i]?=some (.ac d):=λi d e=>by
  rcases zgg e with⟨x,d',_,_,z⟩|z|z
  ·cases z
  ·exact z
  ·cases z
 refine⟨by rw[zpp];exact h.ok.len,λi d e=>?_,λi d e=>?_,λi j d e a h1 h2=>h.ok.inj i j d e a (ac i d h1) (ac j e h2),h.ok.base,λb z=>z.elim⟩
 ·rcases zgg e with⟨x,d',e1,e2,z⟩|z|z
  ·cases z
   obtain⟨_,v,g1,g2⟩:=h.sl i x e1
   exact⟨v,g1,Rp.same s2 _ (h.rd 9 x v _ g2 e2)⟩
  ·obtain⟨v,g1,g2⟩:=h.ok.pl i d z
   exact⟨v,g1,Rp.same s1 _ g2⟩
  ·cases z
 ·obtain⟨a,g1,g2,g3,g4⟩:=h.ok.ac i d (ac i d e)
  exact⟨a,g1,g2,λz=>z,g4.same s1 λo z=>z⟩
end
noncomputable abbrev TFs:=DEnv->SyT->Option Bool
noncomputable def STs(tt:TT)(g:TFs):Prop:=∀(B:Bnd)(H0:Hp)(env:DEnv)(σ:St)(H:Hp)(st:SyT),HasF B H0 env σ H st->∀b,g env st=some b->∀Q:Bool->Hp->Prop,(∀H',Same H H'->Q b H')->tt σ H Q
noncomputable def yT(c:TF):TFs:=λenv st=>c (zee st.hp env st.sl)
theorem zrq{tt:TT}{c:TF}(h:ST tt c):STs tt (yT c):=λB H0 env σ H st ⟨fx,as,k,kb⟩ b e Q q=>h _ H0 _ σ H k.view b e Q q
noncomputable abbrev EFs:=DEnv->SyT->Option PyData
noncomputable def SEs(te:TE)(g:EFs):Prop:=∀(B:Bnd)(H0:Hp)(env:DEnv)(σ:St)(H:Hp)(st:SyT),HasF B H0 env σ H st->∀d,g env st=some d->∀Q:VK,(∀v H',Same H H'->Rp H' d v->Q v H')->te σ H Q
noncomputable def yE(g:EF):EFs:=λenv st=>(g (zee st.hp env st.sl)).map λr=>r.d
theorem zka{te:TE}{g:EF}(h:SE te g):SEs te (yE g):=λB H0 env σ H st ⟨fx,as,k,kb⟩ d e Q q=>by
 obtain⟨r,er,rfl⟩:=qE.mp e
 exact h _ H0 _ σ H k.view r er Q λv H' s hv=>q v H' s (Rp.same (Offs.same _ _) _ hv.rp)
inductive OutS where
 | nx (env:DEnv) (st:SyT)
 | bk (env:DEnv) (st:SyT)
 | ct (env:DEnv) (st:SyT)
 | rt (d:PyData)
noncomputable abbrev SFs:=DEnv->SyT->Option OutS
noncomputable def SatS(B:Bnd)(H0:Hp)(D:Ends):OutS->Prop
 | .nx env st=>∀σ H,HasF B H0 env σ H st->D.nx σ H
 | .bk env st=>∀σ H,HasF B H0 env σ H st->D.bk σ H
 | .ct env st=>∀σ H,HasF B H0 env σ H st->D.ct σ H
 | .rt d=>∀v H,Same H0 H->zdy d=true->Rp H d v->D.rt v H
noncomputable def SSs(ts:TS)(F:SFs):Prop:=∀(B:Bnd)(H0:Hp)(env:DEnv)(σ:St)(H:Hp)(st:SyT)(D:Ends),HasF B H0 env σ H st->∀o,F env st=some o->SatS B H0 D o->ts D σ H
noncomputable def yNil:SFs:=λenv st=>some (.nx env st)
theorem zkq:SSs tNext yNil:=λB H0 env σ H st D h o e q=>by cases e;exact q σ H h
noncomputable def ySeq(a b:SFs):SFs:=λenv st=>(a env st).bind λo=>match o with
 | .nx e s=>b e s
 | o=>some o
theorem zbt{t u:TS}{a b:SFs}(h1:SSs t a)(h2:SSs u b):SSs (tSeq t u) (ySeq a b):=by
 intro B H0 env σ H st D hh o e q
 unfold ySeq at e
 obtain⟨o1,e1,e⟩:=qA.mp e
 refine h1 B H0 env σ H st _ hh o1 e1 ?_
 cases o1 with
 | nx e2 s2=>exact λσ' H' h'=>h2 B H0 e2 σ' H' s2 D h' o e q
 | bk e2 s2=>cases e;exact q
 | ct e2 s2=>cases e;exact q
 | rt d=>cases e;exact q
noncomputable def yIf(c:TFs)(a b:SFs):SFs:=λenv st=>(c env st).bind λx=>if x=true then a env st else b env st
theorem zvj{tc:TT}{t u:TS}{c:TFs}{a b:SFs}(hc:STs tc c)(h1:SSs t a)(h2:SSs u b):SSs (tIfS tc t u) (yIf c a b):=by
 intro B H0 env σ H st D hh o e q
 unfold yIf at e
 obtain⟨b',eb,e⟩:=qA.mp e
 refine hc B H0 env σ H st hh b' eb _ λH' s=>?_
 cases b' with
 | true=>exact iteT (h1 B H0 env σ H' st D (hh.up s) o e q)
 | false=>exact iteF (h2 B H0 env σ H' st D (hh.up s) o e q)
noncomputable def yRet(g:EFs):SFs:=λenv st=>(g env st).bind λd=>if zdy d=true then some (.rt d)else none
theorem zmr{te:TE}{g:EFs}(h:SEs te g):SSs (tRet te) (yRet g):=by
 intro B H0 env σ H st D hh o e q
 unfold yRet at e
 obtain⟨d,ed,e⟩:=qA.mp e
 split at e
 ·rename_i hf
  cases e
  exact h B H0 env σ H st hh d ed _ λv H' s r=>q v H' (let⟨fx,as,k,kb⟩:=hh;k.ok.base.trans s) hf r
 ·cases e
noncomputable def slIn(f:List Nat)(sl:List (Option SV)):Bool:=(List.range sl.length).all λi=>match sl[i]? with
 | some (some _)=>f.contains i
 | _=>true
theorem zaes{f:List Nat}{sl:List (Option SV)}(h:slIn f sl=true){i:Nat}{x:SV}(e:sl[i]?=some (some x)):i∈f:=by
 have hi:i<sl.length:=(qK.mp e).1
 have:=qAX.mp h i (qAW.mpr hi)
 rw[e]at this
 exact List.contains_iff_mem.mp this
noncomputable def noAt(env:DEnv)(sl:List (Option SV)):Bool:=(List.range sl.length).all λi=>match sl[i]? with
 | some (some _)=>(match env[i]? with
  | some .no=>true
  | _=>false)
 | _=>true
theorem zaet{env:DEnv}{sl:List (Option SV)}(h:noAt env sl=true){i:Nat}{x:SV}(e:sl[i]?=some (some x)):env[i]?=some .no:=by
 have hi:i<sl.length:=(qK.mp e).1
 have:=qAX.mp h i (qAW.mpr hi)
 rw[e]at this
 dsimp only at this
 split at this
 ·assumption
 ·cases this
noncomputable def yS(f:List Nat)(F:SF):SFs:=λenv st=>if slIn f st.sl=true then(F env).bind λo=>match o with
 | .nx e=>if noAt e st.sl=true then some (.nx e st)else none
 | .bk e=>if noAt e st.sl=true then some (.bk e st)else none
 | .ct e=>if noAt e st.sl=true then some (.ct e st)else none
 | .rt d fr=>if zdy d=true then some (.rt d)else none
 else none
theorem zlv{f:List Nat}{ts:TS}{F:SF}(h:SSk (λj=>j∈f) ts F):SSs ts (yS f F):=by
 rintro B H0 env σ H st D ⟨fx,as,k,kb⟩ o e q
 unfold yS at e
 split at e
 ·rename_i hin
  obtain⟨o1,e1,e⟩:=qA.mp e
  have fl:=k.ok.floor
  have st':∀{env':DEnv}{σ':St}{H':Hp},EnvOk fx (Offs (own env σ) H) env' σ' H'->(∀j,j∈f->σ'[j]?=σ[j]?)->noAt env' st.sl=true->HasF B H0 env' σ' H' st:=λ{env' σ' H'} h' kp hn=>by
   have sn:Same (OffT (λb=>fx b\/own env σ b) H) (OffT (λb=>fx b\/own env' σ' b) H'):=λb o e=>by
    obtain⟨e1,z⟩:=OffT.of e
    rcases z with z|⟨xs,rfl⟩
    ·exact OffT.offs _ _ b o (h'.seen b o (by rw[Offs.get z];exact e1))
    ·have nb:¬own env σ b:=λ⟨i,d,g1,g2⟩=>by
      obtain⟨a,k1,k2,k3,k4⟩:=k.ok.ac i d g1
      rw[g2]at k1
      cases k1
      cases d with
      | list ds=>obtain⟨ys,k5,_⟩:=k4;rw[e1]at k5;cases k5
      | dict ds=>obtain⟨ys,k5,_⟩:=k4;rw[e1]at k5;cases k5
      | _=>exact k4
     exact OffT.tup (h'.base b _ (by rw[Offs.get nb];exact e1))
   exact⟨fx,as,⟨h'.unbase fl,k.nd,k.len,k.off,k.low,λn s a e1 e2=>(k.nod n s a e1 e2).mono (λo z=>h'.base a o (by rw[Offs.get (k.ok.notOwn (k.off a (qj e2)))];exact z)) λ_ _ z=>z.same sn,
    λi x e=>let⟨_,v,h2,h3⟩:=k.sl i x e;⟨zaet hn e,v,(kp i (zaes hin e)).trans h2,h3.same sn⟩⟩,kb⟩
  refine h fx _ env σ H _ k.ok.rebase o1 e1 ?_
  cases o1 with
  | nx e2=>
   dsimp only at e
   split at e
   ·rename_i hn;cases e;exact λσ' H' h' kp=>q σ' H' (st' h' kp hn)
   ·cases e
  | bk e2=>
   dsimp only at e
   split at e
   ·rename_i hn;cases e;exact λσ' H' h' kp=>q σ' H' (st' h' kp hn)
   ·cases e
  | ct e2=>
   dsimp only at e
   split at e
   ·rename_i hn;cases e;exact λσ' H' h' kp=>q σ' H' (st' h' kp hn)
   ·cases e
  | rt d fr=>
   dsimp only at e
   split at e
   ·rename_i hf;cases e;exact λw H' s' rt=>q w H' (fl.trans s') hf (zpg hf rt.1)
   ·cases e
 ·cases e
theorem zamy{env:DEnv}{σ:St}{i:Nat}{s:Sl}{w:Option V}(hs:∀d,s≠.ac d):∀a,own (env.set i s) (σ.set i w) a->own env σ a:=by
 rintro a ⟨j,d,e1,e2⟩
 rcases zcp e1 with⟨rfl,z⟩|⟨n,z⟩
 ·exact absurd z.symm (hs d)
 ·exact⟨j,d,z,by rw[qY λy=>n y.symm]at e2;exact e2⟩
section
variable{α β:Type}{F:α->β->Prop}
theorem zms:∀{xs:List α}{vs:List β},Paired F xs vs->∀{j:Nat}{x:α},xs[j]?=some x->∃v,vs[j]?=some v/\F x v
 | _,_,.nil,j,x,e=>by cases e
 | _,_,.cons r t,0,x,e=>by cases e;exact⟨_,rfl,r⟩
 | _,_,.cons r t,j+1,x,e=>zms t (j:=j) e
theorem zhc:∀{xs:List α}{vs:List β}{ys:List α}{ws:List β},Paired F xs vs->Paired F ys ws->Paired F (xs++ys) (vs++ws)
 | _,_,_,_,.nil,h=>h
 | _,_,_,_,.cons r t,h=>.cons r (zhc t h)
theorem zrr:∀{xs:List α}{vs:List β},Paired F xs vs->Paired F xs.reverse vs.reverse
 | _,_,.nil=>.nil
 | _,_,.cons r t=>by rw[qBV,qBV];exact zhc (zrr t) (.cons r .nil)
theorem znp:∀{xs:List α}{vs:List β},Paired F xs vs->∀(j:Nat),Paired F (xs.eraseIdx j) (vs.eraseIdx j)
 | _,_,.nil,_=>.nil
 | _,_,.cons r t,0=>t
 | _,_,.cons r t,j+1=>.cons r (znp t j)
theorem zfw:∀{xs:List α}{vs:List β},Paired F xs vs->xs.length=vs.length
 | _,_,.nil=>rfl
 | _,_,.cons r t=>congrArg (·+1) (zfw t)
theorem zvk{xs:List α}{vs:List β}(h:Paired F xs vs){i:Int}{x:α}(e:atI xs i=some x):∃v,atI vs i=some v/\F x v:=by
 unfold atI at e ⊢
 rw[<- zfw h]
 cases g:ixN xs.length i with
 | none=>rw[g]at e;cases e
 | some j=>rw[g]at e;exact zms h e
end
theorem zaag{α:Type}:∀{l:List α},l.Nodup->∀{i j:Nat}{a:α},l[i]?=some a->l[j]?=some a->i=j
 | [],_,i,j,a,e,_=>by cases e
 | x::l,h,0,0,a,_,_=>rfl
 | x::l,h,0,j+1,a,e1,e2=>by
  cases e1
  exact absurd (qj (l:=l) e2) (qo.mp h).1
 | x::l,h,i+1,0,a,e1,e2=>by
  cases e2
  exact absurd (qj (l:=l) e1) (qo.mp h).1
 | x::l,h,i+1,j+1,a,e1,e2=>congrArg (·+1) (zaag (qo.mp h).2 e1 e2)
noncomputable abbrev YF:=DEnv->SyT->Option SV
noncomputable def SYe(te:TE)(g:YF):Prop:=∀(fx:Addr->Prop)(as:List Addr)(H0:Hp)(env:DEnv)(σ:St)(H:Hp)(st:SyT),SymOk fx as H0 env σ H st->∀x,g env st=some x->∀Q:VK,
 (∀v H',Same H H'->SVr (OffT (λb=>fx b\/own env σ b) H') as x v->Q v H')->te σ H Q
noncomputable def yVar(i:Nat):YF:=λ_ st=>match st.sl[i]? with
 | some (some x)=>some x
 | _=>none
theorem zgh(i:Nat):SYe (tVar i) (yVar i):=by
 intro fx as H0 env σ H st h x e Q q
 unfold yVar at e
 split at e
 ·rename_i y ey
  cases e
  obtain⟨_,v,h1,h2⟩:=h.sl i _ ey
  exact⟨v,h1,q v H (Same.refl _) h2⟩
 ·cases e
noncomputable def yFl(g:EFs):YF:=λenv st=>(g env st).bind λd=>if zdy d=true then some (.dt d)else none
theorem zaqh{te:TE}{g:EFs}(h:SEs te g):SYe te (yFl g):=by
 intro fx as H0 env σ H st hh x e Q q
 unfold yFl at e
 obtain⟨d,ed,e⟩:=qA.mp e
 split at e
 ·rename_i hf;cases e
  exact h ⟨fx,as⟩ H0 env σ H st ⟨fx,as,hh,.rfl'⟩ d ed Q λv H' s r=>q v H' s (zpg hf r)
 ·cases e
noncomputable def inSN(hp:List SN):SV->Option (List SV)
 | .lo n=>match hp[n]? with
  | some (.ls xs)=>some xs
  | some (.tp xs)=>some xs
  | none=>none
 | .dt _=>none
 | .op _=>none
noncomputable def yIx(g:YF)(t:EFs):YF:=λenv st=>(g env st).bind λx=>(inSN st.hp x).bind λxs=>(t env st).bind λd=>match d with
 | .int i=>atI xs i
 | _=>none
theorem zakp{K:qC}{ta tb:TE}{g:YF}{t:EFs}(ha:SYe ta g)(hb:SEs tb t):SYe (tOp (rIxU K) ta tb) (yIx g t):=by
 intro fx as H0 env σ H st hh x e Q q
 unfold yIx at e
 obtain⟨y,ey,e1⟩:=qA.mp e
 obtain⟨xs,ex,e2⟩:=qA.mp e1
 obtain⟨d,ed,e3⟩:=qA.mp e2
 clear e e1 e2
 refine ha fx as H0 env σ H st hh y ey _ λv H1 s1 r1=>hb ⟨fx,as⟩ H0 env σ H1 st ⟨fx,as,hh.up s1,.rfl'⟩ d ed _ λw H2 s2 r2=>?_
 cases d with
 | int i=>
  cases zdv r2
  cases y with
  | dt _=>cases ex
  | op _=>cases ex
  | lo n=>
   obtain⟨a,g1,rfl⟩:=r1
   have hu:=hh.up (s1.trans s2)
   unfold inSN at ex
   dsimp only at ex
   split at ex
   ·rename_i ys en
    cases ex
    obtain⟨vs,k1,k2⟩:=hu.nod n _ a en g1
    obtain⟨u,k3,k4⟩:=zvk k2 e3
    exact⟨vs,u,.inl (SqL.of k1),k3,q u H2 (s1.trans s2) k4⟩
   ·rename_i ys en
    cases ex
    obtain⟨vs,k1,k2⟩:=hu.nod n _ a en g1
    obtain⟨u,k3,k4⟩:=zvk k2 e3
    exact⟨vs,u,.inr (SqT.of k1),k3,q u H2 (s1.trans s2) k4⟩
   ·cases ex
 | _=>cases e3
section
variable{fx:Addr->Prop}{as:List Addr}{H0:Hp}{env:DEnv}{σ:St}{H H':Hp}{st:SyT}
theorem SymOk.write (h:SymOk fx as H0 env σ H st) {n:Nat} {a:Addr} (ha:as[n]?=some a) {ys:List SV} (hn:st.hp[n]?=some (.ls ys)) {xs:List SV} {vs:List V} (hp:Paired (SVr (OffT (λb=>fx b\/own env σ b) H) as) xs vs) :
  SymOk fx as H0 env σ (upd H a (.lst vs)) ⟨st.sl,st.hp.set n (.ls xs)⟩:=by
 have fa:fx a:=h.off a (qj ha)
 have hO:Offs (λb=>fx b\/own env σ b) (upd H a (.lst vs))=Offs (λb=>fx b\/own env σ b) H:=Offs.upd (.inl fa)
 obtain⟨us,hus,_⟩:=h.nod n _ a hn ha
 have hT:OffT (λb=>fx b\/own env σ b) (upd H a (.lst vs))=OffT (λb=>fx b\/own env σ b) H:=OffT.upd (.inl fa) hus
 refine⟨⟨h.ok.len,λi d e=>?_,λi d e=>?_,h.ok.inj,λb o e=>?_,λb z=>?_⟩,h.nd,by rw[qAG];exact h.len,h.off,h.low,λm s b e1 e2=>?_,λi x e=>?_⟩
 ·rw[hO];exact h.ok.pl i d e
 ·obtain⟨c,h1,h2,h3,h4⟩:=h.ok.ac i d e
  refine⟨c,h1,h2,h3,?_⟩
  rw[hO]
  exact h4.same (Same.refl _) λo z=>by rw[zau λy=>h3 (by rw[y];exact fa)];exact z
 ·rw[zau λy=>by rw[y,h.low a (qj ha)]at e;cases e];exact h.ok.base b o e
 ·by_cases y:b=a
  ·exact⟨_,by rw[y];exact zap⟩
  ·obtain⟨o,e⟩:=h.ok.fxs b z
   exact⟨o,by rw[zau y];exact e⟩
 ·rw[hT]
  rcases zcp e1 with⟨rfl,z⟩|⟨ne,z⟩
  ·rw[ha]at e2
   cases e2
   subst z
   exact⟨vs,zap,hp⟩
  ·refine(h.nod m s b z e2).mono (λo y=>?_) λ_ _ y=>y
   rw[zau λy=>?_];exact y
   exact ne (zaag h.nd e2 (by rw[ha,y]))
 ·rw[hT];exact h.sl i x e
end
noncomputable def lsAt(hp:List SN):SV->Option (Nat×List SV)
 | .lo n=>match hp[n]? with
  | some (.ls xs)=>some (n,xs)
  | _=>none
 | .dt _=>none
 | .op _=>none
theorem ztb{hp:List SN}{x:SV}{n:Nat}{xs:List SV}(h:lsAt hp x=some (n,xs)):x=.lo n/\hp[n]?=some (.ls xs):=by
 cases x with
 | dt _=>cases h
 | op _=>cases h
 | lo m=>
  unfold lsAt at h
  dsimp only at h
  split at h
  ·rename_i ys e;cases h;exact⟨rfl,e⟩
  ·cases h
noncomputable def yApp(g h:YF):SFs:=λenv st=>(g env st).bind λx=>(lsAt st.hp x).bind λp=>if p.2.length<100000 then(h env st).bind λy=>some (.nx env ⟨st.sl,st.hp.set p.1 (.ls (p.2++[y]))⟩)else none
theorem zaeu{K:qC}{ta tb:TE}{g h:YF}(h1:SYe ta g)(h2:SYe tb h):SSs (tDrop (tBM K "list" zmj ta (tCons tb tNil))) (yApp g h):=by
 rintro B H0 env σ H st D ⟨fx,as,k,kb⟩ o e q
 unfold yApp at e
 obtain⟨x,ex,e⟩:=qA.mp e
 obtain⟨⟨n,xs⟩,ep,e⟩:=qA.mp e
 dsimp only at e
 split at e
 ·rename_i hl
  obtain⟨y,ey,e⟩:=qA.mp e
  cases e
  obtain⟨rfl,en⟩:=ztb ep
  refine h1 fx as H0 env σ H st k _ ex _ λv H1 s1 r1=>?_
  obtain⟨a,ga,rfl⟩:=r1
  obtain⟨vs,k1,k2⟩:=(k.up s1).nod n _ a en ga
  refine⟨.inl ⟨rfl,vs,SqL.of k1⟩,h2 fx as H0 env σ H1 st (k.up s1) y ey _ λw H2 s2 r2=>?_⟩
  have ku:=(k.up s1).up s2
  obtain⟨us,k3,k4⟩:=ku.nod n _ a en ga
  exact⟨a,us,w,rfl,rfl,k3,zih (by rw[<- zfw k4];exact hl),q σ _ ⟨fx,as,ku.write ga en (zhc k4 (.cons r2 .nil)),kb⟩⟩
 ·cases e
noncomputable def yRev(g:YF):SFs:=λenv st=>(g env st).bind λx=>(lsAt st.hp x).bind λp=>some (.nx env ⟨st.sl,st.hp.set p.1 (.ls p.2.reverse)⟩)
theorem zamz{K:qC}{ta:TE}{g:YF}(h1:SYe ta g):SSs (tDrop (tBM0 K "list" zzm ta)) (yRev g):=by
 rintro B H0 env σ H st D ⟨fx,as,k,kb⟩ o e q
 unfold yRev at e
 obtain⟨x,ex,e⟩:=qA.mp e
 obtain⟨⟨n,xs⟩,ep,e⟩:=qA.mp e
 cases e
 obtain⟨rfl,en⟩:=ztb ep
 refine h1 fx as H0 env σ H st k _ ex _ λv H1 s1 r1=>?_
 obtain⟨a,ga,rfl⟩:=r1
 obtain⟨vs,k1,k2⟩:=(k.up s1).nod n _ a en ga
 exact⟨.inl ⟨rfl,vs,SqL.of k1⟩,a,vs,rfl,rfl,k1,q σ _ ⟨fx,as,(k.up s1).write ga en (zrr k2),kb⟩⟩
section
variable{fx:Addr->Prop}{as:List Addr}{H0:Hp}{env:DEnv}{σ:St}{H H':Hp}{st:SyT}
theorem SymOk.setSy(h:SymOk fx as H0 env σ H st){x:SV}{v:V}(r:SVr (OffT (λb=>fx b\/own env σ b) H) as x v){i:Nat}(hi:i<env.length):SymOk fx as H0 (env.set i .no) (σ.set i (some v)) H ⟨(st.sl++List.replicate (env.length - st.sl.length) none).set i (some x),st.hp⟩:=by
 have so:Same (OffT (λb=>fx b\/own env σ b) H) (OffT (λb=>fx b\/own (env.set i .no) (σ.set i (some v)) b) H):=OffT.sub λb z=>z.imp (λy=>y) (zamy (λ_ z=>by cases z) b)
 refine⟨h.ok.kill i (some v),h.nd,h.len,h.off,h.low,λn s a e1 e2=>(h.nod n s a e1 e2).mono (λ_ z=>z) λ_ _ z=>z.same so,λj y e=>?_⟩
 rcases zcp e with⟨rfl,z⟩|⟨ne,z⟩
 ·cases z
  exact⟨by rw[q9 hi],v,by rw[q9 (by rw[<- h.ok.len];exact hi)],r.same so⟩
 ·have z:st.sl[j]?=some (some y):=by
   by_cases lt:j<st.sl.length
   ·rw[qI lt]at z;exact z
   ·rw[qH (by omega),qAc]at z
    split at z<;>cases z
  obtain⟨h1,w,h2,h3⟩:=h.sl j y z
  exact⟨by rw[qY λy=>ne y.symm];exact h1,w,by rw[qY λy=>ne y.symm];exact h2,h3.same so⟩
end
noncomputable def zaev(st:SyT)(n i:Nat)(x:SV):SyT:=⟨(st.sl++List.replicate (n - st.sl.length) none).set i (some x),st.hp⟩
inductive NT where
 | lf (d:PyData)
 | ls (ts:List NT)
 | tp (ts:List NT)
mutual
def NewT(L:PyData->V->Prop)(H:Hp):NT->V->List Addr->Prop
 | .lf d,v,as=>as=[]/\L d v
 | .ls ts,v,as=>∃a vs as1,v=.ref a/\H a=some (.lst vs)/\as=a::as1/\NewTs L H ts vs as1
 | .tp ts,v,as=>∃a vs as1,v=.ref a/\H a=some (.tup vs)/\as=a::as1/\NewTs L H ts vs as1
def NewTs(L:PyData->V->Prop)(H:Hp):List NT->List V->List Addr->Prop
 | [],vs,as=>vs=[]/\as=[]
 | t::ts,vs,as=>∃v vs' a1 a2,vs=v::vs'/\as=a1++a2/\NewT L H t v a1/\NewTs L H ts vs' a2
end
mutual
theorem NewT.mono{L L':PyData->V->Prop}{H H':Hp}(hL:∀d v,L d v->L' d v):∀(t:NT){v:V}{as:List Addr},NewT L H t v as->(∀a∈as,∀o,H a=some o->H' a=some o)->NewT L' H' t v as
 | .lf d,v,as,h,_=>by
  unfold NewT at h ⊢
  exact⟨h.1,hL _ _ h.2⟩
 | .ls ts,v,as,h,k=>by
  unfold NewT at h ⊢
  obtain⟨a,vs,as1,h1,h2,h3,h4⟩:=h
  exact⟨a,vs,as1,h1,k a (by rw[h3];exact .head _) _ h2,h3,NewTs.mono hL ts h4 λb hb=>k b (by rw[h3];exact .tail _ hb)⟩
 | .tp ts,v,as,h,k=>by
  unfold NewT at h ⊢
  obtain⟨a,vs,as1,h1,h2,h3,h4⟩:=h
  exact⟨a,vs,as1,h1,k a (by rw[h3];exact .head _) _ h2,h3,NewTs.mono hL ts h4 λb hb=>k b (by rw[h3];exact .tail _ hb)⟩
theorem NewTs.mono{L L':PyData->V->Prop}{H H':Hp}(hL:∀d v,L d v->L' d v):∀(ts:List NT){vs:List V}{as:List Addr},NewTs L H ts vs as->(∀a∈as,∀o,H a=some o->H' a=some o)->NewTs L' H' ts vs as
 | [],vs,as,h,_=>by unfold NewTs at h ⊢;exact h
 | t::ts,vs,as,h,k=>by
  unfold NewTs at h ⊢
  obtain⟨v,vs',a1,a2,h1,h2,h3,h4⟩:=h
  exact⟨v,vs',a1,a2,h1,h2,NewT.mono hL t h3 λb hb=>k b (by rw[h2];exact qw _ hb),NewTs.mono hL ts h4 λb hb=>k b (by rw[h2];exact qc _ hb)⟩
end
mutual
theorem NewT.live{L:PyData->V->Prop}{H:Hp}:∀(t:NT){v:V}{as:List Addr},NewT L H t v as->∀a∈as,∃o,H a=some o
 | .lf d,v,as,h=>by
  unfold NewT at h
  intro a ha;rw[h.1]at ha;cases ha
 | .ls ts,v,as,h=>by
  unfold NewT at h
  obtain⟨a,vs,as1,h1,h2,h3,h4⟩:=h
  intro b hb
  rw[h3]at hb
  rcases qP.mp hb with rfl|hb
  ·exact⟨_,h2⟩
  ·exact NewTs.live ts h4 b hb
 | .tp ts,v,as,h=>by
  unfold NewT at h
  obtain⟨a,vs,as1,h1,h2,h3,h4⟩:=h
  intro b hb
  rw[h3]at hb
  rcases qP.mp hb with rfl|hb
  ·exact⟨_,h2⟩
  ·exact NewTs.live ts h4 b hb
theorem NewTs.live{L:PyData->V->Prop}{H:Hp}:∀(ts:List NT){vs:List V}{as:List Addr},NewTs L H ts vs as->∀a∈as,∃o,H a=some o
 | [],vs,as,h=>by
  unfold NewTs at h
  intro a ha;rw[h.2]at ha;cases ha
 | t::ts,vs,as,h=>by
  unfold NewTs at h
  obtain⟨v,vs',a1,a2,h1,h2,h3,h4⟩:=h
  intro b hb
  rw[h2]at hb
  rcases qV.mp hb with hb|hb
  ·exact NewT.live t h3 b hb
  ·exact NewTs.live ts h4 b hb
end
theorem ziq{L:PyData->V->Prop}{H:Hp}:NewTs L H [] [] []:=by unfold NewTs;exact⟨rfl,rfl⟩
theorem zhd{L:PyData->V->Prop}{H:Hp}{t:NT}{ts:List NT}{v:V}{vs:List V}{a1 a2:List Addr}(h:NewT L H t v a1)(k:NewTs L H ts vs a2):NewTs L H (t::ts) (v::vs) (a1++a2):=by
 unfold NewTs;exact⟨v,vs,a1,a2,rfl,rfl,h,k⟩
theorem zvl{L:PyData->V->Prop}{H:Hp}:∀{ts us:List NT}{vs ws:List V}{a1 a2:List Addr},NewTs L H ts vs a1->NewTs L H us ws a2->NewTs L H (ts++us) (vs++ws) (a1++a2)
 | [],us,vs,ws,a1,a2,h,k=>by
  unfold NewTs at h
  rw[h.1,h.2];exact k
 | t::ts,us,vs,ws,a1,a2,h,k=>by
  unfold NewTs at h
  obtain⟨v,vs',b1,b2,h1,h2,h3,h4⟩:=h
  rw[h1,h2,qAQ]
  exact zhd h3 (zvl h4 k)
theorem zpq{L:PyData->V->Prop}{H:Hp}:∀{ts:List NT}{vs:List V}{a1:List Addr},NewTs L H ts vs a1->ts.length=vs.length
 | [],vs,a1,h=>by
  unfold NewTs at h
  rw[h.1];rfl
 | t::ts,vs,a1,h=>by
  unfold NewTs at h
  obtain⟨v,vs',b1,b2,h1,h2,h3,h4⟩:=h
  rw[h1];exact congrArg (·+1) (zpq h4)
mutual
def al:NT->Nat->SV×List SN
 | .lf d,_=>(.dt d,[])
 | .ls ts,n=>(.lo n,.ls (als ts (n+1)).1::(als ts (n+1)).2)
 | .tp ts,n=>(.lo n,.tp (als ts (n+1)).1::(als ts (n+1)).2)
def als:List NT->Nat->List SV×List SN
 | [],_=>([],[])
 | t::ts,n=>((al t n).1::(als ts (n+(al t n).2.length)).1,(al t n).2++(als ts (n+(al t n).2.length)).2)
end
mutual
theorem zaqi{Ho H:Hp}:∀(t:NT){v:V}{as:List Addr},NewT (Rp Ho) H t v as->∀(n:Nat)(L:List Addr),(∀(j:Nat)(a:Addr),as[j]?=some a->L[n+j]?=some a)->
  as.length=(al t n).2.length/\SVr Ho L (al t n).1 v/\∀(j:Nat)(s:SN)(a:Addr),(al t n).2[j]?=some s->as[j]?=some a->SNr Ho H L s a
 | .lf d,v,as,h,n,L,k=>by
  unfold NewT at h
  obtain⟨rfl,h⟩:=h
  unfold al
  exact⟨rfl,h,λj s a e=>by cases e⟩
 | .ls ts,v,as,h,n,L,k=>by
  unfold NewT at h
  obtain⟨a,vs,as1,rfl,h2,rfl,h4⟩:=h
  obtain⟨g1,g2,g3⟩:=als_ok ts h4 (n+1) L λj b e=>by
   have:=k (j+1) b e
   rw[show n+1+j=n+(j+1) by omega];exact this
  unfold al
  refine⟨congrArg (·+1) g1,⟨a,k 0 a rfl,rfl⟩,λj s b e1 e2=>?_⟩
  cases j with
  | zero=>cases e1;cases e2;exact⟨vs,h2,g2⟩
  | succ j=>exact g3 j s b e1 e2
 | .tp ts,v,as,h,n,L,k=>by
  unfold NewT at h
  obtain⟨a,vs,as1,rfl,h2,rfl,h4⟩:=h
  obtain⟨g1,g2,g3⟩:=als_ok ts h4 (n+1) L λj b e=>by
   have:=k (j+1) b e
   rw[show n+1+j=n+(j+1) by omega];exact this
  unfold al
  refine⟨congrArg (·+1) g1,⟨a,k 0 a rfl,rfl⟩,λj s b e1 e2=>?_⟩
  cases j with
  | zero=>cases e1;cases e2;exact⟨vs,h2,g2⟩
  | succ j=>exact g3 j s b e1 e2
theorem als_ok{Ho H:Hp}:∀(ts:List NT){vs:List V}{as:List Addr},NewTs (Rp Ho) H ts vs as->∀(n:Nat)(L:List Addr),(∀(j:Nat)(a:Addr),as[j]?=some a->L[n+j]?=some a)->
  as.length=(als ts n).2.length/\Paired (SVr Ho L) (als ts n).1 vs/\∀(j:Nat)(s:SN)(a:Addr),(als ts n).2[j]?=some s->as[j]?=some a->SNr Ho H L s a
 | [],vs,as,h,n,L,k=>by
  unfold NewTs at h
  obtain⟨rfl,rfl⟩:=h
  unfold als
  exact⟨rfl,.nil,λj s a e=>by cases e⟩
 | t::ts,vs,as,h,n,L,k=>by
  unfold NewTs at h
  obtain⟨v,vs',a1,a2,rfl,rfl,h3,h4⟩:=h
  obtain⟨g1,g2,g3⟩:=zaqi t h3 n L λj b e=>k j b (by rw[qI (qK.mp e).1];exact e)
  obtain⟨f1,f2,f3⟩:=als_ok ts h4 (n+(al t n).2.length) L λj b e=>by
   have:=k (a1.length+j) b (by rw[qH (qAY _ _),qy];exact e)
   rw[<- g1,Nat.add_assoc];exact this
  unfold als
  refine⟨by rw[qJ,qJ,g1,f1],.cons g2 f2,λj s b e1 e2=>?_⟩
  by_cases lt:j<a1.length
  ·rw[qI lt]at e2
   rw[qI (by rw[<- g1];exact lt)]at e1
   exact g3 j s b e1 e2
  ·rw[qH (by omega)]at e2
   rw[qH (by rw[<- g1];omega)]at e1
   rw[g1]at e2
   exact f3 _ s b e1 e2
end
section
variable{fx:Addr->Prop}{as:List Addr}{H0:Hp}{env:DEnv}{σ:St}{H H':Hp}{st:SyT}
theorem EnvOk.more(h:EnvOk fx H0 env σ H)(s:Same H H'){as1:List Addr}(hn:∀a∈as1,H a=none)(hl:∀a∈as1,∃o,H' a=some o):EnvOk (λb=>fx b\/b∈as1) H0 env σ H':=
 h.grow s (λb o e n z=>z.elim n λy=>by rw[hn b y]at e;cases e) λb z=>z.elim (λy=>let⟨o,e⟩:=h.fxs b y;⟨o,s b o e⟩) (hl b)
theorem zaew(s:Same H H'){A:Addr->Prop}{as1:List Addr}(hn:∀a∈as1,H a=none):Same (Offs (λb=>fx b\/A b) H) (Offs (λb=>(fx b\/b∈as1)\/A b) H'):=
 Offs.mono s λb o e n z=>z.elim (λy=>y.elim (λx=>n (.inl x)) λx=>by rw[hn b x]at e;cases e) λy=>n (.inr y)
theorem zpr(s:Same H H'){A:Addr->Prop}{as1:List Addr}(hn:∀a∈as1,H a=none):Same (OffT (λb=>fx b\/A b) H) (OffT (λb=>(fx b\/b∈as1)\/A b) H'):=
 OffT.mono s λb o e n z=>z.elim (λy=>y.elim (λx=>n (.inl x)) λx=>by rw[hn b x]at e;cases e) λy=>n (.inr y)
theorem SymOk.intro (h:SymOk fx as H0 env σ H st) (s:Same H H') {t:NT} {v:V} {as1:List Addr} (k:NewT (Rp (OffT (λb=>(fx b\/b∈as1)\/own env σ b) H')) H' t v as1) (nd:as1.Nodup) (hn:∀a∈as1,H a=none) :
  SymOk (λb=>fx b\/b∈as1) (as++as1) H0 env σ H' ⟨st.sl,st.hp++(al t st.hp.length).2⟩/\SVr (OffT (λb=>(fx b\/b∈as1)\/own env σ b) H') (as++as1) (al t st.hp.length).1 v:=by
 have hl:=NewT.live t k
 have so:=zpr (A:=own env σ) (fx:=fx) s hn
 obtain⟨g1,g2,g3⟩:=zaqi t k st.hp.length (as++as1) λj a e=>by
  rw[<- h.len,qH (qAY _ _),qy];exact e
 refine⟨⟨h.ok.more s hn hl,?_,by rw[qJ,qJ,h.len,g1],λa ha=>?_,λa ha=>?_,λn x a e1 e2=>?_,λi x e=>?_⟩,g2⟩
 ·refine qAT.mpr ⟨h.nd,nd,λa ha b hb e=>?_⟩
  obtain⟨o,eo⟩:=h.ok.fxs a (h.off a ha)
  rw[e,hn b hb]at eo;cases eo
 ·exact(qV.mp ha).imp (h.off a) id
 ·exact(qV.mp ha).elim (h.low a) λz=>h.ok.base.free (hn a z)
 ·by_cases lt:n<st.hp.length
  ·rw[qI lt]at e1
   rw[qI (by rw[h.len];exact lt)]at e2
   exact(h.nod n x a e1 e2).mono (λo z=>s a o z) λ_ _ z=>(z.same so).ext
  ·rw[qH (by omega)]at e1
   rw[qH (by rw[h.len];omega),h.len]at e2
   exact g3 _ x a e1 e2
 ·obtain⟨h1,w,h2,h3⟩:=h.sl i x e
  exact⟨h1,w,h2,(h3.same so).ext⟩
end
noncomputable abbrev NTF:=DEnv->Option NT
noncomputable def SEt(te:TE)(g:NTF):Prop:=∀(fx:Addr->Prop)(H0:Hp)(env:DEnv)(σ:St)(H:Hp),EnvOk fx H0 env σ H->∀t,g env=some t->∀Q:VK,
 (∀v H' as,Same H H'->NewT (Rp (Offs (λb=>(fx b\/b∈as)\/own env σ b) H')) H' t v as->as.Nodup->(∀a∈as,H a=none)->Q v H')->te σ H Q
noncomputable abbrev NTFs:=DEnv->Option (List NT)
noncomputable def SAt(ta:TA)(g:NTFs):Prop:=∀(fx:Addr->Prop)(H0:Hp)(env:DEnv)(σ:St)(H:Hp),EnvOk fx H0 env σ H->∀ts,g env=some ts->∀Q:List V->Hp->Prop,
 (∀vs H' as,Same H H'->NewTs (Rp (Offs (λb=>(fx b\/b∈as)\/own env σ b) H')) H' ts vs as->as.Nodup->(∀a∈as,H a=none)->Q vs H')->ta σ H Q
noncomputable def pLf(g:EF):NTF:=λenv=>(g env).bind λr=>if r.bs.isEmpty=true then some (.lf r.d)else none
theorem zakq{te:TE}{g:EF}(h:SE te g):SEt te (pLf g):=by
 intro fx H0 env σ H hE t e Q q
 unfold pLf at e
 obtain⟨r,er,e⟩:=qA.mp e
 split at e
 ·rename_i hb
  cases e
  have hb:r.bs=[]:=qBd.mp hb
  refine h fx H0 env σ H hE r er Q λv H' s hv=>q v H' [] s ?_ .nil λa z=>by cases z
  unfold NewT
  refine⟨rfl,Rp.same (Offs.sub λb z=>?_) _ hv.rp⟩
  rw[hb]
  exact zpf b (z.elim (λy=>y.elim .inl λx=>by cases x) .inr)
 ·cases e
theorem zaah{L:PyData->V->Prop}{G H:Hp}(hL:∀d v,Rp G d v->L d v):∀{ds:List PyData}{vs:List V},Rps G ds vs->NewTs L H (ds.map .lf) vs []
 | [],vs,h=>by unfold Rps at h;rw[h];exact ziq
 | d::ds,vs,h=>by
  unfold Rps at h
  obtain⟨v,vs',rfl,h1,h2⟩:=h
  exact zhd (a1:=[]) (a2:=[]) (by unfold NewT;exact⟨rfl,hL _ _ h1⟩) (zaah hL h2)
noncomputable def pFr(g:EF):NTF:=λenv=>(g env).bind λr=>if r.bs.isEmpty=true/\r.fr=true then(match r.d with
 | .list ds=>some (.ls (ds.map .lf))
 | _=>none)else none
theorem zkb{te:TE}{g:EF}(h:SE te g):SEt te (pFr g):=by
 intro fx H0 env σ H hE t e Q q
 unfold pFr at e
 obtain⟨r,er,e⟩:=qA.mp e
 split at e
 ·rename_i hb
  have hb1:r.bs=[]:=qBd.mp hb.1
  split at e
  ·rename_i ds ed
   cases e
   refine h fx H0 env σ H hE r er Q λv H' s hv=>?_
   obtain⟨a,h1,h2,h3⟩:=hv.fr hb.2
   rw[ed]at h3
   obtain⟨xs,k1,k2⟩:=h3
   refine q v H' [a] s ?_ (qo.mpr ⟨(λz=>by cases z),qA5⟩) λb z=>by
    rcases qP.mp z with rfl|z
    ·exact h2
    ·cases z
   unfold NewT
   refine⟨a,xs,[],h1,k1,rfl,zaah (λd w y=>Rp.same (Offs.sub λb z=>?_) d y) k2⟩
   rw[hb1]
   rcases z with(z|z)|z
   ·exact .inl (zpf b (.inl z))
   ·exact .inr (by rcases qP.mp z with z|z;exact z;cases z)
   ·exact .inl (zpf b (.inr z))
  ·cases e
 ·cases e
noncomputable def zra:NTFs:=λ_=>some []
theorem zaex:SAt tNil zra:=by
 intro fx H0 env σ H hE t e Q q
 cases e
 exact q [] H [] (Same.refl _) ziq .nil λa z=>by cases z
noncomputable def zdr(g:NTF)(k:NTFs):NTFs:=λenv=>(g env).bind λt=>(k env).map λts=>t::ts
theorem zakr{as bs:List Addr}{H:Hp}(h1:as.Nodup)(h2:bs.Nodup)(hl:∀a∈as,∃o,H a=some o)(hn:∀a∈bs,H a=none):(as++bs).Nodup:=
 qAT.mpr ⟨h1,h2,λa ha b hb e=>by obtain⟨o,eo⟩:=hl a ha;rw[e,hn b hb]at eo;cases eo⟩
theorem zasb{p q r s t:Prop}(h:q↔r\/s):(p\/q)\/t↔((p\/r)\/s)\/t:=by rw[h,or_assoc (a:=p) (b:=r) (c:=s)]
theorem zlw{te:TE}{ta:TA}{g:NTF}{k:NTFs}(h1:SEt te g)(h2:SAt ta k):SAt (tCons te ta) (zdr g k):=by
 intro fx H0 env σ H hE t e Q q
 unfold zdr at e
 obtain⟨t1,e1,e⟩:=qA.mp e
 obtain⟨ts,e2,rfl⟩:=qE.mp e
 refine h1 fx H0 env σ H hE t1 e1 _ λv H1 as1 s1 n1 d1 f1=>?_
 have l1:=NewT.live t1 n1
 refine h2 _ H0 env σ H1 (hE.more s1 f1 l1) ts e2 _ λvs H2 as2 s2 n2 d2 f2=>?_
 have sw:∀b,(fx b\/b∈as1++as2)\/own env σ b↔((fx b\/b∈as1)\/b∈as2)\/own env σ b:=λb=>zasb qV
 refine q (v::vs) H2 (as1++as2) (s1.trans s2) (zhd (NewT.mono (λd w y=>Rp.same (Same.trans (zaew s2 f2) (Offs.sub λb z=>(sw b).mp z)) d y) t1 n1 λa _ o z=>s2 a o z) (NewTs.mono (λd w y=>Rp.same (Offs.sub λb z=>(sw b).mp z) d y) ts n2 λ_ _ _ z=>z)) (zakr d1 d2 l1 f2) λa ha=>?_
 exact(qV.mp ha).elim (f1 a) λz=>s1.free (f2 a z)
noncomputable def pTup(k:NTFs):NTF:=λenv=>(k env).bind λts=>if ts.length<=100000 then some (.tp ts)else none
theorem zaey{ta:TA}{k:NTFs}(h:SAt ta k):SEt (tTup ta) (pTup k):=by
 intro fx H0 env σ H hE t e Q q
 unfold pTup at e
 obtain⟨ts,e1,e⟩:=qA.mp e
 split at e
 ·rename_i hl
  cases e
  refine h fx H0 env σ H hE ts e1 _ λvs H1 as1 s1 n1 d1 f1=>⟨zfj (by rw[<- zpq n1];exact hl),λp hp=>?_⟩
  have l1:=NewTs.live ts n1
  have np:p∉as1:=λz=>by obtain⟨o,eo⟩:=l1 p z;rw[hp]at eo;cases eo
  refine q _ _ (p::as1) (s1.trans (Same.new hp)) ?_ (qo.mpr ⟨np,d1⟩) λa ha=>by
   rcases qP.mp ha with rfl|ha
   ·exact s1.free hp
   ·exact f1 a ha
  unfold NewT
  refine⟨p,vs,as1,rfl,zap,rfl,NewTs.mono (λd w y=>Rp.same (Offs.mono (Same.new hp) λb o e n z=>?_) d y) ts n1 λa _ o z=>Same.new hp a o z⟩
  rcases z with(z|z)|z
  ·exact n (.inl (.inl z))
  ·rcases qP.mp z with rfl|z
   ·rw[hp]at e;cases e
   ·exact n (.inl (.inr z))
  ·exact n (.inr z)
 ·cases e
noncomputable def zfm(fz:List Nat)(i:Nat)(g:NTF):SFs:=λenv st=>(g (frzs env fz)).bind λt=>if i<env.length then some (.nx ((frzs env fz).set i .no) (zaev ⟨st.sl,st.hp++(al t st.hp.length).2⟩ env.length i (al t st.hp.length).1))else none
theorem zaiv{env:DEnv}{i j:Nat}(h:env[j]?=some .no):(frz1 env i)[j]?=some .no:=by
 unfold frz1
 split
 ·rename_i d e
  rw[qY λz=>by subst z;rw[h]at e;cases e]
  exact h
 ·exact h
theorem zaez:∀(bs:List Nat){env:DEnv}{j:Nat},env[j]?=some .no->(frzs env bs)[j]?=some .no
 | [],_,_,h=>h
 | i::bs,_,_,h=>zaez bs (zaiv h)
theorem zaai{σ:St}:∀{fz:List Nat}{env:DEnv}(a:Addr),own (frzs env fz) σ a->own env σ a
 | [],_,_,h=>h
 | i::fz,env,a,h=>zzw a (zaai (fz:=fz) (env:=frz1 env i) a h)
theorem SymOk.frzs{fx:Addr->Prop}{as:List Addr}{H0:Hp}{env:DEnv}{σ:St}{H:Hp}{st:SyT}(h:SymOk fx as H0 env σ H st)(fz:List Nat):SymOk fx as H0 (frzs env fz) σ H st:=by
 have so:Same (OffT (λb=>fx b\/own env σ b) H) (OffT (λb=>fx b\/own (L2.frzs env fz) σ b) H):=OffT.sub λb z=>z.imp id (zaai b)
 exact⟨h.ok.frzs fz,h.nd,h.len,h.off,h.low,λn s a e1 e2=>(h.nod n s a e1 e2).mono (λ_ z=>z) λ_ _ z=>z.same so,λi x e=>let⟨h1,v,h2,h3⟩:=h.sl i x e;⟨zaez _ h1,v,h2,h3.same so⟩⟩
theorem zft{te:TE}{g:NTF}{fz:List Nat}{i:Nat}(h1:SEt te g):SSs (tAsg te (gName i)) (zfm fz i g):=by
 rintro B H0 env σ H st D ⟨fx,as,k,kb⟩ o e q
 unfold zfm at e
 obtain⟨t,et,e⟩:=qA.mp e
 split at e
 ·rename_i hi
  cases e
  have k':=k.frzs fz
  refine h1 fx H0 _ σ H k'.ok t et _ λv H' as1 s n d f=>?_
  obtain⟨g1,g2⟩:=k'.intro s (NewT.mono (λd w y=>Rp.same (OffT.offs _ _) d y) t n λ_ _ _ z=>z) d f
  have:=g1.setSy g2 (i:=i) (by rw[zsu];exact hi)
  rw[zsu]at this
  exact q _ H' ⟨_,_,this,kb.grow λa ha=>k.ok.base.free (f a ha)⟩
 ·cases e
noncomputable def zrb(g:GT)(t:TF)(e:NTF)(env:DEnv):List PyData->Option (List NT)
 | []=>some []
 | d::ds=>(g d env).bind λe1=>(t e1).bind λb=>if b=true then(e e1).bind λr=>(zrb g t e env ds).map λrs=>r::rs else zrb g t e env ds
noncomputable def zvm(own:List Str)(fr:List Nat)(fi:IF')(g:GT)(t:TF)(e:NTF):NTF:=λenv=>(fi env).bind λz=>if z.1.length<100000/\z.2.isEmpty=true/\(capA fr env).isEmpty=true then
 (zrb g t e (envB own fr env) z.1).map .ls else none
theorem zana{p:Prop}{as bs:List Addr}{b:Addr}:(p\/b∈as)\/b∈bs↔p\/b∈as++bs:=by rw[qV,or_assoc]
theorem zaiw{own:List Str}{fr:List Nat}{wi:TI}{g:TG}{tt:TT}{te:TE}{fi:IF'}{gf:GT}{t:TF}{e:NTF}(h1:SI wi fi)(h2:SG g gf)(hx:GX own.length gf)(h3:ST tt t)(h4:SEt te e) :
  SEt (tComp1 wi g tt te own fr) (zvm own fr fi gf t e):=by
 intro fx H0 env σ H h rr hr Q q
 unfold zvm at hr
 obtain⟨⟨ds,bs⟩,ei,hr⟩:=qA.mp hr
 split at hr
 ·rename_i hc
  obtain⟨hlen,hb1,hb2⟩:=hc
  have hlen:ds.length<100000:=hlen
  have hb1:bs=[]:=qBd.mp hb1
  have hb2:=qBd.mp hb2
  subst hb1
  obtain⟨rs,ers,rfl⟩:=qE.mp hr
  refine h1 fx H0 env σ H h ds [] ei _ λJ H1 s yl=>λp hp=>?_
  have hB:=zpm h s hp own fr []
  rw[hb2]at hB
  generalize hA:(λb=>lim fx env σ ([]++[]) b)=A
  have hA':∀b,fx b\/L2.own env σ b↔A b:=λb=>by rw[<- hA];exact⟨zpf b,zmo b⟩
  have eA:(λb=>lim fx env σ ([]++[]) b\/b=p)=λb=>(A b\/b=p)\/b∈([]:List Addr):=by
   funext b;rw[<- hA];exact propext ⟨.inl,λz=>z.elim id λy=>by cases y⟩
  rw[eA]at hB
  have seen:∀{σ':St}{H':Hp}{as:List Addr},EnvOk (λb=>(A b\/b=p)\/b∈as) H1 (envB own fr env) σ' H'->(∀a∈as,H1 a=none/\a≠p)->Same (Offs (λb=>fx b\/L2.own (frzs env []) σ b) H1) (Offs (λb=>(A b\/b=p)\/b∈as) H'):=λ{σ' H' as} hE ha=>Offs.mono hE.base λb o eo n z=>by
   rcases z with(z|z)|z
   ·exact n ((hA' b).mpr z)
   ·rw[z,hp]at eo;cases eo
   ·rw[(ha b z).1]at eo;cases eo
  refine⟨λi m σ' H'=>m=ds.length - i/\i<=ds.length/\∃vs done rest as,H' p=some (.lst vs)/\NewTs (Rp (Offs (λb=>(A b\/b=p)\/b∈as) H')) H' done vs as/\as.Nodup/\(∀a∈as,H1 a=none/\a≠p)/\done.length<=i/\zrb gf t e (envB own fr env) (ds.drop i)=some rest/\done++rest=rs/\EnvOk (λb=>(A b\/b=p)\/b∈as) H1 (envB own fr env) σ' H',
   ⟨ds.length,rfl,qAU _,[],[],rs,[],zap,ziq,.nil,λa z=>by(cases z),qAU _,ers,rfl,hB⟩,?_⟩
  rintro i m σ' H' ⟨rfl,hi,vs,done,rest,as,ep,rd,nd,ha,dl,ec,edr,hE⟩
  obtain⟨yi,ys⟩:=yl _ H' hE.fxs (seen hE ha)
  by_cases hlt:i<ds.length
  ·obtain⟨yg,yy⟩:=yi i ds[i] (qL hlt)
   refine .inr ⟨yg,λσ'' H''=>i+1<=ds.length/\∃vs done rest as,H'' p=some (.lst vs)/\NewTs (Rp (Offs (λb=>(A b\/b=p)\/b∈as) H'')) H'' done vs as/\as.Nodup/\(∀a∈as,H1 a=none/\a≠p)/\done.length<=i+1/\zrb gf t e (envB own fr env) (ds.drop (i+1))=some rest/\done++rest=rs/\EnvOk (λb=>(A b\/b=p)\/b∈as) H1 (envB own fr env) σ'' H'',?_,?_⟩
   ·rintro σ'' H'' ⟨hle,hh⟩
    exact⟨ds.length - (i+1),by omega,rfl,hle,hh⟩
   ·intro x H'' hy
    obtain⟨sy,ry⟩:=yy x H'' hy
    rw[qAi hlt]at ec
    obtain⟨e1,ee1,ec⟩:=qA.mp ec
    obtain⟨b,eb,ec⟩:=qA.mp ec
    have ry':Rp (Offs (λa=>((A a\/a=p)\/a∈as)\/L2.own (envB own fr env) σ' a) H'') ds[i] x:=Rp.same (Offs.sub λb z=>z.elim (λy=>y) λ⟨j,d',z,_⟩=>absurd z zgb) _ ry
    refine h2 _ H1 (envB own fr env) σ' H'' _ x (hE.up sy) ry' e1 ee1 _ λσ2 hE2=>?_
    refine h3 _ H1 e1 σ2 H'' hE2 b eb _ λH3 s3=>?_
    have hE3:=hE2.up s3
    obtain⟨gl,gk⟩:=hx _ _ _ ee1
    have back:∀{fx':Addr->Prop}{H4:Hp},EnvOk fx' H1 e1 σ2 H4->EnvOk fx' H1 (envB own fr env) σ2 H4:=λ{fx' H4} hh=>hh.weaken gl.symm (λj d' ej=>by
     by_cases hj:own.length<=j
     ·rw[gk j hj];exact ej
     ·obtain⟨_,k,rfl,_⟩:=zot ej;omega) λj d'=>zgb
    cases b with
    | false=>
     have ec:zrb gf t e (envB own fr env) (ds.drop (i+1))=some rest:=ec
     exact iteF ⟨hlt,vs,done,rest,as,s3 _ _ (sy _ _ ep),NewTs.mono (λd w y=>Rp.same (Offs.grow (sy.trans s3)) d y) done rd λa _ o z=>s3 a o (sy a o z),nd,ha,qB2 dl,ec,edr,back hE3⟩
    | true=>
     have ec:((e e1).bind λr=>(zrb gf t e (envB own fr env) (ds.drop (i+1))).map λrs=>r::rs)=some rest:=ec
     obtain⟨r,er,ec⟩:=qA.mp ec
     obtain⟨rest',er',rfl⟩:=qE.mp ec
     refine iteT (h4 _ H1 e1 σ2 H3 hE3 r er _ λv H4 as1 s4 n1 d1 f1=>?_)
     have t3:=sy.trans s3
     have t4:=t3.trans s4
     have l1:=NewT.live r n1
     have l0:=NewTs.live done rd
     have p3:H3 p=some (.lst vs):=t3 _ _ ep
     have np:∀a∈as1,a≠p:=λa z y=>by rw[y]at z;rw[f1 p z]at p3;cases p3
     have eF:(λb=>((A b\/b=p)\/b∈as)\/b∈as1)=λb=>(A b\/b=p)\/b∈as++as1:=funext λb=>propext zana
     have hE4:=back (hE3.more s4 f1 l1)
     rw[eF]at hE4
     refine⟨vs,t4 _ _ ep,zih (by rw[<- zpq rd];omega),hlt,vs++[v],done++[r],rest',as++as1,zap,?_,zakr nd d1 (λa z=>let⟨o,eo⟩:=l0 a z;⟨o,t3 a o eo⟩) f1,λa z=>?_,by rw[qJ];simp;omega,er',by rw[<- edr];simp,hE4.updFx (.inl (.inr rfl)) hp⟩
     ·rw[Offs.upd (.inl (.inr rfl))]
      refine zvl (NewTs.mono (λd w y=>Rp.same (Offs.mono t4 λb o eo n z=>?_) d y) done rd λa z o eo=>?_) (by
       rw[show as1=as1++[] by simp]
       refine zhd (NewT.mono (λd w y=>Rp.same (Offs.sub λb z=>?_) d y) r n1 λa z o eo=>?_) ziq
       ·rw[qr]at z;exact .inl (zana.mpr z)
       ·rw[zau (np a z)];exact eo)
      ·rcases zana.mpr z with z|z
       ·exact n z
       ·have y:=f1 b z;rw[t3 b o eo]at y;cases y
      ·rw[zau (ha a z).2];exact t4 a o eo
     ·rcases qV.mp z with z|z
      ·exact ha a z
      ·exact⟨hE3.base.free (f1 a z),np a z⟩
  ·have hi':i=ds.length:=by omega
   subst hi'
   rw[qA0]at ec
   cases ec
   rw[qr]at edr
   subst edr
   refine .inl ⟨ys,q _ H' (p::as) (s.trans hE.base) ?_ (qo.mpr ⟨λz=>(ha p z).2 rfl,nd⟩) λa z=>?_⟩
   ·unfold NewT
    refine⟨p,vs,as,rfl,ep,rfl,NewTs.mono (λd w y=>Rp.same (Offs.sub λb z=>?_) d y) done rd λ_ _ _ z=>z⟩
    rcases z with(z|z)|z
    ·exact .inl (.inl ((hA' b).mp (.inl z)))
    ·exact(qP.mp z).elim (λy=>.inl (.inr y)) .inr
    ·exact .inl (.inl ((hA' b).mp (.inr z)))
   ·rcases qP.mp z with rfl|z
    ·exact s.free hp
    ·exact s.free (ha a z).1
 ·cases hr
theorem zaix{t:TS}{F:SFs}(hs:SSs t F){fx:Addr->Prop}{env:DEnv}{σ:St}{H0 H1:Hp}{Q:VK}{nx:St->Hp->Prop}(hE:EnvOk fx H0 env σ H1)(e:F env ⟨[],[]⟩=some (.rt (.bool true)))(k:∀H',Q (.bl true) H'):t {nx:=nx,rt:=Q} σ H1:=
 hs ⟨fx,[]⟩ H0 env σ H1 _ _ (HasF.start hE) _ e λv H' s f r=>by
  have r:v=.bl true:=zkk r
  rw[r];exact k H'
noncomputable def ntV(hp:List SN):Nat->SV->Option (NT×List Nat)
 | _,.dt d=>if zdy d=true then some (.lf d,[])else none
 | _,.op _=>none
 | 0,.lo _=>none
 | k+1,.lo n=>match hp[n]? with
  | some (.ls xs)=>(mapO (ntV hp k) xs).map λts=>(.ls (ts.map (·.1)),n::(ts.map (·.2)).flatten)
  | some (.tp xs)=>(mapO (ntV hp k) xs).map λts=>(.tp (ts.map (·.1)),n::(ts.map (·.2)).flatten)
  | none=>none
theorem zps{f:SV->Option (NT×List Nat)}{F:SV->V->Prop}{L:PyData->V->Prop}{H:Hp}{A:Nat->Option Addr}(hf:∀x v t,F x v->f x=some t->∃bs,t.2.mapM A=some bs/\NewT L H t.1 v bs) :
  ∀{xs:List SV}{vs:List V}{ts:List (NT×List Nat)},Paired F xs vs->mapO f xs=some ts->∃bs,(ts.map (·.2)).flatten.mapM A=some bs/\NewTs L H (ts.map (·.1)) vs bs
 | _,_,ts,.nil,e=>by cases e;exact⟨[],rfl,ziq⟩
 | _,_,ts,.cons r t,e=>by
  obtain⟨d,e1,e⟩:=qA.mp e
  obtain⟨ds',e2,rfl⟩:=qE.mp e
  obtain⟨b1,m1,n1⟩:=hf _ _ _ r e1
  obtain⟨b2,m2,n2⟩:=zps hf t e2
  refine⟨b1++b2,?_,zhd n1 n2⟩
  rw[qM,qBC,List.mapM_append,m1,m2]
  rfl
theorem SymOk.nt{fx:Addr->Prop}{as:List Addr}{H0:Hp}{env:DEnv}{σ:St}{H:Hp}{st:SyT}{G:Hp}(h:SymOk fx as H0 env σ H st) :
  ∀(k:Nat)(x:SV)(v:V)(t:NT×List Nat),SVr (OffT (λb=>fx b\/own env σ b) H) as x v->ntV st.hp k x=some t->∃bs,t.2.mapM (λn=>as[n]?)=some bs/\NewT (Rp G) H t.1 v bs
 | k,.dt d,v,t,r,e=>by
  have e:(if zdy d=true then some (NT.lf d,([]:List Nat))else none)=some t:=by cases k<;>exact e
  split at e
  ·rename_i hr
   cases e
   refine⟨[],rfl,?_⟩
   unfold NewT
   exact⟨rfl,zpg hr r⟩
  ·cases e
 | k,.op u,v,t,r,e=>by cases k<;>cases e
 | 0,.lo n,v,t,r,e=>by cases e
 | k+1,.lo n,v,t,⟨a,h1,h2⟩,e=>by
  subst h2
  have ih:=h.nt (G:=G) k
  unfold ntV at e
  split at e
  ·rename_i xs en
   obtain⟨ts,e1,rfl⟩:=qE.mp e
   obtain⟨vs,g1,g2⟩:=h.nod n _ a en h1
   obtain⟨bs,m1,n1⟩:=zps ih g2 e1
   refine⟨a::bs,?_,?_⟩
   ·dsimp only
    rw[qBT,h1,m1];rfl
   ·unfold NewT;exact⟨a,vs,bs,rfl,g1,rfl,n1⟩
  ·rename_i xs en
   obtain⟨ts,e1,rfl⟩:=qE.mp e
   obtain⟨vs,g1,g2⟩:=h.nod n _ a en h1
   obtain⟨bs,m1,n1⟩:=zps ih g2 e1
   refine⟨a::bs,?_,?_⟩
   ·dsimp only
    rw[qBT,h1,m1];rfl
   ·unfold NewT;exact⟨a,vs,bs,rfl,g1,rfl,n1⟩
  ·cases e
theorem ztc{α β:Type}{f:α->Option β}:∀{xs:List α}{ys:List β},xs.mapM f=some ys->∀y∈ys,∃x∈xs,f x=some y
 | [],ys,e,y,hy=>by cases e;cases hy
 | x::xs,ys,e,y,hy=>by
  rw[qBT]at e
  obtain⟨z,e1,e⟩:=qA.mp e
  obtain⟨zs,e2,e⟩:=qA.mp e
  cases e
  rcases qP.mp hy with rfl|hy
  ·exact⟨x,.head _,e1⟩
  ·obtain⟨w,h1,h2⟩:=ztc e2 y hy;exact⟨w,.tail _ h1,h2⟩
theorem zafa{as:List Addr}(nd:as.Nodup):∀{xs:List Nat}{ys:List Addr},xs.mapM (λn=>as[n]?)=some ys->xs.Nodup->ys.Nodup
 | [],ys,e,_=>by cases e;exact .nil
 | x::xs,ys,e,h=>by
  rw[qBT]at e
  obtain⟨z,e1,e⟩:=qA.mp e
  obtain⟨zs,e2,e⟩:=qA.mp e
  cases e
  refine qo.mpr ⟨λhz=>?_,zafa nd e2 (qo.mp h).2⟩
  obtain⟨w,h1,h2⟩:=ztc e2 z hz
  exact(qo.mp h).1 (by rw[zaag nd e1 h2];exact h1)
section
variable{fx:Addr->Prop}{as:List Addr}{H0:Hp}{env env':DEnv}{σ σ':St}{H H':Hp}{st:SyT}{B:Bnd}
theorem SymOk.step{f:List Nat}(k:SymOk fx as H0 env σ H st)(h':EnvOk fx (Offs (own env σ) H) env' σ' H')(kp:∀j,j∈f->σ'[j]?=σ[j]?)(hin:slIn f st.sl=true)(hn:noAt env' st.sl=true):SymOk fx as H0 env' σ' H' st:=by
 have fl:=k.ok.floor
 have sn:Same (OffT (λb=>fx b\/own env σ b) H) (OffT (λb=>fx b\/own env' σ' b) H'):=λb o e=>by
  obtain⟨e1,z⟩:=OffT.of e
  rcases z with z|⟨xs,rfl⟩
  ·exact OffT.offs _ _ b o (h'.seen b o (by rw[Offs.get z];exact e1))
  ·have nb:¬own env σ b:=λ⟨i,d,g1,g2⟩=>by
    obtain⟨a,k1,k2,k3,k4⟩:=k.ok.ac i d g1
    rw[g2]at k1
    cases k1
    cases d with
    | list ds=>obtain⟨ys,k5,_⟩:=k4;rw[e1]at k5;cases k5
    | dict ds=>obtain⟨ys,k5,_⟩:=k4;rw[e1]at k5;cases k5
    | _=>exact k4
   exact OffT.tup (h'.base b _ (by rw[Offs.get nb];exact e1))
 exact⟨h'.unbase fl,k.nd,k.len,k.off,k.low,λn s a e1 e2=>(k.nod n s a e1 e2).mono (λo z=>h'.base a o (by rw[Offs.get (k.ok.notOwn (k.off a (qj e2)))];exact z)) λ_ _ z=>z.same sn,
  λi x e=>let⟨_,v,h2,h3⟩:=k.sl i x e;⟨zaet hn e,v,(kp i (zaes hin e)).trans h2,h3.same sn⟩⟩
theorem SymOk.rebase(k:SymOk fx as H0 env σ H st):SymOk fx as (Offs (λb=>own env σ b\/b∈as) H) env σ H st:=
 ⟨⟨k.ok.len,k.ok.pl,λi d e=>let⟨a,h1,_,h3,h4⟩:=k.ok.ac i d e;⟨a,h1,Offs.out (.inl ⟨i,d,e,h1⟩),h3,h4⟩,k.ok.inj,Offs.same _ _,k.ok.fxs⟩,k.nd,k.len,k.off,λa ha=>Offs.out (.inr ha),k.nod,k.sl⟩
theorem SymOk.floor(k:SymOk fx as H0 env σ H st):Same H0 (Offs (λb=>own env σ b\/b∈as) H):=λb o e=>by
 rw[Offs.get]
 ·exact k.ok.base b o e
 ·rintro(⟨i,d,h1,h2⟩|z)
  ·obtain⟨a,g1,g2,_⟩:=k.ok.ac i d h1
   rw[h2]at g1
   cases g1
   rw[g2]at e;cases e
  ·rw[k.low b z]at e;cases e
theorem HasF.unbase{F0:Hp}(h:HasF ⟨fx,as⟩ F0 env σ H st)(s:Same H0 F0)(kb:BndOk B H0 fx as):HasF B H0 env σ H st:=by
 obtain⟨fx',as',k,b⟩:=h
 refine⟨fx',as',⟨k.ok.unbase s,k.nd,k.len,k.off,λa ha=>s.free (k.low a ha),k.nod,k.sl⟩,λc z=>b.lo c (kb.lo c z),λc z=>?_,kb.pre.trans b.pre⟩
 rcases b.up c z with y|y
 ·exact kb.up c y
 ·exact .inr (s.free y)
end
noncomputable def forY(J:List Nat)(gf:GT)(body:SFs):List PyData->SFs
 | [],env,st=>some (.nx env st)
 | d::ds,env,st=>(gf d env).bind λe1=>if noAt e1 st.sl=true/\slIn J st.sl=true then(body e1 st).bind λo=>match o with
  | .nx e2 s2=>forY J gf body ds e2 s2
  | .ct e2 s2=>forY J gf body ds e2 s2
  | .bk e2 s2=>some (.nx e2 s2)
  | .rt d=>some (.rt d)
  else none
noncomputable def yFor(J:List Nat)(f:IF')(gf:GT)(body:SFs):SFs:=λenv st=>(f env).bind λz=>forY J gf body z.1 (frzs env z.2) st
theorem zanb{J:List Nat}{wi:TI}{g:TG}{tb:TS}{f:IF'}{gf:GT}{body:SFs}(h1:SI wi f)(h2:SGk (λj=>j∈J) g gf)(h3:SSs tb body):SSs (tFor wi g tb) (yFor J f gf body):=by
 rintro B H0 env σ H st D ⟨fx,as,k,kb⟩ o e q
 unfold yFor at e
 obtain⟨⟨ds,bs⟩,er,e⟩:=qA.mp e
 dsimp only at e
 refine h1 fx H0 env σ H k.ok ds bs er _ λI H1 s yl=>?_
 have kf:=(k.up s).frzs bs
 have fl:=kf.floor
 refine⟨λi m σ' H'=>m=ds.length - i/\i<=ds.length/\∃env' st',forY J gf body (ds.drop i) env' st'=some o/\HasF ⟨fx,as⟩ (Offs (λb=>own (frzs env bs) σ b\/b∈as) H1) env' σ' H' st',⟨ds.length,rfl,qAU _,_,_,e,fx,as,kf.rebase,.rfl'⟩,?_⟩
 rintro i m σ' H' ⟨rfl,hi,env',st',e',hF⟩
 have hF0:=hF
 obtain⟨fx',as',k',kb'⟩:=hF
 have seen:Same (Offs (λb=>fx b\/own (frzs env bs) σ b) H1) (Offs (λb=>fx' b\/own env' σ' b) H'):=λb o eb=>by
  obtain⟨n,e1⟩:=Offs.of eb
  have e0:Offs (λb=>own (frzs env bs) σ b\/b∈as) H1 b=some o:=by
   rw[Offs.get λz=>z.elim (λy=>n (.inr y)) λy=>n (.inl (k.off b y))];exact e1
  rw[Offs.get]
  ·exact k'.ok.base b o e0
  ·rintro(z|⟨j,d,g1,g2⟩)
   ·rcases kb'.up b z with y|y
    ·exact n (.inl y)
    ·rw[e0]at y;cases y
   ·obtain⟨a,q1,q2,_⟩:=k'.ok.ac j d g1
    rw[g2]at q1
    cases q1
    rw[q2]at e0;cases e0
 obtain⟨yi,ys⟩:=yl _ H' k'.ok.all seen
 by_cases hlt:i<ds.length
 ·obtain⟨yg,yy⟩:=yi i ds[i] (qL hlt)
  refine .inr ⟨yg,λσ'' H''=>i+1<=ds.length/\∃env'' st'',forY J gf body (ds.drop (i+1)) env'' st''=some o/\HasF ⟨fx,as⟩ (Offs (λb=>own (frzs env bs) σ b\/b∈as) H1) env'' σ'' H'' st'',?_,?_⟩
  ·rintro σ'' H'' ⟨hle,hh⟩
   exact⟨ds.length - (i+1),by omega,rfl,hle,hh⟩
  ·intro x H'' hy
   obtain⟨sy,ry⟩:=yy x H'' hy
   rw[qAi hlt]at e'
   obtain⟨e1,ee1,e'⟩:=qA.mp e'
   split at e'
   ·rename_i hc
    obtain⟨o1,eo1,e'⟩:=qA.mp e'
    have ku:=k'.up sy
    refine h2 fx' _ env' σ' H'' _ x ku.ok.rebase ry e1 ee1 _ λσ2 hE2 kp=>?_
    refine h3 ⟨fx,as⟩ _ e1 σ2 H'' st' _ ⟨fx',as',ku.step hE2 kp hc.2 hc.1,kb'⟩ o1 eo1 ?_
    cases o1 with
    | nx e2 s2=>exact λσ3 H3 hh=>⟨hlt,e2,s2,e',hh⟩
    | ct e2 s2=>exact λσ3 H3 hh=>⟨hlt,e2,s2,e',hh⟩
    | bk e2 s2=>cases e';exact λσ3 H3 hh=>q σ3 H3 (hh.unbase fl kb)
    | rt d=>cases e';exact λv H3 sh ff rt=>q v H3 (fl.trans sh) ff rt
   ·cases e'
 ·have hi':i=ds.length:=by omega
  subst hi'
  rw[qA0]at e'
  cases e'
  exact .inl ⟨ys,q σ' H' (hF0.unbase fl kb)⟩
section
variable{fx:Addr->Prop}{as:List Addr}{H0:Hp}{env:DEnv}{σ:St}{H H':Hp}{st:SyT}
theorem SymOk.tupN (h:SymOk fx as H0 env σ H st) {p:Addr} (hp:H p=none) {xs:List SV} {vs:List V} (r:Paired (SVr (OffT (λb=>fx b\/own env σ b) H) as) xs vs) :
  SymOk (λb=>fx b\/b∈[p]) (as++[p]) H0 env σ (upd H p (.tup vs)) ⟨st.sl,st.hp++[.tp xs]⟩:=by
 have s:Same H (upd H p (.tup vs)):=Same.new hp
 have hn:∀a∈[p],H a=none:=λa ha=>by rw[qf.mp ha];exact hp
 have so:=zpr (A:=own env σ) (fx:=fx) s hn
 refine⟨h.ok.more s hn (λa ha=>⟨.tup vs,by rw[qf.mp ha];exact zap⟩),?_,by rw[qJ,qJ,h.len];rfl,λa ha=>(qV.mp ha).imp (h.off a) id,λa ha=>(qV.mp ha).elim (h.low a) λz=>h.ok.base.free (hn a z),λn x a e1 e2=>?_,λi x e=>?_⟩
 ·refine qAT.mpr ⟨h.nd,by simp,λa ha b hb e=>?_⟩
  obtain⟨o,eo⟩:=h.ok.fxs a (h.off a ha)
  rw[e,hn b hb]at eo;cases eo
 ·by_cases lt:n<st.hp.length
  ·rw[qI lt]at e1
   rw[qI (by rw[h.len];exact lt)]at e2
   exact(h.nod n x a e1 e2).mono (λo z=>s a o z) λ_ _ z=>(z.same so).ext
  ·rw[qH (by omega)]at e1
   rw[qH (by rw[h.len];omega),h.len]at e2
   cases hm:n - st.hp.length with
   | zero=>
    rw[hm]at e1 e2
    cases e1
    cases e2
    exact⟨vs,zap,Paired.mapP r λ_ _ z=>(z.same so).ext⟩
   | succ m=>rw[hm]at e1;cases e1
 ·obtain⟨h1,w,h2,h3⟩:=h.sl i x e
  exact⟨h1,w,h2,(h3.same so).ext⟩
end
noncomputable def zkc(g k1 k2:YF):SFs:=λenv st=>(g env st).bind λx=>(lsAt st.hp x).bind λp=>if p.2.length<100000 then(k1 env st).bind λy=>(k2 env st).bind λz=>
 some (.nx env ⟨st.sl,(st.hp++[SN.tp [y,z]]).set p.1 (SN.ls (p.2++[SV.lo st.hp.length]))⟩)else none
theorem zvn{K:qC}{ta t1 t2:TE}{g k1 k2:YF}(h0:SYe ta g)(h1:SYe t1 k1)(h2:SYe t2 k2):SSs (tDrop (tBM K "list" zmj ta (tCons (tTup (tCons t1 (tCons t2 tNil))) tNil))) (zkc g k1 k2):=by
 rintro B H0 env σ H st D ⟨fx,as,k,kb⟩ o e q
 unfold zkc at e
 obtain⟨x,ex,e⟩:=qA.mp e
 obtain⟨⟨n,xs⟩,ep,e⟩:=qA.mp e
 dsimp only at e
 split at e
 ·rename_i hl
  obtain⟨y,ey,e⟩:=qA.mp e
  obtain⟨z,ez,e⟩:=qA.mp e
  cases e
  obtain⟨rfl,en⟩:=ztb ep
  refine h0 fx as H0 env σ H st k _ ex _ λv H1 s1 r1=>?_
  obtain⟨a,ga,rfl⟩:=r1
  obtain⟨vs,k1',k2'⟩:=(k.up s1).nod n _ a en ga
  refine⟨.inl ⟨rfl,vs,SqL.of k1'⟩,h1 fx as H0 env σ H1 st (k.up s1) y ey _ λw H2 s2 r2=>h2 fx as H0 env σ H2 st ((k.up s1).up s2) z ez _ λu H3 s3 r3=>⟨zfj (by show 2<=100000;decide),λp hp=>?_⟩⟩
  have ku:=((k.up s1).up s2).up s3
  have kt:=ku.tupN hp (.cons (r2.same (OffT.grow s3)) (.cons r3 .nil))
  have hn:n<st.hp.length:=(qK.mp en).1
  have en2:(st.hp++[SN.tp [y,z]])[n]?=some (.ls xs):=by rw[qI hn];exact en
  have ga2:(as++[p])[n]?=some a:=by rw[qI (by rw[k.len];exact hn)];exact ga
  obtain⟨us,k3,k4⟩:=kt.nod n _ a en2 ga2
  refine⟨a,us,_,rfl,rfl,k3,zih (by rw[<- zfw k4];exact hl),q σ _ ⟨_,_,kt.write ga2 en2 (zhc k4 (.cons ?_ .nil)),kb.grow λa ha=>?_⟩⟩
  ·exact⟨p,by rw[<- k.len,qH (qO _),qB6];rfl,rfl⟩
  ·rw[qf.mp ha]
   exact ku.ok.base.free hp
 ·cases e
noncomputable def zafb(j:Nat)(g:YF)(t:EFs):SFs:=λenv st=>(g env st).bind λx=>(lsAt st.hp x).bind λp=>(t env st).bind λd=>match d with
 | .int i=>(ixN p.2.length i).bind λm=>(p.2[m]?).bind λy=>if p.2.length<=100000/\j<env.length then some (.nx (env.set j .no) (zaev ⟨st.sl,st.hp.set p.1 (.ls (p.2.eraseIdx m))⟩ env.length j y))else none
 | _=>none
theorem zaiy{K:qC}{ta tb:TE}{j:Nat}{g:YF}{t:EFs}(h1:SYe ta g)(h2:SEs tb t):SSs (tAsg (tBM K "list" zacz ta (tCons tb tNil)) (gName j)) (zafb j g t):=by
 rintro B H0 env σ H st D ⟨fx,as,k,kb⟩ o e q
 unfold zafb at e
 obtain⟨x,ex,e⟩:=qA.mp e
 obtain⟨⟨n,xs⟩,ep,e⟩:=qA.mp e
 obtain⟨d,ed,e⟩:=qA.mp e
 dsimp only at e
 cases d with
 | int i=>
  dsimp only at e
  obtain⟨m,ej,e⟩:=qA.mp e
  obtain⟨y,ey,e⟩:=qA.mp e
  split at e
  ·rename_i hl
   cases e
   obtain⟨rfl,en⟩:=ztb ep
   refine h1 fx as H0 env σ H st k _ ex _ λv H1 s1 r1=>?_
   obtain⟨a,ga,rfl⟩:=r1
   obtain⟨vs,k1,k2⟩:=(k.up s1).nod n _ a en ga
   refine⟨.inl ⟨rfl,vs,SqL.of k1⟩,h2 B H0 env σ H1 st ⟨fx,as,k.up s1,kb⟩ _ ed _ λw H2 s2 r2=>?_⟩
   cases zdv r2
   have ku:=(k.up s1).up s2
   obtain⟨us,k3,k4⟩:=ku.nod n _ a en ga
   have hlen:=zfw k4
   obtain⟨c1,c2,c3,c4⟩:=zacx ej
   obtain⟨u,k5,k6⟩:=zms k4 ey
   have kw:=ku.write ga en (znp k4 m)
   have hT:OffT (λb=>fx b\/own env σ b) (upd H2 a (.lst (us.eraseIdx m)))=OffT (λb=>fx b\/own env σ b) H2:=OffT.upd (.inl (k.off a (qj ga))) k3
   refine⟨a,us,i,m,u,rfl,rfl,k3,by omega,by omega,by rw[<- hlen];exact c1,k5,q _ _ ⟨fx,as,kw.setSy (x:=y) (v:=u) (by rw[hT];exact k6) hl.2,kb⟩⟩
  ·cases e
 | _=>cases e
section
variable{fx:Addr->Prop}{as:List Addr}{H0:Hp}{env:DEnv}{σ:St}{H H':Hp}{st:SyT}
theorem SymOk.introS (h:SymOk fx as H0 env σ H st) (s:Same H H') {ts:List NT} {vs:List V} {as1:List Addr} (k:NewTs (Rp (OffT (λb=>(fx b\/b∈as1)\/own env σ b) H')) H' ts vs as1) (nd:as1.Nodup) (hn:∀a∈as1,H a=none) :
  SymOk (λb=>fx b\/b∈as1) (as++as1) H0 env σ H' ⟨st.sl,st.hp++(als ts st.hp.length).2⟩/\Paired (SVr (OffT (λb=>(fx b\/b∈as1)\/own env σ b) H') (as++as1)) (als ts st.hp.length).1 vs:=by
 have hl:=NewTs.live ts k
 have so:=zpr (A:=own env σ) (fx:=fx) s hn
 obtain⟨g1,g2,g3⟩:=als_ok ts k st.hp.length (as++as1) λj a e=>by
  rw[<- h.len,qH (qAY _ _),qy];exact e
 refine⟨⟨h.ok.more s hn hl,?_,by rw[qJ,qJ,h.len,g1],λa ha=>?_,λa ha=>?_,λn x a e1 e2=>?_,λi x e=>?_⟩,g2⟩
 ·refine qAT.mpr ⟨h.nd,nd,λa ha b hb e=>?_⟩
  obtain⟨o,eo⟩:=h.ok.fxs a (h.off a ha)
  rw[e,hn b hb]at eo;cases eo
 ·exact(qV.mp ha).imp (h.off a) id
 ·exact(qV.mp ha).elim (h.low a) λz=>h.ok.base.free (hn a z)
 ·by_cases lt:n<st.hp.length
  ·rw[qI lt]at e1
   rw[qI (by rw[h.len];exact lt)]at e2
   exact(h.nod n x a e1 e2).mono (λo z=>s a o z) λ_ _ z=>(z.same so).ext
  ·rw[qH (by omega)]at e1
   rw[qH (by rw[h.len];omega),h.len]at e2
   exact g3 _ x a e1 e2
 ·obtain⟨h1,w,h2,h3⟩:=h.sl i x e
  exact⟨h1,w,h2,(h3.same so).ext⟩
noncomputable abbrev zpt(hp:List SN)(n:Nat):List SN:=hp.set n (.ls [.op .non])
theorem SymOk.rdOff(h:SymOk fx as H0 env σ H st){n:Nat}{a:Addr}(ha:as[n]?=some a){ys:List SV}(hn:st.hp[n]?=some (.ls ys)) :
  ∀(k:Nat)(x:SV)(v:V)(d:PyData),SVr (OffT (λb=>fx b\/own env σ b) H) as x v->rdV (zpt st.hp n) k x=some d->Rp (Offs (λb=>b=a\/own env σ b) H) d v
 | k,.dt d,v,d',r,e=>by
  have e:some d=some d':=by cases k<;>exact e
  cases e
  refine Rp.same (λb o e=>?_) d r
  obtain⟨e1,z⟩:=OffT.of e
  have e2:=h.offO b o e
  obtain⟨no,_⟩:=Offs.of e2
  rw[Offs.get]
  ·exact e1
  ·rintro(rfl|y)
   ·obtain⟨us,hus,_⟩:=h.nod n _ b hn ha
    rcases z with z|⟨xs,rfl⟩
    ·exact z (.inl (h.off b (qj ha)))
    ·rw[hus]at e1;cases e1
   ·exact no y
 | k,.op u,v,d,r,e=>by cases k<;>cases e
 | 0,.lo m,v,d,r,e=>by cases e
 | k+1,.lo m,v,d,⟨b,h1,h2⟩,e=>by
  subst h2
  have no:¬own env σ b:=h.ok.notOwn (h.off b (qj h1))
  have ih:=h.rdOff ha hn k
  have hlt:n<st.hp.length:=(qK.mp hn).1
  by_cases hm:m=n
  ·subst hm
   unfold rdV at e
   rw[q9 hlt]at e
   dsimp only at e
   have z:mapO (rdV (zpt st.hp m) k) [SV.op .non]=none:=by
    unfold mapO
    rw[show rdV (zpt st.hp m) k (.op .non)=none by cases k<;>rfl]
    rfl
   rw[z]at e
   cases e
  ·have nb:¬(b=a\/own env σ b):=by
    rintro(rfl|y)
    ·exact hm (zaag h.nd h1 ha)
    ·exact no y
   unfold rdV at e
   rw[qY (qAs hm)]at e
   split at e
   ·rename_i xs en
    obtain⟨ds,e1,rfl⟩:=qE.mp e
    obtain⟨vs,g1,g2⟩:=h.nod m _ b en h1
    exact zet (by rw[Offs.get nb];exact g1) (zlu ih g2 e1)
   ·rename_i xs en
    obtain⟨ds,e1,rfl⟩:=qE.mp e
    obtain⟨vs,g1,g2⟩:=h.nod m _ b en h1
    exact zkl (by rw[Offs.get nb];exact g1) (zlu ih g2 e1)
   ·cases e
theorem SymOk.viewOff(h:SymOk fx as H0 env σ H st){n:Nat}{a:Addr}(ha:as[n]?=some a){ys:List SV}(hn:st.hp[n]?=some (.ls ys)):EnvOk (λb=>b=a) H0 (zee (zpt st.hp n) env st.sl) σ H:=by
 have fa:fx a:=h.off a (qj ha)
 have ow:∀b,own (zee (zpt st.hp n) env st.sl) σ b->own env σ b:=λb ⟨i,d,e1,e2⟩=>by
  rcases zgg e1 with⟨x,d',_,_,z⟩|z|z
  ·cases z
  ·exact⟨i,d,z,e2⟩
  ·cases z
 have s1:Same (Offs (λb=>fx b\/own env σ b) H) (Offs (λb=>b=a\/own (zee (zpt st.hp n) env st.sl) σ b) H):=Offs.sub λb z=>z.elim (λy=>.inl (by rw[y];exact fa)) λy=>.inr (ow b y)
 have s2:Same (Offs (λb=>b=a\/own env σ b) H) (Offs (λb=>b=a\/own (zee (zpt st.hp n) env st.sl) σ b) H):=Offs.sub λb z=>z.imp id (ow b)
 have ac:∀(i:Nat)(d:PyData),(zee (zpt st.hp n) env st.sl)[i]?=some (.ac d)->env[i]?=some (.ac d):=λi d e=>by
  rcases zgg e with⟨x,d',_,_,z⟩|z|z
  ·cases z
  ·exact z
  ·cases z
 refine⟨by rw[zpp];exact h.ok.len,λi d e=>?_,λi d e=>?_,λi j d e a h1 h2=>h.ok.inj i j d e a (ac i d h1) (ac j e h2),h.ok.base,λb z=>by rw[z];exact h.ok.fxs a fa⟩
 ·rcases zgg e with⟨x,d',e1,e2,z⟩|z|z
  ·cases z
   obtain⟨_,v,g1,g2⟩:=h.sl i x e1
   exact⟨v,g1,Rp.same s2 _ (h.rdOff ha hn 9 x v _ g2 e2)⟩
  ·obtain⟨v,g1,g2⟩:=h.ok.pl i d z
   exact⟨v,g1,Rp.same s1 _ g2⟩
  ·cases z
 ·obtain⟨b,g1,g2,g3,g4⟩:=h.ok.ac i d (ac i d e)
  exact⟨b,g1,g2,λz=>g3 (by rw[z];exact fa),g4.same s1 λo z=>z⟩
end
noncomputable def spL(n:Nat)(R:List PyData->List NT->Prop):Sp:=λvs H Q _=>∃(fx:Addr->Prop)(ds:List PyData)(ws:List V)(h:Addr)(us:List V)(ts:List NT),vs=ws++[.ref h]/\ds.length=n/\(∀b,fx b->∃o,H b=some o)/\fx h/\H h=some (.lst us)/\us.length<50000/\Rps (Offs fx H) ds ws/\R ds ts/\
 ∀H' as xs,(∀b o,b≠h->H b=some o->H' b=some o)->H' h=some (.lst (us++xs))->(∀G,NewTs (Rp G) H' ts xs as)->as.Nodup->(∀a∈as,H a=none)->Q (.bl true) H'
theorem zanc{n:Nat}{R:List PyData->List NT->Prop}{vs:List V}{H:Hp}{Q:VK}{E:XK}(h:spL n R vs H Q E):vs.length=n+1:=by
 obtain⟨fx,ds,ws,a,us,ts,rfl,h1,_,_,_,_,r,_⟩:=h
 rw[qJ,<- h1,r.length];rfl
noncomputable def zgi(N n:Nat)(F:SFs)(ds:List PyData)(ts:List NT):Prop:=∀ops:List V,ops.length<50000->∃env' st' xs tn,F (zga N ds) ⟨List.replicate n none++[some (.lo 0)],[.ls (ops.map .op)]⟩=some (.nx env' st')/\
 st'.hp[0]?=some (.ls (ops.map .op++xs))/\mapO (ntV st'.hp 9) xs=some tn/\tn.map (·.1)=ts/\(0::(tn.map (·.2)).flatten).Nodup
theorem zrs{Ho:Hp}{as:List Addr}:∀{us:List V}{xs:List SV}{vs:List V},Paired (SVr Ho as) (us.map .op++xs) vs->∃ys,vs=us++ys/\Paired (SVr Ho as) xs ys
 | [],xs,vs,h=>⟨vs,rfl,h⟩
 | u::us,xs,_,.cons r t=>by
  obtain⟨ys,rfl,h⟩:=zrs (us:=us) t
  have r:_=u:=r
  subst r
  exact⟨ys,rfl,h⟩
theorem zrt{Ho:Hp}{as:List Addr}:∀(us:List V),Paired (SVr Ho as) (us.map .op) us
 | []=>.nil
 | u::us=>.cons rfl (zrt us)
theorem zand{N:List Str}{n:Nat}{F:SFs}{tb:TS}{te:TE}(hN:n<N.length)(hs:SSs tb F)(ht:SE te (eC (.bool true))){vs:List V}{H:Hp}{Q:VK}{E:XK}(hh:spL n (zgi N.length n F) vs H Q E) :
  tSeq tb (tRet te) {nx:=λ_ H'=>Q .non H',rt:=Q} (start N vs) H:=by
 obtain⟨fx,ds,ws,h,us,ts,rfl,h1,h2,h3,h4,h5,r,R,q⟩:=hh
 obtain⟨env',st',xs,tn,e1,e2,e3,e4,e5⟩:=R us h5
 have lw:ws.length=n:=by rw[<- r.length];exact h1
 have b0:Same (Offs (λb=>b=h) H) H:=λb o e=>(Offs.of e).2
 have no:∀(i:Nat)(d:PyData),(zga N.length ds)[i]?≠some (Sl.ac d):=λi d e=>by
  rcases zlq e with⟨d',_,z⟩|z<;>cases z
 have ok:EnvOk fx (Offs (λb=>b=h) H) (zga N.length ds) (start N (ws++[.ref h])) H:=by
  refine⟨?_,λi d e=>?_,λi d e=>absurd e (no i d),λi j d e a h1=>absurd h1 (no i d),b0,h2⟩
  ·unfold zga start
   simp only[qJ,qD,qAa,qCn]
   omega
  ·rcases zlq e with⟨d',hd,z⟩|z
   ·cases z
    obtain⟨v,hv,rv⟩:=r.get2 hd
    refine⟨v,?_,Rp.same (Offs.sub λb z=>?_) _ rv⟩
    ·unfold start
     have hi:i<ws.length:=(qK.mp hv).1
     rw[qI (by simp;omega),qS,qI hi,hv];rfl
    ·rcases z with z|⟨i,d,z1,z2⟩
     ·exact z
     ·exact absurd z1 (no i d)
   ·cases z
 have sn:(start N (ws++[.ref h]))[n]?=some (some (.ref h)):=by
  unfold start
  rw[qI (by simp;omega),qS,qH (by omega),lw,qB6];rfl
 have en:(zga N.length ds)[n]?=some .no:=by
  unfold zga
  rw[qH (by simp;omega),qAc,if_pos (by simp;omega)]
 have hlow:Offs (λb=>b=h) H h=none:=by
  cases z:Offs (λb=>b=h) H h with
  | none=>rfl
  | some o=>exact absurd rfl (Offs.of z).1
 have sym:SymOk fx [h] (Offs (λb=>b=h) H) (zga N.length ds) (start N (ws++[.ref h])) H ⟨List.replicate n none++[some (.lo 0)],[.ls (us.map .op)]⟩:=by
  refine⟨ok,by simp,rfl,λa ha=>by rw[qf.mp ha];exact h3,λa ha=>by rw[qf.mp ha];exact hlow,λm s a g1 g2=>?_,λi x e=>?_⟩
  ·cases m with
   | zero=>cases g1;cases g2;exact⟨us,h4,zrt us⟩
   | succ m=>cases g1
  ·by_cases hi:i<n
   ·rw[qI (by simpa using hi),qAc,if_pos hi]at e
    cases e
   ·rw[qH (by simpa using hi),qAa]at e
    cases hm:i - n with
    | zero=>
     rw[hm]at e
     cases e
     have:i=n:=by omega
     subst this
     exact⟨en,_,sn,h,rfl,rfl⟩
    | succ m=>rw[hm]at e;cases e
 refine hs ⟨fx,[h]⟩ _ _ _ H _ _ ⟨fx,[h],sym,.rfl'⟩ _ e1 ?_
 rintro σ' H' ⟨fx',as,k,kb⟩
 refine ht fx' _ env' σ' H' k.ok _ rfl _ λv H2 s vo=>?_
 cases zkk vo.rp
 have ku:=k.up s
 obtain⟨rest,hr⟩:=kb.pre
 have ha:as[0]?=some h:=by rw[<- hr];rfl
 obtain⟨vs',g1,g2⟩:=ku.nod 0 _ h e2 ha
 obtain⟨ys,rfl,g3⟩:=zrs g2
 obtain⟨bs,m1,_⟩:=zps (L:=Rp H2) (H:=H2) (λx v t=>ku.nt (G:=H2) 9 x v t) g3 e3
 have nd:(h::bs).Nodup:=zafa (as:=as) k.nd (xs:=0::(tn.map (·.2)).flatten) (by rw[qBT,ha,m1];rfl) e5
 refine q H2 bs ys (λb o ne e=>ku.ok.base b o (by rw[Offs.get (A:=λb=>b=h) ne];exact e)) g1 (λG=>?_) (qo.mp nd).2 λa ha'=>?_
 ·obtain⟨bs',m2,n2⟩:=zps (L:=Rp G) (H:=H2) (λx v t=>ku.nt (G:=G) 9 x v t) g3 e3
  rw[m1]at m2
  cases m2
  rw[<- e4];exact n2
 ·obtain⟨m,_,hm⟩:=ztc m1 a ha'
  have lo:=k.low a (qj hm)
  have ne:a≠h:=λz=>(qo.mp nd).1 (by rw[<- z];exact ha')
  rw[Offs.get (A:=λb=>b=h) ne]at lo
  exact lo
noncomputable abbrev TFz:=DEnv->SyT->Option (Bool×SyT)
noncomputable def STz(tt:TT)(f:TFz):Prop:=∀(B:Bnd)(H0:Hp)(env:DEnv)(σ:St)(H:Hp)(st:SyT),HasF B H0 env σ H st->∀b st',f env st=some (b,st')->∀Q:Bool->Hp->Prop,(∀H',HasF B H0 env σ H' st'->Q b H')->tt σ H Q
noncomputable def zOf(c:TFs):TFz:=λenv st=>(c env st).map λb=>(b,st)
theorem zaqj{tt:TT}{c:TFs}(h:STs tt c):STz tt (zOf c):=by
 intro B H0 env σ H st hh b st' e Q q
 obtain⟨b',e1,e⟩:=qE.mp e
 cases e
 exact h B H0 env σ H st hh b e1 Q λH' s=>q H' (hh.up s)
noncomputable def zNot(f:TFz):TFz:=λenv st=>(f env st).map λp=>(!p.1,p.2)
theorem zye{t:TT}{f:TFz}(h:STz t f):STz (tNot t) (zNot f):=by
 intro B H0 env σ H st hh b st' e Q q
 obtain⟨p,e1,e⟩:=qE.mp e
 cases e
 exact h B H0 env σ H st hh p.1 p.2 e1 _ λH' k=>q H' k
noncomputable def zOr(f g:TFz):TFz:=λenv st=>(f env st).bind λp=>if p.1=true then some (true,p.2)else g env p.2
theorem zaqk{t u:TT}{f g:TFz}(h:STz t f)(k:STz u g):STz (tOr t u) (zOr f g):=by
 intro B H0 env σ H st hh b st' e Q q
 unfold zOr at e
 obtain⟨⟨b1,s1⟩,e1,e⟩:=qA.mp e
 refine h B H0 env σ H st hh b1 s1 e1 _ λH' h'=>?_
 cases b1 with
 | true=>cases e;exact iteT (q H' h')
 | false=>exact iteF (k B H0 env σ H' s1 h' b st' e Q q)
noncomputable def yIfZ(c:TFz)(a b:SFs):SFs:=λenv st=>(c env st).bind λp=>if p.1=true then a env p.2 else b env p.2
theorem zyf{tc:TT}{t u:TS}{c:TFz}{a b:SFs}(hc:STz tc c)(h1:SSs t a)(h2:SSs u b):SSs (tIfS tc t u) (yIfZ c a b):=by
 intro B H0 env σ H st D hh o e q
 unfold yIfZ at e
 obtain⟨⟨b',s'⟩,eb,e⟩:=qA.mp e
 refine hc B H0 env σ H st hh b' s' eb _ λH' h'=>?_
 cases b' with
 | true=>exact iteT (h1 B H0 env σ H' s' D h' o e q)
 | false=>exact iteF (h2 B H0 env σ H' s' D h' o e q)
noncomputable def SAj(j:Nat)(ta:TA)(f:AF):Prop:=∀(fx:Addr->Prop)(H0:Hp)(env:DEnv)(σ:St)(H:Hp),EnvOk fx H0 env σ H->∀rs,f env=some rs->∀a,σ[j]?=some (some (.ref a))->∀Q:List V->Hp->Prop,
 (∀vs H',Same H H'->Paired (λr v=>ValOk (lim fx env σ r.bs) H H' r v) rs vs->Q (vs++[.ref a]) H')->ta σ H Q
theorem zyg{j:Nat}:SAj j (tCons (tVar j) tNil) aNil:=by
 intro fx H0 env σ H h rs hr a ha Q q
 cases hr
 exact⟨_,ha,q [] H (Same.refl _) .nil⟩
theorem zea{j:Nat}{te:TE}{ta:TA}{f:EF}{g:AF}(h1:SE te f)(h2:SAj j ta g):SAj j (tCons te ta) (zaa f g):=by
 intro fx H0 env σ H h rs hr a ha Q q
 unfold zaa at hr
 obtain⟨x,ex,hr⟩:=qA.mp hr
 obtain⟨xs,exs,rfl⟩:=qE.mp hr
 exact h1 fx H0 env σ H h x ex _ λv H1 s1 v1=>h2 fx H0 env σ H1 (h.up s1) xs exs a ha _ λvs H2 s2 vs2=>q (v::vs) H2 (s1.trans s2)
  (.cons (v1.later (Same.refl _) s2 λ_ z=>z) (Paired.mapP vs2 λ_ _ z=>z.later s1 (Same.refl _) λ_ y=>y))
noncomputable def zyh(n j:Nat)(G:List PyData->Option (List NT))(f:AF):TFz:=λenv st=>match st.sl[j]? with
 | some (some (.lo m))=>match st.hp[m]? with
  | some (.ls xs)=>if xs.length<50000 then(f (zee (zpt st.hp m) env st.sl)).bind λrs=>if rs.length=n then(G (zii rs)).map λts=>(true,⟨st.sl,(st.hp++(als ts st.hp.length).2).set m (.ls (xs++(als ts st.hp.length).1))⟩)else none else none
  | _=>none
 | _=>none
theorem ztd{K:qC}{n j:Nat}{R:List PyData->List NT->Prop}{G:List PyData->Option (List NT)}{ta:TA}{f:AF}{E:XK}(hG:∀ds ts,G ds=some ts->R ds ts)(ha:SAj j ta f) :
  STz (λσ H Q=>tCall (spL n R) [] E ta σ H λx H1=>∃k,TruV K x H1 k/\Q k H1) (zyh n j G f):=by
 rintro B H0 env σ H st ⟨fx,as,k,kb⟩ b st' e Q q
 unfold zyh at e
 split at e
 ·rename_i m em
  split at e
  ·rename_i xs ex
   split at e
   ·rename_i hl
    obtain⟨rs,er,e⟩:=qA.mp e
    split at e
    ·rename_i hn
     obtain⟨ts,et,e⟩:=qE.mp e
     cases e
     obtain⟨_,v,sv,a,ga,rfl⟩:=k.sl j _ em
     have hv:=k.viewOff ga ex
     refine ha _ H0 _ σ H hv rs er a sv _ λvs H1 s1 v1=>?_
     have k1:=k.up s1
     obtain⟨us,hus,pus⟩:=k1.nod m _ a ex ga
     rw[qr]
     refine⟨lim (λb=>b=a) (zee (zpt st.hp m) env st.sl) σ (bss rs),zii rs,vs,a,us,ts,rfl,by rw[zlm];exact hn,(hv.up s1).lims _,.inl rfl,hus,by rw[<- zfw pus];exact hl,zjn (λi hi=>hi) v1,hG _ _ et,λH2 bs ys fr h2 nt nd nw=>?_⟩
     refine⟨true,rfl,?_⟩
     have sm:Same H1 (upd H2 a (.lst us)):=λb o e=>by
      by_cases z:b=a
      ·subst z;rw[zap,<- hus];exact e
      ·rw[zau z];exact fr b o z e
     have hb:∀c∈bs,c≠a:=λc hc z=>by
      have:=nw c hc
      rw[z,hus]at this;cases this
     obtain⟨g1,g2⟩:=k1.introS sm (NewTs.mono (H:=H2) (λd w y=>y) ts (nt _) λc hc o z=>by rw[zau (hb c hc)];exact z) nd nw
     have hm:m<st.hp.length:=(qK.mp ex).1
     have ex2:(st.hp++(als ts st.hp.length).2)[m]?=some (.ls xs):=by rw[qI hm];exact ex
     have ga2:(as++bs)[m]?=some a:=by rw[qI (by rw[k.len];exact hm)];exact ga
     obtain⟨us2,k3,k4⟩:=g1.nod m _ a ex2 ga2
     rw[zap]at k3
     cases k3
     have w:=g1.write ga2 ex2 (zhc k4 g2)
     have eq:upd (upd H2 a (.lst us)) a (.lst (us++ys))=H2:=by
      funext b
      by_cases z:b=a
      ·subst z;rw[zap,h2]
      ·rw[zau z,zau z]
     rw[eq]at w
     exact q H2 ⟨_,_,w,kb.grow λc hc=>k1.ok.base.free (nw c hc)⟩
    ·cases e
   ·cases e
  ·cases e
 ·cases e
open Classical in
noncomputable def zrc(N n:Nat)(F:SFs)(ds:List PyData):Option (List NT):=if h:∃ts,zgi N n F ds ts then some h.choose else none
theorem zte{N n:Nat}{F:SFs}(ds:List PyData)(ts:List NT)(h:zrc N n F ds=some ts):zgi N n F ds ts:=by
 unfold zrc at h
 split at h
 ·rename_i z;cases h;exact z.choose_spec
 ·cases h
theorem zgi.uniq{N n:Nat}{F:SFs}{ds:List PyData}{ts us:List NT}(h:zgi N n F ds ts)(k:zgi N n F ds us):ts=us:=by
 obtain⟨e1,s1,x1,t1,h1,h2,h3,h4,_⟩:=h [] (by decide)
 obtain⟨e2,s2,x2,t2,k1,k2,k3,k4,_⟩:=k [] (by decide)
 rw[h1]at k1
 cases k1
 rw[h2]at k2
 cases k2
 rw[h3]at k3
 cases k3
 rw[<- h4,<- k4]
theorem zgi.g{N n:Nat}{F:SFs}{ds:List PyData}{ts:List NT}(h:zgi N n F ds ts):zrc N n F ds=some ts:=by
 unfold zrc
 rw[dif_pos ⟨ts,h⟩]
 exact congrArg some ((Exists.choose_spec (⟨ts,h⟩:∃ts,zgi N n F ds ts)).uniq h)
noncomputable def zyi(g:EF):SFs:=λenv st=>(g (zee st.hp env st.sl)).bind λr=>if r.fr=true then(match r.d with
 | .list _=>some (.nx env st)
 | _=>none)else none
theorem zaiz{K:qC}{te:TE}{g:EF}(h:SE te g):SSs (tDrop (tBM0 K "list" zakg te)) (zyi g):=by
 rintro B H0 env σ H st D ⟨fx,as,k,kb⟩ o e q
 unfold zyi at e
 obtain⟨r,er,e⟩:=qA.mp e
 split at e
 ·rename_i hf
  split at e
  ·rename_i ds ed
   cases e
   refine h _ H0 _ σ H k.view r er _ λv H1 s1 vo=>?_
   obtain⟨a,rfl,h2,h3⟩:=vo.fr hf
   rw[ed]at h3
   obtain⟨ys,k5,_⟩:=h3
   refine⟨.inl ⟨rfl,ys,SqL.of k5⟩,a,ys,rfl,rfl,k5,q σ _ ⟨fx,as,k.up λb o e=>?_,kb⟩⟩
   have hb:b≠a:=λz=>by rw[z,h2]at e;cases e
   rw[zau hb]
   exact s1 b o e
  ·cases e
 ·cases e
section
variable{P:Program}{w:World}{K:qC}{h:Heap}{mg:Str->Option Value}{base:Heap}{x:Str}{st:Stmt}{f:Addr}{fd:qx}{ps:List Str}{k:Nat}{sp:Sp}
structure DefIn(K:qC)(x:Str)(st:Stmt)(f:Addr)(fd:qx):Prop where
 ns:qAg K qAE x=some (some (.ref f))
 fn:Fun K x x st f fd
theorem def_mk{oc:Value}{od an:Option Addr}{osl:Array (Option Value)}{kV doc pm cdv ct:Value}(a:qAg K qAE x=some (some (.ref f)))(l:K.lookup f=some ⟨oc,od,.func (qAh x x (zfx st) (zfi st) (zaq st) .none kV doc pm an cdv ct),osl⟩)
  (c:qBg K cdv x=true) (k:qBN K (.ref f)=true):DefIn K x st f (qAh x x (zfx st) (zfi st) (zaq st) .none kV doc pm an cdv ct):=⟨a,zapj l c k⟩
theorem DefIn.b1(d:DefIn K x st f fd)(h:∀(kV doc pm:Value) (an:Option Addr) (cdv ct a:Value),bindArgs (qAh x x (zfx st) (zfi st) (zaq st) .none kV doc pm an cdv ct) ⟨[a],[]⟩=pure [(p,a)]):zoy K fd [p] []:=
 d.fn.binds λkV doc pm an cdv ct us hl=>match us,hl with|[a],_=>h kV doc pm an cdv ct a
theorem DefIn.b2(d:DefIn K x st f fd)(h:∀(kV doc pm:Value) (an:Option Addr) (cdv ct a b:Value),bindArgs (qAh x x (zfx st) (zfi st) (zaq st) .none kV doc pm an cdv ct) ⟨[a,b],[]⟩=pure [(p,a),(q,b)]):zoy K fd [p,q] []:=
 d.fn.binds λkV doc pm an cdv ct us hl=>match us,hl with|[a,b],_=>h kV doc pm an cdv ct a b
theorem DefIn.b3(d:DefIn K x st f fd)(h:∀(kV doc pm:Value) (an:Option Addr) (cdv ct a b c:Value),bindArgs (qAh x x (zfx st) (zfi st) (zaq st) .none kV doc pm an cdv ct) ⟨[a,b,c],[]⟩=pure [(p,a),(q,b),(r,c)]):zoy K fd [p,q,r] []:=
 d.fn.binds λkV doc pm an cdv ct us hl=>match us,hl with|[a,b,c],_=>h kV doc pm an cdv ct a b c
theorem DefIn.b5(d:DefIn K x st f fd)(h:∀(kV doc pm:Value) (an:Option Addr) (cdv ct a b c e g:Value),bindArgs (qAh x x (zfx st) (zfi st) (zaq st) .none kV doc pm an cdv ct) ⟨[a,b,c,e,g],[]⟩=pure [(p,a),(q,b),(r,c),(s,e),(t,g)]):zoy K fd [p,q,r,s,t] []:=
 d.fn.binds λkV doc pm an cdv ct us hl=>match us,hl with|[a,b,c,e,g],_=>h kV doc pm an cdv ct a b c e g
theorem DefIn.dn(d:DefIn K x st f fd)(X:K.In h)(G:h.Ns qAE mg)(ok:FnOk P w K mg base CX0 k f fd ps sp)(b:zoy K fd ps []):Dn P w K mg base x ps k sp:=⟨f,fd,ok,qCM X G d.ns,d.fn.kp,b⟩
universe u9
end
class ICE (t:TE) (f:EF):Prop where
 h:SE t f
class ICA (t:TA) (f:AF):Prop where
 h:SA t f
class ICT (t:TT) (f:TF):Prop where
 h:ST t f
class ICI (t:TI) (f:IF'):Prop where
 h:SI t f
class ICO (t:R2) (f:OF):Prop where
 h:SO t f
class ICC (t:List V->Hp->VK->Prop) (f:GF):Prop where
 h:SC t f
class ICP (t:TO) (f:PF'):Prop where
 h:SPt t f
section
variable{i j n:Nat}{K:qC}{t u:TE}{f g:EF}{ta:TA}{fa:AF}{tt tu:TT}{ft fu:TF}{r:R2}{o:OF}{c:List V->Hp->VK->Prop}{gc:GF}{tp tq:TO}{p q:PF'}{x:Int}{b:Bool}{s:Str}
theorem ice[a:ICE t f]:SE t f:=a.h
theorem ica[a:ICA ta fa]:SA ta fa:=a.h
theorem ict[a:ICT tt ft]:ST tt ft:=a.h
theorem ici[a:ICI w k]:SI w k:=a.h
instance:ICE (tVar i) (eVar i):=⟨zbh i⟩
instance:ICE (tC (.int x)) (eC (.int x)):=⟨se_c λ_=>zai⟩
instance:ICE (tC (.bl b)) (eC (.bool b)):=⟨se_c λ_=>zbp⟩
instance:ICE (tC (.str s)) (eC (.str s)):=⟨se_c λ_=>zig⟩
instance [a:ICO r o] [d:ICE t f] [e:ICE u g]:ICE (tOp r t u) (eOp o f g):=⟨zhj a.h d.h e.h⟩
instance [a:ICC c gc] [d:ICA ta fa]:ICE (tCB c ta) (eCB gc fa):=⟨zst a.h d.h⟩
instance [d:ICA ta fa]:ICE (tCall (spD n gc) [] E0 ta) (zal n gc fa):=⟨zhl d.h⟩
instance [d:ICE t f]:ICE (tOp (rIxU K) (tVar i) t) (eIxV i f):=⟨zjy d.h⟩
instance [d:ICA ta fa]:ICE (tTup ta) (eTup fa):=⟨zads d.h⟩
instance [d:ICA ta fa]:ICE (tLst ta) (eLst fa):=⟨zadt d.h⟩
instance [a:ICE t f] [d:ICP tp p] [e:ICP tq q]:ICE (tSl (rSlU K) t tp tq) (eSl f p q):=⟨zadx a.h d.h e.h⟩
instance [d:ICE t f]:ICP (tPart t) (zca f):=⟨zhk d.h⟩
instance:ICP tNoPart zfk:=⟨zamo⟩
instance [d:ICE t f]:ICE (tDGet (tVar i) t) (zcs i f):=⟨zaid d.h⟩
instance [d:ICE t f] [e:ICE u g]:ICE (tDIn t u) (eDIn false f g):=⟨zapu d.h e.h⟩
instance:ICE tDNewK zadu:=⟨zamm⟩
instance [d:ICE t f] [e:ICE u g]:ICE (tAndV t u) (eAnd f g):=⟨zakl d.h e.h⟩
instance [d:ICE t f] [e:ICA ta fa]:ICA (tCons t ta) (zaa f fa):=⟨zaz d.h e.h⟩
instance:ICA tNil aNil:=⟨zdz⟩
instance [d:ICE t f]:ICT (tTest t) (zbr f):=⟨st_t d.h⟩
instance [d:ICT tt ft] [e:ICT tu fu]:ICT (tAnd tt tu) (zxx ft fu):=⟨zapv d.h e.h⟩
instance:ICT tAll zbf:=⟨zjx⟩
instance [d:ICE t f]:ICI (iSeq K t) (zaj f):=⟨zro d.h⟩
instance [d:ICA ta fa]:ICI (iRng1 ta) (zdw fa):=⟨zva d.h⟩
instance [d:ICA ta fa]:ICI (iEnumX K ta) (zrp fa):=⟨zaac d.h⟩
instance [d:ICA ta fa]:ICI (iEnumX K ta) (zlp fa):=⟨zaek d.h⟩
instance [d:ICA ta fa]:ICI (iZip K ta) (zyb fa):=⟨zaqd d.h⟩
instance:ICO (rI (λx j=>0<j) λi j=>V.int (i % j)) modD:=⟨zrn⟩
instance:ICO (rI CDiv λi j=>V.int (i / j)) zbk:=⟨zxv⟩
instance:ICO (zahx K) addD:=⟨zux⟩
instance:ICO (λx y H Q=>rEq x y H Q\/rEqD K false x y H Q) eqD:=⟨zaps⟩
instance:ICO (λx y H Q=>rNe x y H Q\/rEqD K true x y H Q) neD:=⟨zapt⟩
instance:ICO (rIn K b) (inD b):=⟨zarw⟩
instance:ICO (rI0 λi j=>V.int (i - j)) subD:=⟨zakj⟩
instance:ICO zame mulD:=⟨zapr⟩
instance:ICO (rI0 λi j=>V.bl (decide (j<i))) gtD:=⟨zapq⟩
instance:ICO (rIxU K) ixD:=⟨zamj⟩
instance:ICC (λxs H Q=>∃x n,xs=[x]/\LenV K x H n/\Q (V.int n) H) lenD:=⟨zadv⟩
instance:ICC (λxs H Q=>∃p ys,xs=[V.ref p]/\((SqL K H p ys/\∀l:Addr,H l=none->Q (V.ref l) (upd H l (HO.tup ys)))\/SqT K H p ys/\Q (V.ref p) H)) zfq:=⟨zzt⟩
instance:ICC (λxs H Q=>∃p ys,xs=[V.ref p]/\(SqL K H p ys\/SqT K H p ys)/\∀l:Addr,H l=none->Q (V.ref l) (upd H l (HO.lst ys))) zln:=⟨zxy⟩
instance {k:List Bool->Bool}:ICC (rAny K k) (anyD k):=⟨zadw⟩
class ICG (t:TG) (f:GT):Prop where
 h:SG t f
class ICS (t:TS) (f:SF):Prop where
 h:SS t f
variable{tg:TG}{fg:GT}{th:TGs}{fh:GTs}{ts tv:TS}{fs fv:SF}{wi:TI}{fi:IF'}
theorem ics[a:ICS ts fs]:SS ts fs:=a.h
instance:ICG (gName i) (gN i):=⟨zcz⟩
instance {x:Str} {fr:List Nat} [a:ICI wi fi] [d:ICT tt ft] [e:ICE t f]:ICE (tComp1 wi (gName 0) tt t [x] fr) (zbx [x] fr fi (gN 0) ft f):=⟨zfl a.h zcz (zhm (show 0<1 by decide)) d.h e.h⟩
instance {x y:Str} {fr:List Nat} [a:ICI wi fi] [d:ICT tt ft] [e:ICE t f]:ICE (tComp1 wi (gTup K 2 (gCons (gName 0) (gCons (gName 1) gNil))) tt t [x,y] fr) (zbx [x,y] fr fi (gT 2 (zag 0 (zag 1 zbw))) ft f):=⟨zfl a.h (zil (zbl (zbl zfy))) (zaaa (zgt (show 0<2 by decide) (zgt (show 1<2 by decide) zsv))) d.h e.h⟩
instance [a:ICS ts fs] [d:ICS tv fv]:ICS (tSeq ts tv) (sSeq fs fv):=⟨zas a.h d.h⟩
instance:ICS tNext sNil:=⟨zij⟩
instance [a:ICE t f]:ICS (tAsg t (gName i)) (sSet i f):=⟨zzz a.h⟩
instance [a:ICE t f]:ICS (tRet t) (sRet f):=⟨zik a.h⟩
instance [a:ICE t f]:ICS (tDrop (tBM K "list" zmj (tVar i) (tCons t tNil))) (sApp i f):=⟨zapy a.h⟩
instance [a:ICT tt ft] [d:ICS ts fs] [e:ICS tv fv]:ICS (tIfS tt ts tv) (sIf ft fs fv):=⟨zkp a.h d.h e.h⟩
instance [a:ICI wi fi] [d:ICG tg fg] [e:ICS ts fs]:ICS (tFor wi tg ts) (sFor fi fg fs):=⟨zfz a.h d.h e.h⟩
end
open PySem
end L2
namespace Bc
open PySem L2
noncomputable def zhe:SF:=(sRet (zbx ["name","elders"] [] (zaj (eVar 0)) (gT 2 (zag 0 (zag 1 zbw))) zbf (eVar 0)))
noncomputable def zjq:GF:=fnD 1 zhe
noncomputable def zei:SF:=(sSeq (sSet 2 (zal 1 zjq (zaa (eVar 0) aNil)))
  (sFor (zaj (eVar 1)) (gN 3)
  (sIf (zbr (eOp (inD true) (eVar 3) (eVar 2))) zzx sNil)))
noncomputable def zej:GF:=fnD 4 zei
noncomputable def zru:SF:=(sSeq (sSet 1 zadu)
  (sSeq (sFor (zaj (eVar 0)) (gT 2 (zag 2 (zag 3 zbw)))
  (sSeq (sSet 4 (eD1 (eVar 2) (eC (.bool true))))
  (sSeq (sFor (zaj (eVar 3)) (gN 5)
  (sUpd 4 (zcs 1 (eVar 5))))
  (sPut 1 (eVar 2) (eVar 4)))))
  (zqz 1)))
noncomputable def zeb:GF:=fnD 6 zru
noncomputable def zvo:SF:=(sSeq (sSet 2 (eLst aNil))
  (sSeq (sFor (zlp (zaa (eVar 1) aNil)) (gT 2 (zag 3 (zag 4 zbw)))
  (sSeq (sSet 5 (eSl (eVar 1) zfk (zca (eVar 3))))
  (sSeq (sSet 6 (eOp zbk (eIxV 0 (eVar 3)) (eC (.int 5))))
  (sSeq (sSet 7 (eLst aNil))
  (sSeq (sFor (zdw (zaa (eCB minD (zaa (eOp modD (eIxV 0 (eVar 3)) (eC (.int 5))) (zaa (eVar 3) aNil))) aNil)) (gN 8)
  (sSeq (sSet 9 (eOp modD (eVar 6) (eCB lenD (zaa (eVar 5) aNil))))
  (sSeq (sSet 6 (eOp zbk (eVar 6) (eCB lenD (zaa (eVar 5) aNil))))
  (zgd 7 5 (eVar 9)))))
  (sApp 2 (eTup (zaa (eVar 4) (zaa (eVar 7) aNil)))))))))
  (zqz 2)))
noncomputable def zhf:GF:=fnD 10 zvo
noncomputable def zaaj:SF:=(sSeq (sSet 1 zadu)
  (sSeq (sFor (zaj (eVar 0)) (gT 2 (zag 2 (zag 3 zbw)))
  (sSeq (sSet 4 (eLst (zaa (eVar 2) aNil)))
  (sSeq (sFor (zaj (eVar 3)) (gN 5)
  (sFor (zaj (zcs 1 (eVar 5))) (gN 6)
  (sIf (zbr (eOp (inD true) (eVar 6) (eVar 4))) (sApp 4 (eVar 6)) sNil)))
  (sPut 1 (eVar 2) (eVar 4)))))
  (zqz 1)))
noncomputable def zjr:GF:=fnD 7 zaaj
theorem zec{enc out:α->PyData}(p:α->Bool):∀{l:List α},(∀x∈l,∃e1,g (enc x) env=some e1/\t e1=some (p x)/\(p x=true->∃r,e e1=some r/\r.d=out x))->
  zda g t e env (l.map enc)=some ((l.filter p).map out)
 | [],_=>rfl
 | x::l,h=>by
  obtain⟨e1,h1,h2,h3⟩:=h x qb
  have ih:=zec (l:=l) p λy hy=>h y (qQ _ hy)
  rw[qM]
  unfold zda
  rw[h1,qB,h2,qB]
  cases hp:p x with
  | false=>
   rw[if_neg qT,ih,qBe,hp];rfl
  | true=>
   obtain⟨r,h4,h5⟩:=h3 hp
   rw[if_pos rfl,h4,qB,ih,qBe,hp]
   simp[h5]
theorem zby{enc out:α->PyData}{l:List α}(h:∀x∈l,∃e1,g (enc x) env=some e1/\t e1=some true/\∃r,e e1=some r/\r.d=out x):zda g t e env (l.map enc)=some (l.map out):=by
 have q:=zec (enc:=enc) (out:=out) (g:=g) (t:=t) (e:=e) (env:=env) (λ_=>true) (l:=l) λx hx=>let⟨e1,h1,h2,h3⟩:=h x hx;⟨e1,h1,h2,λ_=>h3⟩
 rw[q]
 congr 2
 exact List.filter_eq_self.mpr λ_ _=>rfl
theorem zaak{enc:α->PyData}(I:List α->DEnv->Prop)(all:List α):∀(l pre:List α)(env:DEnv),pre++l=all->I pre env->
  (∀pre x post env,pre++x::post=all->I pre env->∃e1 e2,g (enc x) env=some e1/\(body e1=some (.nx e2)\/body e1=some (.ct e2))/\I (pre++[x]) e2)->∃env',forL g body (l.map enc) env=some (.nx env')/\I all env'
 | [],pre,env,hall,h0,hs=>by
  rw[qr]at hall
  subst hall
  exact⟨env,rfl,h0⟩
 | x::l,pre,env,hall,h0,hs=>by
  obtain⟨e1,e2,h1,h2,h3⟩:=hs pre x l env hall h0
  obtain⟨env',h4,h5⟩:=zaak I all l (pre++[x]) e2 (by rw[<- hall];simp) h3 hs
  refine⟨env',?_,h5⟩
  rw[qM]
  unfold forL
  rw[h1,qB]
  rcases h2 with h2|h2<;>rw[h2,qB]<;>exact h4
theorem zek{enc:α->PyData}{l:List α}(I:List α->DEnv->Prop)(h0:I [] env)(hs:∀pre x post env,pre++x::post=l->I pre env->∃e1 e2,g (enc x) env=some e1/\(body e1=some (.nx e2)\/body e1=some (.ct e2))/\I (pre++[x]) e2) :
  ∃env',forL g body (l.map enc) env=some (.nx env')/\I l env':=zaak I l l [] env rfl h0 hs
theorem zvp{enc:α->PyData}(p:α->Bool)(d:PyData)(fr:Bool)(I:DEnv->Prop):∀(l:List α)(env:DEnv),I env->
  (∀x∈l,∀env,I env->∃e1,g (enc x) env=some e1/\(p x=true->∃e2,body e1=some (.nx e2)/\I e2)/\(p x=false->body e1=some (.rt d fr)))->
  (l.all p=true->∃env',forL g body (l.map enc) env=some (.nx env')/\I env')/\(l.all p=false->forL g body (l.map enc) env=some (.rt d fr))
 | [],env,h0,hs=>⟨λ_=>⟨env,rfl,h0⟩,λh=>by simp at h⟩
 | x::l,env,h0,hs=>by
  obtain⟨e1,h1,h2,h3⟩:=hs x qb env h0
  rw[qM,qAn]
  unfold forL
  rw[h1,qB]
  cases hp:p x with
  | false=>
   rw[h3 hp,qB]
   exact⟨λh=>by simp at h,λ_=>rfl⟩
  | true=>
   obtain⟨e2,h4,h5⟩:=h2 hp
   rw[h4,qB]
   exact zvp p d fr I l e2 h5 λy hy=>hs y (qQ _ hy)
noncomputable def zbz(cs:List Int):PyData:=.list (cs.map .int)
theorem zaal:∀(cs:List Int),Rps H (cs.map .int) (cs.map .int)
 | []=>zdm
 | c::cs=>zdk zai (zaal cs)
noncomputable def envL(n:Nat)(cs:List Int):DEnv:=.no::.pl (zbz cs)::List.replicate n .no
theorem zane{cs:List Int}(e:H1 pc=some (.lst (cs.map .int))):EnvOk (λ_=>False) H1 (envL n cs) (some (.ref a)::some (.ref pc)::List.replicate n none) H1:=by
 have no:∀(i:Nat)(d:PyData),(envL n cs)[i]?≠some (Sl.ac d):=λi d=>by
  unfold envL
  cases i with
  | zero=>simp
  | succ i=>cases i with
   | zero=>simp
   | succ i=>simp[qAc]
 refine⟨by unfold envL;simp,λi d h=>?_,λi d h=>absurd h (no i d),λi j d e a h=>absurd h (no i d),Same.refl _,λb z=>z.elim⟩
 unfold envL at h
 cases i with
 | zero=>simp at h
 | succ i=>cases i with
  | zero=>
   simp at h
   subst h
   refine⟨.ref pc,rfl,zet ?_ (zaal cs)⟩
   rw[Offs.get]
   ·exact e
   ·rintro(z|⟨j,d',z,_⟩)
    ·exact z
    ·exact no j d' z
  | succ i=>simp[qAc]at h
theorem zar(h:f env=some (.nx e1))(k:g e1=o):sSeq f g env=o:=by unfold sSeq;rw[h];exact k
theorem zaql(h:f env=some (.rt d fr)):sSeq f g env=some (.rt d fr):=by unfold sSeq;rw[h];rfl
theorem for_list(h:f env=some ⟨.list ds,fr,bs⟩)(k:forL g b ds (frzs env bs)=o):sFor (zaj f) g b env=o:=by
 unfold sFor zaj;rw[h];exact k
theorem zir(h:f env=some (ds,bs))(k:forL g b ds (frzs env bs)=o):sFor f g b env=o:=by
 unfold sFor;rw[h];exact k
theorem if_t(h:c env=some true)(k:f env=o):sIf c f g env=o:=by unfold sIf;rw[h];exact k
theorem if_f(h:c env=some false)(k:g env=o):sIf c f g env=o:=by unfold sIf;rw[h];exact k
theorem zcc(h:f env=some r):sSet i f env=some (.nx (putV env i r)):=by unfold sSet;rw[h];rfl
theorem zafc(h:f env=some r):zabl f env=some (.nx env):=by unfold zabl;rw[h];rfl
theorem zhw(h:f env=some ⟨d,fr,bs⟩):sRet f env=some (.rt d fr):=by unfold sRet;rw[h];rfl
theorem zbj{rs:List Val}(h:f env=some rs)(hn:rs.length=n)(k:g (zii rs)=some (d,fr)):zal n g f env=some ⟨d,fr,bsOf d (bss rs)⟩:=by
 unfold zal;rw[h,qB,if_pos hn,k];rfl
theorem zde{own:List Str}{fr:List Nat}{fi:IF'}{g:GT}{t:TF}{e:EF}{env:DEnv}{ds:List PyData}{bs:List Nat}{rs:List PyData}(h:fi env=some (ds,bs))(hl:ds.length<100000)(k:zda g t e (envB own fr env) ds=some rs) :
  zbx own fr fi g t e env=some ⟨.list rs,true,if zdo rs=true then[]else bs++capA fr env⟩:=by
 unfold zbx;rw[h,qB,if_pos hl,k];rfl
theorem zgq(h:zga n ds=env)(e:f env=some (.rt d fr)):fnD n f ds=some (d,fr):=by
 unfold fnD;rw[h,e]
theorem zasc(h:zga n ds=env)(e:f env=some (.nx env')):fnD n f ds=some (.none,false):=by
 unfold fnD;rw[h,e]
theorem zafd(n:Int):neD (.int n) (.int n)=some (.bool false,false):=by
 have e:qAH (.int n) (.int n)=true:=by unfold qAH;exact beq_self_eq_true n
 show some (PyData.bool (!PyData.eqv (.int n) (.int n)),false)=_
 rw[e];rfl
noncomputable def zab(xs:List Str):PyData:=.list (xs.map .str)
noncomputable def rowD(p:Str×List Str):PyData:=.tuple [.str p.1,zab p.2]
noncomputable def webD(W:Web):PyData:=.list (W.map rowD)
theorem zjs(xs:List Str):zdo (xs.map .str)=true:=by
 unfold zdo
 rw[List.all_map]
 exact qAX.mpr λ_ _=>rfl
theorem zaja(xs:List Str)(x:Str):((xs.map PyData.str).any λe=>qAH e (.str x))=decide (x∈xs):=by
 rw[qBj,qAd,qAr,decide_eq_true_iff]
 constructor
 ·rintro⟨y,hy,h⟩
  have:y=x:=by simpa [qAH]using h
  rw[<- this];exact hy
 ·exact λh=>⟨x,h,by simp[qAH]⟩
theorem ztf(b:Bool)(xs:List Str)(x:Str):inD b (.str x) (zab xs)=some (.bool (if b then !decide (x∈xs)else decide (x∈xs)),false):=by
 unfold inD zab
 simp only[zfp]
 rw[if_pos ⟨rfl,zjs xs⟩,zaja]
theorem zabq{W:Web}(hl:W.length<100000):zjq [webD W]=some (zab (nm W),true):=by
 have c:zda (gT 2 (zag 0 (zag 1 zbw))) zbf (eVar 0) [.no,.no] (W.map rowD)=some (W.map λp=>PyData.str p.1):=zby λp _=>⟨[.pl (.str p.1),.pl (zab p.2)],rfl,rfl,⟨.str p.1,false,[]⟩,rfl,rfl⟩
 have e:zhe [.pl (webD W)]=some (.rt (zab (nm W)) true):=by
  unfold zhe sRet zbx zaj
  simp only[eVar,qAC,qB,webD,zfp,qAo,qD]
  rw[if_pos hl]
  show Option.map _ (Option.map _ (zda _ _ _ [.no,.no] _))=_
  rw[c]
  unfold zab nm
  simp
 show(match zhe [.pl (webD W)]with|some (.rt d fr)=>some (d,fr)|some (.nx _)=>some (.none,false)|_=>none)=_
 rw[e]
theorem ztg{W:Web}(hl:W.length<100000)(h:∀n∈ns,n∈nm W):zej [webD W,zab ns]=some (.none,false):=by
 have l:∃env',forL (gN 3) (sIf (zbr (eOp (inD true) (eVar 3) (eVar 2))) zzx sNil) (ns.map .str) [.pl (webD W),.pl (zab ns),.ac (zab (nm W)),.no]=some (.nx env')/\True:=by
  refine zek (λ_ env=>∃s,env=[.pl (webD W),.pl (zab ns),.ac (zab (nm W)),s]) ⟨_,rfl⟩ ?_ |>.imp λ_ q=>⟨q.1,trivial⟩
  rintro pre x post env hx ⟨s,rfl⟩
  have hm:=h x (by rw[<- hx];simp)
  refine⟨_,[.pl (webD W),.pl (zab ns),.ac (zab (nm W)),.pl (.str x)],rfl,.inl ?_,_,rfl⟩
  simp[sIf,zbr,eOp,eVar,sNil,ztf,hm,bsOf,zdy]
 obtain⟨env',l,_⟩:=l
 have e:zei [.pl (webD W),.pl (zab ns),.no,.no]=some (.nx env'):=by
  unfold zei sSeq sSet zal sFor zaj
  simp only[zaa,aNil,eVar,qAC,qAD,qB,qAo,zii,qM,qB4,qAe,qBi,zabq hl,if_true]
  simp[putV,frzs,bsOf,zab,zdy,bss,slOf,zfp]
  exact l
 show(match zei [.pl (webD W),.pl (zab ns),.no,.no]with|some (.rt d fr)=>some (d,fr)|some (.nx _)=>some (.none,false)|_=>none)=_
 rw[e]
noncomputable def insS(ks:List Str)(k:Str):List Str:=if k∈ks then ks else ks++[k]
noncomputable def upL(acc:List (Str×List Str))(e:Str):List Str:=(acc.lookup e).getD []
noncomputable def zho(acc:List (Str×List Str))(p:Str×List Str):List (Str×List Str):=acc++[(p.1,p.2.foldl (λks e=>(upL acc e).foldl insS ks) [p.1])]
noncomputable def ups(W:Web):List (Str×List Str):=W.foldl zho []
noncomputable def up(W:Web)(n:Str):List Str:=upL (ups W) n
theorem zhp(W:Web)(p:Str×List Str):ups (W++[p])=zho (ups W) p:=by unfold ups;rw[qBW];rfl
theorem zajb:x∈insS ks k↔x∈ks\/x=k:=by
 unfold insS
 split
 ·rename_i h
  exact⟨.inl,λz=>z.elim id λe=>e▸h⟩
 ·simp
theorem zlx:∀{ms ks:List Str},x∈ms.foldl insS ks↔x∈ks\/x∈ms
 | [],ks=>by simp
 | m::ms,ks=>by
  rw[qBL,zlx,zajb]
  simp[or_assoc]
theorem zanf{ks:List Str}(h:ks.Nodup):(insS ks k).Nodup:=by
 unfold insS
 split
 ·exact h
 ·rename_i hk;exact zxr h hk
theorem zth:∀{ms ks:List Str},ks.Nodup->(ms.foldl insS ks).Nodup
 | [],_,h=>h
 | _::ms,_,h=>zth (ms:=ms) (zanf h)
theorem zpu:∀{es ks:List Str},x∈es.foldl (λks e=>(upL acc e).foldl insS ks) ks↔x∈ks\/∃e∈es,x∈upL acc e
 | [],ks=>by simp
 | e::es,ks=>by
  rw[qBL,zpu,zlx]
  simp[or_assoc]
theorem zaam:∀{es ks:List Str},ks.Nodup->(es.foldl (λks e=>(upL acc e).foldl insS ks) ks).Nodup
 | [],_,h=>h
 | _::es,_,h=>zaam (es:=es) (zth h)
theorem zfu{l:List (Str×List Str)}{p:Str×List Str}:(l++[p]).lookup n=(l.lookup n).or (if n==p.1 then some p.2 else none):=by
 induction l with
 | nil=>
  obtain⟨a,b⟩:=p
  show List.lookup n [(a,b)]=_
  rw[qAN]
  cases n==a<;>rfl
 | cons q l ih=>
  obtain⟨a,b⟩:=q
  rw[qB9,qAN,qAN]
  cases n==a with
  | true=>rfl
  | false=>exact ih
theorem zpv{P:List α->Prop}(h0:P [])(hs:∀l x,P l->P (l++[x])):∀l,P l:=by
 intro l
 have:∀n (l:List α),l.length=n->P l:=by
  intro n
  induction n with
  | zero=>intro l e;rw[qBZ.mp e];exact h0
  | succ n ih=>
   intro l e
   have hne:l≠[]:=λz=>by rw[z]at e;cases e
   rw[<- List.dropLast_concat_getLast hne]
   exact hs _ _ (ih _ (by rw[qCv,e];rfl))
 exact this _ l rfl
theorem zfc:∀(W:Web),(ups W).map (·.1)=nm W:=by
 refine zpv rfl λW p ih=>?_
 rw[zhp]
 unfold zho nm
 rw[qAL,qAL,ih]
 rfl
theorem zkr(W:Web)(p:Str×List Str):nm (W++[p])=nm W++[p.1]:=by unfold nm;rw[qAL];rfl
theorem zev{p:Str×List Str}(h:WebOk (W++[p])):WebOk W/\p.1∉nm W/\(∀e∈p.2,e∈nm W)/\p.2.length<=4:=by
 have hp:(W++[p])[W.length]?=some p:=by simp
 refine⟨⟨?_,λi n es e=>?_,λq hq=>h.few q (qw _ hq),?_⟩,?_,λe he=>?_,h.few p (by simp)⟩
 ·have:=h.nd;rw[zkr]at this;exact(qAT.mp this).1
 ·have hi:i<W.length:=(qK.mp e).1
  have q:=h.el i n es (by rw[qI hi];exact e)
  rw[qAj (by omega)]at q
  exact q
 ·have:=h.len;simp at this;omega
 ·have:=h.nd
  rw[zkr]at this
  intro hm
  exact(qAT.mp this).2.2 p.1 hm p.1 (by simp) rfl
 ·have q:=h.el W.length p.1 p.2 hp e he
  rw[qAj (qO _),qB8]at q
  exact q
theorem zhq{l:List (Str×List Str)}(h:n∈l.map (·.1)):∃ks,l.lookup n=some ks/\(n,ks)∈l:=by
 induction l with
 | nil=>simp at h
 | cons q l ih=>
  obtain⟨a,b⟩:=q
  rw[qAN]
  cases e:n==a with
  | true=>rw[eq_of_beq e];exact⟨b,rfl,qb⟩
  | false=>
   have hn:n≠a:=beq_eq_false_iff_ne.mp e
   rcases qP.mp h with z|z
   ·exact absurd z hn
   ·obtain⟨ks,h1,h2⟩:=ih z
    exact⟨ks,h1,qQ _ h2⟩
theorem zmt(h:m∈nm W):up (W++[p]) m=up W m:=by
 unfold up upL
 rw[zhp]
 unfold zho
 obtain⟨ks,e,_⟩:=zhq (l:=ups W) (n:=m) (by rw[zfc];exact h)
 rw[zfu,e]
 rfl
theorem zpw{l:List (Str×List Str)}(h:n∉l.map (·.1)):l.lookup n=none:=by
 induction l with
 | nil=>rfl
 | cons q l ih=>
  obtain⟨a,b⟩:=q
  rw[qAN]
  have h1:n≠a:=λz=>h (by simp[z])
  rw[beq_eq_false_iff_ne.mpr h1]
  exact ih λz=>h (qQ _ z)
theorem zaks{p:Str×List Str}(h:p.1∉nm W):up (W++[p]) p.1=p.2.foldl (λks e=>(upL (ups W) e).foldl insS ks) [p.1]:=by
 unfold up upL
 rw[zhp]
 unfold zho
 rw[zfu,zpw (by rw[zfc];exact h)]
 simp[upL]
theorem zaqm(h:(n,es)∈W):n∈nm W:=qg.mpr ⟨_,h,rfl⟩
theorem zti(h:WebOk W)(hm:(n,es)∈W):∀e∈es,e∈nm W:=λe he=>by
 obtain⟨i,hi,e'⟩:=qBK hm
 have q:=h.el i n es (by rw[qL hi,e']) e he
 obtain⟨p,h1,h2⟩:=qg.mp q
 exact qg.mpr ⟨p,qAw h1,h2⟩
theorem zaqn:∀{W:Web},WebOk W->∀{n:Str}{es:List Str},(n,es)∈W->(x∈up W n↔x=n\/∃e∈es,x∈up W e):=by
 intro W
 refine zpv (P:=λW=>WebOk W->∀{n:Str}{es:List Str},(n,es)∈W->(x∈up W n↔x=n\/∃e∈es,x∈up W e)) (λ_ n es h=>nomatch h) (λW p ih h n es hm=>?_) W
 obtain⟨hW,hp,hel,_⟩:=zev h
 rcases qV.mp hm with hm|hm
 ·rw[zmt (zaqm hm),ih hW hm]
  have:(∃e∈es,x∈up W e)↔∃e∈es,x∈up (W++[p]) e:=by
   constructor
   ·rintro⟨e,he,hx⟩;exact⟨e,he,by rw[zmt (zti hW hm e he)];exact hx⟩
   ·rintro⟨e,he,hx⟩;exact⟨e,he,by rw[zmt (zti hW hm e he)]at hx;exact hx⟩
  rw[this]
 ·have e:(n,es)=p:=by simpa using hm
  subst e
  rw[zaks hp,zpu]
  have:(∃e∈es,x∈upL (ups W) e)↔∃e∈es,x∈up (W++[(n,es)]) e:=by
   constructor
   ·rintro⟨e,he,hx⟩;exact⟨e,he,by rw[zmt (hel e he)];exact hx⟩
   ·rintro⟨e,he,hx⟩;exact⟨e,he,by rw[zmt (hel e he)]at hx;exact hx⟩
  rw[this]
  simp
theorem zang(h:WebOk W)(hn:n∈nm W):n∈up W n:=by
 obtain⟨⟨m,es⟩,h1,h2⟩:=qg.mp hn
 cases h2
 exact(zaqn h h1).mpr (.inl rfl)
theorem zaan:∀{W:Web},WebOk W->∀{n x:Str},x∈up W n->x∈nm W:=by
 intro W
 refine zpv (P:=λW=>WebOk W->∀{n x:Str},x∈up W n->x∈nm W) (λ_ n x h=>by simp[up,ups,upL]at h) (λW p ih h n x hx=>?_) W
 obtain⟨hW,hp,hel,_⟩:=zev h
 rw[zkr]
 by_cases hn:n∈nm W
 ·rw[zmt hn]at hx
  exact qw _ (ih hW hx)
 ·by_cases e:n=p.1
  ·rw[e,zaks hp,zpu]at hx
   rcases hx with hx|⟨e',_,hx⟩
   ·exact qc _ (by simpa using hx)
   ·exact qw _ (ih hW hx)
  ·unfold up upL at hx
   rw[zhp]at hx
   unfold zho at hx
   rw[zfu,zpw (by rw[zfc];exact hn),beq_eq_false_iff_ne.mpr e]at hx
   simp at hx
theorem zasd:∀{W:Web}{n:Str},(up W n).Nodup:=by
 intro W
 refine zpv (P:=λW=>∀{n:Str},(up W n).Nodup) (λ{n}=>by simp[up,ups,upL]) (λW p ih n=>?_) W
 unfold up upL
 rw[zhp]
 unfold zho
 rw[zfu]
 cases e:(ups W).lookup n with
 | some ks=>
  have q:=ih (n:=n)
  unfold up upL at q
  rw[e]at q
  exact q
 | none=>
  show((if n==p.1 then some _ else none).getD []).Nodup
  split
  ·exact zaam (by simp)
  ·exact qA5
theorem zafe(h:WebOk W)(n:Str):(up W n).length<=12:=by
 have:=zif _ (nm W) (zasd (W:=W) (n:=n)) λx hx=>zaan h hx
 have:=zpc h
 omega
noncomputable def dS(f:List Str->PyData)(l:List (Str×List Str)):List (PyData×PyData):=l.map λp=>(.str p.1,f p.2)
theorem zks(f:List Str->PyData)(n:Str):∀l:List (Str×List Str),zll (dS f l) (Sum.inr n)=(l.lookup n).map f
 | []=>rfl
 | (a,b)::l=>by
  have ih:=zks f n l
  show(if keyD (.str a)=some (Sum.inr n)then some (f b)else zll (dS f l) (Sum.inr n))=_
  rw[qAN]
  by_cases e:a=n
  ·subst e;rw[if_pos (show keyD (.str a)=some (Sum.inr a)from rfl),beq_self_eq_true];rfl
  ·rw[if_neg (show ¬keyD (.str a)=some (Sum.inr n)from λz=>e (qBl (qe z))),beq_eq_false_iff_ne.mpr (qAs e)]
   exact ih
theorem zaff(f:List Str->PyData){l:List (Str×List Str)}(h:n∉l.map (·.1)):zqy (dS f l) (.str n) (f ks)=dS f (l++[(n,ks)]):=by
 unfold zqy dS
 rw[if_neg,qAL]
 ·rfl
 ·intro z
  rw[qBj,qAr]at z
  obtain⟨p,hp,e⟩:=z
  have e:=of_decide_eq_true e
  exact h (qg.mpr ⟨p,hp,qBl (qe e)⟩)
noncomputable def zgr(ks:List Str):List (PyData×PyData):=ks.map λk=>(.str k,.bool true)
noncomputable def zax(ks:List Str):PyData:=.dict (zgr ks)
theorem zvq(x:Str):∀ks:List Str,zxw (zgr ks) (Sum.inr x)=decide (x∈ks)
 | []=>by simp[zgr,zxw,zll]
 | k::ks=>by
  have ih:=zvq x ks
  unfold zxw at ih ⊢
  show(if keyD (.str k)=some (Sum.inr x)then some (PyData.bool true)else zll (zgr ks) (Sum.inr x)).isSome=_
  by_cases e:k=x
  ·subst e;rw[if_pos (show keyD (.str k)=some (Sum.inr k)from rfl)];simp
  ·rw[if_neg (show ¬keyD (.str k)=some (Sum.inr x)from λz=>e (qBl (qe z))),ih]
   have:¬x=k:=λz=>e z.symm
   simp[this]
theorem zafg(ks:List Str)(k:Str):zqy (zgr ks) (.str k) (.bool true)=zgr (insS ks k):=by
 have ha:((zgr ks).any λkv=>decide (keyD kv.1=keyD (.str k)))=decide (k∈ks):=by
  unfold zgr
  rw[qBj,qAd,qAr,decide_eq_true_iff]
  constructor
  ·rintro⟨y,hy,h⟩
   have h:=of_decide_eq_true h
   have:y=k:=qBl (qe h)
   rw[<- this];exact hy
  ·exact λh=>⟨k,h,decide_eq_true rfl⟩
 unfold zqy insS
 rw[ha]
 by_cases hk:k∈ks
 ·rw[if_pos (decide_eq_true hk),if_pos hk]
  unfold zgr
  rw[qAZ]
  refine qBJ λy _=>?_
  show(if keyD (PyData.str y)=keyD (.str k)then(PyData.str y,PyData.bool true)else(PyData.str y,PyData.bool true))=_
  split<;>rfl
 ·rw[if_neg (by simpa using hk),if_neg hk]
  unfold zgr
  rw[qAL];rfl
theorem zkt:∀(ms ks:List Str),zkm (zgr ks) (zgr ms)=zgr (ms.foldl insS ks)
 | [],_=>rfl
 | m::ms,ks=>by
  show zkm (zqy (zgr ks) (.str m) (.bool true)) (zgr ms)=_
  rw[zafg,zkt ms];rfl
theorem zaao(h:pre++x::post=l):l=(pre++[x])++post:=by rw[<- h];simp
theorem zvr:∀{post W:Web},WebOk (W++post)->WebOk W:=by
 intro post
 refine zpv (P:=λpost=>∀{W:Web},WebOk (W++post)->WebOk W) (λ{W} h=>by rwa [qr]at h) (λpost p ih W h=>?_) post
 rw[<- qAQ]at h
 exact ih (zev h).1
theorem zrv(h:WebOk W):zeb [webD W]=some (.dict (dS zax (ups W)),true):=by
 have inner:∀(V:Web)(p:Str×List Str)(es pre:List Str)(s5:Sl),WebOk (V++[p])->pre++es=p.2->
   ∃s5',forL (gN 5) (sUpd 4 (zcs 1 (eVar 5))) (es.map .str) [.pl (webD W),.ac (.dict (dS zax (ups V))),.pl (.str p.1),.pl (zab p.2),.ac (zax (pre.foldl (λks e=>(upL (ups V) e).foldl insS ks) [p.1])),s5] =
    some (.nx [.pl (webD W),.ac (.dict (dS zax (ups V))),.pl (.str p.1),.pl (zab p.2),.ac (zax (p.2.foldl (λks e=>(upL (ups V) e).foldl insS ks) [p.1])),s5']):=by
  intro V p es
  induction es with
  | nil=>intro pre s5 _ e;rw[qr]at e;subst e;exact⟨s5,rfl⟩
  | cons e es ih=>
   intro pre s5 hV hp
   obtain⟨hV',hn,hel,hfew⟩:=zev hV
   have he:e∈nm V:=hel e (by rw[<- hp];simp)
   obtain⟨ks,lk,_⟩:=zhq (l:=ups V) (n:=e) (by rw[zfc];exact he)
   have eup:upL (ups V) e=ks:=by unfold upL;rw[lk];rfl
   have l1:ks.length<=12:=by rw[<- eup];exact zafe hV' e
   have sub:∀x∈pre.foldl (λks e=>(upL (ups V) e).foldl insS ks) [p.1],x∈nm (V++[p]):=λx hx=>by
    rw[zkr]
    rcases zpu.mp hx with z|⟨e',_,z⟩
    ·exact qc _ (by simpa using z)
    ·exact qw _ (zaan hV' z)
   have l2:(pre.foldl (λks e=>(upL (ups V) e).foldl insS ks) [p.1]).length<=12:=by
    have:=zif _ _ (zaam (acc:=ups V) (es:=pre) (ks:=[p.1]) (by simp)) sub
    have:=zpc hV
    omega
   obtain⟨s5',q⟩:=ih (pre++[e]) (.pl (.str e)) hV (by rw[<- hp];simp)
   refine⟨s5',?_⟩
   rw[qM]
   unfold forL
   simp only[gN,qB,qA8,qA7]
   have b:sUpd 4 (zcs 1 (eVar 5)) [.pl (webD W),.ac (.dict (dS zax (ups V))),.pl (.str p.1),.pl (zab p.2),.ac (zax (pre.foldl (λks e=>(upL (ups V) e).foldl insS ks) [p.1])),.pl (.str e)] =
     some (.nx [.pl (webD W),.ac (.dict (dS zax (ups V))),.pl (.str p.1),.pl (zab p.2),.ac (zax ((pre++[e]).foldl (λks e=>(upL (ups V) e).foldl insS ks) [p.1])),.pl (.str e)]):=by
    have lz:(zgr (pre.foldl (λks e=>(upL (ups V) e).foldl insS ks) [p.1])).length+(zgr ks).length<=100000:=by unfold zgr;rw[qD,qD];omega
    simp only[sUpd,zax,zcs,eVar,qAD,qAC,qB,keyD,zks,lk,qAo]
    rw[if_pos ⟨lz,by simp⟩,zkt]
    simp[frzs,qBW,eup]
   rw[b,qB]
   exact q
 have outer:∃env',forL (gT 2 (zag 2 (zag 3 zbw))) (sSeq (sSet 4 (eD1 (eVar 2) (eC (.bool true)))) (sSeq (sFor (zaj (eVar 3)) (gN 5) (sUpd 4 (zcs 1 (eVar 5)))) (sPut 1 (eVar 2) (eVar 4)))) (W.map rowD) [.pl (webD W),.ac (.dict []),.no,.no,.no,.no]=some (.nx env')/\
   ∃s2 s3 s4 s5,env'=[.pl (webD W),.ac (.dict (dS zax (ups W))),s2,s3,s4,s5]:=by
  refine zek (λpre env=>∃s2 s3 s4 s5,env=[.pl (webD W),.ac (.dict (dS zax (ups pre))),s2,s3,s4,s5]) ⟨_,_,_,_,rfl⟩ ?_
  rintro pre p post env hp ⟨s2,s3,s4,s5,rfl⟩
  have hV:WebOk (pre++[p]):=zvr (post:=post) (by rw[<- zaao hp];exact h)
  obtain⟨hV',hn,hel,hfew⟩:=zev hV
  obtain⟨s5',q⟩:=inner pre p p.2 [] s5 hV rfl
  refine⟨[.pl (webD W),.ac (.dict (dS zax (ups pre))),.pl (.str p.1),.pl (zab p.2),s4,s5],[.pl (webD W),.ac (.dict (dS zax (ups (pre++[p])))),.pl (.str p.1),.pl (zab p.2),.pl (zax (p.2.foldl (λks e=>(upL (ups pre) e).foldl insS ks) [p.1])),s5'],rfl,.inl ?_,_,_,_,_,rfl⟩
  have lz:(dS zax (ups pre)).length<100000:=by
   unfold dS
   rw[qD,<- qD (f:=(·.1)),zfc]
   have:=zpc hV'
   omega
  have st:sSet 4 (eD1 (eVar 2) (eC (.bool true))) [.pl (webD W),.ac (.dict (dS zax (ups pre))),.pl (.str p.1),.pl (zab p.2),s4,s5]=some (.nx [.pl (webD W),.ac (.dict (dS zax (ups pre))),.pl (.str p.1),.pl (zab p.2),.ac (zax [p.1]),s5]):=by
   simp[sSet,eD1,eVar,eC,keyD,putV,frzs,slOf,zax,zgr]
  have pt:sPut 1 (eVar 2) (eVar 4) [.pl (webD W),.ac (.dict (dS zax (ups pre))),.pl (.str p.1),.pl (zab p.2),.ac (zax (p.2.foldl (λks e=>(upL (ups pre) e).foldl insS ks) [p.1])),s5'] =
    some (.nx [.pl (webD W),.ac (.dict (dS zax (ups (pre++[p])))),.pl (.str p.1),.pl (zab p.2),.pl (zax (p.2.foldl (λks e=>(upL (ups pre) e).foldl insS ks) [p.1])),s5']):=by
   simp only[sPut,eVar,qAD,qAC,qB,keyD]
   rw[if_pos ⟨lz,by simp⟩,zaff zax (by rw[zfc];exact hn),zhp]
   simp[frzs,frz1,zho]
  exact zar st (zar (for_list rfl q) pt)
 obtain⟨env',hl,s2,s3,s4,s5,rfl⟩:=outer
 exact zgq (env:=[.pl (webD W),.no,.no,.no,.no,.no]) rfl (zar rfl (zar (for_list rfl hl) rfl))
theorem zafh{W:Web}:∀(ms ks:List Str)(s6:Sl),ks.length+ms.length<100000->∃s6',forL (gN 6) (sIf (zbr (eOp (inD true) (eVar 6) (eVar 4))) (sApp 4 (eVar 6)) sNil) (ms.map .str) [A,B,C,D,.ac (zab ks),E,s6]=some (.nx [A,B,C,D,.ac (zab (ms.foldl insS ks)),E,s6'])
 | [],ks,s6,_=>⟨s6,rfl⟩
 | m::ms,ks,s6,hl=>by
  have step:sIf (zbr (eOp (inD true) (eVar 6) (eVar 4))) (sApp 4 (eVar 6)) sNil [A,B,C,D,.ac (zab ks),E,.pl (.str m)]=some (.nx [A,B,C,D,.ac (zab (insS ks m)),E,.pl (.str m)]):=by
   by_cases hm:m∈ks
   ·refine if_f ?_ ?_
    ·simp[zbr,eOp,eVar,ztf,hm]
    ·rw[show insS ks m=ks from if_pos hm];rfl
   ·refine if_t ?_ ?_
    ·simp[zbr,eOp,eVar,ztf,hm]
    ·have lz:(ks.map PyData.str).length<100000:=by rw[qD];simp at hl;omega
     simp only[sApp,zab,eVar,qAD,qAC,qB]
     rw[if_pos ⟨lz,by simp⟩]
     simp[frzs,insS,hm]
  have hl2:(insS ks m).length+ms.length<100000:=by
   have:(insS ks m).length<=ks.length+1:=by unfold insS;split<;>simp
   simp at hl;omega
  obtain⟨s6',q⟩:=zafh (W:=W) ms (insS ks m) (.pl (.str m)) hl2
  refine⟨s6',?_⟩
  rw[qM]
  unfold forL
  simp only[gN,qB,qA8,qA7]
  rw[step,qB]
  exact q
theorem zajc(h:WebOk W):zjr [webD W]=some (.dict (dS zab (ups W)),true):=by
 have inner:∀(V:Web)(p:Str×List Str)(es pre:List Str)(s5 s6:Sl),WebOk (V++[p])->pre++es=p.2->
   ∃s5' s6',forL (gN 5) (sFor (zaj (zcs 1 (eVar 5))) (gN 6) (sIf (zbr (eOp (inD true) (eVar 6) (eVar 4))) (sApp 4 (eVar 6)) sNil)) (es.map .str) [.pl (webD W),.ac (.dict (dS zab (ups V))),.pl (.str p.1),.pl (zab p.2),.ac (zab (pre.foldl (λks e=>(upL (ups V) e).foldl insS ks) [p.1])),s5,s6] =
    some (.nx [.pl (webD W),.ac (.dict (dS zab (ups V))),.pl (.str p.1),.pl (zab p.2),.ac (zab (p.2.foldl (λks e=>(upL (ups V) e).foldl insS ks) [p.1])),s5',s6']):=by
  intro V p es
  induction es with
  | nil=>intro pre s5 s6 _ e;rw[qr]at e;subst e;exact⟨s5,s6,rfl⟩
  | cons e es ih=>
   intro pre s5 s6 hV hp
   obtain⟨hV',hn,hel,hfew⟩:=zev hV
   have he:e∈nm V:=hel e (by rw[<- hp];simp)
   obtain⟨ks,lk,_⟩:=zhq (l:=ups V) (n:=e) (by rw[zfc];exact he)
   have eup:upL (ups V) e=ks:=by unfold upL;rw[lk];rfl
   have l1:ks.length<=12:=by rw[<- eup];exact zafe hV' e
   have sub:∀x∈pre.foldl (λks e=>(upL (ups V) e).foldl insS ks) [p.1],x∈nm (V++[p]):=λx hx=>by
    rw[zkr]
    rcases zpu.mp hx with z|⟨e',_,z⟩
    ·exact qc _ (by simpa using z)
    ·exact qw _ (zaan hV' z)
   have l2:(pre.foldl (λks e=>(upL (ups V) e).foldl insS ks) [p.1]).length<=12:=by
    have:=zif _ _ (zaam (acc:=ups V) (es:=pre) (ks:=[p.1]) (by simp)) sub
    have:=zpc hV
    omega
   obtain⟨s6',q1⟩:=zafh (W:=W) (A:=.pl (webD W)) (B:=.ac (.dict (dS zab (ups V)))) (C:=.pl (.str p.1)) (D:=.pl (zab p.2)) (E:=.pl (.str e)) ks (pre.foldl (λks e=>(upL (ups V) e).foldl insS ks) [p.1]) s6 (by omega)
   obtain⟨s5',s6'',q⟩:=ih (pre++[e]) (.pl (.str e)) s6' hV (by rw[<- hp];simp)
   refine⟨s5',s6'',?_⟩
   rw[qM]
   unfold forL
   simp only[gN,qB,qA8,qA7]
   have gd:zcs 1 (eVar 5) [.pl (webD W),.ac (.dict (dS zab (ups V))),.pl (.str p.1),.pl (zab p.2),.ac (zab (pre.foldl (λks e=>(upL (ups V) e).foldl insS ks) [p.1])),.pl (.str e),s6]=some ⟨zab ks,false,[]⟩:=by
    simp[zcs,eVar,keyD,zks,lk]
   rw[for_list gd q1,qB]
   rw[qBW,qBL,List.foldl_nil,eup]at q
   exact q
 have outer:∃env',forL (gT 2 (zag 2 (zag 3 zbw))) (sSeq (sSet 4 (eLst (zaa (eVar 2) aNil))) (sSeq (sFor (zaj (eVar 3)) (gN 5) (sFor (zaj (zcs 1 (eVar 5))) (gN 6) (sIf (zbr (eOp (inD true) (eVar 6) (eVar 4))) (sApp 4 (eVar 6)) sNil))) (sPut 1 (eVar 2) (eVar 4)))) (W.map rowD) [.pl (webD W),.ac (.dict []),.no,.no,.no,.no,.no]=some (.nx env')/\
   ∃s2 s3 s4 s5 s6,env'=[.pl (webD W),.ac (.dict (dS zab (ups W))),s2,s3,s4,s5,s6]:=by
  refine zek (λpre env=>∃s2 s3 s4 s5 s6,env=[.pl (webD W),.ac (.dict (dS zab (ups pre))),s2,s3,s4,s5,s6]) ⟨_,_,_,_,_,rfl⟩ ?_
  rintro pre p post env hp ⟨s2,s3,s4,s5,s6,rfl⟩
  have hV:WebOk (pre++[p]):=zvr (post:=post) (by rw[<- zaao hp];exact h)
  obtain⟨hV',hn,hel,hfew⟩:=zev hV
  obtain⟨s5',s6',q⟩:=inner pre p p.2 [] s5 s6 hV rfl
  refine⟨[.pl (webD W),.ac (.dict (dS zab (ups pre))),.pl (.str p.1),.pl (zab p.2),s4,s5,s6],[.pl (webD W),.ac (.dict (dS zab (ups (pre++[p])))),.pl (.str p.1),.pl (zab p.2),.pl (zab (p.2.foldl (λks e=>(upL (ups pre) e).foldl insS ks) [p.1])),s5',s6'],rfl,.inl ?_,_,_,_,_,_,rfl⟩
  have lz:(dS zab (ups pre)).length<100000:=by
   unfold dS
   rw[qD,<- qD (f:=(·.1)),zfc]
   have:=zpc hV'
   omega
  have pt:sPut 1 (eVar 2) (eVar 4) [.pl (webD W),.ac (.dict (dS zab (ups pre))),.pl (.str p.1),.pl (zab p.2),.ac (zab (p.2.foldl (λks e=>(upL (ups pre) e).foldl insS ks) [p.1])),s5',s6'] =
    some (.nx [.pl (webD W),.ac (.dict (dS zab (ups (pre++[p])))),.pl (.str p.1),.pl (zab p.2),.pl (zab (p.2.foldl (λks e=>(upL (ups pre) e).foldl insS ks) [p.1])),s5',s6']):=by
   simp only[sPut,eVar,qAD,qAC,qB,keyD]
   rw[if_pos ⟨lz,by simp⟩,zaff zab (by rw[zfc];exact hn),zhp]
   simp[frzs,frz1,zho]
  exact zar rfl (zar (for_list rfl q) pt)
 obtain⟨env',hl,s2,s3,s4,s5,s6,rfl⟩:=outer
 exact zgq (env:=[.pl (webD W),.no,.no,.no,.no,.no,.no]) rfl (zar rfl (zar (for_list rfl hl) rfl))
noncomputable def ltr(i:Int):Str:=⟨#[97+i.toNat]⟩
noncomputable def Low(x:Str):Prop:=∀c∈x.cps.toList,c<128
theorem zly(h:Low x):qAJ x=true:=by
 unfold qAJ
 rw[<- Array.all_toList,qAX]
 intro c hc
 have:=h c hc
 exact decide_eq_true (by omega)
theorem zhr(a b:Str):(a++b).cps.toList=a.cps.toList++b.cps.toList:=by
 show(a.cps++b.cps).toList=_
 simp
theorem Low.app(h1:Low a)(h2:Low b):Low (a++b):=λc hc=>by
 rw[zhr]at hc
 exact(qV.mp hc).elim (h1 c) (h2 c)
theorem Low.slice(h:Low x)(l u:Option Int):Low (Txt.slice x l u):=λc hc=>by
 unfold Txt.slice at hc
 split at hc
 ·exact h c hc
 ·have hc:c∈(List.filterMap (x.cps[·]?) (Builtin.Str.strSliceIndices l u 1 x.length)):=by simpa using hc
  obtain⟨i,_,e⟩:=qBQ.mp hc
  exact h c (by
   have:=qCl e
   simpa using this)
theorem Low.ltr(h0:0<=i)(h1:i<26):Low (ltr i):=λc hc=>by
 have:c=97+i.toNat:=by simpa [Bc.ltr]using hc
 omega
theorem zvs(c:Nat):∀(n:Nat)(acc:Array Nat),((List.replicate n #[c]).foldl (·++·) acc).toList=acc.toList++List.replicate n c
 | 0,acc=>by simp
 | n+1,acc=>by
  rw[qBI,qBL,zvs c n,qBI]
  simp
theorem zlz{n:Int}(h:0<=n):(Txt.mul ⟨#[c]⟩ n).cps.toList=List.replicate n.toNat c:=by
 unfold Txt.mul
 split
 ·have:n.toNat=0:=by omega
  rw[this];rfl
 ·split
  ·rename_i h1 h2
   have:n=1:=by
    rcases qBs.mp h2 with z|z
    ·exact eq_of_beq z
    ·exact absurd z (by simp[Str.length])
   subst this
   rfl
  ·rw[zvs];rfl
theorem Low.mul(hc:c<128)(h:0<=n):Low (Txt.mul ⟨#[c]⟩ n):=λd hd=>by
 rw[zlz h]at hd
 rw[qBX hd];exact hc
theorem zafi{n:Int}(h:0<=n):(Txt.mul ⟨#[c]⟩ n).length=n.toNat:=by
 have:=congrArg List.length (zlz (c:=c) h)
 rw[qAa]at this
 simpa [Str.length]using this
noncomputable def zhs(md o st:Int)(stem:Str)(at_:Int)(k:Nat):Str:=
 if md=0 then Txt.slice stem none (some at_)++ltr ((o+st * k) % 26)++Txt.slice stem (some at_) none
 else if md=1 then Txt.slice stem none (some (k * st % (stem.length+1)))++ltr ((o+st * k) % 26)
 else Txt.mul (ltr ((o+k / 8) % 26)) (1+k * st % 8)
theorem zafj(h0:0<=i)(h1:0<=j)(h:ltr i=ltr j):i=j:=by
 unfold ltr at h
 have:#[97+i.toNat]=#[97+j.toNat]:=by injection h
 have:97+i.toNat=97+j.toNat:=by simpa using this
 omega
theorem zvt:∀st∈([1,3,5,7,9,11,15,17]:List Nat),∀a<16,∀b<16,st * a % 26=st * b % 26->a=b:=by decide +kernel
theorem zaap{o st:Int}(hs:st∈([1,3,5,7,9,11,15,17]:List Int)){a b:Nat}(ha:a<16)(hb:b<16)(h:(o+st * a) % 26=(o+st * b) % 26):a=b:=by
 have h2:=Int.emod_add_cancel_left.mp h
 simp only[qP,qBc,or_false]at hs
 rcases hs with rfl|rfl|rfl|rfl|rfl|rfl|rfl|rfl
 ·exact zvt 1 (by decide) a ha b hb (by exact_mod_cast h2)
 ·exact zvt 3 (by decide) a ha b hb (by exact_mod_cast h2)
 ·exact zvt 5 (by decide) a ha b hb (by exact_mod_cast h2)
 ·exact zvt 7 (by decide) a ha b hb (by exact_mod_cast h2)
 ·exact zvt 9 (by decide) a ha b hb (by exact_mod_cast h2)
 ·exact zvt 11 (by decide) a ha b hb (by exact_mod_cast h2)
 ·exact zvt 15 (by decide) a ha b hb (by exact_mod_cast h2)
 ·exact zvt 17 (by decide) a ha b hb (by exact_mod_cast h2)
theorem zanh{x y:Int}(hx:0<=x)(hy:0<=y)(h:97+x.toNat=97+y.toNat):x=y:=by omega
theorem zaqo{x y:Int}(hx:0<=x)(hy:0<=y)(h:(1+x).toNat=(1+y).toNat):x=y:=by omega
theorem zafk{x:Int}(hx:0<=x):(1+x).toNat=x.toNat+1:=by omega
theorem tab8:∀st∈([1,3,5,7,9,11,15,17]:List Nat),∀a<16,∀b<16,a / 8=b / 8->a * st % 8=b * st % 8->a=b:=by decide +kernel
theorem zafl{o st:Int}(hs:st∈([1,3,5,7,9,11,15,17]:List Int)){a b:Nat}(ha:a<16)(hb:b<16)(h:(o+(a:Int) / 8) % 26=(o+(b:Int) / 8) % 26)(h2:(a:Int) * st % 8=b * st % 8):a=b:=by
 have q1:a / 8=b / 8:=by omega
 simp only[qP,qBc,or_false]at hs
 rcases hs with rfl|rfl|rfl|rfl|rfl|rfl|rfl|rfl
 ·exact tab8 1 (by decide) a ha b hb q1 (by exact_mod_cast h2)
 ·exact tab8 3 (by decide) a ha b hb q1 (by exact_mod_cast h2)
 ·exact tab8 5 (by decide) a ha b hb q1 (by exact_mod_cast h2)
 ·exact tab8 7 (by decide) a ha b hb q1 (by exact_mod_cast h2)
 ·exact tab8 9 (by decide) a ha b hb q1 (by exact_mod_cast h2)
 ·exact tab8 11 (by decide) a ha b hb q1 (by exact_mod_cast h2)
 ·exact tab8 15 (by decide) a ha b hb q1 (by exact_mod_cast h2)
 ·exact tab8 17 (by decide) a ha b hb q1 (by exact_mod_cast h2)
theorem zafm{md o st at_:Int}{stem:Str}(hs:st∈([1,3,5,7,9,11,15,17]:List Int))(ho:0<=o){a b:Nat}(ha:a<16)(hb:b<16)(h:zhs md o st stem at_ a=zhs md o st stem at_ b):a=b:=by
 have st0:0<=st:=by
  simp only[qP,qBc,or_false]at hs
  rcases hs with rfl|rfl|rfl|rfl|rfl|rfl|rfl|rfl<;>decide
 have n26:∀z:Int,0<=z % 26:=λz=>qt z (by decide)
 unfold zhs at h
 by_cases h0:md=0
 ·rw[if_pos h0,if_pos h0]at h
  have q:=congrArg (λx:Str=>x.cps.toList) h
  simp only[zhr]at q
  have q2:=List.append_cancel_right q
  have q3:=List.append_cancel_left q2
  have q4:ltr ((o+st * a) % 26)=ltr ((o+st * b) % 26):=by
   unfold ltr at q3 ⊢
   congr 1
   exact Array.toList_inj.mp q3
  exact zaap hs ha hb (zafj (n26 _) (n26 _) q4)
 ·rw[if_neg h0,if_neg h0]at h
  by_cases h1:md=1
  ·rw[if_pos h1,if_pos h1]at h
   have q:=congrArg (λx:Str=>x.cps.toList) h
   simp only[zhr]at q
   have q3:=(List.append_inj' q (by simp[ltr])).2
   have q4:ltr ((o+st * a) % 26)=ltr ((o+st * b) % 26):=by
    unfold ltr at q3 ⊢
    congr 1
    exact Array.toList_inj.mp q3
   exact zaap hs ha hb (zafj (n26 _) (n26 _) q4)
  ·rw[if_neg h1,if_neg h1]at h
   have m8:∀z:Int,0<=z % 8:=λz=>qt z (by decide)
   have q:(Txt.mul (ltr ((o+(a:Int) / 8) % 26)) (1+a * st % 8)).cps.toList=(Txt.mul (ltr ((o+(b:Int) / 8) % 26)) (1+b * st % 8)).cps.toList:=by rw[h]
   have ea:∀k:Nat,(Txt.mul (ltr ((o+(k:Int) / 8) % 26)) (1+k * st % 8)).cps.toList=List.replicate (1+(k:Int) * st % 8).toNat (97+((o+(k:Int) / 8) % 26).toNat):=λk=>zlz (by have:=m8 (k * st);omega)
   rw[ea a,ea b]at q
   have ql:=congrArg List.length q
   rw[qAa,qAa]at ql
   have w1:=m8 (a * st)
   have w2:=m8 (b * st)
   have hh:(97+((o+(a:Int) / 8) % 26).toNat)=(97+((o+(b:Int) / 8) % 26).toNat):=by
    have c1:(1+(a:Int) * st % 8).toNat=((a:Int) * st % 8).toNat+1:=zafk w1
    have c2:(1+(b:Int) * st % 8).toNat=((b:Int) * st % 8).toNat+1:=zafk w2
    rw[c1,c2,qBI,qBI]at q
    exact(List.cons.inj q).1
   have z1:=n26 (o+(a:Int) / 8)
   have z2:=n26 (o+(b:Int) / 8)
   exact zafl (o:=o) hs ha hb (zanh z1 z2 hh) (zaqo w1 w2 ql)
theorem zpx{f:Nat->α}(h:∀a b,a<n->b<n->f a=f b->a=b):((List.range n).map f).Nodup:=by
 rw[List.nodup_iff_pairwise_ne,List.pairwise_map]
 refine List.Pairwise.imp_of_mem ?_ (List.pairwise_lt_range (n:=n))
 intro a b ha hb hab e
 have:=h a b (qAW.mp ha) (qAW.mp hb) e
 omega
theorem zafn(hl:Low stem)(ho:0<=o)(hst:0<=st)(k:Nat):Low (zhs md o st stem at_ k):=by
 have n26:∀z:Int,0<=z % 26/\z % 26<26:=λz=>⟨qt z (by decide),qu z (by decide)⟩
 unfold zhs
 split
 ·exact((hl.slice _ _).app (Low.ltr (n26 _).1 (n26 _).2)).app (hl.slice _ _)
 ·split
  ·exact(hl.slice _ _).app (Low.ltr (n26 _).1 (n26 _).2)
  ·have:=qt ((k:Int) * st) (show(8:Int)≠0 by decide)
   exact Low.mul (by have:=n26 (o+(k:Int) / 8);omega) (by omega)
noncomputable abbrev vi(i:Int):Val:=⟨.int i,false,[]⟩
noncomputable abbrev vs(x:Str):Val:=⟨.str x,false,[]⟩
noncomputable abbrev vb(b:Bool):Val:=⟨.bool b,false,[]⟩
section
variable{a b:EF}{env:DEnv}{i j:Int}
theorem zep(ha:a env=some (vi i))(hb:b env=some (vi j))(h:0<j):eOp modD a b env=some (vi (i % j)):=by
 unfold eOp;rw[ha,hb];simp[modD,intD,h,bsOf,zdy]
theorem zgv(ha:a env=some (vi i))(hb:b env=some (vi j))(h:0<j)(h2:j<1073741824):eOp zbk a b env=some (vi (i / j)):=by
 unfold eOp;rw[ha,hb];simp[zbk,intD,h,h2,bsOf,zdy]
theorem zoi(ha:a env=some (vi i))(hb:b env=some (vi j)):eOp addD a b env=some (vi (i+j)):=by
 unfold eOp;rw[ha,hb];simp[addD,bsOf,zdy]
theorem zani(ha:a env=some (vi i))(hb:b env=some (vi j)):eOp subD a b env=some (vi (i - j)):=by
 unfold eOp;rw[ha,hb];simp[subD,intD,bsOf,zdy]
theorem zajd(ha:a env=some (vi i))(hb:b env=some (vi j))(h:(-(2 ^ 64)<i/\i<2 ^ 64)\/(-(2 ^ 64)<j/\j<2 ^ 64)):eOp mulD a b env=some (vi (i * j)):=by
 unfold eOp;rw[ha,hb]
 simp only[qB,mulD]
 rw[if_pos h];simp[bsOf,zdy]
theorem ztj(ha:a env=some (vi i))(hb:b env=some (vi j)):eOp eqD a b env=some (vb (i==j)):=by
 unfold eOp;rw[ha,hb];rfl
theorem zafo{x y:Str}(ha:a env=some (vs x))(hb:b env=some (vs y))(h:x.length+y.length<=100000):eOp addD a b env=some (vs (x++y)):=by
 unfold eOp;rw[ha,hb]
 simp only[qB,addD]
 rw[if_pos h];simp[bsOf,zdy]
theorem zakt{x:Str}(ha:a env=some (vs x))(hb:b env=some (vi j))(h:x.length<=1000/\-1000<=j/\j<=1000):eOp mulD a b env=some (vs (Txt.mul x j)):=by
 unfold eOp;rw[ha,hb]
 simp only[qB,mulD]
 rw[if_pos h];simp[bsOf,zdy]
theorem zanj{x:Str}(ha:a env=some (vs x))(hl:l env=some lo)(hh:h env=some hi)(hz:x.length<=100000):eSl a l h env=some (vs (Txt.slice x lo hi)):=by
 unfold eSl;rw[ha,hl,hh]
 simp only[qB,slD]
 rw[if_pos hz];simp[bsOf,zdy]
theorem zma(ha:a env=some (vi i)):zca a env=some (some i):=by unfold zca;rw[ha];rfl
theorem zgj(ha:a env=some (vb c)):zbr a env=some c:=by unfold zbr;rw[ha];rfl
theorem zel(ha:a env=some r):zaa a aNil env=some [r]:=by unfold zaa aNil;rw[ha];rfl
theorem zaku{x:Str}(ha:a env=some (vs x))(hz:x.length<=100000):eCB lenD (zaa a aNil) env=some (vi x.length):=by
 unfold eCB
 rw[zel ha]
 simp[zii,lenD,hz,bsOf,zdy]
theorem zis{ds:List PyData}(ha:a env=some ⟨.list ds,fr,bs⟩):eCB lenD (zaa a aNil) env=some (vi ds.length):=by
 unfold eCB
 rw[zel ha]
 simp[zii,lenD,bsOf,zdy]
theorem zabr{k n:Nat}{b:EF}{ds:List PyData}{d:PyData}(he:env[k]?=some (.pl (.list ds)))(hb:b env=some (vi (n:Int)))(hd:ds[n]?=some d):eIxV k b env=some ⟨d,false,[]⟩:=by
 unfold eIxV
 rw[he]
 unfold eOp eVar
 rw[he,hb]
 simp only[qB,ixD]
 rw[zki hd]
 simp[bsOf]
theorem zase{k n:Nat}{b:EF}{ds:List PyData}{d:PyData}(he:env[k]?=some (.ac (.list ds)))(hb:b env=some (vi (n:Int)))(hd:ds[n]?=some d):eIxV k b env=some ⟨d,false,[]⟩:=by
 unfold eIxV
 rw[he]
 simp only
 rw[hb]
 simp only[qB]
 rw[zki hd];rfl
end
noncomputable def abc:Str:="abcdefghijklmnopqrstuvwxyz"
theorem zank:(List.range 26).all (λi=>abc.cps.toList[i]?==some (97+i))=true:=by decide +kernel
theorem zanl:abc.length=26:=by decide +kernel
theorem zaqp{i:Int}(h0:0<=i)(h1:i<26):atI abc.cps.toList i=some (97+i.toNat):=by
 have q:=qAX.mp zank i.toNat (qAW.mpr (by omega))
 have e:((i.toNat:Nat):Int)=i:=by omega
 rw[<- e]
 have z:=zki (eq_of_beq q)
 rw[e]at z ⊢
 exact z
theorem zanm(he:env[k]?=some (.pl (.str abc)))(hb:b env=some (vi i))(h0:0<=i)(h1:i<26):eIxV k b env=some (vs (ltr i)):=by
 unfold eIxV
 rw[he]
 unfold eOp eVar
 rw[he,hb]
 simp only[qB,ixD]
 rw[if_pos (by rw[zanl];decide),zaqp h0 h1]
 simp[bsOf,zdy,ltr]
theorem zann(h0:0<=i)(h1:i<8):∃st:Int,atI [PyData.int 1,.int 3,.int 5,.int 7,.int 9,.int 11,.int 15,.int 17] i=some (.int st)/\st∈([1,3,5,7,9,11,15,17]:List Int):=by
 rcases(show i=0\/i=1\/i=2\/i=3\/i=4\/i=5\/i=6\/i=7 by omega)with rfl|rfl|rfl|rfl|rfl|rfl|rfl|rfl
 all_goals exact⟨_,rfl,by decide⟩
theorem znq{env:DEnv}{ds:List PyData}(he:env[i]?=some (.ac (.list ds)))(hf:f env=some ⟨d,fr,[]⟩)(hl:ds.length<100000):sApp i f env=some (.nx (env.set i (.ac (.list (ds++[d]))))):=by
 unfold sApp
 rw[he]
 simp only
 rw[hf]
 simp only[qB]
 rw[if_pos ⟨hl,by simp⟩];rfl
theorem zmb(n:Nat):zpl 0 n=(List.range n).map (λ(k:Nat)=>PyData.int (k:Int)):=by
 unfold zpl
 refine qBJ λk _=>?_
 show PyData.int (0+(k:Int))=_
 rw[Int.zero_add]
theorem ztk(a b:Str):(a++b).length=a.length+b.length:=by
 have:=congrArg List.length (zhr a b)
 rw[qJ]at this
 simpa [Str.length]using this
theorem zafp:WebOk []:=⟨qA5,λi n es e=>by simp at e,λp hp=>by simp at hp,by simp⟩
theorem zafq{W:Web}{p:Str×List Str}(h:WebOk W)(hn:p.1∉nm W)(he:∀e∈p.2,e∈nm W)(hf:p.2.length<=4)(hl:W.length<12):WebOk (W++[p]):=by
 refine⟨by rw[zkr];exact zxr h.nd hn,λi n es e=>?_,λq hq=>?_,by simp;omega⟩
 ·by_cases hi:i<W.length
  ·rw[qI hi]at e
   rw[qAj (by omega)]
   exact h.el i n es e
  ·rw[qH (by omega)]at e
   have hi2:i - W.length=0:=by
    have:=(qK.mp e).1
    simp at this;omega
   rw[hi2]at e
   cases e
   have:i=W.length:=by omega
   subst this
   rw[qAj (qO _),qB8]
   exact he
 ·rcases qV.mp hq with hq|hq
  ·exact h.few q hq
  ·rw[qf.mp hq];exact hf
theorem zyj(ds:List PyData)(k:Nat)(h:k<=ds.length):cutD ds none (some (k:Int))=ds.take k:=by
 unfold cutD
 have e1:HT.sIx ds.length 0 none=0:=rfl
 rw[e1,HT.sIx_nat]
 simp
theorem zaaq(enc:α->PyData)(l:List α):zmq (l.map enc)=(l.zipIdx).map λ(p:α×Nat)=>PyData.tuple [.int (p.2:Int),enc p.1]:=by
 unfold zmq
 rw[List.zipIdx_map,qAZ];rfl
theorem zaqq{l:List α}(nd:l.Nodup){hi:i<l.length}{hj:j<l.length}(e:l[i]=l[j]):i=j:=by
 rcases Nat.lt_trichotomy i j with h|h|h
 ·exact absurd e (qCT.mp nd i j hi hj h)
 ·exact h
 ·exact absurd e.symm (qCT.mp nd j i hj hi h)
theorem zmu:∀(l:List α)(i:Nat)(h:i<l.length),(l[i]::l.eraseIdx i).Perm l
 | [],_,h=>by simp at h
 | a::l,0,_=>qB5 _
 | a::l,i+1,h=>by
  have hi:i<l.length:=by simpa using h
  have ih:=zmu l i hi
  show(l[i]::a::l.eraseIdx i).Perm (a::l)
  exact(List.Perm.swap a l[i] _).trans (List.Perm.cons a ih)
theorem zpy(f:α->β):∀(l:List α)(i:Nat),(l.map f).eraseIdx i=(l.eraseIdx i).map f
 | [],_=>rfl
 | _::_,0=>rfl
 | a::l,i+1=>by
  show f a::(l.map f).eraseIdx i=f a::(l.eraseIdx i).map f
  rw[zpy f l i]
theorem zvu{xs:List Str}(hx:xs.length<=12):∀(t:Nat)(ls es:List Str)(rs:Int)(s8 s9:Sl),(es++ls).Perm xs->t+es.length<=4->t<=ls.length->
  ∃es' s5 s6 s8' s9',forL (gN 8) (sSeq (sSet 9 (eOp modD (eVar 6) (eCB lenD (zaa (eVar 5) aNil)))) (sSeq (sSet 6 (eOp zbk (eVar 6) (eCB lenD (zaa (eVar 5) aNil)))) (zgd 7 5 (eVar 9)))) ((List.range' es.length t).map λ(k:Nat)=>PyData.int (k:Int)) [A,B,C,.pl (.int (kk:Int)),nn,.ac (zab ls),.pl (.int rs),.ac (zab es),s8,s9] =
   some (.nx [A,B,C,.pl (.int (kk:Int)),nn,s5,s6,.ac (zab es'),s8',s9'])/\es'.Nodup=es'.Nodup/\(∃ls',(es'++ls').Perm xs)/\es'.length=t+es.length
 | 0,ls,es,rs,s8,s9,pm,_,_=>⟨es,_,_,s8,s9,rfl,rfl,⟨ls,pm⟩,by simp⟩
 | t+1,ls,es,rs,s8,s9,pm,h4,hl=>by
  have hls:0<ls.length:=by omega
  have pl:=pm.length_eq
  rw[qJ]at pl
  have a0:=qt rs (show((ls.length:Nat):Int)≠0 by omega)
  have a1:=qu rs (show(0:Int)<((ls.length:Nat):Int) by omega)
  have hk:(rs % ((ls.length:Nat):Int)).toNat<ls.length:=by omega
  have e9:((rs % ((ls.length:Nat):Int)).toNat:Int)=rs % ((ls.length:Nat):Int):=by omega
  generalize eA:(rs % ((ls.length:Nat):Int)).toNat=at_ at hk e9
  have pm2:((es++[ls[at_]])++ls.eraseIdx at_).Perm xs:=by
   refine List.Perm.trans ?_ pm
   rw[qAQ]
   exact qCQ es (zmu ls at_ hk)
  obtain⟨es',s5,s6,s8',s9',q,_,hp,hlen⟩:=zvu (A:=A) (B:=B) (C:=C) (kk:=kk) (nn:=nn) hx t (ls.eraseIdx at_) (es++[ls[at_]]) (rs / ((ls.length:Nat):Int)) (.pl (.int (es.length:Int))) (.pl (.int (at_:Int))) pm2 (by simp;omega) (by rw[qCP hk];omega)
  refine⟨es',s5,s6,s8',s9',?_,rfl,hp,by rw[hlen];simp;omega⟩
  rw[List.range'_succ,qM]
  unfold forL
  simp only[gN,qB,qA8,qA7]
  have st1:sSet 9 (eOp modD (eVar 6) (eCB lenD (zaa (eVar 5) aNil))) [A,B,C,.pl (.int (kk:Int)),nn,.ac (zab ls),.pl (.int rs),.ac (zab es),.pl (.int (es.length:Int)),s9]=some (.nx [A,B,C,.pl (.int (kk:Int)),nn,.ac (zab ls),.pl (.int rs),.ac (zab es),.pl (.int (es.length:Int)),.pl (.int (at_:Int))]):=by
   have:=zcc (i:=9) (zep (a:=eVar 6) (env:=[A,B,C,.pl (.int (kk:Int)),nn,.ac (zab ls),.pl (.int rs),.ac (zab es),.pl (.int (es.length:Int)),s9]) rfl (zis (a:=eVar 5) rfl) (by rw[qD];omega))
   rw[this,qD,<- e9];rfl
  have st2:sSet 6 (eOp zbk (eVar 6) (eCB lenD (zaa (eVar 5) aNil))) [A,B,C,.pl (.int (kk:Int)),nn,.ac (zab ls),.pl (.int rs),.ac (zab es),.pl (.int (es.length:Int)),.pl (.int (at_:Int))]=some (.nx [A,B,C,.pl (.int (kk:Int)),nn,.ac (zab ls),.pl (.int (rs / ((ls.length:Nat):Int))),.ac (zab es),.pl (.int (es.length:Int)),.pl (.int (at_:Int))]):=by
   have:=zcc (i:=6) (zgv (a:=eVar 6) (env:=[A,B,C,.pl (.int (kk:Int)),nn,.ac (zab ls),.pl (.int rs),.ac (zab es),.pl (.int (es.length:Int)),.pl (.int (at_:Int))]) rfl (zis (a:=eVar 5) rfl) (by rw[qD];omega) (by rw[qD];omega))
   rw[this,qD];rfl
  have st3:zgd 7 5 (eVar 9) [A,B,C,.pl (.int (kk:Int)),nn,.ac (zab ls),.pl (.int (rs / ((ls.length:Nat):Int))),.ac (zab es),.pl (.int (es.length:Int)),.pl (.int (at_:Int))]=some (.nx [A,B,C,.pl (.int (kk:Int)),nn,.ac (zab (ls.eraseIdx at_)),.pl (.int (rs / ((ls.length:Nat):Int))),.ac (zab (es++[ls[at_]])),.pl (.int (es.length:Int)),.pl (.int (at_:Int))]):=by
   simp only[zgd,zab,eVar,qAD,qAC,qB]
   rw[if_pos ⟨by omega,by omega,by rw[qD];omega,by decide⟩,qBE,qS,qL hk]
   simp[zpy]
  rw[zar st1 (zar st2 st3),qB]
  rw[show(es++[ls[at_]]).length=es.length+1 by simp]at q
  exact q
theorem zafr{cs:List Int}{xs:List Str}(hle:xs.length<=cs.length)(h12:xs.length<=12)(nd:xs.Nodup):∃W,zhf [zbz cs,zab xs]=some (webD W,true)/\nm W=xs/\WebOk W:=by
 have loop:∃env',forL (gT 2 (zag 3 (zag 4 zbw))) (sSeq (sSet 5 (eSl (eVar 1) zfk (zca (eVar 3))))
  (sSeq (sSet 6 (eOp zbk (eIxV 0 (eVar 3)) (eC (.int 5))))
  (sSeq (sSet 7 (eLst aNil))
  (sSeq (sFor (zdw (zaa (eCB minD (zaa (eOp modD (eIxV 0 (eVar 3)) (eC (.int 5))) (zaa (eVar 3) aNil))) aNil)) (gN 8)
  (sSeq (sSet 9 (eOp modD (eVar 6) (eCB lenD (zaa (eVar 5) aNil))))
  (sSeq (sSet 6 (eOp zbk (eVar 6) (eCB lenD (zaa (eVar 5) aNil))))
  (zgd 7 5 (eVar 9)))))
  (sApp 2 (eTup (zaa (eVar 4) (zaa (eVar 7) aNil)))))))) ((xs.zipIdx).map λ(p:Str×Nat)=>PyData.tuple [.int (p.2:Int),.str p.1]) [.pl (zbz cs),.pl (zab xs),.ac (webD []),.no,.no,.no,.no,.no,.no,.no]=some (.nx env')/\
   ∃W s3 s4 s5 s6 s7 s8 s9,env'=[.pl (zbz cs),.pl (zab xs),.ac (webD W),s3,s4,s5,s6,s7,s8,s9]/\nm W=(xs.zipIdx).map (λp:Str×Nat=>p.1)/\WebOk W:=by
  refine zek (λpre env=>∃W s3 s4 s5 s6 s7 s8 s9,env=[.pl (zbz cs),.pl (zab xs),.ac (webD W),s3,s4,s5,s6,s7,s8,s9]/\nm W=pre.map (λp:Str×Nat=>p.1)/\WebOk W) ⟨[],_,_,_,_,_,_,_,rfl,rfl,zafp⟩ ?_
  rintro pre ⟨n,i⟩ post env hp ⟨W,s3,s4,s5,s6,s7,s8,s9,rfl,hnm,ok⟩
  have hz:(xs.zipIdx)[pre.length]?=some (n,i):=by rw[<- hp];simp
  rw[qCw]at hz
  have hi:i=pre.length/\xs[pre.length]?=some n:=by
   cases e:xs[pre.length]? with
   | none=>rw[e]at hz;cases hz
   | some y=>rw[e]at hz;simp at hz;exact⟨by omega,by rw[hz.1]⟩
  obtain⟨rfl,hn⟩:=hi
  have hix:pre.length<xs.length:=(qK.mp hn).1
  have hic:pre.length<cs.length:=by omega
  have hpre:pre.map (λp:Str×Nat=>p.1)=xs.take pre.length:=by
   have e1:(xs.zipIdx).map (λp:Str×Nat=>p.1)=xs:=qBH 0 xs
   have e2:=congrArg (λl:List (Str×Nat)=>(l.map (λp:Str×Nat=>p.1)).take pre.length) hp
   simp only[e1]at e2
   rw[<- e2,qAL,qAj (by simp),<- qBY,qB8]
  have hWl:W.length=pre.length:=by
   have:=congrArg List.length hnm
   unfold nm at this
   simpa using this
  have gc:∀{env:DEnv},env[0]?=some (.pl (zbz cs))->env[3]?=some (.pl (.int (pre.length:Int)))->eIxV 0 (eVar 3) env=some (vi cs[pre.length]):=λ{env} h0 h3=>
   zabr (ds:=cs.map .int) h0 (by unfold eVar;rw[h3]) (by rw[qS,qL hic];rfl)
  have m5:=qt cs[pre.length] (show(5:Int)≠0 by decide)
  have m5':=qu cs[pre.length] (show(0:Int)<5 by decide)
  generalize eN:(if((pre.length:Nat):Int)<cs[pre.length] % 5 then((pre.length:Nat):Int)else cs[pre.length] % 5)=N
  have hN:0<=N/\N<=pre.length/\N<=4:=by rw[<- eN];split<;>omega
  have tl:(xs.take pre.length).length=pre.length:=by rw[qAk];omega
  obtain⟨es,s5',s6',s8',s9',q,_,⟨ls,pm⟩,hes⟩:=zvu (A:=.pl (zbz cs)) (B:=.pl (zab xs)) (C:=.ac (webD W)) (kk:=pre.length) (nn:=.pl (.str n)) (xs:=xs.take pre.length) (by omega) N.toNat (xs.take pre.length) [] (cs[pre.length] / 5) s8 s9 (qB5 _) (by simp;omega) (by omega)
  have ndT:(xs.take pre.length).Nodup:=nd.sublist (qBz _ _)
  have ndE:es.Nodup:=(qAT.mp (pm.nodup_iff.mpr ndT)).1
  have subE:∀e∈es,e∈nm W:=λe he=>by rw[hnm,hpre];exact pm.mem_iff.mp (qw _ he)
  have nW:n∉nm W:=by
   rw[hnm,hpre]
   intro hm
   obtain⟨j,hj,ej⟩:=qBK hm
   rw[List.getElem_take]at ej
   obtain⟨hh,en⟩:=qK.mp hn
   have:=zaqq nd (ej.trans en.symm)
   rw[tl]at hj
   omega
  refine⟨_,[.pl (zbz cs),.pl (zab xs),.ac (webD (W++[(n,es)])),.pl (.int (pre.length:Int)),.pl (.str n),s5',s6',.pl (zab es),s8',s9'],rfl,.inl ?_,W++[(n,es)],_,_,_,_,_,_,_,rfl,by rw[zkr,hnm];simp,zafq ok nW subE (by rw[hes];simp;omega) (by omega)⟩
  have st5:sSet 5 (eSl (eVar 1) zfk (zca (eVar 3))) [.pl (zbz cs),.pl (zab xs),.ac (webD W),.pl (.int (pre.length:Int)),.pl (.str n),s5,s6,s7,s8,s9]=some (.nx [.pl (zbz cs),.pl (zab xs),.ac (webD W),.pl (.int (pre.length:Int)),.pl (.str n),.ac (zab (xs.take pre.length)),s6,s7,s8,s9]):=by
   have:eSl (eVar 1) zfk (zca (eVar 3)) [.pl (zbz cs),.pl (zab xs),.ac (webD W),.pl (.int (pre.length:Int)),.pl (.str n),s5,s6,s7,s8,s9]=some ⟨zab (xs.take pre.length),true,[]⟩:=by
    simp only[eSl,eVar,zfk,zca,qAD,qAC,qB,zab,slD]
    rw[zyj _ _ (by rw[qD];omega),<- qBY]
    simp[bsOf,zdy]
   exact zcc this
  refine zar st5 (zar (zcc (r:=vi _) (zgv (gc rfl rfl) rfl (by decide) (by decide))) (zar rfl (zar (zir (ds:=(List.range' ([]:List Str).length N.toNat).map λ(k:Nat)=>PyData.int (k:Int)) (bs:=[]) ?_ q) ?_)))
  ·have:eCB minD (zaa (eOp modD (eIxV 0 (eVar 3)) (eC (.int 5))) (zaa (eVar 3) aNil)) [.pl (zbz cs),.pl (zab xs),.ac (webD W),.pl (.int (pre.length:Int)),.pl (.str n),.ac (zab (xs.take pre.length)),.pl (.int (cs[pre.length] / 5)),.ac (.list []),s8,s9]=some (vi N):=by
    unfold eCB zaa
    rw[zep (gc rfl rfl) (j:=5) rfl (by decide)]
    show((minD [.int (cs[pre.length] % 5),.int ((pre.length:Nat):Int)]).bind λz=>some (⟨z.1,z.2,bsOf z.1 _⟩:Val))=_
    unfold minD
    simp only[qB]
    rw[eN];rfl
   show zdw _ [.pl (zbz cs),.pl (zab xs),.ac (webD W),.pl (.int (pre.length:Int)),.pl (.str n),.ac (zab (xs.take pre.length)),.pl (.int (cs[pre.length] / 5)),.ac (.list []),s8,s9]=_
   unfold zdw
   rw[zel this]
   simp only[qB]
   rw[if_pos ⟨by omega,by omega⟩,zmb,qCu]
   rfl
  ·have lz:(W.map rowD).length<100000:=by rw[qD];omega
   simp only[sApp,webD,eTup,zaa,aNil,eVar,qAD,qAC,qB,qAo,zii,bss]
   rw[if_pos (by simp)]
   simp only[qB]
   rw[if_pos ⟨lz,by simp⟩]
   simp[frzs,frz1,rowD,zab]
 obtain⟨env',hl,W,s3,s4,s5,s6,s7,s8,s9,rfl,hnm,ok⟩:=loop
 refine⟨W,zgq (env:=[.pl (zbz cs),.pl (zab xs),.no,.no,.no,.no,.no,.no,.no,.no]) rfl (zar rfl (zar (zir (ds:=(xs.zipIdx).map λ(p:Str×Nat)=>PyData.tuple [.int (p.2:Int),.str p.1]) (bs:=[]) ?_ hl) rfl)),hnm.trans (qBH 0 xs),ok⟩
 unfold zlp
 rw[zel (r:=⟨zab xs,false,[]⟩) rfl]
 simp only[qB,zab]
 rw[zaaq]
section
variable{a b:EF}{env:DEnv}{x y:Str}
theorem e_in(ha:a env=some (vs x))(hb:b env=some ⟨zab xs,fr,bs⟩):eOp (inD neg) a b env=some (vb (if neg then !decide (x∈xs)else decide (x∈xs))):=by
 unfold eOp;rw[ha,hb];simp[ztf,bsOf,zdy]
theorem zafs(he:env[k]?=some (.pl (.dict kvs))\/env[k]?=some (.ac (.dict kvs)))(hb:b env=some (vs y))(hd:zll kvs (Sum.inr y)=some d):zcs k b env=some ⟨d,false,[]⟩:=by
 unfold zcs
 rcases he with he|he<;>rw[he]<;>simp only<;>rw[hb]<;>simp[keyD,hd]
theorem zakv(ha:a env=some (vs x))(hb:b env=some ⟨zax ks,fr,bs⟩):eDIn neg a b env=some (vb (if neg then !decide (x∈ks)else decide (x∈ks))):=by
 unfold eDIn;rw[ha,hb];simp[zax,keyD,zvq]
end
theorem zjt(h:n∈nm W):(ups W).lookup n=some (up W n):=by
 obtain⟨ks,e,_⟩:=zhq (l:=ups W) (n:=n) (by rw[zfc];exact h)
 unfold up upL
 rw[e];rfl
theorem zcj{a:EF}{f:AF}{env:DEnv}{r:Val}{rs:List Val}(ha:a env=some r)(hf:f env=some rs):zaa a f env=some (r::rs):=by unfold zaa;rw[ha,hf];rfl
theorem zaft{f:EF}{env:DEnv}{c:Bool}(h:f env=some (vb c)):zeg (tTru f) env=some (!c):=by unfold zeg tTru;rw[h];rfl
theorem zaje(cs:List Int)(a b:Nat)(h:b<=cs.length)(hab:a<=b):cutD (cs.map .int) (some (a:Int)) (some (b:Int))=((cs.drop a).take (b - a)).map .int:=by
 unfold cutD
 have e1:min a cs.length=a:=by omega
 have e2:min b cs.length=b:=by omega
 rw[HT.sIx_nat,HT.sIx_nat,qD,e1,e2,<- qCb,<- qBY]
theorem zpz{env:DEnv}{cs:List Int}{b:EF}{n:Nat}(h1:env[1]?=some (.pl (zbz cs)))(hb:b env=some (vi (n:Int)))(hn:n<cs.length):eIxV 1 b env=some (vi (cs[n]'hn)):=
 zabr (ds:=cs.map .int) h1 hb (by rw[qS,qL hn];rfl)
theorem zmc:∀(xs:List Str),(∀x∈xs,qAJ x=true)->qm (xs.map .str)=true/\qa (xs.map .str)=0
 | [],_=>⟨rfl,rfl⟩
 | x::xs,h=>by
  obtain⟨h1,h2⟩:=zmc xs λy hy=>h y (qQ _ hy)
  rw[qM]
  refine⟨?_,?_⟩
  ·show(qAJ x&&qm (xs.map .str))=true
   rw[h x qb,h1];rfl
  ·show max 0 (qa (xs.map .str))=0
   rw[h2];rfl
theorem zaar:∀(W:Web),(∀p∈W,qAJ p.1=true/\∀e∈p.2,qAJ e=true)->qm (W.map rowD)=true/\qa (W.map rowD)<=2
 | [],_=>⟨rfl,qAU _⟩
 | p::r,h=>by
  obtain⟨h1,h2⟩:=zaar r λq hq=>h q (qQ _ hq)
  obtain⟨g1,g2⟩:=h p qb
  obtain⟨l1,l2⟩:=zmc p.2 g2
  rw[qM]
  constructor
  ·show((qAJ p.1&&(qm (p.2.map .str)&&true))&&qm (r.map rowD))=true
   rw[g1,l1,h1];rfl
  ·show max (max 0 (max (qa (p.2.map .str)+1) 0)+1) (qa (r.map rowD))<=2
   rw[l2]
   omega
theorem zano(h:WebOk W)(hl:∀x∈nm W,Low x):∀p∈W,qAJ p.1=true/\∀e∈p.2,qAJ e=true:=λp hp=>
 ⟨zly (hl _ (qg.mpr ⟨p,hp,rfl⟩)),λe he=>zly (hl e (zti h (n:=p.1) (es:=p.2) hp e he))⟩
noncomputable def zmv:SF:=(sSeq (sIf (tTru (eIsi "tuple" (eVar 0))) (sRet (eCB zln (zaa (eVar 0) aNil))) sNil)
  (sRet (eLst (zaa (eVar 0) aNil))))
noncomputable def zbe:GF:=fnD 1 zmv
noncomputable def zvv:SF:=(sSeq (sSet 2 zadu)
  (sSeq (sFor (zaj (zal 1 zbe (zaa (eVar 1) aNil))) (gN 3)
  (sUpd 2 (zcs 0 (eVar 3))))
  (zqz 2)))
noncomputable def zit:GF:=fnD 4 zvv
theorem zqa(f:α->Bool):∀(l:List α),zpj (l.map λx=>.bool (f x))=some (l.map f)
 | []=>rfl
 | x::l=>by
  show(zpj (l.map λx=>.bool (f x))).map _=_
  rw[zqa f l];rfl
theorem zajf{f:α->Bool}{l:List α}{bs:List Nat}(ha:a env=some ⟨.list (l.map λx=>.bool (f x)),fr,bs⟩):eCB (anyD λbs=>bs.all id) (zaa a aNil) env=some (vb (l.all f)):=by
 unfold eCB
 rw[zel ha,qB]
 show((zpj (l.map λx=>.bool (f x))).map _).bind _=_
 rw[zqa]
 simp only[qAo,qB,List.all_map]
 rfl
theorem zqb{enc:α->PyData}{out:α->List PyData}:∀{l:List α},(∀x∈l,∃e1,g (enc x) env=some e1/\t e1=some true/\innL f2 g2 t2 e e1=some (out x))->
  zim g t f2 g2 t2 e env (l.map enc)=some (l.flatMap out)
 | [],_=>rfl
 | x::l,h=>by
  obtain⟨e1,h1,h2,h3⟩:=h x qb
  have ih:=zqb (l:=l) λy hy=>h y (qQ _ hy)
  rw[qM]
  unfold zim
  rw[h1,qB,h2,qB,if_pos rfl,h3,qB,ih,qB0]
  rfl
theorem zajg{own:List Str}{fr:List Nat}{fi:IF'}{g:GT}{t:TF}{f2:IF'}{g2:GT}{t2:TF}{e:EF}{env:DEnv}{ds:List PyData}{bs:List Nat}{rs:List PyData}(h:fi env=some (ds,bs))(hl:ds.length<300)(k:zim g t f2 g2 t2 e (envB own fr env) ds=some rs) :
  zve own fr fi g t f2 g2 t2 e env=some ⟨.list rs,true,if zdo rs=true then[]else bs++capA fr env⟩:=by
 unfold zve;rw[h,qB,if_pos hl,k];rfl
noncomputable def ziu:SF:=(sRet (zve ["arm","name"] [] (zaj (eVar 0)) (gN 0) zbf (zaj (zal 1 zbe (zaa (eVar 0) aNil))) (gN 1) zbf (eVar 1)))
noncomputable def zem:GF:=fnD 1 ziu
noncomputable def znr:SF:=(sSeq (sIf (zbr (eOp neD (eCB lenD (zaa (eVar 2) aNil)) (eVar 1))) zzx sNil)
  (zabl (zal 2 zej (zaa (eVar 0) (zaa (zal 1 zem (zaa (eVar 2) aNil)) aNil)))))
noncomputable def zgw:GF:=fnD 3 znr
noncomputable def ziv:SF:=(sRet (zbx ["arm"] [0] (zaj (eVar 1)) (gN 0) zbf (zal 2 zit (zaa (eVar 1) (zaa (eVar 0) aNil)))))
noncomputable def zds:GF:=fnD 2 ziv
noncomputable def zns:SF:=(sRet (eCB (anyD λbs=>bs.all id) (zaa (zbx ["kind","roof"] [] (zyb (zaa (eVar 0) (zaa (eVar 1) aNil))) (gT 2 (zag 0 (zag 1 zbw))) zbf (eDIn false (eVar 0) (eVar 1))) aNil)))
noncomputable def zff:GF:=fnD 2 zns
noncomputable def zqc:SF:=(sRet (eAnd (eOp neD (eVar 1) (eVar 2)) (eCB (anyD λbs=>bs.all id) (zaa (zbx ["low","high"] [0] (zyb (zaa (eVar 1) (zaa (eVar 2) aNil))) (gT 2 (zag 0 (zag 1 zbw))) zbf (eDIn false (eVar 1) (zcs 2 (eVar 0)))) aNil))))
noncomputable def zew:GF:=fnD 3 zqc
noncomputable def zhx:SF:=(sSeq (sAsg (eVar 0) (gT 3 (zag 2 (zag 3 (zag 4 zbw)))))
  (sSeq (zabl (zal 3 zgw (zaa (eVar 2) (zaa (eVar 3) (zaa (eVar 1) aNil)))))
  (sSeq (sSet 5 (zal 2 zds (zaa (zal 1 zeb (zaa (eVar 2) aNil)) (zaa (eVar 1) aNil))))
  (sRet (zbx ["rule"] [5] (zaj (eVar 4)) (gN 0) (tTru (zal 2 zff (zaa (eIxV 0 (eC (.int 1))) (zaa (eVar 1) aNil)))) (eVar 0))))))
noncomputable def zcr:GF:=fnD 6 zhx
noncomputable def znt:SF:=(sRet (zbx ["rule"] [0,1] (zaj (eVar 1)) (gN 0) (zeg (tTru (eCB (anyD λbs=>bs.any id) (zaa (zbx ["name","kinds"] [0,1] (zaj (eVar 2)) (gT 2 (zag 0 (zag 1 zbw))) zbf (zal 3 zew (zaa (eVar 3) (zaa (eVar 1) (zaa (eIxV 2 (eC (.int 1))) aNil))))) aNil)))) (eVar 0)))
noncomputable def zfg:GF:=fnD 2 znt
noncomputable def znu:SF:=(sRet (zbx ["name","kinds"] [] (zaj (eVar 0)) (gT 2 (zag 0 (zag 1 zbw))) zbf (eVar 0)))
noncomputable def zfh:GF:=fnD 1 znu
noncomputable def zvw:SF:=(sRet (zal 1 zfh (zaa (zal 2 zcr (zaa (eVar 0) (zaa (eVar 1) aNil))) aNil)))
noncomputable def zck:GF:=fnD 2 zvw
noncomputable def zvx:SF:=(sSeq (sSet 2 (zal 2 zcr (zaa (eVar 0) (zaa (eVar 1) aNil))))
  (sRet (zal 1 zfh (zaa (zal 2 zfg (zaa (zal 1 zeb (zaa (eIxV 0 (eC (.int 0))) aNil)) (zaa (eVar 2) aNil))) aNil))))
noncomputable def zcg:GF:=fnD 3 zvx
noncomputable def zgk:SF:=(sSeq (sSet 2 (eC (.str "abcdefghijklmnopqrstuvwxyz")))
  (sSeq (sSet 3 (eOp ixD (eTup (zaa (eC (.int 1)) (zaa (eC (.int 3)) (zaa (eC (.int 5)) (zaa (eC (.int 7)) (zaa (eC (.int 9)) (zaa (eC (.int 11)) (zaa (eC (.int 15)) (zaa (eC (.int 17)) aNil))))))))) (eOp modD (eOp zbk (eVar 1) (eC (.int 3))) (eC (.int 8)))))
  (sSeq (sSet 4 (eOp modD (eOp zbk (eVar 1) (eC (.int 24))) (eC (.int 26))))
  (sSeq (sSet 5 (eOp mulD (eIxV 2 (eOp modD (eOp zbk (eVar 1) (eC (.int 624))) (eC (.int 26)))) (eOp modD (eOp zbk (eVar 1) (eC (.int 16224))) (eC (.int 8)))))
  (sSeq (sSet 6 (eOp modD (eOp zbk (eVar 1) (eC (.int 129792))) (eOp addD (eCB lenD (zaa (eVar 5) aNil)) (eC (.int 1)))))
  (sSeq (sSet 7 (eLst aNil))
  (sSeq (sFor (zdw (zaa (eVar 0) aNil)) (gN 8)
  (sSeq (sSet 9 (eIxV 2 (eOp modD (eOp addD (eVar 4) (eOp mulD (eVar 3) (eVar 8))) (eC (.int 26)))))
  (sIf (zbr (eOp eqD (eOp modD (eVar 1) (eC (.int 3))) (eC (.int 0)))) (sApp 7 (eOp addD (eOp addD (eSl (eVar 5) zfk (zca (eVar 6))) (eVar 9)) (eSl (eVar 5) (zca (eVar 6)) zfk))) (sIf (zbr (eOp eqD (eOp modD (eVar 1) (eC (.int 3))) (eC (.int 1)))) (sApp 7 (eOp addD (eSl (eVar 5) zfk (zca (eOp modD (eOp mulD (eVar 8) (eVar 3)) (eOp addD (eCB lenD (zaa (eVar 5) aNil)) (eC (.int 1)))))) (eVar 9))) (sApp 7 (eOp mulD (eIxV 2 (eOp modD (eOp addD (eVar 4) (eOp zbk (eVar 8) (eC (.int 8)))) (eC (.int 26)))) (eOp addD (eC (.int 1)) (eOp modD (eOp mulD (eVar 8) (eVar 3)) (eC (.int 8))))))))))
  (sSeq (sIf (zbr (eOp eqD (eOp modD (eOp zbk (eVar 1) (eC (.int 1038336))) (eC (.int 6))) (eC (.int 5)))) (sSeq (sSet 10 (eLst (zaa (eC (.str "none")) (zaa (eC (.str "rule")) (zaa (eC (.str "quarrel")) (zaa (eC (.str "near")) (zaa (eC (.str "far")) (zaa (eC (.str "out")) aNil))))))))
  (sSeq (sSet 11 (eOp modD (eOp zbk (eVar 1) (eC (.int 6230016))) (eC (.int 6))))
  (sSet 7 (eSl (eOp addD (eOp addD (eSl (eVar 10) (zca (eVar 11)) zfk) (eSl (eVar 10) zfk (zca (eVar 11)))) (eSl (eVar 7) (zca (eC (.int 6))) zfk)) zfk (zca (eVar 0)))))) sNil)
  (zqz 7)))))))))
noncomputable def zbn:GF:=fnD 12 zgk
noncomputable def zqd:SF:=(sSeq (sSet 5 (eLst aNil))
  (sSeq (sFor (zlp (zaa (eVar 4) aNil)) (gT 2 (zag 6 (zag 7 zbw)))
  (sSeq (sSet 8 (eOp zbk (eIxV 0 (eVar 6)) (eC (.int 4))))
  (sSeq (sSet 9 (eLst aNil))
  (sSeq (sFor (zaj (eVar 3)) (gN 10)
  (sSeq (sSet 11 (eVar 1))
  (sSeq (sIf (zbr (eOp gtD (eOp modD (eIxV 0 (eVar 6)) (eC (.int 4))) (eC (.int 0)))) (sSet 11 (zbx ["_law_name"] [2,10] (zaj (eVar 1)) (gN 0) (tTru (eCB (anyD λbs=>bs.any id) (zaa (zbx ["_law_one"] [0,1] (zaj (zal 1 zbe (zaa (eVar 2) aNil))) (gN 0) zbf (eOp (inD false) (eVar 1) (zcs 2 (eVar 0)))) aNil))) (eVar 0))) sNil)
  (sSeq (sApp 9 (eIxV 11 (eOp modD (eVar 8) (eCB lenD (zaa (eVar 11) aNil)))))
  (sSet 8 (eOp zbk (eVar 8) (eCB lenD (zaa (eVar 11) aNil))))))))
  (sIf (zbr (eOp (inS true) (eCB zfq (zaa (eVar 9) aNil)) (zbx ["_law_one","_law_row"] [] (zaj (eVar 5)) (gT 2 (zag 0 (zag 1 zbw))) zbf (eVar 1)))) (sApp 5 (eTup (zaa (eVar 7) (zaa (eCB zfq (zaa (eVar 9) aNil)) aNil)))) sNil)))))
  (zqz 5)))
noncomputable def zgl:GF:=fnD 12 zqd
noncomputable def zrw:SF:=(sSeq (sFor (zrp (zaa (eVar 1) aNil)) (gT 2 (zag 3 (zag 4 zbw)))
  (sIf (zeg (tTru (eCB (anyD λbs=>bs.any id) (zaa (zbx ["_law_name"] [0,4] (zaj (zal 1 zbe (zaa (eIxV 2 (eVar 3)) aNil))) (gN 0) zbf (eOp (inD false) (eVar 2) (zcs 1 (eVar 0)))) aNil)))) (sRet (eC (.bool false))) sNil))
  (sRet (eC (.bool true))))
noncomputable def zcd:GF:=fnD 5 zrw
noncomputable def zmd:SF:=(sSeq (sSet 2 (eCB zln (zaa (eVar 1) aNil)))
  (sSeq (sSet 3 (eOp zbk (eVar 0) (eCB lenD (zaa (eVar 1) aNil))))
  (sSeq (sSet 4 (eLst aNil))
  (sSeq (sFor (zdw (zaa (eOp addD (eC (.int 1)) (eOp modD (eVar 0) (eCB lenD (zaa (eVar 1) aNil)))) aNil)) (gN 5)
  (sSeq (sSet 6 (eOp modD (eVar 3) (eCB lenD (zaa (eVar 2) aNil))))
  (sSeq (sSet 3 (eOp zbk (eVar 3) (eCB lenD (zaa (eVar 2) aNil))))
  (zgd 4 2 (eVar 6)))))
  (sRet (eCB zfq (zaa (eVar 4) aNil)))))))
noncomputable def zct:GF:=fnD 7 zmd
noncomputable def zkd:SF:=(sSeq (sSet 3 (eLst aNil))
  (sSeq (sSet 4 (eVar 0))
  (sSeq (sSet 5 (eCB lenD (zaa (eVar 1) aNil)))
  (sSeq (sFor (zdw (zaa (eVar 2) aNil)) (gN 6)
  (sSeq (sSet 7 (eOp modD (eVar 4) (eVar 5)))
  (sSeq (sSet 4 (eOp zbk (eVar 4) (eVar 5)))
  (sSeq (sIf (zbr (eOp eqD (eOp modD (eVar 4) (eC (.int 4))) (eC (.int 2)))) (sApp 3 (eTup (zaa (eIxV 1 (eOp subD (eOp subD (eVar 5) (eC (.int 1))) (eVar 7))) aNil))) (sIf (zxx (zbr (eOp eqD (eOp modD (eVar 4) (eC (.int 4))) (eC (.int 3)))) (zbr (eOp gtD (eVar 5) (eC (.int 1))))) (sSeq (sSet 8 (eOp modD (eOp addD (eOp addD (eVar 7) (eC (.int 1))) (eOp modD (eOp zbk (eVar 4) (eC (.int 4))) (eOp subD (eVar 5) (eC (.int 1))))) (eVar 5)))
  (sApp 3 (eTup (zaa (eIxV 1 (eVar 7)) (zaa (eIxV 1 (eVar 8)) aNil))))) (sApp 3 (eIxV 1 (eOp subD (eOp subD (eVar 5) (eC (.int 1))) (eVar 7))))))
  (sSet 4 (eOp zbk (eVar 4) (eOp mulD (eC (.int 4)) (eVar 5))))))))
  (sRet (eCB zfq (zaa (eVar 3) aNil)))))))
noncomputable def zch:GF:=fnD 9 zkd
noncomputable def zke:SF:=(sSeq (sSet 2 (eLst aNil))
  (sSeq (sFor (zaj (eVar 1)) (gT 2 (zag 3 (zag 4 zbw)))
  (sIf (zeg (tTru (eCB (anyD λbs=>bs.any id) (zaa (zbx ["_law_one","_law_other"] [0,4] (zaj (eVar 1)) (gT 2 (zag 0 (zag 1 zbw))) zbf (eAnd (eOp neD (eVar 1) (eVar 3)) (zal 3 zcd (zaa (eVar 2) (zaa (eVar 3) (zaa (eVar 1) aNil)))))) aNil)))) (sApp 2 (eVar 3)) sNil))
  (zqz 2)))
noncomputable def zcv:GF:=fnD 5 zke
noncomputable def zkf:SF:=(sSeq (sIf (tOrF (zeg (tTru (eIsi "list" (eVar 0)))) (zbr (eOp neD (eCB lenD (zaa (eVar 0) aNil)) (eCB lenD (zaa (eVar 1) aNil))))) (sRet (eC (.bool false))) sNil)
  (sRet (eAnd (eCB (anyD λbs=>bs.all id) (zaa (zbx ["_law_name"] [] (zaj (eVar 0)) (gN 0) zbf (eIsi "str" (eVar 0))) aNil)) (eOp eqD (eVar 0) (eVar 1)))))
noncomputable def zah:GF:=fnD 2 zkf
noncomputable def zbd:SFs:=(yFor [4,8,9,10,11,12] (zlp (zaa (eVar 2) aNil)) (gT 2 (zag 5 (zag 6 zbw)))
  (ySeq (yS [4,8,9,10,11,12] (sSet 7 (zbx ["_law_rule"] [1,6] (zaj (eIxV 0 (eC (.int 2)))) (gN 0) (tTru (zal 3 zcd (zaa (eVar 1) (zaa (eIxV 0 (eC (.int 1))) (zaa (eVar 2) aNil))))) (eVar 0))))
  (ySeq (zfm [7] 8 (pFr (zbx ["_law_name","_law_kinds"] [] (zaj (eVar 7)) (gT 2 (zag 0 (zag 1 zbw))) zbf (eVar 0))))
  (ySeq (zfm [7] 9 (pFr (zal 2 zcv (zaa (eVar 1) (zaa (eVar 7) aNil)))))
  (ySeq (yIf (yT (zbr (eOp eqD (eOp modD (eOp addD (eVar 3) (eVar 5)) (eC (.int 2))) (eC (.int 0))))) (ySeq (zfm [6] 10 (pFr (zal 2 zck (zaa (eVar 0) (zaa (eVar 6) aNil)))))
  (zfm [6] 11 (pFr (zal 2 zcg (zaa (eVar 0) (zaa (eVar 6) aNil)))))) (ySeq (zfm [6] 11 (pFr (zal 2 zcg (zaa (eVar 0) (zaa (eVar 6) aNil)))))
  (zfm [6] 10 (pFr (zal 2 zck (zaa (eVar 0) (zaa (eVar 6) aNil)))))))
  (ySeq (yIf (yT (tOrF (zeg (tTru (zal 2 zah (zaa (eVar 10) (zaa (eVar 8) aNil))))) (zeg (tTru (zal 2 zah (zaa (eVar 11) (zaa (eVar 9) aNil))))))) (yRet (yE (eC (.bool false)))) yNil)
  (ySeq (zkc (yVar 4) (yVar 10) (yVar 8))
  (ySeq (zkc (yVar 4) (yVar 11) (yVar 9))
  (ySeq (zfm [6] 12 (pFr (zal 2 zck (zaa (eVar 0) (zaa (eVar 6) aNil)))))
  (ySeq (yRev (yVar 12))
  (ySeq (yApp (yVar 12) (yFl (yE (eC (.str "a")))))
  (ySeq (zyi (zal 2 zcg (zaa (eVar 0) (zaa (eVar 6) aNil))))
  (yIf (yT (tOrF (zeg (tTru (zal 2 zah (zaa (zal 2 zcg (zaa (eVar 0) (zaa (eVar 6) aNil))) (zaa (eVar 9) aNil))))) (zeg (tTru (zal 2 zah (zaa (zal 2 zck (zaa (eVar 0) (zaa (eVar 6) aNil))) (zaa (eVar 8) aNil))))))) (yRet (yE (eC (.bool false)))) yNil)))))))))))))
theorem zov:bootBuiltins "all"=some (.builtin "all"):=by decide +kernel
theorem zow:bootBuiltins "any"=some (.builtin "any"):=by decide +kernel
theorem zen:bootBuiltins "isinstance"=some (.builtin "isinstance"):=by decide +kernel
theorem zcu:bootBuiltins "len"=some (.builtin "len"):=by decide +kernel
theorem zhg:bootBuiltins "list"=some (.type "list"):=by decide +kernel
theorem zajh:bootBuiltins "min"=some (.builtin "min"):=by decide +kernel
theorem zaji:bootBuiltins "str"=some (.type "str"):=by decide +kernel
theorem zex:bootBuiltins "tuple"=some (.type "tuple"):=by decide +kernel
theorem zarj:bootBuiltins "zip"=some (.type "zip"):=by decide +kernel
noncomputable def top(i:Nat):Stmt:=PySem.Challenge.pw_bestcalls_k14_fitting_and_nearest.main.body.getD i (.Pass ⟨0,0,0,0⟩)
structure Txt(mg:Str->Option Value):Prop where
 all:mg "all"=none
 any:mg "any"=none
 enumerate:mg "enumerate"=none
 isinstance:mg "isinstance"=none
 len:mg "len"=none
 list:mg "list"=none
 min:mg "min"=none
 range:mg "range"=none
 str:mg "str"=none
 tuple:mg "tuple"=none
 zip:mg "zip"=none
noncomputable abbrev zmw:Stmt:=top 5
noncomputable abbrev zrx:List Str:=["web"]
theorem zyk:zrx.Nodup:=by decide +kernel
theorem zyl:FnScope zrx ["web"] (zaq zmw):=⟨rfl,rfl,rfl,zyk,rfl,by decide +kernel,by decide +kernel⟩
noncomputable abbrev zmx:Stmt:=top 6
noncomputable abbrev zry:List Str:=["arm"]
theorem zym:zry.Nodup:=by decide +kernel
theorem zyn:FnScope zry ["arm"] (zaq zmx):=⟨rfl,rfl,rfl,zym,rfl,by decide +kernel,by decide +kernel⟩
noncomputable abbrev zht:Stmt:=top 7
noncomputable abbrev zme:List Str:=["web","names","known","name"]
theorem zgy:zme.Nodup:=by decide +kernel
theorem zrd:FnScope zme ["web","names"] (zaq zht):=⟨rfl,rfl,rfl,zgy,rfl,by decide +kernel,by decide +kernel⟩
noncomputable abbrev zmy:Stmt:=top 8
noncomputable abbrev zrz:List Str:=["web","roofs","name","elders","roof","elder"]
theorem zey:zrz.Nodup:=by decide +kernel
theorem zyo:FnScope zrz ["web"] (zaq zmy):=⟨rfl,rfl,rfl,zey,rfl,by decide +kernel,by decide +kernel⟩
noncomputable abbrev zqe:Stmt:=top 9
noncomputable abbrev zvy:List Str:=["roofs","arm","roof","name"]
theorem zmz:zvy.Nodup:=by decide +kernel
theorem zabs:FnScope zvy ["roofs","arm"] (zaq zqe):=⟨rfl,rfl,rfl,zmz,rfl,by decide +kernel,by decide +kernel⟩
noncomputable abbrev zgm:Stmt:=top 11
noncomputable abbrev ziw:List Str:=["call"]
theorem zoj:ziw.Nodup:=by decide +kernel
theorem zok:FnScope ziw ["call"] (zaq zgm):=⟨rfl,rfl,rfl,zoj,rfl,by decide +kernel,by decide +kernel⟩
noncomputable abbrev zix:Stmt:=top 12
noncomputable abbrev znv:List Str:=["web","places","call"]
theorem ztl:znv.Nodup:=by decide +kernel
theorem ztm:FnScope znv ["web","places","call"] (zaq zix):=⟨rfl,rfl,rfl,ztl,rfl,by decide +kernel,by decide +kernel⟩
noncomputable abbrev zgn:Stmt:=top 13
noncomputable abbrev ziy:List Str:=["roofs","call"]
theorem zol:ziy.Nodup:=by decide +kernel
theorem zom:FnScope ziy ["roofs","call"] (zaq zgn):=⟨rfl,rfl,rfl,zol,rfl,by decide +kernel,by decide +kernel⟩
noncomputable abbrev ziz:Stmt:=top 14
noncomputable abbrev znw:List Str:=["kinds","call_roofs"]
theorem ztn:znw.Nodup:=by decide +kernel
theorem zto:FnScope znw ["kinds","call_roofs"] (zaq ziz):=⟨rfl,rfl,rfl,ztn,rfl,by decide +kernel,by decide +kernel⟩
noncomputable abbrev zku:Stmt:=top 15
noncomputable abbrev zqf:List Str:=["roofs","one","other"]
theorem zvz:zqf.Nodup:=by decide +kernel
theorem zwa:FnScope zqf ["roofs","one","other"] (zaq zku):=⟨rfl,rfl,rfl,zvz,rfl,by decide +kernel,by decide +kernel⟩
noncomputable abbrev zfn:Stmt:=top 17
noncomputable abbrev zhy:List Str:=["book","call","web","places","rules","call_roofs"]
theorem zdb:zhy.Nodup:=by decide +kernel
theorem zna:FnScope zhy ["book","call"] (zaq zfn):=⟨rfl,rfl,rfl,zdb,rfl,by decide +kernel,by decide +kernel⟩
noncomputable abbrev zja:Stmt:=top 18
noncomputable abbrev znx:List Str:=["roofs","rules"]
theorem ztp:znx.Nodup:=by decide +kernel
theorem ztq:FnScope znx ["roofs","rules"] (zaq zja):=⟨rfl,rfl,rfl,ztp,rfl,by decide +kernel,by decide +kernel⟩
noncomputable abbrev zjb:Stmt:=top 19
noncomputable abbrev zny:List Str:=["rules"]
theorem ztr:zny.Nodup:=by decide +kernel
theorem zts:FnScope zny ["rules"] (zaq zjb):=⟨rfl,rfl,rfl,ztr,rfl,by decide +kernel,by decide +kernel⟩
noncomputable abbrev zqg:Stmt:=top 20
noncomputable abbrev zwb:List Str:=["book","call"]
theorem zabt:zwb.Nodup:=by decide +kernel
theorem zabu:FnScope zwb ["book","call"] (zaq zqg):=⟨rfl,rfl,rfl,zabt,rfl,by decide +kernel,by decide +kernel⟩
noncomputable abbrev zqh:Stmt:=top 21
noncomputable abbrev zwc:List Str:=["book","call","rules"]
theorem zsa:zwc.Nodup:=by decide +kernel
theorem zabv:FnScope zwc ["book","call"] (zaq zqh):=⟨rfl,rfl,rfl,zsa,rfl,by decide +kernel,by decide +kernel⟩
noncomputable abbrev zkv:Stmt:=top 23
noncomputable abbrev zqi:List Str:=["_law_script","_law_many","_law_seed","_law_cell","_law_found","_law_k"]
theorem zed:zqi.Nodup:=by decide +kernel
theorem zwd:FnScope zqi ["_law_script","_law_many"] (zaq zkv):=⟨rfl,rfl,rfl,zed,rfl,by decide +kernel,by decide +kernel⟩
noncomputable abbrev zkw:Stmt:=top 24
noncomputable abbrev zqj:List Str:=["_law_many","_law_cell","_law_letters","_law_step","_law_origin","_law_stem","_law_at","_law_names_here","_law_k","_law_sign","_law_own","_law_turn"]
theorem zbs:zqj.Nodup:=by decide +kernel
theorem zwe:FnScope zqj ["_law_many","_law_cell"] (zaq zkw):=⟨rfl,rfl,rfl,zbs,rfl,by decide +kernel,by decide +kernel⟩
noncomputable abbrev zqk:Stmt:=top 25
noncomputable abbrev zwf:List Str:=["_law_cells","_law_names_here","_law_web_here","_law_k","_law_name","_law_left","_law_rest","_law_elders","_law_turn","_law_at"]
theorem zdi:zwf.Nodup:=by decide +kernel
theorem zabw:FnScope zwf ["_law_cells","_law_names_here"] (zaq zqk):=⟨rfl,rfl,rfl,zdi,rfl,by decide +kernel,by decide +kernel⟩
noncomputable abbrev ztt:Stmt:=top 26
noncomputable abbrev zaas:List Str:=["_law_web_here","_law_up_here","_law_name","_law_elders","_law_own","_law_elder","_law_one"]
theorem zgo:zaas.Nodup:=by decide +kernel
theorem zafu:FnScope zaas ["_law_web_here"] (zaq ztt):=⟨rfl,rfl,rfl,zgo,rfl,by decide +kernel,by decide +kernel⟩
noncomputable abbrev zkx:Stmt:=top 27
noncomputable abbrev zql:List Str:=["_law_arm_here"]
theorem zwg:zql.Nodup:=by decide +kernel
theorem zwh:FnScope zql ["_law_arm_here"] (zaq zkx):=⟨rfl,rfl,rfl,zwg,rfl,by decide +kernel,by decide +kernel⟩
noncomputable abbrev zqm:Stmt:=top 28
noncomputable abbrev zwi:List Str:=["_law_cell","_law_names_here","_law_left","_law_rest","_law_arm_here","_law_turn","_law_at"]
theorem zez:zwi.Nodup:=by decide +kernel
theorem zabx:FnScope zwi ["_law_cell","_law_names_here"] (zaq zqm):=⟨rfl,rfl,rfl,zez,rfl,by decide +kernel,by decide +kernel⟩
noncomputable abbrev znb:Stmt:=top 29
noncomputable abbrev zsb:List Str:=["_law_cell","_law_names_here","_law_places","_law_call_here","_law_rest","_law_many","_law_place","_law_at","_law_by"]
theorem zdf:zsb.Nodup:=by decide +kernel
theorem zyp:FnScope zsb ["_law_cell","_law_names_here","_law_places"] (zaq znb):=⟨rfl,rfl,rfl,zdf,rfl,by decide +kernel,by decide +kernel⟩
noncomputable abbrev zky:Stmt:=top 30
noncomputable abbrev zqn:List Str:=["_law_cells","_law_names_here","_law_up_here","_law_call_here","_law_titles","_law_rules_here","_law_k","_law_title","_law_rest","_law_kinds","_law_arm_here","_law_pool"]
theorem zci:zqn.Nodup:=by decide +kernel
theorem zwj:FnScope zqn ["_law_cells","_law_names_here","_law_up_here","_law_call_here","_law_titles"] (zaq zky):=⟨rfl,rfl,rfl,zci,rfl,by decide +kernel,by decide +kernel⟩
noncomputable abbrev znc:Stmt:=top 31
noncomputable abbrev zsc:List Str:=["_law_up_here","_law_kinds","_law_call_here","_law_k","_law_kind"]
theorem zkz:zsc.Nodup:=by decide +kernel
theorem zyq:FnScope zsc ["_law_up_here","_law_kinds","_law_call_here"] (zaq znc):=⟨rfl,rfl,rfl,zkz,rfl,by decide +kernel,by decide +kernel⟩
noncomputable abbrev znd:Stmt:=top 32
noncomputable abbrev zsd:List Str:=["_law_up_here","_law_rules_here","_law_found","_law_name","_law_kinds"]
theorem zhu:zsd.Nodup:=by decide +kernel
theorem zyr:FnScope zsd ["_law_up_here","_law_rules_here"] (zaq znd):=⟨rfl,rfl,rfl,zhu,rfl,by decide +kernel,by decide +kernel⟩
noncomputable abbrev zne:Stmt:=top 33
noncomputable abbrev zse:List Str:=["_law_found","_law_due"]
theorem zys:zse.Nodup:=by decide +kernel
theorem zyt:FnScope zse ["_law_found","_law_due"] (zaq zne):=⟨rfl,rfl,rfl,zys,rfl,by decide +kernel,by decide +kernel⟩
noncomputable abbrev zjc:Stmt:=top 34
noncomputable abbrev znz:List Str:=["_law_book","_law_up_here","_law_calls","_law_turn","_law_held","_law_k","_law_call_here","_law_fit","_law_names_here","_law_near_here","_law_told","_law_low","_law_other"]
theorem zbo:znz.Nodup:=by decide +kernel
theorem ztu:FnScope znz ["_law_book","_law_up_here","_law_calls","_law_turn","_law_held"] (zaq zjc):=⟨rfl,rfl,rfl,zbo,rfl,by decide +kernel,by decide +kernel⟩
noncomputable abbrev zaby:Stmt:=top 35
noncomputable abbrev zaqr:List Str:=["_law_script","_law_cells","_law_places","_law_names_here","_law_web_here","_law_up_here","_law_first","_law_calls","_law_rules_here","_law_handed","_law_held","_law_gone"]
theorem zhh:zaqr.Nodup:=by decide +kernel
theorem zaqs:FnScope zaqr ["_law_script"] (zaq zaby):=⟨rfl,rfl,rfl,zhh,rfl,by decide +kernel,by decide +kernel⟩
theorem zkg:(["name","elders"]:List Str).Nodup:=by decide +kernel
theorem zgp:(["arm","name"]:List Str).Nodup:=by decide +kernel
theorem zla:(["arm","roofs"]:List Str).Nodup:=by decide +kernel
theorem zhz:(["kind","roof"]:List Str).Nodup:=by decide +kernel
theorem zjd:(["low","high","roofs"]:List Str).Nodup:=by decide +kernel
theorem zjv:(["rule","call_roofs"]:List Str).Nodup:=by decide +kernel
theorem zon:(["rule","roofs","rules"]:List Str).Nodup:=by decide +kernel
theorem zia:(["name","kinds","rule","roofs"]:List Str).Nodup:=by decide +kernel
theorem zib:(["name","kinds"]:List Str).Nodup:=by decide +kernel
theorem zqo:(["_law_name","_law_up_here","_law_arm_here"]:List Str).Nodup:=by decide +kernel
theorem zqp:(["_law_one","_law_name","_law_up_here"]:List Str).Nodup:=by decide +kernel
theorem zje:(["_law_one","_law_row"]:List Str).Nodup:=by decide +kernel
theorem zre:(["_law_name","_law_up_here","_law_kind"]:List Str).Nodup:=by decide +kernel
theorem zkh:(["_law_one","_law_other","_law_up_here","_law_kinds"]:List Str).Nodup:=by decide +kernel
theorem zrf:(["_law_name"]:List Str).Nodup:=by decide +kernel
theorem zoo:(["_law_rule","_law_up_here","_law_call_here"]:List Str).Nodup:=by decide +kernel
theorem zic:(["_law_name","_law_kinds"]:List Str).Nodup:=by decide +kernel
theorem zafv:(["_law_cell","_law_names_here"]:List Str).Nodup:=by decide +kernel
theorem zafw:(["_law_arm_here"]:List Str).Nodup:=by decide +kernel
theorem zafx:(["_law_cell","_law_places","_law_names_here"]:List Str).Nodup:=by decide +kernel
theorem zwk:(["_law_name","_law_elders"]:List Str).Nodup:=by decide +kernel
theorem zwl:(["_law_told","_law_due"]:List Str).Nodup:=by decide +kernel
section
variable(P:Program)(w:World)(K:qC)(mg:Str->Option Value)(base:Heap)
noncomputable abbrev zsf:Prop:=Dn P w K mg base "names_of" ["web"] 1 (spD 1 zjq)
noncomputable abbrev znf:Prop:=Dn P w K mg base "names_in" ["arm"] 1 (spD 1 zbe)
noncomputable abbrev zmf:Prop:=Dn P w K mg base "check_kinds" ["web","names"] 2 (spD 2 zej)
noncomputable abbrev zng:Prop:=Dn P w K mg base "roofs_of" ["web"] 1 (spD 1 zeb)
noncomputable abbrev zwm:Prop:=Dn P w K mg base "roof_of" ["roofs","arm"] 2 (spD 2 zit)
noncomputable abbrev zjf:Prop:=Dn P w K mg base "names_in_call" ["call"] 2 (spD 1 zem)
noncomputable abbrev zoa:Prop:=Dn P w K mg base "check_call" ["web","places","call"] 3 (spD 3 zgw)
noncomputable abbrev zjg:Prop:=Dn P w K mg base "roofs_in_call" ["roofs","call"] 3 (spD 2 zds)
noncomputable abbrev zob:Prop:=Dn P w K mg base "fits_under" ["kinds","call_roofs"] 1 (spD 2 zff)
noncomputable abbrev zqq:Prop:=Dn P w K mg base "is_nearer" ["roofs","one","other"] 1 (spD 3 zew)
noncomputable abbrev zfo:Prop:=Dn P w K mg base "rules_that_fit" ["book","call"] 4 (spD 2 zcr)
noncomputable abbrev zoc:Prop:=Dn P w K mg base "nearest_of" ["roofs","rules"] 2 (spD 2 zfg)
noncomputable abbrev zjh:Prop:=Dn P w K mg base "rule_names" ["rules"] 1 (spD 1 zfh)
noncomputable abbrev zwn:Prop:=Dn P w K mg base "fitting" ["book","call"] 5 (spD 2 zck)
noncomputable abbrev zwo:Prop:=Dn P w K mg base "nearest" ["book","call"] 5 (spD 2 zcg)
noncomputable abbrev zqr:Prop:=Dn P w K mg base "_law_names" ["_law_many","_law_cell"] 1 (spD 2 zbn)
noncomputable abbrev zwp:Prop:=Dn P w K mg base "_law_web" ["_law_cells","_law_names_here"] 1 (spD 2 zhf)
noncomputable abbrev zaat:Prop:=Dn P w K mg base "_law_up" ["_law_web_here"] 1 (spD 1 zjr)
noncomputable abbrev zlb:Prop:=Dn P w K mg base "_law_parts" ["_law_arm_here"] 1 (spD 1 zbe)
noncomputable abbrev zwq:Prop:=Dn P w K mg base "_law_arm" ["_law_cell","_law_names_here"] 1 (spD 2 zct)
noncomputable abbrev zsg:Prop:=Dn P w K mg base "_law_call" ["_law_cell","_law_names_here","_law_places"] 1 (spD 3 zch)
noncomputable abbrev zqs:Prop:=Dn P w K mg base "_law_rules" ["_law_cells","_law_names_here","_law_up_here","_law_call_here","_law_titles"] 2 (spD 5 zgl)
noncomputable abbrev znh:Prop:=Dn P w K mg base "_law_fits" ["_law_up_here","_law_kinds","_law_call_here"] 2 (spD 3 zcd)
noncomputable abbrev zsh:Prop:=Dn P w K mg base "_law_near" ["_law_up_here","_law_rules_here"] 3 (spD 2 zcv)
noncomputable abbrev zni:Prop:=Dn P w K mg base "_law_same" ["_law_found","_law_due"] 1 (spD 2 zah)
noncomputable abbrev zod:Prop:=Dn P w K mg base "_law_looked" ["_law_book","_law_up_here","_law_calls","_law_turn","_law_held"] 6 (spL 4 (zgi 13 4 zbd))
end
section
variable{P:Program}{w:World}{K:qC}{mg:Str->Option Value}{base:Heap}
theorem zyu {f:Addr} {fd:qx} (F:Fun K "names_of" "names_of" zmw f fd) (T:Txt mg)  : FnOk P w K mg base CX0 1 f fd ["web"] (spD 1 zjq):=by
 refine F.ok zyl (λvs H Q E h=>zce h) (λcdv A outer s H vs Q E hr h=>?_)
 have hu:=zer hr
 apply Exists.intro
 apply And.intro
 ·refine' Bx.out (zaf (zba (zcf (zbc (N':=["name","elders"]) (own:=["name","elders"]) (fr:=[]) (by kernel_rfl)) rfl (zaw (K:=K) rfl (bv 0)) ?hb1 (by intro _;rfl))))
  case hb1=>(intro cl C s H fp;refine'⟨Bx.out (zcn (K:=K) (n:=2) rfl rfl (zao (bpgN (i:=0) zkg rfl (Or.inl rfl)) (zao (bpgN (i:=1) zkg rfl (Or.inl rfl)) zcm (by rfl)) (by rfl)) (by rfl) (by rfl)),Bx.out zdd,Bx.out (bv 0)⟩)
 exact fn_d (f:=zhe) ((zik ice)) h
theorem zyv {f:Addr} {fd:qx} (F:Fun K "names_in" "names_in" zmx f fd) (T:Txt mg)  : FnOk P w K mg base CX0 1 f fd ["arm"] (spD 1 zbe):=by
 refine F.ok zyn (λvs H Q E h=>zce h) (λcdv A outer s H vs Q E hr h=>?_)
 have hu:=zer hr
 apply Exists.intro
 apply And.intro
 ·refine' Bx.out (zad (zdp (zbq (K:=K) rfl (bpeB (zlk (K:=K) rfl) T.isinstance zen (bpaC (bv 0) (bpaC (zou (v:=.ty "tuple") (by rfl) T.tuple zex rfl (by decide) (by decide)) zac))) (λ_=>rfl)) (zaf (zba (bpeT (zgz (K:=K) rfl) T.list zhg (bpaC (bv 0) zac)))) zcl)
 (zaf (zba (zeh (bpaC (bv 0) zac)))))
 exact fn_d (f:=zmv) ((zas (zkp (zhb (zzu ice zuz)) ics zij) ics)) h
theorem zrg{f:Addr}{fd:qx}(F:Fun K "check_kinds" "check_kinds" zht f fd)(T:Txt mg)(D_names_of:zsf P w K mg base):FnOk P w K mg base CX0 2 f fd ["web","names"] (spD 2 zej):=by
 refine F.ok zrd (λvs H Q E h=>zce h) (λcdv A outer s H vs Q E hr h=>?_)
 have hu:=zer hr
 apply Exists.intro
 apply And.intro
 ·refine' Bx.out (zad (bpsS (i:=2) zgy rfl (Or.inl rfl) (bpeD D_names_of hr (bpaC (bv 0) zac)))
 (zaf (zdq qv rfl (zaw (K:=K) rfl (bv 1)) (bpgN (i:=3) zgy rfl (Or.inl rfl))
  (zaf (zdp (zcw (zuw (K:=K) rfl) (bv 3) (bv 2) (by rfl)) (zaf zvh) zcl)) (by intro _;rfl))))
 exact fn_d (f:=zei) ((zas ics (zfz ici zcz (zkp ict zzy zij)))) h
theorem zyw {f:Addr} {fd:qx} (F:Fun K "roofs_of" "roofs_of" zmy f fd) (T:Txt mg)  : FnOk P w K mg base CX0 1 f fd ["web"] (spD 1 zeb):=by
 refine F.ok zyo (λvs H Q E h=>zce h) (λcdv A outer s H vs Q E hr h=>?_)
 have hu:=zer hr
 apply Exists.intro
 apply And.intro
 ·refine' Bx.out (zad (bpsS (i:=1) zey rfl (Or.inl rfl) zpo)
 (zad (zdq qv rfl (zaw (K:=K) rfl (bv 0)) (zcn (K:=K) (n:=2) rfl rfl (zao (bpgN (i:=2) zey rfl (Or.inl rfl)) (zao (bpgN (i:=3) zey rfl (Or.inl rfl)) zcm (by rfl)) (by rfl)) (by rfl) (by rfl))
  (zad (bpsS (i:=4) zey rfl (Or.inl rfl) (zais (zaen (bv 2) zjz zair) rfl rfl (by simp) (by decide)))
 (zad (zdq qv rfl (zaw (K:=K) rfl (bv 3)) (bpgN (i:=5) zey rfl (Or.inl rfl))
  (zaf (zbm (zcq (K:=K) rfl qCN qCF qCE zuv (bv 4) (bpaC (zjp hu (bv 1) (bv 5) (λ_ _=>rfl)) zac) (by rfl) (by rfl) (by rfl) (zav (by rfl)) (by rfl)) (by rfl))) (by intro _;rfl))
 (zaf (zaae hu (bv 1) (bv 2) (bv 4) rfl)))) (by intro _;rfl))
 (zaf (zba (bv 1)))))
 exact fn_d (f:=zru) ((zas ics (zas (zfz ici (zil (zbl (zbl zfy))) (zas (zzz (zary ice ice)) (zas (zfz ici zcz (zakn ice)) (zakm ice ice)))) zko))) h
theorem zabz{f:Addr}{fd:qx}(F:Fun K "roof_of" "roof_of" zqe f fd)(T:Txt mg)(D_names_in:znf P w K mg base):FnOk P w K mg base CX0 2 f fd ["roofs","arm"] (spD 2 zit):=by
 refine F.ok zabs (λvs H Q E h=>zce h) (λcdv A outer s H vs Q E hr h=>?_)
 have hu:=zer hr
 apply Exists.intro
 apply And.intro
 ·refine' Bx.out (zad (bpsS (i:=2) zmz rfl (Or.inl rfl) zpo)
 (zad (zdq qv rfl (zaw (K:=K) rfl (bpeD D_names_in hr (bpaC (bv 1) zac))) (bpgN (i:=3) zmz rfl (Or.inl rfl))
  (zaf (zbm (zcq (K:=K) rfl qCN qCF qCE zuv (bv 2) (bpaC (zjp hu (bv 0) (bv 3) (λ_ _=>rfl)) zac) (by rfl) (by rfl) (by rfl) (zav (by rfl)) (by rfl)) (by rfl))) (by intro _;rfl))
 (zaf (zba (bv 2)))))
 exact fn_d (f:=zvv) ((zas ics (zas (zfz ici zcz (zakn ice)) zko))) h
theorem zop{f:Addr}{fd:qx}(F:Fun K "names_in_call" "names_in_call" zgm f fd)(T:Txt mg)(D_names_in:znf P w K mg base):FnOk P w K mg base CX0 2 f fd ["call"] (spD 1 zem):=by
 refine F.ok zok (λvs H Q E h=>zce h) (λcdv A outer s H vs Q E hr h=>?_)
 have hu:=zer hr
 apply Exists.intro
 apply And.intro
 ·refine' Bx.out (zaf (zba (zaep (zbc (N':=["arm","name"]) (own:=["arm","name"]) (fr:=[]) (by kernel_rfl)) rfl (zaw (K:=K) rfl (bv 0)) ?hb1 (by intro _;rfl) (by intro _ _;rfl))))
  case hb1=>(intro cl C s H fp;refine'⟨Bx.out (bpgN (i:=0) zgp rfl (Or.inl rfl)),Bx.out zdd,Bx.out (zaw (K:=K) rfl (bpeD D_names_in hr (bpaC (bv 0) zac))),Bx.out (bpgN (i:=1) zgp rfl (Or.inl rfl)),Bx.out zdd,Bx.out (bv 1)⟩)
 exact fn_d (f:=ziu) ((zik (zaij (k:=1) ici zcz (zaed (by decide) (by decide)) (by decide) zjx ici zcz (zaed (by decide) (by decide)) zjx ice))) h
theorem ztv{f:Addr}{fd:qx}(F:Fun K "check_call" "check_call" zix f fd)(T:Txt mg)(D_check_kinds:zmf P w K mg base)(D_names_in_call:zjf P w K mg base):FnOk P w K mg base CX0 3 f fd ["web","places","call"] (spD 3 zgw):=by
 refine F.ok ztm (λvs H Q E h=>zce h) (λcdv A outer s H vs Q E hr h=>?_)
 have hu:=zer hr
 apply Exists.intro
 apply And.intro
 ·refine' Bx.out (zad (zdp (zcw (zvc (K:=K) rfl hr.units) (bpeB (zbv (K:=K) rfl) T.len zcu (bpaC (bv 2) zac)) (bv 1) (zfe _)) (zaf zvh) zcl)
 (zaf (zbm (bpeD D_check_kinds hr (bpaC (bv 0) (bpaC (bpeD D_names_in_call hr (bpaC (bv 2) zac)) zac))) (by rfl))))
 exact fn_d (f:=znr) ((zas (zkp ict zzy zij) (zadz ice))) h
theorem zoq{f:Addr}{fd:qx}(F:Fun K "roofs_in_call" "roofs_in_call" zgn f fd)(T:Txt mg)(D_roof_of:zwm P w K mg base):FnOk P w K mg base CX0 3 f fd ["roofs","call"] (spD 2 zds):=by
 refine F.ok zom (λvs H Q E h=>zce h) (λcdv A outer s H vs Q E hr h=>?_)
 have hu:=zer hr
 apply Exists.intro
 apply And.intro
 ·refine' Bx.out (zaf (zba (zcf (zbc (N':=["arm","roofs"]) (own:=["arm"]) (fr:=[0]) (by kernel_rfl)) rfl (zaw (K:=K) rfl (bv 1)) ?hb1 (by intro _;rfl))))
  case hb1=>(intro cl C s H fp;refine'⟨Bx.out (bpgN (i:=0) zla rfl (Or.inl rfl)),Bx.out zdd,Bx.out (bpeD D_roof_of hr (bpaC (bv 1) (bpaC (bv 0) zac)))⟩)
 exact fn_d (f:=ziv) ((zik ice)) h
theorem ztw {f:Addr} {fd:qx} (F:Fun K "fits_under" "fits_under" ziz f fd) (T:Txt mg)  : FnOk P w K mg base CX0 1 f fd ["kinds","call_roofs"] (spD 2 zff):=by
 refine F.ok zto (λvs H Q E h=>zce h) (λcdv A outer s H vs Q E hr h=>?_)
 have hu:=zer hr
 apply Exists.intro
 apply And.intro
 ·refine' Bx.out (zaf (zba (bpeB (zlj (K:=K) rfl rfl) T.all zov (bpaC (zcf (zbc (N':=["kind","roof"]) (own:=["kind","roof"]) (fr:=[]) (by kernel_rfl)) rfl (zaeo (K:=K) rfl rfl T.zip (bpaC (bv 0) (bpaC (bv 1) zac)) (by rfl) (by rfl)) ?hb1 (by intro _;rfl)) zac))))
  case hb1=>(intro cl C s H fp;refine'⟨Bx.out (zcn (K:=K) (n:=2) rfl rfl (zao (bpgN (i:=0) zhz rfl (Or.inl rfl)) (zao (bpgN (i:=1) zhz rfl (Or.inl rfl)) zcm (by rfl)) (by rfl)) (by rfl) (by rfl)),Bx.out zdd,Bx.out (zaer (zaeq hu (bv 0) (bv 1)) (by rfl))⟩)
 exact fn_d (f:=zns) ((zik ice)) h
theorem zwr {f:Addr} {fd:qx} (F:Fun K "is_nearer" "is_nearer" zku f fd) (T:Txt mg)  : FnOk P w K mg base CX0 1 f fd ["roofs","one","other"] (spD 3 zew):=by
 refine F.ok zwa (λvs H Q E h=>zce h) (λcdv A outer s H vs Q E hr h=>?_)
 have hu:=zer hr
 apply Exists.intro
 apply And.intro
 ·refine' Bx.out (zaf (zba (zyd (zls (zvc (K:=K) rfl hr.units) (bv 1) (bv 2) (zfe _)) (zyc (bpeB (zlj (K:=K) rfl rfl) T.all zov (bpaC (zcf (zbc (N':=["low","high","roofs"]) (own:=["low","high"]) (fr:=[0]) (by kernel_rfl)) rfl (zaeo (K:=K) rfl rfl T.zip (bpaC (bv 1) (bpaC (bv 2) zac)) (by rfl) (by rfl)) ?hb1 (by intro _;rfl)) zac))))))
  case hb1=>(intro cl C s H fp;refine'⟨Bx.out (zcn (K:=K) (n:=2) rfl rfl (zao (bpgN (i:=0) zjd rfl (Or.inl rfl)) (zao (bpgN (i:=1) zjd rfl (Or.inl rfl)) zcm (by rfl)) (by rfl)) (by rfl) (by rfl)),Bx.out zdd,Bx.out (zaer (zaeq hu (bv 1) (zjp hu (bv 2) (bv 0) (λ_ _=>rfl))) (by rfl))⟩)
 exact fn_d (f:=zqc) ((zik ice)) h
theorem znj{f:Addr}{fd:qx}(F:Fun K "rules_that_fit" "rules_that_fit" zfn f fd)(T:Txt mg)(D_check_call:zoa P w K mg base)(D_fits_under:zob P w K mg base)(D_roofs_in_call:zjg P w K mg base)(D_roofs_of:zng P w K mg base):FnOk P w K mg base CX0 4 f fd ["book","call"] (spD 2 zcr):=by
 refine F.ok zna (λvs H Q E h=>zce h) (λcdv A outer s H vs Q E hr h=>?_)
 have hu:=zer hr
 apply Exists.intro
 apply And.intro
 ·refine' Bx.out (zad (zamw (bv 0) (zcn (K:=K) (n:=3) rfl rfl (zao (bpgN (i:=2) zdb rfl (Or.inl rfl)) (zao (bpgN (i:=3) zdb rfl (Or.inl rfl)) (zao (bpgN (i:=4) zdb rfl (Or.inl rfl)) zcm (by rfl)) (by rfl)) (by rfl)) (by rfl) (by rfl)) (by rfl) (by rfl) (by rfl))
 (zad (zbm (bpeD D_check_call hr (bpaC (bv 2) (bpaC (bv 3) (bpaC (bv 1) zac)))) (by rfl))
 (zad (bpsS (i:=5) zdb rfl (Or.inr rfl) (bpeD D_roofs_in_call hr (bpaC (bpeD D_roofs_of hr (bpaC (bv 2) zac)) (bpaC (bv 1) zac))))
 (zaf (zba (zcf (zbc (N':=["rule","call_roofs"]) (own:=["rule"]) (fr:=[5]) (by kernel_rfl)) rfl (zaw (K:=K) rfl (bv 4)) ?hb1 (by intro _;rfl)))))))
  case hb1=>(intro cl C s H fp;refine'⟨Bx.out (bpgN (i:=0) zjv rfl (Or.inl rfl)),Bx.out (zta (zbq (K:=K) rfl (bpeD D_fits_under hr (bpaC (bpeX (zdx (K:=K) rfl) (bv 0) zae) (bpaC (bv 1) zac))) (λ_=>rfl))),Bx.out (bv 0)⟩)
 exact fn_d (f:=zhx) ((zas (zapx ice (zil (zbl (zbl (zbl zfy))))) (zas (zadz ice) (zas ics (zik (zfl ici zcz (zhm (by decide)) (zhb ice) ice)))))) h
theorem ztx{f:Addr}{fd:qx}(F:Fun K "nearest_of" "nearest_of" zja f fd)(T:Txt mg)(D_is_nearer:zqq P w K mg base):FnOk P w K mg base CX0 2 f fd ["roofs","rules"] (spD 2 zfg):=by
 refine F.ok ztq (λvs H Q E h=>zce h) (λcdv A outer s H vs Q E hr h=>?_)
 have hu:=zer hr
 apply Exists.intro
 apply And.intro
 ·refine' Bx.out (zaf (zba (zcf (zbc (N':=["rule","roofs","rules"]) (own:=["rule"]) (fr:=[0,1]) (by kernel_rfl)) rfl (zaw (K:=K) rfl (bv 1)) ?hb1 (by intro _;rfl))))
  case hb1=>(intro cl C s H fp;refine'⟨Bx.out (bpgN (i:=0) zon rfl (Or.inr rfl)),Bx.out (zta (zge (zbq (K:=K) rfl (bpeB (zli (K:=K) rfl rfl) T.any zow (bpaC (zcf (zbc (N':=["name","kinds","rule","roofs"]) (own:=["name","kinds"]) (fr:=[0,1]) (by kernel_rfl)) rfl (zaw (K:=K) rfl (bv 2)) ?hb2 (by intro _;rfl)) zac)) (λ_=>rfl)))),Bx.out (bv 0)⟩;case hb2=>(intro cl C s H fp;refine'⟨Bx.out (zcn (K:=K) (n:=2) rfl rfl (zao (bpgN (i:=0) zia rfl (Or.inl rfl)) (zao (bpgN (i:=1) zia rfl (Or.inl rfl)) zcm (by rfl)) (by rfl)) (by rfl) (by rfl)),Bx.out zdd,Bx.out (bpeD D_is_nearer hr (bpaC (bv 3) (bpaC (bv 1) (bpaC (bpeX (zdx (K:=K) rfl) (bv 2) zae) zac))))⟩))
 exact fn_d (f:=znt) ((zik (zfl ici zcz (zhm (by decide)) (znn (zhb ice)) ice))) h
theorem zty {f:Addr} {fd:qx} (F:Fun K "rule_names" "rule_names" zjb f fd) (T:Txt mg)  : FnOk P w K mg base CX0 1 f fd ["rules"] (spD 1 zfh):=by
 refine F.ok zts (λvs H Q E h=>zce h) (λcdv A outer s H vs Q E hr h=>?_)
 have hu:=zer hr
 apply Exists.intro
 apply And.intro
 ·refine' Bx.out (zaf (zba (zcf (zbc (N':=["name","kinds"]) (own:=["name","kinds"]) (fr:=[]) (by kernel_rfl)) rfl (zaw (K:=K) rfl (bv 0)) ?hb1 (by intro _;rfl))))
  case hb1=>(intro cl C s H fp;refine'⟨Bx.out (zcn (K:=K) (n:=2) rfl rfl (zao (bpgN (i:=0) zib rfl (Or.inl rfl)) (zao (bpgN (i:=1) zib rfl (Or.inl rfl)) zcm (by rfl)) (by rfl)) (by rfl) (by rfl)),Bx.out zdd,Bx.out (bv 0)⟩)
 exact fn_d (f:=znu) ((zik ice)) h
theorem zaca{f:Addr}{fd:qx}(F:Fun K "fitting" "fitting" zqg f fd)(T:Txt mg)(D_rule_names:zjh P w K mg base)(D_rules_that_fit:zfo P w K mg base):FnOk P w K mg base CX0 5 f fd ["book","call"] (spD 2 zck):=by
 refine F.ok zabu (λvs H Q E h=>zce h) (λcdv A outer s H vs Q E hr h=>?_)
 have hu:=zer hr
 apply Exists.intro
 apply And.intro
 ·refine' Bx.out (zaf (zba (bpeD D_rule_names hr (bpaC (bpeD D_rules_that_fit hr (bpaC (bv 0) (bpaC (bv 1) zac))) zac))))
 exact fn_d (f:=zvw) ((zik ice)) h
theorem zacb{f:Addr}{fd:qx}(F:Fun K "nearest" "nearest" zqh f fd)(T:Txt mg)(D_nearest_of:zoc P w K mg base)(D_roofs_of:zng P w K mg base)(D_rule_names:zjh P w K mg base)(D_rules_that_fit:zfo P w K mg base):FnOk P w K mg base CX0 5 f fd ["book","call"] (spD 2 zcg):=by
 refine F.ok zabv (λvs H Q E h=>zce h) (λcdv A outer s H vs Q E hr h=>?_)
 have hu:=zer hr
 apply Exists.intro
 apply And.intro
 ·refine' Bx.out (zad (bpsS (i:=2) zsa rfl (Or.inl rfl) (bpeD D_rules_that_fit hr (bpaC (bv 0) (bpaC (bv 1) zac))))
 (zaf (zba (bpeD D_rule_names hr (bpaC (bpeD D_nearest_of hr (bpaC (bpeD D_roofs_of hr (bpaC (bpeX (zdx (K:=K) rfl) (bv 0) zae) zac)) (bpaC (bv 2) zac))) zac)))))
 exact fn_d (f:=zvx) ((zas ics ics)) h
theorem zws {f:Addr} {fd:qx} (F:Fun K "_law_names" "_law_names" zkw f fd) (T:Txt mg)  : FnOk P w K mg base CX0 1 f fd ["_law_many","_law_cell"] (spD 2 zbn):=by
 refine F.ok zwe (λvs H Q E h=>zce h) (λcdv A outer s H vs Q E hr h=>?_)
 have hu:=zer hr
 apply Exists.intro
 apply And.intro
 ·refine' Bx.out (zad (bpsS (i:=2) zbs rfl (Or.inl rfl) zin)
 (zad (bpsS (i:=3) zbs rfl (Or.inl rfl) (bpeX (zdx (K:=K) rfl) (zgf (bpaC zae (bpaC zae (bpaC zae (bpaC zae (bpaC zae (bpaC zae (bpaC zae (bpaC zae zac))))))))) (zan zcb (zan zcy (bv 1) zae) zae)))
 (zad (bpsS (i:=4) zbs rfl (Or.inl rfl) (zan zcb (zan zcy (bv 1) zae) zae))
 (zad (bpsS (i:=5) zbs rfl (Or.inl rfl) (zan zgx (bpeX (zdx (K:=K) rfl) (bv 2) (zan zcb (zan zcy (bv 1) zae) zae)) (zan zcb (zan zcy (bv 1) zae) zae)))
 (zad (bpsS (i:=6) zbs rfl (Or.inl rfl) (zan zcb (zan zcy (bv 1) zae) (zan (zbu (K:=K) rfl) (bpeB (zbv (K:=K) rfl) T.len zcu (bpaC (bv 5) zac)) zae)))
 (zad (bpsS (i:=7) zbs rfl (Or.inl rfl) (zeh zac))
 (zad (zdq qv rfl (zjo rfl T.range (bpaC (bv 0) zac) (by rfl)) (bpgN (i:=8) zbs rfl (Or.inl rfl))
  (zad (bpsS (i:=9) zbs rfl (Or.inl rfl) (bpeX (zdx (K:=K) rfl) (bv 2) (zan zcb (zan (zbu (K:=K) rfl) (bv 4) (zan zgx (bv 3) (bv 8))) zae)))
 (zaf (zdp (zcw (zno (K:=K) rfl hr.units) (zan zcb (bv 1) zae) zae (zfe _)) (zaf (zbm (zcq (K:=K) rfl qN qX qW zbi (bv 7) (bpaC (zan (zbu (K:=K) rfl) (zan (zbu (K:=K) rfl) (zdg (zml (K:=K) rfl) (bv 5) zgu (zcx (bv 6))) (bv 9)) (zdg (zml (K:=K) rfl) (bv 5) (zcx (bv 6)) zgu)) zac) (by rfl) (by rfl) (by rfl) (zav (by rfl)) (by rfl)) (by rfl))) (zaf (zdp (zcw (zno (K:=K) rfl hr.units) (zan zcb (bv 1) zae) zae (zfe _)) (zaf (zbm (zcq (K:=K) rfl qN qX qW zbi (bv 7) (bpaC (zan (zbu (K:=K) rfl) (zdg (zml (K:=K) rfl) (bv 5) zgu (zcx (zan zcb (zan zgx (bv 8) (bv 3)) (zan (zbu (K:=K) rfl) (bpeB (zbv (K:=K) rfl) T.len zcu (bpaC (bv 5) zac)) zae)))) (bv 9)) zac) (by rfl) (by rfl) (by rfl) (zav (by rfl)) (by rfl)) (by rfl))) (zaf (zbm (zcq (K:=K) rfl qN qX qW zbi (bv 7) (bpaC (zan zgx (bpeX (zdx (K:=K) rfl) (bv 2) (zan zcb (zan (zbu (K:=K) rfl) (bv 4) (zan zcy (bv 8) zae)) zae)) (zan (zbu (K:=K) rfl) zae (zan zcb (zan zgx (bv 8) (bv 3)) zae))) zac) (by rfl) (by rfl) (by rfl) (zav (by rfl)) (by rfl)) (by rfl)))))))) (by intro _;rfl))
 (zad (zdp (zcw (zno (K:=K) rfl hr.units) (zan zcb (zan zcy (bv 1) zae) zae) zae (zfe _)) (zad (bpsS (i:=10) zbs rfl (Or.inl rfl) (zeh (bpaC zin (bpaC zin (bpaC zin (bpaC zin (bpaC zin (bpaC zin zac))))))))
 (zad (bpsS (i:=11) zbs rfl (Or.inl rfl) (zan zcb (zan zcy (bv 1) zae) zae))
 (zaf (bpsS (i:=7) zbs rfl (Or.inl rfl) (zdg (zml (K:=K) rfl) (zan (zbu (K:=K) rfl) (zan (zbu (K:=K) rfl) (zdg (zml (K:=K) rfl) (bv 10) (zcx (bv 11)) zgu) (zdg (zml (K:=K) rfl) (bv 10) zgu (zcx (bv 11)))) (zdg (zml (K:=K) rfl) (bv 7) (zcx zae) zgu)) zgu (zcx (bv 0))))))) zcl)
 (zaf (zba (bv 7)))))))))))
 exact fn_d (f:=zgk) ((zas ics (zas (zzz ice) (zas ics (zas ics (zas ics (zas ics (zas (zfz ici zcz (zas ics (zkp ict ics (zkp ict ics ics)))) (zas (zkp ict (zas ics ics) zij) zko))))))))) h
theorem zacc {f:Addr} {fd:qx} (F:Fun K "_law_web" "_law_web" zqk f fd) (T:Txt mg)  : FnOk P w K mg base CX0 1 f fd ["_law_cells","_law_names_here"] (spD 2 zhf):=by
 refine F.ok zabw (λvs H Q E h=>zce h) (λcdv A outer s H vs Q E hr h=>?_)
 have hu:=zer hr
 apply Exists.intro
 apply And.intro
 ·refine' Bx.out (zad (bpsS (i:=2) zdi rfl (Or.inl rfl) (zeh zac))
 (zad (zdq qv rfl (zlt (K:=K) rfl rfl T.enumerate (bpaC (bv 1) zac) (by rfl)) (zcn (K:=K) (n:=2) rfl rfl (zao (bpgN (i:=3) zdi rfl (Or.inl rfl)) (zao (bpgN (i:=4) zdi rfl (Or.inl rfl)) zcm (by rfl)) (by rfl)) (by rfl) (by rfl))
  (zad (bpsS (i:=5) zdi rfl (Or.inl rfl) (zdg (zml (K:=K) rfl) (bv 1) zgu (zcx (bv 3))))
 (zad (bpsS (i:=6) zdi rfl (Or.inl rfl) (zan zcy (bpeX (zdx (K:=K) rfl) (bv 0) (bv 3)) zae))
 (zad (bpsS (i:=7) zdi rfl (Or.inl rfl) (zeh zac))
 (zad (zdq qv rfl (zjo rfl T.range (bpaC (bpeB (zacp rfl) T.min zajh (bpaC (zan zcb (bpeX (zdx (K:=K) rfl) (bv 0) (bv 3)) zae) (bpaC (bv 3) zac))) zac) (by rfl)) (bpgN (i:=8) zdi rfl (Or.inl rfl))
  (zad (bpsS (i:=9) zdi rfl (Or.inl rfl) (zan zcb (bv 6) (bpeB (zbv (K:=K) rfl) T.len zcu (bpaC (bv 5) zac))))
 (zad (bpsS (i:=6) zdi rfl (Or.inl rfl) (zan zcy (bv 6) (bpeB (zbv (K:=K) rfl) T.len zcu (bpaC (bv 5) zac))))
 (zaf (zbm (zcq (K:=K) rfl qN qX qW zbi (bv 7) (bpaC (zcq (K:=K) rfl qN qBb qBa zsn (bv 5) (bpaC (bv 9) zac) (by rfl) (by rfl) (by rfl) (zav (by rfl)) (by rfl)) zac) (by rfl) (by rfl) (by rfl) (zav (by rfl)) (by rfl)) (by rfl))))) (by intro _;rfl))
 (zaf (zbm (zcq (K:=K) rfl qN qX qW zbi (bv 2) (bpaC (zgf (bpaC (bv 4) (bpaC (bv 7) zac))) zac) (by rfl) (by rfl) (by rfl) (zav (by rfl)) (by rfl)) (by rfl))))))) (by intro _;rfl))
 (zaf (zba (bv 2)))))
 exact fn_d (f:=zvo) ((zas ics (zas (zfz ici (zil (zbl (zbl zfy))) (zas ics (zas ics (zas ics (zas (zfz (zva (zaz (zst zapw ica) zdz)) zcz (zas ics (zas ics (zvd ice)))) ics))))) zko))) h
theorem zafy {f:Addr} {fd:qx} (F:Fun K "_law_up" "_law_up" ztt f fd) (T:Txt mg)  : FnOk P w K mg base CX0 1 f fd ["_law_web_here"] (spD 1 zjr):=by
 refine F.ok zafu (λvs H Q E h=>zce h) (λcdv A outer s H vs Q E hr h=>?_)
 have hu:=zer hr
 apply Exists.intro
 apply And.intro
 ·refine' Bx.out (zad (bpsS (i:=1) zgo rfl (Or.inl rfl) zpo)
 (zad (zdq qv rfl (zaw (K:=K) rfl (bv 0)) (zcn (K:=K) (n:=2) rfl rfl (zao (bpgN (i:=2) zgo rfl (Or.inl rfl)) (zao (bpgN (i:=3) zgo rfl (Or.inl rfl)) zcm (by rfl)) (by rfl)) (by rfl) (by rfl))
  (zad (bpsS (i:=4) zgo rfl (Or.inl rfl) (zeh (bpaC (bv 2) zac)))
 (zad (zdq qv rfl (zaw (K:=K) rfl (bv 3)) (bpgN (i:=5) zgo rfl (Or.inl rfl))
  (zaf (zdq qv rfl (zaw (K:=K) rfl (zjp hu (bv 1) (bv 5) (λ_ _=>rfl))) (bpgN (i:=6) zgo rfl (Or.inl rfl))
  (zaf (zdp (zcw (zuw (K:=K) rfl) (bv 6) (bv 4) (by rfl)) (zaf (zbm (zcq (K:=K) rfl qN qX qW zbi (bv 4) (bpaC (bv 6) zac) (by rfl) (by rfl) (by rfl) (zav (by rfl)) (by rfl)) (by rfl))) zcl)) (by intro _;rfl))) (by intro _;rfl))
 (zaf (zaae hu (bv 1) (bv 2) (bv 4) rfl)))) (by intro _;rfl))
 (zaf (zba (bv 1)))))
 exact fn_d (f:=zaaj) ((zas ics (zas (zfz ici (zil (zbl (zbl zfy))) (zas ics (zas ics (zakm ice ice)))) zko))) h
theorem zwt {f:Addr} {fd:qx} (F:Fun K "_law_parts" "_law_parts" zkx f fd) (T:Txt mg)  : FnOk P w K mg base CX0 1 f fd ["_law_arm_here"] (spD 1 zbe):=by
 refine F.ok zwh (λvs H Q E h=>zce h) (λcdv A outer s H vs Q E hr h=>?_)
 have hu:=zer hr
 apply Exists.intro
 apply And.intro
 ·refine' Bx.out (zad (zdp (zbq (K:=K) rfl (bpeB (zlk (K:=K) rfl) T.isinstance zen (bpaC (bv 0) (bpaC (zou (v:=.ty "tuple") (by rfl) T.tuple zex rfl (by decide) (by decide)) zac))) (λ_=>rfl)) (zaf (zba (bpeT (zgz (K:=K) rfl) T.list zhg (bpaC (bv 0) zac)))) zcl)
 (zaf (zba (zeh (bpaC (bv 0) zac)))))
 exact fn_d (f:=zmv) ((zas (zkp (zhb (zzu ice zuz)) ics zij) ics)) h
theorem zacd {f:Addr} {fd:qx} (F:Fun K "_law_arm" "_law_arm" zqm f fd) (T:Txt mg)  : FnOk P w K mg base CX0 1 f fd ["_law_cell","_law_names_here"] (spD 2 zct):=by
 refine F.ok zabx (λvs H Q E h=>zce h) (λcdv A outer s H vs Q E hr h=>?_)
 have hu:=zer hr
 apply Exists.intro
 apply And.intro
 ·refine' Bx.out (zad (bpsS (i:=2) zez rfl (Or.inl rfl) (bpeT (zgz (K:=K) rfl) T.list zhg (bpaC (bv 1) zac)))
 (zad (bpsS (i:=3) zez rfl (Or.inl rfl) (zan zcy (bv 0) (bpeB (zbv (K:=K) rfl) T.len zcu (bpaC (bv 1) zac))))
 (zad (bpsS (i:=4) zez rfl (Or.inl rfl) (zeh zac))
 (zad (zdq qv rfl (zjo rfl T.range (bpaC (zan (zbu (K:=K) rfl) zae (zan zcb (bv 0) (bpeB (zbv (K:=K) rfl) T.len zcu (bpaC (bv 1) zac)))) zac) (by rfl)) (bpgN (i:=5) zez rfl (Or.inl rfl))
  (zad (bpsS (i:=6) zez rfl (Or.inl rfl) (zan zcb (bv 3) (bpeB (zbv (K:=K) rfl) T.len zcu (bpaC (bv 2) zac))))
 (zad (bpsS (i:=3) zez rfl (Or.inl rfl) (zan zcy (bv 3) (bpeB (zbv (K:=K) rfl) T.len zcu (bpaC (bv 2) zac))))
 (zaf (zbm (zcq (K:=K) rfl qN qX qW zbi (bv 4) (bpaC (zcq (K:=K) rfl qN qBb qBa zsn (bv 2) (bpaC (bv 6) zac) (by rfl) (by rfl) (by rfl) (zav (by rfl)) (by rfl)) zac) (by rfl) (by rfl) (by rfl) (zav (by rfl)) (by rfl)) (by rfl))))) (by intro _;rfl))
 (zaf (zba (bpeT (zgc (K:=K) rfl) T.tuple zex (bpaC (bv 4) zac))))))))
 exact fn_d (f:=zmd) ((zas ics (zas ics (zas ics (zas (zfz ici zcz (zas ics (zas ics (zvd ice)))) ics))))) h
theorem zyx {f:Addr} {fd:qx} (F:Fun K "_law_call" "_law_call" znb f fd) (T:Txt mg)  : FnOk P w K mg base CX0 1 f fd ["_law_cell","_law_names_here","_law_places"] (spD 3 zch):=by
 refine F.ok zyp (λvs H Q E h=>zce h) (λcdv A outer s H vs Q E hr h=>?_)
 have hu:=zer hr
 apply Exists.intro
 apply And.intro
 ·refine' Bx.out (zad (bpsS (i:=3) zdf rfl (Or.inl rfl) (zeh zac))
 (zad (bpsS (i:=4) zdf rfl (Or.inl rfl) (bv 0))
 (zad (bpsS (i:=5) zdf rfl (Or.inl rfl) (bpeB (zbv (K:=K) rfl) T.len zcu (bpaC (bv 1) zac)))
 (zad (zdq qv rfl (zjo rfl T.range (bpaC (bv 2) zac) (by rfl)) (bpgN (i:=6) zdf rfl (Or.inl rfl))
  (zad (bpsS (i:=7) zdf rfl (Or.inl rfl) (zan zcb (bv 4) (bv 5)))
 (zad (bpsS (i:=4) zdf rfl (Or.inl rfl) (zan zcy (bv 4) (bv 5)))
 (zad (zdp (zcw (zno (K:=K) rfl hr.units) (zan zcb (bv 4) zae) zae (zfe _)) (zaf (zbm (zcq (K:=K) rfl qN qX qW zbi (bv 3) (bpaC (zgf (bpaC (bpeX (zdx (K:=K) rfl) (bv 1) (zan zri (zan zri (bv 5) zae) (bv 7))) zac)) zac) (by rfl) (by rfl) (by rfl) (zav (by rfl)) (by rfl)) (by rfl))) (zaf (zdp (zamv (zcw (zno (K:=K) rfl hr.units) (zan zcb (bv 4) zae) zae (zfe _)) (zait (zcw zalo (bv 5) zae (zfe _)))).pt (zad (bpsS (i:=8) zdf rfl (Or.inl rfl) (zan zcb (zan (zbu (K:=K) rfl) (zan (zbu (K:=K) rfl) (bv 7) zae) (zan zcb (zan zcy (bv 4) zae) (zan zri (bv 5) zae))) (bv 5)))
 (zaf (zbm (zcq (K:=K) rfl qN qX qW zbi (bv 3) (bpaC (zgf (bpaC (bpeX (zdx (K:=K) rfl) (bv 1) (bv 7)) (bpaC (bpeX (zdx (K:=K) rfl) (bv 1) (bv 8)) zac))) zac) (by rfl) (by rfl) (by rfl) (zav (by rfl)) (by rfl)) (by rfl)))) (zaf (zbm (zcq (K:=K) rfl qN qX qW zbi (bv 3) (bpaC (bpeX (zdx (K:=K) rfl) (bv 1) (zan zri (zan zri (bv 5) zae) (bv 7))) zac) (by rfl) (by rfl) (by rfl) (zav (by rfl)) (by rfl)) (by rfl))))))
 (zaf (bpsS (i:=4) zdf rfl (Or.inl rfl) (zan zcy (bv 4) (zan zgx zae (bv 5)))))))) (by intro _;rfl))
 (zaf (zba (bpeT (zgc (K:=K) rfl) T.tuple zex (bpaC (bv 3) zac))))))))
 exact fn_d (f:=zkd) ((zas ics (zas ics (zas ics (zas (zfz ici zcz (zas ics (zas ics (zas (zkp ict ics (zkp ict ics ics)) ics)))) ics))))) h
theorem zwu{f:Addr}{fd:qx}(F:Fun K "_law_rules" "_law_rules" zky f fd)(T:Txt mg)(D_law_parts:zlb P w K mg base):FnOk P w K mg base CX0 2 f fd ["_law_cells","_law_names_here","_law_up_here","_law_call_here","_law_titles"] (spD 5 zgl):=by
 refine F.ok zwj (λvs H Q E h=>zce h) (λcdv A outer s H vs Q E hr h=>?_)
 have hu:=zer hr
 apply Exists.intro
 apply And.intro
 ·refine' Bx.out (zad (bpsS (i:=5) zci rfl (Or.inl rfl) (zeh zac))
 (zad (zdq qv rfl (zlt (K:=K) rfl rfl T.enumerate (bpaC (bv 4) zac) (by rfl)) (zcn (K:=K) (n:=2) rfl rfl (zao (bpgN (i:=6) zci rfl (Or.inl rfl)) (zao (bpgN (i:=7) zci rfl (Or.inl rfl)) zcm (by rfl)) (by rfl)) (by rfl) (by rfl))
  (zad (bpsS (i:=8) zci rfl (Or.inl rfl) (zan zcy (bpeX (zdx (K:=K) rfl) (bv 0) (bv 6)) zae))
 (zad (bpsS (i:=9) zci rfl (Or.inl rfl) (zeh zac))
 (zad (zdq qv rfl (zaw (K:=K) rfl (bv 3)) (bpgN (i:=10) zci rfl (Or.inr rfl))
  (zad (bpsS (i:=11) zci rfl (Or.inl rfl) (bv 1))
 (zad (zdp (zcw zalo (zan zcb (bpeX (zdx (K:=K) rfl) (bv 0) (bv 6)) zae) zae (zfe _)) (zaf (zio (i:=11) (zbc (N':=["_law_name","_law_up_here","_law_arm_here"]) (own:=["_law_name"]) (fr:=[2,10]) (by kernel_rfl)) rfl (zaw (K:=K) rfl (bv 1)) ?hb1 (by rfl) zci rfl rfl (by intro _;rfl))) zcl)
 (zad (zbm (zcq (K:=K) rfl qN qX qW zbi (bv 9) (bpaC (bpeX (zdx (K:=K) rfl) (bv 11) (zan zcb (bv 8) (bpeB (zbv (K:=K) rfl) T.len zcu (bpaC (bv 11) zac)))) zac) (by rfl) (by rfl) (by rfl) (zav (by rfl)) (by rfl)) (by rfl))
 (zaf (bpsS (i:=8) zci rfl (Or.inl rfl) (zan zcy (bv 8) (bpeB (zbv (K:=K) rfl) T.len zcu (bpaC (bv 11) zac)))))))) (by intro _;rfl))
 (zaf (zdp (zcw (zaej (K:=K) rfl hr.units) (bpeT (zgc (K:=K) rfl) T.tuple zex (bpaC (bv 9) zac)) (zcf (zbc (N':=["_law_one","_law_row"]) (own:=["_law_one","_law_row"]) (fr:=[]) (by kernel_rfl)) rfl (zaw (K:=K) rfl (bv 5)) ?hb3 (by intro _;rfl)) (by rfl)) (zaf (zbm (zcq (K:=K) rfl qN qX qW zbi (bv 5) (bpaC (zgf (bpaC (bv 7) (bpaC (bpeT (zgc (K:=K) rfl) T.tuple zex (bpaC (bv 9) zac)) zac))) zac) (by rfl) (by rfl) (by rfl) (zav (by rfl)) (by rfl)) (by rfl))) zcl))))) (by intro _;rfl))
 (zaf (zba (bv 5)))))
  case hb1=>(intro cl C s H fp;refine'⟨Bx.out (bpgN (i:=0) zqo rfl (Or.inr rfl)),Bx.out (zta (zbq (K:=K) rfl (bpeB (zli (K:=K) rfl rfl) T.any zow (bpaC (zcf (zbc (N':=["_law_one","_law_name","_law_up_here"]) (own:=["_law_one"]) (fr:=[0,1]) (by kernel_rfl)) rfl (zaw (K:=K) rfl (bpeD D_law_parts hr (bpaC (bv 2) zac))) ?hb2 (by intro _;rfl)) zac)) (λ_=>rfl))),Bx.out (bv 0)⟩;case hb2=>(intro cl C s H fp;refine'⟨Bx.out (bpgN (i:=0) zqp rfl (Or.inl rfl)),Bx.out zdd,Bx.out (zls (zakh (K:=K) rfl) (bv 1) (zjp hu (bv 2) (bv 0) (λ_ _=>rfl)) (by rfl))⟩))
  case hb3=>(intro cl C s H fp;refine'⟨Bx.out (zcn (K:=K) (n:=2) rfl rfl (zao (bpgN (i:=0) zje rfl (Or.inl rfl)) (zao (bpgN (i:=1) zje rfl (Or.inl rfl)) zcm (by rfl)) (by rfl)) (by rfl) (by rfl)),Bx.out zdd,Bx.out (bv 1)⟩)
 exact fn_d (f:=zqd) ((zas ics (zas (zfz ici (zil (zbl (zbl zfy))) (zas ics (zas ics (zas (zfz ici zcz (zas ics (zas (zkp ict (zzz (zfl ici zcz (zhm (by decide)) (zhb ice) ice)) zij) ics))) (zkp (st_t (zhj zaqe ice ice)) ics zij))))) zko))) h
theorem zyy{f:Addr}{fd:qx}(F:Fun K "_law_fits" "_law_fits" znc f fd)(T:Txt mg)(D_law_parts:zlb P w K mg base):FnOk P w K mg base CX0 2 f fd ["_law_up_here","_law_kinds","_law_call_here"] (spD 3 zcd):=by
 refine F.ok zyq (λvs H Q E h=>zce h) (λcdv A outer s H vs Q E hr h=>?_)
 have hu:=zer hr
 apply Exists.intro
 apply And.intro
 ·refine' Bx.out (zad (zdq qv rfl (zlt (K:=K) rfl rfl T.enumerate (bpaC (bv 1) zac) (by rfl)) (zcn (K:=K) (n:=2) rfl rfl (zao (bpgN (i:=3) zkz rfl (Or.inl rfl)) (zao (bpgN (i:=4) zkz rfl (Or.inr rfl)) zcm (by rfl)) (by rfl)) (by rfl) (by rfl))
  (zaf (zdp (zge (zbq (K:=K) rfl (bpeB (zli (K:=K) rfl rfl) T.any zow (bpaC (zcf (zbc (N':=["_law_name","_law_up_here","_law_kind"]) (own:=["_law_name"]) (fr:=[0,4]) (by kernel_rfl)) rfl (zaw (K:=K) rfl (bpeD D_law_parts hr (bpaC (bpeX (zdx (K:=K) rfl) (bv 2) (bv 3)) zac))) ?hb1 (by intro _;rfl)) zac)) (λ_=>rfl))) (zaf (zba zjz)) zcl)) (by intro _;rfl))
 (zaf (zba zjz)))
  case hb1=>(intro cl C s H fp;refine'⟨Bx.out (bpgN (i:=0) zre rfl (Or.inl rfl)),Bx.out zdd,Bx.out (zls (zakh (K:=K) rfl) (bv 2) (zjp hu (bv 1) (bv 0) (λ_ _=>rfl)) (by rfl))⟩)
 exact fn_d (f:=zrw) ((zas (zfz ici (zil (zbl (zbl zfy))) (zkp (znn (zhb ice)) ics zij)) ics)) h
theorem zyz{f:Addr}{fd:qx}(F:Fun K "_law_near" "_law_near" znd f fd)(T:Txt mg)(D_law_fits:znh P w K mg base):FnOk P w K mg base CX0 3 f fd ["_law_up_here","_law_rules_here"] (spD 2 zcv):=by
 refine F.ok zyr (λvs H Q E h=>zce h) (λcdv A outer s H vs Q E hr h=>?_)
 have hu:=zer hr
 apply Exists.intro
 apply And.intro
 ·refine' Bx.out (zad (bpsS (i:=2) zhu rfl (Or.inl rfl) (zeh zac))
 (zad (zdq qv rfl (zaw (K:=K) rfl (bv 1)) (zcn (K:=K) (n:=2) rfl rfl (zao (bpgN (i:=3) zhu rfl (Or.inl rfl)) (zao (bpgN (i:=4) zhu rfl (Or.inr rfl)) zcm (by rfl)) (by rfl)) (by rfl) (by rfl))
  (zaf (zdp (zge (zbq (K:=K) rfl (bpeB (zli (K:=K) rfl rfl) T.any zow (bpaC (zcf (zbc (N':=["_law_one","_law_other","_law_up_here","_law_kinds"]) (own:=["_law_one","_law_other"]) (fr:=[0,4]) (by kernel_rfl)) rfl (zaw (K:=K) rfl (bv 1)) ?hb1 (by intro _;rfl)) zac)) (λ_=>rfl))) (zaf (zbm (zcq (K:=K) rfl qN qX qW zbi (bv 2) (bpaC (bv 3) zac) (by rfl) (by rfl) (by rfl) (zav (by rfl)) (by rfl)) (by rfl))) zcl)) (by intro _;rfl))
 (zaf (zba (bv 2)))))
  case hb1=>(intro cl C s H fp;refine'⟨Bx.out (zcn (K:=K) (n:=2) rfl rfl (zao (bpgN (i:=0) zkh rfl (Or.inl rfl)) (zao (bpgN (i:=1) zkh rfl (Or.inl rfl)) zcm (by rfl)) (by rfl)) (by rfl) (by rfl)),Bx.out zdd,Bx.out (zyd (zls (zvc (K:=K) rfl hr.units) (bv 1) (bv 3) (zfe _)) (zyc (bpeD D_law_fits hr (bpaC (bv 2) (bpaC (bv 3) (bpaC (bv 1) zac))))))⟩)
 exact fn_d (f:=zke) ((zas ics (zas (zfz ici (zil (zbl (zbl zfy))) (zkp (znn (zhb ice)) ics zij)) zko))) h
theorem zza {f:Addr} {fd:qx} (F:Fun K "_law_same" "_law_same" zne f fd) (T:Txt mg)  : FnOk P w K mg base CX0 1 f fd ["_law_found","_law_due"] (spD 2 zah):=by
 refine F.ok zyt (λvs H Q E h=>zce h) (λcdv A outer s H vs Q E hr h=>?_)
 have hu:=zer hr
 apply Exists.intro
 apply And.intro
 ·refine' Bx.out (zad (zdp (zaad (zge (zbq (K:=K) rfl (bpeB (zlk (K:=K) rfl) T.isinstance zen (bpaC (bv 0) (bpaC (zou (v:=.ty "list") (by rfl) T.list zhg rfl (by decide) (by decide)) zac))) (λ_=>rfl))) (zsz (zcw (zvc (K:=K) rfl hr.units) (bpeB (zbv (K:=K) rfl) T.len zcu (bpaC (bv 0) zac)) (bpeB (zbv (K:=K) rfl) T.len zcu (bpaC (bv 1) zac)) (zfe _)))).pt (zaf (zba zjz)) zcl)
 (zaf (zba (zyd (bpeB (zlj (K:=K) rfl rfl) T.all zov (bpaC (zcf (zbc (N':=["_law_name"]) (own:=["_law_name"]) (fr:=[]) (by kernel_rfl)) rfl (zaw (K:=K) rfl (bv 0)) ?hb1 (by intro _;rfl)) zac)) (zyc (zls (zno (K:=K) rfl hr.units) (bv 0) (bv 1) (zfe _)))))))
  case hb1=>(intro cl C s H fp;refine'⟨Bx.out (bpgN (i:=0) zrf rfl (Or.inl rfl)),Bx.out zdd,Bx.out (bpeB (zlk (K:=K) rfl) T.isinstance zen (bpaC (bv 0) (bpaC (zou (v:=.ty "str") (by rfl) T.str zaji rfl (by decide) (by decide)) zac)))⟩)
 exact fn_d (f:=zkf) ((zas (zkp (zaml (znn (zhb (zzu ice zaib))) ict) ics zij) (zik (zakl (zst zadw (zaz (zfl ici zcz (zhm (by decide)) zjx (zzu ice zamn)) zdz)) ice)))) h
theorem ztz{f:Addr}{fd:qx}(F:Fun K "_law_looked" "_law_looked" zjc f fd)(T:Txt mg)(D_law_fits:znh P w K mg base)(D_law_near:zsh P w K mg base)(D_law_same:zni P w K mg base)(D_fitting:zwn P w K mg base)(D_nearest:zwo P w K mg base):FnOk P w K mg base CX0 6 f fd ["_law_book","_law_up_here","_law_calls","_law_turn","_law_held"] (spL 4 (zgi 13 4 zbd)):=by
 refine F.ok ztu (λvs H Q E h=>zanc h) (λcdv A outer s H vs Q E hr h=>?_)
 have hu:=zer hr
 apply Exists.intro
 apply And.intro
 ·refine' Bx.out (zad (zdq qv rfl (zlt (K:=K) rfl rfl T.enumerate (bpaC (bv 2) zac) (by rfl)) (zcn (K:=K) (n:=2) rfl rfl (zao (bpgN (i:=5) zbo rfl (Or.inl rfl)) (zao (bpgN (i:=6) zbo rfl (Or.inr rfl)) zcm (by rfl)) (by rfl)) (by rfl) (by rfl))
  (zad (zio (i:=7) (zbc (N':=["_law_rule","_law_up_here","_law_call_here"]) (own:=["_law_rule"]) (fr:=[1,6]) (by kernel_rfl)) rfl (zaw (K:=K) rfl (bpeX (zdx (K:=K) rfl) (bv 0) zae)) ?hb1 (by rfl) zbo rfl rfl (by intro _;rfl))
 (zad (zio (i:=8) (zbc (N':=["_law_name","_law_kinds"]) (own:=["_law_name","_law_kinds"]) (fr:=[]) (by kernel_rfl)) rfl (zaw (K:=K) rfl (bv 7)) ?hb2 (by rfl) zbo rfl rfl (by intro _;rfl))
 (zad (bpsS (i:=9) zbo rfl (Or.inl rfl) (bpeD D_law_near hr (bpaC (bv 1) (bpaC (bv 7) zac))))
 (zad (zdp (zcw (zno (K:=K) rfl hr.units) (zan zcb (zan (zbu (K:=K) rfl) (bv 3) (bv 5)) zae) zae (zfe _)) (zad (bpsS (i:=10) zbo rfl (Or.inl rfl) (bpeD D_fitting hr (bpaC (bv 0) (bpaC (bv 6) zac))))
 (zaf (bpsS (i:=11) zbo rfl (Or.inl rfl) (bpeD D_nearest hr (bpaC (bv 0) (bpaC (bv 6) zac)))))) (zad (bpsS (i:=11) zbo rfl (Or.inl rfl) (bpeD D_nearest hr (bpaC (bv 0) (bpaC (bv 6) zac))))
 (zaf (bpsS (i:=10) zbo rfl (Or.inl rfl) (bpeD D_fitting hr (bpaC (bv 0) (bpaC (bv 6) zac)))))))
 (zad (zdp (zaad (zge (zbq (K:=K) rfl (bpeD D_law_same hr (bpaC (bv 10) (bpaC (bv 8) zac))) (λ_=>rfl))) (zsz (zge (zbq (K:=K) rfl (bpeD D_law_same hr (bpaC (bv 11) (bpaC (bv 9) zac))) (λ_=>rfl))))).pt (zaf (zba zjz)) zcl)
 (zad (zbm (zcq (K:=K) rfl qN qX qW zbi (bv 4) (bpaC (zgf (bpaC (bv 10) (bpaC (bv 8) zac))) zac) (by rfl) (by rfl) (by rfl) (zav (by rfl)) (by rfl)) (by rfl))
 (zad (zbm (zcq (K:=K) rfl qN qX qW zbi (bv 4) (bpaC (zgf (bpaC (bv 11) (bpaC (bv 9) zac))) zac) (by rfl) (by rfl) (by rfl) (zav (by rfl)) (by rfl)) (by rfl))
 (zad (bpsS (i:=12) zbo rfl (Or.inl rfl) (bpeD D_fitting hr (bpaC (bv 0) (bpaC (bv 6) zac))))
 (zad (zbm (zaaf (K:=K) rfl qN PySem.F.slot_list_reverse PySem.F.type_list_reverse zabg (bv 12) (by rfl) (by rfl)) (by rfl))
 (zad (zbm (zcq (K:=K) rfl qN qX qW zbi (bv 12) (bpaC zin zac) (by rfl) (by rfl) (by rfl) (zav (by rfl)) (by rfl)) (by rfl))
 (zad (zbm (zaaf (K:=K) rfl qN PySem.F.slot_list_clear PySem.F.type_list_clear zahi (bpeD D_nearest hr (bpaC (bv 0) (bpaC (bv 6) zac))) (by rfl) (by rfl)) (by rfl))
 (zaf (zdp (zaad (zge (zbq (K:=K) rfl (bpeD D_law_same hr (bpaC (bpeD D_nearest hr (bpaC (bv 0) (bpaC (bv 6) zac))) (bpaC (bv 9) zac))) (λ_=>rfl))) (zsz (zge (zbq (K:=K) rfl (bpeD D_law_same hr (bpaC (bpeD D_fitting hr (bpaC (bv 0) (bpaC (bv 6) zac))) (bpaC (bv 8) zac))) (λ_=>rfl))))).pt (zaf (zba zjz)) zcl))))))))))))) (by intro _;rfl))
 (zaf (zba zjz)))
  case hb1=>(intro cl C s H fp;refine'⟨Bx.out (bpgN (i:=0) zoo rfl (Or.inl rfl)),Bx.out (zta (zbq (K:=K) rfl (bpeD D_law_fits hr (bpaC (bv 1) (bpaC (bpeX (zdx (K:=K) rfl) (bv 0) zae) (bpaC (bv 2) zac)))) (λ_=>rfl))),Bx.out (bv 0)⟩)
  case hb2=>(intro cl C s H fp;refine'⟨Bx.out (zcn (K:=K) (n:=2) rfl rfl (zao (bpgN (i:=0) zic rfl (Or.inl rfl)) (zao (bpgN (i:=1) zic rfl (Or.inl rfl)) zcm (by rfl)) (by rfl)) (by rfl) (by rfl)),Bx.out zdd,Bx.out (bv 0)⟩)
 exact zand (F:=zbd) (by decide) (zanb ici (zamx (zvi (by decide) (zvi (by decide) zaiu))) (zbt (zlv (zhn (zfl ici zcz (zhm (by decide)) (zhb ice) ice) (by decide))) (zbt (zft (zkb (zfl ici (zil (zbl (zbl zfy))) (zaaa (zgt (by decide) (zgt (by decide) zsv))) zjx ice))) (zbt (zft (zkb ice)) (zbt (zvj (zrq ict) (zbt (zft (zkb ice)) (zft (zkb ice))) (zbt (zft (zkb ice)) (zft (zkb ice)))) (zbt (zvj (zrq (zaml (znn (zhb ice)) (znn (zhb ice)))) (zmr (zka ice)) zkq) (zbt (zvn (zgh 4) (zgh 10) (zgh 8)) (zbt (zvn (zgh 4) (zgh 11) (zgh 9)) (zbt (zft (zkb ice)) (zbt (zamz (zgh 12)) (zbt (zaeu (zgh 12) (zaqh (zka ice))) (zbt (zaiz ice) (zvj (zrq (zaml (znn (zhb ice)) (znn (zhb ice)))) (zmr (zka ice)) zkq))))))))))))) (se_c λ_=>zbp) h
end
inductive Arm where
 | one (n:Str)
 | many (ns:List Str)
noncomputable def Arm.parts:Arm->List Str
 | .one n=>[n]
 | .many ns=>ns
noncomputable def armD:Arm->PyData
 | .one n=>.str n
 | .many ns=>.tuple (ns.map .str)
noncomputable def zat(c:List Arm):PyData:=.tuple (c.map armD)
noncomputable def zak(ks:List Str):PyData:=.tuple (ks.map .str)
noncomputable def zbg(r:Str×List Str):PyData:=.tuple [.str r.1,zak r.2]
noncomputable def zam(rs:List (Str×List Str)):PyData:=.list (rs.map zbg)
noncomputable def zdu(W:Web)(p:Nat)(rs:List (Str×List Str)):PyData:=.tuple [webD W,.int p,zam rs]
theorem zfd(a:Arm):zbe [armD a]=some (zab a.parts,true):=by
 cases a with
 | one n=>rfl
 | many ns=>rfl
theorem zqt{c:List Arm}(hc:c.length<300)(ha:∀a∈c,a.parts.length<300):zem [zat c]=some (zab (c.flatMap Arm.parts),true):=by
 have k:zim (gN 0) zbf (zaj (zal 1 zbe (zaa (eVar 0) aNil))) (gN 1) zbf (eVar 1) [.no,.no] (c.map armD)=some (c.flatMap λa=>a.parts.map .str):=by
  refine zqb λa hm=>⟨[.pl (armD a),.no],rfl,rfl,?_⟩
  have e:zaj (zal 1 zbe (zaa (eVar 0) aNil)) [.pl (armD a),.no]=some (a.parts.map .str,[]):=by
   unfold zaj
   rw[zbj (n:=1) (rs:=[⟨armD a,false,[]⟩]) rfl rfl (zfd a)]
   rfl
  unfold innL
  rw[e]
  show(if(a.parts.map PyData.str).length<300 then zda (gN 1) zbf (eVar 1) [.pl (armD a),.no] (a.parts.map .str)else none)=_
  rw[if_pos (by rw[qD];exact ha a hm)]
  exact zby λx _=>⟨[.pl (armD a),.pl (.str x)],rfl,rfl,vs x,rfl,rfl⟩
 have fl:(c.flatMap λa=>a.parts.map PyData.str)=(c.flatMap Arm.parts).map .str:=by
  rw[List.map_flatMap]
 rw[fl]at k
 exact zgq (env:=[.pl (zat c)]) rfl (zhw (zajg (own:=["arm","name"]) (fr:=[]) (fi:=zaj (eVar 0)) (ds:=c.map armD) (bs:=[]) rfl (by rw[qD];exact hc) k))
theorem zwv(h:WebOk W){c:List Arm}(hc:c.length<300)(ha:∀a∈c,a.parts.length<300)(hk:∀a∈c,∀n∈a.parts,n∈nm W):zgw [webD W,.int c.length,zat c]=some (.none,false):=by
 have hW:W.length<=12:=h.len
 have e2:eCB lenD (zaa (eVar 2) aNil) [.pl (webD W),.pl (.int c.length),.pl (zat c)]=some (vi (c.map armD).length):=rfl
 have t:zbr (eOp neD (eCB lenD (zaa (eVar 2) aNil)) (eVar 1)) [.pl (webD W),.pl (.int c.length),.pl (zat c)]=some false:=by
  refine zgj ?_
  unfold eOp
  rw[e2]
  show((neD (.int ((c.map armD).length:Nat)) (.int (c.length:Nat))).bind λz=>some (⟨z.1,z.2,bsOf z.1 ([]++[])⟩:Val))=_
  rw[qD]
  rw[zafd];rfl
 have cn:zej [webD W,zab (c.flatMap Arm.parts)]=some (.none,false):=ztg (by omega) λn hn=>by
  obtain⟨a,ha',hn'⟩:=qBF.mp hn
  exact hk a ha' n hn'
 exact zasc (env:=[.pl (webD W),.pl (.int c.length),.pl (zat c)]) rfl (zar (if_f t rfl) (zafc (zbj (n:=2) (rs:=[⟨webD W,false,[]⟩,⟨zab (c.flatMap Arm.parts),true,[]⟩]) (zcj rfl (zel (zbj (n:=1) (rs:=[⟨zat c,false,[]⟩]) rfl rfl (zqt hc ha)))) rfl cn)))
noncomputable def upA(W:Web)(a:Arm):List Str:=a.parts.foldl (λks n=>(up W n).foldl insS ks) []
theorem zua{a:Arm}:x∈upA W a↔∃n∈a.parts,x∈up W n:=by
 unfold upA
 have:∀(l ks:List Str),x∈l.foldl (λks n=>(up W n).foldl insS ks) ks↔x∈ks\/∃n∈l,x∈up W n:=by
  intro l
  induction l with
  | nil=>intro ks;simp
  | cons n l ih=>intro ks;rw[qBL,ih,zlx];simp[or_assoc]
 rw[this];simp
theorem zace(h:WebOk W){a:Arm}(hk:∀n∈a.parts,n∈nm W):zit [.dict (dS zax (ups W)),armD a]=some (zax (upA W a),true):=by
 have nd:∀(l ks:List Str),ks.Nodup->(∀x∈ks,x∈nm W)->(l.foldl (λks n=>(up W n).foldl insS ks) ks).Nodup/\∀x∈l.foldl (λks n=>(up W n).foldl insS ks) ks,x∈nm W:=by
  intro l
  induction l with
  | nil=>intro ks h1 h2;exact⟨h1,h2⟩
  | cons n l ih=>
   intro ks h1 h2
   refine ih _ (zth h1) λx hx=>?_
   rcases zlx.mp hx with z|z
   ·exact h2 x z
   ·exact zaan h z
 obtain⟨env',lp,s3,rfl⟩:=zek (enc:=PyData.str) (g:=gN 3) (body:=sUpd 2 (zcs 0 (eVar 3))) (l:=a.parts) (env:=[.pl (.dict (dS zax (ups W))),.pl (armD a),.ac (zax []),.no])
  (λpre env=>∃s3,env=[.pl (.dict (dS zax (ups W))),.pl (armD a),.ac (zax (pre.foldl (λks n=>(up W n).foldl insS ks) [])),s3]) ⟨_,rfl⟩ (by
   rintro pre n post env hp ⟨s3,rfl⟩
   have hn:n∈nm W:=hk n (by rw[<- hp];simp)
   refine⟨[.pl (.dict (dS zax (ups W))),.pl (armD a),.ac (zax (pre.foldl (λks n=>(up W n).foldl insS ks) [])),.pl (.str n)],[.pl (.dict (dS zax (ups W))),.pl (armD a),.ac (zax ((pre++[n]).foldl (λks n=>(up W n).foldl insS ks) [])),.pl (.str n)],rfl,.inl ?_,_,rfl⟩
   ·have l1:=zafe h n
    obtain⟨n1,n2⟩:=nd pre [] qA5 (by simp)
    have l2:=zif _ _ n1 n2
    have l3:=zpc h
    have lz:(zgr (pre.foldl (λks n=>(up W n).foldl insS ks) [])).length+(zgr (up W n)).length<=100000:=by unfold zgr;rw[qD,qD];omega
    simp only[sUpd,zax,zcs,eVar,qAD,qAC,qB,keyD,zks,zjt hn,qAo]
    rw[if_pos ⟨lz,by simp⟩,zkt,qBW]
    simp[frzs])
 exact zgq (env:=[.pl (.dict (dS zax (ups W))),.pl (armD a),.no,.no]) rfl (zar rfl (zar (for_list (zbj (n:=1) (rs:=[⟨armD a,false,[]⟩]) rfl rfl (zfd a)) lp) rfl))
theorem zqu(h:WebOk W){c:List Arm}(hc:c.length<300)(hk:∀a∈c,∀n∈a.parts,n∈nm W):zds [.dict (dS zax (ups W)),zat c]=some (.list (c.map λa=>zax (upA W a)),true):=by
 have k:zda (gN 0) zbf (zal 2 zit (zaa (eVar 1) (zaa (eVar 0) aNil))) [.no,.pl (.dict (dS zax (ups W)))] (c.map armD)=some (c.map λa=>zax (upA W a)):=
  zby λa hm=>⟨[.pl (armD a),.pl (.dict (dS zax (ups W)))],rfl,rfl,_,zbj (n:=2) (rs:=[⟨.dict (dS zax (ups W)),false,[]⟩,⟨armD a,false,[]⟩]) rfl rfl (zace h (hk a hm)),rfl⟩
 exact zgq (env:=[.pl (.dict (dS zax (ups W))),.pl (zat c)]) rfl (zhw (zde (own:=["arm"]) (fr:=[0]) (fi:=zaj (eVar 1)) (ds:=c.map armD) (bs:=[]) rfl (by rw[qD];omega) k))
theorem zaau(f:α->PyData)(g:β->PyData)(l:List α)(r:List β):List.zipWith (λd e=>PyData.tuple [d,e]) (l.map f) (r.map g)=(l.zip r).map λz=>PyData.tuple [f z.1,g z.2]:=by
 induction l generalizing r with
 | nil=>rfl
 | cons a l ih=>cases r with
  | nil=>rfl
  | cons b r=>rw[qM,qM,List.zipWith_cons_cons,ih,qA2,qM]
noncomputable def fitB(W:Web)(ks:List Str)(c:List Arm):Bool:=(ks.zip c).all λz=>decide (z.1∈upA W z.2)
theorem zww{c:List Arm}(hc:c.length<300):zff [zak ks,.list (c.map λa=>zax (upA W a))]=some (.bool (fitB W ks c),false):=by
 have it:zyb (zaa (eVar 0) (zaa (eVar 1) aNil)) [.pl (zak ks),.pl (.list (c.map λa=>zax (upA W a)))]=some ((ks.zip c).map λz=>PyData.tuple [.str z.1,zax (upA W z.2)],[]):=by
  show some (List.zipWith (λd e=>PyData.tuple [d,e]) (ks.map .str) (c.map λa=>zax (upA W a)),[]++[])=_
  rw[zaau];rfl
 have k:zda (gT 2 (zag 0 (zag 1 zbw))) zbf (eDIn false (eVar 0) (eVar 1)) [.no,.no] ((ks.zip c).map λz=>PyData.tuple [.str z.1,zax (upA W z.2)])=some ((ks.zip c).map λz=>.bool (decide (z.1∈upA W z.2))):=
  zby λz _=>⟨[.pl (.str z.1),.pl (zax (upA W z.2))],rfl,rfl,vb (decide (z.1∈upA W z.2)),zakv (neg:=false) (fr:=false) (bs:=[]) rfl rfl,rfl⟩
 have lz:(ks.zip c).length<=c.length:=by rw[List.length_zip];exact Nat.min_le_right _ _
 exact zgq (env:=[.pl (zak ks),.pl (.list (c.map λa=>zax (upA W a)))]) rfl (zhw (bs:=[]) (zajf (zde (own:=["kind","roof"]) (fr:=[]) it (by rw[qD];omega) k)))
noncomputable def zhv(W:Web)(ks ls:List Str):Bool:=!(ks==ls)&&(ks.zip ls).all λz=>decide (z.2∈up W z.1)
theorem zub:∀(a b:List Str),PyData.eqvAll (a.map .str) (b.map .str)=(a==b)
 | [],[]=>rfl
 | [],_::_=>rfl
 | _::_,[]=>rfl
 | x::a,y::b=>by
  show(qAH (.str x) (.str y)&&PyData.eqvAll (a.map .str) (b.map .str))=_
  rw[zub a b]
  show((x==y)&&(a==b))=_
  rfl
noncomputable def LowS(ks:List Str):Prop:=∀k∈ks,qAJ k=true
theorem zji(h:LowS ks):qAA (zak ks)=true:=by
 obtain⟨h1,h2⟩:=zmc ks h
 unfold qAA zak
 rw[qAO]
 refine⟨h1,decide_eq_true ?_⟩
 show qa (ks.map .str)+1<=64
 omega
theorem zaav(h1:LowS ks)(h2:LowS ls):neD (zak ks) (zak ls)=some (.bool (!(ks==ls)),false):=by
 unfold neD eqOk
 rw[zji h1,zji h2,qCf,qCp,if_pos rfl]
 show some (PyData.bool (!PyData.eqvAll (ks.map .str) (ls.map .str)),false)=_
 rw[zub]
theorem zzb(h:WebOk W){ks ls:List Str}(h1:LowS ks)(h2:LowS ls)(hk:∀k∈ks,k∈nm W)(hl:ks.length<300):zew [.dict (dS zax (ups W)),zak ks,zak ls]=some (.bool (zhv W ks ls),false):=by
 have it:zyb (zaa (eVar 1) (zaa (eVar 2) aNil)) [.pl (.dict (dS zax (ups W))),.pl (zak ks),.pl (zak ls)]=some ((ks.zip ls).map λz=>PyData.tuple [.str z.1,.str z.2],[]):=by
  show some (List.zipWith (λd e=>PyData.tuple [d,e]) (ks.map .str) (ls.map .str),[]++[])=_
  rw[zaau];rfl
 have k:zda (gT 2 (zag 0 (zag 1 zbw))) zbf (eDIn false (eVar 1) (zcs 2 (eVar 0))) [.no,.no,.pl (.dict (dS zax (ups W)))] ((ks.zip ls).map λz=>PyData.tuple [.str z.1,.str z.2])=some ((ks.zip ls).map λz=>.bool (decide (z.2∈up W z.1))):=
  zby λz hz=>⟨[.pl (.str z.1),.pl (.str z.2),.pl (.dict (dS zax (ups W)))],rfl,rfl,vb (decide (z.2∈up W z.1)),zakv (neg:=false) (fr:=false) (bs:=[]) rfl (zafs (d:=zax (up W z.1)) (.inl rfl) rfl (by rw[zks,zjt (hk z.1 (qA9 hz).1)];rfl)),rfl⟩
 have lz:(ks.zip ls).length<=ks.length:=by rw[List.length_zip];exact qBO _ _
 have e1:eOp neD (eVar 1) (eVar 2) [.pl (.dict (dS zax (ups W))),.pl (zak ks),.pl (zak ls)]=some (vb (!(ks==ls))):=by
  show((neD (zak ks) (zak ls)).bind λz=>some (⟨z.1,z.2,bsOf z.1 ([]++[])⟩:Val))=_
  rw[zaav h1 h2];rfl
 have e2:=zajf (f:=λz:Str×Str=>decide (z.2∈up W z.1)) (zde (own:=["low","high"]) (fr:=[0]) it (by rw[qD];omega) k)
 refine zgq (env:=[.pl (.dict (dS zax (ups W))),.pl (zak ks),.pl (zak ls)]) rfl (zhw (bs:=[]) ?_)
 unfold eAnd
 rw[e1,qB]
 unfold zhv
 cases ks==ls with
 | true=>rfl
 | false=>exact e2
structure RulesOk(W:Web)(rs:List (Str×List Str)):Prop where
 low:∀r∈rs,LowS r.2
 kinds:∀r∈rs,∀k∈r.2,k∈nm W
 few:∀r∈rs,r.2.length<300
 len:rs.length<300
theorem RulesOk.filter{rs:List (Str×List Str)}(h:RulesOk W rs)(p:Str×List Str->Bool):RulesOk W (rs.filter p):=
 ⟨λr hr=>h.low r (qAK.mp hr).1,λr hr=>h.kinds r (qAK.mp hr).1,λr hr=>h.few r (qAK.mp hr).1,qAu (qAt _ _) h.len⟩
structure CallOk(W:Web)(c:List Arm):Prop where
 len:c.length<300
 few:∀a∈c,a.parts.length<300
 kinds:∀a∈c,∀n∈a.parts,n∈nm W
noncomputable def fitL(W:Web)(rs:List (Str×List Str))(c:List Arm):List (Str×List Str):=rs.filter λr=>fitB W r.2 c
noncomputable def zwx(W:Web)(rs:List (Str×List Str)):List (Str×List Str):=rs.filter λr=>!(rs.any λq=>zhv W q.2 r.2)
theorem zuc{rs:List Val}(h:f env=some rs)(hn:rs.length=n)(k:g (zii rs)=some (.bool b,false)):tTru (zal n g f) env=some b:=by
 unfold tTru;rw[zbj h hn k];rfl
theorem zajj{α:Type}{f:α->Bool}{l:List α}{a:EF}{env:DEnv}{fr:Bool}{bs:List Nat}(ha:a env=some ⟨.list (l.map λx=>.bool (f x)),fr,bs⟩):eCB (anyD λbs=>bs.any id) (zaa a aNil) env=some (vb (l.any f)):=by
 unfold eCB
 rw[zel ha,qB]
 show((zpj (l.map λx=>.bool (f x))).map _).bind _=_
 rw[zqa]
 simp only[qAo,qB,qBj]
 rfl
theorem zwy(h:WebOk W)(hr:RulesOk W rs):zfg [.dict (dS zax (ups W)),zam rs]=some (zam (zwx W rs),true):=by
 have hlen:=hr.len
 have k:zda (gN 0) (zeg (tTru (eCB (anyD λbs=>bs.any id) (zaa (zbx ["name","kinds"] [0,1] (zaj (eVar 2)) (gT 2 (zag 0 (zag 1 zbw))) zbf (zal 3 zew (zaa (eVar 3) (zaa (eVar 1) (zaa (eIxV 2 (eC (.int 1))) aNil))))) aNil)))) (eVar 0) [.no,.pl (.dict (dS zax (ups W))),.pl (zam rs)] (rs.map zbg)=some ((zwx W rs).map zbg):=by
  refine zec (enc:=zbg) (out:=zbg) (e:=eVar 0) (λr=>!(rs.any λq=>zhv W q.2 r.2)) λr hm=>⟨[.pl (zbg r),.pl (.dict (dS zax (ups W))),.pl (zam rs)],rfl,?_,λ_=>⟨⟨zbg r,false,[]⟩,rfl,rfl⟩⟩
  have k2:zda (gT 2 (zag 0 (zag 1 zbw))) zbf (zal 3 zew (zaa (eVar 3) (zaa (eVar 1) (zaa (eIxV 2 (eC (.int 1))) aNil)))) [.no,.no,.pl (zbg r),.pl (.dict (dS zax (ups W)))] (rs.map zbg)=some (rs.map λq=>.bool (zhv W q.2 r.2)):=
   zby λq hq=>⟨[.pl (.str q.1),.pl (zak q.2),.pl (zbg r),.pl (.dict (dS zax (ups W)))],rfl,rfl,_,zbj (n:=3) (rs:=[⟨.dict (dS zax (ups W)),false,[]⟩,⟨zak q.2,false,[]⟩,⟨zak r.2,false,[]⟩]) rfl rfl (zzb h (hr.low q hq) (hr.low r hm) (hr.kinds q hq) (hr.few q hq)),rfl⟩
  exact zaft (zajj (f:=λq:Str×List Str=>zhv W q.2 r.2) (zde (own:=["name","kinds"]) (fr:=[0,1]) (fi:=zaj (eVar 2)) (env:=[.pl (zbg r),.pl (.dict (dS zax (ups W))),.pl (zam rs)]) (ds:=rs.map zbg) (bs:=[]) rfl (by rw[qD];omega) k2))
 exact zgq (env:=[.pl (.dict (dS zax (ups W))),.pl (zam rs)]) rfl (zhw (zde (own:=["rule"]) (fr:=[0,1]) (fi:=zaj (eVar 1)) (ds:=rs.map zbg) (bs:=[]) rfl (by rw[qD];omega) k))
theorem zoe{rs:List (Str×List Str)}(hl:rs.length<300):zfh [zam rs]=some (zab (rs.map (·.1)),true):=by
 have k:zda (gT 2 (zag 0 (zag 1 zbw))) zbf (eVar 0) [.no,.no] (rs.map zbg)=some (rs.map λr=>.str r.1):=zby λr _=>⟨[.pl (.str r.1),.pl (zak r.2)],rfl,rfl,vs r.1,rfl,rfl⟩
 have e:(rs.map λr=>PyData.str r.1)=(rs.map (·.1)).map .str:=by rw[qAZ];rfl
 rw[e]at k
 exact zgq (env:=[.pl (zam rs)]) rfl (zhw (zde (own:=["name","kinds"]) (fr:=[]) (fi:=zaj (eVar 0)) (ds:=rs.map zbg) (bs:=[]) rfl (by rw[qD];omega) k))
theorem zid(h:WebOk W){c:List Arm}(hr:RulesOk W rs)(hc:CallOk W c):zcr [zdu W c.length rs,zat c]=some (zam (fitL W rs c),true):=by
 have hl:=hr.len
 have e5:sSet 5 (zal 2 zds (zaa (zal 1 zeb (zaa (eVar 2) aNil)) (zaa (eVar 1) aNil))) [.pl (zdu W c.length rs),.pl (zat c),.pl (webD W),.pl (.int c.length),.pl (zam rs),.no]=some (.nx [.pl (zdu W c.length rs),.pl (zat c),.pl (webD W),.pl (.int c.length),.pl (zam rs),.ac (.list (c.map λa=>zax (upA W a)))]):=
  zcc (r:=⟨.list (c.map λa=>zax (upA W a)),true,[]⟩) (zbj (n:=2) (rs:=[⟨.dict (dS zax (ups W)),true,[]⟩,⟨zat c,false,[]⟩]) (zcj (zbj (n:=1) (rs:=[⟨webD W,false,[]⟩]) rfl rfl (zrv h)) (zel rfl)) rfl (zqu h hc.len hc.kinds))
 have k:zda (gN 0) (tTru (zal 2 zff (zaa (eIxV 0 (eC (.int 1))) (zaa (eVar 1) aNil)))) (eVar 0) [.no,.pl (.list (c.map λa=>zax (upA W a)))] (rs.map zbg)=some ((fitL W rs c).map zbg):=
  zec (enc:=zbg) (out:=zbg) (e:=eVar 0) (λr=>fitB W r.2 c) λr hm=>⟨[.pl (zbg r),.pl (.list (c.map λa=>zax (upA W a)))],rfl,zuc (n:=2) (rs:=[⟨zak r.2,false,[]⟩,⟨.list (c.map λa=>zax (upA W a)),false,[]⟩]) rfl rfl (zww hc.len),λ_=>⟨⟨zbg r,false,[]⟩,rfl,rfl⟩⟩
 exact zgq (env:=[.pl (zdu W c.length rs),.pl (zat c),.no,.no,.no,.no]) rfl (zar rfl (zar (zafc (zbj (n:=3) (rs:=[⟨webD W,false,[]⟩,vi c.length,⟨zat c,false,[]⟩]) rfl rfl (zwv h hc.len hc.few hc.kinds))) (zar e5 (zhw (zde (own:=["rule"]) (fr:=[5]) (fi:=zaj (eVar 4)) (ds:=rs.map zbg) (bs:=[]) rfl (by rw[qD];omega) k)))))
theorem zafz(h:WebOk W){c:List Arm}(hr:RulesOk W rs)(hc:CallOk W c):zck [zdu W c.length rs,zat c]=some (zab ((fitL W rs c).map (·.1)),true):=
 zgq (env:=[.pl (zdu W c.length rs),.pl (zat c)]) rfl (zhw (zbj (n:=1) (rs:=[⟨zam (fitL W rs c),true,[]⟩]) (zel (zbj (n:=2) (rs:=[⟨zdu W c.length rs,false,[]⟩,⟨zat c,false,[]⟩]) rfl rfl (zid h hr hc))) rfl (zoe (hr.filter _).len)))
theorem zaga(h:WebOk W){c:List Arm}(hr:RulesOk W rs)(hc:CallOk W c):zcg [zdu W c.length rs,zat c]=some (zab ((zwx W (fitL W rs c)).map (·.1)),true):=by
 have e2:sSet 2 (zal 2 zcr (zaa (eVar 0) (zaa (eVar 1) aNil))) [.pl (zdu W c.length rs),.pl (zat c),.no]=some (.nx [.pl (zdu W c.length rs),.pl (zat c),.ac (zam (fitL W rs c))]):=
  zcc (r:=⟨zam (fitL W rs c),true,[]⟩) (zbj (n:=2) (rs:=[⟨zdu W c.length rs,false,[]⟩,⟨zat c,false,[]⟩]) rfl rfl (zid h hr hc))
 have e3:zal 1 zeb (zaa (eIxV 0 (eC (.int 0))) aNil) [.pl (zdu W c.length rs),.pl (zat c),.ac (zam (fitL W rs c))]=some ⟨.dict (dS zax (ups W)),true,[]⟩:=zbj (n:=1) (rs:=[⟨webD W,false,[]⟩]) rfl rfl (zrv h)
 have e4:zal 2 zfg (zaa (zal 1 zeb (zaa (eIxV 0 (eC (.int 0))) aNil)) (zaa (eVar 2) aNil)) [.pl (zdu W c.length rs),.pl (zat c),.ac (zam (fitL W rs c))]=some ⟨zam (zwx W (fitL W rs c)),true,[2]⟩:=zbj (n:=2) (rs:=[⟨.dict (dS zax (ups W)),true,[]⟩,⟨zam (fitL W rs c),false,[2]⟩]) (zcj e3 (zel rfl)) rfl (zwy h (hr.filter _))
 exact zgq (env:=[.pl (zdu W c.length rs),.pl (zat c),.no]) rfl (zar e2 (zhw (zbj (n:=1) (rs:=[⟨zam (zwx W (fitL W rs c)),true,[2]⟩]) (zel e4) rfl (zoe ((hr.filter _).filter _).len))))
noncomputable def Two(x:Str):Prop:=∃a b,∀c∈x.cps.toList,c=a\/c=b
theorem zqv{x:Str}(h:c∈(Txt.slice x l u).cps.toList):c∈x.cps.toList:=by
 unfold Txt.slice at h
 split at h
 ·exact h
 ·have h:c∈(List.filterMap (x.cps[·]?) (Builtin.Str.strSliceIndices l u 1 x.length)):=by simpa using h
  obtain⟨i,_,e⟩:=qBQ.mp h
  have:=qCl e
  simpa using this
theorem zakw{x y:List Str}(ha:a env=some ⟨zab x,f1,b1⟩)(hb:b env=some ⟨zab y,f2,b2⟩)(h:x.length+y.length<=100000):eOp addD a b env=some ⟨zab (x++y),true,b1++b2⟩:=by
 unfold eOp
 rw[ha,hb]
 show((if(x.map PyData.str).length+(y.map PyData.str).length<=100000 then some (PyData.list (x.map .str++y.map .str),true)else none).bind λz=>some (⟨z.1,z.2,bsOf z.1 (b1++b2)⟩:Val))=_
 rw[if_pos (by rw[qD,qD];exact h),<- qAL]
 rfl
theorem zajk{x y:List Str}(ha:a env=some ⟨zab x,f,bs⟩)(hl:l env=some lo)(hh:h env=some hi)(e:cutD (x.map .str) lo hi=y.map .str):eSl a l h env=some ⟨zab y,true,bs⟩:=by
 unfold eSl
 rw[ha,hl,hh]
 show(some (PyData.list (cutD (x.map .str) lo hi),true)).bind (λz=>some (⟨z.1,z.2,bsOf z.1 bs⟩:Val))=_
 rw[e]
 rfl
theorem zagb{stem:Str}(h:∃a,∀x∈stem.cps.toList,x=a)(hst:0<=st)(k:Nat):Two (zhs md o st stem at_ k):=by
 obtain⟨a,ha⟩:=h
 have l1:∀(z:Int)(x:Nat),x∈(ltr z).cps.toList->x=97+z.toNat:=λz x hx=>by unfold ltr at hx;simpa using hx
 unfold zhs
 split
 ·refine⟨a,97+((o+st * k) % 26).toNat,λx hx=>?_⟩
  rw[zhr,zhr]at hx
  rcases qV.mp hx with hx|hx
  ·rcases qV.mp hx with hx|hx
   ·exact .inl (ha x (zqv hx))
   ·exact .inr (l1 _ x hx)
  ·exact .inl (ha x (zqv hx))
 ·split
  ·refine⟨a,97+((o+st * k) % 26).toNat,λx hx=>?_⟩
   rw[zhr]at hx
   rcases qV.mp hx with hx|hx
   ·exact .inl (ha x (zqv hx))
   ·exact .inr (l1 _ x hx)
  ·refine⟨97+((o+(k:Int) / 8) % 26).toNat,0,λx hx=>.inl ?_⟩
   unfold ltr at hx
   have:=qt ((k:Int) * st) (show(8:Int)≠0 by decide)
   rw[zlz (by omega)]at hx
   exact qBX hx
noncomputable def zdj:List Str:=["none","rule","quarrel","near","far","out"]
theorem znk{x:Str}(h1:a∈x.cps.toList)(h2:b∈x.cps.toList)(h3:c∈x.cps.toList)(n1:a≠b)(n2:a≠c)(n3:b≠c):¬Two x:=by
 rintro⟨p,q,h⟩
 have:=h a h1
 have:=h b h2
 have:=h c h3
 omega
theorem zacf:∀x∈zdj,¬Two x:=by
 intro x hx
 unfold zdj at hx
 simp only[qP,qAF,or_false]at hx
 rcases hx with rfl|rfl|rfl|rfl|rfl|rfl
 ·exact znk (a:=110) (b:=111) (c:=101) (by decide +kernel) (by decide +kernel) (by decide +kernel) (by decide) (by decide) (by decide)
 ·exact znk (a:=114) (b:=117) (c:=108) (by decide +kernel) (by decide +kernel) (by decide +kernel) (by decide) (by decide) (by decide)
 ·exact znk (a:=113) (b:=117) (c:=97) (by decide +kernel) (by decide +kernel) (by decide +kernel) (by decide) (by decide) (by decide)
 ·exact znk (a:=110) (b:=101) (c:=97) (by decide +kernel) (by decide +kernel) (by decide +kernel) (by decide) (by decide) (by decide)
 ·exact znk (a:=102) (b:=97) (c:=114) (by decide +kernel) (by decide +kernel) (by decide +kernel) (by decide) (by decide) (by decide)
 ·exact znk (a:=111) (b:=117) (c:=116) (by decide +kernel) (by decide +kernel) (by decide +kernel) (by decide) (by decide) (by decide)
theorem zajl:zdj.Nodup:=by decide +kernel
theorem zagc:∀x∈zdj,Low x:=by
 intro x hx
 unfold zdj at hx
 simp only[qP,qAF,or_false]at hx
 unfold Low
 rcases hx with rfl|rfl|rfl|rfl|rfl|rfl<;>decide +kernel
theorem zagd(ds:List PyData)(k:Nat):cutD ds (some (k:Int)) none=ds.drop k:=by
 unfold cutD
 have e1:HT.sIx ds.length ds.length none=ds.length:=rfl
 rw[e1,HT.sIx_nat]
 rcases Nat.le_total k ds.length with h|h
 ·rw[Nat.min_eq_left h,List.take_of_length_le (by rw[qAl];exact qO _)]
 ·rw[Nat.min_eq_right h,qA0,List.drop_of_length_le h,List.take_nil]
theorem zage:∀x∈zdj,x.length<=20:=by decide +kernel
theorem zmg{m c:Int}(m0:0<=m)(m16:m<=16)(c0:0<=c):∃xs:List Str,zbn [.int m,.int c]=some (zab xs,true)/\xs.length=m.toNat/\xs.Nodup/\∀x∈xs,Low x/\x.length<=20:=by
 have md:∀(z j:Int),0<j->0<=z % j/\z % j<j:=λz j hj=>⟨qt z (by omega),qu z hj⟩
 have i8:=md (c / 3) 8 (by decide)
 obtain⟨st,hst,hmem⟩:=zann i8.1 i8.2
 have st0:0<=st/\st<100:=by
  simp only[qP,qBc,or_false]at hmem
  rcases hmem with rfl|rfl|rfl|rfl|rfl|rfl|rfl|rfl<;>decide
 have o26:=md (c / 24) 26 (by decide)
 have j26:=md (c / 624) 26 (by decide)
 have n8:=md (c / 16224) 8 (by decide)
 have lowS:Low (Txt.mul (ltr (c / 624 % 26)) (c / 16224 % 8)):=Low.mul (by omega) n8.1
 have lenS:(Txt.mul (ltr (c / 624 % 26)) (c / 16224 % 8)).length<=7:=by unfold ltr;rw[zafi n8.1];omega
 have s3:sSet 3 (eOp ixD (eTup (zaa (eC (.int 1)) (zaa (eC (.int 3)) (zaa (eC (.int 5)) (zaa (eC (.int 7)) (zaa (eC (.int 9)) (zaa (eC (.int 11)) (zaa (eC (.int 15)) (zaa (eC (.int 17)) aNil))))))))) (eOp modD (eOp zbk (eVar 1) (eC (.int 3))) (eC (.int 8)))) [.pl (.int m),.pl (.int c),.pl (.str abc),.no,.no,.no,.no,.no,.no,.no,.no,.no]=some (.nx [.pl (.int m),.pl (.int c),.pl (.str abc),.pl (.int st),.no,.no,.no,.no,.no,.no,.no,.no]):=by
  refine zcc (r:=vi st) ?_
  unfold eOp
  show((some (⟨.tuple [PyData.int 1,.int 3,.int 5,.int 7,.int 9,.int 11,.int 15,.int 17],false,[]⟩:Val)).bind λx=>((some (vi (c / 3 % 8))).bind λy=>(ixD x.d y.d).bind λz=>some (⟨z.1,z.2,bsOf z.1 (x.bs++y.bs)⟩:Val)))=_
  simp only[qB,ixD]
  rw[hst];rfl
 have s5:sSet 5 (eOp mulD (eIxV 2 (eOp modD (eOp zbk (eVar 1) (eC (.int 624))) (eC (.int 26)))) (eOp modD (eOp zbk (eVar 1) (eC (.int 16224))) (eC (.int 8)))) [.pl (.int m),.pl (.int c),.pl (.str abc),.pl (.int st),.pl (.int (c / 24 % 26)),.no,.no,.no,.no,.no,.no,.no] =
   some (.nx [.pl (.int m),.pl (.int c),.pl (.str abc),.pl (.int st),.pl (.int (c / 24 % 26)),.pl (.str (Txt.mul (ltr (c / 624 % 26)) (c / 16224 % 8))),.no,.no,.no,.no,.no,.no]):=
  zcc (r:=vs _) (zakt (zanm rfl rfl j26.1 j26.2) rfl ⟨by show 1<=1000;decide,by omega,by omega⟩)
 have oneS:∃a,∀x∈(Txt.mul (ltr (c / 624 % 26)) (c / 16224 % 8)).cps.toList,x=a:=⟨_,λx hx=>by
  unfold ltr at hx
  rw[zlz n8.1]at hx
  exact qBX hx⟩
 generalize hO:c / 24 % 26=o at o26 s5
 generalize Txt.mul (ltr (c / 624 % 26)) (c / 16224 % 8)=stem at lowS lenS s5 oneS
 clear j26 n8 i8
 have s6:∃at_:Int,sSet 6 (eOp modD (eOp zbk (eVar 1) (eC (.int 129792))) (eOp addD (eCB lenD (zaa (eVar 5) aNil)) (eC (.int 1)))) [.pl (.int m),.pl (.int c),.pl (.str abc),.pl (.int st),.pl (.int o),.pl (.str stem),.no,.no,.no,.no,.no,.no]=some (.nx [.pl (.int m),.pl (.int c),.pl (.str abc),.pl (.int st),.pl (.int o),.pl (.str stem),.pl (.int at_),.no,.no,.no,.no,.no]):=
  ⟨_,zcc (r:=vi _) (zep rfl (zoi (zaku rfl (by omega)) rfl) (by omega))⟩
 obtain⟨at_,s6⟩:=s6
 have loop:∃env',forL (gN 8) (sSeq (sSet 9 (eIxV 2 (eOp modD (eOp addD (eVar 4) (eOp mulD (eVar 3) (eVar 8))) (eC (.int 26)))))
  (sIf (zbr (eOp eqD (eOp modD (eVar 1) (eC (.int 3))) (eC (.int 0)))) (sApp 7 (eOp addD (eOp addD (eSl (eVar 5) zfk (zca (eVar 6))) (eVar 9)) (eSl (eVar 5) (zca (eVar 6)) zfk))) (sIf (zbr (eOp eqD (eOp modD (eVar 1) (eC (.int 3))) (eC (.int 1)))) (sApp 7 (eOp addD (eSl (eVar 5) zfk (zca (eOp modD (eOp mulD (eVar 8) (eVar 3)) (eOp addD (eCB lenD (zaa (eVar 5) aNil)) (eC (.int 1)))))) (eVar 9))) (sApp 7 (eOp mulD (eIxV 2 (eOp modD (eOp addD (eVar 4) (eOp zbk (eVar 8) (eC (.int 8)))) (eC (.int 26)))) (eOp addD (eC (.int 1)) (eOp modD (eOp mulD (eVar 8) (eVar 3)) (eC (.int 8)))))))))
   ((List.range m.toNat).map λ(k:Nat)=>PyData.int (k:Int)) [.pl (.int m),.pl (.int c),.pl (.str abc),.pl (.int st),.pl (.int o),.pl (.str stem),.pl (.int at_),.ac (.list []),.no,.no,.no,.no]=some (.nx env')/\
   ∃s8 s9,env'=[.pl (.int m),.pl (.int c),.pl (.str abc),.pl (.int st),.pl (.int o),.pl (.str stem),.pl (.int at_),.ac (zab ((List.range m.toNat).map (zhs (c % 3) o st stem at_))),s8,s9,.no,.no]:=by
  refine zek (λpre env=>∃s8 s9,env=[.pl (.int m),.pl (.int c),.pl (.str abc),.pl (.int st),.pl (.int o),.pl (.str stem),.pl (.int at_),.ac (zab (pre.map (zhs (c % 3) o st stem at_))),s8,s9,.no,.no]) ⟨_,_,rfl⟩ ?_
  rintro pre k post env hk ⟨s8,s9,rfl⟩
  have hkm:k<m.toNat:=qAW.mp (by rw[<- hk];simp)
  have hpl:pre.length<100:=by
   have:=congrArg List.length hk
   simp at this
   omega
  have b1:0<=st * (k:Int):=qCZ st0.1 (Int.natCast_nonneg _)
  have s26:=md (o+st * (k:Int)) 26 (by decide)
  have sl:∀a b,(Txt.slice stem a b).length<=7:=λa b=>qAS (Txt.slice_le stem a b) lenS
  have lz:stem.length<=100000:=qAS lenS (by decide)
  have l1:(ltr ((o+st * (k:Int)) % 26)).length=1:=rfl
  refine⟨_,[.pl (.int m),.pl (.int c),.pl (.str abc),.pl (.int st),.pl (.int o),.pl (.str stem),.pl (.int at_),.ac (zab ((pre++[k]).map (zhs (c % 3) o st stem at_))),.pl (.int (k:Int)),.pl (.str (ltr ((o+st * (k:Int)) % 26))),.no,.no],rfl,.inl ?_,_,_,rfl⟩
  refine zar (zcc (r:=vs _) (zanm rfl (zep (zoi rfl (zajd rfl rfl (.inl ⟨by omega,by omega⟩))) rfl (by decide)) s26.1 s26.2)) ?_
  have fin:∀x:Str,x=zhs (c % 3) o st stem at_ k->(PyData.list ((pre.map (zhs (c % 3) o st stem at_)).map PyData.str++[.str x]))=zab ((pre++[k]).map (zhs (c % 3) o st stem at_)):=λx e=>by
   unfold zab
   rw[qAL,qAL,e];rfl
  have lp:((pre.map (zhs (c % 3) o st stem at_)).map PyData.str).length<100000:=by rw[qD,qD];exact qBS hpl (by decide)
  by_cases h0:c % 3=0
  ·refine if_t (zgj (by rw[ztj (zep rfl rfl (by decide)) rfl];rw[h0];rfl)) ?_
   have z1:=sl none (some at_)
   have z2:=sl (some at_) none
   refine(znq rfl (zafo (zafo (zanj rfl rfl (zma rfl) lz) rfl (by omega)) (zanj rfl (zma rfl) rfl lz) (by rw[ztk];omega)) lp).trans ?_
   rw[fin _ (by unfold zhs;rw[if_pos h0])];rfl
  ·refine if_f (zgj (by rw[ztj (zep rfl rfl (by decide)) rfl];rw[beq_eq_false_iff_ne.mpr h0])) ?_
   by_cases h1:c % 3=1
   ·refine if_t (zgj (by rw[ztj (zep rfl rfl (by decide)) rfl];rw[h1];rfl)) ?_
    have z1:=sl none (some ((k:Int) * st % ((stem.length:Int)+1)))
    refine(znq rfl (zafo (zanj rfl rfl (zma (zep (zajd rfl rfl (.inr ⟨by omega,by omega⟩)) (zoi (zaku rfl lz) rfl) (by omega))) lz) rfl (by omega)) lp).trans ?_
    rw[fin _ (by unfold zhs;rw[if_neg h0,if_pos h1])];rfl
   ·refine if_f (zgj (by rw[ztj (zep rfl rfl (by decide)) rfl];rw[beq_eq_false_iff_ne.mpr h1])) ?_
    have t26:=md (o+(k:Int) / 8) 26 (by decide)
    have u8:=md ((k:Int) * st) 8 (by decide)
    refine(znq rfl (zakt (zanm rfl (zep (zoi rfl (zgv rfl rfl (by decide) (by decide))) rfl (by decide)) t26.1 t26.2) (zoi rfl (zep (zajd rfl rfl (.inr ⟨by omega,by omega⟩)) rfl (by decide))) ⟨by show 1<=1000;decide,by omega,by omega⟩) lp).trans ?_
    rw[fin _ (by unfold zhs;rw[if_neg h0,if_neg h1])];rfl
 obtain⟨env',hl,s8,s9,rfl⟩:=loop
 generalize hN:(List.range m.toNat).map (zhs (c % 3) o st stem at_)=xs at hl
 have lx:xs.length=m.toNat:=by rw[<- hN];simp
 have nx:xs.Nodup:=by rw[<- hN];exact zpx λa b ha hb e=>zafm hmem o26.1 (by omega) (by omega) e
 have lo:∀x∈xs,Low x/\x.length<=20:=λx hx=>by
  rw[<- hN]at hx
  obtain⟨j,_,rfl⟩:=qg.mp hx
  refine⟨zafn lowS o26.1 st0.1 j,?_⟩
  have sl:∀a b,(Txt.slice stem a b).length<=7:=λa b=>qAS (Txt.slice_le stem a b) lenS
  have l1:∀i,(ltr i).length=1:=λ_=>rfl
  unfold zhs
  split
  ·rw[ztk,ztk,l1]
   have h1:=sl none (some at_);have h2:=sl (some at_) none
   omega
  ·split
   ·rw[ztk,l1]
    have h1:=sl none (some ((j:Int) * st % ((stem.length:Int)+1)))
    omega
   ·have u8:=md ((j:Int) * st) 8 (by decide)
    unfold ltr
    rw[zafi (by omega)]
    omega
 have tw:∀x∈xs,Two x:=λx hx=>by
  rw[<- hN]at hx
  obtain⟨j,_,rfl⟩:=qg.mp hx
  exact zagb oneS st0.1 j
 have it:zdw (zaa (eVar 0) aNil) [.pl (.int m),.pl (.int c),.pl (.str abc),.pl (.int st),.pl (.int o),.pl (.str stem),.pl (.int at_),.ac (.list []),.no,.no,.no,.no]=some ((List.range m.toNat).map λ(k:Nat)=>PyData.int (k:Int),[]):=by
  unfold zdw
  rw[zel (r:=vi m) rfl]
  simp only[qB]
  rw[if_pos ⟨by omega,by omega⟩,zmb]
 have run:∀o',(sSeq (sIf (zbr (eOp eqD (eOp modD (eOp zbk (eVar 1) (eC (.int 1038336))) (eC (.int 6))) (eC (.int 5)))) (sSeq (sSet 10 (eLst (zaa (eC (.str "none")) (zaa (eC (.str "rule")) (zaa (eC (.str "quarrel")) (zaa (eC (.str "near")) (zaa (eC (.str "far")) (zaa (eC (.str "out")) aNil))))))))
  (sSeq (sSet 11 (eOp modD (eOp zbk (eVar 1) (eC (.int 6230016))) (eC (.int 6))))
  (sSet 7 (eSl (eOp addD (eOp addD (eSl (eVar 10) (zca (eVar 11)) zfk) (eSl (eVar 10) zfk (zca (eVar 11)))) (eSl (eVar 7) (zca (eC (.int 6))) zfk)) zfk (zca (eVar 0)))))) sNil)
  (zqz 7)) [.pl (.int m),.pl (.int c),.pl (.str abc),.pl (.int st),.pl (.int o),.pl (.str stem),.pl (.int at_),.ac (zab xs),s8,s9,.no,.no]=o'->(zgk [.pl (.int m),.pl (.int c),.no,.no,.no,.no,.no,.no,.no,.no,.no,.no]=o'):=λo' e=>
  zar rfl (zar s3 (zar (e1:=[.pl (.int m),.pl (.int c),.pl (.str abc),.pl (.int st),.pl (.int o),.no,.no,.no,.no,.no,.no,.no]) (by rw[<- hO];rfl) (zar s5 (zar s6 (zar rfl (zar (zir it hl) e))))))
 have t1:zbr (eOp eqD (eOp modD (eOp zbk (eVar 1) (eC (.int 1038336))) (eC (.int 6))) (eC (.int 5))) [.pl (.int m),.pl (.int c),.pl (.str abc),.pl (.int st),.pl (.int o),.pl (.str stem),.pl (.int at_),.ac (zab xs),s8,s9,.no,.no]=some (c / 1038336 % 6==5):=zgj (ztj (zep (zgv rfl rfl (by decide) (by decide)) rfl (by decide)) rfl)
 cases hb:(c / 1038336 % 6==5)with
 | false=>
  rw[hb]at t1
  exact⟨xs,zgq (env:=[.pl (.int m),.pl (.int c),.no,.no,.no,.no,.no,.no,.no,.no,.no,.no]) rfl (run _ (zar (if_f t1 rfl) rfl)),lx,nx,lo⟩
 | true=>
  rw[hb]at t1
  have m6:=md (c / 6230016) 6 (by decide)
  obtain⟨q,hq,q6⟩:∃q:Nat,c / 6230016 % 6=(q:Int)/\q<=6:=⟨(c / 6230016 % 6).toNat,by omega,by omega⟩
  have e11:sSet 11 (eOp modD (eOp zbk (eVar 1) (eC (.int 6230016))) (eC (.int 6))) [.pl (.int m),.pl (.int c),.pl (.str abc),.pl (.int st),.pl (.int o),.pl (.str stem),.pl (.int at_),.ac (zab xs),s8,s9,.ac (zab zdj),.no]=some (.nx [.pl (.int m),.pl (.int c),.pl (.str abc),.pl (.int st),.pl (.int o),.pl (.str stem),.pl (.int at_),.ac (zab xs),s8,s9,.ac (zab zdj),.pl (.int (q:Int))]):=by
   rw[<- hq]
   exact zcc (r:=vi _) (zep (zgv rfl rfl (by decide) (by decide)) rfl (by decide))
  have cutW1:cutD (zdj.map .str) (some (q:Int)) none=(zdj.drop q).map .str:=by rw[zagd,qCb]
  have cutW2:cutD (zdj.map .str) none (some (q:Int))=(zdj.take q).map .str:=by rw[zyj _ _ (by simpa [zdj]using q6),qBY]
  have cutX:cutD (xs.map .str) (some ((6:Nat):Int)) none=(xs.drop 6).map .str:=by rw[zagd,qCb]
  have lW:(zdj.drop q++zdj.take q).length=6:=by rw[qJ,qAl,qAk];show 6 - q+min q 6=6;omega
  have lR:((zdj.drop q++zdj.take q)++xs.drop 6).length>=m.toNat:=by rw[qJ,lW,qAl,lx];omega
  have cutM:cutD (((zdj.drop q++zdj.take q)++xs.drop 6).map .str) none (some (m.toNat:Int))=(((zdj.drop q++zdj.take q)++xs.drop 6).take m.toNat).map .str:=by rw[zyj _ _ (by rw[qD];exact lR),qBY]
  have hm:(m.toNat:Int)=m:=by omega
  rw[hm]at cutM
  have wl:(zdj.drop q).length+(zdj.take q).length<=100000:=by rw[<- qJ,lW];decide
  have a12:eOp addD (eSl (eVar 10) (zca (eVar 11)) zfk) (eSl (eVar 10) zfk (zca (eVar 11))) [.pl (.int m),.pl (.int c),.pl (.str abc),.pl (.int st),.pl (.int o),.pl (.str stem),.pl (.int at_),.ac (zab xs),s8,s9,.ac (zab zdj),.pl (.int (q:Int))]=some ⟨zab (zdj.drop q++zdj.take q),true,[10]++[10]⟩:=
   zakw (zajk (x:=zdj) (f:=false) (bs:=[10]) rfl (zma (i:=(q:Int)) rfl) rfl cutW1) (zajk (x:=zdj) (f:=false) (bs:=[10]) rfl rfl (zma (i:=(q:Int)) rfl) cutW2) wl
  have a3:eSl (eVar 7) (zca (eC (.int 6))) zfk [.pl (.int m),.pl (.int c),.pl (.str abc),.pl (.int st),.pl (.int o),.pl (.str stem),.pl (.int at_),.ac (zab xs),s8,s9,.ac (zab zdj),.pl (.int (q:Int))]=some ⟨zab (xs.drop 6),true,[7]⟩:=zajk (x:=xs) (f:=false) (bs:=[7]) rfl (zma (i:=((6:Nat):Int)) rfl) rfl cutX
  have a4:=zajk (l:=zfk) (h:=zca (eVar 0)) (zakw a12 a3 (by rw[lW,qAl,lx];omega)) rfl (zma (i:=m) rfl) cutM
  refine⟨((zdj.drop q++zdj.take q)++xs.drop 6).take m.toNat,zgq (env:=[.pl (.int m),.pl (.int c),.no,.no,.no,.no,.no,.no,.no,.no,.no,.no]) rfl (run _ (zar (if_t t1 (zar rfl (zar e11 (zcc a4)))) rfl)),by rw[qAk];omega,?_,λx hx=>?_⟩
  ·refine List.Nodup.sublist (qBz _ _) ?_
   have pw:(zdj.drop q++zdj.take q).Perm zdj:=by
    have:=List.perm_append_comm (l₁:=zdj.drop q) (l₂:=zdj.take q)
    rwa [List.take_append_drop]at this
   refine qAT.mpr ⟨pw.nodup_iff.mpr zajl,nx.sublist (List.drop_sublist _ _),λa ha b hb e=>?_⟩
   subst e
   exact zacf a (pw.mem_iff.mp ha) (tw a (qAx hb))
  ·rcases qV.mp (qAw hx)with z|z
   ·have hw:x∈zdj:=?_
    exact⟨zagc x hw,zage x hw⟩
    rcases qV.mp z with z|z
    ·exact qAx z
    ·exact qAw z
   ·exact lo x (qAx z)
theorem zwz{α:Type}(enc:α->PyData)(l:List α):zmq (l.map enc)=((List.range l.length).zip l).map λz=>PyData.tuple [.int (z.1:Nat),enc z.2]:=by
 rw[zaaq]
 have:∀(l:List α)(k:Nat),(l.zipIdx k).map (λ(p:α×Nat)=>PyData.tuple [.int (p.2:Int),enc p.1])=(((List.range l.length).map (·+k)).zip l).map λz=>PyData.tuple [.int (z.1:Nat),enc z.2]:=by
  intro l
  induction l with
  | nil=>intro k;rfl
  | cons x l ih=>
   intro k
   rw[qB7,qM,ih,qAe,qCi,qM,qA2,qM,qBm]
   congr 3
   rw[qAZ]
   refine qBJ λj _=>?_
   show j+(k+1)=j+1+k
   omega
 rw[this l 0]
 simp
theorem zsi(h:WebOk W){ks:List Str}{c:List Arm}(hc:CallOk W c)(hl:ks.length<=c.length):zcd [.dict (dS zab (ups W)),zak ks,zat c]=some (.bool (fitB W ks c),false):=by
 have it:zrp (zaa (eVar 1) aNil) [.pl (.dict (dS zab (ups W))),.pl (zak ks),.pl (zat c),.no,.no]=some (((List.range ks.length).zip ks).map λz=>PyData.tuple [.int (z.1:Nat),.str z.2],[]):=by
  show some (zmq (ks.map .str),[])=_
  rw[zwz]
 have key:=zvp (enc:=λz:Nat×Str=>PyData.tuple [.int (z.1:Nat),.str z.2]) (g:=gT 2 (zag 3 (zag 4 zbw))) (body:=sIf (zeg (tTru (eCB (anyD λbs=>bs.any id) (zaa (zbx ["_law_name"] [0,4] (zaj (zal 1 zbe (zaa (eIxV 2 (eVar 3)) aNil))) (gN 0) zbf (eOp (inD false) (eVar 2) (zcs 1 (eVar 0)))) aNil)))) (sRet (eC (.bool false))) sNil)
  (λz=>(c[z.1]?).elim false λa=>decide (z.2∈upA W a)) (.bool false) false (λenv=>∃s3 s4,env=[.pl (.dict (dS zab (ups W))),.pl (zak ks),.pl (zat c),s3,s4]) ((List.range ks.length).zip ks) [.pl (.dict (dS zab (ups W))),.pl (zak ks),.pl (zat c),.no,.no] ⟨_,_,rfl⟩ (by
   rintro⟨i,k⟩ hz env ⟨s3,s4,rfl⟩
   have hi:i<c.length:=by
    have:=qAW.mp (qA9 hz).1
    omega
   have ha:c[i]∈c:=qAP _
   refine⟨[.pl (.dict (dS zab (ups W))),.pl (zak ks),.pl (zat c),.pl (.int (i:Nat)),.pl (.str k)],rfl,?_⟩
   have ix:eIxV 2 (eVar 3) [.pl (.dict (dS zab (ups W))),.pl (zak ks),.pl (zat c),.pl (.int (i:Nat)),.pl (.str k)]=some ⟨armD c[i],false,[]⟩:=by
    show((ixD (.tuple (c.map armD)) (.int (i:Nat))).bind λz=>some (⟨z.1,z.2,bsOf z.1 ([]++[])⟩:Val))=_
    simp only[ixD]
    rw[zki (v:=armD c[i]) (by rw[qS,qL hi];rfl)]
    simp only[qAo,qB]
    cases c[i]<;>rfl
   have itp:zaj (zal 1 zbe (zaa (eIxV 2 (eVar 3)) aNil)) [.pl (.dict (dS zab (ups W))),.pl (zak ks),.pl (zat c),.pl (.int (i:Nat)),.pl (.str k)]=some (c[i].parts.map .str,[]):=by
    unfold zaj
    rw[zbj (n:=1) (rs:=[⟨armD c[i],false,[]⟩]) (zel ix) rfl (zfd c[i])]
    rfl
   have k2:zda (gN 0) zbf (eOp (inD false) (eVar 2) (zcs 1 (eVar 0))) [.no,.pl (.dict (dS zab (ups W))),.pl (.str k)] (c[i].parts.map .str)=some (c[i].parts.map λn=>.bool (decide (k∈up W n))):=
    zby λn hn=>⟨[.pl (.str n),.pl (.dict (dS zab (ups W))),.pl (.str k)],rfl,rfl,vb (decide (k∈up W n)),e_in (neg:=false) (fr:=false) (bs:=[]) rfl (zafs (d:=zab (up W n)) (.inl rfl) rfl (by rw[zks,zjt (hc.kinds _ ha n hn)];rfl)),rfl⟩
   have t:=zaft (zajj (f:=λn:Str=>decide (k∈up W n)) (zde (own:=["_law_name"]) (fr:=[0,4]) itp (by rw[qD];have:=hc.few _ ha;omega) k2))
   have ev:(c[i].parts.any λn=>decide (k∈up W n))=decide (k∈upA W c[i]):=by
    rw[qAd,qAr,decide_eq_true_iff,zua]
    exact⟨λ⟨n,h1,h2⟩=>⟨n,h1,of_decide_eq_true h2⟩,λ⟨n,h1,h2⟩=>⟨n,h1,decide_eq_true h2⟩⟩
   rw[ev]at t
   have pe:((c[i]?).elim false λa=>decide (k∈upA W a))=decide (k∈upA W c[i]):=by rw[qL hi];rfl
   constructor
   ·intro hp
    have hp:((c[i]?).elim false λa=>decide (k∈upA W a))=true:=hp
    rw[pe]at hp
    rw[hp]at t
    exact⟨_,if_f t rfl,_,_,rfl⟩
   ·intro hp
    have hp:((c[i]?).elim false λa=>decide (k∈upA W a))=false:=hp
    rw[pe]at hp
    rw[hp]at t
    exact if_t t rfl)
 have same:(((List.range ks.length).zip ks).all λz=>(c[z.1]?).elim false λa=>decide (z.2∈upA W a))=fitB W ks c:=by
  have gen:∀(ks:List Str)(c:List Arm)(m:Nat)(cc:List Arm),ks.length<=c.length->(∀j,cc[m+j]?=c[j]?)->((((List.range ks.length).map (·+m)).zip ks).all λz=>(cc[z.1]?).elim false λa=>decide (z.2∈upA W a))=fitB W ks c:=by
   intro ks
   induction ks with
   | nil=>intro c m cc _ _;rfl
   | cons k ks ih=>
    intro c m cc hle hcc
    cases c with
    | nil=>simp at hle
    | cons a c=>
     have h0:=hcc 0
     rw[Nat.add_zero]at h0
     have r:=ih c (m+1) cc (by simpa using hle) λj=>by
      have:=hcc (j+1)
      rw[qAD]at this
      rw[<- this]
      congr 1
      omega
     unfold fitB at r ⊢
     rw[qAe,qCi,qM,qA2,qAn,qA2,qAn,<- r,qBm,h0]
     congr 1
     rw[qAZ]
     congr 2
     refine qBJ λj _=>?_
     show j+1+m=j+(m+1)
     omega
  have:=gen ks c 0 c hl λj=>by rw[qBm]
  simpa using this
 rw[same]at key
 cases hb:fitB W ks c with
 | true=>
  obtain⟨env',lp,s3,s4,rfl⟩:=key.1 hb
  exact zgq (env:=[.pl (.dict (dS zab (ups W))),.pl (zak ks),.pl (zat c),.no,.no]) rfl (zar (zir it lp) rfl)
 | false=>exact zgq (env:=[.pl (.dict (dS zab (ups W))),.pl (zak ks),.pl (zat c),.no,.no]) rfl (zaql (zir it (key.2 hb)))
theorem zanp{ds:List PyData}(he:env[i]?=some (.ac (.list ds)))(hf:f env=some ⟨d,fr,bs⟩)(hl:ds.length<100000)(hi:i∉bs):sApp i f env=some (.nx ((frzs env bs).set i (.ac (.list (ds++[d]))))):=by
 unfold sApp
 rw[he,hf]
 show(if ds.length<100000/\i∉bs then _ else _)=_
 rw[if_pos ⟨hl,hi⟩]
theorem zanq(ha:a env=some (vi i))(hb:b env=some (vi j)):eOp gtD a b env=some (vb (decide (j<i))):=by
 unfold eOp;rw[ha,hb];rfl
theorem b64:-(2 ^ 64)<(4:Int)/\(4:Int)<2 ^ 64:=by omega
structure CallIn(xs:List Str)(c:List Arm):Prop where
 kinds:∀a∈c,∀n∈a.parts,n∈xs
 few:∀a∈c,a.parts.length<=4
 some:∀a∈c,a.parts≠[]
theorem CallIn.snoc{a:Arm}(h:CallIn xs c)(h1:∀n∈a.parts,n∈xs)(h2:a.parts.length<=4)(h3:a.parts≠[]):CallIn xs (c++[a]):=by
 refine⟨λb hb=>?_,λb hb=>?_,λb hb=>?_⟩<;>rcases qV.mp hb with z|z
 ·exact h.kinds b z
 ·rw[qf.mp z];exact h1
 ·exact h.few b z
 ·rw[qf.mp z];exact h2
 ·exact h.some b z
 ·rw[qf.mp z];exact h3
section
variable{A0 A2 A6 s8 s9:Sl}{ds:List PyData}{xs:List Str}{r:Int}{n at_:Nat}
theorem zanr{env:DEnv}{b:EF}{j:Nat}{i:Int}(h1:env[1]?=some (.pl (zab xs)))(hb:b env=some (vi i))(hi:i=(j:Int))(hj:j<xs.length):eIxV 1 b env=some (vs xs[j]):=by
 subst hi
 exact zabr (ds:=xs.map .str) h1 hb (by rw[qS,qL hj];rfl)
end
noncomputable def Hd(d:PyData)(s:Sl):Prop:=s=.pl d\/s=.ac d
theorem e_hd(h:env[i]?=some s)(hs:Hd d s):∃bs,eVar i env=some ⟨d,false,bs⟩:=by
 unfold eVar
 rw[h]
 rcases hs with rfl|rfl
 ·exact⟨_,rfl⟩
 ·exact⟨_,rfl⟩
theorem zxa:∀(l:List (List Str)),(∀ks∈l,LowS ks)->qm (l.map zak)=true/\qa (l.map zak)<=1
 | [],_=>⟨rfl,by simp[qa]⟩
 | ks::l,h=>by
  obtain⟨h1,h2⟩:=zxa l λx hx=>h x (qQ _ hx)
  obtain⟨g1,g2⟩:=zmc ks (h ks qb)
  constructor
  ·rw[qM]
   simp only[qm,zak,PyData.canLay0,qAO]
   exact⟨g1,h1⟩
  ·rw[qM]
   simp only[qa,zak,PyData.depth]
   rw[g2]
   have:qa (l.map λks=>PyData.tuple (ks.map .str))<=1:=h2
   omega
theorem zzc{l:List (List Str)}(h:∀ks∈l,LowS ks):qAA (.list (l.map zak))=true:=by
 obtain⟨h1,h2⟩:=zxa l h
 unfold qAA
 rw[qAO]
 refine⟨by simpa [PyData.canLay0]using h1,decide_eq_true ?_⟩
 simp only[PyData.depth]
 omega
theorem zagf(l:List (List Str))(ks:List Str):((l.map zak).any λe=>qAH e (zak ks))=decide (ks∈l):=by
 rw[qBj,qAd,qAr,decide_eq_true_iff]
 have e:∀a b:List Str,qAH (zak a) (zak b)=(a==b):=λa b=>by
  unfold zak
  simp only[qAH]
  exact zub a b
 constructor
 ·rintro⟨y,hy,h⟩
  have h:qAH (zak y) (zak ks)=true:=h
  rw[e,beq_iff_eq]at h
  rw[<- h];exact hy
 ·intro h
  refine⟨ks,h,?_⟩
  show qAH (zak ks) (zak ks)=true
  rw[e];exact beq_self_eq_true _
theorem zans{l:List (List Str)}(h:∀x∈l,LowS x)(hk:LowS ks):inS neg (zak ks) (.list (l.map zak))=some (.bool (if neg then !decide (ks∈l)else decide (ks∈l)),false):=by
 unfold inS
 simp only[zfp]
 rw[if_pos ⟨zji hk,zzc h⟩,zagf]
theorem zzd(lo:∀x∈nm W,Low x)(h:∀k∈ks,k∈nm W):LowS ks:=λk hk=>zly (lo k (h k hk))
structure MadeOk(W:Web)(p:Nat)(ts:List Str)(rs:List (Str×List Str)):Prop where
 kinds:∀r∈rs,∀k∈r.2,k∈nm W
 size:∀r∈rs,r.2.length=p
 unl:(rs.map (·.2)).Nodup
 sub:(rs.map (·.1)).Sublist ts
noncomputable def geB(W:Web)(a b:List Str):Bool:=(a.zip b).all λz=>decide (z.2∈up W z.1)
theorem zajm:zhv W a b=(!(a==b)&&geB W a b):=rfl
noncomputable abbrev Rule:=Str×List Str
structure OrdOk(W:Web)(p:Nat)(S:List Rule):Prop where
 kinds:∀r∈S,∀k∈r.2,k∈nm W
 size:∀r∈S,r.2.length=p
theorem OrdOk.filter{S:List Rule}(h:OrdOk W p S)(f:Rule->Bool):OrdOk W p (S.filter f):=
 ⟨λr hr=>h.kinds r (qAK.mp hr).1,λr hr=>h.size r (qAK.mp hr).1⟩
noncomputable abbrev nms(S:List Rule):List Str:=S.map (·.1)
theorem zxb:∀(l:List Rule),(∀r∈l,qAJ r.1=true/\LowS r.2)->qm (l.map zbg)=true/\qa (l.map zbg)<=2
 | [],_=>⟨rfl,qAU _⟩
 | p::r,h=>by
  obtain⟨h1,h2⟩:=zxb r λq hq=>h q (qQ _ hq)
  obtain⟨g1,g2⟩:=h p qb
  obtain⟨l1,l2⟩:=zmc p.2 g2
  rw[qM]
  constructor
  ·show((qAJ p.1&&(qm (p.2.map .str)&&true))&&qm (r.map zbg))=true
   rw[g1,l1,h1];rfl
  ·show max (max 0 (max (qa (p.2.map .str)+1) 0)+1) (qa (r.map zbg))<=2
   rw[l2]
   omega
theorem zagg(a:List Str):zat (a.map Arm.one)=zak a:=by
 unfold zat zak
 rw[qAZ]
 rfl
theorem zaaw:∀(a b:List Str),fitB W b (a.map Arm.one)=geB W a b
 | [],b=>by unfold fitB geB;simp
 | x::a,[]=>by unfold fitB geB;simp
 | x::a,y::b=>by
  have ih:=zaaw (W:=W) a b
  unfold fitB geB at ih ⊢
  rw[qM,qA2,qA2,qAn,qAn,ih]
  congr 1
  rw[decide_eq_decide,zua]
  show(∃n∈[x],y∈up W n)↔y∈up W x
  simp
theorem zajn(s:qAA d=true):eqD d d=some (.bool true,false):=by
 unfold eqD eqOk
 rw[s,qCf,qCp,if_pos rfl,qCD _ (qAV s)]
theorem zajo(s:qAA d=true):neD d d=some (.bool false,false):=by
 unfold neD eqOk
 rw[s,qCf,qCp,if_pos rfl,qCD _ (qAV s)]
 rfl
theorem zaqt(ha:a env=some ⟨d,f1,b1⟩)(hb:b env=some ⟨d,f2,b2⟩)(s:qAA d=true):zbr (eOp neD a b) env=some false:=by
 refine zgj ?_
 unfold eOp;rw[ha,hb]
 simp only[qB]
 rw[zajo s];rfl
theorem zasf(ha:a env=some ⟨d,f1,b1⟩)(hb:b env=some ⟨d,f2,b2⟩)(s:qAA d=true):eOp eqD a b env=some (vb true):=by
 unfold eOp;rw[ha,hb]
 simp only[qB]
 rw[zajn s];rfl
theorem zze(h:WebOk W)(lo:∀x∈nm W,Low x)(lr:∀r∈rs,qAJ r.1=true/\LowS r.2):qAA (zdu W p rs)=true:=by
 obtain⟨w1,w2⟩:=zaar W (zano h lo)
 obtain⟨r1,r2⟩:=zxb rs lr
 unfold qAA zdu
 rw[qAO]
 refine⟨?_,decide_eq_true ?_⟩
 ·show(qm (W.map rowD)&&(true&&(qm (rs.map zbg)&&true)))=true
  rw[w1,r1];rfl
 ·show max (qa (W.map rowD)+1) (max 0 (max (qa (rs.map zbg)+1) 0))+1<=64
  omega
noncomputable def shN(k:Nat)(d:PyData):Prop:=PyData.canLay0 d=true/\PyData.depth d<=k
theorem zagh:∀{ds:List PyData},(∀d∈ds,shN k d)->qm ds=true/\qa ds<=k
 | [],_=>⟨by unfold qm;rfl,by unfold qa;omega⟩
 | d::ds,h=>by
  obtain⟨h1,h2⟩:=h d (by simp)
  obtain⟨h3,h4⟩:=zagh λx hx=>h x (qQ _ hx)
  unfold qm qa
  exact⟨by rw[h1,h3];rfl,by omega⟩
theorem zasq(h:∀d∈ds,shN k d):shN (k+1) (.tuple ds):=by
 obtain⟨h1,h2⟩:=zagh h
 unfold shN PyData.canLay0 PyData.depth
 exact⟨h1,by omega⟩
theorem zaqu(h:∀d∈ds,shN k d):shN (k+1) (.list ds):=by
 obtain⟨h1,h2⟩:=zagh h
 unfold shN PyData.canLay0 PyData.depth
 exact⟨h1,by omega⟩
theorem zaqv(h:qAJ x=true):shN k (.str x):=by unfold shN PyData.canLay0 PyData.depth;exact⟨h,by omega⟩
theorem zagi(h:shN k d)(hk:k<=64):qAA d=true:=by
 unfold qAA
 rw[h.1,decide_eq_true (qAS h.2 hk)];rfl
theorem zant{xs:List Str}(h:LowS xs):∀d∈xs.map PyData.str,shN k d:=λd hd=>by
 obtain⟨x,hx,rfl⟩:=qg.mp hd
 exact zaqv (h x hx)
theorem zaqw(d:PyData):bsOf d []=[]:=by unfold bsOf;split<;>rfl
theorem zaqx{k n:Nat}{b:EF}{env:DEnv}{ds:List PyData}{d:PyData}(he:env[k]?=some (.pl (.tuple ds)))(hb:b env=some (vi (n:Int)))(hd:ds[n]?=some d):eIxV k b env=some ⟨d,false,[]⟩:=by
 unfold eIxV
 rw[he]
 unfold eOp eVar
 rw[he]
 simp only[qB,hb]
 show((atI ds (n:Int)).map λd=>(d,false)).bind _=_
 rw[zki hd]
 show some (⟨d,false,bsOf d ([]++[])⟩:Val)=_
 rw[qr,zaqw]
theorem zakx{xs:List Str}(he:env[k]?=some s)(hs:s=.pl (zab xs)\/s=.ac (zab xs)):eCB lenD (zaa (eVar k) aNil) env=some (vi ((xs.length:Nat):Int)):=by
 rcases hs with rfl|rfl
 ·rw[zis (ds:=xs.map .str) (fr:=false) (bs:=[]) (by unfold eVar;rw[he];rfl),qD]
 ·rw[zis (ds:=xs.map .str) (fr:=false) (bs:=[k]) (by unfold eVar;rw[he];rfl),qD]
theorem zaqy{i:Int}(ha:a env=some ⟨.int i,false,bs⟩)(h1:-4611686018427387904<=i)(h2:i<4611686018427387904):zdw (zaa a aNil) env=some ((List.range i.toNat).map (λ(k:Nat)=>PyData.int (k:Int)),[]):=by
 unfold zdw
 rw[zel ha]
 simp only[qB]
 rw[if_pos ⟨h1,h2⟩,zmb]
theorem zqw{xs:List Str}(hx:xs.length<=12):∀(t:Nat)(ls es:List Str)(rs:Int)(s5 s6:Sl),(es++ls).Perm xs->t<=ls.length->
  ∃es' s2 s3 s5' s6',forL (gN 5) (sSeq (sSet 6 (eOp modD (eVar 3) (eCB lenD (zaa (eVar 2) aNil)))) (sSeq (sSet 3 (eOp zbk (eVar 3) (eCB lenD (zaa (eVar 2) aNil)))) (zgd 4 2 (eVar 6)))) ((List.range' es.length t).map λ(k:Nat)=>PyData.int (k:Int)) [A,B,.ac (zab ls),.pl (.int rs),.ac (zab es),s5,s6] =
   some (.nx [A,B,s2,s3,.ac (zab es'),s5',s6'])/\(∃ls',(es'++ls').Perm xs)/\es'.length=t+es.length
 | 0,ls,es,rs,s5,s6,pm,_=>⟨es,_,_,s5,s6,rfl,⟨ls,pm⟩,by simp⟩
 | t+1,ls,es,rs,s5,s6,pm,hl=>by
  have hls:0<ls.length:=by omega
  have pl:=pm.length_eq
  rw[qJ]at pl
  have a0:=qt rs (show((ls.length:Nat):Int)≠0 by omega)
  have a1:=qu rs (show(0:Int)<((ls.length:Nat):Int) by omega)
  have hk:(rs % ((ls.length:Nat):Int)).toNat<ls.length:=by omega
  have e9:((rs % ((ls.length:Nat):Int)).toNat:Int)=rs % ((ls.length:Nat):Int):=by omega
  generalize eA:(rs % ((ls.length:Nat):Int)).toNat=at_ at hk e9
  have pm2:((es++[ls[at_]])++ls.eraseIdx at_).Perm xs:=by
   refine List.Perm.trans ?_ pm
   rw[qAQ]
   exact qCQ es (zmu ls at_ hk)
  obtain⟨es',s2,s3,s5',s6',q,hp,hlen⟩:=zqw (A:=A) (B:=B) hx t (ls.eraseIdx at_) (es++[ls[at_]]) (rs / ((ls.length:Nat):Int)) (.pl (.int (es.length:Int))) (.pl (.int (at_:Int))) pm2 (by rw[qCP hk];omega)
  refine⟨es',s2,s3,s5',s6',?_,hp,by rw[hlen];simp;omega⟩
  rw[List.range'_succ,qM]
  unfold forL
  simp only[gN,qB,qA8,qA7]
  have st1:sSet 6 (eOp modD (eVar 3) (eCB lenD (zaa (eVar 2) aNil))) [A,B,.ac (zab ls),.pl (.int rs),.ac (zab es),.pl (.int (es.length:Int)),s6]=some (.nx [A,B,.ac (zab ls),.pl (.int rs),.ac (zab es),.pl (.int (es.length:Int)),.pl (.int (at_:Int))]):=by
   have:=zcc (i:=6) (zep (a:=eVar 3) (env:=[A,B,.ac (zab ls),.pl (.int rs),.ac (zab es),.pl (.int (es.length:Int)),s6]) rfl (zis (a:=eVar 2) rfl) (by rw[qD];omega))
   rw[this,qD,<- e9];rfl
  have st2:sSet 3 (eOp zbk (eVar 3) (eCB lenD (zaa (eVar 2) aNil))) [A,B,.ac (zab ls),.pl (.int rs),.ac (zab es),.pl (.int (es.length:Int)),.pl (.int (at_:Int))]=some (.nx [A,B,.ac (zab ls),.pl (.int (rs / ((ls.length:Nat):Int))),.ac (zab es),.pl (.int (es.length:Int)),.pl (.int (at_:Int))]):=by
   have:=zcc (i:=3) (zgv (a:=eVar 3) (env:=[A,B,.ac (zab ls),.pl (.int rs),.ac (zab es),.pl (.int (es.length:Int)),.pl (.int (at_:Int))]) rfl (zis (a:=eVar 2) rfl) (by rw[qD];omega) (by rw[qD];omega))
   rw[this,qD];rfl
  have st3:zgd 4 2 (eVar 6) [A,B,.ac (zab ls),.pl (.int (rs / ((ls.length:Nat):Int))),.ac (zab es),.pl (.int (es.length:Int)),.pl (.int (at_:Int))]=some (.nx [A,B,.ac (zab (ls.eraseIdx at_)),.pl (.int (rs / ((ls.length:Nat):Int))),.ac (zab (es++[ls[at_]])),.pl (.int (es.length:Int)),.pl (.int (at_:Int))]):=by
   simp only[zgd,zab,eVar,qAD,qAC,qB]
   rw[if_pos ⟨by omega,by omega,by rw[qD];omega,by decide⟩,qBE,qS,qL hk]
   simp[zpy]
  rw[zar st1 (zar st2 st3),qB]
  rw[show(es++[ls[at_]]).length=es.length+1 by simp]at q
  exact q
theorem zanu{xs:List Str}(h0:0<xs.length)(h12:xs.length<=12):∃ar,zct [.int c,zab xs]=some (zak ar,false)/\(∀x∈ar,x∈xs)/\ar.length<=12/\ar≠[]:=by
 have m4:=qt c (show((xs.length:Nat):Int)≠0 by omega)
 have m4':=qu c (show(0:Int)<((xs.length:Nat):Int) by omega)
 generalize eN:1+c % ((xs.length:Nat):Int)=N
 have hN:1<=N/\N<=xs.length:=by omega
 obtain⟨es,s2,s3,s5,s6,q,⟨ls,pm⟩,hes⟩:=zqw (A:=.pl (.int c)) (B:=.pl (zab xs)) h12 N.toNat xs [] (c / ((xs.length:Nat):Int)) .no .no (qB5 _) (by omega)
 have hes:es.length=N.toNat:=by simpa using hes
 refine⟨es,zgq (env:=[.pl (.int c),.pl (zab xs),.no,.no,.no,.no,.no]) rfl (zar (e1:=[.pl (.int c),.pl (zab xs),.ac (zab xs),.no,.no,.no,.no]) rfl (zar (zcc (r:=vi _) (zgv rfl (zakx (xs:=xs) rfl (.inl rfl)) (by omega) (by omega))) (zar rfl (zar (zir (ds:=(List.range' ([]:List Str).length N.toNat).map λ(k:Nat)=>PyData.int (k:Int)) (bs:=[]) ?_ q) (zhw (bs:=[4]) (fr:=false) ?_))))),λx hx=>pm.mem_iff.mp (qw _ hx),by omega,λz=>by rw[z]at hes;simp at hes;omega⟩
 ·have it:=zaqy (a:=eOp addD (eC (.int 1)) (eOp modD (eVar 0) (eCB lenD (zaa (eVar 1) aNil)))) (env:=[.pl (.int c),.pl (zab xs),.ac (zab xs),.pl (.int (c / ((xs.length:Nat):Int))),.ac (.list []),.no,.no]) (i:=N) (bs:=[]) (by rw[<- eN];exact zoi rfl (zep rfl (zakx (xs:=xs) rfl (.inl rfl)) (by omega))) (by omega) (by omega)
  rw[qCu]at it
  exact it
 ·unfold eCB
  rw[zel (r:=⟨zab es,false,[4]⟩) rfl]
  rfl
structure Cl12(xs:List Str)(c:List Arm):Prop where
 kinds:∀a∈c,∀n∈a.parts,n∈xs
 few:∀a∈c,a.parts.length<=12
 some:∀a∈c,a.parts≠[]
structure Bk15(W:Web)(p:Nat)(rs:List Rule):Prop where
 ok:RulesOk W rs
 ord:OrdOk W p rs
 low:∀r∈rs,qAJ r.1=true
theorem zagj{r:Val}(h:f env=some r)(hd:zfp r.d=some ds):zaj f env=some (ds,r.bs):=by unfold zaj;rw[h,qB,hd];rfl
theorem zof(h:WebOk W){cs:List Int}(hi:i<cs.length)(hcs:∀z∈cs,0<=z){c0:List Arm}(hne:0<(nm W).length):∀(c:List Arm)(ks:List Str)(r:Int)(s10 s11:Sl),Cl12 (nm W) c->0<=r->(∀k∈ks,k∈nm W)->ks.length+c.length<1000->
  ∃(ks':List Str)(r':Int)(s10' s11':Sl),forL (gN 10) (sSeq (sSet 11 (eVar 1))
  (sSeq (sIf (zbr (eOp gtD (eOp modD (eIxV 0 (eVar 6)) (eC (.int 4))) (eC (.int 0)))) (sSet 11 (zbx ["_law_name"] [2,10] (zaj (eVar 1)) (gN 0) (tTru (eCB (anyD λbs=>bs.any id) (zaa (zbx ["_law_one"] [0,1] (zaj (zal 1 zbe (zaa (eVar 2) aNil))) (gN 0) zbf (eOp (inD false) (eVar 1) (zcs 2 (eVar 0)))) aNil))) (eVar 0))) sNil)
  (sSeq (sApp 9 (eIxV 11 (eOp modD (eVar 8) (eCB lenD (zaa (eVar 11) aNil)))))
  (sSet 8 (eOp zbk (eVar 8) (eCB lenD (zaa (eVar 11) aNil))))))) (c.map armD) [.pl (zbz cs),.pl (zab (nm W)),.pl (.dict (dS zab (ups W))),A3,A4,A5,.pl (.int (i:Int)),A7,.pl (.int r),.ac (zab ks),s10,s11]=some (.nx [.pl (zbz cs),.pl (zab (nm W)),.pl (.dict (dS zab (ups W))),A3,A4,A5,.pl (.int (i:Int)),A7,.pl (.int r'),.ac (zab ks'),s10',s11'])/\(∀k∈ks',k∈nm W)/\ks'.length=ks.length+c.length
 | [],ks,r,s10,s11,_,_,hk,_=>⟨ks,r,s10,s11,rfl,hk,rfl⟩
 | a::c,ks,r,s10,s11,hc,r0,hk,hl=>by
  have hlW:(nm W).length<=12:=zpc h
  have hap:=hc.kinds a qb
  have e11:sSet 11 (eVar 1) [.pl (zbz cs),.pl (zab (nm W)),.pl (.dict (dS zab (ups W))),A3,A4,A5,.pl (.int (i:Int)),A7,.pl (.int r),.ac (zab ks),.pl (armD a),s11]=some (.nx [.pl (zbz cs),.pl (zab (nm W)),.pl (.dict (dS zab (ups W))),A3,A4,A5,.pl (.int (i:Int)),A7,.pl (.int r),.ac (zab ks),.pl (armD a),.pl (zab (nm W))]):=zcc (r:=⟨zab (nm W),false,[]⟩) rfl
  have pool:∃(pl:List Str)(s:Sl),Hd (zab pl) s/\0<pl.length/\pl.length<=12/\(∀x∈pl,x∈nm W)/\sIf (zbr (eOp gtD (eOp modD (eIxV 0 (eVar 6)) (eC (.int 4))) (eC (.int 0)))) (sSet 11 (zbx ["_law_name"] [2,10] (zaj (eVar 1)) (gN 0) (tTru (eCB (anyD λbs=>bs.any id) (zaa (zbx ["_law_one"] [0,1] (zaj (zal 1 zbe (zaa (eVar 2) aNil))) (gN 0) zbf (eOp (inD false) (eVar 1) (zcs 2 (eVar 0)))) aNil))) (eVar 0))) sNil [.pl (zbz cs),.pl (zab (nm W)),.pl (.dict (dS zab (ups W))),A3,A4,A5,.pl (.int (i:Int)),A7,.pl (.int r),.ac (zab ks),.pl (armD a),.pl (zab (nm W))]=some (.nx [.pl (zbz cs),.pl (zab (nm W)),.pl (.dict (dS zab (ups W))),A3,A4,A5,.pl (.int (i:Int)),A7,.pl (.int r),.ac (zab ks),.pl (armD a),s]):=by
   have t:zbr (eOp gtD (eOp modD (eIxV 0 (eVar 6)) (eC (.int 4))) (eC (.int 0))) [.pl (zbz cs),.pl (zab (nm W)),.pl (.dict (dS zab (ups W))),A3,A4,A5,.pl (.int (i:Int)),A7,.pl (.int r),.ac (zab ks),.pl (armD a),.pl (zab (nm W))]=some (decide (0<cs[i] % 4)):=
    zgj (zanq (zep (i:=cs[i]) (zabr (n:=i) rfl rfl (by rw[qS,qL hi];rfl)) rfl (by decide)) rfl)
   by_cases hz:0<cs[i] % 4
   ·rw[decide_eq_true hz]at t
    have cm:zda (gN 0) (tTru (eCB (anyD λbs=>bs.any id) (zaa (zbx ["_law_one"] [0,1] (zaj (zal 1 zbe (zaa (eVar 2) aNil))) (gN 0) zbf (eOp (inD false) (eVar 1) (zcs 2 (eVar 0)))) aNil))) (eVar 0) [.no,.pl (.dict (dS zab (ups W))),.pl (armD a)] ((nm W).map .str)=some (((nm W).filter λx=>decide (x∈upA W a)).map .str):=by
     refine zec (λx=>decide (x∈upA W a)) λx hx=>⟨[.pl (.str x),.pl (.dict (dS zab (ups W))),.pl (armD a)],rfl,?_,λ_=>⟨vs x,rfl,rfl⟩⟩
     have itp:zaj (zal 1 zbe (zaa (eVar 2) aNil)) [.pl (.str x),.pl (.dict (dS zab (ups W))),.pl (armD a)]=some (a.parts.map .str,[]):=by
      unfold zaj
      rw[zbj (n:=1) (rs:=[⟨armD a,false,[]⟩]) (zel rfl) rfl (zfd a)]
      rfl
     have k2:zda (gN 0) zbf (eOp (inD false) (eVar 1) (zcs 2 (eVar 0))) [.no,.pl (.str x),.pl (.dict (dS zab (ups W)))] (a.parts.map .str)=some (a.parts.map λn=>.bool (decide (x∈up W n))):=
      zby λn hn=>⟨[.pl (.str n),.pl (.str x),.pl (.dict (dS zab (ups W)))],rfl,rfl,vb (decide (x∈up W n)),e_in (neg:=false) (fr:=false) (bs:=[]) rfl (zafs (k:=2) (d:=zab (up W n)) (.inl rfl) rfl (by rw[zks,zjt (hap n hn)];rfl)),rfl⟩
     have an:=zajj (f:=λn:Str=>decide (x∈up W n)) (zde (own:=["_law_one"]) (fr:=[0,1]) itp (by rw[qD];have:=hc.few a qb;omega) k2)
     have ev:(a.parts.any λn=>decide (x∈up W n))=decide (x∈upA W a):=by
      rw[qAd,qAr,decide_eq_true_iff,zua]
      exact⟨λ⟨n,h1,h2⟩=>⟨n,h1,of_decide_eq_true h2⟩,λ⟨n,h1,h2⟩=>⟨n,h1,decide_eq_true h2⟩⟩
     rw[ev]at an
     unfold tTru
     rw[an]
     rfl
    refine⟨(nm W).filter λx=>decide (x∈upA W a),.ac (zab ((nm W).filter λx=>decide (x∈upA W a))),.inr rfl,?_,qAS (qAt _ _) hlW,λx hx=>(qAK.mp hx).1,if_t t (zcc (r:=⟨zab ((nm W).filter λx=>decide (x∈upA W a)),true,[]⟩) ?_)⟩
    ·obtain⟨n,hn⟩:=List.exists_mem_of_ne_nil _ (hc.some a qb)
     exact qCj (qAK.mpr ⟨hap n hn,decide_eq_true (zua.mpr ⟨n,hn,zang h (hap n hn)⟩)⟩)
    ·rw[zde (own:=["_law_name"]) (fr:=[2,10]) (ds:=(nm W).map .str) (bs:=[]) rfl (by rw[qD];omega) cm,zjs]
     rfl
   ·rw[decide_eq_false hz]at t
    exact⟨nm W,.pl (zab (nm W)),.inl rfl,hne,hlW,λx hx=>hx,if_f t rfl⟩
  obtain⟨pl,s,hs,p0,p12,psub,ep⟩:=pool
  have q0:=qt r (show(pl.length:Int)≠0 by omega)
  have q1:=qu r (show(0:Int)<(pl.length:Int) by omega)
  have hj:(r % (pl.length:Int)).toNat<pl.length:=by omega
  have len:∀(ks:List Str),eCB lenD (zaa (eVar 11) aNil) [.pl (zbz cs),.pl (zab (nm W)),.pl (.dict (dS zab (ups W))),A3,A4,A5,.pl (.int (i:Int)),A7,.pl (.int r),.ac (zab ks),.pl (armD a),s]=some (vi (pl.length:Int)):=λks=>by
   obtain⟨bs,hv⟩:=e_hd (env:=[.pl (zbz cs),.pl (zab (nm W)),.pl (.dict (dS zab (ups W))),A3,A4,A5,.pl (.int (i:Int)),A7,.pl (.int r),.ac (zab ks),.pl (armD a),s]) (i:=11) rfl hs
   have:=zis (ds:=pl.map .str) hv
   rw[qD]at this
   exact this
  have ix:eIxV 11 (eOp modD (eVar 8) (eCB lenD (zaa (eVar 11) aNil))) [.pl (zbz cs),.pl (zab (nm W)),.pl (.dict (dS zab (ups W))),A3,A4,A5,.pl (.int (i:Int)),A7,.pl (.int r),.ac (zab ks),.pl (armD a),s]=some (vs pl[(r % (pl.length:Int)).toNat]):=by
   have hm:eOp modD (eVar 8) (eCB lenD (zaa (eVar 11) aNil)) [.pl (zbz cs),.pl (zab (nm W)),.pl (.dict (dS zab (ups W))),A3,A4,A5,.pl (.int (i:Int)),A7,.pl (.int r),.ac (zab ks),.pl (armD a),s]=some (vi (((r % (pl.length:Int)).toNat:Nat):Int)):=by
    rw[zep (i:=r) rfl (len ks) (by omega),Int.toNat_of_nonneg q0]
   have hg:(pl.map PyData.str)[(r % (pl.length:Int)).toNat]?=some (.str pl[(r % (pl.length:Int)).toNat]):=by rw[qS,qL hj];rfl
   rcases id hs with e|e
   ·exact zabr (ds:=pl.map .str) (by rw[e];rfl) hm hg
   ·exact zase (ds:=pl.map .str) (by rw[e];rfl) hm hg
  generalize hx:pl[(r % (pl.length:Int)).toNat]=x at ix
  have hxm:x∈nm W:=psub x (by rw[<- hx];exact qAP _)
  have ap:sApp 9 (eIxV 11 (eOp modD (eVar 8) (eCB lenD (zaa (eVar 11) aNil)))) [.pl (zbz cs),.pl (zab (nm W)),.pl (.dict (dS zab (ups W))),A3,A4,A5,.pl (.int (i:Int)),A7,.pl (.int r),.ac (zab ks),.pl (armD a),s]=some (.nx [.pl (zbz cs),.pl (zab (nm W)),.pl (.dict (dS zab (ups W))),A3,A4,A5,.pl (.int (i:Int)),A7,.pl (.int r),.ac (zab (ks++[x])),.pl (armD a),s]):=by
   rw[znq (ds:=ks.map .str) (d:=.str x) (fr:=false) rfl ix (by rw[qD];omega)]
   congr 2
   unfold zab
   simp
  have e8:sSet 8 (eOp zbk (eVar 8) (eCB lenD (zaa (eVar 11) aNil))) [.pl (zbz cs),.pl (zab (nm W)),.pl (.dict (dS zab (ups W))),A3,A4,A5,.pl (.int (i:Int)),A7,.pl (.int r),.ac (zab (ks++[x])),.pl (armD a),s]=some (.nx [.pl (zbz cs),.pl (zab (nm W)),.pl (.dict (dS zab (ups W))),A3,A4,A5,.pl (.int (i:Int)),A7,.pl (.int (r / (pl.length:Int))),.ac (zab (ks++[x])),.pl (armD a),s]):=zcc (zgv (i:=r) rfl (len _) (by omega) (by omega))
  obtain⟨ks',r',s10',s11',lp,hk',hl'⟩:=zof h hi hcs (A3:=A3) (A4:=A4) (A5:=A5) (A7:=A7) (c0:=c0) hne c (ks++[x]) (r / (pl.length:Int)) (.pl (armD a)) s ⟨λb hb=>hc.kinds b (qQ _ hb),λb hb=>hc.few b (qQ _ hb),λb hb=>hc.some b (qQ _ hb)⟩ (qBP r0 (by omega)) (λk hk2=>(qV.mp hk2).elim (hk k) λz=>by rw[qf.mp z];exact hxm) (by simp at hl ⊢;omega)
  refine⟨ks',r',s10',s11',?_,hk',by simp at hl' ⊢;omega⟩
  rw[qM]
  unfold forL
  show Option.bind (sSeq _ _ [.pl (zbz cs),.pl (zab (nm W)),.pl (.dict (dS zab (ups W))),A3,A4,A5,.pl (.int (i:Int)),A7,.pl (.int r),.ac (zab ks),.pl (armD a),s11]) _=_
  rw[zar e11 (zar ep (zar ap e8))]
  exact lp
theorem zud(h:WebOk W)(lo:∀x∈nm W,Low x)(hne:0<(nm W).length){cs:List Int}{c:List Arm}{ts:List Str}(hcs:∀z∈cs,0<=z)(hle:ts.length<=cs.length)(hts:ts.length<=16)(hc:Cl12 (nm W) c)(hcl:c.length<=3) :
  ∃rs,zgl [zbz cs,zab (nm W),.dict (dS zab (ups W)),zat c,zab ts]=some (zam rs,true)/\MadeOk W c.length ts rs:=by
 have it:zlp (zaa (eVar 4) aNil) [.pl (zbz cs),.pl (zab (nm W)),.pl (.dict (dS zab (ups W))),.pl (zat c),.pl (zab ts),.ac (.list []),.no,.no,.no,.no,.no,.no]=some (((List.range ts.length).zip ts).map λz=>PyData.tuple [.int (z.1:Nat),.str z.2],[]):=by
  show some (zmq (ts.map .str),[])=_
  rw[zwz]
 obtain⟨env',lp,rs,s6,s7,s8,s9,s10,s11,rfl,ok⟩:=zek (enc:=λz:Nat×Str=>PyData.tuple [.int (z.1:Nat),.str z.2]) (g:=gT 2 (zag 6 (zag 7 zbw))) (l:=(List.range ts.length).zip ts) (env:=[.pl (zbz cs),.pl (zab (nm W)),.pl (.dict (dS zab (ups W))),.pl (zat c),.pl (zab ts),.ac (.list []),.no,.no,.no,.no,.no,.no])
  (body:=(sSeq (sSet 8 (eOp zbk (eIxV 0 (eVar 6)) (eC (.int 4))))
  (sSeq (sSet 9 (eLst aNil))
  (sSeq (sFor (zaj (eVar 3)) (gN 10)
  (sSeq (sSet 11 (eVar 1))
  (sSeq (sIf (zbr (eOp gtD (eOp modD (eIxV 0 (eVar 6)) (eC (.int 4))) (eC (.int 0)))) (sSet 11 (zbx ["_law_name"] [2,10] (zaj (eVar 1)) (gN 0) (tTru (eCB (anyD λbs=>bs.any id) (zaa (zbx ["_law_one"] [0,1] (zaj (zal 1 zbe (zaa (eVar 2) aNil))) (gN 0) zbf (eOp (inD false) (eVar 1) (zcs 2 (eVar 0)))) aNil))) (eVar 0))) sNil)
  (sSeq (sApp 9 (eIxV 11 (eOp modD (eVar 8) (eCB lenD (zaa (eVar 11) aNil)))))
  (sSet 8 (eOp zbk (eVar 8) (eCB lenD (zaa (eVar 11) aNil))))))))
  (sIf (zbr (eOp (inS true) (eCB zfq (zaa (eVar 9) aNil)) (zbx ["_law_one","_law_row"] [] (zaj (eVar 5)) (gT 2 (zag 0 (zag 1 zbw))) zbf (eVar 1)))) (sApp 5 (eTup (zaa (eVar 7) (zaa (eCB zfq (zaa (eVar 9) aNil)) aNil)))) sNil)))))
  (λpre env=>∃(rs:List (Str×List Str)) (s6 s7 s8 s9 s10 s11:Sl),env=[.pl (zbz cs),.pl (zab (nm W)),.pl (.dict (dS zab (ups W))),.pl (zat c),.pl (zab ts),.ac (zam rs),s6,s7,s8,s9,s10,s11]/\MadeOk W c.length (pre.map (·.2)) rs)
  ⟨[],_,_,_,_,_,_,rfl,λr hr=>(nomatch hr),λr hr=>(nomatch hr),qA5,qCU _⟩ (by
   rintro pre ⟨i,t⟩ post env hp ⟨rs,s6,s7,s8,s9,s10,s11,rfl,ok⟩
   have hz:(i,t)∈(List.range ts.length).zip ts:=by rw[<- hp];simp
   have hi:i<cs.length:=by
    have:=qAW.mp (qA9 hz).1
    omega
   have hpl:pre.length<=16:=by
    have:=congrArg List.length hp
    simp at this;omega
   have hrs:rs.length<=16:=by
    have:=ok.sub.length_le
    simp at this;omega
   have e8:sSet 8 (eOp zbk (eIxV 0 (eVar 6)) (eC (.int 4))) [.pl (zbz cs),.pl (zab (nm W)),.pl (.dict (dS zab (ups W))),.pl (zat c),.pl (zab ts),.ac (zam rs),.pl (.int (i:Int)),.pl (.str t),s8,s9,s10,s11]=some (.nx [.pl (zbz cs),.pl (zab (nm W)),.pl (.dict (dS zab (ups W))),.pl (zat c),.pl (zab ts),.ac (zam rs),.pl (.int (i:Int)),.pl (.str t),.pl (.int (cs[i] / 4)),s9,s10,s11]):=
    zcc (zgv (i:=cs[i]) (zabr (n:=i) rfl rfl (by rw[qS,qL hi];rfl)) rfl (by decide) (by decide))
   obtain⟨ks,r',s10',s11',inn,hk,hkl⟩:=zof h hi hcs (A3:=.pl (zat c)) (A4:=.pl (zab ts)) (A5:=.ac (zam rs)) (A7:=.pl (.str t)) (c0:=c) hne c [] (cs[i] / 4) s10 s11 hc (qBP (hcs _ (qAP _)) (by decide)) (λk hk=>(nomatch hk)) (by simp;omega)
   have hkl:ks.length=c.length:=by simpa using hkl
   have lk:LowS ks:=zzd lo hk
   have tup:∀(E:DEnv),E[9]?=some (.ac (zab ks))->eCB zfq (zaa (eVar 9) aNil) E=some ⟨zak ks,false,[9]⟩:=λE hE=>by
    unfold eCB
    rw[zel (r:=⟨zab ks,false,[9]⟩) (by unfold eVar;rw[hE])]
    rfl
   have cm:zda (gT 2 (zag 0 (zag 1 zbw))) zbf (eVar 1) [.no,.no] (rs.map zbg)=some (rs.map λr=>zak r.2):=zby (enc:=zbg) (out:=λr=>zak r.2) λr _=>⟨[.pl (.str r.1),.pl (zak r.2)],rfl,rfl,⟨zak r.2,false,[]⟩,rfl,rfl⟩
   have cm2:=zde (own:=["_law_one","_law_row"]) (fr:=[]) (fi:=zaj (eVar 5)) (g:=gT 2 (zag 0 (zag 1 zbw))) (t:=zbf) (e:=eVar 1) (env:=[.pl (zbz cs),.pl (zab (nm W)),.pl (.dict (dS zab (ups W))),.pl (zat c),.pl (zab ts),.ac (zam rs),.pl (.int (i:Int)),.pl (.str t),.pl (.int r'),.ac (zab ks),s10',s11']) (ds:=rs.map zbg) (bs:=[5]) rfl (by rw[qD];omega) cm
   have em:(rs.map λr=>zak r.2)=(rs.map (·.2)).map zak:=by rw[qAZ];rfl
   rw[em]at cm2
   have tin:zbr (eOp (inS true) (eCB zfq (zaa (eVar 9) aNil)) (zbx ["_law_one","_law_row"] [] (zaj (eVar 5)) (gT 2 (zag 0 (zag 1 zbw))) zbf (eVar 1))) [.pl (zbz cs),.pl (zab (nm W)),.pl (.dict (dS zab (ups W))),.pl (zat c),.pl (zab ts),.ac (zam rs),.pl (.int (i:Int)),.pl (.str t),.pl (.int r'),.ac (zab ks),s10',s11']=some (!decide (ks∈rs.map (·.2))):=by
    refine zgj ?_
    unfold eOp
    rw[tup _ rfl,cm2]
    simp only[qB]
    rw[zans (neg:=true) (λx hx=>by
     obtain⟨r,hr,rfl⟩:=qg.mp hx
     exact zzd lo (ok.kinds r hr)) lk]
    rfl
   have itc:zaj (eVar 3) [.pl (zbz cs),.pl (zab (nm W)),.pl (.dict (dS zab (ups W))),.pl (zat c),.pl (zab ts),.ac (zam rs),.pl (.int (i:Int)),.pl (.str t),.pl (.int (cs[i] / 4)),.ac (zab []),s10,s11]=some (c.map armD,[]):=rfl
   have hpm:(pre++[(i,t)]).map (·.2)=pre.map (·.2)++[t]:=by simp
   by_cases hin:ks∈rs.map (·.2)
   ·rw[decide_eq_true hin]at tin
    exact⟨_,_,rfl,.inl (zar e8 (zar rfl (zar (zir itc inn) (if_f tin rfl)))),rs,_,_,_,_,_,_,rfl,ok.kinds,ok.size,ok.unl,by rw[hpm];exact ok.sub.trans (List.sublist_append_left _ _)⟩
   ·rw[decide_eq_false hin]at tin
    have et:eTup (zaa (eVar 7) (zaa (eCB zfq (zaa (eVar 9) aNil)) aNil)) [.pl (zbz cs),.pl (zab (nm W)),.pl (.dict (dS zab (ups W))),.pl (zat c),.pl (zab ts),.ac (zam rs),.pl (.int (i:Int)),.pl (.str t),.pl (.int r'),.ac (zab ks),s10',s11']=some ⟨zbg (t,ks),false,[9]⟩:=by
     unfold eTup
     rw[zcj (r:=vs t) rfl (zel (tup _ rfl))]
     rfl
    have ap:sApp 5 (eTup (zaa (eVar 7) (zaa (eCB zfq (zaa (eVar 9) aNil)) aNil))) [.pl (zbz cs),.pl (zab (nm W)),.pl (.dict (dS zab (ups W))),.pl (zat c),.pl (zab ts),.ac (zam rs),.pl (.int (i:Int)),.pl (.str t),.pl (.int r'),.ac (zab ks),s10',s11']=some (.nx [.pl (zbz cs),.pl (zab (nm W)),.pl (.dict (dS zab (ups W))),.pl (zat c),.pl (zab ts),.ac (zam (rs++[(t,ks)])),.pl (.int (i:Int)),.pl (.str t),.pl (.int r'),.pl (zab ks),s10',s11']):=by
     rw[zanp (i:=5) (ds:=rs.map zbg) rfl et (by rw[qD];omega) (by decide)]
     congr 2
     unfold zam
     rw[qAL]
     rfl
    refine⟨_,_,rfl,.inl (zar e8 (zar rfl (zar (zir itc inn) (if_t tin ap)))),rs++[(t,ks)],_,_,_,_,_,_,rfl,λr hr=>?_,λr hr=>?_,?_,?_⟩
    ·rcases qV.mp hr with hr|hr
     ·exact ok.kinds r hr
     ·rw[qf.mp hr];exact hk
    ·rcases qV.mp hr with hr|hr
     ·exact ok.size r hr
     ·rw[qf.mp hr];exact hkl
    ·rw[qAL]
     exact qAT.mpr ⟨ok.unl,by simp,λa ha b hb e=>hin (by
      have:b=ks:=by simpa using hb
      rw[<- this,<- e];exact ha)⟩
    ·rw[hpm,qAL]
     exact ok.sub.append (qCU _))
 have hs:((List.range ts.length).zip ts).map (·.2)=ts:=by
  rw[show(λz:Nat×Str=>z.2)=Prod.snd from rfl,List.map_snd_zip (by rw[List.length_range];exact qO _)]
 rw[hs]at ok
 exact⟨rs,zgq rfl (zar rfl (zar (zir it lp) rfl)),ok⟩
theorem zajp{l:List α}(h:l.length=3):∃a b c,l=[a,b,c]:=by
 match l,h with
 | [a,b,c],_=>exact⟨a,b,c,rfl⟩
theorem zajq{cs:List Int}(hl:cs.length=34)(a b:Nat)(x:EF)(y:EF)(env:DEnv)(hb:b<=34)(hab:a<=b)(he:env[1]?=some (.pl (zbz cs)))(hx:x env=some (vi (a:Int)))(hy:y env=some (vi (b:Int))):eSl (eVar 1) (zca x) (zca y) env=some ⟨zbz ((cs.drop a).take (b - a)),true,[]⟩:=by
 unfold eSl
 have ee:eVar 1 env=some ⟨zbz cs,false,[]⟩:=by unfold eVar;rw[he]
 rw[ee,zma hx,zma hy]
 show some (⟨.list (cutD (cs.map .int) (some (a:Int)) (some (b:Int))),true,[]⟩:Val)=_
 rw[zaje cs a b (by omega) hab];rfl
structure C15(W:Web)(p:Nat)(c:List Arm):Prop where
 cl:Cl12 (nm W) c
 len:c.length=p
section
variable{A0 A2 A6 s8:Sl}{ds:List PyData}{xs:List Str}{r:Int}{n at_:Nat}
theorem zxc(hn:n=xs.length)(ha:at_<n):∃hj:n - 1 - at_<xs.length,eIxV 1 (eOp subD (eOp subD (eVar 5) (eC (.int 1))) (eVar 7)) [A0,.pl (zab xs),A2,.ac (.list ds),.pl (.int r),.pl (.int (n:Int)),A6,.pl (.int (at_:Int)),s8]=some (vs (xs[n - 1 - at_]'hj)):=by
 have hj:n - 1 - at_<xs.length:=by omega
 have e:(n:Int) - 1 - (at_:Int)=((n - 1 - at_:Nat):Int):=by omega
 exact⟨hj,zanr rfl (zani (i:=(n:Int) - 1) (j:=(at_:Int)) (zani (i:=(n:Int)) (j:=1) rfl rfl) rfl) e hj⟩
theorem zajr(hn:n=xs.length)(ha:at_<n)(hl:ds.length<100000):∃a:Arm,(∀m∈a.parts,m∈xs)/\a.parts.length<=4/\a.parts≠[]/\sApp 3 (eTup (zaa (eIxV 1 (eOp subD (eOp subD (eVar 5) (eC (.int 1))) (eVar 7))) aNil)) [A0,.pl (zab xs),A2,.ac (.list ds),.pl (.int r),.pl (.int (n:Int)),A6,.pl (.int (at_:Int)),s8]=some (.nx [A0,.pl (zab xs),A2,.ac (.list (ds++[armD a])),.pl (.int r),.pl (.int (n:Int)),A6,.pl (.int (at_:Int)),s8]):=by
 obtain⟨hj,e⟩:=zxc (A0:=A0) (A2:=A2) (A6:=A6) (s8:=s8) (ds:=ds) (r:=r) hn ha
 refine⟨.many [xs[n - 1 - at_]'hj],λm hm=>by rw[qf.mp hm];exact qAP _,by show 1<=4;decide,by simp[Arm.parts],?_⟩
 refine znq (i:=3) (ds:=ds) (d:=armD (.many [xs[n - 1 - at_]'hj])) (fr:=false) rfl ?_ hl
 unfold eTup
 rw[zel e]
 rfl
theorem zagk(hn:n=xs.length)(ha:at_<n)(hl:ds.length<100000):∃a:Arm,(∀m∈a.parts,m∈xs)/\a.parts.length<=4/\a.parts≠[]/\sApp 3 (eIxV 1 (eOp subD (eOp subD (eVar 5) (eC (.int 1))) (eVar 7))) [A0,.pl (zab xs),A2,.ac (.list ds),.pl (.int r),.pl (.int (n:Int)),A6,.pl (.int (at_:Int)),s8]=some (.nx [A0,.pl (zab xs),A2,.ac (.list (ds++[armD a])),.pl (.int r),.pl (.int (n:Int)),A6,.pl (.int (at_:Int)),s8]):=by
 obtain⟨hj,e⟩:=zxc (A0:=A0) (A2:=A2) (A6:=A6) (s8:=s8) (ds:=ds) (r:=r) hn ha
 refine⟨.one (xs[n - 1 - at_]'hj),λm hm=>by rw[qf.mp hm];exact qAP _,by show 1<=4;decide,by simp[Arm.parts],?_⟩
 exact znq (i:=3) (ds:=ds) (d:=armD (.one (xs[n - 1 - at_]'hj))) (fr:=false) rfl e hl
theorem zagl(hn:n=xs.length)(ha:at_<n)(h1:1<n)(r0:0<=r)(hl:ds.length<100000):∃(a:Arm)(s8':Sl),(∀m∈a.parts,m∈xs)/\a.parts.length<=4/\a.parts≠[]/\
  (sSeq (sSet 8 (eOp modD (eOp addD (eOp addD (eVar 7) (eC (.int 1))) (eOp modD (eOp zbk (eVar 4) (eC (.int 4))) (eOp subD (eVar 5) (eC (.int 1))))) (eVar 5)))
  (sApp 3 (eTup (zaa (eIxV 1 (eVar 7)) (zaa (eIxV 1 (eVar 8)) aNil))))) [A0,.pl (zab xs),A2,.ac (.list ds),.pl (.int r),.pl (.int (n:Int)),A6,.pl (.int (at_:Int)),s8]=some (.nx [A0,.pl (zab xs),A2,.ac (.list (ds++[armD a])),.pl (.int r),.pl (.int (n:Int)),A6,.pl (.int (at_:Int)),s8']):=by
 have m0:∀(z j:Int),0<j->0<=z % j/\z % j<j:=λz j hj=>⟨qt z (by omega),qu z hj⟩
 have q:=m0 ((at_:Int)+1+r / 4 % ((n:Int) - 1)) (n:Int) (by omega)
 generalize hby:((at_:Int)+1+r / 4 % ((n:Int) - 1)) % (n:Int)=byz at q
 obtain⟨by_,hb⟩:∃b:Nat,byz=(b:Int):=⟨byz.toNat,by omega⟩
 subst hb
 have hbn:by_<n:=by omega
 have e8:sSet 8 (eOp modD (eOp addD (eOp addD (eVar 7) (eC (.int 1))) (eOp modD (eOp zbk (eVar 4) (eC (.int 4))) (eOp subD (eVar 5) (eC (.int 1))))) (eVar 5)) [A0,.pl (zab xs),A2,.ac (.list ds),.pl (.int r),.pl (.int (n:Int)),A6,.pl (.int (at_:Int)),s8]=some (.nx [A0,.pl (zab xs),A2,.ac (.list ds),.pl (.int r),.pl (.int (n:Int)),A6,.pl (.int (at_:Int)),.pl (.int (by_:Int))]):=by
  rw[zcc (zep (zoi (zoi (i:=(at_:Int)) (j:=1) rfl rfl) (zep (zgv (i:=r) (j:=4) rfl rfl (by decide) (by decide)) (zani (i:=(n:Int)) (j:=1) rfl rfl) (by omega))) (j:=(n:Int)) rfl (by omega)),hby]
  rfl
 have ha':at_<xs.length:=by omega
 have hb':by_<xs.length:=by omega
 refine⟨.many [xs[at_],xs[by_]],.pl (.int (by_:Int)),λm hm=>?_,(by show 2<=4;decide),(by simp[Arm.parts]),zar e8 ?_⟩
 ·rcases qP.mp hm with rfl|hm
  ·exact qAP _
  ·rw[qf.mp hm];exact qAP _
 ·have i1:eIxV 1 (eVar 7) [A0,.pl (zab xs),A2,.ac (.list ds),.pl (.int r),.pl (.int (n:Int)),A6,.pl (.int (at_:Int)),.pl (.int (by_:Int))]=some (vs xs[at_]):=zanr rfl rfl rfl ha'
  have i2:eIxV 1 (eVar 8) [A0,.pl (zab xs),A2,.ac (.list ds),.pl (.int r),.pl (.int (n:Int)),A6,.pl (.int (at_:Int)),.pl (.int (by_:Int))]=some (vs xs[by_]):=zanr rfl rfl rfl hb'
  refine znq (i:=3) (ds:=ds) (d:=armD (.many [xs[at_],xs[by_]])) (fr:=false) rfl ?_ hl
  unfold eTup
  rw[zcj i1 (zel i2)]
  rfl
end
theorem zajs{xs:List Str}{c:Int}{p:Nat}(hx:1<=xs.length/\xs.length<=16)(c0:0<=c)(hp:p<=3):∃cl:List Arm,zch [.int c,zab xs,.int p]=some (zat cl,false)/\cl.length=p/\CallIn xs cl:=by
 have m0:∀(z j:Int),0<j->0<=z % j/\z % j<j:=λz j hj=>⟨qt z (by omega),qu z hj⟩
 have lp:=zek (enc:=λ(k:Nat)=>PyData.int (k:Int)) (g:=gN 6) (l:=List.range p) (env:=[.pl (.int c),.pl (zab xs),.pl (.int p),.ac (.list []),.pl (.int c),.pl (.int (xs.length:Int)),.no,.no,.no])
  (body:=(sSeq (sSet 7 (eOp modD (eVar 4) (eVar 5)))
  (sSeq (sSet 4 (eOp zbk (eVar 4) (eVar 5)))
  (sSeq (sIf (zbr (eOp eqD (eOp modD (eVar 4) (eC (.int 4))) (eC (.int 2)))) (sApp 3 (eTup (zaa (eIxV 1 (eOp subD (eOp subD (eVar 5) (eC (.int 1))) (eVar 7))) aNil))) (sIf (zxx (zbr (eOp eqD (eOp modD (eVar 4) (eC (.int 4))) (eC (.int 3)))) (zbr (eOp gtD (eVar 5) (eC (.int 1))))) (sSeq (sSet 8 (eOp modD (eOp addD (eOp addD (eVar 7) (eC (.int 1))) (eOp modD (eOp zbk (eVar 4) (eC (.int 4))) (eOp subD (eVar 5) (eC (.int 1))))) (eVar 5)))
  (sApp 3 (eTup (zaa (eIxV 1 (eVar 7)) (zaa (eIxV 1 (eVar 8)) aNil))))) (sApp 3 (eIxV 1 (eOp subD (eOp subD (eVar 5) (eC (.int 1))) (eVar 7))))))
  (sSet 4 (eOp zbk (eVar 4) (eOp mulD (eC (.int 4)) (eVar 5)))))))) (λpre env=>∃(cl:List Arm) (r:Int) (s6 s7 s8:Sl),env=[.pl (.int c),.pl (zab xs),.pl (.int p),.ac (.list (cl.map armD)),.pl (.int r),.pl (.int (xs.length:Int)),s6,s7,s8]/\0<=r/\cl.length=pre.length/\CallIn xs cl)
  ⟨[],c,_,_,_,rfl,c0,rfl,⟨λa h=>(nomatch h),λa h=>(nomatch h),λa h=>(nomatch h)⟩⟩ (by
   rintro pre k post env hk ⟨cl,r,s6,s7,s8,rfl,r0,hcl,ok⟩
   have hpl:pre.length<4:=by
    have:=congrArg List.length hk
    simp at this;omega
   have q:=m0 r (xs.length:Int) (by omega)
   obtain⟨at_,hat⟩:∃a:Nat,r % (xs.length:Int)=(a:Int):=⟨(r % (xs.length:Int)).toNat,by omega⟩
   have ha:at_<xs.length:=by omega
   have e7:sSet 7 (eOp modD (eVar 4) (eVar 5)) [.pl (.int c),.pl (zab xs),.pl (.int p),.ac (.list (cl.map armD)),.pl (.int r),.pl (.int (xs.length:Int)),.pl (.int (k:Int)),s7,s8]=some (.nx [.pl (.int c),.pl (zab xs),.pl (.int p),.ac (.list (cl.map armD)),.pl (.int r),.pl (.int (xs.length:Int)),.pl (.int (k:Int)),.pl (.int (at_:Int)),s8]):=by
    rw[zcc (zep (i:=r) (j:=(xs.length:Int)) rfl rfl (by omega)),hat];rfl
   have q0:0<=r / (xs.length:Int):=qBP r0 (by omega)
   have e4:sSet 4 (eOp zbk (eVar 4) (eVar 5)) [.pl (.int c),.pl (zab xs),.pl (.int p),.ac (.list (cl.map armD)),.pl (.int r),.pl (.int (xs.length:Int)),.pl (.int (k:Int)),.pl (.int (at_:Int)),s8]=some (.nx [.pl (.int c),.pl (zab xs),.pl (.int p),.ac (.list (cl.map armD)),.pl (.int (r / (xs.length:Int))),.pl (.int (xs.length:Int)),.pl (.int (k:Int)),.pl (.int (at_:Int)),s8]):=zcc (zgv (i:=r) (j:=(xs.length:Int)) rfl rfl (by omega) (by omega))
   generalize r / (xs.length:Int)=r' at e4 q0
   have hds:(cl.map armD).length<100000:=by rw[qD];omega
   have t2:zbr (eOp eqD (eOp modD (eVar 4) (eC (.int 4))) (eC (.int 2))) [.pl (.int c),.pl (zab xs),.pl (.int p),.ac (.list (cl.map armD)),.pl (.int r'),.pl (.int (xs.length:Int)),.pl (.int (k:Int)),.pl (.int (at_:Int)),s8]=some (r' % 4==2):=zgj (ztj (zep rfl rfl (by decide)) rfl)
   have t3:zxx (zbr (eOp eqD (eOp modD (eVar 4) (eC (.int 4))) (eC (.int 3)))) (zbr (eOp gtD (eVar 5) (eC (.int 1)))) [.pl (.int c),.pl (zab xs),.pl (.int p),.ac (.list (cl.map armD)),.pl (.int r'),.pl (.int (xs.length:Int)),.pl (.int (k:Int)),.pl (.int (at_:Int)),s8]=some ((r' % 4==3)&&decide (1<(xs.length:Int))):=by
    have t31:zbr (eOp eqD (eOp modD (eVar 4) (eC (.int 4))) (eC (.int 3))) [.pl (.int c),.pl (zab xs),.pl (.int p),.ac (.list (cl.map armD)),.pl (.int r'),.pl (.int (xs.length:Int)),.pl (.int (k:Int)),.pl (.int (at_:Int)),s8]=some (r' % 4==3):=zgj (ztj (zep rfl rfl (by decide)) rfl)
    have t32:zbr (eOp gtD (eVar 5) (eC (.int 1))) [.pl (.int c),.pl (zab xs),.pl (.int p),.ac (.list (cl.map armD)),.pl (.int r'),.pl (.int (xs.length:Int)),.pl (.int (k:Int)),.pl (.int (at_:Int)),s8]=some (decide (1<(xs.length:Int))):=zgj (zanq rfl rfl)
    unfold zxx
    rw[t31,qB,t32]
    cases(r' % 4==3)<;>rfl
   have fin:∀(a:Arm)(s8':Sl),sSet 4 (eOp zbk (eVar 4) (eOp mulD (eC (.int 4)) (eVar 5))) [.pl (.int c),.pl (zab xs),.pl (.int p),.ac (.list (cl.map armD++[armD a])),.pl (.int r'),.pl (.int (xs.length:Int)),.pl (.int (k:Int)),.pl (.int (at_:Int)),s8']=some (.nx [.pl (.int c),.pl (zab xs),.pl (.int p),.ac (.list ((cl++[a]).map armD)),.pl (.int (r' / (4 * (xs.length:Int)))),.pl (.int (xs.length:Int)),.pl (.int (k:Int)),.pl (.int (at_:Int)),s8']):=λa s8'=>by
    rw[qAL]
    exact zcc (zgv (i:=r') rfl (zajd (i:=4) (j:=(xs.length:Int)) rfl rfl (.inl b64)) (by omega) (by omega))
   have go:∀{G:SF}(a:Arm)(s8':Sl),(∀m∈a.parts,m∈xs)->a.parts.length<=4->a.parts≠[]->G [.pl (.int c),.pl (zab xs),.pl (.int p),.ac (.list (cl.map armD)),.pl (.int r'),.pl (.int (xs.length:Int)),.pl (.int (k:Int)),.pl (.int (at_:Int)),s8]=some (.nx [.pl (.int c),.pl (zab xs),.pl (.int p),.ac (.list (cl.map armD++[armD a])),.pl (.int r'),.pl (.int (xs.length:Int)),.pl (.int (k:Int)),.pl (.int (at_:Int)),s8'])->
     ∃e1 e2,gN 6 (.int (k:Int)) [.pl (.int c),.pl (zab xs),.pl (.int p),.ac (.list (cl.map armD)),.pl (.int r),.pl (.int (xs.length:Int)),s6,s7,s8]=some e1/\((sSeq (sSet 7 (eOp modD (eVar 4) (eVar 5))) (sSeq (sSet 4 (eOp zbk (eVar 4) (eVar 5))) (sSeq G (sSet 4 (eOp zbk (eVar 4) (eOp mulD (eC (.int 4)) (eVar 5))))))) e1=some (.nx e2)\/(sSeq (sSet 7 (eOp modD (eVar 4) (eVar 5))) (sSeq (sSet 4 (eOp zbk (eVar 4) (eVar 5))) (sSeq G (sSet 4 (eOp zbk (eVar 4) (eOp mulD (eC (.int 4)) (eVar 5))))))) e1=some (.ct e2))/\
      ∃(cl':List Arm)(r:Int)(s6 s7 s8:Sl),e2=[.pl (.int c),.pl (zab xs),.pl (.int p),.ac (.list (cl'.map armD)),.pl (.int r),.pl (.int (xs.length:Int)),s6,s7,s8]/\0<=r/\cl'.length=(pre++[k]).length/\CallIn xs cl':=λ{G} a s8' h1 h2 h3 hg=>
    ⟨_,_,rfl,.inl (zar e7 (zar e4 (zar hg (fin a s8')))),cl++[a],_,_,_,_,rfl,qBP q0 (by omega),by simp[hcl],ok.snoc h1 h2 h3⟩
   cases h2:(r' % 4==2)with
   | true=>
    rw[h2]at t2
    obtain⟨a,a1,a2,a3,a4⟩:=zajr (A0:=.pl (.int c)) (A2:=.pl (.int p)) (A6:=.pl (.int (k:Int))) (s8:=s8) (ds:=cl.map armD) (xs:=xs) (r:=r') (n:=xs.length) (at_:=at_) rfl ha hds
    exact go a _ a1 a2 a3 (if_t t2 a4)
   | false=>
    rw[h2]at t2
    cases h3:((r' % 4==3)&&decide (1<(xs.length:Int)))with
    | true=>
     rw[h3]at t3
     have h1:1<xs.length:=by
      have:=of_decide_eq_true (Bool.and_eq_true_iff.mp h3).2
      omega
     obtain⟨a,s8',a1,a2,a3,a4⟩:=zagl (A0:=.pl (.int c)) (A2:=.pl (.int p)) (A6:=.pl (.int (k:Int))) (s8:=s8) (ds:=cl.map armD) (xs:=xs) (r:=r') (n:=xs.length) (at_:=at_) rfl ha h1 q0 hds
     exact go a _ a1 a2 a3 (if_f t2 (if_t t3 a4))
    | false=>
     rw[h3]at t3
     obtain⟨a,a1,a2,a3,a4⟩:=zagk (A0:=.pl (.int c)) (A2:=.pl (.int p)) (A6:=.pl (.int (k:Int))) (s8:=s8) (ds:=cl.map armD) (xs:=xs) (r:=r') (n:=xs.length) (at_:=at_) rfl ha hds
     exact go a _ a1 a2 a3 (if_f t2 (if_f t3 a4)))
 obtain⟨env',lp,cl,r,s6,s7,s8,rfl,_,hcl,ok⟩:=lp
 have el:eCB lenD (zaa (eVar 1) aNil) [.pl (.int c),.pl (zab xs),.pl (.int p),.ac (.list []),.pl (.int c),.no,.no,.no,.no]=some (vi (xs.length:Int)):=by
  have:=zis (a:=eVar 1) (env:=[.pl (.int c),.pl (zab xs),.pl (.int p),.ac (.list []),.pl (.int c),.no,.no,.no,.no]) (ds:=xs.map .str) (fr:=false) (bs:=[]) rfl
  rw[qD]at this
  exact this
 have it:zdw (zaa (eVar 2) aNil) [.pl (.int c),.pl (zab xs),.pl (.int p),.ac (.list []),.pl (.int c),.pl (.int (xs.length:Int)),.no,.no,.no]=some ((List.range p).map (λ(k:Nat)=>PyData.int (k:Int)),[]):=by
  unfold zdw
  rw[zel (r:=vi (p:Int)) rfl,qB]
  simp only
  rw[if_pos (by omega),zmb]
  rfl
 refine⟨cl,zgq rfl (zar rfl (zar (zcc (r:=vi c) rfl) (zar (zcc el) (zar (zir it lp) (zhw (bs:=[3]) rfl))))),by rw[hcl,List.length_range],ok⟩
noncomputable abbrev lfS(xs:List Str):List NT:=(xs.map PyData.str).map NT.lf
theorem zaky:∀(ds:List PyData)(n:Nat),als (ds.map .lf) n=(ds.map .dt,[])
 | [],n=>by unfold als;rfl
 | d::ds,n=>by
  rw[qM]
  unfold als
  have:al (.lf d) n=(.dt d,[]):=by unfold al;rfl
  rw[this]
  simp only[qBi,Nat.add_zero,qCH]
  rw[zaky ds n]
  rfl
theorem zagm(ds:List PyData)(n:Nat):al (.ls (ds.map .lf)) n=(.lo n,[.ls (ds.map .dt)]):=by
 unfold al
 rw[zaky]
theorem zaqz{f:List Nat}{F:SF}{env e2:DEnv}{st:SyT}(h1:slIn f st.sl=true)(h2:F env=some (.nx e2))(h3:noAt e2 st.sl=true):yS f F env st=some (.nx e2 st):=by
 unfold yS
 rw[if_pos h1,h2,qB]
 dsimp only
 rw[if_pos h3]
theorem zbb{a b:SFs}{env e2:DEnv}{st s2:SyT}{o:Option OutS}(h1:a env st=some (.nx e2 s2))(h2:b e2 s2=o):ySeq a b env st=o:=by
 unfold ySeq
 rw[h1];exact h2
theorem zjj{α β:Type}{f:α->Option β}{g:α->β}:∀{xs:List α},(∀x∈xs,f x=some (g x))->mapO f xs=some (xs.map g)
 | [],_=>rfl
 | x::xs,h=>by
  unfold mapO
  rw[h x (.head _),zjj λy hy=>h y (.tail _ hy)]
  rfl
noncomputable abbrev dts(xs:List Str):List SV:=(xs.map PyData.str).map SV.dt
noncomputable abbrev rowN(r:List Str):SN:=.ls (dts r)
theorem zara{hp:List SN}{n k:Nat}{r:List Str}(e:hp[n]?=some (rowN r)):rdV hp (k+1) (.lo n)=some (zab r):=by
 unfold rdV
 rw[e]
 dsimp only
 rw[zjj (g:=λx=>match x with|.dt d=>d|_=>.none) (λx hx=>by
  obtain⟨d,_,rfl⟩:=qg.mp hx
  cases k<;>rfl)]
 rw[qAZ]
 show some (PyData.list _)=some (PyData.list _)
 congr 2
 conv=>rhs;rw[<- List.map_id (r.map PyData.str)]
 rfl
theorem zagn{c:TFs}{a b:SFs}{env:DEnv}{st:SyT}{o:Option OutS}(h:c env st=some false)(k:b env st=o):yIf c a b env st=o:=by unfold yIf;rw[h];exact k
theorem zanv{c:TFs}{a b:SFs}{env:DEnv}{st:SyT}{o:Option OutS}(h:c env st=some true)(k:a env st=o):yIf c a b env st=o:=by unfold yIf;rw[h];exact k
theorem zago{g k:YF}{env:DEnv}{st:SyT}{n:Nat}{xs:List SV}{y:SV}(hg:g env st=some (.lo n))(hn:st.hp[n]?=some (.ls xs))(hl:xs.length<100000)(hk:k env st=some y):yApp g k env st=some (.nx env ⟨st.sl,st.hp.set n (.ls (xs++[y]))⟩):=by
 unfold yApp
 rw[hg,qB]
 unfold lsAt
 dsimp only
 rw[hn]
 dsimp only
 rw[qB,if_pos hl,hk]
 rfl
theorem zanw{g:YF}{env:DEnv}{st:SyT}{n:Nat}{xs:List SV}(hg:g env st=some (.lo n))(hn:st.hp[n]?=some (.ls xs)):yRev g env st=some (.nx env ⟨st.sl,st.hp.set n (.ls xs.reverse)⟩):=by
 unfold yRev
 rw[hg,qB]
 unfold lsAt
 dsimp only
 rw[hn]
 rfl
theorem zarb{W:Web}{S:List Rule}(hr:RulesOk W S){q:Rule}(hq:q∈S):CallOk W (q.2.map Arm.one):=⟨by rw[qD];exact hr.few q hq,λz hz=>by obtain⟨x,_,rfl⟩:=qg.mp hz;show 1<300;decide,λz hz n hn=>by
 obtain⟨x,hx,rfl⟩:=qg.mp hz
 have:n=x:=by simpa [Arm.parts]using hn
 rw[this];exact hr.kinds q hq x hx⟩
theorem zasg{W:Web}(h:WebOk W){p:Nat}{S:List Rule}(hr:RulesOk W S)(ok:OrdOk W p S){q r:Rule}(hq:q∈S)(hm:r∈S):zcd [.dict (dS zab (ups W)),zak r.2,zak q.2]=some (.bool (geB W q.2 r.2),false):=by
 have gf:=zsi h (ks:=r.2) (zarb hr hq) (by rw[qD,ok.size r hm,ok.size q hq];exact qO _)
 rw[zagg,zaaw]at gf
 exact gf
theorem zajt{W:Web}(h:WebOk W){p:Nat}{S:List Rule}(hr:RulesOk W S)(ok:OrdOk W p S):zcv [.dict (dS zab (ups W)),zam S]=some (zab (nms (zwx W S)),true):=by
 have hl:=hr.len
 obtain⟨env',lp,s3,s4,rfl⟩:=zek (enc:=zbg) (g:=gT 2 (zag 3 (zag 4 zbw))) (l:=S) (env:=[.pl (.dict (dS zab (ups W))),.pl (zam S),.ac (zab []),.no,.no])
  (body:=(sIf (zeg (tTru (eCB (anyD λbs=>bs.any id) (zaa (zbx ["_law_one","_law_other"] [0,4] (zaj (eVar 1)) (gT 2 (zag 0 (zag 1 zbw))) zbf (eAnd (eOp neD (eVar 1) (eVar 3)) (zal 3 zcd (zaa (eVar 2) (zaa (eVar 3) (zaa (eVar 1) aNil)))))) aNil)))) (sApp 2 (eVar 3)) sNil))
  (λpre env=>∃s3 s4,env=[.pl (.dict (dS zab (ups W))),.pl (zam S),.ac (zab (nms (pre.filter λr=>!(S.any λq=>zhv W q.2 r.2)))),s3,s4]) ⟨_,_,rfl⟩ (by
   rintro pre r post env hp ⟨s3,s4,rfl⟩
   have hrr:r∈S:=by rw[<- hp];simp
   have hpl:pre.length<300:=by
    have:=congrArg List.length hp
    simp at this;omega
   refine⟨_,[.pl (.dict (dS zab (ups W))),.pl (zam S),.ac (zab (nms ((pre++[r]).filter λr=>!(S.any λq=>zhv W q.2 r.2)))),.pl (.str r.1),.pl (zak r.2)],rfl,.inl ?_,_,_,rfl⟩
   have cm2:zda (gT 2 (zag 0 (zag 1 zbw))) zbf (eAnd (eOp neD (eVar 1) (eVar 3)) (zal 3 zcd (zaa (eVar 2) (zaa (eVar 3) (zaa (eVar 1) aNil))))) [.no,.no,.pl (.dict (dS zab (ups W))),.pl (zak r.2)] (S.map zbg)=some (S.map λq=>.bool (zhv W q.2 r.2)):=by
    refine zby (enc:=zbg) (out:=λq=>.bool (zhv W q.2 r.2)) λq hq=>⟨[.pl (.str q.1),.pl (zak q.2),.pl (.dict (dS zab (ups W))),.pl (zak r.2)],rfl,rfl,vb (zhv W q.2 r.2),?_,rfl⟩
    have e1:eOp neD (eVar 1) (eVar 3) [.pl (.str q.1),.pl (zak q.2),.pl (.dict (dS zab (ups W))),.pl (zak r.2)]=some (vb (!(q.2==r.2))):=by
     show((neD (zak q.2) (zak r.2)).bind λz=>some (⟨z.1,z.2,bsOf z.1 ([]++[])⟩:Val))=_
     rw[zaav (hr.low q hq) (hr.low r hrr)];rfl
    have e2:zal 3 zcd (zaa (eVar 2) (zaa (eVar 3) (zaa (eVar 1) aNil))) [.pl (.str q.1),.pl (zak q.2),.pl (.dict (dS zab (ups W))),.pl (zak r.2)]=some (vb (geB W q.2 r.2)):=zbj (n:=3) (rs:=[⟨.dict (dS zab (ups W)),false,[]⟩,⟨zak r.2,false,[]⟩,⟨zak q.2,false,[]⟩]) rfl rfl (zasg h hr ok hq hrr)
    unfold eAnd
    rw[e1,e2,zajm]
    cases q.2==r.2<;>rfl
   have an:=zaft (zajj (f:=λq:Rule=>zhv W q.2 r.2) (zde (own:=["_law_one","_law_other"]) (fr:=[0,4]) (fi:=zaj (eVar 1)) (env:=[.pl (.dict (dS zab (ups W))),.pl (zam S),.ac (zab (nms (pre.filter λr=>!(S.any λq=>zhv W q.2 r.2)))),.pl (.str r.1),.pl (zak r.2)]) (ds:=S.map zbg) (bs:=[]) rfl (by rw[qD];omega) cm2))
   rw[List.filter_append]
   cases hb:(S.any λq=>zhv W q.2 r.2)with
   | true=>
    rw[hb]at an
    refine if_f an ?_
    rw[show([r].filter λr=>!(S.any λq=>zhv W q.2 r.2))=[] by rw[qBe,hb];rfl,qr]
    rfl
   | false=>
    rw[hb]at an
    refine if_t an ?_
    rw[show([r].filter λr=>!(S.any λq=>zhv W q.2 r.2))=[r] by rw[qBe,hb];rfl]
    have hfl2:(pre.filter λr=>!(S.any λq=>zhv W q.2 r.2)).length<300:=qAu (qAt _ _) hpl
    rw[znq (ds:=(nms (pre.filter λr=>!(S.any λq=>zhv W q.2 r.2))).map .str) (d:=.str r.1) (fr:=false) rfl rfl (by rw[qD,qD];exact qBS hfl2 (by decide))]
    congr 2
    unfold zab
    simp)
 exact zgq rfl (zar rfl (zar (zir (ds:=S.map zbg) (bs:=[]) rfl lp) rfl))
theorem zaju{xs:List Str}(h:LowS xs):qAA (zab xs)=true:=zagi (k:=1) (zaqu (k:=0) (zant h)) (by decide)
theorem zue{xs:List Str}(h:LowS xs)(hl:xs.length<1000):zah [zab xs,zab xs]=some (.bool true,false):=by
 refine zgq (env:=[.pl (zab xs),.pl (zab xs)]) rfl (zar (e1:=[.pl (zab xs),.pl (zab xs)]) ?_ ?_)
 ·refine if_f ?_ rfl
  have l0:eCB lenD (zaa (eVar 0) aNil) [.pl (zab xs),.pl (zab xs)]=some (vi ((xs.map PyData.str).length:Int)):=zis (fr:=false) (bs:=[]) rfl
  have l1:eCB lenD (zaa (eVar 1) aNil) [.pl (zab xs),.pl (zab xs)]=some (vi ((xs.map PyData.str).length:Int)):=zis (fr:=false) (bs:=[]) rfl
  unfold tOrF
  show Option.bind (some false) _=_
  rw[qB,if_neg (by decide)]
  exact zaqt (d:=.int ((xs.map PyData.str).length:Int)) l0 l1 rfl
 ·refine zhw (bs:=[]) ?_
  have c:zda (gN 0) zbf (eIsi "str" (eVar 0)) [.no] (xs.map .str)=some (xs.map λ_=>.bool true):=zby λx _=>⟨[.pl (.str x)],rfl,rfl,vb true,rfl,rfl⟩
  have a:=zajf (f:=λ_:Str=>true) (l:=xs) (zde (own:=["_law_name"]) (fr:=[]) (fi:=zaj (eVar 0)) (env:=[.pl (zab xs),.pl (zab xs)]) (ds:=xs.map .str) (bs:=[]) rfl (by rw[qD];omega) c)
  have e:eOp eqD (eVar 0) (eVar 1) [.pl (zab xs),.pl (zab xs)]=some (vb true):=zasf (d:=zab xs) (f1:=false) (f2:=false) (b1:=[]) (b2:=[]) rfl rfl (zaju h)
  unfold eAnd
  rw[a,e]
  have t:xs.all (λ_=>true)=true:=by simp
  rw[t]
  rfl
noncomputable abbrev lkE(B U C:PyData)(t:Int)(s5 s6 s7:Sl):DEnv:=[.pl B,.pl U,.pl C,.pl (.int t),.no,s5,s6,s7,.no,.no,.no,.no,.no]
noncomputable abbrev lkS(x8 x9 x10 x11 x12:Option SV):List (Option SV):=[none,none,none,none,some (.lo 0),none,none,none,x8,x9,x10,x11,x12]
noncomputable abbrev lkJ:List Nat:=[4,8,9,10,11,12]
noncomputable abbrev lkH(xs:List SV)(tl ns:List SN):List SN:=.ls xs::(tl++ns)
theorem zog{xs:List SV}{tl ns:List SN}{j:Nat}:(lkH xs tl ns)[tl.length+j+1]?=ns[j]?:=by
 show(tl++ns)[tl.length+j]?=_
 rw[qH (by omega),qy]
theorem zakz{xs:List SV}{tl ns:List SN}{j:Nat}{v:SN}:(lkH xs tl ns).set (tl.length+j+1) v=lkH xs tl (ns.set j v):=by
 show SN.ls xs::(tl++ns).set (tl.length+j) v=_
 rw[qBh _ _ (by omega),qy]
theorem zala{xs:List SV}{tl ns:List SN}:(lkH xs tl ns).length=tl.length+ns.length+1:=by
 show(tl++ns).length+1=_
 rw[qJ]
theorem zalb{xs:List SV}{tl ns:List SN}{v:SN}:lkH xs tl ns++[v]=lkH xs tl (ns++[v]):=by
 show SN.ls xs::((tl++ns)++[v])=_
 rw[qAQ]
theorem zash{a b c d e:Option SV}:slIn lkJ (lkS a b c d e)=true:=by
 cases a<;>cases b<;>cases c<;>cases d<;>cases e<;>rfl
theorem zasi{B U C:PyData}{t:Int}{s5 s6 s7:Sl}{a b c d e:Option SV}:noAt (lkE B U C t s5 s6 s7) (lkS a b c d e)=true:=by
 cases a<;>cases b<;>cases c<;>cases d<;>cases e<;>rfl
theorem zlc{fz:List Nat}{i:Nat}{e:EF}{env:DEnv}{sl:List (Option SV)}{xs:List SV}{tl ns:List SN}{r:List Str}(h:e (frzs env fz)=some ⟨zab r,true,[]⟩)(hi:i<env.length) :
  zfm fz i (pFr e) env ⟨sl,lkH xs tl ns⟩=some (.nx ((frzs env fz).set i .no) ⟨(sl++List.replicate (env.length - sl.length) none).set i (some (.lo (tl.length+ns.length+1))),lkH xs tl (ns++[rowN r])⟩):=by
 unfold zfm pFr
 rw[h]
 show Option.bind (some (NT.ls ((r.map PyData.str).map NT.lf))) _=_
 rw[qB,if_pos hi,zagm,zala]
 show some (OutS.nx _ (zaev ⟨sl,lkH xs tl ns++[rowN r]⟩ env.length i (.lo (tl.length+ns.length+1))))=_
 rw[zalb]
 rfl
theorem zalc{i j:Nat}{env:DEnv}{sl:List (Option SV)}{xs:List SV}{tl ns:List SN}{y z:SV}(h4:sl[4]?=some (some (.lo 0)))(hi:sl[i]?=some (some y))(hj:sl[j]?=some (some z))(hl:xs.length<100000) :
  zkc (yVar 4) (yVar i) (yVar j) env ⟨sl,lkH xs tl ns⟩=some (.nx env ⟨sl,lkH (xs++[.lo (tl.length+ns.length+1)]) tl (ns++[.tp [y,z]])⟩):=by
 have v:∀{k:Nat}{x:SV},sl[k]?=some (some x)->yVar k env ⟨sl,lkH xs tl ns⟩=some x:=λ{k x} h=>by unfold yVar;rw[h]
 unfold zkc
 rw[v h4,qB]
 show Option.bind (some ((0:Nat),xs)) _=_
 rw[qB,if_pos hl,v hi,v hj,qB,qB,zala,zalb]
 rfl
theorem zsj{hp:List SN}{n:Nat}{r:List Str}(e:hp[n]?=some (rowN r)):shS hp .no (some (.lo n))=.pl (zab r):=by
 unfold shS
 dsimp only
 rw[zara e]
noncomputable abbrev zagp:SFs:=(ySeq (yS [4,8,9,10,11,12] (sSet 7 (zbx ["_law_rule"] [1,6] (zaj (eIxV 0 (eC (.int 2)))) (gN 0) (tTru (zal 3 zcd (zaa (eVar 1) (zaa (eIxV 0 (eC (.int 1))) (zaa (eVar 2) aNil))))) (eVar 0))))
  (ySeq (zfm [7] 8 (pFr (zbx ["_law_name","_law_kinds"] [] (zaj (eVar 7)) (gT 2 (zag 0 (zag 1 zbw))) zbf (eVar 0))))
  (ySeq (zfm [7] 9 (pFr (zal 2 zcv (zaa (eVar 1) (zaa (eVar 7) aNil)))))
  (ySeq (yIf (yT (zbr (eOp eqD (eOp modD (eOp addD (eVar 3) (eVar 5)) (eC (.int 2))) (eC (.int 0))))) (ySeq (zfm [6] 10 (pFr (zal 2 zck (zaa (eVar 0) (zaa (eVar 6) aNil)))))
  (zfm [6] 11 (pFr (zal 2 zcg (zaa (eVar 0) (zaa (eVar 6) aNil)))))) (ySeq (zfm [6] 11 (pFr (zal 2 zcg (zaa (eVar 0) (zaa (eVar 6) aNil)))))
  (zfm [6] 10 (pFr (zal 2 zck (zaa (eVar 0) (zaa (eVar 6) aNil)))))))
  (ySeq (yIf (yT (tOrF (zeg (tTru (zal 2 zah (zaa (eVar 10) (zaa (eVar 8) aNil))))) (zeg (tTru (zal 2 zah (zaa (eVar 11) (zaa (eVar 9) aNil))))))) (yRet (yE (eC (.bool false)))) yNil)
  (ySeq (zkc (yVar 4) (yVar 10) (yVar 8))
  (ySeq (zkc (yVar 4) (yVar 11) (yVar 9))
  (ySeq (zfm [6] 12 (pFr (zal 2 zck (zaa (eVar 0) (zaa (eVar 6) aNil)))))
  (ySeq (yRev (yVar 12))
  (ySeq (yApp (yVar 12) (yFl (yE (eC (.str "a")))))
  (ySeq (zyi (zal 2 zcg (zaa (eVar 0) (zaa (eVar 6) aNil))))
  (yIf (yT (tOrF (zeg (tTru (zal 2 zah (zaa (zal 2 zcg (zaa (eVar 0) (zaa (eVar 6) aNil))) (zaa (eVar 9) aNil))))) (zeg (tTru (zal 2 zah (zaa (zal 2 zck (zaa (eVar 0) (zaa (eVar 6) aNil))) (zaa (eVar 8) aNil))))))) (yRet (yE (eC (.bool false)))) yNil))))))))))))
theorem zagq:zbd=yFor lkJ (zlp (zaa (eVar 2) aNil)) (gT 2 (zag 5 (zag 6 zbw))) zagp:=rfl
theorem zagr{a b c d:EF}{env:DEnv}{r1 r2 r3 r4:Val}(ha:a env=some r1)(hb:b env=some r2)(hc:c env=some r3)(hd:d env=some r4)(k1:zah [r1.d,r2.d]=some (.bool true,false))(k2:zah [r3.d,r4.d]=some (.bool true,false)) :
  tOrF (zeg (tTru (zal 2 zah (zaa a (zaa b aNil))))) (zeg (tTru (zal 2 zah (zaa c (zaa d aNil))))) env=some false:=by
 have t:∀{x y:EF}{p q:Val},x env=some p->y env=some q->zah [p.d,q.d]=some (.bool true,false)->zeg (tTru (zal 2 zah (zaa x (zaa y aNil)))) env=some false:=λ{x y p q} h1 h2 k=>by
  unfold zeg
  rw[zuc (n:=2) (rs:=[p,q]) (zcj h1 (zel h2)) rfl k]
  rfl
 unfold tOrF
 rw[t ha hb k1]
 exact t hc hd k2
section
variable{B U C cd:PyData}{t k:Int}{S:List Rule}{F N:List Str}{xs:List SV}{tl:List SN}{sl:List (Option SV)}{s7:Sl}{x9 x10 x11 x12:Option SV}
theorem zags(lF:LowS F)(lN:LowS N)(nF:F.length<1000)(nN:N.length<1000)(hx:xs.length<90000)
  (h1:slIn lkJ sl=true) (h2:noAt (lkE B U C t (.pl (.int k)) (.pl cd) (.ac (zam S))) sl=true) (h3:∀x,(sl++List.replicate (13 - sl.length) none).set 8 (some x)=lkS (some x) x9 x10 x11 x12)
  (e7:sSet 7 (zbx ["_law_rule"] [1,6] (zaj (eIxV 0 (eC (.int 2)))) (gN 0) (tTru (zal 3 zcd (zaa (eVar 1) (zaa (eIxV 0 (eC (.int 1))) (zaa (eVar 2) aNil))))) (eVar 0)) (lkE B U C t (.pl (.int k)) (.pl cd) s7)=some (.nx (lkE B U C t (.pl (.int k)) (.pl cd) (.ac (zam S)))))
  (e8:zbx ["_law_name","_law_kinds"] [] (zaj (eVar 7)) (gT 2 (zag 0 (zag 1 zbw))) zbf (eVar 0) (lkE B U C t (.pl (.int k)) (.pl cd) (.pl (zam S)))=some ⟨zab F,true,[]⟩)
  (e9:zcv [U,zam S]=some (zab N,true))(ef:zck [B,cd]=some (zab F,true))(en:zcg [B,cd]=some (zab N,true)) :
  ∃told low mid,(((t+k) % 2=0/\told=SV.lo (tl.length+2+1)/\low=SV.lo (tl.length+3+1)/\mid=[rowN F,rowN N])\/(told=SV.lo (tl.length+3+1)/\low=SV.lo (tl.length+2+1)/\mid=[rowN N,rowN F]))/\
   zagp (lkE B U C t (.pl (.int k)) (.pl cd) s7) ⟨sl,lkH xs tl []⟩=some (.nx (lkE B U C t (.pl (.int k)) (.pl cd) (.pl (zam S))) ⟨lkS (some (.lo (tl.length+0+1))) (some (.lo (tl.length+1+1))) (some told) (some low) (some (.lo (tl.length+6+1))),
    lkH (xs++[.lo (tl.length+4+1)]++[.lo (tl.length+5+1)]) tl ([rowN F,rowN N]++mid++[.tp [told,.lo (tl.length+0+1)],.tp [low,.lo (tl.length+1+1)],.ls ((dts F).reverse++[.dt (.str "a")])])⟩):=by
 have y1:=zaqz (F:=sSet 7 (zbx ["_law_rule"] [1,6] (zaj (eIxV 0 (eC (.int 2)))) (gN 0) (tTru (zal 3 zcd (zaa (eVar 1) (zaa (eIxV 0 (eC (.int 1))) (zaa (eVar 2) aNil))))) (eVar 0))) (st:=⟨sl,lkH xs tl []⟩) h1 e7 h2
 have y2:=zlc (fz:=[7]) (i:=8) (env:=lkE B U C t (.pl (.int k)) (.pl cd) (.ac (zam S))) (sl:=sl) (xs:=xs) (tl:=tl) (ns:=[]) e8 (by show 8<13;decide)
 rw[show(lkE B U C t (.pl (.int k)) (.pl cd) (.ac (zam S))).length=13 from rfl,h3]at y2
 have a0:zaa (eVar 1) (zaa (eVar 7) aNil) (lkE B U C t (.pl (.int k)) (.pl cd) (.pl (zam S)))=some [⟨U,false,[]⟩,⟨zam S,false,[]⟩]:=rfl
 have y3:=zlc (fz:=[7]) (i:=9) (env:=lkE B U C t (.pl (.int k)) (.pl cd) (.pl (zam S))) (sl:=lkS (some (.lo (tl.length+0+1))) x9 x10 x11 x12) (xs:=xs) (tl:=tl) (ns:=[rowN F]) (e:=zal 2 zcv (zaa (eVar 1) (zaa (eVar 7) aNil))) (r:=N) (zbj (n:=2) (rs:=[⟨U,false,[]⟩,⟨zam S,false,[]⟩]) a0 rfl e9) (by show 9<13;decide)
 have cf:∀env:DEnv,env[0]?=some (.pl B)->env[6]?=some (.pl cd)->zal 2 zck (zaa (eVar 0) (zaa (eVar 6) aNil)) env=some ⟨zab F,true,[]⟩:=λenv g1 g2=>
  zbj (n:=2) (rs:=[⟨B,false,[]⟩,⟨cd,false,[]⟩]) (zcj (by unfold eVar;rw[g1]) (zel (by unfold eVar;rw[g2]))) rfl ef
 have cn:∀env:DEnv,env[0]?=some (.pl B)->env[6]?=some (.pl cd)->zal 2 zcg (zaa (eVar 0) (zaa (eVar 6) aNil)) env=some ⟨zab N,true,[]⟩:=λenv g1 g2=>
  zbj (n:=2) (rs:=[⟨B,false,[]⟩,⟨cd,false,[]⟩]) (zcj (by unfold eVar;rw[g1]) (zel (by unfold eVar;rw[g2]))) rfl en
 have sF:=zue lF nF
 have sN:=zue lN nN
 have tail:∀(told low:SV)(mid:List SN)(i j:Nat),mid.length=2->told=.lo (tl.length+i+1)->low=.lo (tl.length+j+1)->([rowN F,rowN N]++mid)[i]?=some (rowN F)->([rowN F,rowN N]++mid)[j]?=some (rowN N)->
   (ySeq (yIf (yT (tOrF (zeg (tTru (zal 2 zah (zaa (eVar 10) (zaa (eVar 8) aNil))))) (zeg (tTru (zal 2 zah (zaa (eVar 11) (zaa (eVar 9) aNil))))))) (yRet (yE (eC (.bool false)))) yNil)
   (ySeq (zkc (yVar 4) (yVar 10) (yVar 8))
   (ySeq (zkc (yVar 4) (yVar 11) (yVar 9))
   (ySeq (zfm [6] 12 (pFr (zal 2 zck (zaa (eVar 0) (zaa (eVar 6) aNil)))))
   (ySeq (yRev (yVar 12))
   (ySeq (yApp (yVar 12) (yFl (yE (eC (.str "a")))))
   (ySeq (zyi (zal 2 zcg (zaa (eVar 0) (zaa (eVar 6) aNil))))
   (yIf (yT (tOrF (zeg (tTru (zal 2 zah (zaa (zal 2 zcg (zaa (eVar 0) (zaa (eVar 6) aNil))) (zaa (eVar 9) aNil))))) (zeg (tTru (zal 2 zah (zaa (zal 2 zck (zaa (eVar 0) (zaa (eVar 6) aNil))) (zaa (eVar 8) aNil))))))) (yRet (yE (eC (.bool false)))) yNil)))))))) (lkE B U C t (.pl (.int k)) (.pl cd) (.pl (zam S))) ⟨lkS (some (.lo (tl.length+0+1))) (some (.lo (tl.length+1+1))) (some told) (some low) x12,lkH xs tl ([rowN F,rowN N]++mid)⟩ =
   some (.nx (lkE B U C t (.pl (.int k)) (.pl cd) (.pl (zam S))) ⟨lkS (some (.lo (tl.length+0+1))) (some (.lo (tl.length+1+1))) (some told) (some low) (some (.lo (tl.length+6+1))),
    lkH (xs++[.lo (tl.length+4+1)]++[.lo (tl.length+5+1)]) tl ([rowN F,rowN N]++mid++[.tp [told,.lo (tl.length+0+1)],.tp [low,.lo (tl.length+1+1)],.ls ((dts F).reverse++[.dt (.str "a")])])⟩):=by
  intro told low mid i j hm ht hlw gi gj
  obtain⟨m1,m2,rfl⟩:∃m1 m2,mid=[m1,m2]:=by
   match mid,hm with
   | [a,b],_=>exact⟨a,b,rfl⟩
  have u1:yT (tOrF (zeg (tTru (zal 2 zah (zaa (eVar 10) (zaa (eVar 8) aNil))))) (zeg (tTru (zal 2 zah (zaa (eVar 11) (zaa (eVar 9) aNil)))))) (lkE B U C t (.pl (.int k)) (.pl cd) (.pl (zam S))) ⟨lkS (some (.lo (tl.length+0+1))) (some (.lo (tl.length+1+1))) (some told) (some low) x12,lkH xs tl ([rowN F,rowN N]++[m1,m2])⟩=some false:=by
   unfold yT
   refine zagr (r1:=⟨zab F,false,[]⟩) (r2:=⟨zab F,false,[]⟩) (r3:=⟨zab N,false,[]⟩) (r4:=⟨zab N,false,[]⟩) ?_ ?_ ?_ ?_ sF sN
   ·show(match some (shS (lkH xs tl ([rowN F,rowN N]++[m1,m2])) .no (some told))with|some (.pl d)=>some (⟨d,false,[]⟩:Val)|some (.ac d)=>some ⟨d,false,[10]⟩|_=>none)=_
    rw[ht,zsj (r:=F) (zog.trans gi)]
   ·show(match some (shS (lkH xs tl ([rowN F,rowN N]++[m1,m2])) .no (some (.lo (tl.length+0+1))))with|some (.pl d)=>some (⟨d,false,[]⟩:Val)|some (.ac d)=>some ⟨d,false,[8]⟩|_=>none)=_
    rw[show shS (lkH xs tl ([rowN F,rowN N]++[m1,m2])) .no (some (.lo (tl.length+0+1)))=_ from zsj (r:=F) ((zog (j:=0)).trans rfl)]
   ·show(match some (shS (lkH xs tl ([rowN F,rowN N]++[m1,m2])) .no (some low))with|some (.pl d)=>some (⟨d,false,[]⟩:Val)|some (.ac d)=>some ⟨d,false,[11]⟩|_=>none)=_
    rw[hlw,zsj (r:=N) (zog.trans gj)]
   ·show(match some (shS (lkH xs tl ([rowN F,rowN N]++[m1,m2])) .no (some (.lo (tl.length+1+1))))with|some (.pl d)=>some (⟨d,false,[]⟩:Val)|some (.ac d)=>some ⟨d,false,[9]⟩|_=>none)=_
    rw[zsj (r:=N) (zog.trans rfl)]
  have u2:=zalc (i:=10) (j:=8) (env:=lkE B U C t (.pl (.int k)) (.pl cd) (.pl (zam S))) (sl:=lkS (some (.lo (tl.length+0+1))) (some (.lo (tl.length+1+1))) (some told) (some low) x12) (xs:=xs) (tl:=tl) (ns:=[rowN F,rowN N]++[m1,m2]) rfl rfl rfl (by omega)
  have u3:=zalc (i:=11) (j:=9) (env:=lkE B U C t (.pl (.int k)) (.pl cd) (.pl (zam S))) (sl:=lkS (some (.lo (tl.length+0+1))) (some (.lo (tl.length+1+1))) (some told) (some low) x12) (xs:=xs++[.lo (tl.length+4+1)]) (tl:=tl) (ns:=[rowN F,rowN N]++[m1,m2]++[.tp [told,.lo (tl.length+0+1)]]) rfl rfl rfl (by rw[qJ];show xs.length+1<100000;omega)
  have u4:=zlc (fz:=[6]) (i:=12) (env:=lkE B U C t (.pl (.int k)) (.pl cd) (.pl (zam S))) (sl:=lkS (some (.lo (tl.length+0+1))) (some (.lo (tl.length+1+1))) (some told) (some low) x12) (xs:=xs++[.lo (tl.length+4+1)]++[.lo (tl.length+5+1)]) (tl:=tl) (ns:=[rowN F,rowN N]++[m1,m2]++[.tp [told,.lo (tl.length+0+1)]]++[.tp [low,.lo (tl.length+1+1)]]) (cf (lkE B U C t (.pl (.int k)) (.pl cd) (.pl (zam S))) rfl rfl) (by show 12<13;decide)
  let st5:SyT:=⟨lkS (some (.lo (tl.length+0+1))) (some (.lo (tl.length+1+1))) (some told) (some low) (some (.lo (tl.length+6+1))),lkH (xs++[.lo (tl.length+4+1)]++[.lo (tl.length+5+1)]) tl [rowN F,rowN N,m1,m2,.tp [told,.lo (tl.length+0+1)],.tp [low,.lo (tl.length+1+1)],rowN F]⟩
  have u5:yRev (yVar 12) (lkE B U C t (.pl (.int k)) (.pl cd) (.pl (zam S))) st5=some (.nx (lkE B U C t (.pl (.int k)) (.pl cd) (.pl (zam S))) ⟨st5.sl,lkH (xs++[.lo (tl.length+4+1)]++[.lo (tl.length+5+1)]) tl [rowN F,rowN N,m1,m2,.tp [told,.lo (tl.length+0+1)],.tp [low,.lo (tl.length+1+1)],.ls (dts F).reverse]⟩):=by
   refine(zanw (st:=st5) (n:=tl.length+6+1) (xs:=dts F) rfl (zog.trans rfl)).trans ?_
   rw[show st5.hp.set (tl.length+6+1) (SN.ls (dts F).reverse)=_ from zakz]
   rfl
  have u6:yApp (yVar 12) (yFl (yE (eC (.str "a")))) (lkE B U C t (.pl (.int k)) (.pl cd) (.pl (zam S))) ⟨st5.sl,lkH (xs++[.lo (tl.length+4+1)]++[.lo (tl.length+5+1)]) tl [rowN F,rowN N,m1,m2,.tp [told,.lo (tl.length+0+1)],.tp [low,.lo (tl.length+1+1)],.ls (dts F).reverse]⟩=some (.nx (lkE B U C t (.pl (.int k)) (.pl cd) (.pl (zam S))) ⟨st5.sl,lkH (xs++[.lo (tl.length+4+1)]++[.lo (tl.length+5+1)]) tl [rowN F,rowN N,m1,m2,.tp [told,.lo (tl.length+0+1)],.tp [low,.lo (tl.length+1+1)],.ls ((dts F).reverse++[.dt (.str "a")])]⟩):=by
   refine(zago (st:=⟨st5.sl,_⟩) (n:=tl.length+6+1) (xs:=(dts F).reverse) (y:=.dt (.str "a")) rfl (zog.trans rfl) (by rw[qC1,qD,qD];omega) rfl).trans ?_
   rw[show List.set _ (tl.length+6+1) (SN.ls ((dts F).reverse++[SV.dt (.str "a")]))=_ from zakz]
   rfl
  have u7:∀st:SyT,(zee st.hp (lkE B U C t (.pl (.int k)) (.pl cd) (.pl (zam S))) st.sl)[0]?=some (.pl B)->(zee st.hp (lkE B U C t (.pl (.int k)) (.pl cd) (.pl (zam S))) st.sl)[6]?=some (.pl cd)->zyi (zal 2 zcg (zaa (eVar 0) (zaa (eVar 6) aNil))) (lkE B U C t (.pl (.int k)) (.pl cd) (.pl (zam S))) st=some (.nx (lkE B U C t (.pl (.int k)) (.pl cd) (.pl (zam S))) st):=λst g1 g2=>by
   unfold zyi
   rw[cn _ g1 g2]
   rfl
  refine zbb (zagn u1 rfl) (zbb u2 (zbb u3 (zbb u4 (zbb (a:=yRev (yVar 12)) u5 (zbb u6 (zbb (u7 _ rfl rfl) (zagn ?_ rfl)))))))
  unfold yT
  refine zagr (r1:=⟨zab N,true,[]⟩) (r2:=⟨zab N,false,[]⟩) (r3:=⟨zab F,true,[]⟩) (r4:=⟨zab F,false,[]⟩) (cn _ rfl rfl) ?_ (cf _ rfl rfl) ?_ sN sF
  ·show(match some (shS (lkH (xs++[.lo (tl.length+4+1)]++[.lo (tl.length+5+1)]) tl [rowN F,rowN N,m1,m2,.tp [told,.lo (tl.length+0+1)],.tp [low,.lo (tl.length+1+1)],.ls ((dts F).reverse++[.dt (.str "a")])]) .no (some (.lo (tl.length+1+1))))with|some (.pl d)=>some (⟨d,false,[]⟩:Val)|some (.ac d)=>some ⟨d,false,[9]⟩|_=>none)=_
   rw[zsj (r:=N) (zog.trans rfl)]
  ·show(match some (shS (lkH (xs++[.lo (tl.length+4+1)]++[.lo (tl.length+5+1)]) tl [rowN F,rowN N,m1,m2,.tp [told,.lo (tl.length+0+1)],.tp [low,.lo (tl.length+1+1)],.ls ((dts F).reverse++[.dt (.str "a")])]) .no (some (.lo (tl.length+0+1))))with|some (.pl d)=>some (⟨d,false,[]⟩:Val)|some (.ac d)=>some ⟨d,false,[8]⟩|_=>none)=_
   rw[show shS (lkH (xs++[.lo (tl.length+4+1)]++[.lo (tl.length+5+1)]) tl [rowN F,rowN N,m1,m2,.tp [told,.lo (tl.length+0+1)],.tp [low,.lo (tl.length+1+1)],.ls ((dts F).reverse++[.dt (.str "a")])]) .no (some (.lo (tl.length+0+1)))=_ from zsj (r:=F) ((zog (j:=0)).trans rfl)]
 have tc:∀(sl':List (Option SV))(hp:List SN),(zee hp (lkE B U C t (.pl (.int k)) (.pl cd) (.pl (zam S))) sl')[3]?=some (.pl (.int t))->(zee hp (lkE B U C t (.pl (.int k)) (.pl cd) (.pl (zam S))) sl')[5]?=some (.pl (.int k))->yT (zbr (eOp eqD (eOp modD (eOp addD (eVar 3) (eVar 5)) (eC (.int 2))) (eC (.int 0)))) (lkE B U C t (.pl (.int k)) (.pl cd) (.pl (zam S))) ⟨sl',hp⟩=some ((t+k) % 2==0):=λsl' hp g1 g2=>by
  unfold yT
  exact zgj (ztj (zep (zoi (i:=t) (j:=k) (by unfold eVar;rw[g1]) (by unfold eVar;rw[g2])) rfl (by decide)) rfl)
 by_cases ev:(t+k) % 2=0
 ·refine⟨_,_,_,.inl ⟨ev,rfl,rfl,rfl⟩,zbb y1 (zbb y2 (zbb y3 (zbb (zanv ((tc (lkS (some (.lo (tl.length+0+1))) (some (.lo (tl.length+1+1))) x10 x11 x12) (lkH xs tl [rowN F,rowN N]) rfl rfl).trans (by rw[ev];rfl)) (zbb (zlc (fz:=[6]) (i:=10) (cf _ rfl rfl) (by show 10<13;decide)) (zlc (fz:=[6]) (i:=11) (cn _ rfl rfl) (by show 11<13;decide)))) (tail (.lo (tl.length+2+1)) (.lo (tl.length+3+1)) [rowN F,rowN N] 2 3 rfl rfl rfl rfl rfl))))⟩
 ·refine⟨_,_,_,.inr ⟨rfl,rfl,rfl⟩,zbb y1 (zbb y2 (zbb y3 (zbb (zagn ((tc (lkS (some (.lo (tl.length+0+1))) (some (.lo (tl.length+1+1))) x10 x11 x12) (lkH xs tl [rowN F,rowN N]) rfl rfl).trans (by rw[beq_eq_false_iff_ne.mpr ev])) (zbb (zlc (fz:=[6]) (i:=11) (cn _ rfl rfl) (by show 11<13;decide)) (zlc (fz:=[6]) (i:=10) (cf _ rfl rfl) (by show 10<13;decide)))) (tail (.lo (tl.length+3+1)) (.lo (tl.length+2+1)) [rowN N,rowN F] 3 2 rfl rfl rfl rfl rfl))))⟩
end
noncomputable abbrev zjw(r:List Str):NT:=.ls (lfS r)
noncomputable abbrev ltF(F N:List Str):List NT:=[.tp [zjw F,zjw F],.tp [zjw N,zjw N]]
theorem zald{hp:List SN}{n k:Nat}{r:List Str}(e:hp[n]?=some (rowN r)):ntV hp (k+1) (.lo n)=some (zjw r,[n]):=by
 unfold ntV
 rw[e]
 dsimp only
 rw[zjj (g:=λx=>match x with|.dt d=>(NT.lf d,[])|_=>(NT.lf .none,[])) (λx hx=>by
  obtain⟨d,hd,rfl⟩:=qg.mp hx
  obtain⟨s,_,rfl⟩:=qg.mp hd
  cases k<;>rfl)]
 simp[zjw,lfS,qBr]
theorem zale{hp:List SN}{n a b k:Nat}{r s:List Str}(e:hp[n]?=some (.tp [.lo a,.lo b]))(ea:hp[a]?=some (rowN r))(eb:hp[b]?=some (rowN s)):ntV hp (k+2) (.lo n)=some (.tp [zjw r,zjw s],[n,a,b]):=by
 unfold ntV
 rw[e]
 dsimp only
 unfold mapO
 rw[zald ea,qB]
 unfold mapO
 rw[zald eb,qB]
 rfl
theorem zacg{x0:SN}{tl ns ext:List SN}{j:Nat}{v:SN}(h:ns[j]?=some v):(x0::(tl++ns++ext))[tl.length+j+1]?=some v:=by
 have hj:=(qK.mp h).1
 show(tl++ns++ext)[tl.length+j]?=_
 rw[qI (by rw[qJ];omega),qH (by omega),qy]
 exact h
section
variable{W:Web}{p:Nat}{rs:List Rule}{t:Int}
noncomputable abbrev UU(W:Web):PyData:=.dict (dS zab (ups W))
noncomputable abbrev fN(W:Web)(rs:List Rule)(c:List Arm):List Str:=nms (fitL W rs c)
noncomputable abbrev nN(W:Web)(rs:List Rule)(c:List Arm):List Str:=nms (zwx W (fitL W rs c))
theorem zasj(h:WebOk W)(hr:RulesOk W rs)(ok:OrdOk W p rs){c:List Arm}(hc:CallOk W c)(hp:c.length=p){C:PyData}{k:Int}{s7:Sl} :
  sSet 7 (zbx ["_law_rule"] [1,6] (zaj (eIxV 0 (eC (.int 2)))) (gN 0) (tTru (zal 3 zcd (zaa (eVar 1) (zaa (eIxV 0 (eC (.int 1))) (zaa (eVar 2) aNil))))) (eVar 0)) (lkE (zdu W p rs) (UU W) C t (.pl (.int k)) (.pl (zat c)) s7)=some (.nx (lkE (zdu W p rs) (UU W) C t (.pl (.int k)) (.pl (zat c)) (.ac (zam (fitL W rs c))))):=by
 have hl:=hr.len
 have cm:zda (gN 0) (tTru (zal 3 zcd (zaa (eVar 1) (zaa (eIxV 0 (eC (.int 1))) (zaa (eVar 2) aNil))))) (eVar 0) [.no,.pl (UU W),.pl (zat c)] (rs.map zbg)=some ((fitL W rs c).map zbg):=
  zec (enc:=zbg) (out:=zbg) (e:=eVar 0) (λr=>fitB W r.2 c) λr hm=>⟨[.pl (zbg r),.pl (UU W),.pl (zat c)],rfl,zuc (n:=3) (rs:=[⟨UU W,false,[]⟩,⟨zak r.2,false,[]⟩,⟨zat c,false,[]⟩]) rfl rfl (zsi h hc (by rw[hp,ok.size r hm];exact qO _)),λ_=>⟨⟨zbg r,false,[]⟩,rfl,rfl⟩⟩
 have co:=zde (own:=["_law_rule"]) (fr:=[1,6]) (fi:=zaj (eIxV 0 (eC (.int 2)))) (env:=lkE (zdu W p rs) (UU W) C t (.pl (.int k)) (.pl (zat c)) s7) (ds:=rs.map zbg) (bs:=[]) rfl (by rw[qD];omega) cm
 have e0:(if zdo ((fitL W rs c).map zbg)=true then([]:List Nat)else[]++capA [1,6] (lkE (zdu W p rs) (UU W) C t (.pl (.int k)) (.pl (zat c)) s7))=[]:=by split<;>rfl
 rw[show(if zdo ((fitL W rs c).map zbg)=true then([]:List Nat)else _)=[]from e0]at co
 exact zcc co
theorem zask{S:List Rule}(hl:S.length<300){B U C:PyData}{s5 s6:Sl}:zbx ["_law_name","_law_kinds"] [] (zaj (eVar 7)) (gT 2 (zag 0 (zag 1 zbw))) zbf (eVar 0) (lkE B U C t s5 s6 (.pl (zam S)))=some ⟨zab (nms S),true,[]⟩:=by
 have cm:zda (gT 2 (zag 0 (zag 1 zbw))) zbf (eVar 0) [.no,.no] (S.map zbg)=some (S.map λr=>.str r.1):=
  zby (enc:=zbg) λr _=>⟨[.pl (.str r.1),.pl (zak r.2)],rfl,rfl,vs r.1,rfl,rfl⟩
 have co:=zde (own:=["_law_name","_law_kinds"]) (fr:=[]) (fi:=zaj (eVar 7)) (env:=lkE B U C t s5 s6 (.pl (zam S))) (ds:=S.map zbg) (bs:=[]) rfl (by rw[qD];omega) cm
 have em:(S.map λr=>PyData.str r.1)=(nms S).map .str:=by rw[qAZ];rfl
 rw[em,zjs]at co
 exact co
theorem zxd(h:WebOk W)(hr:RulesOk W rs)(ok:OrdOk W p rs)(lo:∀r∈rs,qAJ r.1=true){C:PyData} :
  ∀(l:List (Nat×List Arm))(xs:List SV)(tl:List SN)(sl:List (Option SV))(s5 s6 s7:Sl)(x9 x10 x11 x12:Option SV),(∀z∈l,CallOk W z.2/\z.2.length=p)->xs.length+2 * l.length<90000->
   slIn lkJ sl=true->(∀s5 s6 s7,noAt (lkE (zdu W p rs) (UU W) C t s5 s6 s7) sl=true)->(∀x,(sl++List.replicate (13 - sl.length) none).set 8 (some x)=lkS (some x) x9 x10 x11 x12)->
   ∃s5' s6' s7' sl' rows more tn,forY lkJ (gT 2 (zag 5 (zag 6 zbw))) zagp (l.map λz=>.tuple [.int (z.1:Int),zat z.2]) (lkE (zdu W p rs) (UU W) C t s5 s6 s7) ⟨sl,.ls xs::tl⟩=some (.nx (lkE (zdu W p rs) (UU W) C t s5' s6' s7') ⟨sl',.ls (xs++rows)::(tl++more)⟩)/\
    (∀x0 ext,mapO (ntV (x0::(tl++more++ext)) 9) rows=some tn)/\tn.map (·.1)=l.flatMap (λz=>ltF (fN W rs z.2) (nN W rs z.2))/\(tn.map (·.2)).flatten.Nodup/\∀n∈(tn.map (·.2)).flatten,tl.length+1<=n/\n<(tl++more).length+1
 | [],xs,tl,sl,s5,s6,s7,x9,x10,x11,x12,hz,hx,h1,h2,h3=>⟨s5,s6,s7,sl,[],[],[],by rw[qr,qr];rfl,λ_ _=>rfl,rfl,.nil,λn hn=>(nomatch hn)⟩
 | z::l,xs,tl,sl,s5,s6,s7,x9,x10,x11,x12,hz,hx,h1,h2,h3=>by
  obtain⟨hc,hp⟩:=hz z (.head _)
  have hrs:=hr.len
  have okS:OrdOk W p (fitL W rs z.2):=ok.filter _
  have hrS:RulesOk W (fitL W rs z.2):=hr.filter _
  have lF:LowS (fN W rs z.2):=λx hx=>by
   obtain⟨r,hr',rfl⟩:=qg.mp hx
   exact lo r (qAK.mp hr').1
  have lN:LowS (nN W rs z.2):=λx hx=>by
   obtain⟨r,hr',rfl⟩:=qg.mp hx
   exact lo r (qAK.mp (qAK.mp hr').1).1
  have nF:(fN W rs z.2).length<1000:=by rw[qD];exact qBS hrS.len (by decide)
  have nN':(nN W rs z.2).length<1000:=by rw[qD];exact qAu (qAt _ _) (qBS hrS.len (by decide))
  have gf:=zafz h hr hc
  have gn:=zaga h hr hc
  rw[hp]at gf gn
  simp only[qAe]at hx
  obtain⟨told,low,mid,hk,tu⟩:=zags (tl:=tl) (xs:=xs) (t:=t) (k:=(z.1:Int)) (C:=C) (s7:=s7) lF lN nF nN' (by omega) h1 (h2 _ _ _) h3 (zasj h hr ok hc hp) (zask hrS.len) (zajt h hrS okS) gf gn
  generalize hns:([rowN (fN W rs z.2),rowN (nN W rs z.2)]++mid++[.tp [told,.lo (tl.length+0+1)],.tp [low,.lo (tl.length+1+1)],.ls ((dts (fN W rs z.2)).reverse++[.dt (.str "a")])])=ns at tu
  have hm:mid.length=2:=by rcases hk with⟨_,_,_,rfl⟩|⟨_,_,rfl⟩<;>rfl
  have n7:ns.length=7:=by rw[<- hns,qJ,qJ,hm];rfl
  obtain⟨s5',s6',s7',sl',rows,more,tn,e1,e2,e3,e4,e5⟩:=zxd h hr ok lo l (xs++[.lo (tl.length+4+1)]++[.lo (tl.length+5+1)]) (tl++ns) _ (.pl (.int (z.1:Int))) (.pl (zat z.2)) (.pl (zam (fitL W rs z.2))) (some (.lo (tl.length+1+1))) (some told) (some low) (some (.lo (tl.length+6+1))) (λy hy=>hz y (.tail _ hy)) (by rw[qJ,qJ];show xs.length+1+1+2 * l.length<90000;omega) zash (λ_ _ _=>zasi) (λ_=>rfl)
  obtain⟨it,il,ht,hlw,hne,n0,n1,n4,n5,gt,gl,ib,lb⟩:∃it il:Nat,told=.lo (tl.length+it+1)/\low=.lo (tl.length+il+1)/\it≠il/\ns[0]?=some (rowN (fN W rs z.2))/\ns[1]?=some (rowN (nN W rs z.2))/\ns[4]?=some (.tp [told,.lo (tl.length+0+1)])/\ns[5]?=some (.tp [low,.lo (tl.length+1+1)])/\ns[it]?=some (rowN (fN W rs z.2))/\ns[il]?=some (rowN (nN W rs z.2))/\(it=2\/it=3)/\(il=2\/il=3):=by
   rcases hk with⟨_,rfl,rfl,rfl⟩|⟨rfl,rfl,rfl⟩<;>subst hns
   ·exact⟨2,3,rfl,rfl,by decide,rfl,rfl,rfl,rfl,rfl,rfl,.inl rfl,.inr rfl⟩
   ·exact⟨3,2,rfl,rfl,by decide,rfl,rfl,rfl,rfl,rfl,rfl,.inr rfl,.inl rfl⟩
  subst ht hlw
  refine⟨s5',s6',s7',sl',[.lo (tl.length+4+1),.lo (tl.length+5+1)]++rows,ns++more,(.tp [zjw (fN W rs z.2),zjw (fN W rs z.2)],[tl.length+4+1,tl.length+it+1,tl.length+0+1])::(.tp [zjw (nN W rs z.2),zjw (nN W rs z.2)],[tl.length+5+1,tl.length+il+1,tl.length+1+1])::tn,?_,λx0 ext=>?_,?_,?_,?_⟩
  ·rw[qM]
   unfold forY
   show Option.bind (some (lkE (zdu W p rs) (UU W) C t (.pl (.int (z.1:Int))) (.pl (zat z.2)) s7)) _=_
   rw[qB,if_pos ⟨h2 _ _ _,h1⟩]
   rw[show lkH xs tl []=.ls xs::tl by show SN.ls xs::(tl++[])=_;rw[qr]]at tu
   rw[tu,qB]
   dsimp only
   rw[show xs++([.lo (tl.length+4+1),.lo (tl.length+5+1)]++rows)=xs++[.lo (tl.length+4+1)]++[.lo (tl.length+5+1)]++rows by simp,show tl++(ns++more)=tl++ns++more by rw[qAQ]]
   exact e1
  ·have eq:tl++(ns++more)++ext=tl++ns++(more++ext):=by simp
   rw[eq]
   show mapO _ (SV.lo (tl.length+4+1)::SV.lo (tl.length+5+1)::rows)=_
   unfold mapO
   rw[zale (zacg n4) (zacg gt) (zacg (j:=0) n0),qB]
   unfold mapO
   rw[zale (zacg n5) (zacg gl) (zacg n1),qB,show tl++ns++(more++ext)=tl++ns++more++ext by simp,e2 x0 ext]
   rfl
  ·rw[qM,qM,e3,qB0]
   rfl
  ·rw[qM,qM,qBC,qBC]
   have up:∀n∈(tn.map (·.2)).flatten,tl.length+7+1<=n:=λn hn=>by
    have:=(e5 n hn).1
    rw[qJ,n7]at this
    exact this
   refine qAT.mpr ⟨?_,qAT.mpr ⟨?_,e4,λa ha b hb e=>?_⟩,λa ha b hb e=>?_⟩
   ·simp only[qo,qP,qAF,qA5,or_false,not_false_eq_true,and_true]
    omega
   ·simp only[qo,qP,qAF,qA5,or_false,not_false_eq_true,and_true]
    omega
   ·have:=up b hb
    simp only[qP,qAF,or_false]at ha
    omega
   ·simp only[qP,qAF,or_false]at ha
    rcases qV.mp hb with hb|hb
    ·simp only[qP,qAF,or_false]at hb
     omega
    ·have:=up b hb
     omega
  ·intro n hn
   rw[qM,qM,qBC,qBC]at hn
   rw[qJ,qJ,n7]
   rcases qV.mp hn with hn|hn
   ·simp only[qP,qAF,or_false]at hn
    omega
   ·rcases qV.mp hn with hn|hn
    ·simp only[qP,qAF,or_false]at hn
     omega
    ·have:=e5 n hn
     simp only[qJ,n7]at this
     omega
end
theorem zagt(Cs:List (List Arm)):zmq (Cs.map zat)=(Cs.zipIdx.map λq=>(q.2,q.1)).map λz=>.tuple [.int (z.1:Int),zat z.2]:=by
 unfold zmq
 rw[List.zipIdx_map,qAZ,qAZ]
 rfl
theorem zagu{W:Web}{p:Nat}{rs:List Rule}{t:Int}(h:WebOk W)(hr:RulesOk W rs)(ok:OrdOk W p rs)(lo:∀r∈rs,qAJ r.1=true){Cs:List (List Arm)}(hC:∀c∈Cs,CallOk W c/\c.length=p)(hl:Cs.length<100) :
  zgi 13 4 zbd [zdu W p rs,UU W,.list (Cs.map zat),.int t] (Cs.flatMap λc=>ltF (fN W rs c) (nN W rs c)):=by
 intro ops ho
 obtain⟨s5,s6,s7,sl,rows,more,tn,e1,e2,e3,e4,e5⟩:=zxd (t:=t) h hr ok lo (C:=.list (Cs.map zat)) (Cs.zipIdx.map λq=>(q.2,q.1)) (ops.map .op) [] [none,none,none,none,some (.lo 0)] .no .no .no none none none none
  (λz hz=>by
   obtain⟨q,hq,rfl⟩:=qg.mp hz
   exact hC q.1 (by have:q.1∈Cs.zipIdx.map (·.1):=qg.mpr ⟨q,hq,rfl⟩;rw[qBH]at this;exact this))
  (by rw[qD,qD,List.length_zipIdx];omega) (by rfl) (λ_ _ _=>by rfl) (λ_=>by rfl)
 refine⟨lkE (zdu W p rs) (UU W) (.list (Cs.map zat)) t s5 s6 s7,⟨sl,.ls (ops.map .op++rows)::([]++more)⟩,rows,tn,?_,rfl,?_,?_,?_⟩
 ·rw[zagq]
  unfold yFor
  show Option.bind (some (zmq (Cs.map zat),([]:List Nat))) _=_
  rw[qB,zagt]
  exact e1
 ·have:=e2 (.ls (ops.map .op++rows)) []
  rw[qr]at this
  exact this
 ·rw[e3,List.flatMap_map]
  have:∀(l:List (List Arm×Nat)),l.flatMap (λq=>ltF (fN W rs q.1) (nN W rs q.1))=(l.map (·.1)).flatMap λc=>ltF (fN W rs c) (nN W rs c):=λl=>by rw[List.flatMap_map]
  rw[this,qBH]
 ·refine qo.mpr ⟨λz=>?_,e4⟩
  have:=(e5 0 z).1
  omega
theorem zajv{W:Web}{p:Nat}{rs:List Rule}{t:Int}(h:WebOk W)(hr:RulesOk W rs)(ok:OrdOk W p rs)(lo:∀r∈rs,qAJ r.1=true){Cs:List (List Arm)}(hC:∀c∈Cs,CallOk W c/\c.length=p)(hl:Cs.length<100) :
  zrc 13 4 zbd [zdu W p rs,UU W,.list (Cs.map zat),.int t]=some (Cs.flatMap λc=>ltF (fN W rs c) (nN W rs c)):=(zagu h hr ok lo hC hl).g
noncomputable def rdT:Nat->NT->Option PyData
 | _,.lf d=>some d
 | 0,_=>none
 | k+1,.ls ts=>(mapO (rdT k) ts).map .list
 | k+1,.tp ts=>(mapO (rdT k) ts).map .tuple
theorem zaax{k:Nat}{hp:List SN}(ih:∀(t:NT) (n:Nat),(∀j s,(al t n).2[j]?=some s->hp[n+j]?=some s)->rdV hp k (al t n).1=rdT k t):∀(ts:List NT)(n:Nat),(∀j s,(als ts n).2[j]?=some s->hp[n+j]?=some s)->mapO (rdV hp k) (als ts n).1=mapO (rdT k) ts
 | [],n,_=>by unfold als;rfl
 | t::ts,n,h=>by
  have e:als (t::ts) n=((al t n).1::(als ts (n+(al t n).2.length)).1,(al t n).2++(als ts (n+(al t n).2.length)).2):=by conv=>lhs;unfold als
  rw[e]at h ⊢
  unfold mapO
  rw[ih t n λj s q=>h j s (by rw[qI (qK.mp q).1];exact q)]
  rw[zaax ih ts _ λj s q=>by
   have:=h ((al t n).2.length+j) s (by rw[qH (qAY _ _),qy];exact q)
   rw[<- Nat.add_assoc]at this
   exact this]
theorem zajw{hp:List SN}:∀(k:Nat)(t:NT)(n:Nat),(∀j s,(al t n).2[j]?=some s->hp[n+j]?=some s)->rdV hp k (al t n).1=rdT k t
 | k,.lf d,n,_=>by unfold al rdT;cases k<;>rfl
 | 0,.ls ts,n,_=>by unfold al rdT;rfl
 | 0,.tp ts,n,_=>by unfold al rdT;rfl
 | k+1,.ls ts,n,h=>by
  have e:al (.ls ts) n=(.lo n,.ls (als ts (n+1)).1::(als ts (n+1)).2):=by conv=>lhs;unfold al
  rw[e]at h ⊢
  have h0:hp[n]?=some (.ls (als ts (n+1)).1):=h 0 _ rfl
  unfold rdV rdT
  rw[h0]
  dsimp only
  rw[zaax (zajw k) ts (n+1) λj s q=>by
   have:=h (j+1) s q
   rw[show n+(j+1)=n+1+j by omega]at this
   exact this]
 | k+1,.tp ts,n,h=>by
  have e:al (.tp ts) n=(.lo n,.tp (als ts (n+1)).1::(als ts (n+1)).2):=by conv=>lhs;unfold al
  rw[e]at h ⊢
  have h0:hp[n]?=some (.tp (als ts (n+1)).1):=h 0 _ rfl
  unfold rdV rdT
  rw[h0]
  dsimp only
  rw[zaax (zajw k) ts (n+1) λj s q=>by
   have:=h (j+1) s q
   rw[show n+(j+1)=n+1+j by omega]at this
   exact this]
theorem zzf{k:Nat}{r:List Str}:rdT (k+1) (zjw r)=some (zab r):=by
 unfold rdT
 rw[zjj (g:=λx=>match x with|.lf d=>d|_=>.none) (λx hx=>by
  obtain⟨d,_,rfl⟩:=qg.mp hx
  cases k<;>rfl)]
 simp[lfS,zab,qBr]
theorem zanx{k n:Nat}{b:EF}{env:DEnv}{ds:List PyData}{d:PyData}(he:env[k]?=some (.ac (.list ds)))(hb:b env=some (vi (n:Int)))(hd:ds[n]?=some d):eIxV k b env=some ⟨d,false,[]⟩:=by
 unfold eIxV
 rw[he]
 show(b env).bind _=_
 rw[hb,qB]
 show(atI ds (n:Int)).map _=_
 rw[zki hd]
 rfl
noncomputable abbrev J14:List Nat:=[9,10,11]
noncomputable abbrev E14(cs:List Int)(s2 s3 s4 s5 s6 s7 s8:Sl):DEnv:=[.no,.pl (zbz cs),s2,s3,s4,s5,s6,s7,s8,.no,.no,.no]
theorem y0{F:SF}{env e2:DEnv}(h:F env=some (.nx e2)):yS J14 F env ⟨[],[]⟩=some (.nx e2 ⟨[],[]⟩):=zaqz rfl h rfl
structure T14(W:Web)(p:Nat)(st:List Str):Prop where
 ok:WebOk W
 nm_:nm W=st
 low:∀z∈st,Low z
 len:1<=st.length/\st.length<=10
 p1:1<=p/\p<=3
theorem zany{cs:List Int}(hl:cs.length=34)(h0:∀c∈cs,0<=c):∃p st W,T14 W p st/\∀rest:SFs,
  (ySeq (yS [9,10,11] (sSet 2 (eOp addD (eC (.int 1)) (eOp modD (eIxV 1 (eC (.int 0))) (eC (.int 3))))))
  (ySeq (yS [9,10,11] (sSet 3 (zal 2 zbn (zaa (eOp addD (eC (.int 1)) (eOp modD (eOp zbk (eIxV 1 (eC (.int 0))) (eC (.int 3))) (eOp ixD (eTup (zaa (eC (.int 10)) (zaa (eC (.int 10)) (zaa (eC (.int 6)) aNil)))) (eOp subD (eVar 2) (eC (.int 1)))))) (zaa (eIxV 1 (eC (.int 1))) aNil)))))
  (ySeq (yS [9,10,11] (sSet 4 (zal 2 zhf (zaa (eSl (eVar 1) (zca (eC (.int 8))) (zca (eC (.int 18)))) (zaa (eVar 3) aNil)))))
  (ySeq (yS [9,10,11] (sSet 5 (zal 1 zjr (zaa (eVar 4) aNil)))) rest)))) (envL 10 cs) ⟨[],[]⟩=rest (E14 cs (.pl (.int (p:Int))) (.pl (zab st)) (.pl (webD W)) (.ac (UU W)) .no .no .no) ⟨[],[]⟩:=by
 have g1:0<=cs[1]'(by omega):=h0 _ (qAP _)
 have p0:=qt (cs[0]'(by omega)) (show(3:Int)≠0 by decide)
 have p1:=qu (cs[0]'(by omega)) (show(0:Int)<3 by decide)
 obtain⟨p,hp⟩:=qCk (show 0<=1+cs[0]'(by omega) % 3 by omega)
 have hpr:1<=p/\p<=3:=by omega
 obtain⟨q,hq,hq8⟩:∃q:Int,(eOp ixD (eTup (zaa (eC (.int 10)) (zaa (eC (.int 10)) (zaa (eC (.int 6)) aNil)))) (eOp subD (eVar 2) (eC (.int 1))) (E14 cs (.pl (.int (p:Int))) .no .no .no .no .no .no)=some (vi q))/\(q=10\/q=6):=by
  have:p=1\/p=2\/p=3:=by omega
  rcases this with rfl|rfl|rfl
  ·exact⟨10,rfl,.inl rfl⟩
  ·exact⟨10,rfl,.inl rfl⟩
  ·exact⟨6,rfl,.inr rfl⟩
 have m0:=qt (cs[0]'(by omega) / 3) (show q≠0 by omega)
 have m1:=qu (cs[0]'(by omega) / 3) (show(0:Int)<q by omega)
 obtain⟨st,gx,lx,nst,lox⟩:=zmg (m:=1+cs[0]'(by omega) / 3 % q) (c:=cs[1]'(by omega)) (by omega) (by omega) g1
 have hst:1<=st.length/\st.length<=10:=by omega
 have lo:∀z∈st,Low z:=λz h=>(lox z h).1
 obtain⟨W,gw,hnm,ok⟩:=zafr (cs:=(cs.drop 8).take 10) (xs:=st) (by rw[qAk,qAl];omega) (by omega) nst
 have e2:(sSet 2 (eOp addD (eC (.int 1)) (eOp modD (eIxV 1 (eC (.int 0))) (eC (.int 3))))) (envL 10 cs)=some (.nx (E14 cs (.pl (.int (p:Int))) .no .no .no .no .no .no)):=by
  refine zcc (r:=vi (p:Int)) ?_
  rw[zoi rfl (zep (zpz (n:=0) rfl rfl (by omega)) rfl (by decide))]
  exact congrArg (λz=>some (vi z)) hp
 have e3:(sSet 3 (zal 2 zbn (zaa (eOp addD (eC (.int 1)) (eOp modD (eOp zbk (eIxV 1 (eC (.int 0))) (eC (.int 3))) (eOp ixD (eTup (zaa (eC (.int 10)) (zaa (eC (.int 10)) (zaa (eC (.int 6)) aNil)))) (eOp subD (eVar 2) (eC (.int 1)))))) (zaa (eIxV 1 (eC (.int 1))) aNil)))) (E14 cs (.pl (.int (p:Int))) .no .no .no .no .no .no)=some (.nx (E14 cs (.pl (.int (p:Int))) (.ac (zab st)) .no .no .no .no .no)):=
  zcc (r:=⟨zab st,true,[]⟩) (zbj (n:=2) (rs:=[vi (1+cs[0]'(by omega) / 3 % q),vi (cs[1]'(by omega))]) (zcj (zoi rfl (zep (zgv (zpz (n:=0) rfl rfl (by omega)) rfl (by decide) (by decide)) hq (by omega))) (zel (zpz (n:=1) rfl rfl (by omega)))) rfl gx)
 have e4:(sSet 4 (zal 2 zhf (zaa (eSl (eVar 1) (zca (eC (.int 8))) (zca (eC (.int 18)))) (zaa (eVar 3) aNil)))) (E14 cs (.pl (.int (p:Int))) (.ac (zab st)) .no .no .no .no .no)=some (.nx (E14 cs (.pl (.int (p:Int))) (.pl (zab st)) (.ac (webD W)) .no .no .no .no)):=
  zcc (r:=⟨webD W,true,[3]⟩) (zbj (n:=2) (rs:=[⟨zbz ((cs.drop 8).take 10),true,[]⟩,⟨zab st,false,[3]⟩]) (zcj (zajq hl 8 18 _ _ _ (by decide) (by decide) rfl rfl rfl) (zel rfl)) rfl gw)
 have e5:(sSet 5 (zal 1 zjr (zaa (eVar 4) aNil))) (E14 cs (.pl (.int (p:Int))) (.pl (zab st)) (.ac (webD W)) .no .no .no .no)=some (.nx (E14 cs (.pl (.int (p:Int))) (.pl (zab st)) (.pl (webD W)) (.ac (UU W)) .no .no .no)):=
  zcc (r:=⟨.dict (dS zab (ups W)),true,[4]⟩) (zbj (n:=1) (rs:=[⟨webD W,false,[4]⟩]) (zel rfl) rfl (zajc ok))
 exact⟨p,st,W,⟨ok,hnm,lo,hst,hpr⟩,λrest=>zbb (y0 e2) (zbb (y0 e3) (zbb (y0 e4) (zbb (y0 e5) rfl)))⟩
theorem zanz{cs:List Int}(hl:cs.length=34)(h0:∀c∈cs,0<=c){p:Nat}{st:List Str}{W:Web}(t:T14 W p st):∃c0 c1 c2 c3 d6,C15 W p c0/\C15 W p c1/\C15 W p c2/\C15 W p c3/\∀rest:SFs,
  (ySeq (yS [9,10,11] (sSet 6 (zbx ["_law_cell"] [3] (zaj (eSl (eVar 1) (zca (eC (.int 4))) (zca (eOp addD (eC (.int 4)) (eVar 2))))) (gN 0) zbf (zal 2 zct (zaa (eVar 0) (zaa (eVar 1) aNil))))))
  (ySeq (yIf (yT (zbr (eOp eqD (eOp modD (eOp zbk (eIxV 1 (eC (.int 3))) (eC (.int 13))) (eC (.int 2))) (eC (.int 0))))) (yS [9,10,11] (sSet 6 (zbx ["_law_arm_here"] [] (zaj (eVar 6)) (gN 0) zbf (eIxV 0 (eC (.int 0)))))) yNil)
  (ySeq (yS [9,10,11] (sSet 7 (eOp addD (eLst (zaa (eCB zfq (zaa (eVar 6) aNil)) aNil)) (zbx ["_law_cell"] [2,3] (zaj (eSl (eVar 1) (zca (eC (.int 30))) (zca (eC (.int 33))))) (gN 0) zbf (zal 3 zch (zaa (eVar 0) (zaa (eVar 2) (zaa (eVar 1) aNil)))))))) rest)))
   (E14 cs (.pl (.int (p:Int))) (.pl (zab st)) (.pl (webD W)) (.ac (UU W)) .no .no .no) ⟨[],[]⟩=rest (E14 cs (.pl (.int (p:Int))) (.pl (zab st)) (.pl (webD W)) (.ac (UU W)) (.pl d6) (.ac (.list ([c0,c1,c2,c3].map zat))) .no) ⟨[],[]⟩:=by
 have hst:=t.len
 have hpr:=t.p1
 have HA:∀z:Int,∃ar,zct [.int z,zab st]=some (zak ar,false)/\(∀k∈ar,k∈st)/\ar.length<=12/\ar≠[]:=λz=>zanu (by omega) (by omega)
 obtain⟨g,hg⟩:=qBR HA
 have el:((cs.drop 4).take p).length=p:=by rw[qAk,qAl];omega
 generalize hm:(cs.drop 4).take p=l at el
 let E6:DEnv:=E14 cs (.pl (.int (p:Int))) (.pl (zab st)) (.pl (webD W)) (.ac (UU W)) .no .no .no
 have e6:(sSet 6 (zbx ["_law_cell"] [3] (zaj (eSl (eVar 1) (zca (eC (.int 4))) (zca (eOp addD (eC (.int 4)) (eVar 2))))) (gN 0) zbf (zal 2 zct (zaa (eVar 0) (zaa (eVar 1) aNil))))) E6=some (.nx (E14 cs (.pl (.int (p:Int))) (.pl (zab st)) (.pl (webD W)) (.ac (UU W)) (.ac (.list (l.map λz=>zak (g z)))) .no .no)):=by
  have es:=zajq hl 4 (4+p) (eC (.int 4)) (eOp addD (eC (.int 4)) (eVar 2)) E6 (by omega) (by omega) rfl rfl (by rw[zoi (i:=4) (j:=(p:Int)) rfl rfl,show(4:Int)+(p:Int)=((4+p:Nat):Int) by omega])
  rw[qy,hm]at es
  have it:=zagj (ds:=l.map .int) es rfl
  have cm:zda (gN 0) zbf (zal 2 zct (zaa (eVar 0) (zaa (eVar 1) aNil))) [.no,.pl (zab st)] (l.map .int)=some (l.map λz=>zak (g z)):=
   zby λz _=>⟨[.pl (.int z),.pl (zab st)],rfl,rfl,⟨zak (g z),false,bsOf (zak (g z)) []⟩,zbj (n:=2) (rs:=[⟨.int z,false,[]⟩,⟨zab st,false,[]⟩]) rfl rfl (hg z).1,rfl⟩
  have co:=zde (own:=["_law_cell"]) (fr:=[3]) it (by rw[qD,el];omega) cm
  have e0:(if zdo (l.map λz=>zak (g z))=true then([]:List Nat)else[]++capA [3] E6)=[]:=by split<;>rfl
  rw[show(if zdo (l.map λz=>zak (g z))=true then([]:List Nat)else _)=[]from e0]at co
  exact zcc co
 have tc:∀s6:Sl,yT (zbr (eOp eqD (eOp modD (eOp zbk (eIxV 1 (eC (.int 3))) (eC (.int 13))) (eC (.int 2))) (eC (.int 0)))) (E14 cs (.pl (.int (p:Int))) (.pl (zab st)) (.pl (webD W)) (.ac (UU W)) s6 .no .no) ⟨[],[]⟩=some (cs[3]'(by omega) / 13 % 2==0):=λs6=>
  zgj (ztj (zep (zgv (zpz (n:=3) rfl rfl (by omega)) rfl (by decide) (by decide)) rfl (by decide)) rfl)
 obtain⟨c0,hc0,hl0,st6⟩:∃c0:List Arm,Cl12 st c0/\c0.length=p/\∀rest:SFs,(ySeq (yIf (yT (zbr (eOp eqD (eOp modD (eOp zbk (eIxV 1 (eC (.int 3))) (eC (.int 13))) (eC (.int 2))) (eC (.int 0))))) (yS [9,10,11] (sSet 6 (zbx ["_law_arm_here"] [] (zaj (eVar 6)) (gN 0) zbf (eIxV 0 (eC (.int 0)))))) yNil) rest) (E14 cs (.pl (.int (p:Int))) (.pl (zab st)) (.pl (webD W)) (.ac (UU W)) (.ac (.list (l.map λz=>zak (g z)))) .no .no) ⟨[],[]⟩=rest (E14 cs (.pl (.int (p:Int))) (.pl (zab st)) (.pl (webD W)) (.ac (UU W)) (.ac (.list (c0.map armD))) .no .no) ⟨[],[]⟩:=by
  cases hb:(cs[3]'(by omega) / 13 % 2==0)with
  | false=>
   refine⟨l.map λz=>.many (g z),⟨λa ha n hn=>?_,λa ha=>?_,λa ha=>?_⟩,by rw[qD];exact el,λrest=>?_⟩
   ·obtain⟨z,_,rfl⟩:=qg.mp ha
    exact(hg z).2.1 n hn
   ·obtain⟨z,_,rfl⟩:=qg.mp ha
    exact(hg z).2.2.1
   ·obtain⟨z,_,rfl⟩:=qg.mp ha
    exact(hg z).2.2.2
   ·refine zbb (zagn ((tc _).trans (by rw[hb])) rfl) ?_
    rw[qAZ]
    rfl
  | true=>
   have hd:∀z,∃x,x∈g z/\∃xs,g z=x::xs:=λz=>by
    cases e:g z with
    | nil=>exact absurd e (hg z).2.2.2
    | cons x xs=>exact⟨x,.head _,xs,rfl⟩
   obtain⟨f,hf⟩:=qBR hd
   refine⟨l.map λz=>.one (f z),⟨λa ha n hn=>?_,λa ha=>?_,λa ha=>?_⟩,by rw[qD];exact el,λrest=>?_⟩
   ·obtain⟨z,_,rfl⟩:=qg.mp ha
    have:n=f z:=by simpa [Arm.parts]using hn
    rw[this]
    exact(hg z).2.1 _ (hf z).1
   ·obtain⟨z,_,rfl⟩:=qg.mp ha
    show 1<=12;decide
   ·obtain⟨z,_,rfl⟩:=qg.mp ha
    simp[Arm.parts]
   ·refine zbb (zanv ((tc _).trans (by rw[hb])) (y0 (e2:=E14 cs (.pl (.int (p:Int))) (.pl (zab st)) (.pl (webD W)) (.ac (UU W)) (.ac (.list ((l.map λz=>Arm.one (f z)).map armD))) .no .no) ?_)) rfl
    have cm:zda (gN 0) zbf (eIxV 0 (eC (.int 0))) [.no] (l.map λz=>zak (g z))=some (l.map λz=>.str (f z)):=
     zby (enc:=λz=>zak (g z)) λz _=>⟨[.pl (zak (g z))],rfl,rfl,vs (f z),by
      obtain⟨_,xs,e⟩:=hf z
      exact zaqx (n:=0) (ds:=(g z).map .str) rfl rfl (by rw[e];rfl),rfl⟩
    have co:=zde (own:=["_law_arm_here"]) (fr:=[]) (fi:=zaj (eVar 6)) (env:=E14 cs (.pl (.int (p:Int))) (.pl (zab st)) (.pl (webD W)) (.ac (UU W)) (.ac (.list (l.map λz=>zak (g z)))) .no .no) (ds:=l.map λz=>zak (g z)) (bs:=[6]) rfl (by rw[qD,el];omega) cm
    have em:(l.map λz=>PyData.str (f z))=(l.map f).map .str:=by rw[qAZ];rfl
    rw[em,zjs]at co
    rw[zcc co]
    rw[show(l.map λz=>Arm.one (f z)).map armD=(l.map f).map .str by rw[qAZ,qAZ];rfl]
    rfl
 have H:∀z:Int,∃cl:List Arm,0<=z->(zch [.int z,zab st,.int p]=some (zat cl,false)/\cl.length=p/\CallIn st cl):=λz=>by
  by_cases hz:0<=z
  ·obtain⟨cl,h⟩:=zajs (xs:=st) (c:=z) (p:=p) (by omega) hz hpr.2
   exact⟨cl,λ_=>h⟩
  ·exact⟨[],λq=>absurd q hz⟩
 obtain⟨f,hf⟩:=qBR H
 obtain⟨d0,d1,d2,hd⟩:=zajp (l:=(cs.drop 30).take 3) (by rw[qAk,qAl];omega)
 have hd0:∀z∈[d0,d1,d2],0<=z:=λz hz=>by rw[<- hd]at hz;exact h0 z (qAx (qAw hz))
 have C:∀z∈[d0,d1,d2],C15 W p (f z):=λz hz=>by
  obtain⟨_,h2,h3⟩:=hf z (hd0 z hz)
  exact⟨by rw[t.nm_];exact⟨h3.kinds,λa ha=>qAS (h3.few a ha) (by decide),h3.some⟩,h2⟩
 let E7:DEnv:=E14 cs (.pl (.int (p:Int))) (.pl (zab st)) (.pl (webD W)) (.ac (UU W)) (.ac (.list (c0.map armD))) .no .no
 have e7:(sSet 7 (eOp addD (eLst (zaa (eCB zfq (zaa (eVar 6) aNil)) aNil)) (zbx ["_law_cell"] [2,3] (zaj (eSl (eVar 1) (zca (eC (.int 30))) (zca (eC (.int 33))))) (gN 0) zbf (zal 3 zch (zaa (eVar 0) (zaa (eVar 2) (zaa (eVar 1) aNil))))))) E7=some (.nx (E14 cs (.pl (.int (p:Int))) (.pl (zab st)) (.pl (webD W)) (.ac (UU W)) (.pl (.list (c0.map armD))) (.ac (.list ([c0,f d0,f d1,f d2].map zat))) .no)):=by
  have es:=zajq hl 30 33 (eC (.int 30)) (eC (.int 33)) E7 (by decide) (by decide) rfl rfl rfl
  rw[hd]at es
  have it:=zagj (ds:=[d0,d1,d2].map .int) es rfl
  have cm:zda (gN 0) zbf (zal 3 zch (zaa (eVar 0) (zaa (eVar 2) (zaa (eVar 1) aNil)))) [.no,.pl (.int (p:Int)),.pl (zab st)] ([d0,d1,d2].map .int)=some ([d0,d1,d2].map λz=>zat (f z)):=
   zby λz hz=>⟨[.pl (.int z),.pl (.int (p:Int)),.pl (zab st)],rfl,rfl,⟨zat (f z),false,bsOf (zat (f z)) []⟩,zbj (n:=3) (rs:=[⟨.int z,false,[]⟩,⟨zab st,false,[]⟩,⟨.int (p:Int),false,[]⟩]) rfl rfl (hf z (hd0 z hz)).1,rfl⟩
  have co:=zde (own:=["_law_cell"]) (fr:=[2,3]) it (show(3:Nat)<100000 by decide) cm
  have e0:(if zdo ([d0,d1,d2].map λz=>zat (f z))=true then([]:List Nat)else[]++capA [2,3] E7)=[]:=by split<;>rfl
  rw[show(if zdo ([d0,d1,d2].map λz=>zat (f z))=true then([]:List Nat)else _)=[]from e0]at co
  refine zcc (r:=⟨.list ([c0,f d0,f d1,f d2].map zat),true,[6]⟩) ?_
  unfold eOp
  rw[co]
  rfl
 exact⟨c0,f d0,f d1,f d2,.list (c0.map armD),⟨by rw[t.nm_];exact hc0,hl0⟩,C d0 (by simp),C d1 (by simp),C d2 (by simp),λrest=>zbb (y0 e6) ((st6 _).trans (zbb (y0 e7) rfl))⟩
theorem zaoa{cs:List Int}(hl:cs.length=34)(h0:∀c∈cs,0<=c){p:Nat}{st:List Str}{W:Web}(t:T14 W p st){c0 c1 c2 c3:List Arm}{d6:PyData}(k0:C15 W p c0):∃rs,Bk15 W p rs/\∀rest:SFs,
  (ySeq (yS [9,10,11] (sSet 8 (zal 5 zgl (zaa (eSl (eVar 1) (zca (eC (.int 18))) (zca (eC (.int 30)))) (zaa (eVar 3) (zaa (eVar 5) (zaa (eIxV 7 (eC (.int 0))) (zaa (zal 2 zbn (zaa (eOp modD (eIxV 1 (eC (.int 3))) (eC (.int 13))) (zaa (eIxV 1 (eC (.int 2))) aNil))) aNil)))))))) rest)
   (E14 cs (.pl (.int (p:Int))) (.pl (zab st)) (.pl (webD W)) (.ac (UU W)) (.pl d6) (.ac (.list ([c0,c1,c2,c3].map zat))) .no) ⟨[],[]⟩=rest (E14 cs (.pl (.int (p:Int))) (.pl (zab st)) (.pl (webD W)) (.pl (UU W)) (.pl d6) (.ac (.list ([c0,c1,c2,c3].map zat))) (.ac (zam rs))) ⟨[],[]⟩:=by
 have hst:=t.len
 have hpr:=t.p1
 have low:∀z∈nm W,Low z:=by rw[t.nm_];exact t.low
 have m0:=qt (cs[3]'(by omega)) (show(13:Int)≠0 by decide)
 have m1:=qu (cs[3]'(by omega)) (show(0:Int)<13 by decide)
 obtain⟨ts,gt,lt,nt,lot⟩:=zmg (m:=cs[3]'(by omega) % 13) (c:=cs[2]'(by omega)) m0 (by omega) (h0 _ (qAP _))
 have htl:ts.length<=12:=by omega
 obtain⟨rs,gr,mk⟩:=zud t.ok low (by rw[t.nm_];omega) (cs:=(cs.drop 18).take 12) (c:=c0) (ts:=ts) (λz hz=>h0 z (qAx (qAw hz))) (by rw[qAk,qAl];omega) (by omega) k0.cl (by rw[k0.len];exact hpr.2)
 rw[t.nm_]at gr
 rw[k0.len]at mk
 have rl:rs.length<=12:=by have:=mk.sub.length_le;rw[qD]at this;omega
 have lowr:∀r∈rs,qAJ r.1=true:=λr hr=>zly (lot r.1 (mk.sub.subset (qg.mpr ⟨r,hr,rfl⟩))).1
 have b1:Bk15 W p rs:=⟨⟨λr hr=>zzd low (mk.kinds r hr),mk.kinds,λr hr=>by rw[mk.size r hr];omega,by omega⟩,⟨mk.kinds,mk.size⟩,lowr⟩
 let E8:DEnv:=E14 cs (.pl (.int (p:Int))) (.pl (zab st)) (.pl (webD W)) (.ac (UU W)) (.pl d6) (.ac (.list ([c0,c1,c2,c3].map zat))) .no
 have ei:eIxV 7 (eC (.int 0)) E8=some ⟨zat c0,false,[]⟩:=zanx (n:=0) (ds:=[c0,c1,c2,c3].map zat) rfl rfl rfl
 have en:zal 2 zbn (zaa (eOp modD (eIxV 1 (eC (.int 3))) (eC (.int 13))) (zaa (eIxV 1 (eC (.int 2))) aNil)) E8=some ⟨zab ts,true,[]⟩:=zbj (n:=2) (rs:=[vi (cs[3]'(by omega) % 13),vi (cs[2]'(by omega))]) (zcj (zep (zpz (n:=3) rfl rfl (by omega)) rfl (by decide)) (zel (zpz (n:=2) rfl rfl (by omega)))) rfl gt
 refine⟨rs,b1,λrest=>zbb (y0 (zcc (r:=⟨zam rs,true,[5]⟩) (zbj (n:=5) (rs:=[⟨zbz ((cs.drop 18).take 12),true,[]⟩,⟨zab st,false,[]⟩,⟨.dict (dS zab (ups W)),false,[5]⟩,⟨zat c0,false,[]⟩,⟨zab ts,true,[]⟩]) (zcj (zajq hl 18 30 _ _ E8 (by decide) (by decide) rfl rfl rfl) (zcj rfl (zcj rfl (zcj ei (zel en))))) rfl gr))) rfl⟩
noncomputable abbrev dR(R:List Rule):List SV:=(R.map zbg).map SV.dt
noncomputable abbrev rowT(z:Str×List Str):NT:=.tp [.lf (.str z.1),zjw z.2]
noncomputable abbrev webN(W:Web):NT:=.ls (W.map rowT)
noncomputable abbrev bkN(W:Web)(p:Nat)(R:List Rule):NT:=.tp [webN W,.lf (.int (p:Int)),.ls ((R.map zbg).map .lf)]
noncomputable def mW(W:Web):List SN:=(al (webN W) 1).2
noncomputable def aW(W:Web)(p:Nat):List SN:=.tp [.lo 1,.dt (.int (p:Int)),.lo ((mW W).length+1)]::mW W
noncomputable abbrev HP(A:List SN)(R:List Rule)(X:List SV)(M:List SN):List SN:=A++(.ls (dR R)::.ls X::M)
section
variable{A:List SN}{R R':List Rule}{X Y:List SV}{M:List SN}
theorem hp_r:(HP A R X M)[A.length]?=some (.ls (dR R)):=by rw[qH (qO _),qB6];rfl
theorem hp_h:(HP A R X M)[A.length+1]?=some (.ls X):=by rw[qH (qAY _ _),qy];rfl
theorem hp_m{j:Nat}:(HP A R X M)[A.length+2+j]?=M[j]?:=by rw[qH (by omega),show A.length+2+j - A.length=j+2 by omega];rfl
theorem zagv:(HP A R X M).set A.length (.ls (dR R'))=HP A R' X M:=by rw[qBh _ _ (qO _),qB6];rfl
theorem zagw:(HP A R X M).set (A.length+1) (.ls Y)=HP A R Y M:=by rw[qBh _ _ (qAY _ _),qy];rfl
theorem zarc:(HP A R X M).length=A.length+2+M.length:=by rw[qJ];show A.length+(M.length+1+1)=_;omega
theorem zard{N:List SN}:HP A R X M++N=HP A R X (M++N):=by show A++(_::_::M)++N=_;rw[qAQ];rfl
end
theorem zaob{W:Web}{p:Nat}{R:List Rule}:al (bkN W p R) 0=(.lo 0,aW W p++[.ls (dR R)]):=by
 have e1:al (.ls ((R.map zbg).map NT.lf)) (1+(mW W).length+([]:List SN).length)=(.lo (1+(mW W).length+([]:List SN).length),[.ls (dR R)]):=zagm _ _
 have e2:(al (webN W) 1).1=.lo 1:=by unfold al;rfl
 have e3:∀n,al (.lf (.int (p:Int))) n=(.dt (.int (p:Int)),[]):=λn=>by unfold al;rfl
 have e4:als [webN W,.lf (.int (p:Int)),.ls ((R.map zbg).map .lf)] 1=([.lo 1,.dt (.int (p:Int)),.lo ((mW W).length+1)],mW W++[.ls (dR R)]):=by
  unfold als
  rw[e2,show(al (webN W) 1).2=mW W from rfl]
  unfold als
  rw[e3]
  unfold als
  rw[e1]
  unfold als
  rw[show 1+(mW W).length+([]:List SN).length=(mW W).length+1 by show 1+(mW W).length+0=_;omega]
  rfl
 conv=>lhs;unfold al
 rw[e4]
 rfl
theorem zaoc{W:Web}{k:Nat}:rdT (k+3) (webN W)=some (webD W):=by
 unfold rdT
 have:mapO (rdT (k+2)) (W.map rowT)=some (W.map rowD):=by
  induction W with
  | nil=>rfl
  | cons z W ih=>
   rw[qM]
   unfold mapO
   have e:rdT (k+2) (rowT z)=some (rowD z):=by
    unfold rdT mapO
    rw[show rdT (k+1) (.lf (.str z.1))=some (.str z.1) by unfold rdT;rfl,qB]
    unfold mapO
    rw[zzf]
    rfl
   rw[e,ih]
   rfl
 rw[this]
 rfl
theorem zare{W:Web}{p:Nat}{R:List Rule}:rdT 9 (bkN W p R)=some (zdu W p R):=by
 unfold rdT mapO
 rw[zaoc,qB]
 unfold mapO
 rw[show rdT 8 (.lf (.int (p:Int)))=some (.int (p:Int)) by unfold rdT;rfl,qB]
 unfold mapO
 have e:rdT 8 (.ls ((R.map zbg).map .lf))=some (zam R):=by
  unfold rdT
  rw[zjj (g:=λx=>match x with|.lf d=>d|_=>.none) (λx hx=>by
   obtain⟨d,_,rfl⟩:=qg.mp hx
   unfold rdT;rfl)]
  simp[zam,qBr]
 rw[e]
 rfl
theorem zaod{W:Web}{p:Nat}{R:List Rule}{X:List SV}{M:List SN}:rdV (HP (aW W p) R X M) 9 (.lo 0)=some (zdu W p R):=by
 have:=zajw (hp:=HP (aW W p) R X M) 9 (bkN W p R) 0 λj s q=>by
  rw[zaob]at q
  rw[qBm,show HP (aW W p) R X M=(aW W p++[.ls (dR R)])++(.ls X::M) by simp,qI (qK.mp q).1]
  exact q
 rw[zaob,zare]at this
 exact this
theorem zxe{W:Web}{p:Nat}{R:List Rule}{X:List SV}{M:List SN}:shS (HP (aW W p) R X M) .no (some (.lo 0))=.pl (zdu W p R):=by
 unfold shS
 dsimp only
 rw[zaod]
noncomputable abbrev zuf(x:List Str):PyData:=.tuple [zab x,zab x]
noncomputable abbrev zmh(x:List Str):NT:=.tp [zjw x,zjw x]
theorem zajx{k:Nat}{x:List Str}:rdT (k+2) (zmh x)=some (zuf x):=by
 unfold rdT mapO
 rw[zzf,qB]
 unfold mapO
 rw[zzf]
 rfl
theorem zxf{k:Nat}:∀(P:List (List Str)),mapO (rdT (k+2)) (P.map zmh)=some (P.map zuf)
 | []=>rfl
 | x::P=>by
  rw[qM]
  unfold mapO
  rw[zajx,zxf P]
  rfl
theorem zaay{α β:Type}{f:α->Option β}:∀{xs ys:List α}{as bs:List β},mapO f xs=some as->mapO f ys=some bs->mapO f (xs++ys)=some (as++bs)
 | [],ys,as,bs,h1,h2=>by cases h1;exact h2
 | x::xs,ys,as,bs,h1,h2=>by
  unfold mapO at h1
  obtain⟨a,e1,h1⟩:=qA.mp h1
  obtain⟨as',e2,rfl⟩:=qE.mp h1
  rw[qB9]
  unfold mapO
  rw[e1,zaay e2 h2]
  rfl
noncomputable def Held(A:List SN)(X:List SV)(M:List SN)(P:List (List Str)):Prop:=∀R Y ext,mapO (rdV (HP A R Y (M++ext)) 8) X=some (P.map zuf)
noncomputable abbrev znl(W:Web)(R:List Rule)(Cs:List (List Arm)):List (List Str):=Cs.flatMap λc=>[fN W R c,nN W R c]
theorem zagx{W:Web}{R:List Rule}:∀(Cs:List (List Arm)),(Cs.flatMap λc=>ltF (fN W R c) (nN W R c))=(znl W R Cs).map zmh
 | []=>rfl
 | c::Cs=>by
  rw[qB0,zagx Cs]
  show _=List.map zmh ([fN W R c,nN W R c]++znl W R Cs)
  rw[qAL]
  rfl
theorem Held.look{A:List SN}{X:List SV}{M:List SN}{P Q:List (List Str)}(h:Held A X M P):Held A (X++(als (Q.map zmh) (A.length+2+M.length)).1) (M++(als (Q.map zmh) (A.length+2+M.length)).2) (P++Q):=by
 intro R Y ext
 rw[qAL]
 refine zaay ?_ ?_
 ·rw[qAQ];exact h R Y _
 ·rw[zaax (zajw 8) (Q.map zmh) _ λj s q=>?_]
  ·exact zxf Q
  ·rw[show A.length+2+M.length+j=A.length+2+(M.length+j) by omega,hp_m,qAQ,qH (qAY _ _),qy,qI (qK.mp q).1]
   exact q
noncomputable def zxg:SFs:=(ySeq (yS [9,10,11] (sSet 2 (eOp addD (eC (.int 1)) (eOp modD (eIxV 1 (eC (.int 0))) (eC (.int 3))))))
  (ySeq (yS [9,10,11] (sSet 3 (zal 2 zbn (zaa (eOp addD (eC (.int 1)) (eOp modD (eOp zbk (eIxV 1 (eC (.int 0))) (eC (.int 3))) (eOp ixD (eTup (zaa (eC (.int 10)) (zaa (eC (.int 10)) (zaa (eC (.int 6)) aNil)))) (eOp subD (eVar 2) (eC (.int 1)))))) (zaa (eIxV 1 (eC (.int 1))) aNil)))))
  (ySeq (yS [9,10,11] (sSet 4 (zal 2 zhf (zaa (eSl (eVar 1) (zca (eC (.int 8))) (zca (eC (.int 18)))) (zaa (eVar 3) aNil)))))
  (ySeq (yS [9,10,11] (sSet 5 (zal 1 zjr (zaa (eVar 4) aNil))))
  (ySeq (yS [9,10,11] (sSet 6 (zbx ["_law_cell"] [3] (zaj (eSl (eVar 1) (zca (eC (.int 4))) (zca (eOp addD (eC (.int 4)) (eVar 2))))) (gN 0) zbf (zal 2 zct (zaa (eVar 0) (zaa (eVar 1) aNil))))))
  (ySeq (yIf (yT (zbr (eOp eqD (eOp modD (eOp zbk (eIxV 1 (eC (.int 3))) (eC (.int 13))) (eC (.int 2))) (eC (.int 0))))) (yS [9,10,11] (sSet 6 (zbx ["_law_arm_here"] [] (zaj (eVar 6)) (gN 0) zbf (eIxV 0 (eC (.int 0)))))) yNil)
  (ySeq (yS [9,10,11] (sSet 7 (eOp addD (eLst (zaa (eCB zfq (zaa (eVar 6) aNil)) aNil)) (zbx ["_law_cell"] [2,3] (zaj (eSl (eVar 1) (zca (eC (.int 30))) (zca (eC (.int 33))))) (gN 0) zbf (zal 3 zch (zaa (eVar 0) (zaa (eVar 2) (zaa (eVar 1) aNil))))))))
  (ySeq (yS [9,10,11] (sSet 8 (zal 5 zgl (zaa (eSl (eVar 1) (zca (eC (.int 18))) (zca (eC (.int 30)))) (zaa (eVar 3) (zaa (eVar 5) (zaa (eIxV 7 (eC (.int 0))) (zaa (zal 2 zbn (zaa (eOp modD (eIxV 1 (eC (.int 3))) (eC (.int 13))) (zaa (eIxV 1 (eC (.int 2))) aNil))) aNil))))))))
  (ySeq (zfm [4,8] 9 (pTup (zdr (zvm ["_law_name","_law_elders"] [] (zaj (eVar 4)) (gT 2 (zag 0 (zag 1 zbw))) zbf (pTup (zdr (pLf (eVar 0)) (zdr (pFr (eCB zln (zaa (eVar 1) aNil))) zra)))) (zdr (pLf (eVar 2)) (zdr (pFr (eCB zln (zaa (eVar 8) aNil))) zra)))))
  (ySeq (zfm [] 10 (pFr (eLst aNil)))
  (ySeq (yIfZ (zOr (zNot (zyh 4 10 (zrc 13 4 zbd) (zaa (eVar 9) (zaa (eVar 5) (zaa (eVar 7) (zaa (eC (.int 0)) aNil)))))) (zOf (yT (zbr (eOp neD (eVar 9) (eTup (zaa (eVar 4) (zaa (eVar 2) (zaa (eVar 8) aNil))))))))) (yRet (yE (eC (.bool false)))) yNil)
  (ySeq (yIf (yT (zbr (eOp gtD (eCB lenD (zaa (eVar 8) aNil)) (eC (.int 0))))) (ySeq (zafb 11 (yIx (yVar 9) (yE (eC (.int 2)))) (yE (eOp modD (eIxV 1 (eC (.int 7))) (eCB lenD (zaa (eVar 8) aNil)))))
  (ySeq (yIfZ (zNot (zyh 4 10 (zrc 13 4 zbd) (zaa (eVar 9) (zaa (eVar 5) (zaa (eVar 7) (zaa (eC (.int 1)) aNil)))))) (yRet (yE (eC (.bool false)))) yNil)
  (ySeq (yApp (yIx (yVar 9) (yE (eC (.int 2)))) (yVar 11))
  (yIfZ (zNot (zyh 4 10 (zrc 13 4 zbd) (zaa (eVar 9) (zaa (eVar 5) (zaa (eVar 7) (zaa (eC (.int 0)) aNil)))))) (yRet (yE (eC (.bool false)))) yNil)))) yNil)
  (yRet (yE (eCB (anyD λbs=>bs.all id) (zaa (zbx ["_law_told","_law_due"] [] (zaj (eVar 10)) (gT 2 (zag 0 (zag 1 zbw))) zbf (zal 2 zah (zaa (eVar 0) (zaa (eVar 1) aNil)))) aNil))))))))))))))))
noncomputable abbrev lkZ(t:Int):TFz:=zyh 4 10 (zrc 13 4 zbd) (zaa (eVar 9) (zaa (eVar 5) (zaa (eVar 7) (zaa (eC (.int t)) aNil))))
noncomputable abbrev F14(cs:List Int)(p:Nat)(st:List Str)(W:Web)(d6:PyData)(Cs:List (List Arm))(rs:List Rule):DEnv:=E14 cs (.pl (.int (p:Int))) (.pl (zab st)) (.pl (webD W)) (.pl (UU W)) (.pl d6) (.ac (.list (Cs.map zat))) (.pl (zam rs))
noncomputable abbrev S14(h:Nat)(g:Option SV):List (Option SV):=[none,none,none,none,none,none,none,none,none,some (.lo 0),some (.lo h),g]
section
variable{cs:List Int}{p:Nat}{st:List Str}{W:Web}{d6:PyData}{Cs:List (List Arm)}{rs R:List Rule}{X:List SV}{M:List SN}{g:Option SV}
theorem zagy(h:WebOk W)(hr:RulesOk W R)(ok:OrdOk W p R)(lo:∀r∈R,qAJ r.1=true)(hC:∀c∈Cs,CallOk W c/\c.length=p)(hl:Cs.length<100)(hx:X.length<50000)(t:Int) :
  lkZ t (F14 cs p st W d6 Cs rs) ⟨S14 ((aW W p).length+1) g,HP (aW W p) R X M⟩=some (true,⟨S14 ((aW W p).length+1) g,HP (aW W p) R (X++(als ((znl W R Cs).map zmh) ((aW W p).length+2+M.length)).1) (M++(als ((znl W R Cs).map zmh) ((aW W p).length+2+M.length)).2)⟩):=by
 unfold lkZ zyh
 show(match(HP (aW W p) R X M)[(aW W p).length+1]? with|some (.ls xs)=>_|_=>_)=_
 rw[hp_h]
 dsimp only
 rw[if_pos hx]
 rw[show zpt (HP (aW W p) R X M) ((aW W p).length+1)=HP (aW W p) R [.op .non] M from zagw]
 have sv:zee (HP (aW W p) R [.op .non] M) (F14 cs p st W d6 Cs rs) (S14 ((aW W p).length+1) g)=[.no,.pl (zbz cs),.pl (.int (p:Int)),.pl (zab st),.pl (webD W),.pl (UU W),.pl d6,.ac (.list (Cs.map zat)),.pl (zam rs),shS (HP (aW W p) R [.op .non] M) .no (some (.lo 0)),shS (HP (aW W p) R [.op .non] M) .no (some (.lo ((aW W p).length+1))),shS (HP (aW W p) R [.op .non] M) .no g]:=rfl
 rw[sv,zxe]
 show Option.bind (some [(⟨zdu W p R,false,[]⟩:Val),⟨UU W,false,[]⟩,⟨.list (Cs.map zat),false,[7]⟩,vi t]) _=_
 rw[qB]
 refine(if_pos rfl).trans ?_
 show Option.map _ (zrc 13 4 zbd [zdu W p R,UU W,.list (Cs.map zat),.int t])=_
 rw[zajv h hr ok lo hC hl,qAo,zagx,zarc,zard,zagw]
theorem zagz{α β:Type}{f:α->β}:∀{l:List α}{i:Nat},(l.map f).eraseIdx i=(l.eraseIdx i).map f
 | [],_=>rfl
 | x::l,0=>rfl
 | x::l,i+1=>by
  show f x::(l.map f).eraseIdx i=f x::(l.eraseIdx i).map f
  rw[zagz]
theorem ix14{env:DEnv}:yIx (yVar 9) (yE (eC (.int 2))) env ⟨S14 ((aW W p).length+1) g,HP (aW W p) R X M⟩=some (.lo (aW W p).length):=rfl
theorem zasl{r:Rule}(hl:R.length<300):yApp (yIx (yVar 9) (yE (eC (.int 2)))) (yVar 11) (F14 cs p st W d6 Cs rs) ⟨S14 ((aW W p).length+1) (some (.dt (zbg r))),HP (aW W p) R X M⟩=some (.nx (F14 cs p st W d6 Cs rs) ⟨S14 ((aW W p).length+1) (some (.dt (zbg r))),HP (aW W p) (R++[r]) X M⟩):=by
 refine(zago (n:=(aW W p).length) (xs:=dR R) (y:=.dt (zbg r)) ix14 hp_r (by rw[qD,qD];omega) rfl).trans ?_
 dsimp only
 rw[show dR R++[SV.dt (zbg r)]=dR (R++[r]) by simp[dR],zagv]
theorem zasm {i:Nat} (hi:i<R.length) (hl:R.length<300) {e:EF} (he:e (zee (HP (aW W p) R X M) (F14 cs p st W d6 Cs rs) (S14 ((aW W p).length+1) none))=some (vi (i:Int))) :
  zafb 11 (yIx (yVar 9) (yE (eC (.int 2)))) (yE e) (F14 cs p st W d6 Cs rs) ⟨S14 ((aW W p).length+1) none,HP (aW W p) R X M⟩=some (.nx (F14 cs p st W d6 Cs rs) ⟨S14 ((aW W p).length+1) (some (.dt (zbg R[i]))),HP (aW W p) (R.eraseIdx i) X M⟩):=by
 unfold zafb
 rw[ix14,qB]
 have ls:lsAt (HP (aW W p) R X M) (.lo (aW W p).length)=some ((aW W p).length,dR R):=by
  unfold lsAt
  dsimp only
  rw[hp_r]
 rw[ls,qB]
 have ye:yE e (F14 cs p st W d6 Cs rs) ⟨S14 ((aW W p).length+1) none,HP (aW W p) R X M⟩=some (.int (i:Int)):=by
  unfold yE
  rw[he]
  rfl
 rw[ye,qB]
 dsimp only
 have lR:(dR R).length=R.length:=by rw[qD,qD]
 have ix:ixN (dR R).length (i:Int)=some i:=by
  unfold ixN
  rw[lR,if_pos (by omega),if_pos (by omega)]
  simp
 rw[ix,qB]
 have gi:(dR R)[i]?=some (.dt (zbg R[i])):=by rw[qS,qS,qL hi];rfl
 rw[gi,qB,if_pos ⟨by rw[lR];omega,by show 11<12;decide⟩]
 rw[show(dR R).eraseIdx i=dR (R.eraseIdx i) by rw[dR,dR,zagz,zagz]]
 rw[show(HP (aW W p) R X M).set (aW W p).length (SN.ls (dR (R.eraseIdx i)))=_ from zagv]
 rfl
theorem zaha{c:TFz}{a b:SFs}{env:DEnv}{s0 s1:SyT}{o:Option OutS}(h:c env s0=some (false,s1))(k:b env s1=o):yIfZ c a b env s0=o:=by
 unfold yIfZ
 rw[h]
 exact k
theorem zaoe{c:TFz}{env:DEnv}{s0 s1:SyT}(h:c env s0=some (true,s1)):zNot c env s0=some (false,s1):=by unfold zNot;rw[h];rfl
theorem zarf{P:List (List Str)}(hd:Held (aW W p) X M P)(hP:∀x∈P,LowS x/\x.length<1000)(hl:P.length<1000) :
  yRet (yE (eCB (anyD λbs=>bs.all id) (zaa (zbx ["_law_told","_law_due"] [] (zaj (eVar 10)) (gT 2 (zag 0 (zag 1 zbw))) zbf (zal 2 zah (zaa (eVar 0) (zaa (eVar 1) aNil)))) aNil))) (F14 cs p st W d6 Cs rs) ⟨S14 ((aW W p).length+1) g,HP (aW W p) R X M⟩=some (.rt (.bool true)):=by
 have rd:rdV (HP (aW W p) R X M) 9 (.lo ((aW W p).length+1))=some (.list (P.map zuf)):=by
  have:=hd R X []
  rw[qr]at this
  unfold rdV
  rw[hp_h]
  dsimp only
  rw[this]
  rfl
 have sh:shS (HP (aW W p) R X M) .no (some (.lo ((aW W p).length+1)))=.pl (.list (P.map zuf)):=by
  unfold shS
  dsimp only
  rw[rd]
 have sv:zee (HP (aW W p) R X M) (F14 cs p st W d6 Cs rs) (S14 ((aW W p).length+1) g)=[.no,.pl (zbz cs),.pl (.int (p:Int)),.pl (zab st),.pl (webD W),.pl (UU W),.pl d6,.ac (.list (Cs.map zat)),.pl (zam rs),shS (HP (aW W p) R X M) .no (some (.lo 0)),shS (HP (aW W p) R X M) .no (some (.lo ((aW W p).length+1))),shS (HP (aW W p) R X M) .no g]:=rfl
 have cm:zda (gT 2 (zag 0 (zag 1 zbw))) zbf (zal 2 zah (zaa (eVar 0) (zaa (eVar 1) aNil))) [.no,.no] (P.map zuf)=some (P.map λ_=>.bool true):=
  zby (enc:=zuf) λx hx=>⟨[.pl (zab x),.pl (zab x)],rfl,rfl,vb true,zbj (n:=2) (rs:=[⟨zab x,false,[]⟩,⟨zab x,false,[]⟩]) rfl rfl (zue (hP x hx).1 (hP x hx).2),rfl⟩
 unfold yRet yE
 dsimp only
 rw[sv,sh]
 have a:=zajf (f:=λ_:List Str=>true) (l:=P) (zde (own:=["_law_told","_law_due"]) (fr:=[]) (fi:=zaj (eVar 10)) (env:=[.no,.pl (zbz cs),.pl (.int (p:Int)),.pl (zab st),.pl (webD W),.pl (UU W),.pl d6,.ac (.list (Cs.map zat)),.pl (zam rs),shS (HP (aW W p) R X M) .no (some (.lo 0)),.pl (.list (P.map zuf)),shS (HP (aW W p) R X M) .no g]) (ds:=P.map zuf) (bs:=[]) rfl (by rw[qD];omega) cm)
 rw[a,show P.all (λ_=>true)=true by simp]
 rfl
end
theorem zarg{cs:List Int}{p:Nat}{st:List Str}{W:Web}{d6:PyData}{Cs:List (List Arm)}{rs:List Rule}(hW:W.length<100000) :
  zfm [4,8] 9 (pTup (zdr (zvm ["_law_name","_law_elders"] [] (zaj (eVar 4)) (gT 2 (zag 0 (zag 1 zbw))) zbf (pTup (zdr (pLf (eVar 0)) (zdr (pFr (eCB zln (zaa (eVar 1) aNil))) zra)))) (zdr (pLf (eVar 2)) (zdr (pFr (eCB zln (zaa (eVar 8) aNil))) zra)))) (E14 cs (.pl (.int (p:Int))) (.pl (zab st)) (.pl (webD W)) (.pl (UU W)) (.pl d6) (.ac (.list (Cs.map zat))) (.ac (zam rs))) ⟨[],[]⟩ =
   some (.nx (F14 cs p st W d6 Cs rs) ⟨[none,none,none,none,none,none,none,none,none,some (.lo 0),none,none],aW W p++[.ls (dR rs)]⟩):=by
 have c:∀V:Web,zrb (gT 2 (zag 0 (zag 1 zbw))) zbf (pTup (zdr (pLf (eVar 0)) (zdr (pFr (eCB zln (zaa (eVar 1) aNil))) zra))) [.no,.no] (V.map rowD)=some (V.map rowT):=λV=>by
  induction V with
  | nil=>rfl
  | cons z V ih=>
   rw[qM]
   unfold zrb
   show Option.bind (some [Sl.pl (.str z.1),.pl (zab z.2)]) _=_
   rw[qB]
   show Option.bind (some true) _=_
   rw[qB,if_pos rfl]
   show Option.bind (some (rowT z)) _=_
   rw[qB,ih]
   rfl
 have pc:zvm ["_law_name","_law_elders"] [] (zaj (eVar 4)) (gT 2 (zag 0 (zag 1 zbw))) zbf (pTup (zdr (pLf (eVar 0)) (zdr (pFr (eCB zln (zaa (eVar 1) aNil))) zra))) (F14 cs p st W d6 Cs rs)=some (webN W):=by
  unfold zvm
  show Option.bind (some (W.map rowD,([]:List Nat))) _=_
  rw[qB,if_pos ⟨by rw[qD];exact hW,rfl,rfl⟩]
  show Option.map NT.ls (zrb _ _ _ [.no,.no] (W.map rowD))=_
  rw[c]
  rfl
 have tp:pTup (zdr (zvm ["_law_name","_law_elders"] [] (zaj (eVar 4)) (gT 2 (zag 0 (zag 1 zbw))) zbf (pTup (zdr (pLf (eVar 0)) (zdr (pFr (eCB zln (zaa (eVar 1) aNil))) zra)))) (zdr (pLf (eVar 2)) (zdr (pFr (eCB zln (zaa (eVar 8) aNil))) zra))) (F14 cs p st W d6 Cs rs)=some (bkN W p rs):=by
  show Option.bind (Option.bind (zvm ["_law_name","_law_elders"] [] (zaj (eVar 4)) (gT 2 (zag 0 (zag 1 zbw))) zbf (pTup (zdr (pLf (eVar 0)) (zdr (pFr (eCB zln (zaa (eVar 1) aNil))) zra))) (F14 cs p st W d6 Cs rs)) _) _=_
  rw[pc]
  rfl
 unfold zfm
 rw[show frzs (E14 cs (.pl (.int (p:Int))) (.pl (zab st)) (.pl (webD W)) (.pl (UU W)) (.pl d6) (.ac (.list (Cs.map zat))) (.ac (zam rs))) [4,8]=F14 cs p st W d6 Cs rs from rfl,tp,qB,if_pos (by show 9<12;decide)]
 show some (OutS.nx _ (zaev ⟨[],[]++(al (bkN W p rs) 0).2⟩ 12 9 (al (bkN W p rs) 0).1))=_
 rw[zaob]
 rfl
theorem zarh{cs:List Int}{p:Nat}{st:List Str}{W:Web}{d6:PyData}{Cs:List (List Arm)}{rs:List Rule} :
  zfm [] 10 (pFr (eLst aNil)) (F14 cs p st W d6 Cs rs) ⟨[none,none,none,none,none,none,none,none,none,some (.lo 0),none,none],aW W p++[.ls (dR rs)]⟩=some (.nx (F14 cs p st W d6 Cs rs) ⟨S14 ((aW W p).length+1) none,HP (aW W p) rs [] []⟩):=by
 unfold zfm
 show Option.bind (some (NT.ls (([]:List PyData).map NT.lf))) _=_
 rw[qB,if_pos (by show 10<12;decide),zagm]
 show some (OutS.nx _ (zaev ⟨_,(aW W p++[.ls (dR rs)])++[.ls []]⟩ 12 10 (.lo (aW W p++[SN.ls (dR rs)]).length)))=_
 rw[qJ,qAQ]
 rfl
theorem zajy{cs:List Int}(hl:cs.length=34)(h0:∀c∈cs,0<=c):zxg (envL 10 cs) ⟨[],[]⟩=some (.rt (.bool true)):=by
 obtain⟨p,st,W,t,st1⟩:=zany hl h0
 obtain⟨c0,c1,c2,c3,d6,k0,k1,k2,k3,st2⟩:=zanz hl h0 t
 obtain⟨rs,b,st3⟩:=zaoa hl h0 t (c0:=c0) (c1:=c1) (c2:=c2) (c3:=c3) (d6:=d6) k0
 have hst:=t.len
 have hpr:=t.p1
 have low:∀z∈nm W,Low z:=by rw[t.nm_];exact t.low
 have hW:W.length<100000:=by
  have:=congrArg List.length t.nm_
  unfold nm at this
  rw[qD]at this
  omega
 have hC:∀c∈[c0,c1,c2,c3],CallOk W c/\c.length=p:=λc hc=>by
  have k:C15 W p c:=by
   have:c=c0\/c=c1\/c=c2\/c=c3:=by simpa using hc
   rcases this with rfl|rfl|rfl|rfl
   ·exact k0
   ·exact k1
   ·exact k2
   ·exact k3
  exact⟨⟨by rw[k.len];omega,λa ha=>qAu (k.cl.few a ha) (by decide),k.cl.kinds⟩,k.len⟩
 have hrl:=b.ok.len
 have okR:∀R:List Rule,(∀r∈R,r∈rs)->R.length<300->RulesOk W R/\OrdOk W p R/\∀r∈R,qAJ r.1=true:=λR hR hl=>⟨⟨λr hr=>b.ok.low r (hR r hr),λr hr=>b.ok.kinds r (hR r hr),λr hr=>b.ok.few r (hR r hr),hl⟩,⟨λr hr=>b.ord.kinds r (hR r hr),λr hr=>b.ord.size r (hR r hr)⟩,λr hr=>b.low r (hR r hr)⟩
 have lkP:∀R:List Rule,(∀r∈R,r∈rs)->R.length<300->∀x∈znl W R [c0,c1,c2,c3],LowS x/\x.length<1000:=λR hR hl x hx=>by
  obtain⟨c,_,hx⟩:=qBF.mp hx
  have hx:x=fN W R c\/x=nN W R c:=by simpa using hx
  have lf:(fitL W R c).length<=R.length:=qAt _ _
  have ln:(zwx W (fitL W R c)).length<=(fitL W R c).length:=qAt _ _
  rcases hx with rfl|rfl
  ·refine⟨λy hy=>?_,by rw[qD];omega⟩
   obtain⟨r,hr',rfl⟩:=qg.mp hy
   exact b.low r (hR r (qAK.mp hr').1)
  ·refine⟨λy hy=>?_,by rw[qD];omega⟩
   obtain⟨r,hr',rfl⟩:=qg.mp hy
   exact b.low r (hR r (qAK.mp (qAK.mp hr').1).1)
 have lkL:∀R:List Rule,(znl W R [c0,c1,c2,c3]).length=8:=λR=>rfl
 have alL:∀(Q:List (List Str))(n:Nat),(als (Q.map zmh) n).1.length=Q.length:=λQ=>by
  induction Q with
  | nil=>intro n;rfl
  | cons x Q ih=>
   intro n
   rw[qM]
   unfold als
   rw[qAe,ih]
   rfl
 refine(st1 _).trans ((st2 _).trans ((st3 _).trans (zbb (zarg hW) (zbb zarh ?_))))
 have h1:Held (aW W p) [] [] []:=λR Y ext=>rfl
 have l1:=zagy (cs:=cs) (st:=st) (d6:=d6) (rs:=rs) (g:=none) (X:=[]) (M:=[]) t.ok b.ok b.ord b.low hC (show 4<100 by decide) (show 0<50000 by decide) 0
 have H1:=h1.look (Q:=znl W rs [c0,c1,c2,c3])
 generalize eX1:([]:List SV)++(als ((znl W rs [c0,c1,c2,c3]).map zmh) ((aW W p).length+2+([]:List SN).length)).1=X1 at l1 H1
 generalize eM1:([]:List SN)++(als ((znl W rs [c0,c1,c2,c3]).map zmh) ((aW W p).length+2+([]:List SN).length)).2=M1 at l1 H1
 have x1:X1.length=8:=by rw[<- eX1,qJ,alL,lkL];rfl
 have sb:qAA (zdu W p rs)=true:=zze t.ok low λr hr=>⟨b.low r hr,b.ok.low r hr⟩
 have tn:yT (zbr (eOp neD (eVar 9) (eTup (zaa (eVar 4) (zaa (eVar 2) (zaa (eVar 8) aNil)))))) (F14 cs p st W d6 [c0,c1,c2,c3] rs) ⟨S14 ((aW W p).length+1) none,HP (aW W p) rs X1 M1⟩=some false:=by
  unfold yT
  dsimp only
  rw[show zee (HP (aW W p) rs X1 M1) (F14 cs p st W d6 [c0,c1,c2,c3] rs) (S14 ((aW W p).length+1) none)=[.no,.pl (zbz cs),.pl (.int (p:Int)),.pl (zab st),.pl (webD W),.pl (UU W),.pl d6,.ac (.list ([c0,c1,c2,c3].map zat)),.pl (zam rs),shS (HP (aW W p) rs X1 M1) .no (some (.lo 0)),shS (HP (aW W p) rs X1 M1) .no (some (.lo ((aW W p).length+1))),.no]from rfl,zxe]
  exact zaqt (d:=zdu W p rs) (f1:=false) (f2:=false) (b1:=[]) (b2:=[]) rfl rfl sb
 have z1:zOr (zNot (lkZ 0)) (zOf (yT (zbr (eOp neD (eVar 9) (eTup (zaa (eVar 4) (zaa (eVar 2) (zaa (eVar 8) aNil)))))))) (F14 cs p st W d6 [c0,c1,c2,c3] rs) ⟨S14 ((aW W p).length+1) none,HP (aW W p) rs [] []⟩=some (false,⟨S14 ((aW W p).length+1) none,HP (aW W p) rs X1 M1⟩):=by
  unfold zOr
  rw[zaoe l1,qB,if_neg (show ¬(false=true) by decide)]
  unfold zOf
  rw[tn]
  rfl
 refine zbb (zaha z1 rfl) ?_
 have lt:eCB lenD (zaa (eVar 8) aNil) (zee (HP (aW W p) rs X1 M1) (F14 cs p st W d6 [c0,c1,c2,c3] rs) (S14 ((aW W p).length+1) none))=some (vi (rs.length:Int)):=by
  have:=zis (a:=eVar 8) (env:=zee (HP (aW W p) rs X1 M1) (F14 cs p st W d6 [c0,c1,c2,c3] rs) (S14 ((aW W p).length+1) none)) (ds:=rs.map zbg) (fr:=false) (bs:=[]) rfl
  rw[qD]at this
  exact this
 have tg:yT (zbr (eOp gtD (eCB lenD (zaa (eVar 8) aNil)) (eC (.int 0)))) (F14 cs p st W d6 [c0,c1,c2,c3] rs) ⟨S14 ((aW W p).length+1) none,HP (aW W p) rs X1 M1⟩=some (decide ((0:Int)<(rs.length:Int))):=by
  unfold yT
  exact zgj (zanq lt rfl)
 by_cases hr0:rs.length=0
 ·refine zbb (zagn (tg.trans (by rw[hr0];rfl)) rfl) ?_
  exact zarf H1 (λx hx=>lkP rs (λ_ h=>h) hrl x (by simpa using hx)) (by rw[qCH,lkL];show 8<1000;decide)
 ·have hc7:0<=cs[7]'(by omega):=h0 _ (qAP _)
  have q0:=qt (cs[7]'(by omega)) (show(rs.length:Int)≠0 by omega)
  have q1:=qu (cs[7]'(by omega)) (show(0:Int)<(rs.length:Int) by omega)
  obtain⟨i,hi⟩:=qCk q0
  have hir:i<rs.length:=by omega
  have ei:eOp modD (eIxV 1 (eC (.int 7))) (eCB lenD (zaa (eVar 8) aNil)) (zee (HP (aW W p) rs X1 M1) (F14 cs p st W d6 [c0,c1,c2,c3] rs) (S14 ((aW W p).length+1) none))=some (vi (i:Int)):=by
   rw[zep (zpz (n:=7) rfl rfl (by omega)) lt (by omega)]
   exact congrArg (λz=>some (vi z)) hi
  have pp:=zasm (cs:=cs) (st:=st) (d6:=d6) (Cs:=[c0,c1,c2,c3]) (rs:=rs) (X:=X1) (M:=M1) hir hrl ei
  have sub1:∀r∈rs.eraseIdx i,r∈rs:=λr hr=>List.mem_of_mem_eraseIdx hr
  have len1:(rs.eraseIdx i).length<300:=qAu (List.length_eraseIdx_le _ _) hrl
  obtain⟨r1,o1,w1⟩:=okR _ sub1 len1
  have l2:=zagy (cs:=cs) (st:=st) (d6:=d6) (rs:=rs) (g:=some (.dt (zbg rs[i]))) (X:=X1) (M:=M1) t.ok r1 o1 w1 hC (show 4<100 by decide) (by omega) 1
  have H2:=H1.look (Q:=znl W (rs.eraseIdx i) [c0,c1,c2,c3])
  generalize eX2:X1++(als ((znl W (rs.eraseIdx i) [c0,c1,c2,c3]).map zmh) ((aW W p).length+2+M1.length)).1=X2 at l2 H2
  generalize eM2:M1++(als ((znl W (rs.eraseIdx i) [c0,c1,c2,c3]).map zmh) ((aW W p).length+2+M1.length)).2=M2 at l2 H2
  have x2:X2.length=16:=by rw[<- eX2,qJ,alL,lkL,x1]
  have ap:=zasl (W:=W) (p:=p) (cs:=cs) (st:=st) (d6:=d6) (Cs:=[c0,c1,c2,c3]) (rs:=rs) (X:=X2) (M:=M2) (r:=rs[i]) len1
  have sub2:∀r∈rs.eraseIdx i++[rs[i]],r∈rs:=λr hr=>(qV.mp hr).elim (sub1 r) λz=>by rw[qf.mp z];exact qAP _
  have len2:(rs.eraseIdx i++[rs[i]]).length<300:=by
   rw[qJ,List.length_eraseIdx,if_pos hir]
   show rs.length - 1+1<300
   omega
  obtain⟨r2,o2,w2⟩:=okR _ sub2 len2
  have l3:=zagy (cs:=cs) (st:=st) (d6:=d6) (rs:=rs) (g:=some (.dt (zbg rs[i]))) (X:=X2) (M:=M2) t.ok r2 o2 w2 hC (show 4<100 by decide) (by omega) 0
  have H3:=H2.look (Q:=znl W (rs.eraseIdx i++[rs[i]]) [c0,c1,c2,c3])
  refine zbb (zanv (tg.trans (by rw[decide_eq_true (show(0:Int)<(rs.length:Int) by omega)])) (zbb pp (zbb (zaha (zaoe l2) rfl) (zbb ap (zaha (zaoe l3) rfl))))) ?_
  refine zarf H3 (λx hx=>?_) (by rw[qJ,qJ,qCH,lkL,lkL,lkL];show 24<1000;decide)
  rcases qV.mp hx with hx|hx
  ·rcases qV.mp hx with hx|hx
   ·exact lkP rs (λ_ h=>h) hrl x (by simpa using hx)
   ·exact lkP _ sub1 len1 x hx
  ·exact lkP _ sub2 len2 x hx
section
variable{P:Program}{w:World}{K:qC}{mg:Str->Option Value}{base:Heap}
theorem zasn{s k:Int}(h1:0<=s)(h2:s<2147483647)(h3:0<=k)(h4:k<=64):0<=s * (k+2)+7919 * k * k+11/\s * (k+2)+7919 * k * k+11<200000000000:=by
 have a1:0<=s * (k+2):=qCZ h1 (by omega)
 have a2:s * (k+2)<=2147483647 * 66:=Int.mul_le_mul (by omega) (by omega) (by omega) (by omega)
 have a3:0<=7919 * k * k:=qCZ (by omega) h3
 have a4:7919 * k * k<=7919 * 64 * 64:=Int.mul_le_mul (by omega) h4 h3 (by omega)
 omega
noncomputable def zzg(K:qC):Sp:=λvs H Q _=>∃(a:Addr)(ns:List Int)(m:Int),vs=[.ref a,.int m]/\SqL K H a (ns.map .int)/\0<=m/\m<=64/\
 ∀p H' (cs:List Int),H p=none->Same H H'->H' p=some (.lst (cs.map .int))->cs.length=m.toNat->(∀c∈cs,0<=c/\c<1000000000000)->Q (.ref p) H'
theorem zxh{f:Addr}{fd:qx}(F:Fun K "_law_draws" "_law_draws" zkv f fd)(T:Txt mg):FnOk P w K mg base CX0 1 f fd ["_law_script","_law_many"] (zzg K):=by
 refine F.ok zwd (λvs H Q E h=>?_) (λcdv A outer s H vs Q E hr h=>?_)
 ·obtain⟨a,ns,m,rfl,_⟩:=h
  rfl
 ·obtain⟨a,ns,m,rfl,hS,h0,h64,k⟩:=h
  apply Exists.intro
  apply And.intro
  ·refine'(zld (zzj (i:=2) (hf:=Or.inl rfl) zed rfl (Or.inl rfl) zgs)
 (zld (zacl qv rfl (zahy (K:=K) rfl (zzl (zml (K:=K) rfl) (pv 0) zacv (zacw zgs))) (zxl (i:=3) (hf:=Or.inl rfl) zed rfl (Or.inl rfl))
  (zmi (zzj (i:=2) (hf:=Or.inl rfl) zed rfl (Or.inl rfl) (zju zcb (zju (zbu (K:=K) rfl) (zju zgx (pv 2) zgs) (zju zcb (pv 3) zgs)) zgs))))
 (zld (zzj (i:=4) (hf:=Or.inl rfl) zed rfl (Or.inl rfl) (zakd zrk))
 (zld (zacl qv rfl (zui rfl T.range (zox (pv 1) zrk)) (zxl (i:=5) (hf:=Or.inl rfl) zed rfl (Or.inl rfl))
  (zmi (zaoq (zaco zarp (pv 5) (zzk (zbv (K:=K) rfl) (by rfl) T.len zcu (zox (pv 0) zrk)) (zfe _)) (zmi (zxk (zado (K:=K) rfl qN qX qW zbi (pv 4) (zox (zju zcb (zapa (zdx (K:=K) rfl) (pv 0) (pv 5) (λ_ _=>rfl)) (zju zakc zgs zgs)) zrk)))) (zmi (zxk (zado (K:=K) rfl qN qX qW zbi (pv 4) (zox (zju zcy (zju zcb (zju zakc (zju (zbu (K:=K) rfl) (zju (zbu (K:=K) rfl) (zju zgx (pv 2) (zju (zbu (K:=K) rfl) (pv 5) zgs)) (zju zgx (zju zgx zgs (pv 5)) (pv 5))) zgs) zgs) zgs) zgs) zrk)))))))
 (zmi (zakb (pv 4)))))))
  refine⟨_,rfl,_,rfl,a,_,rfl,hS,λp hp=>⟨p,rfl,⟨_,SqL.of zap⟩,L2.for_list (xs:=cutV (ns.map V.int) none (some 63)) (λi σ H1=>∃(sd:Int)(v3:Option V),σ=[some (.ref a),some (.int m),some (.int sd),v3,none,none]/\H1=upd H p (.lst (cutV (ns.map V.int) none (some 63)))/\0<=sd/\sd<2147483647)
   ⟨7,none,rfl,rfl,by decide,by decide⟩ (λi σ H1 _ ⟨_,_,_,e,_⟩=>e▸SqL.of zap) ?_ ?_⟩⟩
  ·rintro i x σ H1 hi ⟨sd,v3,rfl,rfl,b0,b1⟩
   obtain⟨z,rfl⟩:∃z,x=V.int z:=by
    have hm:=qj hi
    unfold cutV at hm
    obtain⟨z,_,e⟩:=qg.mp (qAx (qAw hm))
    exact⟨z,e.symm⟩
   refine⟨_,rfl,.inl ⟨by omega,by omega⟩,_,rfl,_,_,rfl,rfl,(by show(0:Int)<2147483629;decide),_,_,rfl,rfl,(by show(0:Int)<2147483647;decide),?_⟩
   exact⟨_,_,rfl,rfl,qt _ (by decide),qu _ (by decide)⟩
  ·rintro σ H1 ⟨sd,v3,rfl,rfl,b0,b1⟩
   refine⟨qAU _,λq hq=>?_⟩
   have hqH:H q=none:=(Same.new hp).free hq
   have sH:∀o,Same H (upd (upd H p (.lst (cutV (ns.map V.int) none (some 63)))) q o):=λo=>(Same.new hp).upd hqH
   refine⟨_,rfl,m,rfl,by omega,by omega,L2.for_range (n:=m.toNat) (λi σ H2=>∃(cs:List Int)(v5:Option V),σ=[some (.ref a),some (.int m),some (.int sd),v3,some (.ref q),v5]/\H2=upd (upd H p (.lst (cutV (ns.map V.int) none (some 63)))) q (.lst (cs.map .int))/\cs.length=i/\∀c∈cs,0<=c/\c<1000000000000)
    ⟨[],none,rfl,rfl,rfl,λ_ h=>nomatch h⟩ ?_ ?_⟩
   ·rintro i σ H2 hi ⟨cs,v5,rfl,rfl,hc,hp0⟩
    have hi64:(i:Int)<=64:=by omega
    refine⟨_,rfl,_,rfl,_,_,rfl,.inl ⟨_,(sH _).seq hS,rfl⟩,_,_,rfl,rfl,_,rfl,?_⟩
    have lz:(cs.map V.int).length<qZ:=by rw[qD,hc];exact qAu (show i<=64 by omega) (by decide)
    have fin:∀v:Int,0<=v->v<1000000000000->∃(cs':List Int)(v5:Option V),[some (.ref a),some (.int m),some (.int sd),v3,some (.ref q),some (.int (0+(i:Int)))]=[some (.ref a),some (.int m),some (.int sd),v3,some (.ref q),v5]/\
      upd (upd (upd H p (.lst (cutV (ns.map V.int) none (some 63)))) q (.lst (cs.map .int))) q (.lst (cs.map V.int++[.int v]))=upd (upd H p (.lst (cutV (ns.map V.int) none (some 63)))) q (.lst (cs'.map .int))/\cs'.length=i+1/\∀c∈cs',0<=c/\c<1000000000000:=λv hv hv2=>by
     refine⟨cs++[v],_,rfl,?_,by simp[hc],λc h=>?_⟩
     ·rw[zalf,qAL];rfl
     ·rcases qV.mp h with h|h
      ·exact hp0 c h
      ·rw[qf.mp h];exact⟨hv,hv2⟩
    refine ite2 (λh=>?_) (λh=>?_)
    ·have h:(0:Int)+i<((ns.map V.int).length:Nat):=of_decide_eq_true h
     rw[qD]at h
     have hin:i<ns.length:=by omega
     have ga:atI (ns.map V.int) (0+(i:Int))=some (.int ns[i]):=by
      rw[Int.zero_add]
      exact zki (by rw[qS,qL hin];rfl)
     refine⟨_,rfl,.inl ⟨rfl,_,SqL.of zap⟩,_,rfl,_,rfl,_,_,.inl ((sH _).seq hS),ga,_,_,rfl,rfl,⟨by decide,by decide,by decide⟩,_,_,rfl,rfl,(by show(0:Int)<10 ^ 12;decide),q,_,_,rfl,rfl,zap,lz,?_⟩
     exact fin _ (qt _ (by decide)) (qu _ (by decide))
    ·obtain⟨d1,d2⟩:=zasn (s:=sd) (k:=0+(i:Int)) b0 b1 (by omega) (by omega)
     refine⟨_,rfl,.inl ⟨rfl,_,SqL.of zap⟩,_,rfl,_,rfl,.inl ⟨by omega,by omega⟩,_,rfl,.inl ⟨by decide,by decide⟩,_,rfl,.inr ⟨by omega,by omega⟩,?_⟩
     refine⟨_,_,rfl,rfl,⟨by decide,by decide,?_⟩,_,_,rfl,rfl,(by show(0:Int)<2147483647;decide),_,_,rfl,rfl,⟨by decide,by decide⟩,q,_,_,rfl,rfl,zap,lz,?_⟩
     ·show(sd * (0+(i:Int)+2)+7919 * (0+(i:Int)) * (0+(i:Int))+11).natAbs<2 ^ 64
      omega
     ·refine fin _ (qBP (qt _ (by decide)) (by decide)) ?_
      have h9:∀z:Int,z % 2147483647 / 7<1000000000000:=λz=>by have:=qu z (show(0:Int)<2147483647 by decide);omega
      exact h9 _
   ·rintro σ H2 ⟨cs,v5,rfl,rfl,hc,hp0⟩
    exact⟨_,rfl,k q _ cs hqH (sH _) zap hc hp0⟩
end
section
variable{P:Program}{w:World}{K:qC}{mg:Str->Option Value}{base:Heap}
noncomputable def zajz(K:qC):Sp:=λvs H Q _=>∃(a:Addr)(ns:List Int),vs=[.ref a]/\SqL K H a (ns.map V.int)/\∀H',Q (.bl true) H'
theorem zari{f:Addr}{fd:qx}(F:Fun K "law" "law" zaby f fd)(T:Txt mg)(D_law_arm:zwq P w K mg base)(D_law_call:zsg P w K mg base)(D_law_draws:Dn P w K mg base "_law_draws" ["_law_script","_law_many"] 1 (zzg K))(D_law_looked:zod P w K mg base)(D_law_names:zqr P w K mg base)(D_law_rules:zqs P w K mg base)(D_law_same:zni P w K mg base)(D_law_up:zaat P w K mg base)(D_law_web:zwp P w K mg base):FnOk P w K mg base CX0 7 f fd ["_law_script"] (zajz K):=by
 refine F.ok zaqs (λvs H Q E h=>?_) (λcdv A outer s H vs Q E hr h=>?_)
 ·obtain⟨a,ns,rfl,_⟩:=h
  rfl
 ·obtain⟨a,ns,rfl,hS,k⟩:=h
  have hu:=zer hr
  apply Exists.intro
  apply And.intro
  ·refine' Bx.out (zad (bpsS (i:=1) zhh rfl (Or.inl rfl) (bpeD D_law_draws hr (bpaC (bv 0) (bpaC zae zac))))
 (zad (bpsS (i:=2) zhh rfl (Or.inr rfl) (zan (zbu (K:=K) rfl) zae (zan zcb (bpeX (zdx (K:=K) rfl) (bv 1) zae) zae)))
 (zad (bpsS (i:=3) zhh rfl (Or.inr rfl) (bpeD D_law_names hr (bpaC (zan (zbu (K:=K) rfl) zae (zan zcb (zan zcy (bpeX (zdx (K:=K) rfl) (bv 1) zae) zae) (bpeX (zdx (K:=K) rfl) (zgf (bpaC zae (bpaC zae (bpaC zae zac)))) (zan zri (bv 2) zae)))) (bpaC (bpeX (zdx (K:=K) rfl) (bv 1) zae) zac))))
 (zad (bpsS (i:=4) zhh rfl (Or.inl rfl) (bpeD D_law_web hr (bpaC (zdg (zml (K:=K) rfl) (bv 1) (zcx zae) (zcx zae)) (bpaC (bv 3) zac))))
 (zad (bpsS (i:=5) zhh rfl (Or.inl rfl) (bpeD D_law_up hr (bpaC (bv 4) zac)))
 (zad (zio (i:=6) (zbc (N':=["_law_cell","_law_names_here"]) (own:=["_law_cell"]) (fr:=[3]) (by kernel_rfl)) rfl (zaw (K:=K) rfl (zdg (zml (K:=K) rfl) (bv 1) (zcx zae) (zcx (zan (zbu (K:=K) rfl) zae (bv 2))))) ?hb1 (by rfl) zhh rfl rfl (by intro _;rfl))
 (zad (zdp (zcw (zno (K:=K) rfl hr.units) (zan zcb (zan zcy (bpeX (zdx (K:=K) rfl) (bv 1) zae) zae) zae) zae (zfe _)) (zaf (zio (i:=6) (zbc (N':=["_law_arm_here"]) (own:=["_law_arm_here"]) (fr:=[]) (by kernel_rfl)) rfl (zaw (K:=K) rfl (bv 6)) ?hb2 (by rfl) zhh rfl rfl (by intro _;rfl))) zcl)
 (zad (bpsS (i:=7) zhh rfl (Or.inl rfl) (zan (zbu (K:=K) rfl) (zeh (bpaC (bpeT (zgc (K:=K) rfl) T.tuple zex (bpaC (bv 6) zac)) zac)) (zcf (zbc (N':=["_law_cell","_law_places","_law_names_here"]) (own:=["_law_cell"]) (fr:=[2,3]) (by kernel_rfl)) rfl (zaw (K:=K) rfl (zdg (zml (K:=K) rfl) (bv 1) (zcx zae) (zcx zae))) ?hb3 (by intro _;rfl))))
 (zad (bpsS (i:=8) zhh rfl (Or.inl rfl) (bpeD D_law_rules hr (bpaC (zdg (zml (K:=K) rfl) (bv 1) (zcx zae) (zcx zae)) (bpaC (bv 3) (bpaC (bv 5) (bpaC (bpeX (zdx (K:=K) rfl) (bv 7) zae) (bpaC (bpeD D_law_names hr (bpaC (zan zcb (bpeX (zdx (K:=K) rfl) (bv 1) zae) zae) (bpaC (bpeX (zdx (K:=K) rfl) (bv 1) zae) zac))) zac)))))))
 (zad (bpsS (i:=9) zhh rfl (Or.inl rfl) (zgf (bpaC (zcf (zbc (N':=["_law_name","_law_elders"]) (own:=["_law_name","_law_elders"]) (fr:=[]) (by kernel_rfl)) rfl (zaw (K:=K) rfl (bv 4)) ?hb4 (by intro _;rfl)) (bpaC (bv 2) (bpaC (bpeT (zgz (K:=K) rfl) T.list zhg (bpaC (bv 8) zac)) zac)))))
 (zad (bpsS (i:=10) zhh rfl (Or.inl rfl) (zeh zac))
 (zad (zdp (zaad (zge (zbq (K:=K) rfl (bpeD D_law_looked hr (bpaC (bv 9) (bpaC (bv 5) (bpaC (bv 7) (bpaC zae (bpaC (bv 10) zac)))))) (λ_=>rfl))) (zsz (zcw (zvc (K:=K) rfl hr.units) (bv 9) (zgf (bpaC (bv 4) (bpaC (bv 2) (bpaC (bv 8) zac)))) (zfe _)))).pt (zaf (zba zjz)) zcl)
 (zad (zdp (zcw zalo (bpeB (zbv (K:=K) rfl) T.len zcu (bpaC (bv 8) zac)) zae (zfe _)) (zad (bpsS (i:=11) zhh rfl (Or.inl rfl) (zcq (K:=K) rfl qN qBb qBa zsn (bpeX (zdx (K:=K) rfl) (bv 9) zae) (bpaC (zan zcb (bpeX (zdx (K:=K) rfl) (bv 1) zae) (bpeB (zbv (K:=K) rfl) T.len zcu (bpaC (bv 8) zac))) zac) (by rfl) (by rfl) (by rfl) (zav (by rfl)) (by rfl)))
 (zad (zdp (zge (zbq (K:=K) rfl (bpeD D_law_looked hr (bpaC (bv 9) (bpaC (bv 5) (bpaC (bv 7) (bpaC zae (bpaC (bv 10) zac)))))) (λ_=>rfl))) (zaf (zba zjz)) zcl)
 (zad (zbm (zcq (K:=K) rfl qN qX qW zbi (bpeX (zdx (K:=K) rfl) (bv 9) zae) (bpaC (bv 11) zac) (by rfl) (by rfl) (by rfl) (zav (by rfl)) (by rfl)) (by rfl))
 (zaf (zdp (zge (zbq (K:=K) rfl (bpeD D_law_looked hr (bpaC (bv 9) (bpaC (bv 5) (bpaC (bv 7) (bpaC zae (bpaC (bv 10) zac)))))) (λ_=>rfl))) (zaf (zba zjz)) zcl))))) zcl)
 (zaf (zba (bpeB (zlj (K:=K) rfl rfl) T.all zov (bpaC (zcf (zbc (N':=["_law_told","_law_due"]) (own:=["_law_told","_law_due"]) (fr:=[]) (by kernel_rfl)) rfl (zaw (K:=K) rfl (bv 10)) ?hb5 (by intro _;rfl)) zac)))))))))))))))))
   case hb1=>(intro cl C s H fp;refine'⟨Bx.out (bpgN (i:=0) zafv rfl (Or.inl rfl)),Bx.out zdd,Bx.out (bpeD D_law_arm hr (bpaC (bv 0) (bpaC (bv 1) zac)))⟩)
   case hb2=>(intro cl C s H fp;refine'⟨Bx.out (bpgN (i:=0) zafw rfl (Or.inl rfl)),Bx.out zdd,Bx.out (bpeX (zdx (K:=K) rfl) (bv 0) zae)⟩)
   case hb3=>(intro cl C s H fp;refine'⟨Bx.out (bpgN (i:=0) zafx rfl (Or.inl rfl)),Bx.out zdd,Bx.out (bpeD D_law_call hr (bpaC (bv 0) (bpaC (bv 2) (bpaC (bv 1) zac))))⟩)
   case hb4=>(intro cl C s H fp;refine'⟨Bx.out (zcn (K:=K) (n:=2) rfl rfl (zao (bpgN (i:=0) zwk rfl (Or.inl rfl)) (zao (bpgN (i:=1) zwk rfl (Or.inl rfl)) zcm (by rfl)) (by rfl)) (by rfl) (by rfl)),Bx.out zdd,Bx.out (zgf (bpaC (bv 0) (bpaC (bpeT (zgz (K:=K) rfl) T.list zhg (bpaC (bv 1) zac)) zac)))⟩)
   case hb5=>(intro cl C s H fp;refine'⟨Bx.out (zcn (K:=K) (n:=2) rfl rfl (zao (bpgN (i:=0) zwl rfl (Or.inl rfl)) (zao (bpgN (i:=1) zwl rfl (Or.inl rfl)) zcm (by rfl)) (by rfl)) (by rfl) (by rfl)),Bx.out zdd,Bx.out (bpeD D_law_same hr (bpaC (bv 0) (bpaC (bv 1) zac)))⟩)
  refine⟨_,rfl,a,ns,34,rfl,hS,by decide,by decide,λpc H1 cs hpc s1 e1 lc p1=>?_⟩
  exact zaix (F:=zxg) ((zbt (zlv (zhn (zhj zux (se_c λ_=>zai) (zhj zrn (zjy (se_c λ_=>zai)) (se_c λ_=>zai))) (by decide))) (zbt (zlv (zhn (zhl (zaz (zhj zux (se_c λ_=>zai) (zhj zrn (zhj zxv (zjy (se_c λ_=>zai)) (se_c λ_=>zai)) (zhj zamj (zads (zaz (se_c λ_=>zai) (zaz (se_c λ_=>zai) (zaz (se_c λ_=>zai) zdz)))) (zhj zakj (zbh 2) (se_c λ_=>zai))))) (zaz (zjy (se_c λ_=>zai)) zdz))) (by decide))) (zbt (zlv (zhn (zhl (zaz (zadx (zbh 1) (zhk (se_c λ_=>zai)) (zhk (se_c λ_=>zai))) (zaz (zbh 3) zdz))) (by decide))) (zbt (zlv (zhn (zhl (zaz (zbh 4) zdz)) (by decide))) (zbt (zlv (zhn (zfl (zro (zadx (zbh 1) (zhk (se_c λ_=>zai)) (zhk (zhj zux (se_c λ_=>zai) (zbh 2))))) zcz (zhm (by decide)) zjx (zhl (zaz (zbh 0) (zaz (zbh 1) zdz)))) (by decide))) (zbt (zvj (zrq (st_t (zhj zaps (zhj zrn (zhj zxv (zjy (se_c λ_=>zai)) (se_c λ_=>zai)) (se_c λ_=>zai)) (se_c λ_=>zai)))) (zlv (zhn (zfl (zro (zbh 6)) zcz (zhm (by decide)) zjx (zjy (se_c λ_=>zai))) (by decide))) zkq) (zbt (zlv (zhn (zhj zux (zadt (zaz (zst zzt (zaz (zbh 6) zdz)) zdz)) (zfl (zro (zadx (zbh 1) (zhk (se_c λ_=>zai)) (zhk (se_c λ_=>zai)))) zcz (zhm (by decide)) zjx (zhl (zaz (zbh 0) (zaz (zbh 2) (zaz (zbh 1) zdz)))))) (by decide))) (zbt (zlv (zhn (zhl (zaz (zadx (zbh 1) (zhk (se_c λ_=>zai)) (zhk (se_c λ_=>zai))) (zaz (zbh 3) (zaz (zbh 5) (zaz (zjy (se_c λ_=>zai)) (zaz (zhl (zaz (zhj zrn (zjy (se_c λ_=>zai)) (se_c λ_=>zai)) (zaz (zjy (se_c λ_=>zai)) zdz))) zdz)))))) (by decide))) (zbt (zft (zaey (zlw (zaiw (zro (zbh 4)) (zil (zbl (zbl zfy))) (zaaa (zgt (by decide) (zgt (by decide) zsv))) zjx (zaey (zlw (zakq (zbh 0)) (zlw (zkb (zst zxy (zaz (zbh 1) zdz))) zaex)))) (zlw (zakq (zbh 2)) (zlw (zkb (zst zxy (zaz (zbh 8) zdz))) zaex))))) (zbt (zft (zkb (zadt zdz))) (zbt (zyf (zaqk (zye (ztd (R:=zgi 13 4 zbd) zte (zea (zbh 9) (zea (zbh 5) (zea (zbh 7) (zea (se_c λ_=>zai) zyg)))))) (zaqj (zrq (st_t (zhj zapt (zbh 9) (zads (zaz (zbh 4) (zaz (zbh 2) (zaz (zbh 8) zdz))))))))) (zmr (zka (se_c λ_=>zbp))) zkq) (zbt (zvj (zrq (st_t (zhj zapq (zst zadv (zaz (zbh 8) zdz)) (se_c λ_=>zai)))) (zbt (zaiy (zakp (zgh 9) (zka (se_c λ_=>zai))) (zka (zhj zrn (zjy (se_c λ_=>zai)) (zst zadv (zaz (zbh 8) zdz))))) (zbt (zyf (zye (ztd (R:=zgi 13 4 zbd) zte (zea (zbh 9) (zea (zbh 5) (zea (zbh 7) (zea (se_c λ_=>zai) zyg)))))) (zmr (zka (se_c λ_=>zbp))) zkq) (zbt (zaeu (zakp (zgh 9) (zka (se_c λ_=>zai))) (zgh 11)) (zyf (zye (ztd (R:=zgi 13 4 zbd) zte (zea (zbh 9) (zea (zbh 5) (zea (zbh 7) (zea (se_c λ_=>zai) zyg)))))) (zmr (zka (se_c λ_=>zbp))) zkq)))) zkq) (zmr (zka (zst zadw (zaz (zfl (zro (zbh 10)) (zil (zbl (zbl zfy))) (zaaa (zgt (by decide) (zgt (by decide) zsv))) zjx (zhl (zaz (zbh 0) (zaz (zbh 1) zdz)))) zdz))))))))))))))))) (zane (n:=10) e1) (zajy lc (λc h=>(p1 c h).1)) k
end
theorem all_mk{l:PySem.W.OpenLaw}{w:World}{K:qC}{h:Heap}{mg:Str->Option Value}{fa f1 f2 f3 f4 f5 f6 f7 f8 f9 f10 f11 f12 f13 f14 f15 f16 f17 f18 f19 f20 f21 f22 f23 f24 f25 f26 f27 f28:Addr}{e1 e2 e3 e4 e5 e6 e7 e8 e9 e10 e11 e12 e13 e14 e15 e16 e17 e18 e19 e20 e21 e22 e23 e24 e25 e26 e27 e28:qx}(X:K.In h)(G:h.Ns qAE mg)(hfa:mg "law"=some (.ref fa))
  (d1:DefIn K "names_of" zmw f1 e1)
  (d2:DefIn K "names_in" zmx f2 e2)
  (d3:DefIn K "check_kinds" zht f3 e3)
  (d4:DefIn K "roofs_of" zmy f4 e4)
  (d5:DefIn K "roof_of" zqe f5 e5)
  (d6:DefIn K "names_in_call" zgm f6 e6)
  (d7:DefIn K "check_call" zix f7 e7)
  (d8:DefIn K "roofs_in_call" zgn f8 e8)
  (d9:DefIn K "fits_under" ziz f9 e9)
  (d10:DefIn K "is_nearer" zku f10 e10)
  (d11:DefIn K "rules_that_fit" zfn f11 e11)
  (d12:DefIn K "nearest_of" zja f12 e12)
  (d13:DefIn K "rule_names" zjb f13 e13)
  (d14:DefIn K "fitting" zqg f14 e14)
  (d15:DefIn K "nearest" zqh f15 e15)
  (d16:DefIn K "_law_draws" zkv f16 e16)
  (d17:DefIn K "_law_names" zkw f17 e17)
  (d18:DefIn K "_law_web" zqk f18 e18)
  (d19:DefIn K "_law_up" ztt f19 e19)
  (d20:DefIn K "_law_parts" zkx f20 e20)
  (d21:DefIn K "_law_arm" zqm f21 e21)
  (d22:DefIn K "_law_call" znb f22 e22)
  (d23:DefIn K "_law_rules" zky f23 e23)
  (d24:DefIn K "_law_fits" znc f24 e24)
  (d25:DefIn K "_law_near" znd f25 e25)
  (d26:DefIn K "_law_same" zne f26 e26)
  (d27:DefIn K "_law_looked" zjc f27 e27)
  (d28:DefIn K "law" zaby f28 e28)
  (z1:qAg K qAE "all"=some none)(z2:qAg K qAE "any"=some none)(z3:qAg K qAE "enumerate"=some none)(z4:qAg K qAE "isinstance"=some none)(z5:qAg K qAE "len"=some none)(z6:qAg K qAE "list"=some none)(z7:qAg K qAE "min"=some none)(z8:qAg K qAE "range"=some none)(z9:qAg K qAE "str"=some none)(z10:qAg K qAE "tuple"=some none)(z11:qAg K qAE "zip"=some none) :
  ∃fd:qx,(∀(s:Shared)(v:Value),BindsTo s fd ⟨[v],[]⟩ [("_law_script",v)])/\∀base:Heap,K.In base->base.Ns qAE mg->FnOk l.prog w K mg base CX0 7 fa fd ["_law_script"] (zajz K):=by
 have e:=hfa.symm.trans (qCM X G d28.ns)
 cases e
 have T:Txt mg:=⟨qAR X G z1,qAR X G z2,qAR X G z3,qAR X G z4,qAR X G z5,qAR X G z6,qAR X G z7,qAR X G z8,qAR X G z9,qAR X G z10,qAR X G z11⟩
 obtain⟨_,_,q1,q2,q3,q4,q5,q6,_,rfl,_,_⟩:=d28.fn.ex
 refine⟨qAh "law" "law" (zfx zaby) (zfi zaby) (zaq zaby) .none q1 q2 q3 q4 q5 q6,λs v=>.of_eq rfl,λbase _ _=>?_⟩
 have D_names_of:zsf l.prog w K mg base:=d1.dn X G (zyu d1.fn T ) (d1.b1 λ_ _ _ _ _ _ _=>rfl)
 have D_names_in:znf l.prog w K mg base:=d2.dn X G (zyv d2.fn T ) (d2.b1 λ_ _ _ _ _ _ _=>rfl)
 have D_check_kinds:zmf l.prog w K mg base:=d3.dn X G (zrg d3.fn T D_names_of) (d3.b2 λ_ _ _ _ _ _ _ _=>rfl)
 have D_roofs_of:zng l.prog w K mg base:=d4.dn X G (zyw d4.fn T ) (d4.b1 λ_ _ _ _ _ _ _=>rfl)
 have D_roof_of:zwm l.prog w K mg base:=d5.dn X G (zabz d5.fn T D_names_in) (d5.b2 λ_ _ _ _ _ _ _ _=>rfl)
 have D_names_in_call:zjf l.prog w K mg base:=d6.dn X G (zop d6.fn T D_names_in) (d6.b1 λ_ _ _ _ _ _ _=>rfl)
 have D_check_call:zoa l.prog w K mg base:=d7.dn X G (ztv d7.fn T D_check_kinds D_names_in_call) (d7.b3 λ_ _ _ _ _ _ _ _ _=>rfl)
 have D_roofs_in_call:zjg l.prog w K mg base:=d8.dn X G (zoq d8.fn T D_roof_of) (d8.b2 λ_ _ _ _ _ _ _ _=>rfl)
 have D_fits_under:zob l.prog w K mg base:=d9.dn X G (ztw d9.fn T ) (d9.b2 λ_ _ _ _ _ _ _ _=>rfl)
 have D_is_nearer:zqq l.prog w K mg base:=d10.dn X G (zwr d10.fn T ) (d10.b3 λ_ _ _ _ _ _ _ _ _=>rfl)
 have D_rules_that_fit:zfo l.prog w K mg base:=d11.dn X G (znj d11.fn T D_check_call D_fits_under D_roofs_in_call D_roofs_of) (d11.b2 λ_ _ _ _ _ _ _ _=>rfl)
 have D_nearest_of:zoc l.prog w K mg base:=d12.dn X G (ztx d12.fn T D_is_nearer) (d12.b2 λ_ _ _ _ _ _ _ _=>rfl)
 have D_rule_names:zjh l.prog w K mg base:=d13.dn X G (zty d13.fn T ) (d13.b1 λ_ _ _ _ _ _ _=>rfl)
 have D_fitting:zwn l.prog w K mg base:=d14.dn X G (zaca d14.fn T D_rule_names D_rules_that_fit) (d14.b2 λ_ _ _ _ _ _ _ _=>rfl)
 have D_nearest:zwo l.prog w K mg base:=d15.dn X G (zacb d15.fn T D_nearest_of D_roofs_of D_rule_names D_rules_that_fit) (d15.b2 λ_ _ _ _ _ _ _ _=>rfl)
 have D_law_draws:Dn l.prog w K mg base "_law_draws" ["_law_script","_law_many"] 1 (zzg K):=d16.dn X G (zxh d16.fn T ) (d16.b2 λ_ _ _ _ _ _ _ _=>rfl)
 have D_law_names:zqr l.prog w K mg base:=d17.dn X G (zws d17.fn T ) (d17.b2 λ_ _ _ _ _ _ _ _=>rfl)
 have D_law_web:zwp l.prog w K mg base:=d18.dn X G (zacc d18.fn T ) (d18.b2 λ_ _ _ _ _ _ _ _=>rfl)
 have D_law_up:zaat l.prog w K mg base:=d19.dn X G (zafy d19.fn T ) (d19.b1 λ_ _ _ _ _ _ _=>rfl)
 have D_law_parts:zlb l.prog w K mg base:=d20.dn X G (zwt d20.fn T ) (d20.b1 λ_ _ _ _ _ _ _=>rfl)
 have D_law_arm:zwq l.prog w K mg base:=d21.dn X G (zacd d21.fn T ) (d21.b2 λ_ _ _ _ _ _ _ _=>rfl)
 have D_law_call:zsg l.prog w K mg base:=d22.dn X G (zyx d22.fn T ) (d22.b3 λ_ _ _ _ _ _ _ _ _=>rfl)
 have D_law_rules:zqs l.prog w K mg base:=d23.dn X G (zwu d23.fn T D_law_parts) (d23.b5 λ_ _ _ _ _ _ _ _ _ _ _=>rfl)
 have D_law_fits:znh l.prog w K mg base:=d24.dn X G (zyy d24.fn T D_law_parts) (d24.b3 λ_ _ _ _ _ _ _ _ _=>rfl)
 have D_law_near:zsh l.prog w K mg base:=d25.dn X G (zyz d25.fn T D_law_fits) (d25.b2 λ_ _ _ _ _ _ _ _=>rfl)
 have D_law_same:zni l.prog w K mg base:=d26.dn X G (zza d26.fn T ) (d26.b2 λ_ _ _ _ _ _ _ _=>rfl)
 have D_law_looked:zod l.prog w K mg base:=d27.dn X G (ztz d27.fn T D_law_fits D_law_near D_law_same D_fitting D_nearest) (d27.b5 λ_ _ _ _ _ _ _ _ _ _ _=>rfl)
 exact zari d28.fn T D_law_arm D_law_call D_law_draws D_law_looked D_law_names D_law_rules D_law_same D_law_up D_law_web
theorem walk{l:PySem.W.OpenLaw}{q:Program}{loose:List Str}{XP:(Str->Option Value)->Heap->Prop}{YP:World->Heap->Prop}{d:DefRec}{K:Params->qC}(hn:l.most=some 63)(hdf:d.params.defaults=[])
  (hY:∀(w:World) (h:Heap),YP w h->(K w.params).In h)
  (F:∀(w:World)(mg:Str->Option Value)(fa:Addr)(h:Heap),(K w.params).In h->h.Ns qAE mg->mg d.name=some (.ref fa)->
   ∃fd:qx,(∀(s:Shared)(u:Value),BindsTo s fd ⟨[u],[]⟩ [("_law_script",u)])/\∀base:Heap,(K w.params).In base->base.Ns qAE mg->FnOk l.prog w (K w.params) mg base CX0 7 fa fd ["_law_script"] (zajz (K w.params))) :
  PySem.W.WalkO q loose XP YP l.row.toRowW d [] (λf vs=>PySem.call f vs):=
 L2.walk_of (n:=63) (k:=7) (x:="_law_script") (CX:=λ_=>CX0) (sp:=λw=>zajz (K w.params)) hn (by decide) hdf ⟨rfl,by decide,by decide,rfl⟩ hY F (λ_ _ a ns hl _ hS=>⟨a,ns,rfl,hS,λ_=>rfl⟩) λ_ _ _ _ _ z=>z
end Bc
theorem PySem.W.Fast.tw9448155001107343830:True:=trivial
theorem PySem.W.Fast.tw3470133336818876738:True:=trivial
theorem PySem.W.Fast.tw2245919402028805095:True:=trivial
theorem PySem.W.Fast.tw3395010087374609868:True:=trivial
theorem PySem.W.Fast.tw6683074237652751406:True:=trivial
theorem PySem.W.Fast.tw17024425904551941940:True:=trivial
theorem PySem.W.Fast.tw464975705035049619:True:=trivial
theorem PySem.W.Fast.tw16614367554208193227:True:=trivial
open PySem PySem.W PyProof.Rows
set_option maxRecDepth 100000 in
set_option maxHeartbeats 0 in
theorem PySem.Challenge.cw_bestcalls_k14_fitting_and_nearest_holds : PySem.Challenge.rw_bestcalls_k14_fitting_and_nearest.Holds := by
 w_on;o_law;k_head;(case hw=>w_witness2)
 k_fill
 refine Bc.walk (l:=PySem.Challenge.rw_bestcalls_k14_fitting_and_nearest) rfl rfl (λw h Y=>PySem.W.kIn_of Y) ?F
 case F=>
  intro w mg fa h KX G hmg
  refine' Bc.all_mk KX G hmg ?_ ?_ ?_ ?_ ?_ ?_ ?_ ?_ ?_ ?_ ?_ ?_ ?_ ?_ ?_ ?_ ?_ ?_ ?_ ?_ ?_ ?_ ?_ ?_ ?_ ?_ ?_ ?_ ?_ ?_ ?_ ?_ ?_ ?_ ?_ ?_ ?_ ?_ ?_
  any_goals (first|refine' L2.def_mk ?_ ?_ ?_ ?_|skip)
  any_goals (first|k_is|rfl)
