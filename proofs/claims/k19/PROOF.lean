import PyProof.Rows.All
import Wide.All
import OpenK.AllK
import Wide.FinOn
import Lean
import PyProof.EqAt
import PyProof.EqKinds
import PyProof.TupleCall
import KE.KTryOn
import PyProof.ExcInit
import PyProof.ExcClass3
import PyProof.ExcBaseAll.ValueError
import PyProof.InstStoreFacts
import ObjForm.Fk.InstStore
import PyProof.ExcArgsOwn
import PyProof.ExcAttrAll.ValueError
import PyProof.PureStr
import PyProof.FString2
import PyProof.Rows.FactsFmt
import PyProof.FactsAll.NoneType_2
import PyProof.NsDelKeeps
import PyProof.IsiBase
import KE.KRevSl
import PyProof.DictWalks
import PySem.Challenge.RW_bestcalls_k19_onward
set_option genSizeOf false
set_option Elab.async false
set_option linter.all false
set_option maxRecDepth 100000
noncomputable section
open Option renaming bind_eq_some_iff→qA,bind_some→qD,map_eq_some_iff→qG,map_some→qA7,isSome_some→qC9,isSome_map→qDG
open PySem.W renaming Frag→qB,keepIn→qN,nsIn→qQ,mg_of→qV,codeIn→qa,fnOf→qc,mg_none_of→qAS,kia_one→qAd,looks_findIn→qAf,cellsFrom_some→qB0,callWith_K→qCB,codeRec_of→qC2,kitx_list→qC7,kitx_dict→qC8
open PySem renaming wpAny_bind→qC,wpAny_pure→qI,mainGlobals→qM,Expr→qO,sizeLine→qU,wpAny_loadPart_at→qk,Pos→qm,FuncData→q9,starEach→qAL,mem_of_lookup→qAP,wpAny_field→qAZ,wpAny_isSubtype_exc→qAk,wpAny_callSpecial?_slot→qAn,wpAny_pyIter_list→qAt,wpAny_pyIter_tuple→qAx,wpAny_newObj_type→qA1,wpAny_seqItems→qA9,sizeLine_eq→qBD,wpAny_call_entry→qBF,wpAny_setField_rec→qBI,wpAny_mono→qBM,codeAny_call_builtin→qBP,wpAny_setField→qBR,wpAny_standAt→qBZ,wpAny_loadPart'→qBa,wpAny_getItem_str_slice→qBb,wpAny_Call_Name_kw→qBc,wpAny_truthy_bool→qBe,codeAny_mono→qBh,wpAny_holding→qBo,wpAny_passesOwn→qBv,wpAny_execs_nil→qBw,wpAny_typeOf→qB3,wpAny_onRaise→qB7,post_val_or_str→qCJ,wpAny_rule→qCM,wpAny_updateSeq_pair→qCO,wpAny_attempt→qCV,tupleKind_room_in1→qCW,wpAny_call→qCc,wpAny_isInstance→qCj,wpAny_execs_cons→qCk,noFill_tuple_add→qCl,codeAny_builtin→qCt,wpAny_newFunctionEnv_cells→qC1,wpAny_comprehension_free→qDE,call_meets→qDF
open PySem.Heap renaming get?_push_of_some→qE,lt_size→qK,get?_push_size→qb,get?_update_other→qAi,get?_update_self→qAs,size_push→qAz,get?_none_of_le→qBK,get?_update_ne→qDK
open List renaming length_map→qF,getElem?_eq_getElem→qH,mem_cons_of_mem→qL,getElem?_eq_some_iff→qP,size_toArray→qR,getElem?_map→qT,length_append→qW,mem_cons→qX,map_cons→qY,getElem?_set_ne→qZ,mem_append_right→qd,mem_cons_self→qj,mem_append→qp,getElem?_set_self→qt,map_append→qv,length_set→qw,append_nil→qx,mem_map→qz,mem_append_left→qAA,getD_eq_getElem?_getD→qAE,length_take→qAH,length_drop→qAI,mem_filter→qAJ,lookup_cons→qAM,length_cons→qAN,getElem?_append_left→qAQ,drop_eq_getElem_cons→qAR,mem_singleton→qAT,contains_cons→qAU,getElem?_append_right→qAW,getElem?_cons_zero→qAX,getElem?_cons_succ→qAY,mem_of_mem_take→qAa,mem_of_mem_drop→qAb,getElem_mem→qAe,nodup_append→qAj,mem_range→qAq,length_filter_le→qAr,take_append_of_le_length→qAu,not_mem_nil→qAv,all_eq_true→qAw,all_cons→qAy,find?_cons→qA0,any_eq_true→qA2,length_replicate→qA3,nodup_cons→qA8,any_cons→qBA,drop_length→qBC,zip_cons_cons→qBE,of_mem_zip→qBG,map_map→qBH,append_assoc→qBJ,mem_flatMap→qBN,filter_cons→qBO,map_take→qBS,length_nil→qBT,length_eq_zero_iff→qBU,getElem?_replicate→qBV,foldl_cons→qBW,foldl_append→qBY,mem_nil_iff→qBd,mem_of_getElem?→qBf,map_drop→qBg,replicate_succ→qBi,map_congr_left→qBj,getElem_of_mem→qBk,set_cons_zero→qBq,set_cons_succ→qBr,mem_filterMap→qBs,pairwise_iff_getElem→qBu,take_sublist→qBy,eq_of_mem_replicate→qBz,any_map→qB6,nodup_nil→qCC,filterMap_cons→qCH,map_nil→qCQ,zipIdx_cons→qCS,take_length→qCT,cons_append→qCU,forIn_cons→qCZ,take_of_length_le→qCu,range_succ_eq_map→qCv,length_pos_of_mem→qCw,drop_of_length_le→qCx,take_append_drop→qC3,getElem?_eq_none→qC4,getElem?_zipIdx→qDB,zipIdx_map_fst→qDH,flatMap_append→qDI
open Nat renaming le_refl→qJ,lt_of_lt_of_le→qo,ne_of_lt→qq,le_trans→qAG,zero_le→qAg,lt_of_le_of_lt→qA6,lt_irrefl→qBB,ne_of_gt→qBQ,min_le_left→qBm,le_add_right→qB5,zero_add→qB9,le_of_lt→qCA,le_of_succ_le→qCP,le_succ→qCe,lt_trans→qDA
open Bool renaming false_ne_true→qS,and_eq_true→qAB,eq_iff_iff→qAl,or_true→qA4,false_eq_true→qBt,or_eq_true_iff→qCI,false_or→qCs,and_eq_true_iff→qDD
open PySem.F renaming plainAttrs_list→qe,type_list_append→qf,slot_list_append→qg,slot_tuple_iterator_next→qBL,excBase_ValueError→qBl,args_tuple_add_2→qBp,entry_tuple_add→qBx,slot_tuple_add→qB1,slot_list_getattribute→qB4,typeOf_object_class→qCD,slot_zip_next→qCE,store_ValueError→qCR,type_dict_update→qCX,slot_dict_update→qCY,plainAttrs_dict→qCd,args_tuple_iterator_next_1→qCi,entry_tuple_iterator_next→qCp,slot_gs_get→qDC
open Option.some renaming inj→qh
open PySem.PyData renaming depthAll→qi,canLayAll0→qu,strOk→qAF,eqv→qAK
open PySem.PassesOwn renaming never→qr
open PySem.Str renaming ofString→qy
open PySem.Builtin.SmallTypes renaming nextOf→qAC
open PySem.SeqAt renaming shaped→qAD,canLay_of_shaped→qAo
open Int renaming emod_nonneg→qAO,emod_lt_of_pos→qAV,ediv_nonneg→qBn,toNat_natCast→qB2,mul_nonneg→qCo
open PyProof.Rows renaming slot_tuple_getitem→qAc,callWith_type1→qBX
open PySem.Obj renaming data_mapFields→qAh,isFreed_of_fields→qA5
open Array renaming getElem?_eq_some_iff→qAm,length_toList→qCF,mem_of_getElem?→qCz,mem_toList_iff→qC6
open Ne renaming symm→qAp
open Sum.inr renaming inj→qB8
open PySem.Paired renaming length→qCG
open PySem.Calls renaming spliced_cons→qCK,Constant_str→qCL,Name_function_global→qCb,callWith_builtin→qCr,evalArgs_plain→qC5
open PySem.Code renaming quiet_builtin→qCN
open PySem.Heap.SameBut renaming update→qCa
open PySem.W.Looks renaming ld→qCf
open List.Sublist renaming refl→qCg
open PySem.Heap.IsTuple renaming push→qCh
open PySem.SeqAt.EqAt renaming str_int→qCm,int_str→qCn
open PySem.Heap.IsList renaming push→qCq
open PySem.Heap.DictOf renaming new→qCy
open PySem.Around renaming under_plainId→qC0
open List.Perm renaming refl→qDJ
namespace L2
open PySem PySem.Spec PyProof.Rows
abbrev Key:=Sum Int Str
def zsl:Key→Value→Bool
 | .inl k,v=>Value.isInt k v
 | .inr x,v=>Value.isStrOf x v
def keyH (w:World):Key→Int
 | .inl k=>hashInt k
 | .inr x=>hashStr w x
theorem zen:∀ {k:Key} {v:Value},zsl k v=true→(∃ i t,k=Sum.inl i∧v=Value.int i t)∨(∃ x t,k=Sum.inr x∧v=Value.str x t)
 | .inl i,v,h=>by
  obtain ⟨t,e⟩:=Value.isInt_shape (k:=i) (v:=v) h
  exact .inl ⟨i,t,rfl,e⟩
 | .inr x,v,h=>by
  obtain ⟨t,e⟩:=Value.isStrOf_shape (x:=x) (v:=v) h
  exact .inr ⟨x,t,rfl,e⟩
theorem zaet (i:Int) (t:Tok):zsl (.inl i) (.int i t)=true:=by simp [zsl,Value.isInt]
theorem zaeu (x:Str) (t:Tok):zsl (.inr x) (.str x t)=true:=by simp [zsl,Value.isStrOf]
theorem zaqr (a b:Int):decide ((Sum.inl a:Key)=Sum.inl b)=(a==b):=by
 by_cases e:a=b
 ·subst e;simp
 ·have h:¬ (Sum.inl a:Key)=Sum.inl b:=fun q=>e (Sum.inl.inj q)
  rw [decide_eq_false h]
  exact (beq_eq_false_iff_ne.mpr e).symm
theorem zaqs (a b:Str):decide ((Sum.inr a:Key)=Sum.inr b)=decide (a=b):=by
 by_cases e:a=b
 ·subst e;simp
 ·have h:¬ (Sum.inr a:Key)=Sum.inr b:=fun q=>e (qB8 q)
  rw [decide_eq_false h,decide_eq_false e]
theorem zaqt (a:Int) (b:Str):decide ((Sum.inl a:Key)=Sum.inr b)=false:=decide_eq_false (fun q=>nomatch q)
theorem zaqu (a:Str) (b:Int):decide ((Sum.inr a:Key)=Sum.inl b)=false:=decide_eq_false (fun q=>nomatch q)
noncomputable def zcx (prog:Program) (w:World):PySem.KeyKind prog w Key where
 is:=zsl
 hash:=keyH w
 inj:=fun v a b ha hb=>by
  rcases zen ha with ⟨i,t,rfl,rfl⟩|⟨x,t,rfl,rfl⟩
  ·rcases zen hb with ⟨j,u,rfl,e⟩|⟨y,u,rfl,e⟩
   ·injection e with e1 _;rw [e1]
   ·exact nomatch e
  ·rcases zen hb with ⟨j,u,rfl,e⟩|⟨y,u,rfl,e⟩
   ·exact nomatch e
   ·injection e with e1 _;rw [e1]
 byValue:=fun k v h=>by
  rcases zen h with ⟨i,t,rfl,rfl⟩|⟨x,t,rfl,rfl⟩<;>rfl
 pyHash:=fun hv h=>by
  rcases zen hv with ⟨i,t,rfl,rfl⟩|⟨x,t,rfl,rfl⟩
  ·exact wpAny_pyHash_int h
  ·exact wpAny_pyHash_str h
 eqBool:=fun hu hv h=>by
  rcases zen hu with ⟨i,t,rfl,rfl⟩|⟨x,t,rfl,rfl⟩
  ·rcases zen hv with ⟨j,u,rfl,rfl⟩|⟨y,u,rfl,rfl⟩
   ·rw [zaqr] at h;exact wpAny_eqBool_int h
   ·rw [zaqt] at h;exact qCn i t y u _ _ _ _ h
  ·rcases zen hv with ⟨j,u,rfl,rfl⟩|⟨y,u,rfl,rfl⟩
   ·rw [zaqu] at h;exact qCm x t j u _ _ _ _ h
   ·rw [zaqs] at h;exact wpAny_eqBool_str h
 «strs»:=fun k x t v h=>by
  rcases zen h with ⟨i,u,rfl,e⟩|⟨y,u,rfl,e⟩
  ·exact nomatch e
  ·injection e with e1 _
   subst e1
   cases v<;>rfl
theorem zzo (prog:Program) (w:World) (i:Int) (t:Tok):(zcx prog w).is (.inl i) (.int i t)=true:=zaet i t
theorem zzp (prog:Program) (w:World) (x:Str) (t:Tok):(zcx prog w).is (.inr x) (.str x t)=true:=zaeu x t
inductive V where
 | non|bl (b:Bool)|int (i:Int)|str (x:Str)|byt (b:Array UInt8)|flt (b:UInt64)|ref (a:Addr)|ty (n:String)
 deriving DecidableEq
def RelV:V→Value→Prop
 | .non,u=>u=Value.none
 | .bl b,u=>u=Value.bool b
 | .int i,u=>∃ t,u=Value.int i t
 | .str x,u=>∃ t,u=Value.str x t
 | .byt b,u=>∃ t,u=Value.bytes b t
 | .flt b,u=>∃ t,u=Value.float b t
 | .ref a,u=>u=Value.ref a
 | .ty n,u=>u=Value.type n
abbrev Vals:List V→List Value→Prop:=Paired RelV
theorem Vals.length {xs:List V} {us:List Value} (r:Vals xs us):xs.length=us.length:=qCG r
theorem Vals.get:∀ {xs:List V} {us:List Value} {i:Nat} {x:V},Vals xs us→xs[i]?=some x→∃ u,us[i]?=some u∧RelV x u
 | _,_,_,_,.nil,e=>by simp at e
 | _,_,0,_,.cons r _,e=>by simp at e;subst e;exact ⟨_,rfl,r⟩
 | _,_,i+1,x,.cons _ t,e=>by
  obtain ⟨u,h1,h2⟩:=Vals.get (i:=i) (x:=x) t (by simpa using e)
  exact ⟨u,by simpa using h1,h2⟩
theorem Vals.set {x:V} {u:Value} (r:RelV x u):∀ {xs:List V} {us:List Value} (i:Nat),Vals xs us→Vals (xs.set i x) (us.set i u)
 | _,_,_,.nil=>.nil
 | _,_,0,.cons _ t=>.cons r t
 | _,_,i+1,.cons q t=>.cons q (Vals.set r i t)
theorem Vals.append:∀ {xs ys:List V} {us ws:List Value},Vals xs us→Vals ys ws→Vals (xs++ys) (us++ws)
 | _,_,_,_,.nil,s=>s
 | _,_,_,_,.cons r t,s=>.cons r (Vals.append t s)
theorem Vals.take:∀ {xs:List V} {us:List Value} (n:Nat),Vals xs us→Vals (xs.take n) (us.take n)
 | _,_,0,_=>.nil
 | _,_,_+1,.nil=>.nil
 | _,_,n+1,.cons r t=>.cons r (Vals.take n t)
theorem Vals.drop:∀ {xs:List V} {us:List Value} (n:Nat),Vals xs us→Vals (xs.drop n) (us.drop n)
 | _,_,0,r=>r
 | _,_,_+1,.nil=>.nil
 | _,_,n+1,.cons _ t=>Vals.drop n t
def RelO:Option V→Option Value→Prop
 | some v,some u=>RelV v u
 | none,none=>True
 | _,_=>False
def KV {κ:Type}:List (κ×V)→List (κ×Value)→Prop:=Paired fun (p:κ×V) (q:κ×Value)=>p.1=q.1∧RelV p.2 q.2
def kV:Key→V
 | .inl i=>.int i
 | .inr x=>.str x
inductive HO where
  | lst (xs:List V)
  | tup (xs:List V)
  | dK (kvs:List (Key×V))|dT (kvs:List (List Key×V))
  | set (S:Int→Bool) (n:Nat)
  | ins (C dx:Addr) (fs:List (Str×V))
  | own (x:Addr)
  | xd (fs:List (Str×V))
  | met (f x:Addr)
  | rng (lo hi:Int)
  | frz (o:Obj) (u:HO)
  | tbl (ps:Array Value)
  | ext (φ:Heap→Prop)
abbrev Hp:=Addr→Option HO
def upd (H:Hp) (a:Addr) (o:HO):Hp:=fun b=>if b=a then some o else H b
theorem zax {H:Hp} {a:Addr} {o:HO}:upd H a o a=some o:=by unfold upd;rw [if_pos rfl]
theorem zbd {H:Hp} {a b:Addr} {o:HO} (h:b≠a):upd H a o b=H b:=by unfold upd;rw [if_neg h]
theorem zans {H:Hp} {a:Addr} {o u:HO}:upd (upd H a o) a u=upd H a u:=by
 funext b;unfold upd;split<;>rfl
theorem zaty {H:Hp} {a b:Addr} {o u:HO} (h:H a=some o) (h':H b=some u) (d:o≠u):a≠b:=by
 intro e;subst e;rw [h] at h';exact d (qh h')
theorem zbt {H:Hp} {a b:Addr} {o:HO} (h:H a=some o) (h':H b=none):a≠b:=by
 intro e;subst e;rw [h] at h';cases h'
section
variable (P:Program) (w:World)
noncomputable def zfc (H:Hp) (h:Heap) (a:Addr):HO→Prop
 | .lst xs=>xs.length≤qU∧∃ (its:List Value) (n:Nat),Vals xs its∧h.get? a=some {cls:=.type "list",data:=.seq its.toArray n}
 | .tup xs=>xs.length≤qU∧∃ its:List Value,Vals xs its∧IsTup h a its.toArray
 | .dK kvs=>kvs.length≤qU∧(a==sysModules)=false∧∃ vs,KV kvs vs∧h.DictOf (zcx P w) a vs
 | .dT kvs=>kvs.length≤qU∧(a==sysModules)=false∧∃ xs:List (List Key×Addr×Value),
   Paired (fun (p:List Key×V) (q:List Key×Addr×Value)=>p.1=q.1∧H q.2.1=some (.tup (p.1.map kV))∧RelV p.2 q.2.2) kvs xs ∧
   ∃ o es ep,h.get? a=some o∧o.ExactDict∧o.data=.dict es ep∧es.toList=xs.map (entryOfKey (tupleKind (zcx P w)))∧(xs.map (·.1)).Nodup
 | .set S n=>h.SetOf (intKind P w) a S n
 | .ins C dx fs=>H dx=some (.own a)∧fs.length≤1000∧dx≠a∧h.get? a=some (PySem.W.instObj C dx) ∧
   ∃ mA,h.Ns1 dx mA∧(∀ f,RelO (fs.lookup f) (mA f))∧PySem.Within mA (fs.map (·.1))
 | .own _=>∃ o,h.get? a=some o
 | .xd fs=>∃ mA,h.Ns1 a mA∧∀ f,RelO (fs.lookup f) (mA f)
 | .rng lo hi=>∃ t u v,h.get? a=some {cls:=.type "range",data:=.fields #[.int lo t,.int hi u,.int 1 v]}
 | .frz o u=>h.get? a=some o∧zfc H h a u
 | .tbl ps=>h.get? a=some {cls:=.none,data:=.fields ps}
 | .met f x=>h.get? a=some (PySem.W.methodObj (.ref f) (.ref x))
 | .ext φ=>φ h∧(∃ o,h.get? a=some o)∧∀ h1 h2:Heap,φ h1→(∀ o,h1.get? a=some o→h2.get? a=some o)→φ h2
def HOk (H:Hp) (h:Heap):Prop:=∀ a o,H a=some o→zfc P w H h a o
end
section
variable {P:Program} {w:World} {H H':Hp} {h h':Heap} {a:Addr} {o:HO}
theorem zfc.lt (x:zfc P w H h a o):a<h.objs.size:=by
 cases o with
 | lst xs=>obtain ⟨_,_,_,_,e⟩:=x;exact qK e
 | tup xs=>obtain ⟨_,_,_,p⟩:=x;exact p.lt
 | dK kvs=>obtain ⟨_,_,_,_,o,_,_,e,_⟩:=x;exact qK e
 | dT kvs=>obtain ⟨_,_,_,_,o,_,_,e,_⟩:=x;exact qK e
 | set S n=>obtain ⟨o,_,_,_,e,_⟩:=x;exact qK e
 | ins C dx fs=>obtain ⟨_,_,_,e,_⟩:=x;exact qK e
 | own y=>obtain ⟨_,e⟩:=x;exact qK e
 | xd fs=>obtain ⟨_,⟨_,_,_,e,_⟩,_⟩:=x;exact qK e
 | rng lo hi=>obtain ⟨_,_,_,e⟩:=x;exact qK e
 | frz ob u=>obtain ⟨e,_⟩:=x;exact qK e
 | tbl ps=>exact qK (show h.get? a=some _ from x)
 | met f y=>exact qK (show h.get? a=some _ from x)
 | ext φ=>obtain ⟨_,⟨_,e⟩,_⟩:=x;exact qK e
theorem Paired.mapP {α β:Type} {F G:α→β→Prop}:∀ {l₁:List α} {l₂:List β},Paired F l₁ l₂→(∀ a b,F a b→G a b)→Paired G l₁ l₂
 | _,_,.nil,_=>.nil
 | _,_,.cons r t,f=>.cons (f _ _ r) (Paired.mapP t f)
theorem zfc.stay (x:zfc P w H h a o) (k:∀ b u,(b=a∨H b=some (.own a))→h.get? b=some u→h'.get? b=some u)
  (ho:∀ b,H b=some (.own a)→H' b=some (.own a)) (ht:∀ b xs,H b=some (.tup xs)→H' b=some (.tup xs)):zfc P w H' h' a o:=by
 induction o with
 | lst xs=>obtain ⟨z,its,n,r,e⟩:=x;exact ⟨z,its,n,r,k _ _ (.inl rfl) e⟩
 | tup xs=>obtain ⟨z,its,r,ob,e,c⟩:=x;exact ⟨z,its,r,ob,k _ _ (.inl rfl) e,c⟩
 | dK kvs=>obtain ⟨z,y,vs,r,ob,es,ep,e,c⟩:=x;exact ⟨z,y,vs,r,ob,es,ep,k _ _ (.inl rfl) e,c⟩
 | dT kvs =>
  obtain ⟨z,y,xs,r,ob,es,ep,e,c⟩:=x
  exact ⟨z,y,xs,Paired.mapP r fun p q z=>⟨z.1,ht _ _ z.2.1,z.2.2⟩,ob,es,ep,k _ _ (.inl rfl) e,c⟩
 | set S n=>obtain ⟨ob,es,ep,t,e,c⟩:=x;exact ⟨ob,es,ep,t,k _ _ (.inl rfl) e,c⟩
 | ins C dx fs =>
  obtain ⟨d,z,ne,e,mA,⟨od,es,ep,e2,c⟩,r⟩:=x
  exact ⟨ho _ d,z,ne,k _ _ (.inl rfl) e,mA,⟨od,es,ep,k _ _ (.inr d) e2,c⟩,r⟩
 | own y=>obtain ⟨ob,e⟩:=x;exact ⟨ob,k _ _ (.inl rfl) e⟩
 | xd fs=>obtain ⟨mA,⟨od,es,ep,e,c⟩,r⟩:=x;exact ⟨mA,⟨od,es,ep,k _ _ (.inl rfl) e,c⟩,r⟩
 | rng lo hi=>obtain ⟨t,u,v,e⟩:=x;exact ⟨t,u,v,k _ _ (.inl rfl) e⟩
 | frz ob u ih=>obtain ⟨e,q⟩:=x;exact ⟨k _ _ (.inl rfl) e,ih q⟩
 | tbl ps =>
  have e:h.get? a=some {cls:=.none,data:=.fields ps}:=x
  show h'.get? a=some {cls:=.none,data:=.fields ps}
  exact k a _ (.inl rfl) e
 | met f y =>
  have e:h.get? a=some (PySem.W.methodObj (.ref f) (.ref y)):=x
  show h'.get? a=some (PySem.W.methodObj (.ref f) (.ref y))
  exact k a _ (.inl rfl) e
 | ext φ=>obtain ⟨p,⟨o,e⟩,st⟩:=x;exact ⟨st _ _ p fun o q=>k _ _ (.inl rfl) q,⟨o,k _ _ (.inl rfl) e⟩,st⟩
theorem HOk.lt (x:HOk P w H h) (e:H a=some o):a<h.objs.size:=(x a o e).lt
theorem HOk.fresh (x:HOk P w H h) (e:h.objs.size≤a):H a=none:=by
 cases q:H a with
 | none=>rfl
 | some u=>exact absurd (qo (x.lt q) e) (qBB _)
theorem HOk.kept (x:HOk P w H h) (k:∀ b u,h.get? b=some u→h'.get? b=some u):HOk P w H h':=fun a o e =>
 (x a o e).stay (fun b u _ q=>k b u q) (fun _ q=>q) fun _ _ q=>q
theorem HOk.laid (x:HOk P w H h) (k:∀ b u,h.get? b=some u→h'.get? b=some u) (hp:h.objs.size≤a) (new:zfc P w (upd H a o) h' a o):HOk P w (upd H a o) h':=fun b u e=>by
 have hn:=x.fresh hp
 by_cases hb:b=a
 ·subst hb;rw [zax] at e;cases e;exact new
 ·rw [zbd hb] at e
  exact (x b u e).stay (fun c v _ q=>k c v q) (fun c q=>by rw [zbd (zbt q hn)];exact q) fun c xs q=>by rw [zbd (zbt q hn)];exact q
end
def Rd (H:Hp) (a:Addr) (u:HO):Prop:=H a=some u∨∃ o,H a=some (.frz o u)
theorem Rd.ok {P:Program} {w:World} {H:Hp} {h:Heap} {a:Addr} {u:HO} (r:Rd H a u) (x:HOk P w H h):zfc P w H h a u:=by
 rcases r with r|⟨o,r⟩
 ·exact x a u r
 ·obtain ⟨_,q⟩:=x a _ r
  exact q
def Mut:Option HO→Prop
 | some (.lst _)=>True
 | some (.dK _)=>True
 | some (.dT _)=>True
 | some (.set _ _)=>True
 | some (.ins _ _ _)=>True
 | some (.ext _)=>True
 | _=>False
section
variable {P:Program} {w:World} {H:Hp} {h h':Heap} {x e:Addr} {o':HO}
theorem HOk.write (ok:HOk P w H h) (mu:Mut (H x)) (he:e=x∨H e=some (.own x)) (k:∀ b u,b≠e→h.get? b=some u→h'.get? b=some u) (heo:∃ u,h'.get? e=some u)
  (new:zfc P w (upd H x o') h' x o'):HOk P w (upd H x o') h':=fun b u q=>by
 have nown:∀ c y,H c=some (.own y)→c≠x:=fun c y r z=>by subst z;rw [r] at mu;exact mu
 have ntup:∀ c xs,H c=some (.tup xs)→c≠x:=fun c xs r z=>by subst z;rw [r] at mu;exact mu
 by_cases hb:b=x
 ·subst hb;rw [zax] at q;cases q;exact new
 ·rw [zbd hb] at q
  by_cases hbe:b=e
  ·have q':H b=some (.own x):=by
    rcases he with z|z
    ·exact absurd (hbe.trans z) hb
    ·rw [hbe];exact z
   rw [q] at q';cases q'
   obtain ⟨v,hv⟩:=heo
   exact ⟨v,by rw [hbe];exact hv⟩
  ·refine (ok b u q).stay (fun c v hc r=>k c v ?_ r) (fun c r=>by rw [zbd (nown c b r)];exact r) fun c xs r=>by rw [zbd (ntup c xs r)];exact r
   rcases hc with rfl|hc
   ·exact hbe
   ·rintro rfl
    rcases he with z|z
    ·exact nown c b hc z
    ·rw [hc] at z;cases z;exact hb rfl
end
set_option genInjectivity false in
structure Un (fs ex:List Addr) (H H':Hp) (h h':Heap):Prop where
 keep:∀ b o,h.get? b=some o→H b=none→b∉fs→b∉ex→h'.get? b=some o
 slot:∀ b o,h.get? b=some o→H b=none→b∈fs→b∉ex→∃ sl,h'.get? b=some {o with slots:=sl}
 free:∀ b o,h.get? b=some o→H b=none→b∉ex→H' b=none
 there:∀ b o,h.get? b=some o→b∉ex→∃ o',h'.get? b=some o'
 tups:∀ b xs,H b=some (.tup xs)→H' b=some (.tup xs)
 frzs:∀ b o u,H b=some (.frz o u)→H' b=some (.frz o u)
 tbls:∀ b ps,H b=some (.tbl ps)→∃ more,H' b=some (.tbl (ps++more))
section
variable {fs fs' ex ex':List Addr} {H H1 H2:Hp} {h h1 h2 h':Heap} {a x e:Addr} {o:HO}
theorem Un.any (u:Un fs ex H H1 h h1) {b:Addr} {ob:Obj} (q:h.get? b=some ob) (n:H b=none) (hx:b∉ex):∃ sl,h1.get? b=some {ob with slots:=sl}:=by
 by_cases hb:b∈fs
 ·exact u.slot b ob q n hb hx
 ·exact ⟨ob.slots,u.keep b ob q n hb hx⟩
theorem Un.kept (k:∀ b u,h.get? b=some u→h'.get? b=some u):Un fs ex H H h h' :=
 ⟨fun b ob q _ _ _=>k b ob q,fun b ob q _ _ _=>⟨ob.slots,k b ob q⟩,fun _ _ _ n _=>n,fun b ob q _=>⟨ob,k b ob q⟩,fun _ _ q=>q,fun _ _ _ q=>q,fun _ ps q=>⟨#[],by rw [q];simp⟩⟩
theorem Un.refl:Un fs ex H H h h:=Un.kept fun _ _ q=>q
theorem Un.laid (k:∀ b u,h.get? b=some u→h'.get? b=some u) (hp:h.objs.size≤a) (hn:H a=none):Un fs ex H (upd H a o) h h' where
 keep:=fun b u q _ _ _=>k b u q
 slot:=fun b u q _ _ _=>⟨u.slots,k b u q⟩
 free:=fun b u q n _=>by rw [zbd (qq (qo (qK q) hp))];exact n
 there:=fun b u q _=>⟨u,k b u q⟩
 tups:=fun b xs q=>by rw [zbd (zbt q hn)];exact q
 frzs:=fun b u xs q=>by rw [zbd (zbt q hn)];exact q
 tbls:=fun b ps q=>⟨#[],by rw [zbd (zbt q hn),q];simp⟩
theorem Un.write (mu:Mut (H x)) (he:e=x∨H e=some (.own x)) (k:∀ b u,b≠e→h.get? b=some u→h'.get? b=some u) (heo:∃ u,h'.get? e=some u):Un fs ex H (upd H x o) h h':=by
 have hx:∀ b,H b=none→b≠x:=fun b n z=>by subst z;rw [n] at mu;exact mu
 have hb:∀ b,H b=none→b≠e:=fun b n z=>by
  subst z
  rcases he with r|r
  ·exact hx b n r
  ·rw [n] at r;cases r
 have hm:∀ b u,H b=some u→¬ Mut (some u)→b≠x:=fun b u q nm z=>by subst z;rw [q] at mu;exact nm mu
 refine ⟨fun b u q n _ _=>k b u (hb b n) q,fun b u q n _ _=>⟨u.slots,k b u (hb b n) q⟩,fun b u q n _=>by rw [zbd (hx b n)];exact n,fun b u q _=>?_,
  fun b xs q=>by rw [zbd (hm b _ q fun z=>z)];exact q,fun b u xs q=>by rw [zbd (hm b _ q fun z=>z)];exact q,fun b ps q=>⟨#[],by rw [zbd (hm b _ q fun z=>z),q];simp⟩⟩
 by_cases hbe:b=e
 ·subst hbe;exact heo
 ·exact ⟨u,k b u hbe q⟩
end
def trk (h:Heap) (H:Hp):List Addr:=(List.range h.objs.size).filter fun a=>(H a).isSome
def hidT (h:Heap) (H:Hp):Heap:=PySem.W.hideAll h (trk h H)
theorem zaev (h:Heap) (H:Hp):(hidT h H).objs.size=h.objs.size:=PySem.W.hideAll_size _ _
theorem zajk {h:Heap} {H:Hp} {b:Addr} {o:Obj} (e:h.get? b=some o) (n:H b=none):(hidT h H).get? b=some o :=
 PySem.W.hideAll_get _ e fun hm=>by
  have q:(H b).isSome=true:=(qAJ.mp hm).2
  rw [n] at q;simp at q
theorem zant {h:Heap} {H:Hp} {b:Addr} {o:Obj} (e:(hidT h H).get? b=some o):h.get? b=some o∧H b=none:=by
 have e':h.get? b=some o:=PySem.W.of_hideAll (trk h H) e
 refine ⟨e',?_⟩
 cases q:H b with
 | none=>rfl
 | some x =>
  have hm:b∈trk h H:=qAJ.mpr ⟨qAq.mpr (qK e'),by simp [q]⟩
  have z:(hidT h H).get? b=none:=PySem.W.hideAll_none (trk h H) hm
  rw [z] at e;cases e
set_option genInjectivity false in
structure Mod (K:qB) (mg:Str→Option Value) (base:Heap):Prop where
 kin:K.In base
 glob:base.Ns qM mg
 blt:∃ mb,base.Ns builtinsNs mb∧∀ x:Str,x ≠ "__name__" → mb x=bootBuiltins x
 nolimit:base.NoLimit
set_option genInjectivity false in
structure Cx where
 prog:Program
 w:World
 K:qB
 mg:Str→Option Value
 base:Heap
 A:Around
 N:List Str
 s₀:Shared
 H₀:Hp
 env:Env
 outer:List Env
 stack:List Env
 ex:List Addr
 fn:Str→Bool
 calm:Bool
 pn:List (Addr×Obj)
 xe:Value→Shared→Prop
def frs (l:List Env):List Addr:=l.filterMap (·.frame)
abbrev Cx.fs (X:Cx):List Addr:=frs X.outer
def Vis (sc:Scope) (x:Str):Prop:=sc.names.lookup x=some .local∨sc.names.lookup x=some .cell∨sc.names.lookup x=some .free
def visB (sc:Scope) (x:Str):Bool:=match sc.names.lookup x with
 | some .local=>true
 | some .cell=>true
 | some .free=>true
 | _=>false
theorem visB.of {sc:Scope} {x:Str} (h:visB sc x=true):Vis sc x:=by
 unfold visB at h
 cases e:sc.names.lookup x with
 | none=>rw [e] at h;cases h
 | some k=>rw [e] at h;cases k<;>first|exact .inl e|exact .inr (.inl e)|exact .inr (.inr e)|cases h
def Loc (sc:Scope) (x:Str):Prop:=sc.names.lookup x=some .local∨sc.names.lookup x=some .cell
def Look (env:Env) (h:Heap) (m:Str→Option Value) (x:Str) (u:Value):Prop :=
 (env.kindOf x=some .local∧m x=some u)∨((env.kindOf x=some .cell∨env.kindOf x=some .free)∧∃ c,env.cells.lookup x=some c∧h.IsCell c (some u))
set_option genInjectivity false in
structure Cx.Ok (X:Cx):Prop where
 mod:Mod X.K X.mg X.base
 kind:X.env.scope.kind=.function
 glob:X.env.globals=qM
 blt:X.env.builtins=builtinsNs
 above:X.s₀.heap.objs.size≤X.env.locals
 inj:∀ x y c,X.env.cells.lookup x=some c→X.env.cells.lookup y=some c→x=y
 has:∀ x,(X.env.kindOf x=some .cell∨X.env.kindOf x=some .free)→∃ c,X.env.cells.lookup x=some c
 cab:∀ x c,X.fn x=true→X.env.cells.lookup x=some c→X.s₀.heap.objs.size≤c
 hd:X.calm=true→X.A.handled=none
 frames:X.A.frames=some X.stack
 stk:X.stack=X.outer∨(X.stack=X.env::X.outer∧X.env.frame=some X.env.locals)
 exf:∀ b∈X.ex,b≠X.env.locals∧∀ x c,X.env.cells.lookup x=some c→c≠b
 bs:∀ b o,X.base.get? b=some o→X.s₀.heap.get? b=some o∧X.H₀ b=none
 bsz:X.base.objs.size≤X.s₀.heap.objs.size
 noex:∀ b o,X.base.get? b=some o→b∉X.ex
 exfs:∀ b∈X.ex,b∉X.fs
 funs:X.s₀.heap.FunFrames X.base X.outer
 frf:∀ b∈X.fs,X.H₀ b=none
set_option genInjectivity false in
structure Inv (X:Cx) (pins:List (Addr×Obj)) (σ:List (Option V)) (H:Hp) (s:Shared):Prop where
 ok:X.Ok
 os:s.os=X.s₀.os
 bare:AllBare s.gens
 base:Un X.fs X.ex X.H₀ H X.s₀.heap s.heap
 loc:∃ m,s.heap.Ns X.env.locals m∧∀ (i:Nat) (x:Str) (v:V),X.N[i]?=some x→σ[i]?=some (some v)→Vis X.env.scope x→∃ u,RelV v u∧Look X.env s.heap m x u
 cell:∀ x c,X.env.cells.lookup x=some c→∃ v,s.heap.IsCell c v
 free:H X.env.locals=none
 freeC:∀ x c,X.env.cells.lookup x=some c→H c=none
 pin:∀ p∈X.pn++pins,s.heap.get? p.1=some p.2∧H p.1=none∧p.1≠X.env.locals∧p.1∉X.fs∧∀ v,p.2.data≠.cell v
 hok:HOk X.prog X.w H s.heap
 len:σ.length=X.N.length
section
variable {X:Cx} {pins:List (Addr×Obj)} {σ:List (Option V)} {H H':Hp} {s:Shared} {h':Heap}
theorem Cx.Ok.nofr (ok:X.Ok) {b:Addr} {o:Obj} (e:X.base.get? b=some o):b∉X.fs:=fun hb=>by
 have:=(ok.funs.mem hb).1
 rw [e] at this;cases this
theorem Inv.bs (I:Inv X pins σ H s):∀ b o,X.base.get? b=some o→s.heap.get? b=some o∧H b=none:=fun b o e =>
 ⟨I.base.keep b o (I.ok.bs b o e).1 (I.ok.bs b o e).2 (I.ok.nofr e) (I.ok.noex b o e),I.base.free b o (I.ok.bs b o e).1 (I.ok.bs b o e).2 (I.ok.noex b o e)⟩
theorem Inv.bk (I:Inv X pins σ H s):∀ b o,X.base.get? b=some o→s.heap.get? b=some o:=fun b o e=>(I.bs b o e).1
theorem Inv.mod (I:Inv X pins σ H s):Mod X.K X.mg X.base:=I.ok.mod
theorem Inv.kIn (I:Inv X pins σ H s):X.K.In s.heap:=I.ok.mod.kin.keeps I.bk
theorem Inv.fr (I:Inv X pins σ H s):∃ m,Fr X.base X.env.locals s.heap m :=
 let ⟨m,hn,_⟩:=I.loc
 ⟨m,hn,I.bk,qAG I.ok.bsz I.ok.above⟩
theorem Inv.lt (I:Inv X pins σ H s):X.env.locals<s.heap.objs.size:=let ⟨_,hn,_⟩:=I.loc;hn.lt
theorem Inv.sz (I:Inv X pins σ H s):X.s₀.heap.objs.size≤s.heap.objs.size:=qAG I.ok.above (qCA I.lt)
theorem Inv.nofs (I:Inv X pins σ H s) {a:Addr} (h:s.heap.objs.size≤a):a∉X.fs:=fun hb=>by
 obtain ⟨_,o,ho,_⟩:=I.ok.funs.mem hb
 exact absurd (qo (qK ho) (qAG I.sz h)) (qBB _)
theorem Inv.cne (I:Inv X pins σ H s):∀ x c,X.env.cells.lookup x=some c→c≠X.env.locals:=fun x c e z=>by
 obtain ⟨v,o,ho,hd⟩:=I.cell x c e
 obtain ⟨m,⟨o',es,ep,ho',hd',_⟩,_⟩:=I.loc
 rw [z,ho'] at ho;cases ho;rw [hd'] at hd;cases hd
theorem Inv.funs (I:Inv X pins σ H s):s.heap.FunFrames X.base X.outer:=by
 have all:∀ (l:List Env),(∀ b∈frs l,b∈X.fs)→X.s₀.heap.FunFrames X.base l→s.heap.FunFrames X.base l:=by
  intro l
  induction l with
  | nil=>intro _ _;trivial
  | cons env r ih =>
   intro hs hl
   obtain ⟨hk,⟨L,o,hf,hn,ho,hd⟩,hr⟩:=hl
   have hL:L∈X.fs:=hs L (by unfold frs;rw [qCH,hf];exact qj)
   obtain ⟨sl,e⟩:=I.base.slot L o ho (I.ok.frf L hL) hL fun z=>I.ok.exfs L z hL
   exact ⟨hk,⟨L,_,hf,hn,e,hd⟩,ih (fun b hb=>hs b (by unfold frs;rw [qCH,hf];exact qL _ hb)) hr⟩
 exact all X.outer (fun _ hb=>hb) I.ok.funs
theorem Inv.stack (I:Inv X pins σ H s):s.heap.FunFrames X.base X.stack:=by
 rcases I.ok.stk with e|⟨e,hf⟩
 ·rw [e];exact I.funs
 ·rw [e]
  obtain ⟨m,hn,_⟩:=I.loc
  refine .cons (by rw [I.ok.kind];decide) hf hn ?_ I.funs
  exact qBK (qAG I.ok.bsz I.ok.above)
theorem Inv.stkSub (I:Inv X pins σ H s):∀ b∈frs X.stack,b∈X.env.locals::X.fs:=fun b hb=>by
 rcases I.ok.stk with e|⟨e,hf⟩
 ·rw [e] at hb;exact qL _ hb
 ·rw [e] at hb
  unfold frs at hb
  rw [qCH,hf] at hb
  exact hb
theorem Inv.stkFree (I:Inv X pins σ H s):∀ b∈frs X.stack,H b=none:=fun b hb=>by
 rcases qX.mp (I.stkSub b hb) with e|hb
 ·rw [e];exact I.free
 ·obtain ⟨_,o,ho,_⟩:=I.ok.funs.mem hb
  exact I.base.free b o ho (I.ok.frf b hb) fun z=>I.ok.exfs b z hb
theorem Inv.step {g':Array GenState} {t':Nat} {d':Drawn} {ch:List Addr} (I:Inv X pins σ H s)
  (hch:∀ b∈ch,(b∈X.ex∨X.s₀.heap.objs.size≤b)∧b≠X.env.locals∧(∀ x c,X.env.cells.lookup x=some c→c≠b)∧∀ p∈X.pn++pins,p.1≠b)
  (keep:∀ b o,b≠X.env.locals→b∉X.fs→b∉ch→s.heap.get? b=some o→H b=none→h'.get? b=some o)
  (slot:∀ b o,b≠X.env.locals→b∈X.fs→b∉ch→s.heap.get? b=some o→H b=none→∃ sl,h'.get? b=some {o with slots:=sl}) (free:∀ b o,b∉ch→s.heap.get? b=some o→H b=none→H' b=none)
  (there:∀ b o,b∉ch→s.heap.get? b=some o→∃ o',h'.get? b=some o')
  (tups:∀ b xs,H b=some (.tup xs)→H' b=some (.tup xs)) (frzs:∀ b o u,H b=some (.frz o u)→H' b=some (.frz o u)) (tbls:∀ b ps,H b=some (.tbl ps)→∃ more,H' b=some (.tbl (ps++more)))
  (ns:∀ m,s.heap.Ns X.env.locals m→h'.Ns X.env.locals m) (hok:HOk X.prog X.w H' h') (hg:AllBare g') :
  Inv X pins σ H' {s with heap:=h',gens:=g',drawn:=d',toks:=t'}:=by
 have neL:∀ b o,X.s₀.heap.get? b=some o→b≠X.env.locals:=fun b o e=>qq (qo (qK e) I.ok.above)
 have neC:∀ b o,X.s₀.heap.get? b=some o→b∉X.ex→b∉ch:=fun b o e hx hb=>by
  rcases (hch b hb).1 with z|z
  ·exact hx z
  ·exact absurd (qo (qK e) z) (qBB _)
 have cellK:∀ x c,X.env.cells.lookup x=some c→∀ v,s.heap.IsCell c v→h'.IsCell c v:=fun x c e v ⟨o,ho,hd⟩=>by
  have nch:c∉ch:=fun z=>(hch c z).2.2.1 x c e rfl
  by_cases hc:c∈X.fs
  ·obtain ⟨sl,q⟩:=slot c o (I.cne x c e) hc nch ho (I.freeC x c e)
   exact ⟨_,q,hd⟩
  ·exact ⟨o,keep c o (I.cne x c e) hc nch ho (I.freeC x c e),hd⟩
 refine ⟨I.ok,I.os,hg,⟨fun b o e n hb hx=>?_,fun b o e n hb hx=>?_,fun b o e n hx=>?_,fun b o e hx=>?_,fun b xs e=>tups b xs (I.base.tups b xs e),fun b o xs e=>frzs b o xs (I.base.frzs b o xs e),fun b ps e=>?_⟩,?_,fun x c e=>?_,?_,fun x c e=>?_,fun p hp=>?_,hok,I.len⟩
 ·exact keep b o (neL b o e) hb (neC b o e hx) (I.base.keep b o e n hb hx) (I.base.free b o e n hx)
 ·obtain ⟨sl,e1⟩:=I.base.slot b o e n hb hx
  obtain ⟨sl',e2⟩:=slot b _ (neL b o e) hb (neC b o e hx) e1 (I.base.free b o e n hx)
  exact ⟨sl',e2⟩
 ·obtain ⟨o',e1⟩:=I.base.there b o e hx
  exact free b o' (neC b o e hx) e1 (I.base.free b o e n hx)
 ·obtain ⟨o',e1⟩:=I.base.there b o e hx
  exact there b o' (neC b o e hx) e1
 ·obtain ⟨m1,e1⟩:=I.base.tbls b ps e
  obtain ⟨m2,e2⟩:=tbls b _ e1
  exact ⟨m1++m2,by rw [e2,Array.append_assoc]⟩
 ·obtain ⟨m,hn,hl⟩:=I.loc
  refine ⟨m,ns m hn,fun i x v e1 e2 e3=>?_⟩
  obtain ⟨u,r,l⟩:=hl i x v e1 e2 e3
  refine ⟨u,r,?_⟩
  rcases l with l|⟨k,c,e,z⟩
  ·exact .inl l
  ·exact .inr ⟨k,c,e,cellK x c e _ z⟩
 ·obtain ⟨v,z⟩:=I.cell x c e
  exact ⟨v,cellK x c e v z⟩
 ·obtain ⟨m,⟨o,_,_,ho,_⟩,_⟩:=I.loc
  exact free _ o (fun z=>(hch _ z).2.1 rfl) ho I.free
 ·obtain ⟨v,o,ho,hd⟩:=I.cell x c e
  exact free c o (fun z=>(hch c z).2.2.1 x c e rfl) ho (I.freeC x c e)
 ·obtain ⟨e,n,ne,nf,d⟩:=I.pin p hp
  have nch:p.1∉ch:=fun z=>(hch p.1 z).2.2.2 p hp rfl
  exact ⟨keep p.1 p.2 ne nf nch e n,free p.1 p.2 nch e n,ne,nf,d⟩
theorem Inv.un {t':Nat} (I:Inv X pins σ H s) (u:Un X.fs [] H H' s.heap h') (hok:HOk X.prog X.w H' h'):Inv X pins σ H' {s with heap:=h',toks:=t'}:=by
 obtain ⟨m,⟨o,es,ep,ho,r⟩,_⟩:=id I.loc
 obtain ⟨sl,hL⟩:=u.any ho I.free (by simp)
 exact I.step (g':=s.gens) (d':=s.drawn) (ch:=[]) (fun _ z=>nomatch z) (fun b o _ hb _ e n=>u.keep b o e n hb (by simp)) (fun b o _ hb _ e n=>u.slot b o e n hb (by simp)) (fun b o _ e n=>u.free b o e n (by simp)) (fun b o _ e=>u.there b o e (by simp)) u.tups u.frzs u.tbls (fun m' hm=>by
  obtain ⟨o',es',ep',ho',r'⟩:=hm
  rw [ho] at ho';cases ho'
  exact ⟨_,es',ep',hL,r'⟩) hok I.bare
theorem Inv.call {g':Array GenState} {t':Nat} {d':Drawn} {ch:List Addr} (I:Inv X pins σ H s) (u:Un (frs X.stack) ch H H' s.heap h') (hok:HOk X.prog X.w H' h') (hg:AllBare g')
  (hch:∀ b∈ch,(b∈X.ex∨X.s₀.heap.objs.size≤b)∧b≠X.env.locals∧(∀ x c,X.env.cells.lookup x=some c→c≠b)∧∀ p∈X.pn++pins,p.1≠b) :
  Inv X pins σ H' {s with heap:=h',gens:=g',drawn:=d',toks:=t'}:=by
 obtain ⟨m,⟨o,es,ep,ho,r⟩,_⟩:=id I.loc
 obtain ⟨sl,hL⟩:=u.any ho I.free fun z=>(hch _ z).2.1 rfl
 exact I.step (ch:=ch) hch (fun b o hL hb hc e n=>u.keep b o e n (fun z=>(qX.mp (I.stkSub b z)).elim hL hb) hc) (fun b o _ _ hc e n=>u.any e n hc) (fun b o hc e n=>u.free b o e n hc) (fun b o hc e=>u.there b o e hc) u.tups u.frzs u.tbls (fun m' hm=>by
  obtain ⟨o',es',ep',ho',r'⟩:=hm
  rw [ho] at ho';cases ho'
  exact ⟨_,es',ep',hL,r'⟩) hok hg
theorem Inv.turned {t':Nat} {it:Addr} (I:Inv X pins σ H s) (k:∀ b o,b≠it→s.heap.get? b=some o→h'.get? b=some o) (hn:H it=none) (hL:it≠X.env.locals)
  (h1:it∈X.ex∨X.s₀.heap.objs.size≤it) (h2:∀ x c,X.env.cells.lookup x=some c→c≠it) (h3:∀ p∈X.pn++pins,p.1≠it):Inv X pins σ H {s with heap:=h',toks:=t'}:=by
 have nit:∀ b u,H b=some u→b≠it:=fun b u e z=>by rw [z,hn] at e;cases e
 refine I.step (g':=s.gens) (d':=s.drawn) (ch:=[it]) (fun b hb=>?_) (fun b o _ _ hc e _=>k b o (fun z=>hc (by simp [z])) e) (fun b o _ _ hc e _=>⟨o.slots,k b o (fun z=>hc (by simp [z])) e⟩) (fun _ _ _ _ n=>n)
  (fun b o hc e=>⟨o,k b o (fun z=>hc (by simp [z])) e⟩) (fun _ _ e=>e) (fun _ _ _ e=>e) (fun b ps e=>⟨#[],by rw [e];simp⟩) (fun m hm=>?_) (fun b u e=>?_) I.bare
 ·have e:b=it:=by simpa using hb
  subst e
  exact ⟨h1,hL,h2,h3⟩
 ·obtain ⟨o,es,ep,ho,r⟩:=hm
  exact ⟨o,es,ep,k _ o (qAp hL) ho,r⟩
 ·refine (I.hok b u e).stay (fun c v hc q=>k c v ?_ q) (fun _ q=>q) fun _ _ q=>q
  rcases hc with z|z
  ·rw [z];exact nit b u e
  ·exact nit c _ z
theorem Inv.tok (I:Inv X pins σ H s) (t:Nat):Inv X pins σ H {s with toks:=t}:=I.un (h':=s.heap) (t':=t) Un.refl I.hok
theorem Inv.kept {t':Nat} (I:Inv X pins σ H s) (k:∀ b u,s.heap.get? b=some u→h'.get? b=some u):Inv X pins σ H {s with heap:=h',toks:=t'}:=I.un (Un.kept k) (I.hok.kept k)
theorem Inv.laid {a:Addr} {o:HO} {t':Nat} (I:Inv X pins σ H s) (k:∀ b u,s.heap.get? b=some u→h'.get? b=some u) (hp:s.heap.objs.size≤a) (new:zfc X.prog X.w (upd H a o) h' a o) :
  Inv X pins σ (upd H a o) {s with heap:=h',toks:=t'}:=I.un (Un.laid k hp (I.hok.fresh hp)) (I.hok.laid k hp new)
theorem Inv.write {x e:Addr} {o:HO} {t':Nat} (I:Inv X pins σ H s) (mu:Mut (H x)) (he:e=x∨H e=some (.own x)) (k:∀ b u,b≠e→s.heap.get? b=some u→h'.get? b=some u) (heo:∃ u,h'.get? e=some u)
  (new:zfc X.prog X.w (upd H x o) h' x o):Inv X pins σ (upd H x o) {s with heap:=h',toks:=t'}:=I.un (Un.write mu he k heo) (I.hok.write mu he k heo new)
theorem Inv.pins_of {pins':List (Addr×Obj)} (I:Inv X pins σ H s) (h:∀ p∈pins',s.heap.get? p.1=some p.2∧H p.1=none∧p.1≠X.env.locals∧p.1∉X.fs∧∀ v,p.2.data≠.cell v):Inv X pins' σ H s :=
 ⟨I.ok,I.os,I.bare,I.base,I.loc,I.cell,I.free,I.freeC,fun p hp=>(qp.mp hp).elim (fun z=>I.pin p (qAA _ z)) (h p),I.hok,I.len⟩
theorem zug {N:List Str} (hN:N.Nodup) {i j:Nat} {x:Str} (a:N[i]?=some x) (b:N[j]?=some x):i=j:=by
 obtain ⟨h1,e1⟩:=qP.mp a
 obtain ⟨h2,e2⟩:=qP.mp b
 exact (List.getElem_inj hN).mp (e1.trans e2.symm)
theorem zwb {M:Model} {A:Around} {E:Value→Shared→Prop} {i:Nat} {x:Str} {v:V} {u:Value} {Q:Unit→Shared→Prop} (I:Inv X pins σ H s) (hN:X.N.Nodup) (hi:X.N[i]?=some x) (hx:Loc X.env.scope x) (r:RelV v u)
  (h:∀ s',Inv X pins (σ.set i (some v)) H s'→(∃ a,Heap.SameBut a s.heap s'.heap∧(a=X.env.locals∨X.env.cells.lookup x=some a))→Q () s') (hf:X.fn x=true∨X.env.scope.names.lookup x=some .local:=by assumption):wpAny M A (storeName X.env x u) Q E s:=by
 obtain ⟨m,hn,hl⟩:=id I.loc
 have hcls:(X.env.scope.kind==.class||(X.env.scope.kind==.module&&X.env.locals != X.env.globals))=false:=by rw [I.ok.kind];rfl
 have hiσ:i<σ.length:=by rw [I.len];exact (qP.mp hi).1
 have cne:=I.cne
 have tracked:∀ {a:Addr} {h':Heap},(∃ o,s.heap.get? a=some o∧H a=none)→Heap.SameBut a s.heap h'→HOk X.prog X.w H h':=fun {a h'} ha hs b ob e=>by
  obtain ⟨_,_,hfree⟩:=ha
  refine (I.hok b ob e).stay (fun c w' hc q=>(hs.2 c ?_).trans q) (fun _ q=>q) fun _ _ q=>q
  rintro rfl
  rcases hc with rfl|hc
  ·rw [hfree] at e;cases e
  ·rw [hfree] at hc;cases hc
 rcases hx with hk|hk
 ·refine wpAny_storeName_local hk hn (fun h' hn' hs=>?_) hcls
  obtain ⟨oL,_,_,hoL,_⟩:=id hn
  refine h _ ⟨I.ok,I.os,I.bare,⟨fun b o e n hb hx=>?_,fun b o e n hb hx=>?_,I.base.free,fun b o e hx=>?_,I.base.tups,I.base.frzs,I.base.tbls⟩,⟨_,hn',fun j y v' e1 e2 e3=>?_⟩,fun y c e=>?_,I.free,I.freeC,fun p hp=>?_,tracked ⟨oL,hoL,I.free⟩ hs,by simpa using I.len⟩ ⟨_,hs,.inl rfl⟩
  ·exact (hs.2 b (qq (qo (qK e) I.ok.above))).trans (I.base.keep b o e n hb hx)
  ·obtain ⟨sl,e1⟩:=I.base.slot b o e n hb hx
   exact ⟨sl,(hs.2 b (qq (qo (qK e) I.ok.above))).trans e1⟩
  ·obtain ⟨o',e1⟩:=I.base.there b o e hx
   exact ⟨o',(hs.2 b (qq (qo (qK e) I.ok.above))).trans e1⟩
  ·by_cases hj:j=i
   ·subst hj
    rw [hi] at e1;cases e1
    rw [qt hiσ] at e2
    cases e2
    exact ⟨u,r,.inl ⟨hk,by simp⟩⟩
   ·rw [qZ (qAp hj)] at e2
    obtain ⟨u',r',q⟩:=hl j y v' e1 e2 e3
    refine ⟨u',r',?_⟩
    rcases q with ⟨k,e⟩|⟨k,c,e,z⟩
    ·refine .inl ⟨k,?_⟩
     have:y≠x:=fun e=>hj (zug hN e1 (e▸hi))
     simp [this,e]
    ·exact .inr ⟨k,c,e,z.sameBut hs (cne y c e)⟩
  ·obtain ⟨w',z⟩:=I.cell y c e
   exact ⟨w',z.sameBut hs (cne y c e)⟩
  ·obtain ⟨e,n,ne,nf,d⟩:=I.pin p hp
   exact ⟨(hs.2 p.1 ne).trans e,n,ne,nf,d⟩
 ·have hfn:X.fn x=true:=by
   rcases hf with z|z
   ·exact z
   ·rw [z] at hk;cases hk
  obtain ⟨c,hc⟩:=I.ok.has x (.inl hk)
  obtain ⟨w',z⟩:=I.cell x c hc
  refine wpAny_storeName_cell I.ok.kind hk hc z (fun h' hc' hs=>?_)
  obtain ⟨oc,hoc,hocd⟩:=id z
  refine h {s with heap:=h'} ⟨I.ok,I.os,I.bare,⟨fun b o e n hb hx=>?_,fun b o e n hb hx=>?_,I.base.free,fun b o e hx=>?_,I.base.tups,I.base.frzs,I.base.tbls⟩,⟨m,hn.sameBut hs (qAp (cne x c hc)),fun j y v' e1 e2 e3=>?_⟩,fun y c' e=>?_,I.free,I.freeC,fun p hp=>?_,tracked ⟨oc,hoc,I.freeC x c hc⟩ hs,by simpa using I.len⟩ ⟨c,hs,.inr hc⟩
  ·exact (hs.2 b (qq (qo (qK e) (I.ok.cab x c hfn hc)))).trans (I.base.keep b o e n hb hx)
  ·obtain ⟨sl,e1⟩:=I.base.slot b o e n hb hx
   exact ⟨sl,(hs.2 b (qq (qo (qK e) (I.ok.cab x c hfn hc)))).trans e1⟩
  ·obtain ⟨o',e1⟩:=I.base.there b o e hx
   exact ⟨o',(hs.2 b (qq (qo (qK e) (I.ok.cab x c hfn hc)))).trans e1⟩
  ·by_cases hj:j=i
   ·subst hj
    rw [hi] at e1;cases e1
    rw [qt hiσ] at e2
    cases e2
    exact ⟨u,r,.inr ⟨.inl hk,c,hc,hc'⟩⟩
   ·rw [qZ (qAp hj)] at e2
    obtain ⟨u',r',q⟩:=hl j y v' e1 e2 e3
    refine ⟨u',r',?_⟩
    rcases q with q|⟨k,c',e,z'⟩
    ·exact .inl q
    ·refine .inr ⟨k,c',e,z'.sameBut hs ?_⟩
     rintro rfl
     exact hj (zug hN e1 (I.ok.inj _ _ _ e hc▸hi))
  ·by_cases hcc:c'=c
   ·subst hcc;exact ⟨_,hc'⟩
   ·obtain ⟨w2,z2⟩:=I.cell y c' e
    exact ⟨w2,z2.sameBut hs hcc⟩
  ·obtain ⟨e,n,ne,nf,d⟩:=I.pin p hp
   refine ⟨(hs.2 p.1 ?_).trans e,n,ne,nf,d⟩
   intro q
   rw [q,hoc] at e
   have q':oc=p.2:=qh e
   exact d w' (by rw [← q'];exact hocd)
theorem zpw {M:Model} {A:Around} {E:Value→Shared→Prop} {i:Nat} {x:Str} {v:V} {u:Value} {Q:Unit→Shared→Prop} (I:Inv X pins σ H s) (hN:X.N.Nodup) (hi:X.N[i]?=some x) (hx:Loc X.env.scope x) (r:RelV v u)
  (h:∀ s',Inv X pins (σ.set i (some v)) H s'→Q () s') (hf:X.fn x=true∨X.env.scope.names.lookup x=some .local:=by assumption):wpAny M A (storeName X.env x u) Q E s :=
 zwb I hN hi hx r (fun s' I' _=>h s' I') hf
theorem Inv.call' {s':Shared} {ch:List Addr} (I:Inv X pins σ H s) (ho:s'.os=s.os) (u:Un (frs X.stack) ch H H' s.heap s'.heap) (hok:HOk X.prog X.w H' s'.heap) (hg:AllBare s'.gens)
  (hch:∀ b∈ch,(b∈X.ex∨X.s₀.heap.objs.size≤b)∧b≠X.env.locals∧(∀ x c,X.env.cells.lookup x=some c→c≠b)∧∀ p∈X.pn++pins,p.1≠b):Inv X pins σ H' s':=by
 obtain ⟨h',g',d',t',o'⟩:=s'
 have e:o'=s.os:=ho
 subst e
 exact I.call (g':=g') (t':=t') (d':=d') u hok hg hch
end
abbrev XK:=Value→Option Addr→Hp→Prop
abbrev St:=List (Option V)
abbrev VK:=V→Hp→Prop
abbrev TE:=St→Hp→VK→Prop
abbrev TT:=St→Hp→(Bool→Hp→Prop)→Prop
abbrev TA:=St→Hp→(List V→Hp→Prop)→Prop
set_option genInjectivity false in
structure Ends where
 nx:St→Hp→Prop
 rt:VK
 bk:St→Hp→Prop:=fun _ _=>False
 ct:St→Hp→Prop:=fun _ _=>False
abbrev TS:=Ends→St→Hp→Prop
def EP (X:Cx) (pins:List (Addr×Obj)) (σ:St) (Q:VK) (u:Value) (s':Shared):Prop:=∃ v H',Inv X pins σ H' s'∧RelV v u∧Q v H'
def TP (X:Cx) (pins:List (Addr×Obj)) (σ:St) (Q:Bool→Hp→Prop) (b:Bool) (s':Shared):Prop:=∃ H',Inv X pins σ H' s'∧Q b H'
def AP (X:Cx) (pins:List (Addr×Obj)) (σ:St) (Q:List V→Hp→Prop) (us:List Value) (s':Shared):Prop:=∃ vs H',Inv X pins σ H' s'∧Vals vs us∧Q vs H'
noncomputable def SP (X:Cx) (pins:List (Addr×Obj)) (D:Ends) (f:Flow) (s':Shared):Prop :=
 match f with
 | .next=>∃ σ' H',Inv X pins σ' H' s'∧D.nx σ' H'
 | .brk=>∃ σ' H',Inv X pins σ' H' s'∧D.bk σ' H'
 | .cont=>∃ σ' H',Inv X pins σ' H' s'∧D.ct σ' H'
 | .ret u=>∃ v σ' H',Inv X pins σ' H' s'∧RelV v u∧D.rt v H'
def PE (X:Cx) (e:Expr) (t:TE):Prop :=
 ∀ (pins:List (Addr×Obj)) (s:Shared) (σ:St) (H:Hp) (Q:VK),Inv X pins σ H s→t σ H Q→wpAny (model X.prog X.w) X.A (eval e X.env) (EP X pins σ Q) X.xe s
def PT (X:Cx) (e:Expr) (t:TT):Prop :=
 ∀ (pins:List (Addr×Obj)) (s:Shared) (σ:St) (H:Hp) (Q:Bool→Hp→Prop),Inv X pins σ H s→t σ H Q→wpAny (model X.prog X.w) X.A (isTrue e X.env (eval e X.env)) (TP X pins σ Q) X.xe s
def PW (X:Cx) (e:Expr) (t:TT):Prop :=
 ∀ (whole:Sem Value) (pins:List (Addr×Obj)) (s:Shared) (σ:St) (H:Hp) (Q:Bool→Hp→Prop),Inv X pins σ H s→t σ H Q→wpAny (model X.prog X.w) X.A (isTrue e X.env whole) (TP X pins σ Q) X.xe s
theorem PW.pt {X:Cx} {e:Expr} {t:TT} (h:PW X e t):PT X e t:=h _
def PA (X:Cx) (es:List Expr) (t:TA):Prop :=
 ∀ (pos:Pos) (pins:List (Addr×Obj)) (s:Shared) (σ:St) (H:Hp) (Q:List V→Hp→Prop),Inv X pins σ H s→t σ H Q→wpAny (model X.prog X.w) X.A (spliced (backTo pos (starEach es X.env))) (AP X pins σ Q) X.xe s
def PS (X:Cx) (st:Stmt) (t:TS):Prop :=
 ∀ (pins:List (Addr×Obj)) (s:Shared) (σ:St) (H:Hp) (D:Ends),Inv X pins σ H s→t D σ H→wpAny (model X.prog X.w) X.A (exec st X.env) (SP X pins D) X.xe s
def PSs (X:Cx) (st:List Stmt) (t:TS):Prop :=
 ∀ (pins:List (Addr×Obj)) (s:Shared) (σ:St) (H:Hp) (D:Ends),Inv X pins σ H s→t D σ H→wpAny (model X.prog X.w) X.A (execs st X.env) (SP X pins D) X.xe s
theorem thn {α:Type} {t:Sem α} {Q Q':α→Shared→Prop} {M:Model} {A:Around} {E:Value→Shared→Prop} {s:Shared} (h:wpAny M A t Q E s) (hQ:∀ a s,Q a s→Q' a s):wpAny M A t Q' E s:=qBM h hQ fun _ _ x=>x
section
variable {X:Cx}
theorem bin {a b:Expr} {ta tb:TE} (ha:PE X a ta) (hb:PE X b tb) {pins:List (Addr×Obj)} {s:Shared} {σ:St} {H:Hp} {R:V→V→Hp→Prop} (I:Inv X pins σ H s) (h:ta σ H fun x H1=>tb σ H1 fun y H2=>R x y H2)
  {α:Type} {Q:α→Shared→Prop} {f:Value→Value→Sem α}
  (hf:∀ v u s2 x y H2,Inv X pins σ H2 s2→RelV x v→RelV y u→R x y H2→wpAny (model X.prog X.w) X.A (f v u) Q X.xe s2) :
  wpAny (model X.prog X.w) X.A (eval a X.env) (fun v s₁=>wpAny (model X.prog X.w) X.A (eval b X.env) (fun u s₂=>wpAny (model X.prog X.w) X.A (f v u) Q X.xe s₂) X.xe s₁) X.xe s:=by
 refine thn (ha pins s σ H _ I h) fun v s1 ⟨x,H1,I1,r1,q1⟩=>?_
 refine thn (hb pins s1 σ H1 _ I1 q1) fun u s2 ⟨y,H2,I2,r2,q2⟩=>?_
 exact hf v u s2 x y H2 I2 r1 r2 q2
def tVar (i:Nat):TE:=fun σ H Q=>∃ v,σ[i]?=some (some v)∧Q v H
def tC (v:V):TE:=fun _ H Q=>Q v H
theorem zamm {i:Nat} {x:Str} {pos:Pos} (hN:X.N[i]?=some x) (hv:Vis X.env.scope x) (hd:(x==("__debug__":Str))=false:=by decide) (hcd:(x==("__classdict__":Str))=false:=by decide):PE X (.Name x pos) (tVar i):=by
 intro pins s σ H Q I h
 obtain ⟨v,e,h⟩:=h
 obtain ⟨m,hn,hl⟩:=I.loc
 obtain ⟨u,r,l⟩:=hl i x v hN e hv
 have fin:EP X pins σ Q u s:=⟨v,H,I,r,h⟩
 rcases l with ⟨hk,hm⟩|⟨hk,c,hc,hcell⟩
 ·exact wpAny_Name (wpAny_loadName_local I.ok.kind hk hn hm fin) hd
 ·rcases hk with hk|hk
  ·exact wpAny_Name (wpAny_loadName_cell I.ok.kind hk hc hcell fin) hd
  ·exact wpAny_Name (wpAny_loadName_free I.ok.kind hk hc hcell fin hcd) hd
theorem ziy {i j pos}:PE X (.Constant (.int i) j pos) (tC (.int i)):=fun _ _ _ H _ I h=>wpAny_Constant_int ⟨.int i,H,I.tok _,⟨_,rfl⟩,h⟩
theorem zatz {b j pos}:PE X (.Constant (.bool b) j pos) (tC (.bl b)):=fun _ _ _ H _ I h=>Constant_bool ⟨.bl b,H,I,rfl,h⟩
theorem zaqv {j pos}:PE X (.Constant .none j pos) (tC .non):=fun _ _ _ H _ I h=>Constant_none ⟨.non,H,I,rfl,h⟩
theorem zaqw {x j pos}:PE X (.Constant (.str x) j pos) (tC (.str x)):=fun _ _ _ H _ I h=>qCL ⟨.str x,H,I.tok _,⟨_,rfl⟩,h⟩
def Gl (X:Cx) (x:Str):Prop:=X.env.kindOf x=some .globalImplicit
theorem zqd {E:Value→Shared→Prop} {pins:List (Addr×Obj)} {s:Shared} {σ:St} {H:Hp} {x:Str} {u:Value} {pos:Pos} {Q:Value→Shared→Prop} (I:Inv X pins σ H s) (hg:Gl X x) (hm:X.mg x=some u) (h:Q u s)
  (hd:(x==("__debug__":Str))=false:=by decide):wpAny (model X.prog X.w) X.A (eval (.Name x pos) X.env) Q E s :=
 qCb I.ok.kind hg (Calls.loadGlobal_global (by rw [I.ok.glob];exact I.mod.glob.keeps I.bk) hm h) hd
theorem zqe {E:Value→Shared→Prop} {pins:List (Addr×Obj)} {s:Shared} {σ:St} {H:Hp} {x:Str} {u:Value} {pos:Pos} {Q:Value→Shared→Prop} (I:Inv X pins σ H s) (hg:Gl X x) (hm:X.mg x=none) (hv:bootBuiltins x=some u) (h:Q u s)
  (hn:x ≠ "__name__":=by decide) (hd:(x==("__debug__":Str))=false:=by decide):wpAny (model X.prog X.w) X.A (eval (.Name x pos) X.env) Q E s:=by
 obtain ⟨mb,h1,h2⟩:=I.mod.blt
 exact qCb I.ok.kind hg (Calls.loadGlobal_builtin (by rw [I.ok.glob];exact I.mod.glob.keeps I.bk) hm (by rw [I.ok.blt];exact h1.keeps I.bk) ((h2 x hn).trans hv) h) hd
theorem zanu {x:Str} {v:V} {u:Value} {pos:Pos} (hg:Gl X x) (hm:X.mg x=none) (hv:bootBuiltins x=some u) (r:RelV v u) (hn:x ≠ "__name__":=by decide) (hd:(x==("__debug__":Str))=false:=by decide):PE X (.Name x pos) (tC v) :=
 fun _ _ _ H _ I h=>zqe I hg hm hv ⟨v,H,I,r,h⟩ hn hd
variable {a b:Expr} {ta tb:TE} {pos:Pos}
noncomputable def PC (X:Cx) (op:CmpOp) (a b:Expr) (t:TE):Prop :=
 ∀ (pins:List (Addr×Obj)) (s:Shared) (σ:St) (H:Hp) (Q:VK),Inv X pins σ H s→t σ H Q →
  wpAny (model X.prog X.w) X.A (eval a X.env) (fun v s₁=>wpAny (model X.prog X.w) X.A (eval b X.env) (fun u s₂=>wpAny (model X.prog X.w) X.A (compareOp op v u) (EP X pins σ Q) X.xe s₂) X.xe s₁) X.xe s
def tB (t:TE):TT:=fun σ H Q=>t σ H fun x H1=>∃ c,x=.bl c∧Q c H1
theorem zaqx {op:CmpOp} {t:TE} (h:PC X op a b t) (h1:behindInMarks op b=false:=by rfl):PE X (.Compare a [op] [b] pos) t:=fun pins s σ H Q I hw=>wpAny_Compare1 (h pins s σ H Q I hw) h1
variable {tA tB':TT} {rest:List Expr}
def tAnd (t u:TT):TT:=fun σ H Q=>t σ H fun c H1=>if c=true then u σ H1 Q else Q false H1
def tOr (t u:TT):TT:=fun σ H Q=>t σ H fun c H1=>if c=true then Q true H1 else u σ H1 Q
def tNot (t:TT):TT:=fun σ H Q=>t σ H fun c H1=>Q (!c) H1
theorem zanv (ha:PT X a tA):PW X (.BoolOp .And [a] pos) tA:=by
 intro wh pins s σ H Q I h
 refine isTrue_and (thn (ha pins s σ H Q I h) fun c s1 e=>?_)
 cases c with
 | true=>exact isTrue_and_nil e
 | false=>exact e
theorem zaqy (ha:PT X a tA):PW X (.BoolOp .Or [a] pos) tA:=by
 intro wh pins s σ H Q I h
 refine isTrue_or (thn (ha pins s σ H Q I h) fun c s1 e=>?_)
 cases c with
 | false=>exact isTrue_or_nil e
 | true=>exact e
theorem zaqz (ha:PT X a tA) (hb:PW X (.BoolOp .And (b::rest) pos) tB'):PW X (.BoolOp .And (a::b::rest) pos) (tAnd tA tB'):=by
 intro wh pins s σ H Q I h
 refine isTrue_and (thn (ha pins s σ H _ I h) fun c s1 ⟨H1,I1,q1⟩=>?_)
 cases c with
 | true=>exact hb wh pins s1 σ H1 Q I1 q1
 | false=>exact ⟨H1,I1,q1⟩
theorem zaua (ha:PT X a tA) (hb:PW X (.BoolOp .Or (b::rest) pos) tB'):PW X (.BoolOp .Or (a::b::rest) pos) (tOr tA tB'):=by
 intro wh pins s σ H Q I h
 refine isTrue_or (thn (ha pins s σ H _ I h) fun c s1 ⟨H1,I1,q1⟩=>?_)
 cases c with
 | true=>exact ⟨H1,I1,q1⟩
 | false=>exact hb wh pins s1 σ H1 Q I1 q1
theorem zara (ha:PT X a tA):PT X (.UnaryOp .Not a pos) (tNot tA):=by
 intro pins s σ H Q I h
 exact isTrue_not (ha pins s σ H (fun c H1=>Q (!c) H1) I h)
def tAndV (ta tb:TE):TE:=fun σ H Q=>ta σ H fun x H1=>∃ c,x=.bl c∧if c=true then tb σ H1 Q else Q (.bl false) H1
theorem zarb {op} {t:TE} (h:PE X a t):PE X (.BoolOp op [a] pos) t:=fun pins s σ H Q I hw=>BoolOp_one (h pins s σ H Q I hw)
theorem zarc (ha:PE X a ta) (hb:PE X (.BoolOp .And (b::rest) pos) tb):PE X (.BoolOp .And (a::b::rest) pos) (tAndV ta tb):=by
 intro pins s σ H Q I h
 refine BoolOp_and (thn (ha pins s σ H _ I h) fun v s1 ⟨x,H1,I1,r1,q1⟩=>?_)
 obtain ⟨c,rfl,q1⟩:=q1
 cases r1
 refine qBe ?_
 cases c with
 | true=>exact hb pins s1 σ H1 Q I1 q1
 | false=>exact ⟨.bl false,H1,I1,rfl,q1⟩
end
def SqL (K:qB) (H:Hp) (a:Addr) (xs:List V):Prop :=
 Rd H a (.lst xs) ∨
  ∃ (o:Obj) (its:Array Value) (n:Nat),K.lookup a=some o∧o.cls=.type "list" ∧ o.dict=none∧o.data=.seq its n∧its.size≤qU∧Vals xs its.toList
def SqT (K:qB) (H:Hp) (a:Addr) (xs:List V):Prop :=
 Rd H a (.tup xs) ∨
  ∃ (o:Obj) (its:Array Value) (n:Nat),K.lookup a=some o∧o.cls=.type "tuple" ∧ o.data=.seq its n∧its.size≤qU∧Vals xs its.toList
def absV:Value→Option V
 | .none=>some .non
 | .bool b=>some (.bl b)
 | .int i _=>some (.int i)
 | .str x _=>some (.str x)
 | .bytes b _=>some (.byt b)
 | .float b _=>some (.flt b)
 | .ref a=>some (.ref a)
 | .type n=>some (.ty n)
 | _=>none
theorem RelV.abs {x:V} {u:Value} (r:RelV x u):absV u=some x:=by
 cases x with
 | non=>cases r;rfl
 | bl _=>cases r;rfl
 | int _=>obtain ⟨t,rfl⟩:=r;rfl
 | str _=>obtain ⟨t,rfl⟩:=r;rfl
 | byt _=>obtain ⟨t,rfl⟩:=r;rfl
 | flt _=>obtain ⟨t,rfl⟩:=r;rfl
 | ref _=>cases r;rfl
 | ty _=>cases r;rfl
theorem RelV.inj {x y:V} {u:Value} (r:RelV x u) (q:RelV y u):x=y:=qh (r.abs.symm.trans q.abs)
theorem Vals.inj:∀ {xs ys:List V} {us:List Value},Vals xs us→Vals ys us→xs=ys
 | _,_,_,.nil,.nil=>rfl
 | _,_,_,.cons r t,.cons r' t'=>by rw [r.inj r',Vals.inj t t']
section
variable {X:Cx} {pins:List (Addr×Obj)} {σ:St} {H:Hp} {s:Shared} {a:Addr} {xs ys:List V}
theorem SqL.of {K:qB} (h:H a=some (.lst xs)):SqL K H a xs:=.inl (.inl h)
theorem SqT.of {K:qB} (h:H a=some (.tup xs)):SqT K H a xs:=.inl (.inl h)
theorem Inv.list (I:Inv X pins σ H s) (h:SqL X.K H a xs):∃ its:List Value,Vals xs its∧PlainL s.heap a its.toArray∧xs.length≤qU:=by
 rcases h with h|⟨o,its,n,hk,hc,hd,hs,hz,r⟩
 ·obtain ⟨z,its,n,r,e⟩:=h.ok I.hok
  exact ⟨its,r,⟨_,n,e,rfl,rfl,rfl⟩,z⟩
 ·refine ⟨its.toList,r,⟨o,n,I.kIn a o hk,hc,hd,by simpa using hs⟩,?_⟩
  have e:=r.length
  simp only [qCF] at e
  omega
theorem Inv.tuple (I:Inv X pins σ H s) (h:SqT X.K H a xs):∃ its:List Value,Vals xs its∧IsTup s.heap a its.toArray∧xs.length≤qU:=by
 rcases h with h|⟨o,its,n,hk,hc,hs,hz,r⟩
 ·obtain ⟨z,its,r,p⟩:=h.ok I.hok
  exact ⟨its,r,p,z⟩
 ·refine ⟨its.toList,r,⟨o,I.kIn a o hk,hc,n,by simpa using hs⟩,?_⟩
  have e:=r.length
  simp only [qCF] at e
  omega
theorem Inv.list_inj (I:Inv X pins σ H s) (h:SqL X.K H a xs) (h':SqL X.K H a ys):xs=ys:=by
 obtain ⟨its,r,⟨o,n,e,_,_,d⟩,_⟩:=I.list h
 obtain ⟨its',r',⟨o',n',e',_,_,d'⟩,_⟩:=I.list h'
 rw [e] at e';cases e'
 rw [d] at d'
 injection d' with d1 _
 have:its=its':=by simpa using congrArg Array.toList d1
 subst this
 exact r.inj r'
theorem Inv.tuple_inj (I:Inv X pins σ H s) (h:SqT X.K H a xs) (h':SqT X.K H a ys):xs=ys:=by
 obtain ⟨its,r,⟨o,e,_,n,d⟩,_⟩:=I.tuple h
 obtain ⟨its',r',⟨o',e',_,n',d'⟩,_⟩:=I.tuple h'
 rw [e] at e';cases e'
 rw [d] at d'
 injection d' with d1 _
 have:its=its':=by simpa using congrArg Array.toList d1
 subst this
 exact r.inj r'
end
abbrev Cx.wish (X:Cx) (E:Value→Shared→Prop):Cx:={X with xe:=E}
abbrev Cx.nox (X:Cx):Cx:=X.wish fun _ _=>False
theorem Cx.Ok.wish {X:Cx} (ok:X.Ok) (E:Value→Shared→Prop):(X.wish E).Ok :=
 ⟨ok.mod,ok.kind,ok.glob,ok.blt,ok.above,ok.inj,ok.has,ok.cab,ok.hd,ok.frames,ok.stk,ok.exf,ok.bs,ok.bsz,ok.noex,ok.exfs,ok.funs,ok.frf⟩
theorem Cx.Ok.unwish {X:Cx} {E:Value→Shared→Prop} (ok:(X.wish E).Ok):X.Ok :=
 ⟨ok.mod,ok.kind,ok.glob,ok.blt,ok.above,ok.inj,ok.has,ok.cab,ok.hd,ok.frames,ok.stk,ok.exf,ok.bs,ok.bsz,ok.noex,ok.exfs,ok.funs,ok.frf⟩
section
variable {X:Cx} {pins:List (Addr×Obj)} {σ:St} {H:Hp} {s:Shared} {E:Value→Shared→Prop}
theorem Inv.wish (I:Inv X pins σ H s) (E:Value→Shared→Prop):Inv (X.wish E) pins σ H s:=⟨I.ok.wish E,I.os,I.bare,I.base,I.loc,I.cell,I.free,I.freeC,I.pin,I.hok,I.len⟩
theorem Inv.unwish (I:Inv (X.wish E) pins σ H s):Inv X pins σ H s:=⟨I.ok.unwish,I.os,I.bare,I.base,I.loc,I.cell,I.free,I.freeC,I.pin,I.hok,I.len⟩
theorem SP.unwish {D:Ends} {f:Flow} {s':Shared} (h:SP (X.wish E) pins D f s'):SP X pins D f s':=by
 cases f with
 | next=>obtain ⟨σ',H',I,q⟩:=h;exact ⟨σ',H',I.unwish,q⟩
 | brk=>obtain ⟨σ',H',I,q⟩:=h;exact ⟨σ',H',I.unwish,q⟩
 | cont=>obtain ⟨σ',H',I,q⟩:=h;exact ⟨σ',H',I.unwish,q⟩
 | ret u=>obtain ⟨v,σ',H',I,r,q⟩:=h;exact ⟨v,σ',H',I.unwish,r,q⟩
theorem PSs.nox {st:List Stmt} {t:TS} (h:PSs X.nox st t):PSs X st t:=fun pins s σ H D I hw =>
 qBM (h pins s σ H D (I.wish _) hw) (fun _ _ q=>q.unwish) fun _ _ z=>False.elim z
end
section
variable {X:Cx} {st:Stmt} {rest:List Stmt} {t u:TS} {e:Expr} {te:TE} {pos:Pos}
def tNext:TS:=fun D σ H=>D.nx σ H
def tSeq (t u:TS):TS:=fun D σ H=>t {D with nx:=u D} σ H
theorem zanw:PSs X [] tNext:=fun _ _ σ H _ I h=>qBw ⟨σ,H,I,h⟩
theorem zlo (h1:PS X st t) (h2:PSs X rest u):PSs X (st::rest) (tSeq t u):=by
 intro pins s σ H D I h
 refine qCk (thn (h1 pins s σ H {D with nx:=u D} I h) fun f s1 q=>?_)
 cases f with
 | next =>
  obtain ⟨σ',H',I',q⟩:=q
  exact h2 pins s1 σ' H' D I' q
 | ret v=>exact q
 | brk=>exact q
 | cont=>exact q
theorem zml (h1:PS X st t):PSs X [st] t:=by
 intro pins s σ H D I h
 refine qCk (thn (h1 pins s σ H D I h) fun f s1 q=>?_)
 cases f with
 | next=>exact qBw q
 | ret v=>exact q
 | brk=>exact q
 | cont=>exact q
theorem Inv.quiet {pins:List (Addr×Obj)} {σ:St} {H:Hp} {s:Shared} (I:Inv X pins σ H s):interactive X.env=false:=by simp [interactive,I.ok.kind]
def tDrop (te:TE):TS:=fun D σ H=>te σ H fun _ H1=>D.nx σ H1
theorem zuh (he:PE X e te) (hs:swapsWith e none pos.line X.env=pure false:=by rfl):PS X (.Expr e pos) (tDrop te):=by
 intro pins s σ H D I h
 exact wpAny_Expr_any (thn (he pins s σ H _ I h) fun v s1 ⟨x,H1,I1,r1,q1⟩=>⟨σ,H1,I1,q1⟩) I.quiet hs
def tRet (te:TE):TS:=fun D σ H=>te σ H D.rt
theorem zamn (he:PE X e te):PS X (.Return (some e) pos) (tRet te):=by
 intro pins s σ H D I h
 exact wpAny_Return_some (thn (he pins s σ H _ I h) fun v s1 ⟨x,H1,I1,r1,q1⟩=>⟨x,σ,H1,I1,r1,q1⟩)
def tIfS (c:TT) (t u:TS):TS:=fun D σ H=>c σ H fun b H1=>if b=true then t D σ H1 else u D σ H1
theorem zard {c:Expr} {a b:List Stmt} {tc:TT} (hc:PT X c tc) (ha:PSs X a t) (hb:PSs X b u):PS X (.If c a b pos) (tIfS tc t u):=by
 intro pins s σ H D I h
 refine wpAny_If (thn (hc pins s σ H _ I h) fun d s1 ⟨H1,I1,q1⟩=>?_)
 cases d with
 | true=>exact ha pins s1 σ H1 D I1 q1
 | false=>exact hb pins s1 σ H1 D I1 q1
end
abbrev TG:=V→St→Hp→(St→Hp→Prop)→Prop
abbrev TGs:=List V→St→Hp→(St→Hp→Prop)→Prop
def PG (X:Cx) (target:Expr) (t:TG):Prop :=
 ∀ (pins:List (Addr×Obj)) (s:Shared) (σ:St) (H:Hp) (v:V) (u:Value) (Q:St→Hp→Prop),Inv X pins σ H s→RelV v u→t v σ H Q →
  wpAny (model X.prog X.w) X.A (assign target X.env u) (fun _ s'=>∃ σ' H',Inv X pins σ' H' s'∧Q σ' H') X.xe s
noncomputable def PGs (X:Cx) (ts:List Expr) (t:TGs):Prop :=
 ∀ (pins:List (Addr×Obj)) (s:Shared) (σ:St) (H:Hp) (vs:List V) (us:List Value) (Q:St→Hp→Prop),Inv X pins σ H s→Vals vs us→t vs σ H Q →
  wpAny (model X.prog X.w) X.A (assignInOrder ((assignEach ts X.env).map (·.2)) us) (fun _ s'=>∃ σ' H',Inv X pins σ' H' s'∧Q σ' H') X.xe s
section
variable {X:Cx} {pos:Pos}
def gName (i:Nat):TG:=fun v σ H Q=>Q (σ.set i (some v)) H
theorem zzq {i:Nat} {x:Str} (hN:X.N.Nodup) (hi:X.N[i]?=some x) (hx:Loc X.env.scope x) (hf:X.fn x=true∨X.env.scope.names.lookup x=some .local:=by assumption):PG X (.Name x pos) (gName i):=by
 intro pins s σ H v u Q I r h
 exact wpAny_assign_Name (zpw I hN hi hx r (fun s' I'=>⟨_,H,I',h⟩) hf)
def gNil:TGs:=fun vs σ H Q=>vs=[]∧Q σ H
def gCons (t:TG) (u:TGs):TGs:=fun vs σ H Q=>∃ v r,vs=v::r∧t v σ H fun σ' H'=>u r σ' H' Q
theorem zanx:PGs X [] gNil:=by
 intro pins s σ H vs us Q I r h
 obtain ⟨e,h⟩:=h
 subst e
 cases r
 exact assignInOrder_nil ⟨σ,H,I,h⟩
theorem zajl {e:Expr} {es:List Expr} {t:TG} {u:TGs} (h1:PG X e t) (h2:PGs X es u)
  (hs:(assignEach (e::es) X.env).map (·.2)=assign e X.env::(assignEach es X.env).map (·.2):=by rfl):PGs X (e::es) (gCons t u):=by
 intro pins s σ H vs us Q I r h
 obtain ⟨v,vr,e1,h⟩:=h
 subst e1
 cases r with
 | cons r rr =>
  rw [hs]
  refine assignInOrder_cons (thn (h1 pins s σ H _ _ _ I r h) fun _ s1 ⟨σ1,H1,I1,q1⟩=>?_)
  exact h2 pins s1 σ1 H1 _ _ Q I1 rr q1
def gTup (K:qB) (n:Nat) (t:TGs):TG:=fun v σ H Q=>∃ a xs,v=.ref a∧SqT K H a xs∧xs.length=n∧t xs σ H Q
theorem zare {es:List Expr} {k:Nat} {t:TGs} {n:Nat} (hc:X.calm=true) (h:PGs X es t)
  (hn:(assignEach es X.env).length=n:=by rfl) (hst:(assignEach es X.env).findIdx? (·.1)=none:=by rfl):PG X (.Tuple es k pos) (gTup X.K n t):=by
 intro pins s σ H v u Q I r hw
 obtain ⟨a,xs,e1,hq,hl,hw⟩:=hw
 subst e1
 cases r
 obtain ⟨its,rv,ht,hz⟩:=I.tuple hq
 refine assign_Tuple_tuple (I.ok.hd hc) ht (by simp [hn,← hl,rv.length]) hst fun h' hx=>?_
 have I1:Inv X pins σ H {s with heap:=h'}:=I.kept (t':=s.toks) fun b o e=>hx b o (qq (qK e)) e
 exact h pins _ σ H xs _ Q I1 (by simpa using rv) hw
def tAsg (te:TE) (g:TG):TS:=fun D σ H=>te σ H fun x H1=>g x σ H1 D.nx
theorem zarf {tg e:Expr} {te:TE} {g:TG} (he:PE X e te) (hg:PG X tg g) (hs:swapsWithSole [tg] e pos.line X.env=pure false:=by rfl) (hw:swappedStores [tg] e X.env=pure none:=by rfl)
  (h1:(assignEach [tg] X.env).map (·.2)=[assign tg X.env]:=by rfl):PS X (.Assign [tg] e pos) (tAsg te g):=by
 intro pins s σ H D I h
 refine wpAny_Assign_stores (thn (he pins s σ H _ I h) fun v s1 ⟨x,H1,I1,r1,q1⟩=>?_) hs hw
 rw [h1]
 exact thn (hg pins s1 σ H1 x v _ I1 r1 q1) fun _ s2 q=>q
theorem zabl {i:Nat} {x:Str} {e:Expr} {te:TE} {pos':Pos} (hN:X.N.Nodup) (hi:X.N[i]?=some x) (hx:Loc X.env.scope x) (he:PE X e te) (hs:swapsWith e (some (.Name x pos')) pos.line X.env=pure false:=by rfl) (hf:X.fn x=true∨X.env.scope.names.lookup x=some .local:=by assumption) :
  PS X (.Assign [.Name x pos'] e pos) (tAsg te (gName i)):=by
 intro pins s σ H D I h
 refine wpAny_Assign_Name (thn (he pins s σ H _ I h) fun v s1 ⟨y,H1,I1,r1,q1⟩=>?_) hs
 exact zpw I1 hN hi hx r1 (fun s2 I2=>⟨_,H1,I2,q1⟩) hf
end
section
variable {X:Cx} {pos:Pos}
end
set_option genInjectivity false in
structure It where
 go:Nat→Hp→Prop
 yld:Nat→Hp→V→Hp→Prop
 stop:Nat→Hp→Prop
def FpOk (X:Cx) (pins:List (Addr×Obj)) (H:Hp) (b:Addr):Prop :=
 H b=none∧b≠X.env.locals∧b∉X.fs∧(b∈X.ex∨X.s₀.heap.objs.size≤b)∧(∀ x c,X.env.cells.lookup x=some c→c≠b)∧∀ p∈X.pn++pins,p.1≠b
theorem Inv.fpOk {X:Cx} {pins:List (Addr×Obj)} {σ:St} {H H':Hp} {s:Shared} {b:Addr} (I:Inv X pins σ H s) (hb:s.heap.objs.size≤b) (hn:H' b=none):FpOk X pins H' b:=by
 refine ⟨hn,qBQ (qo I.lt hb),I.nofs hb,.inr (qAG I.sz hb),fun x c e z=>?_,fun p hp z=>?_⟩
 ·obtain ⟨v,q⟩:=I.cell x c e
  exact absurd (qo q.lt (by rw [z];exact hb)) (qBB _)
 ·exact absurd (qo (qK (I.pin p hp).1) (by rw [z];exact hb)) (qBB _)
set_option genInjectivity false in
structure Turn (P:Program) (w:World) (K:qB) (tg:Expr) (J:It) (fp:List Addr) (it:Addr) (tn:Nat→Heap→Prop):Prop where
 mem:it∈fp
 obj:∀ i h,tn i h→∀ b∈fp,∃ o,h.get? b=some o∧∀ v,o.data≠.cell v
 keep:∀ i h h',tn i h→(∀ b∈fp,∀ o,h.get? b=some o→h'.get? b=some o)→tn i h'
 item:∀ (X:Cx),X.prog=P→X.w=w→X.K=K→X.calm=true→∀ (i:Nat) (pins:List (Addr×Obj)) (s:Shared) (σ:St) (H:Hp) (E:Value→Shared→Prop),Inv X pins σ H s→(∀ b∈fp,FpOk X pins H b)→tn i s.heap→J.go i H →
  wpAny (model P w) X.A (pyNext (.ref it)) (fun r s1=>∃ u,r=some u ∧
   wpAny (model P w) X.A (letOwnedTupleGo tg (.ref it) u) (fun _ s2=>∃ x H',Inv X pins σ H' s2∧RelV x u∧J.yld i H x H'∧tn (i+1) s2.heap∧∀ b∈fp,H' b=none) E s1) E s
 done:∀ (X:Cx),X.prog=P→X.w=w→X.K=K→X.calm=true→∀ (i:Nat) (pins:List (Addr×Obj)) (s:Shared) (σ:St) (H:Hp) (E:Value→Shared→Prop),Inv X pins σ H s→(∀ b∈fp,FpOk X pins H b)→tn i s.heap→J.stop i H →
  wpAny (model P w) X.A (pyNext (.ref it)) (fun r s1=>r=none∧Inv X pins σ H s1) E s
 self:∀ (A:Around) (i:Nat) (s:Shared) (Q:Value→Shared→Prop) (E:Value→Shared→Prop),tn i s.heap→Q (.ref it) s→wpAny (model P w) A (pyIter (.ref it)) Q E s
abbrev TI:=St→Hp→(It→Hp→Prop)→Prop
def PIE (X:Cx) (pins:List (Addr×Obj)) (σ:St) (tg:Expr) (R:It→Hp→Prop) (itv:Value) (s2:Shared):Prop :=
 ∃ (it:Addr) (fp:List Addr) (tn:Nat→Heap→Prop) (J:It) (H':Hp),itv=.ref it∧Inv X pins σ H' s2∧Turn X.prog X.w X.K tg J fp it tn∧tn 0 s2.heap∧(∀ b∈fp,FpOk X pins H' b)∧R J H'
def PI (X:Cx) (tg iter:Expr) (wi:TI):Prop :=
 ∀ (pins:List (Addr×Obj)) (s:Shared) (σ:St) (H:Hp) (R:It→Hp→Prop),Inv X pins σ H s→wi σ H R →
  wpAny (model X.prog X.w) X.A (eval iter X.env) (fun v s1=>wpAny (model X.prog X.w) X.A (pyIter v) (PIE X pins σ tg R) X.xe s1) X.xe s
theorem zany {M:Model} {A:Around} {E:Value→Shared→Prop} {s:Shared} {tg:Expr} {it:Addr} {u:Value} {o:Obj} {n:String} {vs:Array Value} {Q:Unit→Shared→Prop} (ho:s.heap.get? it=some o) (hc:o.cls=.type n) (hd:o.data=.fields vs)
  (hn:["enumerate", "zip", "dict_itemiterator", "dict_reverseitemiterator", "odict_iterator", "itertools.zip_longest", "itertools.pairwise"].contains n=false) (hQ:Q () s):wpAny M A (letOwnedTupleGo tg (.ref it) u) Q E s:=by
 unfold letOwnedTupleGo
 cases tg<;>first
  | exact qI hQ
  | (cases u<;>first
    | exact qI hQ
    | (refine qC (wpAny_load ho ?_)
       rw [hc,hd]
       show wpAny M A (if (["enumerate", "zip", "dict_itemiterator", "dict_reverseitemiterator", "odict_iterator", "itertools.zip_longest", "itertools.pairwise"].contains n&&vs[0]?==some (rawInt _))=true then _ else _) Q E s
       rw [if_neg (by intro h;rw [hn,Bool.false_and] at h;cases h)]
       exact qI hQ))
def Itl (K:qB) (a:Addr):It :=
 ⟨fun i H=>∃ xs x,SqL K H a xs∧xs[i]?=some x,fun i H x H'=>H'=H∧∀ xs,SqL K H a xs→xs[i]?=some x,fun i H=>∃ xs,SqL K H a xs∧xs.length≤i⟩
def Itt (K:qB) (a:Addr):It :=
 ⟨fun i H=>∃ xs x,SqT K H a xs∧xs[i]?=some x,fun i H x H'=>H'=H∧∀ xs,SqT K H a xs→xs[i]?=some x,fun i H=>∃ xs,SqT K H a xs∧xs.length≤i⟩
def Itr (lo:Int) (n:Nat):It:=⟨fun i _=>i<n,fun i H x H'=>H'=H∧x=.int (lo+i),fun i _=>n≤i⟩
theorem zwc {P:Program} {w:World} {K:qB} {tg:Expr} (a it:Addr):Turn P w K tg (Itl K a) [it] it (fun i h=>h.IsListIter it a i) where
 mem:=by simp
 obj:=fun i h st b hb=>by
  have e:b=it:=by simpa using hb
  subst e
  obtain ⟨o,e,c,d⟩:=st
  exact ⟨o,e,fun v z=>by rw [d] at z;cases z⟩
 keep:=fun i h h' st k=>st.at fun o e=>k it (by simp) o e
 item:=by
  intro X hP hw hK hc i pins s σ H E I hf st hg
  subst hP hw hK
  obtain ⟨xs,x,hq,hx⟩:=hg
  obtain ⟨its,rv,p,hz⟩:=I.list hq
  obtain ⟨u,hu,ru⟩:=rv.get hx
  obtain ⟨f0,f1,f2,f3,f4,f5⟩:=hf it (by simp)
  refine wpAny_pyNext_list_item st p.isList (x:=u) (by simpa using hu) fun h' st' sb=>?_
  have I1:Inv X pins σ H {s with heap:=h'}:=I.turned (t':=s.toks) (fun b o hb e=>(sb.2 b hb).trans e) f0 f1 f3 f4 f5
  obtain ⟨o,e,c,d⟩:=id st'
  exact ⟨u,rfl,zany (s:={s with heap:=h'}) e c d (by decide) ⟨x,H,I1,ru,⟨rfl,fun ys hy=>by rw [I.list_inj hy hq];exact hx⟩,st',fun b hb=>(hf b hb).1⟩⟩
 done:=by
  intro X hP hw hK hc i pins s σ H E I hf st hg
  subst hP hw hK
  obtain ⟨xs,hq,hx⟩:=hg
  obtain ⟨its,rv,p,hz⟩:=I.list hq
  obtain ⟨f0,f1,f2,f3,f4,f5⟩:=hf it (by simp)
  have hl:=rv.length
  exact wpAny_pyNext_list_end (I.ok.hd hc) st p.isList (by simp;omega) fun h' eb=>⟨rfl,I.turned (t':=s.toks) (fun b o hb e=>eb b o hb e) f0 f1 f3 f4 f5⟩
 self:=fun _ _ _ _ _ st h=>wpAny_pyIter_listiter st h
theorem zadj {P:Program} {w:World} {K:qB} {tg:Expr} (a it:Addr):Turn P w K tg (Itt K a) [it] it (fun i h=>h.IsTupleIter it a i) where
 mem:=by simp
 obj:=fun i h st b hb=>by
  have e:b=it:=by simpa using hb
  subst e
  obtain ⟨o,e,c,d⟩:=st
  exact ⟨o,e,fun v z=>by rw [d] at z;cases z⟩
 keep:=fun i h h' st k=>st.at fun o e=>k it (by simp) o e
 item:=by
  intro X hP hw hK hc i pins s σ H E I hf st hg
  subst hP hw hK
  obtain ⟨xs,x,hq,hx⟩:=hg
  obtain ⟨its,rv,p,hz⟩:=I.tuple hq
  obtain ⟨u,hu,ru⟩:=rv.get hx
  obtain ⟨f0,f1,f2,f3,f4,f5⟩:=hf it (by simp)
  refine wpAny_pyNext_tuple_item st (show s.heap.IsTuple a its.toArray from p) (x:=u) (by simpa using hu) fun h' st' sb=>?_
  have I1:Inv X pins σ H {s with heap:=h'}:=I.turned (t':=s.toks) (fun b o hb e=>(sb.2 b hb).trans e) f0 f1 f3 f4 f5
  obtain ⟨o,e,c,d⟩:=id st'
  exact ⟨u,rfl,zany (s:={s with heap:=h'}) e c d (by decide) ⟨x,H,I1,ru,⟨rfl,fun ys hy=>by rw [I.tuple_inj hy hq];exact hx⟩,st',fun b hb=>(hf b hb).1⟩⟩
 done:=by
  intro X hP hw hK hc i pins s σ H E I hf st hg
  subst hP hw hK
  obtain ⟨xs,hq,hx⟩:=hg
  obtain ⟨its,rv,p,hz⟩:=I.tuple hq
  obtain ⟨f0,f1,f2,f3,f4,f5⟩:=hf it (by simp)
  have hl:=rv.length
  exact wpAny_pyNext_tuple_end (I.ok.hd hc) st (show s.heap.IsTuple a its.toArray from p) (by simp;omega) fun h' eb=>⟨rfl,I.turned (t':=s.toks) (fun b o hb e=>eb b o hb e) f0 f1 f3 f4 f5⟩
 self:=fun _ _ _ _ _ st h=>wpAny_pyIter_tupleiter st h
theorem zadk {P:Program} {w:World} {K:qB} {tg:Expr} (it:Addr) (lo:Int) (n:Nat):Turn P w K tg (Itr lo n) [it] it (fun i h=>IsRangeIter h it (lo+(i:Nat) * 1) ((n:Int) - (i:Nat)) 1) where
 mem:=by simp
 obj:=fun i h st b hb=>by
  have e:b=it:=by simpa using hb
  subst e
  exact ⟨_,st,fun v z=>by
   have z':Data.fields _=Data.cell v:=z
   cases z'⟩
 keep:=fun i h h' st k=>k it (by simp) _ st
 item:=by
  intro X hP hw hK hc i pins s σ H E I hf st hg
  subst hP hw hK
  obtain ⟨f0,f1,f2,f3,f4,f5⟩:=hf it (by simp)
  have W:=Walks.range (prog:=X.prog) (w:=X.w) (I.ok.hd hc) it lo 1 n
  refine W.item i s _ _ hg st fun v h' tk hv st' kk=>?_
  obtain ⟨t,rfl⟩:=hv
  have I1:Inv X pins σ H {s with heap:=h',toks:=tk}:=I.turned (fun b o hb e=>kk b o (by simpa using hb) e) f0 f1 f3 f4 f5
  refine ⟨_,rfl,zany (s:={s with heap:=h',toks:=tk}) (n:="range_iterator") st' rfl rfl (by decide) ⟨.int (lo+i),H,I1,⟨t,?_⟩,⟨rfl,rfl⟩,st',fun b hb=>(hf b hb).1⟩⟩
  rw [Int.mul_one]
 done:=by
  intro X hP hw hK hc i pins s σ H E I hf st hg
  subst hP hw hK
  obtain ⟨f0,f1,f2,f3,f4,f5⟩:=hf it (by simp)
  exact wpAny_pyNext_range_end (I.ok.hd hc) st (by have:n≤i:=hg;omega) fun h' eb=>⟨rfl,I.turned (t':=s.toks) (fun b o hb e=>eb b o hb e) f0 f1 f3 f4 f5⟩
 self:=fun _ _ _ _ _ st h=>wpAny_pyIter_rangeiter st h
section
variable {X:Cx} {tg:Expr}
def zarg (K:qB) (tl:TE):TI:=fun σ H R=>tl σ H fun x H1=>∃ a,x=.ref a∧(∃ xs,SqL K H1 a xs)∧R (Itl K a) H1
theorem zanz {l:Expr} {tl:TE} (hl:PE X l tl):PI X tg l (zarg X.K tl):=by
 intro pins s σ H R I h
 refine thn (hl pins s σ H _ I h) fun v s1 ⟨x,H1,I1,r1,q1⟩=>?_
 obtain ⟨a,e,⟨xs,hq⟩,q⟩:=q1
 subst e
 cases r1
 obtain ⟨its,rv,p,hz⟩:=I1.list hq
 refine qAt p.isList ?_
 refine ⟨s1.heap.objs.size,[s1.heap.objs.size],_,_,H1,rfl,I1.kept (t':=s1.toks) fun b o e=>qE _ e,zwc a _,⟨_,qb _ rfl,rfl,rfl⟩,fun b hb=>?_,q⟩
 have e:b=s1.heap.objs.size:=by simpa using hb
 subst e
 exact I1.fpOk (qJ _) (I1.hok.fresh (qJ _))
theorem zajm {pins:List (Addr×Obj)} {σ:St} {H:Hp} {s:Shared} {R:It→Hp→Prop} {E:Value→Shared→Prop} {lo hi:Int} {t u v:Tok} {tk:Nat} (I:Inv X pins σ H s) (h1:-(2 ^ 62)≤lo) (h2:lo<2 ^ 62) (h3:-(2 ^ 62)≤hi) (h4:hi<2 ^ 62)
  (q:R (Itr lo (hi - lo).toNat) H):wpAny (model X.prog X.w) X.A (pyIter (.ref s.heap.objs.size)) (PIE X pins σ tg R) E {s with heap:=s.heap.push {cls:=.type "range",data:=.fields #[.int lo t,.int hi u,.int 1 v]},toks:=tk}:=by
 refine wpAny_pyIter_range (IsRange.new ..) (small_one h1 h2 h3 h4) ?_
 have I1:Inv X pins σ H {s with heap:=s.heap.push {cls:=.type "range",data:=.fields #[.int lo t,.int hi u,.int 1 v]},toks:=tk}:=I.kept fun b o e=>qE _ e
 refine ⟨(s.heap.push {cls:=.type "range",data:=.fields #[.int lo t,.int hi u,.int 1 v]}).objs.size,[(s.heap.push {cls:=.type "range",data:=.fields #[.int lo t,.int hi u,.int 1 v]}).objs.size],_,_,H,rfl,
  I1.kept (t':=tk) fun b o e=>qE _ e,zadk _ lo (hi - lo).toNat,?_,fun b hb=>?_,q⟩
 ·have e1:lo+((0:Nat):Int) * 1=lo:=by simp
  have e2:(((hi - lo).toNat:Nat):Int) - ((0:Nat):Int)=Builtin.Range.rangeSize lo hi 1:=by rw [rangeSize_one];split<;>omega
  show IsRangeIter _ _ (lo+((0:Nat):Int) * 1) ((((hi - lo).toNat:Nat):Int) - ((0:Nat):Int)) 1
  rw [e1,e2]
  exact qb _ rfl
 ·have e:b=(s.heap.push {cls:=.type "range",data:=.fields #[.int lo t,.int hi u,.int 1 v]}).objs.size:=by simpa using hb
  subst e
  exact I1.fpOk (qJ _) (I1.hok.fresh (qJ _))
def iRng1 (ta:TA):TI:=fun σ H R=>ta σ H fun vs H1=>∃ j:Int,vs=[.int j]∧-(2 ^ 62)≤j∧j<2 ^ 62∧R (Itr 0 j.toNat) H1
theorem zwd {a:Expr} {ta:TA} {p pos:Pos} (hg:Gl X "range") (hm:X.mg "range" = none) (ha:PA X [a] ta) (hs:starEach [a] X.env=[(false,eval a X.env)]:=by rfl):PI X tg (.Call (.Name "range" p) [a] [] pos) (iRng1 ta):=by
 intro pins s σ H R I h
 refine Call_ (zqe I hg hm boot_range (qBX (thn (ha pos pins s σ H _ I h) fun us s1 ⟨vs,H1,I1,r1,q1⟩=>?_) hs rfl))
 obtain ⟨j,e,q1,q2,q⟩:=q1
 subst e
 cases r1 with
 | cons r rr =>
  cases rr
  obtain ⟨t,rfl⟩:=r
  exact call_range_1 (zajm I1 (by omega) (by omega) q1 q2 (by simpa using q))
noncomputable def tFor (wi:TI) (g:TG) (tb:TS):TS:=fun D σ H=>wi σ H fun J H1=>∃ W:Nat→Nat→St→Hp→Prop,(∃ m,W 0 m σ H1)∧∀ i m σ H,W i m σ H →
 (J.stop i H∧D.nx σ H)∨(J.go i H∧∃ N:St→Hp→Prop,(∀ σ' H',N σ' H'→∃ m',m'<m∧W (i+1) m' σ' H')∧∀ x H',J.yld i H x H'→g x σ H' fun σ2 H2=>tb {D with nx:=N,ct:=N,bk:=D.nx} σ2 H2)
def zwe (fp:List Addr) (h:Heap):List (Addr×Obj):=fp.filterMap fun b=>(h.get? b).map fun o=>(b,o)
theorem zlp {fp:List Addr} {h:Heap} {b:Addr} {o:Obj} (hb:b∈fp) (e:h.get? b=some o):(b,o)∈zwe fp h:=qBs.mpr ⟨b,hb,by rw [e];rfl⟩
theorem zaew {fp:List Addr} {h:Heap} {p:Addr×Obj} (hp:p∈zwe fp h):p.1∈fp∧h.get? p.1=some p.2:=by
 obtain ⟨b,hb,e⟩:=qBs.mp hp
 cases q:h.get? b with
 | none=>rw [q] at e;cases e
 | some o =>
  rw [q] at e
  have e':(b,o)=p:=qh e
  subst e'
  exact ⟨hb,q⟩
theorem Inv.pinned {pins:List (Addr×Obj)} {σ:St} {H:Hp} {s:Shared} {fp:List Addr} (I:Inv X pins σ H s) (hf:∀ b∈fp,FpOk X pins H b) (ho:∀ b∈fp,∃ o,s.heap.get? b=some o∧∀ v,o.data≠.cell v):Inv X (pins++zwe fp s.heap) σ H s :=
 I.pins_of fun p hp=>(qp.mp hp).elim (fun z=>I.pin p (qd _ z)) fun z=>by
  obtain ⟨hb,e⟩:=zaew z
  obtain ⟨f0,f1,f2,_⟩:=hf p.1 hb
  obtain ⟨o,e',d⟩:=ho p.1 hb
  rw [e] at e';cases e'
  exact ⟨e,f0,f1,f2,d⟩
theorem Inv.unpinned {pins pl:List (Addr×Obj)} {σ:St} {H:Hp} {s:Shared} (I:Inv X (pins++pl) σ H s):Inv X pins σ H s:=I.pins_of fun p hp=>I.pin p (qd _ (qAA _ hp))
theorem zaex {iter:Expr} {body:List Stmt} {wi:TI} {g:TG} {tb:TS} {pos:Pos} (hp:PassesOwn (model X.prog X.w) X.A X.env X.xe) (hc:X.calm=true) (hi:PI X tg iter wi) (hg:PG X tg g) (hb:PSs X body tb)
  (hs:∀ x,foldedSetIterable iter X.env x=pure x:=by intro _;rfl):PS X (.For tg iter body [] pos) (tFor wi g tb):=by
 intro pins s σ H D I h
 refine wpAny_For (thn (hi pins s σ H _ I h) fun v s1 h1=>thn h1 fun itv s2 h2=>?_) hs
 obtain ⟨it,fp,tn,J,H2,e,I2,T,st2,f2,W,⟨m0,w0⟩,turn⟩:=h2
 subst e
 have stat:∀ {H':Hp},(∀ b∈fp,H' b=none)→∀ b∈fp,FpOk X pins H' b:=fun hn b hb=>⟨hn b hb,(f2 b hb).2⟩
 refine codeAny_forLoop_any (fun n s'=>∃ i σ' H',Inv X pins σ' H' s'∧tn i s'.heap∧(∀ b∈fp,H' b=none)∧W i n σ' H') ?_ m0 ⟨0,σ,H2,I2,st2,fun b hb=>(f2 b hb).1,w0⟩
 rintro n s3 ⟨i,σ3,H3,I3,st3,fr3,w3⟩
 rcases turn i n σ3 H3 w3 with ⟨stop,qn⟩|⟨go,N,hN,step⟩
 ·refine qBv hp (thn (T.done X rfl rfl rfl hc i pins s3 σ3 H3 X.xe I3 (stat fr3) st3 stop) fun r s4 ⟨hr,I4⟩=>?_)
  subst hr
  exact qBw ⟨σ3,H3,I4,qn⟩
 ·refine qBv hp (thn (T.item X rfl rfl rfl hc i pins s3 σ3 H3 X.xe I3 (stat fr3) st3 go) fun r s4 ⟨u,hr,h4⟩=>?_)
  subst hr
  refine qBv hp (thn h4 fun _ s5 ⟨x,H5,I5,r5,y5,st5,fr5⟩=>?_)
  have I5':=I5.pinned (stat fr5) (T.obj _ _ st5)
  refine qBv hp (thn (hg _ s5 σ3 H5 x u _ I5' r5 (step x H5 y5)) fun _ s6 ⟨σ6,H6,I6,q6⟩=>?_)
  refine qBv hp (thn (hb _ s6 σ6 H6 _ I6 q6) fun f s7 q7=>?_)
  have again:∀ {σ7:St} {H7:Hp},Inv X (pins++zwe fp s5.heap) σ7 H7 s7→N σ7 H7→∃ m,m<n∧∃ i σ' H',Inv X pins σ' H' s7∧tn i s7.heap∧(∀ b∈fp,H' b=none)∧W i m σ' H':=fun {σ7 H7} I7 n7=>by
   obtain ⟨m',hm,w7⟩:=hN σ7 H7 n7
   refine ⟨m',hm,i+1,σ7,H7,I7.unpinned,T.keep _ _ _ st5 fun b hb o e=>(I7.pin (b,o) (qd _ (qd _ (zlp hb e)))).1,fun b hb=>?_,w7⟩
   obtain ⟨o,e,d⟩:=T.obj _ _ st5 b hb
   exact (I7.pin (b,o) (qd _ (qd _ (zlp hb e)))).2.1
  cases f with
  | next=>obtain ⟨σ7,H7,I7,n7⟩:=q7;exact again I7 n7
  | cont=>obtain ⟨σ7,H7,I7,n7⟩:=q7;exact again I7 n7
  | brk=>obtain ⟨σ7,H7,I7,q7⟩:=q7;exact ⟨σ7,H7,I7.unpinned,q7⟩
  | ret v=>obtain ⟨x7,σ7,H7,I7,r7,q7⟩:=q7;exact ⟨x7,σ7,H7,I7.unpinned,r7,q7⟩
end
theorem for_list {K:qB} {a:Addr} {xs:List V} {g:TG} {tb:TS} {D:Ends} {σ:St} {H:Hp} (Pv:Nat→St→Hp→Prop) (h0:Pv 0 σ H) (hl:∀ i σ H,i≤xs.length→Pv i σ H→SqL K H a xs)
  (hs:∀ i x σ H,xs[i]?=some x→Pv i σ H→g x σ H fun σ2 H2=>tb {D with nx:=Pv (i+1),ct:=Pv (i+1),bk:=D.nx} σ2 H2) (hd:∀ σ H,Pv xs.length σ H→D.nx σ H) :
  ∃ W:Nat→Nat→St→Hp→Prop,(∃ m,W 0 m σ H)∧∀ i m σ H,W i m σ H →
   ((Itl K a).stop i H∧D.nx σ H)∨((Itl K a).go i H∧∃ N:St→Hp→Prop,(∀ σ' H',N σ' H'→∃ m',m'<m∧W (i+1) m' σ' H')∧∀ x H',(Itl K a).yld i H x H'→g x σ H' fun σ2 H2=>tb {D with nx:=N,ct:=N,bk:=D.nx} σ2 H2):=by
 refine ⟨fun i m σ H=>m=xs.length - i∧i≤xs.length∧Pv i σ H,⟨xs.length,by simp,qAg _,h0⟩,?_⟩
 rintro i m σ H ⟨rfl,hi,p⟩
 have q:=hl i σ H hi p
 by_cases hlt:i<xs.length
 ·refine .inr ⟨⟨xs,xs[i],q,by simp [hlt]⟩,Pv (i+1),fun σ' H' p'=>⟨xs.length - (i+1),by omega,rfl,hlt,p'⟩,fun x H' y=>?_⟩
  obtain ⟨e,y⟩:=y
  subst e
  exact hs i x σ _ (y xs q) p
 ·have e:i=xs.length:=by omega
  subst e
  exact .inl ⟨⟨xs,q,qJ _⟩,hd σ H p⟩
theorem for_range {lo:Int} {n:Nat} {g:TG} {tb:TS} {D:Ends} {σ:St} {H:Hp} (Pv:Nat→St→Hp→Prop) (h0:Pv 0 σ H)
  (hs:∀ i σ H,i<n→Pv i σ H→g (.int (lo+i)) σ H fun σ2 H2=>tb {D with nx:=Pv (i+1),ct:=Pv (i+1),bk:=D.nx} σ2 H2) (hd:∀ σ H,Pv n σ H→D.nx σ H) :
  ∃ W:Nat→Nat→St→Hp→Prop,(∃ m,W 0 m σ H)∧∀ i m σ H,W i m σ H →
   ((Itr lo n).stop i H∧D.nx σ H)∨((Itr lo n).go i H∧∃ N:St→Hp→Prop,(∀ σ' H',N σ' H'→∃ m',m'<m∧W (i+1) m' σ' H')∧∀ x H',(Itr lo n).yld i H x H'→g x σ H' fun σ2 H2=>tb {D with nx:=N,ct:=N,bk:=D.nx} σ2 H2):=by
 refine ⟨fun i m σ H=>m=n - i∧i≤n∧Pv i σ H,⟨n,by simp,qAg _,h0⟩,?_⟩
 rintro i m σ H ⟨rfl,hi,p⟩
 by_cases hlt:i<n
 ·refine .inr ⟨hlt,Pv (i+1),fun σ' H' p'=>⟨n - (i+1),by omega,rfl,hlt,p'⟩,fun x H' y=>?_⟩
  obtain ⟨e,y⟩:=y
  subst e y
  exact hs i σ _ hlt p
 ·have e:i=n:=by omega
  subst e
  exact .inl ⟨qJ _,hd σ H p⟩
abbrev R2:=V→V→Hp→VK→Prop
def OpR (X:Cx) (f:Value→Value→Sem Value) (r:R2):Prop :=
 ∀ (pins:List (Addr×Obj)) (s:Shared) (σ:St) (H:Hp) (x y:V) (v u:Value) (Q:VK),Inv X pins σ H s→RelV x v→RelV y u→r x y H Q →
  wpAny (model X.prog X.w) X.A (f v u) (EP X pins σ Q) X.xe s
def UnR (X:Cx) (f:Value→Sem Value) (r:V→Hp→VK→Prop):Prop :=
 ∀ (pins:List (Addr×Obj)) (s:Shared) (σ:St) (H:Hp) (x:V) (v:Value) (Q:VK),Inv X pins σ H s→RelV x v→r x H Q →
  wpAny (model X.prog X.w) X.A (f v) (EP X pins σ Q) X.xe s
def CallR (X:Cx) (f:Value) (r:List V→Hp→VK→Prop):Prop :=
 ∀ (pins:List (Addr×Obj)) (s:Shared) (σ:St) (H:Hp) (xs:List V) (us:List Value) (Q:VK),Inv X pins σ H s→Vals xs us→r xs H Q →
  wpAny (model X.prog X.w) X.A (call f us) (EP X pins σ Q) X.xe s
def TruR (X:Cx) (r:V→Hp→(Bool→Hp→Prop)→Prop):Prop :=
 ∀ (pins:List (Addr×Obj)) (s:Shared) (σ:St) (H:Hp) (x:V) (v:Value) (Q:Bool→Hp→Prop),Inv X pins σ H s→RelV x v→r x H Q →
  wpAny (model X.prog X.w) X.A (truthy v) (TP X pins σ Q) X.xe s
def tOp (r:R2) (ta tb:TE):TE:=fun σ H Q=>ta σ H fun x H1=>tb σ H1 fun y H2=>r x y H2 Q
def tUn (r:V→Hp→VK→Prop) (ta:TE):TE:=fun σ H Q=>ta σ H fun x H1=>r x H1 Q
def rI (C:Int→Int→Prop) (g:Int→Int→V):R2:=fun x y H Q=>∃ i j,x=.int i∧y=.int j∧C i j∧Q (g i j) H
def rI0 (g:Int→Int→V):R2:=fun x y H Q=>∃ i j,x=.int i∧y=.int j∧Q (g i j) H
def rU (g:Int→V):V→Hp→VK→Prop:=fun x H Q=>∃ i,x=.int i∧Q (g i) H
section
variable {X:Cx} {a b c:Expr} {ta tb tc:TE} {pos:Pos}
theorem binT (ha:PE X a ta) (hb:PE X b tb) {pins:List (Addr×Obj)} {s:Shared} {σ:St} {H:Hp} {R:V→V→Hp→Prop} (I:Inv X pins σ H s)
  (h:ta σ H fun x H1=>tb σ H1 fun y H2=>R x y H2) {Q:Value→Shared→Prop} {f:Value→Value→Sem Value}
  (hf:∀ v u s2 x y H2,Inv X pins σ H2 s2→RelV x v→RelV y u→R x y H2→wpAny (model X.prog X.w) X.A (f v u) Q X.xe s2) :
  wpAny (model X.prog X.w) X.A (eval a X.env) (fun v s₁=>wpAny (model X.prog X.w) X.A (eval b X.env) (fun u s₂=>wpAny (model X.prog X.w) X.A (f v u) Q X.xe s₂) X.xe s₁) X.xe s:=by
 refine thn (ha pins s σ H _ I h) fun v s1 ⟨x,H1,I1,r1,q1⟩=>?_
 refine thn (hb pins s1 σ H1 _ I1 q1) fun u s2 ⟨y,H2,I2,r2,q2⟩=>?_
 exact hf v u s2 x y H2 I2 r1 r2 q2
theorem zmc {op:Operator} {r:R2} (ho:OpR X (binaryOp op) r) (ha:PE X a ta) (hb:PE X b tb):PE X (.BinOp a op b pos) (tOp r ta tb):=by
 intro pins s σ H Q I h
 exact wpAny_BinOp (binT ha hb I h fun v u s2 x y H2 I2 rx ry q=>ho pins s2 σ H2 x y v u Q I2 rx ry q)
theorem zaub {op:UnaryOp} {r:V→Hp→VK→Prop} (ho:UnR X (unaryOp op) r) (ha:PE X a ta):PE X (.UnaryOp op a pos) (tUn r ta):=by
 intro pins s σ H Q I h
 exact UnaryOp_ (thn (ha pins s σ H _ I h) fun v s1 ⟨x,H1,I1,r1,q1⟩=>ho pins s1 σ H1 x v Q I1 r1 q1)
theorem opI {f:Value→Value→Sem Value} {C:Int→Int→Prop} {g:Int→Int→Int}
  (rule:∀ (i j:Int) (t u:Tok) (s:Shared) (Q:Value→Shared→Prop) (E:Value→Shared→Prop),C i j→Q (.int (g i j) s.toks) {s with toks:=s.toks+1}→wpAny (model X.prog X.w) X.A (f (.int i t) (.int j u)) Q E s) :
  OpR X f (rI C fun i j=>.int (g i j)):=by
 intro pins s σ H x y v u Q I rx ry h
 obtain ⟨i,j,rfl,rfl,hc,q⟩:=h
 obtain ⟨t,rfl⟩:=rx
 obtain ⟨t',rfl⟩:=ry
 exact rule i j t t' s _ _ hc ⟨.int (g i j),H,I.tok _,⟨_,rfl⟩,q⟩
theorem opI0 {f:Value→Value→Sem Value} {g:Int→Int→Int}
  (rule:∀ (i j:Int) (t u:Tok) (s:Shared) (Q:Value→Shared→Prop) (E:Value→Shared→Prop),Q (.int (g i j) s.toks) {s with toks:=s.toks+1}→wpAny (model X.prog X.w) X.A (f (.int i t) (.int j u)) Q E s) :
  OpR X f (rI0 fun i j=>.int (g i j)):=by
 intro pins s σ H x y v u Q I rx ry h
 obtain ⟨i,j,rfl,rfl,q⟩:=h
 obtain ⟨t,rfl⟩:=rx
 obtain ⟨t',rfl⟩:=ry
 exact rule i j t t' s _ _ ⟨.int (g i j),H,I.tok _,⟨_,rfl⟩,q⟩
theorem opB0 {f:Value→Value→Sem Value} {g:Int→Int→Bool}
  (rule:∀ (i j:Int) (t u:Tok) (s:Shared) (Q:Value→Shared→Prop) (E:Value→Shared→Prop),Q (.bool (g i j)) s→wpAny (model X.prog X.w) X.A (f (.int i t) (.int j u)) Q E s) :
  OpR X f (rI0 fun i j=>.bl (g i j)):=by
 intro pins s σ H x y v u Q I rx ry h
 obtain ⟨i,j,rfl,rfl,q⟩:=h
 obtain ⟨t,rfl⟩:=rx
 obtain ⟨t',rfl⟩:=ry
 exact rule i j t t' s _ _ ⟨.bl (g i j),H,I,rfl,q⟩
def CDiv (i j:Int):Prop:=0<j∧j<1073741824
def CPow (i j:Int):Prop:=0≤j∧j≤1000000∧i.natAbs<2 ^ 64
def CMul (i j:Int):Prop:=(-(2 ^ 64)<i∧i<2 ^ 64)∨(-(2 ^ 64)<j∧j<2 ^ 64)
theorem CMul.ok {i j:Int} (h:CMul i j):IntMulOk i j:=by
 rcases h with ⟨h1,h2⟩|⟨h1,h2⟩
 ·exact .of_left (intBits_le_64 h1 h2)
 ·exact .of_right (intBits_le_64 h1 h2)
theorem zarh:OpR X (binaryOp .Add) (rI0 fun i j=>.int (i+j)):=opI0 fun _ _ _ _ _ _ _ q=>add_int q
theorem zqf:OpR X (binaryOp .Sub) (rI0 fun i j=>.int (i - j)):=opI0 fun _ _ _ _ _ _ _ q=>sub_int q
theorem zari:OpR X (binaryOp .Mult) (rI CMul fun i j=>.int (i * j)):=opI fun _ _ _ _ _ _ _ hc q=>mul_int q hc.ok
theorem zfd:OpR X (binaryOp .FloorDiv) (rI CDiv fun i j=>.int (i / j)):=opI fun i j _ _ _ _ _ hc q=>by
 have h1:(0:Int)<j:=hc.1
 have h2:j<1073741824:=hc.2
 exact floordiv_int (by omega) (by rw [Int.fdiv_eq_ediv_of_nonneg i (by omega)];exact q) (.inl (PyProof.noPylong_small (by omega)))
theorem zcz:OpR X (binaryOp .Mod) (rI (fun _ j=>0<j) fun i j=>.int (i % j)):=opI fun i j _ _ _ _ _ hc q=>by
 have h1:(0:Int)<j:=hc
 exact mod_int' (by omega) (by rw [Int.fmod_eq_emod_of_nonneg i (by omega)];exact q)
theorem zamo:OpR X (binaryOp .Pow) (rI CPow fun i j=>.int (i ^ j.toNat)):=opI fun _ _ _ _ _ _ _ hc q=>pow_int_small hc.1 hc.2.1 hc.2.2 q
theorem unI {f:Value→Sem Value} {g:Int→Int}
  (rule:∀ (i:Int) (t:Tok) (s:Shared) (Q:Value→Shared→Prop) (E:Value→Shared→Prop),Q (.int (g i) s.toks) {s with toks:=s.toks+1}→wpAny (model X.prog X.w) X.A (f (.int i t)) Q E s) :
  UnR X f (rU fun i=>.int (g i)):=by
 intro pins s σ H x v Q I rx h
 obtain ⟨i,rfl,q⟩:=h
 obtain ⟨t,rfl⟩:=rx
 exact rule i t s _ _ ⟨.int (g i),H,I.tok _,⟨_,rfl⟩,q⟩
theorem zamp:UnR X (unaryOp .USub) (rU fun i=>.int (-i)):=unI fun _ _ _ _ _ q=>neg_int q
end
noncomputable def scal:V→V→Bool
 | .non,.non=>true|.non,.int _=>true|.int _,.non=>true|.non,.bl _=>true|.bl _,.non=>true|.non,.str _=>true|.str _,.non=>true
 | .int _,.int _=>true|.bl _,.bl _=>true|.str _,.str _=>true|.byt _,.byt _=>true
 | .int _,.str _=>true|.str _,.int _=>true|.bl _,.str _=>true|.str _,.bl _=>true
 | _,_=>false
def rEq:R2:=fun x y H Q=>scal x y=true∧Q (.bl (decide (x=y))) H
def rNe:R2:=fun x y H Q=>scal x y=true∧Q (.bl (!decide (x=y))) H
theorem zzr {i j:Int}:decide (V.int i=V.int j)=(i==j):=by
 rw [qAl]
 simp
theorem zaey {i j:Bool}:decide (V.bl i=V.bl j)=(i==j):=by
 rw [qAl]
 simp
theorem zzs {i j:Str}:decide (V.str i=V.str j)=(i==j):=by
 rw [qAl]
 simp
theorem zaez {i j:Array UInt8}:decide (V.byt i=V.byt j)=(i.toList==j.toList):=by
 rw [qAl]
 cases i
 cases j
 simp
section
variable {X:Cx} {a b c:Expr} {ta tb tc:TE} {pos:Pos}
theorem zdp {pins:List (Addr×Obj)} {σ:St} {H:Hp} {s:Shared} {Q:VK} {k k':Bool} (I:Inv X pins σ H s) (q:Q (.bl k) H) (e:k=k'):EP X pins σ Q (.bool k') s:=by
 subst e
 exact ⟨.bl k,H,I,rfl,q⟩
theorem zauc:OpR X (compareOp .Eq) rEq:=by
 intro pins s σ H x y v u Q I rx ry h
 obtain ⟨hs,q⟩:=h
 cases x with
 | non =>
  cases rx
  cases y with
  | non=>cases ry;exact PySem.EqNone.eq_none_none (zdp I q (by simp))
  | bl j=>cases ry;exact PySem.EqNone.eq_none_bool (zdp I q (by simp))
  | int j=>obtain ⟨t',rfl⟩:=ry;exact PySem.EqNone.eq_none_int (zdp I q (by simp))
  | str j=>obtain ⟨t',rfl⟩:=ry;exact PySem.EqNone.eq_none_str (zdp I q (by simp))
  | _=>exact absurd (show false=true from hs) qS
 | bl i =>
  cases rx
  cases y with
  | non=>cases ry;exact PySem.EqNone.eq_bool_none (zdp I q (by simp))
  | bl j=>cases ry;exact eq_bool (zdp I q zaey)
  | str j=>obtain ⟨t',rfl⟩:=ry;exact PySem.EqMixed.eq_bool_str (zdp I q (by simp))
  | _=>exact absurd (show false=true from hs) qS
 | int i =>
  obtain ⟨t,rfl⟩:=rx
  cases y with
  | non=>cases ry;exact PySem.EqNone.eq_int_none (zdp I q (by simp))
  | int j=>obtain ⟨t',rfl⟩:=ry;exact eq_int (zdp I q zzr)
  | str j=>obtain ⟨t',rfl⟩:=ry;exact PySem.EqMixed.eq_int_str (zdp I q (by simp))
  | _=>exact absurd (show false=true from hs) qS
 | str i =>
  obtain ⟨t,rfl⟩:=rx
  cases y with
  | non=>cases ry;exact PySem.EqNone.eq_str_none (zdp I q (by simp))
  | bl j=>cases ry;exact PySem.EqMixed.eq_str_bool (zdp I q (by simp))
  | int j=>obtain ⟨t',rfl⟩:=ry;exact PySem.EqMixed.eq_str_int (zdp I q (by simp))
  | str j=>obtain ⟨t',rfl⟩:=ry;exact eq_str (zdp I q zzs)
  | _=>exact absurd (show false=true from hs) qS
 | byt i =>
  obtain ⟨t,rfl⟩:=rx
  cases y with
  | byt j=>obtain ⟨t',rfl⟩:=ry;exact PySem.W.eq_bytes (zdp I q zaez)
  | _=>exact absurd (show false=true from hs) qS
 | _=>cases y<;>exact absurd (show false=true from hs) qS
theorem zaud:OpR X (compareOp .NotEq) rNe:=by
 intro pins s σ H x y v u Q I rx ry h
 obtain ⟨hs,q⟩:=h
 cases x with
 | non =>
  cases rx
  cases y with
  | non=>cases ry;exact PySem.EqNone.ne_none_none (zdp I q (by simp))
  | bl j=>cases ry;exact PySem.EqNone.ne_none_bool (zdp I q (by simp))
  | int j=>obtain ⟨t',rfl⟩:=ry;exact PySem.EqNone.ne_none_int (zdp I q (by simp))
  | str j=>obtain ⟨t',rfl⟩:=ry;exact PySem.EqNone.ne_none_str (zdp I q (by simp))
  | _=>exact absurd (show false=true from hs) qS
 | bl i =>
  cases rx
  cases y with
  | non=>cases ry;exact PySem.EqNone.ne_bool_none (zdp I q (by simp))
  | bl j=>cases ry;exact ne_bool (zdp I q (congrArg not zaey))
  | str j=>obtain ⟨t',rfl⟩:=ry;exact PySem.EqMixed.ne_bool_str (zdp I q (by simp))
  | _=>exact absurd (show false=true from hs) qS
 | int i =>
  obtain ⟨t,rfl⟩:=rx
  cases y with
  | non=>cases ry;exact PySem.EqNone.ne_int_none (zdp I q (by simp))
  | int j=>obtain ⟨t',rfl⟩:=ry;exact ne_int (zdp I q (congrArg not zzr))
  | str j=>obtain ⟨t',rfl⟩:=ry;exact PySem.EqMixed.ne_int_str (zdp I q (by simp))
  | _=>exact absurd (show false=true from hs) qS
 | str i =>
  obtain ⟨t,rfl⟩:=rx
  cases y with
  | non=>cases ry;exact PySem.EqNone.ne_str_none (zdp I q (by simp))
  | bl j=>cases ry;exact PySem.EqMixed.ne_str_bool (zdp I q (by simp))
  | int j=>obtain ⟨t',rfl⟩:=ry;exact PySem.EqMixed.ne_str_int (zdp I q (by simp))
  | str j=>obtain ⟨t',rfl⟩:=ry;exact ne_str (zdp I q (congrArg not zzs))
  | _=>exact absurd (show false=true from hs) qS
 | byt i =>
  obtain ⟨t,rfl⟩:=rx
  cases y with
  | byt j=>obtain ⟨t',rfl⟩:=ry;exact PySem.W.ne_bytes (zdp I q (congrArg not zaez))
  | _=>exact absurd (show false=true from hs) qS
 | _=>cases y<;>exact absurd (show false=true from hs) qS
theorem zaue:OpR X (compareOp .Lt) (rI0 fun i j=>.bl (decide (i<j))):=opB0 fun _ _ _ _ _ _ _ q=>lt_int q
theorem zarj:OpR X (compareOp .Gt) (rI0 fun i j=>.bl (decide (j<i))):=opB0 fun _ _ _ _ _ _ _ q=>gt_int q
theorem OpR.or {f:Value→Value→Sem Value} {r r':R2} (h:OpR X f r) (h':OpR X f r'):OpR X f (fun x y H Q=>r x y H Q∨r' x y H Q):=by
 intro pins s σ H x y v u Q I rx ry q
 rcases q with q|q
 ·exact h pins s σ H x y v u Q I rx ry q
 ·exact h' pins s σ H x y v u Q I rx ry q
theorem zfs (b:Expr) {op:CmpOp} (h:op≠.In:=by decide) (h2:op≠.NotIn:=by decide):behindInMarks op b=false:=by
 have e1:(op==CmpOp.In)=false:=by cases op<;>first|rfl|exact absurd rfl h
 have e2:(op==CmpOp.NotIn)=false:=by cases op<;>first|rfl|exact absurd rfl h2
 cases b<;>simp [behindInMarks,e1,e2]
theorem zaoa {op:CmpOp} {r:R2} (ho:OpR X (compareOp op) r) (ha:PE X a ta) (hb:PE X b tb) (hm:behindInMarks op b=false):PE X (.Compare a [op] [b] pos) (tOp r ta tb):=by
 intro pins s σ H Q I h
 exact wpAny_Compare1 (binT ha hb I h fun v u s2 x y H2 I2 rx ry q=>ho pins s2 σ H2 x y v u Q I2 rx ry q) hm
def tTest (t:TE):TT:=fun σ H Q=>t σ H fun x H'=>∃ k,x=.bl k∧Q k H'
theorem zafa {op:CmpOp} {r:R2} (ho:OpR X (compareOp op) r) (ha:PE X a ta) (hb:PE X b tb) (hm:behindInMarks op b=false):PT X (.Compare a [op] [b] pos) (tTest (tOp r ta tb)):=by
 intro pins s σ H Q I h
 refine wpAny_isTrue_Compare1 (thn (ha pins s σ H _ I h) fun v s1 ⟨x,H1,I1,r1,q1⟩=>thn (hb pins s1 σ H1 _ I1 q1) fun u s2 ⟨y,H2,I2,r2,q2⟩ =>
  thn (ho pins s2 σ H2 x y v u _ I2 r1 r2 q2) fun c s3 ⟨z,H3,I3,r3,k,e,q3⟩=>?_) hm
 subst e
 cases r3
 exact qBe ⟨H3,I3,q3⟩
noncomputable def TruV (K:qB) (x:V) (H:Hp) (k:Bool):Prop :=
 match x with
 | .non=>k=false
 | .bl b=>k=b
 | .int i=>k=(i != 0)
 | .str y=>y.length≤qU∧k=((y.length:Int) != 0)
 | .byt y=>y.size≤qU∧k=((y.size:Int) != 0)
 | .ref p=>(∃ xs,SqL K H p xs∧k=!xs.isEmpty)∨(∃ xs,SqT K H p xs∧k=!xs.isEmpty)∨∃ kvs,H p=some (.dK kvs)∧k=!kvs.isEmpty
 | _=>False
theorem zadl {κ:Type} {kvs:List (κ×V)} {vs:List (κ×Value)} (r:KV kvs vs):(!vs.isEmpty)=!kvs.isEmpty:=by
 cases r<;>rfl
theorem ztc {xs:List V} {its:List Value} (r:Vals xs its):(!its.toArray.isEmpty)=!xs.isEmpty:=by
 cases r<;>simp
theorem zwf:(qU:Nat)<2 ^ 63:=by rw [qBD];decide
theorem zark:TruR X (fun x H Q=>∃ k,TruV X.K x H k∧Q k H):=by
 intro pins s σ H x v Q I rx h
 obtain ⟨k,e,q⟩:=h
 have hl:=zwf
 have hs:qU=16777216:=qBD
 cases x with
 | non =>
  cases rx
  have e':k=false:=e
  subst e'
  exact truthy_none ⟨H,I,q⟩
 | bl b =>
  cases rx
  have e':k=b:=e
  subst e'
  exact qBe ⟨H,I,q⟩
 | int i =>
  obtain ⟨t,rfl⟩:=rx
  have e':k=(i != 0):=e
  subst e'
  exact PySem.P.truthy_int ⟨H,I,q⟩
 | str y =>
  obtain ⟨t,rfl⟩:=rx
  obtain ⟨hy,e'⟩:y.length≤qU∧k=((y.length:Int) != 0):=e
  subst e'
  exact PySem.P.truthy_str (by omega) ⟨H,I.tok _,q⟩
 | byt y =>
  obtain ⟨t,rfl⟩:=rx
  obtain ⟨hy,e'⟩:y.size≤qU∧k=((y.size:Int) != 0):=e
  subst e'
  exact PySem.W.truthy_bytes (by omega) ⟨H,I.tok _,q⟩
 | ref p =>
  cases rx
  have e':(∃ xs,SqL X.K H p xs∧k=!xs.isEmpty)∨(∃ xs,SqT X.K H p xs∧k=!xs.isEmpty)∨∃ kvs,H p=some (.dK kvs)∧k=!kvs.isEmpty:=e
  rcases e' with ⟨xs,hx,e'⟩|⟨xs,hx,e'⟩|⟨kvs,hx,e'⟩
  ·subst e'
   obtain ⟨its,r,pl,hz⟩:=I.list hx
   have hlen:=r.length
   exact wpAny_truthy_list pl.isList (by simp only [qR];omega) ⟨H,I.tok _,by rw [ztc r];exact q⟩
  ·subst e'
   obtain ⟨its,r,pl,hz⟩:=I.tuple hx
   have hlen:=r.length
   exact truthy_tuple pl (by simp only [qR];omega) ⟨H,I.tok _,by rw [ztc r];exact q⟩
  ·subst e'
   obtain ⟨hz,hS,vs,r,m⟩:kvs.length≤qU∧(p==sysModules)=false∧∃ vs,KV kvs vs∧s.heap.DictOf (zcx X.prog X.w) p vs:=I.hok p _ hx
   have hlen:kvs.length=vs.length:=qCG r
   exact wpAny_truthy_dict hS m (by omega) ⟨H,I.tok _,by rw [zadl r];exact q⟩
 | _=>exact (show False from e).elim
theorem zajn (ha:PE X a ta) (he:∀ whole,isTrue a X.env whole=(do let v ← whole;standAt a.pos;holding [v] (truthy v))) :
  PT X a (fun σ H Q=>ta σ H fun x H'=>∃ k,TruV X.K x H' k∧Q k H'):=by
 intro pins s σ H Q I h
 exact isTrue_plain (thn (ha pins s σ H _ I h) fun v s1 ⟨x,H1,I1,r1,q1⟩=>zark pins s1 σ H1 x v Q I1 r1 q1) (he _)
theorem zadm:OpR X (binaryOp .Add) (fun x y H Q=>∃ i j,x=.str i∧y=.str j∧i.length+j.length≤qU∧Q (.str (i++j)) H):=by
 intro pins s σ H x y v u Q I rx ry h
 obtain ⟨i,j,rfl,rfl,hz,q⟩:=h
 obtain ⟨t,rfl⟩:=rx
 obtain ⟨t',rfl⟩:=ry
 exact add_str (fun t' tk=>⟨.str (i++j),H,I.tok _,⟨_,rfl⟩,q⟩) hz
theorem zwg {x:V} {us:List Value} (r:Vals [x] us):∃ u,us=[u]∧RelV x u:=by
 cases r with
 | cons r1 r2=>cases r2;exact ⟨_,rfl,r1⟩
theorem zwh {x y:V} {us:List Value} (r:Vals [x,y] us):∃ u w',us=[u,w']∧RelV x u∧RelV y w':=by
 cases r with
 | cons r1 r2 =>
  cases r2 with
  | cons r3 r4=>cases r4;exact ⟨_,_,rfl,r1,r3⟩
theorem zafb (hc:X.calm=true):CallR X (.builtin "min") (fun xs H Q=>∃ i j,xs=[.int i,.int j]∧Q (.int (if j<i then j else i)) H):=by
 intro pins s σ H xs us Q I r h
 obtain ⟨i,j,rfl,q⟩:=h
 obtain ⟨u,w',rfl,⟨t,rfl⟩,⟨t',rfl⟩⟩:=zwh r
 refine min_two_ints (I.ok.hd hc) fun h' tk k=>⟨_,H,I.kept k,?_,q⟩
 by_cases hj:j<i
 ·rw [if_pos hj,if_pos hj];exact ⟨_,rfl⟩
 ·rw [if_neg hj,if_neg hj];exact ⟨_,rfl⟩
def LenV (K:qB) (x:V) (H:Hp) (n:Nat):Prop :=
 match x with
 | .str y=>y.length≤qU∧n=y.length
 | .byt y=>y.size≤qU∧n=y.size
 | .ref p=>(∃ xs,SqL K H p xs∧n=xs.length)∨∃ xs,SqT K H p xs∧n=xs.length
 | _=>False
theorem zajo:CallR X (.builtin "len") (fun xs H Q=>∃ x n,xs=[x]∧LenV X.K x H n∧Q (.int n) H):=by
 intro pins s σ H xs us Q I r h
 obtain ⟨x,n,rfl,e,q⟩:=h
 obtain ⟨u,rfl,rx⟩:=zwg r
 have hl:=zwf
 have hs:qU=16777216:=qBD
 cases x with
 | str y =>
  obtain ⟨t,rfl⟩:=rx
  obtain ⟨hy,e'⟩:y.length≤qU∧n=y.length:=e
  subst e'
  exact len_str (by omega) ⟨.int _,H,I.tok _,⟨_,rfl⟩,q⟩
 | byt y =>
  obtain ⟨t,rfl⟩:=rx
  obtain ⟨hy,e'⟩:y.size≤qU∧n=y.size:=e
  subst e'
  exact PySem.W.len_bytes (by omega) ⟨.int _,H,I.tok _,⟨_,rfl⟩,q⟩
 | ref p =>
  cases rx
  have e':(∃ xs,SqL X.K H p xs∧n=xs.length)∨∃ xs,SqT X.K H p xs∧n=xs.length:=e
  rcases e' with ⟨xs,hx,e'⟩|⟨xs,hx,e'⟩
  ·subst e'
   obtain ⟨its,r',pl,hz⟩:=I.list hx
   have hlen:=r'.length
   exact Calls.call_len_list pl.isList (by simp only [qR];omega) ⟨.int xs.length,H,I.tok _,⟨_,by simp only [qR];rw [hlen]⟩,q⟩
  ·subst e'
   obtain ⟨its,r',pl,hz⟩:=I.tuple hx
   have hlen:=r'.length
   exact len_tuple pl (by simp only [qR];omega) ⟨.int xs.length,H,I.tok _,⟨_,by simp only [qR];rw [hlen]⟩,q⟩
 | _=>exact (show False from e).elim
end
set_option genInjectivity false in
structure ObjM (h:Heap) (x dx C:Addr) (mA:Str→Option Value):Prop where
 obj:h.get? x=some (PySem.W.instObj C dx)
 ns:h.Ns1 dx mA
 ne:dx≠x
theorem zafc {h:Heap} {dx:Addr} {mA:Str→Option Value} (n:h.Ns1 dx mA):∃ od,h.get? dx=some od∧∀ name,PySem.W.lookIn name od=some (mA name):=by
 obtain ⟨o,es,ep,ho,hd,hk,_,hm⟩:=n
 refine ⟨o,ho,fun name=>?_⟩
 have e:=hm name
 unfold nsFind findBy at e
 rw [← Array.find?_toList] at e
 unfold PySem.W.lookIn
 rw [hd]
 dsimp only
 split
 ·rename_i y q
  rw [q] at e
  exact congrArg some e
 ·rename_i q
  rw [q] at e
  have a:es.toList.any (·.refKey)=false:=by
   rw [List.any_eq_false]
   intro y hy
   obtain ⟨z,t,hkey⟩:=hk y (qC6.mp hy)
   simp [DictEntry.refKey,hkey]
  have a':¬ es.toList.any (·.refKey)=true:=by rw [a];exact qS
  rw [if_neg a']
  exact congrArg some e
theorem ObjM.look {h:Heap} {x dx C:Addr} {mA:Str→Option Value} (I:ObjM h x dx C mA):∃ od,PySem.W.InstAt h x (PySem.W.instObj C dx) C (some od)∧∀ name,PySem.W.lookIn name od=some (mA name) :=
 let ⟨od,ho,hl⟩:=zafc I.ns
 ⟨od,⟨I.obj,rfl,rfl,ho⟩,hl⟩
section
variable {prog:Program} {w:World} {A:Around} {E:Value→Shared→Prop} {s:Shared} {K:qB} {x dx C f:Addr} {mA:Str→Option Value} {name:Str} {v:Value}
end
theorem RelO.some_of {v:V} {o:Option Value} (r:RelO (some v) o):∃ u,o=some u∧RelV v u:=by
 cases o with
 | none=>exact (show False from r).elim
 | some u=>exact ⟨u,rfl,r⟩
theorem zafd {v:V} {u:Value} (r:RelV v u):PySem.W.handedIn u=true:=by
 cases v with
 | non=>cases (show u=Value.none from r);rfl
 | bl b=>cases (show u=Value.bool b from r);rfl
 | int i=>obtain ⟨t,e⟩:=(show ∃ t,u=Value.int i t from r);cases e;rfl
 | str x=>obtain ⟨t,e⟩:=(show ∃ t,u=Value.str x t from r);cases e;rfl
 | byt b=>obtain ⟨t,e⟩:=(show ∃ t,u=Value.bytes b t from r);cases e;rfl
 | flt b=>obtain ⟨t,e⟩:=(show ∃ t,u=Value.float b t from r);cases e;rfl
 | ref a=>cases (show u=Value.ref a from r);rfl
 | ty n=>cases (show u=Value.type n from r);rfl
section
variable {P:Program} {w:World} {H H':Hp} {h h':Heap} {a C dx:Addr} {fs fs':List (Str×V)}
theorem zaob (hok:HOk P w H h) (e:H a=some (.ins C dx fs)):∃ mA,ObjM h a dx C mA∧(∀ f,RelO (fs.lookup f) (mA f))∧PySem.Within mA (fs.map (·.1))∧fs.length≤1000∧H dx=some (.own a):=by
 obtain ⟨d,z,ne,ob,mA,n,r,q⟩:=(show zfc P w H h a (.ins C dx fs) from hok a _ e)
 exact ⟨mA,⟨ob,n,ne⟩,r,q,z,d⟩
end
set_option genInjectivity false in
structure Cls (K:qB) (C:Addr):Prop where
 pg:PySem.W.plainGet K C Str.empty=true
 hd:PySem.W.hasDictIn K C=true
 po:PySem.W.plainOver K C=true
 sa:PySem.W.findIn K (.ref C) "__setattr__" = some (some (.builtin "object.__setattr__"))
theorem Cls.get {K:qB} {C:Addr} (c:Cls K C) (f:Str):PySem.W.plainGet K C f=true:=c.pg
set_option genInjectivity false in
set_option genInjectivity false in
section
variable {X:Cx} {pins:List (Addr×Obj)} {σ:St} {H:Hp} {s:Shared} {a C dx:Addr} {fs:List (Str×V)} {f:Str} {v:V} {A:Around} {E:Value→Shared→Prop}
theorem zaoc {prog:Program} {w:World} {env:Env} {e:Expr} {f:Str} {pos:Pos} {s:Shared} {Q:Value→Shared→Prop} (hb:attributeBase e f env (eval e env)=eval e env)
  (h:wpAny (model prog w) A (eval e env) (fun o s₁=>wpAny (model prog w) A (getAttr o f true) Q E s₁) E s):wpAny (model prog w) A (eval (.Attribute e f pos) env) Q E s :=
 Attribute_any_ h (by rw [arm_eval_Attribute,hb])
end
section
variable {X:Cx} {o e value:Expr} {f:Str} {pos pos' tpos:Pos} {ta tv:TE}
end
section
variable {X:Cx} {pins:List (Addr×Obj)} {σ:St} {H:Hp} {s:Shared} {A:Around} {E:Value→Shared→Prop} {Q:Value→Shared→Prop} {c:Value} {b:Bool}
inductive TyOf (K:qB) (H:Hp):V→Value→Prop where
 | non:TyOf K H .non (.type "NoneType")
 | bl (x:Bool):TyOf K H (.bl x) (.type "bool")
 | int (i:Int):TyOf K H (.int i) (.type "int")
 | str (x:Str):TyOf K H (.str x) (.type "str")
 | flt (x:UInt64):TyOf K H (.flt x) (.type "float")
 | lst {a:Addr} {xs:List V} (e:H a=some (.lst xs)):TyOf K H (.ref a) (.type "list")
 | frz {a:Addr} {o:Obj} {xs:List V} (e:H a=some (.frz o (.lst xs))):TyOf K H (.ref a) (.type "list")
 | tup {a:Addr} {xs:List V} (e:H a=some (.tup xs)):TyOf K H (.ref a) (.type "tuple")
 | dK {a:Addr} {kvs:List (Key×V)} (e:H a=some (.dK kvs)):TyOf K H (.ref a) (.type "dict")
 | dT {a:Addr} {kvs:List (List Key×V)} (e:H a=some (.dT kvs)):TyOf K H (.ref a) (.type "dict")
 | ins {a C dx:Addr} {fs:List (Str×V)} (e:H a=some (.ins C dx fs)) (cl:Cls K C) (ha:PySem.W.findIn K (.ref C) "__class__" = some (some (.builtin "object.__class__")))
   (hn:PySem.W.specialIn K (.builtin "object.__class__") "__get__" = some (some (.builtin "getset_descriptor.__get__"))) (htk:PySem.W.takesIn K (.builtin "object.__class__")=some true)
   (hm:PySem.W.mroIn K C (.type "object")=some true):TyOf K H (.ref a) (.ref C)
theorem zafe {x:V} {u t:Value} (I:Inv X pins σ H s) (rx:RelV x u) (ty:TyOf X.K H x t) (e:PySem.W.kitOne X.K t c=some b) (h:∀ tk,Q (.bool b) {s with toks:=tk}) :
  wpAny (model X.prog X.w) A (call (.builtin "isinstance") [u,c]) Q E s:=by
 cases ty with
 | non=>cases (show u=Value.none from rx);exact qAd PySem.W.kitx_none I.kIn True.intro e (fun z=>nomatch z) h
 | bl y=>cases (show u=Value.bool y from rx);exact qAd PySem.W.kitx_bool I.kIn True.intro e (fun z=>nomatch z) h
 | int i=>obtain ⟨t,q⟩:=(show ∃ t,u=Value.int i t from rx);cases q;exact qAd PySem.W.kitx_int I.kIn True.intro e (fun z=>nomatch z) h
 | str y=>obtain ⟨t,q⟩:=(show ∃ t,u=Value.str y t from rx);cases q;exact qAd PySem.W.kitx_str I.kIn True.intro e (fun z=>nomatch z) h
 | flt y=>obtain ⟨t,q⟩:=(show ∃ t,u=Value.float y t from rx);cases q;exact qAd PySem.W.kitx_float I.kIn True.intro e (fun z=>nomatch z) h
 | @lst a xs ea =>
  cases (show u=Value.ref a from rx)
  obtain ⟨_,_,n,_,h1⟩:=(show zfc X.prog X.w H s.heap a (.lst xs) from I.hok a _ ea)
  exact qAd qC7 I.kIn ⟨_,h1,rfl⟩ e (fun z=>nomatch z) h
 | @frz a ob xs ea =>
  cases (show u=Value.ref a from rx)
  obtain ⟨_,_,_,n,_,h1⟩:=(show zfc X.prog X.w H s.heap a (.frz ob (.lst xs)) from I.hok a _ ea)
  exact qAd qC7 I.kIn ⟨_,h1,rfl⟩ e (fun z=>nomatch z) h
 | @tup a xs ea =>
  cases (show u=Value.ref a from rx)
  obtain ⟨_,_,_,p⟩:=(show zfc X.prog X.w H s.heap a (.tup xs) from I.hok a _ ea)
  obtain ⟨o,h1,h2,_⟩:=p
  exact qAd PySem.W.kitx_tuple I.kIn ⟨o,h1,h2⟩ e (fun z=>nomatch z) h
 | @dK a kvs ea =>
  cases (show u=Value.ref a from rx)
  obtain ⟨_,_,vs,_,p⟩:=(show zfc X.prog X.w H s.heap a (.dK kvs) from I.hok a _ ea)
  obtain ⟨o,es,ep,h1,h2,_⟩:=p
  exact qAd qC8 I.kIn ⟨o,h1,h2.1⟩ e (fun z=>nomatch z) h
 | @dT a kvs ea =>
  cases (show u=Value.ref a from rx)
  obtain ⟨_,_,xs,_,o,es,ep,h1,h2,_⟩:=(show zfc X.prog X.w H s.heap a (.dT kvs) from I.hok a _ ea)
  exact qAd qC8 I.kIn ⟨o,h1,h2.1⟩ e (fun z=>nomatch z) h
 | @ins a C dx fs ea cl ha hn htk hm =>
  cases (show u=Value.ref a from rx)
  obtain ⟨mA,O,_⟩:=zaob I.hok ea
  obtain ⟨od,J,_⟩:=O.look
  exact qAd (PySem.W.kitx_own (cl.get _) cl.hd ha hn htk hm) I.kIn J e (fun z=>nomatch z) h
end
set_option genInjectivity false in
structure Room (k:Nat) (A:Around):Prop where
 hd:A.handled=none
 dp:A.depth+3 * k+5<recursionLimit
 un:A.units+16 * k+200<cLine
theorem Room.mono {j k:Nat} {A:Around} (r:Room k A) (h:j≤k):Room j A:=⟨r.hd,by have:=r.dp;omega,by have:=r.un;omega⟩
theorem Room.deeper {k:Nat} {A:Around} (r:Room (k+1) A) (env:Env):Room k (A.deeper env) :=
 ⟨r.hd,by have:=r.dp;show A.depth+1+3 * k+5<_;omega,by have:=r.un;show A.units+3+16 * k+200<_;omega⟩
theorem zadn {A:Around} {C:Addr} {us:List Value} {kw:List (Str×Value)}:(A.under (.builtin "type.__call__" ⟨.ref C::us,kw⟩)).depth=A.depth+1:=by
 first|rfl|simp [Around.under,Code.weight,Code.isCreation,Code.isGuard,Code.isCaller,Code.frames,Code.isFrame,guardIds]
theorem zado {A:Around} {C:Addr} {us:List Value} {kw:List (Str×Value)}:(A.under (.builtin "type.__call__" ⟨.ref C::us,kw⟩)).units=A.units+1:=by
 first|rfl|simp [Around.under,Code.cUnits,Code.frames,Code.isFrame]
theorem Room.make {k:Nat} {A:Around} (r:Room (k+1) A) (C:Addr) (us:List Value) (kw:List (Str×Value)):Room k (A.under (.builtin "type.__call__" ⟨.ref C::us,kw⟩)) :=
 ⟨r.hd,by have:=r.dp;rw [zadn];omega,by have:=r.un;rw [zado];omega⟩
theorem Room.depth {k:Nat} {A:Around} (r:Room k A):A.depth<recursionLimit:=by have:=r.dp;omega
theorem Room.units {k:Nat} {A:Around} (r:Room k A):A.units+64<cLine:=by have:=r.un;omega
def tNil:TA:=fun _ H Q=>Q [] H
def tCons (ta:TE) (tr:TA):TA:=fun σ H Q=>ta σ H fun x H1=>tr σ H1 fun xs H2=>Q (x::xs) H2
section
variable {X:Cx} {e:Expr} {es:List Expr} {te:TE} {t:TA} {pos:Pos}
theorem zpb:PA X [] tNil:=fun _ _ _ _ H Q I h=>Calls.spliced_nil ⟨[],H,I,.nil,h⟩
theorem zki (ha:PE X e te) (hr:PA X es t) (hs:starEach (e::es) X.env=(false,eval e X.env)::starEach es X.env:=by rfl):PA X (e::es) (tCons te t):=by
 intro pos pins s σ H Q I h
 rw [hs]
 show wpAny _ _ (spliced ((false,eval e X.env)::backTo pos (starEach es X.env))) _ _ s
 refine qCK (thn (ha pins s σ H _ I h) fun u s1 ⟨x,H1,I1,r1,q1⟩=>?_)
 exact thn (hr pos pins s1 σ H1 _ I1 q1) fun us s2 ⟨xs,H2,I2,r2,q2⟩=>⟨x::xs,H2,I2,.cons r1 r2,q2⟩
def tTup (t:TA):TE:=fun σ H Q=>t σ H fun xs H1=>xs.length≤qU∧∀ p,H1 p=none→Q (.ref p) (upd H1 p (.tup xs))
def tLst (t:TA):TE:=fun σ H Q=>t σ H fun xs H1=>xs.length≤qU∧∀ p,H1 p=none→Q (.ref p) (upd H1 p (.lst xs))
theorem zarl {x1} (h:PA X es t):PE X (.Tuple es x1 pos) (tTup t):=by
 intro pins s σ H Q I hq
 refine wpAny_Tuple_spliced (thn (h pos pins s σ H _ I hq) fun us s1 ⟨xs,H1,I1,r,z,q⟩=>⟨by rw [← r.length];exact z,?_⟩)
 have hf:H1 s1.heap.objs.size=none:=I1.hok.fresh (qJ _)
 refine ⟨.ref s1.heap.objs.size,upd H1 s1.heap.objs.size (.tup xs),I1.laid (t':=s1.toks) (fun b u e=>qE _ e) (qJ _) ?_,rfl,q _ hf⟩
 exact ⟨z,us,r,⟨_,qb _ rfl,rfl,_,rfl⟩⟩
theorem zamq (h:PA X es t):PE X (.List es pos) (tLst t):=by
 intro pins s σ H Q I hq
 refine wpAny_List_spliced (thn (h pos pins s σ H _ I hq) fun us s1 ⟨xs,H1,I1,r,z,q⟩=>⟨by rw [← r.length];exact z,?_⟩)
 have hf:H1 s1.heap.objs.size=none:=I1.hok.fresh (qJ _)
 refine ⟨.ref s1.heap.objs.size,upd H1 s1.heap.objs.size (.lst xs),I1.laid (t':=s1.toks) (fun b u e=>qE _ e) (qJ _) ?_,rfl,q _ hf⟩
 exact ⟨z,us,0,r,qb _ rfl⟩
end
abbrev Sp:=List V→Hp→VK→XK→Prop
abbrev CXT:=List Env→Hp→Shared→XK→Value→Shared→Prop
set_option genInjectivity false in
structure Env0 (P:Program) (w:World) (K:qB) (mg:Str→Option Value) (base:Heap) (A:Around) (outer:List Env) (s:Shared) (H:Hp):Prop where
 frames:A.frames=some outer
 mod:Mod K mg base
 bs:∀ b o,base.get? b=some o→s.heap.get? b=some o∧H b=none
 bsz:base.objs.size≤s.heap.objs.size
 funs:s.heap.FunFrames base outer
 frf:∀ b∈frs outer,H b=none
 hok:HOk P w H s.heap
 bare:AllBare s.gens
def CE (outer:List Env) (P:Program) (w:World) (H:Hp) (s:Shared) (Q:VK) (u:Value) (s':Shared):Prop :=
 ∃ v H',s'.os=s.os∧AllBare s'.gens∧Un (frs outer) [] H H' s.heap s'.heap∧HOk P w H' s'.heap∧RelV v u∧Q v H'
def CR (CX:CXT) (outer:List Env) (P:Program) (w:World) (H:Hp) (s:Shared) (Q:VK) (E:XK) (r:Result) (s':Shared):Prop :=
 match r with
 | .ok (.ret u)=>CE outer P w H s Q u s'
 | .ok _=>False
 | .error e=>CX outer H s E e s'
set_option genInjectivity false in
structure FnOk (P:Program) (w:World) (K:qB) (mg:Str→Option Value) (base:Heap) (CX:CXT) (k:Nat) (f:Addr) (fd:q9) (ps:List Str) (sp:Sp):Prop where
 len:∀ vs H Q E,sp vs H Q E→vs.length=ps.length
 run:∀ (A:Around) (outer:List Env) (s:Shared) (H:Hp) (args:Args) (us:List Value) (vs:List V) (Q:VK) (E:XK),Room k A→Env0 P w K mg base A outer s H→BindsTo s fd args (ps.zip us)→Vals vs us→sp vs H Q E →
  codeAny (model P w) A (.call (.ref f) args) (CR CX outer P w H s Q E) s
theorem Env0.make {P:Program} {w:World} {K:qB} {mg:Str→Option Value} {base:Heap} {A:Around} {outer:List Env} {s:Shared} {H:Hp} (e:Env0 P w K mg base A outer s H) (C:Addr) (us:List Value) (kw:List (Str×Value)) :
  Env0 P w K mg base (A.under (.builtin "type.__call__" ⟨.ref C::us,kw⟩)) outer s H:=⟨by first|exact e.frames|(simpa [Around.under,Code.envs,Code.isFrame,pushEnvs] using e.frames),e.mod,e.bs,e.bsz,e.funs,e.frf,e.hok,e.bare⟩
section
variable {X:Cx} {pins:List (Addr×Obj)} {σ:St} {H:Hp} {s s':Shared}
theorem Inv.env0 (I:Inv X pins σ H s):Env0 X.prog X.w X.K X.mg X.base X.A X.stack s H :=
 ⟨I.ok.frames,I.ok.mod,I.bs,qAG I.ok.bsz I.sz,I.stack,I.stkFree,I.hok,I.bare⟩
theorem Inv.after {Q:VK} {u:Value} (I:Inv X pins σ H s) (h:CE X.stack X.prog X.w H s Q u s'):EP X pins σ Q u s':=by
 obtain ⟨v,H',os,bare,un,hok,r,q⟩:=h
 obtain ⟨hh,g,d,t,os'⟩:=s'
 obtain rfl:os'=s.os:=os
 exact ⟨v,H',I.call (h':=hh) (g':=g) (d':=d) (t':=t) (ch:=[]) un hok bare (fun b z=>absurd z (by simp)),r,q⟩
end
def tCall (sp:Sp) (dvs:List V) (E:XK) (t:TA):TE:=fun σ H Q=>t σ H fun vs H1=>sp (vs++dvs) H1 Q E
def zqg (K:qB) (fd:q9) (ps:List Str) (ds:List Value):Prop :=
 ∀ (s:Shared) (us:List Value),K.In s.heap→(us++ds).length=ps.length→BindsTo s fd ⟨us,[]⟩ (ps.zip (us++ds))
theorem zqg.all {K:qB} {fd:q9} {ps:List Str} (h:∀ us:List Value,us.length=ps.length→bindArgs fd ⟨us,[]⟩=pure (ps.zip us)):zqg K fd ps []:=fun s us _ hl=>by
 rw [qx] at hl ⊢
 exact .of_eq (h us hl)
def zwi (CX:CXT) (X:Cx) (E:XK):Prop:=∀ (pins:List (Addr×Obj)) (σ:St) (H:Hp) (s:Shared) (e:Value) (s':Shared),Inv X pins σ H s→CX X.stack H s E e s'→X.xe e s'
section
variable {X:Cx} {CX:CXT} {k:Nat} {f C:Addr} {fd:q9} {ps:List Str} {sp:Sp} {dvs:List V} {ds:List Value} {E:XK} {x m:Str} {p pos apos:Pos} {e o:Expr} {es:List Expr} {ta:TE} {t:TA}
theorem zarm {pins:List (Addr×Obj)} {σ:St} {H:Hp} {s:Shared} {Q:VK} {us:List Value} {vs:List V} (F:FnOk X.prog X.w X.K X.mg X.base CX k f fd ps sp) (hr:Room k X.A) (hb:zqg X.K fd ps ds) (hd:Vals dvs ds) (hx:zwi CX X E)
  (I:Inv X pins σ H s) (r:Vals vs us) (h:sp (vs++dvs) H Q E):wpAny (model X.prog X.w) X.A (call (.ref f) us) (EP X pins σ Q) X.xe s:=by
 have r2:Vals (vs++dvs) (us++ds):=r.append hd
 have hl:(us++ds).length=ps.length:=by rw [← r2.length];exact F.len _ _ _ _ h
 refine qCc (qBh (F.run X.A X.stack s H ⟨us,[]⟩ (us++ds) (vs++dvs) Q E hr I.env0 (hb s us I.kIn hl) r2 h) fun r s' hq=>?_)
 cases r with
 | error e=>exact hx pins σ H s e s' I hq
 | ok fl =>
  cases fl with
  | ret u=>exact I.after hq
  | next=>exact False.elim hq
  | brk=>exact False.elim hq
  | cont=>exact False.elim hq
theorem zaff (F:FnOk X.prog X.w X.K X.mg X.base CX k f fd ps sp) (hr:Room k X.A) (hg:Gl X x) (hm:X.mg x=some (.ref f)) (hk:qN X.K (.ref f)=true) (hb:zqg X.K fd ps ds) (hd:Vals dvs ds) (hx:zwi CX X E)
  (ha:PA X (e::es) t) (hdb:(x==("__debug__":Str))=false:=by decide) (he:starEach (e::es) X.env=(false,eval e X.env)::starEach es X.env:=by rfl) (hpl:(backTo pos (starEach es X.env)).any (·.1)=false:=by rfl) :
  PE X (.Call (.Name x p) (e::es) [] pos) (tCall sp dvs E t):=by
 intro pins s σ H Q I h
 refine qBc (zqd I hg hm ?_ hdb)
 refine qCB (h₀:=X.base) I.ok.mod.kin hk (thn (ha pos pins s σ H _ I h) fun us s1 ⟨vs,H1,I1,r,q⟩=>⟨I1.kIn,?_⟩) he hpl
 exact zarm F hr hb hd hx I1 r q
set_option genInjectivity false in
end
section
variable {X:Cx} {CX:CXT} {k:Nat} {f C:Addr} {fd:q9} {ps ks:List Str} {sp:Sp} {E:XK} {x m:Str} {p pos apos kpos:Pos} {e o:Expr} {es:List Expr} {kws:List Keyword} {te ta:TE} {t tk:TA} {nm:Option Str}
set_option genInjectivity false in
variable {g:List Value→List Value→List Value} {gV:List V→List V→List V}
end
set_option genInjectivity false in
structure FnScope (N P:List Str) (sc:Scope):Prop where
 kind:sc.kind=.function
 co:sc.isCoroutine=false
 gen:sc.isGenerator=false
 nd:N.Nodup
 pre:N.take P.length=P
 par:∀ x∈P,sc.names.lookup x=some .local∨sc.names.lookup x=some .cell
 nofree:∀ y∈sc.names,y.2≠.free
theorem zwj {kindOf:Str→Option NameKind} {x:Str}:∀ {binds:List (Str×Value)} {m:Str→Option Value},(∀ v,(x,v)∉binds)→bindL kindOf binds m x=m x
 | [],_,_=>rfl
 | (n,v)::r,m,h=>by
  unfold bindL
  rw [zwj fun w hw=>h w (qL _ hw)]
  split
  ·have:x≠n:=by rintro rfl;exact h v qj
   simp [this]
  ·rfl
theorem zwk {kindOf:Str→Option NameKind} {x:Str}:∀ {binds:List (Str×Value)} {m:Str→Option Value},(∀ v,(x,v)∉binds)→bindC kindOf binds m x=m x
 | [],_,_=>rfl
 | (n,v)::r,m,h=>by
  unfold bindC
  rw [zwk fun w hw=>h w (qL _ hw)]
  split
  ·rfl
  ·have:x≠n:=by rintro rfl;exact h v qj
   simp [this]
theorem zwl {kindOf:Str→Option NameKind} {x:Str} {v:Value}:∀ {P:List Str} {vs:List Value} {i:Nat} {m:Str→Option Value},P.Nodup→P[i]?=some x→vs[i]?=some v→kindOf x=some .local →
  bindL kindOf (P.zip vs) m x=some v
 | [],_,_,_,_,h,_,_=>by simp at h
 | _::_,[],_,_,_,_,h,_=>by simp at h
 | p::P,w::vs,0,m,nd,h1,h2,hk=>by
  simp at h1 h2;subst h1;subst h2
  show bindL kindOf ((p,w)::P.zip vs) m p=_
  unfold bindL
  rw [zwj fun v hv=>(qA8.mp nd).1 (qBG hv).1,if_pos hk]
  simp
 | p::P,w::vs,i+1,m,nd,h1,h2,hk=>by
  show bindL kindOf ((p,w)::P.zip vs) m x=_
  unfold bindL
  exact zwl (i:=i) (qA8.mp nd).2 (by simpa using h1) (by simpa using h2) hk
theorem zwm {kindOf:Str→Option NameKind} {x:Str} {v:Value}:∀ {P:List Str} {vs:List Value} {i:Nat} {m:Str→Option Value},P.Nodup→P[i]?=some x→vs[i]?=some v→kindOf x≠some .local →
  bindC kindOf (P.zip vs) m x=some v
 | [],_,_,_,_,h,_,_=>by simp at h
 | _::_,[],_,_,_,_,h,_=>by simp at h
 | p::P,w::vs,0,m,nd,h1,h2,hk=>by
  simp at h1 h2;subst h1;subst h2
  show bindC kindOf ((p,w)::P.zip vs) m p=_
  unfold bindC
  rw [zwk fun v hv=>(qA8.mp nd).1 (qBG hv).1,if_neg hk]
  simp
 | p::P,w::vs,i+1,m,nd,h1,h2,hk=>by
  show bindC kindOf ((p,w)::P.zip vs) m x=_
  unfold bindC
  exact zwm (i:=i) (qA8.mp nd).2 (by simpa using h1) (by simpa using h2) hk
def zmm (N:List Str) (vs:List V):St:=vs.map some++List.replicate (N.length - vs.length) none
noncomputable def cxOf (CX:CXT) (P:Program) (w:World) (K:qB) (mg:Str→Option Value) (base:Heap) (N:List Str) (qual:Str) (scope:Scope) (f:Addr) (cd:Value) (A:Around) (outer:List Env) (s:Shared) (H:Hp) (E:XK):Cx where
 prog:=P
 w:=w
 K:=K
 mg:=mg
 base:=base
 A:=A.deeper (envOfC qual scope s.heap.objs.size f cd)
 N:=N
 s₀:=s
 H₀:=H
 env:=envOfC qual scope s.heap.objs.size f cd
 outer:=outer
 stack:=envOfC qual scope s.heap.objs.size f cd::outer
 ex:=[]
 calm:=true
 fn:=fun _=>true
 pn:=[]
 xe:=fun e s'=>wpAny (model P w) (A.deeper (envOfC qual scope s.heap.objs.size f cd)) (leaving (envOfC qual scope s.heap.objs.size f cd) e) (fun _ s''=>CX outer H s E e s'') (fun e' s''=>CX outer H s E e' s'') s'
theorem zui {sc:Scope} {n:Nat} {x:Str} (h:sc.names.lookup x=some .cell):∃ c,(cellsFrom n sc.names []).lookup x=some c:=by
 have q:=qB0 sc.names n [] (.inl h)
 exact Option.isSome_iff_exists.mp q
theorem zwn {CX:CXT} {P:Program} {w:World} {K:qB} {mg:Str→Option Value} {base:Heap} {N ps:List Str} {qual:Str} {scope:Scope} {f:Addr} {cd:Value} {A:Around} {outer:List Env} {s s1:Shared} {H:Hp} {E:XK} {us:List Value} {vs:List V}
  (S:FnScope N ps scope) (hd:A.handled=none) (e0:Env0 P w K mg base A outer s H) (hl:vs.length=ps.length) (r:Vals vs us)
  (x:InCallC s s.heap.objs.size (bindL (envOfC qual scope s.heap.objs.size f cd).kindOf (ps.zip us) fun _=>none) (cellsFrom (s.heap.objs.size+1) scope.names []) (bindC (envOfC qual scope s.heap.objs.size f cd).kindOf (ps.zip us) fun _=>none) s1) :
  Inv (cxOf CX P w K mg base N qual scope f cd A outer s H E) [] (zmm N vs) H s1:=by
 have hpl:ps.length≤N.length:=by have:=congrArg List.length S.pre;rw [qAH] at this;omega
 obtain ⟨h1,tk,rfl,hk⟩:=x.done
 have noA:∀ b:Addr,b∉(cxOf CX P w K mg base N qual scope f cd A outer s H E).ex:=fun b z=>absurd (show b∈([]:List Addr) from z) (by simp)
 refine ⟨⟨e0.mod,S.kind,rfl,rfl,qJ _,fun y z c h1 h2=>?_,fun y hy=>?_,fun y c _ h=>?_,fun _=>hd,Around.frames_deeper e0.frames,.inr ⟨rfl,rfl⟩,fun b z=>absurd z (noA b),e0.bs,e0.bsz,fun b _ _=>noA b,fun b z=>absurd z (noA b),e0.funs,e0.frf⟩,
  rfl,e0.bare,Un.kept hk,⟨_,x.toInCall.ns,fun i y v h1 h2 h3=>?_⟩,fun y c h=>⟨_,x.cell y c h⟩,e0.hok.fresh (qJ _),fun y c h=>?_,fun p hp=>absurd (show p∈([]:List (Addr×Obj)) from hp) (by simp),e0.hok.kept hk,?_⟩
 ·exact name_of_addr x.apart (qAP h1) (qAP h2)
 ·have hy:scope.names.lookup y=some .cell∨scope.names.lookup y=some .free:=hy
  rcases hy with hy|hy
  ·exact zui hy
  ·exact absurd rfl (S.nofree _ (qAP hy))
 ·exact qCA (x.above y c (qAP h))
 ·have hi:i<vs.length:=by
   unfold zmm at h2
   by_cases hi:i<vs.length
   ·exact hi
   ·rw [qAW (by simpa using hi)] at h2
    rw [qBV] at h2
    split at h2<;>cases h2
  have ha:vs[i]?=some v:=by
   unfold zmm at h2
   rw [qAQ (by simpa using hi),qT] at h2
   cases e:vs[i]? with
   | none=>rw [e] at h2;cases h2
   | some a=>rw [e] at h2;cases h2;rfl
  obtain ⟨u,hu,rv⟩:=r.get ha
  have hp:ps[i]?=some y:=by
   rw [← S.pre,List.getElem?_take_of_lt (by omega)];exact h1
  have ndP:ps.Nodup:=by rw [← S.pre];exact S.nd.sublist (qBy _ _)
  refine ⟨u,rv,?_⟩
  rcases S.par y (qBf hp) with k|k
  ·exact .inl ⟨k,zwl ndP hp hu k⟩
  ·obtain ⟨c,e⟩:=zui (n:=s.heap.objs.size+1) k
   refine .inr ⟨.inl k,c,e,?_⟩
   have q:=x.cell y c e
   rw [zwm ndP hp hu (by show scope.names.lookup y≠_;rw [k];decide)] at q
   exact q
 ·exact e0.hok.fresh (qCA (x.above y c (qAP h)))
 ·unfold zmm
  show _=N.length
  rw [qW,qF,qA3]
  omega
theorem zauf {CX:CXT} {P:Program} {w:World} {K:qB} {mg:Str→Option Value} {base:Heap} {k:Nat} {f:Addr} {name qual:Str} {params:Arguments} {body:List Stmt} {scope:Scope} {dV kV doc pm cdv ct oc:Value} {an od:Option Addr}
  {osl:Array (Option Value)} {N ps:List Str} {sp:Sp} (lk:K.lookup f=some ⟨oc,od,.func (qc name qual params body scope dV kV doc pm an cdv ct),osl⟩) (hcd:qa K cdv qual=true) (S:FnScope N ps scope)
  (len:∀ vs H Q E,sp vs H Q E→vs.length=ps.length)
  (hbody:∀ (A:Around) (outer:List Env) (s:Shared) (H:Hp) (vs:List V) (Q:VK) (E:XK),Room k (A.deeper (envOfC qual scope s.heap.objs.size f cdv))→sp vs H Q E →
   ∃ t,PSs (cxOf CX P w K mg base N qual scope f cdv A outer s H E) body t∧t {nx:=fun _ H'=>Q .non H',rt:=Q} (zmm N vs) H) :
  FnOk P w K mg base CX (k+1) f (qc name qual params body scope dV kV doc pm an cdv ct) ps sp:=by
 refine ⟨len,fun A outer s H args us vs Q E hr e0 hb r hsp=>?_⟩
 have hl:=len _ _ _ _ hsp
 have KX:K.In s.heap:=e0.mod.kin.keeps fun b o e=>(e0.bs b o e).1
 have lim:s.heap.NoLimit:=e0.mod.nolimit.keeps fun b o e=>(e0.bs b o e).1
 have hkind:∀ y∈ps.zip us,scope.names.lookup y.1=some .local∨(scope.names.lookup y.1=some .cell∧((cellsFrom (s.heap.objs.size+1) scope.names []).lookup y.1).isSome=true):=fun ⟨n,v⟩ hy=>by
  rcases S.par n (qBG hy).1 with q|q
  ·exact .inl q
  ·exact .inr ⟨q,qB0 _ _ _ (.inl q)⟩
 refine codeAny_call_function hr.depth (KX _ _ lk) rfl S.co S.gen rfl (qC2 KX hcd) (hb _ _ _ _ ?_)
 refine qC1 S.kind hkind fun env he s1 x=>?_
 subst he
 refine ⟨lim.keeps x.toInCall.keep,codeAny_func ?_⟩
 obtain ⟨t,ht,hq⟩:=hbody A outer s H vs Q E (hr.deeper _) hsp
 have I:Inv (cxOf CX P w K mg base N qual scope f cdv A outer s H E) [] (zmm N vs) H s1:=zwn S hr.hd e0 hl r x
 refine qBM (ht [] s1 (zmm N vs) H _ I hq) (fun fl s' hs=>?_) fun e s' hs=>hs
 have fin:∀ {σ':St} {H':Hp} {v:V} {u:Value},Inv (cxOf CX P w K mg base N qual scope f cdv A outer s H E) [] σ' H' s'→RelV v u→Q v H'→CE outer P w H s Q u s' :=
  fun {σ' H' v u} J rv q=>⟨v,H',J.os,J.bare,J.base,J.hok,rv,q⟩
 cases fl with
 | ret u =>
  obtain ⟨v,σ',H',J,rv,q⟩:=hs
  exact fin J rv q
 | next =>
  obtain ⟨σ',H',J,q⟩:=hs
  exact fin (v:=V.non) (u:=Value.none) J rfl q
 | brk =>
  obtain ⟨_,_,_,q⟩:=hs
  exact False.elim q
 | cont =>
  obtain ⟨_,_,_,q⟩:=hs
  exact False.elim q
section
variable {X:Cx} {x:Str} {p pos:Pos} {e:Expr} {es:List Expr} {t:TA} {id T:String} {r:List V→Hp→VK→Prop}
def tCB (r:List V→Hp→VK→Prop) (t:TA):TE:=fun σ H Q=>t σ H fun vs H1=>r vs H1 Q
theorem zabm (hc:CallR X (.builtin id) r) (hg:Gl X x) (hm:X.mg x=none) (hv:bootBuiltins x=some (.builtin id)) (ha:PA X (e::es) t) (hn:x ≠ "__name__":=by decide) (hdb:(x==("__debug__":Str))=false:=by decide)
  (he:starEach (e::es) X.env=(false,eval e X.env)::starEach es X.env:=by rfl) (hpl:(backTo pos (starEach es X.env)).any (·.1)=false:=by rfl):PE X (.Call (.Name x p) (e::es) [] pos) (tCB r t):=by
 intro pins s σ H Q I h
 refine qBc (zqe I hg hm hv ?_ hn hdb)
 exact PyProof.Rows.callWith_builtin1 (thn (ha pos pins s σ H _ I h) fun us s1 ⟨vs,H1,I1,r1,q1⟩=>hc pins s1 σ H1 vs us Q I1 r1 q1) he hpl
theorem zafg (hc:CallR X (.type T) r) (hg:Gl X x) (hm:X.mg x=none) (hv:bootBuiltins x=some (.type T)) (ha:PA X (e::es) t) (hn:x ≠ "__name__":=by decide) (hdb:(x==("__debug__":Str))=false:=by decide)
  (he:starEach (e::es) X.env=(false,eval e X.env)::starEach es X.env:=by rfl) (hpl:(backTo pos (starEach es X.env)).any (·.1)=false:=by rfl):PE X (.Call (.Name x p) (e::es) [] pos) (tCB r t):=by
 intro pins s σ H Q I h
 refine qBc (zqe I hg hm hv ?_ hn hdb)
 exact qBX (thn (ha pos pins s σ H _ I h) fun us s1 ⟨vs,H1,I1,r1,q1⟩=>hc pins s1 σ H1 vs us Q I1 r1 q1) he hpl
end
end L2
namespace HT
open PySem PyProof.Rows
section
open PySem.SeqAt
open PySem.AutoSeq1 (wpAny_loadPart')
open PySem.MeetsSeq PySem.MeetsSeq2 PySem.MeetsSeq3
end
section
variable {prog:Program} {w:World} {A:Around} {E:Value→Shared→Prop} {s:Shared}
theorem cat_tup {t b:Addr} {vs ws:List Value} {Q:Value→Shared→Prop} (ht:IsTup s.heap t vs.toArray) (hb:IsTup s.heap b ws.toArray) (hv:vs≠[])
  (h1:ws=[]→Q (.ref t) s) (h2:ws≠[]→Q (.ref s.heap.objs.size) {s with heap:=s.heap.push {cls:=.type "tuple",data:=.seq (vs++ws).toArray}})
  (hsz:vs.length+ws.length≤qU):wpAny (model prog w) A (binaryOp .Add (.ref t) (.ref b)) Q E s:=by
 obtain ⟨⟨cls,dd,data,sl⟩,ho,hc,n,hd⟩:=id ht
 obtain ⟨⟨cls2,dd2,data2,sl2⟩,ho2,hc2,n2,hd2⟩:=id hb
 simp only at hc hd hc2 hd2
 subst hc hd hc2 hd2
 have e:vs.toArray++ws.toArray=(vs++ws).toArray:=by simp
 by_cases hw:ws=[]
 ·exact concat_meets ⟨_,ho,rfl⟩ ⟨_,ho2,rfl⟩ qCl seq_tuple_add qB1 qBx (qBp _ _)
   (tuple_addW1 t b vs.toArray ws.toArray n n2 dd dd2 sl sl2 (by simpa using hv) (by simp [hw])) ⟨ho,ho2,h1 hw⟩
 ·refine concat_meets ⟨_,ho,rfl⟩ ⟨_,ho2,rfl⟩ qCl seq_tuple_add qB1 qBx (qBp _ _)
   (tuple_addW2 t b vs.toArray ws.toArray n n2 dd dd2 sl sl2 (by simpa using hv) (by simpa using hw) (by rw [qR,qR];exact hsz)) ⟨ho,ho2,?_⟩
  rw [e]
  exact h2 hw
def sIx (n d:Nat):Option Int→Nat
 | none=>d
 | some v=>if v<0 then (v+(n:Int)).toNat else min v.toNat n
theorem sIx_nat (n d k:Nat):sIx n d (some (k:Int))=min k n:=by
 show (if (k:Int)<0 then ((k:Int)+(n:Int)).toNat else min (k:Int).toNat n)=min k n
 rw [if_neg (by omega),qB2]
theorem zarn (n d:Nat) (hd:d≤n) (o:Option Int):sIx n d o≤n:=by
 cases o with
 | none=>exact hd
 | some v =>
  show (if v<0 then (v+(n:Int)).toNat else min v.toNat n)≤n
  by_cases hv:v<0
  ·rw [if_pos hv];omega
  ·rw [if_neg hv];exact Nat.min_le_right _ _
theorem zafh (v:Int) (n d:Nat):(if v<0 then max (v+(n:Int)) 0 else min v (n:Int))=((sIx n d (some v):Nat):Int):=by
 show (if v<0 then max (v+(n:Int)) 0 else min v (n:Int))=(((if v<0 then (v+(n:Int)).toNat else min v.toNat n):Nat):Int)
 by_cases hv:v<0
 ·simp only [if_pos hv];omega
 ·simp only [if_neg hv];omega
theorem zadp (lo hi:Option Int) (n:Nat):Builtin.Slice.sliceAdjust lo hi 1 (n:Int)=(((sIx n 0 lo:Nat):Int),((sIx n n hi:Nat):Int)):=by
 have h1:¬ ((1:Int)<0):=by omega
 unfold Builtin.Slice.sliceAdjust
 simp only [h1,if_false]
 refine Prod.ext ?_ ?_
 ·cases lo with
  | none=>rfl
  | some v=>exact zafh v n 0
 ·cases hi with
  | none=>rfl
  | some v=>exact zafh v n n
theorem zadq (i j:Nat):Builtin.Slice.slicePlaces (i:Int) (j:Int) 1=j - i:=by
 unfold Builtin.Slice.slicePlaces
 have h1:(1:Int) > 0:=by omega
 simp only [h1,if_true,Int.ediv_one]
 split<;>omega
theorem ztd {v:Value} {o:Option Int} {Q:Option Int→Shared→Prop} (p:IsPart v o) (h:Q o s):wpAny (model prog w) A (Builtin.Slice.slicePartIndex v) Q E s:=by
 cases p with
 | none=>exact slicePart_none h
 | int i t=>exact slicePart_int h
theorem zjw {sl:Addr} {vl vu:Value} {lo hi:Option Int} {n:Nat} {Q:Int×Int×Nat→Shared→Prop} (hs:s.heap.IsSliceOf sl vl vu .none) (pl:IsPart vl lo) (pu:IsPart vu hi)
  (h:Q (((sIx n 0 lo:Nat):Int),1,sIx n n hi - sIx n 0 lo) s):wpAny (model prog w) A (Builtin.Slice.sliceApplied (.ref sl) (pure (n:Int))) Q E s:=by
 obtain ⟨os,hos,hcs,hds⟩:=id hs
 unfold Builtin.Slice.sliceApplied Builtin.Slice.sliceFields
 refine qC (qC (qAZ hos hds (x:=vl) rfl (qC (qAZ hos hds (x:=vu) rfl (qC (qAZ hos hds (x:=.none) rfl (qI ?_)))))))
 refine qC (slicePart_none ?_)
 show wpAny _ _ (if ((1:Int)==0)=true then _ else _) _ _ s
 rw [if_neg (by decide)]
 refine qC (ztd pl (qC (ztd pu (qC (qI ?_)))))
 show wpAny _ _ (match Builtin.Slice.sliceAdjust lo hi 1 (n:Int) with|(lo,hi)=>pure (lo,(1:Int),Builtin.Slice.slicePlaces lo hi 1)) _ _ s
 rw [zadp lo hi n]
 show wpAny _ _ (pure (((sIx n 0 lo:Nat):Int),(1:Int),Builtin.Slice.slicePlaces ((sIx n 0 lo:Nat):Int) ((sIx n n hi:Nat):Int) 1)) _ _ s
 rw [zadq]
 exact qI h
theorem zajp (xs:Array Value) (i k:Nat):((List.range k).filterMap fun (m:Nat)=>xs[((i:Int)+(m:Int) * 1).toNat]?).toArray=((xs.toList.drop i).take k).toArray:=by
 have e:(fun (m:Nat)=>xs[((i:Int)+(m:Int) * 1).toNat]?)=fun m=>xs[i+m]?:=by
  funext m
  have:((i:Int)+(m:Int) * 1).toNat=i+m:=by omega
  rw [this]
 rw [e]
 have:=pick_run xs i k
 rw [List.filterMap_map] at this
 have e2:((fun x=>xs[x]?) ∘ fun x=>i+x)=fun m=>xs[i+m]?:=rfl
 rw [e2] at this
 rw [this]
theorem getItem_tuple_cut {t sl:Addr} {items:Array Value} {vl vu:Value} {lo hi:Option Int} {Q:Value→Shared→Prop} (ht:IsTup s.heap t items) (hs:s.heap.IsSliceOf sl vl vu .none) (pl:IsPart vl lo) (pu:IsPart vu hi)
  (hw:¬ (sIx items.size 0 lo=0∧sIx items.size items.size hi=items.size))
  (h:Q (.ref s.heap.objs.size) {s with heap:=s.heap.push {cls:=.type "tuple",data:=.seq ((items.toList.drop (sIx items.size 0 lo)).take (sIx items.size items.size hi - sIx items.size 0 lo)).toArray}})
  (hsz:items.size≤qU):wpAny (model prog w) A (getItem (.ref t) (.ref sl)) Q E s:=by
 have htake:sizeOk (.seq ((items.toList.drop (sIx items.size 0 lo)).take (sIx items.size items.size hi - sIx items.size 0 lo)).toArray):=by
  show ((items.toList.drop (sIx items.size 0 lo)).take (sIx items.size items.size hi - sIx items.size 0 lo)).toArray.size≤qU
  rw [qR,qAH,qAI,qCF]
  omega
 have hj:sIx items.size items.size hi≤items.size:=zarn _ _ (qJ _) hi
 obtain ⟨os,hos,hcs,hds⟩:=id hs
 have hTs:s.TypeIs (.ref sl) "slice":=⟨os,hos,hcs⟩
 unfold getItem
 try with_reducible refine qBo ?_
 first|refine qC (qI ?_)|skip
 refine qC (wpAny_sequenceKey ht.typeIs (by decide) ?_)
 refine qC (qAn (name:=Str.ofString "__getitem__") ht.typeIs qAc
  (qBF qAc ht.typeIs entry_tuple_getitem ?_ (args_tuple_getitem _ _)))
 show wpAny _ _ (Builtin.Tuple.tupleItemsOf (.ref t) >>= _) _ _ s
 refine qC (tupleItemsOf_ ht ?_)
 refine qC (qB3 hTs ?_)
 rw [if_pos (by decide)]
 refine qC (zjw hs pl pu ?_)
 have hno:¬ ((((sIx items.size 0 lo:Nat):Int)==0&&(1:Int)==1&&(sIx items.size items.size hi - sIx items.size 0 lo)==items.size)=true):=by
  intro q
  rw [qAB,qAB] at q
  have q1:((sIx items.size 0 lo:Nat):Int)=0:=eq_of_beq q.1.1
  have q2:sIx items.size items.size hi - sIx items.size 0 lo=items.size:=eq_of_beq q.2
  exact hw ⟨by omega,by omega⟩
 show wpAny _ _ (if (((sIx items.size 0 lo:Nat):Int)==0&&(1:Int)==1&&(sIx items.size items.size hi - sIx items.size 0 lo)==items.size)=true then _ else _) _ _ s
 rw [if_neg hno,zajp]
 first
  | exact qC (m:=Builtin.Tuple.tupleExact _) (qA1 (qI ⟨_,rfl,qI h⟩) htake)
  | exact qC (m:=Builtin.Tuple.tupleExact _) (qA1 (qC (qI (qI ⟨_,rfl,qI h⟩))) htake)
  | exact qC (qC (m:=Builtin.Tuple.tupleExact _) (qA1 (qI (qI ⟨_,rfl,qI h⟩)) htake))
  | exact qC (qC (m:=Builtin.Tuple.tupleExact _) (qA1 (qI ⟨_,rfl,qI h⟩) htake))
end
end HT
namespace L2
open PySem PySem.Spec PyProof.Rows
abbrev TO:=St→Hp→(Option Int→Hp→Prop)→Prop
def PO (X:Cx) (e:Option Expr) (t:TO):Prop :=
 ∀ (pins:List (Addr×Obj)) (s:Shared) (σ:St) (H:Hp) (Q:Option Int→Hp→Prop),Inv X pins σ H s→t σ H Q →
  wpAny (model X.prog X.w) X.A (evalPart e X.env) (fun u s'=>∃ o H',Inv X pins σ H' s'∧IsPart u o∧Q o H') X.xe s
def tNoPart:TO:=fun _ H Q=>Q none H
def tPart (t:TE):TO:=fun σ H Q=>t σ H fun x H1=>∃ i,x=.int i∧Q (some i) H1
section
variable {X:Cx} {e:Expr} {te:TE} {lo hi:Option Expr} {tl th:TO} {pos p2:Pos}
theorem zafi:PO X none tNoPart:=by
 intro pins s σ H Q I h
 rw [evalPart_none]
 exact qI ⟨none,H,I,.none,h⟩
theorem zafj (h:PE X e te):PO X (some e) (tPart te):=by
 intro pins s σ H Q I hw
 rw [evalPart_some]
 refine thn (h pins s σ H _ I hw) fun u s1 ⟨x,H1,I1,r1,q1⟩=>?_
 obtain ⟨i,rfl,q⟩:=q1
 obtain ⟨t,rfl⟩:=r1
 exact ⟨some i,H1,I1,.int i t,q⟩
noncomputable def SlR (X:Cx) (r:V→Option Int→Option Int→Hp→VK→Prop):Prop :=
 ∀ (pins:List (Addr×Obj)) (s:Shared) (σ:St) (H:Hp) (x:V) (v vl vu:Value) (lo hi:Option Int) (sl:Addr) (Q:VK),Inv X pins σ H s→RelV x v→s.heap.IsSliceOf sl vl vu .none→IsPart vl lo→IsPart vu hi→r x lo hi H Q →
  ∃ T id,typeLookup (.type T) "__getitem__" = pure (some (.builtin id))∧s.TypeIs v T∧wpAny (model X.prog X.w) X.A (getItem v (.ref sl)) (EP X pins σ Q) X.xe s
def tSl (r:V→Option Int→Option Int→Hp→VK→Prop) (te:TE) (tl th:TO):TE:=fun σ H Q=>te σ H fun x H1=>tl σ H1 fun l H2=>th σ H2 fun u H3=>r x l u H3 Q
theorem zabn {r:V→Option Int→Option Int→Hp→VK→Prop} (hr:SlR X r) (he:PE X e te) (hl:PO X lo tl) (hu:PO X hi th):PE X (.Subscript e (.Slice lo hi none p2) pos) (tSl r te tl th):=by
 intro pins s σ H Q I h
 refine Subscript_ (thn (he pins s σ H _ I h) fun v s1 ⟨x,H1,I1,r1,q1⟩=>?_)
 refine wpAny_Slice (thn (hl pins s1 σ H1 _ I1 q1) fun vl s2 ⟨l,H2,I2,pl,q2⟩=>thn (hu pins s2 σ H2 _ I2 q2) fun vu s3 ⟨u,H3,I3,pu,q3⟩=>?_)
 rw [evalPart_none]
 refine qI ?_
 have I4:Inv X pins σ H3 {s3 with heap:=s3.heap.push {cls:=.type "slice",data:=.fields #[vl,vu,.none]}}:=I3.kept (t':=s3.toks) fun b ob q=>qE _ q
 obtain ⟨T,id,hT,ht,hg⟩:=hr pins {s3 with heap:=s3.heap.push {cls:=.type "slice",data:=.fields #[vl,vu,.none]}} σ H3 x v vl vu l u s3.heap.objs.size Q I4 r1 (Heap.IsSliceOf.new ..) pl pu q3
 show wpAny (model X.prog X.w) X.A (subscriptTail e (.Slice lo hi none p2) v (.ref s3.heap.objs.size)) (EP X pins σ Q) X.xe {s3 with heap:=s3.heap.push {cls:=.type "slice",data:=.fields #[vl,vu,.none]}}
 exact tail_any (ops:=[.ref s3.heap.objs.size,v]) ht hT hg (by with_unfolding_all rfl)
def cutV (xs:List V) (lo hi:Option Int):List V:=(xs.drop (HT.sIx xs.length 0 lo)).take (HT.sIx xs.length xs.length hi - HT.sIx xs.length 0 lo)
theorem zqh (xs:List V) (lo hi:Option Int):(cutV xs lo hi).length≤xs.length:=by
 unfold cutV
 rw [qAH,qAI]
 omega
def rSlT (K:qB):V→Option Int→Option Int→Hp→VK→Prop:=fun x lo hi H Q=>∃ a xs,x=.ref a∧SqT K H a xs ∧
 ¬ (HT.sIx xs.length 0 lo=0∧HT.sIx xs.length xs.length hi=xs.length)∧∀ p,H p=none→Q (.ref p) (upd H p (.tup (cutV xs lo hi)))
theorem zaro:SlR X (rSlT X.K):=by
 intro pins s σ H x v vl vu lo hi sl Q I rx hs pl pu h
 obtain ⟨a,xs,rfl,hx,hw,q⟩:=h
 cases rx
 obtain ⟨its,r,ht,hz⟩:=I.tuple hx
 have hlen:its.toArray.size=xs.length:=by rw [qR];exact r.length.symm
 refine ⟨"tuple",_,qAc.lookup,ht.typeIs,?_⟩
 refine HT.getItem_tuple_cut ht hs pl pu (by rw [hlen];exact hw) ?_ (by rw [hlen];exact hz)
 rw [hlen]
 refine ⟨.ref s.heap.objs.size,_,I.laid (t':=s.toks) (o:=.tup (cutV xs lo hi)) (fun b ob q=>qE _ q) (qJ _) ?_,rfl,q _ (I.hok.fresh (qJ _))⟩
 exact ⟨qAG (zqh xs lo hi) hz,_,(r.drop (HT.sIx xs.length 0 lo)).take (HT.sIx xs.length xs.length hi - HT.sIx xs.length 0 lo),IsTup.new _ _⟩
def zarp (K:qB):R2:=fun x y H Q=>∃ a b xs ys,x=.ref a∧y=.ref b∧SqT K H a xs∧SqT K H b ys∧xs≠[]∧xs.length+ys.length≤qU ∧
 (ys=[]→Q (.ref a) H)∧(ys≠[]→∀ p,H p=none→Q (.ref p) (upd H p (.tup (xs++ys))))
theorem Vals.nil_iff {xs:List V} {us:List Value} (r:Vals xs us):us=[]↔xs=[]:=by
 cases r with
 | nil=>simp
 | cons _ _=>simp
theorem zaod:OpR X (binaryOp .Add) (zarp X.K):=by
 intro pins s σ H x y v u Q I rx ry h
 obtain ⟨a,b,xs,ys,rfl,rfl,ha,hb,hx,hz,q1,q2⟩:=h
 cases rx
 cases ry
 obtain ⟨its,r1,p1,_⟩:=I.tuple ha
 obtain ⟨its2,r2,p2,_⟩:=I.tuple hb
 refine HT.cat_tup p1 p2 (fun z=>hx (r1.nil_iff.mp z)) (fun z=>⟨.ref a,H,I,rfl,q1 (r2.nil_iff.mp z)⟩) (fun z=>?_) (by rw [← r1.length,← r2.length];exact hz)
 refine ⟨.ref s.heap.objs.size,_,I.laid (t':=s.toks) (o:=.tup (xs++ys)) (fun b ob q=>qE _ q) (qJ _) ?_,rfl,q2 (fun w=>z (r2.nil_iff.mpr w)) _ (I.hok.fresh (qJ _))⟩
 exact ⟨by rw [qW];exact hz,_,r1.append r2,IsTup.new _ _⟩
end
def ixN (n:Nat) (i:Int):Option Nat:=if 0≤i then (if i<n then some i.toNat else none) else if -(n:Int)≤i then some (i+n).toNat else none
def atI {α:Type} (xs:List α) (i:Int):Option α:=(ixN xs.length i).bind fun j=>xs[j]?
theorem zaoe {n:Nat} {i:Int} {j:Nat} (h:ixN n i=some j):seqIndex? i n=some j∧j<n∧-(n:Int)≤i∧i<n:=by
 unfold ixN at h
 by_cases h0:0≤i
 ·rw [if_pos h0] at h
  by_cases h1:i<n
  ·rw [if_pos h1] at h
   have e:i.toNat=j:=qh h
   exact ⟨by rw [seqIndex_of h0 h1,e],by omega,by omega,h1⟩
  ·rw [if_neg h1] at h;cases h
 ·rw [if_neg h0] at h
  by_cases h1:-(n:Int)≤i
  ·rw [if_pos h1] at h
   have e:(i+n).toNat=j:=qh h
   exact ⟨by rw [seqIndex_neg (by omega) h1,e],by omega,h1,by omega⟩
  ·rw [if_neg h1] at h;cases h
theorem zzt {α:Type} {xs:List α} {i:Int} {v:α} (h:atI xs i=some v):∃ j,seqIndex? i xs.length=some j∧xs[j]?=some v∧j<xs.length∧-(xs.length:Int)≤i∧i<xs.length:=by
 unfold atI at h
 cases e:ixN xs.length i with
 | none=>rw [e] at h;cases h
 | some j =>
  rw [e] at h
  obtain ⟨h1,h2,h3,h4⟩:=zaoe e
  exact ⟨j,h1,h,h2,h3,h4⟩
theorem zmn {α:Type} {xs:List α} {j:Nat} {v:α} (h:xs[j]?=some v):atI xs (j:Int)=some v:=by
 have hj:j<xs.length:=(qP.mp h).1
 have e:ixN xs.length (j:Int)=some j:=by
  unfold ixN
  rw [if_pos (by omega),if_pos (by omega)];simp
 unfold atI;rw [e];exact h
def PlainIx (b:Expr):Prop:=∀ o i,subscripted b false o i=operate [o,i] (getItem o i)
noncomputable def IxR (X:Cx) (r:R2):Prop :=
 ∀ (value slice:Expr) (pins:List (Addr×Obj)) (s:Shared) (σ:St) (H:Hp) (x y:V) (v u:Value) (Q:VK),Inv X pins σ H s→RelV x v→RelV y u→r x y H Q →
  subscripted slice false v u=operate [v,u] (getItem v u)→wpAny (model X.prog X.w) X.A (subscriptTail value slice v u) (EP X pins σ Q) X.xe s
noncomputable def MtR (X:Cx) (id:String) (r:V→List V→Hp→VK→Prop):Prop :=
 ∀ (pins:List (Addr×Obj)) (s:Shared) (σ:St) (H:Hp) (x:V) (xs:List V) (v:Value) (us:List Value) (Q:VK),Inv X pins σ H s→RelV x v→Vals xs us→r x xs H Q →
  wpAny (model X.prog X.w) X.A (call (.builtin id) (v::us)) (EP X pins σ Q) X.xe s
section
variable {X:Cx} {a b:Expr} {ta tb:TE} {pos:Pos}
theorem zarq {r:R2} (hr:IxR X r) (ha:PE X a ta) (hb:PE X b tb) (hs:PlainIx b):PE X (.Subscript a b pos) (tOp r ta tb):=by
 intro pins s σ H Q I h
 exact Subscript_ (binT ha hb I h fun v u s2 x y H2 I2 rx ry q=>hr a b pins s2 σ H2 x y v u Q I2 rx ry q (hs _ _))
def rIxL (K:qB):R2:=fun x y H Q=>∃ p xs i v,x=.ref p∧y=.int i∧SqL K H p xs∧atI xs i=some v∧Q v H
def rIxT (K:qB):R2:=fun x y H Q=>∃ p xs i v,x=.ref p∧y=.int i∧SqT K H p xs∧atI xs i=some v∧Q v H
def rIxS:R2:=fun x y H Q=>∃ z i c,x=.str z∧y=.int i∧z.length≤qU∧atI z.cps.toList i=some c∧Q (.str ⟨#[c]⟩) H
theorem zaof:IxR X (rIxL X.K):=by
 intro value slice pins s σ H x y v u Q I rx ry h hs
 obtain ⟨p,xs,i,z,rfl,rfl,hq,he,q⟩:=h
 cases rx
 obtain ⟨t,rfl⟩:=ry
 obtain ⟨its,r,pl,hz⟩:=I.list hq
 obtain ⟨j,h1,h2,h3,h4,h5⟩:=zzt he
 obtain ⟨w,ew,rw'⟩:=r.get h2
 have hl:=r.length
 have hn:=zwf
 have fin:EP X pins σ Q w s:=⟨z,H,I,rw',q⟩
 by_cases h0:0≤i
 ·have hj:i.toNat=j:=by
   rw [seqIndex_of h0 h5] at h1
   exact qh h1
  exact item_listR pl.isList h0 (by omega) (by rw [hj];simpa using ew) fin hs
 ·have hj:(i+(its.toArray.size:Int)).toNat=j:=by
   rw [seqIndex_neg (by omega) h4] at h1
   rw [qR,← hl]
   exact qh h1
  exact subscriptTail_builtinR (x:=w) pl.isList.typeIs slot_list_getitem.lookup
   (wpAny_getItem_list_neg (Q:=fun r s'=>r=w∧EP X pins σ Q r s') pl.isList (by omega) (by rw [qR]<;>omega) (by omega) (by rw [hj];simpa using ew) ⟨rfl,fin⟩) hs
theorem zarr:IxR X (rIxT X.K):=by
 intro value slice pins s σ H x y v u Q I rx ry h hs
 obtain ⟨p,xs,i,z,rfl,rfl,hq,he,q⟩:=h
 cases rx
 obtain ⟨t,rfl⟩:=ry
 obtain ⟨its,r,pl,hz⟩:=I.tuple hq
 obtain ⟨j,h1,h2,h3,h4,h5⟩:=zzt he
 obtain ⟨w,ew,rw'⟩:=r.get h2
 have hl:=r.length
 have hn:=zwf
 have fin:EP X pins σ Q w s:=⟨z,H,I,rw',q⟩
 exact subscriptTail_builtinR (x:=w) pl.typeIs slot_tuple_getitem.lookup
  (getItem_tuple (j:=j) (Q:=fun r s'=>r=w∧EP X pins σ Q r s') pl (by omega) (by omega) (by rw [qR,← hl];exact h1) (by simpa using ew) ⟨rfl,fin⟩) hs
theorem zars:IxR X rIxS:=by
 intro value slice pins s σ H x y v u Q I rx ry h hs
 obtain ⟨z,i,c,rfl,rfl,hz,he,q⟩:=h
 obtain ⟨t,rfl⟩:=rx
 obtain ⟨t',rfl⟩:=ry
 obtain ⟨j,h1,h2,h3,h4,h5⟩:=zzt he
 have hl:z.cps.toList.length=z.length:=by simp [Str.length]
 rw [hl] at h1 h4 h5
 have hn:=zwf
 exact tail_any (typeIs_str s z t) slot_str_getitem.lookup (getItem_str (c:=c) (by
  have e1:decide (i < -(2 ^ 63:Int))=false:=decide_eq_false (by omega)
  have e2:decide (i≥2 ^ 63)=false:=decide_eq_false (by omega)
  rw [e1,e2,Bool.or_false]) (by rw [h1];simpa using h2) ⟨.str ⟨#[c]⟩,H,I.tok _,⟨_,rfl⟩,q⟩) hs
theorem zwo (lo hi:Option Int) (n:Nat):(sliceBounds lo hi none n).1=((HT.sIx n 0 lo:Nat):Int)∧(sliceBounds lo hi none n).2.1=((HT.sIx n n hi:Nat):Int)∧(sliceBounds lo hi none n).2.2=1:=by
 refine ⟨?_,?_,rfl⟩
 ·cases lo with
  | none=>simp [sliceBounds,HT.sIx]
  | some i =>
   simp only [sliceBounds,HT.sIx,Option.getD_none,show (1:Int) > 0 by decide,if_true]
   by_cases h:i<0
   ·simp only [h,if_true]<;>omega
   ·simp only [h,if_false]<;>omega
 ·cases hi with
  | none=>simp [sliceBounds,HT.sIx]
  | some i =>
   simp only [sliceBounds,HT.sIx,Option.getD_none,show (1:Int) > 0 by decide,if_true]
   by_cases h:i<0
   ·simp only [h,if_true]<;>omega
   ·simp only [h,if_false]<;>omega
theorem zuj (its:List Value) (lo hi:Option Int):slicePick its.toArray lo hi none=((its.drop (HT.sIx its.length 0 lo)).take (HT.sIx its.length its.length hi - HT.sIx its.length 0 lo)).toArray:=by
 obtain ⟨h1,h2,h3⟩:=zwo lo hi its.toArray.size
 unfold slicePick
 rw [h1,h2,h3]
 simp only [sliceRange_one,pick_run,qR]<;>rfl
def rSlL (K:qB):V→Option Int→Option Int→Hp→VK→Prop:=fun x lo hi H Q=>∃ a xs,x=.ref a∧SqL K H a xs∧∀ p,H p=none→Q (.ref p) (upd H p (.lst (cutV xs lo hi)))
theorem zaog:SlR X (rSlL X.K):=by
 intro pins s σ H x v vl vu lo hi sl Q I rx hs pl pu h
 obtain ⟨a,xs,rfl,hx,q⟩:=h
 cases rx
 obtain ⟨its,r,ht,hz⟩:=I.list hx
 have hlen:=r.length
 refine ⟨"list",_,slot_list_getitem.lookup,ht.isList.typeIs,?_⟩
 refine wpAny_getItem_list_slice ht.isList hs pl pu .none (by simp) ?_ (by rw [qR]<;>omega)
 rw [zuj,← hlen]
 refine ⟨.ref s.heap.objs.size,_,I.laid (t':=s.toks) (o:=.lst (cutV xs lo hi)) (fun b ob q=>qE _ q) (qJ _) ?_,rfl,q _ (I.hok.fresh (qJ _))⟩
 exact ⟨qAG (zqh xs lo hi) hz,_,0,(r.drop (HT.sIx xs.length 0 lo)).take (HT.sIx xs.length xs.length hi - HT.sIx xs.length 0 lo),qb _ rfl⟩
def zsm:V→Bool
 | .non=>true
 | .bl _=>true
 | .int _=>true
 | .str _=>true
 | _=>false
def eqV:V→V→Bool
 | .non,.non=>true
 | .bl a,.bl b=>a==b
 | .bl a,.int b=>(if a then 1 else 0)==b
 | .int a,.bl b=>a==(if b then 1 else 0)
 | .int a,.int b=>a==b
 | .str a,.str b=>a==b
 | _,_=>false
theorem zart {A:Around} {s:Shared} {y x:V} {u v:Value} (ry:RelV y u) (rx:RelV x v) (fy:zsm y=true) (fx:zsm x=true):SeqAt.EqAt A s u v (eqV y x):=by
 cases y with
 | non =>
  cases ry
  cases x with
  | non=>cases rx;exact SeqAt.EqAt.same _
  | bl b=>cases rx;exact SeqAt.EqAt.none_bool b
  | int b=>obtain ⟨t,rfl⟩:=rx;exact SeqAt.EqAt.none_int b t
  | str b=>obtain ⟨t,rfl⟩:=rx;exact SeqAt.EqAt.none_str b t
  | _=>exact absurd (show false=true from fx) qS
 | bl a =>
  cases ry
  cases x with
  | non=>cases rx;exact SeqAt.EqAt.bool_none a
  | bl b=>cases rx;exact SeqAt.EqAt.bool_bool a b
  | int b=>obtain ⟨t,rfl⟩:=rx;exact SeqAt.EqAt.bool_int a b t
  | str b=>obtain ⟨t,rfl⟩:=rx;exact SeqAt.EqAt.bool_str a b t
  | _=>exact absurd (show false=true from fx) qS
 | int a =>
  obtain ⟨t',rfl⟩:=ry
  cases x with
  | non=>cases rx;exact SeqAt.EqAt.int_none a t'
  | bl b=>cases rx;exact SeqAt.EqAt.int_bool a t' b
  | int b=>obtain ⟨t,rfl⟩:=rx;exact SeqAt.EqAt.int_int a t' b t
  | str b=>obtain ⟨t,rfl⟩:=rx;exact qCn a t' b t
  | _=>exact absurd (show false=true from fx) qS
 | str a =>
  obtain ⟨t',rfl⟩:=ry
  cases x with
  | non=>cases rx;exact SeqAt.EqAt.str_none a t'
  | bl b=>cases rx;exact SeqAt.EqAt.str_bool a t' b
  | int b=>obtain ⟨t,rfl⟩:=rx;exact qCm a t' b t
  | str b=>obtain ⟨t,rfl⟩:=rx;exact SeqAt.EqAt.str_str a t' b t
  | _=>exact absurd (show false=true from fx) qS
 | _=>exact absurd (show false=true from fy) qS
def eqU (x:V) (u:Value):Bool:=match u with
 | .none=>eqV .non x
 | .bool b=>eqV (.bl b) x
 | .int i _=>eqV (.int i) x
 | .str z _=>eqV (.str z) x
 | _=>false
theorem zamr {x y:V} {u:Value} (r:RelV y u) (f:zsm y=true):eqU x u=eqV y x:=by
 cases y with
 | non=>cases r;rfl
 | bl b=>cases r;rfl
 | int i=>obtain ⟨t,rfl⟩:=r;rfl
 | str z=>obtain ⟨t,rfl⟩:=r;rfl
 | _=>exact absurd (show false=true from f) qS
theorem zqi {x:V}:∀ {xs:List V} {us:List Value},Vals xs us→xs.all zsm=true→us.any (eqU x)=xs.any fun y=>eqV y x
 | _,_,.nil,_=>rfl
 | y::xs,u::us,.cons r t,f=>by
  rw [qAy,qAB] at f
  rw [qBA,qBA,zamr r f.1,zqi t f.2]
theorem zna {A:Around} {s:Shared} {x:V} {v:Value} (rx:RelV x v) (fx:zsm x=true):∀ {xs:List V} {us:List Value},Vals xs us→xs.all zsm=true→∀ u∈us,SeqAt.EqAt A s u v (eqU x u)
 | _,_,.nil,_=>fun u hu=>by cases hu
 | y::xs,u::us,.cons r t,f=>fun u' hu=>by
  rw [qAy,qAB] at f
  rcases qX.mp hu with rfl|hu
  ·rw [zamr r f.1];exact zart r rx f.1 fx
  ·exact zna rx fx t f.2 u' hu
def inV (x:V) (xs:List V):Bool:=xs.any fun y=>eqV y x
def rIn (K:qB) (neg:Bool):R2:=fun x y H Q=>∃ p xs,y=.ref p∧(SqL K H p xs∨SqT K H p xs)∧zsm x=true∧xs.all zsm=true∧Q (.bl (if neg then !inV x xs else inV x xs)) H
theorem zafk:OpR X (compareOp .In) (rIn X.K false):=by
 intro pins s σ H x y v u Q I rx ry h
 obtain ⟨p,xs,rfl,hq,fx,fs,q⟩:=h
 cases ry
 rcases hq with hq|hq
 ·obtain ⟨its,r,pl,hz⟩:=I.list hq
  refine SeqAt.in_listAt (eqU x) pl.isList (fun w hw=>zna rx fx r fs w (by simpa using hw)) ⟨.bl _,H,I,rfl,?_⟩
  rw [show its.toArray.any (eqU x)=its.any (eqU x) by simp,zqi r fs]
  exact q
 ·obtain ⟨its,r,pl,hz⟩:=I.tuple hq
  refine SeqAt.in_tupleAt (eqU x) pl (fun w hw=>zna rx fx r fs w (by simpa using hw)) ⟨.bl _,H,I,rfl,?_⟩
  rw [show its.toArray.any (eqU x)=its.any (eqU x) by simp,zqi r fs]
  exact q
theorem zwp:OpR X (compareOp .NotIn) (rIn X.K true):=by
 intro pins s σ H x y v u Q I rx ry h
 obtain ⟨p,xs,rfl,hq,fx,fs,q⟩:=h
 cases ry
 rcases hq with hq|hq
 ·obtain ⟨its,r,pl,hz⟩:=I.list hq
  refine SeqAt.notIn_listAt (eqU x) pl.isList (fun w hw=>zna rx fx r fs w (by simpa using hw)) ⟨.bl _,H,I,rfl,?_⟩
  rw [show its.toArray.any (eqU x)=its.any (eqU x) by simp,zqi r fs]
  exact q
 ·obtain ⟨its,r,pl,hz⟩:=I.tuple hq
  refine SeqAt.notIn_tupleAt (eqU x) pl (fun w hw=>zna rx fx r fs w (by simpa using hw)) ⟨.bl _,H,I,rfl,?_⟩
  rw [show its.toArray.any (eqU x)=its.any (eqU x) by simp,zqi r fs]
  exact q
theorem zwq:CallR X (.type "list") (fun xs H Q=>∃ p ys,xs=[.ref p]∧(SqL X.K H p ys∨SqT X.K H p ys)∧∀ l,H l=none→Q (.ref l) (upd H l (.lst ys))):=by
 intro pins s σ H xs us Q I r h
 obtain ⟨p,ys,rfl,hq,q⟩:=h
 obtain ⟨u,rfl,rx⟩:=zwg r
 cases rx
 have fin:∀ (its:List Value),Vals ys its→ys.length≤qU→∀ (h':Heap) (c':Nat),(∀ b o',s.heap.get? b=some o'→h'.get? b=some o') →
   h'.get? s.heap.objs.size=some {cls:=.type "list",dict:=none,data:=.seq its.toArray c',slots:=#[]}→EP X pins σ Q (.ref s.heap.objs.size) {s with heap:=h'}:=fun its r' hz h' c' kp e =>
  ⟨.ref s.heap.objs.size,_,I.laid (t':=s.toks) kp (qJ _) (show zfc X.prog X.w _ h' _ (.lst ys) from ⟨hz,its,c',r',e⟩),rfl,q _ (I.hok.fresh (qJ _))⟩
 rcases hq with hq|hq
 ·obtain ⟨its,r',pl,hz⟩:=I.list hq
  have hlen:=r'.length
  obtain ⟨o,ho,hc,n,hd⟩:=pl.isList
  exact call_list_seq p (.inl rfl) ho hc hd (fun h' c' kp e=>fin its r' hz h' c' kp e) (by simp only [qR]<;>omega)
 ·obtain ⟨its,r',pl,hz⟩:=I.tuple hq
  have hlen:=r'.length
  obtain ⟨o,ho,hc,n,hd⟩:=pl
  exact call_list_seq p (.inr rfl) ho hc hd (fun h' c' kp e=>fin its r' hz h' c' kp e) (by simp only [qR]<;>omega)
theorem zuk:CallR X (.type "tuple") (fun xs H Q=>∃ p ys,xs=[.ref p]∧((SqL X.K H p ys∧∀ l,H l=none→Q (.ref l) (upd H l (.tup ys)))∨(SqT X.K H p ys∧Q (.ref p) H))):=by
 intro pins s σ H xs us Q I r h
 obtain ⟨p,ys,rfl,h⟩:=h
 obtain ⟨u,rfl,rx⟩:=zwg r
 cases rx
 rcases h with ⟨hq,q⟩|⟨hq,q⟩
 ·obtain ⟨its,r',pl,hz⟩:=I.list hq
  have hlen:=r'.length
  refine call_tuple_list pl.isList (fun h' kp=>?_) (by simp only [qR]<;>omega)
  have I1:Inv X pins σ H {s with heap:=h'}:=I.kept (t':=s.toks) kp
  have I2:Inv X pins σ (upd H h'.objs.size (.tup ys)) {s with heap:=h'.push {cls:=.type "tuple",data:=.seq its.toArray}} :=
   I1.laid (t':=s.toks) (fun b o e=>qE _ e) (qJ _) (show zfc X.prog X.w _ _ _ (.tup ys) from ⟨hz,its,r',IsTup.new _ _⟩)
  exact ⟨.ref h'.objs.size,_,I2,rfl,q _ (I1.hok.fresh (qJ _))⟩
 ·obtain ⟨its,r',pl,hz⟩:=I.tuple hq
  exact call_tuple_same pl ⟨.ref p,H,I,rfl,q⟩
noncomputable def tyV (K:qB) (T:String) (x:V) (H:Hp):Prop:=match x with
 | .str _=>T = "str"
 | .int _=>T = "int"
 | .ref p=>(T = "list" ∧ ∃ xs,SqL K H p xs)∨(T = "tuple" ∧ ∃ o,K.lookup p=some o∧o.cls=.type "tuple" ∧ o.dict=none) ∨
   (T = "dict" ∧ ((∃ kvs,H p=some (.dK kvs))∨∃ kvs,H p=some (.dT kvs)))∨(T = "set" ∧ ∃ S n,H p=some (.set S n))
 | _=>False
theorem zaru {pins:List (Addr×Obj)} {σ:St} {H:Hp} {s:Shared} {T:String} {x:V} {v:Value} (I:Inv X pins σ H s) (r:RelV x v) (ty:tyV X.K T x H) :
  s.TypeIs v T∧∀ a,v=.ref a→∃ ob,s.heap.get? a=some ob∧ob.dict=none:=by
 cases x with
 | str z =>
  obtain ⟨t,rfl⟩:=r
  cases (show T = "str" from ty)
  exact ⟨typeIs_str s z t,fun _ e=>nomatch e⟩
 | int i =>
  obtain ⟨t,rfl⟩:=r
  cases (show T = "int" from ty)
  exact ⟨typeIs_int s i t,fun _ e=>nomatch e⟩
 | ref p =>
  cases r
  rcases ty with ⟨rfl,xs,hq⟩|⟨rfl,o,hk,hc,hd⟩|⟨rfl,hk⟩|⟨rfl,S,n,hk⟩
  ·obtain ⟨its,_,pl,_⟩:=I.list hq
   refine ⟨pl.isList.typeIs,fun a e=>?_⟩
   cases e
   obtain ⟨o,n,e,c,hd,_⟩:=pl
   exact ⟨o,e,hd⟩
  ·refine ⟨⟨o,I.kIn p o hk,hc⟩,fun a e=>?_⟩
   cases e
   exact ⟨o,I.kIn _ o hk,hd⟩
  ·have z:∃ o,s.heap.get? p=some o∧o.ExactDict:=by
    rcases hk with ⟨kvs,hk⟩|⟨kvs,hk⟩
    ·obtain ⟨_,_,_,_,o,_,_,e,ex,_⟩:=I.hok p _ hk
     exact ⟨o,e,ex⟩
    ·obtain ⟨_,_,_,_,o,_,_,e,ex,_⟩:=I.hok p _ hk
     exact ⟨o,e,ex⟩
   obtain ⟨o,e,ex⟩:=z
   refine ⟨⟨o,e,ex.1⟩,fun a e2=>?_⟩
   cases e2
   exact ⟨o,e,ex.2.1⟩
  ·obtain ⟨o,_,_,_,e,ex,_⟩:=I.hok p _ hk
   refine ⟨⟨o,e,ex.1⟩,fun a e2=>?_⟩
   cases e2
   exact ⟨o,e,ex.2.1⟩
 | _=>exact False.elim ty
def tBM (K:qB) (T:String) (r:V→List V→Hp→VK→Prop) (to:TE) (t:TA):TE:=fun σ H Q=>to σ H fun x H1=>tyV K T x H1∧t σ H1 fun xs H2=>r x xs H2 Q
variable {o e:Expr} {es:List Expr} {to:TE} {t:TA} {name:Str} {apos cpos:Pos} {T id:String} {r:V→List V→Hp→VK→Prop}
theorem zaug (pa:PlainAttrs T) (slot:Slot T name id) (hty:typeOf (.builtin id)=pure (.type "method_descriptor")) (hm:MtR X id r) (ho:PE X o to) (ha:PA X (e::es) t)
  (hbase:attributeBase o name X.env (eval o X.env)=eval o X.env:=by rfl)
  (hfew:((backTo cpos (starEach (e::es) X.env)).all (fun x=>!x.1)&&(backToKw cpos (keywordEach [] X.env)).all (fun x=>x.1.isSome)
   && decide ((e::es).length+([]:List Keyword).length+(if ([]:List Keyword).isEmpty then 0 else 1)<30))=true:=by rfl)
  (hline:(apos.endLine==cpos.line)=true:=by rfl) (hs:starEach (e::es) X.env=(false,eval e X.env)::starEach es X.env:=by rfl) (hplain:(backTo cpos (starEach es X.env)).any (·.1)=false:=by rfl) :
  PE X (.Call (.Attribute o name apos) (e::es) [] cpos) (tBM X.K T r to t):=by
 intro pins s σ H Q I h
 refine wpAny_Call_method_late hbase hfew hline rfl (thn (ho pins s σ H _ I h) fun v s1 ⟨x,H1,I1,r1,ty,q1⟩=>?_)
 obtain ⟨h1,h2⟩:=zaru I1 r1 ty
 refine ⟨T,id,pa,slot,hty,h1,h2,?_⟩
 have hA:=ha cpos pins s1 σ H1 _ I1 q1
 rw [hs] at hA ⊢
 refine qCr (by show (false||(backTo cpos (starEach es X.env)).any (·.1))=false;rw [hplain]<;>rfl) (qC5 ?_)
 exact thn hA fun us s2 ⟨vs,H2,I2,r2,q2⟩=>hm pins s2 σ H2 x vs v us Q I2 r1 r2 q2
end
noncomputable def MtM (X:Cx) (id:String) (r:V→List V→Hp→VK→Prop):Prop :=
 ∀ (pins:List (Addr×Obj)) (s:Shared) (σ:St) (H:Hp) (x:V) (xs:List V) (v:Value) (us:List Value) (Q:VK),Inv X pins σ H s→RelV x v→Vals xs us→r x xs H Q →
  wpAny (model X.prog X.w) X.A (call (.builtin id) (v::us)) (EP X pins σ Q) X.xe s
theorem Vals.one:∀ {x:V} {us:List Value},Vals [x] us→∃ u,us=[u]∧RelV x u
 | _,_,.cons r .nil=>⟨_,rfl,r⟩
theorem Vals.eraseIdx:∀ {xs:List V} {us:List Value} (i:Nat),Vals xs us→Vals (xs.eraseIdx i) (us.eraseIdx i)
 | _,_,_,.nil=>.nil
 | _,_,0,.cons _ t=>t
 | _,_,i+1,.cons r t=>.cons r (Vals.eraseIdx i t)
theorem zwr {α:Type}:∀ (l:List α) (i:Nat),(l.eraseIdx i).length≤l.length
 | [],_=>qJ _
 | _::_,0=>qCe _
 | _::r,i+1=>Nat.succ_le_succ (zwr r i)
section
variable {X:Cx} {pins:List (Addr×Obj)} {σ:St} {H:Hp} {s:Shared} {l b:Addr} {xs ys zs:List V}
theorem Inv.lset {its its':List Value} {n:Nat} {f:Array Value→Array Value} {t':Nat} (I:Inv X pins σ H s) (hH:H l=some (.lst xs))
  (e:s.heap.get? l=some {cls:=.type "list",data:=.seq its.toArray n}) (hf:f its.toArray=its'.toArray) (hv:Vals ys its') (hz:ys.length≤qU) :
  Inv X pins σ (upd H l (.lst ys)) {s with heap:=s.heap.update l (Obj.mapSeq f),toks:=t'}:=by
 have q:=PySem.IsL.update e f
 rw [hf] at q
 refine I.write (x:=l) (e:=l) (by rw [hH];exact trivial) (.inl rfl) (fun b' u hb hu=>(qAi s.heap (Obj.mapSeq f) (qAp hb)).trans hu) ⟨_,q⟩ ?_
 exact ⟨hz,its',_,hv,q⟩
theorem Inv.lnew {its:List Value} {t':Nat} (I:Inv X pins σ H s) (hv:Vals ys its) (hz:ys.length≤qU) :
  Inv X pins σ (upd H s.heap.objs.size (.lst ys)) {s with heap:=s.heap.push {cls:=.type "list",data:=.seq its.toArray},toks:=t'} :=
 I.laid (fun _ _ q=>qE _ q) (qJ _) ⟨hz,its,0,hv,qb _ rfl⟩
theorem Inv.fresh (I:Inv X pins σ H s):H s.heap.objs.size=none:=I.hok.fresh (qJ _)
theorem Inv.lstM (I:Inv X pins σ H s) (hH:H l=some (.lst xs)):xs.length≤qU∧∃ (its:List Value) (n:Nat),Vals xs its∧xs.length=its.length∧s.heap.get? l=some {cls:=.type "list",data:=.seq its.toArray n}:=by
 obtain ⟨z,its,n,r,e⟩:=I.hok l _ hH
 exact ⟨z,its,n,r,r.length,e⟩
theorem zajq {n:Nat} (h:n≤qU):Builtin.List.listTooLong n=false:=by
 unfold Builtin.List.listTooLong
 exact decide_eq_false (by omega)
end
section
variable {X:Cx}
def zqj:V→List V→Hp→VK→Prop:=fun x vs H Q=>∃ l xs y,x=.ref l∧vs=[y]∧H l=some (.lst xs)∧xs.length<qU∧Q .non (upd H l (.lst (xs++[y])))
theorem zcn:MtM X "list.append" zqj:=by
 intro pins s σ H x vs v us Q I rx rv h
 obtain ⟨l,xs,y,rfl,rfl,hH,hz,q⟩:=h
 cases rx
 obtain ⟨u,rfl,ru⟩:=rv.one
 obtain ⟨z,its,n,r,hl,e⟩:=I.lstM hH
 refine qDF F.slot_list_append ⟨_,e,rfl⟩ F.entry_list_append (F.args_list_append_2 _ _) (PySem.list_append l its.toArray n u (by rw [qR];omega)) ⟨e,?_⟩
 refine ⟨.non,_,I.lset (its':=its++[u]) hH e (by simp) (r.append (.cons ru .nil)) ?_,rfl,q⟩
 rw [qW,List.length_singleton]
 omega
def zaoh:V→List V→Hp→VK→Prop:=fun x vs H Q=>∃ l b xs zs,x=.ref l∧vs=[.ref b]∧H l=some (.lst xs)∧H b=some (.lst zs)∧xs.length+zs.length≤qU∧Q .non (upd H l (.lst (xs++zs)))
theorem zarv:MtM X "list.extend" zaoh:=by
 intro pins s σ H x vs v us Q I rx rv h
 obtain ⟨l,b,xs,zs,rfl,rfl,hH,hB,hz,q⟩:=h
 cases rx
 obtain ⟨u,rfl,ru⟩:=rv.one
 cases ru
 obtain ⟨z,its,n,r,hl,e⟩:=I.lstM hH
 obtain ⟨z2,its2,n2,r2,hl2,e2⟩:=I.lstM hB
 have hsz:its.toArray.size+its2.toArray.size≤qU:=by rw [qR,qR];omega
 have hlong:¬ (!its.toArray.isEmpty&&Builtin.List.listTooLong (its.toArray.size+its2.toArray.size))=true:=by
  rw [zajq hsz,Bool.and_false]
  exact qS
 refine qDF F.slot_list_extend ⟨_,e,rfl⟩ F.entry_list_extend (F.args_list_extend_2 _ _)
  (AutoSeq1.list_extend_list_list_0 l its.toArray n b its2.toArray n2 hlong (by rw [qR];omega) (by omega)) ⟨e,e2,?_⟩
 refine ⟨.non,_,I.lset (its':=its++its2) hH e (by simp) (r.append r2) ?_,rfl,q⟩
 rw [qW]
 omega
def zams:V→List V→Hp→VK→Prop:=fun x vs H Q=>∃ l xs i k y,x=.ref l∧vs=[.int i]∧H l=some (.lst xs)∧-(2 ^ 63)≤i∧i<2 ^ 63∧seqIndex? i xs.length=some k∧xs[k]?=some y∧Q y (upd H l (.lst (xs.eraseIdx k)))
theorem zajr:MtM X "list.pop" zams:=by
 intro pins s σ H x vs v us Q I rx rv h
 obtain ⟨l,xs,i,k,y,rfl,rfl,hH,h1,h2,hk,hy,q⟩:=h
 cases rx
 obtain ⟨u,rfl,ru⟩:=rv.one
 obtain ⟨t,rfl⟩:=ru
 obtain ⟨z,its,n,r,hl,e⟩:=I.lstM hH
 obtain ⟨w,hw,rw'⟩:=r.get hy
 refine qDF F.slot_list_pop ⟨_,e,rfl⟩ F.entry_list_pop (F.args_list_pop_2 _ _)
  (MeetsSeq.list_pop_at l its.toArray n i t k w (fitsIndex_both h1 h2) (by rw [qR,← hl];exact hk) (by rw [← Array.getElem?_toList];exact hw) (by rw [qR];omega)) ⟨e,?_⟩
 refine ⟨y,_,I.lset (its':=its.eraseIdx k) hH e ?_ (r.eraseIdx k) ?_,rw',q⟩
 ·show its.toArray.eraseIdxIfInBounds k=(its.eraseIdx k).toArray
  rw [List.eraseIdxIfInBounds_toArray]
 ·have:=zwr xs k
  omega
def rCat:R2:=fun x y H Q=>∃ l b xs zs,x=.ref l∧y=.ref b∧H l=some (.lst xs)∧H b=some (.lst zs)∧xs.length+zs.length≤qU∧∀ p,H p=none→Q (.ref p) (upd H p (.lst (xs++zs)))
theorem zarw:OpR X (binaryOp .Add) rCat:=by
 intro pins s σ H x y v u Q I rx ry h
 obtain ⟨l,b,xs,zs,rfl,rfl,hH,hB,hz,q⟩:=h
 cases rx
 cases ry
 obtain ⟨z,its,n,r,hl,e⟩:=I.lstM hH
 obtain ⟨z2,its2,n2,r2,hl2,e2⟩:=I.lstM hB
 refine PySem.P.add_list e e2 ?_ (by rw [qR,qR];omega)
 have ea:its.toArray++its2.toArray=(its++its2).toArray:=by simp
 rw [ea]
 exact ⟨.ref _,_,I.lnew (t':=s.toks) (r.append r2) (by rw [qW];omega),rfl,q _ I.fresh⟩
end
section
variable {prog:Program} {w:World} {A:Around} {E:Value→Shared→Prop} {s:Shared}
set_option maxRecDepth 100000 in
end
section
variable {X:Cx}
end
section
variable {κ:Type} [DecidableEq κ]
def valV (kvs:List (κ×V)) (k:κ):Option V:=(kvs.find? fun kv=>decide (kv.1=k)).map (·.2)
def putK (kvs:List (κ×V)) (k:κ) (v:V):List (κ×V) :=
 if (kvs.any fun kv=>decide (kv.1=k))=true then kvs.map (fun kv=>if kv.1=k then (kv.1,v) else kv) else kvs++[(k,v)]
theorem zpx {p:κ×V} {r:List (κ×V)} {k:κ} (e:p.1=k):valV (p::r) k=some p.2:=by simp [valV,qA0,e]
theorem zpy {p:κ×V} {r:List (κ×V)} {k:κ} (e:¬ p.1=k):valV (p::r) k=valV r k:=by simp [valV,qA0,e]
theorem zabo (k:κ):∀ kvs:List (κ×V),(kvs.any fun kv=>decide (kv.1=k))=(valV kvs k).isSome
 | []=>rfl
 | p::r=>by
  rw [qBA]
  by_cases e:p.1=k
  ·simp only [zpx e,decide_eq_true e,Bool.true_or,qC9]
  ·rw [zpy e,decide_eq_false e,qCs];exact zabo k r
theorem zmo (kvs:List (κ×V)) (k:κ) (v:V):(putK kvs k v).length≤kvs.length+1:=by
 unfold putK
 split
 ·rw [qF];omega
 ·rw [qW,qAN,qBT];omega
theorem RelO.isSome_eq {o:Option V} {u:Option Value} (r:RelO o u):o.isSome=u.isSome:=by
 cases o with
 | none=>cases u with
  | none=>rfl
  | some _=>exact (show False from r).elim
 | some _=>cases u with
  | none=>exact (show False from r).elim
  | some _=>rfl
theorem KV.val {kvs:List (κ×V)} {vs:List (κ×Value)} (r:KV kvs vs) (k:κ):RelO (valV kvs k) (valueAt vs k):=by
 unfold KV at r
 induction r with
 | nil=>exact True.intro
 | @cons p q ps qs h t ih =>
  obtain ⟨h1,h2⟩:=h
  by_cases e:p.1=k
  ·have e':q.1=k:=h1.symm.trans e
   have b:valueAt (q::qs) k=some q.2:=by simp [valueAt,qA0,e']
   rw [zpx e,b];exact h2
  ·have e':¬ q.1=k:=fun z=>e (h1.trans z)
   have b:valueAt (q::qs) k=valueAt qs k:=by simp [valueAt,qA0,e']
   rw [zpy e,b];exact ih
theorem KV.any {kvs:List (κ×V)} {vs:List (κ×Value)} (r:KV kvs vs) (k:κ):(kvs.any fun kv=>decide (kv.1=k))=vs.any fun kv=>decide (kv.1=k):=by
 unfold KV at r
 induction r with
 | nil=>rfl
 | cons h t ih=>rw [qBA,qBA,ih,h.1]
theorem KV.repl {kvs:List (κ×V)} {vs:List (κ×Value)} (r:KV kvs vs) (k:κ) {y:V} {u:Value} (ry:RelV y u) :
  KV (kvs.map fun kv=>if kv.1=k then (kv.1,y) else kv) (vs.map fun kv=>if kv.1=k then (kv.1,u) else kv):=by
 unfold KV at r ⊢
 induction r with
 | nil=>exact .nil
 | @cons p q ps qs h t ih =>
  rw [qY,qY]
  refine .cons ?_ ih
  obtain ⟨h1,h2⟩:=h
  by_cases e:p.1=k
  ·rw [if_pos e,if_pos (h1.symm.trans e)];exact ⟨h1,ry⟩
  ·rw [if_neg e,if_neg (fun z=>e (h1.trans z))];exact ⟨h1,h2⟩
theorem KV.put {kvs:List (κ×V)} {vs:List (κ×Value)} (r:KV kvs vs) (k:κ) {y:V} {u:Value} (ry:RelV y u):KV (putK kvs k y) (stored vs k u):=by
 unfold putK stored
 rw [r.any k]
 by_cases e:(vs.any fun kv=>decide (kv.1=k))=true
 ·rw [if_pos e,if_pos e];exact r.repl k ry
 ·rw [if_neg e,if_neg e];exact Paired.snoc r ⟨rfl,ry⟩
theorem KV.length {kvs:List (κ×V)} {vs:List (κ×Value)} (r:KV kvs vs):kvs.length=vs.length:=qCG r
end
theorem zadr {P:Program} {w:World} {k:Key} {u:Value} (r:RelV (kV k) u):(zcx P w).is k u=true:=by
 cases k with
 | inl i=>obtain ⟨t,e⟩:=(show ∃ t,u=Value.int i t from r);subst e;exact zzo P w i t
 | inr x=>obtain ⟨t,e⟩:=(show ∃ t,u=Value.str x t from r);subst e;exact zzp P w x t
theorem zws {P:Program} {w:World}:∀ {ks:List Key} {us:List Value},Vals (ks.map kV) us→ItemsAre (zcx P w) ks us
 | [],_,r=>by rw [qCQ] at r;cases r;exact .nil
 | k::ks,_,r=>by
  rw [qY] at r
  cases r with
  | cons h t=>exact .cons (zadr h) (zws t)
abbrev KT (H:Hp):List (List Key×V)→List (List Key×Addr×Value)→Prop:=Paired fun p q=>p.1=q.1∧H q.2.1=some (.tup (p.1.map kV))∧RelV p.2 q.2.2
theorem KT.val {H:Hp} {kvs:List (List Key×V)} {xs:List (List Key×Addr×Value)} (r:KT H kvs xs) (k:List Key):RelO (valV kvs k) ((atKey xs k).map (·.2)):=by
 induction r with
 | nil=>exact True.intro
 | @cons p q ps qs h t ih =>
  obtain ⟨h1,_,h2⟩:=h
  by_cases e:p.1=k
  ·have e':q.1=k:=h1.symm.trans e
   have b:atKey (q::qs) k=some q.2:=by simp [atKey,qA0,e']
   rw [zpx e,b];exact h2
  ·have e':¬ q.1=k:=fun z=>e (h1.trans z)
   have b:atKey (q::qs) k=atKey qs k:=by simp [atKey,qA0,e']
   rw [zpy e,b];exact ih
theorem KT.repl {H:Hp} {kvs:List (List Key×V)} {xs:List (List Key×Addr×Value)} (r:KT H kvs xs) (k:List Key) {y:V} {u:Value} (ry:RelV y u) :
  KT H (kvs.map fun kv=>if kv.1=k then (kv.1,y) else kv) (xs.map (putAt k u)):=by
 induction r with
 | nil=>exact .nil
 | @cons p q ps qs h t ih =>
  rw [qY,qY]
  refine .cons ?_ ih
  obtain ⟨h1,h2,h3⟩:=h
  unfold putAt
  by_cases e:p.1=k
  ·rw [if_pos e,if_pos (h1.symm.trans e)];exact ⟨h1,h2,ry⟩
  ·rw [if_neg e,if_neg (fun z=>e (h1.trans z))];exact ⟨h1,h2,h3⟩
theorem KT.put {H:Hp} {kvs:List (List Key×V)} {xs:List (List Key×Addr×Value)} (r:KT H kvs xs) (k:List Key) {b:Addr} {y:V} {u:Value} (hb:H b=some (.tup (k.map kV))) (ry:RelV y u) :
  KT H (putK kvs k y) (storedH xs k b u):=by
 have e:(kvs.any fun kv=>decide (kv.1=k))=(atKey xs k).isSome:=by
  rw [zabo,(r.val k).isSome_eq,qDG]
 unfold putK storedH
 rw [e]
 by_cases q:(atKey xs k).isSome=true
 ·rw [if_pos q,if_pos q];exact r.repl k ry
 ·rw [if_neg q,if_neg q];exact Paired.snoc r ⟨rfl,hb,ry⟩
theorem KT.keeps {H H':Hp} {kvs:List (List Key×V)} {xs:List (List Key×Addr×Value)} (r:KT H kvs xs) (ht:∀ b ys,H b=some (.tup ys)→H' b=some (.tup ys)):KT H' kvs xs :=
 Paired.mapP r fun _ _ z=>⟨z.1,ht _ _ z.2.1,z.2.2⟩
section
variable {P:Program} {w:World} {H:Hp} {h:Heap} {a:Addr}
theorem zarx {u:HO} (ok:HOk P w H h) (e:Rd H a u):zfc P w H h a u:=e.ok ok
theorem zajs {kvs:List (Key×V)} (ok:HOk P w H h) (e:Rd H a (.dK kvs)):kvs.length≤qU∧(a==sysModules)=false∧∃ vs,KV kvs vs∧h.DictOf (zcx P w) a vs :=
 show zfc P w H h a (.dK kvs) from zarx ok e
theorem zajt {kvs:List (Key×V)} (ok:HOk P w H h) (e:H a=some (.dK kvs)):kvs.length≤qU∧(a==sysModules)=false∧∃ vs,KV kvs vs∧h.DictOf (zcx P w) a vs:=zajs ok (.inl e)
theorem zabp {ks:List Key} (ok:HOk P w H h) (e:H a=some (.tup (ks.map kV))):(tupleKind (zcx P w)).is h ks a:=by
 obtain ⟨_,its,r,o,h1,h2,n,h3⟩:=(show zfc P w H h a (.tup (ks.map kV)) from ok a _ e)
 exact ⟨o,its.toArray,n,h1,h2,h3,by simpa using zws r⟩
theorem zaju {kvs:List (List Key×V)} (ok:HOk P w H h) (e:Rd H a (.dT kvs)):kvs.length≤qU∧(a==sysModules)=false ∧
  ∃ xs,KT H kvs xs∧h.DictOfH (tupleKind (zcx P w)) a xs:=by
 obtain ⟨z,y,xs,r,o,es,ep,h1,h2,h3,h4,h5⟩:=(show zfc P w H h a (.dT kvs) from zarx ok e)
 refine ⟨z,y,xs,r,o,es,ep,h1,h2,h3,h4,fun x hx=>?_,h5⟩
 have all:∀ {l:List (List Key×V)} {m:List (List Key×Addr×Value)},KT H l m→∀ x∈m,(tupleKind (zcx P w)).is h x.1 x.2.1:=by
  intro l m q
  induction q with
  | nil=>intro x hx;exact nomatch hx
  | @cons p q ps qs hq t ih =>
   intro x hx
   rcases qX.mp hx with e|hx
   ·subst e
    exact zabp ok (by rw [← hq.1];exact hq.2.1)
   ·exact ih x hx
 exact all r x hx
theorem zauh {kvs:List (List Key×V)} (ok:HOk P w H h) (e:H a=some (.dT kvs)):kvs.length≤qU∧(a==sysModules)=false ∧
  ∃ xs,KT H kvs xs∧h.DictOfH (tupleKind (zcx P w)) a xs:=zaju ok (.inl e)
end
def DGet (H:Hp) (a:Addr) (y:V) (r:Option V):Prop :=
 (∃ kvs k,Rd H a (.dK kvs)∧y=kV k∧r=valV kvs k)∨∃ kvs k b,Rd H a (.dT kvs)∧y=.ref b∧H b=some (.tup (k.map kV))∧r=valV kvs k
def DPut (H:Hp) (a:Addr) (y v:V) (H':Hp):Prop :=
 (∃ kvs k,H a=some (.dK kvs)∧y=kV k∧kvs.length<qU∧H'=upd H a (.dK (putK kvs k v))) ∨
 ∃ kvs k b,H a=some (.dT kvs)∧y=.ref b∧H b=some (.tup (k.map kV))∧kvs.length<qU∧H'=upd H a (.dT (putK kvs k v))
theorem DGet.k {H:Hp} {a:Addr} {kvs:List (Key×V)} {k:Key} (e:H a=some (.dK kvs)):DGet H a (kV k) (valV kvs k):=.inl ⟨kvs,k,.inl e,rfl,rfl⟩
theorem DPut.k {H:Hp} {a:Addr} {kvs:List (Key×V)} {k:Key} {v:V} (e:H a=some (.dK kvs)) (hl:kvs.length<qU):DPut H a (kV k) v (upd H a (.dK (putK kvs k v))):=.inl ⟨kvs,k,e,rfl,hl,rfl⟩
section
variable {X:Cx} {pins:List (Addr×Obj)} {σ:St} {H:Hp} {s:Shared} {a:Addr} {y v:V} {u r:Value} {o:Option V} {A:Around} {E:Value→Shared→Prop}
theorem Inv.big (I:Inv X pins σ H s):sysModules<s.heap.objs.size:=by
 have h:qM<s.heap.objs.size:=(I.mod.glob.keeps I.bk).lt
 exact qDA (by decide) h
theorem zafl {Q:Value→Shared→Prop} (hu:A.units+1<cLine) (I:Inv X pins σ H s) (g:DGet H a y (some v)) (ry:RelV y u) (h:∀ w' s',Inv X pins σ H s'→RelV v w'→Q w' s') :
  wpAny (model X.prog X.w) A (getItem (.ref a) u) Q E s:=by
 rcases g with ⟨kvs,k,e,ey,l⟩|⟨kvs,k,b,e,ey,eb,l⟩
 ·subst ey
  obtain ⟨z,hd,vs,rel,dd⟩:=zajs I.hok e
  obtain ⟨w',hw,rw'⟩:=RelO.some_of (v:=v) (o:=valueAt vs k) (by rw [l];exact rel.val k)
  exact wpAny_getItem_of (zadr ry) dd.mapOf hw (h w' _ (I.tok _) rw')
 ·subst ey
  cases (show u=Value.ref b from ry)
  obtain ⟨z,hd,xs,rel,dd⟩:=zaju I.hok e
  obtain ⟨w',hw,rw'⟩:=RelO.some_of (v:=v) (o:=(atKey xs k).map (·.2)) (by rw [l];exact rel.val k)
  obtain ⟨p,hp,hp2⟩:=qG.mp hw
  refine wpAny_getItem_heap (qCW hu) (zabp I.hok eb) dd hp ?_
  rw [hp2]
  exact h w' _ (I.tok _) rw'
theorem d_in {Q:Value→Shared→Prop} (hu:A.units+1<cLine) (I:Inv X pins σ H s) (g:DGet H a y o) (ry:RelV y u) (h:∀ s',Inv X pins σ H s'→Q (.bool o.isSome) s') :
  wpAny (model X.prog X.w) A (compareOp .In u (.ref a)) Q E s:=by
 rcases g with ⟨kvs,k,e,ey,l⟩|⟨kvs,k,b,e,ey,eb,l⟩
 ·subst ey
  obtain ⟨z,hd,vs,rel,dd⟩:=zajs I.hok e
  refine wpAny_in_of (zadr ry) hd dd.mapOf ?_
  rw [← (rel.val k).isSome_eq,← l]
  exact h _ (I.tok _)
 ·subst ey
  cases (show u=Value.ref b from ry)
  obtain ⟨z,hd,xs,rel,dd⟩:=zaju I.hok e
  refine wpAny_in_heap (qCW hu) (zabp I.hok eb) hd dd ?_
  have q:=(rel.val k).isSome_eq
  rw [qDG] at q
  rw [← q,← l]
  exact h _ (I.tok _)
theorem zul {h':Heap} {t':Nat} {ob:HO} (I:Inv X pins σ H s) (mu:Mut (H a)) (hs:Heap.SameBut a s.heap h') (he:∃ q,h'.get? a=some q) (new:zfc X.prog X.w (upd H a ob) h' a ob) :
  Inv X pins σ (upd H a ob) {s with heap:=h',toks:=t'} :=
 I.write (x:=a) (e:=a) mu (.inl rfl) (fun b q hb z=>(hs.2 b hb).trans z) he new
theorem zabq {P:Program} {w:World} {H':Hp} {h':Heap} {kvs:List (Key×V)} {vs:List (Key×Value)} (z:kvs.length≤qU) (hd:(a==sysModules)=false) (rel:KV kvs vs) (dd:h'.DictOf (zcx P w) a vs) :
  zfc P w H' h' a (.dK kvs):=⟨z,hd,vs,rel,dd⟩
theorem zafm {H':Hp} {Q:Unit→Shared→Prop} (hu:A.units+1<cLine) (I:Inv X pins σ H s) (g:DPut H a y v H') (ry:RelV y u) (rv:RelV v r) (h:∀ s',Inv X pins σ H' s'→Q () s') :
  wpAny (model X.prog X.w) A (setItem (.ref a) u r) Q E s:=by
 rcases g with ⟨kvs,k,e,ey,l,eH⟩|⟨kvs,k,b,e,ey,eb,l,eH⟩
 ·subst ey eH
  obtain ⟨z,hd,vs,rel,dd⟩:=zajt I.hok e
  have hz:vs.length≤qU:=by rw [← rel.length];exact z
  have hl:(putK kvs k v).length≤qU:=by have:=zmo kvs k v;omega
  refine wpAny_setItem_pairs (hsz:=hz) (zadr ry) dd fun h' dd' hs=>h _ ?_
  have he:∃ q,h'.get? a=some q:=let ⟨q,_,_,hq,_⟩:=dd';⟨q,hq⟩
  exact zul I (by rw [e];exact True.intro) hs he (zabq hl hd (rel.put k rv) dd')
 ·subst ey eH
  cases (show u=Value.ref b from ry)
  obtain ⟨z,hd,xs,rel,dd⟩:=zauh I.hok e
  have hz:xs.length≤qU:=by rw [← qCG rel];exact z
  have hl:(putK kvs k v).length≤qU:=by have:=zmo kvs k v;omega
  refine wpAny_setItem_heap (hsz:=hz) (qCW hu) (zabp I.hok eb) dd fun h' dd' hs=>h _ ?_
  obtain ⟨q,es,ep,hq,h2,h3,h4,_,h5⟩:=dd'
  refine zul I (by rw [e];exact True.intro) hs ⟨q,hq⟩ ⟨hl,hd,_,(rel.put k eb rv).keeps fun c ys ec=>?_,q,es,ep,hq,h2,h3,h4,h5⟩
  rw [zbd (zaty ec e (fun z=>nomatch z))]
  exact ec
end
section
variable {X:Cx} {pins:List (Addr×Obj)} {σ:St} {H:Hp} {s:Shared} {a:Addr} {kvs:List (Key×V)} {k:Key} {u:Value} {A:Around} {E:Value→Shared→Prop}
end
def NoSl (i:Expr):Prop:=∀ ov iv,subscripted i false ov iv=operate [ov,iv] (getItem ov iv)
theorem zaoi {prog:Program} {w:World} {A:Around} {E:Value→Shared→Prop} {s:Shared} {env:Env} {value slice:Expr} {pos:Pos} {T id:String} {Q:Value→Shared→Prop}
  (hl:typeLookup (.type T) "__getitem__" = pure (some (.builtin id))) (hs:NoSl slice)
  (h:wpAny (model prog w) A (eval value env) (fun o s₁=>wpAny (model prog w) A (eval slice env) (fun i s₂=>s₂.TypeIs o T∧wpAny (model prog w) A (getItem o i) Q E s₂) E s₁) E s) :
  wpAny (model prog w) A (eval (.Subscript value slice pos) env) Q E s:=by
 refine Subscript_ (qBM h (fun o s₁ h₁=>qBM h₁ (fun i s₂ h₂=>?_) fun _ _ x=>x) fun _ _ x=>x)
 obtain ⟨hT,h₂⟩:=h₂
 unfold subscriptTail
 refine qC ?_
 rw [getitemInPython_of_ne hT.not_modules]
 refine qC (wpAny_specialOf hT hl ?_)
 have fin:wpAny (model prog w) A (subscripted slice false o i) (fun r s₃=>wpAny (model prog w) A (letTemporaryGo value o r >>= fun _=>pure r) Q E s₃) E s₂:=by
  rw [hs o i]
  exact wpAny_operating (qBM h₂ (fun r s₃ h₃=>qC (wpAny_letTemporaryGo (qI h₃))) fun _ _ x=>x)
 first
  | exact qI (qC fin)
  | exact qC (qI (qC fin))
  | exact qC fin
theorem zzu {X:Cx} {pins:List (Addr×Obj)} {σ:St} {H:Hp} {s:Shared} {a:Addr} {y:V} {o:Option V} (I:Inv X pins σ H s) (g:DGet H a y o):s.TypeIs (.ref a) "dict":=by
 rcases g with ⟨kvs,k,e,_,_⟩|⟨kvs,k,b,e,_,_,_⟩
 ·obtain ⟨_,_,vs,_,dd⟩:=zajs I.hok e
  exact dd.typeIs
 ·obtain ⟨_,_,xs,_,dd⟩:=zaju I.hok e
  exact dd.typeIs
def tDGet (td ty:TE):TE:=fun σ H Q=>td σ H fun x H1=>ty σ H1 fun y H2=>∃ a v,x=.ref a∧DGet H2 a y (some v)∧Q v H2
def tDIn (ty td:TE):TE:=fun σ H Q=>ty σ H fun y H1=>td σ H1 fun x H2=>∃ a o,x=.ref a∧DGet H2 a y o∧Q (.bl o.isSome) H2
def sDPut (td ty tv:TE):TS:=fun D σ H=>tv σ H fun v H1=>td σ H1 fun x H2=>ty σ H2 fun y H3=>∃ a H4,x=.ref a∧DPut H3 a y v H4∧D.nx σ H4
section
variable {X:Cx} {o i e value:Expr} {pos pos' tpos:Pos} {td ty tv:TE}
theorem zaoj (hu:X.A.units+1<cLine) (ho:PE X o td) (hi:PE X i ty) (hs:NoSl i):PE X (.Subscript o i pos) (tDGet td ty):=by
 intro pins s σ H Q I h
 refine zaoi PySem.F.slot_dict_getitem.lookup hs (thn (ho pins s σ H _ I h) fun u s1 ⟨x,H1,I1,rx,q1⟩=>thn (hi pins s1 σ H1 _ I1 q1) fun iv s2 ⟨y,H2,I2,ry,a,v,ex,g,q2⟩=>?_)
 subst ex
 obtain rfl:u=Value.ref a:=rx
 exact ⟨zzu I2 g,zafl hu I2 g ry fun w' s3 I3 rw'=>⟨v,H2,I3,rw',q2⟩⟩
theorem zary (hu:X.A.units+1<cLine) (hi:PE X i ty) (ho:PE X o td):PC X .In i o (tDIn ty td):=by
 intro pins s σ H Q I h
 refine thn (hi pins s σ H _ I h) fun iv s1 ⟨y,H1,I1,ry,q1⟩=>thn (ho pins s1 σ H1 _ I1 q1) fun u s2 ⟨x,H2,I2,rx,a,ov,ex,g,q2⟩=>?_
 subst ex
 obtain rfl:u=Value.ref a:=rx
 exact d_in hu I2 g ry fun s3 I3=>⟨.bl ov.isSome,H2,I3,rfl,q2⟩
theorem zaok (hu:X.A.units+1<cLine) (ho:PE X o td) (hi:PE X i ty) (hv:PE X value tv) (hs:swapsWith value (some (.Subscript o i pos')) pos.line X.env=pure false) :
  PS X (.Assign [.Subscript o i pos'] value pos) (sDPut td ty tv):=by
 intro pins s σ H D I h
 refine wpAny_Assign_Subscript (thn (hv pins s σ H _ I h) fun r s1 ⟨v,H1,I1,rv,q1⟩=>thn (ho pins s1 σ H1 _ I1 q1) fun u s2 ⟨x,H2,I2,rx,q2⟩=>thn (hi pins s2 σ H2 _ I2 q2) fun iv s3 ⟨y,H3,I3,ry,a,H4,ex,g,q3⟩=>?_) hs
 subst ex
 obtain rfl:u=Value.ref a:=rx
 exact zafm hu I3 g ry rv fun s4 I4=>⟨σ,H4,I4,q3⟩
end
theorem zabr {P:Program} {w:World} {H:Hp} (h:Heap) (hb:sysModules<h.objs.size):zfc P w H (h.push {cls:=.type "dict",data:=.dict #[]}) h.objs.size (.dK []) :=
 ⟨qAg _,beq_eq_false_iff_ne.mpr (qAp (qq hb)),[],.nil,qCy h⟩
def tDNewK:TE:=fun _ H Q=>∀ p,H p=none→Q (.ref p) (upd H p (.dK []))
section
variable {X:Cx} {pos:Pos}
theorem zajv:PE X (.Dict [] [] pos) tDNewK:=fun pins s σ H Q I h =>
 wpAny_Dict_empty ⟨.ref s.heap.objs.size,_,I.laid (a:=s.heap.objs.size) (o:=.dK []) (t':=s.toks) (fun _ _ q=>qE _ q) (qJ _) (zabr s.heap I.big),rfl,h _ (I.hok.fresh (qJ _))⟩
end
def zafn:List (TE×TE)→St→Hp→(List (V×V)→Hp→Prop)→Prop
 | [],_,H,Q=>Q [] H
 | (tk,tv)::r,σ,H,Q=>tk σ H fun x H1=>tv σ H1 fun y H2=>zafn r σ H2 fun ps H3=>Q ((x,y)::ps) H3
abbrev VV:List (V×V)→List (Value×Value)→Prop:=Paired fun p q=>RelV p.1 q.1∧RelV p.2 q.2
noncomputable def PPs (X:Cx) (pos:Pos) (keys:List (Option Expr)) (values:List Expr) (trs:List (TE×TE)):Prop :=
 ∀ (pins:List (Addr×Obj)) (s:Shared) (σ:St) (H:Hp) (Q:List (V×V)→Hp→Prop),Inv X pins σ H s→zafn trs σ H Q →
  wpAny (model X.prog X.w) X.A (evalPairs (pairTrees keys values X.env pos)) (fun vs s'=>∃ ps H',Inv X pins σ H' s'∧VV ps vs∧Q ps H') X.xe s
theorem zaol {X:Cx} {pos:Pos}:PPs X pos [] [] []:=fun pins s σ H Q I h=>pairTrees_nil_walk ⟨[],H,I,.nil,h⟩
theorem zajw {X:Cx} {pos:Pos} {k v:Expr} {ks:List (Option Expr)} {vs:List Expr} {tk tv:TE} {trs:List (TE×TE)} (hk:PE X k tk) (hv:PE X v tv) (hr:PPs X pos ks vs trs) :
  PPs X pos (some k::ks) (v::vs) ((tk,tv)::trs):=fun pins s σ H Q I h =>
 pairTrees_cons_walk (thn (hk pins s σ H _ I h) fun u s1 ⟨x,H1,I1,rx,q1⟩=>thn (hv pins s1 σ H1 _ I1 q1) fun w2 s2 ⟨y,H2,I2,ry,q2⟩ =>
  thn (hr pins s2 σ H2 _ I2 q2) fun ws s3 ⟨ps,H3,I3,rel,q3⟩=>⟨(x,y)::ps,H3,I3,.cons ⟨rx,ry⟩ rel,q3⟩)
def ziz (kvs more:List (Key×V)):List (Key×V):=more.foldl (fun acc kv=>putK acc kv.1 kv.2) kvs
theorem KV.merge:∀ {more:List (Key×V)} {rs:List (Key×Value)} {kvs:List (Key×V)} {vs:List (Key×Value)},KV more rs→KV kvs vs→KV (ziz kvs more) (merged vs rs):=by
 intro more rs kvs vs r
 unfold KV at r
 induction r generalizing kvs vs with
 | nil=>intro q;exact q
 | @cons p q ps qs h t ih =>
  intro r0
  have e:KV (putK kvs p.1 p.2) (stored vs q.1 q.2):=by
   have:=r0.put p.1 h.2
   rw [← h.1];exact this
  exact ih e
theorem zhr:∀ (more kvs:List (Key×V)),(ziz kvs more).length≤kvs.length+more.length
 | [],kvs=>by show kvs.length≤kvs.length+0;omega
 | p::r,kvs=>by
  have h1:=zhr r (putK kvs p.1 p.2)
  have h2:=zmo kvs p.1 p.2
  show (ziz (putK kvs p.1 p.2) r).length≤_
  rw [qAN];omega
theorem zte {P:Program} {w:World}:∀ {kvs:List (Key×V)} {ws:List (Value×Value)},VV (kvs.map fun kv=>(kV kv.1,kv.2)) ws→∃ rs,Carries (zcx P w) ws rs∧KV kvs rs
 | [],_,r=>by rw [qCQ] at r;cases r;exact ⟨[],True.intro,.nil⟩
 | p::kvs,_,r=>by
  rw [qY] at r
  cases r with
  | @cons a b as bs h t =>
   obtain ⟨rs,c,q⟩:=zte (P:=P) (w:=w) t
   obtain ⟨b1,b2⟩:=b
   exact ⟨(p.1,b2)::rs,⟨zadr h.1,rfl,c⟩,.cons ⟨rfl,h.2⟩ q⟩
def tDisp (trs:List (TE×TE)):TE:=fun σ H Q=>∀ p,H p=none→zafn trs σ (upd H p (.dK [])) fun ps H2=>H2 p=some (.dK [])∧∃ kvs:List (Key×V),ps=kvs.map (fun kv=>(kV kv.1,kv.2))∧kvs.length≤15∧Q (.ref p) (upd H2 p (.dK (ziz [] kvs)))
theorem zaom {X:Cx} {pos:Pos} {keys:List (Option Expr)} {values:List Expr} {trs:List (TE×TE)} (h:PPs X pos keys values trs) (hall:keys.all (·.isSome)=true) (hl:keys.length=values.length) (h0:keys≠[])
  (h15:keys.length≤15):PE X (.Dict keys values pos) (tDisp trs):=by
 intro pins s σ H Q I q
 have hn:=I.hok.fresh (qJ s.heap.objs.size)
 have I1:=I.laid (a:=s.heap.objs.size) (o:=.dK []) (h':=s.heap.push {cls:=.type "dict",data:=.dict #[]}) (t':=s.toks) (fun _ _ q=>qE _ q) (qJ _) (zabr s.heap I.big)
 refine wpAny_Dict_walk (knd:=zcx X.prog X.w) hall hl h0 h15 (thn (h pins _ σ _ _ I1 (q _ hn)) fun ws s2 ⟨ps,H2,I2,rel,e,kvs,ep,lk,q2⟩=>?_)
 subst ep
 obtain ⟨rs,c,rk⟩:=zte (P:=X.prog) (w:=X.w) rel
 obtain ⟨z,hd,vs0,r0,dd⟩:=zajt I2.hok e
 cases r0
 refine ⟨rs,c,dd,fun h' dd' hs=>⟨.ref s.heap.objs.size,_,?_,rfl,q2⟩⟩
 have hz:(ziz [] kvs).length≤qU:=by
  have h1:=zhr kvs []
  rw [qBT] at h1
  rw [qBD];omega
 have he:∃ q,h'.get? s.heap.objs.size=some q:=let ⟨q,_,_,hq,_⟩:=dd';⟨q,hq⟩
 exact zul I2 (by rw [e];exact True.intro) hs he (zabq hz hd (rk.merge .nil) dd')
set_option genInjectivity false in
set_option genInjectivity false in
section
variable {X:Cx} {pins:List (Addr×Obj)} {σ:St} {H:Hp} {s:Shared} {a:Addr} {y d:V} {u r:Value} {o:Option V} {A:Around} {E:Value→Shared→Prop}
end
section
variable {X:Cx} {o e f:Expr} {apos cpos:Pos} {td ty tx:TE}
end
section
variable {X:Cx} {pins:List (Addr×Obj)} {σ:St} {H:Hp} {s:Shared} {a:Addr} {kvs:List (Key×V)} {A:Around} {E:Value→Shared→Prop}
end
section
variable {X:Cx} {pins:List (Addr×Obj)} {σ:St} {H:Hp} {s:Shared} {a:Addr} {y:V} {u:Value} {A:Around} {E:Value→Shared→Prop}
end
end L2
namespace Att
open PySem PySem.W PySem.Calls PyProof.Rows
theorem zqk {P:Params} {h:Heap}:∀ (ns:List Int) (vs:List Value),WellAll P h vs (ns.map WData.int)→IntsAre vs ns:=by
 intro ns
 induction ns with
 | nil =>
  intro vs w
  rw [qCQ] at w
  cases w
  exact .nil
 | cons n ns ih =>
  intro vs w
  rw [qY] at w
  cases w with
  | cons a b =>
   cases a
   exact .cons _ _ (ih _ b)
theorem zafo {l:OpenLaw} {n:Nat} (hn:l.most=some n) {P:Params} {h:Heap} {args:List WData} {vals:List Value}
  (hpre:l.row.toRowW.claim.pre args=true) (hwl:WellAll P h vals args) :
  ∃ a vs ns,vals=[Value.ref a]∧args=[WData.list (ns.map WData.int)]∧h.get? a=some {cls:=.type "list",data:=.seq vs.toArray}∧IntsAre vs ns∧ns.length≤n:=by
 have hsh:WShape.hasAll [] args [.list .int]=true:=(pre_splitW hpre).1
 have hc:l.pre.holds [] {args:=args}=true:=(pre_splitW hpre).2
 obtain ⟨d,r,rfl,h1,h2⟩:=hasAllW_cons hsh
 obtain rfl:=hasAllW_nil h2
 obtain ⟨xs,rfl,h3⟩:=hasW_list h1
 obtain ⟨ns,rfl⟩:=items_int h3
 have hlen:ns.length≤n:=by
  unfold OpenLaw.pre at hc
  have h4:(WTm.not (.lt (.lit (.int (n:Int))) (.len (.arg 0)))).holds [] {args:=[.list (ns.map .int)]}=true:=by
   have h4:=(holds_andW hc).1
   rw [hn] at h4
   exact h4
  have h5:=condW_of h4 (w_not (w_lt w_lit (w_len_list (w_arg rfl))))
  rw [qF] at h5
  refine Nat.le_of_not_lt fun q=>?_
  have q':(n:Int)<((ns.length:Nat):Int):=by omega
  first
   | (rw [decide_eq_true q'] at h5;exact absurd h5 (by decide))
   | (simp at h5;omega)
 cases hwl with
 | cons w1 w2 =>
  cases w2
  cases w1 with
  | list ho hall=>exact ⟨_,_,ns,rfl,rfl,ho,zqk ns _ hall,hlen⟩
theorem zafp (l:OpenLaw) (args:List WData):l.row.toRowW.claim.post args (.bool true) args=true :=
 postW_of (r:=l.row.toRowW) (X:=(true==true))
  (show WShape.has [] (.bool true) .bool=true by first|rfl|decide|simp [WShape.has,WShape.arms,WShape.armsAll])
  (show (WTm.eq .res (.lit (.bool true))).value [] {args:=args,res:=some (.bool true),after:=args}=some (.bool (true==true)) from w_eq_bool (w_res rfl) w_lit) rfl
theorem attach_call {l:OpenLaw} {n:Nat} {q:Program} {loose:List Str} {XP:(Str→Option Value)→Heap→Prop} {YP:World→Heap→Prop} {d:DefRec}
  (hn:l.most=some n) (hdf:d.params.defaults=[])
  (call:∀ (w:World) (s₀ s₁:Shared) (mg mb:Str→Option Value) (fa:Addr) (o:Obj) (pm cd doc:Value) (a:Addr) (vs:List Value) (ns:List Int),
   Ground q loose [] XP w s₀ mg mb s₁.heap→YP w s₁.heap →
   s₁.heap.get? fa=some o→o.data=.func (docDef d.name d.params d.body d.scope pm cd doc)→s₁.heap.CodeRec cd d.name→mg d.name=some (.ref fa) →
   s₁.heap.get? a=some {cls:=.type "list",data:=.seq vs.toArray}→IntsAre vs ns→ns.length≤n→s₁.gens=#[] →
   codeAny (model l.prog w) callerA (.call (.ref fa) ⟨[.ref a],[]⟩) (fun r s'=>r=.ok (.ret (.bool true))∧OldK s₁.heap s'.heap∧s'.os=s₁.os∧AllBare s'.gens) s₁) :
  WalkO q loose XP YP l.row.toRowW d [] (fun f vs=>PySem.call f vs):=by
 intro w s₀ s₁ mg mb G Y fa o pm cd doc dV kV ho hd hcd hD hmg hg args vals as hpre hlay hrd hwl hlo
 obtain rfl:dV=.none:=Dflts.none hD hdf
 obtain rfl:kV=.none:=Dflts.noKw hD
 obtain ⟨a,vs,ns,rfl,rfl,hobj,hints,hlen⟩:=zafo hn hpre hwl
 refine enter_call (qBh (call w s₀ s₁ mg mb fa o pm cd doc a vs ns G Y ho (fd_plain hd) hcd hmg hobj hints hlen hg) fun r s' hq=>?_)
 obtain ⟨rfl,h2,h3,h4⟩:=hq
 exact ⟨.inl ⟨.bool true,.bool true,[],rfl,fun _=>rfl,.bool true,zafp l _,fun _=>⟨List.Pairwise.nil,fun _ hm=>(nomatch hm)⟩⟩,h2,h3,h4⟩
section
variable {prog:Program} {w:World} {A:Around} {E:Value→Shared→Prop} {s:Shared} {K:Frag}
end
end Att
namespace L2
open PySem PySem.Spec PyProof.Rows
theorem zwt:∀ {vs:List Value} {ns:List Int},IntsAre vs ns→Vals (ns.map V.int) vs
 | _,_,.nil=>.nil
 | _,_,.cons n t h=>.cons ⟨t,rfl⟩ (zwt h)
def Only (H:Hp):Prop:=∀ b,H b=none∨∃ o xs,H b=some (.frz o (.lst xs))
theorem zajx {P:Program} {w:World} {K:qB} {mg mb:Str→Option Value} {CX:CXT} {k:Nat} {fa a:Addr} {fd:q9} {x:Str} {sp:Sp} {s₁:Shared} {vs:List Value} {ns:List Int}
  (KX:K.In s₁.heap) (hns:s₁.heap.Ns qM mg) (hb:s₁.heap.Ns builtinsNs mb) (hbb:∀ x:Str,x ≠ "__name__" → mb x=bootBuiltins x) (hlim:s₁.heap.NoLimit) (hg:s₁.gens=#[])
  (ha:s₁.heap.get? a=some {cls:=.type "list",data:=.seq vs.toArray}) (hi:IntsAre vs ns) (hl:ns.length≤qU) (hr:Room k callerA)
  (F:∀ base:Heap,K.In base→base.Ns qM mg→FnOk P w K mg base CX k fa fd [x] sp) (hbind:∀ (s:Shared) (u:Value),BindsTo s fd ⟨[u],[]⟩ [(x,u)])
  (hsp:∀ H:Hp,Only H→SqL K H a (ns.map V.int)→sp [.ref a] H (fun v _=>v=.bl true) fun _ _ _=>False)
  (hCX:∀ H e s',CX [] H s₁ (fun _ _ _=>False) e s'→False) :
  codeAny (model P w) callerA (.call (.ref fa) ⟨[.ref a],[]⟩) (fun r s'=>r=.ok (.ret (.bool true))∧OldK s₁.heap s'.heap∧s'.os=s₁.os∧AllBare s'.gens) s₁:=by
 have rv:=zwt hi
 have lenV:=hi.length
 have core:∀ H:Hp,Only H→SqL K H a (ns.map V.int)→HOk P w H s₁.heap→(∀ b,H b≠none→b=a)→(H a≠none→K.lookup a=none) →
   codeAny (model P w) callerA (.call (.ref fa) ⟨[.ref a],[]⟩) (fun r s'=>r=.ok (.ret (.bool true))∧OldK s₁.heap s'.heap∧s'.os=s₁.os∧AllBare s'.gens) s₁:=by
  intro H hO hS hok hA hK
  have base_of:∀ {b:Addr} {o:Obj},s₁.heap.get? b=some o→H b=none→(hidT s₁.heap H).get? b=some o:=fun e n=>zajk e n
  have noA:∀ {b:Addr} {o:Obj} {es:Array DictEntry} {ep:Nat},s₁.heap.get? b=some o→o.data=.dict es ep→H b=none:=fun {b o es ep} e d=>by
   cases q:H b with
   | none=>rfl
   | some u =>
    have e':b=a:=hA b (by rw [q];simp)
    subst e'
    rw [ha] at e;cases e
    have d':Data.seq vs.toArray _=Data.dict es ep:=d
    cases d'
  have nsK:∀ {b:Addr} {m:Str→Option Value},s₁.heap.Ns b m→(hidT s₁.heap H).Ns b m:=fun {b m} ⟨o,es,ep,e,d,r⟩=>⟨o,es,ep,base_of e (noA e d),d,r⟩
  have hKb:K.In (hidT s₁.heap H):=fun b o e=>base_of (KX b o e) (by
   cases q:H b with
   | none=>rfl
   | some u =>
    have e':b=a:=hA b (by rw [q];simp)
    subst e'
    rw [hK (by rw [q];simp)] at e;cases e)
  have hM:Mod K mg (hidT s₁.heap H):=⟨hKb,nsK hns,⟨mb,nsK hb,hbb⟩,let ⟨mc,h1,h2⟩:=hlim;⟨mc,nsK h1,h2⟩⟩
  have e0:Env0 P w K mg (hidT s₁.heap H) callerA [] s₁ H:=⟨rfl,hM,fun b o e=>zant e,Nat.le_of_eq (zaev _ _),trivial,fun b hb=>absurd (show b∈([]:List Addr) from hb) (by simp),hok,.of_eq hg⟩
  refine qBh ((F _ hKb (nsK hns)).run callerA [] s₁ H ⟨[.ref a],[]⟩ [.ref a] [.ref a] _ _ hr e0 (hbind s₁ (.ref a)) (.cons rfl .nil) (hsp H hO hS)) fun r s' h=>?_
  cases r with
  | error e=>exact (hCX H e s' h).elim
  | ok fl =>
   cases fl with
   | next=>exact False.elim h
   | brk=>exact False.elim h
   | cont=>exact False.elim h
   | ret u =>
    obtain ⟨v,H',os,bare,un,hok',r',q⟩:=h
    have q':v=.bl true:=q
    subst q'
    obtain rfl:u=Value.bool true:=r'
    refine ⟨rfl,OldK.of_keep fun b o e=>?_,os,bare⟩
    cases q:H b with
    | none=>exact un.keep b o e q (by intro z;exact absurd (show b∈([]:List Addr) from z) (by simp)) (by simp)
    | some u =>
     rcases hO b with z|⟨ob,xs,z⟩
     ·rw [q] at z;cases z
     ·have z2:=un.frzs b ob _ z
      obtain ⟨e1,_⟩:=hok b _ z
      obtain ⟨e2,_⟩:=hok' b _ z2
      rw [e] at e1;cases e1
      exact e2
 cases hk:K.lookup a with
 | some o =>
  have e:=KX a o hk
  rw [ha] at e
  cases e
  refine core (fun _=>none) (fun _=>.inl rfl) (.inr ⟨_,vs.toArray,_,hk,rfl,rfl,rfl,by rw [qR,lenV];exact hl,by simpa using rv⟩) (fun b u z=>by have z':(none:Option HO)=some u:=z;cases z') (fun b z=>absurd rfl z) fun z=>absurd rfl z
 | none =>
  refine core (fun b=>if b=a then some (.frz {cls:=.type "list",data:=.seq vs.toArray} (.lst (ns.map V.int))) else none) (fun b=>?_) (.inl (.inr ⟨{cls:=.type "list",data:=.seq vs.toArray},if_pos rfl⟩)) (fun b u z=>?_) (fun b z=>?_) fun _=>hk
  ·by_cases hb:b=a
   ·exact .inr ⟨_,_,if_pos hb⟩
   ·exact .inl (if_neg hb)
  ·by_cases hb:b=a
   ·have z':=(if_pos hb).symm.trans z
    cases z'
    subst hb
    exact ⟨ha,by rw [qF];exact hl,vs,_,rv,ha⟩
   ·have z':=(if_neg hb).symm.trans z
    cases z'
  ·by_cases hb:b=a
   ·exact hb
   ·exact absurd (if_neg hb) z
theorem walk_of {l:PySem.W.OpenLaw} {n k:Nat} {q:Program} {loose:List Str} {XP:(Str→Option Value)→Heap→Prop} {YP:World→Heap→Prop} {d:DefRec} {K:Params→qB} {CX:World→CXT} {sp:World→Sp} {x:Str}
  (hn:l.most=some n) (hn2:n≤qU) (hdf:d.params.defaults=[]) (hr:Room k callerA)
  (hY:∀ (w:World) (h:Heap),YP w h→(K w.params).In h)
  (F:∀ (w:World) (mg:Str→Option Value) (fa:Addr) (h:Heap),(K w.params).In h→h.Ns qM mg→mg d.name=some (.ref fa) →
   ∃ fd:q9,(∀ (s:Shared) (u:Value),BindsTo s fd ⟨[u],[]⟩ [(x,u)]) ∧
    ∀ base:Heap,(K w.params).In base→base.Ns qM mg→FnOk l.prog w (K w.params) mg base (CX w) k fa fd [x] (sp w))
  (hsp:∀ (w:World) (H:Hp) (a:Addr) (ns:List Int),ns.length≤n→Only H→SqL (K w.params) H a (ns.map V.int)→sp w [.ref a] H (fun v _=>v=.bl true) fun _ _ _=>False)
  (hCX:∀ (w:World) (H:Hp) (s:Shared) (e:Value) (s':Shared),CX w [] H s (fun _ _ _=>False) e s'→False) :
  PySem.W.WalkO q loose XP YP l.row.toRowW d [] (fun f vs=>PySem.call f vs):=by
 refine Att.attach_call hn hdf fun w s₀ s₁ mg mb fa o pm cd doc a vs ns G Y ho hd hcd hmg hobj hints hlen hg=>?_
 have KX:=hY w _ Y
 obtain ⟨fd,hb,hF⟩:=F w mg fa _ KX G.T.g hmg
 exact zajx KX G.T.g G.T.b G.T.builtins G.T.nolimit hg hobj hints (qAG hlen hn2) hr hF hb (fun H hO hS=>hsp w H a ns hlen hO hS) fun H e s'=>hCX w H s₁ e s'
end L2
namespace L2
open PySem PySem.Spec PyProof.Rows
def zum (s:Stmt) (j:Nat):Stmt:=match s with
 | .ClassDef _ _ _ body _ _ _ _ _ _ _=>body.getD j (.Pass ⟨0,0,0,0⟩)
 | _=>.Pass ⟨0,0,0,0⟩
def zbr (s:Stmt):Arguments:=match s with
 | .FunctionDef _ a _ _ _ _ _ _ _ _=>a
 | _=>{posonlyargs:=[],args:=[],vararg:=none,kwonlyargs:=[],kw_defaults:=[],kwarg:=none,defaults:=[]}
def zbp (s:Stmt):List Stmt:=match s with
 | .FunctionDef _ _ b _ _ _ _ _ _ _=>b
 | _=>[]
def zam (s:Stmt):Scope:=match s with
 | .FunctionDef _ _ _ _ _ _ sc _ _ _=>sc
 | _=>{kind:=.function,names:=[],isGenerator:=false,isCoroutine:=false}
abbrev CX0:CXT:=fun _ _ _ _ _ _=>False
abbrev E0:XK:=fun _ _ _=>False
theorem zaui {X:Cx}:zwi CX0 X E0:=fun _ _ _ _ _ _ _ h=>h.elim
set_option genInjectivity false in
structure Fun (K:qB) (x qual:Str) (st:Stmt) (f:Addr) (fd:q9):Prop where
 ex:∃ (oc:Value) (od:Option Addr) (kV doc pm:Value) (an:Option Addr) (cdv ct:Value) (osl:Array (Option Value)),
  fd=qc x qual (zbr st) (zbp st) (zam st) .none kV doc pm an cdv ct∧K.lookup f=some ⟨oc,od,.func fd,osl⟩∧qa K cdv qual=true
 kp:qN K (.ref f)=true
section
variable {P:Program} {w:World} {K:qB} {mg:Str→Option Value} {base:Heap}
theorem Fun.ok {x qual:Str} {st:Stmt} {f:Addr} {fd:q9} {N ps:List Str} {k:Nat} {sp:Sp} (F:Fun K x qual st f fd) (S:FnScope N ps (zam st)) (len:∀ vs H Q E,sp vs H Q E→vs.length=ps.length)
  (hbody:∀ (cdv:Value) (A:Around) (outer:List Env) (s:Shared) (H:Hp) (vs:List V) (Q:VK) (E:XK),Room k (A.deeper (envOfC qual (zam st) s.heap.objs.size f cdv))→sp vs H Q E →
   ∃ t,PSs (cxOf CX0 P w K mg base N qual (zam st) f cdv A outer s H E).nox (zbp st) t∧t {nx:=fun _ H'=>Q .non H',rt:=Q} (zmm N vs) H):FnOk P w K mg base CX0 (k+1) f fd ps sp:=by
 obtain ⟨oc,od,kV,doc,pm,an,cdv,ct,osl,rfl,lk,hcd⟩:=F.ex
 refine zauf lk hcd S len fun A outer s H vs Q E hr hsp=>?_
 obtain ⟨t,h,q⟩:=hbody cdv A outer s H vs Q E hr hsp
 exact ⟨t,h.nox,q⟩
theorem Fun.binds {x qual:Str} {st:Stmt} {f:Addr} {fd:q9} {ps:List Str} (F:Fun K x qual st f fd)
  (h:∀ (kV doc pm:Value) (an:Option Addr) (cdv ct:Value) (us:List Value),us.length=ps.length→bindArgs (qc x qual (zbr st) (zbp st) (zam st) .none kV doc pm an cdv ct) ⟨us,[]⟩=pure (ps.zip us)):zqg K fd ps []:=by
 obtain ⟨oc,od,kV,doc,pm,an,cdv,ct,osl,rfl,lk,hcd⟩:=F.ex
 exact .all (h kV doc pm an cdv ct)
theorem zdq {x qual:Str} {st:Stmt} {f:Addr} {oc:Value} {od an:Option Addr} {osl:Array (Option Value)} {kV doc pm cdv ct:Value} (l:K.lookup f=some ⟨oc,od,.func (qc x qual (zbr st) (zbp st) (zam st) .none kV doc pm an cdv ct),osl⟩)
  (c:qa K cdv qual=true) (k:qN K (.ref f)=true):Fun K x qual st f (qc x qual (zbr st) (zbp st) (zam st) .none kV doc pm an cdv ct):=⟨⟨oc,od,kV,doc,pm,an,cdv,ct,osl,rfl,l,c⟩,k⟩
end
theorem zgp {A:Around} {k:Nat} (hr:Room k A):A.units+1<cLine:=qA6 (Nat.add_le_add_left (by decide:1≤64) _) hr.units
section
variable {X:Cx}
theorem pv (i:Nat) {x:Str} {pos:Pos} (hN:X.N[i]?=some x:=by rfl) (hv:visB X.env.scope x=true:=by rfl) (hd:(x==("__debug__":Str))=false:=by decide)
  (hcd:(x==("__classdict__":Str))=false:=by decide):PE X (.Name x pos) (tVar i):=zamm hN (visB.of hv) hd hcd
end
theorem iteF {A B:Prop} (h:B):if false=true then A else B:=by
 rw [if_neg qS]
 exact h
theorem iteT {A B:Prop} (h:A):if true=true then A else B:=by
 rw [if_pos rfl]
 exact h
theorem ite2 {c A B:Prop} [Decidable c] (h1:c→A) (h2:¬ c→B):if c then A else B:=by
 by_cases h:c
 ·rw [if_pos h]
  exact h1 h
 ·rw [if_neg h]
  exact h2 h
def Same (H H':Hp):Prop:=∀ b o,H b=some o→H' b=some o
theorem Same.refl (H:Hp):Same H H:=fun _ _ h=>h
theorem Same.trans {H H1 H2:Hp} (a:Same H H1) (b:Same H1 H2):Same H H2:=fun c o h=>b c o (a c o h)
theorem Same.free {H H':Hp} (e:Same H H') {l:Addr} (h:H' l=Option.none):H l=Option.none:=by
 cases q:H l with
 | none=>rfl
 | some o =>
  rw [e l o q] at h
  cases h
theorem Same.seq {K:qB} {H H':Hp} {a:Addr} {xs:List V} (e:Same H H') (h:SqL K H a xs):SqL K H' a xs:=by
 rcases h with (h|⟨o,h⟩)|h
 ·exact .inl (.inl (e _ _ h))
 ·exact .inl (.inr ⟨o,e _ _ h⟩)
 ·exact .inr h
section
variable {κ:Type} [DecidableEq κ]
theorem zzv:∀ {l:List κ} {k:κ},l.Nodup→¬ k∈l→(l++[k]).Nodup
 | [],k,_,_=>by simp
 | a::r,k,h,hk=>by
  obtain ⟨h1,h2⟩:=qA8.mp h
  show (a::(r++[k])).Nodup
  refine qA8.mpr ⟨fun m=>?_,zzv h2 fun m=>hk (qX.mpr (Or.inr m))⟩
  rcases qp.mp m with q|q
  ·exact h1 q
  ·exact hk (qX.mpr (Or.inl (qAT.mp q).symm))
end
end L2
set_option maxHeartbeats 4000000
namespace L2
open PySem PySem.Spec PyProof.Rows
def clos (cells:List (Str×Addr)):List (Str×NameKind)→List (Str×Addr)→List (Str×Addr)
 | [],acc=>acc
 | (n,k)::r,acc=>if k==.free then clos cells r ((n,(cells.lookup n).getD 0)::acc) else clos cells r acc
theorem zun {cells:List (Str×Addr)}:∀ {names:List (Str×NameKind)} {acc:List (Str×Addr)},(∀ y∈names,y.2=.free→∃ c,cells.lookup y.1=some c)→∀ p∈clos cells names acc,p∈acc∨((p.1,NameKind.free)∈names∧cells.lookup p.1=some p.2)
 | [],acc,_,p,hp=>.inl hp
 | (n,k)::r,acc,h,p,hp=>by
  unfold clos at hp
  have hr:∀ y∈r,y.2=.free→∃ c,cells.lookup y.1=some c:=fun y hy=>h y (qL _ hy)
  split at hp
  ·rename_i hk
   rcases zun hr p hp with q|q
   ·rcases qX.mp q with q|q
    ·subst q
     have hk':k=.free:=by simpa using hk
     subst hk'
     obtain ⟨c,hc⟩:=h (n,.free) qj rfl
     exact .inr ⟨qj,by show cells.lookup n=some ((cells.lookup n).getD 0);rw [hc];rfl⟩
    ·exact .inl q
   ·exact .inr ⟨qL _ q.1,q.2⟩
  ·rcases zun hr p hp with q|q
   ·exact .inl q
   ·exact .inr ⟨qL _ q.1,q.2⟩
theorem zuo {cells:List (Str×Addr)}:∀ {names:List (Str×NameKind)} {acc:List (Str×Addr)},∀ p∈acc,p∈clos cells names acc
 | [],acc,p,hp=>hp
 | (n,k)::r,acc,p,hp=>by
  unfold clos
  split
  ·exact zuo p (qL _ hp)
  ·exact zuo p hp
theorem zup {cells:List (Str×Addr)} {x:Str}:∀ {names:List (Str×NameKind)} {acc:List (Str×Addr)},(x,NameKind.free)∈names→∃ c,(x,c)∈clos cells names acc
 | [],_,h=>by simp at h
 | (n,k)::r,acc,h=>by
  unfold clos
  rcases qX.mp h with e|h
  ·cases e
   rw [if_pos (show (NameKind.free==NameKind.free)=true by decide)]
   exact ⟨_,zuo _ qj⟩
  ·split
   ·exact zup h
   ·exact zup h
theorem znb {α:Type} {x:Str} {c:α}:∀ {l:List (Str×α)},(x,c)∈l→∃ c',l.lookup x=some c'
 | [],h=>by simp at h
 | (k,v)::r,h=>by
  rw [qAM]
  cases hb:x==k with
  | true=>exact ⟨v,rfl⟩
  | false =>
   rcases qX.mp h with e|h
   ·cases e;simp at hb
   ·exact znb h
theorem znc {scope:Scope} {env:Env} (h:∀ y∈scope.names,y.2=.free→∃ c,env.cells.lookup y.1=some c):closureFor scope env=pure (clos env.cells scope.names []):=by
 unfold closureFor
 have key:∀ (names:List (Str×NameKind)) (acc:List (Str×Addr)),(∀ y∈names,y.2=.free→∃ c,env.cells.lookup y.1=some c) →
   (forIn names acc (fun (x:Str×NameKind) (r:List (Str×Addr))=>(if (x.2==.free)=true then (do let a ← cellOf env x.1;pure (ForInStep.yield ((x.1,a)::r))) else pure (ForInStep.yield r):Sem (ForInStep (List (Str×Addr))))))=pure (clos env.cells names acc):=by
  intro names
  induction names with
  | nil=>intro acc _;rfl
  | cons y r ih =>
   intro acc hy
   obtain ⟨n,k⟩:=y
   have hr:=fun y (hm:y∈r)=>hy y (qL _ hm)
   rw [qCZ]
   unfold clos
   cases hk:(k==NameKind.free) with
   | true =>
    have hk':k=.free:=by simpa using hk
    subst hk'
    obtain ⟨c,hc⟩:=hy (n,.free) qj rfl
    have e1:cellOf env n=pure c:=by unfold cellOf;rw [hc]
    simp only [if_true]
    have hc':env.cells.lookup n=some c:=hc
    rw [e1,hc']
    simp only [pure_bind,Option.getD_some]
    exact ih _ hr
   | false =>
    simp only [qBt,if_false,pure_bind]
    exact ih _ hr
 simpa using key scope.names [] h
theorem zhs:∀ (names:List (Str×NameKind)) (n:Nat) (acc:List (Str×Addr)),cellsFrom n names acc=cellsFrom n names []++acc
 | [],_,_=>rfl
 | (name,kind)::r,n,acc=>by
  unfold cellsFrom
  split
  ·rw [zhs r (n+1) ((name,n)::acc),zhs r (n+1) [(name,n)],qBJ];rfl
  ·exact zhs r n acc
theorem zht {x:Str} {c:Addr}:∀ (names:List (Str×NameKind)) (n:Nat) (acc:List (Str×Addr)),(x,c)∈cellsFrom n names acc→(x,c)∈acc∨(x,NameKind.cell)∈names
 | [],_,_,h=>.inl h
 | (name,kind)::r,n,acc,h=>by
  unfold cellsFrom at h
  split at h
  ·rename_i hk
   have hk':kind=.cell:=by simpa using hk
   subst hk'
   rcases zht r _ _ h with q|q
   ·rcases qX.mp q with q|q
    ·cases q;exact .inr qj
    ·exact .inl q
   ·exact .inr (qL _ q)
  ·rcases zht r _ _ h with q|q
   ·exact .inl q
   ·exact .inr (qL _ q)
theorem zlq {α:Type} {x:Str}:∀ {l r:List (Str×α)},(l++r).lookup x=(l.lookup x).or (r.lookup x)
 | [],_=>by simp
 | (k,v)::l,r=>by
  rw [qCU,qAM,qAM]
  cases x==k with
  | true=>rfl
  | false=>exact zlq
theorem zhf {env:Env} {x:Str} {k':NameKind}:∀ {names:List (Str×NameKind)},
  (names.map fun (n,k)=>if (k==NameKind.free&&env.scope.kind==.function&&env.kindOf n==some .cell) then (n,NameKind.cell) else (n,k)).lookup x=some k' →
  ∃ k,names.lookup x=some k∧(k'=k∨(k=.free∧k'=.cell))
 | [],h=>by simp at h
 | (n,k)::r,h=>by
  rw [qY] at h
  by_cases hc:(k==NameKind.free&&env.scope.kind==.function&&env.kindOf n==some .cell)=true
  ·simp only [hc,if_true] at h
   rw [qAM] at h ⊢
   cases hx:x==n with
   | true =>
    rw [hx] at h
    have hk:k=.free:=by simp at hc;exact hc.1.1
    exact ⟨k,rfl,.inr ⟨hk,(qh h).symm⟩⟩
   | false=>rw [hx] at h;exact zhf h
  ·simp only [hc,qBt,if_false] at h
   rw [qAM] at h ⊢
   cases hx:x==n with
   | true=>rw [hx] at h;exact ⟨k,rfl,.inl (qh h).symm⟩
   | false=>rw [hx] at h;exact zhf h
theorem zkj {env:Env} {x:Str}:∀ {names:List (Str×NameKind)},names.lookup x=some .free →
  ((names.map fun (n,k)=>if (k==NameKind.free&&env.scope.kind==.function&&env.kindOf n==some .cell) then (n,NameKind.cell) else (n,k)).lookup x=some .free ∨
   (names.map fun (n,k)=>if (k==NameKind.free&&env.scope.kind==.function&&env.kindOf n==some .cell) then (n,NameKind.cell) else (n,k)).lookup x=some .cell)
 | [],h=>by simp at h
 | (n,k)::r,h=>by
  rw [qY]
  rw [qAM] at h
  by_cases hc:(k==NameKind.free&&env.scope.kind==.function&&env.kindOf n==some .cell)=true
  ·simp only [hc,if_true]
   rw [qAM]
   cases hx:x==n with
   | true=>exact .inr rfl
   | false=>rw [hx] at h;exact zkj h
  ·simp only [hc,qBt,if_false]
   rw [qAM]
   cases hx:x==n with
   | true=>rw [hx] at h;exact .inl h
   | false=>rw [hx] at h;exact zkj h
theorem zads {M:Model} {A:Around} {E:Value→Shared→Prop} {s:Shared} {scope:Scope} {globals:Addr} {cl:List (Str×Addr)} {qual:Str} {env:Env} {Q:Env→Shared→Prop}
  (hQ:∀ h',(∀ b o,s.heap.get? b=some o→h'.get? b=some o)→h'.Ns s.heap.objs.size (fun _=>none)→(∀ n c,(n,c)∈cellsFrom (s.heap.objs.size+1) scope.names []→h'.IsCell c none∧s.heap.objs.size+1≤c) →
   ((cellsFrom (s.heap.objs.size+1) scope.names []).Pairwise fun x y=>x.2≠y.2) →
   Q {scope:=scope,locals:=s.heap.objs.size,globals:=globals,cells:=cellsFrom (s.heap.objs.size+1) scope.names []++cl,qual:=qual,func:=none,code:=env.code,frame:=env.frame,builtins:=env.builtins} {s with heap:=h'}) :
  wpAny M A (newFunctionEnv scope globals cl [] qual none .none (some env)) Q E s:=by
 simp only [newFunctionEnv,qC9,if_true]
 refine qC (wpAny_alloc ?_)
 refine qC (wpAny_layCells _ (fun name kind cells=>by cases hkc:kind==NameKind.cell<;>simp [hkc]) _ _ _ _ ?_)
 have ok:=cellsFrom_ok scope.names (s.heap.push {cls:=.type "dict",data:=.dict #[]}) (s.heap.objs.size+1) [] ⟨fun _ _ hm=>(nomatch hm),List.Pairwise.nil⟩ (by rw [qAz];exact qJ _)
 rw [qAz] at ok
 rw [show ({s with heap:=s.heap.push {cls:=.type "dict",data:=.dict #[]}}:Shared).heap.objs.size=s.heap.objs.size+1 from qAz ..]
 rw [zhs]
 refine qC ?_
 refine qI (qI ?_)
 exact hQ _ (fun b o e=>pushCells_keeps _ _ b o (qE _ e)) ((Heap.Ns.new s.heap (.type "dict")).keeps (pushCells_keeps _ _)) ok.empty ok.apart
def cxComp (X:Cx) (scope:Scope) (N' own:List Str) (cl:List (Str×Addr)) (C:Addr) (s:Shared) (H:Hp) (fp:List Addr):Cx :=
 {X with N:=N',s₀:=s,H₀:=H,env:=compEnvC scope cl C X.env,outer:=X.stack,stack:=X.stack,ex:=fp,fn:=fun x=>own.contains x,pn:=[],xe:=fun _ _=>False}
structure CompOk (X:Cx) (scope:Scope) (N' own:List Str) (fr:List Nat):Prop where
 kind:scope.kind=.function
 names:∀ y∈scope.names,scope.names.lookup y.1=some y.2
 up:∀ y∈scope.names,y.2=.free→(X.env.kindOf y.1=some .cell∨X.env.kindOf y.1=some .free)
 nm:N'=own++fr.map (fun j=>X.N.getD j Str.empty)
 fr:∀ j∈fr,j<X.N.length∧scope.names.lookup (X.N.getD j Str.empty)=some .free
 own:∀ x∈own,scope.names.lookup x=some .local∨scope.names.lookup x=some .cell
def tau (own:List Str) (fr:List Nat) (σ:St):St:=own.map (fun _=>none)++fr.map (fun j=>σ.getD j none)
section
variable {X:Cx} {pins:List (Addr×Obj)} {σ:St} {H:Hp} {s:Shared} {scope:Scope} {N' own:List Str} {fr:List Nat}
theorem zof (c:CompOk X scope N' own fr) (ok:X.Ok):∀ y∈scope.names,y.2=.free→∃ a,X.env.cells.lookup y.1=some a:=fun y hy e=>ok.has y.1 (c.up y hy e)
theorem zajy {fp:List Addr} {h':Heap} (c:CompOk X scope N' own fr) (I:Inv X pins σ H s)
  (hf:∀ b∈fp,FpOk X pins H b) (ho:∀ b∈fp,∃ o,s.heap.get? b=some o∧∀ v,o.data≠.cell v)
  (keep:∀ b o,s.heap.get? b=some o→h'.get? b=some o) (ns:h'.Ns s.heap.objs.size (fun _=>none))
  (cells:∀ n c,(n,c)∈cellsFrom (s.heap.objs.size+1) scope.names []→h'.IsCell c none∧s.heap.objs.size+1≤c)
  (apart:(cellsFrom (s.heap.objs.size+1) scope.names []).Pairwise fun x y=>x.2≠y.2) :
  Inv (cxComp X scope N' own (cellsFrom (s.heap.objs.size+1) scope.names []++clos X.env.cells scope.names []) s.heap.objs.size s H fp) [] (tau own fr σ) H {s with heap:=h'}:=by
 have found:=zof c I.ok
 have clm:∀ x a,(x,a)∈clos X.env.cells scope.names []→(x,NameKind.free)∈scope.names∧X.env.cells.lookup x=some a:=fun x a hm=>by
  rcases zun found (x,a) hm with q|q
  ·simp at q
  ·exact q
 have look:∀ x a,(cellsFrom (s.heap.objs.size+1) scope.names []++clos X.env.cells scope.names []).lookup x=some a →
   ((x,a)∈cellsFrom (s.heap.objs.size+1) scope.names []∧(x,NameKind.cell)∈scope.names)∨((x,NameKind.free)∈scope.names∧X.env.cells.lookup x=some a):=fun x a e=>by
  rw [zlq] at e
  cases q:(cellsFrom (s.heap.objs.size+1) scope.names []).lookup x with
  | some b =>
   rw [q] at e
   cases e
   have hm:=qAP q
   rcases zht _ _ _ hm with z|z
   ·simp at z
   ·exact .inl ⟨hm,z⟩
  | none =>
   rw [q] at e
   exact .inr (clm x a (qAP e))
 have lookF:∀ x a,(x,NameKind.free)∈scope.names→X.env.cells.lookup x=some a→(cellsFrom (s.heap.objs.size+1) scope.names []++clos X.env.cells scope.names []).lookup x=some a:=fun x a hx e=>by
  rw [zlq]
  have q:(cellsFrom (s.heap.objs.size+1) scope.names []).lookup x=none:=by
   cases q:(cellsFrom (s.heap.objs.size+1) scope.names []).lookup x with
   | none=>rfl
   | some b =>
    rcases zht _ _ _ (qAP q) with z|z
    ·simp at z
    ·have h1:=c.names _ hx
     have h2:=c.names _ z
     rw [h1] at h2
     cases h2
  rw [q]
  obtain ⟨d,hd⟩:=zup (cells:=X.env.cells) (acc:=[]) hx
  obtain ⟨d',hd'⟩:=znb hd
  have:=(clm x d' (qAP hd')).2
  rw [e] at this
  cases this
  exact hd'
 have below:∀ b o,s.heap.get? b=some o→b<s.heap.objs.size:=fun b o e=>qK e
 have cold:∀ x a,X.env.cells.lookup x=some a→a<s.heap.objs.size:=fun x a e=>let ⟨v,q⟩:=I.cell x a e;q.lt
 refine ⟨⟨I.ok.mod,c.kind,I.ok.glob,I.ok.blt,qJ _,?inj,?has,?cab,I.ok.hd,I.ok.frames,.inl rfl,?exf,I.bs,qAG I.ok.bsz I.sz,?noex,?exfs,I.stack,I.stkFree⟩,
  rfl,I.bare,Un.kept keep,⟨_,ns,?loc⟩,?cell,I.hok.fresh (qJ _),?freeC,?pin,I.hok.kept keep,?len⟩
 case inj =>
  intro x y a h1 h2
  rcases look x a h1 with ⟨m1,k1⟩|⟨k1,e1⟩<;>rcases look y a h2 with ⟨m2,k2⟩|⟨k2,e2⟩
  ·exact name_of_addr apart m1 m2
  ·exact absurd (qo (cold y a e2) (qCP (cells x a m1).2)) (qBB _)
  ·exact absurd (qo (cold x a e1) (qCP (cells y a m2).2)) (qBB _)
  ·exact I.ok.inj x y a e1 e2
 case has =>
  intro x hx
  have hx':(∃ k,scope.names.lookup x=some k∧(k=.cell∨k=.free)):=by
   rcases hx with hx|hx
   ·obtain ⟨k,e,q⟩:=zhf (env:=X.env) (names:=scope.names) hx
    rcases q with q|⟨q,_⟩
    ·exact ⟨k,e,.inl q.symm⟩
    ·exact ⟨k,e,.inr q⟩
   ·obtain ⟨k,e,q⟩:=zhf (env:=X.env) (names:=scope.names) hx
    rcases q with q|⟨q,_⟩
    ·exact ⟨k,e,.inr q.symm⟩
    ·exact ⟨k,e,.inr q⟩
  obtain ⟨k,e,q⟩:=hx'
  show ∃ a,(cellsFrom (s.heap.objs.size+1) scope.names []++clos X.env.cells scope.names []).lookup x=some a
  rcases q with rfl|rfl
  ·obtain ⟨a,ha⟩:=zui (n:=s.heap.objs.size+1) e
   exact ⟨a,by rw [zlq,ha];rfl⟩
  ·obtain ⟨a,ha⟩:=found _ (qAP e) rfl
   exact ⟨a,lookF x a (qAP e) ha⟩
 case cab =>
  intro x a hx e
  have hx:own.contains x=true:=hx
  have hx':x∈own:=by simpa using hx
  rcases look x a e with ⟨m1,_⟩|⟨k1,_⟩
  ·have:=(cells x a m1).2
   show s.heap.objs.size≤a
   omega
  ·have h1:=c.names _ k1
   rcases c.own x hx' with h2|h2
   ·rw [h1] at h2;cases h2
   ·rw [h1] at h2;cases h2
 case exf =>
  intro b hb
  obtain ⟨o,e,d⟩:=ho b hb
  refine ⟨qq (below b o e),fun x a q z=>?_⟩
  subst z
  rcases look x a q with ⟨m1,_⟩|⟨k1,e1⟩
  ·exact absurd (qo (below a o e) (qCP (cells x a m1).2)) (qBB _)
  ·obtain ⟨v,o',e',d'⟩:=I.cell x a e1
   rw [e] at e'
   cases e'
   exact d v d'
 case noex =>
  intro b o e hb
  rcases (hf b hb).2.2.2.1 with z|z
  ·exact I.ok.noex b o e z
  ·exact absurd (qo (qo (qK e) I.ok.bsz) z) (qBB _)
 case exfs =>
  intro b hb z
  rcases qX.mp (I.stkSub b z) with q|q
  ·exact (hf b hb).2.1 q
  ·exact (hf b hb).2.2.1 q
 case loc =>
  intro i x v h1 h2 h3
  have h1:N'[i]?=some x:=h1
  rw [c.nm] at h1
  unfold tau at h2
  by_cases hi:i<own.length
  ·rw [qAQ (by simpa using hi),qT] at h2
   cases q:own[i]? with
   | none=>rw [q] at h2;cases h2
   | some z=>rw [q] at h2;cases h2
  ·rw [qAW (by simpa using hi),qT,qF] at h2
   rw [qAW (by simpa using hi),qT] at h1
   cases q:fr[i - own.length]? with
   | none=>rw [q] at h2;cases h2
   | some j =>
    rw [q] at h1 h2
    have e1:X.N.getD j Str.empty=x:=qh h1
    have e2:σ.getD j none=some v:=qh h2
    obtain ⟨hj,hfree⟩:=c.fr j (qBf q)
    rw [e1] at hfree
    have hNj:X.N[j]?=some x:=by
     rw [← e1,qAE,qH hj];rfl
    have hσj:σ[j]?=some (some v):=by
     rw [qAE] at e2
     cases z:σ[j]? with
     | none=>rw [z] at e2;cases e2
     | some w=>rw [z] at e2;rw [show w=some v from e2]
    have hmem:(x,NameKind.free)∈scope.names:=qAP hfree
    have hup:=c.up _ hmem rfl
    obtain ⟨m,hn,hl⟩:=I.loc
    obtain ⟨u,ru,lk⟩:=hl j x v hNj hσj (by rcases hup with z|z;exact .inr (.inl z);exact .inr (.inr z))
    refine ⟨u,ru,.inr ⟨?_,?_⟩⟩
    ·rcases zkj (env:=X.env) (names:=scope.names) hfree with z|z
     ·exact .inr z
     ·exact .inl z
    ·rcases lk with ⟨k1,_⟩|⟨_,a,ha,hc⟩
     ·rcases hup with z|z
      ·rw [show X.env.kindOf x=some .cell from z] at k1;cases k1
      ·rw [show X.env.kindOf x=some .free from z] at k1;cases k1
     ·exact ⟨a,lookF x a hmem ha,hc.keeps keep⟩
 case cell =>
  intro x a e
  rcases look x a e with ⟨m1,_⟩|⟨k1,e1⟩
  ·exact ⟨_,(cells x a m1).1⟩
  ·obtain ⟨v,q⟩:=I.cell x a e1
   exact ⟨v,q.keeps keep⟩
 case freeC =>
  intro x a e
  rcases look x a e with ⟨m1,_⟩|⟨k1,e1⟩
  ·exact I.hok.fresh (by have:=(cells x a m1).2;omega)
  ·exact I.freeC x a e1
 case pin=>intro p hp;exact absurd (show p∈([]:List (Addr×Obj)) from hp) (by simp)
 case len =>
  show (tau own fr σ).length=N'.length
  rw [c.nm];unfold tau;simp
end
abbrev TM:=St→Hp→(St→Hp→Prop)→Prop
def PM (X:Cx) (act:Sem Unit) (t:TM):Prop :=
 ∀ (pins:List (Addr×Obj)) (s:Shared) (σ:St) (H:Hp) (Q:St→Hp→Prop),Inv X pins σ H s→t σ H Q→wpAny (model X.prog X.w) X.A act (fun _ s'=>∃ σ' H',Inv X pins σ' H' s'∧Q σ' H') X.xe s
noncomputable def PF (X:Cx) (ifs:List Expr) (t:TT):Prop :=
 ∀ (pins:List (Addr×Obj)) (s:Shared) (σ:St) (H:Hp) (Q:Bool→Hp→Prop),Inv X pins σ H s→t σ H Q →
  wpAny (model X.prog X.w) X.A (forIn ifs true fun c r=>if r=true then do let ok ← isTrue c X.env (eval c X.env);pure (ForInStep.yield ok) else pure (ForInStep.yield r)) (TP X pins σ Q) X.xe s
def tAll:TT:=fun _ H Q=>Q true H
section
variable {X:Cx}
theorem zarz:PF X [] tAll:=fun _ s σ H Q I h=>wpAny_tests_nil ⟨H,I,h⟩
theorem zasa {c:Expr} {t:TT} (h:PT X c t):PF X [c] t:=fun pins s σ H Q I q=>wpAny_tests_one (h pins s σ H Q I q)
def zadt (p:Addr) (te:TE):TM:=fun σ H Q=>te σ H fun v H1=>∃ ys,H1 p=some (.lst ys)∧ys.length<qU∧Q σ (upd H1 p (.lst (ys++[v])))
theorem zzw {elt:Expr} {te:TE} {p:Addr} (h:PE X elt te):PM X (do let _ ← call (.builtin "list.append") [.ref p,← eval elt X.env]) (zadt p te):=by
 intro pins s σ H Q I q
 refine qC (thn (h pins s σ H _ I q) fun u s1 ⟨v,H1,I1,r,ys,hp,hz,q1⟩=>?_)
 refine qC (thn (zcn pins s1 σ H1 (.ref p) [v] (.ref p) [u] (fun _ H2=>Q σ H2) I1 rfl (.cons r .nil) ⟨p,ys,v,rfl,rfl,hp,hz,q1⟩) fun _ s2 ⟨_,H2,I2,_,q2⟩=>?_)
 exact qI ⟨σ,H2,I2,q2⟩
noncomputable def zajz (J:It) (g:TG) (tt:TT) (tm:TM):TM:=fun σ H Q=>∃ W:Nat→Nat→St→Hp→Prop,(∃ m,W 0 m σ H)∧∀ i m σ H,W i m σ H →
 (J.stop i H∧Q σ H)∨(J.go i H∧∃ N:St→Hp→Prop,(∀ σ' H',N σ' H'→∃ m',m'<m∧W (i+1) m' σ' H')∧∀ x H',J.yld i H x H'→g x σ H' fun σ2 H2=>tt σ2 H2 fun b H3=>if b=true then tm σ2 H3 N else N σ2 H3)
theorem zql {elt0:Expr} {gens:List Comprehension} {scope:Scope} {cpos:Pos} {depth:Nat} {target:Expr} {ifs:List Expr} {emit:Sem Unit} {acc:Value} {ip:Pos} {it:Addr} {fp:List Addr} {tn:Nat→Heap→Prop} {J:It} {g:TG} {tt:TT} {tm:TM} {pins:List (Addr×Obj)} {σ:St} {H:Hp} {s:Shared} {Q:St→Hp→Prop}
  (hx:X.xe=fun _ _=>False) (hc:X.calm=true)
  (eq:compTurn (.ListComp elt0 gens scope cpos) depth (.ref it) acc X.env=(do
   standAt ip
   match ← pyNext (.ref it) with
   | none=>pure (.done .next)
   | some v =>
    letOwnedTupleGo target (.ref it) v
    assign target X.env v
    let mut ok:=true
    for c in ifs do
     if ok then ok ← isTrue c X.env (eval c X.env)
    if ok then emit
    again (.compLoop (.ListComp elt0 gens scope cpos) depth (.ref it) acc X.env)))
  (T:Turn X.prog X.w X.K target J fp it tn) (hg:PG X target g) (ht:PF X ifs tt) (hm:PM X emit tm)
  (I:Inv X pins σ H s) (st:tn 0 s.heap) (hf:∀ b∈fp,FpOk X pins H b) (h:zajz J g tt tm σ H Q) :
  codeAny (model X.prog X.w) X.A (.compLoop (.ListComp elt0 gens scope cpos) depth (.ref it) acc X.env) (fun r s'=>r=.ok .next∧∃ σ' H',Inv X pins σ' H' s'∧Q σ' H') s:=by
 obtain ⟨W,⟨m0,w0⟩,turn⟩:=h
 have stat:∀ {H':Hp},(∀ b∈fp,H' b=none)→∀ b∈fp,FpOk X pins H' b:=fun hn b hb=>⟨hn b hb,(hf b hb).2⟩
 have xe:∀ {α:Type} {m:Sem α} {Q':α→Shared→Prop} {E:Value→Shared→Prop} {s:Shared},wpAny (model X.prog X.w) X.A m Q' X.xe s→wpAny (model X.prog X.w) X.A m Q' E s:=fun q=>qBM q (fun _ _ z=>z) fun _ _ z=>by rw [hx] at z;exact z.elim
 refine codeAny_loop rfl (fun n s'=>∃ i σ' H',Inv X pins σ' H' s'∧tn i s'.heap∧(∀ b∈fp,H' b=none)∧W i n σ' H') ?_ m0 ⟨0,σ,H,I,st,fun b hb=>(hf b hb).1,w0⟩
 rintro n s3 ⟨i,σ3,H3,I3,st3,fr3,w3⟩
 show wpAny _ X.A ((compTurn (.ListComp elt0 gens scope cpos) depth (.ref it) acc X.env).onRaise (fun x=>do noteFrame x X.env;theTreesLotGoes x)) _ _ s3
 refine wpAny_noted ?_
 rw [eq]
 refine qC (qBZ (qC ?_))
 rcases turn i n σ3 H3 w3 with ⟨stop,qn⟩|⟨go,N,hN,step⟩
 ·refine thn (T.done X rfl rfl rfl hc i pins s3 σ3 H3 _ I3 (stat fr3) st3 stop) fun r s4 ⟨hr,I4⟩=>?_
  subst hr
  exact qI ⟨rfl,σ3,H3,I4,qn⟩
 ·refine thn (T.item X rfl rfl rfl hc i pins s3 σ3 H3 _ I3 (stat fr3) st3 go) fun r s4 ⟨u,hr,h4⟩=>?_
  subst hr
  refine qC (thn h4 fun _ s5 ⟨x,H5,I5,r5,y5,st5,fr5⟩=>?_)
  have I5':=I5.pinned (stat fr5) (T.obj _ _ st5)
  refine qC (xe (thn (hg _ s5 σ3 H5 x u _ I5' r5 (step x H5 y5)) fun _ s6 ⟨σ6,H6,I6,q6⟩=>?_))
  have again:∀ {σ7:St} {H7:Hp} {s7:Shared},Inv X (pins++zwe fp s5.heap) σ7 H7 s7→N σ7 H7→∃ m,m<n∧∃ i σ' H',Inv X pins σ' H' s7∧tn i s7.heap∧(∀ b∈fp,H' b=none)∧W i m σ' H':=fun {σ7 H7 s7} I7 n7=>by
   obtain ⟨m',hm,w7⟩:=hN σ7 H7 n7
   refine ⟨m',hm,i+1,σ7,H7,I7.unpinned,T.keep _ _ _ st5 fun b hb o e=>(I7.pin (b,o) (qd _ (qd _ (zlp hb e)))).1,fun b hb=>?_,w7⟩
   obtain ⟨o,e,d⟩:=T.obj _ _ st5 b hb
   exact (I7.pin (b,o) (qd _ (qd _ (zlp hb e)))).2.1
  refine qC (xe (thn (ht _ s6 σ6 H6 _ I6 q6) fun ok s7 ⟨H7,I7,q7⟩=>?_))
  cases ok with
  | false =>
   rw [if_neg (by decide)] at q7
   exact qI ⟨rfl,again I7 q7⟩
  | true =>
   rw [if_pos rfl] at q7
   refine qC (xe (thn (hm _ s7 σ6 H7 _ I7 q7) fun _ s8 ⟨σ8,H8,I8,q8⟩=>?_))
   exact qI ⟨rfl,again I8 q8⟩
end
section
variable {X:Cx} {pins:List (Addr×Obj)} {σ:St} {H:Hp} {s:Shared} {scope:Scope} {N' own:List Str} {fr:List Nat}
theorem ztf {elt0 target iter:Expr} {ifs:List Expr} {rest:List Comprehension} {cpos:Pos} {g:TG} {tt:TT} {tm:Addr→TM} {emit:Value→Env→Sem Unit} {it:Addr} {fp:List Addr} {tn:Nat→Heap→Prop} {J:It} {Q:VK} {E:Value→Shared→Prop} {RR:Value→Addr→Result→Shared→Prop}
  (c:CompOk X scope N' own fr) (hc:X.calm=true)
  (eq:∀ it acc env,compTurn (.ListComp elt0 (⟨target,iter,ifs,0⟩::rest) scope cpos) 0 it acc env=(do
   standAt iter.pos
   match ← pyNext it with
   | none=>pure (.done .next)
   | some v =>
    letOwnedTupleGo target it v
    assign target env v
    let mut ok:=true
    for c in ifs do
     if ok then ok ← isTrue c env (eval c env)
    if ok then emit acc env
    again (.compLoop (.ListComp elt0 (⟨target,iter,ifs,0⟩::rest) scope cpos) 0 it acc env)))
  (T:Turn X.prog X.w X.K target J fp it tn)
  (hb:∀ (cl:List (Str×Addr)) (C:Addr) (s:Shared) (H:Hp) (fp:List Addr) (p:Addr),PG (cxComp X scope N' own cl C s H fp) target g∧PF (cxComp X scope N' own cl C s H fp) ifs tt∧PM (cxComp X scope N' own cl C s H fp) (emit (.ref p) (compEnvC scope cl C X.env)) (tm p))
  (I:Inv X pins σ H s) (st:tn 0 s.heap) (hf:∀ b∈fp,FpOk X pins H b)
  (h:∀ p,H p=none→zajz J g tt (tm p) (tau own fr σ) (upd H p (.lst [])) (fun _ H'=>Q (.ref p) H'))
  (hRR:∀ (p C:Addr) (m:Str→Option Value) (H':Hp) (s':Shared),Inv X pins σ H' s'→s'.heap.Ns C m→FpOk X pins H' C→Q (.ref p) H'→RR (.ref p) C (.ok .next) s') :
  wpAny (model X.prog X.w) X.A (newList []) (fun acc s₃=>wpAny (model X.prog X.w) X.A (newFunctionEnv scope X.env.globals (clos X.env.cells scope.names []) [] X.env.qual none .none (some X.env)) (fun cenv s₄ =>
   codeAny (model X.prog X.w) X.A (.compStart (.ListComp elt0 (⟨target,iter,ifs,0⟩::rest) scope cpos) 0 (.ref it) acc {cenv with scope:=relabel scope X.env}) (RR acc cenv.locals) s₄) E s₃) E s:=by
 refine qA1 ?_
 have I3:Inv X pins σ (upd H s.heap.objs.size (.lst [])) {s with heap:=s.heap.push {cls:=.type "list",dict:=none,data:=.seq ([]:List Value).toArray}}:=I.lnew (t':=s.toks) .nil (qAg _)
 have hn0:H s.heap.objs.size=none:=I.hok.fresh (qJ _)
 generalize e3:({s with heap:=s.heap.push {cls:=.type "list",dict:=none,data:=.seq ([]:List Value).toArray}}:Shared)=s3 at I3 ⊢
 have k3:∀ b o,s.heap.get? b=some o→s3.heap.get? b=some o:=fun b o e=>by rw [← e3];exact qE _ e
 have hne:∀ b∈fp,b≠s.heap.objs.size:=fun b hb=>by
  obtain ⟨o,e,_⟩:=T.obj _ _ st b hb
  exact qq (qK e)
 have hf3:∀ b∈fp,FpOk X pins (upd H s.heap.objs.size (.lst [])) b:=fun b hb=>⟨by rw [zbd (hne b hb)];exact (hf b hb).1,(hf b hb).2⟩
 have st3:tn 0 s3.heap:=T.keep _ _ _ st fun b _ o e=>k3 b o e
 refine zads fun h' keep ns cells apart=>?_
 have I4:=zajy c I3 hf3 (T.obj _ _ st3) keep ns cells apart
 have st4:tn 0 h':=T.keep _ _ _ st3 fun b _ o e=>keep b o e
 obtain ⟨hg,ht,hm⟩:=hb (cellsFrom (s3.heap.objs.size+1) scope.names []++clos X.env.cells scope.names []) s3.heap.objs.size s3 (upd H s.heap.objs.size (.lst [])) fp s.heap.objs.size
 have hf4:∀ b∈fp,FpOk (cxComp X scope N' own (cellsFrom (s3.heap.objs.size+1) scope.names []++clos X.env.cells scope.names []) s3.heap.objs.size s3 (upd H s.heap.objs.size (.lst [])) fp) [] (upd H s.heap.objs.size (.lst [])) b:=fun b hb =>
  ⟨(hf3 b hb).1,(I4.ok.exf b hb).1,I4.ok.exfs b hb,.inl hb,(I4.ok.exf b hb).2,fun p hp=>absurd (show p∈([]:List (Addr×Obj)) from hp) (by simp)⟩
 have loop:codeAny (model X.prog X.w) X.A (.compLoop (.ListComp elt0 (⟨target,iter,ifs,0⟩::rest) scope cpos) 0 (.ref it) (.ref s.heap.objs.size) (compEnvC scope (cellsFrom (s3.heap.objs.size+1) scope.names []++clos X.env.cells scope.names []) s3.heap.objs.size X.env)) (RR (.ref s.heap.objs.size) s3.heap.objs.size) {s3 with heap:=h'}:=by
  refine qBh (zql (X:=cxComp X scope N' own (cellsFrom (s3.heap.objs.size+1) scope.names []++clos X.env.cells scope.names []) s3.heap.objs.size s3 (upd H s.heap.objs.size (.lst [])) fp) (pins:=[]) rfl hc (eq _ _ _) T hg ht hm I4 st4 hf4 (h _ hn0)) fun r s5 hr=>?_
  obtain ⟨rfl,σ5,H5,I5,q5⟩:=hr
  obtain ⟨m,hn,_⟩:=id I5.loc
  have u5:Un (frs X.stack) fp (upd H s.heap.objs.size (.lst [])) H5 s3.heap s5.heap:=I5.base
  have hok5:HOk X.prog X.w H5 s5.heap:=I5.hok
  have os5:s5.os=s3.os:=I5.os
  have bare5:=I5.bare
  have free5:H5 s3.heap.objs.size=none:=I5.free
  have hn:s5.heap.Ns s3.heap.objs.size m:=hn
  clear I5
  obtain ⟨hh,gg,dd,tk,os'⟩:=s5
  obtain rfl:os'=s3.os:=os5
  have I6:Inv X pins σ H5 {s3 with heap:=hh,gens:=gg,drawn:=dd,toks:=tk}:=I3.call (ch:=fp) u5 hok5 bare5 fun b hb=>⟨(hf3 b hb).2.2.2.1,(hf3 b hb).2.1,(hf3 b hb).2.2.2.2.1,(hf3 b hb).2.2.2.2.2⟩
  exact hRR _ _ m H5 _ I6 hn (I3.fpOk (qJ _) free5) q5
 exact codeAny_compStart_list loop (T.self _ 0 _ _ _ st4 loop)
def zaka (wi:TI) (g:TG) (tt:TT) (tm:Addr→TM) (own:List Str) (fr:List Nat):TE:=fun σ H Q=>wi σ H fun J H1=>∀ p,H1 p=none→zajz J g tt (tm p) (tau own fr σ) (upd H1 p (.lst [])) (fun _ H'=>Q (.ref p) H')
theorem zabs {elt0 target iter:Expr} {ifs:List Expr} {rest:List Comprehension} {cpos:Pos} {wi:TI} {g:TG} {tt:TT} {tm:Addr→TM} {emit:Value→Env→Sem Unit} (c:CompOk X scope N' own fr) (hc:X.calm=true)
  (eq:∀ it acc env,compTurn (.ListComp elt0 (⟨target,iter,ifs,0⟩::rest) scope cpos) 0 it acc env=(do
   standAt iter.pos
   match ← pyNext it with
   | none=>pure (.done .next)
   | some v =>
    letOwnedTupleGo target it v
    assign target env v
    let mut ok:=true
    for c in ifs do
     if ok then ok ← isTrue c env (eval c env)
    if ok then emit acc env
    again (.compLoop (.ListComp elt0 (⟨target,iter,ifs,0⟩::rest) scope cpos) 0 it acc env)))
  (hi:PI X target iter wi)
  (hb:∀ (cl:List (Str×Addr)) (C:Addr) (s:Shared) (H:Hp) (fp:List Addr) (p:Addr),PG (cxComp X scope N' own cl C s H fp) target g∧PF (cxComp X scope N' own cl C s H fp) ifs tt∧PM (cxComp X scope N' own cl C s H fp) (emit (.ref p) (compEnvC scope cl C X.env)) (tm p))
  (hs:∀ x,foldedSetIterable iter X.env x=pure x:=by intro _;rfl) :
  PE X (.ListComp elt0 (⟨target,iter,ifs,0⟩::rest) scope cpos) (zaka wi g tt tm own fr):=by
 intro pins s σ H Q I h
 rw [eval_ListComp]
 refine qDE (use:=none) rfl hs (znc (zof c I.ok)) c.kind (fun y hy e=>(c.names y hy).trans (by rw [e])) ?_
 refine thn (hi pins s σ H _ I h) fun v s1 h1=>thn h1 fun itv s2 h2=>?_
 obtain ⟨it,fp,tn,J,H2,e,I2,T,st2,f2,q⟩:=h2
 subst e
 refine ztf (Q:=Q) c hc eq T hb I2 st2 f2 q fun p C m H' s' I' hn hC q'=>?_
 exact ⟨m,hn,fun h' sb=>⟨.ref p,H',I'.turned (t':=s'.toks) (fun b o hb e=>(sb.2 b hb).trans e) hC.1 hC.2.1 hC.2.2.2.1 hC.2.2.2.2.1 hC.2.2.2.2.2,rfl,q'⟩⟩
def zasb (wi:TI) (g:TG) (tt:TT) (tm:Addr→TM) (own:List Str) (fr:List Nat) (i:Nat):TS:=fun D σ H=>zaka wi g tt tm own fr σ H fun v H'=>D.nx (σ.set i (some v)) H'
theorem zakb {elt0 target iter:Expr} {ifs:List Expr} {rest:List Comprehension} {cpos spos py:Pos} {wi:TI} {g:TG} {tt:TT} {tm:Addr→TM} {emit:Value→Env→Sem Unit} {i:Nat} {y:Str} (c:CompOk X scope N' own fr) (hc:X.calm=true)
  (eq:∀ it acc env,compTurn (.ListComp elt0 (⟨target,iter,ifs,0⟩::rest) scope cpos) 0 it acc env=(do
   standAt iter.pos
   match ← pyNext it with
   | none=>pure (.done .next)
   | some v =>
    letOwnedTupleGo target it v
    assign target env v
    let mut ok:=true
    for c in ifs do
     if ok then ok ← isTrue c env (eval c env)
    if ok then emit acc env
    again (.compLoop (.ListComp elt0 (⟨target,iter,ifs,0⟩::rest) scope cpos) 0 it acc env)))
  (hi:PI X target iter wi)
  (hb:∀ (cl:List (Str×Addr)) (C:Addr) (s:Shared) (H:Hp) (fp:List Addr) (p:Addr),PG (cxComp X scope N' own cl C s H fp) target g∧PF (cxComp X scope N' own cl C s H fp) ifs tt∧PM (cxComp X scope N' own cl C s H fp) (emit (.ref p) (compEnvC scope cl C X.env)) (tm p))
  (hsw:swapsWith (.ListComp elt0 (⟨target,iter,ifs,0⟩::rest) scope cpos) (some (.Name y py)) spos.line X.env=pure true)
  (hN:X.N.Nodup) (hy:X.N[i]?=some y) (hl:X.env.scope.names.lookup y=some .local)
  (hs:∀ x,foldedSetIterable iter X.env x=pure x:=by intro _;rfl) :
  PS X (.Assign [.Name y py] (.ListComp elt0 (⟨target,iter,ifs,0⟩::rest) scope cpos) spos) (zasb wi g tt tm own fr i):=by
 intro pins s σ H D I h
 rw [exec_Assign_Name_used _ _ _ _ hsw]
 refine qC (qBZ (qC ?_))
 show wpAny _ X.A (do let _ ← comprehension (.ListComp elt0 (⟨target,iter,ifs,0⟩::rest) scope cpos) scope X.env _ (newList []) false (eval iter X.env) (some (assign (.Name y py) X.env))) _ _ s
 refine qC (thn (qDE (use:=some (assign (.Name y py) X.env)) (Q:=fun _ s'=>SP X pins D .next s') rfl hs (znc (zof c I.ok)) c.kind (fun y hy e=>(c.names y hy).trans (by rw [e])) ?_) fun _ s' q=>qI (qI q))
 refine thn (hi pins s σ H _ I h) fun v s1 h1=>thn h1 fun itv s2 h2=>?_
 obtain ⟨it,fp,tn,J,H2,e,I2,T,st2,f2,q⟩:=h2
 subst e
 refine ztf (Q:=fun v H'=>D.nx (σ.set i (some v)) H') c hc eq T hb I2 st2 f2 q fun p C m H' s' I' hn hC q'=>?_
 show wpAny _ X.A (assign (.Name y py) X.env (.ref p)) _ _ _
 refine wpAny_assign_Name (zwb I' hN hy (.inl hl) (v:=.ref p) rfl (fun s'' I'' ⟨a,sb,ha⟩=>?_) (.inr hl))
 have hCa:C≠a:=by
  rcases ha with rfl|ha
  ·exact hC.2.1
  ·exact qAp (hC.2.2.2.2.1 y a ha)
 refine ⟨m,hn.sameBut sb hCa,fun h' sb'=>⟨σ.set i (some (.ref p)),H',I''.turned (t':=s''.toks) (fun b o hb e=>(sb'.2 b hb).trans e) hC.1 hC.2.1 hC.2.2.2.1 hC.2.2.2.2.1 hC.2.2.2.2.2,q'⟩⟩
end
section
variable {X:Cx}
section
variable {scope:Scope} {N' own:List Str} {fr:List Nat} {elt target iter:Expr} {ifs:List Expr} {cpos:Pos} {wi:TI} {g:TG} {tt:TT} {te:TE}
def tComp1 (wi:TI) (g:TG) (tt:TT) (te:TE) (own:List Str) (fr:List Nat):TE:=zaka wi g tt (fun p=>zadt p te) own fr
theorem zakc (c:CompOk X scope N' own fr) (hc:X.calm=true) (hi:PI X target iter wi)
  (hb:∀ (cl:List (Str×Addr)) (C:Addr) (s:Shared) (H:Hp) (fp:List Addr),PG (cxComp X scope N' own cl C s H fp) target g∧PF (cxComp X scope N' own cl C s H fp) ifs tt∧PE (cxComp X scope N' own cl C s H fp) elt te)
  (hs:∀ x,foldedSetIterable iter X.env x=pure x:=by intro _;rfl):PE X (.ListComp elt [⟨target,iter,ifs,0⟩] scope cpos) (tComp1 wi g tt te own fr) :=
 zabs (emit:=fun acc env=>do let _ ← call (.builtin "list.append") [acc,← eval elt env]) c hc (fun _ _ _=>rfl) hi
  (fun cl C s H fp p=>⟨(hb cl C s H fp).1,(hb cl C s H fp).2.1,zzw (hb cl C s H fp).2.2⟩) hs
def tAsgC1 (wi:TI) (g:TG) (tt:TT) (te:TE) (own:List Str) (fr:List Nat) (i:Nat):TS:=zasb wi g tt (fun p=>zadt p te) own fr i
theorem zakd {spos py:Pos} {i:Nat} {y:Str} (c:CompOk X scope N' own fr) (hc:X.calm=true) (hi:PI X target iter wi)
  (hb:∀ (cl:List (Str×Addr)) (C:Addr) (s:Shared) (H:Hp) (fp:List Addr),PG (cxComp X scope N' own cl C s H fp) target g∧PF (cxComp X scope N' own cl C s H fp) ifs tt∧PE (cxComp X scope N' own cl C s H fp) elt te)
  (hsw:swapsWith (.ListComp elt [⟨target,iter,ifs,0⟩] scope cpos) (some (.Name y py)) spos.line X.env=pure true)
  (hN:X.N.Nodup) (hy:X.N[i]?=some y) (hl:X.env.scope.names.lookup y=some .local)
  (hs:∀ x,foldedSetIterable iter X.env x=pure x:=by intro _;rfl):PS X (.Assign [.Name y py] (.ListComp elt [⟨target,iter,ifs,0⟩] scope cpos) spos) (tAsgC1 wi g tt te own fr i) :=
 zakb (emit:=fun acc env=>do let _ ← call (.builtin "list.append") [acc,← eval elt env]) c hc (fun _ _ _=>rfl) hi
  (fun cl C s H fp p=>⟨(hb cl C s H fp).1,(hb cl C s H fp).2.1,zzw (hb cl C s H fp).2.2⟩) hsw hN hy hl hs
end
def zauj:R2:=fun x y H Q=>∃ z n,x=.str z∧y=.int n∧z.length≤1000∧-1000≤n∧n≤1000∧Q (.str (Txt.mul z n)) H
theorem zaon:OpR X (binaryOp .Mult) zauj:=by
 intro pins s σ H x y v u Q I rx ry h
 obtain ⟨z,n,rfl,rfl,h1,h2,h3,q⟩:=h
 obtain ⟨t,rfl⟩:=rx
 obtain ⟨t',rfl⟩:=ry
 exact SB.mul (mulOk_of 1000 1000 h1 (by omega) (by omega) (by decide) (by decide)) fun t' k=>⟨.str (Txt.mul z n),H,I.tok _,⟨_,rfl⟩,q⟩
def rSlS:V→Option Int→Option Int→Hp→VK→Prop:=fun x lo hi H Q=>∃ z,x=.str z∧z.length≤qU∧Q (.str (Txt.slice z lo hi)) H
theorem zasc:SlR X rSlS:=by
 intro pins s σ H x v vl vu lo hi sl Q I rx hs pl pu h
 obtain ⟨z,rfl,hz,q⟩:=h
 obtain ⟨t,rfl⟩:=rx
 refine ⟨"str",_,F.slot_str_getitem.lookup,typeIs_str _ _ _,?_⟩
 have fin:∀ t' k,EP X pins σ Q (.str (Txt.slice z lo hi) t') {s with toks:=k}:=fun t' k=>⟨.str (Txt.slice z lo hi),H,I.tok _,⟨_,rfl⟩,q⟩
 have fz:(Txt.slice z lo hi).length≤qU:=qAG (Txt.slice_le z _ _) hz
 cases pl with
 | none=>cases pu with
  | none=>exact qBb (l:=none) (u:=none) (st:=none) hs rfl (qCJ ⟨fz,fin⟩)
  | int j tj=>exact qBb (l:=none) (u:=some (j,tj)) (st:=none) hs rfl (qCJ ⟨fz,fin⟩)
 | int i ti=>cases pu with
  | none=>exact qBb (l:=some (i,ti)) (u:=none) (st:=none) hs rfl (qCJ ⟨fz,fin⟩)
  | int j tj=>exact qBb (l:=some (i,ti)) (u:=some (j,tj)) (st:=none) hs rfl (qCJ ⟨fz,fin⟩)
def zafq:V→List V→Hp→VK→Prop:=fun x vs H Q=>∃ d o kvs more,x=.ref d∧vs=[.ref o]∧d≠o∧H d=some (.dK kvs)∧H o=some (.dK more)∧kvs.length+more.length≤qU∧Q .non (upd H d (.dK (ziz kvs more)))
theorem zwu:MtM X "dict.update" zafq:=by
 intro pins s σ H x vs v us Q I rx rv h
 obtain ⟨d,o,kvs,more,rfl,rfl,hne,hd,ho,hz,q⟩:=h
 cases rx
 obtain ⟨u,rfl,ru⟩:=rv.one
 cases ru
 obtain ⟨z1,s1,vs1,rel1,dd1⟩:=zajt I.hok hd
 obtain ⟨z2,s2,vs2,rel2,dd2⟩:=zajt I.hok ho
 refine call_meetsIn F.slot_dict_update dd1.typeIs F.entry_dict_update (F.args_dict_update_2 _ _) (meets_dict_update (zcx X.prog X.w) d o hne s2) ⟨vs1,vs2,dd1,dd2,?_,fun h' h1 h2 sb=>?_⟩
 ·rw [← rel1.length,← rel2.length];exact hz
 ·have he:∃ q,h'.get? d=some q:=by obtain ⟨ob,_,_,e,_⟩:=h1;exact ⟨ob,e⟩
  refine ⟨.non,_,zul (t':=s.toks) I (by rw [hd];trivial) sb he (zabq (qAG (zhr more kvs) hz) s1 (rel2.merge rel1) h1),rfl,q⟩
theorem zake {id:String} (hid:id = "isinstance"):CallR X (.builtin id) (fun xs H Q=>∃ x n t b,xs=[x,.ty n]∧TyOf X.K H x t∧PySem.W.kitOne X.K t (.type n)=some b∧Q (.bl b) H):=by
 subst hid
 intro pins s σ H xs us Q I r h
 obtain ⟨x,n,t,b,rfl,ty,e,q⟩:=h
 obtain ⟨u,w',rfl,rx,ry⟩:=zwh r
 cases ry
 exact zafe I rx ty e fun tk=>⟨.bl b,H,I.tok _,rfl,q⟩
end
section
variable {X:Cx}
end
mutual
def Rep (K:qB) (H:Hp):PyData→V→Prop
 | .none,v=>v=.non
 | .bool b,v=>v=.bl b
 | .int i,v=>v=.int i
 | .str x,v=>v=.str x
 | .list ds,v=>∃ a xs,v=.ref a∧SqL K H a xs∧Reps K H ds xs
 | .tuple ds,v=>∃ a xs,v=.ref a∧SqT K H a xs∧Reps K H ds xs
 | .dict _,_=>False
def Reps (K:qB) (H:Hp):List PyData→List V→Prop
 | [],xs=>xs=[]
 | d::ds,xs=>∃ v vs,xs=v::vs∧Rep K H d v∧Reps K H ds vs
end
mutual
theorem zgk {X:Cx} {pins:List (Addr×Obj)} {σ:St} {H:Hp} {s:Shared} (I:Inv X pins σ H s):∀ (d:PyData) {v:V} {u:Value},Rep X.K H d v→RelV v u→∃ as,Reads s.heap u d as
 | .none,v,u,h,r=>by unfold Rep at h;subst h;cases r;exact ⟨_,.none⟩
 | .bool b,v,u,h,r=>by unfold Rep at h;subst h;cases r;exact ⟨_,.bool b⟩
 | .int i,v,u,h,r=>by unfold Rep at h;subst h;obtain ⟨t,rfl⟩:=r;exact ⟨_,.int i t⟩
 | .str x,v,u,h,r=>by unfold Rep at h;subst h;obtain ⟨t,rfl⟩:=r;exact ⟨_,.str x t⟩
 | .list ds,v,u,h,r=>by
  unfold Rep at h
  obtain ⟨a,xs,rfl,hq,hr⟩:=h
  cases r
  obtain ⟨its,rv,p,hz⟩:=I.list hq
  obtain ⟨as,q⟩:=zog I ds hr rv
  obtain ⟨o,h1,h2,n,h3⟩:=p.isList
  exact ⟨_,reads_list_at h1 h2 h3 (by simpa using q)⟩
 | .tuple ds,v,u,h,r=>by
  unfold Rep at h
  obtain ⟨a,xs,rfl,hq,hr⟩:=h
  cases r
  obtain ⟨its,rv,p,hz⟩:=I.tuple hq
  obtain ⟨as,q⟩:=zog I ds hr rv
  obtain ⟨o,h1,h2,n,h3⟩:=p
  exact ⟨_,reads_tuple_at h1 h2 h3 (by simpa using q)⟩
 | .dict _,_,_,h,_=>by unfold Rep at h;exact h.elim
theorem zog {X:Cx} {pins:List (Addr×Obj)} {σ:St} {H:Hp} {s:Shared} (I:Inv X pins σ H s):∀ (ds:List PyData) {vs:List V} {us:List Value},Reps X.K H ds vs→Vals vs us→∃ as,ReadsAll s.heap us ds as
 | [],vs,us,h,r=>by unfold Reps at h;subst h;cases r;exact ⟨_,.nil⟩
 | d::ds,vs,us,h,r=>by
  unfold Reps at h
  obtain ⟨v,vs',rfl,h1,h2⟩:=h
  cases r with
  | cons r rr =>
   obtain ⟨as,q1⟩:=zgk I d h1 r
   obtain ⟨bs,q2⟩:=zog I ds h2 rr
   exact ⟨_,.cons q1 q2⟩
end
theorem SqT.same {K:qB} {H H':Hp} {a:Addr} {xs:List V} (h:Same H H') (q:SqT K H a xs):SqT K H' a xs:=by
 rcases q with (q|⟨o,q⟩)|q
 ·exact .inl (.inl (h _ _ q))
 ·exact .inl (.inr ⟨o,h _ _ q⟩)
 ·exact .inr q
section
variable {X:Cx}
def rEqD (K:qB) (neg:Bool):R2:=fun x y H Q=>∃ d e,Rep K H d x∧Rep K H e y∧qAD d=true∧qAD e=true∧Q (.bl (if neg then !PyData.eqv d e else qAK d e)) H
theorem zasd (hu:X.A.units+64<cLine):OpR X (compareOp .Eq) (rEqD X.K false):=by
 intro pins s σ H x y v u Q I rx ry h
 obtain ⟨d,e,hd,he,sd,se,q⟩:=h
 obtain ⟨as,r1⟩:=zgk I d hd rx
 obtain ⟨bs,r2⟩:=zgk I e he ry
 exact eq_dataH r1 r2 sd se hu ⟨.bl (qAK d e),H,I,rfl,q⟩
theorem zase (hu:X.A.units+64<cLine):OpR X (compareOp .NotEq) (rEqD X.K true):=by
 intro pins s σ H x y v u Q I rx ry h
 obtain ⟨d,e,hd,he,sd,se,q⟩:=h
 obtain ⟨as,r1⟩:=zgk I d hd rx
 obtain ⟨bs,r2⟩:=zgk I e he ry
 exact ne_dataH r1 r2 sd se hu ⟨.bl (!PyData.eqv d e),H,I,rfl,q⟩
theorem zafr {bs:List Bool}:∀ {its:List Value},Vals (bs.map V.bl) its→its=bs.map Value.bool:=by
 induction bs with
 | nil=>intro its r;cases r;rfl
 | cons b bs ih =>
  intro its r
  cases r with
  | cons r rr=>cases r;rw [ih rr];rfl
theorem zafs (bs:List Bool):(List.range bs.length).any (fun i=>bs.getD i false)=bs.any id:=by
 rw [qAl,qA2,qA2]
 constructor
 ·rintro ⟨i,hi,h⟩
  have hi:=qAq.mp hi
  rw [qAE,qH hi] at h
  exact ⟨_,qAe hi,h⟩
 ·rintro ⟨b,hb,h⟩
  obtain ⟨i,hi,e⟩:=qBk hb
  exact ⟨i,qAq.mpr hi,by rw [qAE,qH hi,e];exact h⟩
theorem zaft (bs:List Bool):(List.range bs.length).all (fun i=>bs.getD i false)=bs.all id:=by
 rw [qAl,qAw,qAw]
 constructor
 ·intro h b hb
  obtain ⟨i,hi,e⟩:=qBk hb
  have q:=h i (qAq.mpr hi)
  rw [qAE,qH hi,e] at q
  exact q
 ·intro h i hi
  have hi:=qAq.mp hi
  have q:=h _ (qAe hi)
  rw [qAE,qH hi]
  exact q
def rAny (K:qB) (f:List Bool→Bool):List V→Hp→VK→Prop:=fun xs H Q=>∃ p bs,xs=[.ref p]∧SqL K H p (bs.map V.bl)∧Q (.bl (f bs)) H
theorem zakf (hc:X.calm=true):CallR X (.builtin "any") (rAny X.K fun bs=>bs.any id):=by
 intro pins s σ H xs us Q I r h
 obtain ⟨p,bs,rfl,hq,q⟩:=h
 obtain ⟨u,rfl,ru⟩:=zwg r
 cases ru
 obtain ⟨its,rv,pl,hz⟩:=I.list hq
 cases zafr rv
 have hne:p≠s.heap.objs.size:=by obtain ⟨o,e,_⟩:=pl.isList;exact qq (qK e)
 refine call_any_walk (qAt pl.isList ⟨s.heap.objs.size,_,_,_,_,_,fun i=>bs.getD i false,rfl,Walks.list (A:=X.A.in1) (show X.A.in1.handled=none from I.ok.hd hc) _ p hne (bs.map Value.bool).toArray,⟨⟨_,qb _ rfl,rfl,rfl⟩,?_⟩,?_,?_⟩)
 ·obtain ⟨o,e,z⟩:=pl.isList
  exact ⟨o,qE _ e,z⟩
 ·intro i v s' Q' E' hv hQ
  have hv:(bs.map Value.bool)[i]?=some v:=by simpa using hv
  rw [qT] at hv
  cases e:bs[i]? with
  | none=>rw [e] at hv;cases hv
  | some b =>
   rw [e] at hv
   cases hv
   have z:bs.getD i false=b:=by rw [qAE,e];rfl
   have hQ:Q' (bs.getD i false) s':=hQ
   rw [z] at hQ
   exact qBe hQ
 ·intro h' tk hk
  refine ⟨.bl (bs.any id),H,?_,by rw [← zafs bs];simp;rfl,q⟩
  exact I.kept (t':=tk) fun b o e=>hk b o (by have:=qK e;simp;exact qq this) (qE _ e)
theorem zakg (hc:X.calm=true):CallR X (.builtin "all") (rAny X.K fun bs=>bs.all id):=by
 intro pins s σ H xs us Q I r h
 obtain ⟨p,bs,rfl,hq,q⟩:=h
 obtain ⟨u,rfl,ru⟩:=zwg r
 cases ru
 obtain ⟨its,rv,pl,hz⟩:=I.list hq
 cases zafr rv
 have hne:p≠s.heap.objs.size:=by obtain ⟨o,e,_⟩:=pl.isList;exact qq (qK e)
 refine call_all_walk (qAt pl.isList ⟨s.heap.objs.size,_,_,_,_,_,fun i=>bs.getD i false,rfl,Walks.list (A:=X.A.in1) (show X.A.in1.handled=none from I.ok.hd hc) _ p hne (bs.map Value.bool).toArray,⟨⟨_,qb _ rfl,rfl,rfl⟩,?_⟩,?_,?_⟩)
 ·obtain ⟨o,e,z⟩:=pl.isList
  exact ⟨o,qE _ e,z⟩
 ·intro i v s' Q' E' hv hQ
  have hv:(bs.map Value.bool)[i]?=some v:=by simpa using hv
  rw [qT] at hv
  cases e:bs[i]? with
  | none=>rw [e] at hv;cases hv
  | some b =>
   rw [e] at hv
   cases hv
   have z:bs.getD i false=b:=by rw [qAE,e];rfl
   have hQ:Q' (bs.getD i false) s':=hQ
   rw [z] at hQ
   exact qBe hQ
 ·intro h' tk hk
  refine ⟨.bl (bs.all id),H,?_,by rw [← zaft bs];simp;rfl,q⟩
  exact I.kept (t':=tk) fun b o e=>hk b o (by have:=qK e;simp;exact qq this) (qE _ e)
end
def zafu (o:Option NameKind):Bool:=o==some .cell||o==some .free
noncomputable def zafv (sc:Scope) (N:List Str) (scope:Scope) (N' own:List Str) (fr:List Nat):Bool :=
 (scope.kind==.function)&&(scope.names.all fun y=>scope.names.lookup y.1==some y.2)&&(scope.names.all fun y=>!(y.2==.free)||zafu (sc.names.lookup y.1)) &&
 (N'==own++fr.map fun j=>N.getD j Str.empty)&&(fr.all fun j=>decide (j<N.length)&&(scope.names.lookup (N.getD j Str.empty)==some .free)) &&
 (own.all fun x=>scope.names.lookup x==some .local||scope.names.lookup x==some .cell)
section
variable {X:Cx}
theorem zce {scope:Scope} {N' own:List Str} {fr:List Nat} (h:zafv X.env.scope X.N scope N' own fr=true):CompOk X scope N' own fr:=by
 unfold zafv at h
 simp only [qAB] at h
 obtain ⟨⟨⟨⟨⟨h1,h2⟩,h3⟩,h4⟩,h5⟩,h6⟩:=h
 refine ⟨eq_of_beq h1,fun y hy=>eq_of_beq (qAw.mp h2 y hy),fun y hy e=>?_,eq_of_beq h4,fun j hj=>?_,fun x hx=>?_⟩
 ·have q:=qAw.mp h3 y hy
  rw [e] at q
  have q:zafu (X.env.scope.names.lookup y.1)=true:=by simpa using q
  unfold zafu at q
  rcases qCI.mp q with z|z
  ·exact .inl (eq_of_beq z)
  ·exact .inr (eq_of_beq z)
 ·have q:=qAw.mp h5 j hj
  rw [qAB] at q
  exact ⟨of_decide_eq_true q.1,eq_of_beq q.2⟩
 ·have q:=qAw.mp h6 x hx
  rcases qCI.mp q with z|z
  ·exact .inl (eq_of_beq z)
  ·exact .inr (eq_of_beq z)
def zakh (K:qB):R2:=fun x y H Q=>match x,y with
 | .int i,.int j=>Q (.int (i+j)) H
 | .str a,.str b=>a.length+b.length≤qU∧Q (.str (a++b)) H
 | .ref _,.ref _=>rCat x y H Q∨zarp K x y H Q
 | _,_=>False
theorem zafw:OpR X (binaryOp .Add) (zakh X.K):=by
 intro pins s σ H x y v u Q I rx ry h
 cases x<;>cases y<;>first
  | exact h.elim
  | exact zarh pins s σ H _ _ v u Q I rx ry ⟨_,_,rfl,rfl,h⟩
  | exact zadm pins s σ H _ _ v u Q I rx ry ⟨_,_,rfl,rfl,h.1,h.2⟩
  | exact (zarw.or zaod) pins s σ H _ _ v u Q I rx ry h
def zasf:R2:=fun x y H Q=>match x,y with
 | .int i,.int j=>CMul i j∧Q (.int (i * j)) H
 | .str z,.int n=>z.length≤1000∧-1000≤n∧n≤1000∧Q (.str (Txt.mul z n)) H
 | _,_=>False
theorem zjd:OpR X (binaryOp .Mult) zasf:=by
 intro pins s σ H x y v u Q I rx ry h
 cases x<;>cases y<;>first
  | exact h.elim
  | exact zari pins s σ H _ _ v u Q I rx ry ⟨_,_,rfl,rfl,h.1,h.2⟩
  | exact zaon pins s σ H _ _ v u Q I rx ry ⟨_,_,rfl,rfl,h.1,h.2.1,h.2.2.1,h.2.2.2⟩
def rIxU (K:qB):R2:=fun x y H Q=>match x,y with
 | .str z,.int i=>z.length≤qU∧∃ c,atI z.cps.toList i=some c∧Q (.str ⟨#[c]⟩) H
 | .ref p,.int i=>∃ xs v,(SqL K H p xs∨SqT K H p xs)∧atI xs i=some v∧Q v H
 | _,_=>False
theorem ix_U:IxR X (rIxU X.K):=by
 intro value slice pins s σ H x y v u Q I rx ry h hs
 cases x<;>cases y<;>first
  | exact h.elim
  | (obtain ⟨h1,c,h2,h3⟩:=h;exact zars value slice pins s σ H _ _ v u Q I rx ry ⟨_,_,c,rfl,rfl,h1,h2,h3⟩ hs)
  | (obtain ⟨xs,w,h1,h2,h3⟩:=h
     rcases h1 with h1|h1
     ·exact zaof value slice pins s σ H _ _ v u Q I rx ry ⟨_,xs,_,w,rfl,rfl,h1,h2,h3⟩ hs
     ·exact zarr value slice pins s σ H _ _ v u Q I rx ry ⟨_,xs,_,w,rfl,rfl,h1,h2,h3⟩ hs)
def rSlU (K:qB):V→Option Int→Option Int→Hp→VK→Prop:=fun x lo hi H Q=>match x with
 | .str z=>z.length≤qU∧Q (.str (Txt.slice z lo hi)) H
 | .ref _=>rSlL K x lo hi H Q
 | _=>False
theorem sl_U:SlR X (rSlU X.K):=by
 intro pins s σ H x v vl vu lo hi sl Q I rx hs pl pu h
 cases x<;>first
  | exact h.elim
  | exact zasc pins s σ H _ v vl vu lo hi sl Q I rx hs pl pu ⟨_,rfl,h.1,h.2⟩
  | exact zaog pins s σ H _ v vl vu lo hi sl Q I rx hs pl pu h
def Dn (P:Program) (w:World) (K:qB) (mg:Str→Option Value) (base:Heap) (x:Str) (ps:List Str) (k:Nat) (sp:Sp):Prop :=
 ∃ f fd,FnOk P w K mg base CX0 k f fd ps sp∧mg x=some (.ref f)∧qN K (.ref f)=true∧zqg K fd ps []
theorem zauk {x:Str} {p pos:Pos} {e:Expr} {es:List Expr} {t:TA} {ps:List Str} {k:Nat} {sp:Sp} (D:Dn X.prog X.w X.K X.mg X.base x ps k sp) (hr:Room k X.A) (hg:Gl X x) (ha:PA X (e::es) t)
  (hdb:(x==("__debug__":Str))=false:=by decide) (he:starEach (e::es) X.env=(false,eval e X.env)::starEach es X.env:=by rfl) (hpl:(backTo pos (starEach es X.env)).any (·.1)=false:=by rfl) :
  PE X (.Call (.Name x p) (e::es) [] pos) (tCall sp [] E0 t):=by
 obtain ⟨f,fd,F,hm,hk,hb⟩:=D
 exact zaff F hr hg hm hk hb .nil zaui ha hdb he hpl
end
theorem Same.upd {H H':Hp} {p:Addr} {o:HO} (h:Same H H') (hp:H p=none):Same H (upd H' p o):=fun b u e=>by rw [zbd (zbt e hp)];exact h b u e
theorem Same.new {H:Hp} {p:Addr} {o:HO} (hp:H p=none):Same H (L2.upd H p o):=(Same.refl H).upd hp
end L2
namespace Bc
open PySem L2
abbrev Web:=List (Str×List Str)
def nm (W:Web):List Str:=W.map (·.1)
structure WebOk (W:Web):Prop where
 nd:(nm W).Nodup
 el:∀ i n es,W[i]?=some (n,es)→∀ e∈es,e∈nm (W.take i)
 few:∀ p∈W,p.2.length≤4
 len:W.length≤12
theorem zkk {α:Type} [DecidableEq α]:∀ (l m:List α),l.Nodup→(∀ x∈l,x∈m)→l.length≤m.length
 | [],_,_,_=>qAg _
 | a::l,m,h,s=>by
  obtain ⟨h1,h2⟩:=qA8.mp h
  have ha:=s a qj
  have q:=zkk l (m.erase a) h2 fun x hx=>(List.mem_erase_of_ne (fun (z:x=a)=>h1 (by rw [← z];exact hx))).mpr (s x (qL _ hx))
  rw [List.length_erase_of_mem ha] at q
  have:=qCw ha
  rw [qAN]
  omega
section
variable {κ:Type} [DecidableEq κ]
end
theorem zqm {W:Web} (h:WebOk W):(nm W).length≤12:=by unfold nm;rw [qF];exact h.len
end Bc
namespace L2
open PySem PySem.Spec PyProof.Rows
section
variable {X:Cx} {K:qB} (hK:X.K=K)
include hK
theorem zaoo {es:List Expr} {k:Nat} {t:TGs} {n:Nat} {pos:Pos} (hc:X.calm=true) (h:PGs X es t)
  (hn:(assignEach es X.env).length=n:=by rfl) (hst:(assignEach es X.env).findIdx? (·.1)=none:=by rfl):PG X (.Tuple es k pos) (gTup K n t):=by subst hK;exact zare hc h hn hst
theorem zdo:IxR X (rIxU K):=by subst hK;exact ix_U
theorem zkl:SlR X (rSlU K):=by subst hK;exact sl_U
theorem zbu:OpR X (binaryOp .Add) (zakh K):=by subst hK;exact zafw
theorem zamt:OpR X (compareOp .In) (rIn K false):=by subst hK;exact zafk
theorem zkm:OpR X (compareOp .NotIn) (rIn K true):=by subst hK;exact zwp
theorem zeb:CallR X (.builtin "len") (fun xs H Q=>∃ x n,xs=[x]∧LenV K x H n∧Q (.int n) H):=by subst hK;exact zajo
theorem znd (hc:X.calm=true):CallR X (.builtin "any") (rAny K fun bs=>bs.any id):=by subst hK;exact zakf hc
theorem zwv (hc:X.calm=true):CallR X (.builtin "all") (rAny K fun bs=>bs.all id):=by subst hK;exact zakg hc
theorem zww:CallR X (.builtin "isinstance") (fun xs H Q=>∃ x n t b,xs=[x,.ty n]∧TyOf K H x t∧PySem.W.kitOne K t (.type n)=some b∧Q (.bl b) H):=by subst hK;exact zake rfl
theorem zlr:CallR X (.type "list") (fun xs H Q=>∃ p ys,xs=[.ref p]∧(SqL K H p ys∨SqT K H p ys)∧∀ l,H l=none→Q (.ref l) (upd H l (.lst ys))):=by subst hK;exact zwq
theorem zaki {tg l:Expr} {tl:TE} (hl:PE X l tl):PI X tg l (zarg K tl):=by subst hK;exact zanz hl
theorem zafx {T:String} {name:Str} {id:String} {r:V→List V→Hp→VK→Prop} {o e:Expr} {es:List Expr} {to:TE} {t:TA} {apos cpos:Pos} (pa:PlainAttrs T) (slot:Slot T name id) (hty:typeOf (.builtin id)=pure (.type "method_descriptor")) (hm:MtR X id r) (ho:PE X o to) (ha:PA X (e::es) t)
  (hbase:attributeBase o name X.env (eval o X.env)=eval o X.env:=by rfl)
  (hfew:((backTo cpos (starEach (e::es) X.env)).all (fun x=>!x.1)&&(backToKw cpos (keywordEach [] X.env)).all (fun x=>x.1.isSome)
   && decide ((e::es).length+([]:List Keyword).length+(if ([]:List Keyword).isEmpty then 0 else 1)<30))=true:=by rfl)
  (hline:(apos.endLine==cpos.line)=true:=by rfl) (hs:starEach (e::es) X.env=(false,eval e X.env)::starEach es X.env:=by rfl) (hplain:(backTo cpos (starEach es X.env)).any (·.1)=false:=by rfl) :
  PE X (.Call (.Attribute o name apos) (e::es) [] cpos) (tBM K T r to t):=by subst hK;exact zaug pa slot hty hm ho ha hbase hfew hline hs hplain
end
def keyD:PyData→Option Key
 | .int i=>some (Sum.inl i)
 | .str s=>some (Sum.inr s)
 | _=>none
mutual
def Rp (H:Hp):PyData→V→Prop
 | .none,v=>v=.non
 | .bool b,v=>v=.bl b
 | .int i,v=>v=.int i
 | .str x,v=>v=.str x
 | .list ds,v=>∃ a xs,v=.ref a∧H a=some (.lst xs)∧Rps H ds xs
 | .tuple ds,v=>∃ a xs,v=.ref a∧H a=some (.tup xs)∧Rps H ds xs
 | .dict kvs,v=>∃ a ps,v=.ref a∧H a=some (.dK ps)∧Rpd H kvs ps
def Rps (H:Hp):List PyData→List V→Prop
 | [],xs=>xs=[]
 | d::ds,xs=>∃ v vs,xs=v::vs∧Rp H d v∧Rps H ds vs
def Rpd (H:Hp):List (PyData×PyData)→List (Key×V)→Prop
 | [],ps=>ps=[]
 | (k,d)::r,ps=>∃ k' v vs,ps=(k',v)::vs∧keyD k=some k'∧Rp H d v∧Rpd H r vs
end
mutual
theorem Rp.same {H H':Hp} (h:Same H H'):∀ (d:PyData) {v:V},Rp H d v→Rp H' d v
 | .none,v,q=>by unfold Rp at q ⊢;exact q
 | .bool b,v,q=>by unfold Rp at q ⊢;exact q
 | .int i,v,q=>by unfold Rp at q ⊢;exact q
 | .str x,v,q=>by unfold Rp at q ⊢;exact q
 | .list ds,v,q=>by
  unfold Rp at q ⊢
  obtain ⟨a,xs,e,hq,hr⟩:=q
  exact ⟨a,xs,e,h _ _ hq,Rps.same h ds hr⟩
 | .tuple ds,v,q=>by
  unfold Rp at q ⊢
  obtain ⟨a,xs,e,hq,hr⟩:=q
  exact ⟨a,xs,e,h _ _ hq,Rps.same h ds hr⟩
 | .dict kvs,v,q=>by
  unfold Rp at q ⊢
  obtain ⟨a,xs,e,hq,hr⟩:=q
  exact ⟨a,xs,e,h _ _ hq,Rpd.same h kvs hr⟩
theorem Rps.same {H H':Hp} (h:Same H H'):∀ (ds:List PyData) {vs:List V},Rps H ds vs→Rps H' ds vs
 | [],vs,q=>by unfold Rps at q ⊢;exact q
 | d::ds,vs,q=>by
  unfold Rps at q ⊢
  obtain ⟨v,vs',e,h1,h2⟩:=q
  exact ⟨v,vs',e,Rp.same h d h1,Rps.same h ds h2⟩
theorem Rpd.same {H H':Hp} (h:Same H H'):∀ (ds:List (PyData×PyData)) {vs:List (Key×V)},Rpd H ds vs→Rpd H' ds vs
 | [],vs,q=>by unfold Rpd at q ⊢;exact q
 | (k,d)::ds,vs,q=>by
  unfold Rpd at q ⊢
  obtain ⟨k',v,vs',e,h0,h1,h2⟩:=q
  exact ⟨k',v,vs',e,h0,Rp.same h d h1,Rpd.same h ds h2⟩
end
theorem zer {H:Hp}:∀ {ds:List PyData} {xs:List V},Rps H ds xs↔Paired (Rp H) ds xs
 | [],xs=>by
  constructor
  ·intro h;unfold Rps at h;subst h;exact .nil
  ·intro h;cases h;unfold Rps;rfl
 | d::ds,xs=>by
  constructor
  ·intro h
   unfold Rps at h
   obtain ⟨v,vs,rfl,h1,h2⟩:=h
   exact .cons h1 (zer.mp h2)
  ·intro h
   cases h with
   | cons h1 h2=>unfold Rps;exact ⟨_,_,rfl,h1,zer.mpr h2⟩
theorem Rps.length {H:Hp} {ds:List PyData} {xs:List V} (h:Rps H ds xs):ds.length=xs.length:=(zer.mp h).length
theorem zgl {H:Hp} {ds:List PyData} {v:V} (h:Rp H (.list ds) v):∃ a xs,v=.ref a∧H a=some (.lst xs)∧Rps H ds xs:=by unfold Rp at h;exact h
theorem zea {H:Hp} {ds:List PyData} {v:V} (h:Rp H (.tuple ds) v):∃ a xs,v=.ref a∧H a=some (.tup xs)∧Rps H ds xs:=by unfold Rp at h;exact h
theorem zoh {H:Hp} {ds:List (PyData×PyData)} {v:V} (h:Rp H (.dict ds) v):∃ a xs,v=.ref a∧H a=some (.dK xs)∧Rpd H ds xs:=by unfold Rp at h;exact h
theorem zfw {H:Hp} {i:Int} {v:V} (h:Rp H (.int i) v):v=.int i:=by unfold Rp at h;exact h
theorem zne {H:Hp} {i:Str} {v:V} (h:Rp H (.str i) v):v=.str i:=by unfold Rp at h;exact h
theorem zoi {H:Hp} {i:Bool} {v:V} (h:Rp H (.bool i) v):v=.bl i:=by unfold Rp at h;exact h
theorem zzx {H:Hp} {v:V} (h:Rp H .none v):v=.non:=by unfold Rp at h;exact h
theorem zaf {H:Hp} {i:Int}:Rp H (.int i) (.int i):=by unfold Rp;rfl
theorem zcc {H:Hp} {i:Str}:Rp H (.str i) (.str i):=by unfold Rp;rfl
theorem zap {H:Hp} {i:Bool}:Rp H (.bool i) (.bl i):=by unfold Rp;rfl
theorem zls {H:Hp}:Rp H .none .non:=by unfold Rp;rfl
theorem zgs {H:Hp} {ds:List PyData} {a:Addr} {xs:List V} (h:H a=some (.lst xs)) (r:Rps H ds xs):Rp H (.list ds) (.ref a):=by unfold Rp;exact ⟨a,xs,rfl,h,r⟩
theorem zmp {H:Hp} {ds:List PyData} {a:Addr} {xs:List V} (h:H a=some (.tup xs)) (r:Rps H ds xs):Rp H (.tuple ds) (.ref a):=by unfold Rp;exact ⟨a,xs,rfl,h,r⟩
theorem zlt {H:Hp} {ds:List (PyData×PyData)} {a:Addr} {xs:List (Key×V)} (h:H a=some (.dK xs)) (r:Rpd H ds xs):Rp H (.dict ds) (.ref a):=by unfold Rp;exact ⟨a,xs,rfl,h,r⟩
theorem zec {H:Hp}:Rps H [] []:=by unfold Rps;rfl
theorem zkn {H:Hp}:Rpd H [] []:=by unfold Rpd;rfl
theorem zck {H:Hp} {d:PyData} {ds:List PyData} {v:V} {vs:List V} (h:Rp H d v) (r:Rps H ds vs):Rps H (d::ds) (v::vs):=by
 show Rps H (d::ds) _
 unfold Rps;exact ⟨v,vs,rfl,h,r⟩
theorem Rps.append {H:Hp} {ds es:List PyData} {vs ws:List V} (h:Rps H ds vs) (r:Rps H es ws):Rps H (ds++es) (vs++ws):=by
 replace h:=zer.mp h
 refine zer.mpr ?_
 induction h with
 | nil=>exact zer.mp r
 | cons h _ ih=>exact .cons h ih
theorem Rps.get2 {H:Hp} {ds:List PyData} {vs:List V} (h:Rps H ds vs) {i:Nat} {d:PyData} (e:ds[i]?=some d):∃ v,vs[i]?=some v∧Rp H d v:=by
 replace h:=zer.mp h
 induction h generalizing i with
 | nil=>simp at e
 | cons h _ ih =>
  cases i with
  | zero=>simp at e;subst e;exact ⟨_,rfl,h⟩
  | succ i=>simpa using ih (by simpa using e)
open Classical in
def Offs (A:Addr→Prop) (H:Hp):Hp:=fun b=>if A b then none else H b
theorem Offs.get {A:Addr→Prop} {H:Hp} {b:Addr} (h:¬ A b):Offs A H b=H b:=if_neg h
theorem Offs.out {A:Addr→Prop} {H:Hp} {b:Addr} (h:A b):Offs A H b=none:=if_pos h
theorem Offs.of {A:Addr→Prop} {H:Hp} {b:Addr} {o:HO} (h:Offs A H b=some o):¬ A b∧H b=some o:=by
 by_cases hb:A b
 ·rw [Offs.out hb] at h;cases h
 ·rw [Offs.get hb] at h;exact ⟨hb,h⟩
theorem Offs.mono {A B:Addr→Prop} {H H':Hp} (s:Same H H') (h:∀ b o,H b=some o→¬ A b→¬ B b):Same (Offs A H) (Offs B H'):=fun b o e=>by
 obtain ⟨h1,h2⟩:=Offs.of e
 rw [Offs.get (h b o h2 h1)]
 exact s b o h2
theorem Offs.same (A:Addr→Prop) (H:Hp):Same (Offs A H) H:=fun b o e=>(Offs.of e).2
theorem Offs.sub {A B:Addr→Prop} {H:Hp} (h:∀ b,B b→A b):Same (Offs A H) (Offs B H):=Offs.mono (Same.refl _) fun b _ _ n z=>n (h b z)
theorem Offs.grow {A:Addr→Prop} {H H':Hp} (s:Same H H'):Same (Offs A H) (Offs A H'):=Offs.mono s fun _ _ _ z=>z
theorem Offs.upd {A:Addr→Prop} {H:Hp} {a:Addr} {o:HO} (h:A a):Offs A (upd H a o)=Offs A H:=by
 funext b
 by_cases hb:A b
 ·rw [Offs.out hb,Offs.out hb]
 ·rw [Offs.get hb,Offs.get hb,zbd (fun e=>hb (by rw [e];exact h))]
inductive Sl where
 | no
  | pl (d:PyData)
  | ac (d:PyData)
abbrev DEnv:=List Sl
def own (env:DEnv) (σ:St) (a:Addr):Prop:=∃ (i:Nat) (d:PyData),env[i]?=some (.ac d)∧σ[i]?=some (some (.ref a))
def ziv (Ho H:Hp) (a:Addr):PyData→Prop
 | .list ds=>∃ xs,H a=some (.lst xs)∧Rps Ho ds xs
 | .dict kvs=>∃ ps,H a=some (.dK ps)∧Rpd Ho kvs ps
 | _=>False
theorem ziv.rp {Ho H H':Hp} {a:Addr} {d:PyData} (h:ziv Ho H a d) (s:Same Ho H') (e:∀ o,H a=some o→H' a=some o):Rp H' d (.ref a):=by
 cases d with
 | list ds =>
  obtain ⟨xs,h1,h2⟩:=h
  exact zgs (e _ h1) (Rps.same s _ h2)
 | dict ds =>
  obtain ⟨xs,h1,h2⟩:=h
  exact zlt (e _ h1) (Rpd.same s _ h2)
 | _=>exact h.elim
theorem ziv.same {Ho H Ho' H':Hp} {a:Addr} {d:PyData} (h:ziv Ho H a d) (s:Same Ho Ho') (e:∀ o,H a=some o→H' a=some o):ziv Ho' H' a d:=by
 cases d with
 | list ds =>
  obtain ⟨xs,h1,h2⟩:=h
  exact ⟨xs,e _ h1,Rps.same s _ h2⟩
 | dict ds =>
  obtain ⟨xs,h1,h2⟩:=h
  exact ⟨xs,e _ h1,Rpd.same s _ h2⟩
 | _=>exact h.elim
theorem ziv.ex {Ho H:Hp} {a:Addr} {d:PyData} (h:ziv Ho H a d):∃ o,H a=some o:=by
 cases d with
 | list ds=>obtain ⟨xs,h1,h2⟩:=h;exact ⟨_,h1⟩
 | dict ds=>obtain ⟨xs,h1,h2⟩:=h;exact ⟨_,h1⟩
 | _=>exact h.elim
structure EnvOk (fx:Addr→Prop) (H0:Hp) (env:DEnv) (σ:St) (H:Hp):Prop where
 len:env.length=σ.length
 pl:∀ (i:Nat) (d:PyData),env[i]?=some (.pl d)→∃ v,σ[i]?=some (some v)∧Rp (Offs (fun a=>fx a∨own env σ a) H) d v
 ac:∀ (i:Nat) (d:PyData),env[i]?=some (.ac d)→∃ a,σ[i]?=some (some (.ref a))∧H0 a=none∧¬ fx a∧ziv (Offs (fun a=>fx a∨own env σ a) H) H a d
 inj:∀ (i j:Nat) (d e:PyData) (a:Addr),env[i]?=some (.ac d)→env[j]?=some (.ac e)→σ[i]?=some (some (.ref a))→σ[j]?=some (some (.ref a))→i=j
 base:Same H0 H
 fxs:∀ b,fx b→∃ o,H b=some o
theorem EnvOk.grow {fx fx':Addr→Prop} {H0:Hp} {env:DEnv} {σ:St} {H H':Hp} (h:EnvOk fx H0 env σ H) (s:Same H H') (f:∀ b o,H b=some o→¬ fx b→¬ fx' b) (g:∀ b,fx' b→∃ o,H' b=some o):EnvOk fx' H0 env σ H':=by
 have so:Same (Offs (fun a=>fx a∨own env σ a) H) (Offs (fun a=>fx' a∨own env σ a) H'):=Offs.mono s fun b o e n=>fun z=>z.elim (f b o e fun y=>n (.inl y)) fun y=>n (.inr y)
 refine ⟨h.len,fun i d e=>?_,fun i d e=>?_,h.inj,h.base.trans s,g⟩
 ·obtain ⟨v,h1,h2⟩:=h.pl i d e
  exact ⟨v,h1,Rp.same so d h2⟩
 ·obtain ⟨a,h1,h2,h3,h4⟩:=h.ac i d e
  obtain ⟨o,ho⟩:=h4.ex
  exact ⟨a,h1,h2,f a o ho h3,h4.same so fun o=>s a o⟩
theorem EnvOk.up {fx:Addr→Prop} {H0:Hp} {env:DEnv} {σ:St} {H H':Hp} (h:EnvOk fx H0 env σ H) (s:Same H H'):EnvOk fx H0 env σ H' :=
 h.grow s (fun _ _ _ z=>z) fun b z=>let ⟨o,e⟩:=h.fxs b z;⟨o,s b o e⟩
structure Val where
 d:PyData
 fr:Bool
 bs:List Nat
def lim (fx:Addr→Prop) (env:DEnv) (σ:St) (bs:List Nat) (a:Addr):Prop:=fx a∨∃ (i:Nat) (d:PyData),i∉bs∧env[i]?=some (.ac d)∧σ[i]?=some (some (.ref a))
structure ValOk (A:Addr→Prop) (H H':Hp) (r:Val) (v:V):Prop where
 rp:Rp (Offs A H') r.d v
 fr:r.fr=true→∃ a,v=.ref a∧H a=none∧ziv (Offs (fun b=>A b∨b=a) H') H' a r.d
theorem zmq {fx:Addr→Prop} {env:DEnv} {σ:St} {bs cs:List Nat} (h:∀ i∈bs,i∈cs):∀ a,lim fx env σ cs a→lim fx env σ bs a:=by
 rintro a (z|⟨i,d,h1,h2,h3⟩)
 ·exact .inl z
 ·exact .inr ⟨i,d,fun q=>h1 (h i q),h2,h3⟩
theorem zqn {fx:Addr→Prop} {env:DEnv} {σ:St} {bs:List Nat}:∀ a,lim fx env σ bs a→fx a∨own env σ a:=by
 rintro a (z|⟨i,d,h1,h2,h3⟩)
 ·exact .inl z
 ·exact .inr ⟨i,d,h2,h3⟩
theorem zaop {fx:Addr→Prop} {env:DEnv} {σ:St}:∀ a,fx a∨own env σ a→lim fx env σ [] a:=by
 rintro a (z|⟨i,d,h2,h3⟩)
 ·exact .inl z
 ·exact .inr ⟨i,d,by simp,h2,h3⟩
theorem EnvOk.lims {fx:Addr→Prop} {H0:Hp} {env:DEnv} {σ:St} {H:Hp} (h:EnvOk fx H0 env σ H) (bs:List Nat):∀ b,lim fx env σ bs b→∃ o,H b=some o:=by
 rintro b (z|⟨i,d,h1,h2,h3⟩)
 ·exact h.fxs b z
 ·obtain ⟨a,g1,g2,g3,g4⟩:=h.ac i d h2
  rw [h3] at g1
  cases g1
  exact g4.ex
theorem ValOk.later {A B:Addr→Prop} {H0 H H' H'':Hp} {r:Val} {v:V} (h:ValOk A H H' r v) (s0:Same H0 H) (s:Same H' H'') (hB:∀ b,B b→A b):ValOk B H0 H'' r v:=by
 refine ⟨Rp.same (Offs.mono s fun b _ _ n z=>n (hB b z)) _ h.rp,fun e=>?_⟩
 obtain ⟨a,h1,h2,h3⟩:=h.fr e
 exact ⟨a,h1,s0.free h2,h3.same (Offs.mono s fun b _ _ n z=>n (z.elim (fun y=>.inl (hB b y)) .inr)) fun o=>s a o⟩
def zgq:PyData→Bool
 | .list _=>false
 | .tuple _=>false
 | .dict _=>false
 | _=>true
theorem zqo {H H':Hp} {d:PyData} {v:V} (f:zgq d=true) (h:Rp H d v):Rp H' d v:=by
 cases d<;>first
  | (unfold Rp at h ⊢;exact h)
  | cases f
def bsOf (d:PyData) (bs:List Nat):List Nat:=if zgq d=true then [] else bs
theorem zoj {fx:Addr→Prop} {env:DEnv} {σ:St} {bs:List Nat} {H:Hp} {d:PyData} {v:V} (h:Rp (Offs (lim fx env σ bs) H) d v):Rp (Offs (lim fx env σ (bsOf d bs)) H) d v:=by
 unfold bsOf
 split
 ·rename_i e;exact zqo e h
 ·exact h
abbrev EF:=DEnv→Option Val
def SE (te:TE) (f:EF):Prop:=∀ (fx:Addr→Prop) (H0:Hp) (env:DEnv) (σ:St) (H:Hp),EnvOk fx H0 env σ H→∀ r,f env=some r→∀ Q:VK,(∀ v H',Same H H'→ValOk (lim fx env σ r.bs) H H' r v→Q v H')→te σ H Q
abbrev TF:=DEnv→Option Bool
def ST (tt:TT) (f:TF):Prop:=∀ (fx:Addr→Prop) (H0:Hp) (env:DEnv) (σ:St) (H:Hp),EnvOk fx H0 env σ H→∀ b,f env=some b→∀ Q:Bool→Hp→Prop,(∀ H',Same H H'→Q b H')→tt σ H Q
abbrev AF:=DEnv→Option (List Val)
def SA (ta:TA) (f:AF):Prop:=∀ (fx:Addr→Prop) (H0:Hp) (env:DEnv) (σ:St) (H:Hp),EnvOk fx H0 env σ H→∀ rs,f env=some rs→∀ Q:List V→Hp→Prop,
 (∀ vs H',Same H H'→Paired (fun r v=>ValOk (lim fx env σ r.bs) H H' r v) rs vs→Q vs H')→ta σ H Q
section
variable {X:Cx}
def eVar (i:Nat):EF:=fun env=>match env[i]? with
 | some (.pl d)=>some ⟨d,false,[]⟩
 | some (.ac d)=>some ⟨d,false,[i]⟩
 | _=>none
theorem zad (i:Nat):SE (tVar i) (eVar i):=by
 intro fx H0 env σ H h r hr Q q
 unfold eVar at hr
 cases e:env[i]? with
 | none=>rw [e] at hr;cases hr
 | some sl =>
  rw [e] at hr
  cases sl with
  | no=>cases hr
  | pl d =>
   cases hr
   obtain ⟨v,h1,h2⟩:=h.pl i d e
   exact ⟨v,h1,q v H (Same.refl _) ⟨Rp.same (Offs.sub zqn) _ h2,fun z=>by cases z⟩⟩
  | ac d =>
   cases hr
   obtain ⟨a,h1,h2,h3,h4⟩:=h.ac i d e
   have hna:¬ lim fx env σ [i] a:=by
    rintro (z|⟨j,d',g1,g2,g3⟩)
    ·exact h3 z
    ·exact g1 (qAT.mpr (h.inj j i d' d a g2 e g3 h1))
   exact ⟨_,h1,q _ H (Same.refl _) ⟨h4.rp (Offs.sub zqn) fun o z=>by rw [Offs.get hna];exact z,fun z=>by cases z⟩⟩
def eC (d:PyData):EF:=fun _=>some ⟨d,false,[]⟩
theorem se_c {d:PyData} {v:V} (h:∀ H,Rp H d v):SE (tC v) (eC d):=by
 intro fx H0 env σ H _ r hr Q q
 cases hr
 exact q v H (Same.refl _) ⟨h _,fun z=>by cases z⟩
abbrev OF:=PyData→PyData→Option (PyData×Bool)
noncomputable def SO (r:R2) (f:OF):Prop:=∀ (A:Addr→Prop) (H:Hp) (x y:V) (dx dy:PyData),(∀ b,A b→∃ o,H b=some o)→Rp (Offs A H) dx x→Rp (Offs A H) dy y→∀ d fr,f dx dy=some (d,fr)→∀ Q:VK,
 (∀ v H',Same H H'→Rp (Offs A H') d v→(fr=true→∃ a,v=.ref a∧H a=none∧ziv (Offs (fun b=>A b∨b=a) H') H' a d)→Q v H')→r x y H Q
def eOp (f:OF) (a b:EF):EF:=fun env=>(a env).bind fun x=>(b env).bind fun y=>(f x.d y.d).bind fun z=>some ⟨z.1,z.2,bsOf z.1 (x.bs++y.bs)⟩
theorem zaz {r:R2} {f:OF} {ta tb:TE} {fa fb:EF} (ho:SO r f) (ha:SE ta fa) (hb:SE tb fb):SE (tOp r ta tb) (eOp f fa fb):=by
 intro fx H0 env σ H h rr hr Q q
 unfold eOp at hr
 obtain ⟨x,ex,hr⟩:=qA.mp hr
 obtain ⟨y,ey,hr⟩:=qA.mp hr
 obtain ⟨⟨d,fr⟩,ez,hr⟩:=qA.mp hr
 cases hr
 refine ha fx H0 env σ H h x ex _ fun v H1 s1 v1=>hb fx H0 env σ H1 (h.up s1) y ey _ fun u H2 s2 v2=>?_
 have l1:∀ b,lim fx env σ (x.bs++y.bs) b→lim fx env σ x.bs b:=zmq fun i hi=>qAA _ hi
 have l2:∀ b,lim fx env σ (x.bs++y.bs) b→lim fx env σ y.bs b:=zmq fun i hi=>qd _ hi
 refine ho (lim fx env σ (x.bs++y.bs)) H2 v u x.d y.d ((h.up (s1.trans s2)).lims _) (v1.later (Same.refl _) s2 l1).rp (v2.later (Same.refl _) (Same.refl _) l2).rp d fr ez _ fun w H3 s3 rp fr3=>q w H3 ((s1.trans s2).trans s3) ⟨zoj rp,fun e=>?_⟩
 obtain ⟨a,g1,g2,g3⟩:=fr3 e
 refine ⟨a,g1,(s1.trans s2).free g2,?_⟩
 have nf:zgq d=false:=by cases d<;>first|rfl|exact g3.elim
 show ziv (Offs (fun b=>lim fx env σ (bsOf d (x.bs++y.bs)) b∨b=a) H3) H3 a d
 rw [show bsOf d (x.bs++y.bs)=x.bs++y.bs by unfold bsOf;rw [if_neg (by rw [nf];decide)]]
 exact g3
end
theorem zhn {n:Nat} (h:n≤100000):n≤qU:=qAG h (by decide)
theorem zok {n:Nat} (h:n<100000):n<qU:=qDA h (by decide)
theorem zfe {A:Addr→Prop} {H:Hp} (hA:∀ b,A b→∃ o,H b=some o) {p:Addr} (hp:H p=none):¬ A p:=fun z=>by
 obtain ⟨o,e⟩:=hA p z
 rw [hp] at e;cases e
theorem zuq {A:Addr→Prop} {H:Hp} {p:Addr} {ds:List PyData} {xs:List V} (hp:H p=none) (r:Rps (Offs A H) ds xs):ziv (Offs (fun b=>A b∨b=p) (upd H p (.lst xs))) (upd H p (.lst xs)) p (.list ds):=by
 refine ⟨xs,zax,Rps.same (Offs.mono (Same.new hp) fun b o e n z=>?_) _ r⟩
 rcases z with z|z
 ·exact n z
 ·rw [z,hp] at e;cases e
theorem zabt {A:Addr→Prop} {H:Hp} {p:Addr} {ds:List PyData} {xs:List V} (hp:H p=none) (hA:¬ A p) (r:Rps (Offs A H) ds xs):Rp (Offs A (upd H p (.lst xs))) (.list ds) (.ref p) :=
 zgs (by rw [Offs.get hA];exact zax) (Rps.same (Offs.grow (Same.new hp)) _ r)
theorem zko {A:Addr→Prop} {H:Hp} {p:Addr} {ds:List PyData} {xs:List V} (hp:H p=none) (hA:¬ A p) (r:Rps (Offs A H) ds xs):Rp (Offs A (upd H p (.tup xs))) (.tuple ds) (.ref p) :=
 zmp (by rw [Offs.get hA];exact zax) (Rps.same (Offs.grow (Same.new hp)) _ r)
theorem zdx {A:Addr→Prop} {H:Hp} {a:Addr} {o:HO} (h:Offs A H a=some o):H a=some o:=(Offs.of h).2
noncomputable def addD:OF
 | .int i,.int j=>some (.int (i+j),false)
 | .str a,.str b=>if a.length+b.length≤100000 then some (.str (a++b),false) else none
 | .list a,.list b=>if a.length+b.length≤100000 then some (.list (a++b),true) else none
 | .tuple a,.tuple b=>if a.isEmpty=false∧a.length+b.length≤100000 then some (.tuple (a++b),false) else none
 | _,_=>none
theorem zfa {K:qB}:SO (zakh K) addD:=by
 intro A H x y dx dy hA rx ry d fr e Q q
 unfold addD at e
 split at e
 ·cases e
  cases zfw rx;cases zfw ry
  exact q _ H (Same.refl _) zaf (fun z=>by cases z)
 ·split at e
  ·rename_i hl
   cases e
   cases zne rx;cases zne ry
   exact ⟨zhn hl,q _ H (Same.refl _) zcc (fun z=>by cases z)⟩
  ·cases e
 ·split at e
  ·rename_i hl
   cases e
   obtain ⟨p,xs,rfl,hp,r1⟩:=zgl rx
   obtain ⟨p',ys,rfl,hp',r2⟩:=zgl ry
   refine .inl ⟨p,p',xs,ys,rfl,rfl,zdx hp,zdx hp',zhn (by rw [← r1.length,← r2.length];exact hl),fun b hb=>?_⟩
   exact q _ _ (Same.new hb) (zabt hb (zfe hA hb) (r1.append r2)) fun _=>⟨b,rfl,hb,zuq hb (r1.append r2)⟩
  ·cases e
 ·split at e
  ·rename_i hl
   cases e
   obtain ⟨p,xs,rfl,hp,r1⟩:=zea rx
   obtain ⟨p',ys,rfl,hp',r2⟩:=zea ry
   refine .inr ⟨p,p',xs,ys,rfl,rfl,SqT.of (zdx hp),SqT.of (zdx hp'),fun z=>?_,zhn (by rw [← r1.length,← r2.length];exact hl.2),fun z=>?_,fun _ b hb=>?_⟩
   ·have h1:=r1.length
    have h0:=hl.1
    rw [z] at h1
    rw [List.isEmpty_eq_false_iff] at h0
    exact h0 (qBU.mp h1)
   ·have h2:=r2.length
    rw [z] at h2
    have:=qBU.mp h2
    subst this
    rw [qx] at q
    exact q _ H (Same.refl _) rx (fun z=>by cases z)
   ·exact q _ _ (Same.new hb) (zko hb (zfe hA hb) (r1.append r2)) (fun z=>by cases z)
  ·cases e
 ·cases e
def intD (c:Int→Int→Bool) (f:Int→Int→PyData):OF
 | .int i,.int j=>if c i j=true then some (f i j,false) else none
 | _,_=>none
theorem zamu {C:Int→Int→Prop} {g:Int→Int→V} {c:Int→Int→Bool} {f:Int→Int→PyData} (hc:∀ i j,c i j=true→C i j) (hf:∀ H i j,Rp H (f i j) (g i j)):SO (rI C g) (intD c f):=by
 intro A H x y dx dy hA rx ry d fr e Q q
 unfold intD at e
 split at e
 ·split at e
  ·rename_i h
   cases e
   cases zfw rx;cases zfw ry
   exact ⟨_,_,rfl,rfl,hc _ _ h,q _ H (Same.refl _) (hf _ _ _) (fun z=>by cases z)⟩
  ·cases e
 ·cases e
theorem zafy {g:Int→Int→V} {f:Int→Int→PyData} (hf:∀ H i j,Rp H (f i j) (g i j)):SO (rI0 g) (intD (fun _ _=>true) f):=by
 intro A H x y dx dy hA rx ry d fr e Q q
 unfold intD at e
 split at e
 ·split at e
  ·cases e
   cases zfw rx;cases zfw ry
   exact ⟨_,_,rfl,rfl,q _ H (Same.refl _) (hf _ _ _) (fun z=>by cases z)⟩
  ·cases e
 ·cases e
def subD:OF:=intD (fun _ _=>true) fun i j=>.int (i - j)
theorem zqp:SO (rI0 fun i j=>.int (i - j)) subD:=zafy fun _ _ _=>zaf
def gtD:OF:=intD (fun _ _=>true) fun i j=>.bool (decide (j<i))
theorem zasg:SO (rI0 fun i j=>.bl (decide (j<i))) gtD:=zafy fun _ _ _=>zap
def modD:OF:=intD (fun _ j=>decide (0<j)) fun i j=>.int (i % j)
theorem zdy:SO (rI (fun _ j=>0<j) fun i j=>.int (i % j)) modD:=zamu (fun _ _ h=>of_decide_eq_true h) fun _ _ _=>zaf
def zcy:OF:=intD (fun _ j=>decide (0<j∧j<1073741824)) fun i j=>.int (i / j)
theorem zft:SO (rI CDiv fun i j=>.int (i / j)) zcy:=zamu (fun i j h=>(of_decide_eq_true h:0<j∧j<1073741824)) fun _ _ _=>zaf
def mulD:OF
 | .int i,.int j=>if (-(2 ^ 64)<i∧i<2 ^ 64)∨(-(2 ^ 64)<j∧j<2 ^ 64) then some (.int (i * j),false) else none
 | .str z,.int n=>if z.length≤1000∧-1000≤n∧n≤1000 then some (.str (Txt.mul z n),false) else none
 | _,_=>none
theorem ztg:SO zasf mulD:=by
 intro A H x y dx dy hA rx ry d fr e Q q
 unfold mulD at e
 split at e
 ·split at e
  ·rename_i h
   cases e
   cases zfw rx;cases zfw ry
   exact ⟨h,q _ H (Same.refl _) zaf (fun z=>by cases z)⟩
  ·cases e
 ·split at e
  ·rename_i h
   cases e
   cases zne rx;cases zfw ry
   exact ⟨h.1,h.2.1,h.2.2,q _ H (Same.refl _) zcc (fun z=>by cases z)⟩
  ·cases e
 ·cases e
mutual
theorem zqq {K:qB} {H:Hp}:∀ {d:PyData} {v:V},d.canLay0=true→Rp H d v→Rep K H d v
 | .none,v,_,h=>by unfold Rp at h;unfold Rep;exact h
 | .bool b,v,_,h=>by unfold Rp at h;unfold Rep;exact h
 | .int i,v,_,h=>by unfold Rp at h;unfold Rep;exact h
 | .str x,v,_,h=>by unfold Rp at h;unfold Rep;exact h
 | .list ds,v,c,h=>by
  obtain ⟨a,xs,e,h1,h2⟩:=zgl h
  unfold Rep
  exact ⟨a,xs,e,SqL.of h1,zur (by simpa [PyData.canLay0] using c) h2⟩
 | .tuple ds,v,c,h=>by
  obtain ⟨a,xs,e,h1,h2⟩:=zea h
  unfold Rep
  exact ⟨a,xs,e,SqT.of h1,zur (by simpa [PyData.canLay0] using c) h2⟩
 | .dict _,v,c,h=>by simp [PyData.canLay0] at c
theorem zur {K:qB} {H:Hp}:∀ {ds:List PyData} {vs:List V},qu ds=true→Rps H ds vs→Reps K H ds vs
 | [],vs,_,h=>by unfold Rps at h;unfold Reps;exact h
 | d::ds,vs,c,h=>by
  unfold Rps at h
  obtain ⟨v,ws,e,h1,h2⟩:=h
  have c:d.canLay0=true∧qu ds=true:=by simpa [qu] using c
  unfold Reps
  exact ⟨v,ws,e,zqq c.1 h1,zur c.2 h2⟩
end
noncomputable def zakj:PyData→PyData→Bool
 | .none,.none=>true|.none,.int _=>true|.int _,.none=>true|.none,.bool _=>true|.bool _,.none=>true|.none,.str _=>true|.str _,.none=>true
 | .int _,.int _=>true|.bool _,.bool _=>true|.str _,.str _=>true
 | .int _,.str _=>true|.str _,.int _=>true|.bool _,.str _=>true|.str _,.bool _=>true
 | _,_=>false
def eqOk (dx dy:PyData):Bool:=zakj dx dy||(qAD dx&&qAD dy)
def eqD:OF:=fun dx dy=>if eqOk dx dy=true then some (.bool (qAK dx dy),false) else none
def neD:OF:=fun dx dy=>if eqOk dx dy=true then some (.bool (!PyData.eqv dx dy),false) else none
theorem zafz {H:Hp} {dx dy:PyData} {x y:V} (s:zakj dx dy=true) (rx:Rp H dx x) (ry:Rp H dy y):scal x y=true∧decide (x=y)=qAK dx dy:=by
 cases dx<;>cases dy<;>first
  | (exact absurd (show false=true from s) qS)
  | (unfold Rp at rx ry;subst rx;subst ry;refine ⟨rfl,?_⟩;first|rfl|exact zzr|exact zaey|exact zzs|simp [qAK])
theorem zus {K:qB}:SO (fun x y H Q=>rEq x y H Q∨rEqD K false x y H Q) eqD:=by
 intro A H x y dx dy hA rx ry d fr e Q q
 unfold eqD at e
 split at e
 ·rename_i h
  cases e
  cases hs:zakj dx dy with
  | true =>
   obtain ⟨h1,h2⟩:=zafz hs rx ry
   exact .inl ⟨h1,by rw [h2];exact q _ H (Same.refl _) zap (fun z=>by cases z)⟩
  | false =>
   unfold eqOk at h
   rw [hs,qCs,qAB] at h
   have rx:=Rp.same (Offs.same A H) _ rx
   have ry:=Rp.same (Offs.same A H) _ ry
   exact .inr ⟨dx,dy,zqq (qAo h.1) rx,zqq (qAo h.2) ry,h.1,h.2,q _ H (Same.refl _) zap (fun z=>by cases z)⟩
 ·cases e
theorem zsn {K:qB}:SO (fun x y H Q=>rNe x y H Q∨rEqD K true x y H Q) neD:=by
 intro A H x y dx dy hA rx ry d fr e Q q
 unfold neD at e
 split at e
 ·rename_i h
  cases e
  cases hs:zakj dx dy with
  | true =>
   obtain ⟨h1,h2⟩:=zafz hs rx ry
   exact .inl ⟨h1,by rw [h2];exact q _ H (Same.refl _) zap (fun z=>by cases z)⟩
  | false =>
   unfold eqOk at h
   rw [hs,qCs,qAB] at h
   have rx:=Rp.same (Offs.same A H) _ rx
   have ry:=Rp.same (Offs.same A H) _ ry
   exact .inr ⟨dx,dy,zqq (qAo h.1) rx,zqq (qAo h.2) ry,h.1,h.2,q _ H (Same.refl _) zap (fun z=>by cases z)⟩
 ·cases e
def zgc (ds:List PyData):Bool:=ds.all zgq
theorem zamv {H:Hp} {d:PyData} {v:V} (f:zgq d=true) (h:Rp H d v):zsm v=true:=by
 cases d<;>first
  | (unfold Rp at h;subst h;rfl)
  | cases f
theorem zaoq {H:Hp} {ds:List PyData} {vs:List V} (f:zgc ds=true) (h:Rps H ds vs):vs.all zsm=true:=by
 replace h:=zer.mp h
 induction h with
 | nil=>rfl
 | cons h _ ih =>
  unfold zgc at f
  rw [qAy,qAB] at f
  rw [qAy,zamv f.1 h,ih f.2];rfl
theorem zaor {H:Hp} {d e:PyData} {v u:V} (f:zgq d=true) (g:zgq e=true) (h:Rp H d v) (k:Rp H e u):eqV v u=qAK d e:=by
 cases d<;>cases e<;>first
  | (unfold Rp at h k;subst h;subst k;rfl)
  | exact absurd (show false=true from f) qS
  | exact absurd (show false=true from g) qS
theorem zaos {H:Hp} {d:PyData} {v:V} (f:zgq d=true) (h:Rp H d v) {ds:List PyData} {vs:List V} (g:zgc ds=true) (r:Rps H ds vs):inV v vs=ds.any fun e=>qAK e d:=by
 replace r:=zer.mp r
 unfold inV
 induction r with
 | nil=>rfl
 | cons r _ ih =>
  unfold zgc at g
  rw [qAy,qAB] at g
  rw [qBA,qBA,zaor g.1 f r h,ih g.2]
def zif:PyData→Option (List PyData)
 | .list ds=>some ds
 | .tuple ds=>some ds
 | _=>none
def inD (neg:Bool):OF:=fun d c=>match zif c with
 | some ds=>if zgq d=true∧zgc ds=true then some (.bool (if neg then !(ds.any fun e=>qAK e d) else ds.any fun e=>qAK e d),false) else none
 | none=>none
theorem zabu {K:qB} {H:Hp} {c:PyData} {v:V} {ds:List PyData} (h:Rp H c v) (e:zif c=some ds):∃ p xs,v=.ref p∧(SqL K H p xs∨SqT K H p xs)∧Rps H ds xs:=by
 cases c<;>first
  | cases e
  | skip
 ·obtain ⟨a,xs,e,h1,h2⟩:=zgl h;exact ⟨a,xs,e,.inl (SqL.of h1),h2⟩
 ·obtain ⟨a,xs,e,h1,h2⟩:=zea h;exact ⟨a,xs,e,.inr (SqT.of h1),h2⟩
theorem zzy {K:qB} {neg:Bool}:SO (rIn K neg) (inD neg):=by
 intro A H x y dx dy hA rx ry d fr e Q q
 unfold inD at e
 split at e
 ·rename_i ds hi
  split at e
  ·rename_i h
   cases e
   have rx:=Rp.same (Offs.same A H) _ rx
   obtain ⟨p,xs,rfl,hq,r⟩:=zabu (K:=K) (Rp.same (Offs.same A H) _ ry) hi
   refine ⟨p,xs,rfl,hq,zamv h.1 rx,zaoq h.2 r,?_⟩
   rw [zaos h.1 rx h.2 r]
   refine q _ H (Same.refl _) ?_ (fun z=>by cases z)
   cases neg<;>exact zap
  ·cases e
 ·cases e
def ixD:OF
 | .str z,.int i=>if z.length≤100000 then (atI z.cps.toList i).map fun c=>(.str ⟨#[c]⟩,false) else none
 | .list ds,.int i=>(atI ds i).map fun d=>(d,false)
 | .tuple ds,.int i=>(atI ds i).map fun d=>(d,false)
 | _,_=>none
theorem Rps.atI {H:Hp} {ds:List PyData} {vs:List V} (h:Rps H ds vs) {i:Int} {d:PyData} (e:atI ds i=some d):∃ v,L2.atI vs i=some v∧Rp H d v:=by
 unfold L2.atI at e ⊢
 rw [← h.length]
 cases g:ixN ds.length i with
 | none=>rw [g] at e;cases e
 | some j =>
  rw [g] at e
  exact h.get2 e
theorem zakk {K:qB}:SO (rIxU K) ixD:=by
 intro A H x y dx dy hA rx ry d fr e Q q
 unfold ixD at e
 split at e
 ·split at e
  ·rename_i z i hl
   obtain ⟨c,hc,e⟩:=qG.mp e
   cases e
   cases zne rx;cases zfw ry
   exact ⟨zhn hl,c,hc,q _ H (Same.refl _) zcc (fun z=>by cases z)⟩
  ·cases e
 ·obtain ⟨c,hc,e⟩:=qG.mp e
  cases e
  obtain ⟨p,xs,rfl,hp,r⟩:=zgl rx
  cases zfw ry
  obtain ⟨v,hv,rv⟩:=r.atI hc
  exact ⟨xs,v,.inl (SqL.of (zdx hp)),hv,q _ H (Same.refl _) rv (fun z=>by cases z)⟩
 ·obtain ⟨c,hc,e⟩:=qG.mp e
  cases e
  obtain ⟨p,xs,rfl,hp,r⟩:=zea rx
  cases zfw ry
  obtain ⟨v,hv,rv⟩:=r.atI hc
  exact ⟨xs,v,.inr (SqT.of (zdx hp)),hv,q _ H (Same.refl _) rv (fun z=>by cases z)⟩
 ·cases e
def zmr:List (PyData×PyData)→Key→Option PyData
 | [],_=>none
 | (k,d)::r,j=>if keyD k=some j then some d else zmr r j
def zzz (kvs:List (PyData×PyData)) (j:Key):Bool:=(zmr kvs j).isSome
def zso (kvs:List (PyData×PyData)) (k:PyData) (d:PyData):List (PyData×PyData) :=
 if (kvs.any fun kv=>decide (keyD kv.1=keyD k))=true then kvs.map (fun kv=>if keyD kv.1=keyD k then (kv.1,d) else kv) else kvs++[(k,d)]
def zje (kvs more:List (PyData×PyData)):List (PyData×PyData):=more.foldl (fun acc kv=>zso acc kv.1 kv.2) kvs
theorem zjn {H:Hp} {k d:PyData} {r:List (PyData×PyData)} {k':Key} {v:V} {vs:List (Key×V)} (hk:keyD k=some k') (h:Rp H d v) (q:Rpd H r vs):Rpd H ((k,d)::r) ((k',v)::vs):=by
 show Rpd H ((k,d)::r) _
 unfold Rpd;exact ⟨k',v,vs,rfl,hk,h,q⟩
theorem zhy {H:Hp} {k d:PyData} {r:List (PyData×PyData)} {ps:List (Key×V)} (h:Rpd H ((k,d)::r) ps):∃ k' v vs,ps=(k',v)::vs∧keyD k=some k'∧Rp H d v∧Rpd H r vs:=by
 unfold Rpd at h;exact h
theorem Rpd.length {H:Hp}:∀ {kvs:List (PyData×PyData)} {ps:List (Key×V)},Rpd H kvs ps→kvs.length=ps.length
 | [],ps,h=>by unfold Rpd at h;subst h;rfl
 | (k,d)::r,ps,h=>by
  obtain ⟨k',v,vs,rfl,_,_,h3⟩:=zhy h
  rw [qAN,qAN,h3.length]
theorem Rpd.get {H:Hp} {j:Key}:∀ {kvs:List (PyData×PyData)} {ps:List (Key×V)},Rpd H kvs ps→match zmr kvs j with
  | some d=>∃ v,valV ps j=some v∧Rp H d v
  | none=>valV ps j=none
 | [],ps,h=>by unfold Rpd at h;subst h;rfl
 | (k,d)::r,ps,h=>by
  obtain ⟨k',v,vs,rfl,hk,h2,h3⟩:=zhy h
  have ih:=Rpd.get (j:=j) h3
  unfold zmr
  by_cases e:k'=j
  ·rw [if_pos (by rw [hk,e])]
   exact ⟨v,zpx e,h2⟩
  ·rw [if_neg (fun z=>e (by rw [hk] at z;exact qh z)),zpy e]
   exact ih
theorem Rpd.any {H:Hp} {j:Key}:∀ {kvs:List (PyData×PyData)} {ps:List (Key×V)},Rpd H kvs ps→(kvs.any fun kv=>decide (keyD kv.1=some j))=ps.any fun kv=>decide (kv.1=j)
 | [],ps,h=>by unfold Rpd at h;subst h;rfl
 | (k,d)::r,ps,h=>by
  obtain ⟨k',v,vs,rfl,hk,h2,h3⟩:=zhy h
  rw [qBA,qBA,h3.any,hk]
  congr 1
  simp
theorem Rpd.map {H:Hp} {j:Key} {d':PyData} {v':V} (h':Rp H d' v'):∀ {kvs:List (PyData×PyData)} {ps:List (Key×V)},Rpd H kvs ps→Rpd H (kvs.map fun kv=>if keyD kv.1=some j then (kv.1,d') else kv) (ps.map fun kv=>if kv.1=j then (kv.1,v') else kv)
 | [],ps,h=>by unfold Rpd at h;subst h;exact zkn
 | (k,d)::r,ps,h=>by
  obtain ⟨k',v,vs,rfl,hk,h2,h3⟩:=zhy h
  rw [qY,qY]
  by_cases e:k'=j
  ·rw [if_pos (show keyD (k,d).1=some j by rw [hk,e]),if_pos (show ((k',v):Key×V).1=j from e)]
   exact zjn hk h' (Rpd.map h' h3)
  ·rw [if_neg (show ¬ keyD (k,d).1=some j from fun z=>e (by rw [hk] at z;exact qh z)),if_neg (show ¬ ((k',v):Key×V).1=j from e)]
   exact zjn hk h2 (Rpd.map h' h3)
theorem Rpd.snoc {H:Hp} {k d:PyData} {k':Key} {v:V} (hk:keyD k=some k') (h':Rp H d v):∀ {kvs:List (PyData×PyData)} {ps:List (Key×V)},Rpd H kvs ps→Rpd H (kvs++[(k,d)]) (ps++[(k',v)])
 | [],ps,h=>by unfold Rpd at h;subst h;exact zjn hk h' zkn
 | (k0,d0)::r,ps,h=>by
  obtain ⟨k1,v1,vs,rfl,hk1,h2,h3⟩:=zhy h
  exact zjn hk1 h2 (Rpd.snoc hk h' h3)
theorem Rpd.put {H:Hp} {k d:PyData} {j:Key} {v:V} {kvs:List (PyData×PyData)} {ps:List (Key×V)} (h:Rpd H kvs ps) (hk:keyD k=some j) (h':Rp H d v):Rpd H (zso kvs k d) (putK ps j v):=by
 unfold zso putK
 rw [hk,h.any]
 split
 ·exact h.map h'
 ·exact h.snoc hk h'
theorem Rpd.merge {H:Hp}:∀ {more:List (PyData×PyData)} {ps:List (Key×V)} {kvs:List (PyData×PyData)} {qs:List (Key×V)},Rpd H kvs qs→Rpd H more ps→Rpd H (zje kvs more) (ziz qs ps)
 | [],ps,kvs,qs,h,g=>by unfold Rpd at g;subst g;exact h
 | (k,d)::r,ps,kvs,qs,h,g=>by
  obtain ⟨k',v,vs,rfl,hk,h2,h3⟩:=zhy g
  show Rpd H (zje (zso kvs k d) r) (ziz (putK qs k' v) vs)
  exact Rpd.merge (h.put hk h2) h3
theorem zadu {H:Hp} {d:PyData} {v:V} {k:Key} (h:Rp H d v) (e:keyD d=some k):v=kV k:=by
 cases d<;>first
  | (cases e;unfold Rp at h;exact h)
  | cases e
def zaga (a b:EF):EF:=fun env=>(a env).bind fun x=>(b env).bind fun y=>match x.d with
 | .dict kvs=>(keyD y.d).bind fun k=>(zmr kvs k).bind fun d=>some ⟨d,false,bsOf d x.bs⟩
 | _=>none
theorem zaot {td ty:TE} {fa fb:EF} (ha:SE td fa) (hb:SE ty fb):SE (tDGet td ty) (zaga fa fb):=by
 intro fx H0 env σ H h rr hr Q q
 unfold zaga at hr
 obtain ⟨⟨dx,frx,bx⟩,ex,hr⟩:=qA.mp hr
 obtain ⟨⟨dy,fry,by'⟩,ey,hr⟩:=qA.mp hr
 cases dx with
 | dict kvs =>
  obtain ⟨k,ek,hr⟩:=qA.mp hr
  obtain ⟨d,ed,hr⟩:=qA.mp hr
  cases hr
  refine ha fx H0 env σ H h _ ex _ fun v H1 s1 v1=>hb fx H0 env σ H1 (h.up s1) _ ey _ fun u H2 s2 v2=>?_
  obtain ⟨a,ps,rfl,hp,r⟩:=zoh (v1.later (Same.refl _) s2 fun _ z=>z).rp
  have g:=r.get (j:=k)
  rw [ed] at g
  obtain ⟨w,e1,e2⟩:=g
  rw [zadu v2.rp ek]
  have dg:=DGet.k (k:=k) (zdx hp)
  rw [e1] at dg
  exact ⟨a,w,rfl,dg,q w H2 (s1.trans s2) ⟨zoj e2,fun z=>by cases z⟩⟩
 | _=>cases hr
def eDIn (neg:Bool) (a b:EF):EF:=fun env=>(a env).bind fun x=>(b env).bind fun y=>match y.d with
 | .dict kvs=>(keyD x.d).bind fun k=>some ⟨.bool (if neg then !zzz kvs k else zzz kvs k),false,[]⟩
 | _=>none
theorem zaou {H:Hp} {kvs:List (PyData×PyData)} {ps:List (Key×V)} (r:Rpd H kvs ps) (k:Key):(valV ps k).isSome=zzz kvs k:=by
 have g:=r.get (j:=k)
 unfold zzz
 cases e:zmr kvs k with
 | none=>rw [e] at g;rw [show valV ps k=none from g];rfl
 | some d=>rw [e] at g;obtain ⟨w,e1,_⟩:=g;rw [e1];rfl
theorem zamw {td ty:TE} {fa fb:EF} (ha:SE ty fa) (hb:SE td fb):SE (tDIn ty td) (eDIn false fa fb):=by
 intro fx H0 env σ H h rr hr Q q
 unfold eDIn at hr
 obtain ⟨⟨dx,frx,bx⟩,ex,hr⟩:=qA.mp hr
 obtain ⟨⟨dy,fry,by'⟩,ey,hr⟩:=qA.mp hr
 cases dy with
 | dict kvs =>
  obtain ⟨k,ek,hr⟩:=qA.mp hr
  cases hr
  refine ha fx H0 env σ H h _ ex _ fun v H1 s1 v1=>hb fx H0 env σ H1 (h.up s1) _ ey _ fun u H2 s2 v2=>?_
  obtain ⟨a,ps,rfl,hp,r⟩:=zoh v2.rp
  rw [zadu v1.rp ek]
  exact ⟨a,_,rfl,DGet.k (zdx hp),by rw [zaou r k];exact q _ H2 (s1.trans s2) ⟨zap,fun z=>by cases z⟩⟩
 | _=>cases hr
def zbg (f:EF):TF:=fun env=>(f env).bind fun r=>match r.d with|.bool b=>some b|_=>none
theorem st_b {te:TE} {f:EF} (h:SE te f):ST (tB te) (zbg f):=by
 intro fx H0 env σ H hE b hb Q q
 unfold zbg at hb
 obtain ⟨⟨d,fr,bs⟩,e,hb⟩:=qA.mp hb
 cases d with
 | bool c =>
  have hb:some c=some b:=hb
  cases hb
  exact h fx H0 env σ H hE _ e _ fun v H' s v1=>⟨_,zoi v1.rp,q H' s⟩
 | _=>cases hb
theorem st_t {te:TE} {f:EF} (h:SE te f):ST (tTest te) (zbg f):=st_b h
def truD:PyData→Option Bool
 | .none=>some false
 | .bool b=>some b
 | .int i=>some (i != 0)
 | .str x=>if x.length≤100000 then some ((x.length:Int) != 0) else none
 | .list ds=>some (!ds.isEmpty)
 | .tuple ds=>some (!ds.isEmpty)
 | .dict ds=>some (!ds.isEmpty)
def tTru (f:EF):TF:=fun env=>(f env).bind fun r=>truD r.d
theorem zms {α β:Type} {xs:List α} {ys:List β} (h:xs.length=ys.length):xs.isEmpty=ys.isEmpty:=by
 cases xs<;>cases ys<;>simp at h<;>rfl
theorem zaul {K:qB} {H:Hp} {d:PyData} {v:V} {b:Bool} (h:Rp H d v) (e:truD d=some b):TruV K v H b:=by
 cases d with
 | none=>cases e;cases zzx h;rfl
 | bool c=>cases e;cases zoi h;rfl
 | int i=>cases e;cases zfw h;rfl
 | str x =>
  have e:(if x.length≤100000 then some ((x.length:Int) != 0) else none)=some b:=e
  split at e
  ·rename_i hl;cases e;cases zne h;exact ⟨zhn hl,rfl⟩
  ·cases e
 | list ds=>cases e;obtain ⟨a,xs,rfl,h1,h2⟩:=zgl h;exact .inl ⟨xs,SqL.of h1,by rw [zms h2.length]⟩
 | tuple ds=>cases e;obtain ⟨a,xs,rfl,h1,h2⟩:=zea h;exact .inr (.inl ⟨xs,SqT.of h1,by rw [zms h2.length]⟩)
 | dict ds=>cases e;obtain ⟨a,xs,rfl,h1,h2⟩:=zoh h;exact .inr (.inr ⟨xs,h1,by rw [zms h2.length]⟩)
theorem zja {K:qB} {te:TE} {f:EF} (h:SE te f):ST (fun σ H Q=>te σ H fun x H1=>∃ k,TruV K x H1 k∧Q k H1) (tTru f):=by
 intro fx H0 env σ H hE b hb Q q
 unfold tTru at hb
 obtain ⟨r,e,hb⟩:=qA.mp hb
 exact h fx H0 env σ H hE _ e _ fun v H' s v1=>⟨b,zaul (Rp.same (Offs.same _ _) _ v1.rp) hb,q H' s⟩
def zol (f g:TF):TF:=fun env=>(f env).bind fun b=>if b=true then g env else some false
def tOrF (f g:TF):TF:=fun env=>(f env).bind fun b=>if b=true then some true else g env
def zkp (f:TF):TF:=fun env=>(f env).map fun b=>!b
theorem zagb {t u:TT} {f g:TF} (h:ST t f) (k:ST u g):ST (tAnd t u) (zol f g):=by
 intro fx H0 env σ H hE b hb Q q
 unfold zol at hb
 obtain ⟨c,e,hb⟩:=qA.mp hb
 refine h fx H0 env σ H hE c e _ fun H' s=>?_
 cases c with
 | true=>exact iteT (k fx H0 env σ H' (hE.up s) b hb _ fun H'' s'=>q H'' (s.trans s'))
 | false=>cases hb;exact iteF (q H' s)
theorem zash {t u:TT} {f g:TF} (h:ST t f) (k:ST u g):ST (tOr t u) (tOrF f g):=by
 intro fx H0 env σ H hE b hb Q q
 unfold tOrF at hb
 obtain ⟨c,e,hb⟩:=qA.mp hb
 refine h fx H0 env σ H hE c e _ fun H' s=>?_
 cases c with
 | false=>exact iteF (k fx H0 env σ H' (hE.up s) b hb _ fun H'' s'=>q H'' (s.trans s'))
 | true=>cases hb;exact iteT (q H' s)
theorem zth {t:TT} {f:TF} (h:ST t f):ST (tNot t) (zkp f):=by
 intro fx H0 env σ H hE b hb Q q
 unfold zkp at hb
 obtain ⟨c,e,rfl⟩:=qG.mp hb
 exact h fx H0 env σ H hE c e _ fun H' s=>q H' s
def asB:PyData→Option Bool|.bool b=>some b|_=>none
def eAnd (a b:EF):EF:=fun env=>(a env).bind fun x=>(asB x.d).bind fun c=>if c=true then b env else some ⟨.bool false,false,[]⟩
theorem as_b {H:Hp} {d:PyData} {v:V} {c:Bool} (h:Rp H d v) (e:asB d=some c):v=.bl c:=by
 cases d<;>first
  | (cases e;exact zoi h)
  | cases e
theorem zagc {ta tb:TE} {fa fb:EF} (ha:SE ta fa) (hb:SE tb fb):SE (tAndV ta tb) (eAnd fa fb):=by
 intro fx H0 env σ H h rr hr Q q
 unfold eAnd at hr
 obtain ⟨x,ex,hr⟩:=qA.mp hr
 obtain ⟨c,ec,hr⟩:=qA.mp hr
 refine ha fx H0 env σ H h _ ex _ fun v H1 s1 v1=>⟨c,as_b v1.rp ec,?_⟩
 cases c with
 | true=>exact iteT (hb fx H0 env σ H1 (h.up s1) _ hr _ fun u H2 s2 v2=>q u H2 (s1.trans s2) (v2.later s1 (Same.refl _) fun _ z=>z))
 | false=>cases hr;exact iteF (q _ H1 s1 ⟨zap,fun z=>by cases z⟩)
def aNil:AF:=fun _=>some []
def zab (a:EF) (r:AF):AF:=fun env=>(a env).bind fun x=>(r env).map fun xs=>x::xs
theorem zan:SA tNil aNil:=by
 intro fx H0 env σ H h rs hr Q q
 cases hr
 exact q [] H (Same.refl _) .nil
theorem zac {te:TE} {ta:TA} {f:EF} {g:AF} (h1:SE te f) (h2:SA ta g):SA (tCons te ta) (zab f g):=by
 intro fx H0 env σ H h rs hr Q q
 unfold zab at hr
 obtain ⟨x,ex,hr⟩:=qA.mp hr
 obtain ⟨xs,exs,rfl⟩:=qG.mp hr
 exact h1 fx H0 env σ H h x ex _ fun v H1 s1 v1=>h2 fx H0 env σ H1 (h.up s1) xs exs _ fun vs H2 s2 vs2=>q (v::vs) H2 (s1.trans s2)
  (.cons (v1.later (Same.refl _) s2 fun _ z=>z) (Paired.mapP vs2 fun _ _ z=>z.later s1 (Same.refl _) fun _ y=>y))
def zhu (rs:List Val):List PyData:=rs.map (·.d)
def bss (rs:List Val):List Nat:=rs.flatMap (·.bs)
theorem zhv {fx:Addr→Prop} {env:DEnv} {σ:St} {H H':Hp}:∀ {rs:List Val} {vs:List V} {cs:List Nat},(∀ i∈bss rs,i∈cs)→Paired (fun r v=>ValOk (lim fx env σ r.bs) H H' r v) rs vs→Rps (Offs (lim fx env σ cs) H') (zhu rs) vs
 | _,_,_,_,.nil=>zec
 | r::rs,v::vs,cs,hc,.cons h t=>zck (Rp.same (Offs.sub (zmq fun i hi=>hc i (qBN.mpr ⟨r,qj,hi⟩))) _ h.rp)
   (zhv (fun i hi=>hc i (by obtain ⟨x,h1,h2⟩:=qBN.mp hi;exact qBN.mpr ⟨x,qL _ h1,h2⟩)) t)
def eTup (f:AF):EF:=fun env=>(f env).bind fun rs=>if rs.length≤100000 then some ⟨.tuple (zhu rs),false,bss rs⟩ else none
def eLst (f:AF):EF:=fun env=>(f env).bind fun rs=>if rs.length≤100000 then some ⟨.list (zhu rs),true,bss rs⟩ else none
theorem zig (rs:List Val):(zhu rs).length=rs.length:=by unfold zhu;rw [qF]
theorem zek {ta:TA} {f:AF} (ha:SA ta f):SE (tTup ta) (eTup f):=by
 intro fx H0 env σ H h rr hr Q q
 unfold eTup at hr
 obtain ⟨rs,er,hr⟩:=qA.mp hr
 split at hr
 ·rename_i hl
  cases hr
  refine ha fx H0 env σ H h rs er _ fun vs H1 s1 v1=>?_
  have r:=zhv (fun i hi=>hi) v1
  have hA:=(h.up s1).lims (bss rs)
  refine ⟨zhn (by rw [← r.length,zig];exact hl),fun p hp=>q _ _ (s1.trans (Same.new hp)) ⟨zko hp (zfe hA hp) r,fun z=>by cases z⟩⟩
 ·cases hr
theorem zih {ta:TA} {f:AF} (ha:SA ta f):SE (tLst ta) (eLst f):=by
 intro fx H0 env σ H h rr hr Q q
 unfold eLst at hr
 obtain ⟨rs,er,hr⟩:=qA.mp hr
 split at hr
 ·rename_i hl
  cases hr
  refine ha fx H0 env σ H h rs er _ fun vs H1 s1 v1=>?_
  have r:=zhv (fun i hi=>hi) v1
  have hA:=(h.up s1).lims (bss rs)
  refine ⟨zhn (by rw [← r.length,zig];exact hl),fun p hp=>q _ _ (s1.trans (Same.new hp)) ⟨zabt hp (zfe hA hp) r,fun _=>⟨p,rfl,s1.free hp,zuq hp r⟩⟩⟩
 ·cases hr
def zakl:EF:=fun _=>some ⟨.dict [],true,[]⟩
theorem zaaa:SE tDNewK zakl:=by
 intro fx H0 env σ H h rr hr Q q
 cases hr
 intro p hp
 have hA:=h.lims []
 exact q _ _ (Same.new hp) ⟨zlt (by rw [Offs.get (zfe hA hp)];exact zax) zkn,fun _=>⟨p,rfl,hp,⟨[],zax,zkn⟩⟩⟩
def eD1 (k v:EF):EF:=fun env=>(k env).bind fun x=>(v env).bind fun y=>(keyD x.d).bind fun _=>some ⟨.dict [(x.d,y.d)],true,y.bs⟩
theorem zaum {tk tv:TE} {f g:EF} (h1:SE tk f) (h2:SE tv g):SE (tDisp [(tk,tv)]) (eD1 f g):=by
 intro fx H0 env σ H h rr hr Q q
 unfold eD1 at hr
 obtain ⟨x,ex,hr⟩:=qA.mp hr
 obtain ⟨y,ey,hr⟩:=qA.mp hr
 obtain ⟨k,ek,hr⟩:=qA.mp hr
 cases hr
 intro p hp
 have hp0:Same H (upd H p (.dK [])):=Same.new hp
 have npf:¬ fx p:=zfe h.fxs hp
 have hE:EnvOk (fun b=>fx b∨b=p) H0 env σ (upd H p (.dK [])):=h.grow hp0 (fun b o e n z=>z.elim n fun y=>by rw [y,hp] at e;cases e) fun b z=>by
  rcases z with z|z
  ·obtain ⟨o,e⟩:=h.fxs b z;exact ⟨o,hp0 b o e⟩
  ·rw [z];exact ⟨_,zax⟩
 refine h1 _ H0 env σ _ hE x ex _ fun v H1 s1 v1=>h2 _ H0 env σ H1 (hE.up s1) y ey _ fun u H2 s2 v2=>?_
 have ep:H2 p=some (.dK []):=(s1.trans s2) _ _ zax
 refine ⟨ep,[(k,u)],by rw [zadu v1.rp ek];rfl,(by show 1≤15;decide),?_⟩
 have em:ziz [] [(k,u)]=[(k,u)]:=rfl
 rw [em]
 have rp2:Rp (Offs (fun b=>lim fx env σ y.bs b∨b=p) (upd H2 p (.dK [(k,u)]))) y.d u:=by
  rw [Offs.upd (.inr rfl)]
  exact Rp.same (Offs.sub fun b z=>by
   rcases z with (z|z)|z
   ·exact .inl (.inl z)
   ·exact .inr z
   ·exact .inl (.inr z)) _ v2.rp
 have hs:Same H (upd H2 p (.dK [(k,u)])):=fun b o e=>by
  rw [zbd (zbt e hp)]
  exact s2 _ _ (s1 _ _ (hp0 _ _ e))
 have hnp:¬ lim fx env σ y.bs p:=zfe (h.lims y.bs) hp
 refine q _ _ hs ⟨zlt (by rw [Offs.get hnp];exact zax) (zjn ek (Rp.same (Offs.sub fun b z=>.inl z) _ rp2) zkn),fun _=>⟨p,rfl,hp,⟨_,zax,zjn ek rp2 zkn⟩⟩⟩
abbrev GF:=List PyData→Option (PyData×Bool)
noncomputable def SC (r:List V→Hp→VK→Prop) (g:GF):Prop:=∀ (A:Addr→Prop) (H:Hp) (vs:List V) (ds:List PyData),(∀ b,A b→∃ o,H b=some o)→Rps (Offs A H) ds vs→∀ d fr,g ds=some (d,fr)→∀ Q:VK,
 (∀ v H',Same H H'→Rp (Offs A H') d v→(fr=true→∃ a,v=.ref a∧H a=none∧ziv (Offs (fun b=>A b∨b=a) H') H' a d)→Q v H')→r vs H Q
def eCB (g:GF) (f:AF):EF:=fun env=>(f env).bind fun rs=>(g (zhu rs)).bind fun z=>some ⟨z.1,z.2,bsOf z.1 (bss rs)⟩
theorem zfx {r:List V→Hp→VK→Prop} {g:GF} {ta:TA} {f:AF} (hc:SC r g) (ha:SA ta f):SE (tCB r ta) (eCB g f):=by
 intro fx H0 env σ H h rr hr Q q
 unfold eCB at hr
 obtain ⟨rs,er,hr⟩:=qA.mp hr
 obtain ⟨⟨d,fr⟩,ez,hr⟩:=qA.mp hr
 cases hr
 refine ha fx H0 env σ H h rs er _ fun vs H1 s1 v1=>hc (lim fx env σ (bss rs)) H1 vs (zhu rs) ((h.up s1).lims _) (zhv (fun i hi=>hi) v1) d fr ez _ fun w H3 s3 rp fr3=>q w H3 (s1.trans s3) ⟨zoj rp,fun e=>?_⟩
 obtain ⟨a,g1,g2,g3⟩:=fr3 e
 refine ⟨a,g1,s1.free g2,?_⟩
 have nf:zgq d=false:=by cases d<;>first|rfl|exact g3.elim
 show ziv (Offs (fun b=>lim fx env σ (bsOf d (bss rs)) b∨b=a) H3) H3 a d
 rw [show bsOf d (bss rs)=bss rs by unfold bsOf;rw [if_neg (by rw [nf];decide)]]
 exact g3
theorem rps1 {H:Hp} {d:PyData} {vs:List V} (h:Rps H [d] vs):∃ v,vs=[v]∧Rp H d v:=by
 unfold Rps at h
 obtain ⟨v,ws,rfl,h1,h2⟩:=h
 unfold Rps at h2
 subst h2
 exact ⟨v,rfl,h1⟩
theorem rps2 {H:Hp} {d e:PyData} {vs:List V} (h:Rps H [d,e] vs):∃ v u,vs=[v,u]∧Rp H d v∧Rp H e u:=by
 unfold Rps at h
 obtain ⟨v,ws,rfl,h1,h2⟩:=h
 obtain ⟨u,rfl,h3⟩:=rps1 h2
 exact ⟨v,u,rfl,h1,h3⟩
def lenD:GF
 | [.str x]=>if x.length≤100000 then some (.int x.length,false) else none
 | [.list ds]=>some (.int ds.length,false)
 | [.tuple ds]=>some (.int ds.length,false)
 | _=>none
theorem zjx {K:qB}:SC (fun xs H Q=>∃ x n,xs=[x]∧LenV K x H n∧Q (.int n) H) lenD:=by
 intro A H vs ds hA rv d fr e Q q
 unfold lenD at e
 split at e
 ·split at e
  ·rename_i hl
   cases e
   obtain ⟨v,rfl,r⟩:=rps1 rv
   cases zne r
   exact ⟨_,_,rfl,⟨zhn hl,rfl⟩,q _ H (Same.refl _) zaf (fun z=>by cases z)⟩
  ·cases e
 ·cases e
  obtain ⟨v,rfl,r⟩:=rps1 rv
  obtain ⟨a,xs,rfl,h1,h2⟩:=zgl r
  exact ⟨_,_,rfl,.inl ⟨xs,SqL.of (zdx h1),rfl⟩,by rw [← h2.length];exact q _ H (Same.refl _) zaf (fun z=>by cases z)⟩
 ·cases e
  obtain ⟨v,rfl,r⟩:=rps1 rv
  obtain ⟨a,xs,rfl,h1,h2⟩:=zea r
  exact ⟨_,_,rfl,.inr ⟨xs,SqT.of (zdx h1),rfl⟩,by rw [← h2.length];exact q _ H (Same.refl _) zaf (fun z=>by cases z)⟩
 ·cases e
def minD:GF
 | [.int i,.int j]=>some (.int (if j<i then j else i),false)
 | _=>none
theorem zasi:SC (fun xs H Q=>∃ i j,xs=[.int i,.int j]∧Q (.int (if j<i then j else i)) H) minD:=by
 intro A H vs ds hA rv d fr e Q q
 unfold minD at e
 split at e
 ·cases e
  obtain ⟨v,u,rfl,r1,r2⟩:=rps2 rv
  cases zfw r1;cases zfw r2
  exact ⟨_,_,rfl,q _ H (Same.refl _) zaf (fun z=>by cases z)⟩
 ·cases e
def zwx:GF
 | [c]=>(zif c).map fun ds=>(.list ds,true)
 | _=>none
theorem zut {K:qB}:SC (fun xs H Q=>∃ p ys,xs=[.ref p]∧(SqL K H p ys∨SqT K H p ys)∧∀ l,H l=none→Q (.ref l) (upd H l (.lst ys))) zwx:=by
 intro A H vs ds hA rv d fr e Q q
 unfold zwx at e
 split at e
 ·obtain ⟨es,he,e⟩:=qG.mp e
  cases e
  obtain ⟨v,rfl,r1⟩:=rps1 rv
  obtain ⟨p,xs,rfl,hq,r⟩:=zabu (K:=K) r1 he
  refine ⟨p,xs,rfl,hq.imp (Offs.same A H).seq (SqT.same (Offs.same A H)),fun l hl=>?_⟩
  exact q _ _ (Same.new hl) (zabt hl (zfe hA hl) r) fun _=>⟨l,rfl,hl,zuq hl r⟩
 ·cases e
def zfb:GF
 | [c]=>(zif c).map fun ds=>(.tuple ds,false)
 | _=>none
theorem zjb {K:qB}:SC (fun xs H Q=>∃ p ys,xs=[.ref p]∧((SqL K H p ys∧∀ l,H l=none→Q (.ref l) (upd H l (.tup ys)))∨(SqT K H p ys∧Q (.ref p) H))) zfb:=by
 intro A H vs ds hA rv d fr e Q q
 unfold zfb at e
 split at e
 ·obtain ⟨es,he,e⟩:=qG.mp e
  cases e
  obtain ⟨v,rfl,r1⟩:=rps1 rv
  rename_i c
  cases c with
  | list ds =>
   cases he
   obtain ⟨p,xs,rfl,h1,r⟩:=zgl r1
   exact ⟨p,xs,rfl,.inl ⟨SqL.of (zdx h1),fun l hl=>q _ _ (Same.new hl) (zko hl (zfe hA hl) r) (fun z=>by cases z)⟩⟩
  | tuple ds =>
   cases he
   obtain ⟨p,xs,rfl,h1,r⟩:=zea r1
   exact ⟨p,xs,rfl,.inr ⟨SqT.of (zdx h1),q _ H (Same.refl _) r1 (fun z=>by cases z)⟩⟩
  | _=>cases he
 ·cases e
def zqr:List PyData→Option (List Bool)
 | []=>some []
 | .bool b::r=>(zqr r).map fun bs=>b::bs
 | _=>none
theorem zwy {H:Hp}:∀ {ds:List PyData} {vs:List V} {bs:List Bool},Rps H ds vs→zqr ds=some bs→vs=bs.map V.bl
 | [],vs,bs,h,e=>by unfold Rps at h;cases e;exact h
 | d::ds,vs,bs,h,e=>by
  unfold Rps at h
  obtain ⟨v,ws,rfl,h1,h2⟩:=h
  cases d with
  | bool b =>
   obtain ⟨cs,ec,rfl⟩:=qG.mp e
   rw [zoi h1,zwy h2 ec];rfl
  | _=>cases e
def anyD (f:List Bool→Bool):GF
 | [.list ds]=>(zqr ds).map fun bs=>(.bool (f bs),false)
 | _=>none
theorem zti {K:qB} {f:List Bool→Bool}:SC (rAny K f) (anyD f):=by
 intro A H vs ds hA rv d fr e Q q
 unfold anyD at e
 split at e
 ·obtain ⟨bs,he,e⟩:=qG.mp e
  cases e
  obtain ⟨v,rfl,r1⟩:=rps1 rv
  obtain ⟨p,xs,rfl,h1,r⟩:=zgl r1
  cases zwy r he
  exact ⟨p,bs,rfl,SqL.of (zdx h1),q _ H (Same.refl _) zap (fun z=>by cases z)⟩
 ·cases e
def zwz:PyData→String
 | .none=>"NoneType" | .bool _=>"bool" | .int _=>"int" | .str _=>"str" | .list _=>"list" | .tuple _=>"tuple" | .dict _=>"dict"
theorem zaun {K:qB} {H:Hp} {d:PyData} {v:V} (h:Rp H d v):TyOf K H v (.type (zwz d)):=by
 cases d with
 | list ds=>obtain ⟨a,xs,rfl,h1,_⟩:=zgl h;exact .lst h1
 | tuple ds=>obtain ⟨a,xs,rfl,h1,_⟩:=zea h;exact .tup h1
 | dict ds=>obtain ⟨a,xs,rfl,h1,_⟩:=zoh h;exact .dK h1
 | none=>cases zzx h;exact .non
 | bool b=>cases zoi h;exact .bl _
 | int b=>cases zfw h;exact .int _
 | str b=>cases zne h;exact .str _
def isiB (n:String) (d:PyData):Bool:=zwz d==n||(zwz d == "bool" && n == "int")
def eIsi (n:String) (a:EF):EF:=fun env=>(a env).map fun x=>⟨.bool (isiB n x.d),false,[]⟩
theorem zamx {K:qB} {n:String} {te:TE} {f:EF} (h1:SE te f) (hk:∀ d,PySem.W.kitOne K (.type (zwz d)) (.type n)=some (isiB n d)) :
  SE (tCB (fun xs H Q=>∃ x n t b,xs=[x,.ty n]∧TyOf K H x t∧PySem.W.kitOne K t (.type n)=some b∧Q (.bl b) H) (tCons te (tCons (tC (.ty n)) tNil))) (eIsi n f):=by
 intro fx H0 env σ H h rr hr Q q
 unfold eIsi at hr
 obtain ⟨x,ex,rfl⟩:=qG.mp hr
 refine h1 fx H0 env σ H h _ ex _ fun v H1 s1 v1=>?_
 exact ⟨v,n,_,_,rfl,zaun (Rp.same (Offs.same _ _) _ v1.rp),hk _,q _ H1 s1 ⟨zap,fun z=>by cases z⟩⟩
theorem zxa {K:qB}:∀ d,PySem.W.kitOne K (.type (zwz d)) (.type "tuple")=some (isiB "tuple" d):=by intro d;cases d<;>rfl
abbrev PF':=DEnv→Option (Option Int)
def SPt (t:TO) (f:PF'):Prop:=∀ (fx:Addr→Prop) (H0:Hp) (env:DEnv) (σ:St) (H:Hp),EnvOk fx H0 env σ H→∀ r,f env=some r→∀ Q:Option Int→Hp→Prop,(∀ H',Same H H'→Q r H')→t σ H Q
def zcm:PF':=fun _=>some none
def zbl (a:EF):PF':=fun env=>(a env).bind fun x=>match x.d with|.int i=>some (some i)|_=>none
theorem zew:SPt tNoPart zcm:=by
 intro fx H0 env σ H h r hr Q q
 cases hr
 exact q H (Same.refl _)
theorem zco {te:TE} {f:EF} (h1:SE te f):SPt (tPart te) (zbl f):=by
 intro fx H0 env σ H h r hr Q q
 unfold zbl at hr
 obtain ⟨⟨d,fr,bs⟩,ex,hr⟩:=qA.mp hr
 cases d with
 | int i =>
  cases hr
  exact h1 fx H0 env σ H h _ ex _ fun v H1 s1 v1=>⟨i,zfw v1.rp,q H1 s1⟩
 | _=>cases hr
def cutD (xs:List PyData) (lo hi:Option Int):List PyData:=(xs.drop (HT.sIx xs.length 0 lo)).take (HT.sIx xs.length xs.length hi - HT.sIx xs.length 0 lo)
theorem Rps.drop {H:Hp} {ds:List PyData} {vs:List V} (h:Rps H ds vs) (n:Nat):Rps H (ds.drop n) (vs.drop n):=by
 induction n generalizing ds vs with
 | zero=>exact h
 | succ n ih =>
  cases ds with
  | nil=>unfold Rps at h;subst h;exact zec
  | cons d ds=>unfold Rps at h;obtain ⟨v,ws,rfl,h1,h2⟩:=h;exact ih h2
theorem Rps.take {H:Hp} {ds:List PyData} {vs:List V} (h:Rps H ds vs) (n:Nat):Rps H (ds.take n) (vs.take n):=by
 induction n generalizing ds vs with
 | zero=>exact zec
 | succ n ih =>
  cases ds with
  | nil=>unfold Rps at h;subst h;exact zec
  | cons d ds=>unfold Rps at h;obtain ⟨v,ws,rfl,h1,h2⟩:=h;exact zck h1 (ih h2)
theorem Rps.cut {H:Hp} {ds:List PyData} {vs:List V} (h:Rps H ds vs) (lo hi:Option Int):Rps H (cutD ds lo hi) (cutV vs lo hi):=by
 unfold cutD cutV
 rw [← h.length]
 exact (h.drop _).take _
def slD (d:PyData) (lo hi:Option Int):Option (PyData×Bool):=match d with
 | .str z=>if z.length≤100000 then some (.str (Txt.slice z lo hi),false) else none
 | .list ds=>some (.list (cutD ds lo hi),true)
 | _=>none
def eSl (a:EF) (l h:PF'):EF:=fun env=>(a env).bind fun x=>(l env).bind fun lo=>(h env).bind fun hi=>(slD x.d lo hi).bind fun z=>some ⟨z.1,z.2,bsOf z.1 x.bs⟩
theorem zmd {K:qB} {te:TE} {tl th:TO} {f:EF} {fl fh:PF'} (h1:SE te f) (h2:SPt tl fl) (h3:SPt th fh):SE (tSl (rSlU K) te tl th) (eSl f fl fh):=by
 intro fx H0 env σ H h rr hr Q q
 unfold eSl at hr
 obtain ⟨⟨d,frd,bs⟩,ex,hr⟩:=qA.mp hr
 obtain ⟨lo,el,hr⟩:=qA.mp hr
 obtain ⟨hi,eh,hr⟩:=qA.mp hr
 obtain ⟨⟨d',fr'⟩,ez,hr⟩:=qA.mp hr
 cases hr
 refine h1 fx H0 env σ H h _ ex _ fun v H1 s1 v1=>h2 fx H0 env σ H1 (h.up s1) _ el _ fun H2 s2=>h3 fx H0 env σ H2 (h.up (s1.trans s2)) _ eh _ fun H3 s3=>?_
 have v3:=(v1.later (Same.refl _) (s2.trans s3) fun _ z=>z).rp
 have t3:=(s1.trans s2).trans s3
 cases d with
 | str z =>
  have ez:(if z.length≤100000 then some (PyData.str (Txt.slice z lo hi),false) else none)=some (d',fr'):=ez
  split at ez
  ·rename_i hl
   cases ez
   cases zne v3
   exact ⟨zhn hl,q _ H3 t3 ⟨zcc,fun z=>by cases z⟩⟩
  ·cases ez
 | list ds =>
  cases ez
  obtain ⟨p,xs,rfl,hp,r⟩:=zgl v3
  refine ⟨p,xs,rfl,SqL.of (zdx hp),fun l hl=>q _ _ (t3.trans (Same.new hl)) ?_⟩
  have hA:=(h.up t3).lims bs
  exact ⟨zabt hl (zfe hA hl) (r.cut lo hi),fun _=>⟨l,rfl,t3.free hl,zuq hl (r.cut lo hi)⟩⟩
 | _=>cases ez
def zaab (fx:Addr→Prop) (H0:Hp) (d:PyData) (fr:Bool) (v:V) (H:Hp):Prop:=Rp (Offs fx H) d v∧(fr=true→∃ a,v=.ref a∧H0 a=none∧ziv (Offs (fun b=>fx b∨b=a) H) H a d)
def spD (n:Nat) (g:GF):Sp:=fun vs H Q _=>∃ (fx:Addr→Prop) (ds:List PyData) (d:PyData) (fr:Bool),ds.length=n∧(∀ b,fx b→∃ o,H b=some o)∧Rps (Offs fx H) ds vs∧g ds=some (d,fr)∧∀ v H',Same H H'→zaab fx H d fr v H'→Q v H'
def zbb (n:Nat) (g:GF) (f:AF):EF:=fun env=>(f env).bind fun rs=>if rs.length=n then (g (zhu rs)).bind fun z=>some ⟨z.1,z.2,bsOf z.1 (bss rs)⟩ else none
theorem zbj {n:Nat} {g:GF} {ta:TA} {f:AF} (ha:SA ta f):SE (tCall (spD n g) [] E0 ta) (zbb n g f):=by
 intro fx H0 env σ H h rr hr Q q
 unfold zbb at hr
 obtain ⟨rs,er,hr⟩:=qA.mp hr
 split at hr
 ·rename_i hn
  obtain ⟨⟨d,fr⟩,ez,hr⟩:=qA.mp hr
  cases hr
  refine ha fx H0 env σ H h rs er _ fun vs H1 s1 v1=>?_
  rw [qx]
  refine ⟨lim fx env σ (bss rs),zhu rs,d,fr,by rw [zig];exact hn,(h.up s1).lims _,zhv (fun i hi=>hi) v1,ez,fun w H3 s3 ⟨rp,fr3⟩=>q w H3 (s1.trans s3) ⟨zoj rp,fun e=>?_⟩⟩
  obtain ⟨a,g1,g2,g3⟩:=fr3 e
  refine ⟨a,g1,s1.free g2,?_⟩
  have nf:zgq d=false:=by cases d<;>first|rfl|exact g3.elim
  show ziv (Offs (fun b=>lim fx env σ (bsOf d (bss rs)) b∨b=a) H3) H3 a d
  rw [show bsOf d (bss rs)=bss rs by unfold bsOf;rw [if_neg (by rw [nf];decide)]]
  exact g3
 ·cases hr
inductive Out where
 | nx (env:DEnv)
 | bk (env:DEnv)
 | ct (env:DEnv)
 | rt (d:PyData) (fr:Bool)
def Sat (fx:Addr→Prop) (H0:Hp) (D:Ends):Out→Prop
 | .nx env=>∀ σ H,EnvOk fx H0 env σ H→D.nx σ H
 | .bk env=>∀ σ H,EnvOk fx H0 env σ H→D.bk σ H
 | .ct env=>∀ σ H,EnvOk fx H0 env σ H→D.ct σ H
 | .rt d fr=>∀ v H,Same H0 H→zaab fx H0 d fr v H→D.rt v H
abbrev SF:=DEnv→Option Out
def SS (ts:TS) (F:SF):Prop:=∀ (fx:Addr→Prop) (H0:Hp) (env:DEnv) (σ:St) (H:Hp) (D:Ends),EnvOk fx H0 env σ H→∀ o,F env=some o→Sat fx H0 D o→ts D σ H
def frz1 (env:DEnv) (i:Nat):DEnv:=match env[i]? with
 | some (.ac d)=>env.set i (.pl d)
 | _=>env
def frzs (env:DEnv) (bs:List Nat):DEnv:=bs.foldl frz1 env
theorem zakm (env:DEnv) (i:Nat):(frz1 env i).length=env.length:=by
 unfold frz1;split
 ·rw [qw]
 ·rfl
theorem zcj {α:Type} {l:List α} {i j:Nat} {x y:α} (h:(l.set i x)[j]?=some y):(j=i∧y=x)∨(j≠i∧l[j]?=some y):=by
 rw [List.getElem?_set] at h
 by_cases e:i=j
 ·subst e
  rw [if_pos rfl] at h
  split at h
  ·exact .inl ⟨rfl,(qh h).symm⟩
  ·cases h
 ·rw [if_neg e] at h
  exact .inr ⟨fun z=>e z.symm,h⟩
theorem zom {env:DEnv} {i j:Nat} {d:PyData} (h:(frz1 env i)[j]?=some (.ac d)):env[j]?=some (.ac d)∧j≠i:=by
 unfold frz1 at h
 split at h
 ·rcases zcj h with ⟨_,e⟩|⟨e,h⟩
  ·cases e
  ·exact ⟨h,e⟩
 ·rename_i hn
  refine ⟨h,fun e=>?_⟩
  subst e
  exact hn d h
theorem zaov {env:DEnv} {i j:Nat} {d:PyData} (h:(frz1 env i)[j]?=some (.pl d)):env[j]?=some (.pl d)∨(j=i∧env[i]?=some (.ac d)):=by
 unfold frz1 at h
 split at h
 ·rename_i d' hd
  rcases zcj h with ⟨e1,e⟩|⟨e,h⟩
  ·cases e;exact .inr ⟨e1,hd⟩
  ·exact .inl h
 ·exact .inl h
theorem zakn {env:DEnv} {σ:St} {i:Nat}:∀ a,own (frz1 env i) σ a→own env σ a:=by
 rintro a ⟨j,d,h1,h2⟩
 exact ⟨j,d,(zom h1).1,h2⟩
theorem EnvOk.frz1 {fx:Addr→Prop} {H0:Hp} {env:DEnv} {σ:St} {H:Hp} (h:EnvOk fx H0 env σ H) (i:Nat):EnvOk fx H0 (frz1 env i) σ H:=by
 have so:Same (Offs (fun a=>fx a∨own env σ a) H) (Offs (fun a=>fx a∨own (L2.frz1 env i) σ a) H):=Offs.sub fun b z=>z.imp (fun y=>y) (zakn b)
 refine ⟨by rw [zakm];exact h.len,fun j d e=>?_,fun j d e=>?_,fun j k d d' a h1 h2 h3 h4=>h.inj j k d d' a (zom h1).1 (zom h2).1 h3 h4,h.base,h.fxs⟩
 ·rcases zaov e with e|⟨rfl,e⟩
  ·obtain ⟨v,h1,h2⟩:=h.pl j d e
   exact ⟨v,h1,Rp.same so _ h2⟩
  ·obtain ⟨a,h1,h2,h3,h4⟩:=h.ac j d e
   refine ⟨_,h1,h4.rp so fun o eo=>?_⟩
   rw [Offs.get]
   ·exact eo
   ·rintro (z|⟨k,d',z1,z2⟩)
    ·exact h3 z
    ·obtain ⟨z1,z3⟩:=zom z1
     exact z3 (h.inj k j d' d a z1 e z2 h1)
 ·obtain ⟨a,h1,h2,h3,h4⟩:=h.ac j d (zom e).1
  exact ⟨a,h1,h2,h3,h4.same so fun o z=>z⟩
theorem EnvOk.frzs {fx:Addr→Prop} {H0:Hp} {σ:St} {H:Hp}:∀ (bs:List Nat) {env:DEnv},EnvOk fx H0 env σ H→EnvOk fx H0 (frzs env bs) σ H
 | [],_,h=>h
 | i::bs,_,h=>EnvOk.frzs bs (h.frz1 i)
theorem zagd:∀ {bs:List Nat} {env:DEnv} {j:Nat} {d:PyData},(frzs env bs)[j]?=some (.ac d)→env[j]?=some (.ac d)∧j∉bs
 | [],_,_,_,h=>⟨h,by simp⟩
 | i::bs,env,j,d,h=>by
  obtain ⟨h1,h2⟩:=zagd (bs:=bs) h
  obtain ⟨h3,h4⟩:=zom h1
  exact ⟨h3,by simp [h4,h2]⟩
theorem zhg {fx:Addr→Prop} {env:DEnv} {σ:St} {bs:List Nat}:∀ a,fx a∨own (frzs env bs) σ a→lim fx env σ bs a:=by
 rintro a (z|⟨i,d,h1,h2⟩)
 ·exact .inl z
 ·obtain ⟨h3,h4⟩:=zagd h1
  exact .inr ⟨i,d,h4,h3,h2⟩
theorem zage {env:DEnv} {σ:St} {i:Nat} {d:PyData} {v:V}:∀ a,own (env.set i (.pl d)) (σ.set i (some v)) a→own env σ a:=by
 rintro a ⟨j,e,h1,h2⟩
 rcases zcj h1 with ⟨_,z⟩|⟨ne,h1⟩
 ·cases z
 ·rcases zcj h2 with ⟨z,_⟩|⟨_,h2⟩
  ·exact absurd z ne
  ·exact ⟨j,e,h1,h2⟩
theorem EnvOk.setPl {fx:Addr→Prop} {H0:Hp} {env:DEnv} {σ:St} {H:Hp} (h:EnvOk fx H0 env σ H) (i:Nat) {d:PyData} {v:V} (r:Rp (Offs (fun a=>fx a∨own env σ a) H) d v):EnvOk fx H0 (env.set i (.pl d)) (σ.set i (some v)) H:=by
 have so:Same (Offs (fun a=>fx a∨own env σ a) H) (Offs (fun a=>fx a∨own (env.set i (.pl d)) (σ.set i (some v)) a) H):=Offs.sub fun b z=>z.imp (fun y=>y) (zage b)
 have kept:∀ {j:Nat},j≠i→(σ.set i (some v))[j]?=σ[j]?:=fun {j} n=>qZ fun z=>n z.symm
 refine ⟨by rw [qw,qw];exact h.len,fun j e hj=>?_,fun j e hj=>?_,fun j k d1 d2 a h1 h2 h3 h4=>?_,h.base,h.fxs⟩
 ·rcases zcj hj with ⟨rfl,z⟩|⟨ne,hj'⟩
  ·cases z
   have hl:j<env.length:=by have:=(qP.mp hj).1;rwa [qw] at this
   exact ⟨v,by rw [qt (by rw [← h.len];exact hl)],Rp.same so _ r⟩
  ·obtain ⟨u,h1,h2⟩:=h.pl j e hj'
   exact ⟨u,by rw [kept ne];exact h1,Rp.same so _ h2⟩
 ·rcases zcj hj with ⟨_,z⟩|⟨ne,hj'⟩
  ·cases z
  ·obtain ⟨a,h1,h2,h3,h4⟩:=h.ac j e hj'
   exact ⟨a,by rw [kept ne];exact h1,h2,h3,h4.same so fun o z=>z⟩
 ·rcases zcj h1 with ⟨_,z⟩|⟨n1,h1⟩
  ·cases z
  rcases zcj h2 with ⟨_,z⟩|⟨n2,h2⟩
  ·cases z
  rw [kept n1] at h3
  rw [kept n2] at h4
  exact h.inj j k d1 d2 a h1 h2 h3 h4
theorem EnvOk.setAc {fx:Addr→Prop} {H0:Hp} {env:DEnv} {σ:St} {H:Hp} {a:Addr} (h:EnvOk (fun b=>fx b∨b=a) H0 env σ H) (i:Nat) {d:PyData} (r:ziv (Offs (fun b=>(fx b∨own env σ b)∨b=a) H) H a d) (h0:H0 a=none) (hf:¬ fx a) :
  EnvOk fx H0 (env.set i (.ac d)) (σ.set i (some (.ref a))) H:=by
 have kept:∀ {j:Nat},j≠i→(σ.set i (some (V.ref a)))[j]?=σ[j]?:=fun {j} n=>qZ fun z=>n z.symm
 have sub:∀ b,fx b∨own (env.set i (.ac d)) (σ.set i (some (.ref a))) b→(fx b∨b=a)∨own env σ b:=by
  rintro b (z|⟨j,e,h1,h2⟩)
  ·exact .inl (.inl z)
  ·rcases zcj h1 with ⟨rfl,z⟩|⟨ne,h1⟩
   ·have hl:j<env.length:=by have:=(qP.mp ‹(env.set j (.ac d))[j]?=_›).1;rwa [qw] at this
    rw [qt (by rw [← h.len];exact hl)] at h2
    cases h2
    exact .inl (.inr rfl)
   ·rw [kept ne] at h2
    exact .inr ⟨j,e,h1,h2⟩
 have so:Same (Offs (fun b=>(fx b∨b=a)∨own env σ b) H) (Offs (fun b=>fx b∨own (env.set i (.ac d)) (σ.set i (some (.ref a))) b) H):=Offs.sub sub
 have so2:Same (Offs (fun b=>(fx b∨own env σ b)∨b=a) H) (Offs (fun b=>fx b∨own (env.set i (.ac d)) (σ.set i (some (.ref a))) b) H):=Offs.sub fun b z=>by
  rcases sub b z with (y|y)|y
  ·exact .inl (.inl y)
  ·exact .inr y
  ·exact .inl (.inr y)
 refine ⟨by rw [qw,qw];exact h.len,fun j e hj=>?_,fun j e hj=>?_,fun j k d1 d2 b h1 h2 h3 h4=>?_,h.base,fun b z=>h.fxs b (.inl z)⟩
 ·rcases zcj hj with ⟨_,z⟩|⟨ne,hj'⟩
  ·cases z
  ·obtain ⟨u,h1,h2⟩:=h.pl j e hj'
   exact ⟨u,by rw [kept ne];exact h1,Rp.same so _ h2⟩
 ·rcases zcj hj with ⟨rfl,z⟩|⟨ne,hj'⟩
  ·cases z
   have hl:j<env.length:=by have:=(qP.mp hj).1;rwa [qw] at this
   exact ⟨a,by rw [qt (by rw [← h.len];exact hl)],h0,hf,r.same so2 fun o z=>z⟩
  ·obtain ⟨b,h1,h2,h3,h4⟩:=h.ac j e hj'
   exact ⟨b,by rw [kept ne];exact h1,h2,fun z=>h3 (.inl z),h4.same so fun o z=>z⟩
 ·rcases zcj h1 with ⟨e1,z1⟩|⟨n1,h1'⟩<;>rcases zcj h2 with ⟨e2,z2⟩|⟨n2,h2'⟩
  ·rw [e1,e2]
  ·subst e1
   have hl:j<env.length:=by have:=(qP.mp h1).1;rwa [qw] at this
   rw [qt (by rw [← h.len];exact hl)] at h3
   rw [kept n2] at h4
   cases h3
   obtain ⟨b,g1,g2,g3,g4⟩:=h.ac k d2 h2'
   rw [h4] at g1
   cases g1
   exact absurd (.inr rfl) g3
  ·subst e2
   have hl:k<env.length:=by have:=(qP.mp h2).1;rwa [qw] at this
   rw [qt (by rw [← h.len];exact hl)] at h4
   rw [kept n1] at h3
   cases h4
   obtain ⟨b,g1,g2,g3,g4⟩:=h.ac j d1 h1'
   rw [h3] at g1
   cases g1
   exact absurd (.inr rfl) g3
  ·rw [kept n1] at h3
   rw [kept n2] at h4
   exact h.inj j k d1 d2 b h1' h2' h3 h4
def slOf (r:Val):Sl:=if r.fr=true then .ac r.d else .pl r.d
def putV (env:DEnv) (i:Nat) (r:Val):DEnv:=(frzs env r.bs).set i (slOf r)
theorem EnvOk.put {fx:Addr→Prop} {H0:Hp} {env:DEnv} {σ:St} {H H':Hp} (h:EnvOk fx H0 env σ H) (s:Same H H') {r:Val} {v:V} (hv:ValOk (lim fx env σ r.bs) H H' r v) (i:Nat):EnvOk fx H0 (putV env i r) (σ.set i (some v)) H':=by
 unfold putV slOf
 cases e:r.fr with
 | false =>
  rw [if_neg qS]
  exact ((h.up s).frzs r.bs).setPl i (Rp.same (Offs.sub zhg) _ hv.rp)
 | true =>
  rw [if_pos rfl]
  obtain ⟨a,rfl,ha,hacc⟩:=hv.fr e
  have nfx:¬ fx a:=zfe h.fxs ha
  have g:EnvOk (fun b=>fx b∨b=a) H0 env σ H':=h.grow s (fun b o eo n z=>z.elim n fun y=>by rw [y,ha] at eo;cases eo) fun b z=>by
   rcases z with z|z
   ·obtain ⟨o,eo⟩:=h.fxs b z;exact ⟨o,s b o eo⟩
   ·rw [z];exact hacc.ex
  refine (g.frzs r.bs).setAc i (hacc.same (Offs.sub fun b z=>?_) fun o z=>z) (h.base.free ha) nfx
  rcases z with z|z
  ·exact .inl (zhg b z)
  ·exact .inr z
def sNil:SF:=fun env=>some (.nx env)
def sSeq (f g:SF):SF:=fun env=>(f env).bind fun o=>match o with
 | .nx env'=>g env'
 | o=>some o
theorem zff:SS tNext sNil:=by
 intro fx H0 env σ H D h o e q
 cases e
 exact q σ H h
theorem zba {t u:TS} {f g:SF} (h1:SS t f) (h2:SS u g):SS (tSeq t u) (sSeq f g):=by
 intro fx H0 env σ H D h o e q
 unfold sSeq at e
 obtain ⟨o1,e1,e⟩:=qA.mp e
 refine h1 fx H0 env σ H _ h o1 e1 ?_
 cases o1 with
 | nx env'=>exact fun σ' H' h'=>h2 fx H0 env' σ' H' D h' o e q
 | bk env'=>cases e;exact q
 | ct env'=>cases e;exact q
 | rt d fr=>cases e;exact q
def sRet (f:EF):SF:=fun env=>(f env).map fun r=>.rt r.d r.fr
theorem zde {te:TE} {f:EF} (h1:SE te f):SS (tRet te) (sRet f):=by
 intro fx H0 env σ H D h o e q
 unfold sRet at e
 obtain ⟨r,er,rfl⟩:=qG.mp e
 refine h1 fx H0 env σ H h r er _ fun v H' s hv=>q v H' (h.base.trans s) ⟨Rp.same (Offs.sub fun b z=>.inl z) _ hv.rp,fun z=>?_⟩
 obtain ⟨a,g1,g2,g3⟩:=hv.fr z
 exact ⟨a,g1,h.base.free g2,g3.same (Offs.sub fun b y=>y.imp .inl id) fun o z=>z⟩
def zsp (i:Nat):SF:=fun env=>match env[i]? with
 | some (.pl d)=>some (.rt d false)
 | some (.ac d)=>some (.rt d true)
 | _=>none
theorem zmt {i:Nat}:SS (tRet (tVar i)) (zsp i):=by
 intro fx H0 env σ H D h o e q
 unfold zsp at e
 cases ei:env[i]? with
 | none=>rw [ei] at e;cases e
 | some sl =>
  rw [ei] at e
  cases sl with
  | no=>cases e
  | pl d =>
   cases e
   obtain ⟨v,h1,h2⟩:=h.pl i d ei
   exact ⟨v,h1,q v H h.base ⟨Rp.same (Offs.sub fun b z=>.inl z) _ h2,fun z=>by cases z⟩⟩
  | ac d =>
   cases e
   obtain ⟨a,h1,h2,h3,h4⟩:=h.ac i d ei
   refine ⟨_,h1,q _ H h.base ⟨h4.rp (Offs.sub fun b z=>.inl z) fun o eo=>by rw [Offs.get h3];exact eo,fun _=>⟨a,rfl,h2,h4.same (Offs.sub fun b z=>?_) fun o z=>z⟩⟩⟩
   rcases z with z|z
   ·exact .inl z
   ·rw [z];exact .inr ⟨i,d,ei,h1⟩
def sIf (c:TF) (f g:SF):SF:=fun env=>(c env).bind fun b=>if b=true then f env else g env
theorem zii {tc:TT} {t u:TS} {c:TF} {f g:SF} (hc:ST tc c) (h1:SS t f) (h2:SS u g):SS (tIfS tc t u) (sIf c f g):=by
 intro fx H0 env σ H D h o e q
 unfold sIf at e
 obtain ⟨b,eb,e⟩:=qA.mp e
 refine hc fx H0 env σ H h b eb _ fun H' s=>?_
 cases b with
 | true=>exact iteT (h1 fx H0 env σ H' D (h.up s) o e q)
 | false=>exact iteF (h2 fx H0 env σ H' D (h.up s) o e q)
def sSet (i:Nat) (f:EF):SF:=fun env=>(f env).map fun r=>.nx (putV env i r)
theorem zbk {te:TE} {f:EF} {i:Nat} (h1:SE te f):SS (tAsg te (gName i)) (sSet i f):=by
 intro fx H0 env σ H D h o e q
 unfold sSet at e
 obtain ⟨r,er,rfl⟩:=qG.mp e
 exact h1 fx H0 env σ H h r er _ fun v H' s hv=>q _ H' (h.put s hv i)
abbrev GT:=PyData→DEnv→Option DEnv
def SG (g:TG) (f:GT):Prop:=∀ (fx:Addr→Prop) (H0:Hp) (env:DEnv) (σ:St) (H:Hp) (d:PyData) (v:V),EnvOk fx H0 env σ H→Rp (Offs (fun a=>fx a∨own env σ a) H) d v→∀ env',f d env=some env'→∀ Q:St→Hp→Prop,
 (∀ σ',EnvOk fx H0 env' σ' H→Q σ' H)→g v σ H Q
abbrev GTs:=List PyData→DEnv→Option DEnv
def SGs (g:TGs) (f:GTs):Prop:=∀ (fx:Addr→Prop) (H0:Hp) (env:DEnv) (σ:St) (H:Hp) (ds:List PyData) (vs:List V),EnvOk fx H0 env σ H→Rps (Offs (fun a=>fx a∨own env σ a) H) ds vs→∀ env',f ds env=some env'→∀ Q:St→Hp→Prop,
 (∀ σ',EnvOk fx H0 env' σ' H→Q σ' H)→g vs σ H Q
def gN (i:Nat):GT:=fun d env=>some (env.set i (.pl d))
theorem zdf {i:Nat}:SG (gName i) (gN i):=by
 intro fx H0 env σ H d v h r env' e Q q
 cases e
 exact q _ (h.setPl i r)
def zdc:GTs:=fun ds env=>match ds with|[]=>some env|_=>none
def zar (i:Nat) (g:GTs):GTs:=fun ds env=>match ds with|d::r=>g r (env.set i (.pl d))|[]=>none
theorem zed:SGs gNil zdc:=by
 intro fx H0 env σ H ds vs h r env' e Q q
 cases ds with
 | nil=>cases e;unfold Rps at r;exact ⟨r,q _ h⟩
 | cons _ _=>cases e
theorem zbc {i:Nat} {t:TGs} {g:GTs} (h1:SGs t g):SGs (gCons (gName i) t) (zar i g):=by
 intro fx H0 env σ H ds vs h r env' e Q q
 cases ds with
 | nil=>cases e
 | cons d ds =>
  unfold Rps at r
  obtain ⟨v,ws,rfl,r1,r2⟩:=r
  refine ⟨v,ws,rfl,h1 fx H0 (env.set i (.pl d)) _ H ds ws (h.setPl i r1) (Rps.same (Offs.sub fun b z=>z.imp (fun y=>y) (zage b)) _ r2) env' e Q q⟩
def gT (n:Nat) (g:GTs):GT:=fun d env=>match d with|.tuple ds=>if ds.length=n then g ds env else none|_=>none
theorem zgd {K:qB} {n:Nat} {t:TGs} {g:GTs} (h1:SGs t g):SG (gTup K n t) (gT n g):=by
 intro fx H0 env σ H d v h r env' e Q q
 unfold gT at e
 cases d with
 | tuple ds =>
  have e:(if ds.length=n then g ds env else none)=some env':=e
  split at e
  ·rename_i hn
   obtain ⟨a,xs,rfl,ha,rs⟩:=zea r
   exact ⟨a,xs,rfl,SqT.of (zdx ha),by rw [← rs.length];exact hn,h1 fx H0 env σ H ds xs h rs env' e Q q⟩
  ·cases e
 | _=>cases e
def sAsg (f:EF) (g:GT):SF:=fun env=>(f env).bind fun r=>(g r.d (frzs env r.bs)).map .nx
theorem zamy {te:TE} {f:EF} {g:TG} {gf:GT} (h1:SE te f) (h2:SG g gf):SS (tAsg te g) (sAsg f gf):=by
 intro fx H0 env σ H D h o e q
 unfold sAsg at e
 obtain ⟨r,er,e⟩:=qA.mp e
 obtain ⟨env',e',rfl⟩:=qG.mp e
 exact h1 fx H0 env σ H h r er _ fun v H' s hv=>h2 fx H0 _ σ H' r.d v ((h.up s).frzs r.bs) (Rp.same (Offs.sub zhg) _ hv.rp) env' e' _ fun σ' h'=>q σ' H' h'
theorem EnvOk.mut {fx:Addr→Prop} {H0:Hp} {env:DEnv} {σ:St} {H:Hp} (h:EnvOk fx H0 env σ H) {i:Nat} {d d':PyData} {a:Addr} {o:HO} (e:env[i]?=some (.ac d)) (ea:σ[i]?=some (some (.ref a)))
  (r:ziv (Offs (fun b=>fx b∨own env σ b) H) (upd H a o) a d'):EnvOk fx H0 (env.set i (.ac d')) σ (upd H a o):=by
 have hl:i<env.length:=(qP.mp e).1
 have oa:own env σ a:=⟨i,d,e,ea⟩
 have ow:∀ b,own (env.set i (.ac d')) σ b↔own env σ b:=by
  intro b
  constructor
  ·rintro ⟨j,d1,h1,h2⟩
   rcases zcj h1 with ⟨rfl,z⟩|⟨ne,h1⟩
   ·exact ⟨j,d,e,h2⟩
   ·exact ⟨j,d1,h1,h2⟩
  ·rintro ⟨j,d1,h1,h2⟩
   by_cases hj:j=i
   ·subst hj;exact ⟨j,d',by rw [qt hl],h2⟩
   ·exact ⟨j,d1,by rw [qZ fun z=>hj z.symm];exact h1,h2⟩
 have so:Same (Offs (fun b=>fx b∨own env σ b) H) (Offs (fun b=>fx b∨own (env.set i (.ac d')) σ b) (upd H a o)):=by
  have:Same (Offs (fun b=>fx b∨own env σ b) (upd H a o)) (Offs (fun b=>fx b∨own (env.set i (.ac d')) σ b) (upd H a o)):=Offs.sub fun b z=>z.imp (fun y=>y) (ow b).mp
  rw [Offs.upd (.inr oa)] at this
  exact this
 obtain ⟨a',g1,g2,g3,g4⟩:=h.ac i d e
 rw [ea] at g1
 cases g1
 refine ⟨by rw [qw];exact h.len,fun j d1 hj=>?_,fun j d1 hj=>?_,fun j k d1 d2 b h1 h2 h3 h4=>?_,fun b u eb=>by rw [zbd (zbt eb g2)];exact h.base b u eb,fun b z=>?_⟩
 ·rcases zcj hj with ⟨_,z⟩|⟨ne,hj'⟩
  ·cases z
  ·obtain ⟨u,h1,h2⟩:=h.pl j d1 hj'
   exact ⟨u,h1,Rp.same so _ h2⟩
 ·rcases zcj hj with ⟨rfl,z⟩|⟨ne,hj'⟩
  ·cases z
   exact ⟨a,ea,g2,g3,r.same so fun o z=>z⟩
  ·obtain ⟨b,h1,h2,h3,h4⟩:=h.ac j d1 hj'
   refine ⟨b,h1,h2,h3,h4.same so fun o' z=>?_⟩
   rw [zbd fun y=>ne (h.inj j i d1 d a hj' e (by rw [← y];exact h1) ea)]
   exact z
 ·have f:∀ {j:Nat} {d1:PyData},(env.set i (.ac d'))[j]?=some (.ac d1)→∃ d2,env[j]?=some (.ac d2):=fun {j d1} hj=>by
   rcases zcj hj with ⟨rfl,z⟩|⟨ne,hj'⟩
   ·exact ⟨d,e⟩
   ·exact ⟨d1,hj'⟩
  obtain ⟨e1,h1⟩:=f h1
  obtain ⟨e2,h2⟩:=f h2
  exact h.inj j k e1 e2 b h1 h2 h3 h4
 ·obtain ⟨u,eu⟩:=h.fxs b z
  exact ⟨u,by rw [zbd fun y=>g3 (by rw [← y];exact z)];exact eu⟩
def sApp (i:Nat) (f:EF):SF:=fun env=>match env[i]? with
 | some (.ac (.list ds))=>(f env).bind fun r=>if ds.length<100000∧i∉r.bs then some (.nx ((frzs env r.bs).set i (.ac (.list (ds++[r.d]))))) else none
 | _=>none
theorem znf {env:DEnv} {i:Nat} {d:PyData}:∀ {bs:List Nat},i∉bs→env[i]?=some (.ac d)→(frzs env bs)[i]?=some (.ac d):=by
 intro bs
 induction bs generalizing env with
 | nil=>intro _ e;exact e
 | cons j bs ih =>
  intro hn e
  have hj:i≠j:=fun z=>hn (by simp [z])
  refine ih (fun z=>hn (qL _ z)) ?_
  unfold frz1
  split
  ·rw [qZ fun z=>hj z.symm];exact e
  ·exact e
theorem zjy {K:qB} {i:Nat} {te:TE} {f:EF} (h1:SE te f):SS (tDrop (tBM K "list" zqj (tVar i) (tCons te tNil))) (sApp i f):=by
 intro fx H0 env σ H D h o e q
 unfold sApp at e
 split at e
 ·rename_i ds ei
  obtain ⟨r,er,e⟩:=qA.mp e
  split at e
  ·rename_i hl
   cases e
   obtain ⟨a,g1,g2,g3,g4⟩:=h.ac i _ ei
   obtain ⟨xs,hx,rx⟩:=g4
   refine ⟨_,g1,.inl ⟨rfl,_,SqL.of hx⟩,h1 fx H0 env σ H h r er _ fun v H' s hv=>?_⟩
   have h':=(h.up s).frzs r.bs
   have ei':=znf hl.2 ei
   have hx':=s _ _ hx
   have rx':Rps (Offs (fun b=>fx b∨own (frzs env r.bs) σ b) H') ds xs:=by
    obtain ⟨a',z1,_,_,z4⟩:=h'.ac i _ ei'
    rw [g1] at z1
    cases z1
    obtain ⟨ys,y1,y2⟩:=z4
    rw [hx'] at y1
    cases y1
    exact y2
   refine ⟨a,xs,v,rfl,rfl,hx',zok (by rw [← rx.length];exact hl.1),?_⟩
   refine q σ _ (h'.mut ei' g1 ⟨_,zax,rx'.append (zck (Rp.same (Offs.sub zhg) _ hv.rp) zec)⟩)
  ·cases e
 ·cases e
def sPut (i:Nat) (fk fv:EF):SF:=fun env=>match env[i]? with
 | some (.ac (.dict kvs))=>(fv env).bind fun r=>(fk env).bind fun k=>(keyD k.d).bind fun _=>if kvs.length<100000∧i∉r.bs then some (.nx ((frzs env r.bs).set i (.ac (.dict (zso kvs k.d r.d))))) else none
 | _=>none
theorem zamz {i:Nat} {tk tv:TE} {fk fv:EF} (h1:SE tk fk) (h2:SE tv fv):SS (sDPut (tVar i) tk tv) (sPut i fk fv):=by
 intro fx H0 env σ H D h o e q
 unfold sPut at e
 split at e
 ·rename_i kvs ei
  obtain ⟨r,er,e⟩:=qA.mp e
  obtain ⟨k,ek,e⟩:=qA.mp e
  obtain ⟨kk,ekk,e⟩:=qA.mp e
  split at e
  ·rename_i hl
   cases e
   obtain ⟨a,g1,g2,g3,g4⟩:=h.ac i _ ei
   obtain ⟨ps,hx,rx⟩:=g4
   refine h2 fx H0 env σ H h r er _ fun v H' s hv=>⟨_,g1,h1 fx H0 env σ H' (h.up s) k ek _ fun u H2 s2 hk=>?_⟩
   have t2:=s.trans s2
   have h':=(h.up t2).frzs r.bs
   have ei':=znf hl.2 ei
   have hx':=t2 _ _ hx
   have rx':Rpd (Offs (fun b=>fx b∨own (frzs env r.bs) σ b) H2) kvs ps:=by
    obtain ⟨a',z1,_,_,z4⟩:=h'.ac i _ ei'
    rw [g1] at z1
    cases z1
    obtain ⟨ys,y1,y2⟩:=z4
    rw [hx'] at y1
    cases y1
    exact y2
   rw [zadu hk.rp ekk]
   refine ⟨a,_,rfl,DPut.k hx' (zok (by rw [← rx.length];exact hl.1)),?_⟩
   refine q σ _ (h'.mut ei' g1 ⟨_,zax,rx'.put ekk (Rp.same (Offs.sub zhg) _ (hv.later (Same.refl _) s2 fun _ z=>z).rp)⟩)
  ·cases e
 ·cases e
def sUpd (i:Nat) (f:EF):SF:=fun env=>match env[i]? with
 | some (.ac (.dict kvs))=>(f env).bind fun r=>match r.d with
  | .dict more=>if kvs.length+more.length≤100000∧i∉r.bs then some (.nx ((frzs env r.bs).set i (.ac (.dict (zje kvs more))))) else none
  | _=>none
 | _=>none
theorem zana {K:qB} {i:Nat} {te:TE} {f:EF} (h1:SE te f):SS (tDrop (tBM K "dict" zafq (tVar i) (tCons te tNil))) (sUpd i f):=by
 intro fx H0 env σ H D h o e q
 unfold sUpd at e
 split at e
 ·rename_i kvs ei
  obtain ⟨⟨rd,rfr,rbs⟩,er,e⟩:=qA.mp e
  cases rd with
  | dict more =>
   have e:(if kvs.length+more.length≤100000∧i∉rbs then some (Out.nx ((frzs env rbs).set i (.ac (.dict (zje kvs more))))) else none)=some o:=e
   split at e
   ·rename_i hl
    cases e
    obtain ⟨a,g1,g2,g3,g4⟩:=h.ac i _ ei
    obtain ⟨ps,hx,rx⟩:=g4
    refine ⟨_,g1,.inr (.inr (.inl ⟨rfl,.inl ⟨_,hx⟩⟩)),h1 fx H0 env σ H h _ er _ fun v H' s hv=>?_⟩
    have h':=(h.up s).frzs rbs
    have ei':=znf hl.2 ei
    have hx':=s _ _ hx
    have rx':Rpd (Offs (fun b=>fx b∨own (frzs env rbs) σ b) H') kvs ps:=by
     obtain ⟨a',z1,_,_,z4⟩:=h'.ac i _ ei'
     rw [g1] at z1
     cases z1
     obtain ⟨ys,y1,y2⟩:=z4
     rw [hx'] at y1
     cases y1
     exact y2
    obtain ⟨b,qs,rfl,hb,rb⟩:=zoh (Rp.same (Offs.sub zhg) _ hv.rp)
    have hab:a≠b:=fun z=>by
     subst z
     exact (Offs.of hb).1 (.inr ⟨i,_,ei',g1⟩)
    refine ⟨a,b,ps,qs,rfl,rfl,hab,hx',zdx hb,zhn (by rw [← rx.length,← rb.length];exact hl.1),?_⟩
    exact q σ _ (h'.mut ei' g1 ⟨_,zax,rx'.merge rb⟩)
   ·cases e
  | _=>cases e
 ·cases e
theorem EnvOk.rebase {fx:Addr→Prop} {H0:Hp} {env:DEnv} {σ:St} {H:Hp} (h:EnvOk fx H0 env σ H):EnvOk fx (Offs (own env σ) H) env σ H:=by
 refine ⟨h.len,h.pl,fun i d e=>?_,h.inj,Offs.same _ _,h.fxs⟩
 obtain ⟨a,h1,h2,h3,h4⟩:=h.ac i d e
 exact ⟨a,h1,Offs.out ⟨i,d,e,h1⟩,h3,h4⟩
theorem EnvOk.floor {fx:Addr→Prop} {H0:Hp} {env:DEnv} {σ:St} {H:Hp} (h:EnvOk fx H0 env σ H):Same H0 (Offs (own env σ) H):=fun b o e=>by
 rw [Offs.get]
 ·exact h.base b o e
 ·rintro ⟨i,d,h1,h2⟩
  obtain ⟨a,g1,g2,_⟩:=h.ac i d h1
  rw [h2] at g1
  cases g1
  rw [g2] at e
  cases e
theorem EnvOk.unbase {fx:Addr→Prop} {H0 F:Hp} {env:DEnv} {σ:St} {H:Hp} (h:EnvOk fx F env σ H) (s:Same H0 F):EnvOk fx H0 env σ H:=by
 refine ⟨h.len,h.pl,fun i d e=>?_,h.inj,s.trans h.base,h.fxs⟩
 obtain ⟨a,h1,h2,h3,h4⟩:=h.ac i d e
 exact ⟨a,h1,s.free h2,h3,h4⟩
theorem zaab.unbase {fx:Addr→Prop} {H0 F:Hp} {d:PyData} {fr:Bool} {v:V} {H:Hp} (h:zaab fx F d fr v H) (s:Same H0 F):zaab fx H0 d fr v H :=
 ⟨h.1,fun e=>let ⟨a,h1,h2,h3⟩:=h.2 e;⟨a,h1,s.free h2,h3⟩⟩
theorem EnvOk.seen {fx:Addr→Prop} {env env':DEnv} {σ σ':St} {H H':Hp} (h:EnvOk fx (Offs (own env σ) H) env' σ' H'):Same (Offs (fun b=>fx b∨own env σ b) H) (Offs (fun b=>fx b∨own env' σ' b) H'):=fun b o e=>by
 obtain ⟨h1,h2⟩:=Offs.of e
 have hF:Offs (own env σ) H b=some o:=by rw [Offs.get fun z=>h1 (.inr z)];exact h2
 rw [Offs.get]
 ·exact h.base b o hF
 ·rintro (z|⟨i,d,g1,g2⟩)
  ·exact h1 (.inl z)
  ·obtain ⟨a,k1,k2,_⟩:=h.ac i d g1
   rw [g2] at k1
   cases k1
   rw [k2] at hF
   cases hF
theorem EnvOk.all {fx:Addr→Prop} {H0:Hp} {env:DEnv} {σ:St} {H:Hp} (h:EnvOk fx H0 env σ H):∀ b,fx b∨own env σ b→∃ o,H b=some o:=fun b z=>h.lims [] b (zaop b z)
def Yl (A0:Addr→Prop) (H1:Hp) (J:It) (ds:List PyData):Prop:=∀ (A:Addr→Prop) (H':Hp),(∀ b,A b→∃ o,H' b=some o)→Same (Offs A0 H1) (Offs A H') →
 (∀ i d,ds[i]?=some d→J.go i H'∧∀ x H'',J.yld i H' x H''→Same H' H''∧Rp (Offs A H'') d x)∧J.stop ds.length H'
abbrev IF':=DEnv→Option (List PyData×List Nat)
def SI (wi:TI) (f:IF'):Prop:=∀ (fx:Addr→Prop) (H0:Hp) (env:DEnv) (σ:St) (H:Hp),EnvOk fx H0 env σ H→∀ ds bs,f env=some (ds,bs)→∀ R:It→Hp→Prop,
 (∀ J H1,Same H H1→Yl (fun b=>fx b∨own (frzs env bs) σ b) H1 J ds→R J H1)→wi σ H R
def iSeq (K:qB) (te:TE):TI:=fun σ H R=>te σ H fun x H1=>∃ a,x=.ref a∧((∃ xs,SqL K H1 a xs)∧R (Itl K a) H1∨(∃ xs,SqT K H1 a xs)∧R (Itt K a) H1)
theorem zasj {X:Cx} {tg l:Expr} {tl:TE} (hl:PE X l tl):PI X tg l (iSeq X.K tl):=by
 intro pins s σ H R I h
 refine thn (hl pins s σ H _ I h) fun v s1 ⟨x,H1,I1,r1,q1⟩=>?_
 obtain ⟨a,e,q⟩:=q1
 subst e
 cases r1
 rcases q with ⟨⟨xs,hq⟩,q⟩|⟨⟨xs,hq⟩,q⟩
 ·obtain ⟨its,rv,p,hz⟩:=I1.list hq
  refine qAt p.isList ?_
  refine ⟨s1.heap.objs.size,[s1.heap.objs.size],_,_,H1,rfl,I1.kept (t':=s1.toks) fun b o e=>qE _ e,zwc a _,⟨_,qb _ rfl,rfl,rfl⟩,fun b hb=>?_,q⟩
  have e:b=s1.heap.objs.size:=by simpa using hb
  subst e
  exact I1.fpOk (qJ _) (I1.hok.fresh (qJ _))
 ·obtain ⟨its,rv,p,hz⟩:=I1.tuple hq
  refine qAx (show s1.heap.IsTuple a its.toArray from p) ?_
  refine ⟨s1.heap.objs.size,[s1.heap.objs.size],_,_,H1,rfl,I1.kept (t':=s1.toks) fun b o e=>qE _ e,zadj a _,⟨_,qb _ rfl,rfl,rfl⟩,fun b hb=>?_,q⟩
  have e:b=s1.heap.objs.size:=by simpa using hb
  subst e
  exact I1.fpOk (qJ _) (I1.hok.fresh (qJ _))
theorem zaow {X:Cx} {K:qB} (hK:X.K=K) {tg l:Expr} {tl:TE} (hl:PE X l tl):PI X tg l (iSeq K tl):=by subst hK;exact zasj hl
def zas (f:EF):IF':=fun env=>(f env).bind fun r=>(zif r.d).map fun ds=>(ds,r.bs)
theorem zaox {K:qB} {A0:Addr→Prop} {H1:Hp} {a:Addr} {ds:List PyData} {xs:List V} (h:Offs A0 H1 a=some (.lst xs)) (r:Rps (Offs A0 H1) ds xs):Yl A0 H1 (Itl K a) ds:=by
 intro A H' hA s
 have ha:=zdx (s _ _ h)
 have r':=Rps.same s _ r
 refine ⟨fun i d e=>?_,⟨xs,SqL.of ha,by rw [r.length];exact qJ _⟩⟩
 obtain ⟨v,hv,rv⟩:=r'.get2 e
 refine ⟨⟨xs,v,SqL.of ha,hv⟩,fun x H'' y=>?_⟩
 obtain ⟨rfl,y⟩:=y
 have:=y xs (SqL.of ha)
 rw [hv] at this
 cases this
 exact ⟨Same.refl _,rv⟩
theorem zask {K:qB} {A0:Addr→Prop} {H1:Hp} {a:Addr} {ds:List PyData} {xs:List V} (h:Offs A0 H1 a=some (.tup xs)) (r:Rps (Offs A0 H1) ds xs):Yl A0 H1 (Itt K a) ds:=by
 intro A H' hA s
 have ha:=zdx (s _ _ h)
 have r':=Rps.same s _ r
 refine ⟨fun i d e=>?_,⟨xs,SqT.of ha,by rw [r.length];exact qJ _⟩⟩
 obtain ⟨v,hv,rv⟩:=r'.get2 e
 refine ⟨⟨xs,v,SqT.of ha,hv⟩,fun x H'' y=>?_⟩
 obtain ⟨rfl,y⟩:=y
 have:=y xs (SqT.of ha)
 rw [hv] at this
 cases this
 exact ⟨Same.refl _,rv⟩
theorem zcq {K:qB} {te:TE} {f:EF} (h1:SE te f):SI (iSeq K te) (zas f):=by
 intro fx H0 env σ H h ds bs e R q
 unfold zas at e
 obtain ⟨⟨d,fr,bs'⟩,er,e⟩:=qA.mp e
 obtain ⟨es,he,e⟩:=qG.mp e
 cases e
 refine h1 fx H0 env σ H h _ er _ fun v H1 s hv=>?_
 have rp:=Rp.same (Offs.sub (zhg (bs:=bs'))) _ hv.rp
 cases d with
 | list ds =>
  cases he
  obtain ⟨a,xs,rfl,ha,r⟩:=zgl rp
  exact ⟨a,rfl,.inl ⟨⟨xs,SqL.of (zdx ha)⟩,q _ H1 s (zaox ha r)⟩⟩
 | tuple ds =>
  cases he
  obtain ⟨a,xs,rfl,ha,r⟩:=zea rp
  exact ⟨a,rfl,.inr ⟨⟨xs,SqT.of (zdx ha)⟩,q _ H1 s (zask ha r)⟩⟩
 | _=>cases he
def zsq (ds:List PyData):List PyData:=ds.zipIdx.map fun p=>.tuple [.int p.2,p.1]
def ztj (f:AF):IF':=fun env=>(f env).bind fun rs=>match rs with
 | [r]=>match r.d with
  | .list ds=>some (zsq ds,r.bs)
  | _=>none
 | _=>none
def zqs (lo:Int) (n:Nat):List PyData:=(List.range n).map fun (k:Nat)=>.int (lo+(k:Int))
theorem zako {A0:Addr→Prop} {H1:Hp} {lo:Int} {n:Nat}:Yl A0 H1 (Itr lo n) (zqs lo n):=by
 intro A H' hA s
 have hl:(zqs lo n).length=n:=by unfold zqs;simp
 refine ⟨fun i d e=>?_,by rw [hl];exact qJ _⟩
 unfold zqs at e
 rw [qT] at e
 by_cases hi:i<n
 ·rw [List.getElem?_range hi] at e
  cases e
  exact ⟨hi,fun x H'' ⟨e1,e2⟩=>by subst e1;subst e2;exact ⟨Same.refl _,zaf⟩⟩
 ·rw [qC4 (by simpa using hi)] at e
  cases e
def zho (f:AF):IF':=fun env=>(f env).bind fun rs=>match rs with
 | [⟨.int j,_,_⟩]=>if -(2 ^ 62)≤j∧j<2 ^ 62 then some (zqs 0 j.toNat,[]) else none
 | _=>none
theorem zqt {ta:TA} {f:AF} (h1:SA ta f):SI (iRng1 ta) (zho f):=by
 intro fx H0 env σ H h ds bs e R q
 unfold zho at e
 obtain ⟨rs,er,e⟩:=qA.mp e
 split at e
 ·split at e
  ·rename_i hj
   cases e
   refine h1 fx H0 env σ H h _ er _ fun vs H1 s hv=>?_
   cases hv with
   | cons hv t =>
    cases t
    cases zfw hv.rp
    exact ⟨_,rfl,hj.1,hj.2,q _ H1 s zako⟩
  ·cases e
 ·cases e
def forL (g:GT) (body:SF):List PyData→DEnv→Option Out
 | [],env=>some (.nx env)
 | d::ds,env=>(g d env).bind fun e1=>(body e1).bind fun o=>match o with
  | .nx e2=>forL g body ds e2
  | .ct e2=>forL g body ds e2
  | .bk e2=>some (.nx e2)
  | .rt d fr=>some (.rt d fr)
def sFor (f:IF') (g:GT) (body:SF):SF:=fun env=>(f env).bind fun z=>forL g body z.1 (frzs env z.2)
theorem zgm {wi:TI} {g:TG} {tb:TS} {f:IF'} {gf:GT} {body:SF} (h1:SI wi f) (h2:SG g gf) (h3:SS tb body):SS (tFor wi g tb) (sFor f gf body):=by
 intro fx H0 env σ H D h o e q
 unfold sFor at e
 obtain ⟨⟨ds,bs⟩,er,e⟩:=qA.mp e
 refine h1 fx H0 env σ H h ds bs er _ fun J H1 s yl=>?_
 have hE:=(h.up s).frzs bs
 have fl:=hE.floor
 refine ⟨fun i m σ' H'=>m=ds.length - i∧i≤ds.length∧∃ env',forL gf body (ds.drop i) env'=some o∧EnvOk fx (Offs (own (frzs env bs) σ) H1) env' σ' H',⟨ds.length,rfl,qAg _,_,e,hE.rebase⟩,?_⟩
 rintro i m σ' H' ⟨rfl,hi,env',e',h'⟩
 obtain ⟨yi,ys⟩:=yl _ H' h'.all h'.seen
 by_cases hlt:i<ds.length
 ·obtain ⟨yg,yy⟩:=yi i ds[i] (qH hlt)
  refine .inr ⟨yg,fun σ'' H''=>i+1≤ds.length∧∃ env'',forL gf body (ds.drop (i+1)) env''=some o∧EnvOk fx (Offs (own (frzs env bs) σ) H1) env'' σ'' H'',?_,?_⟩
  ·rintro σ'' H'' ⟨hle,env'',e'',h''⟩
   exact ⟨ds.length - (i+1),by omega,rfl,hle,env'',e'',h''⟩
  ·intro x H'' hy
   obtain ⟨sy,ry⟩:=yy x H'' hy
   rw [qAR hlt] at e'
   obtain ⟨e1,ee1,e'⟩:=qA.mp e'
   obtain ⟨o1,eo1,e'⟩:=qA.mp e'
   refine h2 fx _ env' σ' H'' _ x (h'.up sy) ry e1 ee1 _ fun σ2 h2'=>h3 fx _ e1 σ2 H'' _ h2' o1 eo1 ?_
   cases o1 with
   | nx e2=>exact fun σ3 H3 hh=>⟨hlt,e2,e',hh⟩
   | ct e2=>exact fun σ3 H3 hh=>⟨hlt,e2,e',hh⟩
   | bk e2=>cases e';exact fun σ3 H3 hh=>q σ3 H3 (hh.unbase fl)
   | rt d fr=>cases e';exact fun v H3 sh rt=>q v H3 (fl.trans sh) (rt.unbase fl)
 ·have hi':i=ds.length:=by omega
  subst hi'
  rw [qBC] at e'
  cases e'
  exact .inl ⟨ys,q σ' H' (h'.unbase fl)⟩
def zkq (n:Nat) (ds:List PyData):DEnv:=ds.map .pl++List.replicate (n - ds.length) .no
def fnD (n:Nat) (f:SF):GF:=fun ds=>match f (zkq n ds) with
 | some (.rt d fr)=>some (d,fr)
 | some (.nx _)=>some (.none,false)
 | _=>none
theorem zxb {ds:List PyData} {n i:Nat} {sl:Sl} (e:(zkq n ds)[i]?=some sl):(∃ d,ds[i]?=some d∧sl=.pl d)∨sl=.no:=by
 unfold zkq at e
 by_cases hi:i<ds.length
 ·rw [qAQ (by simpa using hi),qT,qH hi] at e
  cases e
  exact .inl ⟨_,qH hi,rfl⟩
 ·rw [qAW (by simpa using hi),qBV] at e
  split at e
  ·cases e;exact .inr rfl
  ·cases e
theorem zkr {fx:Addr→Prop} {H:Hp} {N:List Str} {ds:List PyData} {vs:List V} (hf:∀ b,fx b→∃ o,H b=some o) (r:Rps (Offs fx H) ds vs):EnvOk fx H (zkq N.length ds) (zmm N vs) H:=by
 have no:∀ (i:Nat) (d:PyData),(zkq N.length ds)[i]?≠some (Sl.ac d):=fun i d e=>by
  rcases zxb e with ⟨d',_,z⟩|z<;>cases z
 refine ⟨?_,fun i d e=>?_,fun i d e=>absurd e (no i d),fun i j d e a h1=>absurd h1 (no i d),Same.refl _,hf⟩
 ·unfold zkq zmm
  rw [qW,qW,qF,qF,qA3,qA3,r.length]
 ·rcases zxb e with ⟨d',hd,z⟩|z
  ·cases z
   obtain ⟨v,hv,rv⟩:=r.get2 hd
   refine ⟨v,?_,Rp.same (Offs.sub fun b z=>?_) _ rv⟩
   ·unfold zmm
    have hi:i<vs.length:=(qP.mp hv).1
    rw [qAQ (by simpa using hi),qT,hv];rfl
   ·rcases z with z|⟨j,d',z,_⟩
    ·exact z
    ·exact absurd z (no j d')
  ·cases z
theorem fn_d {N:List Str} {n:Nat} {f:SF} {t:TS} (hs:SS t f) {vs:List V} {H:Hp} {Q:VK} {E:XK} (h:spD n (fnD N.length f) vs H Q E):t {nx:=fun _ H'=>Q .non H',rt:=Q} (zmm N vs) H:=by
 obtain ⟨fx,ds,d,fr,hn,hf,r,g,k⟩:=h
 unfold fnD at g
 split at g
 ·rename_i d' fr' eo
  cases g
  exact hs fx H _ _ H _ (zkr hf r) _ eo fun v H' s rt=>k v H' s rt
 ·rename_i e' eo
  cases g
  exact hs fx H _ _ H _ (zkr hf r) _ eo fun σ H' hE=>k .non H' hE.base ⟨zls,fun z=>by cases z⟩
 ·cases g
theorem zdg {n:Nat} {g:GF} {vs:List V} {H:Hp} {Q:VK} {E:XK} (h:spD n g vs H Q E):vs.length=n:=by
 obtain ⟨fx,ds,d,fr,hn,hf,r,_⟩:=h
 rw [← r.length];exact hn
def zaoy:Sl→Sl
 | .ac d=>.pl d
 | s=>s
def envB (own:List Str) (fr:List Nat) (env:DEnv):DEnv:=own.map (fun _=>Sl.no)++fr.map (fun j=>zaoy (env.getD j .no))
def isAc:Option Sl→Bool
 | some (.ac _)=>true
 | _=>false
def capA (fr:List Nat) (env:DEnv):List Nat:=fr.filter fun j=>isAc env[j]?
theorem zuu {own:List Str} {fr:List Nat} {env:DEnv} {i:Nat} {d:PyData} (e:(envB own fr env)[i]?=some (.pl d)):∃ j k,i=own.length+k∧fr[k]?=some j∧(env[j]?=some (.pl d)∨env[j]?=some (.ac d)):=by
 unfold envB at e
 by_cases hi:i<own.length
 ·rw [qAQ (by simpa using hi),qT,qH hi] at e
  cases e
 ·rw [qAW (by simpa using hi),qF,qT] at e
  cases ej:fr[i - own.length]? with
  | none=>rw [ej] at e;cases e
  | some j =>
   rw [ej] at e
   refine ⟨j,i - own.length,by omega,ej,?_⟩
   have e:zaoy (env.getD j .no)=.pl d:=qh e
   rw [qAE] at e
   cases ev:env[j]? with
   | none=>rw [ev] at e;cases e
   | some s =>
    rw [ev] at e
    cases s with
    | no=>cases e
    | pl d'=>cases e;exact .inl rfl
    | ac d'=>cases e;exact .inr rfl
theorem zjo {own:List Str} {fr:List Nat} {env:DEnv} {i:Nat} {d:PyData}:(envB own fr env)[i]?≠some (.ac d):=by
 intro e
 unfold envB at e
 by_cases hi:i<own.length
 ·rw [qAQ (by simpa using hi),qT,qH hi] at e
  cases e
 ·rw [qAW (by simpa using hi),qF,qT] at e
  cases ej:fr[i - own.length]? with
  | none=>rw [ej] at e;cases e
  | some j =>
   rw [ej] at e
   have e:zaoy (env.getD j .no)=.ac d:=qh e
   cases ev:env.getD j .no with
   | no=>rw [ev] at e;cases e
   | pl d'=>rw [ev] at e;cases e
   | ac d'=>rw [ev] at e;cases e
theorem zagf {own:List Str} {fr:List Nat} {σ:St} {k j:Nat} {v:V} (hk:fr[k]?=some j) (hv:σ[j]?=some (some v)):(tau own fr σ)[own.length+k]?=some (some v):=by
 unfold tau
 rw [qAW (by simp),qF,Nat.add_sub_cancel_left,qT,hk]
 show some (σ.getD j none)=_
 rw [qAE,hv];rfl
theorem zxc {fx:Addr→Prop} {H0:Hp} {env:DEnv} {σ:St} {H H1:Hp} {p:Addr} (h:EnvOk fx H0 env σ H) (s:Same H H1) (hp:H1 p=none) (own:List Str) (fr:List Nat) (bs:List Nat) :
  EnvOk (fun b=>lim fx env σ (bs++capA fr env) b∨b=p) H1 (envB own fr env) (tau own fr σ) (upd H1 p (.lst [])):=by
 have h1:=h.up s
 have sp:Same H1 (upd H1 p (.lst [])):=Same.new hp
 have so:Same (Offs (fun b=>fx b∨L2.own env σ b) H1) (Offs (fun b=>(lim fx env σ (bs++capA fr env) b∨b=p)∨L2.own (envB own fr env) (tau own fr σ) b) (upd H1 p (.lst []))):=Offs.mono sp fun b o e n z=>by
  rcases z with (z|z)|⟨i,d,z,_⟩
  ·exact n (zqn b z)
  ·rw [z,hp] at e;cases e
  ·exact absurd z zjo
 refine ⟨?_,fun i d e=>?_,fun i d e=>absurd e zjo,fun i j d e a z=>absurd z zjo,sp,fun b z=>?_⟩
 ·unfold envB tau;simp
 ·obtain ⟨j,k,rfl,hk,hj⟩:=zuu e
  rcases hj with hj|hj
  ·obtain ⟨v,h2,h3⟩:=h1.pl j d hj
   exact ⟨v,zagf hk h2,Rp.same so _ h3⟩
  ·obtain ⟨a,h2,h3,h4,h5⟩:=h1.ac j d hj
   refine ⟨_,zagf hk h2,h5.rp so fun o eo=>?_⟩
   rw [Offs.get]
   ·exact sp _ _ eo
   ·rintro ((z|⟨i',d',z1,z2,z3⟩)|⟨i',d',z,_⟩)
    ·rcases z with z|⟨i',d',z1,z2,z3⟩
     ·exact h4 z
     ·have e2:=h1.inj i' j d' d a z2 hj z3 h2
      subst e2
      refine z1 (qd _ (qAJ.mpr ⟨qBf hk,?_⟩))
      rw [hj];rfl
    ·rw [hp] at eo;cases eo
    ·exact absurd z zjo
 ·rcases z with z|z
  ·obtain ⟨o,e⟩:=h1.lims _ b z;exact ⟨o,sp b o e⟩
  ·rw [z];exact ⟨_,zax⟩
theorem EnvOk.weaken {fx:Addr→Prop} {H0:Hp} {env e1:DEnv} {σ:St} {H:Hp} (h:EnvOk fx H0 e1 σ H) (hl:env.length=e1.length) (hp:∀ (i:Nat) (d:PyData),env[i]?=some (.pl d)→e1[i]?=some (.pl d)) (ha:∀ (i:Nat) (d:PyData),env[i]?≠some (.ac d)):EnvOk fx H0 env σ H:=by
 refine ⟨hl.trans h.len,fun i d e=>?_,fun i d e=>absurd e (ha i d),fun i j d e a z=>absurd z (ha i d),h.base,h.fxs⟩
 obtain ⟨v,h1,h2⟩:=h.pl i d (hp i d e)
 exact ⟨v,h1,Rp.same (Offs.sub fun b z=>z.imp (fun y=>y) fun ⟨j,d',z,_⟩=>absurd z (ha j d')) _ h2⟩
theorem EnvOk.updFx {fx:Addr→Prop} {H0:Hp} {env:DEnv} {σ:St} {H:Hp} {p:Addr} {o:HO} (h:EnvOk fx H0 env σ H) (hp:fx p) (h0:H0 p=none):EnvOk fx H0 env σ (upd H p o):=by
 have so:Offs (fun b=>fx b∨own env σ b) (upd H p o)=Offs (fun b=>fx b∨own env σ b) H:=Offs.upd (.inl hp)
 refine ⟨h.len,fun i d e=>?_,fun i d e=>?_,h.inj,fun b u e=>by rw [zbd (zbt e h0)];exact h.base b u e,fun b z=>?_⟩
 ·rw [so];exact h.pl i d e
 ·obtain ⟨a,h1,h2,h3,h4⟩:=h.ac i d e
  rw [so]
  exact ⟨a,h1,h2,h3,h4.same (Same.refl _) fun u z=>by rw [zbd fun y=>h3 (by rw [y];exact hp)];exact z⟩
 ·by_cases e:b=p
  ·rw [e];exact ⟨_,zax⟩
  ·obtain ⟨u,hu⟩:=h.fxs b z
   exact ⟨u,by rw [zbd e];exact hu⟩
def GX (n:Nat) (g:GT):Prop:=∀ d env e1,g d env=some e1→e1.length=env.length∧∀ i,n≤i→e1[i]?=env[i]?
def GXs (n:Nat) (g:GTs):Prop:=∀ ds env e1,g ds env=some e1→e1.length=env.length∧∀ i,n≤i→e1[i]?=env[i]?
theorem zjf {n i:Nat} (h:i<n):GX n (gN i):=by
 intro d env e1 e
 cases e
 exact ⟨qw,fun j hj=>qZ (by omega)⟩
theorem zjp {n:Nat}:GXs n zdc:=by
 intro ds env e1 e
 cases ds with
 | nil=>cases e;exact ⟨rfl,fun _ _=>rfl⟩
 | cons _ _=>cases e
theorem zdl {n i:Nat} {g:GTs} (h:i<n) (hg:GXs n g):GXs n (zar i g):=by
 intro ds env e1 e
 cases ds with
 | nil=>cases e
 | cons d ds =>
  obtain ⟨h1,h2⟩:=hg ds _ e1 e
  rw [qw] at h1
  exact ⟨h1,fun j hj=>(h2 j hj).trans (qZ (by omega))⟩
theorem zng {n m:Nat} {g:GTs} (hg:GXs n g):GX n (gT m g):=by
 intro d env e1 e
 unfold gT at e
 cases d with
 | tuple ds =>
  have e:(if ds.length=m then g ds env else none)=some e1:=e
  split at e
  ·exact hg ds env e1 e
  ·cases e
 | _=>cases e
def zej (g:GT) (t:TF) (e:EF) (env:DEnv):List PyData→Option (List PyData)
 | []=>some []
 | d::ds=>(g d env).bind fun e1=>(t e1).bind fun b=>if b=true then (e e1).bind fun r=>(zej g t e env ds).map fun rs=>r.d::rs else zej g t e env ds
def zdt (own:List Str) (fr:List Nat) (fi:IF') (g:GT) (t:TF) (e:EF):EF:=fun env=>(fi env).bind fun z=>if z.1.length<100000 then
 (zej g t e (envB own fr env) z.1).map fun rs=>⟨.list rs,true,if zgc rs=true then [] else z.2++capA fr env⟩ else none
theorem znh {H H':Hp} {ds:List PyData} {vs:List V} (f:zgc ds=true) (h:Rps H ds vs):Rps H' ds vs:=by
 replace h:=zer.mp h
 induction h with
 | nil=>exact zec
 | cons h _ ih =>
  unfold zgc at f
  rw [qAy,qAB] at f
  exact zck (zqo f.1 h) (ih f.2)
theorem zeo {own:List Str} {fr:List Nat} {wi:TI} {g:TG} {tt:TT} {te:TE} {fi:IF'} {gf:GT} {t:TF} {e:EF} (h1:SI wi fi) (h2:SG g gf) (hx:GX own.length gf) (h3:ST tt t) (h4:SE te e) :
  SE (tComp1 wi g tt te own fr) (zdt own fr fi gf t e):=by
 intro fx H0 env σ H h rr hr Q q
 unfold zdt at hr
 obtain ⟨⟨ds,bs⟩,ei,hr⟩:=qA.mp hr
 split at hr
 ·rename_i hlen
  have hlen:ds.length<100000:=hlen
  obtain ⟨rs,ers,rfl⟩:=qG.mp hr
  refine h1 fx H0 env σ H h ds bs ei _ fun J H1 s yl=>fun p hp=>?_
  have hB:=zxc h s hp own fr bs
  generalize hA:(fun b=>lim fx env σ (bs++capA fr env) b)=A
  have hA':∀ b,lim fx env σ (bs++capA fr env) b↔A b:=fun b=>by rw [← hA]
  have eA:(fun b=>lim fx env σ (bs++capA fr env) b∨b=p)=fun b=>A b∨b=p:=by rw [← hA]
  rw [eA] at hB
  have nA:¬ A p:=fun z=>by
   obtain ⟨o,eo⟩:=(h.up s).lims _ p ((hA' p).mpr z)
   rw [hp] at eo;cases eo
  have seen:∀ {σ':St} {H':Hp},EnvOk (fun b=>A b∨b=p) H1 (envB own fr env) σ' H'→Same (Offs (fun b=>fx b∨L2.own (frzs env bs) σ b) H1) (Offs (fun b=>A b∨b=p) H'):=fun {σ' H'} hE=>Offs.mono hE.base fun b o eo n z=>by
   rcases z with z|z
   ·rcases (hA' b).mpr z with z|⟨i,d,z1,z2,z3⟩
    ·exact n (.inl z)
    ·exact n (.inr ⟨i,d,znf (fun y=>z1 (qAA _ y)) z2,z3⟩)
   ·rw [z,hp] at eo;cases eo
  refine ⟨fun i m σ' H'=>m=ds.length - i∧i≤ds.length∧∃ vs done rest,H' p=some (.lst vs)∧Rps (Offs (fun b=>A b∨b=p) H') done vs∧done.length≤i∧zej gf t e (envB own fr env) (ds.drop i)=some rest∧done++rest=rs∧EnvOk (fun b=>A b∨b=p) H1 (envB own fr env) σ' H',
   ⟨ds.length,rfl,qAg _,[],[],rs,zax,zec,qAg _,ers,rfl,hB⟩,?_⟩
  rintro i m σ' H' ⟨rfl,hi,vs,done,rest,ep,rd,dl,ec,edr,hE⟩
  obtain ⟨yi,ys⟩:=yl _ H' hE.fxs (seen hE)
  by_cases hlt:i<ds.length
  ·obtain ⟨yg,yy⟩:=yi i ds[i] (qH hlt)
   refine .inr ⟨yg,fun σ'' H''=>i+1≤ds.length∧∃ vs done rest,H'' p=some (.lst vs)∧Rps (Offs (fun b=>A b∨b=p) H'') done vs∧done.length≤i+1∧zej gf t e (envB own fr env) (ds.drop (i+1))=some rest∧done++rest=rs∧EnvOk (fun b=>A b∨b=p) H1 (envB own fr env) σ'' H'',?_,?_⟩
   ·rintro σ'' H'' ⟨hle,hh⟩
    exact ⟨ds.length - (i+1),by omega,rfl,hle,hh⟩
   ·intro x H'' hy
    obtain ⟨sy,ry⟩:=yy x H'' hy
    rw [qAR hlt] at ec
    obtain ⟨e1,ee1,ec⟩:=qA.mp ec
    obtain ⟨b,eb,ec⟩:=qA.mp ec
    have ry':Rp (Offs (fun a=>(A a∨a=p)∨L2.own (envB own fr env) σ' a) H'') ds[i] x:=Rp.same (Offs.sub fun b z=>z.elim (fun y=>y) fun ⟨j,d',z,_⟩=>absurd z zjo) _ ry
    refine h2 _ H1 (envB own fr env) σ' H'' _ x (hE.up sy) ry' e1 ee1 _ fun σ2 hE2=>?_
    refine h3 _ H1 e1 σ2 H'' hE2 b eb _ fun H3 s3=>?_
    have hE3:=hE2.up s3
    obtain ⟨gl,gk⟩:=hx _ _ _ ee1
    have back:∀ {H4:Hp},EnvOk (fun b=>A b∨b=p) H1 e1 σ2 H4→EnvOk (fun b=>A b∨b=p) H1 (envB own fr env) σ2 H4:=fun {H4} hh=>hh.weaken gl.symm (fun j d' ej=>by
     by_cases hj:own.length≤j
     ·rw [gk j hj];exact ej
     ·obtain ⟨_,k,rfl,_⟩:=zuu ej;omega) fun j d'=>zjo
    cases b with
    | false =>
     have ec:zej gf t e (envB own fr env) (ds.drop (i+1))=some rest:=ec
     exact iteF ⟨hlt,vs,done,rest,s3 _ _ (sy _ _ ep),Rps.same (Offs.grow (sy.trans s3)) _ rd,Nat.le_succ_of_le dl,ec,edr,back hE3⟩
    | true =>
     have ec:((e e1).bind fun r=>(zej gf t e (envB own fr env) (ds.drop (i+1))).map fun rs=>r.d::rs)=some rest:=ec
     obtain ⟨r,er,ec⟩:=qA.mp ec
     obtain ⟨rest',er',rfl⟩:=qG.mp ec
     refine iteT (h4 _ H1 e1 σ2 H3 hE3 r er _ fun v H4 s4 hv=>?_)
     have t4:=(sy.trans s3).trans s4
     refine ⟨vs,t4 _ _ ep,zok (by rw [← rd.length];omega),hlt,vs++[v],done++[r.d],rest',zax,?_,by rw [qW];simp;omega,er',by rw [← edr];simp,(back (hE3.up s4)).updFx (.inr rfl) hp⟩
     rw [Offs.upd (.inr rfl)]
     exact (Rps.same (Offs.grow t4) _ rd).append (zck (Rp.same (Offs.sub fun b z=>.inl z) _ hv.rp) zec)
  ·have hi':i=ds.length:=by omega
   subst hi'
   rw [qBC] at ec
   cases ec
   rw [qx] at edr
   subst edr
   refine .inl ⟨ys,q _ H' (s.trans hE.base) ⟨?_,fun _=>⟨p,rfl,s.free hp,?_⟩⟩⟩
   ·show Rp (Offs (lim fx env σ (if zgc done=true then [] else bs++capA fr env)) H') (.list done) (.ref p)
    have nl:∀ cs,¬ lim fx env σ cs p:=fun cs z=>by
     obtain ⟨o,eo⟩:=(h.up s).lims _ p z
     rw [hp] at eo;cases eo
    refine zgs (by rw [Offs.get (nl _)];exact ep) ?_
    split
    ·rename_i f;exact znh f rd
    ·exact Rps.same (Offs.sub fun b z=>.inl ((hA' b).mp z)) _ rd
   ·show ziv (Offs (fun b=>lim fx env σ (if zgc done=true then [] else bs++capA fr env) b∨b=p) H') H' p (.list done)
    refine ⟨vs,ep,?_⟩
    split
    ·rename_i f;exact znh f rd
    ·exact Rps.same (Offs.sub fun b z=>z.imp (hA' b).mp id) _ rd
 ·cases hr
section
variable {X:Cx} {K:qB}
theorem zagg (hK:X.K=K) {a:Expr} {ta:TE} (ha:PE X a ta) (he:∀ whole,isTrue a X.env whole=(do let v ← whole;standAt a.pos;holding [v] (truthy v))) :
  PT X a (fun σ H Q=>ta σ H fun x H'=>∃ k,TruV K x H' k∧Q k H'):=by subst hK;exact zajn ha he
theorem zfg (hK:X.K=K):CallR X (.type "tuple") (fun xs H Q=>∃ p ys,xs=[.ref p]∧((SqL K H p ys∧∀ l,H l=none→Q (.ref l) (upd H l (.tup ys)))∨(SqT K H p ys∧Q (.ref p) H))):=by subst hK;exact zuk
theorem zni (hK:X.K=K) (hu:X.A.units+64<cLine):OpR X (compareOp .Eq) (fun x y H Q=>rEq x y H Q∨rEqD K false x y H Q):=by subst hK;exact zauc.or (zasd hu)
theorem zmf (hK:X.K=K) (hu:X.A.units+64<cLine):OpR X (compareOp .NotEq) (fun x y H Q=>rNe x y H Q∨rEqD K true x y H Q):=by subst hK;exact zaud.or (zase hu)
def zcv:TF:=fun _=>some true
theorem zhp:ST tAll zcv:=by
 intro fx H0 env σ H hE b hb Q q
 cases hb
 exact q H (Same.refl _)
def eNeg (a:EF):EF:=fun env=>(a env).bind fun x=>match x.d with|.int i=>some ⟨.int (-i),false,[]⟩|_=>none
theorem zanb {te:TE} {f:EF} (h1:SE te f):SE (tUn (rU fun i=>.int (-i)) te) (eNeg f):=by
 intro fx H0 env σ H h rr hr Q q
 unfold eNeg at hr
 obtain ⟨⟨d,fr,bs⟩,ex,hr⟩:=qA.mp hr
 cases d with
 | int i =>
  cases hr
  exact h1 fx H0 env σ H h _ ex _ fun v H1 s1 v1=>⟨i,zfw v1.rp,q _ H1 s1 ⟨zaf,fun z=>by cases z⟩⟩
 | _=>cases hr
end
end L2
namespace PySem
open Sem (wp)
theorem zagh:typeLookup (.type "list") "keys" = pure none:=by rw [typeLookup_type,builtinLookup_eq_fast];kernel_rfl
theorem zsr {prog:Program} {w:World} {A:Around} {E:Value→Shared→Prop} {s:Shared} {a:Addr} {o:Obj} {xs:Array Value} {k:Nat} {u:Tok} {Q:Value→Shared→Prop}
  (hx:s.heap.get? a=some o) (hc:o.cls=.type "list") (hdat:o.data=.seq xs k) (hd:o.dict=none) (hA:A.handled=none)
  (h:∀ h' tk e,Heap.NewExcOf s.heap h' e "AttributeError" → E (.ref e) {s with heap:=h',toks:=tk}) :
  wpAny (model prog w) A (getAttrBy (.ref a) (.str "keys" u) false) Q E s:=by
 obtain ⟨c,dct,dat,sl⟩:=o
 simp only at hc hdat hd
 subst hc hdat hd
 obtain ⟨hp,g,d,tk,os⟩:=s
 have hT:∀ tk',(⟨hp,g,d,tk',os⟩:Shared).TypeIs (.ref a) "list":=fun _=>⟨_,hx,rfl⟩
 have f1:=sub_AttributeError
 have f3:=qB4.lookup
 have f4:=qB4.bind (.ref a)
 have f5:=am_list_getattr_none
 unfold getAttrBy
 repeat (any_goals (first|assumption|exact hT _|((with_reducible show wpAny _ _ (call (Value.builtin "list.__getattribute__") _ _) _ _ _);refine qDF qB4 (hT _) am_entry_list_getattribute (F.args_list_getattribute_2 _ _) (meets_getattribute_miss_list a xs k sl "keys" _ zagh (by decide) (by size_fits)) ⟨hx,hA,fun h' tk' e hx'=>?_⟩)|wp_step))
 obtain ⟨t',u',he⟩:=hx'.there
 show wpAny _ _ (getattributeRaised _ _ _ _ _ _ _) _ _ _
 unfold getattributeRaised
 repeat (any_goals (first|assumption|wp_step))
 exact h _ _ _ hx'.of
theorem zuv {prog:Program} {w:World} {A:Around} {E:Value→Shared→Prop} {s:Shared} {a:Addr} {o:Obj} {xs:Array Value} {k:Nat} {Q:Option Value→Shared→Prop}
  (hx:s.heap.get? a=some o) (hc:o.cls=.type "list") (hdat:o.data=.seq xs k) (hd:o.dict=none) (hA:A.handled=none)
  (h:∀ h' tk,(∀ b o,s.heap.get? b=some o→h'.get? b=some o)→Q none {s with heap:=h',toks:=tk}) :
  wpAny (model prog w) A (getAttr? (.ref a) "keys") Q E s:=by
 unfold getAttr? getAttrBy?
 refine qC (wpAny_mkText (qC (qCV (zsr (s:={s with toks:=s.toks+1}) hx hc hdat hd hA fun h' tk e x=>?_))))
 obtain ⟨ob,vs,he,hcl,_,_⟩:=x.there
 show wpAny _ _ (do if ← isInstance (.ref e) (.type "AttributeError") then pure none else throw (.ref e)) _ _ _
 refine qC (qCj (T:="AttributeError") ⟨ob,he,hcl⟩ sub_AttributeError ?_)
 exact qI (h h' tk x.keeps)
theorem zgn:plainId "dict.update.loop" = true:=by decide +kernel
theorem zks:entryFor table "dict.update.loop" = some Builtin.«dict.update.loop»:=entryFor_of_fast (by kernel_rfl)
end PySem
namespace L2
open PySem PySem.Spec PyProof.Rows
theorem zpc {α β:Type} {F:α→β→Prop}:∀ {l:List α} {r:List β} {i:Nat} {x:α},Paired F l r→l[i]?=some x→∃ y,r[i]?=some y∧F x y
 | _,_,_,_,.nil,e=>by simp at e
 | _,_,0,_,.cons h _,e=>by simp at e;subst e;exact ⟨_,rfl,h⟩
 | _,_,i+1,x,.cons _ t,e=>by
  obtain ⟨y,h1,h2⟩:=zpc (i:=i) (x:=x) t (by simpa using e)
  exact ⟨y,by simpa using h1,h2⟩
theorem zadv (kvs:List (Key×Value)) (k:Key) (v:Value):(stored kvs k v).length≤kvs.length+1:=by
 unfold stored
 split
 ·rw [qF];omega
 ·rw [qW];simp
def _root_.PySem.Heap.IsList0 (h:Heap) (l:Addr) (items:Array Value):Prop:=∃ o,h.get? l=some o∧o.cls=.type "list" ∧ ∃ n,o.data=.seq items n∧o.dict=none
def zakp (ps:List (Key×Value)) (kvs:List (Key×Value)):List (Key×Value):=ps.foldl (fun acc p=>stored acc p.1 p.2) kvs
theorem zagi {prog:Program} {w:World} {A:Around} {R:Result→Shared→Prop} {d it l:Addr} {h0:Heap} {items:List Value} {ps:List (Key×Value)} (hA:A.in1.handled=none)
  (pr:Paired (fun (v:Value) (p:Key×Value)=>∃ t kv,v=.ref t∧IsTup h0 t #[kv,p.2]∧zsl p.1 kv=true) items ps) (hl:h0.IsList l items.toArray) (hd:h0.get? d=none) (hi:h0.get? it=none) (hdi:d≠it) (hz:items.length≤qU) :
  ∀ (k i:Nat) (s:Shared) (kvs:List (Key×Value)) (tk:Tok),items.length - i=k→i≤items.length→s.heap.IsListIter it l i→s.heap.DictOf (zcx prog w) d kvs→(∀ b o,h0.get? b=some o→s.heap.get? b=some o)→kvs.length≤i →
  (∀ h' tk',h'.DictOf (zcx prog w) d (zakp (ps.drop i) kvs)→(∀ b o,h0.get? b=some o→h'.get? b=some o)→R (.ok (.ret .none)) {s with heap:=h',toks:=tk'}) →
  codeAny (model prog w) A (.builtin "dict.update.loop" ⟨[.ref d,.ref it,.int i tk,.none],[]⟩) R s:=by
 have hlen:=pr.length
 have keepL:∀ {h:Heap},(∀ b o,h0.get? b=some o→h.get? b=some o)→h.IsList l items.toArray:=fun {h} kp=>Heap.IsList.at hl fun o e=>kp _ o e
 intro k
 induction k with
 | zero =>
  intro i s kvs tk hk hile hit hdo kp hkl hR
  have hin:i=items.length:=by omega
  subst hin
  refine qCt zks ?_
  rw [qC0 zgn _]
  show wpAny _ A.in1 (pyNext (.ref it) >>= _) _ _ s
  refine qC (wpAny_pyNext_list_end hA hit (keepL kp) (by simp) fun h' eb=>?_)
  show wpAny _ _ (Builtin.Dict.addKeywords d [] >>= _) _ _ _
  refine qC (qI (qI ?_))
  refine hR h' s.toks ?_ fun b o e=>eb b o (fun z=>by rw [z,hi] at e;cases e) (kp b o e)
  rw [qCx (by omega)]
  exact hdo.extBut eb hdi
 | succ k ih =>
  intro i s kvs tk hk hile hit hdo kp hkl hR
  have hlt:i<items.length:=by omega
  obtain ⟨p,hp,t,kv,ev,ht,hkey⟩:∃ p,ps[i]?=some p∧∃ t kv,items[i]=.ref t∧IsTup h0 t #[kv,p.2]∧zsl p.1 kv=true:=by
   have:=pr
   obtain ⟨p,h1,h2⟩:=zpc pr (qH hlt)
   exact ⟨p,h1,h2⟩
  refine qCt zks ?_
  rw [qC0 zgn _]
  show wpAny _ A.in1 (pyNext (.ref it) >>= _) _ _ s
  refine qC (wpAny_pyNext_list_item hit (keepL kp) (x:=.ref t) (by rw [← ev];simp [hlt]) fun h1 hit1 sb1=>?_)
  have kp1:∀ b o,h0.get? b=some o→h1.get? b=some o:=fun b o e=>(sb1.2 b (fun z=>by rw [z,hi] at e;cases e)).trans (kp b o e)
  have hd1:h1.DictOf (zcx prog w) d kvs:=hdo.sameBut sb1 hdi
  obtain ⟨ot,g1,g2,n3,g3⟩:=ht
  refine qC (qBo (qC (wpAny_tryCatch ?_)))
  unfold Builtin.Dict.pairItems
  refine qC (qB3 (T:="tuple") ⟨ot,kp1 _ _ g1,g2⟩ ?_)
  rw [if_pos (by decide)]
  refine qC (qA9 (kp1 _ _ g1) g3 (qI ?_))
  show wpAny _ _ (holding [kv,p.2] (dictSet d kv p.2)) _ _ _
  refine qBo (wpAny_dictSet_pairs (knd:=zcx prog w) (k:=p.1) hkey hd1 (fun h2 hd2 sb2=>?_) (by omega))
  have hit2:h2.IsListIter it l (i+1):=by obtain ⟨o,q1,q2,q3⟩:=hit1;exact ⟨o,(sb2.2 _ (qAp hdi)).trans q1,q2,q3⟩
  refine qI ⟨plainId_quiet zgn _,?_⟩
  have kp2:∀ b o,h0.get? b=some o→h2.get? b=some o:=fun b o e=>(sb2.2 b (fun z=>by rw [z,hd] at e;cases e)).trans (kp1 b o e)
  refine ih (i+1) {s with heap:=h2,toks:=s.toks+1} (stored kvs p.1 p.2) _ (by omega) hlt hit2 hd2 kp2 ?_ fun h' tk' hd' kp'=>?_
  ·have:=zadv kvs p.1 p.2;omega
  ·refine hR h' tk' ?_ kp'
   have e:ps.drop i=p::ps.drop (i+1):=by
    obtain ⟨hh,e⟩:=qP.mp hp
    rw [← e];exact qAR hh
   rw [e]
   exact hd'
theorem zss {prog:Program} {w:World} {A:Around} {E:Value→Shared→Prop} {s:Shared} {l:Addr} {items:List Value} {ps:List (Key×Value)} {Q:Value→Shared→Prop} (hA:A.handled=none)
  (pr:Paired (fun (v:Value) (p:Key×Value)=>∃ t kv,v=.ref t∧IsTup s.heap t #[kv,p.2]∧zsl p.1 kv=true) items ps) (hl:Heap.IsList0 s.heap l items.toArray) (hz:items.length≤qU)
  (h:∀ h' tk,h'.DictOf (zcx prog w) s.heap.objs.size (zakp ps [])→(∀ b o,s.heap.get? b=some o→h'.get? b=some o)→Q (.ref s.heap.objs.size) {s with heap:=h',toks:=tk}) :
  wpAny (model prog w) A (call (.type "dict") [.ref l]) Q E s:=by
 refine callType_codes (Q₁:=fun obj s₁=>obj=.ref s.heap.objs.size∧s₁={s with heap:=s.heap.push {cls:=.type "dict",data:=.dict #[]}}) F.kt_called_dict (F.kt_typeCall_dict_1 _) F.entry_dict_init (kt_code_dict_new _ ⟨rfl,rfl⟩) ?_
 rintro obj s₁ ⟨rfl,rfl⟩
 have hnew:(s.heap.push {cls:=.type "dict",data:=.dict #[]}).DictOf (zcx prog w) s.heap.objs.size []:=qCy s.heap
 obtain ⟨ol,g1,g2,n3,g3,g4⟩:=id hl
 have hl':(s.heap.push {cls:=.type "dict",data:=.dict #[]}).get? l=some ol:=qE _ g1
 refine ⟨hnew.typeIs,F.args_dict_init_2 _ _,?_⟩
 unfold Builtin.«dict.__init__»
 refine qC ?_
 unfold Builtin.Dict.selfAndRest
 refine qC (wpAny_notOrdered_dict hnew.typeIs ?_)
 show wpAny _ _ (pure (s.heap.objs.size,[Value.ref l])) _ _ _
 refine qI ?_
 show wpAny _ _ (Builtin.Dict.updateFrom "dict.__init__" s.heap.objs.size (.ref l) [] .none) _ _ _
 unfold Builtin.Dict.updateFrom
 refine qC (qB3 (T:="list") ⟨ol,hl',g2⟩ ?_)
 rw [if_pos (by decide)]
 refine qC (zuv (s:={s with heap:=s.heap.push {cls:=.type "dict",data:=.dict #[]}}) hl' g2 g3 g4 hA fun h1 tk1 kp1=>?_)
 rw [if_pos (by rfl)]
 refine qC (qCM ?_)
 have k1:∀ b o,s.heap.get? b=some o→h1.get? b=some o:=fun b o e=>kp1 b o (qE _ e)
 have hd1:h1.DictOf (zcx prog w) s.heap.objs.size []:=by
  obtain ⟨o,es,ep,q1,q2⟩:=hnew
  exact ⟨o,es,ep,kp1 _ _ q1,q2⟩
 refine qC (qAt (items:=items.toArray) ⟨ol,k1 _ _ g1,g2,n3,g3⟩ ?_)
 refine qI ⟨plainId_quiet zgn _,?_⟩
 have hsz:s.heap.objs.size<h1.objs.size:=by obtain ⟨o,es,ep,q1,q2⟩:=hd1;exact qK q1
 refine zagi (h0:=s.heap) (by exact hA) pr ⟨ol,g1,g2,n3,g3⟩ (qBK (qJ _)) (qBK (qCA hsz)) (qq hsz) hz items.length 0 _ [] _ rfl (qAg _) ⟨_,qb _ rfl,rfl,rfl⟩ (hd1.push _) (fun b o e=>qE _ (k1 b o e)) (qAg _) fun h' tk' hd' kp'=>?_
 exact ⟨rfl,h h' tk' hd' kp'⟩
def zasl:List V→Hp→VK→Prop:=fun xs H Q=>∃ p rows kvs,xs=[.ref p]∧H p=some (.lst rows)∧Paired (fun (v:V) (kv:Key×V)=>∃ t,v=.ref t∧H t=some (.tup [kV kv.1,kv.2])) rows kvs∧∀ d,H d=none→Q (.ref d) (upd H d (.dK (ziz [] kvs)))
theorem zagj:∀ {more:List (Key×V)} {ms:List (Key×Value)} {kvs:List (Key×V)} {vs:List (Key×Value)},KV kvs vs→KV more ms→KV (ziz kvs more) (zakp ms vs)
 | _,_,_,_,h,.nil=>h
 | p::r,q::s,kvs,vs,h,.cons e t=>by
  obtain ⟨e1,e2⟩:=e
  show KV (ziz (putK kvs p.1 p.2) r) (zakp s (stored vs q.1 q.2))
  rw [← e1]
  exact zagj (h.put p.1 e2) t
theorem zagk {X:Cx} {pins:List (Addr×Obj)} {σ:St} {H:Hp} {s:Shared} (I:Inv X pins σ H s):∀ {rows:List V} {kvs:List (Key×V)} {its:List Value},Paired (fun (v:V) (kv:Key×V)=>∃ t,v=.ref t∧H t=some (.tup [kV kv.1,kv.2])) rows kvs→Vals rows its →
  ∃ ms:List (Key×Value),KV kvs ms∧Paired (fun (v:Value) (p:Key×Value)=>∃ t kv,v=.ref t∧IsTup s.heap t #[kv,p.2]∧zsl p.1 kv=true) its ms
 | _,_,_,.nil,.nil=>⟨[],.nil,.nil⟩
 | v::rows,kv::kvs,u::its,.cons h t,.cons r rr=>by
  obtain ⟨ms,h1,h2⟩:=zagk I t rr
  obtain ⟨a,rfl,ha⟩:=h
  cases (show u=Value.ref a from r)
  obtain ⟨_,its',rv,ht⟩:=(show zfc X.prog X.w H s.heap a (.tup [kV kv.1,kv.2]) from I.hok a _ ha)
  obtain ⟨k',v',rfl,rk,rv'⟩:=zwh rv
  exact ⟨(kv.1,v')::ms,.cons ⟨rfl,rv'⟩ h1,.cons ⟨a,k',rfl,ht,zadr (P:=X.prog) (w:=X.w) rk⟩ h2⟩
theorem zadw {X:Cx} (hc:X.calm=true):CallR X (.type "dict") zasl:=by
 intro pins s σ H xs us Q I r h
 obtain ⟨p,rows,kvs,rfl,hp,pr,q⟩:=h
 obtain ⟨u,rfl,ru⟩:=zwg r
 cases ru
 obtain ⟨hz,its,n,rv,hg⟩:=(show zfc X.prog X.w H s.heap p (.lst rows) from I.hok p _ hp)
 obtain ⟨ms,h1,h2⟩:=zagk I pr rv
 refine zss (I.ok.hd hc) h2 ⟨_,hg,rfl,n,rfl,rfl⟩ (by rw [← rv.length];exact hz) fun h' tk hd kp=>?_
 refine ⟨.ref s.heap.objs.size,_,I.laid (t':=tk) kp (qJ _) ?_,rfl,q _ (I.hok.fresh (qJ _))⟩
 refine zabq ?_ ?_ (zagj .nil h1) hd
 ·refine qAG (zhr kvs []) ?_
  rw [qBT,qB9,← pr.length];exact hz
 ·have:=I.big
  exact beq_eq_false_iff_ne.mpr (qBQ this)
def ztk:List PyData→Option (List (PyData×PyData))
 | []=>some []
 | .tuple [k,v]::r=>(keyD k).bind fun _=>(ztk r).map fun ps=>(k,v)::ps
 | _=>none
def zxd:GF
 | [.list rows]=>(ztk rows).map fun ps=>(.dict (zje [] ps),true)
 | _=>none
theorem zxe {A:Addr→Prop} {H:Hp}:∀ {rows:List PyData} {vs:List V} {ps:List (PyData×PyData)},Rps (Offs A H) rows vs→ztk rows=some ps →
  ∃ kvs:List (Key×V),Rpd (Offs A H) ps kvs∧Paired (fun (v:V) (kv:Key×V)=>∃ t,v=.ref t∧H t=some (.tup [kV kv.1,kv.2])) vs kvs
 | [],vs,ps,h,e=>by unfold Rps at h;cases e;subst h;exact ⟨[],zkn,.nil⟩
 | d::rows,vs,ps,h,e=>by
  unfold Rps at h
  obtain ⟨v,ws,rfl,h1,h2⟩:=h
  unfold ztk at e
  split at e
  ·rename_i heq;cases heq
  ·rename_i k d' r heq
   cases heq
   obtain ⟨kk,ek,e⟩:=qA.mp e
   obtain ⟨ps',ep,rfl⟩:=qG.mp e
   obtain ⟨kvs,g1,g2⟩:=zxe h2 ep
   obtain ⟨a,xs,rfl,ha,r⟩:=zea h1
   obtain ⟨x,y,rfl,r1,r2⟩:=rps2 r
   rw [zadu r1 ek] at ha
   exact ⟨(kk,y)::kvs,zjn ek r2 g1,.cons ⟨a,rfl,zdx ha⟩ g2⟩
  ·cases e
theorem zaoz:SC zasl zxd:=by
 intro A H vs ds hA rv d fr e Q q
 unfold zxd at e
 split at e
 ·obtain ⟨ps,he,e⟩:=qG.mp e
  cases e
  obtain ⟨v,rfl,r1⟩:=rps1 rv
  obtain ⟨p,xs,rfl,h1,r⟩:=zgl r1
  obtain ⟨kvs,g1,g2⟩:=zxe r he
  refine ⟨p,xs,kvs,rfl,zdx h1,g2,fun d hd=>?_⟩
  have m:∀ {B:Addr→Prop},(∀ b,B b→A b∨b=d)→Rpd (Offs B (upd H d (.dK (ziz [] kvs)))) (zje [] ps) (ziz [] kvs):=fun {B} hB=>Rpd.merge zkn (Rpd.same (Offs.mono (Same.new hd) fun b o eo n z=>(hB b z).elim n fun y=>by rw [y,hd] at eo;cases eo) _ g1)
  exact q _ _ (Same.new hd) (zlt (by rw [Offs.get (zfe hA hd)];exact zax) (m fun b z=>.inl z)) fun _=>⟨d,rfl,hd,⟨_,zax,m fun b z=>z⟩⟩
 ·cases e
noncomputable def zmu (i j:Nat) (f:EF):SF:=fun env=>match env[i]?,env[j]? with
 | some (.ac (.list ds)),some (.ac (.list es))=>(f env).bind fun r=>match r.d with
  | .int k=>if 0≤k∧k<100000∧ds.length<100000∧i≠j then (es[k.toNat]?).bind fun d=>some (.nx ((env.set j (.ac (.list (es.eraseIdx k.toNat)))).set i (.ac (.list (ds++[d]))))) else none
  | _=>none
 | _,_=>none
theorem Rps.erase {H:Hp} {ds:List PyData} {vs:List V} (h:Rps H ds vs) (n:Nat):Rps H (ds.eraseIdx n) (vs.eraseIdx n):=by
 induction n generalizing ds vs with
 | zero =>
  cases ds with
  | nil=>unfold Rps at h;subst h;exact zec
  | cons d ds=>unfold Rps at h;obtain ⟨v,ws,rfl,h1,h2⟩:=h;exact h2
 | succ n ih =>
  cases ds with
  | nil=>unfold Rps at h;subst h;exact zec
  | cons d ds=>unfold Rps at h;obtain ⟨v,ws,rfl,h1,h2⟩:=h;exact zck h1 (ih h2)
theorem zagl {K:qB} {i j:Nat} {te:TE} {f:EF} (h1:SE te f):SS (tDrop (tBM K "list" zqj (tVar i) (tCons (tBM K "list" zams (tVar j) (tCons te tNil)) tNil))) (zmu i j f):=by
 intro fx H0 env σ H D h o e q
 unfold zmu at e
 split at e
 ·rename_i ds es ei ej
  obtain ⟨⟨rd,rfr,rbs⟩,er,e⟩:=qA.mp e
  cases rd with
  | int k =>
   have e:(if 0≤k∧k<100000∧ds.length<100000∧i≠j then (es[k.toNat]?).bind fun d=>some (Out.nx ((env.set j (.ac (.list (es.eraseIdx k.toNat)))).set i (.ac (.list (ds++[d]))))) else none)=some o:=e
   split at e
   ·rename_i hl
    obtain ⟨d,ed,e⟩:=qA.mp e
    cases e
    obtain ⟨a,g1,g2,g3,g4⟩:=h.ac i _ ei
    obtain ⟨xs,hx,rx⟩:=g4
    obtain ⟨b,k1,k2,k3,k4⟩:=h.ac j _ ej
    obtain ⟨ys,hy,ry⟩:=k4
    have hab:a≠b:=fun z=>hl.2.2.2 (h.inj i j _ _ a ei ej g1 (by rw [z];exact k1))
    refine ⟨_,g1,.inl ⟨rfl,_,SqL.of hx⟩,_,k1,.inl ⟨rfl,_,SqL.of hy⟩,h1 fx H0 env σ H h _ er _ fun v H' s hv=>?_⟩
    cases zfw hv.rp
    have h':=h.up s
    have hy':=s _ _ hy
    have hx':=s _ _ hx
    have ry':Rps (Offs (fun b=>fx b∨own env σ b) H') es ys:=Rps.same (Offs.grow s) _ ry
    have rx':Rps (Offs (fun b=>fx b∨own env σ b) H') ds xs:=Rps.same (Offs.grow s) _ rx
    obtain ⟨u,hu,ru⟩:=ry'.get2 ed
    have hlt:k.toNat<ys.length:=(qP.mp hu).1
    have hsq:seqIndex? k ys.length=some k.toNat:=seqIndex_of hl.1 (by omega)
    refine ⟨b,ys,k,k.toNat,u,rfl,rfl,hy',by omega,by omega,hsq,hu,?_⟩
    have h2:=h'.mut ej k1 (d':=.list (es.eraseIdx k.toNat)) (o:=.lst (ys.eraseIdx k.toNat)) ⟨_,zax,ry'.erase _⟩
    have ei2:(env.set j (.ac (.list (es.eraseIdx k.toNat))))[i]?=some (.ac (.list ds)):=by rw [qZ (qAp hl.2.2.2)];exact ei
    have hx2:(upd H' b (.lst (ys.eraseIdx k.toNat))) a=some (.lst xs):=by rw [zbd hab];exact hx'
    obtain ⟨a',z1,_,_,z4⟩:=h2.ac i _ ei2
    rw [g1] at z1
    cases z1
    obtain ⟨zs,y1,y2⟩:=z4
    rw [hx2] at y1
    cases y1
    have ow:Same (Offs (fun b=>fx b∨own env σ b) H') (Offs (fun c=>fx c∨own (env.set j (.ac (.list (es.eraseIdx k.toNat)))) σ c) (upd H' b (.lst (ys.eraseIdx k.toNat)))):=by
     have t:Same (Offs (fun b=>fx b∨own env σ b) (upd H' b (.lst (ys.eraseIdx k.toNat)))) (Offs (fun c=>fx c∨own (env.set j (.ac (.list (es.eraseIdx k.toNat)))) σ c) (upd H' b (.lst (ys.eraseIdx k.toNat)))):=Offs.sub fun c z=>z.imp (fun y=>y) fun ⟨m,d1,w1,w2⟩=>by
      rcases zcj w1 with ⟨rfl,_⟩|⟨_,w1⟩
      ·exact ⟨m,_,ej,w2⟩
      ·exact ⟨m,d1,w1,w2⟩
     rw [Offs.upd (.inr ⟨j,_,ej,k1⟩)] at t
     exact t
    refine ⟨a,xs,u,rfl,rfl,hx2,zok (by rw [← rx.length];exact hl.2.2.1),?_⟩
    exact q σ _ (h2.mut ei2 g1 ⟨_,zax,y2.append (zck (Rp.same ow _ ru) zec)⟩)
   ·cases e
  | _=>cases e
 ·cases e
noncomputable def zdz (i:Nat) (b:EF):EF:=fun env=>match env[i]? with
 | some (.pl (.dict kvs))=>(b env).bind fun y=>(keyD y.d).bind fun k=>(zmr kvs k).bind fun d=>some ⟨d,false,[]⟩
 | some (.ac (.dict kvs))=>(b env).bind fun y=>(keyD y.d).bind fun k=>(zmr kvs k).bind fun d=>some ⟨d,false,[]⟩
 | _=>none
theorem zlu {i:Nat} {ty:TE} {fb:EF} (hb:SE ty fb):SE (tDGet (tVar i) ty) (zdz i fb):=by
 intro fx H0 env σ H h rr hr Q q
 unfold zdz at hr
 have key:∀ (a:Addr) (ps:List (Key×V)) (kvs:List (PyData×PyData)),σ[i]?=some (some (.ref a))→H a=some (.dK ps)→Rpd (Offs (fun b=>fx b∨own env σ b) H) kvs ps→((fb env).bind fun y=>(keyD y.d).bind fun k=>(zmr kvs k).bind fun d=>some (⟨d,false,[]⟩:Val))=some rr→tDGet (tVar i) ty σ H Q:=by
  intro a ps kvs hs ha r hr
  obtain ⟨y,ey,hr⟩:=qA.mp hr
  obtain ⟨k,ek,hr⟩:=qA.mp hr
  obtain ⟨d,ed,hr⟩:=qA.mp hr
  cases hr
  refine ⟨_,hs,hb fx H0 env σ H h _ ey _ fun u H2 s2 v2=>?_⟩
  have g:=(Rpd.same (Offs.grow s2) _ r).get (j:=k)
  rw [ed] at g
  obtain ⟨w,e1,e2⟩:=g
  rw [zadu v2.rp ek]
  have dg:=DGet.k (k:=k) (s2 _ _ ha)
  rw [e1] at dg
  exact ⟨a,w,rfl,dg,q w H2 s2 ⟨Rp.same (Offs.sub zqn) _ e2,fun z=>by cases z⟩⟩
 split at hr
 ·rename_i kvs ei
  obtain ⟨v,h1,h2⟩:=h.pl i _ ei
  obtain ⟨a,ps,rfl,ha,r⟩:=zoh h2
  exact key a ps kvs h1 (zdx ha) r hr
 ·rename_i kvs ei
  obtain ⟨a,h1,h2,h3,ps,ha,r⟩:=h.ac i _ ei
  exact key a ps kvs h1 ha r hr
 ·cases hr
def eIxV (i:Nat) (b:EF):EF:=fun env=>match env[i]? with
 | some (.ac (.list ds))=>(b env).bind fun y=>match y.d with
  | .int k=>(atI ds k).map fun d=>⟨d,false,[]⟩
  | _=>none
 | _=>eOp ixD (eVar i) b env
theorem zcf {K:qB} {i:Nat} {tb:TE} {fb:EF} (hb:SE tb fb):SE (tOp (rIxU K) (tVar i) tb) (eIxV i fb):=by
 intro fx H0 env σ H h rr hr Q q
 unfold eIxV at hr
 split at hr
 ·rename_i ds ei
  obtain ⟨⟨dy,fy,bys⟩,ey,hr⟩:=qA.mp hr
  cases dy with
  | int k =>
   obtain ⟨d,ed,rfl⟩:=qG.mp hr
   obtain ⟨a,h1,h2,h3,xs,ha,r⟩:=h.ac i _ ei
   refine ⟨_,h1,hb fx H0 env σ H h _ ey _ fun u H2 s2 v2=>?_⟩
   cases zfw v2.rp
   obtain ⟨v,hv,rv⟩:=(Rps.same (Offs.grow s2) _ r).atI ed
   exact ⟨xs,v,.inl (SqL.of (s2 _ _ ha)),hv,q _ H2 s2 ⟨Rp.same (Offs.sub zqn) _ rv,fun z=>by cases z⟩⟩
  | _=>cases hr
 ·exact zaz zakk (zad i) hb fx H0 env σ H h rr hr Q q
def zagm (wi:TI) (g:TG) (tt:TT) (tm:TM):TM:=fun σ H Q=>wi σ H fun J H1=>zajz J g tt tm σ H1 Q
section
variable {X:Cx}
theorem zaac {M:Model} {P:Program} {w:World} {A:Around} {R:Result→Shared→Prop} {s:Shared} {elt:Expr} {g0:Comprehension} {target iter:Expr} {ifs:List Expr} {rest:List Comprehension} {scope:Scope} {cpos:Pos} {it acc:Value} {env:Env}
  (l:codeAny (model P w) A (.compLoop (.ListComp elt (g0::⟨target,iter,ifs,0⟩::rest) scope cpos) 1 it acc env) R s)
  (t:∀ (A:Around) (E:Value→Shared→Prop),wpAny (model P w) A (pyIter it) (fun u s'=>u=it∧s'=s) E s) :
  codeAny (model P w) A (.compStart (.ListComp elt (g0::⟨target,iter,ifs,0⟩::rest) scope cpos) 1 it acc env) R s:=by
 refine codeAny_of_tree ?_
 show wpAny _ _ ((compStart (.ListComp elt (g0::⟨target,iter,ifs,0⟩::rest) scope cpos) 1 it acc env).onRaise (fun x=>do noteFrame x env;standAt theWindowsPlace)) _ _ s
 refine wpAny_notedAt ?_
 unfold compStart
 show wpAny _ _ (ask >>= _) _ _ s
 refine qC (wpAny_askSetting (wpAny_ite ?_))
 split
 ·first
   | exact qC (qI (qI (And.intro rfl l)))
   | exact qI (And.intro rfl l)
 ·refine qC (qCM ?_)
  first
   | exact qC (qBZ (qC (thn (t _ _) fun u s' z=>by obtain ⟨e1,e2⟩:=z;subst e1;subst e2;exact qI (And.intro rfl l))))
   | (show wpAny _ _ (standAt iter.pos >>= _) _ _ s;exact qC (qBZ (qC (thn (t _ _) fun u s' z=>by obtain ⟨e1,e2⟩:=z;subst e1;subst e2;exact qI (And.intro rfl l)))))
theorem zakq {elt0:Expr} {g0:Comprehension} {scope:Scope} {cpos:Pos} {target iter:Expr} {ifs:List Expr} {wi:TI} {g:TG} {tt:TT} {te:TE} {p:Addr}
  (hx:X.xe=fun _ _=>False) (hc:X.calm=true) (hi:PI X target iter wi) (hg:PG X target g) (ht:PF X ifs tt) (he:PE X elt0 te)
  (hs:∀ x,foldedSetIterable iter X.env x=pure x) :
  PM X (do
   let x ← eval iter X.env
   standAt iter.pos
   let x ← foldedSetIterable iter X.env x
   let _ ← runOwn (.compStart (.ListComp elt0 [g0,⟨target,iter,ifs,0⟩] scope cpos) 1 (← holding [x] (pyIter x)) (.ref p) X.env) X.env) (zagm wi g tt (zadt p te)):=by
 intro pins s σ H Q I h
 refine qC (thn (hi pins s σ H _ I h) fun v s1 h1=>?_)
 refine qC (qBZ ?_)
 rw [hs]
 refine qC (qI (qC (qBo (thn h1 fun itv s2 h2=>?_))))
 obtain ⟨it,fp,tn,J,H2,e,I2,T,st2,f2,q⟩:=h2
 subst e
 refine qC (thn (wpAny_runOwn (h:=none) (Q:=fun _ s'=>∃ σ' H',Inv X pins σ' H' s'∧Q σ' H') ?_) fun _ _ z=>qI z)
 refine zaac (M:=model X.prog X.w) ?_ fun A E=>T.self A 0 s2 _ E st2 ⟨rfl,rfl⟩
 refine qBh (zql (X:=X) (pins:=pins) hx hc (elt0:=elt0) (gens:=[g0,⟨target,iter,ifs,0⟩]) (depth:=1) (ip:=iter.pos) (emit:=(do let _ ← call (.builtin "list.append") [.ref p,← eval elt0 X.env])) rfl T hg ht (zzw he) I2 st2 f2 q) fun r s5 hr=>?_
 obtain ⟨rfl,z⟩:=hr
 exact z
theorem zauo (elt target iter target2 iter2:Expr) (ifs ifs2:List Expr) (scope:Scope) (cpos:Pos) (it acc:Value) (env:Env) :
  compTurn (.ListComp elt [⟨target,iter,ifs,0⟩,⟨target2,iter2,ifs2,0⟩] scope cpos) 0 it acc env=(do
   standAt iter.pos
   match ← pyNext it with
   | none=>pure (.done .next)
   | some v =>
    letOwnedTupleGo target it v
    assign target env v
    let mut ok:=true
    for c in ifs do
     if ok then ok ← isTrue c env (eval c env)
    if ok then do
     let x ← eval iter2 env
     standAt iter2.pos
     let x ← foldedSetIterable iter2 env x
     let i ← holding [x] (pyIter x)
     let _ ← runOwn (.compStart (.ListComp elt [⟨target,iter,ifs,0⟩,⟨target2,iter2,ifs2,0⟩] scope cpos) 1 i acc env) env
     again (.compLoop (.ListComp elt [⟨target,iter,ifs,0⟩,⟨target2,iter2,ifs2,0⟩] scope cpos) 0 it acc env)
    else again (.compLoop (.ListComp elt [⟨target,iter,ifs,0⟩,⟨target2,iter2,ifs2,0⟩] scope cpos) 0 it acc env)):=rfl
def tComp2 (wi:TI) (g:TG) (tt:TT) (wi2:TI) (g2:TG) (tt2:TT) (te:TE) (own:List Str) (fr:List Nat):TE:=zaka wi g tt (fun p=>zagm wi2 g2 tt2 (zadt p te)) own fr
theorem zakr {scope:Scope} {N' own:List Str} {fr:List Nat} {elt target iter target2 iter2:Expr} {ifs ifs2:List Expr} {cpos:Pos} {wi wi2:TI} {g g2:TG} {tt tt2:TT} {te:TE} (c:CompOk X scope N' own fr) (hc:X.calm=true) (hi:PI X target iter wi)
  (hb:∀ (cl:List (Str×Addr)) (C:Addr) (s:Shared) (H:Hp) (fp:List Addr),PG (cxComp X scope N' own cl C s H fp) target g∧PF (cxComp X scope N' own cl C s H fp) ifs tt∧PI (cxComp X scope N' own cl C s H fp) target2 iter2 wi2∧PG (cxComp X scope N' own cl C s H fp) target2 g2∧PF (cxComp X scope N' own cl C s H fp) ifs2 tt2∧PE (cxComp X scope N' own cl C s H fp) elt te)
  (hs:∀ x,foldedSetIterable iter X.env x=pure x:=by intro _;rfl) (hs2:∀ env x,foldedSetIterable iter2 env x=pure x:=by intro _ _;rfl) :
  PE X (.ListComp elt [⟨target,iter,ifs,0⟩,⟨target2,iter2,ifs2,0⟩] scope cpos) (tComp2 wi g tt wi2 g2 tt2 te own fr) :=
 zabs (emit:=fun acc env=>do
   let x ← eval iter2 env
   standAt iter2.pos
   let x ← foldedSetIterable iter2 env x
   let _ ← runOwn (.compStart (.ListComp elt [⟨target,iter,ifs,0⟩,⟨target2,iter2,ifs2,0⟩] scope cpos) 1 (← holding [x] (pyIter x)) acc env) env) c hc (fun it acc env=>by
   rw [zauo]
   refine bind_congr fun _=>bind_congr fun r=>?_
   cases r with
   | none=>rfl
   | some v =>
    refine bind_congr fun _=>bind_congr fun _=>bind_congr fun ok=>?_
    cases ok with
    | false=>rfl
    | true=>simp only [if_true,bind_assoc,pure_bind]) hi
  (fun cl C s H fp p=>let ⟨h1,h2,h3,h4,h5,h6⟩:=hb cl C s H fp;⟨h1,h2,zakq (X:=cxComp X scope N' own cl C s H fp) rfl hc h3 h4 h5 h6 (fun x=>hs2 _ x)⟩) hs
end
def NoAc (env:DEnv):Prop:=∀ (i:Nat) (d:PyData),env[i]?≠some (.ac d)
def GZ (lo hi:Nat) (g:GT):Prop:=∀ d env e1,g d env=some e1→e1.length=env.length∧(∀ i,(i<lo∨hi≤i)→e1[i]?=env[i]?)∧(NoAc env→NoAc e1)
theorem zaks {env:DEnv} {i:Nat} {d:PyData} (h:NoAc env):NoAc (env.set i (.pl d)):=by
 intro j d' e
 by_cases q:i=j
 ·subst q
  by_cases l:i<env.length
  ·rw [qt l] at e;cases e
  ·rw [qC4 (by simp;omega)] at e;cases e
 ·rw [qZ q] at e;exact h j d' e
theorem zagn {lo hi i:Nat} (h:lo≤i) (h':i<hi):GZ lo hi (gN i):=by
 intro d env e1 e
 cases e
 exact ⟨qw,fun j hj=>qZ (by omega),zaks⟩
theorem zqu {g:GT} {t:TF} {e:EF} {env:DEnv}:∀ {ds rs:List PyData},zej g t e env ds=some rs→rs.length≤ds.length
 | [],rs,h=>by cases h;exact qJ _
 | d::ds,rs,h=>by
  unfold zej at h
  obtain ⟨e1,_,h⟩:=qA.mp h
  obtain ⟨b,_,h⟩:=qA.mp h
  split at h
  ·obtain ⟨r,_,h⟩:=qA.mp h
   obtain ⟨rs',h',rfl⟩:=qG.mp h
   have:=zqu h'
   simp;omega
  ·have:=zqu h
   simp;omega
def innL (f2:IF') (g2:GT) (t2:TF) (e:EF) (e1:DEnv):Option (List PyData):=(f2 e1).bind fun z=>if z.1.length<300 then zej g2 t2 e e1 z.1 else none
noncomputable def zkt (g:GT) (t:TF) (f2:IF') (g2:GT) (t2:TF) (e:EF) (env:DEnv):List PyData→Option (List PyData)
 | []=>some []
 | d::ds=>(g d env).bind fun e1=>(t e1).bind fun b=>if b=true then (innL f2 g2 t2 e e1).bind fun r1=>(zkt g t f2 g2 t2 e env ds).map fun rs=>r1++rs else zkt g t f2 g2 t2 e env ds
def zxf (own:List Str) (fr:List Nat) (fi:IF') (g:GT) (t:TF) (f2:IF') (g2:GT) (t2:TF) (e:EF):EF:=fun env=>(fi env).bind fun z=>if z.1.length<300 then
 (zkt g t f2 g2 t2 e (envB own fr env) z.1).map fun rs=>⟨.list rs,true,if zgc rs=true then [] else z.2++capA fr env⟩ else none
theorem zakt {wi2:TI} {g2:TG} {tt2:TT} {te:TE} {f2:IF'} {gf2:GT} {t2:TF} {e:EF} {B:Addr→Prop} {H1:Hp} {e1:DEnv} {σ:St} {H:Hp} {p:Addr} {vs:List V} {done rest ds:List PyData} {bs:List Nat} {Q:St→Hp→Prop} {k n:Nat}
  (h5:SI wi2 f2) (h6:SG g2 gf2) (hy:GZ k n gf2) (h7:ST tt2 t2) (h4:SE te e) (na:NoAc e1) (no:∀ (i:Nat) (d:PyData),k≤i→i<n→e1[i]?≠some (.pl d))
  (hB:B p) (hp:H1 p=none) (hE:EnvOk B H1 e1 σ H) (ep:H p=some (.lst vs)) (rd:Rps (Offs B H) done vs) (ei:f2 e1=some (ds,bs)) (dl:done.length+ds.length<100000) (ec:zej gf2 t2 e e1 ds=some rest)
  (q:∀ σ' H' vs',H' p=some (.lst vs')→Rps (Offs B H') (done++rest) vs'→EnvOk B H1 e1 σ' H'→Q σ' H'):zagm wi2 g2 tt2 (zadt p te) σ H Q:=by
 refine h5 B H1 e1 σ H hE ds bs ei _ fun J H4 s4 yl=>?_
 have hE4:=hE.up s4
 have n4:Offs (fun b=>b=p) H4 p=none:=Offs.out rfl
 refine ⟨fun i m σ' H'=>m=ds.length - i∧i≤ds.length∧∃ vs done' rest',H' p=some (.lst vs)∧Rps (Offs B H') done' vs∧done'.length≤done.length+i∧zej gf2 t2 e e1 (ds.drop i)=some rest'∧done'++rest'=done++rest∧EnvOk B (Offs (fun b=>b=p) H4) e1 σ' H',
  ⟨ds.length,rfl,qAg _,vs,done,rest,s4 _ _ ep,Rps.same (Offs.grow s4) _ rd,qJ _,ec,rfl,⟨hE4.len,hE4.pl,fun i d z=>absurd z (na i d),hE4.inj,Offs.same _ _,hE4.fxs⟩⟩,?_⟩
 rintro i m σ' H' ⟨rfl,hi,vs,done',rest',ep',rd',dl',ec',edr,hE'⟩
 obtain ⟨yi,ys⟩:=yl B H' hE'.fxs fun b o z=>by
  obtain ⟨z1,z2⟩:=Offs.of z
  have hb:¬ B b:=fun y=>z1 (.inl y)
  rw [Offs.get hb]
  exact hE'.base b o (by rw [Offs.get fun y=>hb (by rw [y];exact hB)];exact z2)
 by_cases hlt:i<ds.length
 ·obtain ⟨yg,yy⟩:=yi i ds[i] (qH hlt)
  refine .inr ⟨yg,fun σ'' H''=>i+1≤ds.length∧∃ vs done' rest',H'' p=some (.lst vs)∧Rps (Offs B H'') done' vs∧done'.length≤done.length+(i+1)∧zej gf2 t2 e e1 (ds.drop (i+1))=some rest'∧done'++rest'=done++rest∧EnvOk B (Offs (fun b=>b=p) H4) e1 σ'' H'',?_,?_⟩
  ·rintro σ'' H'' ⟨hle,hh⟩
   exact ⟨ds.length - (i+1),by omega,rfl,hle,hh⟩
  ·intro x H'' hyx
   obtain ⟨sy,ry⟩:=yy x H'' hyx
   rw [qAR hlt] at ec'
   obtain ⟨e2,ee2,ec'⟩:=qA.mp ec'
   obtain ⟨b,eb,ec'⟩:=qA.mp ec'
   have ry':Rp (Offs (fun a=>B a∨L2.own e1 σ' a) H'') ds[i] x:=Rp.same (Offs.sub fun b z=>z.elim (fun y=>y) fun ⟨j,d',z,_⟩=>absurd z (na _ _)) _ ry
   refine h6 _ _ e1 σ' H'' _ x (hE'.up sy) ry' e2 ee2 _ fun σ2 hE2=>?_
   refine h7 _ _ e2 σ2 H'' hE2 b eb _ fun H3 s3=>?_
   have hE3:=hE2.up s3
   obtain ⟨gl,gk,_⟩:=hy _ _ _ ee2
   have back:∀ {H4':Hp},EnvOk B (Offs (fun b=>b=p) H4) e2 σ2 H4'→EnvOk B (Offs (fun b=>b=p) H4) e1 σ2 H4':=fun {H4'} hh=>hh.weaken gl.symm (fun j d' ej=>by
    by_cases hj:j<k∨n≤j
    ·rw [gk j hj];exact ej
    ·exact absurd ej (no j d' (by omega) (by omega))) na
   cases b with
   | false =>
    have ec':zej gf2 t2 e e1 (ds.drop (i+1))=some rest':=ec'
    exact iteF ⟨hlt,vs,done',rest',s3 _ _ (sy _ _ ep'),Rps.same (Offs.grow (sy.trans s3)) _ rd',Nat.le_succ_of_le dl',ec',edr,back hE3⟩
   | true =>
    have ec':((e e2).bind fun r=>(zej gf2 t2 e e1 (ds.drop (i+1))).map fun rs=>r.d::rs)=some rest':=ec'
    obtain ⟨r,er,ec'⟩:=qA.mp ec'
    obtain ⟨rest2,er',rfl⟩:=qG.mp ec'
    refine iteT (h4 _ _ e2 σ2 H3 hE3 r er _ fun v H5 s5 hv=>?_)
    have t5:=(sy.trans s3).trans s5
    refine ⟨vs,t5 _ _ ep',zok (by rw [← rd'.length];omega),hlt,vs++[v],done'++[r.d],rest2,zax,?_,by rw [qW];simp;omega,er',by rw [← edr];simp,(back (hE3.up s5)).updFx hB n4⟩
    rw [Offs.upd hB]
    refine (Rps.same (Offs.grow t5) _ rd').append (zck (Rp.same (Offs.sub fun b z=>.inl z) _ hv.rp) zec)
 ·have hi':i=ds.length:=by omega
  subst hi'
  rw [qBC] at ec'
  cases ec'
  rw [qx] at edr
  subst edr
  exact .inl ⟨ys,q σ' H' vs ep' rd' ⟨hE'.len,hE'.pl,fun i d z=>absurd z (na i d),hE'.inj,fun b o z=>hE'.base b o (by rw [Offs.get fun y=>by rw [y,hp] at z;cases z];exact s4 b o (hE.base b o z)),hE'.fxs⟩⟩
theorem zaku {own:List Str} {fr:List Nat} {env:DEnv} {i:Nat} (h:i<own.length):(envB own fr env)[i]?=some .no:=by
 unfold envB
 rw [qAQ (by simpa using h),qT,qH h];rfl
theorem zakv {own:List Str} {fr:List Nat} {wi wi2:TI} {g g2:TG} {tt tt2:TT} {te:TE} {fi f2:IF'} {gf gf2:GT} {t t2:TF} {e:EF} {k:Nat} (h1:SI wi fi) (h2:SG g gf) (hx:GZ 0 k gf) (hk:k≤own.length) (h3:ST tt t)
  (h5:SI wi2 f2) (h6:SG g2 gf2) (hy:GZ k own.length gf2) (h7:ST tt2 t2) (h4:SE te e) :
  SE (tComp2 wi g tt wi2 g2 tt2 te own fr) (zxf own fr fi gf t f2 gf2 t2 e):=by
 intro fx H0 env σ H h rr hr Q q
 unfold zxf at hr
 obtain ⟨⟨ds,bs⟩,ei,hr⟩:=qA.mp hr
 split at hr
 ·rename_i hlen
  have hlen:ds.length<300:=hlen
  obtain ⟨rs,ers,rfl⟩:=qG.mp hr
  refine h1 fx H0 env σ H h ds bs ei _ fun J H1 s yl=>fun p hp=>?_
  have hB:=zxc h s hp own fr bs
  generalize hA:(fun b=>lim fx env σ (bs++capA fr env) b)=A
  have hA':∀ b,lim fx env σ (bs++capA fr env) b↔A b:=fun b=>by rw [← hA]
  have eA:(fun b=>lim fx env σ (bs++capA fr env) b∨b=p)=fun b=>A b∨b=p:=by rw [← hA]
  rw [eA] at hB
  have seen:∀ {σ':St} {H':Hp},EnvOk (fun b=>A b∨b=p) H1 (envB own fr env) σ' H'→Same (Offs (fun b=>fx b∨L2.own (frzs env bs) σ b) H1) (Offs (fun b=>A b∨b=p) H'):=fun {σ' H'} hE=>Offs.mono hE.base fun b o eo n z=>by
   rcases z with z|z
   ·rcases (hA' b).mpr z with z|⟨i,d,z1,z2,z3⟩
    ·exact n (.inl z)
    ·exact n (.inr ⟨i,d,znf (fun y=>z1 (qAA _ y)) z2,z3⟩)
   ·rw [z,hp] at eo;cases eo
  refine ⟨fun i m σ' H'=>m=ds.length - i∧i≤ds.length∧∃ vs done rest,H' p=some (.lst vs)∧Rps (Offs (fun b=>A b∨b=p) H') done vs∧done.length≤i * 300∧zkt gf t f2 gf2 t2 e (envB own fr env) (ds.drop i)=some rest∧done++rest=rs∧EnvOk (fun b=>A b∨b=p) H1 (envB own fr env) σ' H',
   ⟨ds.length,rfl,qAg _,[],[],rs,zax,zec,qAg _,ers,rfl,hB⟩,?_⟩
  rintro i m σ' H' ⟨rfl,hi,vs,done,rest,ep,rd,dl,ec,edr,hE⟩
  obtain ⟨yi,ys⟩:=yl _ H' hE.fxs (seen hE)
  by_cases hlt:i<ds.length
  ·obtain ⟨yg,yy⟩:=yi i ds[i] (qH hlt)
   refine .inr ⟨yg,fun σ'' H''=>i+1≤ds.length∧∃ vs done rest,H'' p=some (.lst vs)∧Rps (Offs (fun b=>A b∨b=p) H'') done vs∧done.length≤(i+1) * 300∧zkt gf t f2 gf2 t2 e (envB own fr env) (ds.drop (i+1))=some rest∧done++rest=rs∧EnvOk (fun b=>A b∨b=p) H1 (envB own fr env) σ'' H'',?_,?_⟩
   ·rintro σ'' H'' ⟨hle,hh⟩
    exact ⟨ds.length - (i+1),by omega,rfl,hle,hh⟩
   ·intro x H'' hyx
    obtain ⟨sy,ry⟩:=yy x H'' hyx
    rw [qAR hlt] at ec
    obtain ⟨e1,ee1,ec⟩:=qA.mp ec
    obtain ⟨b,eb,ec⟩:=qA.mp ec
    have ry':Rp (Offs (fun a=>(A a∨a=p)∨L2.own (envB own fr env) σ' a) H'') ds[i] x:=Rp.same (Offs.sub fun b z=>z.elim (fun y=>y) fun ⟨j,d',z,_⟩=>absurd z zjo) _ ry
    refine h2 _ H1 (envB own fr env) σ' H'' _ x (hE.up sy) ry' e1 ee1 _ fun σ2 hE2=>?_
    refine h3 _ H1 e1 σ2 H'' hE2 b eb _ fun H3 s3=>?_
    have hE3:=hE2.up s3
    obtain ⟨gl,gk,gn⟩:=hx _ _ _ ee1
    have na:NoAc e1:=gn fun _ _=>zjo
    have back:∀ {σ4:St} {H4:Hp},EnvOk (fun b=>A b∨b=p) H1 e1 σ4 H4→EnvOk (fun b=>A b∨b=p) H1 (envB own fr env) σ4 H4:=fun {σ4 H4} hh=>hh.weaken gl.symm (fun j d' ej=>by
     by_cases hj:own.length≤j
     ·rw [gk j (.inr (by omega))];exact ej
     ·obtain ⟨_,k,rfl,_⟩:=zuu ej;omega) fun j d'=>zjo
    cases b with
    | false =>
     have ec:zkt gf t f2 gf2 t2 e (envB own fr env) (ds.drop (i+1))=some rest:=ec
     exact iteF ⟨hlt,vs,done,rest,s3 _ _ (sy _ _ ep),Rps.same (Offs.grow (sy.trans s3)) _ rd,by omega,ec,edr,back hE3⟩
    | true =>
     have ec:((innL f2 gf2 t2 e e1).bind fun r1=>(zkt gf t f2 gf2 t2 e (envB own fr env) (ds.drop (i+1))).map fun rs=>r1++rs)=some rest:=ec
     obtain ⟨r1,er,ec⟩:=qA.mp ec
     obtain ⟨rest',er',rfl⟩:=qG.mp ec
     obtain ⟨⟨ds2,bs2⟩,e2,er⟩:=qA.mp er
     split at er
     ·rename_i hl2
      have hl2:ds2.length<300:=hl2
      have l2:=zqu er
      refine iteT (zakt (B:=fun b=>A b∨b=p) (p:=p) (vs:=vs) (done:=done) h5 h6 hy h7 h4 na (fun j d' h8 h9 ej=>?_) (.inr rfl) hp hE3 (s3 _ _ (sy _ _ ep)) (Rps.same (Offs.grow (sy.trans s3)) _ rd) e2 (by omega) er fun σ5 H5 vs5 ep5 rd5 hE5=>?_)
      ·rw [gk j (.inr h8),zaku h9] at ej;cases ej
      ·have l2':r1.length≤ds2.length:=l2
       exact ⟨hlt,vs5,done++r1,rest',ep5,rd5,by rw [qW];omega,er',by rw [← edr,qBJ],back hE5⟩
     ·cases er
  ·have hi':i=ds.length:=by omega
   subst hi'
   rw [qBC] at ec
   cases ec
   rw [qx] at edr
   subst edr
   refine .inl ⟨ys,q _ H' (s.trans hE.base) ⟨?_,fun _=>⟨p,rfl,s.free hp,?_⟩⟩⟩
   ·show Rp (Offs (lim fx env σ (if zgc done=true then [] else bs++capA fr env)) H') (.list done) (.ref p)
    have nl:∀ cs,¬ lim fx env σ cs p:=fun cs z=>by
     obtain ⟨o,eo⟩:=(h.up s).lims _ p z
     rw [hp] at eo;cases eo
    refine zgs (by rw [Offs.get (nl _)];exact ep) ?_
    split
    ·rename_i f;exact znh f rd
    ·exact Rps.same (Offs.sub fun b z=>.inl ((hA' b).mp z)) _ rd
   ·show ziv (Offs (fun b=>lim fx env σ (if zgc done=true then [] else bs++capA fr env) b∨b=p) H') H' p (.list done)
    refine ⟨vs,ep,?_⟩
    split
    ·rename_i f;exact znh f rd
    ·exact Rps.same (Offs.sub fun b z=>z.imp (hA' b).mp id) _ rd
 ·cases hr
end L2
namespace PySem
open Sem (wp)
end PySem
namespace L2
open PySem PySem.Spec PyProof.Rows
instance memKey (k:Key) (l:List Key):Decidable (k∈l):=decidable_of_iff (∃ x,x∈l∧x=k) ⟨fun ⟨x,h,e⟩=>e▸h,fun h=>⟨k,h,rfl⟩⟩
noncomputable def xcIn (K:qB) (C:Addr):Bool:=match K.lookup C with
 | some ⟨.type "type",_,.cls cd,sl⟩=>(match cd.mro,sl.toList with
  | .ref C'::bm,[_,_,_,_,some (.builtin n),_]=>C'==C&&!cd.hasDel&&cd.hasDict&&n == "ValueError.__new__" && bm.contains (.type "ValueError")&&bm.contains (.type "BaseException")&&!bm.contains (.type "AttributeError")&&!bm.contains (.type "NameError")
  | _,_=>false)
 | _=>false
theorem zasm {K:qB} {h:Heap} {C:Addr} (X:K.In h) (q:xcIn K C=true):∃ nm qn N bs bm sn sub ab col dd k0 k1 k2 k3 k5,
  h.get? C=some (excClassObj nm qn C N bs bm true sn sub ab col dd k0 k1 k2 k3 k5 "ValueError.__new__")∧(Value.ref C::bm).contains (.type "ValueError")=true∧(Value.ref C::bm).contains (.type "BaseException")=true∧(Value.ref C::bm).contains (.type "AttributeError")=false∧(Value.ref C::bm).contains (.type "NameError")=false:=by
 unfold xcIn at q
 split at q
 ·rename_i dd cd sl ho
  split at q
  ·rename_i C' bm k0 k1 k2 k3 n k5 hm hs
   simp only [qAB,beq_iff_eq,Bool.not_eq_true'] at q
   obtain ⟨⟨⟨⟨⟨⟨⟨rfl,hdel⟩,hdc⟩,rfl⟩,hv⟩,hb⟩,ha⟩,hn⟩:=q
   obtain ⟨nm,bs,mro,ns,qn,hd,sn,sub,ab,col,del⟩:=cd
   dsimp only at hm hdel hdc
   subst hm hdel hdc
   have hsl:sl=#[k0,k1,k2,k3,some (.builtin "ValueError.__new__"),k5]:=by
    obtain ⟨l⟩:=sl
    simp only at hs
    rw [hs]
   subst hsl
   refine ⟨nm,qn,ns,bs,bm,sn,sub,ab,col,dd,k0,k1,k2,k3,k5,X _ _ ho,?_,?_,?_,?_⟩
   ·rw [qAU,hv,qA4]
   ·rw [qAU,hb,qA4]
   ·rw [qAU,ha];rfl
   ·rw [qAU,hn];rfl
  ·cases q
 ·cases q
end L2
namespace PySem
open Sem (wp)
section
variable {prog:Program} {w:World} {A:Around} {E:Value→Shared→Prop} {h:Heap} {g:Array GenState} {d:Drawn} {t:Nat} {os:OsState}
variable {nm q:Str} {C N:Addr} {bs bm:List Value} {sn:List Str} {sub:List Value} {ab:Bool} {col:Option Bool} {dd:Option Addr} {k0 k1 k2 k3 k5:Option Value}
theorem zadx {M:Model} {rest:List Value} {Q:Unit→Shared→Prop} (hC:h.get? C=some (excClassObj nm q C N bs bm true sn sub ab col dd k0 k1 k2 k3 k5 "ValueError.__new__")) (hv:(Value.ref C::bm).contains (.type "ValueError")=true)
  (hq:Q () ⟨h,g,d,t,os⟩):wpAny M A (checkBuiltinCall "ValueError.__new__" ⟨.ref C::rest,[]⟩) Q E ⟨h,g,d,t,os⟩:=by
 have F:=qBl
 have f0:=F.noStar
 simp only [checkBuiltinCall,F.newKind,F.newSplit,F.newRow]
 repeat (first|refine qk hC ?_|(refine qAk hC ?_;rw [hv])|refine wpAny_staticBase_exc hC ?_|refine wpAny_madeBy_exc hC ?_|simp only [bne_self_eq_false,qBt,if_false]|wp_step)
 exact hq
theorem zago {rest:List Value} {R:Result→Shared→Prop} (hC:h.get? C=some (excClassObj nm q C N bs bm true sn sub ab col dd k0 k1 k2 k3 k5 "ValueError.__new__")) (hv:(Value.ref C::bm).contains (.type "ValueError")=true) (ha:(Value.ref C::bm).contains (.type "AttributeError")=false) (hn:(Value.ref C::bm).contains (.type "NameError")=false)
  (hq:R (.ok (.ret (.ref (h.objs.size+1)))) ⟨(h.push {cls:=.type "tuple",data:=.seq rest.toArray}).push {cls:=.ref C,data:=.fields #[.ref h.objs.size,.none,.none,.none,.bool false,.none]},g,d,t,os⟩) (hr:rest.length≤qU) :
  codeAny (model prog w) A (.builtin "ValueError.__new__" ⟨.ref C::rest,[]⟩) R ⟨h,g,d,t,os⟩:=by
 have F:=qBl
 have f0:=F.ends
 refine codeAny_builtinAt F.entry ?_
 unfold Builtin.«BaseException.__new__»
 refine wpAt_bind ?_
 show wpAt _ _ _ (stack >>= _) _ _ _
 refine wpAt_bind (wpAt_stack fun p below=>wpAt_of_wpAny ?_)
 wp_walk
 refine wpAt_of_wpAny ?_
 rw [F.owner]
 repeat (first|with_reducible refine wpAny_madeHere_exc F.canon hC ?_|with_reducible refine qk hC ?_|(with_reducible refine qAk hC ?_;first|rw [hv]|rw [ha]|rw [hn])|wp_step)
 show R _ _
 rw [qAz]
 exact hq
theorem zaup {rest:List Value} {fI:Addr} {oI:Obj} {Q:Value→Shared→Prop} (hC:h.get? C=some (excClassObj nm q C N bs bm true sn sub ab col dd k0 k1 k2 k3 k5 "ValueError.__new__")) (hv:(Value.ref C::bm).contains (.type "ValueError")=true) (ha:(Value.ref C::bm).contains (.type "AttributeError")=false) (hn:(Value.ref C::bm).contains (.type "NameError")=false)
  (LI:W.Looks (model prog w) h (typeLookup (.ref C) "__init__") (some (.ref fI))) (hfI:h.get? fI=some oI) (hfc:oI.cls=.type "function") (hr:rest.length≤qU)
  (hq:∀ h' e,Heap.MadeExcOf h h' e (.ref C) rest→wpAny (model prog w) (A.under (.builtin "type.__call__" ⟨.ref C::rest,[]⟩)) (call (.ref fI) (.ref e::rest)) (fun r s'=>r=.none∧Q (.ref e) s') E ⟨h',g,d,t,os⟩) :
  wpAny (model prog w) A (call (.ref C) rest) Q E ⟨h,g,d,t,os⟩:=by
 have F:=qBl
 have f1:=tc_lookup
 have f2:=tc_bind (.ref C)
 have hT:(⟨h,g,d,t,os⟩:Shared).TypeIs (.ref C) "type":=⟨_,hC,rfl⟩
 refine qCc (codeAny_of_tree ?_)
 show wpAny _ _ (callAny (.ref C) _) _ _ _
 repeat (any_goals (first|assumption|with_reducible refine qk hC ?_|wp_step))
 refine ⟨rfl,?_⟩
 refine codeAny_call_builtin_at (qCN _ (by decide +kernel)) entry_typeCall (wpAny_check_type_call_sub hC ?_)
 repeat (first|with_reducible refine qk hC ?_|with_reducible refine wpAny_madeBy_exc hC ?_|wp_step)
 refine codeAny_call_builtin_code (qCN _ F.quiet) (zadx hC hv ?_)
 refine zago hC hv ha hn ?_ hr
 show wpAny _ _ _ _ _ _
 have kp:∀ b o,h.get? b=some o→((h.push {cls:=.type "tuple",data:=.seq rest.toArray}).push {cls:=.ref C,data:=.fields #[.ref h.objs.size,.none,.none,.none,.bool false,.none]}).get? b=some o:=fun b o e=>qE _ (qE _ e)
 have hC1:=kp _ _ hC
 have he:((h.push {cls:=.type "tuple",data:=.seq rest.toArray}).push {cls:=.ref C,data:=.fields #[.ref h.objs.size,.none,.none,.none,.bool false,.none]}).get? (h.objs.size+1)=some {cls:=.ref C,data:=.fields #[.ref h.objs.size,.none,.none,.none,.bool false,.none]}:=by heap_get
 have hcC:(Value.ref C::bm).contains (.ref C)=true:=by simp
 unfold isInstance
 repeat (first|with_reducible refine qk he ?_|(refine qAk hC1 ?_;rw [hcC])|wp_step)
 show wpAny _ _ (typeLookup (.ref C) _) _ _ _
 refine (LI.keeps kp).here ?_
 refine qBo (qC ?_)
 unfold bindSpecial
 refine qC (qB3 (T:="function") ⟨_,kp _ _ hfI,hfc⟩ ?_)
 rw [if_pos (by decide)]
 refine qI (qC (qBM (hq _ (h.objs.size+1) ⟨kp,qBK (qCe _),h.objs.size,he,qBK (qJ _),?_⟩) (fun r s' hh=>?_) fun _ _ x=>x))
 ·exact qE _ (Heap.get?_push_at rfl rfl)
 ·obtain ⟨rfl,hQ⟩:=hh
  wp_walk
  exact hQ
end
open Builtin Builtin.ObjectAttr
def vmro:List Value:=[.type "ValueError",.type "Exception",.type "BaseException",.type "object"]
def zfm:List Value→Bool
 | .ref _::r=>zfm r
 | l=>l==vmro
theorem znj (self:Value) (what:Str):∀ {l:List Value},zfm l=true→refuseLoop self what l=refuseLoop self what vmro
 | [],h=>by cases h
 | v::r,h=>by
  cases v with
  | ref a=>rw [refuseLoop_ref];exact znj self what h
  | _=>rw [eq_of_beq (show (_==vmro)=true from h)]
theorem zel {T:Value} (hT:vmro.contains T=true):∀ {l:List Value},zfm l=true→l.contains T=true
 | [],h=>by cases h
 | v::r,h=>by
  cases v with
  | ref a=>rw [qAU,zel hT (l:=r) h,qA4]
  | _=>rw [eq_of_beq (show (_==vmro)=true from h)];exact hT
section
variable {prog:Program} {w:World} {A:Around} {E:Value→Shared→Prop} {h:Heap} {g:Array GenState} {d:Drawn} {t:Nat} {os:OsState}
variable {nm q:Str} {C N x:Addr} {bs bm:List Value} {sn:List Str} {sub:List Value} {ab:Bool} {col:Option Bool} {dd:Option Addr} {k0 k1 k2 k3 k5:Option Value} {newId:String} {name:Str} {v:Value}
theorem zxg {M:Model} {o:Obj} {nameV:Value} {Q:Unit→Shared→Prop} (hr:zfm bm=true)
  (hC:h.get? C=some (excClassObj nm q C N bs bm true sn sub ab col dd k0 k1 k2 k3 k5 newId)) (hx:h.get? x=some o) (hc:o.cls=.ref C) (hq:Q () ⟨h,g,d,t,os⟩) :
  wpAny M A (checkBuiltinCall "object.__setattr__" ⟨[.ref x,nameV,v],[]⟩) Q E ⟨h,g,d,t,os⟩:=by
 have SF:=qCR
 have hcB:(Value.ref C::bm).contains (.type "object")=true:=by rw [qAU,zel (by decide) hr,qA4]
 have ha:=SF.args (.ref x) nameV v
 simp only [checkBuiltinCall,SF.kind,SF.split]
 refine qC ?_
 ·unfold isInstance
  repeat (first|(with_reducible refine qk hx ?_;rw [hc])|(with_reducible refine qAk hC ?_;rw [hcB])|wp_step)
  exact hq
theorem zxh {tk:Tok} {Q:Fin→Shared→Prop} {o:Obj} (hr:zfm bm=true)
  (hC:h.get? C=some (excClassObj nm q C N bs bm true sn sub ab col dd k0 k1 k2 k3 k5 newId)) (hx:h.get? x=some o) (hc:o.cls=.ref C) (hnc:∀ c,o.data≠.cls c) (hdn:o.dict=none)
  (LA:W.Looks (model prog w) h (typeLookup (.ref C) name) none)
  (hq:∀ h' tk' dx,h.objs.size≤dx→h'.Ns1 dx (fun y=>if y=name then some v else none)→h'.get? x=some {o with dict:=some dx} →
   (∀ b o,b≠x→h.get? b=some o→h'.get? b=some o)→Q (.done (.ret .none)) ⟨h',g,d,tk',os⟩) :
  wpAny (model prog w) A (Builtin.«object.__setattr__» ⟨[.ref x,.str name tk,v],[]⟩) Q E ⟨h,g,d,t,os⟩:=by
 have SF:=qCR
 have hpass:refuseLoop (.ref x) "__setattr__" bm=pure ():=by rw [znj _ _ hr];exact SF.passes (.ref x)
 unfold Builtin.«object.__setattr__»
 repeat (first|rw [refuse_eq]|(rw [refuseLoop_ref,hpass])|(with_reducible refine qk hx ?_;rw [hc])|with_reducible refine wpAny_mroOf_exc hC ?_|(with_reducible refine LA.here ?_)|wp_step)
 rw [hdn,if_neg (by simp [typeHasDict])]
 split
 ·rename_i hcd
  cases hcd
 split
 ·rename_i c hcd
  exact absurd hcd (hnc c)
 ·have hx₁:(h.push {cls:=.type "dict",data:=.dict #[]}).get? x=some o:=qE _ hx
  have hxs:x≠h.objs.size:=qq (qK hx)
  refine qC (wpAny_alloc' ?_)
  refine qC (wpAny_update' hx₁ ?_)
  refine qI ?_
  have hgd:((h.push {cls:=.type "dict",data:=.dict #[]}).update x fun o=>{cls:=o.cls,dict:=some h.objs.size,data:=o.data,slots:=o.slots}).get? h.objs.size
    = some {cls:=.type "dict",data:=.dict #[]} :=
   (qDK _ _ _ _ hxs.symm).trans (Heap.get?_push_at rfl rfl)
  have hnd:((h.push {cls:=.type "dict",data:=.dict #[]}).update x fun o=>{cls:=o.cls,dict:=some h.objs.size,data:=o.data,slots:=o.slots}).Ns h.objs.size (fun _=>none) :=
   ⟨_,#[],_,hgd,rfl,fun e he=>absurd he (by simp),fun _=>rfl⟩
  show wpAny _ _ (storeInDict h.objs.size (.str name tk) name v) _ _ _
  unfold storeInDict newKeyGuard
  refine qC (qI (qC (wpAny_nsSet1EFk (Heap.Ns1.of_empty hnd) fun h' hn' hs hkeepD=>?_)))
  obtain ⟨oD,esD,epD,hoD,hdD,hcD⟩:=hn'.count (Within.cons name v Within.nil)
  refine qC (wpAny_lookBehind hoD (by rw [hdD];exact pastItsLine_dict (qAG hcD (by rw [qAN,qBT,qBD];omega))) ?_)
  wp_walk
  refine hq h' _ h.objs.size (qJ _) hn' ?_ (fun b ob hbx hb=>?_)
  ·refine (hs.2 x hxs).trans (qAs _ hx₁ ?_)
   have hfr:=(Heap.get?_some_iff.mp hx).2
   obtain ⟨oc,od,odt,osl⟩:=o
   cases odt<;>first|rfl|exact hfr
  ·exact (hs.2 b (qq (qK hb))).trans ((qDK _ _ _ _ hbx).trans (qE _ hb))
theorem zasn {Q:Unit→Shared→Prop} {o:Obj} (hr:zfm bm=true)
  (hC:h.get? C=some (excClassObj nm q C N bs bm true sn sub ab col dd k0 k1 k2 k3 k5 newId)) (hx:h.get? x=some o) (hc:o.cls=.ref C) (hnc:∀ c,o.data≠.cls c) (hdn:o.dict=none)
  (LS:W.Looks (model prog w) h (typeLookup (.ref C) "__setattr__") (some (.builtin "object.__setattr__"))) (LA:W.Looks (model prog w) h (typeLookup (.ref C) name) none)
  (hq:∀ h' tk' dx,h.objs.size≤dx→h'.Ns1 dx (fun y=>if y=name then some v else none)→h'.get? x=some {o with dict:=some dx} →
   (∀ b o,b≠x→h.get? b=some o→h'.get? b=some o)→Q () ⟨h',g,d,tk',os⟩) :
  wpAny (model prog w) A (setAttr (.ref x) name v) Q E ⟨h,g,d,t,os⟩:=by
 have SF:=qCR
 have f3:=SF.slot.bind (.ref x)
 unfold setAttr callSpecial? specialOf
 repeat (any_goals (first|assumption|(with_reducible refine qk hx ?_;rw [hc])|(with_reducible refine LS.here ?_)|wp_step))
 refine qBP SF.slot.plain SF.entry (zxg hr hC hx hc (zxh hr hC hx hc hnc hdn LA fun h' tk' dx a1 a2 a3 a4=>?_))
 repeat (any_goals (first|assumption|wp_step))
 exact hq h' tk' dx a1 a2 a3 a4
theorem zauq {Q:Value→Shared→Prop} {o:Obj} {dx:Addr} {vs:Array Value} {mA:Str→Option Value} {expr:Bool} (hr:zfm bm=true)
  (hC:h.get? C=some (excClassObj nm q C N bs bm true sn sub ab col dd k0 k1 k2 k3 k5 newId)) (hx:h.get? x=some o) (hc:o.cls=.ref C) (hd:o.data=.fields vs) (hdd:o.dict=some dx)
  (hns:h.Ns dx mA) (hv:mA name=some v)
  (LG:W.Looks (model prog w) h (typeLookup (.ref C) "__getattribute__") (some (.builtin "BaseException.__getattribute__"))) (LH:W.Looks (model prog w) h (typeLookup (.ref C) "__getattr__") none) (LA:W.Looks (model prog w) h (typeLookup (.ref C) name) none)
  (hh:W.handedIn v=true) (hq:∀ tk',Q v ⟨h,g,d,tk',os⟩) :
  wpAny (model prog w) A (getAttr (.ref x) name expr) Q E ⟨h,g,d,t,os⟩:=by
 have hk:builtinKind "BaseException.__getattribute__" = some .slot:=by decide +kernel
 have hsplit:splitId "BaseException.__getattribute__" = some ("BaseException", "__getattribute__"):=by decide +kernel
 have hcB:(Value.ref C::bm).contains (.type "BaseException")=true:=by rw [qAU,zel (by decide) hr,qA4]
 have hx0:(expr&&onTheHeap (Value.builtin "BaseException.__getattribute__"))=false:=by cases expr<;>rfl
 have hx2:(Value.builtin "BaseException.__getattribute__" == Value.builtin "object.__getattribute__")=false:=by decide +kernel
 have hx1:(onTheHeap (Value.ref C)&&Value.builtin "BaseException.__getattribute__" == Value.builtin "object.__getattribute__")=false:=by rw [hx2];rfl
 have FB:=F.attr_ValueError
 have f3:=FB.ga.bind (.ref x)
 have ha:=F.args_bexc_ga (.ref x)
 unfold getAttr getAttrBy
 repeat (any_goals (first|assumption|(with_reducible refine qk hx ?_;rw [hc])|(with_reducible refine LG.here ?_)|(with_reducible refine LH.here ?_)|wp_step))
 refine qBP FB.ga.plain F.entry_bexc_ga ?_
 simp only [checkBuiltinCall,hk,hsplit]
 refine qC ?_
 unfold isInstance
 repeat (first|(with_reducible refine qk hx ?_;rw [hc])|(with_reducible refine qAk hC ?_;rw [hcB])|wp_step)
 repeat (any_goals (first|assumption|(with_reducible refine qk hx ?_;rw [hc])|(with_reducible refine LA.here ?_)|wp_step))
 rw [hd]
 dsimp only
 unfold instanceDict
 repeat (any_goals (first|assumption|(with_reducible refine qk hx ?_;rw [hc])|(with_reducible refine qk hC ?_)|wp_step))
 rw [hdd]
 dsimp only
 refine qI ?_
 unfold inDict
 refine wpAny_nsGet hns ?_
 rw [hv]
 dsimp only
 repeat (any_goals (first|assumption|wp_step))
 show wpAny _ _ (handedOut v) _ _ _
 rw [W.handedOut_of hh]
 exact qI (hq _)
theorem zaur {Q:Value→Shared→Prop} {o:Obj} {vs:Array Value} {rest:List Value} (hr:zfm bm=true) (hl:rest.length≤qU)
  (hC:h.get? C=some (excClassObj nm q C N bs bm true sn sub ab col dd k0 k1 k2 k3 k5 newId)) (hx:h.get? x=some o) (hc:o.cls=.ref C) (hd:o.data=.fields vs) (hs:0<vs.size)
  (hq:∀ h' p,h'.get? x=some {o with data:=.fields (vs.setIfInBounds 0 (.ref p))}→(∀ b o,b≠x→h.get? b=some o→h'.get? b=some o)→Q .none ⟨h',g,d,t,os⟩) :
  wpAny (model prog w) A (call (.builtin "ValueError.__init__") (.ref x::rest)) Q E ⟨h,g,d,t,os⟩:=by
 have F:=qBl
 have hcB:(Value.ref C::bm).contains (.type "ValueError")=true:=by rw [qAU,zel (by decide) hr,qA4]
 have hshort:=F.noStar
 refine qCc (qBP F.init.plain F.initEntry ?_)
 simp only [checkBuiltinCall,F.initKind,F.initSplit,F.initRow]
 repeat (first|(with_reducible refine qk hx ?_;rw [hc])|with_reducible refine qk hC ?_|(with_reducible refine qAk hC ?_;rw [hcB])|wp_step)
 refine qB7 ?_
 rw [show ∀ (a b:String) (n:Nat),Bind.check ⟨.positional, "*", "ValueError",.self,[⟨"args",.varPos,false⟩]⟩ a b n (List.map (fun x=>x.fst) ({pos:=Value.ref x::rest}:Args).kw)=pure () from
  fun a b n=>check_star_args _ _ _ _ _ _]
 refine qI ?_
 unfold Builtin.«BaseException.__init__»
 repeat (any_goals (first|assumption|wp_step))
 rw [hd]
 dsimp only
 refine qI ?_
 rw [Array.getElem?_eq_getElem hs]
 dsimp only
 refine qI (qC ?_)
 have hx':(h.push {cls:=.type "tuple",data:=.seq rest.toArray}).get? x=some o:=qE _ hx
 refine qBR hx' hd hs ?_
 have fin:Q .none ⟨(h.push {cls:=.type "tuple",data:=.seq rest.toArray}).update x (Obj.mapFields (·.setIfInBounds 0 (Value.ref h.objs.size))),g,d,t,os⟩:=by
  refine hq _ h.objs.size ?_ fun b ob hb e=>by rw [qAi _ _ (qAp hb)];exact qE _ e
  have hd₃:=qAh hd (·.setIfInBounds 0 (Value.ref h.objs.size))
  rw [qAs _ hx' (qA5 hd₃)]
  unfold Obj.mapFields
  obtain ⟨oc,od,odt,osl⟩:=o
  cases hd
  rfl
 cases vs[0]<;>(repeat (any_goals (first|exact fin|assumption|wp_step)))
end
def Heap.Tb (h:Heap) (T:Addr):Prop:=∃ oT ts,h.get? T=some oT∧oT.data=.fields ts∧ts[3]?=some .none
section
variable {M:Model} {A:Around} {E:Value→Shared→Prop} {s:Shared} {base:Heap} {env:Env} {outer:List Env} {L e:Addr} {oe:Obj} {vs:Array Value}
theorem mapf {o:Obj} {vs:Array Value} (hd:o.data=.fields vs) (f:Array Value→Array Value):Obj.mapFields f o={o with data:=.fields (f vs)}:=by
 unfold Obj.mapFields
 obtain ⟨oc,od,odt,osl⟩:=o
 cases hd
 rfl
theorem zqv {head:Value} {hadNext:Bool} {Q:Unit→Shared→Prop}
  (hfr:A.frames=some (env::outer)) (hl:s.heap.FunFrames base (env::outer)) (hf:env.frame=some L) (he:s.heap.get? e=some oe) (hd:oe.data=.fields vs) (hsz:1<vs.size)
  (hQ:∀ h' T,s.heap.objs.size≤T→T≠e→(∀ b o,b≠e→b∉(env::outer).filterMap (·.frame)→s.heap.get? b=some o→h'.get? b=some o) →
   (∀ b o,b≠e→s.heap.get? b=some o→∃ sl,h'.get? b=some {o with slots:=sl})→h'.get? e=some {oe with data:=.fields (vs.setIfInBounds 1 (.ref T))}→h'.Tb T→Q () {s with heap:=h'}) :
  wpAny M A (do let a ← frameOf env;let pl ← entryPlaceOf L hadNext;let b ← EntryCells.newEntry head a .none (rawInt L) .none pl;setField (.ref e) 1 b) (fun _ s'=>wpAny M A (setFlight (.ref e) none) Q E s') E s:=by
 have hene:e∉(env::outer).filterMap (·.frame):=fun hm=>by
  obtain ⟨_,o,ho,hnf⟩:=hl.mem hm
  rw [he] at ho;injection ho with ho;subst ho;exact hnf vs hd
 refine qC (wpAny_frameOf_fun hfr hl hf fun h₁ hs₁=>?_)
 refine qC (wpAny_entryPlaceOf fun pl hpl=>?_)
 unfold EntryCells.newEntry newFields
 refine qC (qA1 ?_ (hpl.sizeOk5 _ _ _ _ _))
 have he₁:h₁.get? e=some oe:=(hs₁.2.1 e hene).trans he
 have he₂:=qE (h:=h₁) {cls:=.type "traceback",dict:=none,data:=.fields ([head,.ref L,.none,rawInt L,.none]++(if pl.isEmpty then List.replicate 6 Value.none else pl)).toArray} he₁
 refine qBR he₂ hd hsz ?_
 have hTe:h₁.objs.size≠e:=qBQ (qK he₁)
 have hd₃:=qAh hd (·.setIfInBounds 1 (Value.ref h₁.objs.size))
 have he₃:=qAs (Obj.mapFields (·.setIfInBounds 1 (Value.ref h₁.objs.size))) he₂ (qA5 hd₃)
 have hT₃:=(qAi (h₁.push {cls:=.type "traceback",dict:=none,data:=.fields ([head,.ref L,.none,rawInt L,.none]++(if pl.isEmpty then List.replicate 6 Value.none else pl)).toArray})
  (Obj.mapFields (·.setIfInBounds 1 (Value.ref h₁.objs.size))) (qAp hTe)).trans (qb h₁ rfl)
 unfold setFlight
 refine qC (qAZ he₃ hd₃ (x:=.ref h₁.objs.size) (by simp [hsz]) ?_)
 rw [if_pos (show (Value.ref h₁.objs.size != Value.none)=true from by simp)]
 refine qBR hT₃ rfl (by simp only [qR,qW,qAN,qBT]<;>omega) ?_
 have keep:∀ b o,b≠e→h₁.get? b=some o →
   (((h₁.push {cls:=.type "traceback",dict:=none,data:=.fields ([head,.ref L,.none,rawInt L,.none]++(if pl.isEmpty then List.replicate 6 Value.none else pl)).toArray}).update e (Obj.mapFields (·.setIfInBounds 1 (Value.ref h₁.objs.size)))).update h₁.objs.size
    (Obj.mapFields (·.setIfInBounds 3 ((none:Option Addr).elim Value.none fun f=>rawInt f)))).get? b=some o:=fun b o hbe hb=>by
  have hbT:h₁.objs.size≠b:=qBQ (qK hb)
  rw [qAi _ _ hbT,qAi _ _ (qAp hbe)]
  exact qE _ hb
 refine hQ _ h₁.objs.size (Nat.le_of_eq hs₁.1.symm) hTe (fun b o hb hn ho=>keep b o hb ((hs₁.2.1 b hn).trans ho)) (fun b o hb ho=>?_) ?_ ?_
 ·obtain ⟨sl,hs⟩:=hs₁.2.2 b o ho
  exact ⟨sl,keep b _ hb hs⟩
 ·rw [qAi _ _ hTe,he₃,mapf hd]
 ·exact ⟨_,_,qAs _ hT₃ (qA5 (qAh rfl _)),qAh rfl _,by first|(simp;done)|(rcases hpl with rfl|⟨_,_,_,_,_,_,_,rfl⟩<;>simp)⟩
theorem zaad {Q:Unit→Shared→Prop}
  (hfr:A.frames=some (env::outer)) (hl:s.heap.FunFrames base (env::outer)) (hf:env.frame=some L) (he:s.heap.get? e=some oe) (hd:oe.data=.fields vs)
  (h1:vs[1]?=some .none∨∃ T,vs[1]?=some (.ref T)∧T≠e∧s.heap.Tb T)
  (hQ:∀ h' T,s.heap.objs.size≤T→T≠e→(∀ b o,b≠e→vs[1]?≠some (.ref b)→b∉(env::outer).filterMap (·.frame)→s.heap.get? b=some o→h'.get? b=some o) →
   (∀ b o,b≠e→vs[1]?≠some (.ref b)→s.heap.get? b=some o→∃ sl,h'.get? b=some {o with slots:=sl})→(∀ b,vs[1]?=some (.ref b)→h'.Tb b) →
   h'.get? e=some {oe with data:=.fields (vs.setIfInBounds 1 (.ref T))}→h'.Tb T→Q () {s with heap:=h'}) :
  wpAny M A (noteFrame (.ref e) env) (fun _ s'=>wpAny M A (setFlight (.ref e) none) Q E s') E s:=by
 unfold noteFrame
 simp only [hf]
 rcases h1 with h1|⟨T,h1,hTe,oT,ts,hT,hdT,h3⟩
 ·refine (qC (qAZ he hd h1 ?_))
  rw [if_neg (by decide)]
  exact zqv hfr hl hf he hd (qAm.mp h1).1 fun h' T a1 a2 a3 a4 a5 a6=>hQ h' T a1 a2 (fun b o q _=>a3 b o q) (fun b o q _=>a4 b o q) (fun b q=>by rw [h1] at q;cases q) a5 a6
 ·refine (qC (qAZ he hd h1 ?_))
  rw [if_pos (show (Value.ref T != Value.none)=true from by simp)]
  refine qC (qAZ hT hdT h3 ?_)
  rw [if_neg (show ¬ ((Value.none==rawInt L)=true) from by simp [rawInt])]
  have hsz3:=(qAm.mp h3).1
  refine qC (qBR hT hdT hsz3 ?_)
  have other:∀ b,b≠T→(s.heap.update T (Obj.mapFields (·.setIfInBounds 3 Value.none))).get? b=s.heap.get? b:=fun b hb=>qAi _ _ (qAp hb)
  have hT':=qAs (Obj.mapFields (·.setIfInBounds 3 Value.none)) hT (qA5 (qAh hdT _))
  have noRecord:∀ b o,s.heap.get? b=some o→(∀ vs,o.data≠.fields vs)→b≠T:=fun b o hb hnf q=>by
   rw [q,hT] at hb;injection hb with hb;subst hb;exact hnf ts hdT
  have ne:∀ {b:Addr},vs[1]?≠some (.ref b)→b≠T:=fun q z=>q (by rw [h1,z])
  refine zqv hfr (hl.of_keeps fun b o hb hnf=>⟨o,(other b (noRecord b o hb hnf)).trans hb,rfl⟩) hf ((other e (qAp hTe)).trans he) hd (qAm.mp h1).1 fun h' T' a1 a2 a3 a4 a5 a6=>?_
  refine hQ h' T' (by rw [Heap.size_update] at a1;exact a1) a2 (fun b o q n z ho=>a3 b o q z ((other b (ne n)).trans ho)) (fun b o q n ho=>a4 b o q ((other b (ne n)).trans ho)) (fun b q=>?_) a5 a6
  rw [h1] at q
  cases q
  obtain ⟨sl,hs⟩:=a4 T _ hTe hT'
  exact ⟨_,_,hs,qAh hdT _,by simp [hsz3]⟩
theorem zagp {Q:Unit→Shared→Prop} {T:Addr} (he:s.heap.get? e=some oe) (hd:oe.data=.fields vs) (h1:vs[1]?=some (.ref T)) (hT:s.heap.Tb T)
  (hQ:∀ h',(∀ b o,b≠T→s.heap.get? b=some o→h'.get? b=some o)→h'.Tb T→Q () {s with heap:=h'}):wpAny M A (setFlight (.ref e) none) Q E s:=by
 obtain ⟨oT,ts,hT,hdT,h3⟩:=hT
 have hsz3:=(qAm.mp h3).1
 unfold setFlight
 refine qC (qAZ he hd h1 ?_)
 rw [if_pos (show (Value.ref T != Value.none)=true from by simp)]
 refine qBR hT hdT hsz3 (hQ _ (fun b o hb ho=>by rw [qAi _ _ (qAp hb)];exact ho) ?_)
 exact ⟨_,_,qAs _ hT (qA5 (qAh hdT _)),qAh hdT _,by simp [hsz3]⟩
end
end PySem
namespace L2
open PySem PySem.Spec PyProof.Rows
def xeD (e C dx:Addr) (tv:Value) (h:Heap):Prop:=∃ vs sl,h.get? e=some {cls:=.ref C,dict:=some dx,data:=.fields vs,slots:=sl}∧vs[1]?=some tv
theorem xeD.stay {e C dx:Addr} {tv:Value} (h1 h2:Heap) (h:xeD e C dx tv h1) (k:∀ o,h1.get? e=some o→h2.get? e=some o):xeD e C dx tv h2 :=
 let ⟨vs,sl,a,b⟩:=h;⟨vs,sl,k _ a,b⟩
theorem zapa {T:Addr} (h1 h2:Heap) (h:h1.Tb T) (k:∀ o,h1.get? T=some o→h2.get? T=some o):h2.Tb T :=
 let ⟨oT,ts,a,b⟩:=h;⟨oT,ts,k _ a,b⟩
theorem zanc {P:Program} {w:World} {H:Hp} {h:Heap} {e C dx:Addr} {tv:Value} (q:xeD e C dx tv h):zfc P w H h e (.ext (xeD e C dx tv)) :=
 ⟨q,let ⟨_,_,a,_⟩:=q;⟨_,a⟩,fun h1 h2=>xeD.stay h1 h2⟩
theorem zagq {P:Program} {w:World} {H:Hp} {h:Heap} {T:Addr} (q:h.Tb T):zfc P w H h T (.ext fun h=>h.Tb T) :=
 ⟨q,let ⟨_,_,a,_⟩:=q;⟨_,a⟩,fun h1 h2=>zapa h1 h2⟩
theorem zfc.there {P:Program} {w:World} {H:Hp} {h:Heap} {a:Addr} {o:HO} (x:zfc P w H h a o):∃ ob,h.get? a=some ob:=by
 cases o with
 | lst xs=>obtain ⟨_,_,_,_,e⟩:=x;exact ⟨_,e⟩
 | tup xs=>obtain ⟨_,_,_,ob,e,_⟩:=x;exact ⟨_,e⟩
 | dK kvs=>obtain ⟨_,_,_,_,o,_,_,e,_⟩:=x;exact ⟨_,e⟩
 | dT kvs=>obtain ⟨_,_,_,_,o,_,_,e,_⟩:=x;exact ⟨_,e⟩
 | set S n=>obtain ⟨o,_,_,_,e,_⟩:=x;exact ⟨_,e⟩
 | ins C dx fs=>obtain ⟨_,_,_,e,_⟩:=x;exact ⟨_,e⟩
 | own y=>exact x
 | xd fs=>obtain ⟨_,⟨_,_,_,e,_⟩,_⟩:=x;exact ⟨_,e⟩
 | rng lo hi=>obtain ⟨_,_,_,e⟩:=x;exact ⟨_,e⟩
 | frz ob u=>obtain ⟨e,_⟩:=x;exact ⟨_,e⟩
 | tbl ps=>exact ⟨_,x⟩
 | met f y=>exact ⟨_,x⟩
 | ext φ=>exact x.2.1
theorem HOk.no {P:Program} {w:World} {H:Hp} {h:Heap} {a:Addr} (x:HOk P w H h) (n:h.get? a=none):H a=none:=by
 cases q:H a with
 | none=>rfl
 | some u=>obtain ⟨ob,z⟩:=(x a u q).there;rw [n] at z;cases z
def zakw (H H':Hp):Prop:=∀ b o,H b=some o→(∀ φ,o≠.ext φ)→H' b=some o
def StX (H0:Hp) (E:XK):XK:=fun c dx H'=>∀ H3,(∀ b o,H0 b=some o→H' b=some o→H3 b=some o)→zakw H' H3→E c dx H3
structure Flt (h:Heap) (H':Hp) (e C dx:Addr):Prop where
 new:h.get? e=none
 st:∃ tv,H' e=some (.ext (xeD e C dx tv))∧(tv=.none∨∃ T,tv=.ref T∧T≠e∧h.get? T=none∧H' T=some (.ext fun h=>h.Tb T))
def CXE (P:Program) (w:World):CXT:=fun outer H s E e s'=>∃ ea C dx H',e=.ref ea∧s'.os=s.os∧AllBare s'.gens∧Un (frs outer) [] H H' s.heap s'.heap∧HOk P w H' s'.heap∧Flt s.heap H' ea C dx∧StX H E (.ref C) (some dx) H'
section
variable {X:Cx} {pins:List (Addr×Obj)} {σ:St} {H1:Hp} {s:Shared} {e C dx:Addr} {E:Value→Shared→Prop}
theorem zxi {h0:Heap} {Q:Unit→Shared→Prop} (I:Inv X pins σ H1 s) (hst:X.stack=X.env::X.outer) (hfr:X.env.frame=some X.env.locals) (hz:∀ b ob,h0.get? b=some ob→∃ o',s.heap.get? b=some o') (F:Flt h0 H1 e C dx)
  (k:∀ s' H2,Inv X pins σ H2 s'→(∃ T,H2 e=some (.ext (xeD e C dx (.ref T)))∧T≠e∧h0.get? T=none∧H2 T=some (.ext fun h=>h.Tb T)) →
   (∀ b o ob,h0.get? b=some ob→H1 b=some o→H2 b=some o)→zakw H1 H2→(s.heap.objs.size≤s'.heap.objs.size)→Q () s') :
  wpAny (model X.prog X.w) X.A (noteFrame (.ref e) X.env) (fun _ s'=>wpAny (model X.prog X.w) X.A (setFlight (.ref e) none) Q E s') E s:=by
 obtain ⟨tv,he,ht⟩:=F.st
 obtain ⟨⟨vs,sl,oe,h1⟩,_,_⟩:=I.hok e _ he
 have hfs:∀ b,b∈(X.env::X.outer).filterMap (·.frame)→H1 b=none:=fun b hb=>I.stkFree b (by unfold frs;rw [hst];exact hb)
 have hT1:tv=.none∨∃ T,tv=.ref T∧T≠e∧s.heap.Tb T:=ht.imp id fun ⟨T,a,b,c,d⟩=>⟨T,a,b,(I.hok T _ d).1⟩
 refine zaad (base:=X.base) (L:=X.env.locals) (by rw [← hst];exact I.ok.frames) (by rw [← hst];exact I.stack) hfr oe rfl (hT1.imp (fun z=>by rw [h1,z]) fun ⟨T,a,b,c⟩=>⟨T,by rw [h1,a],b,c⟩) fun h' T a1 a2 a3 a4 a5 a6 a7=>?_
 have nT:H1 T=none:=I.hok.fresh a1
 have tr:∀ b,vs[1]?=some (.ref b)→H1 b=some (.ext fun h=>h.Tb b)∧b≠e∧h0.get? b=none:=fun b q=>by
  rw [h1] at q
  rcases ht with z|⟨T0,z,b1,c1,d1⟩
  ·rw [z] at q;cases q
  ·rw [z] at q;cases q;exact ⟨d1,b1,c1⟩
 let H2:Hp:=upd (upd H1 T (.ext fun h=>h.Tb T)) e (.ext (xeD e C dx (.ref T)))
 have h2:∀ b,b≠e→b≠T→H2 b=H1 b:=fun b q z=>by show upd _ _ _ b=_;rw [zbd q,zbd z]
 have h2e:H2 e=some (.ext (xeD e C dx (.ref T))):=zax
 have h2T:H2 T=some (.ext fun h=>h.Tb T):=by show upd _ _ _ T=_;rw [zbd a2,zax]
 have ext2:∀ b o,H1 b=some o→(∀ φ,o≠.ext φ)→H2 b=some o:=fun b o q n=>by
  rw [h2 b (fun z=>by rw [z,he] at q;cases q;exact n _ rfl) (fun z=>by rw [z,nT] at q;cases q)];exact q
 have kp:∀ b o,H1 b=some o→b≠e→vs[1]?≠some (.ref b)→∀ u,s.heap.get? b=some u→h'.get? b=some u:=fun b o q n n2 u z=>a3 b u n n2 (fun m=>by rw [hfs b m] at q;cases q) z
 have hsz1:1<vs.size:=(qAm.mp h1).1
 have ok2:HOk X.prog X.w H2 h':=fun b o q=>by
  by_cases hb:b=e
  ·subst hb
   rw [h2e] at q
   cases q
   exact zanc ⟨_,_,a6,by rw [Array.getElem?_setIfInBounds_self_of_lt hsz1]⟩
  ·by_cases hbT:b=T
   ·subst hbT
    rw [h2T] at q
    cases q
    exact zagq a7
   ·rw [h2 b hb hbT] at q
    by_cases hv:vs[1]?=some (.ref b)
    ·rw [(tr b hv).1] at q
     cases q
     exact zagq (a5 b hv)
    ·refine (I.hok b o q).stay (fun c u hc z=>?_) (fun c z=>ext2 c _ z (fun φ y=>by cases y)) (fun c xs z=>ext2 c _ z (fun φ y=>by cases y))
     rcases hc with rfl|hc
     ·exact kp c o q hb hv u z
     ·exact kp c _ hc (fun y=>by rw [y,he] at hc;cases hc) (fun y=>by rw [(tr c y).1] at hc;cases hc) u z
 have un:Un (frs X.stack) [] H1 H2 s.heap h':=by
  have nb:∀ b,H1 b=none→b≠e∧vs[1]?≠some (.ref b):=fun b n=>⟨fun y=>(by rw [y,he] at n;cases n),fun y=>(by rw [(tr b y).1] at n;cases n)⟩
  have hfs':∀ b,b∈frs X.stack↔b∈(X.env::X.outer).filterMap (·.frame):=fun b=>by unfold frs;rw [hst]
  refine ⟨fun b o q n hb _=>a3 b o (nb b n).1 (nb b n).2 (fun m=>hb ((hfs' b).mpr m)) q,fun b o q n hb _=>a4 b o (nb b n).1 (nb b n).2 q,fun b o q n _=>?_,fun b o q _=>?_,fun b xs q=>ext2 b _ q (fun φ y=>by cases y),fun b o u q=>ext2 b _ q (fun φ y=>by cases y),fun b ps q=>⟨#[],by rw [ext2 b _ q (fun φ y=>by cases y)];simp⟩⟩
  ·rw [h2 b (nb b n).1 (fun y=>by rw [y] at q;exact absurd (qK q) (Nat.not_lt.mpr a1))];exact n
  ·by_cases hb:b=e
   ·exact ⟨_,by rw [hb];exact a6⟩
   ·by_cases hv:vs[1]?=some (.ref b)
    ·obtain ⟨oT,_,z,_⟩:=a5 b hv;exact ⟨oT,z⟩
    ·obtain ⟨sl,z⟩:=a4 b o hb hv q;exact ⟨_,z⟩
 have n0:h0.get? T=none:=by
  cases y:h0.get? T with
  | none=>rfl
  | some ob=>obtain ⟨o',z⟩:=hz T ob y;exact absurd (qK z) (Nat.not_lt.mpr a1)
 have hs:s.heap.objs.size≤h'.objs.size:=qCA (qA6 a1 (let ⟨_,_,z,_⟩:=a7;qK z))
 refine k _ H2 (I.call' (s':={s with heap:=h'}) rfl un ok2 I.bare (fun b z=>absurd z (by simp))) ⟨T,h2e,a2,n0,h2T⟩ (fun b o ob q z=>?_) ext2 hs
 rw [h2 b (fun y=>by rw [y,F.new] at q;cases q) (fun y=>by rw [y,nT] at z;cases z)]
 exact z
theorem zakx {h0:Heap} {Q:Unit→Shared→Prop} (I:Inv X pins σ H1 s) (hst:X.stack=X.env::X.outer) (hfr:X.env.frame=some X.env.locals) (hz:∀ b ob,h0.get? b=some ob→∃ o',s.heap.get? b=some o') (F:Flt h0 H1 e C dx)
  (k:∀ s' H2,Inv X pins σ H2 s'→(∃ T,H2 e=some (.ext (xeD e C dx (.ref T)))∧T≠e∧h0.get? T=none∧H2 T=some (.ext fun h=>h.Tb T)) →
   (∀ b o ob,h0.get? b=some ob→H1 b=some o→H2 b=some o)→zakw H1 H2→(s.heap.objs.size≤s'.heap.objs.size)→Q () s') :
  wpAny (model X.prog X.w) X.A (leaving X.env (.ref e)) Q E s:=by
 unfold leaving
 exact qC (zxi I hst hfr hz F k)
end
theorem zand {P:Program} {w:World} {K:qB} {mg:Str→Option Value} {base:Heap} {N:List Str} {qual:Str} {scope:Scope} {f:Addr} {cd:Value} {A:Around} {outer:List Env} {s:Shared} {H:Hp} {E:XK}
  {pins:List (Addr×Obj)} {σ:St} {H1:Hp} {s1:Shared} {e C dx:Addr} (I:Inv (cxOf (CXE P w) P w K mg base N qual scope f cd A outer s H E) pins σ H1 s1) (h0k:HOk P w H s.heap) (F:Flt s.heap H1 e C dx) (q:StX H E (.ref C) (some dx) H1) :
  (cxOf (CXE P w) P w K mg base N qual scope f cd A outer s H E).xe (.ref e) s1:=by
 refine zakx (X:=cxOf (CXE P w) P w K mg base N qual scope f cd A outer s H E) I rfl rfl (fun b ob z=>I.base.there b ob z (fun y=>absurd (show b∈([]:List Addr) from y) (by simp))) F fun s' H2 I2 ht hk hx _=>?_
 refine ⟨e,C,dx,H2,rfl,I2.os,I2.bare,I2.base,I2.hok,⟨F.new,_,ht.choose_spec.1,.inr ⟨_,rfl,ht.choose_spec.2⟩⟩,fun H3 r1 r2=>q H3 (fun b o z1 z2=>?_) (fun b o z n=>r2 b o (hx b o z n) n)⟩
 obtain ⟨ob,y⟩:=(h0k b o z1).there
 exact r1 b o z1 (hk b o ob y z2)
theorem zaae {P:Program} {w:World} {K:qB} {mg:Str→Option Value} {base:Heap} {N:List Str} {qual:Str} {scope:Scope} {f:Addr} {cd:Value} {A:Around} {outer:List Env} {s:Shared} {H:Hp} {E:XK} (h0k:HOk P w H s.heap) :
  zwi (CXE P w) (cxOf (CXE P w) P w K mg base N qual scope f cd A outer s H E) (StX H E):=by
 intro pins σ H1 s1 e s2 I h
 obtain ⟨ea,C,dx,H2,rfl,os,bare,un,ok,F,q⟩:=h
 have I2:=I.call' (s':=s2) os un ok bare (fun b z=>absurd z (by simp))
 have old:∀ b ob,s.heap.get? b=some ob→∃ o',s1.heap.get? b=some o':=fun b ob z=>I.base.there b ob z (fun y=>absurd (show b∈([]:List Addr) from y) (by simp))
 have nw:∀ b,s1.heap.get? b=none→s.heap.get? b=none:=fun b z=>by
  cases y:s.heap.get? b with
  | none=>rfl
  | some ob=>obtain ⟨o',y'⟩:=old b ob y;rw [z] at y';cases y'
 refine zand I2 h0k ⟨nw _ F.new,?_⟩ (q H2 (fun _ _ _ z=>z) (fun _ _ z _=>z))
 obtain ⟨tv,a,b⟩:=F.st
 exact ⟨tv,a,b.imp id fun ⟨T,x1,x2,x3,x4⟩=>⟨T,x1,x2,nw _ x3,x4⟩⟩
theorem zabv {CX:CXT} {P:Program} {w:World} {K:qB} {mg:Str→Option Value} {base:Heap} {x qual:Str} {st:Stmt} {f:Addr} {fd:q9} {N ps:List Str} {k:Nat} {sp:Sp} (Fu:Fun K x qual st f fd) (S:FnScope N ps (zam st)) (len:∀ vs H Q E,sp vs H Q E→vs.length=ps.length)
  (hbody:∀ (cdv:Value) (A:Around) (outer:List Env) (s:Shared) (H:Hp) (vs:List V) (Q:VK) (E:XK),Room k (A.deeper (envOfC qual (zam st) s.heap.objs.size f cdv))→HOk P w H s.heap→sp vs H Q E →
   ∃ t,PSs (cxOf CX P w K mg base N qual (zam st) f cdv A outer s H E) (zbp st) t∧t {nx:=fun _ H'=>Q .non H',rt:=Q} (zmm N vs) H):FnOk P w K mg base CX (k+1) f fd ps sp:=by
 refine ⟨len,fun A outer s H args us vs Q E hr e0 hb r hsp=>?_⟩
 obtain ⟨oc,od,kV,doc,pm,an,cdv,ct,osl,rfl,lk,hcd⟩:=Fu.ex
 have KX:K.In s.heap:=e0.mod.kin.keeps fun b o e=>(e0.bs b o e).1
 refine codeAny_call_function hr.depth (KX _ _ lk) rfl S.co S.gen rfl (qC2 KX hcd) (hb _ _ _ _ (qC1 S.kind (fun ⟨n,v⟩ hy=>?_) fun env he s1 x=>?_))
 ·rcases S.par n (qBG hy).1 with q|q
  ·exact .inl q
  ·exact .inr ⟨q,qB0 _ _ _ (.inl q)⟩
 ·subst he
  obtain ⟨t,ht,hq⟩:=hbody cdv A outer s H vs Q E (hr.deeper _) e0.hok hsp
  have I:=zwn (CX:=CX) (E:=E) S hr.hd e0 (len _ _ _ _ hsp) r x
  refine ⟨(e0.mod.nolimit.keeps fun b o e=>(e0.bs b o e).1).keeps x.toInCall.keep,codeAny_func (qBM (ht [] s1 (zmm N vs) H _ I hq) (fun fl s' hs=>?_) fun e s' hs=>hs)⟩
  cases fl with
  | ret u=>obtain ⟨v,σ',H',J,rv,q⟩:=hs;exact ⟨v,H',J.os,J.bare,J.base,J.hok,rv,q⟩
  | next=>obtain ⟨σ',H',J,q⟩:=hs;exact ⟨.non,H',J.os,J.bare,J.base,J.hok,rfl,q⟩
  | brk=>obtain ⟨_,_,_,q⟩:=hs;exact q.elim
  | cont=>obtain ⟨_,_,_,q⟩:=hs;exact q.elim
def xcR (K:qB) (C:Addr):Bool:=match K.lookup C with
 | some ⟨_,_,.cls cd,_⟩=>(match cd.mro with|_::bm=>zfm bm|_=>false)
 | _=>false
theorem zku {K:qB} {h:Heap} {C:Addr} (X:K.In h) (q:xcIn K C=true) (q2:xcR K C=true):∃ nm qn N bs bm sn sub ab col dd k0 k1 k2 k3 k5,
  h.get? C=some (excClassObj nm qn C N bs bm true sn sub ab col dd k0 k1 k2 k3 k5 "ValueError.__new__")∧zfm bm=true∧(Value.ref C::bm).contains (.type "AttributeError")=false∧(Value.ref C::bm).contains (.type "NameError")=false:=by
 obtain ⟨nm,qn,N,bs,bm,sn,sub,ab,col,dd,k0,k1,k2,k3,k5,hC,_,_,ha,hn⟩:=zasm X q
 refine ⟨nm,qn,N,bs,bm,sn,sub,ab,col,dd,k0,k1,k2,k3,k5,hC,?_,ha,hn⟩
 unfold xcR at q2
 split at q2
 ·rename_i a b cd sl ho
  have:=X _ _ ho
  rw [hC] at this
  have e:=qh this
  unfold excClassObj at e
  injection e with _ _ e _
  injection e with e
  subst e
  exact q2
 ·cases q2
structure XMk (K:qB) (C f:Addr):Prop where
 cls:xcIn K C=true
 tail:xcR K C=true
 init:PySem.W.findIn K (.ref C) "__init__" = some (some (.ref f))
 fn:PySem.W.isFn K (.ref f)=true
 kp:qN K (.ref C)=true
 sa:PySem.W.findIn K (.ref C) "__setattr__" = some (some (.builtin "object.__setattr__"))
 at_:PySem.W.findIn K (.ref C) "at" = some none
 ga:PySem.W.findIn K (.ref C) "__getattribute__" = some (some (.builtin "BaseException.__getattribute__"))
 gh:PySem.W.findIn K (.ref C) "__getattr__" = some none
def atV:V→Prop
 | .non=>True
 | .str x=>(PySem.reprText x).length≤1000
 | _=>False
def xe0 (e C:Addr) (h:Heap):Prop:=∃ vs sl,h.get? e=some {cls:=.ref C,dict:=none,data:=.fields vs,slots:=sl}∧vs[1]?=some .none
theorem zagr {P:Program} {w:World} {H:Hp} {h:Heap} {e C:Addr} (q:xe0 e C h):zfc P w H h e (.ext (xe0 e C)) :=
 ⟨q,(let ⟨_,_,a,_⟩:=q;⟨_,a⟩),fun h1 h2 ⟨vs,sl,a,b⟩ k=>⟨vs,sl,k _ a,b⟩⟩
def spI (C:Addr):Sp:=fun vs H Q _=>∃ e v,vs=[.ref e,v]∧H e=some (.ext (xe0 e C))∧atV v∧∀ dx,H dx=none→dx≠e→Q .non (upd (upd H dx (.xd [("at",v)])) e (.ext (xeD e C dx .none)))
section
variable {X:Cx} {pins:List (Addr×Obj)} {σ:St} {H:Hp} {s:Shared} {C f:Addr} {k:Nat} {fd:q9}
theorem Inv.new {h':Heap} {a:Addr} {o:HO} {t':Nat} (I:Inv X pins σ H s) (k:∀ b u,s.heap.get? b=some u→h'.get? b=some u) (hn:s.heap.get? a=none) (new:zfc X.prog X.w (upd H a o) h' a o):Inv X pins σ (upd H a o) {s with heap:=h',toks:=t'}:=by
 have hH:=HOk.no I.hok hn
 have ne:∀ b u,s.heap.get? b=some u→b≠a:=fun b u q z=>by rw [z,hn] at q;cases q
 have neH:∀ b u,H b=some u→b≠a:=fun b u q z=>by rw [z,hH] at q;cases q
 refine I.un (h':=h') ⟨fun b o q _ _ _=>k b o q,fun b o q _ _ _=>⟨o.slots,k b o q⟩,fun b o q n _=>by rw [zbd (ne b o q)];exact n,fun b o q _=>⟨o,k b o q⟩,fun b xs q=>by rw [zbd (neH b _ q)];exact q,fun b o u q=>by rw [zbd (neH b _ q)];exact q,fun b ps q=>⟨#[],by rw [zbd (neH b _ q),q];simp⟩⟩ fun b u q=>?_
 by_cases hb:b=a
 ·subst hb;rw [zax] at q;cases q;exact new
 ·rw [zbd hb] at q
  exact (I.hok b u q).stay (fun c v _ q=>k c v q) (fun c q=>by rw [zbd (neH c _ q)];exact q) fun c xs q=>by rw [zbd (neH c _ q)];exact q
theorem zags {v:V} {u:Value} (M:XMk X.K C f) (F:FnOk X.prog X.w X.K X.mg X.base CX0 k f fd ["self", "at"] (spI C)) (hr:Room (k+1) X.A) (hb:zqg X.K fd ["self", "at"] []) (hex:X.ex=[]) (I:Inv X pins σ H s) (rv:RelV v u) (av:atV v)
  {Q:Value→Shared→Prop} (q:∀ e dx H' s',Inv X pins σ H' s'→Flt X.s₀.heap H' e C dx→H' e=some (.ext (xeD e C dx .none))→H' dx=some (.xd [("at",v)])→Same H H'→Q (.ref e) s') :
  wpAny (model X.prog X.w) X.A (call (.ref C) [u]) Q X.xe s:=by
 obtain ⟨nm,qn,N,bs,bm,sn,sub,ab,col,dd,k0,k1,k2,k3,k5,hC,hbm,ha,hn⟩:=zku I.kIn M.cls M.tail
 obtain ⟨hh,g,d,tk,os⟩:=s
 obtain ⟨oI,hfI,hfc⟩:∃ oI,hh.get? f=some oI∧oI.cls=.type "function":=by
  have z:(X.K.lookup f).map (·.cls)=some (.type "function"):=beq_iff_eq.mp M.fn
  cases y:X.K.lookup f with
  | none=>rw [y] at z;cases z
  | some o=>rw [y] at z;exact ⟨o,I.kIn _ _ y,qh z⟩
 refine zaup (C:=C) hC (by rw [qAU,zel (by decide) hbm,qA4]) ha hn (qAf I.kIn M.init) hfI hfc (by show 1≤qU;rw [qBD];omega) fun h' e hm=>?_
 obtain ⟨t,he,htn,ht⟩:=hm.there
 have I2:=Inv.new (h':=h') (a:=e) (o:=.ext (xe0 e C)) (t':=tk) I hm.keeps hm.new (zagr ⟨_,_,he,rfl⟩)
 have hHe:H e=none:=HOk.no I.hok hm.new
 have sp:spI C [.ref e,v] (upd H e (.ext (xe0 e C))) (fun r H2=>r=.non∧∃ dx,H dx=none∧dx≠e∧H2=upd (upd (upd H e (.ext (xe0 e C))) dx (.xd [("at",v)])) e (.ext (xeD e C dx .none))) E0 :=
  ⟨e,v,rfl,zax,av,fun dx hd ne=>⟨rfl,dx,by rw [zbd ne] at hd;exact hd,ne,rfl⟩⟩
 refine qCc (qBh (F.run _ X.stack _ _ ⟨[.ref e,u],[]⟩ [.ref e,u] _ _ E0 (hr.make C [u] []) (I2.env0.make C [u] []) (by have:=hb ⟨h',g,d,tk,os⟩ [.ref e,u] I2.kIn rfl;rw [qx] at this;exact this) (show Vals [V.ref e,v] [Value.ref e,u] from .cons rfl (.cons rv .nil)) sp) fun r s' hq=>?_)
 cases r with
 | error x=>exact hq.elim
 | ok fl =>
  cases fl with
  | ret w =>
   obtain ⟨v',H2,I3,rv',rfl,dx,hd,ne,rfl⟩:=I2.after hq
   refine ⟨rv',q e dx _ s' I3 ⟨?_,.none,zax,.inl rfl⟩ zax (by rw [zbd ne,zax]) fun b o z=>?_⟩
   ·cases y:X.s₀.heap.get? e with
    | none=>rfl
    | some ob =>
     obtain ⟨o',z⟩:=I.base.there e ob y (by rw [hex];simp)
     have:=hm.new
     rw [show hh.get? e=some o' from z] at this
     cases this
   ·have n1:b≠e:=fun y=>by rw [y,hHe] at z;cases z
    have n2:b≠dx:=fun y=>by rw [y,hd] at z;cases z
    rw [zbd n1,zbd n2,zbd n1]
    exact z
  | next=>exact False.elim hq
  | brk=>exact False.elim hq
  | cont=>exact False.elim hq
def Lvs (X:Cx) (E:XK):Prop:=∀ (pins:List (Addr×Obj)) (σ:St) (H1:Hp) (s1:Shared) (e C dx:Addr),Inv X pins σ H1 s1→Flt X.s₀.heap H1 e C dx→E (.ref C) (some dx) H1→X.xe (.ref e) s1
def zagt (C:Addr) (E:XK) (te:TE):TS:=fun _ σ H=>te σ H fun v H1=>atV v∧∀ H' dx,Same H1 H'→H' dx=some (.xd [("at",v)])→E (.ref C) (some dx) H'
theorem zaky {E:XK} {x:Str} {np cpos pos:Pos} {a:Expr} {te:TE} (M:XMk X.K C f) (F:FnOk X.prog X.w X.K X.mg X.base CX0 k f fd ["self", "at"] (spI C)) (hr:Room (k+1) X.A) (hb:zqg X.K fd ["self", "at"] []) (hex:X.ex=[]) (hc:X.calm=true) (hx:Lvs X E)
  (hg:Gl X x) (hm:X.mg x=some (.ref C)) (ha:PE X a te) (hdb:(x==("__debug__":Str))=false:=by decide) (he:starEach [a] X.env=[(false,eval a X.env)]:=by rfl) :
  PS X (.Raise (some (.Call (.Name x np) [a] [] cpos)) none pos) (zagt C E te):=by
 intro pins s σ H D I h
 rw [arm_exec_Raise]
 refine qC (qBZ ?_)
 unfold raiseStmt
 simp only [evalOpt,Option.map]
 refine qC ?_
 have hcall:wpAny (model X.prog X.w) X.A (eval (.Call (.Name x np) [a] [] cpos) X.env) (fun r s'=>∃ e dx H' v H1,r=.ref e∧Inv X pins σ H' s'∧Flt X.s₀.heap H' e C dx∧H' e=some (.ext (xeD e C dx .none))∧H' dx=some (.xd [("at",v)])∧Same H1 H'∧∀ H' dx,Same H1 H'→H' dx=some (.xd [("at",v)])→E (.ref C) (some dx) H') X.xe s:=by
  refine qBc (zqd I hg hm ?_ hdb)
  refine qCB (h₀:=X.base) I.ok.mod.kin M.kp (thn (zki ha zpb he cpos pins s σ H (fun vs H1=>match vs with|[v]=>atV v∧∀ H' dx,Same H1 H'→H' dx=some (.xd [("at",v)])→E (.ref C) (some dx) H'|_=>False) I h) fun us s1 ⟨vs,H1,I1,r,q⟩=>⟨I1.kIn,?_⟩) he rfl
  match vs,q,r with
  | [v],q,r =>
   obtain ⟨u,rfl,rv⟩:=zwg r
   exact zags M F hr hb hex I1 rv q.1 fun e dx H' s' I' fl he0 hd sm=>⟨e,dx,H',v,H1,rfl,I',fl,he0,hd,sm,q.2⟩
  | [],q,_=>exact q.elim
  | _::_::_,q,_=>exact q.elim
 refine qC (thn hcall fun r s' hh=>?_)
 obtain ⟨e,dx,H',v,H1,rfl,I',fl,he',hd,sm,q⟩:=hh
 refine qC (qBZ (qI ?_))
 obtain ⟨nm,qn,N,bs,bm,sn,sub,ab,col,dd,k0,k1,k2,k3,k5,hC,hbm,_,_⟩:=zku I'.kIn M.cls M.tail
 have hcB:(Value.ref C::bm).contains (.type "BaseException")=true:=by rw [qAU,zel (by decide) hbm,qA4]
 obtain ⟨⟨vs,sl,oe,h1⟩,_,_⟩:=I'.hok e _ he'
 have hxe:=hx pins σ H' s' e C dx I' fl (q H' dx sm hd)
 have hh:=I'.ok.hd hc
 obtain ⟨hp,g,d,tk,os⟩:=s'
 repeat (first|with_reducible refine qk oe ?_|with_reducible refine qk hC ?_|(with_reducible refine qAk hC ?_;rw [hcB])|wp_step)
 rw [h1]
 dsimp only
 refine qI ?_
 rw [if_neg (by decide)]
 exact qI (wpAny_raiseNew_none hh hxe)
end
section
variable {X:Cx} {pins:List (Addr×Obj)} {σ:St} {H:Hp} {s:Shared} {C f:Addr} {k:Nat} {fd:q9}
def tMsg (te:TE):TE:=fun σ H Q=>te σ H fun v H1=>atV v∧∀ m,Q (.str m) H1
theorem zapb {v:V} {u:Value} {A:Around} {E:Value→Shared→Prop} {Q:Value→Shared→Prop} (r:RelV v u) (av:atV v) (q:∀ (m:Str) t,m.length≤1000→Q (.str m s.toks) {s with toks:=t}) :
  wpAny (model X.prog X.w) A (pyReprObj u) Q E s:=by
 cases v with
 | non =>
  cases r
  exact wpAny_pyReprObj_gives (T:="NoneType") rfl F.slot_NoneType_repr F.entry_NoneType_repr (by unfold argsOk;kernel_rfl) gives_none_repr (q "None" _ (by decide)) (hx:=by decide)
 | str x =>
  obtain ⟨t,rfl⟩:=r
  exact wpAny_pyReprObj_gives (T:="str") rfl PyProof.Rows.slot_str_repr PyProof.Rows.entry_str_repr (PyProof.Rows.args_str_repr _) (gives_str_repr x t) (q _ _ av) (hx:=qAG av (by rw [qBD];omega))
 | _=>exact av.elim
theorem zaso {c:Str} {j p a p2 pos te} (ha:PE X a te) (hc:c.length≤1000):PE X (.JoinedStr [.Constant (.str c) j p,.FormattedValue a 114 none p2] pos) (tMsg te):=by
 intro pins s σ H Q I h
 have la:∀ x y:Str,(x++y).length=x.length+y.length:=fun x y=>by show (x.cps++y.cps).size=x.cps.size+y.cps.size;exact Array.size_append
 have l0:(Str.empty).length=0:=rfl
 have big:(3000:Nat)≤qU:=by rw [qBD];omega
 refine wpAny_JoinedStr ?_
 show wpAny _ _ (eval (.Constant (.str c) j p) X.env) (fun v s₁=>∃ y t,v=.str y t∧(Str.empty++y).length≤qU∧wpAny _ _ (eval (.FormattedValue a 114 none p2) X.env) (fun v s₂=>∃ z t,v=.str z t∧((Str.empty++y)++z).length≤qU∧(((Str.empty++y)++z).length≤qU∧_)) _ s₁) _ s
 refine qCL ⟨c,_,rfl,by rw [la,l0];omega,?_⟩
 refine wpAny_FormattedValue_repr (thn (ha pins _ σ H _ (I.tok _) h) fun u s1 ⟨v,H1,I1,r,av,q⟩=>zapb (X:=X) r av fun m t hm=>?_)
 have lz:((Str.empty++c)++m).length≤qU:=by rw [la,la,l0];omega
 have fin:∀ tk,EP X pins σ Q (.str ((Str.empty++c)++m) tk) {s1 with toks:=tk+1}:=fun tk=>⟨.str _,H1,I1.tok _,⟨_,rfl⟩,q _⟩
 exact wpAny_formatField_str ⟨m,_,rfl,lz,lz,fin _⟩ ⟨m,_,rfl,lz,lz,fin _⟩ (by omega)
def zane (C:Addr) (t:TA):TE:=fun σ H Q=>t σ H fun vs H1=>∃ e m,vs=[.ref e,m]∧H1 e=some (.ext (xe0 e C))∧Q .non H1
theorem zaaf {K:qB}:PySem.W.findCls K (.type "ValueError") (.type "type") "__init__" = some (.val (.builtin "ValueError.__init__")):=by
 first|rfl|decide +kernel|kernel_rfl
theorem zkv:bootBuiltins "ValueError" = some (.type "ValueError"):=by decide +kernel
theorem zakz {p p2 pos:Pos} {e:Expr} {es:List Expr} {t:TA} {pl:Sem Bool} (M:XMk X.K C f) (hg:Gl X "ValueError") (hm:X.mg "ValueError" = none) (ha:PA X (e::es) t)
  (hst:starEach (e::es) X.env=(false,eval e X.env)::starEach es X.env:=by rfl) (hpl:(backTo pos (starEach es X.env)).any (·.1)=false:=by rfl)
  (ht:eval (.Call (.Attribute (.Name "ValueError" p) "__init__" p2) (e::es) [] pos) X.env=(do
   let ov ← eval (.Name "ValueError" p) X.env
   standAt p2.atName
   let (f,first) ← holding [ov] (getMethod ov "__init__" pl)
   callWith pos f first (backTo pos (starEach (e::es) X.env)) (backToKw pos (keywordEach [] X.env))):=by rfl) :
  PE X (.Call (.Attribute (.Name "ValueError" p) "__init__" p2) (e::es) [] pos) (zane C t):=by
 intro pins s σ H Q I h
 refine PySem.W.methodCall_KW (pl:=pl) (zqe I hg hm zkv ?_ (by decide) (by decide)) ht
 obtain ⟨m,fr⟩:=I.fr
 refine PySem.W.method_type fr I.ok.mod.kin (by kernel_rfl) (by decide +kernel) zaaf (by decide +kernel) ?_
 have hA:=ha pos pins _ σ H _ (I.tok (s.toks+1)) h
 rw [hst] at hA ⊢
 refine qCr (by show (false||(backTo pos (starEach es X.env)).any (·.1))=false;rw [hpl]<;>rfl) (qC5 ?_)
 refine thn hA fun us s2 ⟨vs,H2,I2,r2,e',mv,ev,he,q⟩=>?_
 subst ev
 obtain ⟨u1,u2,rfl,r1,r3⟩:=zwh r2
 cases r1
 obtain ⟨nm,qn,N,bs,bm,sn,sub,ab,col,dd,k0,k1,k2,k3,k5,hC,hbm,_,_⟩:=zku I2.kIn M.cls M.tail
 obtain ⟨⟨vs,sl,oe,h1⟩,_,_⟩:=I2.hok e' _ he
 obtain ⟨hh,g,d,tk,os⟩:=s2
 refine zaur hbm (by show 1≤qU;rw [qBD];omega) hC oe rfl rfl (Nat.lt_of_succ_lt (qAm.mp h1).1) fun h' p' a1 a2=>?_
 refine ⟨.non,H2,?_,rfl,q⟩
 have hup:upd H2 e' (.ext (xe0 e' C))=H2:=by
  funext b
  by_cases hb:b=e'
  ·subst hb;rw [zax,he]
  ·rw [zbd hb]
 have:=I2.write (x:=e') (e:=e') (o:=.ext (xe0 e' C)) (h':=h') (t':=tk) (by rw [he];exact True.intro) (.inl rfl) (fun b u hb z=>a2 b u hb z) ⟨_,a1⟩ (zagr ⟨_,_,a1,by rw [Array.getElem?_setIfInBounds_ne (by decide)];exact h1⟩)
 rw [hup] at this
 exact this
end
section
variable {X:Cx} {pins:List (Addr×Obj)} {σ:St} {H:Hp} {s:Shared} {C f:Addr} {k:Nat} {fd:q9}
def tSat (C:Addr) (ta tv:TE):TS:=fun D σ H=>tv σ H fun v H1=>ta σ H1 fun x H2=>∃ e,x=.ref e∧H2 e=some (.ext (xe0 e C))∧∀ dx,H2 dx=none→dx≠e→D.nx σ (upd (upd H2 dx (.xd [("at",v)])) e (.ext (xeD e C dx .none)))
theorem zasp {o value:Expr} {pos' pos:Pos} {ta tv:TE} (M:XMk X.K C f) (ha:PE X o ta) (hv:PE X value tv) (hs:swapsWith value (some (.Attribute o "at" pos')) pos.line X.env=pure false:=by rfl):PS X (.Assign [.Attribute o "at" pos'] value pos) (tSat C ta tv):=by
 intro pins s σ H D I h
 refine plainObj_wpAny_Assign_Attribute (thn (hv pins s σ H _ I h) fun u s1 ⟨y,H1,I1,ry,q⟩=>thn (ha pins s1 σ H1 _ I1 q) fun ov s2 ⟨x,H2,I2,rx,e,ex,he,q2⟩=>?_) hs
 subst ex
 obtain rfl:ov=Value.ref e:=rx
 obtain ⟨nm,qn,N,bs,bm,sn,sub,ab,col,dd,k0,k1,k2,k3,k5,hC,hbm,_,_⟩:=zku I2.kIn M.cls M.tail
 obtain ⟨⟨vs,sl,oe,h1⟩,_,_⟩:=I2.hok e _ he
 obtain ⟨hh,g,d,tk,os⟩:=s2
 refine zasn hbm hC oe rfl (fun c z=>by cases z) rfl (qAf I2.kIn M.sa) (qAf I2.kIn M.at_) fun h' tk' dx a1 a2 a3 a4=>?_
 have hdx:H2 dx=none:=I2.hok.fresh a1
 have ne:dx≠e:=fun z=>by rw [z,he] at hdx;cases hdx
 refine ⟨σ,upd (upd H2 dx (.xd [("at",y)])) e (.ext (xeD e C dx .none)),?_,q2 dx hdx ne⟩
 have n2:∀ b,b≠e→b≠dx→upd (upd H2 dx (.xd [("at",y)])) e (.ext (xeD e C dx .none)) b=H2 b:=fun b p q=>by rw [zbd p,zbd q]
 have nb:∀ b o,H2 b=some o→(∀ φ,o≠.ext φ)→b≠e∧b≠dx:=fun b o z n=>⟨fun y=>(by rw [y,he] at z;cases z;exact n _ rfl),fun y=>(by rw [y,hdx] at z;cases z)⟩
 have st:∀ b o,H2 b=some o→(∀ φ,o≠.ext φ)→upd (upd H2 dx (.xd [("at",y)])) e (.ext (xeD e C dx .none)) b=some o:=fun b o z n=>by rw [n2 b (nb b o z n).1 (nb b o z n).2];exact z
 have lt:∀ b u,hh.get? b=some u→b≠dx:=fun b u z y=>by rw [y] at z;exact absurd (qK z) (Nat.not_lt.mpr a1)
 refine Inv.un (s:=⟨hh,g,d,tk,os⟩) I2 (h':=h') ⟨fun b o z n _ _=>a4 b o (fun y=>by rw [y,he] at n;cases n) z,fun b o z n _ _=>⟨o.slots,a4 b o (fun y=>by rw [y,he] at n;cases n) z⟩,fun b o z n _=>?_,fun b o z _=>?_,fun b xs z=>st b _ z (fun φ y=>by cases y),fun b o u z=>st b _ z (fun φ y=>by cases y),fun b ps z=>⟨#[],by rw [st b _ z (fun φ y=>by cases y)];simp⟩⟩ fun b o z=>?_
 ·rw [n2 b (fun y=>by rw [y,he] at n;cases n) (lt b o z)];exact n
 ·by_cases hb:b=e
  ·exact ⟨_,by rw [hb];exact a3⟩
  ·exact ⟨o,a4 b o hb z⟩
 ·by_cases hb:b=e
  ·subst hb
   rw [zax] at z
   cases z
   exact zanc ⟨vs,sl,a3,h1⟩
  ·by_cases hd:b=dx
   ·subst hd
    rw [zbd hb,zax] at z
    cases z
    refine ⟨_,a2,fun n=>?_⟩
    by_cases hn:n = "at"
    ·subst hn
     exact ry
    ·have:List.lookup n [((("at":Str)),y)]=none:=by
      rw [qAM]
      have:(n==("at":Str))=false:=by rw [beq_eq_false_iff_ne];exact hn
      rw [this]
      rfl
     rw [this]
     show RelO none (if n=("at":Str) then _ else _)
     rw [if_neg hn]
     trivial
   ·rw [n2 b hb hd] at z
    refine (I2.hok b o z).stay (fun c u hc y=>a4 c u ?_ y) (fun c y=>st c _ y (fun φ x=>by cases x)) (fun c xs y=>st c _ y (fun φ x=>by cases x))
    rcases hc with rfl|hc
    ·exact hb
    ·exact fun x=>by rw [x,he] at hc;cases hc
def tXat (C:Addr) (te:TE):TE:=fun σ H Q=>te σ H fun x H1=>∃ e dx tv v,x=.ref e∧H1 e=some (.ext (xeD e C dx tv))∧H1 dx=some (.xd [("at",v)])∧Q v H1
theorem zasq {o:Expr} {pos:Pos} {te:TE} (M:XMk X.K C f) (ho:PE X o te) (hb:attributeBase o "at" X.env (eval o X.env)=eval o X.env:=by rfl):PE X (.Attribute o "at" pos) (tXat C te):=by
 intro pins s σ H Q I h
 refine zaoc hb (thn (ho pins s σ H _ I h) fun u s1 ⟨x,H1,I1,rx,e,dx,tv,v,ex,he,hd,q⟩=>?_)
 subst ex
 obtain rfl:u=Value.ref e:=rx
 obtain ⟨nm,qn,N,bs,bm,sn,sub,ab,col,dd,k0,k1,k2,k3,k5,hC,hbm,_,_⟩:=zku I1.kIn M.cls M.tail
 obtain ⟨⟨vs,sl,oe,h1⟩,_,_⟩:=I1.hok e _ he
 obtain ⟨mA,ns,rl⟩:=I1.hok dx _ hd
 have hv:∃ w,mA "at" = some w∧RelV v w:=by
  have:=rl "at"
  rw [show List.lookup ("at":Str) [(("at":Str),v)]=some v from rfl] at this
  cases y:mA "at" with
  | none=>rw [y] at this;exact this.elim
  | some w=>rw [y] at this;exact ⟨w,rfl,this⟩
 obtain ⟨w,hw,rw'⟩:=hv
 obtain ⟨hh,g,d,tk,os⟩:=s1
 refine zauq hbm hC oe rfl rfl rfl ns.ns hw (qAf I1.kIn M.ga) (qAf I1.kIn M.gh) (qAf I1.kIn M.at_) (zafd rw') fun tk'=>⟨v,H1,I1.tok _,rw',q⟩
end
noncomputable def zala (c:Str) (p1 p2 p3 p4 p5 p6 p7 p8 p9 p10 p11 p12 p13:Pos):List Stmt :=
 [.Expr (.Call (.Attribute (.Name "ValueError" p1) "__init__" p2) [.Name "self" p3,.JoinedStr [.Constant (.str c) 0 p4,.FormattedValue (.Name "at" p5) 114 none p6] p7] [] p8) p9,
  .Assign [.Attribute (.Name "self" p10) "at" p11] (.Name "at" p12) p13]
noncomputable def zalb (c:Str) (p1 p2 p3 p4 p5 p6 p7 p8:Pos):Prop:=∀ env:Env,∃ pl:Sem Bool,eval (.Call (.Attribute (.Name "ValueError" p1) "__init__" p2) [.Name "self" p3,.JoinedStr [.Constant (.str c) 0 p4,.FormattedValue (.Name "at" p5) 114 none p6] p7] [] p8) env=(do
   let ov ← eval (.Name "ValueError" p1) env
   standAt p2.atName
   let (f,first) ← holding [ov] (getMethod ov "__init__" pl)
   callWith p8 f first (backTo p8 (starEach [.Name "self" p3,.JoinedStr [.Constant (.str c) 0 p4,.FormattedValue (.Name "at" p5) 114 none p6] p7] env)) (backToKw p8 (keywordEach [] env)))
theorem zuw {P:Program} {w:World} {K:qB} {mg:Str→Option Value} {base:Heap} {C f:Addr} {qual:Str} {st:Stmt} {fd:q9} {c:Str} {p1 p2 p3 p4 p5 p6 p7 p8 p9 p10 p11 p12 p13:Pos} (F:Fun K "__init__" qual st f fd) (M:XMk K C f) (hm:mg "ValueError" = none)
  (hb:zbp st=zala c p1 p2 p3 p4 p5 p6 p7 p8 p9 p10 p11 p12 p13) (hsc:zam st={kind:=.function,names:=[("self",.local),("at",.local),("ValueError",.globalImplicit)],isGenerator:=false,isCoroutine:=false}) (hc:c.length≤1000) (ht:zalb c p1 p2 p3 p4 p5 p6 p7 p8) :
  FnOk P w K mg base CX0 1 f fd ["self", "at"] (spI C):=by
 have nd:(["self", "at"]:List Str).Nodup:=by decide +kernel
 have S:FnScope ["self", "at"] ["self", "at"] (zam st):=by rw [hsc];exact ⟨rfl,rfl,rfl,nd,rfl,by decide +kernel,by decide +kernel⟩
 refine F.ok S (fun vs H Q E h=>by obtain ⟨e,v,rfl,_⟩:=h;rfl) fun cdv A outer s H vs Q E hr h=>?_
 obtain ⟨e,v,rfl,he,av,q⟩:=h
 have g0:visB (cxOf CX0 P w K mg base ["self", "at"] qual (zam st) f cdv A outer s H E).nox.env.scope "self" = true:=by show visB (zam st) _=_;rw [hsc];decide +kernel
 have g1:visB (cxOf CX0 P w K mg base ["self", "at"] qual (zam st) f cdv A outer s H E).nox.env.scope "at" = true:=by show visB (zam st) _=_;rw [hsc];decide +kernel
 have g2:Gl (cxOf CX0 P w K mg base ["self", "at"] qual (zam st) f cdv A outer s H E).nox "ValueError":=by show (zam st).names.lookup _=_;rw [hsc];decide +kernel
 have e0:∀ {p:Pos},PE (cxOf CX0 P w K mg base ["self", "at"] qual (zam st) f cdv A outer s H E).nox (.Name "self" p) (tVar 0):=fun {p}=>pv 0 rfl g0
 have e1:∀ {p:Pos},PE (cxOf CX0 P w K mg base ["self", "at"] qual (zam st) f cdv A outer s H E).nox (.Name "at" p) (tVar 1):=fun {p}=>pv 1 rfl g1
 refine ⟨tSeq (tDrop (zane C (tCons (tVar 0) (tCons (tMsg (tVar 1)) tNil)))) (tSat C (tVar 0) (tVar 1)),?_,?_⟩
 ·rw [hb]
  obtain ⟨pl,ht⟩:=ht (cxOf CX0 P w K mg base ["self", "at"] qual (zam st) f cdv A outer s H E).nox.env
  exact zlo (zuh (zakz (f:=f) (pl:=pl) M g2 hm (zki e0 (zki (zaso e1 hc) zpb)) rfl rfl ht)) (zml (zasp M e0 e1))
 ·exact ⟨_,rfl,v,rfl,av,fun m=>⟨e,_,rfl,he,v,rfl,_,rfl,e,rfl,he,q⟩⟩
def atD:PyData→Bool
 | .none=>true
 | .str x=>decide ((PySem.reprText x).length≤1000)
 | _=>false
theorem zabw {d:PyData} (h:atD d=true):zgq d=true:=by cases d<;>first|rfl|cases h
theorem zaus {H:Hp} {d:PyData} {v:V} (h:atD d=true) (r:Rp H d v):atV v:=by
 cases d with
 | none=>rw [zzx r];trivial
 | str x=>rw [zne r];show (PySem.reprText x).length≤1000;exact of_decide_eq_true h
 | _=>cases h
def RX (H0:Hp) (C:Addr) (d:PyData):XK:=fun c od H'=>c=.ref C∧Same H0 H'∧zgq d=true∧∃ dx v,od=some dx∧H' dx=some (.xd [("at",v)])∧Rp H' d v
theorem RX.base {H0 H1:Hp} {C:Addr} {d:PyData} (s:Same H0 H1) {c:Value} {od:Option Addr} {H':Hp} (h:RX H1 C d c od H'):RX H0 C d c od H' :=
 let ⟨a,b,r⟩:=h;⟨a,s.trans b,r⟩
theorem RX.stx {H0:Hp} {C:Addr} {d:PyData} {E:XK} (h:∀ c od H',RX H0 C d c od H'→E c od H') {c:Value} {od:Option Addr} {H':Hp} (q:RX H0 C d c od H'):StX H0 E c od H':=by
 intro H3 r1 r2
 obtain ⟨a,b,f,dx,v,e1,e2,e3⟩:=q
 exact h _ _ _ ⟨a,fun x o z=>r1 x o z (b x o z),f,dx,v,e1,r2 _ _ e2 (fun φ z=>by cases z),zqo f e3⟩
inductive OutX where
 | ok (o:Out)
 | rx (c:Str) (d:PyData)
def SatX (cl:Str→Addr) (fx:Addr→Prop) (H0:Hp) (D:Ends) (E:XK):OutX→Prop
 | .ok o=>Sat fx H0 D o
 | .rx c d=>∀ k od H',RX H0 (cl c) d k od H'→E k od H'
abbrev SFX:=DEnv→Option OutX
def SSx (cl:Str→Addr) (ts:XK→TS) (F:SFX):Prop:=∀ (fx:Addr→Prop) (H0:Hp) (env:DEnv) (σ:St) (H:Hp) (D:Ends) (E:XK),EnvOk fx H0 env σ H→∀ o,F env=some o→SatX cl fx H0 D E o→ts E D σ H
section
variable {cl:Str→Addr}
def xOf (f:SF):SFX:=fun env=>(f env).map .ok
theorem zjz {t:TS} {f:SF} (h:SS t f):SSx cl (fun _=>t) (xOf f):=by
 intro fx H0 env σ H D E hE o e q
 obtain ⟨o',e',rfl⟩:=qG.mp e
 exact h fx H0 env σ H D hE o' e' q
def xSeq (f g:SFX):SFX:=fun env=>(f env).bind fun o=>match o with
 | .ok (.nx env')=>g env'
 | o=>some o
theorem zij {t u:XK→TS} {f g:SFX} (h1:SSx cl t f) (h2:SSx cl u g):SSx cl (fun E=>tSeq (t E) (u E)) (xSeq f g):=by
 intro fx H0 env σ H D E hE o e q
 obtain ⟨o1,e1,e⟩:=qA.mp e
 refine h1 fx H0 env σ H _ E hE o1 e1 ?_
 cases o1 with
 | rx c d=>cases e;exact q
 | ok o1 =>
  cases o1 with
  | nx env'=>exact fun σ' H' h'=>h2 fx H0 env' σ' H' D E h' o e q
  | bk env'=>cases e;exact q
  | ct env'=>cases e;exact q
  | rt d fr=>cases e;exact q
def xIf (c:TF) (f g:SFX):SFX:=fun env=>(c env).bind fun b=>if b=true then f env else g env
theorem zabx {tc:TT} {t u:XK→TS} {c:TF} {f g:SFX} (hc:ST tc c) (h1:SSx cl t f) (h2:SSx cl u g):SSx cl (fun E=>tIfS tc (t E) (u E)) (xIf c f g):=by
 intro fx H0 env σ H D E h o e q
 obtain ⟨b,eb,e⟩:=qA.mp e
 refine hc fx H0 env σ H h b eb _ fun H' s=>?_
 cases b with
 | true=>exact iteT (h1 fx H0 env σ H' D E (h.up s) o e q)
 | false=>exact iteF (h2 fx H0 env σ H' D E (h.up s) o e q)
def zkw (c:Str) (f:EF):SFX:=fun env=>(f env).bind fun r=>if atD r.d=true then some (.rx c r.d) else none
theorem znk {c:Str} {te:TE} {f:EF} (h1:SE te f):SSx cl (fun E=>zagt (cl c) E te) (zkw c f):=by
 intro fx H0 env σ H D E h o e q
 obtain ⟨r,er,e⟩:=qA.mp e
 split at e
 ·rename_i ha
  cases e
  refine h1 fx H0 env σ H h r er _ fun v H' s hv=>⟨zaus ha hv.rp,fun H2 dx s2 hd=>q _ _ _ ⟨rfl,(h.base.trans s).trans s2,zabw ha,dx,v,rfl,hd,zqo (zabw ha) hv.rp⟩⟩
 ·cases e
noncomputable def zaag (g:GT) (body:SFX):List PyData→DEnv→Option OutX
 | [],env=>some (.ok (.nx env))
 | d::ds,env=>(g d env).bind fun e1=>(body e1).bind fun o=>match o with
  | .ok (.nx e2)=>zaag g body ds e2
  | .ok (.ct e2)=>zaag g body ds e2
  | .ok (.bk e2)=>some (.ok (.nx e2))
  | .ok (.rt d fr)=>some (.ok (.rt d fr))
  | .rx c d=>some (.rx c d)
def xFor (f:IF') (g:GT) (body:SFX):SFX:=fun env=>(f env).bind fun z=>zaag g body z.1 (frzs env z.2)
theorem zapc {wi:TI} {g:TG} {tb:XK→TS} {f:IF'} {gf:GT} {body:SFX} (h1:SI wi f) (h2:SG g gf) (h3:SSx cl tb body):SSx cl (fun E=>tFor wi g (tb E)) (xFor f gf body):=by
 intro fx H0 env σ H D E h o e q
 obtain ⟨⟨ds,bs⟩,er,e⟩:=qA.mp e
 refine h1 fx H0 env σ H h ds bs er _ fun J H1 s yl=>?_
 have hE:=(h.up s).frzs bs
 have fl:=hE.floor
 refine ⟨fun i m σ' H'=>m=ds.length - i∧i≤ds.length∧∃ env',zaag gf body (ds.drop i) env'=some o∧EnvOk fx (Offs (own (frzs env bs) σ) H1) env' σ' H',⟨ds.length,rfl,qAg _,_,e,hE.rebase⟩,?_⟩
 rintro i m σ' H' ⟨rfl,hi,env',e',h'⟩
 obtain ⟨yi,ys⟩:=yl _ H' h'.all h'.seen
 by_cases hlt:i<ds.length
 ·obtain ⟨yg,yy⟩:=yi i ds[i] (qH hlt)
  refine .inr ⟨yg,fun σ'' H''=>i+1≤ds.length∧∃ env'',zaag gf body (ds.drop (i+1)) env''=some o∧EnvOk fx (Offs (own (frzs env bs) σ) H1) env'' σ'' H'',?_,?_⟩
  ·rintro σ'' H'' ⟨hle,env'',e'',h''⟩
   exact ⟨ds.length - (i+1),by omega,rfl,hle,env'',e'',h''⟩
  ·intro x H'' hy
   obtain ⟨sy,ry⟩:=yy x H'' hy
   rw [qAR hlt] at e'
   obtain ⟨e1,ee1,e'⟩:=qA.mp e'
   obtain ⟨o1,eo1,e'⟩:=qA.mp e'
   refine h2 fx _ env' σ' H'' _ x (h'.up sy) ry e1 ee1 _ fun σ2 h2'=>h3 fx _ e1 σ2 H'' _ E h2' o1 eo1 ?_
   cases o1 with
   | rx c d=>cases e';exact fun k od H3 r=>q k od H3 (r.base fl)
   | ok o1 =>
    cases o1 with
    | nx e2=>exact fun σ3 H3 hh=>⟨hlt,e2,e',hh⟩
    | ct e2=>exact fun σ3 H3 hh=>⟨hlt,e2,e',hh⟩
    | bk e2=>cases e';exact fun σ3 H3 hh=>q σ3 H3 (hh.unbase fl)
    | rt d fr=>cases e';exact fun v H3 sh rt=>q v H3 (fl.trans sh) (rt.unbase fl)
 ·have hi':i=ds.length:=by omega
  subst hi'
  rw [qBC] at e'
  cases e'
  exact .inl ⟨ys,q σ' H' (h'.unbase fl)⟩
inductive ResX where
 | ok (d:PyData) (fr:Bool)
 | rx (c:Str) (d:PyData)
abbrev GFX:=List PyData→Option ResX
def zaut (cl:Str→Addr) (fx:Addr→Prop) (H:Hp) (Q:VK) (E:XK):ResX→Prop
 | .ok d fr=>∀ v H',Same H H'→zaab fx H d fr v H'→Q v H'
 | .rx c d=>∀ k od H',RX H (cl c) d k od H'→E k od H'
def spX (cl:Str→Addr) (n:Nat) (g:GFX):Sp:=fun vs H Q E=>∃ (fx:Addr→Prop) (ds:List PyData) (r:ResX),ds.length=n∧(∀ b,fx b→∃ o,H b=some o)∧Rps (Offs fx H) ds vs∧g ds=some r∧zaut cl fx H Q E r
theorem zux {n:Nat} {g:GFX} {vs:List V} {H:Hp} {Q:VK} {E:XK} (h:spX cl n g vs H Q E):vs.length=n:=by
 obtain ⟨fx,ds,r,hn,hf,rr,_⟩:=h
 rw [← rr.length];exact hn
def fnX (n:Nat) (f:SFX):GFX:=fun ds=>match f (zkq n ds) with
 | some (.ok (.rt d fr))=>some (.ok d fr)
 | some (.ok (.nx _))=>some (.ok .none false)
 | some (.rx c d)=>some (.rx c d)
 | _=>none
theorem fn_x {N:List Str} {n:Nat} {f:SFX} {t:XK→TS} (hs:SSx cl t f) {vs:List V} {H:Hp} {Q:VK} {E:XK} (h:spX cl n (fnX N.length f) vs H Q E):t (StX H E) {nx:=fun _ H'=>Q .non H',rt:=Q} (zmm N vs) H:=by
 obtain ⟨fx,ds,r,hn,hf,rr,g,k⟩:=h
 unfold fnX at g
 split at g
 ·rename_i d' fr' eo
  cases g
  exact hs fx H _ _ H _ _ (zkr hf rr) _ eo fun v H' s rt=>k v H' s rt
 ·rename_i e' eo
  cases g
  exact hs fx H _ _ H _ _ (zkr hf rr) _ eo fun σ H' hE=>k .non H' hE.base ⟨zls,fun z=>by cases z⟩
 ·rename_i c d eo
  cases g
  exact hs fx H _ _ H _ _ (zkr hf rr) _ eo fun k' od H' q=>RX.stx k q
 ·cases g
def zaah (n:Nat) (g:GFX) (f:AF):SFX:=fun env=>(f env).bind fun rs=>if rs.length=n then (g (zhu rs)).map fun r=>match r with
 | .ok _ _=>.ok (.nx env)
 | .rx c d=>.rx c d else none
theorem zaby {n:Nat} {g:GFX} {ta:TA} {f:AF} (ha:SA ta f):SSx cl (fun E=>tDrop (tCall (spX cl n g) [] E ta)) (zaah n g f):=by
 intro fx H0 env σ H D E h o e q
 obtain ⟨rs,er,e⟩:=qA.mp e
 split at e
 ·rename_i hn
  obtain ⟨r,ez,rfl⟩:=qG.mp e
  refine ha fx H0 env σ H h rs er _ fun vs H1 s1 v1=>?_
  rw [qx]
  refine ⟨lim fx env σ (bss rs),zhu rs,r,by rw [zig];exact hn,(h.up s1).lims _,zhv (fun i hi=>hi) v1,ez,?_⟩
  cases r with
  | ok d fr=>exact fun w H3 s3 _=>q σ H3 (h.up (s1.trans s3))
  | rx c d=>exact fun k od H3 r=>q k od H3 (r.base (h.base.trans s1))
 ·cases e
end
abbrev Cx.hold (X:Cx) (e:Addr):Cx:={X with A:=X.A.mark (some (.ref e)),calm:=false,xe:=fun _ _=>False}
section
variable {X:Cx} {pins:List (Addr×Obj)} {σ:St} {H:Hp} {s:Shared}
theorem Inv.hold (I:Inv X pins σ H s) (e:Addr):Inv (X.hold e) pins σ H s :=
 ⟨⟨I.ok.mod,I.ok.kind,I.ok.glob,I.ok.blt,I.ok.above,I.ok.inj,I.ok.has,I.ok.cab,(fun z=>by cases z),I.ok.frames,I.ok.stk,I.ok.exf,I.ok.bs,I.ok.bsz,I.ok.noex,I.ok.exfs,I.ok.funs,I.ok.frf⟩,I.os,I.bare,I.base,I.loc,I.cell,I.free,I.freeC,I.pin,I.hok,I.len⟩
theorem Inv.unhold {e:Addr} (ok:X.Ok) (I:Inv (X.hold e) pins σ H s):Inv X pins σ H s :=
 ⟨ok,I.os,I.bare,I.base,I.loc,I.cell,I.free,I.freeC,I.pin,I.hok,I.len⟩
theorem zapd {A:Around} {E:Value→Shared→Prop} {n:Str} {pos:Pos} {j:Nat} {Q:Unit→Shared→Prop} (I:Inv X pins σ H s) (hN:X.N.Nodup) (hj:X.N[j]?=some n) (hl:X.env.scope.names.lookup n=some .local)
  (h:∀ s',Inv X pins (σ.set j none) H s'→Q () s'):wpAny (model X.prog X.w) A (do bindName X.env n .none;unbindBehindTheSuite X.env n pos) Q E s:=by
 obtain ⟨m,hn,hlk⟩:=id I.loc
 have hcls:(X.env.scope.kind==.class||(X.env.scope.kind==.module&&X.env.locals != X.env.globals))=false:=by rw [I.ok.kind];rfl
 refine wpAny_nameGoes_keeps hl hn hcls fun h' v ns sb=>h _ ?_
 have lo:∀ b ob,X.s₀.heap.get? b=some ob→h'.get? b=s.heap.get? b:=fun b ob e=>sb.2 b (qq (qo (qK e) I.ok.above))
 have cne:=I.cne
 refine ⟨I.ok,I.os,I.bare,⟨fun b o e n hb hx=>(lo b o e).trans (I.base.keep b o e n hb hx),fun b o e n hb hx=>?_,I.base.free,fun b o e hx=>?_,I.base.tups,I.base.frzs,I.base.tbls⟩,⟨_,ns,fun k y v' e1 e2 e3=>?_⟩,fun y c e=>?_,I.free,I.freeC,fun p hp=>?_,fun b ob e=>?_,by simpa using I.len⟩
 ·obtain ⟨sl,e1⟩:=I.base.slot b o e n hb hx
  exact ⟨sl,(lo b o e).trans e1⟩
 ·obtain ⟨o',e1⟩:=I.base.there b o e hx
  exact ⟨o',(lo b o e).trans e1⟩
 ·by_cases hk:k=j
  ·subst hk
   rw [qt (by have:=(qP.mp hj).1;rw [I.len];exact this)] at e2
   cases e2
  ·rw [qZ (qAp hk)] at e2
   obtain ⟨u',r',q⟩:=hlk k y v' e1 e2 e3
   refine ⟨u',r',?_⟩
   rcases q with ⟨z,e⟩|⟨z,c,e,y'⟩
   ·refine .inl ⟨z,?_⟩
    have:y≠n:=fun e=>hk (zug hN e1 (e▸hj))
    simp [this,e]
   ·exact .inr ⟨z,c,e,y'.sameBut sb (cne y c e)⟩
 ·obtain ⟨w',z⟩:=I.cell y c e
  exact ⟨w',z.sameBut sb (cne y c e)⟩
 ·obtain ⟨e,n,ne,nf,d⟩:=I.pin p hp
  exact ⟨(sb.2 p.1 ne).trans e,n,ne,nf,d⟩
 ·refine (I.hok b ob e).stay (fun c w' hc q=>(sb.2 c ?_).trans q) (fun _ q=>q) fun _ _ q=>q
  rintro rfl
  rcases hc with hc|hc
  ·rw [← hc,I.free] at e;cases e
  ·rw [I.free] at hc;cases hc
end
section
variable {X:Cx} {pins:List (Addr×Obj)} {σ:St} {H:Hp} {s:Shared}
end
noncomputable def tErr (Ok:Addr→Prop) (ts:Addr→TS) (j:Nat) (D:Ends) (σ:St) (H1:Hp):XK:=fun c od H2=>∃ C dx,c=.ref C∧Ok C∧od=some dx ∧
 ∀ e H3,(∀ b o,H1 b=some o→H2 b=some o→H3 b=some o)→zakw H2 H3→(∃ tv,H3 e=some (.ext (xeD e C dx tv))) →
  ts C {nx:=fun σ' H'=>D.nx (σ'.set j none) H',rt:=fun _ _=>False} (σ.set j (some (.ref e))) H3
section
variable {X:Cx} {pins:List (Addr×Obj)} {σ:St} {H1:Hp} {s1:Shared}
theorem handled {Ok:Addr→Prop} {ts:Addr→TS} {B:Addr} {n cn:Str} {hpos cp:Pos} {st0:Stmt} {suite:List Stmt} {j:Nat} {D:Ends} {ev:Value} {s':Shared}
  (hN:X.N.Nodup) (hj:X.N[j]?=some n) (hn:X.env.scope.names.lookup n=some .local) (hst:X.stack=X.env::X.outer) (hfr:X.env.frame=some X.env.locals) (hgc:Gl X cn) (hmc:X.mg cn=some (.ref B))
  (hex:∀ C,Ok C→PySem.W.exmOne X.K (.ref C) (.ref B)=some true) (hs:∀ C,Ok C→∀ e,PSs (X.hold e) (st0::suite) (ts C)) (hdc:(cn==("__debug__":Str))=false)
  (I1:Inv X pins σ H1 s1) (hq:CXE X.prog X.w X.stack H1 s1 (tErr Ok ts j D σ H1) ev s') :
  wpAny (model X.prog X.w) X.A (noteFrame ev X.env) (fun _ s2=>wpAny (model X.prog X.w) X.A (setFlight ev none) (fun _ s3=>wpAny (model X.prog X.w) X.A (handleBy ev X.env [.ExceptHandler (some (.Name cn cp)) (some n) (st0::suite) hpos]) (SP X pins D) X.xe s3) X.xe s2) X.xe s':=by
 obtain ⟨e,C',dx,H2,rfl,os,bare,un,ok,fl,stx⟩:=hq
 have I2:=I1.call' (s':=s') os un ok bare (fun b z=>absurd z (by simp))
 refine zxi I2 hst hfr (fun b ob z=>un.there b ob z (by simp)) fl fun s3 H3 I3 ⟨T,hT1,hT2,hT3,hT4⟩ ho hkx hz3=>?_
 obtain ⟨C,dx',eC,hOk,edx,sq⟩:=stx H3 (fun b o z1 z2=>ho b o _ (I1.hok b o z1).there.choose_spec z2) hkx
 cases eC
 cases edx
 obtain ⟨⟨vs',sl,oe,h1⟩,_,_⟩:=I3.hok e _ hT1
 have tb:=(I3.hok T _ hT4).1
 have J3:=I3.hold e
 refine wpAny_handleBy_cons (codeAny_handlers_test (zqd J3 hgc hmc ?_ hdc)) (by intro z;cases z)
 have LT:PySem.W.Looks (model X.prog X.w) s3.heap (typeOf (.ref e)) (.ref C'):=(qCf oe).andThen .now
 refine (PySem.W.exm_one (I3.kIn) LT (hex C' hOk)).here ?_
 show codeAny _ _ _ _ _
 refine codeAny_handlers_suite_as (zagp oe rfl h1 tb fun h' kp tb'=>?_)
 have hup:upd H3 T (.ext fun h=>h.Tb T)=H3:=by
  funext b
  by_cases hb:b=T
  ·subst hb;rw [zax,hT4]
  ·rw [zbd hb]
 have J4:Inv (X.hold e) pins σ H3 {s3 with heap:=h'}:=by
  have:=J3.write (x:=T) (e:=T) (o:=.ext fun h=>h.Tb T) (h':=h') (t':=s3.toks) (by rw [hT4];exact True.intro) (.inl rfl) (fun b u hb z=>kp b u hb z) (let ⟨oT,_,z,_⟩:=tb';⟨oT,z⟩) (zagq tb')
  rw [hup] at this
  exact this
 refine zpw (X:=X) (Inv.unhold I1.ok J4) hN hj (.inl hn) (show RelV (.ref e) (.ref e) from rfl) (fun s5 J5=>?_) (.inr hn)
 refine qBM (hs C' hOk e pins s5 _ H3 _ (J5.hold e) (sq e H3 (fun _ _ _ z=>z) (fun _ _ z _=>z) ⟨_,hT1⟩)) (fun fl s6 q6=>?_) fun _ _ z=>z.elim
 cases fl with
 | next =>
  obtain ⟨σ',H',J6,q6⟩:=q6
  exact zapd (Inv.unhold I1.ok J6) hN hj hn fun s7 I7=>⟨_,_,I7,q6⟩
 | ret u=>obtain ⟨v,σ',H',J6,_,q6⟩:=q6;exact q6.elim
 | brk=>obtain ⟨σ',H',J6,q6⟩:=q6;exact q6.elim
 | cont=>obtain ⟨σ',H',J6,q6⟩:=q6;exact q6.elim
def zape (Ok:Addr→Prop) (w:Str) (sp:Sp) (t:TA) (ts:Addr→TS) (i j:Nat):TS:=fun D σ H=>t σ H fun vs H1=>sp vs H1 (fun v H2=>∀ p,H2 p=none→D.nx (σ.set i (some (.ref p))) (upd H2 p (.tup [.str w,v]))) (tErr Ok ts j D σ H1)
theorem zapf {Ok:Addr→Prop} {f B:Addr} {k:Nat} {fd:q9} {ps:List Str} {sp:Sp} {wd fn x n cn:Str} {x1 x2:Nat} {p cpos wpos tpos pos pos' apos hpos cp:Pos} {a:Expr} {as:List Expr} {st0:Stmt} {suite:List Stmt} {t:TA} {ts:Addr→TS} {i j:Nat}
  (F:FnOk X.prog X.w X.K X.mg X.base (CXE X.prog X.w) k f fd ps sp) (hr:Room k X.A) (hg:Gl X fn) (hm:X.mg fn=some (.ref f)) (hk:qN X.K (.ref f)=true) (hb:zqg X.K fd ps []) (ha:PA X.nox (a::as) t)
  (hN:X.N.Nodup) (hi:X.N[i]?=some x) (hx:X.env.scope.names.lookup x=some .local) (hj:X.N[j]?=some n) (hn:X.env.scope.names.lookup n=some .local)
  (hst:X.stack=X.env::X.outer) (hfr:X.env.frame=some X.env.locals) (hgc:Gl X cn) (hmc:X.mg cn=some (.ref B)) (hex:∀ C,Ok C→PySem.W.exmOne X.K (.ref C) (.ref B)=some true) (hs:∀ C,Ok C→∀ e,PSs (X.hold e) (st0::suite) (ts C))
  (hdb:(fn==("__debug__":Str))=false) (hdc:(cn==("__debug__":Str))=false) (he:starEach (a::as) X.env=(false,eval a X.env)::starEach as X.env) (hpl:(backTo cpos (starEach as X.env)).any (·.1)=false)
  (hsw:swapsWith (.Tuple [.Constant (.str wd) x2 wpos,.Call (.Name fn p) (a::as) [] cpos] x1 tpos) (some (.Name x pos')) apos.line X.env=pure false) :
  PS X (.Try [.Assign [.Name x pos'] (.Tuple [.Constant (.str wd) x2 wpos,.Call (.Name fn p) (a::as) [] cpos] x1 tpos) apos] [.ExceptHandler (some (.Name cn cp)) (some n) (st0::suite) hpos] [] [] pos) (zape Ok wd sp t ts i j):=by
 intro pins s σ H D I h
 refine wpAny_Try_except ?_
 refine qCk (wpAny_Assign_Name (wpAny_Tuple_spliced ?_) hsw)
 show wpAny _ _ (spliced ((false,eval (.Constant (.str wd) x2 wpos) X.env)::backTo tpos (starEach [.Call (.Name fn p) (a::as) [] cpos] X.env))) _ _ s
 refine qCK (qCL ?_)
 have I0:Inv X pins σ H {s with toks:=s.toks+1}:=I.tok _
 show wpAny _ _ (spliced ((false,eval (.Call (.Name fn p) (a::as) [] cpos) X.env)::backTo tpos (starEach [] X.env))) _ _ _
 refine qCK (qBc (zqd I0 hg hm ?_ hdb))
 refine qCB (h₀:=X.base) I.ok.mod.kin hk (qBM (ha cpos pins _ σ H _ (I0.wish _) h) (fun us s1 ⟨vs,H1,I1,r,q⟩=>⟨I1.kIn,?_⟩) fun _ _ z=>z.elim) he hpl
 have I1:Inv X pins σ H1 s1:=I1.unwish
 have hl:us.length=ps.length:=by rw [← r.length];exact F.len _ _ _ _ q
 refine qCc (qBh (F.run X.A X.stack s1 H1 ⟨us,[]⟩ us vs _ _ hr I1.env0 (by have:=hb s1 us I1.kIn (by rw [qx];exact hl);rw [qx] at this;exact this) r q) fun res s' hq=>?_)
 cases res with
 | ok fl =>
  cases fl with
  | ret u =>
   obtain ⟨v,H2,I2,rv,q2⟩:=I1.after hq
   refine Calls.spliced_nil ⟨by show 2≤qU;rw [qBD];omega,?_⟩
   have hf:H2 s'.heap.objs.size=none:=I2.hok.fresh (qJ _)
   refine zpw (I2.laid (a:=s'.heap.objs.size) (o:=.tup [.str wd,v]) (t':=s'.toks) (fun b u e=>qE _ e) (qJ _) ?_) hN hi (.inl hx) (show RelV (.ref _) (.ref _) from rfl) (fun s3 I3=>qBw (qBw ⟨_,_,I3,q2 _ hf⟩)) (.inr hx)
   exact ⟨by show 2≤qU;rw [qBD];omega,[.str wd _,u],.cons ⟨_,rfl⟩ (.cons rv .nil),⟨_,qb _ rfl,rfl,_,rfl⟩⟩
  | next=>exact False.elim hq
  | brk=>exact False.elim hq
  | cont=>exact False.elim hq
 | error ev=>exact handled hN hj hn hst hfr hgc hmc hex hs hdc I1 hq
end
end L2
namespace PySem
open Sem (wp)
open Builtin Builtin.ObjectAttr
section
variable {prog:Program} {w:World} {A:Around} {E:Value→Shared→Prop} {h:Heap} {g:Array GenState} {d:Drawn} {t:Nat} {os:OsState}
variable {nm q:Str} {C N x:Addr} {bs bm:List Value} {sn:List Str} {sub:List Value} {ab:Bool} {col:Option Bool} {dd:Option Addr} {k0 k1 k2 k3 k5:Option Value} {newId:String} {o:Obj}
theorem zady {R:Result→Shared→Prop} (hr:zfm bm=true) (hC:h.get? C=some (excClassObj nm q C N bs bm true sn sub ab col dd k0 k1 k2 k3 k5 newId)) (hx:h.get? x=some o) (hc:o.cls=.ref C) (hq:R (.ok (.ret (.ref C))) ⟨h,g,d,t,os⟩) :
  codeAny (model prog w) A (.call (.builtin "getset_descriptor.__get__") ⟨[.builtin "object.__class__",.ref x,.ref C],[]⟩) R ⟨h,g,d,t,os⟩:=by
 have hT5:(⟨h,g,d,t,os⟩:Shared).TypeIs (.builtin "object.__class__") "getset_descriptor":=qCD
 have hcB:(Value.ref C::bm).contains (.type (".".intercalate ("object.__class__".cutAt '.').dropLast))=true:=by
  rw [F.owner_object_class,qAU,zel (by decide) hr];rfl
 refine qBP qDC.plain F.entry_gs_get (qDC.check _ _ _ _ _ _ _ _ hT5 (F.args_gs_get _ _ _) ?_)
 repeat (any_goals (first|assumption|(with_reducible refine qk hx ?_;rw [hc])|(with_reducible refine qAk hC ?_;rw [hcB])|wp_step))
 refine ⟨qCN _ (by decide +kernel),qCt F.entry_object_class ?_⟩
 repeat (any_goals (first|assumption|(with_reducible refine qk hx ?_;rw [hc])|wp_step))
theorem zasr {Q:Option Value→Shared→Prop} (hr:zfm bm=true) (hC:h.get? C=some (excClassObj nm q C N bs bm true sn sub ab col dd k0 k1 k2 k3 k5 newId)) (hx:h.get? x=some o) (hc:o.cls=.ref C)
  (LG:W.Looks (model prog w) h (typeLookup (.ref C) "__getattribute__") (some (.builtin "BaseException.__getattribute__"))) (LA:W.Looks (model prog w) h (typeLookup (.ref C) "__class__") (some (.builtin "object.__class__")))
  (LH:W.Looks (model prog w) h (typeLookup (.ref C) "__getattr__") none) (hq:Q (some (.ref C)) ⟨h,g,d,t+1,os⟩):wpAny (model prog w) A (getAttr? (.ref x) "__class__") Q E ⟨h,g,d,t,os⟩:=by
 have hk:builtinKind "BaseException.__getattribute__" = some .slot:=by decide +kernel
 have hsplit:splitId "BaseException.__getattribute__" = some ("BaseException", "__getattribute__"):=by decide +kernel
 have hcB:(Value.ref C::bm).contains (.type "BaseException")=true:=by rw [qAU,zel (by decide) hr,qA4]
 have hx2:(Value.builtin "BaseException.__getattribute__" == Value.builtin "object.__getattribute__")=false:=by decide +kernel
 have hx1:(onTheHeap (Value.ref C)&&Value.builtin "BaseException.__getattribute__" == Value.builtin "object.__getattribute__")=false:=by rw [hx2];rfl
 have FB:=F.attr_ValueError
 have f3:=FB.ga.bind (.ref x)
 have hT5:(⟨h,g,d,t+1,os⟩:Shared).TypeIs (.builtin "object.__class__") "getset_descriptor":=qCD
 have f5:=qCD
 have f6:=qDC.lookup
 have f7:=F.slot_gs_set.lookup
 unfold getAttr? getAttrBy? getAttrBy
 repeat (any_goals (first|assumption|(with_reducible refine qk hx ?_;rw [hc])|(with_reducible refine LG.here ?_)|(with_reducible refine LH.here ?_)|wp_step))
 refine qBP FB.ga.plain F.entry_bexc_ga ?_
 simp only [checkBuiltinCall,hk,hsplit]
 refine qC ?_
 unfold isInstance
 repeat (first|(with_reducible refine qk hx ?_;rw [hc])|(with_reducible refine qAk hC ?_;rw [hcB])|wp_step)
 repeat (any_goals (first|assumption|(with_reducible refine qk hx ?_;rw [hc])|(with_reducible refine LA.here ?_)|wp_step))
 refine zady hr hC hx hc ?_
 repeat (any_goals (first|assumption|wp_step))
end
end PySem
namespace L2
open PySem PySem.Spec PyProof.Rows
section
variable {X:Cx} {C f:Addr}
theorem zuy {K:qB} {e C dx f:Addr} (M:XMk K C f) (ha:PySem.W.findIn K (.ref C) "__class__" = some (some (.builtin "object.__class__"))):PySem.W.KitX K (.ref e) (.ref C) (fun h=>∃ tv,xeD e C dx tv h) where
 ty:=fun _ _ _ ⟨_,_,_,a,_⟩=>(qCf a).andThen .now
 it:=fun _ _ X _=>by
  obtain ⟨nm,qn,N,bs,bm,sn,sub,ab,col,dd,k0,k1,k2,k3,k5,hC,_⟩:=zku X M.cls M.tail
  intro A' Q' E' s' k q
  unfold isType loadHead
  exact qC (wpAny_loadPart (k _ _ hC) (qI q))
 ne:=fun h tp dd its n sl X htp=>by
  obtain ⟨nm,qn,N,bs,bm,sn,sub,ab,col,dd,k0,k1,k2,k3,k5,hC,_⟩:=zku X M.cls M.tail
  refine Bool.eq_false_iff.mpr fun q=>?_
  have e:C=tp:=Value.ref.inj (beq_iff_eq.mp q)
  subst e
  have z:=congrArg Obj.cls (qh (hC.symm.trans htp))
  unfold excClassObj at z
  injection z with z
  exact absurd z (by decide)
 ca:=fun {prog w A E Q s} X ⟨tv,vs,sl,a,_⟩ k=>by
  obtain ⟨nm,qn,N,bs,bm,sn,sub,ab,col,dd,k0,k1,k2,k3,k5,hC,hbm,_⟩:=zku X M.cls M.tail
  obtain ⟨h,g,d,t,os⟩:=s
  exact zasr hbm hC a rfl (qAf X M.ga) (qAf X ha) (qAf X M.gh) k
noncomputable def rIsX (K:qB) (C:Addr):List V→Hp→VK→Prop:=fun xs H Q=>∃ e dx tv b,H e=some (.ext (xeD e C dx tv))∧Q (.bl b) H ∧
 ((∃ c,xs=[.ref e,.ref c]∧PySem.W.kitOne K (.ref C) (.ref c)=some b)∨(∃ n,xs=[.ref e,.ty n]∧PySem.W.kitOne K (.ref C) (.type n)=some b)∨∃ p ys us,xs=[.ref e,.ref p]∧H p=some (.tup ys)∧(∀ its,Vals ys its→its=us)∧PySem.W.kitAny K (.ref C) us=some b)
theorem zalc (M:XMk X.K C f) (ha:PySem.W.findIn X.K (.ref C) "__class__" = some (some (.builtin "object.__class__"))):CallR X (.builtin "isinstance") (rIsX X.K C):=by
 intro pins s σ H xs us Q I r h
 obtain ⟨e,dx,tv,b,he,q,h⟩:=h
 have hx:=(I.hok e _ he).1
 rcases h with ⟨c,rfl,kk⟩|⟨n,rfl,kk⟩|⟨p,ys,us',rfl,hp,hv,kk⟩
 ·obtain ⟨u1,u2,rfl,r1,r2⟩:=zwh r
  cases r1
  cases r2
  exact qAd (zuy (dx:=dx) M ha) I.kIn ⟨tv,hx⟩ kk (fun z=>nomatch z) fun tk=>⟨.bl b,H,I.tok _,rfl,q⟩
 ·obtain ⟨u1,u2,rfl,r1,r2⟩:=zwh r
  cases r1
  cases r2
  exact qAd (zuy (dx:=dx) M ha) I.kIn ⟨tv,hx⟩ kk (fun z=>nomatch z) fun tk=>⟨.bl b,H,I.tok _,rfl,q⟩
 ·obtain ⟨u1,u2,rfl,r1,r2⟩:=zwh r
  cases r1
  cases r2
  obtain ⟨_,its,vi,op,hop,ho1,n,ho2⟩:=I.hok p _ hp
  cases hv its vi
  obtain ⟨oc,od,odt,osl⟩:=op
  cases ho1
  cases ho2
  exact PySem.W.kia_tup (zuy (dx:=dx) M ha) I.kIn ⟨tv,hx⟩ hop kk (fun z=>nomatch z) fun tk=>⟨.bl b,H,I.tok _,rfl,q⟩
end
theorem zapg {X:Cx} {x:Str} {C:Addr} {pos:Pos} (hg:Gl X x) (hm:X.mg x=some (.ref C)) (hd:(x==("__debug__":Str))=false:=by decide):PE X (.Name x pos) (tC (.ref C)) :=
 fun _ _ _ H _ I h=>zqd I hg hm ⟨.ref C,H,I,rfl,h⟩ hd
end L2
namespace PySem
open Sem (wp)
def SqIt (b:Bool) (h:Heap) (it l:Addr) (i:Nat):Prop:=match b with
 | true=>h.IsListIter it l i
 | false=>h.IsTupleIter it l i
def zgr (b:Bool) (h:Heap) (l:Addr) (xs:Array Value):Prop:=match b with
 | true=>h.IsList l xs
 | false=>h.IsTuple l xs
theorem SqIt.moved {b:Bool} {h h':Heap} {it l:Addr} {i:Nat} (x:SqIt b h it l i) (e:∀ o,h.get? it=some o→h'.get? it=some o):SqIt b h' it l i:=by
 cases b with
 | true=>obtain ⟨o,q,r⟩:=x;exact ⟨o,e o q,r⟩
 | false=>obtain ⟨o,q,r⟩:=x;exact ⟨o,e o q,r⟩
theorem zgr.moved {b:Bool} {h h':Heap} {l:Addr} {xs:Array Value} (x:zgr b h l xs) (e:∀ o,h.get? l=some o→h'.get? l=some o):zgr b h' l xs:=by
 cases b with
 | true=>obtain ⟨o,q,r⟩:=x;exact ⟨o,e o q,r⟩
 | false=>obtain ⟨o,q,r⟩:=x;exact ⟨o,e o q,r⟩
theorem SqIt.at {b:Bool} {h h':Heap} {it l:Addr} {i:Nat} (x:SqIt b h it l i) (e:∀ o,h.get? it=some o→h'.get? it=some o):SqIt b h' it l i:=x.moved e
theorem SqIt.extBut {b:Bool} {h h':Heap} {it l c:Addr} {i:Nat} (x:SqIt b h it l i) (s:Heap.ExtBut c h h') (n:it≠c):SqIt b h' it l i:=x.moved fun o e=>s _ o n e
theorem zgr.extBut {b:Bool} {h h':Heap} {l c:Addr} {xs:Array Value} (x:zgr b h l xs) (s:Heap.ExtBut c h h') (n:l≠c):zgr b h' l xs:=x.moved fun o e=>s _ o n e
theorem SqIt.obj {b:Bool} {h:Heap} {it l:Addr} {i:Nat} (x:SqIt b h it l i):∃ o,h.get? it=some o∧∀ v,o.data≠.cell v:=by
 cases b with
 | true=>obtain ⟨o,q,_,r⟩:=x;exact ⟨o,q,fun v z=>by rw [r] at z;cases z⟩
 | false=>obtain ⟨o,q,_,r⟩:=x;exact ⟨o,q,fun v z=>by rw [r] at z;cases z⟩
section
variable {prog:Program} {w:World} {A:Around} {E:Value→Shared→Prop} {s:Shared}
theorem zuz {it l:Addr} {i:Nat} {items} {x:Value} {Q:Value→Shared→Prop} (hit:s.heap.IsTupleIter it l i)
  (hl:s.heap.IsTuple l items) (hx:items[i]?=some x)
  (hQ:∀ h',h'.IsTupleIter it l (i+1)→Heap.SameBut it s.heap h'→Q x {s with heap:=h'}) :
  wpAny (model prog w) A (qAC (.ref it)) Q E s:=by
 obtain ⟨o,ho,hc,hd⟩:=id hit
 obtain ⟨ol,hol,_,nl,hdl⟩:=hl
 unfold qAC
 refine qC (qAn (name:=Str.ofString "__next__") hit.typeIs qBL
  (qBF qBL hit.typeIs qCp ?_ (qCi _)))
 show wpAny _ _ (field (.ref it) 0 >>= _) _ _ s
 refine qC (qAZ ho hd (x:=.ref l) rfl ?_)
 show wpAny _ _ (if (Value.ref l==Value.none)=true then _ else _) _ _ s
 rw [if_neg (show ¬ ((Value.ref l==Value.none)=true) from qS)]
 show wpAny _ _ (field (.ref it) 1 >>= _) _ _ s
 refine qC (qAZ ho hd (x:=.int i 0) rfl ?_)
 show wpAny _ _ (seqItems? (.ref l) >>= _) _ _ s
 refine qC (qA9 hol hdl ?_)
 simp only [qB2,hx]
 refine qC (qBR ho hd (by simp) (qI ⟨x,rfl,qI (hQ _ ?_ (qCa ..))⟩))
 exact ⟨_,qAs _ ho (qA5 (qAh hd _)),(Obj.cls_mapFields ..).trans hc,by
  rw [qAh hd];simp [rawInt]⟩
theorem zxj {it l:Addr} {i:Nat} {items} {Q:Value→Shared→Prop} (hh:A.handled=none)
  (hit:s.heap.IsTupleIter it l i) (hl:s.heap.IsTuple l items) (hx:items[i]?=none)
  (hE:∀ h' e,Heap.ExtBut it s.heap h'→(∃ o,h'.get? e=some o∧o.cls=.type "StopIteration")→E (.ref e) {s with heap:=h'}) :
  wpAny (model prog w) A (qAC (.ref it)) Q E s:=by
 obtain ⟨o,ho,hc,hd⟩:=id hit
 obtain ⟨ol,hol,_,nl,hdl⟩:=hl
 unfold qAC
 refine qC (qAn (name:=Str.ofString "__next__") hit.typeIs qBL
  (qBF qBL hit.typeIs qCp ?_ (qCi _)))
 show wpAny _ _ (field (.ref it) 0 >>= _) _ _ s
 refine qC (qAZ ho hd (x:=.ref l) rfl ?_)
 show wpAny _ _ (if (Value.ref l==Value.none)=true then _ else _) _ _ s
 rw [if_neg (show ¬ ((Value.ref l==Value.none)=true) from qS)]
 show wpAny _ _ (field (.ref it) 1 >>= _) _ _ s
 refine qC (qAZ ho hd (x:=.int i 0) rfl ?_)
 show wpAny _ _ (seqItems? (.ref l) >>= _) _ _ s
 refine qC (qA9 hol hdl ?_)
 simp only [qB2,hx]
 refine qC (qCM (qC (qBR ho hd (by simp) ?_)))
 show wpAny _ _ (newExc (.type "StopIteration") [] >>= _) _ _ _
 refine qC ?_
 simp only [newExc,newTuple]
 refine qC (qA1 ?_ (by size_fits))
 refine qC (m:=firstArgMember _ _) (wpAny_of_eq (a:=Value.none) (by first|rfl|(simp only [firstArgMember];rfl)) ?_)
 refine qA1 ?_ (by size_fits)
 simp only [raiseNew]
 refine qC (wpAny_handled ?_)
 first|rw [show A.in1.handled=none from hh]|rw [hh]
 refine qC (qI (wpAny_throw ?_))
 exact hE _ _ (((qCa ..).extBut.push _).push _) ⟨_,qb _ rfl,rfl⟩
theorem zva {b:Bool} {it l:Addr} {i:Nat} {xs:Array Value} {x:Value} {Q:Value→Shared→Prop} (hit:SqIt b s.heap it l i) (hl:zgr b s.heap l xs) (hx:xs[i]?=some x)
  (hQ:∀ h',SqIt b h' it l (i+1)→Heap.SameBut it s.heap h'→Q x {s with heap:=h'}):wpAny (model prog w) A (qAC (.ref it)) Q E s:=by
 cases b with
 | true=>exact wpAny_nextOf_list_item hit hl hx hQ
 | false=>exact zuz hit hl hx hQ
theorem zabz {b:Bool} {it l:Addr} {i:Nat} {xs:Array Value} {Q:Value→Shared→Prop} (hh:A.handled=none) (hit:SqIt b s.heap it l i) (hl:zgr b s.heap l xs) (hx:xs[i]?=none)
  (hE:∀ h' e,Heap.ExtBut it s.heap h'→(∃ o,h'.get? e=some o∧o.cls=.type "StopIteration")→E (.ref e) {s with heap:=h'}):wpAny (model prog w) A (qAC (.ref it)) Q E s:=by
 cases b with
 | true=>exact wpAny_nextOf_list_end hh hit hl hx hE
 | false=>exact zxj hh hit hl hx hE
theorem zadz {b1 b2:Bool} {z TI TO i1 i2 l1 l2:Addr} {k1 k2:Nat} {xs ys:Array Value} {x y a b:Value} {Q:Value→Shared→Prop} (D:ZipApart z TI TO i1 i2 l1 l2)
  (hz:IsZip s.heap z TI TO .none) (hTI:IsPair s.heap TI (.ref i1) (.ref i2)) (hTO:IsPair s.heap TO a b)
  (h1:SqIt b1 s.heap i1 l1 k1) (h2:SqIt b2 s.heap i2 l2 k2) (hl1:zgr b1 s.heap l1 xs) (hl2:zgr b2 s.heap l2 ys) (hx:xs[k1]?=some x) (hy:ys[k2]?=some y)
  (hQ:∀ h',IsZip h' z TI TO (rawInt s.heap.objs.size)→IsPair h' TO x y→SqIt b1 h' i1 l1 (k1+1)→SqIt b2 h' i2 l2 (k2+1)→IsPair h' s.heap.objs.size x y→h'.objs.size=s.heap.objs.size+1 →
   (∀ c o,c≠z→c≠TO→c≠i1→c≠i2→s.heap.get? c=some o→h'.get? c=some o)→Q (.ref s.heap.objs.size) {s with heap:=h'}) :
  wpAny (model prog w) A (Builtin.«zip.__next__» ⟨[.ref z],[]⟩) (fun fin s'=>∃ v,fin=.done (.ret v)∧Q v s') E s:=by
 show wpAny _ _ (field (.ref z) 2 >>= _) _ _ _
 refine qC (qAZ hz rfl (x:=.bool false) rfl ?_)
 show wpAny _ _ (field (.ref z) 3 >>= _) _ _ _
 refine qC (qAZ hz rfl (x:=.ref TI) rfl ?_)
 refine qC (qA9 hTI rfl ?_)
 show wpAny _ _ (Builtin.SmallTypes.ownedTupleIsFree (.ref z) >>= _) _ _ _
 refine qC ?_
 unfold Builtin.SmallTypes.ownedTupleIsFree
 refine qC (qAZ hz rfl (x:=.none) rfl (qI ?_))
 simp only [if_true]
 refine qC (qCM ?_)
 refine qC (qAZ hz rfl (x:=.ref TO) rfl ?_)
 refine qC (qBI hz (by simp) fun h₁ hz₁ hs₁=>?_)
 replace hz₁:IsZip h₁ z TI TO .ellipsis:=hz₁
 refine qC ?_
 simp only [qCS,List.zipIdx_nil,qCZ,List.forIn_nil]
 refine qC (qC (qB7 ?_))
 show wpAny _ _ (qAC (.ref i1) >>= _) _ _ _
 refine qC (zva (h1.extBut hs₁.extBut D.i1z) (hl1.extBut hs₁.extBut D.l1z) hx fun h₂ h1₂ hs₂=>qI ?_)
 have hTO₂:IsPair h₂ TO a b:=hs₂.extBut _ _ D.TOi1 (hs₁.extBut _ _ D.TOz hTO)
 refine qC (qA9 hTO₂ rfl ?_)
 refine qC (qCO hTO₂ fun h₃ hTO₃ hs₃=>?_)
 replace hTO₃:IsPair h₃ TO x b:=hTO₃
 refine qC (wpAny_letGo (qI ?_))
 refine qC (qC (qB7 ?_))
 show wpAny _ _ (qAC (.ref i2) >>= _) _ _ _
 refine qC (zva (((h2.extBut hs₁.extBut D.i2z).extBut hs₂.extBut D.i12.symm).extBut hs₃.extBut D.TOi2.symm)
  (((hl2.extBut hs₁.extBut D.l2z).extBut hs₂.extBut D.l2i1).extBut hs₃.extBut D.l2TO) hy fun h₄ h2₄ hs₄=>qI ?_)
 have hTO₄:IsPair h₄ TO x b:=hs₄.extBut _ _ D.TOi2 hTO₃
 refine qC (qA9 hTO₄ rfl ?_)
 refine qC (qCO hTO₄ fun h₅ hTO₅ hs₅=>?_)
 replace hTO₅:IsPair h₅ TO x y:=hTO₅
 refine qC (wpAny_letGo (qI (qI ?_)))
 refine qC (qA9 hTO₅ rfl ?_)
 refine qC (wpAny_newTuple ?_)
 have hsz:h₅.objs.size=s.heap.objs.size:=by rw [hs₅.1,hs₄.1,hs₃.1,hs₂.1,hs₁.1]
 have hz₅:IsZip h₅ z TI TO .ellipsis:=hs₅.extBut _ _ D.TOz.symm (hs₄.extBut _ _ D.i2z.symm (hs₃.extBut _ _ D.TOz.symm (hs₂.extBut _ _ D.i1z.symm hz₁)))
 have hk₅:∀ c o,c≠z→c≠TO→c≠i1→c≠i2→s.heap.get? c=some o→h₅.get? c=some o:=fun c o c1 c2 c3 c4 e =>
  hs₅.extBut _ _ c2 (hs₄.extBut _ _ c4 (hs₃.extBut _ _ c2 (hs₂.extBut _ _ c3 (hs₁.extBut _ _ c1 e))))
 have h1₅:SqIt b1 h₅ i1 l1 (k1+1):=((h1₂.extBut hs₃.extBut D.TOi1.symm).extBut hs₄.extBut D.i12).extBut hs₅.extBut D.TOi1.symm
 have h2₅:SqIt b2 h₅ i2 l2 (k2+1):=h2₄.extBut hs₅.extBut D.TOi2.symm
 have hzlt:z<h₅.objs.size:=qK hz₅
 have hTOlt:TO<h₅.objs.size:=qK hTO₅
 have hi1lt:i1<h₅.objs.size:=by obtain ⟨_,e,_⟩:=h1₅.obj;exact qK e
 have hi2lt:i2<h₅.objs.size:=by obtain ⟨_,e,_⟩:=h2₅.obj;exact qK e
 show wpAny _ _ (Builtin.SmallTypes.ownedTupleHandOut (.ref z) (.ref h₅.objs.size) >>= _) _ _ _
 refine qC ?_
 unfold Builtin.SmallTypes.ownedTupleHandOut
 have hz₆:IsZip (h₅.push {cls:=.type "tuple",data:=.seq #[x,y]}) z TI TO .ellipsis:=qE _ hz₅
 refine qC (qBI hz₆ (by simp) fun h₇ hz₇ hs₇=>?_)
 replace hz₇:IsZip h₇ z TI TO (rawInt h₅.objs.size):=hz₇
 refine qBI hz₇ (by simp) fun h₈ hz₈ hs₈=>?_
 replace hz₈:IsZip h₈ z TI TO (rawInt h₅.objs.size):=hz₈
 have up:∀ c o,c≠z→h₅.get? c=some o→h₈.get? c=some o:=fun c o c1 e=>hs₈.extBut _ _ c1 (hs₇.extBut _ _ c1 (qE _ e))
 have hT₈:IsPair h₈ h₅.objs.size x y:=hs₈.extBut _ _ (qBQ hzlt) (hs₇.extBut _ _ (qBQ hzlt) (qb _ rfl))
 have hz8:h₈.objs.size=h₅.objs.size+1:=by rw [hs₈.1,hs₇.1,qAz]
 rw [hsz] at hz₈ hT₈ hz8
 refine qI ⟨_,rfl,?_⟩
 show Q (.ref h₅.objs.size) _
 rw [hsz]
 exact hQ h₈ hz₈ (up _ _ D.TOz hTO₅) (h1₅.at fun o e=>up _ o D.i1z e) (h2₅.at fun o e=>up _ o D.i2z e) hT₈ hz8 fun c o c1 c2 c3 c4 e=>up c o c1 (hk₅ c o c1 c2 c3 c4 e)
theorem zagu {b1 b2:Bool} {z TI TO i1 i2 l1 l2:Addr} {k1 k2:Nat} {xs ys:Array Value} {a b:Value} {Q:Fin→Shared→Prop} (hh:A.handled=none) (D:ZipApart z TI TO i1 i2 l1 l2)
  (hz:IsZip s.heap z TI TO .none) (hTI:IsPair s.heap TI (.ref i1) (.ref i2)) (hTO:IsPair s.heap TO a b)
  (h1:SqIt b1 s.heap i1 l1 k1) (h2:SqIt b2 s.heap i2 l2 k2) (hl1:zgr b1 s.heap l1 xs) (hl2:zgr b2 s.heap l2 ys) (hend:xs[k1]?=none∨ys[k2]?=none)
  (hE:∀ h' e,(∀ c o,c≠z→c≠TO→c≠i1→c≠i2→s.heap.get? c=some o→h'.get? c=some o)→(∃ o,h'.get? e=some o∧o.cls=.type "StopIteration")→E (.ref e) {s with heap:=h'}) :
  wpAny (model prog w) A (Builtin.«zip.__next__» ⟨[.ref z],[]⟩) Q E s:=by
 show wpAny _ _ (field (.ref z) 2 >>= _) _ _ _
 refine qC (qAZ hz rfl (x:=.bool false) rfl ?_)
 show wpAny _ _ (field (.ref z) 3 >>= _) _ _ _
 refine qC (qAZ hz rfl (x:=.ref TI) rfl ?_)
 refine qC (qA9 hTI rfl ?_)
 show wpAny _ _ (Builtin.SmallTypes.ownedTupleIsFree (.ref z) >>= _) _ _ _
 refine qC ?_
 unfold Builtin.SmallTypes.ownedTupleIsFree
 refine qC (qAZ hz rfl (x:=.none) rfl (qI ?_))
 simp only [if_true]
 refine qC (qCM ?_)
 refine qC (qAZ hz rfl (x:=.ref TO) rfl ?_)
 refine qC (qBI hz (by simp) fun h₁ hz₁ hs₁=>?_)
 replace hz₁:IsZip h₁ z TI TO .ellipsis:=hz₁
 refine qC ?_
 simp only [qCS,List.zipIdx_nil,qCZ,List.forIn_nil]
 refine qC (qC (qB7 ?_))
 show wpAny _ _ (qAC (.ref i1) >>= _) _ _ _
 cases hx:xs[k1]? with
 | none =>
  refine qC (zabz hh (h1.extBut hs₁.extBut D.i1z) (hl1.extBut hs₁.extBut D.l1z) hx fun h₂ e hs₂ he=>?_)
  obtain ⟨oe,hoe,hce⟩:=he
  have hz₂:IsZip h₂ z TI TO .ellipsis:=hs₂ _ _ D.i1z.symm hz₁
  have hez:e≠z:=fun x=>by subst x;rw [hz₂] at hoe;cases hoe;simp at hce
  refine qBI hz₂ (by simp) fun h₃ _ hs₃=>hE h₃ e (fun c o c1 _ c3 _ x=>hs₃.extBut _ _ c1 (hs₂ _ _ c3 (hs₁.extBut _ _ c1 x))) ⟨oe,hs₃.extBut _ _ hez hoe,hce⟩
 | some x =>
  have hy:ys[k2]?=none:=by rcases hend with h|h;rw [hx] at h;cases h;exact h
  refine qC (zva (h1.extBut hs₁.extBut D.i1z) (hl1.extBut hs₁.extBut D.l1z) hx fun h₂ h1₂ hs₂=>qI ?_)
  have hTO₂:IsPair h₂ TO a b:=hs₂.extBut _ _ D.TOi1 (hs₁.extBut _ _ D.TOz hTO)
  refine qC (qA9 hTO₂ rfl ?_)
  refine qC (qCO hTO₂ fun h₃ hTO₃ hs₃=>?_)
  refine qC (wpAny_letGo (qI ?_))
  refine qC (qC (qB7 ?_))
  show wpAny _ _ (qAC (.ref i2) >>= _) _ _ _
  refine qC (zabz hh (((h2.extBut hs₁.extBut D.i2z).extBut hs₂.extBut D.i12.symm).extBut hs₃.extBut D.TOi2.symm)
   (((hl2.extBut hs₁.extBut D.l2z).extBut hs₂.extBut D.l2i1).extBut hs₃.extBut D.l2TO) hy fun h₄ e hs₄ he=>?_)
  obtain ⟨oe,hoe,hce⟩:=he
  have hz₄:IsZip h₄ z TI TO .ellipsis:=hs₄ _ _ D.i2z.symm (hs₃.extBut _ _ D.TOz.symm (hs₂.extBut _ _ D.i1z.symm hz₁))
  have hez:e≠z:=fun x=>by subst x;rw [hz₄] at hoe;cases hoe;simp at hce
  refine qBI hz₄ (by simp) fun h₅ _ hs₅=>hE h₅ e (fun c o c1 c2 c3 c4 x=>hs₅.extBut _ _ c1 (hs₄ _ _ c4 (hs₃.extBut _ _ c2 (hs₂.extBut _ _ c3 (hs₁.extBut _ _ c1 x))))) ⟨oe,hs₅.extBut _ _ hez hoe,hce⟩
structure ZipAt (b1 b2:Bool) (h:Heap) (z TI TO i1 i2 l1 l2:Addr) (f0:Value) (k:Nat):Prop where
 z:IsZip h z TI TO f0
 ti:IsPair h TI (.ref i1) (.ref i2)
 to:∃ a b,IsPair h TO a b
 i1:SqIt b1 h i1 l1 k
 i2:SqIt b2 h i2 l2 k
theorem zagv {b1 b2:Bool} {z TI TO i1 i2 l1 l2:Addr} {k:Nat} {xs ys:Array Value} {x y:Value} {Q:Value→Shared→Prop} (D:ZipApart z TI TO i1 i2 l1 l2)
  (hz:ZipAt b1 b2 s.heap z TI TO i1 i2 l1 l2 .none k) (hl1:zgr b1 s.heap l1 xs) (hl2:zgr b2 s.heap l2 ys) (hx:xs[k]?=some x) (hy:ys[k]?=some y)
  (hQ:∀ h',ZipAt b1 b2 h' z TI TO i1 i2 l1 l2 (rawInt s.heap.objs.size) (k+1)→IsPair h' s.heap.objs.size x y →
   (∀ c o,c≠z→c≠TO→c≠i1→c≠i2→s.heap.get? c=some o→h'.get? c=some o)→Q (.ref s.heap.objs.size) {s with heap:=h'}) :
  wpAny (model prog w) A (Builtin.«zip.__next__» ⟨[.ref z],[]⟩) (fun fin s'=>∃ v,fin=.done (.ret v)∧Q v s') E s:=by
 obtain ⟨p1,p2,⟨a,b,p3⟩,p4,p5⟩:=hz
 exact zadz D p1 p2 p3 p4 p5 hl1 hl2 hx hy fun h' q1 q2 q3 q4 q5 _ q7=>hQ h' ⟨q1,q7 _ _ D.TIz D.TITO D.TIi1 D.TIi2 p2,⟨x,y,q2⟩,q3,q4⟩ q5 q7
theorem zald {b1 b2:Bool} {z TI TO i1 i2 l1 l2:Addr} {k:Nat} {xs ys:Array Value} {Q:Fin→Shared→Prop} (hh:A.handled=none) (D:ZipApart z TI TO i1 i2 l1 l2)
  (hz:ZipAt b1 b2 s.heap z TI TO i1 i2 l1 l2 .none k) (hl1:zgr b1 s.heap l1 xs) (hl2:zgr b2 s.heap l2 ys) (hend:xs[k]?=none∨ys[k]?=none)
  (hE:∀ h' e,(∀ c o,c≠z→c≠TO→c≠i1→c≠i2→s.heap.get? c=some o→h'.get? c=some o)→(∃ o,h'.get? e=some o∧o.cls=.type "StopIteration")→E (.ref e) {s with heap:=h'}) :
  wpAny (model prog w) A (Builtin.«zip.__next__» ⟨[.ref z],[]⟩) Q E s:=by
 obtain ⟨p1,p2,⟨a,b,p3⟩,p4,p5⟩:=hz
 exact zagu hh D p1 p2 p3 p4 p5 hl1 hl2 hend hE
end
end PySem
namespace L2
open PySem PySem.Spec PyProof.Rows
def SqX (b:Bool) (K:qB) (H:Hp) (a:Addr) (xs:List V):Prop:=match b with
 | true=>SqL K H a xs
 | false=>SqT K H a xs
section
variable {X:Cx} {pins:List (Addr×Obj)} {σ:St} {H:Hp} {s:Shared}
theorem Inv.sq {b:Bool} {a:Addr} {xs:List V} (I:Inv X pins σ H s) (h:SqX b X.K H a xs):∃ its:List Value,Vals xs its∧zgr b s.heap a its.toArray∧xs.length≤qU:=by
 cases b with
 | true=>obtain ⟨its,r,p,z⟩:=I.list h;exact ⟨its,r,p.isList,z⟩
 | false=>obtain ⟨its,r,p,z⟩:=I.tuple h;exact ⟨its,r,(show s.heap.IsTuple a its.toArray from p),z⟩
theorem Inv.sq_inj {b:Bool} {a:Addr} {xs ys:List V} (I:Inv X pins σ H s) (h:SqX b X.K H a xs) (h':SqX b X.K H a ys):xs=ys:=by
 cases b with
 | true=>exact I.list_inj h h'
 | false=>exact I.tuple_inj h h'
end
noncomputable def Itz (K:qB) (b1:Bool) (a1:Addr) (b2:Bool) (a2:Addr):It :=
 ⟨fun i H=>∃ xs ys x y,SqX b1 K H a1 xs∧SqX b2 K H a2 ys∧xs[i]?=some x∧ys[i]?=some y,
  fun i H v H'=>∃ p x y,v=.ref p∧H p=none∧H'=upd H p (.tup [x,y])∧(∀ xs,SqX b1 K H a1 xs→xs[i]?=some x)∧∀ ys,SqX b2 K H a2 ys→ys[i]?=some y,
  fun i H=>∃ xs ys,SqX b1 K H a1 xs∧SqX b2 K H a2 ys∧(xs.length≤i∨ys.length≤i)⟩
theorem zale {P:Program} {w:World} {K:qB} {elts:List Expr} {x1} {tpos:Pos} {b1 b2:Bool} {z TI TO i1 i2 l1 l2:Addr} (D:ZipApart z TI TO i1 i2 l1 l2) :
  Turn P w K (.Tuple elts x1 tpos) (Itz K b1 l1 b2 l2) [z,TI,TO,i1,i2] z (fun i h=>ZipAt b1 b2 h z TI TO i1 i2 l1 l2 .none i) where
 mem:=by simp
 obj:=fun i h st b hb=>by
  obtain ⟨a,c,hto⟩:=st.to
  simp only [qX,qAv,or_false] at hb
  rcases hb with rfl|rfl|rfl|rfl|rfl
  ·exact ⟨_,st.z,fun v q=>by simp at q⟩
  ·exact ⟨_,st.ti,fun v q=>by simp at q⟩
  ·exact ⟨_,hto,fun v q=>by simp at q⟩
  ·exact st.i1.obj
  ·exact st.i2.obj
 keep:=fun i h h' st k=>by
  obtain ⟨a,c,hto⟩:=st.to
  exact ⟨k z (by simp) _ st.z,k TI (by simp) _ st.ti,⟨a,c,k TO (by simp) _ hto⟩,st.i1.moved fun o q=>k i1 (by simp) o q,st.i2.moved fun o q=>k i2 (by simp) o q⟩
 item:=by
  intro X hP hw hK hc i pins s σ H E I hf st hg
  subst hP hw hK
  obtain ⟨xs,ys,x,y,q1,q2,hx,hy⟩:=hg
  obtain ⟨its1,rv1,p1,_⟩:=I.sq q1
  obtain ⟨its2,rv2,p2,_⟩:=I.sq q2
  obtain ⟨u1,hu1,ru1⟩:=rv1.get hx
  obtain ⟨u2,hu2,ru2⟩:=rv2.get hy
  have hT:s.TypeIs (.ref z) "zip":=⟨_,st.z,rfl⟩
  unfold pyNext
  refine qC (qCV (qAn (name:=Str.ofString "__next__") hT qCE (qBF qCE hT F.entry_zip_next
   (zagv D st p1 p2 (x:=u1) (y:=u2) (by simpa using hu1) (by simpa using hu2) fun h1 zt tp kp=>qI ?_) (F.args_zip_next_1 _))))
  refine ⟨_,rfl,wpAny_letOwnedTupleGo_zip (s:={s with heap:=h1}) zt.z fun h2 z2 sb2=>?_⟩
  have hp:H s.heap.objs.size=none:=I.hok.fresh (qJ _)
  have fz:=hf z (by simp)
  have fO:=hf TO (by simp)
  have f1:=hf i1 (by simp)
  have f2:=hf i2 (by simp)
  have lt:∀ b∈[z,TI,TO,i1,i2],b≠s.heap.objs.size:=fun b hb=>by
   obtain ⟨a,c,hto⟩:=st.to
   simp only [qX,qAv,or_false] at hb
   rcases hb with rfl|rfl|rfl|rfl|rfl
   ·exact qq (qK st.z)
   ·exact qq (qK st.ti)
   ·exact qq (qK hto)
   ·obtain ⟨o,q,_⟩:=st.i1.obj;exact qq (qK q)
   ·obtain ⟨o,q,_⟩:=st.i2.obj;exact qq (qK q)
  have k2:∀ b o,b≠z→b≠TO→b≠i1→b≠i2→s.heap.get? b=some o→h2.get? b=some o:=fun b o e1 e2 e3 e4 q=>(sb2.2 b e1).trans (kp b o e1 e2 e3 e4 q)
  have t2:IsPair h2 s.heap.objs.size u1 u2:=(sb2.2 _ (qAp (lt z (by simp)))).trans tp
  have nch:∀ b,b∉[z,TO,i1,i2]→b≠z∧b≠TO∧b≠i1∧b≠i2:=fun b hb=>⟨fun q=>hb (by simp [q]),fun q=>hb (by simp [q]),fun q=>hb (by simp [q]),fun q=>hb (by simp [q])⟩
  have k3:∀ b o,b∉[z,TO,i1,i2]→s.heap.get? b=some o→h2.get? b=some o:=fun b o hb q=>let ⟨e1,e2,e3,e4⟩:=nch b hb;k2 b o e1 e2 e3 e4 q
  have nH:∀ c v,H c=some v→c∉[z,TO,i1,i2]:=fun c v q hc=>by
   have:H c=none:=by
    simp only [qX,qAv,or_false] at hc
    rcases hc with rfl|rfl|rfl|rfl
    ·exact fz.1
    ·exact fO.1
    ·exact f1.1
    ·exact f2.1
   rw [this] at q;cases q
  refine ⟨.ref s.heap.objs.size,upd H s.heap.objs.size (.tup [x,y]),?_,rfl,⟨_,x,y,rfl,hp,rfl,fun zs q=>by rw [I.sq_inj q q1];exact hx,fun zs q=>by rw [I.sq_inj q q2];exact hy⟩,?_,fun b hb=>by rw [zbd (lt b hb)];exact (hf b hb).1⟩
  ·refine Inv.step (s:=s) (h':=h2) (g':=s.gens) (d':=s.drawn) (t':=s.toks) (ch:=[z,TO,i1,i2]) I (fun b hb=>?_) (fun b o _ _ hc q _=>k3 b o hc q) (fun b o _ _ hc q _=>⟨o.slots,k3 b o hc q⟩)
    (fun b o _ q n=>by rw [zbd (qq (qK q))];exact n) (fun b o hc q=>⟨o,k3 b o hc q⟩)
    (fun b xs q=>by rw [zbd (zbt q hp)];exact q) (fun b o v q=>by rw [zbd (zbt q hp)];exact q) (fun b ps q=>⟨#[],by rw [zbd (zbt q hp),q];simp⟩) (fun m hm=>?_) (fun b v q=>?_) I.bare
   ·have:=hf b (by
     simp only [qX,qAv,or_false] at hb ⊢
     rcases hb with rfl|rfl|rfl|rfl<;>simp)
    exact ⟨this.2.2.2.1,this.2.1,this.2.2.2.2.1,this.2.2.2.2.2⟩
   ·obtain ⟨o,es,ep,ho,r⟩:=hm
    exact ⟨o,es,ep,k2 _ o (qAp fz.2.1) (qAp fO.2.1) (qAp f1.2.1) (qAp f2.2.1) ho,r⟩
   ·by_cases hb:b=s.heap.objs.size
    ·subst hb
     rw [zax] at q
     cases q
     exact ⟨by show 2≤qU;decide,[u1,u2],.cons ru1 (.cons ru2 .nil),_,t2,rfl,_,rfl⟩
    ·rw [zbd hb] at q
     refine (I.hok b v q).stay (fun c w' hc r=>?_) (fun c r=>by rw [zbd (zbt r hp)];exact r) fun c ys r=>by rw [zbd (zbt r hp)];exact r
     rcases hc with rfl|hc
     ·exact k3 c w' (nH c v q) r
     ·exact k3 c w' (nH c _ hc) r
  ·obtain ⟨a,c,hto⟩:=zt.to
   exact ⟨z2,(sb2.2 _ D.TIz).trans zt.ti,⟨a,c,(sb2.2 _ D.TOz).trans hto⟩,zt.i1.moved fun o q=>(sb2.2 _ D.i1z).trans q,zt.i2.moved fun o q=>(sb2.2 _ D.i2z).trans q⟩
 done:=by
  intro X hP hw hK hc i pins s σ H E I hf st hg
  subst hP hw hK
  obtain ⟨xs,ys,q1,q2,hle⟩:=hg
  obtain ⟨its1,rv1,p1,_⟩:=I.sq q1
  obtain ⟨its2,rv2,p2,_⟩:=I.sq q2
  have l1':=rv1.length
  have l2':=rv2.length
  have hT:s.TypeIs (.ref z) "zip":=⟨_,st.z,rfl⟩
  unfold pyNext
  refine qC (qCV (qAn (name:=Str.ofString "__next__") hT qCE (qBF qCE hT F.entry_zip_next
   (zald (by exact I.ok.hd hc) D st p1 p2 (by rcases hle with q|q;exact .inl (by simp;omega);exact .inr (by simp;omega)) fun h' e kp he=>?_) (F.args_zip_next_1 _))))
  obtain ⟨o,ho,hcl⟩:=he
  refine qC (qCj (T:="StopIteration") (b:=true) ⟨o,ho,hcl⟩ isSubtype_stop (qI ⟨rfl,?_⟩))
  have fz:=hf z (by simp)
  have fO:=hf TO (by simp)
  have f1:=hf i1 (by simp)
  have f2:=hf i2 (by simp)
  have nch:∀ b,b∉[z,TO,i1,i2]→b≠z∧b≠TO∧b≠i1∧b≠i2:=fun b hb=>⟨fun q=>hb (by simp [q]),fun q=>hb (by simp [q]),fun q=>hb (by simp [q]),fun q=>hb (by simp [q])⟩
  have k3:∀ b o,b∉[z,TO,i1,i2]→s.heap.get? b=some o→h'.get? b=some o:=fun b o hb q=>let ⟨e1,e2,e3,e4⟩:=nch b hb;kp b o e1 e2 e3 e4 q
  have nH:∀ c v,H c=some v→c∉[z,TO,i1,i2]:=fun c v q hc=>by
   have:H c=none:=by
    simp only [qX,qAv,or_false] at hc
    rcases hc with rfl|rfl|rfl|rfl
    ·exact fz.1
    ·exact fO.1
    ·exact f1.1
    ·exact f2.1
   rw [this] at q;cases q
  refine Inv.step (s:=s) (h':=h') (g':=s.gens) (d':=s.drawn) (t':=s.toks) (ch:=[z,TO,i1,i2]) I (fun b hb=>?_) (fun b o _ _ hc q _=>k3 b o hc q) (fun b o _ _ hc q _=>⟨o.slots,k3 b o hc q⟩)
    (fun b o _ q n=>n) (fun b o hc q=>⟨o,k3 b o hc q⟩) (fun b xs q=>q) (fun b o v q=>q) (fun b ps q=>⟨#[],by rw [q];simp⟩) (fun m hm=>?_) (fun b v q=>?_) I.bare
  ·have:=hf b (by
     simp only [qX,qAv,or_false] at hb ⊢
     rcases hb with rfl|rfl|rfl|rfl<;>simp)
   exact ⟨this.2.2.2.1,this.2.1,this.2.2.2.2.1,this.2.2.2.2.2⟩
  ·obtain ⟨o,es,ep,ho,r⟩:=hm
   exact ⟨o,es,ep,kp _ o (qAp fz.2.1) (qAp fO.2.1) (qAp f1.2.1) (qAp f2.2.1) ho,r⟩
  ·refine (I.hok b v q).stay (fun c w' hc r=>?_) (fun c r=>r) fun c ys r=>r
   rcases hc with rfl|hc
   ·exact k3 c w' (nH c v q) r
   ·exact k3 c w' (nH c _ hc) r
 self:=fun _ _ _ _ _ st h=>wpAny_pyIter_zip st.z h
end L2
namespace PySem
open Sem (wp)
def itO (b:Bool) (l:Addr):Obj:=match b with
 | true=>{cls:=.type "list_iterator",data:=.fields #[.ref l,.int 0 0]}
 | false=>{cls:=.type "tuple_iterator",data:=.fields #[.ref l,.int 0 0]}
def zx1 (b1:Bool) (h:Heap) (l1:Addr):Heap:=h.push (itO b1 l1)
def zx2 (b1 b2:Bool) (h:Heap) (l1 l2:Addr):Heap:=(zx1 b1 h l1).push (itO b2 l2)
def zx3 (b1 b2:Bool) (h:Heap) (l1 l2:Addr):Heap:=(zx2 b1 b2 h l1 l2).push {cls:=.type "tuple",data:=.seq #[.ref h.objs.size,.ref (zx1 b1 h l1).objs.size]}
def zx4 (b1 b2:Bool) (h:Heap) (l1 l2:Addr):Heap:=(zx3 b1 b2 h l1 l2).push {cls:=.type "tuple",data:=.seq #[.none,.none]}
def zx5 (b1 b2:Bool) (h:Heap) (l1 l2:Addr):Heap:=(zx4 b1 b2 h l1 l2).push {cls:=.type "zip",data:=.fields #[.none,.bool false,.bool false,.ref (zx2 b1 b2 h l1 l2).objs.size,.ref (zx3 b1 b2 h l1 l2).objs.size]}
theorem zaea (b1 b2:Bool) (l1 l2:Addr) (xs ys:Array Value) :
  Meets (Builtin.«zip.__new__» ⟨[.type "zip",.ref l1,.ref l2],[]⟩) (fun _ R s=>zgr b1 s.heap l1 xs∧zgr b2 s.heap l2 ys∧R (.ok (.ret (.ref (zx4 b1 b2 s.heap l1 l2).objs.size))) {s with heap:=zx5 b1 b2 s.heap l1 l2}) :=
 .of_wp fun prog w A R s h=>by
  obtain ⟨hp,g,d,tk,os⟩:=s;obtain ⟨h1,h2,h⟩:=h
  have hsub:=sub_zip
  cases b1 with
  | true =>
   have e1:Heap.IsList (Shared.heap ⟨hp,g,d,tk,os⟩) l1 xs:=h1
   cases b2 with
   | true =>
    have e2:Heap.IsList (Shared.heap ⟨hp.push {cls:=.type "list_iterator",data:=.fields #[.ref l1,.int 0 0]},g,d,tk,os⟩) l2 ys:=qCq h2 _
    wp_walk using qAt e1,qAt e2
    exact ⟨_,rfl,h⟩
   | false =>
    have e2:Heap.IsTuple (Shared.heap ⟨hp.push {cls:=.type "list_iterator",data:=.fields #[.ref l1,.int 0 0]},g,d,tk,os⟩) l2 ys:=qCh h2 _
    wp_walk using qAt e1,qAx e2
    exact ⟨_,rfl,h⟩
  | false =>
   have e1:Heap.IsTuple (Shared.heap ⟨hp,g,d,tk,os⟩) l1 xs:=h1
   cases b2 with
   | true =>
    have e2:Heap.IsList (Shared.heap ⟨hp.push {cls:=.type "tuple_iterator",data:=.fields #[.ref l1,.int 0 0]},g,d,tk,os⟩) l2 ys:=qCq h2 _
    wp_walk using qAx e1,qAt e2
    exact ⟨_,rfl,h⟩
   | false =>
    have e2:Heap.IsTuple (Shared.heap ⟨hp.push {cls:=.type "tuple_iterator",data:=.fields #[.ref l1,.int 0 0]},g,d,tk,os⟩) l2 ys:=qCh h2 _
    wp_walk using qAx e1,qAx e2
    exact ⟨_,rfl,h⟩
theorem zvb {b:Bool} {h:Heap} {a l:Addr} (e:h.get? a=some (itO b l)):SqIt b h a l 0:=by
 cases b with
 | true=>exact ⟨_,e,rfl,rfl⟩
 | false=>exact ⟨_,e,rfl,rfl⟩
theorem zagw {prog:Program} {w:World} {A:Around} {E:Value→Shared→Prop} {s:Shared} {b1 b2:Bool} {l1 l2:Addr} {xs ys:Array Value} {Q:Value→Shared→Prop} (h1:zgr b1 s.heap l1 xs) (h2:zgr b2 s.heap l2 ys)
  (h:∀ h',ZipAt b1 b2 h' (s.heap.objs.size+4) (s.heap.objs.size+2) (s.heap.objs.size+3) s.heap.objs.size (s.heap.objs.size+1) l1 l2 .none 0→(∀ c o,s.heap.get? c=some o→h'.get? c=some o)→Q (.ref (s.heap.objs.size+4)) {s with heap:=h'}) :
  wpAny (model prog w) A (call (.type "zip") [.ref l1,.ref l2]) Q E s:=by
 refine callType_new F.called_zip (by decide) (F.typeCall_zip_2 _ _) (F.newCall_zip_2 _ _) (fun obj=>F.args_object_init_3 obj _ _) F.entry_zip_new (zaea b1 b2 l1 l2 xs ys) ⟨h1,h2,?_⟩
 have z1:(zx1 b1 s.heap l1).objs.size=s.heap.objs.size+1:=qAz ..
 have z2:(zx2 b1 b2 s.heap l1 l2).objs.size=s.heap.objs.size+2:=by unfold zx2;rw [qAz,z1]
 have z3:(zx3 b1 b2 s.heap l1 l2).objs.size=s.heap.objs.size+3:=by unfold zx3;rw [qAz,z2]
 have z4:(zx4 b1 b2 s.heap l1 l2).objs.size=s.heap.objs.size+4:=by unfold zx4;rw [qAz,z3]
 have fr:∀ o:Obj,(zx5 b1 b2 s.heap l1 l2).get? (zx4 b1 b2 s.heap l1 l2).objs.size=some {cls:=.type "zip",dict:=none,data:=.fields #[.none,.bool false,.bool false,.ref (zx2 b1 b2 s.heap l1 l2).objs.size,.ref (zx3 b1 b2 s.heap l1 l2).objs.size],slots:=#[]}:=fun _=>qb _ rfl
 have g5:=fr {cls:=.none,data:=.seq #[]}
 have g4:(zx5 b1 b2 s.heap l1 l2).get? (zx3 b1 b2 s.heap l1 l2).objs.size=some {cls:=.type "tuple",data:=.seq #[.none,.none]}:=qE _ (qb _ rfl)
 have g3:(zx5 b1 b2 s.heap l1 l2).get? (zx2 b1 b2 s.heap l1 l2).objs.size=some {cls:=.type "tuple",data:=.seq #[.ref s.heap.objs.size,.ref (zx1 b1 s.heap l1).objs.size]}:=qE _ (qE _ (qb _ rfl))
 have g2:(zx5 b1 b2 s.heap l1 l2).get? (zx1 b1 s.heap l1).objs.size=some (itO b2 l2):=qE _ (qE _ (qE _ (qb _ (by cases b2<;>rfl))))
 have g1:(zx5 b1 b2 s.heap l1 l2).get? s.heap.objs.size=some (itO b1 l1):=qE _ (qE _ (qE _ (qE _ (qb _ (by cases b1<;>rfl)))))
 show _∧_
 rw [z2,z3,z4] at g5
 rw [z1,z2] at g3
 rw [z3] at g4
 rw [z1] at g2
 rw [z4]
 exact ⟨⟨_,g5,rfl⟩,h _ ⟨g5,g3,⟨_,_,g4⟩,zvb g1,zvb g2⟩ fun c o q=>qE _ (qE _ (qE _ (qE _ (qE _ q))))⟩
end PySem
namespace L2
open PySem PySem.Spec PyProof.Rows
theorem zass:bootBuiltins "zip" = some (.type "zip"):=by decide +kernel
def iZip (K:qB) (ta:TA):TI:=fun σ H R=>ta σ H fun vs H1=>∃ b1 b2 a1 a2,vs=[.ref a1,.ref a2]∧(∃ xs,SqX b1 K H1 a1 xs)∧(∃ ys,SqX b2 K H1 a2 ys)∧R (Itz K b1 a1 b2 a2) H1
theorem zgr.there {b:Bool} {h:Heap} {l:Addr} {xs:Array Value} (x:zgr b h l xs):l<h.objs.size:=by
 cases b with
 | true=>obtain ⟨o,q,_⟩:=x;exact qK q
 | false=>obtain ⟨o,q,_⟩:=x;exact qK q
theorem zagx {n l1 l2:Nat} (h1:l1<n) (h2:l2<n):ZipApart (n+4) (n+2) (n+3) n (n+1) l1 l2:=by
 constructor<;>first|exact qq (by omega)|exact qBQ (by omega)
theorem zast {X:Cx} {K:qB} (hK:X.K=K) {a b:Expr} {ta:TA} {p pos:Pos} {elts:List Expr} {x1} {tpos:Pos} (hg:Gl X "zip") (hm:X.mg "zip" = none) (ha:PA X [a,b] ta) (hs:starEach [a,b] X.env=(false,eval a X.env)::starEach [b] X.env:=by rfl) (hs2:(backTo pos (starEach [b] X.env)).any (·.1)=false:=by rfl) :
  PI X (.Tuple elts x1 tpos) (.Call (.Name "zip" p) [a,b] [] pos) (iZip K ta):=by
 subst hK
 intro pins s σ H R I h
 refine Call_ (zqe I hg hm zass (callWith_type1 (thn (ha pos pins s σ H _ I h) fun us s1 ⟨vs,H1,I1,r1,q1⟩=>?_) hs hs2))
 obtain ⟨b1,b2,l1,l2,rfl,⟨xs,e1⟩,⟨ys,e2⟩,q⟩:=q1
 obtain ⟨u1,u2,rfl,ru1,ru2⟩:=zwh r1
 cases ru1
 cases ru2
 obtain ⟨its1,rv1,p1,_⟩:=I1.sq e1
 obtain ⟨its2,rv2,p2,_⟩:=I1.sq e2
 have t1:=zgr.there p1
 have t2:=zgr.there p2
 refine zagw p1 p2 fun h' zt hk=>wpAny_pyIter_zip zt.z ?_
 have I2:Inv X pins σ H1 {s1 with heap:=h'}:=I1.kept (t':=s1.toks) hk
 have D:=zagx t1 t2
 refine ⟨s1.heap.objs.size+4,[s1.heap.objs.size+4,s1.heap.objs.size+2,s1.heap.objs.size+3,s1.heap.objs.size,s1.heap.objs.size+1],_,_,H1,rfl,I2,zale D,zt,fun c hc=>?_,q⟩
 have hge:s1.heap.objs.size≤c:=by
  simp only [qX,qAv,or_false] at hc
  rcases hc with rfl|rfl|rfl|rfl|rfl
  ·exact qB5 _ _
  ·exact qB5 _ _
  ·exact qB5 _ _
  ·exact qJ _
  ·exact qB5 _ _
 exact I1.fpOk hge (I1.hok.fresh hge)
def zaeb (f:AF):IF':=fun env=>(f env).bind fun rs=>match rs with
 | [r,t]=>(zif r.d).bind fun ds=>(zif t.d).map fun es=>(List.zipWith (fun d e=>.tuple [d,e]) ds es,r.bs++t.bs)
 | _=>none
theorem zagy {K:qB} {A:Addr→Prop} {H:Hp} {d:PyData} {ds:List PyData} {v:V} (h:Rp (Offs A H) d v) (e:zif d=some ds):∃ (b:Bool) (a:Addr) (xs:List V),v=.ref a∧Rps (Offs A H) ds xs∧∀ (B:Addr→Prop) (H':Hp),Same (Offs A H) (Offs B H')→SqX b K H' a xs:=by
 cases d with
 | list es =>
  cases e
  obtain ⟨a,xs,rfl,ha,r⟩:=zgl h
  exact ⟨true,a,xs,rfl,r,fun B H' s=>SqL.of (zdx (s _ _ ha))⟩
 | tuple es =>
  cases e
  obtain ⟨a,xs,rfl,ha,r⟩:=zea h
  exact ⟨false,a,xs,rfl,r,fun B H' s=>SqT.of (zdx (s _ _ ha))⟩
 | _=>cases e
theorem zalf {ds es:List PyData} {i:Nat} {d:PyData} (h:(List.zipWith (fun d e=>PyData.tuple [d,e]) ds es)[i]?=some d):∃ a b,ds[i]?=some a∧es[i]?=some b∧d=.tuple [a,b]:=by
 rw [List.getElem?_zipWith] at h
 cases e1:ds[i]? with
 | none=>rw [e1] at h;cases h
 | some a =>
  cases e2:es[i]? with
  | none=>rw [e1,e2] at h;cases h
  | some b=>rw [e1,e2] at h;cases h;exact ⟨a,b,rfl,rfl,rfl⟩
theorem zanf {K:qB} {ta:TA} {f:AF} (h1:SA ta f):SI (iZip K ta) (zaeb f):=by
 intro fx H0 env σ H h ds bs e R q
 unfold zaeb at e
 obtain ⟨rs,er,e⟩:=qA.mp e
 split at e
 ·rename_i r t
  obtain ⟨d1,ed1,e⟩:=qA.mp e
  obtain ⟨d2,ed2,e⟩:=qG.mp e
  cases e
  refine h1 fx H0 env σ H h _ er _ fun vs H1 s hv=>?_
  cases hv with
  | cons hv1 hv' =>
   cases hv' with
   | cons hv2 hv'' =>
    cases hv''
    have sub1:∀ b,(fx b∨own (frzs env (r.bs++t.bs)) σ b)→lim fx env σ r.bs b:=fun b z=>zmq (fun i hi=>qAA _ hi) b (zhg b z)
    have sub2:∀ b,(fx b∨own (frzs env (r.bs++t.bs)) σ b)→lim fx env σ t.bs b:=fun b z=>zmq (fun i hi=>qd _ hi) b (zhg b z)
    obtain ⟨b1,a1,xs,rfl,r1,e1⟩:=zagy (K:=K) (Rp.same (Offs.sub sub1) _ hv1.rp) ed1
    obtain ⟨b2,a2,ys,rfl,r2,e2⟩:=zagy (K:=K) (Rp.same (Offs.sub sub2) _ hv2.rp) ed2
    refine ⟨b1,b2,a1,a2,rfl,⟨xs,e1 _ H1 (Same.refl _)⟩,⟨ys,e2 _ H1 (Same.refl _)⟩,q _ H1 s ?_⟩
    intro A H' hA ss
    have q1:=e1 A H' ss
    have q2:=e2 A H' ss
    have r1':=Rps.same ss _ r1
    have r2':=Rps.same ss _ r2
    refine ⟨fun i d e=>?_,⟨xs,ys,q1,q2,?_⟩⟩
    ·obtain ⟨c1,c2,ec1,ec2,rfl⟩:=zalf e
     obtain ⟨v1,g1,rv1⟩:=r1'.get2 ec1
     obtain ⟨v2,g2,rv2⟩:=r2'.get2 ec2
     refine ⟨⟨xs,ys,v1,v2,q1,q2,g1,g2⟩,fun x H'' y=>?_⟩
     obtain ⟨p,x',y',rfl,hp,rfl,y1,y2⟩:=y
     have z1:=y1 xs q1
     rw [g1] at z1
     cases z1
     have z2:=y2 ys q2
     rw [g2] at z2
     cases z2
     exact ⟨Same.new hp,zko hp (zfe hA hp) (zck rv1 (zck rv2 zec))⟩
    ·rw [List.length_zipWith,r1.length,r2.length]
     rcases Nat.le_total xs.length ys.length with z|z
     ·exact .inl (by rw [Nat.min_eq_left z];exact qJ _)
     ·exact .inr (by rw [Nat.min_eq_right z];exact qJ _)
 ·cases e
def rInS (K:qB) (neg:Bool):R2:=fun x y H Q=>∃ d c ds,Rep K H d x∧Rep K H c y∧zif c=some ds∧qAD d=true∧qAD c=true∧Q (.bl (if neg then !(ds.any fun e=>qAK e d) else ds.any fun e=>qAK e d)) H
section
variable {X:Cx}
theorem shp {d:PyData} (h:qAD d=true):d.canLay0=true∧d.depth≤64:=by
 unfold qAD at h
 rw [qAB] at h
 exact ⟨h.1,of_decide_eq_true h.2⟩
theorem zavb {K:qB} (hK:X.K=K) (hu:X.A.units+64<cLine):OpR X (compareOp .In) (rInS K false):=by
 subst hK
 intro pins s σ H x y v u Q I rx ry h
 obtain ⟨d,c,ds,hd,hc,hi,sd,sc,q⟩:=h
 obtain ⟨as,r1⟩:=zgk I d hd rx
 obtain ⟨bs,r2⟩:=zgk I c hc ry
 obtain ⟨l1,p1⟩:=shp sd
 obtain ⟨l2,p2⟩:=shp sc
 have q:EP X pins σ Q (.bool (ds.any fun e=>qAK e d)) s:=⟨.bl (ds.any fun e=>qAK e d),H,I,rfl,q⟩
 cases c with
 | list es =>
  cases hi
  have p2:qi ds+1≤64:=p2
  exact SeqAt.in_list_reads r2 r1 l2 l1 (by have:=qBm (qi ds) d.depth;omega) q
 | tuple es =>
  cases hi
  have p2:qi ds+1≤64:=p2
  exact SeqAt.in_tuple_reads r2 r1 l2 l1 (by have:=qBm (qi ds) d.depth;omega) q
 | _=>cases hi
theorem zxk {K:qB} (hK:X.K=K) (hu:X.A.units+64<cLine):OpR X (compareOp .NotIn) (rInS K true):=by
 subst hK
 intro pins s σ H x y v u Q I rx ry h
 obtain ⟨d,c,ds,hd,hc,hi,sd,sc,q⟩:=h
 obtain ⟨as,r1⟩:=zgk I d hd rx
 obtain ⟨bs,r2⟩:=zgk I c hc ry
 obtain ⟨l1,p1⟩:=shp sd
 obtain ⟨l2,p2⟩:=shp sc
 have q:EP X pins σ Q (.bool (!(ds.any fun e=>qAK e d))) s:=⟨.bl (!(ds.any fun e=>qAK e d)),H,I,rfl,q⟩
 cases c with
 | list es =>
  cases hi
  have p2:qi ds+1≤64:=p2
  exact SeqAt.notIn_list_reads r2 r1 l2 l1 (by have:=qBm (qi ds) d.depth;omega) q
 | tuple es =>
  cases hi
  have p2:qi ds+1≤64:=p2
  exact SeqAt.notIn_tuple_reads r2 r1 l2 l1 (by have:=qBm (qi ds) d.depth;omega) q
 | _=>cases hi
end
def inS (neg:Bool):OF:=fun d c=>match zif c with
 | some ds=>if qAD d=true∧qAD c=true then some (.bool (if neg then !(ds.any fun e=>qAK e d) else ds.any fun e=>qAK e d),false) else none
 | none=>none
theorem zang {K:qB} {neg:Bool}:SO (rInS K neg) (inS neg):=by
 intro A H x y dx dy hA rx ry d fr e Q q
 unfold inS at e
 split at e
 ·rename_i ds hi
  split at e
  ·rename_i h
   cases e
   refine ⟨dx,dy,ds,zqq (qAo h.1) (Rp.same (Offs.same A H) _ rx),zqq (qAo h.2) (Rp.same (Offs.same A H) _ ry),hi,h.1,h.2,q _ H (Same.refl _) ?_ (fun z=>by cases z)⟩
   cases neg<;>exact zap
  ·cases e
 ·cases e
end L2
namespace PySem
open Sem (wp)
open AutoSeq1 (wpAny_loadPart')
theorem zalg {prog:Program} {w:World} {A:Around} (hh:A.handled=none) (b:Bool) (it l:Addr) (hne:l≠it) (items:Array Value) :
  Draws prog w A it [it,l] items.size (fun i v=>items[i]?=some v) (fun i h=>SqIt b h it l i∧zgr b h l items) where
 live:=fun _ _ st=>let ⟨o,ho,_⟩:=st.1.obj;⟨o,ho⟩
 frame:=fun _ _ _ st hk=>⟨st.1.moved fun o e=>hk it (by simp) o e,st.2.moved fun o e=>hk l (by simp) o e⟩
 item:=fun i s Q E hi st hQ=>by
  refine zva st.1 st.2 (x:=items[i]) (by simp [hi]) fun h' hit' hs'=>?_
  exact hQ _ h' s.toks (by simp [hi]) ⟨hit',st.2.moved fun o e=>hs'.extBut _ o hne e⟩ hs'
 done:=fun s Q E st hE=>zabz hh st.1 st.2 (by simp) hE
theorem zpo (l:Addr) (items:Array Value) (n:Nat) (dct:Option Addr) (sl:Array (Option Value)) :
  Meets (Builtin.«enumerate.__new__» ⟨[.type "enumerate",.ref l],[]⟩) (fun _ R s=>s.heap.get? l=some {cls:=.type "tuple",dict:=dct,data:=.seq items n,slots:=sl} ∧
   R (.ok (.ret (.ref (s.heap.push (itO false l)).objs.size))) {s with heap:=(s.heap.push (itO false l)).push {cls:=.type "enumerate",data:=.fields #[.none,.bool false,.ref s.heap.objs.size,rawInt 0,.none,.none]}}) :=
 .of_wp fun prog w A R s h=>by
  obtain ⟨hp,g,d,tk,os⟩:=s;obtain ⟨hl,h⟩:=h
  have hsub:=sub_enumerate
  have e1:Heap.IsTuple (Shared.heap ⟨hp,g,d,tk,os⟩) l items:=⟨_,hl,rfl,n,rfl⟩
  wp_walk using qBa hl
  refine wpAny_stack_any fun st=>qI ?_
  split
  ·rename_i c _ _ _ _ _
   cases (c==Value.type "enumerate")
   ·wp_walk using qBa hl,qAx e1
    exact ⟨_,rfl,h⟩
   ·wp_walk using qBa hl,qAx e1
    exact ⟨_,rfl,h⟩
  ·wp_walk using qBa hl,qAx e1
   exact ⟨_,rfl,h⟩
theorem zxl {prog:Program} {w:World} {A:Around} {E:Value→Shared→Prop} {s:Shared} {b:Bool} {l:Addr} {items:Array Value} {Q:Value→Shared→Prop} (hL:zgr b s.heap l items)
  (h:∀ h',IsEnum h' (s.heap.objs.size+1) s.heap.objs.size 0 .none→SqIt b h' s.heap.objs.size l 0→(∀ c o,s.heap.get? c=some o→h'.get? c=some o)→Q (.ref (s.heap.objs.size+1)) {s with heap:=h'}) :
  wpAny (model prog w) A (call (.type "enumerate") [.ref l]) Q E s:=by
 cases b with
 | true=>exact call_enumerate_list hL fun h' e i _ k=>h h' e i k
 | false =>
  obtain ⟨⟨c,dct,dt,sl⟩,hl,hc,n,hd⟩:=hL
  replace hc:c=.type "tuple":=hc
  replace hd:dt=.seq items n:=hd
  subst hc hd
  refine callType_new F.called_enumerate (by decide) (F.typeCall_enumerate_1 _) (F.newCall_enumerate_1 _) (fun obj=>F.args_object_init_2 obj _) F.entry_enumerate_new (zpo l items n dct sl) ⟨hl,?_⟩
  have hz:(s.heap.push (itO false l)).objs.size=s.heap.objs.size+1:=qAz ..
  have he:=qb (s.heap.push (itO false l)) (o:={cls:=.type "enumerate",data:=.fields #[.none,.bool false,.ref s.heap.objs.size,rawInt 0,.none,.none]}) rfl
  show _∧_
  rw [hz] at he ⊢
  exact ⟨⟨_,he,rfl⟩,h _ he (zvb (b:=false) (qE _ (qb _ rfl))) fun c o x=>qE _ (qE _ x)⟩
end PySem
namespace L2
open PySem PySem.Spec PyProof.Rows
def Itx (K:qB) (b:Bool) (a:Addr):It :=
 ⟨fun i H=>∃ xs x,SqX b K H a xs∧xs[i]?=some x,fun i H x H'=>∃ p y,x=.ref p∧H p=none∧H'=upd H p (.tup [.int i,y])∧∀ xs,SqX b K H a xs→xs[i]?=some y,fun i H=>∃ xs,SqX b K H a xs∧xs.length≤i⟩
theorem zaec {P:Program} {w:World} {K:qB} {elts:List Expr} {x1} {tpos:Pos} {b:Bool} (a e it:Addr) (hne:e≠it) (hea:e≠a) (hai:a≠it) :
  Turn P w K (.Tuple elts x1 tpos) (Itx K b a) [e,it] e (fun i h=>SqIt b h it a i∧∃ old,IsEnum h e it (i:Int) old) where
 mem:=by simp
 obj:=fun i h st c hc=>by
  obtain ⟨h1,old,h4⟩:=st
  rcases qX.mp hc with rfl|hc
  ·exact ⟨_,h4,fun v z=>by simp at z⟩
  ·have q:c=it:=by simpa using hc
   subst q
   exact h1.obj
 keep:=fun i h h' st k=>⟨st.1.moved fun o q=>k it (by simp) o q,let ⟨old,q⟩:=st.2;⟨old,k e (by simp) _ q⟩⟩
 item:=by
  intro X hP hw hK hc i pins s σ H E I hf st hg
  subst hP hw hK
  obtain ⟨xs,x,hq,hx⟩:=hg
  obtain ⟨its,rv,p,hz⟩:=I.sq hq
  obtain ⟨u,hu,ru⟩:=rv.get hx
  obtain ⟨hit,old,he⟩:=st
  have fe:=hf e (by simp)
  have fi:=hf it (by simp)
  have hlt:i<its.toArray.size:=by
   obtain ⟨hh,_⟩:=qP.mp hu
   simpa using hh
  refine wpAny_pyNext_enum_itemD (zalg (by exact I.ok.hd hc) b it a hai its.toArray) he ⟨hit,p⟩ hlt hne (by simp [hne,hea]) fun u' h1 tk pu e1 i1 t1 z1 k1=>?_
  have hu':u'=u:=by
   have pu:its.toArray[i]?=some u':=pu
   rw [List.getElem?_toArray,hu] at pu
   exact (qh pu).symm
  subst hu'
  refine ⟨_,rfl,wpAny_letOwnedTupleGo_enum (s:={s with heap:=h1,toks:=tk+1}) e1 fun h2 e2 sb2=>?_⟩
  have hp:H s.heap.objs.size=none:=I.hok.fresh (qJ _)
  have hes:e≠s.heap.objs.size:=qq (qK he)
  have k2:∀ c o,c≠e→c≠it→s.heap.get? c=some o→h2.get? c=some o:=fun c o q1 q2 q=>(sb2.2 c q1).trans (k1 c o q1 q2 q)
  have t2:h2.get? s.heap.objs.size=some {cls:=.type "tuple",data:=.seq #[.int i tk,u']}:=(sb2.2 _ (qAp hes)).trans t1
  have nch:∀ c,c∉[e,it]→c≠e∧c≠it:=fun c hb=>⟨fun z=>hb (by simp [z]),fun z=>hb (by simp [z])⟩
  refine ⟨.ref s.heap.objs.size,upd H s.heap.objs.size (.tup [.int i,x]),?_,rfl,⟨_,x,rfl,hp,rfl,fun ys hy=>by rw [I.sq_inj hy hq];exact hx⟩,⟨?_,u',e2⟩,fun c hb=>?_⟩
  ·refine Inv.step (s:=s) (h':=h2) (g':=s.gens) (d':=s.drawn) (t':=tk+1) (ch:=[e,it]) I (fun c hb=>?_) (fun c o _ _ hc q _=>k2 c o (nch c hc).1 (nch c hc).2 q) (fun c o _ _ hc q _=>⟨o.slots,k2 c o (nch c hc).1 (nch c hc).2 q⟩)
    (fun c o _ q n=>by rw [zbd (qq (qK q))];exact n) (fun c o hc q=>⟨o,k2 c o (nch c hc).1 (nch c hc).2 q⟩)
    (fun c xs q=>by rw [zbd (zbt q hp)];exact q) (fun c o v q=>by rw [zbd (zbt q hp)];exact q) (fun c ps q=>⟨#[],by rw [zbd (zbt q hp),q];simp⟩) (fun m hm=>?_) (fun c v q=>?_) I.bare
   ·rcases qX.mp hb with rfl|hb
    ·exact ⟨fe.2.2.2.1,fe.2.1,fe.2.2.2.2.1,fe.2.2.2.2.2⟩
    ·have z:c=it:=by simpa using hb
     subst z
     exact ⟨fi.2.2.2.1,fi.2.1,fi.2.2.2.2.1,fi.2.2.2.2.2⟩
   ·obtain ⟨o,es,ep,ho,r⟩:=hm
    exact ⟨o,es,ep,k2 _ o (qAp fe.2.1) (qAp fi.2.1) ho,r⟩
   ·by_cases hb:c=s.heap.objs.size
    ·subst hb
     rw [zax] at q
     cases q
     exact ⟨by show 2≤qU;decide,[.int i tk,u'],.cons ⟨_,rfl⟩ (.cons ru .nil),_,t2,rfl,_,rfl⟩
    ·rw [zbd hb] at q
     have nt:∀ c w',H c=some w'→c≠e∧c≠it:=fun c w' z=>⟨(fun y=>by rw [y,fe.1] at z;cases z),(fun y=>by rw [y,fi.1] at z;cases z)⟩
     refine (I.hok c v q).stay (fun c w' hc r=>?_) (fun c r=>by rw [zbd (zbt r hp)];exact r) fun c ys r=>by rw [zbd (zbt r hp)];exact r
     rcases hc with rfl|hc
     ·exact k2 c w' (nt c v q).1 (nt c v q).2 r
     ·exact k2 c w' (nt c _ hc).1 (nt c _ hc).2 r
  ·exact i1.1.moved fun o q=>(sb2.2 _ (qAp hne)).trans q
  ·rcases qX.mp hb with rfl|hb
   ·rw [zbd hes];exact fe.1
   ·have z:c=it:=by simpa using hb
    subst z
    obtain ⟨o,q1,_⟩:=hit.obj
    rw [zbd (qq (qK q1))]
    exact fi.1
 done:=by
  intro X hP hw hK hc i pins s σ H E I hf st hg
  subst hP hw hK
  obtain ⟨xs,hq,hx⟩:=hg
  obtain ⟨its,rv,p,hz⟩:=I.sq hq
  obtain ⟨hit,old,he⟩:=st
  obtain ⟨f0,f1,f2,f3,f4,f5⟩:=hf it (by simp)
  have hl:=rv.length
  have hT:s.TypeIs (.ref e) "enumerate":=⟨_,he,rfl⟩
  unfold pyNext
  refine qC (qCV (qAn (name:=Str.ofString "__next__") hT F.slot_enumerate_next (qBF F.slot_enumerate_next hT F.entry_enumerate_next ?_ (F.args_enumerate_next_1 _))))
  show wpAny _ _ (field (.ref e) 2 >>= _) _ _ _
  refine qC (qAZ he rfl (x:=.ref it) rfl ?_)
  refine qC (zabz (by exact I.ok.hd hc) hit p (by simp;omega) fun h' x he' hx'=>?_)
  obtain ⟨o,ho,hcl⟩:=hx'
  refine qC (qCj (T:="StopIteration") (b:=true) ⟨o,ho,hcl⟩ isSubtype_stop (qI ⟨rfl,?_⟩))
  exact I.turned (t':=s.toks) (fun c o hb q=>he' c o hb q) f0 f1 f3 f4 f5
 self:=fun _ _ _ _ _ st h=>let ⟨_,q⟩:=st.2;wpAny_pyIter_enum q h
def iEnumX (K:qB) (ta:TA):TI:=fun σ H R=>ta σ H fun vs H1=>∃ b a,vs=[.ref a]∧(∃ xs,SqX b K H1 a xs)∧R (Itx K b a) H1
theorem zalh {X:Cx} {K:qB} (hK:X.K=K) {a:Expr} {ta:TA} {p pos:Pos} {elts:List Expr} {x1} {tpos:Pos} (hg:Gl X "enumerate") (hm:X.mg "enumerate" = none) (ha:PA X [a] ta) (hs:starEach [a] X.env=[(false,eval a X.env)]:=by rfl) :
  PI X (.Tuple elts x1 tpos) (.Call (.Name "enumerate" p) [a] [] pos) (iEnumX K ta):=by
 subst hK
 intro pins s σ H R I h
 refine Call_ (zqe I hg hm boot_enumerate (qBX (thn (ha pos pins s σ H _ I h) fun us s1 ⟨vs,H1,I1,r1,q1⟩=>?_) hs rfl))
 obtain ⟨b,l,rfl,⟨xs,hq⟩,q⟩:=q1
 obtain ⟨u,rfl,ru⟩:=zwg r1
 cases ru
 obtain ⟨its,rv,pl,hz⟩:=I1.sq hq
 have lt:=zgr.there pl
 refine zxl pl fun h' he hit hk=>wpAny_pyIter_enum he ?_
 have I2:Inv X pins σ H1 {s1 with heap:=h'}:=I1.kept (t':=s1.toks) hk
 refine ⟨s1.heap.objs.size+1,[s1.heap.objs.size+1,s1.heap.objs.size],_,_,H1,rfl,I2,zaec l _ _ (Nat.succ_ne_self _) (qBQ (Nat.lt_succ_of_lt lt)) (qq lt),⟨hit,_,he⟩,fun c hb=>?_,q⟩
 rcases qX.mp hb with rfl|hb
 ·exact I1.fpOk (qCe _) (I1.hok.fresh (qCe _))
 ·have e:c=s1.heap.objs.size:=by simpa using hb
  subst e
  exact I1.fpOk (qJ _) (I1.hok.fresh (qJ _))
def zxm (f:AF):IF':=fun env=>(f env).bind fun rs=>match rs with
 | [r]=>(zif r.d).map fun ds=>(zsq ds,r.bs)
 | _=>none
theorem zaca {K:qB} {ta:TA} {f:AF} (h1:SA ta f):SI (iEnumX K ta) (zxm f):=by
 intro fx H0 env σ H h ds bs e R q
 unfold zxm at e
 obtain ⟨rs,er,e⟩:=qA.mp e
 split at e
 ·rename_i r
  obtain ⟨d1,ed1,e⟩:=qG.mp e
  cases e
  refine h1 fx H0 env σ H h _ er _ fun vs H1 s hv=>?_
  cases hv with
  | cons hv t =>
   cases t
   obtain ⟨b,a,xs,rfl,r1,e1⟩:=zagy (K:=K) (Rp.same (Offs.sub (zhg (bs:=r.bs))) _ hv.rp) ed1
   refine ⟨b,a,rfl,⟨xs,e1 _ H1 (Same.refl _)⟩,q _ H1 s ?_⟩
   intro A H' hA ss
   have q1:=e1 A H' ss
   have r1':=Rps.same ss _ r1
   have hl:(zsq d1).length=d1.length:=by unfold zsq;simp
   refine ⟨fun i d e=>?_,⟨xs,q1,by rw [hl,r1.length];exact qJ _⟩⟩
   unfold zsq at e
   rw [qT,qDB] at e
   cases e0:d1[i]? with
   | none=>rw [e0] at e;cases e
   | some d0 =>
    rw [e0] at e
    obtain ⟨v,hv,rv⟩:=r1'.get2 e0
    have e:PyData.tuple [.int ((0+i:Nat):Int),d0]=d:=qh e
    rw [qB9] at e
    subst e
    refine ⟨⟨xs,v,q1,hv⟩,fun x H'' y=>?_⟩
    obtain ⟨p,y',rfl,hp,rfl,y⟩:=y
    have:=y xs q1
    rw [hv] at this
    cases this
    exact ⟨Same.new hp,zko hp (zfe hA hp) (zck zaf (zck rv zec))⟩
 ·cases e
theorem zxn {K:qB} {ta:TA} {f:AF} (h1:SA ta f):SI (iEnumX K ta) (ztj f):=fun fx H0 env σ H h ds bs e R q =>
 zaca h1 fx H0 env σ H h ds bs (by
  unfold ztj at e
  unfold zxm
  obtain ⟨rs,er,e⟩:=qA.mp e
  rw [er]
  cases rs with
  | nil=>cases e
  | cons r t =>
   cases t with
   | nil =>
    obtain ⟨d,fr,b⟩:=r
    cases d<;>first|exact e|cases e
   | cons _ _=>cases e) R q
def isStar:Expr→Bool
 | .Starred ..=>true
 | _=>false
theorem zag {e:Expr} {es:List Expr} {env:Env} (h:isStar e=false):starEach (e::es) env=(false,eval e env)::starEach es env:=by
 cases e<;>first
  | rfl
  | cases h
theorem zali {X:Cx} {e:Expr} {es:List Expr} {te:TE} {t:TA} (ha:PE X e te) (hr:PA X es t) (hs:isStar e=false:=by rfl):PA X (e::es) (tCons te t):=zki ha hr (zag hs)
end L2
namespace PySem.SeqAt
open AutoSeq1 (wpAny_loadPart')
open MeetsSeq PyProof.Rows
section
variable {A:Around} {s:Shared}
end
end PySem.SeqAt
namespace L2
open PySem PySem.Spec PyProof.Rows
section
variable {X:Cx}
end
structure Bx (p:Prop):Prop where
 out:p
theorem Bx.pt {X:Cx} {e:Expr} {t:TT} (h:Bx (PW X e t)):Bx (PT X e t):=⟨h.out.pt⟩
theorem zaj:∀ {X:L2.Cx} {i:Int} {j:Nat} {pos:qm},L2.Bx (L2.PE X (qO.Constant (PySem.Const.int i) j pos) (L2.tC (L2.V.int i))):=by
 intro X i j pos
 exact ⟨@ziy X i j pos⟩
theorem zah:∀ {X:L2.Cx},L2.Bx (L2.PA X [] L2.tNil):=by
 intro X
 exact ⟨@zpb X⟩
theorem zaa:∀ {X:L2.Cx} {e:qO} {es:List qO} {te:L2.TE} {t:L2.TA},L2.Bx (L2.PE X e te)→L2.Bx (L2.PA X es t)→L2.isStar e=Bool.false→L2.Bx (L2.PA X (e::es) (L2.tCons te t)):=by
 intro X e es te t ha hr hs
 exact ⟨@zali X e es te t ha.out hr.out hs⟩
theorem zaw:∀ {X:L2.Cx} {a b:qO} {ta tb:L2.TE} {pos:qm} {op:PySem.Operator} {r:L2.R2},L2.OpR X (PySem.binaryOp op) r→L2.Bx (L2.PE X a ta)→L2.Bx (L2.PE X b tb)→L2.Bx (L2.PE X (a.BinOp op b pos) (L2.tOp r ta tb)):=by
 intro X a b ta tb pos op r ho ha hb
 exact ⟨@zmc X a b ta tb pos op r ho ha.out hb.out⟩
theorem zal:∀ {X:L2.Cx} {st:PySem.Stmt} {t:L2.TS},L2.Bx (L2.PS X st t)→L2.Bx (L2.PSs X [st] t):=by
 intro X st t h1
 exact ⟨@zml X st t h1.out⟩
theorem zai:∀ {X:L2.Cx} {st:PySem.Stmt} {rest:List PySem.Stmt} {t u:L2.TS},L2.Bx (L2.PS X st t)→L2.Bx (L2.PSs X rest u)→L2.Bx (L2.PSs X (st::rest) (L2.tSeq t u)):=by
 intro X st rest t u h1 h2
 exact ⟨@zlo X st rest t u h1.out h2.out⟩
theorem zcd:∀ {X:L2.Cx} {x:PySem.Str} {p pos:qm} {e:qO} {es:List qO} {t:L2.TA} {ps:List PySem.Str} {k:Nat} {sp:L2.Sp},L2.Dn X.prog X.w X.K X.mg X.base x ps k sp→L2.Room k X.A→L2.Gl X x→L2.Bx (L2.PA X (e::es) t)→(x==qy "__debug__")=Bool.false→qAL (e::es) X.env=(Bool.false,PySem.eval e X.env)::qAL es X.env→((PySem.backTo pos (qAL es X.env)).any fun (x:Bool×PySem.Sem PySem.Value)=>x.fst)=Bool.false→L2.Bx (L2.PE X ((qO.Name x p).Call (e::es) [] pos) (L2.tCall sp [] L2.E0 t)):=by
 intro X x p pos e es t ps k sp D hr hg ha hdb he hpl
 exact ⟨@zauk X x p pos e es t ps k sp D hr hg ha.out hdb he hpl⟩
theorem zbo:∀ {X:L2.Cx} {e:qO} {te:L2.TE} {pos:qm},L2.Bx (L2.PE X e te)→L2.Bx (L2.PS X (PySem.Stmt.Return (Option.some e) pos) (L2.tRet te)):=by
 intro X e te pos he
 exact ⟨@zamn X e te pos he.out⟩
theorem zay:∀ {X:L2.Cx} {pos:qm} {i:Nat} {x:PySem.Str} {e:qO} {te:L2.TE} {pos':qm},X.N.Nodup→X.N[i]?=Option.some x→L2.Loc X.env.scope x→L2.Bx (L2.PE X e te)→PySem.swapsWith e (Option.some (qO.Name x pos')) pos.line X.env=Pure.pure Bool.false→X.fn x=Bool.true∨List.lookup x X.env.scope.names=Option.some PySem.NameKind.local→L2.Bx (L2.PS X (PySem.Stmt.Assign [qO.Name x pos'] e pos) (L2.tAsg te (L2.gName i))):=by
 intro X pos i x e te pos' hN hi hx he hs hf
 exact ⟨@zabl X pos i x e te pos' hN hi hx he.out hs hf⟩
theorem zbm:∀ {X:L2.Cx} {x:PySem.Str} {p pos:qm} {e:qO} {es:List qO} {t:L2.TA} {id:String} {r:List L2.V→L2.Hp→L2.VK→Prop},L2.CallR X (PySem.Value.builtin id) r→L2.Gl X x→X.mg x=Option.none→PySem.bootBuiltins x=Option.some (PySem.Value.builtin id)→L2.Bx (L2.PA X (e::es) t)→x≠qy "__name__" → (x==qy "__debug__")=Bool.false→qAL (e::es) X.env=(Bool.false,PySem.eval e X.env)::qAL es X.env→((PySem.backTo pos (qAL es X.env)).any fun (x:Bool×PySem.Sem PySem.Value)=>x.fst)=Bool.false→L2.Bx (L2.PE X ((qO.Name x p).Call (e::es) [] pos) (L2.tCB r t)):=by
 intro X x p pos e es t id r hc hg hm hv ha hn hdb he hpl
 exact ⟨@zabm X x p pos e es t id r hc hg hm hv ha.out hn hdb he hpl⟩
theorem zdh:∀ {X:L2.Cx} {b:Bool} {j:Nat} {pos:qm},L2.Bx (L2.PE X (qO.Constant (PySem.Const.bool b) j pos) (L2.tC (L2.V.bl b))):=by
 intro X b j pos
 exact ⟨@zatz X b j pos⟩
theorem zbw:∀ {X:L2.Cx} {a b:qO} {ta tb:L2.TE} {pos:qm} {r:L2.R2},L2.IxR X r→L2.Bx (L2.PE X a ta)→L2.Bx (L2.PE X b tb)→L2.PlainIx b→L2.Bx (L2.PE X (a.Subscript b pos) (L2.tOp r ta tb)):=by
 intro X a b ta tb pos r hr ha hb hs
 exact ⟨@zarq X a b ta tb pos r hr ha.out hb.out hs⟩
theorem zdr:∀ {X:L2.Cx} {t u:L2.TS} {pos:qm} {c:qO} {a b:List PySem.Stmt} {tc:L2.TT},L2.Bx (L2.PT X c tc)→L2.Bx (L2.PSs X a t)→L2.Bx (L2.PSs X b u)→L2.Bx (L2.PS X (PySem.Stmt.If c a b pos) (L2.tIfS tc t u)):=by
 intro X t u pos c a b tc hc ha hb
 exact ⟨@zard X t u pos c a b tc hc.out ha.out hb.out⟩
theorem zby:∀ {X:L2.Cx},L2.Bx (L2.PSs X [] L2.tNext):=by
 intro X
 exact ⟨@zanw X⟩
theorem zon:∀ {X:L2.Cx} {a:qO} {pos:qm} {tA:L2.TT},L2.Bx (L2.PT X a tA)→L2.Bx (L2.PT X (qO.UnaryOp PySem.UnaryOp.Not a pos) (L2.tNot tA)):=by
 intro X a pos tA ha
 exact ⟨@zara X a pos tA ha.out⟩
theorem zcr:∀ {X:L2.Cx} {K:qB},
 X.K=K →
  ∀ {a:qO} {ta:L2.TE},
   L2.Bx (L2.PE X a ta) →
    (∀ (whole:PySem.Sem PySem.Value),
      PySem.isTrue a X.env whole=do
       let v ← whole
       PySem.standAt a.pos
       PySem.holding [v] (PySem.truthy v)) →
     L2.Bx (L2.PT X a fun (σ:L2.St) (H:L2.Hp) (Q:Bool→L2.Hp→Prop)=>ta σ H fun (x:L2.V) (H':L2.Hp)=>∃ (k:Bool),L2.TruV K x H' k∧Q k H'):=by
 intro X K hK a ta ha he
 exact ⟨@zagg X K hK a ta ha.out he⟩
theorem zao:∀ {X:L2.Cx} {pos:qm} {i:Nat} {x:PySem.Str},X.N.Nodup→X.N[i]?=Option.some x→L2.Loc X.env.scope x→X.fn x=Bool.true∨List.lookup x X.env.scope.names=Option.some PySem.NameKind.local→L2.Bx (L2.PG X (qO.Name x pos) (L2.gName i)):=by
 intro X pos i x hN hi hx hf
 exact ⟨@zzq X pos i x hN hi hx hf⟩
theorem zgb:∀ {X:L2.Cx} {es:List qO} {t:L2.TA} {pos:qm},L2.Bx (L2.PA X es t)→L2.Bx (L2.PE X (qO.List es pos) (L2.tLst t)):=by
 intro X es t pos h
 exact ⟨@zamq X es t pos h.out⟩
theorem zdv:∀ {X:L2.Cx} {tg iter:qO} {body:List PySem.Stmt} {wi:L2.TI} {g:L2.TG} {tb:L2.TS} {pos:qm},PySem.PassesOwn (PySem.model X.prog X.w) X.A X.env X.xe→X.calm=Bool.true→L2.Bx (L2.PI X tg iter wi)→L2.Bx (L2.PG X tg g)→L2.Bx (L2.PSs X body tb)→(∀ (x:PySem.Value),PySem.foldedSetIterable iter X.env x=Pure.pure x)→L2.Bx (L2.PS X (PySem.Stmt.For tg iter body [] pos) (L2.tFor wi g tb)):=by
 intro X tg iter body wi g tb pos hp hc hi hg hb hs
 exact ⟨@zaex X tg iter body wi g tb pos hp hc hi.out hg.out hb.out hs⟩
theorem zbz:∀ {X:L2.Cx} {a b:qO} {ta tb:L2.TE} {pos:qm} {op:PySem.CmpOp} {r:L2.R2},L2.OpR X (PySem.compareOp op) r→L2.Bx (L2.PE X a ta)→L2.Bx (L2.PE X b tb)→PySem.behindInMarks op b=Bool.false→L2.Bx (L2.PT X (a.Compare [op] [b] pos) (L2.tTest (L2.tOp r ta tb))):=by
 intro X a b ta tb pos op r ho ha hb hm
 exact ⟨@zafa X a b ta tb pos op r ho ha.out hb.out hm⟩
theorem zfu:∀ {X:L2.Cx} {x:PySem.Str} {j:Nat} {pos:qm},L2.Bx (L2.PE X (qO.Constant (PySem.Const.str x) j pos) (L2.tC (L2.V.str x))):=by
 intro X x j pos
 exact ⟨@zaqw X x j pos⟩
theorem zdm:∀ {X:L2.Cx} {e:qO} {te:L2.TE} {pos:qm},L2.Bx (L2.PE X e te)→PySem.swapsWith e Option.none pos.line X.env=Pure.pure Bool.false→L2.Bx (L2.PS X (PySem.Stmt.Expr e pos) (L2.tDrop te)):=by
 intro X e te pos he hs
 exact ⟨@zuh X e te pos he.out hs⟩
theorem zch:∀ {X:L2.Cx} {es:List qO} {t:L2.TA} {pos:qm} {x1:Nat},L2.Bx (L2.PA X es t)→L2.Bx (L2.PE X (qO.Tuple es x1 pos) (L2.tTup t)):=by
 intro X es t pos x1 h
 exact ⟨@zarl X es t pos x1 h.out⟩
theorem zaai:∀ {X:L2.Cx} {a:qO} {pos:qm} {op:PySem.BoolOp} {t:L2.TE},L2.Bx (L2.PE X a t)→L2.Bx (L2.PE X (qO.BoolOp op [a] pos) t):=by
 intro X a pos op t h
 exact ⟨@zarb X a pos op t h.out⟩
theorem zpz:∀ {X:L2.Cx} {a b:qO} {ta tb:L2.TE} {pos:qm} {op:PySem.CmpOp} {r:L2.R2},L2.OpR X (PySem.compareOp op) r→L2.Bx (L2.PE X a ta)→L2.Bx (L2.PE X b tb)→PySem.behindInMarks op b=Bool.false→L2.Bx (L2.PE X (a.Compare [op] [b] pos) (L2.tOp r ta tb)):=by
 intro X a b ta tb pos op r ho ha hb hm
 exact ⟨@zaoa X a b ta tb pos op r ho ha.out hb.out hm⟩
theorem zdd:∀ {X:L2.Cx} {x:PySem.Str} {p pos:qm} {e:qO} {es:List qO} {t:L2.TA} {T:String} {r:List L2.V→L2.Hp→L2.VK→Prop},L2.CallR X (PySem.Value.type T) r→L2.Gl X x→X.mg x=Option.none→PySem.bootBuiltins x=Option.some (PySem.Value.type T)→L2.Bx (L2.PA X (e::es) t)→x≠qy "__name__" → (x==qy "__debug__")=Bool.false→qAL (e::es) X.env=(Bool.false,PySem.eval e X.env)::qAL es X.env→((PySem.backTo pos (qAL es X.env)).any fun (x:Bool×PySem.Sem PySem.Value)=>x.fst)=Bool.false→L2.Bx (L2.PE X ((qO.Name x p).Call (e::es) [] pos) (L2.tCB r t)):=by
 intro X x p pos e es t T r hc hg hm hv ha hn hdb he hpl
 exact ⟨@zafg X x p pos e es t T r hc hg hm hv ha.out hn hdb he hpl⟩
theorem zvc:∀ {X:L2.Cx} {x:PySem.Str} {v:L2.V} {u:PySem.Value} {pos:qm},L2.Gl X x→X.mg x=Option.none→PySem.bootBuiltins x=Option.some u→L2.RelV v u→x≠qy "__name__" → (x==qy "__debug__")=Bool.false→L2.Bx (L2.PE X (qO.Name x pos) (L2.tC v)):=by
 intro X x v u pos hg hm hv r hn hd
 exact ⟨@zanu X x v u pos hg hm hv r hn hd⟩
theorem zagz:∀ {X:L2.Cx} {a:qO} {pos:qm} {tA:L2.TT},L2.Bx (L2.PT X a tA)→L2.Bx (L2.PW X (qO.BoolOp PySem.BoolOp.Or [a] pos) tA):=by
 intro X a pos tA ha
 exact ⟨@zaqy X a pos tA ha.out⟩
theorem zanh:∀ {X:L2.Cx} {a b:qO} {pos:qm} {tA tB':L2.TT} {rest:List qO},L2.Bx (L2.PT X a tA)→L2.Bx (L2.PW X (qO.BoolOp PySem.BoolOp.Or (b::rest) pos) tB')→L2.Bx (L2.PW X (qO.BoolOp PySem.BoolOp.Or (a::b::rest) pos) (L2.tOr tA tB')):=by
 intro X a b pos tA tB' rest ha hb
 exact ⟨@zaua X a b pos tA tB' rest ha.out hb.out⟩
theorem zca:∀ {X:L2.Cx} {e:qO} {te:L2.TE},L2.Bx (L2.PE X e te)→L2.Bx (L2.PO X (Option.some e) (L2.tPart te)):=by
 intro X e te h
 exact ⟨@zafj X e te h.out⟩
theorem zdn:∀ {X:L2.Cx},L2.Bx (L2.PO X Option.none L2.tNoPart):=by
 intro X
 exact ⟨@zafi X⟩
theorem zbx:∀ {X:L2.Cx} {e:qO} {te:L2.TE} {lo hi:Option qO} {tl th:L2.TO} {pos p2:qm} {r:L2.V→Option Int→Option Int→L2.Hp→L2.VK→Prop},L2.SlR X r→L2.Bx (L2.PE X e te)→L2.Bx (L2.PO X lo tl)→L2.Bx (L2.PO X hi th)→L2.Bx (L2.PE X (e.Subscript (qO.Slice lo hi Option.none p2) pos) (L2.tSl r te tl th)):=by
 intro X e te lo hi tl th pos p2 r hr he hl hu
 exact ⟨@zabn X e te lo hi tl th pos p2 r hr he.out hl.out hu.out⟩
theorem zcw:∀ {X:L2.Cx} {scope:PySem.Scope} {N' own:List PySem.Str} {fr:List Nat} {elt target iter:qO} {ifs:List qO} {cpos:qm} {wi:L2.TI} {g:L2.TG} {tt:L2.TT} {te:L2.TE},L2.CompOk X scope N' own fr→X.calm=Bool.true→L2.Bx (L2.PI X target iter wi)→(∀ (cl:List (PySem.Str×PySem.Addr)) (C:PySem.Addr) (s:PySem.Shared) (H:L2.Hp) (fp:List PySem.Addr),L2.PG (L2.cxComp X scope N' own cl C s H fp) target g∧L2.PF (L2.cxComp X scope N' own cl C s H fp) ifs tt∧L2.PE (L2.cxComp X scope N' own cl C s H fp) elt te)→(∀ (x:PySem.Value),PySem.foldedSetIterable iter X.env x=Pure.pure x)→L2.Bx (L2.PE X (elt.ListComp [{target:=target,iter:=iter,ifs:=ifs,is_async:=0}] scope cpos) (L2.tComp1 wi g tt te own fr)):=by
 intro X scope N' own fr elt target iter ifs cpos wi g tt te c hc hi hb hs
 exact ⟨@zakc X scope N' own fr elt target iter ifs cpos wi g tt te c hc hi.out hb hs⟩
theorem zfh:∀ {X:L2.Cx} {K:qB},X.K=K→∀ {T:String} {name:PySem.Str} {id:String} {r:L2.V→List L2.V→L2.Hp→L2.VK→Prop} {o e:qO} {es:List qO} {to:L2.TE} {t:L2.TA} {apos cpos:qm},PySem.PlainAttrs T→PySem.Slot T name id→PySem.typeOf (PySem.Value.builtin id)=Pure.pure (PySem.Value.type "method_descriptor")→L2.MtR X id r→L2.Bx (L2.PE X o to)→L2.Bx (L2.PA X (e::es) t)→PySem.attributeBase o name X.env (PySem.eval o X.env)=PySem.eval o X.env→((((PySem.backTo cpos (qAL (e::es) X.env)).all fun (x:Bool×PySem.Sem PySem.Value)=>!x.fst)&&(PySem.backToKw cpos (PySem.keywordEach [] X.env)).all fun (x:Option PySem.Str×PySem.Sem PySem.Value)=>x.fst.isSome)&&Decidable.decide (((e::es).length+([]:List Keyword).length+if ([]:List Keyword).isEmpty=Bool.true then 0 else 1)<30))=Bool.true→(apos.endLine==cpos.line)=Bool.true→qAL (e::es) X.env=(Bool.false,PySem.eval e X.env)::qAL es X.env→((PySem.backTo cpos (qAL es X.env)).any fun (x:Bool×PySem.Sem PySem.Value)=>x.fst)=Bool.false→L2.Bx (L2.PE X ((o.Attribute name apos).Call (e::es) [] cpos) (L2.tBM K T r to t)):=by
 intro X K hK T name id r o e es to t apos cpos pa slot hty hm ho ha hbase hfew hline hs hplain
 exact ⟨@zafx X K hK T name id r o e es to t apos cpos pa slot hty hm ho.out ha.out hbase hfew hline hs hplain⟩
theorem zaaj:∀ {X:L2.Cx} {a b:qO} {ta tb:L2.TE} {pos:qm} {rest:List qO},L2.Bx (L2.PE X a ta)→L2.Bx (L2.PE X (qO.BoolOp PySem.BoolOp.And (b::rest) pos) tb)→L2.Bx (L2.PE X (qO.BoolOp PySem.BoolOp.And (a::b::rest) pos) (L2.tAndV ta tb)):=by
 intro X a b ta tb pos rest ha hb
 exact ⟨@zarc X a b ta tb pos rest ha.out hb.out⟩
theorem zalj:∀ {X:L2.Cx} {pos:qm},L2.Bx (L2.PPs X pos [] [] []):=by
 intro X pos
 exact ⟨@zaol X pos⟩
theorem zaha:∀ {X:L2.Cx} {pos:qm} {k v:qO} {ks:List (Option qO)} {vs:List qO} {tk tv:L2.TE} {trs:List (L2.TE×L2.TE)},L2.Bx (L2.PE X k tk)→L2.Bx (L2.PE X v tv)→L2.Bx (L2.PPs X pos ks vs trs)→L2.Bx (L2.PPs X pos (Option.some k::ks) (v::vs) ((tk,tv)::trs)):=by
 intro X pos k v ks vs tk tv trs hk hv hr
 exact ⟨@zajw X pos k v ks vs tk tv trs hk.out hv.out hr.out⟩
theorem zbh:∀ {X:L2.Cx} {K:qB},X.K=K→∀ {tg l:qO} {tl:L2.TE},L2.Bx (L2.PE X l tl)→L2.Bx (L2.PI X tg l (L2.iSeq K tl)):=by
 intro X K hK tg l tl hl
 exact ⟨@zaow X K hK tg l tl hl.out⟩
theorem zoo:∀ {X:L2.Cx} {tg a:qO} {ta:L2.TA} {p pos:qm},L2.Gl X (qy "range")→X.mg (qy "range")=Option.none→L2.Bx (L2.PA X [a] ta)→qAL [a] X.env=[(Bool.false,PySem.eval a X.env)]→L2.Bx (L2.PI X tg ((qO.Name (qy "range") p).Call [a] [] pos) (L2.iRng1 ta)):=by
 intro X tg a ta p pos hg hm ha hs
 exact ⟨@zwd X tg a ta p pos hg hm ha.out hs⟩
theorem zfv:∀ {X:L2.Cx},L2.Bx (L2.PF X [] L2.tAll):=by
 intro X
 exact ⟨@zarz X⟩
theorem zahb:∀ {X:L2.Cx} {j:Nat} {pos:qm},L2.Bx (L2.PE X (qO.Constant PySem.Const.none j pos) (L2.tC L2.V.non)):=by
 intro X j pos
 exact ⟨@zaqv X j pos⟩
theorem zqw:∀ {X:L2.Cx} {pos:qm},L2.Bx (L2.PE X (qO.Dict [] [] pos) L2.tDNewK):=by
 intro X pos
 exact ⟨@zajv X pos⟩
theorem zalk:∀ {X:L2.Cx} {pos:qm} {keys:List (Option qO)} {values:List qO} {trs:List (L2.TE×L2.TE)},L2.Bx (L2.PPs X pos keys values trs)→(keys.all fun (x:Option qO)=>x.isSome)=Bool.true→keys.length=values.length→keys≠[]→keys.length≤15→L2.Bx (L2.PE X (qO.Dict keys values pos) (L2.tDisp trs)):=by
 intro X pos keys values trs h hall hl h0 h15
 exact ⟨@zaom X pos keys values trs h.out hall hl h0 h15⟩
theorem zqx:∀ {X:L2.Cx} {c:qO} {t:L2.TT},L2.Bx (L2.PT X c t)→L2.Bx (L2.PF X [c] t):=by
 intro X c t h
 exact ⟨@zasa X c t h.out⟩
theorem zjq:∀ {X:L2.Cx} {o i:qO} {pos:qm} {td ty:L2.TE},X.A.units+1<PySem.cLine→L2.Bx (L2.PE X o td)→L2.Bx (L2.PE X i ty)→L2.NoSl i→L2.Bx (L2.PE X (o.Subscript i pos) (L2.tDGet td ty)):=by
 intro X o i pos td ty hu ho hi hs
 exact ⟨@zaoj X o i pos td ty hu ho.out hi.out hs⟩
theorem zacb:∀ {X:L2.Cx} {a:qO} {pos:qm} {tA:L2.TT},L2.Bx (L2.PT X a tA)→L2.Bx (L2.PW X (qO.BoolOp PySem.BoolOp.And [a] pos) tA):=by
 intro X a pos tA ha
 exact ⟨@zanv X a pos tA ha.out⟩
theorem zaak:∀ {X:L2.Cx} {a b:qO} {pos:qm} {tA tB':L2.TT} {rest:List qO},L2.Bx (L2.PT X a tA)→L2.Bx (L2.PW X (qO.BoolOp PySem.BoolOp.And (b::rest) pos) tB')→L2.Bx (L2.PW X (qO.BoolOp PySem.BoolOp.And (a::b::rest) pos) (L2.tAnd tA tB')):=by
 intro X a b pos tA tB' rest ha hb
 exact ⟨@zaqz X a b pos tA tB' rest ha.out hb.out⟩
theorem zacc:∀ {X:L2.Cx} {o i value:qO} {pos pos':qm} {td ty tv:L2.TE},X.A.units+1<PySem.cLine→L2.Bx (L2.PE X o td)→L2.Bx (L2.PE X i ty)→L2.Bx (L2.PE X value tv)→PySem.swapsWith value (Option.some (o.Subscript i pos')) pos.line X.env=Pure.pure Bool.false→L2.Bx (L2.PS X (PySem.Stmt.Assign [o.Subscript i pos'] value pos) (L2.sDPut td ty tv)):=by
 intro X o i value pos pos' td ty tv hu ho hi hv hs
 exact ⟨@zaok X o i value pos pos' td ty tv hu ho.out hi.out hv.out hs⟩
theorem zqy:∀ {X:L2.Cx} {scope:PySem.Scope} {N' own:List PySem.Str} {fr:List Nat} {elt target iter:qO} {ifs:List qO} {cpos:qm} {wi:L2.TI} {g:L2.TG} {tt:L2.TT} {te:L2.TE} {spos py:qm} {i:Nat} {y:PySem.Str},L2.CompOk X scope N' own fr→X.calm=Bool.true→L2.Bx (L2.PI X target iter wi)→(∀ (cl:List (PySem.Str×PySem.Addr)) (C:PySem.Addr) (s:PySem.Shared) (H:L2.Hp) (fp:List PySem.Addr),L2.PG (L2.cxComp X scope N' own cl C s H fp) target g∧L2.PF (L2.cxComp X scope N' own cl C s H fp) ifs tt∧L2.PE (L2.cxComp X scope N' own cl C s H fp) elt te)→PySem.swapsWith (elt.ListComp [{target:=target,iter:=iter,ifs:=ifs,is_async:=0}] scope cpos) (Option.some (qO.Name y py)) spos.line X.env=Pure.pure Bool.true→X.N.Nodup→X.N[i]?=Option.some y→List.lookup y X.env.scope.names=Option.some PySem.NameKind.local→(∀ (x:PySem.Value),PySem.foldedSetIterable iter X.env x=Pure.pure x)→L2.Bx (L2.PS X (PySem.Stmt.Assign [qO.Name y py] (elt.ListComp [{target:=target,iter:=iter,ifs:=ifs,is_async:=0}] scope cpos) spos) (L2.tAsgC1 wi g tt te own fr i)):=by
 intro X scope N' own fr elt target iter ifs cpos wi g tt te spos py i y c hc hi hb hsw hN hy hl hs
 exact ⟨@zakd X scope N' own fr elt target iter ifs cpos wi g tt te spos py i y c hc hi.out hb hsw hN hy hl hs⟩
theorem zahc:∀ {X:L2.Cx} {pos:qm} {tg e:qO} {te:L2.TE} {g:L2.TG},L2.Bx (L2.PE X e te)→L2.Bx (L2.PG X tg g)→PySem.swapsWithSole [tg] e pos.line X.env=Pure.pure Bool.false→PySem.swappedStores [tg] e X.env=Pure.pure Option.none→List.map (fun (x:Bool×(PySem.Value→PySem.Sem Unit))=>x.snd) (PySem.assignEach [tg] X.env)=[PySem.assign tg X.env]→L2.Bx (L2.PS X (PySem.Stmt.Assign [tg] e pos) (L2.tAsg te g)):=by
 intro X pos tg e te g he hg hs hw h1
 exact ⟨@zarf X pos tg e te g he.out hg.out hs hw h1⟩
theorem zahd:∀ {X:L2.Cx} {K:qB},X.K=K→∀ {a b:qO} {ta:L2.TA} {p pos:qm} {elts:List qO} {x1:Nat} {tpos:qm},L2.Gl X (qy "zip")→X.mg (qy "zip")=Option.none→L2.Bx (L2.PA X [a,b] ta)→qAL [a,b] X.env=(Bool.false,PySem.eval a X.env)::qAL [b] X.env→((PySem.backTo pos (qAL [b] X.env)).any fun (x:Bool×PySem.Sem PySem.Value)=>x.fst)=Bool.false→L2.Bx (L2.PI X (qO.Tuple elts x1 tpos) ((qO.Name (qy "zip") p).Call [a,b] [] pos) (L2.iZip K ta)):=by
 intro X K hK a b ta p pos elts x1 tpos hg hm ha hs hs2
 exact ⟨@zast X K hK a b ta p pos elts x1 tpos hg hm ha.out hs hs2⟩
theorem zqz:∀ {X:L2.Cx} {K:qB},X.K=K→∀ {a:qO} {ta:L2.TA} {p pos:qm} {elts:List qO} {x1:Nat} {tpos:qm},L2.Gl X (qy "enumerate")→X.mg (qy "enumerate")=Option.none→L2.Bx (L2.PA X [a] ta)→qAL [a] X.env=[(Bool.false,PySem.eval a X.env)]→L2.Bx (L2.PI X (qO.Tuple elts x1 tpos) ((qO.Name (qy "enumerate") p).Call [a] [] pos) (L2.iEnumX K ta)):=by
 intro X K hK a ta p pos elts x1 tpos hg hm ha hs
 exact ⟨@zalh X K hK a ta p pos elts x1 tpos hg hm ha.out hs⟩
theorem zcs:∀ {X:L2.Cx},L2.Bx (L2.PGs X [] L2.gNil):=by
 intro X
 exact ⟨@zanx X⟩
theorem zau:∀ {X:L2.Cx} {e:qO} {es:List qO} {t:L2.TG} {u:L2.TGs},L2.Bx (L2.PG X e t)→L2.Bx (L2.PGs X es u)→List.map (fun (x:Bool×(PySem.Value→PySem.Sem Unit))=>x.snd) (PySem.assignEach (e::es) X.env)=PySem.assign e X.env::List.map (fun (x:Bool×(PySem.Value→PySem.Sem Unit))=>x.snd) (PySem.assignEach es X.env)→L2.Bx (L2.PGs X (e::es) (L2.gCons t u)):=by
 intro X e es t u h1 h2 hs
 exact ⟨@zajl X e es t u h1.out h2.out hs⟩
theorem zct:∀ {X:L2.Cx} {K:qB},X.K=K→∀ {es:List qO} {k:Nat} {t:L2.TGs} {n:Nat} {pos:qm},X.calm=Bool.true→L2.Bx (L2.PGs X es t)→(PySem.assignEach es X.env).length=n→List.findIdx? (fun (x:Bool×(PySem.Value→PySem.Sem Unit))=>x.fst) (PySem.assignEach es X.env)=Option.none→L2.Bx (L2.PG X (qO.Tuple es k pos) (L2.gTup K n t)):=by
 intro X K hK es k t n pos hc h hn hst
 exact ⟨@zaoo X K hK es k t n pos hc h.out hn hst⟩
theorem zani:∀ {X:L2.Cx} {a:qO} {ta:L2.TE} {pos:qm} {op:PySem.UnaryOp} {r:L2.V→L2.Hp→L2.VK→Prop},L2.UnR X (PySem.unaryOp op) r→L2.Bx (L2.PE X a ta)→L2.Bx (L2.PE X (qO.UnaryOp op a pos) (L2.tUn r ta)):=by
 intro X a ta pos op r ho ha
 exact ⟨@zaub X a ta pos op r ho ha.out⟩
theorem zahe:∀ {X:L2.Cx} {scope:PySem.Scope} {N' own:List PySem.Str} {fr:List Nat} {elt target iter target2 iter2:qO} {ifs ifs2:List qO} {cpos:qm} {wi wi2:L2.TI} {g g2:L2.TG} {tt tt2:L2.TT} {te:L2.TE},L2.CompOk X scope N' own fr→X.calm=Bool.true→L2.Bx (L2.PI X target iter wi)→(∀ (cl:List (PySem.Str×PySem.Addr)) (C:PySem.Addr) (s:PySem.Shared) (H:L2.Hp) (fp:List PySem.Addr),L2.PG (L2.cxComp X scope N' own cl C s H fp) target g∧L2.PF (L2.cxComp X scope N' own cl C s H fp) ifs tt∧L2.PI (L2.cxComp X scope N' own cl C s H fp) target2 iter2 wi2∧L2.PG (L2.cxComp X scope N' own cl C s H fp) target2 g2∧L2.PF (L2.cxComp X scope N' own cl C s H fp) ifs2 tt2∧L2.PE (L2.cxComp X scope N' own cl C s H fp) elt te)→(∀ (x:PySem.Value),PySem.foldedSetIterable iter X.env x=Pure.pure x)→(∀ (env:PySem.Env) (x:PySem.Value),PySem.foldedSetIterable iter2 env x=Pure.pure x)→L2.Bx (L2.PE X (elt.ListComp [{target:=target,iter:=iter,ifs:=ifs,is_async:=0},{target:=target2,iter:=iter2,ifs:=ifs2,is_async:=0}] scope cpos) (L2.tComp2 wi g tt wi2 g2 tt2 te own fr)):=by
 intro X scope N' own fr elt target iter target2 iter2 ifs ifs2 cpos wi wi2 g g2 tt tt2 te c hc hi hb hs hs2
 exact ⟨@zakr X scope N' own fr elt target iter target2 iter2 ifs ifs2 cpos wi wi2 g g2 tt tt2 te c hc hi.out hb hs hs2⟩
theorem zahf:∀ {X:L2.Cx} {o i:qO} {td ty:L2.TE},X.A.units+1<PySem.cLine→L2.Bx (L2.PE X i ty)→L2.Bx (L2.PE X o td)→L2.Bx (L2.PC X PySem.CmpOp.In i o (L2.tDIn ty td)):=by
 intro X o i td ty hu hi ho
 exact ⟨@zary X o i td ty hu hi.out ho.out⟩
theorem zahg:∀ {X:L2.Cx} {a b:qO} {pos:qm} {op:PySem.CmpOp} {t:L2.TE},L2.Bx (L2.PC X op a b t)→PySem.behindInMarks op b=Bool.false→L2.Bx (L2.PE X (a.Compare [op] [b] pos) t):=by
 intro X a b pos op t h h1
 exact ⟨@zaqx X a b pos op t h.out h1⟩
theorem bv {X:Cx} (i:Nat) {x:Str} {pos:Pos} (hN:X.N[i]?=some x:=by rfl) (hv:visB X.env.scope x=true:=by rfl) (hd:(x==("__debug__":Str))=false:=by decide)
  (hcd:(x==("__classdict__":Str))=false:=by decide):Bx (PE X (.Name x pos) (tVar i)):=⟨zamm hN (visB.of hv) hd hcd⟩
noncomputable def SatK (fx:Addr→Prop) (H0:Hp) (J:Nat→Prop) (σ0:St) (D:Ends):Out→Prop
 | .nx env=>∀ σ H,EnvOk fx H0 env σ H→(∀ j,J j→σ[j]?=σ0[j]?)→D.nx σ H
 | .bk env=>∀ σ H,EnvOk fx H0 env σ H→(∀ j,J j→σ[j]?=σ0[j]?)→D.bk σ H
 | .ct env=>∀ σ H,EnvOk fx H0 env σ H→(∀ j,J j→σ[j]?=σ0[j]?)→D.ct σ H
 | .rt d fr=>∀ v H,Same H0 H→zaab fx H0 d fr v H→D.rt v H
theorem SatK.move {fx:Addr→Prop} {H0:Hp} {J:Nat→Prop} {σ0 σ1:St} {D:Ends} {o:Out} (h:SatK fx H0 J σ0 D o) (e:∀ j,J j→σ1[j]?=σ0[j]?):SatK fx H0 J σ1 D o:=by
 cases o with
 | nx env=>exact fun σ H hE k=>h σ H hE fun j hj=>(k j hj).trans (e j hj)
 | bk env=>exact fun σ H hE k=>h σ H hE fun j hj=>(k j hj).trans (e j hj)
 | ct env=>exact fun σ H hE k=>h σ H hE fun j hj=>(k j hj).trans (e j hj)
 | rt d fr=>exact h
def SSk (J:Nat→Prop) (ts:TS) (F:SF):Prop:=∀ (fx:Addr→Prop) (H0:Hp) (env:DEnv) (σ:St) (H:Hp) (D:Ends),EnvOk fx H0 env σ H→∀ o,F env=some o→SatK fx H0 J σ D o→ts D σ H
section
variable {J:Nat→Prop}
theorem zahh:SSk J tNext sNil:=by
 intro fx H0 env σ H D h o e q
 cases e
 exact q σ H h fun _ _=>rfl
theorem zahi {t u:TS} {f g:SF} (h1:SSk J t f) (h2:SSk J u g):SSk J (tSeq t u) (sSeq f g):=by
 intro fx H0 env σ H D h o e q
 unfold sSeq at e
 obtain ⟨o1,e1,e⟩:=qA.mp e
 refine h1 fx H0 env σ H _ h o1 e1 ?_
 cases o1 with
 | nx env'=>exact fun σ' H' h' k=>h2 fx H0 env' σ' H' D h' o e (q.move k)
 | bk env'=>cases e;exact q
 | ct env'=>cases e;exact q
 | rt d fr=>cases e;exact q
theorem zaph {te:TE} {f:EF} {i:Nat} (h1:SE te f) (hJ:¬ J i):SSk J (tAsg te (gName i)) (sSet i f):=by
 intro fx H0 env σ H D h o e q
 unfold sSet at e
 obtain ⟨r,er,rfl⟩:=qG.mp e
 exact h1 fx H0 env σ H h r er _ fun v H' s hv=>q _ H' (h.put s hv i) fun j hj=>qZ fun z=>hJ (by rw [z];exact hj)
theorem zahj {te:TE} {f:EF} (h1:SE te f):SSk J (tRet te) (sRet f):=fun fx H0 env σ H D h o e q=>zde h1 fx H0 env σ H D h o e (by
 unfold sRet at e
 obtain ⟨r,er,rfl⟩:=qG.mp e
 exact q)
theorem zanj {tc:TT} {t u:TS} {c:TF} {f g:SF} (hc:ST tc c) (h1:SSk J t f) (h2:SSk J u g):SSk J (tIfS tc t u) (sIf c f g):=by
 intro fx H0 env σ H D h o e q
 unfold sIf at e
 obtain ⟨b,eb,e⟩:=qA.mp e
 refine hc fx H0 env σ H h b eb _ fun H' s=>?_
 cases b with
 | true=>exact iteT (h1 fx H0 env σ H' D (h.up s) o e q)
 | false=>exact iteF (h2 fx H0 env σ H' D (h.up s) o e q)
def SGk (J:Nat→Prop) (g:TG) (f:GT):Prop:=∀ (fx:Addr→Prop) (H0:Hp) (env:DEnv) (σ:St) (H:Hp) (d:PyData) (v:V),EnvOk fx H0 env σ H→Rp (Offs (fun a=>fx a∨own env σ a) H) d v→∀ env',f d env=some env'→∀ Q:St→Hp→Prop,
 (∀ σ',EnvOk fx H0 env' σ' H→(∀ j,J j→σ'[j]?=σ[j]?)→Q σ' H)→g v σ H Q
theorem zall {i:Nat} (hJ:¬ J i):SGk J (gName i) (gN i):=by
 intro fx H0 env σ H d v h r env' e Q q
 cases e
 exact q _ (h.setPl i r) fun j hj=>qZ fun z=>hJ (by rw [z];exact hj)
theorem zapi {wi:TI} {g:TG} {tb:TS} {f:IF'} {gf:GT} {body:SF} (h1:SI wi f) (h2:SGk J g gf) (h3:SSk J tb body):SSk J (tFor wi g tb) (sFor f gf body):=by
 intro fx H0 env σ H D h o e q
 unfold sFor at e
 obtain ⟨⟨ds,bs⟩,er,e⟩:=qA.mp e
 refine h1 fx H0 env σ H h ds bs er _ fun I H1 s yl=>?_
 have hE:=(h.up s).frzs bs
 have fl:=hE.floor
 refine ⟨fun i m σ' H'=>m=ds.length - i∧i≤ds.length∧(∀ j,J j→σ'[j]?=σ[j]?)∧∃ env',forL gf body (ds.drop i) env'=some o∧EnvOk fx (Offs (own (frzs env bs) σ) H1) env' σ' H',⟨ds.length,rfl,qAg _,fun _ _=>rfl,_,e,hE.rebase⟩,?_⟩
 rintro i m σ' H' ⟨rfl,hi,kp,env',e',h'⟩
 obtain ⟨yi,ys⟩:=yl _ H' h'.all h'.seen
 by_cases hlt:i<ds.length
 ·obtain ⟨yg,yy⟩:=yi i ds[i] (qH hlt)
  refine .inr ⟨yg,fun σ'' H''=>i+1≤ds.length∧(∀ j,J j→σ''[j]?=σ[j]?)∧∃ env'',forL gf body (ds.drop (i+1)) env''=some o∧EnvOk fx (Offs (own (frzs env bs) σ) H1) env'' σ'' H'',?_,?_⟩
  ·rintro σ'' H'' ⟨hle,kp',env'',e'',h''⟩
   exact ⟨ds.length - (i+1),by omega,rfl,hle,kp',env'',e'',h''⟩
  ·intro x H'' hy
   obtain ⟨sy,ry⟩:=yy x H'' hy
   rw [qAR hlt] at e'
   obtain ⟨e1,ee1,e'⟩:=qA.mp e'
   obtain ⟨o1,eo1,e'⟩:=qA.mp e'
   refine h2 fx _ env' σ' H'' _ x (h'.up sy) ry e1 ee1 _ fun σ2 h2' k2=>h3 fx _ e1 σ2 H'' _ h2' o1 eo1 ?_
   have k3:∀ j,J j→σ2[j]?=σ[j]?:=fun j hj=>(k2 j hj).trans (kp j hj)
   cases o1 with
   | nx e2=>exact fun σ3 H3 hh k4=>⟨hlt,fun j hj=>(k4 j hj).trans (k3 j hj),e2,e',hh⟩
   | ct e2=>exact fun σ3 H3 hh k4=>⟨hlt,fun j hj=>(k4 j hj).trans (k3 j hj),e2,e',hh⟩
   | bk e2=>cases e';exact fun σ3 H3 hh k4=>q σ3 H3 (hh.unbase fl) fun j hj=>(k4 j hj).trans (k3 j hj)
   | rt d fr=>cases e';exact fun v H3 sh rt=>q v H3 (fl.trans sh) (rt.unbase fl)
 ·have hi':i=ds.length:=by omega
  subst hi'
  rw [qBC] at e'
  cases e'
  exact .inl ⟨ys,q σ' H' (h'.unbase fl) kp⟩
end
section
variable {X:Cx}
end
end L2
namespace HT
open PySem PySem.Spec PyProof.Rows L2
section
variable {prog:Program} {w:World} {A:Around} {E:Value→Shared→Prop} {s:Shared}
theorem getItem_tuple_whole {t sl:Addr} {items:Array Value} {vl vu:Value} {lo hi:Option Int} {Q:Value→Shared→Prop} (ht:IsTup s.heap t items) (hs:s.heap.IsSliceOf sl vl vu .none) (pl:IsPart vl lo) (pu:IsPart vu hi)
  (hw:sIx items.size 0 lo=0∧sIx items.size items.size hi=items.size) (h:Q (.ref t) s):wpAny (model prog w) A (getItem (.ref t) (.ref sl)) Q E s:=by
 obtain ⟨os,hos,hcs,hds⟩:=id hs
 have hTs:s.TypeIs (.ref sl) "slice":=⟨os,hos,hcs⟩
 unfold getItem
 try with_reducible refine qBo ?_
 first|refine qC (qI ?_)|skip
 refine qC (wpAny_sequenceKey ht.typeIs (by decide) ?_)
 refine qC (qAn (name:=Str.ofString "__getitem__") ht.typeIs qAc
  (qBF qAc ht.typeIs entry_tuple_getitem ?_ (args_tuple_getitem _ _)))
 show wpAny _ _ (Builtin.Tuple.tupleItemsOf (.ref t) >>= _) _ _ s
 refine qC (tupleItemsOf_ ht ?_)
 refine qC (qB3 hTs ?_)
 rw [if_pos (by decide)]
 refine qC (zjw hs pl pu ?_)
 have hyes:(((sIx items.size 0 lo:Nat):Int)==0&&(1:Int)==1&&(sIx items.size items.size hi - sIx items.size 0 lo)==items.size)=true:=by
  rw [hw.1,hw.2];simp
 show wpAny _ _ (if (((sIx items.size 0 lo:Nat):Int)==0&&(1:Int)==1&&(sIx items.size items.size hi - sIx items.size 0 lo)==items.size)=true then _ else _) _ _ s
 rw [if_pos hyes]
 unfold Builtin.Tuple.tupleIsExact
 refine qC (qC (qB3 ht.typeIs (qI ?_)))
 rw [if_pos (by decide)]
 refine qC (qCM ?_)
 first
  | exact qI ⟨_,rfl,qI h⟩
  | exact qC (qI (qI ⟨_,rfl,qI h⟩))
  | exact qC (qI (qC (qI (qI ⟨_,rfl,qI h⟩))))
end
end HT
namespace L2
open PySem PySem.Spec PyProof.Rows
noncomputable def rSlW (K:qB):V→Option Int→Option Int→Hp→VK→Prop:=fun x lo hi H Q=>∃ a xs,x=.ref a∧SqT K H a xs ∧
 ((HT.sIx xs.length 0 lo=0∧HT.sIx xs.length xs.length hi=xs.length)→Q (.ref a) H)∧(¬ (HT.sIx xs.length 0 lo=0∧HT.sIx xs.length xs.length hi=xs.length)→∀ p,H p=none→Q (.ref p) (upd H p (.tup (cutV xs lo hi))))
theorem sl_W {X:Cx} {K:qB} (hK:X.K=K):SlR X (rSlW K):=by
 subst hK
 intro pins s σ H x v vl vu lo hi sl Q I rx hs pl pu h
 obtain ⟨a,xs,rfl,hx,q1,q2⟩:=h
 by_cases hw:HT.sIx xs.length 0 lo=0∧HT.sIx xs.length xs.length hi=xs.length
 ·cases rx
  obtain ⟨its,r,ht,hz⟩:=I.tuple hx
  have hlen:its.toArray.size=xs.length:=by rw [qR];exact r.length.symm
  refine ⟨"tuple",_,qAc.lookup,ht.typeIs,?_⟩
  exact HT.getItem_tuple_whole ht hs pl pu (by rw [hlen];exact hw) ⟨.ref a,H,I,rfl,q1 hw⟩
 ·exact zaro pins s σ H _ v vl vu lo hi sl Q I rx hs pl pu ⟨a,xs,rfl,hx,hw,q2 hw⟩
def eSlT (a:EF) (l h:PF'):EF:=fun env=>(a env).bind fun x=>(l env).bind fun lo=>(h env).bind fun hi=>match x.d with
 | .tuple ds=>some ⟨.tuple (cutD ds lo hi),false,x.bs⟩
 | _=>none
theorem ztl {K:qB} {te:TE} {tl th:TO} {f:EF} {fl fh:PF'} (h1:SE te f) (h2:SPt tl fl) (h3:SPt th fh):SE (tSl (rSlW K) te tl th) (eSlT f fl fh):=by
 intro fx H0 env σ H h rr hr Q q
 unfold eSlT at hr
 obtain ⟨⟨d,frd,bs⟩,ex,hr⟩:=qA.mp hr
 obtain ⟨lo,el,hr⟩:=qA.mp hr
 obtain ⟨hi,eh,hr⟩:=qA.mp hr
 cases d with
 | tuple ds =>
  cases hr
  refine h1 fx H0 env σ H h _ ex _ fun v H1 s1 v1=>h2 fx H0 env σ H1 (h.up s1) _ el _ fun H2 s2=>h3 fx H0 env σ H2 (h.up (s1.trans s2)) _ eh _ fun H3 s3=>?_
  have v3:=(v1.later (Same.refl _) (s2.trans s3) fun _ z=>z).rp
  have t3:=(s1.trans s2).trans s3
  obtain ⟨p,xs,rfl,hp,r⟩:=zea v3
  refine ⟨p,xs,rfl,SqT.of (zdx hp),fun hw=>q _ _ t3 ⟨?_,fun z=>by cases z⟩,fun _ l hl=>q _ _ (t3.trans (Same.new hl)) ⟨?_,fun z=>by cases z⟩⟩
  ·have e:cutD ds lo hi=ds:=by
    unfold cutD
    rw [r.length,hw.1,hw.2,List.drop_zero,Nat.sub_zero,qCu (by rw [r.length];exact qJ _)]
   show Rp _ (.tuple (cutD ds lo hi)) _
   rw [e]
   exact v3
  ·have hA:=(h.up t3).lims bs
   exact zko hl (zfe hA hl) (r.cut lo hi)
 | _=>cases hr
mutual
def znl:PyData→Bool
 | .list _=>false
 | .dict _=>false
 | .tuple ds=>zaal ds
 | _=>true
def zaal:List PyData→Bool
 | []=>true
 | d::ds=>znl d&&zaal ds
end
mutual
theorem zahk {A B:Addr→Prop} {H:Hp} (h:∀ a xs,H a=some (.tup xs)→¬ A a→¬ B a):∀ (d:PyData) {v:V},znl d=true→Rp (Offs A H) d v→Rp (Offs B H) d v
 | .none,v,_,q=>by unfold Rp at q ⊢;exact q
 | .bool b,v,_,q=>by unfold Rp at q ⊢;exact q
 | .int i,v,_,q=>by unfold Rp at q ⊢;exact q
 | .str x,v,_,q=>by unfold Rp at q ⊢;exact q
 | .list ds,v,f,_=>by unfold znl at f;cases f
 | .dict ds,v,f,_=>by unfold znl at f;cases f
 | .tuple ds,v,f,q=>by
  unfold znl at f
  unfold Rp at q ⊢
  obtain ⟨a,xs,e,hq,hr⟩:=q
  obtain ⟨n,hh⟩:=Offs.of hq
  exact ⟨a,xs,e,by rw [Offs.get (h a xs hh n)];exact hh,zacd h ds f hr⟩
theorem zacd {A B:Addr→Prop} {H:Hp} (h:∀ a xs,H a=some (.tup xs)→¬ A a→¬ B a):∀ (ds:List PyData) {vs:List V},zaal ds=true→Rps (Offs A H) ds vs→Rps (Offs B H) ds vs
 | [],vs,_,q=>by unfold Rps at q ⊢;exact q
 | d::ds,vs,f,q=>by
  unfold zaal at f
  obtain ⟨f1,f2⟩:=qDD.mp f
  unfold Rps at q ⊢
  obtain ⟨v,vs',e,h1,h2⟩:=q
  exact ⟨v,vs',e,zahk h d f1 h1,zacd h ds f2 h2⟩
end
def plS:Sl→Sl
 | .ac d=>.pl d
 | s=>s
def plE (env:DEnv):DEnv:=env.map plS
theorem zahl {env:DEnv} {i:Nat} {d:PyData}:(plE env)[i]?≠some (.ac d):=by
 unfold plE
 rw [qT]
 cases e:env[i]? with
 | none=>intro z;cases z
 | some s=>cases s<;>(intro z;cases z)
theorem zasu {env:DEnv} {σ:St} (hn:∀ (i:Nat) (d:PyData),env[i]?≠some (.ac d)) {a:Addr}:¬ own env σ a:=fun ⟨i,d,e,_⟩=>hn i d e
theorem zapj {fx:Addr→Prop} {env:DEnv} {σ:St} {H:Hp} (hl:env.length=σ.length) (hn:∀ (i:Nat) (d:PyData),env[i]?≠some (.ac d))
  (hp:∀ (i:Nat) (d:PyData),env[i]?=some (.pl d)→∃ v,σ[i]?=some (some v)∧Rp (Offs fx H) d v) (hf:∀ b,fx b→∃ o,H b=some o):EnvOk fx H env σ H :=
 ⟨hl,fun i d e=>let ⟨v,a,b⟩:=hp i d e;⟨v,a,Rp.same (Offs.sub fun b z=>z.elim id fun o=>absurd o (zasu hn)) d b⟩,fun i d e=>absurd e (hn i d),fun i _ d _ _ x=>absurd x (hn i d),Same.refl _,hf⟩
theorem EnvOk.plAll {fx:Addr→Prop} {H0:Hp} {env:DEnv} {σ:St} {H:Hp} (h:EnvOk fx H0 env σ H):∀ (i:Nat) (d:PyData),(plE env)[i]?=some (.pl d)→∃ v,σ[i]?=some (some v)∧Rp (Offs fx H) d v:=by
 intro i d e
 unfold plE at e
 rw [qT] at e
 cases e1:env[i]? with
 | none=>rw [e1] at e;cases e
 | some s =>
  rw [e1] at e
  cases s with
  | no=>cases e
  | pl d' =>
   cases e
   obtain ⟨v,h1,h2⟩:=h.pl i d e1
   exact ⟨v,h1,Rp.same (Offs.sub fun b z=>.inl z) _ h2⟩
  | ac d' =>
   cases e
   obtain ⟨a,h1,h2,h3,h4⟩:=h.ac i d e1
   exact ⟨_,h1,h4.rp (Offs.sub fun b z=>.inl z) fun o eo=>by rw [Offs.get h3];exact eo⟩
def noA (as:List Nat) (env:DEnv):DEnv:=as.foldl (fun e i=>e.set i .no) env
theorem zapk (as:List Nat):∀ (env:DEnv),(noA as env).length=env.length:=by
 induction as with
 | nil=>intro env;rfl
 | cons i as ih=>intro env;show (noA as (env.set i .no)).length=_;rw [ih,qw]
theorem zahm (as:List Nat):∀ {env:DEnv} {i:Nat} {s:Sl},(noA as env)[i]?=some s→s=.no∨(i∉as∧env[i]?=some s):=by
 induction as with
 | nil=>intro env i s e;exact .inr ⟨by simp,e⟩
 | cons j as ih =>
  intro env i s e
  rcases ih (env:=env.set j .no) e with z|⟨n,z⟩
  ·exact .inl z
  ·rcases zcj z with ⟨_,y⟩|⟨hn,y⟩
   ·exact .inl y
   ·exact .inr ⟨fun m=>(qX.mp m).elim hn n,y⟩
theorem Sat.unbase {fx:Addr→Prop} {H0 F:Hp} {D:Ends} {o:Out} (q:Sat fx H0 D o) (s:Same H0 F):Sat fx F D o:=by
 cases o with
 | nx env=>exact fun σ H h=>q σ H (h.unbase s)
 | bk env=>exact fun σ H h=>q σ H (h.unbase s)
 | ct env=>exact fun σ H h=>q σ H (h.unbase s)
 | rt d fr=>exact fun v H sh r=>q v H (s.trans sh) (r.unbase s)
section
variable {J:Nat→Prop} {f:Nat}
end
section
variable {J:Nat→Prop}
end
section
variable {f:Nat}
end
section
variable {J:Nat→Prop} {f:Nat}
end
section
variable {own:List Str} {fr:List Nat} {f k:Nat} {env:DEnv}
end
end L2
namespace PySem
open Sem (wp)
section
variable {prog:Program} {w:World} {A:Around} {E:Value→Shared→Prop} {s:Shared}
variable {b1 b2 b3:Bool} {z TI TO i1 i2 i3 l1 l2 l3:Addr} {k:Nat} {xs ys zs:Array Value}
end
end PySem
namespace L2
open PySem PySem.Spec PyProof.Rows
end L2
namespace PySem
open Sem (wp)
end PySem
namespace L2
open PySem PySem.Spec PyProof.Rows
theorem zalm (t b:Addr) (items items2:Array Value) (n n2:Nat) (dd dd2:Option Addr) (sl sl2:Array (Option Value)) (hc0:items.isEmpty=true) :
  Meets (Builtin.«tuple.__add__» ⟨[.ref t,.ref b],[]⟩) (fun _ R s=>s.heap.get? t=some {cls:=.type "tuple",dict:=dd,data:=.seq items n,slots:=sl}∧s.heap.get? b=some {cls:=.type "tuple",dict:=dd2,data:=.seq items2 n2,slots:=sl2}∧R (.ok (.ret (.ref b))) s) :=
 .of_wp fun prog w A R s h=>by
  obtain ⟨hp,g,d,tk,os⟩:=s;obtain ⟨hl,hb,h⟩:=h
  have f2:=sub_tuple_tuple
  wp_walk using qBa hl,qBa hb
  exact ⟨_,rfl,h⟩
def zasv (K:qB):R2:=fun x y H Q=>zakh K x y H Q∨∃ a b ys,x=.ref a∧y=.ref b∧SqT K H a []∧SqT K H b ys∧Q y H
theorem zahn {X:Cx} {K:qB} (hK:X.K=K):OpR X (binaryOp .Add) (zasv K):=by
 subst hK
 intro pins s σ H x y v u Q I rx ry h
 rcases h with h|⟨a,b,ys,rfl,rfl,ha,hb,q⟩
 ·exact zafw pins s σ H x y v u Q I rx ry h
 ·cases rx
  cases ry
  obtain ⟨its,r1,p1,_⟩:=I.tuple ha
  obtain ⟨its2,r2,p2,_⟩:=I.tuple hb
  cases r1
  obtain ⟨⟨cls,dd,data,sl⟩,ho,hc,n,hd⟩:=id p1
  obtain ⟨⟨cls2,dd2,data2,sl2⟩,ho2,hc2,n2,hd2⟩:=id p2
  simp only at hc hd hc2 hd2
  subst hc hd hc2 hd2
  exact concat_meets ⟨_,ho,rfl⟩ ⟨_,ho2,rfl⟩ qCl seq_tuple_add qB1 qBx (qBp _ _)
   (zalm a b _ its2.toArray n n2 dd dd2 sl sl2 (by rfl)) ⟨ho,ho2,⟨.ref b,H,I,rfl,q⟩⟩
def addE:OF
 | .tuple [],.tuple ys=>some (.tuple ys,false)
 | x,y=>addD x y
theorem zaho {K:qB}:SO (zasv K) addE:=by
 intro A H x y dx dy hA rx ry d fr e Q q
 unfold addE at e
 split at e
 ·cases e
  obtain ⟨a,xs,rfl,ha,r⟩:=zea rx
  obtain ⟨b,ys',rfl,hb,r'⟩:=zea ry
  have:xs=[]:=by unfold Rps at r;exact r
  subst this
  exact .inr ⟨a,b,_,rfl,rfl,SqT.of (zdx ha),SqT.of (zdx hb),q _ H (Same.refl _) ry fun z=>by cases z⟩
 ·exact .inl (zfa A H x y dx dy hA rx ry d fr e Q q)
section
variable {K:qB} {ns:List Int} {J:Nat→Prop} {f:Nat}
end
section
variable {K:qB} {ns:List Int} {J:Nat→Prop}
end
def DnX (P:Program) (w:World) (K:qB) (mg:Str→Option Value) (base:Heap) (x:Str) (ps:List Str) (k:Nat) (sp:Sp):Prop :=
 ∃ f fd,FnOk P w K mg base (CXE P w) k f fd ps sp∧mg x=some (.ref f)∧qN K (.ref f)=true∧zqg K fd ps []
section
variable {X:Cx}
theorem zaam {x:Str} {p pos:Pos} {e:Expr} {es:List Expr} {t:TA} {ps:List Str} {k:Nat} {sp:Sp} {E:XK} (D:DnX X.prog X.w X.K X.mg X.base x ps k sp) (hx:zwi (CXE X.prog X.w) X E) (hr:Room k X.A) (hg:Gl X x) (ha:Bx (PA X (e::es) t))
  (hdb:(x==("__debug__":Str))=false) (he:starEach (e::es) X.env=(false,eval e X.env)::starEach es X.env) (hpl:(backTo pos (starEach es X.env)).any (·.1)=false) :
  Bx (PE X (.Call (.Name x p) (e::es) [] pos) (tCall sp [] E t)):=by
 obtain ⟨f,fd,F,hm,hk,hb⟩:=D
 exact ⟨zaff F hr hg hm hk hb .nil hx ha.out hdb he hpl⟩
noncomputable def XcOk (P:Program) (w:World) (K:qB) (mg:Str→Option Value) (base:Heap) (x:Str) (C:Addr):Prop :=
 ∃ f fd,XMk K C f∧FnOk P w K mg base CX0 1 f fd ["self", "at"] (spI C)∧zqg K fd ["self", "at"] []∧mg x=some (.ref C)∧PySem.W.findIn K (.ref C) "__class__" = some (some (.builtin "object.__class__"))∧PySem.W.exmOne K (.ref C) (.ref C)=some true
theorem znm {E:XK} {C:Addr} {x:Str} {np cpos pos:Pos} {a:Expr} {te:TE} (M:XcOk X.prog X.w X.K X.mg X.base x C) (hr:Room 2 X.A) (hex:X.ex=[]) (hc:X.calm=true) (hx:Lvs X E) (hg:Gl X x) (ha:Bx (PE X a te))
  (hdb:(x==("__debug__":Str))=false) (he:starEach [a] X.env=[(false,eval a X.env)]):Bx (PS X (.Raise (some (.Call (.Name x np) [a] [] cpos)) none pos) (zagt C E te)):=by
 obtain ⟨f,fd,M,F,hb,hm,_⟩:=M
 exact ⟨zaky M F hr hb hex hc hx hg hm ha.out hdb he⟩
end
theorem zace {P:Program} {w:World} {K:qB} {mg:Str→Option Value} {base:Heap} {N:List Str} {qual:Str} {scope:Scope} {f:Addr} {cd:Value} {A:Around} {outer:List Env} {s:Shared} {H:Hp} {E:XK} (h0k:HOk P w H s.heap) :
  Lvs (cxOf (CXE P w) P w K mg base N qual scope f cd A outer s H E) (StX H E):=fun pins σ H1 s1 e C dx I F q=>zand I h0k F q
def zaed (i n:Nat) (g:GFX) (f:AF):SFX:=fun env=>(f env).bind fun rs=>if rs.length=n then (g (zhu rs)).map fun r=>match r with
 | .ok d fr=>.ok (.nx (putV env i ⟨d,fr,bsOf d (bss rs)⟩))
 | .rx c d=>.rx c d else none
theorem zaln {cl:Str→Addr} {i n:Nat} {g:GFX} {ta:TA} {f:AF} (ha:SA ta f):SSx cl (fun E=>tAsg (tCall (spX cl n g) [] E ta) (gName i)) (zaed i n g f):=by
 intro fx H0 env σ H D E h o e q
 obtain ⟨rs,er,e⟩:=qA.mp e
 split at e
 ·rename_i hn
  obtain ⟨r,ez,rfl⟩:=qG.mp e
  refine ha fx H0 env σ H h rs er _ fun vs H1 s1 v1=>?_
  rw [qx]
  refine ⟨lim fx env σ (bss rs),zhu rs,r,by rw [zig];exact hn,(h.up s1).lims _,zhv (fun i hi=>hi) v1,ez,?_⟩
  cases r with
  | rx c d=>exact fun k od H3 r=>q k od H3 (r.base (h.base.trans s1))
  | ok d fr =>
   intro w H3 s3 rt
   obtain ⟨rp,fr3⟩:=rt
   refine q _ H3 (h.put (s1.trans s3) (r:=⟨d,fr,bsOf d (bss rs)⟩) ⟨zoj rp,fun e=>?_⟩ i)
   obtain ⟨a,g1,g2,g3⟩:=fr3 e
   refine ⟨a,g1,s1.free g2,?_⟩
   have nf:zgq d=false:=by cases d<;>first|rfl|exact g3.elim
   show ziv (Offs (fun b=>lim fx env σ (bsOf d (bss rs)) b∨b=a) H3) H3 a d
   rw [show bsOf d (bss rs)=bss rs by unfold bsOf;rw [if_neg (by rw [nf];decide)]]
   exact g3
 ·cases e
structure ErrAt (H:Hp) (e C dx:Addr) (d:PyData):Prop where
 ex:∃ tv,H e=some (.ext (xeD e C dx tv))
 at_:∃ v,H dx=some (.xd [("at",v)])∧∀ H',Rp H' d v
theorem ErrAt.up {H H':Hp} {e C dx:Addr} {d:PyData} (h:ErrAt H e C dx d) (s:Same H H'):ErrAt H' e C dx d :=
 ⟨let ⟨tv,z⟩:=h.ex;⟨tv,s _ _ z⟩,let ⟨v,z,r⟩:=h.at_;⟨v,s _ _ z,r⟩⟩
def SEe (j:Nat) (C:Addr) (d:PyData) (te:TE) (f:EF):Prop:=∀ (fx:Addr→Prop) (H0:Hp) (env:DEnv) (σ:St) (H:Hp) (e dx:Addr),EnvOk fx H0 env σ H→σ[j]?=some (some (.ref e))→ErrAt H e C dx d→∀ r,f env=some r→∀ Q:VK,(∀ v H',Same H H'→ValOk (lim fx env σ r.bs) H H' r v→Q v H')→te σ H Q
noncomputable def SAe (j:Nat) (C:Addr) (d:PyData) (ta:TA) (f:AF):Prop:=∀ (fx:Addr→Prop) (H0:Hp) (env:DEnv) (σ:St) (H:Hp) (e dx:Addr),EnvOk fx H0 env σ H→σ[j]?=some (some (.ref e))→ErrAt H e C dx d→∀ rs,f env=some rs→∀ Q:List V→Hp→Prop,
 (∀ vs H',Same H H'→Paired (fun r v=>ValOk (lim fx env σ r.bs) H H' r v) rs vs→Q vs H')→ta σ H Q
def SSe (j:Nat) (C:Addr) (d:PyData) (ts:TS) (F:SF):Prop:=∀ (fx:Addr→Prop) (H0:Hp) (env:DEnv) (σ:St) (H:Hp) (D:Ends) (e dx:Addr),EnvOk fx H0 env σ H→σ[j]?=some (some (.ref e))→ErrAt H0 e C dx d→∀ o,F env=some o→SatK fx H0 (fun k=>k=j) σ D o→ts D σ H
section
variable {j:Nat} {C:Addr} {d:PyData}
theorem zasw {te:TE} {f:EF} (h:SE te f):SEe j C d te f:=fun fx H0 env σ H e dx hE _ _=>h fx H0 env σ H hE
theorem zasx {ta:TA} {f:AF} (h:SA ta f):SAe j C d ta f:=fun fx H0 env σ H e dx hE _ _=>h fx H0 env σ H hE
theorem zasy:SEe j C d (tXat C (tVar j)) (eC d):=by
 intro fx H0 env σ H e dx h hj he r hr Q q
 cases hr
 obtain ⟨tv,he1⟩:=he.ex
 obtain ⟨v,hd,rv⟩:=he.at_
 exact ⟨_,hj,e,dx,tv,v,rfl,he1,hd,q v H (Same.refl _) ⟨rv _,fun z=>by cases z⟩⟩
theorem zvd {K:qB} {c:Addr} {b:Bool} (hk:PySem.W.kitOne K (.ref C) (.ref c)=some b):SEe j C d (tCB (rIsX K C) (tCons (tVar j) (tCons (tC (.ref c)) tNil))) (eC (.bool b)):=by
 intro fx H0 env σ H e dx h hj he r hr Q q
 cases hr
 obtain ⟨tv,he1⟩:=he.ex
 exact ⟨_,hj,e,dx,tv,b,he1,q _ H (Same.refl _) ⟨zap,fun z=>by cases z⟩,.inl ⟨c,rfl,hk⟩⟩
theorem zapl {K:qB} {n:String} {b:Bool} (hk:PySem.W.kitOne K (.ref C) (.type n)=some b):SEe j C d (tCB (rIsX K C) (tCons (tVar j) (tCons (tC (.ty n)) tNil))) (eC (.bool b)):=by
 intro fx H0 env σ H e dx h hj he r hr Q q
 cases hr
 obtain ⟨tv,he1⟩:=he.ex
 exact ⟨_,hj,e,dx,tv,b,he1,q _ H (Same.refl _) ⟨zap,fun z=>by cases z⟩,.inr (.inl ⟨n,rfl,hk⟩)⟩
theorem zahp:SAe j C d tNil aNil:=zasx zan
theorem zlv {te:TE} {ta:TA} {f:EF} {g:AF} (h1:SEe j C d te f) (h2:SAe j C d ta g):SAe j C d (tCons te ta) (zab f g):=by
 intro fx H0 env σ H e dx h hj he rs hr Q q
 unfold zab at hr
 obtain ⟨x,ex,hr⟩:=qA.mp hr
 obtain ⟨xs,exs,rfl⟩:=qG.mp hr
 exact h1 fx H0 env σ H e dx h hj he x ex _ fun v H1 s1 v1=>h2 fx H0 env σ H1 e dx (h.up s1) hj (he.up s1) xs exs _ fun vs H2 s2 vs2=>q (v::vs) H2 (s1.trans s2)
  (.cons (v1.later (Same.refl _) s2 fun _ z=>z) (Paired.mapP vs2 fun _ _ z=>z.later s1 (Same.refl _) fun _ y=>y))
theorem zahq {ta:TA} {f:AF} (ha:SAe j C d ta f):SEe j C d (tTup ta) (eTup f):=by
 intro fx H0 env σ H e dx h hj he rr hr Q q
 unfold eTup at hr
 obtain ⟨rs,er,hr⟩:=qA.mp hr
 split at hr
 ·rename_i hl
  cases hr
  refine ha fx H0 env σ H e dx h hj he rs er _ fun vs H1 s1 v1=>?_
  have r:=zhv (fun i hi=>hi) v1
  have hA:=(h.up s1).lims (bss rs)
  refine ⟨zhn (by rw [← r.length,zig];exact hl),fun p hp=>q _ _ (s1.trans (Same.new hp)) ⟨zko hp (zfe hA hp) r,fun z=>by cases z⟩⟩
 ·cases hr
theorem zasz {r:R2} {f:OF} {ta tb:TE} {fa fb:EF} (ho:SO r f) (ha:SEe j C d ta fa) (hb:SEe j C d tb fb):SEe j C d (tOp r ta tb) (eOp f fa fb):=by
 intro fx H0 env σ H e dx h hj he rr hr Q q
 unfold eOp at hr
 obtain ⟨x,ex,hr⟩:=qA.mp hr
 obtain ⟨y,ey,hr⟩:=qA.mp hr
 obtain ⟨⟨d',fr⟩,ez,hr⟩:=qA.mp hr
 cases hr
 refine ha fx H0 env σ H e dx h hj he x ex _ fun v H1 s1 v1=>hb fx H0 env σ H1 e dx (h.up s1) hj (he.up s1) y ey _ fun u H2 s2 v2=>?_
 have l1:∀ b,lim fx env σ (x.bs++y.bs) b→lim fx env σ x.bs b:=zmq fun i hi=>qAA _ hi
 have l2:∀ b,lim fx env σ (x.bs++y.bs) b→lim fx env σ y.bs b:=zmq fun i hi=>qd _ hi
 refine ho (lim fx env σ (x.bs++y.bs)) H2 v u x.d y.d ((h.up (s1.trans s2)).lims _) (v1.later (Same.refl _) s2 l1).rp (v2.later (Same.refl _) (Same.refl _) l2).rp d' fr ez _ fun w H3 s3 rp fr3=>q w H3 ((s1.trans s2).trans s3) ⟨zoj rp,fun e=>?_⟩
 obtain ⟨a,g1,g2,g3⟩:=fr3 e
 refine ⟨a,g1,(s1.trans s2).free g2,?_⟩
 have nf:zgq d'=false:=by cases d'<;>first|rfl|exact g3.elim
 show ziv (Offs (fun b=>lim fx env σ (bsOf d' (x.bs++y.bs)) b∨b=a) H3) H3 a d'
 rw [show bsOf d' (x.bs++y.bs)=x.bs++y.bs by unfold bsOf;rw [if_neg (by rw [nf];decide)]]
 exact g3
theorem zahr {te:TE} {f:EF} {i:Nat} (h1:SEe j C d te f) (hJ:¬ i=j):SSe j C d (tAsg te (gName i)) (sSet i f):=by
 intro fx H0 env σ H D e dx h hj he o er q
 unfold sSet at er
 obtain ⟨r,er',rfl⟩:=qG.mp er
 exact h1 fx H0 env σ H e dx h hj (he.up h.base) r er' _ fun v H' s hv=>q _ H' (h.put s hv i) fun k hk=>qZ fun z=>hJ (by rw [z];exact hk)
theorem zapm {t u:TS} {f g:SF} (h1:SSe j C d t f) (h2:SSe j C d u g):SSe j C d (tSeq t u) (sSeq f g):=by
 intro fx H0 env σ H D e dx h hj he o er q
 unfold sSeq at er
 obtain ⟨o1,e1,er⟩:=qA.mp er
 refine h1 fx H0 env σ H _ e dx h hj he o1 e1 ?_
 cases o1 with
 | nx env'=>exact fun σ' H' h' k=>h2 fx H0 env' σ' H' D e dx h' ((k j rfl).trans hj) he o er (q.move k)
 | bk env'=>cases er;exact q
 | ct env'=>cases er;exact q
 | rt d fr=>cases er;exact q
end
noncomputable def zahs (CS:List Str) (i j:Nat) (w:Str) (n:Nat) (g:GFX) (f:AF) (hd:Str→PyData→SF):SF:=fun env=>(f env).bind fun rs=>if rs.length=n then (g (zhu rs)).bind fun r=>match r with
 | .ok d fr=>some (.nx (putV env i ⟨.tuple [.str w,d],false,bss rs⟩))
 | .rx c d=>if c∈CS then (hd c d (env.set j .no)).bind fun o=>match o with
  | .nx e=>some (.nx (e.set j .no))
  | _=>none else none else none
theorem EnvOk.setNo {fx:Addr→Prop} {H0:Hp} {env:DEnv} {σ:St} {H:Hp} (h:EnvOk fx H0 env σ H) (i:Nat) (v:Option V):EnvOk fx H0 (env.set i .no) (σ.set i v) H:=by
 have oN:∀ b,own (env.set i .no) (σ.set i v) b→own env σ b:=fun b ⟨k,d,h1,h2⟩=>by
  rcases zcj h1 with ⟨_,z⟩|⟨n,z⟩
  ·cases z
  ·exact ⟨k,d,z,by rw [qZ (fun y=>n y.symm)] at h2;exact h2⟩
 refine ⟨by rw [qw,qw];exact h.len,fun k d e=>?_,fun k d e=>?_,fun k l d d' a e1 e2 z1 z2=>?_,h.base,h.fxs⟩
 ·rcases zcj e with ⟨_,z⟩|⟨n,z⟩
  ·cases z
  ·obtain ⟨u,g1,g2⟩:=h.pl k d z
   exact ⟨u,by rw [qZ (fun y=>n y.symm)];exact g1,Rp.same (Offs.sub fun b y=>y.imp id (oN b)) _ g2⟩
 ·rcases zcj e with ⟨_,z⟩|⟨n,z⟩
  ·cases z
  ·obtain ⟨a,g1,g2,g3,g4⟩:=h.ac k d z
   exact ⟨a,by rw [qZ (fun y=>n y.symm)];exact g1,g2,g3,g4.same (Offs.sub fun b y=>y.imp id (oN b)) fun o z=>z⟩
 ·rcases zcj e1 with ⟨_,z⟩|⟨n1,y1⟩
  ·cases z
  ·rcases zcj e2 with ⟨_,z⟩|⟨n2,y2⟩
   ·cases z
   ·rw [qZ (fun y=>n1 y.symm)] at z1
    rw [qZ (fun y=>n2 y.symm)] at z2
    exact h.inj k l d d' a y1 y2 z1 z2
theorem zata {cl:Str→Addr} {CS:List Str} {fx:Addr→Prop} {H0:Hp} {env:DEnv} {σ:St} {H1:Hp} {D:Ends} {j:Nat} {hd:Str→PyData→SF} {ts:Addr→TS} {c:Str} {d:PyData} {o:Out}
  (h1:EnvOk fx H0 env σ H1) (hj:j<env.length) (hc:c∈CS) (hs:∀ c∈CS,∀ d,SSe j (cl c) d (ts (cl c)) (hd c d)) (e:((hd c d (env.set j .no)).bind fun o=>match o with|.nx e=>some (Out.nx (e.set j .no))|_=>none)=some o) (q:Sat fx H0 D o) :
  ∀ k od H',RX H1 (cl c) d k od H'→tErr (fun C=>∃ c∈CS,C=cl c) ts j D σ H1 k od H':=by
 rintro k od H2 ⟨rfl,s2,fl,dx,v,rfl,hdx,rp⟩
 obtain ⟨o1,e1,e⟩:=qA.mp e
 refine ⟨cl c,dx,rfl,⟨c,hc,rfl⟩,rfl,fun ea H3 q1 q2 ⟨tv,hea⟩=>?_⟩
 have s3:Same H1 H3:=fun b o z=>q1 b o z (s2 b o z)
 have hd3:H3 dx=some (.xd [("at",v)]):=q2 _ _ hdx (fun φ z=>by cases z)
 have h3:EnvOk fx H0 (env.set j .no) (σ.set j (some (.ref ea))) H3:=(h1.up s3).setNo j _
 have noown:∀ b u,H3 b=some u→(∀ xs,u≠.lst xs)→(∀ xs,u≠.dK xs)→¬ own (env.set j .no) (σ.set j (some (.ref ea))) b:=fun b u hb n1 n2 ⟨k,d',y1,y2⟩=>by
  obtain ⟨a,g1,g2,g3,g4⟩:=h3.ac k d' y1
  rw [y2] at g1
  cases g1
  cases d' with
  | list ds=>obtain ⟨ys,z1,_⟩:=g4;rw [hb] at z1;cases z1;exact n1 _ rfl
  | dict ds=>obtain ⟨ys,z1,_⟩:=g4;rw [hb] at z1;cases z1;exact n2 _ rfl
  | _=>exact g4.elim
 refine hs c hc d fx _ _ _ H3 _ ea dx h3.rebase (qt (by rw [← h1.len];exact hj)) ⟨⟨tv,by rw [Offs.get (noown _ _ hea (fun _ z=>by cases z) (fun _ z=>by cases z))];exact hea⟩,v,by rw [Offs.get (noown _ _ hd3 (fun _ z=>by cases z) (fun _ z=>by cases z))];exact hd3,fun H'=>zqo fl rp⟩ o1 e1 ?_
 cases o1 with
 | nx e2 =>
  cases e
  exact fun σ' H' h' k=>q _ _ ((h'.unbase h3.floor).setNo j none)
 | bk e2=>cases e
 | ct e2=>cases e
 | rt d2 fr=>cases e
theorem zapn {cl:Str→Addr} {CS:List Str} {i j n:Nat} {w:Str} {g:GFX} {f:AF} {hd:Str→PyData→SF} {ta:TA} {ts:Addr→TS} (N:Nat) (hj:j<N) (ha:SA ta f) (hs:∀ c∈CS,∀ d,SSe j (cl c) d (ts (cl c)) (hd c d)) :
  SS (zape (fun C=>∃ c∈CS,C=cl c) w (spX cl n g) ta ts i j) (fun env=>if env.length=N then zahs CS i j w n g f hd env else none):=by
 intro fx H0 env σ H D h o e q
 dsimp only at e
 split at e
 ·rename_i hN
  unfold zahs at e
  obtain ⟨rs,er,e⟩:=qA.mp e
  split at e
  ·rename_i hn
   obtain ⟨r,ez,e⟩:=qA.mp e
   refine ha fx H0 env σ H h rs er _ fun vs H1 s1 v1=>?_
   refine ⟨lim fx env σ (bss rs),zhu rs,r,by rw [zig];exact hn,(h.up s1).lims _,zhv (fun i hi=>hi) v1,ez,?_⟩
   cases r with
   | ok d fr =>
    cases e
    intro v H2 s2 rt p hp
    have hA:=((h.up s1).up s2).lims (bss rs)
    refine q _ _ (h.put (r:=⟨.tuple [.str w,d],false,bss rs⟩) ((s1.trans s2).trans (Same.new hp)) ⟨?_,fun z=>by cases z⟩ i)
    exact zko hp (zfe hA hp) (zck zcc (zck rt.1 zec))
   | rx c d =>
    dsimp only at e
    split at e
    ·rename_i hc
     exact zata (h.up s1) (by rw [hN];exact hj) hc hs e q
    ·cases e
  ·cases e
 ·cases e
section
variable {X:Cx}
end
noncomputable def xcB (C:Addr) (cd:ClassData) (sl:Array (Option Value)):Bool:=match cd.mro,sl.toList with
 | .ref C'::bm,[_,_,_,_,some (.builtin n),_]=>C'==C&&!cd.hasDel&&cd.hasDict&&n == "ValueError.__new__" && bm.contains (.type "ValueError")&&bm.contains (.type "BaseException")&&!bm.contains (.type "AttributeError")&&!bm.contains (.type "NameError")&&zfm bm
 | _,_=>false
theorem zxo {K:qB} {C:Addr} {dd:Option Addr} {cd:ClassData} {sl:Array (Option Value)} (l:K.lookup C=some ⟨.type "type",dd,.cls cd,sl⟩) (h:xcB C cd sl=true):xcIn K C=true∧xcR K C=true:=by
 unfold xcB at h
 unfold xcIn xcR
 rw [l]
 split at h
 ·rename_i C' bm a0 a1 a2 a3 n a5 hm hs
  obtain ⟨nm,bs,mro,ns,qn,hd,sn,sub,ab,col,del⟩:=cd
  obtain ⟨sl⟩:=sl
  dsimp only at hm hs
  subst hm
  have hs:sl=[a0,a1,a2,a3,some (.builtin n),a5]:=hs
  subst hs
  rw [qAB] at h
  exact h
 ·cases h
section
variable {K:qB} {C c:Addr}
theorem zve {b:Bool} (h1:PySem.W.isClsIn K c=true) (h2:PySem.W.typeIn K (.ref c)=some (.type "type")) (h3:PySem.W.subIn K (.ref C) (.ref c)=some b):PySem.W.kitCls K (.ref C) (.ref c)=some b:=by
 unfold PySem.W.kitCls
 dsimp only
 have h1:(PySem.W.clsIn K c).isSome=true:=h1
 rw [if_pos (by rw [h1,h2];rfl)]
 exact h3
theorem zacf (h1:PySem.W.isClsIn K c=true) (h2:PySem.W.typeIn K (.ref c)=some (.type "type")) (h3:PySem.W.subIn K (.ref C) (.ref c)=some true):PySem.W.kitOne K (.ref C) (.ref c)=some true:=by
 unfold PySem.W.kitOne
 split
 ·rfl
 ·exact zve h1 h2 h3
theorem zka (h0:PySem.W.subIn K (.ref C) (.ref C)=some true) (h1:PySem.W.isClsIn K c=true) (h2:PySem.W.typeIn K (.ref c)=some (.type "type")) (h3:PySem.W.subIn K (.ref C) (.ref c)=some false):PySem.W.kitOne K (.ref C) (.ref c)=some false:=by
 unfold PySem.W.kitOne
 split
 ·rename_i e
  have e:C=c:=Value.ref.inj (beq_iff_eq.mp e)
  rw [← e,h0] at h3
  cases h3
 ·exact zve h1 h2 h3
theorem zacg (h3:PySem.W.subIn K (.ref C) (.type "ValueError")=some true):PySem.W.kitOne K (.ref C) (.type "ValueError")=some true:=by
 unfold PySem.W.kitOne
 rw [if_neg (by intro e;cases beq_iff_eq.mp e)]
 unfold PySem.W.kitCls
 dsimp only
 rw [if_pos (show PySem.W.kitMeta "ValueError" = true by decide +kernel)]
 exact h3
theorem zach (hb:PySem.W.subIn K (.ref C) (.type "BaseException")=some true) (h1:PySem.W.isClsIn K C=true) (h2:PySem.W.typeIn K (.ref C)=some (.type "type")) (h3:PySem.W.subIn K (.ref C) (.ref C)=some true):PySem.W.exmOne K (.ref C) (.ref C)=some true:=by
 unfold PySem.W.exmOne
 rw [hb,if_pos (by rfl)]
 exact zve h1 h2 h3
end
structure XKit (P:Program) (w:World) (K:qB) (mg:Str→Option Value) (base:Heap) (cl:Str→Addr) (CS KS:List Str) (B:Str):Prop where
 ok:∀ c∈CS,XcOk P w K mg base c (cl c)
 ex:∀ c∈CS,PySem.W.exmOne K (.ref (cl c)) (.ref (cl B))=some true
 kit:∀ c∈CS,∀ k∈KS,PySem.W.kitOne K (.ref (cl c)) (.ref (cl k))=some (decide (c=k))
 val:∀ c∈CS,PySem.W.kitOne K (.ref (cl c)) (.type "ValueError")=some true
 mgk:∀ k∈KS,mg k=some (.ref (cl k))
 mgB:mg B=some (.ref (cl B))
 mgV:mg "ValueError" = none
theorem znn {p:Str→Prop}:∀ c∈([]:List Str),p c:=fun c h=>absurd h (by simp)
theorem zbq {p:Str→Prop} {a:Str} {l:List Str} (h:p a) (t:∀ c∈l,p c):∀ c∈a::l,p c:=fun c hc=>(qX.mp hc).elim (fun e=>e▸h) (t c)
section
variable {K:qB} {C c B:Addr} {a b:Str}
theorem kd_t (h:PySem.W.kitOne K (.ref C) (.ref c)=some true) (e:a=b):PySem.W.kitOne K (.ref C) (.ref c)=some (decide (a=b)):=by rw [h,decide_eq_true e]
theorem kd_f (h:PySem.W.kitOne K (.ref C) (.ref c)=some false) (e:a≠b):PySem.W.kitOne K (.ref C) (.ref c)=some (decide (a=b)):=by rw [h,decide_eq_false e]
theorem zaci (hb:PySem.W.subIn K (.ref B) (.type "BaseException")=some true) (h1:PySem.W.isClsIn K B=true) (h2:PySem.W.typeIn K (.ref B)=some (.type "type")) (h3:PySem.W.subIn K (.ref C) (.ref B)=some true):PySem.W.exmOne K (.ref C) (.ref B)=some true:=by
 unfold PySem.W.exmOne
 rw [hb,if_pos (by rfl)]
 exact zve h1 h2 h3
end
section
variable {X:Cx}
theorem zqa {x:Str} {C:Addr} {pos:Pos} (hg:Gl X x) (hm:X.mg x=some (.ref C)) (hd:(x==("__debug__":Str))=false):Bx (PE X (.Name x pos) (tC (.ref C))):=⟨zapg hg hm hd⟩
theorem zapo {C f:Addr} {o:Expr} {pos:Pos} {te:TE} (M:XMk X.K C f) (ho:Bx (PE X o te)) (hb:attributeBase o "at" X.env (eval o X.env)=eval o X.env):Bx (PE X (.Attribute o "at" pos) (tXat C te)):=⟨zasq M ho.out hb⟩
theorem zkx {K:qB} {C f:Addr} (hK:X.K=K) (M:XMk K C f) (ha:PySem.W.findIn K (.ref C) "__class__" = some (some (.builtin "object.__class__"))):CallR X (.builtin "isinstance") (rIsX K C):=by
 subst hK;exact zalc M ha
theorem zalo {K:qB} {C f:Addr} {o:Expr} {pos:Pos} {te:TE} (hK:X.K=K) (M:XMk K C f) (ho:Bx (PE X o te)) (hb:attributeBase o "at" X.env (eval o X.env)=eval o X.env):Bx (PE X (.Attribute o "at" pos) (tXat C te)):=by
 subst hK;exact zapo M ho hb
theorem zalp {cl:Str→Addr} {CS KS:List Str} {k:Nat} {ps:List Str} {sp:Sp} {wd fn x n cn:Str} {x1 x2:Nat} {p cpos wpos tpos pos pos' apos hpos cp:Pos} {a:Expr} {as:List Expr} {st0:Stmt} {suite:List Stmt} {t:TA} {ts:Addr→TS} {i j:Nat}
  (D:DnX X.prog X.w X.K X.mg X.base fn ps k sp) (XK:XKit X.prog X.w X.K X.mg X.base cl CS KS cn) (hr:Room k X.A) (hg:Gl X fn) (ha:Bx (PA X.nox (a::as) t))
  (hN:X.N.Nodup) (hi:X.N[i]?=some x) (hx:X.env.scope.names.lookup x=some .local) (hj:X.N[j]?=some n) (hn:X.env.scope.names.lookup n=some .local)
  (hst:X.stack=X.env::X.outer) (hfr:X.env.frame=some X.env.locals) (hgc:Gl X cn)
  (hs:∀ C e f,XMk X.K C f→PySem.W.findIn X.K (.ref C) "__class__" = some (some (.builtin "object.__class__"))→Bx (PSs (X.hold e) (st0::suite) (ts C)))
  (hdb:(fn==("__debug__":Str))=false) (hdc:(cn==("__debug__":Str))=false) (he:starEach (a::as) X.env=(false,eval a X.env)::starEach as X.env) (hpl:(backTo cpos (starEach as X.env)).any (·.1)=false)
  (hsw:swapsWith (.Tuple [.Constant (.str wd) x2 wpos,.Call (.Name fn p) (a::as) [] cpos] x1 tpos) (some (.Name x pos')) apos.line X.env=pure false) :
  Bx (PS X (.Try [.Assign [.Name x pos'] (.Tuple [.Constant (.str wd) x2 wpos,.Call (.Name fn p) (a::as) [] cpos] x1 tpos) apos] [.ExceptHandler (some (.Name cn cp)) (some n) (st0::suite) hpos] [] [] pos) (zape (fun C=>∃ c∈CS,C=cl c) wd sp t ts i j)):=by
 obtain ⟨f,fd,F,hm,hk,hb⟩:=D
 refine ⟨zapf F hr hg hm hk hb ha.out hN hi hx hj hn hst hfr hgc XK.mgB (fun C ⟨c,hc,e⟩=>by subst e;exact XK.ex c hc) (fun C ⟨c,hc,e⟩ ea=>?_) hdb hdc he hpl hsw⟩
 subst e
 obtain ⟨f2,_,M,_,_,_,hcl,_⟩:=XK.ok c hc
 exact (hs _ ea f2 M hcl).out
end
theorem zalq {A B:Addr→Prop} {H H':Hp} (h:∀ a xs,H a=some (.tup xs)→¬ A a→¬ B a∧H' a=some (.tup xs)):∀ (d:PyData) {v:V},znl d=true→Rp (Offs A H) d v→Rp (Offs B H') d v:=by
 intro d v f q
 have q1:Rp (Offs (fun a=>A a∨∀ xs,H a≠some (.tup xs)) H) d v:=zahk (fun a xs e n z=>z.elim n fun y=>y xs e) d f q
 refine Rp.same (fun b o e=>?_) d q1
 obtain ⟨n,e⟩:=Offs.of e
 have nt:∃ xs,H b=some (.tup xs):=Classical.byContradiction fun z=>n (.inr fun xs y=>z ⟨xs,y⟩)
 obtain ⟨xs,et⟩:=nt
 rw [et] at e
 cases e
 obtain ⟨nb,e'⟩:=h b xs et fun z=>n (.inl z)
 rw [Offs.get nb]
 exact e'
noncomputable def ztm (h:Nat) (as:List Nat) (f1 f2 f3:EF) (R1:SF) (c:TF) (fv:EF) (R2:SF):SF:=fun env =>
 (f1 (plE env)).bind fun r1=>(f2 (plE env)).bind fun r2=>(f3 (plE env)).bind fun r3=>match r3.d with
 | .list ds=>if r3.fr=true∧h∉as then (R1 ((plE env).set h (.pl (.tuple [r1.d,r2.d,.list ds])))).bind fun o=>match o with
  | .nx e=>if e.length=env.length∧h<env.length then (c e).bind fun b=>if b=true then (fv e).bind fun z=>(
    if znl z.d=true∧ds.length<1000 then R2 ((noA as (plE env)).set h (.pl (.tuple [r1.d,r2.d,.list (ds++[z.d])]))) else none)
    else R2 ((noA as (plE env)).set h (.pl (.tuple [r1.d,r2.d,.list ds]))) else none
  | .rt d fr=>some (.rt d fr)
  | _=>none else none
 | _=>none
theorem zalr {K:qB} {h:Nat} {as:List Nat} {f1 f2 f3 fv:EF} {R1 R2:SF} {c:TF} {te1 te2 te3 tv:TE} {t1 t2:TS} {tc:TT} (s1:SE te1 f1) (s2:SE te2 f2) (s3:SE te3 f3) (r1:SSk (fun j=>j∉as) t1 R1) (sc:ST tc c) (si:SE tv fv) (r2:SS t2 R2) :
  SS (tSeq (tAsg (tTup (tCons te1 (tCons te2 (tCons te3 tNil)))) (gName h)) (tSeq t1 (tSeq (tIfS tc (tDrop (tBM K "list" zqj (tOp (rIxU K) (tVar h) (tC (.int 2))) (tCons tv tNil))) tNext) t2))) (ztm h as f1 f2 f3 R1 c fv R2):=by
 intro fx H0 env σ H D hE o e q
 unfold ztm at e
 obtain ⟨x1,e1,e⟩:=qA.mp e
 obtain ⟨x2,e2,e⟩:=qA.mp e
 obtain ⟨⟨d3,f3',b3⟩,e3,e⟩:=qA.mp e
 cases d3 with
 | list ds =>
  have ee:(if f3'=true∧h∉as then (R1 ((plE env).set h (.pl (.tuple [x1.d,x2.d,.list ds])))).bind fun o=>match o with
   | .nx e=>if e.length=env.length∧h<env.length then (c e).bind fun b=>if b=true then (fv e).bind fun z=>(
     if znl z.d=true∧ds.length<1000 then R2 ((noA as (plE env)).set h (.pl (.tuple [x1.d,x2.d,.list (ds++[z.d])]))) else none)
     else R2 ((noA as (plE env)).set h (.pl (.tuple [x1.d,x2.d,.list ds]))) else none
   | .rt d fr=>some (.rt d fr)
   | _=>none else none)=some o:=e
  clear e
  split at ee
  ·rename_i hh
   obtain ⟨rfl,hha⟩:=hh
   obtain ⟨o1,eo1,eo⟩:=qA.mp ee
   have pl0:=hE.plAll
   have plen:(plE env).length=σ.length:=by unfold plE;rw [qF];exact hE.len
   have hE0:EnvOk fx H (plE env) σ H:=zapj plen (fun i d=>zahl) pl0 hE.fxs
   refine s1 fx H (plE env) σ H hE0 x1 e1 _ fun v1 H1 g1 k1=>s2 fx H (plE env) σ H1 (hE0.up g1) x2 e2 _ fun v2 H2 g2 k2=>s3 fx H (plE env) σ H2 (hE0.up (g1.trans g2)) _ e3 _ fun v3 H3 g3 k3=>⟨by show 3≤_;exact zhn (by decide),fun T hT=>?_⟩
   obtain ⟨L,rfl,nL,xs,hL,rL⟩:=k3.fr rfl
   have fxL:¬ fx L:=fun z=>by obtain ⟨u,eu⟩:=hE.fxs L z;rw [(g1.trans g2) _ _ eu] at nL;cases nL
   have fxT:¬ fx T:=fun z=>by obtain ⟨u,eu⟩:=hE.fxs T z;rw [((g1.trans g2).trans g3) _ _ eu] at hT;cases hT
   have hLT:T≠L:=fun z=>by rw [z,hL] at hT;cases hT
   have gT:Same H3 (upd H3 T (.tup [v1,v2,.ref L])):=Same.new hT
   have rp1:Rp (Offs fx H1) x1.d v1:=Rp.same (Offs.sub fun b z=>.inl z) _ k1.rp
   have rp2:Rp (Offs fx H2) x2.d v2:=Rp.same (Offs.sub fun b z=>.inl z) _ k2.rp
   have rL':Rps (Offs (fun b=>fx b∨b=L) H3) ds xs:=Rps.same (Offs.sub fun b z=>z.imp (fun y=>.inl y) id) _ rL
   have env_at:∀ (σ':St) (HH:Hp) (es:List PyData) (ys:List V),σ'.length=σ.length→(∀ b o,b≠L→(upd H3 T (.tup [v1,v2,.ref L])) b=some o→HH b=some o)→HH L=some (.lst ys)→Rps (Offs (fun b=>fx b∨b=L) HH) es ys →
     (∀ j,j∉as→σ'[j]?=(σ.set h (some (.ref T)))[j]?)→h<σ.length→Same H HH∧EnvOk fx HH ((noA as (plE env)).set h (.pl (.tuple [x1.d,x2.d,.list es]))) σ' HH:=by
    intro σ' HH es ys hl hs hy ry hk hh
    have sub:∀ (A:Hp),(∀ b o,A b=some o→b≠L∧(upd H3 T (.tup [v1,v2,.ref L])) b=some o)→Same A HH:=fun A z b o ee=>hs b o (z b o ee).1 (z b o ee).2
    have s2':Same H2 HH:=sub H2 fun b o ee=>⟨fun z=>(by rw [z,nL] at ee;cases ee),gT _ _ (g3 _ _ ee)⟩
    have s1':Same H1 HH:=g2.trans s2'
    have s0':Same H HH:=g1.trans s1'
    refine ⟨s0',zapj (by rw [qw,zapk];unfold plE;rw [qF,hE.len,hl]) (fun i d z=>?_) (fun i d z=>?_) fun b z=>let ⟨u,eu⟩:=hE.fxs b z;⟨u,s0' _ _ eu⟩⟩
    ·rcases zcj z with ⟨_,y⟩|⟨_,y⟩
     ·cases y
     ·rcases zahm as y with y|⟨_,y⟩
      ·cases y
      ·exact zahl y
    ·rcases zcj z with ⟨rfl,y⟩|⟨hn,y⟩
     ·cases y
      refine ⟨.ref T,by rw [hk i hha,qt hh],zmp (by rw [Offs.get fxT];exact hs T _ hLT zax) (zck (Rp.same (Offs.grow s1') _ rp1) (zck (Rp.same (Offs.grow s2') _ rp2) (zck (zgs (by rw [Offs.get fxL];exact hy) (Rps.same (Offs.sub fun b z=>.inl z) _ ry)) zec)))⟩
     ·rcases zahm as y with y|⟨na,y⟩
      ·cases y
      ·obtain ⟨v,w1,w2⟩:=pl0 i d y
       exact ⟨v,by rw [hk i na,qZ fun z=>hn z.symm];exact w1,Rp.same (Offs.grow s0') _ w2⟩
   have Hs:Same H (upd H3 T (.tup [v1,v2,.ref L])):=((g1.trans g2).trans g3).trans gT
   have hE1:EnvOk fx (upd H3 T (.tup [v1,v2,.ref L])) ((plE env).set h (.pl (.tuple [x1.d,x2.d,.list ds]))) (σ.set h (some (.ref T))) (upd H3 T (.tup [v1,v2,.ref L])):=by
    refine zapj (by rw [qw,qw];exact plen) (fun i d z=>?_) (fun i d z=>?_) fun b z=>let ⟨u,eu⟩:=hE.fxs b z;⟨u,Hs _ _ eu⟩
    ·rcases zcj z with ⟨_,y⟩|⟨_,y⟩
     ·cases y
     ·exact zahl y
    ·rcases zcj z with ⟨rfl,y⟩|⟨hn,y⟩
     ·cases y
      have hi:i<σ.length:=by
       have:=(qP.mp z).1
       rw [qw,plen] at this;exact this
      refine ⟨.ref T,qt hi,zmp (by rw [Offs.get fxT];exact zax) (zck (Rp.same (Offs.grow ((g2.trans g3).trans gT)) _ rp1) (zck (Rp.same (Offs.grow (g3.trans gT)) _ rp2) (zck (zgs (by rw [Offs.get fxL];exact gT _ _ hL) (Rps.same ?_ _ rL')) zec)))⟩
      exact fun b o eb=>by
       obtain ⟨n,eb⟩:=Offs.of eb
       rw [Offs.get fun z=>n (.inl z)]
       exact gT _ _ eb
     ·obtain ⟨v,w1,w2⟩:=pl0 i d y
      exact ⟨v,by rw [qZ fun z=>hn z.symm];exact w1,Rp.same (Offs.grow Hs) _ w2⟩
   refine r1 fx _ _ (σ.set h (some (.ref T))) _ _ hE1 o1 eo1 ?_
   cases o1 with
   | rt d fr=>cases eo;exact fun v HH sh rt=>q v HH (hE.base.trans (Hs.trans sh)) (rt.unbase (hE.base.trans Hs))
   | bk e'=>cases eo
   | ct e'=>cases eo
   | nx e' =>
    intro σ' H5 h5 kp
    have eo:(if e'.length=env.length∧h<env.length then (c e').bind fun b=>if b=true then (fv e').bind fun z=>(
     if znl z.d=true∧ds.length<1000 then R2 ((noA as (plE env)).set h (.pl (.tuple [x1.d,x2.d,.list (ds++[z.d])]))) else none)
     else R2 ((noA as (plE env)).set h (.pl (.tuple [x1.d,x2.d,.list ds]))) else none)=some o:=eo
    by_cases hc:e'.length=env.length∧h<env.length
    rotate_left
    ·rw [if_neg hc] at eo;cases eo
    rw [if_pos hc] at eo
    have hhl:h<σ.length:=by rw [← hE.len];exact hc.2
    obtain ⟨bb,eb,eo⟩:=qA.mp eo
    refine sc fx _ e' σ' H5 h5 bb eb _ fun H6 g6=>?_
    have b6:Same (upd H3 T (.tup [v1,v2,.ref L])) H6:=h5.base.trans g6
    have sl:σ'.length=σ.length:=by rw [← h5.len,hc.1,hE.len]
    have up3:∀ HH:Hp,(∀ b o,b≠L→(upd H3 T (.tup [v1,v2,.ref L])) b=some o→HH b=some o)→Same (Offs (fun b=>fx b∨b=L) H3) (Offs (fun b=>fx b∨b=L) HH):=fun HH hs b o ee=>by
     obtain ⟨n,ee⟩:=Offs.of ee
     rw [Offs.get n]
     exact hs b o (fun z=>n (.inr z)) (gT _ _ ee)
    cases bb with
    | false =>
     refine iteF ?_
     obtain ⟨w1,w2⟩:=env_at σ' H6 ds xs sl (fun b o _ eb=>b6 _ _ eb) (b6 _ _ (gT _ _ hL)) (Rps.same (up3 H6 fun b o _ eb=>b6 _ _ eb) _ rL') (fun j hj=>kp j hj) hhl
     exact r2 fx H6 _ σ' H6 D w2 o eo (q.unbase (hE.base.trans w1))
    | true =>
     refine iteT ?_
     obtain ⟨⟨zd,zf,zb⟩,ez,eo⟩:=qA.mp eo
     have eo:(if znl zd=true∧ds.length<1000 then R2 ((noA as (plE env)).set h (.pl (.tuple [x1.d,x2.d,.list (ds++[zd])]))) else none)=some o:=eo
     split at eo
     ·rename_i hk
      have hlen:xs.length=ds.length:=rL'.length.symm
      have hσ:σ'[h]?=some (some (.ref T)):=(kp h hha).trans (qt hhl)
      have hL6:=b6 _ _ (gT _ _ hL)
      refine ⟨.ref T,hσ,[v1,v2,.ref L],.ref L,.inr (SqT.of (b6 _ _ zax)),rfl,.inl ⟨rfl,_,SqL.of hL6⟩,si fx _ e' σ' H6 (h5.up g6) _ ez _ fun v H7 g7 hv=>?_⟩
      have hL7:=g7 _ _ hL6
      refine ⟨L,xs,v,rfl,rfl,hL7,zok (by omega),?_⟩
      have kp7:∀ b o,b≠L→(upd H3 T (.tup [v1,v2,.ref L])) b=some o→upd H7 L (.lst (xs++[v])) b=some o:=fun b o hb eb=>by rw [zbd hb];exact g7 _ _ (b6 _ _ eb)
      have rv:Rp (Offs (fun b=>fx b∨b=L) (upd H7 L (.lst (xs++[v])))) zd v:=zalq (fun a ts et n=>by
       have hne:a≠L:=fun z=>by rw [z,hL7] at et;cases et
       exact ⟨fun z=>z.elim (fun y=>n (.inl y)) hne,by rw [zbd hne];exact et⟩) zd hk.1 hv.rp
      obtain ⟨w1,w2⟩:=env_at σ' (upd H7 L (.lst (xs++[v]))) (ds++[zd]) (xs++[v]) sl kp7 zax ((Rps.same (up3 _ kp7) _ rL').append (zck rv zec)) (fun j hj=>kp j hj) hhl
      exact r2 fx _ _ σ' _ D w2 o eo (q.unbase (hE.base.trans w1))
     ·cases eo
  ·cases ee
 | _=>cases e
theorem zaht {K:qB} {h:Nat} {as:List Nat} {f1 f2 f3 fv:EF} {Ra Rb Rc R2:SF} {c:TF} {te1 te2 te3 tv:TE} {ta tb td t2:TS} {tc:TT} (s1:SE te1 f1) (s2:SE te2 f2) (s3:SE te3 f3) (ra:SSk (fun j=>j∉as) ta Ra) (rb:SSk (fun j=>j∉as) tb Rb) (rc:SSk (fun j=>j∉as) td Rc) (sc:ST tc c) (si:SE tv fv) (r2:SS t2 R2) :
  SS (tSeq (tAsg (tTup (tCons te1 (tCons te2 (tCons te3 tNil)))) (gName h)) (tSeq ta (tSeq tb (tSeq td (tSeq (tIfS tc (tDrop (tBM K "list" zqj (tOp (rIxU K) (tVar h) (tC (.int 2))) (tCons tv tNil))) tNext) t2))))) (ztm h as f1 f2 f3 (sSeq Ra (sSeq Rb Rc)) c fv R2) :=
 zalr (K:=K) s1 s2 s3 (zahi ra (zahi rb rc)) sc si r2
end L2
namespace Bc
open PySem L2
def zjh:SF:=(sRet (zdt ["name", "elders"] [] (zas (eVar 0)) (gT 2 (zar 0 (zar 1 zdc))) zcv (eVar 0)))
def zlw:GF:=fnD 1 zjh
def ztn:SF:=(sSeq (sSet 1 zakl)
  (sSeq (sFor (zas (eVar 0)) (gT 2 (zar 2 (zar 3 zdc)))
  (sSeq (sSet 4 (eD1 (eVar 2) (eC (.bool true))))
  (sSeq (sFor (zas (eVar 3)) (gN 5)
  (sUpd 4 (zdz 1 (eVar 5))))
  (sPut 1 (eVar 2) (eVar 4)))))
  (zsp 1)))
def zgt:GF:=fnD 6 ztn
noncomputable def zxp:SF:=(sSeq (sSet 2 (eLst aNil))
  (sSeq (sFor (ztj (zab (eVar 1) aNil)) (gT 2 (zar 3 (zar 4 zdc)))
  (sSeq (sSet 5 (eSl (eVar 1) zcm (zbl (eVar 3))))
  (sSeq (sSet 6 (eOp zcy (eIxV 0 (eVar 3)) (eC (.int 5))))
  (sSeq (sSet 7 (eLst aNil))
  (sSeq (sFor (zho (zab (eCB minD (zab (eOp modD (eIxV 0 (eVar 3)) (eC (.int 5))) (zab (eVar 3) aNil))) aNil)) (gN 8)
  (sSeq (sSet 9 (eOp modD (eVar 6) (eCB lenD (zab (eVar 5) aNil))))
  (sSeq (sSet 6 (eOp zcy (eVar 6) (eCB lenD (zab (eVar 5) aNil))))
  (zmu 7 5 (eVar 9)))))
  (sApp 2 (eTup (zab (eVar 4) (zab (eVar 7) aNil)))))))))
  (zsp 2)))
def zky:GF:=fnD 10 zxp
noncomputable def zacj:SF:=(sSeq (sSet 1 zakl)
  (sSeq (sFor (zas (eVar 0)) (gT 2 (zar 2 (zar 3 zdc)))
  (sSeq (sSet 4 (eLst (zab (eVar 2) aNil)))
  (sSeq (sFor (zas (eVar 3)) (gN 5)
  (sFor (zas (zdz 1 (eVar 5))) (gN 6)
  (sIf (zbg (eOp (inD true) (eVar 6) (eVar 4))) (sApp 4 (eVar 6)) sNil)))
  (sPut 1 (eVar 2) (eVar 4)))))
  (zsp 1)))
def zno:GF:=fnD 7 zacj
theorem zfi {α:Type} {enc out:α→PyData} {g:GT} {t:TF} {e:EF} {env:DEnv} (p:α→Bool):∀ {l:List α},(∀ x∈l,∃ e1,g (enc x) env=some e1∧t e1=some (p x)∧(p x=true→∃ r,e e1=some r∧r.d=out x)) →
  zej g t e env (l.map enc)=some ((l.filter p).map out)
 | [],_=>rfl
 | x::l,h=>by
  obtain ⟨e1,h1,h2,h3⟩:=h x qj
  have ih:=zfi (l:=l) p fun y hy=>h y (qL _ hy)
  rw [qY]
  unfold zej
  rw [h1,qD,h2,qD]
  cases hp:p x with
  | false =>
   rw [if_neg qS,ih,qBO,hp];rfl
  | true =>
   obtain ⟨r,h4,h5⟩:=h3 hp
   rw [if_pos rfl,h4,qD,ih,qBO,hp]
   simp [h5]
theorem zdi {α:Type} {enc out:α→PyData} {g:GT} {t:TF} {e:EF} {env:DEnv} {l:List α} (h:∀ x∈l,∃ e1,g (enc x) env=some e1∧t e1=some true∧∃ r,e e1=some r∧r.d=out x):zej g t e env (l.map enc)=some (l.map out):=by
 have q:=zfi (enc:=enc) (out:=out) (g:=g) (t:=t) (e:=e) (env:=env) (fun _=>true) (l:=l) fun x hx=>let ⟨e1,h1,h2,h3⟩:=h x hx;⟨e1,h1,h2,fun _=>h3⟩
 rw [q]
 congr 2
 exact List.filter_eq_self.mpr fun _ _=>rfl
theorem zack {α:Type} {enc:α→PyData} {g:GT} {body:SF} (I:List α→DEnv→Prop) (all:List α):∀ (l pre:List α) (env:DEnv),pre++l=all→I pre env →
  (∀ pre x post env,pre++x::post=all→I pre env→∃ e1 e2,g (enc x) env=some e1∧(body e1=some (.nx e2)∨body e1=some (.ct e2))∧I (pre++[x]) e2)→∃ env',forL g body (l.map enc) env=some (.nx env')∧I all env'
 | [],pre,env,hall,h0,hs=>by
  rw [qx] at hall
  subst hall
  exact ⟨env,rfl,h0⟩
 | x::l,pre,env,hall,h0,hs=>by
  obtain ⟨e1,e2,h1,h2,h3⟩:=hs pre x l env hall h0
  obtain ⟨env',h4,h5⟩:=zack I all l (pre++[x]) e2 (by rw [← hall];simp) h3 hs
  refine ⟨env',?_,h5⟩
  rw [qY]
  unfold forL
  rw [h1,qD]
  rcases h2 with h2|h2<;>rw [h2,qD]<;>exact h4
theorem zdu {α:Type} {enc:α→PyData} {g:GT} {body:SF} {l:List α} {env:DEnv} (I:List α→DEnv→Prop) (h0:I [] env) (hs:∀ pre x post env,pre++x::post=l→I pre env→∃ e1 e2,g (enc x) env=some e1∧(body e1=some (.nx e2)∨body e1=some (.ct e2))∧I (pre++[x]) e2) :
  ∃ env',forL g body (l.map enc) env=some (.nx env')∧I l env':=zack I l l [] env rfl h0 hs
theorem zxq {α:Type} {enc:α→PyData} {g:GT} {body:SF} (p:α→Bool) (d:PyData) (fr:Bool) (I:DEnv→Prop):∀ (l:List α) (env:DEnv),I env →
  (∀ x∈l,∀ env,I env→∃ e1,g (enc x) env=some e1∧(p x=true→∃ e2,body e1=some (.nx e2)∧I e2)∧(p x=false→body e1=some (.rt d fr))) →
  (l.all p=true→∃ env',forL g body (l.map enc) env=some (.nx env')∧I env')∧(l.all p=false→forL g body (l.map enc) env=some (.rt d fr))
 | [],env,h0,hs=>⟨fun _=>⟨env,rfl,h0⟩,fun h=>by simp at h⟩
 | x::l,env,h0,hs=>by
  obtain ⟨e1,h1,h2,h3⟩:=hs x qj env h0
  rw [qY,qAy]
  unfold forL
  rw [h1,qD]
  cases hp:p x with
  | false =>
   rw [h3 hp,qD]
   exact ⟨fun h=>by simp at h,fun _=>rfl⟩
  | true =>
   obtain ⟨e2,h4,h5⟩:=h2 hp
   rw [h4,qD]
   exact zxq p d fr I l e2 h5 fun y hy=>hs y (qL _ hy)
theorem zapp {t:TS} {F:SF} (hs:SS t F) {env:DEnv} {σ:St} {H1:Hp} {Q:VK} {nx:St→Hp→Prop} (hE:EnvOk (fun _=>False) H1 env σ H1) (e:F env=some (.rt (.bool true) false)) (k:∀ H',Q (.bl true) H'):t {nx:=nx,rt:=Q} σ H1:=by
 refine hs _ H1 env σ H1 _ hE _ e fun v H s rt=>?_
 rw [show v=.bl true from zoi rt.1]
 exact k H
def zcp (cs:List Int):PyData:=.list (cs.map .int)
theorem zacl {H:Hp}:∀ (cs:List Int),Rps H (cs.map .int) (cs.map .int)
 | []=>zec
 | c::cs=>zck zaf (zacl cs)
def envL (n:Nat) (cs:List Int):DEnv:=.no::.pl (zcp cs)::List.replicate n .no
theorem zapq {H1:Hp} {a pc:Addr} {cs:List Int} {n:Nat} (e:H1 pc=some (.lst (cs.map .int))):EnvOk (fun _=>False) H1 (envL n cs) (some (.ref a)::some (.ref pc)::List.replicate n none) H1:=by
 have no:∀ (i:Nat) (d:PyData),(envL n cs)[i]?≠some (Sl.ac d):=fun i d=>by
  unfold envL
  cases i with
  | zero=>simp
  | succ i=>cases i with
   | zero=>simp
   | succ i=>simp [qBV]
 refine ⟨by unfold envL;simp,fun i d h=>?_,fun i d h=>absurd h (no i d),fun i j d e a h=>absurd h (no i d),Same.refl _,fun b z=>z.elim⟩
 unfold envL at h
 cases i with
 | zero=>simp at h
 | succ i=>cases i with
  | zero =>
   simp at h
   subst h
   refine ⟨.ref pc,rfl,zgs ?_ (zacl cs)⟩
   rw [Offs.get]
   ·exact e
   ·rintro (z|⟨j,d',z,_⟩)
    ·exact z
    ·exact no j d' z
  | succ i=>simp [qBV] at h
theorem zav {f g:SF} {env e1:DEnv} {o:Option Out} (h:f env=some (.nx e1)) (k:g e1=o):sSeq f g env=o:=by unfold sSeq;rw [h];exact k
theorem zatb {f g:SF} {env:DEnv} {d:PyData} {fr:Bool} (h:f env=some (.rt d fr)):sSeq f g env=some (.rt d fr):=by unfold sSeq;rw [h];rfl
theorem for_list {f:EF} {g:GT} {b:SF} {env:DEnv} {ds:List PyData} {fr:Bool} {bs:List Nat} {o:Option Out} (h:f env=some ⟨.list ds,fr,bs⟩) (k:forL g b ds (frzs env bs)=o):sFor (zas f) g b env=o:=by
 unfold sFor zas;rw [h];exact k
theorem zhq {f:IF'} {g:GT} {b:SF} {env:DEnv} {ds:List PyData} {bs:List Nat} {o:Option Out} (h:f env=some (ds,bs)) (k:forL g b ds (frzs env bs)=o):sFor f g b env=o:=by
 unfold sFor;rw [h];exact k
theorem if_t {c:TF} {f g:SF} {env:DEnv} {o:Option Out} (h:c env=some true) (k:f env=o):sIf c f g env=o:=by unfold sIf;rw [h];exact k
theorem if_f {c:TF} {f g:SF} {env:DEnv} {o:Option Out} (h:c env=some false) (k:g env=o):sIf c f g env=o:=by unfold sIf;rw [h];exact k
theorem zcl {i:Nat} {f:EF} {env:DEnv} {r:Val} (h:f env=some r):sSet i f env=some (.nx (putV env i r)):=by unfold sSet;rw [h];rfl
theorem zkz {f:EF} {env:DEnv} {d:PyData} {fr:Bool} {bs:List Nat} (h:f env=some ⟨d,fr,bs⟩):sRet f env=some (.rt d fr):=by unfold sRet;rw [h];rfl
theorem zbv {n:Nat} {g:GF} {f:AF} {env:DEnv} {rs:List Val} {d:PyData} {fr:Bool} (h:f env=some rs) (hn:rs.length=n) (k:g (zhu rs)=some (d,fr)):zbb n g f env=some ⟨d,fr,bsOf d (bss rs)⟩:=by
 unfold zbb;rw [h,qD,if_pos hn,k];rfl
theorem zex {own:List Str} {fr:List Nat} {fi:IF'} {g:GT} {t:TF} {e:EF} {env:DEnv} {ds:List PyData} {bs:List Nat} {rs:List PyData} (h:fi env=some (ds,bs)) (hl:ds.length<100000) (k:zej g t e (envB own fr env) ds=some rs) :
  zdt own fr fi g t e env=some ⟨.list rs,true,if zgc rs=true then [] else bs++capA fr env⟩:=by
 unfold zdt;rw [h,qD,if_pos hl,k];rfl
theorem ziw {n:Nat} {f:SF} {ds:List PyData} {env:DEnv} {d:PyData} {fr:Bool} (h:zkq n ds=env) (e:f env=some (.rt d fr)):fnD n f ds=some (d,fr):=by
 unfold fnD;rw [h,e]
theorem zahu (n:Int):neD (.int n) (.int n)=some (.bool false,false):=by
 have e:qAK (.int n) (.int n)=true:=by unfold qAK;exact beq_self_eq_true n
 show some (PyData.bool (!PyData.eqv (.int n) (.int n)),false)=_
 rw [e];rfl
def zae (xs:List Str):PyData:=.list (xs.map .str)
def rowD (p:Str×List Str):PyData:=.tuple [.str p.1,zae p.2]
def webD (W:Web):PyData:=.list (W.map rowD)
theorem zlx (xs:List Str):zgc (xs.map .str)=true:=by
 unfold zgc
 rw [List.all_map]
 exact qAw.mpr fun _ _=>rfl
theorem zacm (xs:List Str) (x:Str):((xs.map PyData.str).any fun e=>qAK e (.str x))=decide (x∈xs):=by
 rw [qB6,qAl,qA2,decide_eq_true_iff]
 constructor
 ·rintro ⟨y,hy,h⟩
  have:y=x:=by simpa [qAK] using h
  rw [← this];exact hy
 ·exact fun h=>⟨x,h,by simp [qAK]⟩
theorem zvf (b:Bool) (xs:List Str) (x:Str):inD b (.str x) (zae xs)=some (.bool (if b then !decide (x∈xs) else decide (x∈xs)),false):=by
 unfold inD zae
 simp only [zif]
 rw [if_pos ⟨rfl,zlx xs⟩,zacm]
theorem zaee {W:Web} (hl:W.length<100000):zlw [webD W]=some (zae (nm W),true):=by
 have c:zej (gT 2 (zar 0 (zar 1 zdc))) zcv (eVar 0) [.no,.no] (W.map rowD)=some (W.map fun p=>PyData.str p.1):=zdi fun p _=>⟨[.pl (.str p.1),.pl (zae p.2)],rfl,rfl,⟨.str p.1,false,[]⟩,rfl,rfl⟩
 have e:zjh [.pl (webD W)]=some (.rt (zae (nm W)) true):=by
  unfold zjh sRet zdt zas
  simp only [eVar,qAX,qD,webD,zif,qA7,qF]
  rw [if_pos hl]
  show Option.map _ (Option.map _ (zej _ _ _ [.no,.no] _))=_
  rw [c]
  unfold zae nm
  simp
 show (match zjh [.pl (webD W)] with|some (.rt d fr)=>some (d,fr)|some (.nx _)=>some (.none,false)|_=>none)=_
 rw [e]
def insS (ks:List Str) (k:Str):List Str:=if k∈ks then ks else ks++[k]
def upL (acc:List (Str×List Str)) (e:Str):List Str:=(acc.lookup e).getD []
def zjr (acc:List (Str×List Str)) (p:Str×List Str):List (Str×List Str):=acc++[(p.1,p.2.foldl (fun ks e=>(upL acc e).foldl insS ks) [p.1])]
def ups (W:Web):List (Str×List Str):=W.foldl zjr []
def up (W:Web) (n:Str):List Str:=upL (ups W) n
theorem zjs (W:Web) (p:Str×List Str):ups (W++[p])=zjr (ups W) p:=by unfold ups;rw [qBY];rfl
theorem zals {ks:List Str} {k x:Str}:x∈insS ks k↔x∈ks∨x=k:=by
 unfold insS
 split
 ·rename_i h
  exact ⟨.inl,fun z=>z.elim id fun e=>e▸h⟩
 ·simp
theorem znp {x:Str}:∀ {ms ks:List Str},x∈ms.foldl insS ks↔x∈ks∨x∈ms
 | [],ks=>by simp
 | m::ms,ks=>by
  rw [qBW,znp,zals]
  simp [or_assoc]
theorem zapr {ks:List Str} {k:Str} (h:ks.Nodup):(insS ks k).Nodup:=by
 unfold insS
 split
 ·exact h
 ·rename_i hk;exact zzv h hk
theorem zvg:∀ {ms ks:List Str},ks.Nodup→(ms.foldl insS ks).Nodup
 | [],_,h=>h
 | _::ms,_,h=>zvg (ms:=ms) (zapr h)
theorem zra {acc:List (Str×List Str)} {x:Str}:∀ {es ks:List Str},x∈es.foldl (fun ks e=>(upL acc e).foldl insS ks) ks↔x∈ks∨∃ e∈es,x∈upL acc e
 | [],ks=>by simp
 | e::es,ks=>by
  rw [qBW,zra,znp]
  simp [or_assoc]
theorem zacn {acc:List (Str×List Str)}:∀ {es ks:List Str},ks.Nodup→(es.foldl (fun ks e=>(upL acc e).foldl insS ks) ks).Nodup
 | [],_,h=>h
 | _::es,_,h=>zacn (es:=es) (zvg h)
theorem zhw {l:List (Str×List Str)} {n:Str} {p:Str×List Str}:(l++[p]).lookup n=(l.lookup n).or (if n==p.1 then some p.2 else none):=by
 induction l with
 | nil =>
  obtain ⟨a,b⟩:=p
  show List.lookup n [(a,b)]=_
  rw [qAM]
  cases n==a<;>rfl
 | cons q l ih =>
  obtain ⟨a,b⟩:=q
  rw [qCU,qAM,qAM]
  cases n==a with
  | true=>rfl
  | false=>exact ih
theorem zop {α:Type} {P:List α→Prop} (h0:P []) (hs:∀ l x,P l→P (l++[x])):∀ l,P l:=by
 intro l
 have:∀ n (l:List α),l.length=n→P l:=by
  intro n
  induction n with
  | zero=>intro l e;rw [qBU.mp e];exact h0
  | succ n ih =>
   intro l e
   have hne:l≠[]:=fun z=>by rw [z] at e;cases e
   rw [← List.dropLast_concat_getLast hne]
   exact hs _ _ (ih _ (by rw [List.length_dropLast,e];rfl))
 exact this _ l rfl
theorem zhh:∀ (W:Web),(ups W).map (·.1)=nm W:=by
 refine zop rfl fun W p ih=>?_
 rw [zjs]
 unfold zjr nm
 rw [qv,qv,ih]
 rfl
theorem zmv (W:Web) (p:Str×List Str):nm (W++[p])=nm W++[p.1]:=by unfold nm;rw [qv];rfl
theorem zgu {W:Web} {p:Str×List Str} (h:WebOk (W++[p])):WebOk W∧p.1∉nm W∧(∀ e∈p.2,e∈nm W)∧p.2.length≤4:=by
 have hp:(W++[p])[W.length]?=some p:=by simp
 refine ⟨⟨?_,fun i n es e=>?_,fun q hq=>h.few q (qAA _ hq),?_⟩,?_,fun e he=>?_,h.few p (by simp)⟩
 ·have:=h.nd;rw [zmv] at this;exact (qAj.mp this).1
 ·have hi:i<W.length:=(qP.mp e).1
  have q:=h.el i n es (by rw [qAQ hi];exact e)
  rw [qAu (by omega)] at q
  exact q
 ·have:=h.len;simp at this;omega
 ·have:=h.nd
  rw [zmv] at this
  intro hm
  exact (qAj.mp this).2.2 p.1 hm p.1 (by simp) rfl
 ·have q:=h.el W.length p.1 p.2 hp e he
  rw [qAu (qJ _),qCT] at q
  exact q
theorem zik {l:List (Str×List Str)} {n:Str} (h:n∈l.map (·.1)):∃ ks,l.lookup n=some ks∧(n,ks)∈l:=by
 induction l with
 | nil=>simp at h
 | cons q l ih =>
  obtain ⟨a,b⟩:=q
  rw [qAM]
  cases e:n==a with
  | true=>rw [eq_of_beq e];exact ⟨b,rfl,qj⟩
  | false =>
   have hn:n≠a:=beq_eq_false_iff_ne.mp e
   rcases qX.mp h with z|z
   ·exact absurd z hn
   ·obtain ⟨ks,h1,h2⟩:=ih z
    exact ⟨ks,h1,qL _ h2⟩
theorem zoq {W:Web} {p:Str×List Str} {m:Str} (h:m∈nm W):up (W++[p]) m=up W m:=by
 unfold up upL
 rw [zjs]
 unfold zjr
 obtain ⟨ks,e,_⟩:=zik (l:=ups W) (n:=m) (by rw [zhh];exact h)
 rw [zhw,e]
 rfl
theorem zrb {l:List (Str×List Str)} {n:Str} (h:n∉l.map (·.1)):l.lookup n=none:=by
 induction l with
 | nil=>rfl
 | cons q l ih =>
  obtain ⟨a,b⟩:=q
  rw [qAM]
  have h1:n≠a:=fun z=>h (by simp [z])
  rw [beq_eq_false_iff_ne.mpr h1]
  exact ih fun z=>h (qL _ z)
theorem zank {W:Web} {p:Str×List Str} (h:p.1∉nm W):up (W++[p]) p.1=p.2.foldl (fun ks e=>(upL (ups W) e).foldl insS ks) [p.1]:=by
 unfold up upL
 rw [zjs]
 unfold zjr
 rw [zhw,zrb (by rw [zhh];exact h)]
 simp [upL]
theorem zatc {W:Web} {n:Str} {es:List Str} (h:(n,es)∈W):n∈nm W:=qz.mpr ⟨_,h,rfl⟩
theorem zvh {W:Web} (h:WebOk W) {n:Str} {es:List Str} (hm:(n,es)∈W):∀ e∈es,e∈nm W:=fun e he=>by
 obtain ⟨i,hi,e'⟩:=qBk hm
 have q:=h.el i n es (by rw [qH hi,e']) e he
 obtain ⟨p,h1,h2⟩:=qz.mp q
 exact qz.mpr ⟨p,qAa h1,h2⟩
theorem zatd {x:Str}:∀ {W:Web},WebOk W→∀ {n:Str} {es:List Str},(n,es)∈W→(x∈up W n↔x=n∨∃ e∈es,x∈up W e):=by
 intro W
 refine zop (P:=fun W=>WebOk W→∀ {n:Str} {es:List Str},(n,es)∈W→(x∈up W n↔x=n∨∃ e∈es,x∈up W e)) (fun _ n es h=>nomatch h) (fun W p ih h n es hm=>?_) W
 obtain ⟨hW,hp,hel,_⟩:=zgu h
 rcases qp.mp hm with hm|hm
 ·rw [zoq (zatc hm),ih hW hm]
  have:(∃ e∈es,x∈up W e)↔∃ e∈es,x∈up (W++[p]) e:=by
   constructor
   ·rintro ⟨e,he,hx⟩;exact ⟨e,he,by rw [zoq (zvh hW hm e he)];exact hx⟩
   ·rintro ⟨e,he,hx⟩;exact ⟨e,he,by rw [zoq (zvh hW hm e he)] at hx;exact hx⟩
  rw [this]
 ·have e:(n,es)=p:=by simpa using hm
  subst e
  rw [zank hp,zra]
  have:(∃ e∈es,x∈upL (ups W) e)↔∃ e∈es,x∈up (W++[(n,es)]) e:=by
   constructor
   ·rintro ⟨e,he,hx⟩;exact ⟨e,he,by rw [zoq (hel e he)];exact hx⟩
   ·rintro ⟨e,he,hx⟩;exact ⟨e,he,by rw [zoq (hel e he)] at hx;exact hx⟩
  rw [this]
  simp
theorem zaps {W:Web} (h:WebOk W) {n:Str} (hn:n∈nm W):n∈up W n:=by
 obtain ⟨⟨m,es⟩,h1,h2⟩:=qz.mp hn
 cases h2
 exact (zatd h h1).mpr (.inl rfl)
theorem zaco:∀ {W:Web},WebOk W→∀ {n x:Str},x∈up W n→x∈nm W:=by
 intro W
 refine zop (P:=fun W=>WebOk W→∀ {n x:Str},x∈up W n→x∈nm W) (fun _ n x h=>by simp [up,ups,upL] at h) (fun W p ih h n x hx=>?_) W
 obtain ⟨hW,hp,hel,_⟩:=zgu h
 rw [zmv]
 by_cases hn:n∈nm W
 ·rw [zoq hn] at hx
  exact qAA _ (ih hW hx)
 ·by_cases e:n=p.1
  ·rw [e,zank hp,zra] at hx
   rcases hx with hx|⟨e',_,hx⟩
   ·exact qd _ (by simpa using hx)
   ·exact qAA _ (ih hW hx)
  ·unfold up upL at hx
   rw [zjs] at hx
   unfold zjr at hx
   rw [zhw,zrb (by rw [zhh];exact hn),beq_eq_false_iff_ne.mpr e] at hx
   simp at hx
theorem zauu:∀ {W:Web} {n:Str},(up W n).Nodup:=by
 intro W
 refine zop (P:=fun W=>∀ {n:Str},(up W n).Nodup) (fun {n}=>by simp [up,ups,upL]) (fun W p ih n=>?_) W
 unfold up upL
 rw [zjs]
 unfold zjr
 rw [zhw]
 cases e:(ups W).lookup n with
 | some ks =>
  have q:=ih (n:=n)
  unfold up upL at q
  rw [e] at q
  exact q
 | none =>
  show ((if n==p.1 then some _ else none).getD []).Nodup
  split
  ·exact zacn (by simp)
  ·exact qCC
theorem zahv {W:Web} (h:WebOk W) (n:Str):(up W n).length≤12:=by
 have:=zkk _ (nm W) (zauu (W:=W) (n:=n)) fun x hx=>zaco h hx
 have:=zqm h
 omega
def dS (f:List Str→PyData) (l:List (Str×List Str)):List (PyData×PyData):=l.map fun p=>(.str p.1,f p.2)
theorem zla (f:List Str→PyData) (n:Str):∀ l:List (Str×List Str),zmr (dS f l) (Sum.inr n)=(l.lookup n).map f
 | []=>rfl
 | (a,b)::l=>by
  have ih:=zla f n l
  show (if keyD (.str a)=some (Sum.inr n) then some (f b) else zmr (dS f l) (Sum.inr n))=_
  rw [qAM]
  by_cases e:a=n
  ·subst e;rw [if_pos (show keyD (.str a)=some (Sum.inr a) from rfl),beq_self_eq_true];rfl
  ·rw [if_neg (show ¬ keyD (.str a)=some (Sum.inr n) from fun z=>e (qB8 (qh z))),beq_eq_false_iff_ne.mpr (qAp e)]
   exact ih
theorem zaan (f:List Str→PyData) {l:List (Str×List Str)} {n:Str} {ks:List Str} (h:n∉l.map (·.1)):zso (dS f l) (.str n) (f ks)=dS f (l++[(n,ks)]):=by
 unfold zso dS
 rw [if_neg,qv]
 ·rfl
 ·intro z
  rw [qB6,qA2] at z
  obtain ⟨p,hp,e⟩:=z
  have e:=of_decide_eq_true e
  exact h (qz.mpr ⟨p,hp,qB8 (qh e)⟩)
def zix (ks:List Str):List (PyData×PyData):=ks.map fun k=>(.str k,.bool true)
def zbi (ks:List Str):PyData:=.dict (zix ks)
theorem zxr (x:Str):∀ ks:List Str,zzz (zix ks) (Sum.inr x)=decide (x∈ks)
 | []=>by simp [zix,zzz,zmr]
 | k::ks=>by
  have ih:=zxr x ks
  unfold zzz at ih ⊢
  show (if keyD (.str k)=some (Sum.inr x) then some (PyData.bool true) else zmr (zix ks) (Sum.inr x)).isSome=_
  by_cases e:k=x
  ·subst e;rw [if_pos (show keyD (.str k)=some (Sum.inr k) from rfl)];simp
  ·rw [if_neg (show ¬ keyD (.str k)=some (Sum.inr x) from fun z=>e (qB8 (qh z))),ih]
   have:¬ x=k:=fun z=>e z.symm
   simp [this]
theorem zahw (ks:List Str) (k:Str):zso (zix ks) (.str k) (.bool true)=zix (insS ks k):=by
 have ha:((zix ks).any fun kv=>decide (keyD kv.1=keyD (.str k)))=decide (k∈ks):=by
  unfold zix
  rw [qB6,qAl,qA2,decide_eq_true_iff]
  constructor
  ·rintro ⟨y,hy,h⟩
   have h:=of_decide_eq_true h
   have:y=k:=qB8 (qh h)
   rw [← this];exact hy
  ·exact fun h=>⟨k,h,decide_eq_true rfl⟩
 unfold zso insS
 rw [ha]
 by_cases hk:k∈ks
 ·rw [if_pos (decide_eq_true hk),if_pos hk]
  unfold zix
  rw [qBH]
  refine qBj fun y _=>?_
  show (if keyD (PyData.str y)=keyD (.str k) then (PyData.str y,PyData.bool true) else (PyData.str y,PyData.bool true))=_
  split<;>rfl
 ·rw [if_neg (by simpa using hk),if_neg hk]
  unfold zix
  rw [qv];rfl
theorem zmw:∀ (ms ks:List Str),zje (zix ks) (zix ms)=zix (ms.foldl insS ks)
 | [],_=>rfl
 | m::ms,ks=>by
  show zje (zso (zix ks) (.str m) (.bool true)) (zix ms)=_
  rw [zahw,zmw ms];rfl
theorem zacp {α:Type} {pre post:List α} {x:α} {l:List α} (h:pre++x::post=l):l=(pre++[x])++post:=by rw [← h];simp
theorem zxs:∀ {post W:Web},WebOk (W++post)→WebOk W:=by
 intro post
 refine zop (P:=fun post=>∀ {W:Web},WebOk (W++post)→WebOk W) (fun {W} h=>by rwa [qx] at h) (fun post p ih W h=>?_) post
 rw [← qBJ] at h
 exact ih (zgu h).1
theorem zto {W:Web} (h:WebOk W):zgt [webD W]=some (.dict (dS zbi (ups W)),true):=by
 have inner:∀ (V:Web) (p:Str×List Str) (es pre:List Str) (s5:Sl),WebOk (V++[p])→pre++es=p.2 →
   ∃ s5',forL (gN 5) (sUpd 4 (zdz 1 (eVar 5))) (es.map .str) [.pl (webD W),.ac (.dict (dS zbi (ups V))),.pl (.str p.1),.pl (zae p.2),.ac (zbi (pre.foldl (fun ks e=>(upL (ups V) e).foldl insS ks) [p.1])),s5] =
    some (.nx [.pl (webD W),.ac (.dict (dS zbi (ups V))),.pl (.str p.1),.pl (zae p.2),.ac (zbi (p.2.foldl (fun ks e=>(upL (ups V) e).foldl insS ks) [p.1])),s5']):=by
  intro V p es
  induction es with
  | nil=>intro pre s5 _ e;rw [qx] at e;subst e;exact ⟨s5,rfl⟩
  | cons e es ih =>
   intro pre s5 hV hp
   obtain ⟨hV',hn,hel,hfew⟩:=zgu hV
   have he:e∈nm V:=hel e (by rw [← hp];simp)
   obtain ⟨ks,lk,_⟩:=zik (l:=ups V) (n:=e) (by rw [zhh];exact he)
   have eup:upL (ups V) e=ks:=by unfold upL;rw [lk];rfl
   have l1:ks.length≤12:=by rw [← eup];exact zahv hV' e
   have sub:∀ x∈pre.foldl (fun ks e=>(upL (ups V) e).foldl insS ks) [p.1],x∈nm (V++[p]):=fun x hx=>by
    rw [zmv]
    rcases zra.mp hx with z|⟨e',_,z⟩
    ·exact qd _ (by simpa using z)
    ·exact qAA _ (zaco hV' z)
   have l2:(pre.foldl (fun ks e=>(upL (ups V) e).foldl insS ks) [p.1]).length≤12:=by
    have:=zkk _ _ (zacn (acc:=ups V) (es:=pre) (ks:=[p.1]) (by simp)) sub
    have:=zqm hV
    omega
   obtain ⟨s5',q⟩:=ih (pre++[e]) (.pl (.str e)) hV (by rw [← hp];simp)
   refine ⟨s5',?_⟩
   rw [qY]
   unfold forL
   simp only [gN,qD,qBr,qBq]
   have b:sUpd 4 (zdz 1 (eVar 5)) [.pl (webD W),.ac (.dict (dS zbi (ups V))),.pl (.str p.1),.pl (zae p.2),.ac (zbi (pre.foldl (fun ks e=>(upL (ups V) e).foldl insS ks) [p.1])),.pl (.str e)] =
     some (.nx [.pl (webD W),.ac (.dict (dS zbi (ups V))),.pl (.str p.1),.pl (zae p.2),.ac (zbi ((pre++[e]).foldl (fun ks e=>(upL (ups V) e).foldl insS ks) [p.1])),.pl (.str e)]):=by
    have lz:(zix (pre.foldl (fun ks e=>(upL (ups V) e).foldl insS ks) [p.1])).length+(zix ks).length≤100000:=by unfold zix;rw [qF,qF];omega
    simp only [sUpd,zbi,zdz,eVar,qAY,qAX,qD,keyD,zla,lk,qA7]
    rw [if_pos ⟨lz,by simp⟩,zmw]
    simp [frzs,qBY,eup]
   rw [b,qD]
   exact q
 have outer:∃ env',forL (gT 2 (zar 2 (zar 3 zdc))) (sSeq (sSet 4 (eD1 (eVar 2) (eC (.bool true)))) (sSeq (sFor (zas (eVar 3)) (gN 5) (sUpd 4 (zdz 1 (eVar 5)))) (sPut 1 (eVar 2) (eVar 4)))) (W.map rowD) [.pl (webD W),.ac (.dict []),.no,.no,.no,.no]=some (.nx env') ∧
   ∃ s2 s3 s4 s5,env'=[.pl (webD W),.ac (.dict (dS zbi (ups W))),s2,s3,s4,s5]:=by
  refine zdu (fun pre env=>∃ s2 s3 s4 s5,env=[.pl (webD W),.ac (.dict (dS zbi (ups pre))),s2,s3,s4,s5]) ⟨_,_,_,_,rfl⟩ ?_
  rintro pre p post env hp ⟨s2,s3,s4,s5,rfl⟩
  have hV:WebOk (pre++[p]):=zxs (post:=post) (by rw [← zacp hp];exact h)
  obtain ⟨hV',hn,hel,hfew⟩:=zgu hV
  obtain ⟨s5',q⟩:=inner pre p p.2 [] s5 hV rfl
  refine ⟨[.pl (webD W),.ac (.dict (dS zbi (ups pre))),.pl (.str p.1),.pl (zae p.2),s4,s5],[.pl (webD W),.ac (.dict (dS zbi (ups (pre++[p])))),.pl (.str p.1),.pl (zae p.2),.pl (zbi (p.2.foldl (fun ks e=>(upL (ups pre) e).foldl insS ks) [p.1])),s5'],rfl,.inl ?_,_,_,_,_,rfl⟩
  have lz:(dS zbi (ups pre)).length<100000:=by
   unfold dS
   rw [qF,← qF (f:=(·.1)),zhh]
   have:=zqm hV'
   omega
  have st:sSet 4 (eD1 (eVar 2) (eC (.bool true))) [.pl (webD W),.ac (.dict (dS zbi (ups pre))),.pl (.str p.1),.pl (zae p.2),s4,s5]=some (.nx [.pl (webD W),.ac (.dict (dS zbi (ups pre))),.pl (.str p.1),.pl (zae p.2),.ac (zbi [p.1]),s5]):=by
   simp [sSet,eD1,eVar,eC,keyD,putV,frzs,slOf,zbi,zix]
  have pt:sPut 1 (eVar 2) (eVar 4) [.pl (webD W),.ac (.dict (dS zbi (ups pre))),.pl (.str p.1),.pl (zae p.2),.ac (zbi (p.2.foldl (fun ks e=>(upL (ups pre) e).foldl insS ks) [p.1])),s5'] =
    some (.nx [.pl (webD W),.ac (.dict (dS zbi (ups (pre++[p])))),.pl (.str p.1),.pl (zae p.2),.pl (zbi (p.2.foldl (fun ks e=>(upL (ups pre) e).foldl insS ks) [p.1])),s5']):=by
   simp only [sPut,eVar,qAY,qAX,qD,keyD]
   rw [if_pos ⟨lz,by simp⟩,zaan zbi (by rw [zhh];exact hn),zjs]
   simp [frzs,frz1,zjr]
  exact zav st (zav (for_list rfl q) pt)
 obtain ⟨env',hl,s2,s3,s4,s5,rfl⟩:=outer
 exact ziw (env:=[.pl (webD W),.no,.no,.no,.no,.no]) rfl (zav rfl (zav (for_list rfl hl) rfl))
theorem zahx {W:Web} {A B C:Sl} {D E:Sl}:∀ (ms ks:List Str) (s6:Sl),ks.length+ms.length<100000→∃ s6',forL (gN 6) (sIf (zbg (eOp (inD true) (eVar 6) (eVar 4))) (sApp 4 (eVar 6)) sNil) (ms.map .str) [A,B,C,D,.ac (zae ks),E,s6]=some (.nx [A,B,C,D,.ac (zae (ms.foldl insS ks)),E,s6'])
 | [],ks,s6,_=>⟨s6,rfl⟩
 | m::ms,ks,s6,hl=>by
  have step:sIf (zbg (eOp (inD true) (eVar 6) (eVar 4))) (sApp 4 (eVar 6)) sNil [A,B,C,D,.ac (zae ks),E,.pl (.str m)]=some (.nx [A,B,C,D,.ac (zae (insS ks m)),E,.pl (.str m)]):=by
   by_cases hm:m∈ks
   ·refine if_f ?_ ?_
    ·simp [zbg,eOp,eVar,zvf,hm]
    ·rw [show insS ks m=ks from if_pos hm];rfl
   ·refine if_t ?_ ?_
    ·simp [zbg,eOp,eVar,zvf,hm]
    ·have lz:(ks.map PyData.str).length<100000:=by rw [qF];simp at hl;omega
     simp only [sApp,zae,eVar,qAY,qAX,qD]
     rw [if_pos ⟨lz,by simp⟩]
     simp [frzs,insS,hm]
  have hl2:(insS ks m).length+ms.length<100000:=by
   have:(insS ks m).length≤ks.length+1:=by unfold insS;split<;>simp
   simp at hl;omega
  obtain ⟨s6',q⟩:=zahx (W:=W) ms (insS ks m) (.pl (.str m)) hl2
  refine ⟨s6',?_⟩
  rw [qY]
  unfold forL
  simp only [gN,qD,qBr,qBq]
  rw [step,qD]
  exact q
theorem zalt {W:Web} (h:WebOk W):zno [webD W]=some (.dict (dS zae (ups W)),true):=by
 have inner:∀ (V:Web) (p:Str×List Str) (es pre:List Str) (s5 s6:Sl),WebOk (V++[p])→pre++es=p.2 →
   ∃ s5' s6',forL (gN 5) (sFor (zas (zdz 1 (eVar 5))) (gN 6) (sIf (zbg (eOp (inD true) (eVar 6) (eVar 4))) (sApp 4 (eVar 6)) sNil)) (es.map .str) [.pl (webD W),.ac (.dict (dS zae (ups V))),.pl (.str p.1),.pl (zae p.2),.ac (zae (pre.foldl (fun ks e=>(upL (ups V) e).foldl insS ks) [p.1])),s5,s6] =
    some (.nx [.pl (webD W),.ac (.dict (dS zae (ups V))),.pl (.str p.1),.pl (zae p.2),.ac (zae (p.2.foldl (fun ks e=>(upL (ups V) e).foldl insS ks) [p.1])),s5',s6']):=by
  intro V p es
  induction es with
  | nil=>intro pre s5 s6 _ e;rw [qx] at e;subst e;exact ⟨s5,s6,rfl⟩
  | cons e es ih =>
   intro pre s5 s6 hV hp
   obtain ⟨hV',hn,hel,hfew⟩:=zgu hV
   have he:e∈nm V:=hel e (by rw [← hp];simp)
   obtain ⟨ks,lk,_⟩:=zik (l:=ups V) (n:=e) (by rw [zhh];exact he)
   have eup:upL (ups V) e=ks:=by unfold upL;rw [lk];rfl
   have l1:ks.length≤12:=by rw [← eup];exact zahv hV' e
   have sub:∀ x∈pre.foldl (fun ks e=>(upL (ups V) e).foldl insS ks) [p.1],x∈nm (V++[p]):=fun x hx=>by
    rw [zmv]
    rcases zra.mp hx with z|⟨e',_,z⟩
    ·exact qd _ (by simpa using z)
    ·exact qAA _ (zaco hV' z)
   have l2:(pre.foldl (fun ks e=>(upL (ups V) e).foldl insS ks) [p.1]).length≤12:=by
    have:=zkk _ _ (zacn (acc:=ups V) (es:=pre) (ks:=[p.1]) (by simp)) sub
    have:=zqm hV
    omega
   obtain ⟨s6',q1⟩:=zahx (W:=W) (A:=.pl (webD W)) (B:=.ac (.dict (dS zae (ups V)))) (C:=.pl (.str p.1)) (D:=.pl (zae p.2)) (E:=.pl (.str e)) ks (pre.foldl (fun ks e=>(upL (ups V) e).foldl insS ks) [p.1]) s6 (by omega)
   obtain ⟨s5',s6'',q⟩:=ih (pre++[e]) (.pl (.str e)) s6' hV (by rw [← hp];simp)
   refine ⟨s5',s6'',?_⟩
   rw [qY]
   unfold forL
   simp only [gN,qD,qBr,qBq]
   have gd:zdz 1 (eVar 5) [.pl (webD W),.ac (.dict (dS zae (ups V))),.pl (.str p.1),.pl (zae p.2),.ac (zae (pre.foldl (fun ks e=>(upL (ups V) e).foldl insS ks) [p.1])),.pl (.str e),s6]=some ⟨zae ks,false,[]⟩:=by
    simp [zdz,eVar,keyD,zla,lk]
   rw [for_list gd q1,qD]
   rw [qBY,qBW,List.foldl_nil,eup] at q
   exact q
 have outer:∃ env',forL (gT 2 (zar 2 (zar 3 zdc))) (sSeq (sSet 4 (eLst (zab (eVar 2) aNil))) (sSeq (sFor (zas (eVar 3)) (gN 5) (sFor (zas (zdz 1 (eVar 5))) (gN 6) (sIf (zbg (eOp (inD true) (eVar 6) (eVar 4))) (sApp 4 (eVar 6)) sNil))) (sPut 1 (eVar 2) (eVar 4)))) (W.map rowD) [.pl (webD W),.ac (.dict []),.no,.no,.no,.no,.no]=some (.nx env') ∧
   ∃ s2 s3 s4 s5 s6,env'=[.pl (webD W),.ac (.dict (dS zae (ups W))),s2,s3,s4,s5,s6]:=by
  refine zdu (fun pre env=>∃ s2 s3 s4 s5 s6,env=[.pl (webD W),.ac (.dict (dS zae (ups pre))),s2,s3,s4,s5,s6]) ⟨_,_,_,_,_,rfl⟩ ?_
  rintro pre p post env hp ⟨s2,s3,s4,s5,s6,rfl⟩
  have hV:WebOk (pre++[p]):=zxs (post:=post) (by rw [← zacp hp];exact h)
  obtain ⟨hV',hn,hel,hfew⟩:=zgu hV
  obtain ⟨s5',s6',q⟩:=inner pre p p.2 [] s5 s6 hV rfl
  refine ⟨[.pl (webD W),.ac (.dict (dS zae (ups pre))),.pl (.str p.1),.pl (zae p.2),s4,s5,s6],[.pl (webD W),.ac (.dict (dS zae (ups (pre++[p])))),.pl (.str p.1),.pl (zae p.2),.pl (zae (p.2.foldl (fun ks e=>(upL (ups pre) e).foldl insS ks) [p.1])),s5',s6'],rfl,.inl ?_,_,_,_,_,_,rfl⟩
  have lz:(dS zae (ups pre)).length<100000:=by
   unfold dS
   rw [qF,← qF (f:=(·.1)),zhh]
   have:=zqm hV'
   omega
  have pt:sPut 1 (eVar 2) (eVar 4) [.pl (webD W),.ac (.dict (dS zae (ups pre))),.pl (.str p.1),.pl (zae p.2),.ac (zae (p.2.foldl (fun ks e=>(upL (ups pre) e).foldl insS ks) [p.1])),s5',s6'] =
    some (.nx [.pl (webD W),.ac (.dict (dS zae (ups (pre++[p])))),.pl (.str p.1),.pl (zae p.2),.pl (zae (p.2.foldl (fun ks e=>(upL (ups pre) e).foldl insS ks) [p.1])),s5',s6']):=by
   simp only [sPut,eVar,qAY,qAX,qD,keyD]
   rw [if_pos ⟨lz,by simp⟩,zaan zae (by rw [zhh];exact hn),zjs]
   simp [frzs,frz1,zjr]
  exact zav rfl (zav (for_list rfl q) pt)
 obtain ⟨env',hl,s2,s3,s4,s5,s6,rfl⟩:=outer
 exact ziw (env:=[.pl (webD W),.no,.no,.no,.no,.no,.no]) rfl (zav rfl (zav (for_list rfl hl) rfl))
def ltr (i:Int):Str:=⟨#[97+i.toNat]⟩
def Low (x:Str):Prop:=∀ c∈x.cps.toList,c<128
theorem zhj {x:Str} (h:Low x):qAF x=true:=by
 unfold qAF
 rw [← Array.all_toList,qAw]
 intro c hc
 have:=h c hc
 exact decide_eq_true (by omega)
theorem zjt (a b:Str):(a++b).cps.toList=a.cps.toList++b.cps.toList:=by
 show (a.cps++b.cps).toList=_
 simp
theorem Low.app {a b:Str} (h1:Low a) (h2:Low b):Low (a++b):=fun c hc=>by
 rw [zjt] at hc
 exact (qp.mp hc).elim (h1 c) (h2 c)
theorem Low.slice {x:Str} (h:Low x) (l u:Option Int):Low (Txt.slice x l u):=fun c hc=>by
 unfold Txt.slice at hc
 split at hc
 ·exact h c hc
 ·have hc:c∈(List.filterMap (x.cps[·]?) (Builtin.Str.strSliceIndices l u 1 x.length)):=by simpa using hc
  obtain ⟨i,_,e⟩:=qBs.mp hc
  exact h c (by
   have:=qCz e
   simpa using this)
theorem Low.ltr {i:Int} (h0:0≤i) (h1:i<26):Low (ltr i):=fun c hc=>by
 have:c=97+i.toNat:=by simpa [Bc.ltr] using hc
 omega
theorem zxt (c:Nat):∀ (n:Nat) (acc:Array Nat),((List.replicate n #[c]).foldl (·++·) acc).toList=acc.toList++List.replicate n c
 | 0,acc=>by simp
 | n+1,acc=>by
  rw [qBi,qBW,zxt c n,qBi]
  simp
theorem znq {c:Nat} {n:Int} (h:0≤n):(Txt.mul ⟨#[c]⟩ n).cps.toList=List.replicate n.toNat c:=by
 unfold Txt.mul
 split
 ·have:n.toNat=0:=by omega
  rw [this];rfl
 ·split
  ·rename_i h1 h2
   have:n=1:=by
    rcases qCI.mp h2 with z|z
    ·exact eq_of_beq z
    ·exact absurd z (by simp [Str.length])
   subst this
   rfl
  ·rw [zxt];rfl
theorem Low.mul {c:Nat} (hc:c<128) {n:Int} (h:0≤n):Low (Txt.mul ⟨#[c]⟩ n):=fun d hd=>by
 rw [znq h] at hd
 rw [qBz hd];exact hc
theorem zahy {c:Nat} {n:Int} (h:0≤n):(Txt.mul ⟨#[c]⟩ n).length=n.toNat:=by
 have:=congrArg List.length (znq (c:=c) h)
 rw [qA3] at this
 simpa [Str.length] using this
noncomputable def zju (md o st:Int) (stem:Str) (at_:Int) (k:Nat):Str :=
 if md=0 then Txt.slice stem none (some at_)++ltr ((o+st * k) % 26)++Txt.slice stem (some at_) none
 else if md=1 then Txt.slice stem none (some (k * st % (stem.length+1)))++ltr ((o+st * k) % 26)
 else Txt.mul (ltr ((o+k / 8) % 26)) (1+k * st % 8)
theorem zahz {i j:Int} (h0:0≤i) (h1:0≤j) (h:ltr i=ltr j):i=j:=by
 unfold ltr at h
 have:#[97+i.toNat]=#[97+j.toNat]:=by injection h
 have:97+i.toNat=97+j.toNat:=by simpa using this
 omega
theorem zxu:∀ st∈([1,3,5,7,9,11,15,17]:List Nat),∀ a<16,∀ b<16,st * a % 26=st * b % 26→a=b:=by decide +kernel
theorem zacq {o st:Int} (hs:st∈([1,3,5,7,9,11,15,17]:List Int)) {a b:Nat} (ha:a<16) (hb:b<16) (h:(o+st * a) % 26=(o+st * b) % 26):a=b:=by
 have h2:=Int.emod_add_cancel_left.mp h
 simp only [qX,qBd,or_false] at hs
 rcases hs with rfl|rfl|rfl|rfl|rfl|rfl|rfl|rfl
 ·exact zxu 1 (by decide) a ha b hb (by exact_mod_cast h2)
 ·exact zxu 3 (by decide) a ha b hb (by exact_mod_cast h2)
 ·exact zxu 5 (by decide) a ha b hb (by exact_mod_cast h2)
 ·exact zxu 7 (by decide) a ha b hb (by exact_mod_cast h2)
 ·exact zxu 9 (by decide) a ha b hb (by exact_mod_cast h2)
 ·exact zxu 11 (by decide) a ha b hb (by exact_mod_cast h2)
 ·exact zxu 15 (by decide) a ha b hb (by exact_mod_cast h2)
 ·exact zxu 17 (by decide) a ha b hb (by exact_mod_cast h2)
theorem zapt {x y:Int} (hx:0≤x) (hy:0≤y) (h:97+x.toNat=97+y.toNat):x=y:=by omega
theorem zate {x y:Int} (hx:0≤x) (hy:0≤y) (h:(1+x).toNat=(1+y).toNat):x=y:=by omega
theorem zaia {x:Int} (hx:0≤x):(1+x).toNat=x.toNat+1:=by omega
theorem tab8:∀ st∈([1,3,5,7,9,11,15,17]:List Nat),∀ a<16,∀ b<16,a / 8=b / 8→a * st % 8=b * st % 8→a=b:=by decide +kernel
theorem zaib {o st:Int} (hs:st∈([1,3,5,7,9,11,15,17]:List Int)) {a b:Nat} (ha:a<16) (hb:b<16) (h:(o+(a:Int) / 8) % 26=(o+(b:Int) / 8) % 26) (h2:(a:Int) * st % 8=b * st % 8):a=b:=by
 have q1:a / 8=b / 8:=by omega
 simp only [qX,qBd,or_false] at hs
 rcases hs with rfl|rfl|rfl|rfl|rfl|rfl|rfl|rfl
 ·exact tab8 1 (by decide) a ha b hb q1 (by exact_mod_cast h2)
 ·exact tab8 3 (by decide) a ha b hb q1 (by exact_mod_cast h2)
 ·exact tab8 5 (by decide) a ha b hb q1 (by exact_mod_cast h2)
 ·exact tab8 7 (by decide) a ha b hb q1 (by exact_mod_cast h2)
 ·exact tab8 9 (by decide) a ha b hb q1 (by exact_mod_cast h2)
 ·exact tab8 11 (by decide) a ha b hb q1 (by exact_mod_cast h2)
 ·exact tab8 15 (by decide) a ha b hb q1 (by exact_mod_cast h2)
 ·exact tab8 17 (by decide) a ha b hb q1 (by exact_mod_cast h2)
theorem zaic {md o st at_:Int} {stem:Str} (hs:st∈([1,3,5,7,9,11,15,17]:List Int)) (ho:0≤o) {a b:Nat} (ha:a<16) (hb:b<16) (h:zju md o st stem at_ a=zju md o st stem at_ b):a=b:=by
 have st0:0≤st:=by
  simp only [qX,qBd,or_false] at hs
  rcases hs with rfl|rfl|rfl|rfl|rfl|rfl|rfl|rfl<;>decide
 have n26:∀ z:Int,0≤z % 26:=fun z=>qAO z (by decide)
 unfold zju at h
 by_cases h0:md=0
 ·rw [if_pos h0,if_pos h0] at h
  have q:=congrArg (fun x:Str=>x.cps.toList) h
  simp only [zjt] at q
  have q2:=List.append_cancel_right q
  have q3:=List.append_cancel_left q2
  have q4:ltr ((o+st * a) % 26)=ltr ((o+st * b) % 26):=by
   unfold ltr at q3 ⊢
   congr 1
   exact Array.toList_inj.mp q3
  exact zacq hs ha hb (zahz (n26 _) (n26 _) q4)
 ·rw [if_neg h0,if_neg h0] at h
  by_cases h1:md=1
  ·rw [if_pos h1,if_pos h1] at h
   have q:=congrArg (fun x:Str=>x.cps.toList) h
   simp only [zjt] at q
   have q3:=(List.append_inj' q (by simp [ltr])).2
   have q4:ltr ((o+st * a) % 26)=ltr ((o+st * b) % 26):=by
    unfold ltr at q3 ⊢
    congr 1
    exact Array.toList_inj.mp q3
   exact zacq hs ha hb (zahz (n26 _) (n26 _) q4)
  ·rw [if_neg h1,if_neg h1] at h
   have m8:∀ z:Int,0≤z % 8:=fun z=>qAO z (by decide)
   have q:(Txt.mul (ltr ((o+(a:Int) / 8) % 26)) (1+a * st % 8)).cps.toList=(Txt.mul (ltr ((o+(b:Int) / 8) % 26)) (1+b * st % 8)).cps.toList:=by rw [h]
   have ea:∀ k:Nat,(Txt.mul (ltr ((o+(k:Int) / 8) % 26)) (1+k * st % 8)).cps.toList=List.replicate (1+(k:Int) * st % 8).toNat (97+((o+(k:Int) / 8) % 26).toNat):=fun k=>znq (by have:=m8 (k * st);omega)
   rw [ea a,ea b] at q
   have ql:=congrArg List.length q
   rw [qA3,qA3] at ql
   have w1:=m8 (a * st)
   have w2:=m8 (b * st)
   have hh:(97+((o+(a:Int) / 8) % 26).toNat)=(97+((o+(b:Int) / 8) % 26).toNat):=by
    have c1:(1+(a:Int) * st % 8).toNat=((a:Int) * st % 8).toNat+1:=zaia w1
    have c2:(1+(b:Int) * st % 8).toNat=((b:Int) * st % 8).toNat+1:=zaia w2
    rw [c1,c2,qBi,qBi] at q
    exact (List.cons.inj q).1
   have z1:=n26 (o+(a:Int) / 8)
   have z2:=n26 (o+(b:Int) / 8)
   exact zaib (o:=o) hs ha hb (zapt z1 z2 hh) (zate w1 w2 ql)
theorem zrc {α:Type} {f:Nat→α} {n:Nat} (h:∀ a b,a<n→b<n→f a=f b→a=b):((List.range n).map f).Nodup:=by
 rw [List.nodup_iff_pairwise_ne,List.pairwise_map]
 refine List.Pairwise.imp_of_mem ?_ (List.pairwise_lt_range (n:=n))
 intro a b ha hb hab e
 have:=h a b (qAq.mp ha) (qAq.mp hb) e
 omega
theorem zaid {md o st at_:Int} {stem:Str} (hl:Low stem) (ho:0≤o) (hst:0≤st) (k:Nat):Low (zju md o st stem at_ k):=by
 have n26:∀ z:Int,0≤z % 26∧z % 26<26:=fun z=>⟨qAO z (by decide),qAV z (by decide)⟩
 unfold zju
 split
 ·exact ((hl.slice _ _).app (Low.ltr (n26 _).1 (n26 _).2)).app (hl.slice _ _)
 ·split
  ·exact (hl.slice _ _).app (Low.ltr (n26 _).1 (n26 _).2)
  ·have:=qAO ((k:Int) * st) (show (8:Int)≠0 by decide)
   exact Low.mul (by have:=n26 (o+(k:Int) / 8);omega) (by omega)
abbrev vi (i:Int):Val:=⟨.int i,false,[]⟩
abbrev vs (x:Str):Val:=⟨.str x,false,[]⟩
abbrev vb (b:Bool):Val:=⟨.bool b,false,[]⟩
section
variable {a b:EF} {env:DEnv} {i j:Int}
theorem zhk (ha:a env=some (vi i)) (hb:b env=some (vi j)) (h:0<j):eOp modD a b env=some (vi (i % j)):=by
 unfold eOp;rw [ha,hb];simp [modD,intD,h,bsOf,zgq]
theorem zlb (ha:a env=some (vi i)) (hb:b env=some (vi j)) (h:0<j) (h2:j<1073741824):eOp zcy a b env=some (vi (i / j)):=by
 unfold eOp;rw [ha,hb];simp [zcy,intD,h,h2,bsOf,zgq]
theorem zvi (ha:a env=some (vi i)) (hb:b env=some (vi j)):eOp addD a b env=some (vi (i+j)):=by
 unfold eOp;rw [ha,hb];simp [addD,bsOf,zgq]
theorem zalu (ha:a env=some (vi i)) (hb:b env=some (vi j)):eOp subD a b env=some (vi (i - j)):=by
 unfold eOp;rw [ha,hb];simp [subD,intD,bsOf,zgq]
theorem zalv (ha:a env=some (vi i)) (hb:b env=some (vi j)) (h:(-(2 ^ 64)<i∧i<2 ^ 64)∨(-(2 ^ 64)<j∧j<2 ^ 64)):eOp mulD a b env=some (vi (i * j)):=by
 unfold eOp;rw [ha,hb]
 simp only [qD,mulD]
 rw [if_pos h];simp [bsOf,zgq]
theorem zst (ha:a env=some (vi i)) (hb:b env=some (vi j)):eOp eqD a b env=some (vb (i==j)):=by
 unfold eOp;rw [ha,hb];rfl
theorem zaie {x y:Str} (ha:a env=some (vs x)) (hb:b env=some (vs y)) (h:x.length+y.length≤100000):eOp addD a b env=some (vs (x++y)):=by
 unfold eOp;rw [ha,hb]
 simp only [qD,addD]
 rw [if_pos h];simp [bsOf,zgq]
theorem zanl {x:Str} (ha:a env=some (vs x)) (hb:b env=some (vi j)) (h:x.length≤1000∧-1000≤j∧j≤1000):eOp mulD a b env=some (vs (Txt.mul x j)):=by
 unfold eOp;rw [ha,hb]
 simp only [qD,mulD]
 rw [if_pos h];simp [bsOf,zgq]
theorem zapu {x:Str} {l h:PF'} {lo hi:Option Int} (ha:a env=some (vs x)) (hl:l env=some lo) (hh:h env=some hi) (hz:x.length≤100000):eSl a l h env=some (vs (Txt.slice x lo hi)):=by
 unfold eSl;rw [ha,hl,hh]
 simp only [qD,slD]
 rw [if_pos hz];simp [bsOf,zgq]
theorem zkb (ha:a env=some (vi i)):zbl a env=some (some i):=by unfold zbl;rw [ha];rfl
theorem zfy {c:Bool} (ha:a env=some (vb c)):zbg a env=some c:=by unfold zbg;rw [ha];rfl
theorem zeq {r:Val} (ha:a env=some r):zab a aNil env=some [r]:=by unfold zab aNil;rw [ha];rfl
theorem zanm {x:Str} (ha:a env=some (vs x)) (hz:x.length≤100000):eCB lenD (zab a aNil) env=some (vi x.length):=by
 unfold eCB
 rw [zeq ha]
 simp [zhu,lenD,hz,bsOf,zgq]
theorem ztp {ds:List PyData} {fr:Bool} {bs:List Nat} (ha:a env=some ⟨.list ds,fr,bs⟩):eCB lenD (zab a aNil) env=some (vi ds.length):=by
 unfold eCB
 rw [zeq ha]
 simp [zhu,lenD,bsOf,zgq]
theorem zaao {k n:Nat} {b:EF} {ds:List PyData} {d:PyData} (he:env[k]?=some (.pl (.list ds))) (hb:b env=some (vi (n:Int))) (hd:ds[n]?=some d):eIxV k b env=some ⟨d,false,[]⟩:=by
 unfold eIxV
 rw [he]
 unfold eOp eVar
 rw [he,hb]
 simp only [qD,ixD]
 rw [zmn hd]
 simp [bsOf]
theorem zatf {k n:Nat} {b:EF} {ds:List PyData} {d:PyData} (he:env[k]?=some (.ac (.list ds))) (hb:b env=some (vi (n:Int))) (hd:ds[n]?=some d):eIxV k b env=some ⟨d,false,[]⟩:=by
 unfold eIxV
 rw [he]
 simp only
 rw [hb]
 simp only [qD]
 rw [zmn hd];rfl
end
def abc:Str:="abcdefghijklmnopqrstuvwxyz"
theorem zapv:(List.range 26).all (fun i=>abc.cps.toList[i]?==some (97+i))=true:=by decide +kernel
theorem zapw:abc.length=26:=by decide +kernel
theorem zatg {i:Int} (h0:0≤i) (h1:i<26):atI abc.cps.toList i=some (97+i.toNat):=by
 have q:=qAw.mp zapv i.toNat (qAq.mpr (by omega))
 have e:((i.toNat:Nat):Int)=i:=by omega
 rw [← e]
 have z:=zmn (eq_of_beq q)
 rw [e] at z ⊢
 exact z
theorem zapx {k:Nat} {b:EF} {env:DEnv} {i:Int} (he:env[k]?=some (.pl (.str abc))) (hb:b env=some (vi i)) (h0:0≤i) (h1:i<26):eIxV k b env=some (vs (ltr i)):=by
 unfold eIxV
 rw [he]
 unfold eOp eVar
 rw [he,hb]
 simp only [qD,ixD]
 rw [if_pos (by rw [zapw];decide),zatg h0 h1]
 simp [bsOf,zgq,ltr]
theorem zapy {i:Int} (h0:0≤i) (h1:i<8):∃ st:Int,atI [PyData.int 1,.int 3,.int 5,.int 7,.int 9,.int 11,.int 15,.int 17] i=some (.int st)∧st∈([1,3,5,7,9,11,15,17]:List Int):=by
 rcases (show i=0∨i=1∨i=2∨i=3∨i=4∨i=5∨i=6∨i=7 by omega) with rfl|rfl|rfl|rfl|rfl|rfl|rfl|rfl
 all_goals exact ⟨_,rfl,by decide⟩
theorem zpd {i:Nat} {f:EF} {env:DEnv} {ds:List PyData} {d:PyData} {fr:Bool} (he:env[i]?=some (.ac (.list ds))) (hf:f env=some ⟨d,fr,[]⟩) (hl:ds.length<100000):sApp i f env=some (.nx (env.set i (.ac (.list (ds++[d]))))):=by
 unfold sApp
 rw [he]
 simp only
 rw [hf]
 simp only [qD]
 rw [if_pos ⟨hl,by simp⟩];rfl
theorem zrd (n:Nat):zqs 0 n=(List.range n).map (fun (k:Nat)=>PyData.int (k:Int)):=by
 unfold zqs
 refine qBj fun k _=>?_
 show PyData.int (0+(k:Int))=_
 rw [Int.zero_add]
theorem zvj (a b:Str):(a++b).length=a.length+b.length:=by
 have:=congrArg List.length (zjt a b)
 rw [qW] at this
 simpa [Str.length] using this
theorem zaif:WebOk []:=⟨qCC,fun i n es e=>by simp at e,fun p hp=>by simp at hp,by simp⟩
theorem zaig {W:Web} {p:Str×List Str} (h:WebOk W) (hn:p.1∉nm W) (he:∀ e∈p.2,e∈nm W) (hf:p.2.length≤4) (hl:W.length<12):WebOk (W++[p]):=by
 refine ⟨by rw [zmv];exact zzv h.nd hn,fun i n es e=>?_,fun q hq=>?_,by simp;omega⟩
 ·by_cases hi:i<W.length
  ·rw [qAQ hi] at e
   rw [qAu (by omega)]
   exact h.el i n es e
  ·rw [qAW (by omega)] at e
   have hi2:i - W.length=0:=by
    have:=(qP.mp e).1
    simp at this;omega
   rw [hi2] at e
   cases e
   have:i=W.length:=by omega
   subst this
   rw [qAu (qJ _),qCT]
   exact he
 ·rcases qp.mp hq with hq|hq
  ·exact h.few q hq
  ·rw [qAT.mp hq];exact hf
theorem zre (ds:List PyData) (k:Nat) (h:k≤ds.length):cutD ds none (some (k:Int))=ds.take k:=by
 unfold cutD
 have e1:HT.sIx ds.length 0 none=0:=rfl
 rw [e1,HT.sIx_nat]
 simp
theorem zacr {α:Type} (enc:α→PyData) (l:List α):zsq (l.map enc)=(l.zipIdx).map fun (p:α×Nat)=>PyData.tuple [.int (p.2:Int),enc p.1]:=by
 unfold zsq
 rw [List.zipIdx_map,qBH];rfl
theorem zath {α:Type} {l:List α} (nd:l.Nodup) {i j:Nat} {hi:i<l.length} {hj:j<l.length} (e:l[i]=l[j]):i=j:=by
 rcases Nat.lt_trichotomy i j with h|h|h
 ·exact absurd e (qBu.mp nd i j hi hj h)
 ·exact h
 ·exact absurd e.symm (qBu.mp nd j i hj hi h)
theorem ztq {α:Type}:∀ (l:List α) (i:Nat) (h:i<l.length),(l[i]::l.eraseIdx i).Perm l
 | [],_,h=>by simp at h
 | a::l,0,_=>qDJ _
 | a::l,i+1,h=>by
  have hi:i<l.length:=by simpa using h
  have ih:=ztq l i hi
  show (l[i]::a::l.eraseIdx i).Perm (a::l)
  exact (List.Perm.swap a l[i] _).trans (List.Perm.cons a ih)
theorem zxv {α β:Type} (f:α→β):∀ (l:List α) (i:Nat),(l.map f).eraseIdx i=(l.eraseIdx i).map f
 | [],_=>rfl
 | _::_,0=>rfl
 | a::l,i+1=>by
  show f a::(l.map f).eraseIdx i=f a::(l.eraseIdx i).map f
  rw [zxv f l i]
theorem zxw {A B C:Sl} {kk:Nat} {nn:Sl} {xs:List Str} (hx:xs.length≤12):∀ (t:Nat) (ls es:List Str) (rs:Int) (s8 s9:Sl),(es++ls).Perm xs→t+es.length≤4→t≤ls.length →
  ∃ es' s5 s6 s8' s9',forL (gN 8) (sSeq (sSet 9 (eOp modD (eVar 6) (eCB lenD (zab (eVar 5) aNil)))) (sSeq (sSet 6 (eOp zcy (eVar 6) (eCB lenD (zab (eVar 5) aNil)))) (zmu 7 5 (eVar 9)))) ((List.range' es.length t).map fun (k:Nat)=>PyData.int (k:Int)) [A,B,C,.pl (.int (kk:Int)),nn,.ac (zae ls),.pl (.int rs),.ac (zae es),s8,s9] =
   some (.nx [A,B,C,.pl (.int (kk:Int)),nn,s5,s6,.ac (zae es'),s8',s9'])∧es'.Nodup=es'.Nodup∧(∃ ls',(es'++ls').Perm xs)∧es'.length=t+es.length
 | 0,ls,es,rs,s8,s9,pm,_,_=>⟨es,_,_,s8,s9,rfl,rfl,⟨ls,pm⟩,by simp⟩
 | t+1,ls,es,rs,s8,s9,pm,h4,hl=>by
  have hls:0<ls.length:=by omega
  have pl:=pm.length_eq
  rw [qW] at pl
  have a0:=qAO rs (show ((ls.length:Nat):Int)≠0 by omega)
  have a1:=qAV rs (show (0:Int)<((ls.length:Nat):Int) by omega)
  have hk:(rs % ((ls.length:Nat):Int)).toNat<ls.length:=by omega
  have e9:((rs % ((ls.length:Nat):Int)).toNat:Int)=rs % ((ls.length:Nat):Int):=by omega
  generalize eA:(rs % ((ls.length:Nat):Int)).toNat=at_ at hk e9
  have pm2:((es++[ls[at_]])++ls.eraseIdx at_).Perm xs:=by
   refine List.Perm.trans ?_ pm
   rw [qBJ]
   exact List.Perm.append_left es (ztq ls at_ hk)
  obtain ⟨es',s5,s6,s8',s9',q,_,hp,hlen⟩:=zxw (A:=A) (B:=B) (C:=C) (kk:=kk) (nn:=nn) hx t (ls.eraseIdx at_) (es++[ls[at_]]) (rs / ((ls.length:Nat):Int)) (.pl (.int (es.length:Int))) (.pl (.int (at_:Int))) pm2 (by simp;omega) (by rw [List.length_eraseIdx_of_lt hk];omega)
  refine ⟨es',s5,s6,s8',s9',?_,rfl,hp,by rw [hlen];simp;omega⟩
  rw [List.range'_succ,qY]
  unfold forL
  simp only [gN,qD,qBr,qBq]
  have st1:sSet 9 (eOp modD (eVar 6) (eCB lenD (zab (eVar 5) aNil))) [A,B,C,.pl (.int (kk:Int)),nn,.ac (zae ls),.pl (.int rs),.ac (zae es),.pl (.int (es.length:Int)),s9]=some (.nx [A,B,C,.pl (.int (kk:Int)),nn,.ac (zae ls),.pl (.int rs),.ac (zae es),.pl (.int (es.length:Int)),.pl (.int (at_:Int))]):=by
   have:=zcl (i:=9) (zhk (a:=eVar 6) (env:=[A,B,C,.pl (.int (kk:Int)),nn,.ac (zae ls),.pl (.int rs),.ac (zae es),.pl (.int (es.length:Int)),s9]) rfl (ztp (a:=eVar 5) rfl) (by rw [qF];omega))
   rw [this,qF,← e9];rfl
  have st2:sSet 6 (eOp zcy (eVar 6) (eCB lenD (zab (eVar 5) aNil))) [A,B,C,.pl (.int (kk:Int)),nn,.ac (zae ls),.pl (.int rs),.ac (zae es),.pl (.int (es.length:Int)),.pl (.int (at_:Int))]=some (.nx [A,B,C,.pl (.int (kk:Int)),nn,.ac (zae ls),.pl (.int (rs / ((ls.length:Nat):Int))),.ac (zae es),.pl (.int (es.length:Int)),.pl (.int (at_:Int))]):=by
   have:=zcl (i:=6) (zlb (a:=eVar 6) (env:=[A,B,C,.pl (.int (kk:Int)),nn,.ac (zae ls),.pl (.int rs),.ac (zae es),.pl (.int (es.length:Int)),.pl (.int (at_:Int))]) rfl (ztp (a:=eVar 5) rfl) (by rw [qF];omega) (by rw [qF];omega))
   rw [this,qF];rfl
  have st3:zmu 7 5 (eVar 9) [A,B,C,.pl (.int (kk:Int)),nn,.ac (zae ls),.pl (.int (rs / ((ls.length:Nat):Int))),.ac (zae es),.pl (.int (es.length:Int)),.pl (.int (at_:Int))]=some (.nx [A,B,C,.pl (.int (kk:Int)),nn,.ac (zae (ls.eraseIdx at_)),.pl (.int (rs / ((ls.length:Nat):Int))),.ac (zae (es++[ls[at_]])),.pl (.int (es.length:Int)),.pl (.int (at_:Int))]):=by
   simp only [zmu,zae,eVar,qAY,qAX,qD]
   rw [if_pos ⟨by omega,by omega,by rw [qF];omega,by decide⟩,qB2,qT,qH hk]
   simp [zxv]
  rw [zav st1 (zav st2 st3),qD]
  rw [show (es++[ls[at_]]).length=es.length+1 by simp] at q
  exact q
theorem zaih {cs:List Int} {xs:List Str} (hle:xs.length≤cs.length) (h12:xs.length≤12) (nd:xs.Nodup):∃ W,zky [zcp cs,zae xs]=some (webD W,true)∧nm W=xs∧WebOk W:=by
 have loop:∃ env',forL (gT 2 (zar 3 (zar 4 zdc))) (sSeq (sSet 5 (eSl (eVar 1) zcm (zbl (eVar 3))))
  (sSeq (sSet 6 (eOp zcy (eIxV 0 (eVar 3)) (eC (.int 5))))
  (sSeq (sSet 7 (eLst aNil))
  (sSeq (sFor (zho (zab (eCB minD (zab (eOp modD (eIxV 0 (eVar 3)) (eC (.int 5))) (zab (eVar 3) aNil))) aNil)) (gN 8)
  (sSeq (sSet 9 (eOp modD (eVar 6) (eCB lenD (zab (eVar 5) aNil))))
  (sSeq (sSet 6 (eOp zcy (eVar 6) (eCB lenD (zab (eVar 5) aNil))))
  (zmu 7 5 (eVar 9)))))
  (sApp 2 (eTup (zab (eVar 4) (zab (eVar 7) aNil)))))))) ((xs.zipIdx).map fun (p:Str×Nat)=>PyData.tuple [.int (p.2:Int),.str p.1]) [.pl (zcp cs),.pl (zae xs),.ac (webD []),.no,.no,.no,.no,.no,.no,.no]=some (.nx env') ∧
   ∃ W s3 s4 s5 s6 s7 s8 s9,env'=[.pl (zcp cs),.pl (zae xs),.ac (webD W),s3,s4,s5,s6,s7,s8,s9]∧nm W=(xs.zipIdx).map (fun p:Str×Nat=>p.1)∧WebOk W:=by
  refine zdu (fun pre env=>∃ W s3 s4 s5 s6 s7 s8 s9,env=[.pl (zcp cs),.pl (zae xs),.ac (webD W),s3,s4,s5,s6,s7,s8,s9]∧nm W=pre.map (fun p:Str×Nat=>p.1)∧WebOk W) ⟨[],_,_,_,_,_,_,_,rfl,rfl,zaif⟩ ?_
  rintro pre ⟨n,i⟩ post env hp ⟨W,s3,s4,s5,s6,s7,s8,s9,rfl,hnm,ok⟩
  have hz:(xs.zipIdx)[pre.length]?=some (n,i):=by rw [← hp];simp
  rw [qDB] at hz
  have hi:i=pre.length∧xs[pre.length]?=some n:=by
   cases e:xs[pre.length]? with
   | none=>rw [e] at hz;cases hz
   | some y=>rw [e] at hz;simp at hz;exact ⟨by omega,by rw [hz.1]⟩
  obtain ⟨rfl,hn⟩:=hi
  have hix:pre.length<xs.length:=(qP.mp hn).1
  have hic:pre.length<cs.length:=by omega
  have hpre:pre.map (fun p:Str×Nat=>p.1)=xs.take pre.length:=by
   have e1:(xs.zipIdx).map (fun p:Str×Nat=>p.1)=xs:=qDH 0 xs
   have e2:=congrArg (fun l:List (Str×Nat)=>(l.map (fun p:Str×Nat=>p.1)).take pre.length) hp
   simp only [e1] at e2
   rw [← e2,qv,qAu (by simp),← qBS,qCT]
  have hWl:W.length=pre.length:=by
   have:=congrArg List.length hnm
   unfold nm at this
   simpa using this
  have gc:∀ {env:DEnv},env[0]?=some (.pl (zcp cs))→env[3]?=some (.pl (.int (pre.length:Int)))→eIxV 0 (eVar 3) env=some (vi cs[pre.length]):=fun {env} h0 h3 =>
   zaao (ds:=cs.map .int) h0 (by unfold eVar;rw [h3]) (by rw [qT,qH hic];rfl)
  have m5:=qAO cs[pre.length] (show (5:Int)≠0 by decide)
  have m5':=qAV cs[pre.length] (show (0:Int)<5 by decide)
  generalize eN:(if ((pre.length:Nat):Int)<cs[pre.length] % 5 then ((pre.length:Nat):Int) else cs[pre.length] % 5)=N
  have hN:0≤N∧N≤pre.length∧N≤4:=by rw [← eN];split<;>omega
  have tl:(xs.take pre.length).length=pre.length:=by rw [qAH];omega
  obtain ⟨es,s5',s6',s8',s9',q,_,⟨ls,pm⟩,hes⟩:=zxw (A:=.pl (zcp cs)) (B:=.pl (zae xs)) (C:=.ac (webD W)) (kk:=pre.length) (nn:=.pl (.str n)) (xs:=xs.take pre.length) (by omega) N.toNat (xs.take pre.length) [] (cs[pre.length] / 5) s8 s9 (qDJ _) (by simp;omega) (by omega)
  have ndT:(xs.take pre.length).Nodup:=nd.sublist (qBy _ _)
  have ndE:es.Nodup:=(qAj.mp (pm.nodup_iff.mpr ndT)).1
  have subE:∀ e∈es,e∈nm W:=fun e he=>by rw [hnm,hpre];exact pm.mem_iff.mp (qAA _ he)
  have nW:n∉nm W:=by
   rw [hnm,hpre]
   intro hm
   obtain ⟨j,hj,ej⟩:=qBk hm
   rw [List.getElem_take] at ej
   obtain ⟨hh,en⟩:=qP.mp hn
   have:=zath nd (ej.trans en.symm)
   rw [tl] at hj
   omega
  refine ⟨_,[.pl (zcp cs),.pl (zae xs),.ac (webD (W++[(n,es)])),.pl (.int (pre.length:Int)),.pl (.str n),s5',s6',.pl (zae es),s8',s9'],rfl,.inl ?_,W++[(n,es)],_,_,_,_,_,_,_,rfl,by rw [zmv,hnm];simp,zaig ok nW subE (by rw [hes];simp;omega) (by omega)⟩
  have st5:sSet 5 (eSl (eVar 1) zcm (zbl (eVar 3))) [.pl (zcp cs),.pl (zae xs),.ac (webD W),.pl (.int (pre.length:Int)),.pl (.str n),s5,s6,s7,s8,s9]=some (.nx [.pl (zcp cs),.pl (zae xs),.ac (webD W),.pl (.int (pre.length:Int)),.pl (.str n),.ac (zae (xs.take pre.length)),s6,s7,s8,s9]):=by
   have:eSl (eVar 1) zcm (zbl (eVar 3)) [.pl (zcp cs),.pl (zae xs),.ac (webD W),.pl (.int (pre.length:Int)),.pl (.str n),s5,s6,s7,s8,s9]=some ⟨zae (xs.take pre.length),true,[]⟩:=by
    simp only [eSl,eVar,zcm,zbl,qAY,qAX,qD,zae,slD]
    rw [zre _ _ (by rw [qF];omega),← qBS]
    simp [bsOf,zgq]
   exact zcl this
  refine zav st5 (zav (zcl (r:=vi _) (zlb (gc rfl rfl) rfl (by decide) (by decide))) (zav rfl (zav (zhq (ds:=(List.range' ([]:List Str).length N.toNat).map fun (k:Nat)=>PyData.int (k:Int)) (bs:=[]) ?_ q) ?_)))
  ·have:eCB minD (zab (eOp modD (eIxV 0 (eVar 3)) (eC (.int 5))) (zab (eVar 3) aNil)) [.pl (zcp cs),.pl (zae xs),.ac (webD W),.pl (.int (pre.length:Int)),.pl (.str n),.ac (zae (xs.take pre.length)),.pl (.int (cs[pre.length] / 5)),.ac (.list []),s8,s9]=some (vi N):=by
    unfold eCB zab
    rw [zhk (gc rfl rfl) (j:=5) rfl (by decide)]
    show ((minD [.int (cs[pre.length] % 5),.int ((pre.length:Nat):Int)]).bind fun z=>some (⟨z.1,z.2,bsOf z.1 _⟩:Val))=_
    unfold minD
    simp only [qD]
    rw [eN];rfl
   show zho _ [.pl (zcp cs),.pl (zae xs),.ac (webD W),.pl (.int (pre.length:Int)),.pl (.str n),.ac (zae (xs.take pre.length)),.pl (.int (cs[pre.length] / 5)),.ac (.list []),s8,s9]=_
   unfold zho
   rw [zeq this]
   simp only [qD]
   rw [if_pos ⟨by omega,by omega⟩,zrd,List.range_eq_range']
   rfl
  ·have lz:(W.map rowD).length<100000:=by rw [qF];omega
   simp only [sApp,webD,eTup,zab,aNil,eVar,qAY,qAX,qD,qA7,zhu,bss]
   rw [if_pos (by simp)]
   simp only [qD]
   rw [if_pos ⟨lz,by simp⟩]
   simp [frzs,frz1,rowD,zae]
 obtain ⟨env',hl,W,s3,s4,s5,s6,s7,s8,s9,rfl,hnm,ok⟩:=loop
 refine ⟨W,ziw (env:=[.pl (zcp cs),.pl (zae xs),.no,.no,.no,.no,.no,.no,.no,.no]) rfl (zav rfl (zav (zhq (ds:=(xs.zipIdx).map fun (p:Str×Nat)=>PyData.tuple [.int (p.2:Int),.str p.1]) (bs:=[]) ?_ hl) rfl)),hnm.trans (qDH 0 xs),ok⟩
 unfold ztj
 rw [zeq (r:=⟨zae xs,false,[]⟩) rfl]
 simp only [qD,zae]
 rw [zacr]
section
variable {a b:EF} {env:DEnv} {x y:Str}
theorem e_in {neg:Bool} {xs:List Str} {fr:Bool} {bs:List Nat} (ha:a env=some (vs x)) (hb:b env=some ⟨zae xs,fr,bs⟩):eOp (inD neg) a b env=some (vb (if neg then !decide (x∈xs) else decide (x∈xs))):=by
 unfold eOp;rw [ha,hb];simp [zvf,bsOf,zgq]
theorem zaii {k:Nat} {kvs:List (PyData×PyData)} {d:PyData} (he:env[k]?=some (.pl (.dict kvs))∨env[k]?=some (.ac (.dict kvs))) (hb:b env=some (vs y)) (hd:zmr kvs (Sum.inr y)=some d):zdz k b env=some ⟨d,false,[]⟩:=by
 unfold zdz
 rcases he with he|he<;>rw [he]<;>simp only<;>rw [hb]<;>simp [keyD,hd]
theorem zann {neg:Bool} {ks:List Str} {fr:Bool} {bs:List Nat} (ha:a env=some (vs x)) (hb:b env=some ⟨zbi ks,fr,bs⟩):eDIn neg a b env=some (vb (if neg then !decide (x∈ks) else decide (x∈ks))):=by
 unfold eDIn;rw [ha,hb];simp [zbi,keyD,zxr]
end
theorem zly {W:Web} {n:Str} (h:n∈nm W):(ups W).lookup n=some (up W n):=by
 obtain ⟨ks,e,_⟩:=zik (l:=ups W) (n:=n) (by rw [zhh];exact h)
 unfold up upL
 rw [e];rfl
theorem zbs {a:EF} {f:AF} {env:DEnv} {r:Val} {rs:List Val} (ha:a env=some r) (hf:f env=some rs):zab a f env=some (r::rs):=by unfold zab;rw [ha,hf];rfl
theorem zxx {f:EF} {env:DEnv} {c:Bool} (h:f env=some (vb c)):zkp (tTru f) env=some (!c):=by unfold zkp tTru;rw [h];rfl
theorem zalw (cs:List Int) (a b:Nat) (h:b≤cs.length) (hab:a≤b):cutD (cs.map .int) (some (a:Int)) (some (b:Int))=((cs.drop a).take (b - a)).map .int:=by
 unfold cutD
 have e1:min a cs.length=a:=by omega
 have e2:min b cs.length=b:=by omega
 rw [HT.sIx_nat,HT.sIx_nat,qF,e1,e2,← qBg,← qBS]
theorem zxy {env:DEnv} {cs:List Int} {b:EF} {n:Nat} (h1:env[1]?=some (.pl (zcp cs))) (hb:b env=some (vi (n:Int))) (hn:n<cs.length):eIxV 1 b env=some (vi (cs[n]'hn)) :=
 zaao (ds:=cs.map .int) h1 hb (by rw [qT,qH hn];rfl)
theorem zalx {W:Web}:zej (gT 2 (zar 0 (zar 1 zdc))) zcv (eTup (zab (eVar 0) (zab (eCB zwx (zab (eVar 1) aNil)) aNil))) [.no,.no] (W.map rowD)=some (W.map rowD) :=
 zdi fun p _=>⟨[.pl (.str p.1),.pl (zae p.2)],rfl,rfl,⟨rowD p,false,[]⟩,rfl,rfl⟩
theorem znr:∀ (xs:List Str),(∀ x∈xs,qAF x=true)→qu (xs.map .str)=true∧qi (xs.map .str)=0
 | [],_=>⟨rfl,rfl⟩
 | x::xs,h=>by
  obtain ⟨h1,h2⟩:=znr xs fun y hy=>h y (qL _ hy)
  rw [qY]
  refine ⟨?_,?_⟩
  ·show (qAF x&&qu (xs.map .str))=true
   rw [h x qj,h1];rfl
  ·show max 0 (qi (xs.map .str))=0
   rw [h2];rfl
theorem zacs:∀ (W:Web),(∀ p∈W,qAF p.1=true∧∀ e∈p.2,qAF e=true)→qu (W.map rowD)=true∧qi (W.map rowD)≤2
 | [],_=>⟨rfl,qAg _⟩
 | p::r,h=>by
  obtain ⟨h1,h2⟩:=zacs r fun q hq=>h q (qL _ hq)
  obtain ⟨g1,g2⟩:=h p qj
  obtain ⟨l1,l2⟩:=znr p.2 g2
  rw [qY]
  constructor
  ·show ((qAF p.1&&(qu (p.2.map .str)&&true))&&qu (r.map rowD))=true
   rw [g1,l1,h1];rfl
  ·show max (max 0 (max (qi (p.2.map .str)+1) 0)+1) (qi (r.map rowD))≤2
   rw [l2]
   omega
theorem zapz {W:Web} (h:WebOk W) (hl:∀ x∈nm W,Low x):∀ p∈W,qAF p.1=true∧∀ e∈p.2,qAF e=true:=fun p hp =>
 ⟨zhj (hl _ (qz.mpr ⟨p,hp,rfl⟩)),fun e he=>zhj (hl e (zvh h (n:=p.1) (es:=p.2) hp e he))⟩
def zor:SF:=(sSeq (sIf (tTru (eIsi "tuple" (eVar 0))) (sRet (eCB zwx (zab (eVar 0) aNil))) sNil)
  (sRet (eLst (zab (eVar 0) aNil))))
def zbf:GF:=fnD 1 zor
def zxz:SF:=(sSeq (sSet 2 zakl)
  (sSeq (sFor (zas (zbb 1 zbf (zab (eVar 1) aNil))) (gN 3)
  (sUpd 2 (zdz 0 (eVar 3))))
  (zsp 2)))
def zlc:GF:=fnD 4 zxz
theorem zrf {α:Type} (f:α→Bool):∀ (l:List α),zqr (l.map fun x=>.bool (f x))=some (l.map f)
 | []=>rfl
 | x::l=>by
  show (zqr (l.map fun x=>.bool (f x))).map _=_
  rw [zrf f l];rfl
theorem zati {α:Type} {f:α→Bool} {l:List α} {a:EF} {env:DEnv} {fr:Bool} {bs:List Nat} (ha:a env=some ⟨.list (l.map fun x=>.bool (f x)),fr,bs⟩):eCB (anyD fun bs=>bs.all id) (zab a aNil) env=some (vb (l.all f)):=by
 unfold eCB
 rw [zeq ha,qD]
 show ((zqr (l.map fun x=>.bool (f x))).map _).bind _=_
 rw [zrf]
 simp only [qA7,qD,List.all_map]
 rfl
theorem zrg {α:Type} {enc:α→PyData} {out:α→List PyData} {g:GT} {t:TF} {f2:IF'} {g2:GT} {t2:TF} {e:EF} {env:DEnv}:∀ {l:List α},(∀ x∈l,∃ e1,g (enc x) env=some e1∧t e1=some true∧innL f2 g2 t2 e e1=some (out x)) →
  zkt g t f2 g2 t2 e env (l.map enc)=some (l.flatMap out)
 | [],_=>rfl
 | x::l,h=>by
  obtain ⟨e1,h1,h2,h3⟩:=h x qj
  have ih:=zrg (l:=l) fun y hy=>h y (qL _ hy)
  rw [qY]
  unfold zkt
  rw [h1,qD,h2,qD,if_pos rfl,h3,qD,ih,List.flatMap_cons]
  rfl
theorem zaly {own:List Str} {fr:List Nat} {fi:IF'} {g:GT} {t:TF} {f2:IF'} {g2:GT} {t2:TF} {e:EF} {env:DEnv} {ds:List PyData} {bs:List Nat} {rs:List PyData} (h:fi env=some (ds,bs)) (hl:ds.length<300) (k:zkt g t f2 g2 t2 e (envB own fr env) ds=some rs) :
  zxf own fr fi g t f2 g2 t2 e env=some ⟨.list rs,true,if zgc rs=true then [] else bs++capA fr env⟩:=by
 unfold zxf;rw [h,qD,if_pos hl,k];rfl
def zld:SF:=(sRet (zxf ["arm", "name"] [] (zas (eVar 0)) (gN 0) zcv (zas (zbb 1 zbf (zab (eVar 0) aNil))) (gN 1) zcv (eVar 1)))
def zfj:GF:=fnD 1 zld
def zle:SF:=(sRet (zdt ["arm"] [0] (zas (eVar 1)) (gN 0) zcv (zbb 2 zlc (zab (eVar 1) (zab (eVar 0) aNil)))))
def zfk:GF:=fnD 2 zle
def zpe:SF:=(sRet (eCB (anyD fun bs=>bs.all id) (zab (zdt ["kind", "roof"] [] (zaeb (zab (eVar 0) (zab (eVar 1) aNil))) (gT 2 (zar 0 (zar 1 zdc))) zcv (eDIn false (eVar 0) (eVar 1))) aNil)))
def zhl:GF:=fnD 2 zpe
def zrh:SF:=(sRet (eAnd (eOp neD (eVar 1) (eVar 2)) (eCB (anyD fun bs=>bs.all id) (zab (zdt ["low", "high"] [0] (zaeb (zab (eVar 1) (zab (eVar 2) aNil))) (gT 2 (zar 0 (zar 1 zdc))) zcv (eDIn false (eVar 1) (zdz 2 (eVar 0)))) aNil))))
def zfl:GF:=fnD 3 zrh
def zpf:SF:=(sRet (zdt ["rule"] [0,1] (zas (eVar 1)) (gN 0) (zkp (tTru (eCB (anyD fun bs=>bs.any id) (zab (zdt ["name", "kinds"] [0,1] (zas (eVar 2)) (gT 2 (zar 0 (zar 1 zdc))) zcv (zbb 3 zfl (zab (eVar 3) (zab (eVar 1) (zab (eIxV 2 (eC (.int 1))) aNil))))) aNil)))) (eVar 0)))
def zjc:GF:=fnD 2 zpf
def zpg:SF:=(sRet (zdt ["name", "kinds"] [] (zas (eVar 0)) (gT 2 (zar 0 (zar 1 zdc))) zcv (eVar 0)))
def zem:GF:=fnD 1 zpg
noncomputable def zri:SF:=(sSeq (sIf (zkp (tTru (eVar 0))) (sRet (eTup (zab (eC (.str "none")) aNil))) sNil)
  (sSeq (sIf (zbg (eOp eqD (eCB lenD (zab (eVar 0) aNil)) (eC (.int 1)))) (sRet (eTup (zab (eC (.str "rule")) (zab (eIxV 0 (eC (.int 0))) aNil)))) sNil)
  (sRet (eTup (zab (eC (.str "quarrel")) (zab (eCB zfb (zab (eVar 0) aNil)) aNil))))))
def zjv:GF:=fnD 1 zri
def zmg:SF:=(sRet (zbb 1 zjv (zab (zbb 1 zem (zab (zbb 2 zjc (zab (eVar 0) (zab (eVar 1) aNil))) aNil)) aNil)))
def zhi:GF:=fnD 2 zmg
noncomputable def zil:SF:=(sSeq (sSet 2 (eC (.str "abcdefghijklmnopqrstuvwxyz")))
  (sSeq (sSet 3 (eOp ixD (eTup (zab (eC (.int 1)) (zab (eC (.int 3)) (zab (eC (.int 5)) (zab (eC (.int 7)) (zab (eC (.int 9)) (zab (eC (.int 11)) (zab (eC (.int 15)) (zab (eC (.int 17)) aNil))))))))) (eOp modD (eOp zcy (eVar 1) (eC (.int 3))) (eC (.int 8)))))
  (sSeq (sSet 4 (eOp modD (eOp zcy (eVar 1) (eC (.int 24))) (eC (.int 26))))
  (sSeq (sSet 5 (eOp mulD (eIxV 2 (eOp modD (eOp zcy (eVar 1) (eC (.int 624))) (eC (.int 26)))) (eOp modD (eOp zcy (eVar 1) (eC (.int 16224))) (eC (.int 8)))))
  (sSeq (sSet 6 (eOp modD (eOp zcy (eVar 1) (eC (.int 129792))) (eOp addD (eCB lenD (zab (eVar 5) aNil)) (eC (.int 1)))))
  (sSeq (sSet 7 (eLst aNil))
  (sSeq (sFor (zho (zab (eVar 0) aNil)) (gN 8)
  (sSeq (sSet 9 (eIxV 2 (eOp modD (eOp addD (eVar 4) (eOp mulD (eVar 3) (eVar 8))) (eC (.int 26)))))
  (sIf (zbg (eOp eqD (eOp modD (eVar 1) (eC (.int 3))) (eC (.int 0)))) (sApp 7 (eOp addD (eOp addD (eSl (eVar 5) zcm (zbl (eVar 6))) (eVar 9)) (eSl (eVar 5) (zbl (eVar 6)) zcm))) (sIf (zbg (eOp eqD (eOp modD (eVar 1) (eC (.int 3))) (eC (.int 1)))) (sApp 7 (eOp addD (eSl (eVar 5) zcm (zbl (eOp modD (eOp mulD (eVar 8) (eVar 3)) (eOp addD (eCB lenD (zab (eVar 5) aNil)) (eC (.int 1)))))) (eVar 9))) (sApp 7 (eOp mulD (eIxV 2 (eOp modD (eOp addD (eVar 4) (eOp zcy (eVar 8) (eC (.int 8)))) (eC (.int 26)))) (eOp addD (eC (.int 1)) (eOp modD (eOp mulD (eVar 8) (eVar 3)) (eC (.int 8))))))))))
  (sSeq (sIf (zbg (eOp eqD (eOp modD (eOp zcy (eVar 1) (eC (.int 1038336))) (eC (.int 6))) (eC (.int 5)))) (sSeq (sSet 10 (eLst (zab (eC (.str "none")) (zab (eC (.str "rule")) (zab (eC (.str "quarrel")) (zab (eC (.str "near")) (zab (eC (.str "far")) (zab (eC (.str "out")) aNil))))))))
  (sSeq (sSet 11 (eOp modD (eOp zcy (eVar 1) (eC (.int 6230016))) (eC (.int 6))))
  (sSet 7 (eSl (eOp addD (eOp addD (eSl (eVar 10) (zbl (eVar 11)) zcm) (eSl (eVar 10) zcm (zbl (eVar 11)))) (eSl (eVar 7) (zbl (eC (.int 6))) zcm)) zcm (zbl (eVar 0)))))) sNil)
  (zsp 7)))))))))
def zdj:GF:=fnD 12 zil
noncomputable def ztr:SF:=(sSeq (sSet 3 (eLst aNil))
  (sSeq (sSet 4 (eVar 0))
  (sSeq (sSet 5 (eCB lenD (zab (eVar 1) aNil)))
  (sSeq (sFor (zho (zab (eVar 2) aNil)) (gN 6)
  (sSeq (sSet 7 (eOp modD (eVar 4) (eVar 5)))
  (sSeq (sSet 4 (eOp zcy (eVar 4) (eVar 5)))
  (sSeq (sIf (zbg (eOp eqD (eOp modD (eVar 4) (eC (.int 4))) (eC (.int 2)))) (sApp 3 (eTup (zab (eIxV 1 (eOp subD (eOp subD (eVar 5) (eC (.int 1))) (eVar 7))) aNil))) (sIf (zol (zbg (eOp eqD (eOp modD (eVar 4) (eC (.int 4))) (eC (.int 3)))) (zbg (eOp gtD (eVar 5) (eC (.int 1))))) (sSeq (sSet 8 (eOp modD (eOp addD (eOp addD (eVar 7) (eC (.int 1))) (eOp modD (eOp zcy (eVar 4) (eC (.int 4))) (eOp subD (eVar 5) (eC (.int 1))))) (eVar 5)))
  (sSeq (sSet 9 (zdt ["_law_name"] [1,7,8] (zas (eSl (eVar 1) (zbl (eOp subD (eVar 5) (eOp modD (eVar 4) (eC (.int 3))))) zcm)) (gN 0) (zbg (eOp (inD true) (eVar 0) (eTup (zab (eIxV 1 (eVar 2)) (zab (eIxV 1 (eVar 3)) aNil))))) (eVar 0)))
  (sApp 3 (eCB zfb (zab (eOp addD (eLst (zab (eIxV 1 (eVar 7)) (zab (eIxV 1 (eVar 8)) aNil))) (eVar 9)) aNil))))) (sApp 3 (eIxV 1 (eOp subD (eOp subD (eVar 5) (eC (.int 1))) (eVar 7))))))
  (sSet 4 (eOp zcy (eVar 4) (eOp mulD (eC (.int 4)) (eVar 5))))))))
  (sRet (eCB zfb (zab (eVar 3) aNil)))))))
def zge:GF:=fnD 10 ztr
noncomputable def zrj:SF:=(sSeq (sSet 5 (eLst aNil))
  (sSeq (sFor (ztj (zab (eVar 4) aNil)) (gT 2 (zar 6 (zar 7 zdc)))
  (sSeq (sSet 8 (eOp zcy (eIxV 0 (eVar 6)) (eC (.int 4))))
  (sSeq (sSet 9 (eLst aNil))
  (sSeq (sFor (zas (eVar 3)) (gN 10)
  (sSeq (sSet 11 (eVar 1))
  (sSeq (sIf (zbg (eOp gtD (eOp modD (eIxV 0 (eVar 6)) (eC (.int 4))) (eC (.int 0)))) (sSet 11 (zdt ["_law_name"] [2,10] (zas (eVar 1)) (gN 0) (tTru (eCB (anyD fun bs=>bs.any id) (zab (zdt ["_law_one"] [0,1] (zas (zbb 1 zbf (zab (eVar 2) aNil))) (gN 0) zcv (eOp (inD false) (eVar 1) (zdz 2 (eVar 0)))) aNil))) (eVar 0))) sNil)
  (sSeq (sApp 9 (eIxV 11 (eOp modD (eVar 8) (eCB lenD (zab (eVar 11) aNil)))))
  (sSet 8 (eOp zcy (eVar 8) (eCB lenD (zab (eVar 11) aNil))))))))
  (sIf (zbg (eOp (inS true) (eCB zfb (zab (eVar 9) aNil)) (zdt ["_law_one", "_law_row"] [] (zas (eVar 5)) (gT 2 (zar 0 (zar 1 zdc))) zcv (eVar 1)))) (sApp 5 (eTup (zab (eVar 7) (zab (eCB zfb (zab (eVar 9) aNil)) aNil)))) sNil)))))
  (zsp 5)))
def zim:GF:=fnD 12 zrj
noncomputable def zts:SF:=(sSeq (sFor (zxm (zab (eVar 1) aNil)) (gT 2 (zar 3 (zar 4 zdc)))
  (sIf (zkp (tTru (eCB (anyD fun bs=>bs.any id) (zab (zdt ["_law_name"] [0,4] (zas (zbb 1 zbf (zab (eIxV 2 (eVar 3)) aNil))) (gN 0) zcv (eOp (inD false) (eVar 2) (zdz 1 (eVar 0)))) aNil)))) (sRet (eC (.bool false))) sNil))
  (sRet (eC (.bool true))))
def zcb:GF:=fnD 5 zts
def zfz:SFX:=(xSeq (xOf (sSet 2 (zbb 1 zlw (zab (eVar 0) aNil))))
  (xFor (zas (eVar 1)) (gN 3)
  (xIf (zbg (eOp (inD true) (eVar 3) (eVar 2))) (zkw "NoKind" (eVar 3)) (xOf sNil))))
def zga:GFX:=fnX 4 zfz
def zns:SFX:=(xSeq (xIf (zbg (eOp neD (eCB lenD (zab (eVar 2) aNil)) (eVar 1))) (zkw "NoCall" (eC .none)) (xOf sNil))
  (zaah 2 zga (zab (eVar 0) (zab (zbb 1 zfj (zab (eVar 2) aNil)) aNil))))
def zhx:GFX:=fnX 3 zns
noncomputable def zji:SFX:=(xSeq (xOf (sAsg (eVar 0) (gT 3 (zar 2 (zar 3 (zar 4 zdc))))))
  (xSeq (zaah 3 zhx (zab (eVar 2) (zab (eVar 3) (zab (eVar 1) aNil))))
  (xSeq (xOf (sSet 5 (zbb 2 zfk (zab (zbb 1 zgt (zab (eVar 2) aNil)) (zab (eVar 1) aNil)))))
  (xOf (sRet (zdt ["rule"] [5] (zas (eVar 4)) (gN 0) (tTru (zbb 2 zhl (zab (eIxV 0 (eC (.int 1))) (zab (eVar 1) aNil)))) (eVar 0)))))))
def zee:GFX:=fnX 6 zji
noncomputable def zya:SFX:=(xSeq (xOf (sAsg (eVar 0) (gT 3 (zar 3 (zar 4 (zar 5 zdc))))))
  (xSeq (xIf (zbg (eOp (inD true) (eVar 2) (zbb 1 zem (zab (eVar 5) aNil)))) (zkw "NoRule" (eVar 2)) (xOf sNil))
  (xSeq (zaed 6 2 zee (zab (eVar 0) (zab (eVar 1) aNil)))
  (xSeq (xIf (zbg (eOp (inD true) (eVar 2) (zbb 1 zem (zab (eVar 6) aNil)))) (zkw "NoFit" (eVar 2)) (xOf sNil))
  (xSeq (xOf (sSet 7 (zaga (eCB zxd (zab (eVar 6) aNil)) (eVar 2))))
  (xSeq (xOf (sSet 8 (zbb 1 zgt (zab (eVar 3) aNil))))
  (xOf (sRet (zbb 2 zhi (zab (eVar 8) (zab (zdt ["rule"] [7,8] (zas (eVar 6)) (gN 0) (tTru (zbb 3 zfl (zab (eVar 2) (zab (eVar 1) (zab (eIxV 0 (eC (.int 1))) aNil))))) (eVar 0)) aNil)))))))))))
def zef:GFX:=fnX 9 zya
noncomputable def znt:SF:=(sSeq (sSet 4 (eLst aNil))
  (sSeq (sFor (zas (eVar 1)) (gT 2 (zar 5 (zar 6 zdc)))
  (sIf (zol (tTru (zbb 3 zcb (zab (eVar 0) (zab (eVar 6) (zab (eVar 2) aNil))))) (zol (zbg (eOp neD (eVar 6) (eVar 3))) (tTru (zbb 3 zcb (zab (eVar 0) (zab (eVar 6) (zab (eVar 3) aNil))))))) (sApp 4 (eTup (zab (eVar 5) (zab (eVar 6) aNil)))) sNil))
  (sSeq (sSet 7 (eLst aNil))
  (sSeq (sFor (zas (eVar 4)) (gT 2 (zar 5 (zar 6 zdc)))
  (sIf (zkp (tTru (eCB (anyD fun bs=>bs.any id) (zab (zdt ["_law_one", "_law_other"] [0,6] (zas (eVar 4)) (gT 2 (zar 0 (zar 1 zdc))) zcv (eAnd (eOp neD (eVar 1) (eVar 3)) (zbb 3 zcb (zab (eVar 2) (zab (eVar 3) (zab (eVar 1) aNil)))))) aNil)))) (sApp 7 (eVar 5)) sNil))
  (sSeq (sIf (zbg (eOp eqD (eCB lenD (zab (eVar 7) aNil)) (eC (.int 0)))) (sRet (eTup (zab (eC (.str "none")) aNil))) sNil)
  (sSeq (sIf (zbg (eOp eqD (eCB lenD (zab (eVar 7) aNil)) (eC (.int 1)))) (sRet (eTup (zab (eC (.str "rule")) (zab (eIxV 7 (eC (.int 0))) aNil)))) sNil)
  (sRet (eTup (zab (eC (.str "quarrel")) (zab (eCB zfb (zab (eVar 7) aNil)) aNil))))))))))
def zfn:GF:=fnD 8 znt
noncomputable def zmh:SF:=(sSeq (sSet 4 (eTup (zab (eC (.str "refused")) (zab (eC (.str "by none")) aNil))))
  (sSeq (fun env=>if env.length=5 then zahs ["NoCall", "NoFit", "NoKind", "NoRule"] 4 3 "told" 3 zef (zab (eVar 0) (zab (eVar 1) (zab (eVar 2) aNil))) (fun xc xd=>(sSeq (sSet 4 (eTup (zab (eC (.bool (decide (xc = "NoRule")))) (zab (eC (.bool (decide (xc = "NoCall")))) (zab (eC (.bool (decide (xc = "NoKind")))) (zab (eC (.bool (decide (xc = "NoFit")))) (zab (eC xd) aNil))))))) (sSet 4 (eOp addD (eVar 4) (eTup (zab (eC (.bool true)) aNil)))))) env else none)
  (zsp 4)))
def zbe:GF:=fnD 5 zmh
noncomputable def zrk:SF:=(sSeq (sFor (zas (eIxV 0 (eC (.int 2)))) (gT 2 (zar 3 (zar 4 zdc)))
  (sSeq (sSet 5 (eTup (zab (eC (.bool false)) (zab (eC (.bool false)) (zab (eC (.bool false)) (zab (eC (.bool true)) (zab (eVar 3) (zab (eC (.bool true)) aNil))))))))
  (sSeq (sIf (tTru (zbb 3 zcb (zab (eVar 1) (zab (eVar 4) (zab (eVar 2) aNil))))) (sSet 5 (eTup (zab (eC (.str "told")) (zab (zbb 4 zfn (zab (eVar 1) (zab (eIxV 0 (eC (.int 2))) (zab (eVar 2) (zab (eVar 4) aNil))))) aNil)))) sNil)
  (sIf (tOrF (zbg (eOp neD (zbb 3 zbe (zab (eVar 0) (zab (eVar 2) (zab (eVar 3) aNil)))) (eVar 5))) (zbg (eOp neD (zbb 3 zbe (zab (eVar 0) (zab (eVar 2) (zab (eVar 3) aNil)))) (eVar 5)))) (sRet (eC (.bool false))) sNil))))
  (sRet (eC (.bool true))))
def zcu:GF:=fnD 6 zrk
noncomputable def znu:SF:=(sSeq (sSet 5 (eOp modD (eIxV 4 (eC (.int 0))) (eCB lenD (zab (eVar 1) aNil))))
  (sSeq (sSet 6 (eOp addD (eOp addE (eSlT (eVar 1) zcm (zbl (eVar 5))) (eTup (zab (eIxV 3 (eC (.int 0))) aNil))) (eSlT (eVar 1) (zbl (eOp addD (eVar 5) (eC (.int 1)))) zcm)))
  (sSeq (sIf (zbg (eOp eqD (eOp modD (eIxV 4 (eC (.int 1))) (eC (.int 2))) (eC (.int 1)))) (sSet 6 (eOp addD (eOp addE (eSlT (eVar 1) zcm (zbl (eVar 5))) (eTup (zab (eCB zfb (zab (eOp addD (zbb 1 zbf (zab (eIxV 1 (eVar 5)) aNil)) (eVar 3)) aNil)) aNil))) (eSlT (eVar 1) (zbl (eOp addD (eVar 5) (eC (.int 1)))) zcm))) sNil)
  (sSeq (sFor (zas (eLst (zab (eVar 1) (zab (eVar 6) (zab (eSlT (eVar 1) (zbl (eC (.int 1))) zcm) (zab (eOp addD (eVar 6) (eTup (zab (eIxV 3 (eC (.int 1))) aNil))) aNil)))))) (gN 7)
  (sIf (zbg (eOp neD (zbb 3 zbe (zab (eVar 0) (zab (eVar 7) (zab (eVar 2) aNil)))) (eTup (zab (eC (.bool true)) (zab (eC (.bool false)) (zab (eC (.bool false)) (zab (eC (.bool false)) (zab (eVar 2) (zab (eC (.bool true)) aNil))))))))) (sRet (eC (.bool false))) sNil))
  (sSeq (sFor (zas (eIxV 0 (eC (.int 2)))) (gT 2 (zar 8 (zar 9 zdc)))
  (sSeq (sIf (zbg (eOp neD (zbb 3 zbe (zab (eVar 0) (zab (eVar 6) (zab (eVar 8) aNil)))) (eTup (zab (eC (.bool false)) (zab (eC (.bool false)) (zab (eC (.bool true)) (zab (eC (.bool false)) (zab (eIxV 3 (eC (.int 0))) (zab (eC (.bool true)) aNil))))))))) (sRet (eC (.bool false))) sNil)
  (sFor (zas (eLst (zab (eSlT (eVar 1) (zbl (eC (.int 1))) zcm) (zab (eOp addD (eVar 6) (eTup (zab (eIxV 3 (eC (.int 1))) aNil))) aNil)))) (gN 7)
  (sIf (zbg (eOp neD (zbb 3 zbe (zab (eVar 0) (zab (eVar 7) (zab (eVar 8) aNil)))) (eTup (zab (eC (.bool false)) (zab (eC (.bool true)) (zab (eC (.bool false)) (zab (eC (.bool false)) (zab (eC .none) (zab (eC (.bool true)) aNil))))))))) (sRet (eC (.bool false))) sNil))))
  (sRet (eC (.bool true))))))))
def zep:GF:=fnD 10 znu
theorem zact:bootBuiltins "all" = some (.builtin "all"):=by decide +kernel
theorem zqb:bootBuiltins "any" = some (.builtin "any"):=by decide +kernel
theorem zaij:bootBuiltins "dict" = some (.type "dict"):=by decide +kernel
theorem zdk:bootBuiltins "isinstance" = some (.builtin "isinstance"):=by decide +kernel
theorem zfo:bootBuiltins "len" = some (.builtin "len"):=by decide +kernel
theorem znv:bootBuiltins "list" = some (.type "list"):=by decide +kernel
theorem zalz:bootBuiltins "min" = some (.builtin "min"):=by decide +kernel
theorem zes:bootBuiltins "tuple" = some (.type "tuple"):=by decide +kernel
theorem zatx:bootBuiltins "zip" = some (.type "zip"):=by decide +kernel
def top (i:Nat):Stmt:=PySem.Challenge.pw_bestcalls_k19_onward.main.body.getD i (.Pass ⟨0,0,0,0⟩)
structure Txt (mg:Str→Option Value):Prop where
 all:mg "all" = none
 any:mg "any" = none
 dict:mg "dict" = none
 enumerate:mg "enumerate" = none
 isinstance:mg "isinstance" = none
 len:mg "len" = none
 list:mg "list" = none
 min:mg "min" = none
 range:mg "range" = none
 tuple:mg "tuple" = none
 zip:mg "zip" = none
abbrev zhz:Stmt:=top 7
abbrev ztt:List Str:=["web"]
theorem zaap:ztt.Nodup:=by decide +kernel
theorem zaaq:FnScope ztt ["web"] (zam zhz):=⟨rfl,rfl,rfl,zaap,rfl,by decide +kernel,by decide +kernel⟩
abbrev zia:Stmt:=top 8
abbrev ztu:List Str:=["arm"]
theorem zaar:ztu.Nodup:=by decide +kernel
theorem zaas:FnScope ztu ["arm"] (zam zia):=⟨rfl,rfl,rfl,zaar,rfl,by decide +kernel,by decide +kernel⟩
abbrev zfp:Stmt:=top 9
abbrev znw:List Str:=["web", "names", "known", "name"]
theorem zjg:znw.Nodup:=by decide +kernel
theorem zsu:FnScope znw ["web", "names"] (zam zfp):=⟨rfl,rfl,rfl,zjg,rfl,by decide +kernel,by decide +kernel⟩
abbrev zib:Stmt:=top 10
abbrev ztv:List Str:=["web", "roofs", "name", "elders", "roof", "elder"]
theorem zgv:ztv.Nodup:=by decide +kernel
theorem zaat:FnScope ztv ["web"] (zam zib):=⟨rfl,rfl,rfl,zgv,rfl,by decide +kernel,by decide +kernel⟩
abbrev zjj:Stmt:=top 11
abbrev zyb:List Str:=["roofs", "arm", "roof", "name"]
theorem zos:zyb.Nodup:=by decide +kernel
theorem zaef:FnScope zyb ["roofs", "arm"] (zam zjj):=⟨rfl,rfl,rfl,zos,rfl,by decide +kernel,by decide +kernel⟩
abbrev zeg:Stmt:=top 13
abbrev zlf:List Str:=["call"]
theorem zpp:zlf.Nodup:=by decide +kernel
theorem zpq:FnScope zlf ["call"] (zam zeg):=⟨rfl,rfl,rfl,zpp,rfl,by decide +kernel,by decide +kernel⟩
abbrev zgf:Stmt:=top 14
abbrev zph:List Str:=["web", "places", "call"]
theorem zvk:zph.Nodup:=by decide +kernel
theorem zvl:FnScope zph ["web", "places", "call"] (zam zgf):=⟨rfl,rfl,rfl,zvk,rfl,by decide +kernel,by decide +kernel⟩
abbrev zeh:Stmt:=top 15
abbrev zlg:List Str:=["roofs", "call"]
theorem zpr:zlg.Nodup:=by decide +kernel
theorem zps:FnScope zlg ["roofs", "call"] (zam zeh):=⟨rfl,rfl,rfl,zpr,rfl,by decide +kernel,by decide +kernel⟩
abbrev zgg:Stmt:=top 16
abbrev zpi:List Str:=["kinds", "call_roofs"]
theorem zvm:zpi.Nodup:=by decide +kernel
theorem zvn:FnScope zpi ["kinds", "call_roofs"] (zam zgg):=⟨rfl,rfl,rfl,zvm,rfl,by decide +kernel,by decide +kernel⟩
abbrev zgw:Stmt:=top 17
abbrev zrl:List Str:=["roofs", "one", "other"]
theorem zyc:zrl.Nodup:=by decide +kernel
theorem zyd:FnScope zrl ["roofs", "one", "other"] (zam zgw):=⟨rfl,rfl,rfl,zyc,rfl,by decide +kernel,by decide +kernel⟩
abbrev zds:Stmt:=top 19
abbrev zkc:List Str:=["book", "call", "web", "places", "rules", "call_roofs"]
theorem zei:zkc.Nodup:=by decide +kernel
theorem zot:FnScope zkc ["book", "call"] (zam zds):=⟨rfl,rfl,rfl,zei,rfl,by decide +kernel,by decide +kernel⟩
abbrev zgh:Stmt:=top 20
abbrev zpj:List Str:=["roofs", "rules"]
theorem zvo:zpj.Nodup:=by decide +kernel
theorem zvp:FnScope zpj ["roofs", "rules"] (zam zgh):=⟨rfl,rfl,rfl,zvo,rfl,by decide +kernel,by decide +kernel⟩
abbrev zgi:Stmt:=top 21
abbrev zpk:List Str:=["rules"]
theorem zvq:zpk.Nodup:=by decide +kernel
theorem zvr:FnScope zpk ["rules"] (zam zgi):=⟨rfl,rfl,rfl,zvq,rfl,by decide +kernel,by decide +kernel⟩
abbrev zgx:Stmt:=top 22
abbrev zrm:List Str:=["names"]
theorem zye:zrm.Nodup:=by decide +kernel
theorem zyf:FnScope zrm ["names"] (zam zgx):=⟨rfl,rfl,rfl,zye,rfl,by decide +kernel,by decide +kernel⟩
abbrev zet:Stmt:=top 23
abbrev zmi:List Str:=["roofs", "rules"]
theorem zrn:zmi.Nodup:=by decide +kernel
theorem zro:FnScope zmi ["roofs", "rules"] (zam zet):=⟨rfl,rfl,rfl,zrn,rfl,by decide +kernel,by decide +kernel⟩
abbrev zlz:Stmt:=top 25
abbrev zacu:List Str:=["book", "call", "name", "web", "places", "rules", "fit", "own", "roofs"]
theorem zin:zacu.Nodup:=by decide +kernel
theorem zaik:FnScope zacu ["book", "call", "name"] (zam zlz):=⟨rfl,rfl,rfl,zin,rfl,by decide +kernel,by decide +kernel⟩
abbrev zgy:Stmt:=top 27
abbrev zrp:List Str:=["_law_script", "_law_many", "_law_seed", "_law_cell", "_law_found", "_law_k"]
theorem zgj:zrp.Nodup:=by decide +kernel
theorem zyg:FnScope zrp ["_law_script", "_law_many"] (zam zgy):=⟨rfl,rfl,rfl,zgj,rfl,by decide +kernel,by decide +kernel⟩
abbrev zgz:Stmt:=top 28
abbrev zrq:List Str:=["_law_many", "_law_cell", "_law_letters", "_law_step", "_law_origin", "_law_stem", "_law_at", "_law_names_here", "_law_k", "_law_sign", "_law_own", "_law_turn"]
theorem zci:zrq.Nodup:=by decide +kernel
theorem zyh:FnScope zrq ["_law_many", "_law_cell"] (zam zgz):=⟨rfl,rfl,rfl,zci,rfl,by decide +kernel,by decide +kernel⟩
abbrev zjk:Stmt:=top 29
abbrev zyi:List Str:=["_law_cells", "_law_names_here", "_law_web_here", "_law_k", "_law_name", "_law_left", "_law_rest", "_law_elders", "_law_turn", "_law_at"]
theorem zeu:zyi.Nodup:=by decide +kernel
theorem zaeg:FnScope zyi ["_law_cells", "_law_names_here"] (zam zjk):=⟨rfl,rfl,rfl,zeu,rfl,by decide +kernel,by decide +kernel⟩
abbrev zma:Stmt:=top 30
abbrev zacv:List Str:=["_law_web_here", "_law_up_here", "_law_name", "_law_elders", "_law_own", "_law_elder", "_law_one"]
theorem zio:zacv.Nodup:=by decide +kernel
theorem zail:FnScope zacv ["_law_web_here"] (zam zma):=⟨rfl,rfl,rfl,zio,rfl,by decide +kernel,by decide +kernel⟩
abbrev zha:Stmt:=top 31
abbrev zrr:List Str:=["_law_arm"]
theorem zyj:zrr.Nodup:=by decide +kernel
theorem zyk:FnScope zrr ["_law_arm"] (zam zha):=⟨rfl,rfl,rfl,zyj,rfl,by decide +kernel,by decide +kernel⟩
abbrev zic:Stmt:=top 32
abbrev ztw:List Str:=["_law_cell", "_law_names_here", "_law_places", "_law_call_here", "_law_rest", "_law_many", "_law_place", "_law_at", "_law_by", "_law_more"]
theorem zdw:ztw.Nodup:=by decide +kernel
theorem zaau:FnScope ztw ["_law_cell", "_law_names_here", "_law_places"] (zam zic):=⟨rfl,rfl,rfl,zdw,rfl,by decide +kernel,by decide +kernel⟩
abbrev zhb:Stmt:=top 33
abbrev zrs:List Str:=["_law_cells", "_law_names_here", "_law_up_here", "_law_call_here", "_law_titles", "_law_rules_here", "_law_k", "_law_title", "_law_rest", "_law_kinds", "_law_arm", "_law_pool"]
theorem zda:zrs.Nodup:=by decide +kernel
theorem zyl:FnScope zrs ["_law_cells", "_law_names_here", "_law_up_here", "_law_call_here", "_law_titles"] (zam zhb):=⟨rfl,rfl,rfl,zda,rfl,by decide +kernel,by decide +kernel⟩
abbrev zid:Stmt:=top 34
abbrev ztx:List Str:=["_law_up_here", "_law_kinds", "_law_call_here", "_law_k", "_law_kind"]
theorem zmx:ztx.Nodup:=by decide +kernel
theorem zaav:FnScope ztx ["_law_up_here", "_law_kinds", "_law_call_here"] (zam zid):=⟨rfl,rfl,rfl,zmx,rfl,by decide +kernel,by decide +kernel⟩
abbrev zjl:Stmt:=top 35
abbrev zym:List Str:=["_law_up_here", "_law_rules_here", "_law_call_here", "_law_own", "_law_fit", "_law_name", "_law_kinds", "_law_near"]
theorem zhc:zym.Nodup:=by decide +kernel
theorem zaeh:FnScope zym ["_law_up_here", "_law_rules_here", "_law_call_here", "_law_own"] (zam zjl):=⟨rfl,rfl,rfl,zhc,rfl,by decide +kernel,by decide +kernel⟩
abbrev zie:Stmt:=top 36
abbrev zty:List Str:=["_law_book", "_law_call_here", "_law_name", "e", "_law_told_here"]
theorem ziq:zty.Nodup:=by decide +kernel
theorem zaaw:FnScope zty ["_law_book", "_law_call_here", "_law_name"] (zam zie):=⟨rfl,rfl,rfl,ziq,rfl,by decide +kernel,by decide +kernel⟩
abbrev zhd:Stmt:=top 37
abbrev zrt:List Str:=["_law_book", "_law_up_here", "_law_call_here", "_law_name", "_law_kinds", "_law_due_here"]
theorem zhm:zrt.Nodup:=by decide +kernel
theorem zyn:FnScope zrt ["_law_book", "_law_up_here", "_law_call_here"] (zam zhd):=⟨rfl,rfl,rfl,zhm,rfl,by decide +kernel,by decide +kernel⟩
abbrev zfq:Stmt:=top 38
abbrev znx:List Str:=["_law_book", "_law_call_here", "_law_title", "_law_odd", "_law_cells", "_law_at", "_law_worse", "_law_bad", "_law_name", "_law_kinds"]
theorem zdb:znx.Nodup:=by decide +kernel
theorem zsv:FnScope znx ["_law_book", "_law_call_here", "_law_title", "_law_odd", "_law_cells"] (zam zfq):=⟨rfl,rfl,rfl,zdb,rfl,by decide +kernel,by decide +kernel⟩
abbrev zvs:Stmt:=top 39
abbrev zatj:List Str:=["_law_script", "_law_cells", "_law_places", "_law_names_here", "_law_stand", "_law_web_here", "_law_up_here", "_law_calls", "_law_titles", "_law_rules_here", "_law_book", "_law_call_here", "_law_own"]
theorem zjm:zatj.Nodup:=by decide +kernel
theorem zatk:FnScope zatj ["_law_script"] (zam zvs):=⟨rfl,rfl,rfl,zjm,rfl,by decide +kernel,by decide +kernel⟩
theorem zmj:(["name", "elders"]:List Str).Nodup:=by decide +kernel
theorem zir:(["arm", "name"]:List Str).Nodup:=by decide +kernel
theorem zmy:(["arm", "roofs"]:List Str).Nodup:=by decide +kernel
theorem zkd:(["kind", "roof"]:List Str).Nodup:=by decide +kernel
theorem zlh:(["low", "high", "roofs"]:List Str).Nodup:=by decide +kernel
theorem zme:(["rule", "call_roofs"]:List Str).Nodup:=by decide +kernel
theorem zpt:(["rule", "roofs", "rules"]:List Str).Nodup:=by decide +kernel
theorem zke:(["name", "kinds", "rule", "roofs"]:List Str).Nodup:=by decide +kernel
theorem zkf:(["name", "kinds"]:List Str).Nodup:=by decide +kernel
theorem zyo:(["rule", "own", "roofs"]:List Str).Nodup:=by decide +kernel
theorem zsw:(["_law_name", "_law_names_here", "_law_at", "_law_by"]:List Str).Nodup:=by decide +kernel
theorem zru:(["_law_name", "_law_up_here", "_law_arm"]:List Str).Nodup:=by decide +kernel
theorem zrv:(["_law_one", "_law_name", "_law_up_here"]:List Str).Nodup:=by decide +kernel
theorem zli:(["_law_one", "_law_row"]:List Str).Nodup:=by decide +kernel
theorem zsx:(["_law_name", "_law_up_here", "_law_kind"]:List Str).Nodup:=by decide +kernel
theorem zny:(["_law_one", "_law_other", "_law_up_here", "_law_kinds"]:List Str).Nodup:=by decide +kernel
theorem zaim:(["_law_cell", "_law_places", "_law_stand"]:List Str).Nodup:=by decide +kernel
theorem zyp:(["_law_name", "_law_elders"]:List Str).Nodup:=by decide +kernel
theorem zain:(["_law_arm"]:List Str).Nodup:=by decide +kernel
theorem zyq:(["_law_name", "_law_kinds"]:List Str).Nodup:=by decide +kernel
abbrev ztz (P:Program) (w:World) (K:qB) (mg:Str→Option Value) (base:Heap):Prop:=Dn P w K mg base "names_of" ["web"] 1 (spD 1 zlw)
abbrev zou (P:Program) (w:World) (K:qB) (mg:Str→Option Value) (base:Heap):Prop:=Dn P w K mg base "names_in" ["arm"] 1 (spD 1 zbf)
abbrev znz (P:Program) (w:World) (K:qB) (mg:Str→Option Value) (base:Heap) (cl:Str→Addr):Prop:=DnX P w K mg base "check_kinds" ["web", "names"] 3 (spX cl 2 zga)
abbrev zov (P:Program) (w:World) (K:qB) (mg:Str→Option Value) (base:Heap):Prop:=Dn P w K mg base "roofs_of" ["web"] 1 (spD 1 zgt)
abbrev zyr (P:Program) (w:World) (K:qB) (mg:Str→Option Value) (base:Heap):Prop:=Dn P w K mg base "roof_of" ["roofs", "arm"] 2 (spD 2 zlc)
abbrev zlj (P:Program) (w:World) (K:qB) (mg:Str→Option Value) (base:Heap):Prop:=Dn P w K mg base "names_in_call" ["call"] 2 (spD 1 zfj)
abbrev zpl (P:Program) (w:World) (K:qB) (mg:Str→Option Value) (base:Heap) (cl:Str→Addr):Prop:=DnX P w K mg base "check_call" ["web", "places", "call"] 4 (spX cl 3 zhx)
abbrev zlk (P:Program) (w:World) (K:qB) (mg:Str→Option Value) (base:Heap):Prop:=Dn P w K mg base "roofs_in_call" ["roofs", "call"] 3 (spD 2 zfk)
abbrev zpm (P:Program) (w:World) (K:qB) (mg:Str→Option Value) (base:Heap):Prop:=Dn P w K mg base "fits_under" ["kinds", "call_roofs"] 1 (spD 2 zhl)
abbrev zmz (P:Program) (w:World) (K:qB) (mg:Str→Option Value) (base:Heap):Prop:=Dn P w K mg base "is_nearer" ["roofs", "one", "other"] 1 (spD 3 zfl)
abbrev zkg (P:Program) (w:World) (K:qB) (mg:Str→Option Value) (base:Heap) (cl:Str→Addr):Prop:=DnX P w K mg base "rules_that_fit" ["book", "call"] 5 (spX cl 2 zee)
abbrev zpn (P:Program) (w:World) (K:qB) (mg:Str→Option Value) (base:Heap):Prop:=Dn P w K mg base "nearest_of" ["roofs", "rules"] 2 (spD 2 zjc)
abbrev zll (P:Program) (w:World) (K:qB) (mg:Str→Option Value) (base:Heap):Prop:=Dn P w K mg base "rule_names" ["rules"] 1 (spD 1 zem)
abbrev zrw (P:Program) (w:World) (K:qB) (mg:Str→Option Value) (base:Heap):Prop:=Dn P w K mg base "answer_by" ["names"] 1 (spD 1 zjv)
abbrev zmk (P:Program) (w:World) (K:qB) (mg:Str→Option Value) (base:Heap):Prop:=Dn P w K mg base "answer_among" ["roofs", "rules"] 3 (spD 2 zhi)
abbrev zacw (P:Program) (w:World) (K:qB) (mg:Str→Option Value) (base:Heap) (cl:Str→Addr):Prop:=DnX P w K mg base "onward" ["book", "call", "name"] 6 (spX cl 3 zef)
abbrev zrx (P:Program) (w:World) (K:qB) (mg:Str→Option Value) (base:Heap):Prop:=Dn P w K mg base "_law_names" ["_law_many", "_law_cell"] 1 (spD 2 zdj)
abbrev zys (P:Program) (w:World) (K:qB) (mg:Str→Option Value) (base:Heap):Prop:=Dn P w K mg base "_law_web" ["_law_cells", "_law_names_here"] 1 (spD 2 zky)
abbrev zacx (P:Program) (w:World) (K:qB) (mg:Str→Option Value) (base:Heap):Prop:=Dn P w K mg base "_law_up" ["_law_web_here"] 1 (spD 1 zno)
abbrev zis (P:Program) (w:World) (K:qB) (mg:Str→Option Value) (base:Heap):Prop:=Dn P w K mg base "_law_parts" ["_law_arm"] 1 (spD 1 zbf)
abbrev zua (P:Program) (w:World) (K:qB) (mg:Str→Option Value) (base:Heap):Prop:=Dn P w K mg base "_law_call" ["_law_cell", "_law_names_here", "_law_places"] 1 (spD 3 zge)
abbrev zry (P:Program) (w:World) (K:qB) (mg:Str→Option Value) (base:Heap):Prop:=Dn P w K mg base "_law_rules" ["_law_cells", "_law_names_here", "_law_up_here", "_law_call_here", "_law_titles"] 2 (spD 5 zim)
abbrev zow (P:Program) (w:World) (K:qB) (mg:Str→Option Value) (base:Heap):Prop:=Dn P w K mg base "_law_fits" ["_law_up_here", "_law_kinds", "_law_call_here"] 2 (spD 3 zcb)
abbrev zyt (P:Program) (w:World) (K:qB) (mg:Str→Option Value) (base:Heap):Prop:=Dn P w K mg base "_law_due" ["_law_up_here", "_law_rules_here", "_law_call_here", "_law_own"] 3 (spD 4 zfn)
abbrev zox (P:Program) (w:World) (K:qB) (mg:Str→Option Value) (base:Heap):Prop:=Dn P w K mg base "_law_told" ["_law_book", "_law_call_here", "_law_name"] 7 (spD 3 zbe)
abbrev zrz (P:Program) (w:World) (K:qB) (mg:Str→Option Value) (base:Heap):Prop:=Dn P w K mg base "_law_asked" ["_law_book", "_law_up_here", "_law_call_here"] 8 (spD 3 zcu)
abbrev zoa (P:Program) (w:World) (K:qB) (mg:Str→Option Value) (base:Heap):Prop:=Dn P w K mg base "_law_refused" ["_law_book", "_law_call_here", "_law_title", "_law_odd", "_law_cells"] 8 (spD 5 zep)
section
variable {P:Program} {w:World} {K:qB} {mg:Str→Option Value} {base:Heap}
theorem zaax {f:Addr} {fd:q9} (F:Fun K "names_of" "names_of" zhz f fd) (T:Txt mg)  : FnOk P w K mg base CX0 1 f fd ["web"] (spD 1 zlw):=by
 refine F.ok zaaq (fun vs H Q E h=>zdg h) (fun cdv A outer s H vs Q E hr h=>?_)
 have hu:=zgp hr
 apply Exists.intro
 apply And.intro
 ·refine' Bx.out (zal (zbo (zcw (zce (N':=["name", "elders"]) (own:=["name", "elders"]) (fr:=[]) (by kernel_rfl)) rfl (zbh (K:=K) rfl (bv 0)) ?hb1 (by intro _;rfl))))
  case hb1=>(intro cl C s H fp;refine' ⟨Bx.out (zct (K:=K) (n:=2) rfl rfl (zau (zao (i:=0) zmj rfl (Or.inl rfl) (by first|exact .inl rfl|exact .inr rfl|assumption)) (zau (zao (i:=1) zmj rfl (Or.inl rfl) (by first|exact .inl rfl|exact .inr rfl|assumption)) zcs (by rfl)) (by rfl)) (by rfl) (by rfl)),Bx.out zfv,Bx.out (bv 0)⟩)
 exact fn_d (f:=zjh) ((zde (zeo (zcq (zad 0)) (zgd (zbc (zbc zed))) (zng (zdl (by decide) (zdl (by decide) zjp))) zhp (zad 0)))) h
theorem zaay {f:Addr} {fd:q9} (F:Fun K "names_in" "names_in" zia f fd) (T:Txt mg)  : FnOk P w K mg base CX0 1 f fd ["arm"] (spD 1 zbf):=by
 refine F.ok zaas (fun vs H Q E h=>zdg h) (fun cdv A outer s H vs Q E hr h=>?_)
 have hu:=zgp hr
 apply Exists.intro
 apply And.intro
 ·refine' Bx.out (zai (zdr (zcr (K:=K) rfl (zbm (zww (K:=K) rfl) (by rfl) T.isinstance zdk (zaa (bv 0) (zaa (zvc (v:=.ty "tuple") (by rfl) T.tuple zes rfl (by decide) (by decide)) zah (by rfl)) (by rfl)) (by decide) (by decide) (zag (by rfl)) (by rfl)) (fun _=>rfl)) (zal (zbo (zdd (zlr (K:=K) rfl) (by rfl) T.list znv (zaa (bv 0) zah (by rfl)) (by decide) (by decide) (zag (by rfl)) (by rfl)))) zby)
 (zal (zbo (zgb (zaa (bv 0) zah (by rfl))))))
 exact fn_d (f:=zor) ((zba (zii (zja (zamx (zad 0) zxa)) (zde (zfx zut (zac (zad 0) zan))) zff) (zde (zih (zac (zad 0) zan))))) h
theorem zsy {f:Addr} {fd:q9} {cl:Str→Addr} (F:Fun K "check_kinds" "check_kinds" zfp f fd) (T:Txt mg) (D_names_of:ztz P w K mg base) (X_NoKind:XcOk P w K mg base "NoKind" (cl "NoKind")):FnOk P w K mg base (CXE P w) 3 f fd ["web", "names"] (spX cl 2 zga):=by
 refine zabv F zsu (fun vs H Q E h=>zux h) (fun cdv A outer s H vs Q E hr h0k h=>?_)
 have hu:=zgp hr
 apply Exists.intro
 apply And.intro
 ·refine' Bx.out (zai (zay (i:=2) zjg rfl (Or.inl rfl) (zcd D_names_of (hr.mono (by decide)) (by rfl) (zaa (bv 0) zah (by rfl)) (by decide) (zag (by rfl)) (by rfl)) (by rfl) (.inl rfl))
 (zal (zdv PassesOwn.leaving rfl (zbh (K:=K) rfl (bv 1)) (zao (i:=3) zjg rfl (Or.inl rfl) (.inl rfl))
  (zal (zdr (zbz (zkm (K:=K) rfl) (bv 3) (bv 2) (by rfl)) (zal (znm (C:=cl "NoKind") X_NoKind (hr.mono (by decide)) rfl rfl (zace h0k) (by rfl) (bv 3) (by decide) (by rfl))) zby)) (by intro _;rfl))))
 exact fn_x (f:=zfz) ((zij (zjz (zbk (zbj (zac (zad 0) zan)))) (zapc (zcq (zad 1)) zdf (zabx (st_t (zaz zzy (zad 3) (zad 2))) (znk (zad 3)) (zjz zff))))) h
theorem zaaz {f:Addr} {fd:q9} (F:Fun K "roofs_of" "roofs_of" zib f fd) (T:Txt mg)  : FnOk P w K mg base CX0 1 f fd ["web"] (spD 1 zgt):=by
 refine F.ok zaat (fun vs H Q E h=>zdg h) (fun cdv A outer s H vs Q E hr h=>?_)
 have hu:=zgp hr
 apply Exists.intro
 apply And.intro
 ·refine' Bx.out (zai (zay (i:=1) zgv rfl (Or.inl rfl) zqw (by rfl) (.inl rfl))
 (zai (zdv qr rfl (zbh (K:=K) rfl (bv 0)) (zct (K:=K) (n:=2) rfl rfl (zau (zao (i:=2) zgv rfl (Or.inl rfl) (.inl rfl)) (zau (zao (i:=3) zgv rfl (Or.inl rfl) (.inl rfl)) zcs (by rfl)) (by rfl)) (by rfl) (by rfl))
  (zai (zay (i:=4) zgv rfl (Or.inl rfl) (zalk (zaha (bv 2) zdh zalj) rfl rfl (by simp) (by decide)) (by rfl) (.inl rfl))
 (zai (zdv qr rfl (zbh (K:=K) rfl (bv 3)) (zao (i:=5) zgv rfl (Or.inl rfl) (.inl rfl))
  (zal (zdm (zfh (K:=K) rfl qCd qCY qCX zwu (bv 4) (zaa (zjq hu (bv 1) (bv 5) (fun _ _=>rfl)) zah (by rfl)) (by rfl) (by rfl) (by rfl) (zag (by rfl)) (by rfl)) (by rfl))) (by intro _;rfl))
 (zal (zacc hu (bv 1) (bv 2) (bv 4) rfl)))) (by intro _;rfl))
 (zal (zbo (bv 1)))))
 exact fn_d (f:=ztn) ((zba (zbk zaaa) (zba (zgm (zcq (zad 0)) (zgd (zbc (zbc zed))) (zba (zbk (zaum (zad 2) (se_c fun _=>zap))) (zba (zgm (zcq (zad 3)) zdf (zana (zlu (zad 5)))) (zamz (zad 2) (zad 4))))) zmt))) h
theorem zaei {f:Addr} {fd:q9} (F:Fun K "roof_of" "roof_of" zjj f fd) (T:Txt mg) (D_names_in:zou P w K mg base):FnOk P w K mg base CX0 2 f fd ["roofs", "arm"] (spD 2 zlc):=by
 refine F.ok zaef (fun vs H Q E h=>zdg h) (fun cdv A outer s H vs Q E hr h=>?_)
 have hu:=zgp hr
 apply Exists.intro
 apply And.intro
 ·refine' Bx.out (zai (zay (i:=2) zos rfl (Or.inl rfl) zqw (by rfl) (.inl rfl))
 (zai (zdv qr rfl (zbh (K:=K) rfl (zcd D_names_in (hr.mono (by decide)) (by rfl) (zaa (bv 1) zah (by rfl)) (by decide) (zag (by rfl)) (by rfl))) (zao (i:=3) zos rfl (Or.inl rfl) (.inl rfl))
  (zal (zdm (zfh (K:=K) rfl qCd qCY qCX zwu (bv 2) (zaa (zjq hu (bv 0) (bv 3) (fun _ _=>rfl)) zah (by rfl)) (by rfl) (by rfl) (by rfl) (zag (by rfl)) (by rfl)) (by rfl))) (by intro _;rfl))
 (zal (zbo (bv 2)))))
 exact fn_d (f:=zxz) ((zba (zbk zaaa) (zba (zgm (zcq (zbj (zac (zad 1) zan))) zdf (zana (zlu (zad 3)))) zmt))) h
theorem zpu {f:Addr} {fd:q9} (F:Fun K "names_in_call" "names_in_call" zeg f fd) (T:Txt mg) (D_names_in:zou P w K mg base):FnOk P w K mg base CX0 2 f fd ["call"] (spD 1 zfj):=by
 refine F.ok zpq (fun vs H Q E h=>zdg h) (fun cdv A outer s H vs Q E hr h=>?_)
 have hu:=zgp hr
 apply Exists.intro
 apply And.intro
 ·refine' Bx.out (zal (zbo (zahe (zce (N':=["arm", "name"]) (own:=["arm", "name"]) (fr:=[]) (by kernel_rfl)) rfl (zbh (K:=K) rfl (bv 0)) ?hb1 (by intro _;rfl) (by intro _ _;rfl))))
  case hb1=>(intro cl C s H fp;refine' ⟨Bx.out (zao (i:=0) zir rfl (Or.inl rfl) (by first|exact .inl rfl|exact .inr rfl|assumption)),Bx.out zfv,Bx.out (zbh (K:=K) rfl (zcd D_names_in (hr.mono (by decide)) (by rfl) (zaa (bv 0) zah (by rfl)) (by decide) (zag (by rfl)) (by rfl))),Bx.out (zao (i:=1) zir rfl (Or.inl rfl) (by first|exact .inl rfl|exact .inr rfl|assumption)),Bx.out zfv,Bx.out (bv 1)⟩)
 exact fn_d (f:=zld) ((zde (zakv (k:=1) (zcq (zad 0)) zdf (zagn (by decide) (by decide)) (by decide) zhp (zcq (zbj (zac (zad 0) zan))) zdf (zagn (by decide) (by decide)) zhp (zad 1)))) h
theorem zvt {f:Addr} {fd:q9} {cl:Str→Addr} (F:Fun K "check_call" "check_call" zgf f fd) (T:Txt mg) (D_check_kinds:znz P w K mg base cl) (D_names_in_call:zlj P w K mg base) (X_NoCall:XcOk P w K mg base "NoCall" (cl "NoCall")):FnOk P w K mg base (CXE P w) 4 f fd ["web", "places", "call"] (spX cl 3 zhx):=by
 refine zabv F zvl (fun vs H Q E h=>zux h) (fun cdv A outer s H vs Q E hr h0k h=>?_)
 have hu:=zgp hr
 apply Exists.intro
 apply And.intro
 ·refine' Bx.out (zai (zdr (zbz (zmf (K:=K) rfl hr.units) (zbm (zeb (K:=K) rfl) (by rfl) T.len zfo (zaa (bv 2) zah (by rfl)) (by decide) (by decide) (zag (by rfl)) (by rfl)) (bv 1) (zfs _)) (zal (znm (C:=cl "NoCall") X_NoCall (hr.mono (by decide)) rfl rfl (zace h0k) (by rfl) zahb (by decide) (by rfl))) zby)
 (zal (zdm (zaam D_check_kinds (zaae h0k) (hr.mono (by decide)) (by rfl) (zaa (bv 0) (zaa (zcd D_names_in_call (hr.mono (by decide)) (by rfl) (zaa (bv 2) zah (by rfl)) (by decide) (zag (by rfl)) (by rfl)) zah (by rfl)) (by rfl)) (by decide) (zag (by rfl)) (by rfl)) (by rfl))))
 exact fn_x (f:=zns) ((zij (zabx (st_t (zaz zsn (zfx zjx (zac (zad 2) zan)) (zad 1))) (znk (se_c fun _=>zls)) (zjz zff)) (zaby (zac (zad 0) (zac (zbj (zac (zad 2) zan)) zan))))) h
theorem zpv {f:Addr} {fd:q9} (F:Fun K "roofs_in_call" "roofs_in_call" zeh f fd) (T:Txt mg) (D_roof_of:zyr P w K mg base):FnOk P w K mg base CX0 3 f fd ["roofs", "call"] (spD 2 zfk):=by
 refine F.ok zps (fun vs H Q E h=>zdg h) (fun cdv A outer s H vs Q E hr h=>?_)
 have hu:=zgp hr
 apply Exists.intro
 apply And.intro
 ·refine' Bx.out (zal (zbo (zcw (zce (N':=["arm", "roofs"]) (own:=["arm"]) (fr:=[0]) (by kernel_rfl)) rfl (zbh (K:=K) rfl (bv 1)) ?hb1 (by intro _;rfl))))
  case hb1=>(intro cl C s H fp;refine' ⟨Bx.out (zao (i:=0) zmy rfl (Or.inl rfl) (by first|exact .inl rfl|exact .inr rfl|assumption)),Bx.out zfv,Bx.out (zcd D_roof_of (hr.mono (by decide)) (by rfl) (zaa (bv 1) (zaa (bv 0) zah (by rfl)) (by rfl)) (by decide) (zag (by rfl)) (by rfl))⟩)
 exact fn_d (f:=zle) ((zde (zeo (zcq (zad 1)) zdf (zjf (by decide)) zhp (zbj (zac (zad 1) (zac (zad 0) zan)))))) h
theorem zvu {f:Addr} {fd:q9} (F:Fun K "fits_under" "fits_under" zgg f fd) (T:Txt mg)  : FnOk P w K mg base CX0 1 f fd ["kinds", "call_roofs"] (spD 2 zhl):=by
 refine F.ok zvn (fun vs H Q E h=>zdg h) (fun cdv A outer s H vs Q E hr h=>?_)
 have hu:=zgp hr
 apply Exists.intro
 apply And.intro
 ·refine' Bx.out (zal (zbo (zbm (zwv (K:=K) rfl rfl) (by rfl) T.all zact (zaa (zcw (zce (N':=["kind", "roof"]) (own:=["kind", "roof"]) (fr:=[]) (by kernel_rfl)) rfl (zahd (K:=K) rfl rfl T.zip (zaa (bv 0) (zaa (bv 1) zah (by rfl)) (by rfl)) (by rfl) (by rfl)) ?hb1 (by intro _;rfl)) zah (by rfl)) (by decide) (by decide) (zag (by rfl)) (by rfl))))
  case hb1=>(intro cl C s H fp;refine' ⟨Bx.out (zct (K:=K) (n:=2) rfl rfl (zau (zao (i:=0) zkd rfl (Or.inl rfl) (by first|exact .inl rfl|exact .inr rfl|assumption)) (zau (zao (i:=1) zkd rfl (Or.inl rfl) (by first|exact .inl rfl|exact .inr rfl|assumption)) zcs (by rfl)) (by rfl)) (by rfl) (by rfl)),Bx.out zfv,Bx.out (zahg (zahf hu (bv 0) (bv 1)) (by rfl))⟩)
 exact fn_d (f:=zpe) ((zde (zfx zti (zac (zeo (zanf (zac (zad 0) (zac (zad 1) zan))) (zgd (zbc (zbc zed))) (zng (zdl (by decide) (zdl (by decide) zjp))) zhp (zamw (zad 0) (zad 1))) zan)))) h
theorem zyu {f:Addr} {fd:q9} (F:Fun K "is_nearer" "is_nearer" zgw f fd) (T:Txt mg)  : FnOk P w K mg base CX0 1 f fd ["roofs", "one", "other"] (spD 3 zfl):=by
 refine F.ok zyd (fun vs H Q E h=>zdg h) (fun cdv A outer s H vs Q E hr h=>?_)
 have hu:=zgp hr
 apply Exists.intro
 apply And.intro
 ·refine' Bx.out (zal (zbo (zaaj (zpz (zmf (K:=K) rfl hr.units) (bv 1) (bv 2) (zfs _)) (zaai (zbm (zwv (K:=K) rfl rfl) (by rfl) T.all zact (zaa (zcw (zce (N':=["low", "high", "roofs"]) (own:=["low", "high"]) (fr:=[0]) (by kernel_rfl)) rfl (zahd (K:=K) rfl rfl T.zip (zaa (bv 1) (zaa (bv 2) zah (by rfl)) (by rfl)) (by rfl) (by rfl)) ?hb1 (by intro _;rfl)) zah (by rfl)) (by decide) (by decide) (zag (by rfl)) (by rfl))))))
  case hb1=>(intro cl C s H fp;refine' ⟨Bx.out (zct (K:=K) (n:=2) rfl rfl (zau (zao (i:=0) zlh rfl (Or.inl rfl) (by first|exact .inl rfl|exact .inr rfl|assumption)) (zau (zao (i:=1) zlh rfl (Or.inl rfl) (by first|exact .inl rfl|exact .inr rfl|assumption)) zcs (by rfl)) (by rfl)) (by rfl) (by rfl)),Bx.out zfv,Bx.out (zahg (zahf hu (bv 1) (zjq hu (bv 2) (bv 0) (fun _ _=>rfl))) (by rfl))⟩)
 exact fn_d (f:=zrh) ((zde (zagc (zaz zsn (zad 1) (zad 2)) (zfx zti (zac (zeo (zanf (zac (zad 1) (zac (zad 2) zan))) (zgd (zbc (zbc zed))) (zng (zdl (by decide) (zdl (by decide) zjp))) zhp (zamw (zad 1) (zlu (zad 0)))) zan))))) h
theorem zoy {f:Addr} {fd:q9} {cl:Str→Addr} (F:Fun K "rules_that_fit" "rules_that_fit" zds f fd) (T:Txt mg) (D_check_call:zpl P w K mg base cl) (D_fits_under:zpm P w K mg base) (D_roofs_in_call:zlk P w K mg base) (D_roofs_of:zov P w K mg base):FnOk P w K mg base (CXE P w) 5 f fd ["book", "call"] (spX cl 2 zee):=by
 refine zabv F zot (fun vs H Q E h=>zux h) (fun cdv A outer s H vs Q E hr h0k h=>?_)
 have hu:=zgp hr
 apply Exists.intro
 apply And.intro
 ·refine' Bx.out (zai (zahc (bv 0) (zct (K:=K) (n:=3) rfl rfl (zau (zao (i:=2) zei rfl (Or.inl rfl) (.inl rfl)) (zau (zao (i:=3) zei rfl (Or.inl rfl) (.inl rfl)) (zau (zao (i:=4) zei rfl (Or.inl rfl) (.inl rfl)) zcs (by rfl)) (by rfl)) (by rfl)) (by rfl) (by rfl)) (by rfl) (by rfl) (by rfl))
 (zai (zdm (zaam D_check_call (zaae h0k) (hr.mono (by decide)) (by rfl) (zaa (bv 2) (zaa (bv 3) (zaa (bv 1) zah (by rfl)) (by rfl)) (by rfl)) (by decide) (zag (by rfl)) (by rfl)) (by rfl))
 (zai (zay (i:=5) zei rfl (Or.inr rfl) (zcd D_roofs_in_call (hr.mono (by decide)) (by rfl) (zaa (zcd D_roofs_of (hr.mono (by decide)) (by rfl) (zaa (bv 2) zah (by rfl)) (by decide) (zag (by rfl)) (by rfl)) (zaa (bv 1) zah (by rfl)) (by rfl)) (by decide) (zag (by rfl)) (by rfl)) (by rfl) (.inl rfl))
 (zal (zbo (zcw (zce (N':=["rule", "call_roofs"]) (own:=["rule"]) (fr:=[5]) (by kernel_rfl)) rfl (zbh (K:=K) rfl (bv 4)) ?hb1 (by intro _;rfl)))))))
  case hb1=>(intro cl C s H fp;refine' ⟨Bx.out (zao (i:=0) zme rfl (Or.inl rfl) (by first|exact .inl rfl|exact .inr rfl|assumption)),Bx.out (zqx (zcr (K:=K) rfl (zcd D_fits_under (hr.mono (by decide)) (by rfl) (zaa (zbw (zdo (K:=K) rfl) (bv 0) zaj (fun _ _=>rfl)) (zaa (bv 1) zah (by rfl)) (by rfl)) (by decide) (zag (by rfl)) (by rfl)) (fun _=>rfl))),Bx.out (bv 0)⟩)
 exact fn_x (f:=zji) ((zij (zjz (zamy (zad 0) (zgd (zbc (zbc (zbc zed)))))) (zij (zaby (zac (zad 2) (zac (zad 3) (zac (zad 1) zan)))) (zij (zjz (zbk (zbj (zac (zbj (zac (zad 2) zan)) (zac (zad 1) zan))))) (zjz (zde (zeo (zcq (zad 4)) zdf (zjf (by decide)) (zja (zbj (zac (zcf (se_c fun _=>zaf)) (zac (zad 1) zan)))) (zad 0)))))))) h
theorem zvv {f:Addr} {fd:q9} (F:Fun K "nearest_of" "nearest_of" zgh f fd) (T:Txt mg) (D_is_nearer:zmz P w K mg base):FnOk P w K mg base CX0 2 f fd ["roofs", "rules"] (spD 2 zjc):=by
 refine F.ok zvp (fun vs H Q E h=>zdg h) (fun cdv A outer s H vs Q E hr h=>?_)
 have hu:=zgp hr
 apply Exists.intro
 apply And.intro
 ·refine' Bx.out (zal (zbo (zcw (zce (N':=["rule", "roofs", "rules"]) (own:=["rule"]) (fr:=[0,1]) (by kernel_rfl)) rfl (zbh (K:=K) rfl (bv 1)) ?hb1 (by intro _;rfl))))
  case hb1=>(intro cl C s H fp;refine' ⟨Bx.out (zao (i:=0) zpt rfl (Or.inr rfl) (by first|exact .inl rfl|exact .inr rfl|assumption)),Bx.out (zqx (zon (zcr (K:=K) rfl (zbm (znd (K:=K) rfl rfl) (by rfl) T.any zqb (zaa (zcw (zce (N':=["name", "kinds", "rule", "roofs"]) (own:=["name", "kinds"]) (fr:=[0,1]) (by kernel_rfl)) rfl (zbh (K:=K) rfl (bv 2)) ?hb2 (by intro _;rfl)) zah (by rfl)) (by decide) (by decide) (zag (by rfl)) (by rfl)) (fun _=>rfl)))),Bx.out (bv 0)⟩;case hb2=>(intro cl C s H fp;refine' ⟨Bx.out (zct (K:=K) (n:=2) rfl rfl (zau (zao (i:=0) zke rfl (Or.inl rfl) (by first|exact .inl rfl|exact .inr rfl|assumption)) (zau (zao (i:=1) zke rfl (Or.inl rfl) (by first|exact .inl rfl|exact .inr rfl|assumption)) zcs (by rfl)) (by rfl)) (by rfl) (by rfl)),Bx.out zfv,Bx.out (zcd D_is_nearer (hr.mono (by decide)) (by rfl) (zaa (bv 3) (zaa (bv 1) (zaa (zbw (zdo (K:=K) rfl) (bv 2) zaj (fun _ _=>rfl)) zah (by rfl)) (by rfl)) (by rfl)) (by decide) (zag (by rfl)) (by rfl))⟩))
 exact fn_d (f:=zpf) ((zde (zeo (zcq (zad 1)) zdf (zjf (by decide)) (zth (zja (zfx zti (zac (zeo (zcq (zad 2)) (zgd (zbc (zbc zed))) (zng (zdl (by decide) (zdl (by decide) zjp))) zhp (zbj (zac (zad 3) (zac (zad 1) (zac (zcf (se_c fun _=>zaf)) zan))))) zan)))) (zad 0)))) h
theorem zvw {f:Addr} {fd:q9} (F:Fun K "rule_names" "rule_names" zgi f fd) (T:Txt mg)  : FnOk P w K mg base CX0 1 f fd ["rules"] (spD 1 zem):=by
 refine F.ok zvr (fun vs H Q E h=>zdg h) (fun cdv A outer s H vs Q E hr h=>?_)
 have hu:=zgp hr
 apply Exists.intro
 apply And.intro
 ·refine' Bx.out (zal (zbo (zcw (zce (N':=["name", "kinds"]) (own:=["name", "kinds"]) (fr:=[]) (by kernel_rfl)) rfl (zbh (K:=K) rfl (bv 0)) ?hb1 (by intro _;rfl))))
  case hb1=>(intro cl C s H fp;refine' ⟨Bx.out (zct (K:=K) (n:=2) rfl rfl (zau (zao (i:=0) zkf rfl (Or.inl rfl) (by first|exact .inl rfl|exact .inr rfl|assumption)) (zau (zao (i:=1) zkf rfl (Or.inl rfl) (by first|exact .inl rfl|exact .inr rfl|assumption)) zcs (by rfl)) (by rfl)) (by rfl) (by rfl)),Bx.out zfv,Bx.out (bv 0)⟩)
 exact fn_d (f:=zpg) ((zde (zeo (zcq (zad 0)) (zgd (zbc (zbc zed))) (zng (zdl (by decide) (zdl (by decide) zjp))) zhp (zad 0)))) h
theorem zyv {f:Addr} {fd:q9} (F:Fun K "answer_by" "answer_by" zgx f fd) (T:Txt mg)  : FnOk P w K mg base CX0 1 f fd ["names"] (spD 1 zjv):=by
 refine F.ok zyf (fun vs H Q E h=>zdg h) (fun cdv A outer s H vs Q E hr h=>?_)
 have hu:=zgp hr
 apply Exists.intro
 apply And.intro
 ·refine' Bx.out (zai (zdr (zon (zcr (K:=K) rfl (bv 0) (fun _=>rfl))) (zal (zbo (zch (zaa zfu zah (by rfl))))) zby)
 (zai (zdr (zbz (zni (K:=K) rfl hr.units) (zbm (zeb (K:=K) rfl) (by rfl) T.len zfo (zaa (bv 0) zah (by rfl)) (by decide) (by decide) (zag (by rfl)) (by rfl)) zaj (zfs _)) (zal (zbo (zch (zaa zfu (zaa (zbw (zdo (K:=K) rfl) (bv 0) zaj (fun _ _=>rfl)) zah (by rfl)) (by rfl))))) zby)
 (zal (zbo (zch (zaa zfu (zaa (zdd (zfg (K:=K) rfl) (by rfl) T.tuple zes (zaa (bv 0) zah (by rfl)) (by decide) (by decide) (zag (by rfl)) (by rfl)) zah (by rfl)) (by rfl)))))))
 exact fn_d (f:=zri) ((zba (zii (zth (zja (zad 0))) (zde (zek (zac (se_c fun _=>zcc) zan))) zff) (zba (zii (st_t (zaz zus (zfx zjx (zac (zad 0) zan)) (se_c fun _=>zaf))) (zde (zek (zac (se_c fun _=>zcc) (zac (zcf (se_c fun _=>zaf)) zan)))) zff) (zde (zek (zac (se_c fun _=>zcc) (zac (zfx zjb (zac (zad 0) zan)) zan))))))) h
theorem zsa {f:Addr} {fd:q9} (F:Fun K "answer_among" "answer_among" zet f fd) (T:Txt mg) (D_answer_by:zrw P w K mg base) (D_nearest_of:zpn P w K mg base) (D_rule_names:zll P w K mg base):FnOk P w K mg base CX0 3 f fd ["roofs", "rules"] (spD 2 zhi):=by
 refine F.ok zro (fun vs H Q E h=>zdg h) (fun cdv A outer s H vs Q E hr h=>?_)
 have hu:=zgp hr
 apply Exists.intro
 apply And.intro
 ·refine' Bx.out (zal (zbo (zcd D_answer_by (hr.mono (by decide)) (by rfl) (zaa (zcd D_rule_names (hr.mono (by decide)) (by rfl) (zaa (zcd D_nearest_of (hr.mono (by decide)) (by rfl) (zaa (bv 0) (zaa (bv 1) zah (by rfl)) (by rfl)) (by decide) (zag (by rfl)) (by rfl)) zah (by rfl)) (by decide) (zag (by rfl)) (by rfl)) zah (by rfl)) (by decide) (zag (by rfl)) (by rfl))))
 exact fn_d (f:=zmg) ((zde (zbj (zac (zbj (zac (zbj (zac (zad 0) (zac (zad 1) zan))) zan)) zan)))) h
theorem zaio {f:Addr} {fd:q9} {cl:Str→Addr} (F:Fun K "onward" "onward" zlz f fd) (T:Txt mg) (D_answer_among:zmk P w K mg base) (D_is_nearer:zmz P w K mg base) (D_roofs_of:zov P w K mg base) (D_rule_names:zll P w K mg base) (D_rules_that_fit:zkg P w K mg base cl) (X_NoFit:XcOk P w K mg base "NoFit" (cl "NoFit")) (X_NoRule:XcOk P w K mg base "NoRule" (cl "NoRule")):FnOk P w K mg base (CXE P w) 6 f fd ["book", "call", "name"] (spX cl 3 zef):=by
 refine zabv F zaik (fun vs H Q E h=>zux h) (fun cdv A outer s H vs Q E hr h0k h=>?_)
 have hu:=zgp hr
 apply Exists.intro
 apply And.intro
 ·refine' Bx.out (zai (zahc (bv 0) (zct (K:=K) (n:=3) rfl rfl (zau (zao (i:=3) zin rfl (Or.inl rfl) (.inl rfl)) (zau (zao (i:=4) zin rfl (Or.inl rfl) (.inl rfl)) (zau (zao (i:=5) zin rfl (Or.inl rfl) (.inl rfl)) zcs (by rfl)) (by rfl)) (by rfl)) (by rfl) (by rfl)) (by rfl) (by rfl) (by rfl))
 (zai (zdr (zbz (zkm (K:=K) rfl) (bv 2) (zcd D_rule_names (hr.mono (by decide)) (by rfl) (zaa (bv 5) zah (by rfl)) (by decide) (zag (by rfl)) (by rfl)) (by rfl)) (zal (znm (C:=cl "NoRule") X_NoRule (hr.mono (by decide)) rfl rfl (zace h0k) (by rfl) (bv 2) (by decide) (by rfl))) zby)
 (zai (zay (i:=6) zin rfl (Or.inl rfl) (zaam D_rules_that_fit (zaae h0k) (hr.mono (by decide)) (by rfl) (zaa (bv 0) (zaa (bv 1) zah (by rfl)) (by rfl)) (by decide) (zag (by rfl)) (by rfl)) (by rfl) (.inl rfl))
 (zai (zdr (zbz (zkm (K:=K) rfl) (bv 2) (zcd D_rule_names (hr.mono (by decide)) (by rfl) (zaa (bv 6) zah (by rfl)) (by decide) (zag (by rfl)) (by rfl)) (by rfl)) (zal (znm (C:=cl "NoFit") X_NoFit (hr.mono (by decide)) rfl rfl (zace h0k) (by rfl) (bv 2) (by decide) (by rfl))) zby)
 (zai (zay (i:=7) zin rfl (Or.inr rfl) (zjq hu (zdd (zadw rfl) (by rfl) T.dict zaij (zaa (bv 6) zah (by rfl)) (by decide) (by decide) (zag (by rfl)) (by rfl)) (bv 2) (fun _ _=>rfl)) (by rfl) (.inl rfl))
 (zai (zay (i:=8) zin rfl (Or.inr rfl) (zcd D_roofs_of (hr.mono (by decide)) (by rfl) (zaa (bv 3) zah (by rfl)) (by decide) (zag (by rfl)) (by rfl)) (by rfl) (.inl rfl))
 (zal (zbo (zcd D_answer_among (hr.mono (by decide)) (by rfl) (zaa (bv 8) (zaa (zcw (zce (N':=["rule", "own", "roofs"]) (own:=["rule"]) (fr:=[7,8]) (by kernel_rfl)) rfl (zbh (K:=K) rfl (bv 6)) ?hb1 (by intro _;rfl)) zah (by rfl)) (by rfl)) (by decide) (zag (by rfl)) (by rfl))))))))))
  case hb1=>(intro cl C s H fp;refine' ⟨Bx.out (zao (i:=0) zyo rfl (Or.inl rfl) (by first|exact .inl rfl|exact .inr rfl|assumption)),Bx.out (zqx (zcr (K:=K) rfl (zcd D_is_nearer (hr.mono (by decide)) (by rfl) (zaa (bv 2) (zaa (bv 1) (zaa (zbw (zdo (K:=K) rfl) (bv 0) zaj (fun _ _=>rfl)) zah (by rfl)) (by rfl)) (by rfl)) (by decide) (zag (by rfl)) (by rfl)) (fun _=>rfl))),Bx.out (bv 0)⟩)
 exact fn_x (f:=zya) ((zij (zjz (zamy (zad 0) (zgd (zbc (zbc (zbc zed)))))) (zij (zabx (st_t (zaz zzy (zad 2) (zbj (zac (zad 5) zan)))) (znk (zad 2)) (zjz zff)) (zij (zaln (zac (zad 0) (zac (zad 1) zan))) (zij (zabx (st_t (zaz zzy (zad 2) (zbj (zac (zad 6) zan)))) (znk (zad 2)) (zjz zff)) (zij (zjz (zbk (zaot (zfx zaoz (zac (zad 6) zan)) (zad 2)))) (zij (zjz (zbk (zbj (zac (zad 3) zan)))) (zjz (zde (zbj (zac (zad 8) (zac (zeo (zcq (zad 6)) zdf (zjf (by decide)) (zja (zbj (zac (zad 2) (zac (zad 1) (zac (zcf (se_c fun _=>zaf)) zan))))) (zad 0)) zan)))))))))))) h
theorem zyw {f:Addr} {fd:q9} (F:Fun K "_law_names" "_law_names" zgz f fd) (T:Txt mg)  : FnOk P w K mg base CX0 1 f fd ["_law_many", "_law_cell"] (spD 2 zdj):=by
 refine F.ok zyh (fun vs H Q E h=>zdg h) (fun cdv A outer s H vs Q E hr h=>?_)
 have hu:=zgp hr
 apply Exists.intro
 apply And.intro
 ·refine' Bx.out (zai (zay (i:=2) zci rfl (Or.inl rfl) zfu (by rfl) (.inl rfl))
 (zai (zay (i:=3) zci rfl (Or.inl rfl) (zbw (zdo (K:=K) rfl) (zch (zaa zaj (zaa zaj (zaa zaj (zaa zaj (zaa zaj (zaa zaj (zaa zaj (zaa zaj zah (by rfl)) (by rfl)) (by rfl)) (by rfl)) (by rfl)) (by rfl)) (by rfl)) (by rfl))) (zaw zcz (zaw zfd (bv 1) zaj) zaj) (fun _ _=>rfl)) (by rfl) (.inl rfl))
 (zai (zay (i:=4) zci rfl (Or.inl rfl) (zaw zcz (zaw zfd (bv 1) zaj) zaj) (by rfl) (.inl rfl))
 (zai (zay (i:=5) zci rfl (Or.inl rfl) (zaw zjd (zbw (zdo (K:=K) rfl) (bv 2) (zaw zcz (zaw zfd (bv 1) zaj) zaj) (fun _ _=>rfl)) (zaw zcz (zaw zfd (bv 1) zaj) zaj)) (by rfl) (.inl rfl))
 (zai (zay (i:=6) zci rfl (Or.inl rfl) (zaw zcz (zaw zfd (bv 1) zaj) (zaw (zbu (K:=K) rfl) (zbm (zeb (K:=K) rfl) (by rfl) T.len zfo (zaa (bv 5) zah (by rfl)) (by decide) (by decide) (zag (by rfl)) (by rfl)) zaj)) (by rfl) (.inl rfl))
 (zai (zay (i:=7) zci rfl (Or.inl rfl) (zgb zah) (by rfl) (.inl rfl))
 (zai (zdv qr rfl (zoo rfl T.range (zaa (bv 0) zah (by rfl)) (by rfl)) (zao (i:=8) zci rfl (Or.inl rfl) (.inl rfl))
  (zai (zay (i:=9) zci rfl (Or.inl rfl) (zbw (zdo (K:=K) rfl) (bv 2) (zaw zcz (zaw (zbu (K:=K) rfl) (bv 4) (zaw zjd (bv 3) (bv 8))) zaj) (fun _ _=>rfl)) (by rfl) (.inl rfl))
 (zal (zdr (zbz (zni (K:=K) rfl hr.units) (zaw zcz (bv 1) zaj) zaj (zfs _)) (zal (zdm (zfh (K:=K) rfl qe qg qf zcn (bv 7) (zaa (zaw (zbu (K:=K) rfl) (zaw (zbu (K:=K) rfl) (zbx (zkl (K:=K) rfl) (bv 5) zdn (zca (bv 6))) (bv 9)) (zbx (zkl (K:=K) rfl) (bv 5) (zca (bv 6)) zdn)) zah (by rfl)) (by rfl) (by rfl) (by rfl) (zag (by rfl)) (by rfl)) (by rfl))) (zal (zdr (zbz (zni (K:=K) rfl hr.units) (zaw zcz (bv 1) zaj) zaj (zfs _)) (zal (zdm (zfh (K:=K) rfl qe qg qf zcn (bv 7) (zaa (zaw (zbu (K:=K) rfl) (zbx (zkl (K:=K) rfl) (bv 5) zdn (zca (zaw zcz (zaw zjd (bv 8) (bv 3)) (zaw (zbu (K:=K) rfl) (zbm (zeb (K:=K) rfl) (by rfl) T.len zfo (zaa (bv 5) zah (by rfl)) (by decide) (by decide) (zag (by rfl)) (by rfl)) zaj)))) (bv 9)) zah (by rfl)) (by rfl) (by rfl) (by rfl) (zag (by rfl)) (by rfl)) (by rfl))) (zal (zdm (zfh (K:=K) rfl qe qg qf zcn (bv 7) (zaa (zaw zjd (zbw (zdo (K:=K) rfl) (bv 2) (zaw zcz (zaw (zbu (K:=K) rfl) (bv 4) (zaw zfd (bv 8) zaj)) zaj) (fun _ _=>rfl)) (zaw (zbu (K:=K) rfl) zaj (zaw zcz (zaw zjd (bv 8) (bv 3)) zaj))) zah (by rfl)) (by rfl) (by rfl) (by rfl) (zag (by rfl)) (by rfl)) (by rfl)))))))) (by intro _;rfl))
 (zai (zdr (zbz (zni (K:=K) rfl hr.units) (zaw zcz (zaw zfd (bv 1) zaj) zaj) zaj (zfs _)) (zai (zay (i:=10) zci rfl (Or.inl rfl) (zgb (zaa zfu (zaa zfu (zaa zfu (zaa zfu (zaa zfu (zaa zfu zah (by rfl)) (by rfl)) (by rfl)) (by rfl)) (by rfl)) (by rfl))) (by rfl) (.inl rfl))
 (zai (zay (i:=11) zci rfl (Or.inl rfl) (zaw zcz (zaw zfd (bv 1) zaj) zaj) (by rfl) (.inl rfl))
 (zal (zay (i:=7) zci rfl (Or.inl rfl) (zbx (zkl (K:=K) rfl) (zaw (zbu (K:=K) rfl) (zaw (zbu (K:=K) rfl) (zbx (zkl (K:=K) rfl) (bv 10) (zca (bv 11)) zdn) (zbx (zkl (K:=K) rfl) (bv 10) zdn (zca (bv 11)))) (zbx (zkl (K:=K) rfl) (bv 7) (zca zaj) zdn)) zdn (zca (bv 0))) (by rfl) (.inl rfl))))) zby)
 (zal (zbo (bv 7)))))))))))
 exact fn_d (f:=zil) ((zba (zbk (se_c fun _=>zcc)) (zba (zbk (zaz zakk (zek (zac (se_c fun _=>zaf) (zac (se_c fun _=>zaf) (zac (se_c fun _=>zaf) (zac (se_c fun _=>zaf) (zac (se_c fun _=>zaf) (zac (se_c fun _=>zaf) (zac (se_c fun _=>zaf) (zac (se_c fun _=>zaf) zan))))))))) (zaz zdy (zaz zft (zad 1) (se_c fun _=>zaf)) (se_c fun _=>zaf)))) (zba (zbk (zaz zdy (zaz zft (zad 1) (se_c fun _=>zaf)) (se_c fun _=>zaf))) (zba (zbk (zaz ztg (zcf (zaz zdy (zaz zft (zad 1) (se_c fun _=>zaf)) (se_c fun _=>zaf))) (zaz zdy (zaz zft (zad 1) (se_c fun _=>zaf)) (se_c fun _=>zaf)))) (zba (zbk (zaz zdy (zaz zft (zad 1) (se_c fun _=>zaf)) (zaz zfa (zfx zjx (zac (zad 5) zan)) (se_c fun _=>zaf)))) (zba (zbk (zih zan)) (zba (zgm (zqt (zac (zad 0) zan)) zdf (zba (zbk (zcf (zaz zdy (zaz zfa (zad 4) (zaz ztg (zad 3) (zad 8))) (se_c fun _=>zaf)))) (zii (st_t (zaz zus (zaz zdy (zad 1) (se_c fun _=>zaf)) (se_c fun _=>zaf))) (zjy (zaz zfa (zaz zfa (zmd (zad 5) zew (zco (zad 6))) (zad 9)) (zmd (zad 5) (zco (zad 6)) zew))) (zii (st_t (zaz zus (zaz zdy (zad 1) (se_c fun _=>zaf)) (se_c fun _=>zaf))) (zjy (zaz zfa (zmd (zad 5) zew (zco (zaz zdy (zaz ztg (zad 8) (zad 3)) (zaz zfa (zfx zjx (zac (zad 5) zan)) (se_c fun _=>zaf))))) (zad 9))) (zjy (zaz ztg (zcf (zaz zdy (zaz zfa (zad 4) (zaz zft (zad 8) (se_c fun _=>zaf))) (se_c fun _=>zaf))) (zaz zfa (se_c fun _=>zaf) (zaz zdy (zaz ztg (zad 8) (zad 3)) (se_c fun _=>zaf))))))))) (zba (zii (st_t (zaz zus (zaz zdy (zaz zft (zad 1) (se_c fun _=>zaf)) (se_c fun _=>zaf)) (se_c fun _=>zaf))) (zba (zbk (zih (zac (se_c fun _=>zcc) (zac (se_c fun _=>zcc) (zac (se_c fun _=>zcc) (zac (se_c fun _=>zcc) (zac (se_c fun _=>zcc) (zac (se_c fun _=>zcc) zan)))))))) (zba (zbk (zaz zdy (zaz zft (zad 1) (se_c fun _=>zaf)) (se_c fun _=>zaf))) (zbk (zmd (zaz zfa (zaz zfa (zmd (zad 10) (zco (zad 11)) zew) (zmd (zad 10) zew (zco (zad 11)))) (zmd (zad 7) (zco (se_c fun _=>zaf)) zew)) zew (zco (zad 0)))))) zff) zmt))))))))) h
theorem zaej {f:Addr} {fd:q9} (F:Fun K "_law_web" "_law_web" zjk f fd) (T:Txt mg)  : FnOk P w K mg base CX0 1 f fd ["_law_cells", "_law_names_here"] (spD 2 zky):=by
 refine F.ok zaeg (fun vs H Q E h=>zdg h) (fun cdv A outer s H vs Q E hr h=>?_)
 have hu:=zgp hr
 apply Exists.intro
 apply And.intro
 ·refine' Bx.out (zai (zay (i:=2) zeu rfl (Or.inl rfl) (zgb zah) (by rfl) (.inl rfl))
 (zai (zdv qr rfl (zqz (K:=K) rfl rfl T.enumerate (zaa (bv 1) zah (by rfl)) (by rfl)) (zct (K:=K) (n:=2) rfl rfl (zau (zao (i:=3) zeu rfl (Or.inl rfl) (.inl rfl)) (zau (zao (i:=4) zeu rfl (Or.inl rfl) (.inl rfl)) zcs (by rfl)) (by rfl)) (by rfl) (by rfl))
  (zai (zay (i:=5) zeu rfl (Or.inl rfl) (zbx (zkl (K:=K) rfl) (bv 1) zdn (zca (bv 3))) (by rfl) (.inl rfl))
 (zai (zay (i:=6) zeu rfl (Or.inl rfl) (zaw zfd (zbw (zdo (K:=K) rfl) (bv 0) (bv 3) (fun _ _=>rfl)) zaj) (by rfl) (.inl rfl))
 (zai (zay (i:=7) zeu rfl (Or.inl rfl) (zgb zah) (by rfl) (.inl rfl))
 (zai (zdv qr rfl (zoo rfl T.range (zaa (zbm (zafb rfl) (by rfl) T.min zalz (zaa (zaw zcz (zbw (zdo (K:=K) rfl) (bv 0) (bv 3) (fun _ _=>rfl)) zaj) (zaa (bv 3) zah (by rfl)) (by rfl)) (by decide) (by decide) (zag (by rfl)) (by rfl)) zah (by rfl)) (by rfl)) (zao (i:=8) zeu rfl (Or.inl rfl) (.inl rfl))
  (zai (zay (i:=9) zeu rfl (Or.inl rfl) (zaw zcz (bv 6) (zbm (zeb (K:=K) rfl) (by rfl) T.len zfo (zaa (bv 5) zah (by rfl)) (by decide) (by decide) (zag (by rfl)) (by rfl))) (by rfl) (.inl rfl))
 (zai (zay (i:=6) zeu rfl (Or.inl rfl) (zaw zfd (bv 6) (zbm (zeb (K:=K) rfl) (by rfl) T.len zfo (zaa (bv 5) zah (by rfl)) (by decide) (by decide) (zag (by rfl)) (by rfl))) (by rfl) (.inl rfl))
 (zal (zdm (zfh (K:=K) rfl qe qg qf zcn (bv 7) (zaa (zfh (K:=K) rfl qe PySem.F.slot_list_pop PySem.F.type_list_pop zajr (bv 5) (zaa (bv 9) zah (by rfl)) (by rfl) (by rfl) (by rfl) (zag (by rfl)) (by rfl)) zah (by rfl)) (by rfl) (by rfl) (by rfl) (zag (by rfl)) (by rfl)) (by rfl))))) (by intro _;rfl))
 (zal (zdm (zfh (K:=K) rfl qe qg qf zcn (bv 2) (zaa (zch (zaa (bv 4) (zaa (bv 7) zah (by rfl)) (by rfl))) zah (by rfl)) (by rfl) (by rfl) (by rfl) (zag (by rfl)) (by rfl)) (by rfl))))))) (by intro _;rfl))
 (zal (zbo (bv 2)))))
 exact fn_d (f:=zxp) ((zba (zbk (zih zan)) (zba (zgm (zxn (zac (zad 1) zan)) (zgd (zbc (zbc zed))) (zba (zbk (zmd (zad 1) zew (zco (zad 3)))) (zba (zbk (zaz zft (zcf (zad 3)) (se_c fun _=>zaf))) (zba (zbk (zih zan)) (zba (zgm (zqt (zac (zfx zasi (zac (zaz zdy (zcf (zad 3)) (se_c fun _=>zaf)) (zac (zad 3) zan))) zan)) zdf (zba (zbk (zaz zdy (zad 6) (zfx zjx (zac (zad 5) zan)))) (zba (zbk (zaz zft (zad 6) (zfx zjx (zac (zad 5) zan)))) (zagl (zad 9))))) (zjy (zek (zac (zad 4) (zac (zad 7) zan))))))))) zmt))) h
theorem zaip {f:Addr} {fd:q9} (F:Fun K "_law_up" "_law_up" zma f fd) (T:Txt mg)  : FnOk P w K mg base CX0 1 f fd ["_law_web_here"] (spD 1 zno):=by
 refine F.ok zail (fun vs H Q E h=>zdg h) (fun cdv A outer s H vs Q E hr h=>?_)
 have hu:=zgp hr
 apply Exists.intro
 apply And.intro
 ·refine' Bx.out (zai (zay (i:=1) zio rfl (Or.inl rfl) zqw (by rfl) (.inl rfl))
 (zai (zdv qr rfl (zbh (K:=K) rfl (bv 0)) (zct (K:=K) (n:=2) rfl rfl (zau (zao (i:=2) zio rfl (Or.inl rfl) (.inl rfl)) (zau (zao (i:=3) zio rfl (Or.inl rfl) (.inl rfl)) zcs (by rfl)) (by rfl)) (by rfl) (by rfl))
  (zai (zay (i:=4) zio rfl (Or.inl rfl) (zgb (zaa (bv 2) zah (by rfl))) (by rfl) (.inl rfl))
 (zai (zdv qr rfl (zbh (K:=K) rfl (bv 3)) (zao (i:=5) zio rfl (Or.inl rfl) (.inl rfl))
  (zal (zdv qr rfl (zbh (K:=K) rfl (zjq hu (bv 1) (bv 5) (fun _ _=>rfl))) (zao (i:=6) zio rfl (Or.inl rfl) (.inl rfl))
  (zal (zdr (zbz (zkm (K:=K) rfl) (bv 6) (bv 4) (by rfl)) (zal (zdm (zfh (K:=K) rfl qe qg qf zcn (bv 4) (zaa (bv 6) zah (by rfl)) (by rfl) (by rfl) (by rfl) (zag (by rfl)) (by rfl)) (by rfl))) zby)) (by intro _;rfl))) (by intro _;rfl))
 (zal (zacc hu (bv 1) (bv 2) (bv 4) rfl)))) (by intro _;rfl))
 (zal (zbo (bv 1)))))
 exact fn_d (f:=zacj) ((zba (zbk zaaa) (zba (zgm (zcq (zad 0)) (zgd (zbc (zbc zed))) (zba (zbk (zih (zac (zad 2) zan))) (zba (zgm (zcq (zad 3)) zdf (zgm (zcq (zlu (zad 5))) zdf (zii (st_t (zaz zzy (zad 6) (zad 4))) (zjy (zad 6)) zff))) (zamz (zad 2) (zad 4))))) zmt))) h
theorem zyx {f:Addr} {fd:q9} (F:Fun K "_law_parts" "_law_parts" zha f fd) (T:Txt mg)  : FnOk P w K mg base CX0 1 f fd ["_law_arm"] (spD 1 zbf):=by
 refine F.ok zyk (fun vs H Q E h=>zdg h) (fun cdv A outer s H vs Q E hr h=>?_)
 have hu:=zgp hr
 apply Exists.intro
 apply And.intro
 ·refine' Bx.out (zai (zdr (zcr (K:=K) rfl (zbm (zww (K:=K) rfl) (by rfl) T.isinstance zdk (zaa (bv 0) (zaa (zvc (v:=.ty "tuple") (by rfl) T.tuple zes rfl (by decide) (by decide)) zah (by rfl)) (by rfl)) (by decide) (by decide) (zag (by rfl)) (by rfl)) (fun _=>rfl)) (zal (zbo (zdd (zlr (K:=K) rfl) (by rfl) T.list znv (zaa (bv 0) zah (by rfl)) (by decide) (by decide) (zag (by rfl)) (by rfl)))) zby)
 (zal (zbo (zgb (zaa (bv 0) zah (by rfl))))))
 exact fn_d (f:=zor) ((zba (zii (zja (zamx (zad 0) zxa)) (zde (zfx zut (zac (zad 0) zan))) zff) (zde (zih (zac (zad 0) zan))))) h
theorem zaba {f:Addr} {fd:q9} (F:Fun K "_law_call" "_law_call" zic f fd) (T:Txt mg)  : FnOk P w K mg base CX0 1 f fd ["_law_cell", "_law_names_here", "_law_places"] (spD 3 zge):=by
 refine F.ok zaau (fun vs H Q E h=>zdg h) (fun cdv A outer s H vs Q E hr h=>?_)
 have hu:=zgp hr
 apply Exists.intro
 apply And.intro
 ·refine' Bx.out (zai (zay (i:=3) zdw rfl (Or.inl rfl) (zgb zah) (by rfl) (.inl rfl))
 (zai (zay (i:=4) zdw rfl (Or.inl rfl) (bv 0) (by rfl) (.inl rfl))
 (zai (zay (i:=5) zdw rfl (Or.inl rfl) (zbm (zeb (K:=K) rfl) (by rfl) T.len zfo (zaa (bv 1) zah (by rfl)) (by decide) (by decide) (zag (by rfl)) (by rfl)) (by rfl) (.inl rfl))
 (zai (zdv qr rfl (zoo rfl T.range (zaa (bv 2) zah (by rfl)) (by rfl)) (zao (i:=6) zdw rfl (Or.inl rfl) (.inl rfl))
  (zai (zay (i:=7) zdw rfl (Or.inr rfl) (zaw zcz (bv 4) (bv 5)) (by rfl) (.inl rfl))
 (zai (zay (i:=4) zdw rfl (Or.inl rfl) (zaw zfd (bv 4) (bv 5)) (by rfl) (.inl rfl))
 (zai (zdr (zbz (zni (K:=K) rfl hr.units) (zaw zcz (bv 4) zaj) zaj (zfs _)) (zal (zdm (zfh (K:=K) rfl qe qg qf zcn (bv 3) (zaa (zch (zaa (zbw (zdo (K:=K) rfl) (bv 1) (zaw zqf (zaw zqf (bv 5) zaj) (bv 7)) (fun _ _=>rfl)) zah (by rfl))) zah (by rfl)) (by rfl) (by rfl) (by rfl) (zag (by rfl)) (by rfl)) (by rfl))) (zal (zdr (zaak (zbz (zni (K:=K) rfl hr.units) (zaw zcz (bv 4) zaj) zaj (zfs _)) (zacb (zbz zarj (bv 5) zaj (zfs _)))).pt (zai (zay (i:=8) zdw rfl (Or.inr rfl) (zaw zcz (zaw (zbu (K:=K) rfl) (zaw (zbu (K:=K) rfl) (bv 7) zaj) (zaw zcz (zaw zfd (bv 4) zaj) (zaw zqf (bv 5) zaj))) (bv 5)) (by rfl) (.inl rfl))
 (zai (zqy (i:=9) (zce (N':=["_law_name", "_law_names_here", "_law_at", "_law_by"]) (own:=["_law_name"]) (fr:=[1,7,8]) (by kernel_rfl)) rfl (zbh (K:=K) rfl (zbx (zkl (K:=K) rfl) (bv 1) (zca (zaw zqf (bv 5) (zaw zcz (bv 4) zaj))) zdn)) ?hb1 (by rfl) zdw rfl rfl (by intro _;rfl))
 (zal (zdm (zfh (K:=K) rfl qe qg qf zcn (bv 3) (zaa (zdd (zfg (K:=K) rfl) (by rfl) T.tuple zes (zaa (zaw (zbu (K:=K) rfl) (zgb (zaa (zbw (zdo (K:=K) rfl) (bv 1) (bv 7) (fun _ _=>rfl)) (zaa (zbw (zdo (K:=K) rfl) (bv 1) (bv 8) (fun _ _=>rfl)) zah (by rfl)) (by rfl))) (bv 9)) zah (by rfl)) (by decide) (by decide) (zag (by rfl)) (by rfl)) zah (by rfl)) (by rfl) (by rfl) (by rfl) (zag (by rfl)) (by rfl)) (by rfl))))) (zal (zdm (zfh (K:=K) rfl qe qg qf zcn (bv 3) (zaa (zbw (zdo (K:=K) rfl) (bv 1) (zaw zqf (zaw zqf (bv 5) zaj) (bv 7)) (fun _ _=>rfl)) zah (by rfl)) (by rfl) (by rfl) (by rfl) (zag (by rfl)) (by rfl)) (by rfl))))))
 (zal (zay (i:=4) zdw rfl (Or.inl rfl) (zaw zfd (bv 4) (zaw zjd zaj (bv 5))) (by rfl) (.inl rfl)))))) (by intro _;rfl))
 (zal (zbo (zdd (zfg (K:=K) rfl) (by rfl) T.tuple zes (zaa (bv 3) zah (by rfl)) (by decide) (by decide) (zag (by rfl)) (by rfl))))))))
  case hb1=>(intro cl C s H fp;refine' ⟨Bx.out (zao (i:=0) zsw rfl (Or.inl rfl) (by first|exact .inl rfl|exact .inr rfl|assumption)),Bx.out (zqx (zbz (zkm (K:=K) rfl) (bv 0) (zch (zaa (zbw (zdo (K:=K) rfl) (bv 1) (bv 2) (fun _ _=>rfl)) (zaa (zbw (zdo (K:=K) rfl) (bv 1) (bv 3) (fun _ _=>rfl)) zah (by rfl)) (by rfl))) (by rfl))),Bx.out (bv 0)⟩)
 exact fn_d (f:=ztr) ((zba (zbk (zih zan)) (zba (zbk (zad 0)) (zba (zbk (zfx zjx (zac (zad 1) zan))) (zba (zgm (zqt (zac (zad 2) zan)) zdf (zba (zbk (zaz zdy (zad 4) (zad 5))) (zba (zbk (zaz zft (zad 4) (zad 5))) (zba (zii (st_t (zaz zus (zaz zdy (zad 4) (se_c fun _=>zaf)) (se_c fun _=>zaf))) (zjy (zek (zac (zcf (zaz zqp (zaz zqp (zad 5) (se_c fun _=>zaf)) (zad 7))) zan))) (zii (zagb (st_t (zaz zus (zaz zdy (zad 4) (se_c fun _=>zaf)) (se_c fun _=>zaf))) (st_t (zaz zasg (zad 5) (se_c fun _=>zaf)))) (zba (zbk (zaz zdy (zaz zfa (zaz zfa (zad 7) (se_c fun _=>zaf)) (zaz zdy (zaz zft (zad 4) (se_c fun _=>zaf)) (zaz zqp (zad 5) (se_c fun _=>zaf)))) (zad 5))) (zba (zbk (zeo (zcq (zmd (zad 1) (zco (zaz zqp (zad 5) (zaz zdy (zad 4) (se_c fun _=>zaf)))) zew)) zdf (zjf (by decide)) (st_t (zaz zzy (zad 0) (zek (zac (zcf (zad 2)) (zac (zcf (zad 3)) zan))))) (zad 0))) (zjy (zfx zjb (zac (zaz zfa (zih (zac (zcf (zad 7)) (zac (zcf (zad 8)) zan))) (zad 9)) zan))))) (zjy (zcf (zaz zqp (zaz zqp (zad 5) (se_c fun _=>zaf)) (zad 7)))))) (zbk (zaz zft (zad 4) (zaz ztg (se_c fun _=>zaf) (zad 5)))))))) (zde (zfx zjb (zac (zad 3) zan)))))))) h
theorem zyy {f:Addr} {fd:q9} (F:Fun K "_law_rules" "_law_rules" zhb f fd) (T:Txt mg) (D_law_parts:zis P w K mg base):FnOk P w K mg base CX0 2 f fd ["_law_cells", "_law_names_here", "_law_up_here", "_law_call_here", "_law_titles"] (spD 5 zim):=by
 refine F.ok zyl (fun vs H Q E h=>zdg h) (fun cdv A outer s H vs Q E hr h=>?_)
 have hu:=zgp hr
 apply Exists.intro
 apply And.intro
 ·refine' Bx.out (zai (zay (i:=5) zda rfl (Or.inl rfl) (zgb zah) (by rfl) (.inl rfl))
 (zai (zdv qr rfl (zqz (K:=K) rfl rfl T.enumerate (zaa (bv 4) zah (by rfl)) (by rfl)) (zct (K:=K) (n:=2) rfl rfl (zau (zao (i:=6) zda rfl (Or.inl rfl) (.inl rfl)) (zau (zao (i:=7) zda rfl (Or.inl rfl) (.inl rfl)) zcs (by rfl)) (by rfl)) (by rfl) (by rfl))
  (zai (zay (i:=8) zda rfl (Or.inl rfl) (zaw zfd (zbw (zdo (K:=K) rfl) (bv 0) (bv 6) (fun _ _=>rfl)) zaj) (by rfl) (.inl rfl))
 (zai (zay (i:=9) zda rfl (Or.inl rfl) (zgb zah) (by rfl) (.inl rfl))
 (zai (zdv qr rfl (zbh (K:=K) rfl (bv 3)) (zao (i:=10) zda rfl (Or.inr rfl) (.inl rfl))
  (zai (zay (i:=11) zda rfl (Or.inl rfl) (bv 1) (by rfl) (.inl rfl))
 (zai (zdr (zbz zarj (zaw zcz (zbw (zdo (K:=K) rfl) (bv 0) (bv 6) (fun _ _=>rfl)) zaj) zaj (zfs _)) (zal (zqy (i:=11) (zce (N':=["_law_name", "_law_up_here", "_law_arm"]) (own:=["_law_name"]) (fr:=[2,10]) (by kernel_rfl)) rfl (zbh (K:=K) rfl (bv 1)) ?hb1 (by rfl) zda rfl rfl (by intro _;rfl))) zby)
 (zai (zdm (zfh (K:=K) rfl qe qg qf zcn (bv 9) (zaa (zbw (zdo (K:=K) rfl) (bv 11) (zaw zcz (bv 8) (zbm (zeb (K:=K) rfl) (by rfl) T.len zfo (zaa (bv 11) zah (by rfl)) (by decide) (by decide) (zag (by rfl)) (by rfl))) (fun _ _=>rfl)) zah (by rfl)) (by rfl) (by rfl) (by rfl) (zag (by rfl)) (by rfl)) (by rfl))
 (zal (zay (i:=8) zda rfl (Or.inl rfl) (zaw zfd (bv 8) (zbm (zeb (K:=K) rfl) (by rfl) T.len zfo (zaa (bv 11) zah (by rfl)) (by decide) (by decide) (zag (by rfl)) (by rfl))) (by rfl) (.inl rfl)))))) (by intro _;rfl))
 (zal (zdr (zbz (zxk (K:=K) rfl hr.units) (zdd (zfg (K:=K) rfl) (by rfl) T.tuple zes (zaa (bv 9) zah (by rfl)) (by decide) (by decide) (zag (by rfl)) (by rfl)) (zcw (zce (N':=["_law_one", "_law_row"]) (own:=["_law_one", "_law_row"]) (fr:=[]) (by kernel_rfl)) rfl (zbh (K:=K) rfl (bv 5)) ?hb3 (by intro _;rfl)) (by rfl)) (zal (zdm (zfh (K:=K) rfl qe qg qf zcn (bv 5) (zaa (zch (zaa (bv 7) (zaa (zdd (zfg (K:=K) rfl) (by rfl) T.tuple zes (zaa (bv 9) zah (by rfl)) (by decide) (by decide) (zag (by rfl)) (by rfl)) zah (by rfl)) (by rfl))) zah (by rfl)) (by rfl) (by rfl) (by rfl) (zag (by rfl)) (by rfl)) (by rfl))) zby))))) (by intro _;rfl))
 (zal (zbo (bv 5)))))
  case hb1=>(intro cl C s H fp;refine' ⟨Bx.out (zao (i:=0) zru rfl (Or.inr rfl) (by first|exact .inl rfl|exact .inr rfl|assumption)),Bx.out (zqx (zcr (K:=K) rfl (zbm (znd (K:=K) rfl rfl) (by rfl) T.any zqb (zaa (zcw (zce (N':=["_law_one", "_law_name", "_law_up_here"]) (own:=["_law_one"]) (fr:=[0,1]) (by kernel_rfl)) rfl (zbh (K:=K) rfl (zcd D_law_parts (hr.mono (by decide)) (by rfl) (zaa (bv 2) zah (by rfl)) (by decide) (zag (by rfl)) (by rfl))) ?hb2 (by intro _;rfl)) zah (by rfl)) (by decide) (by decide) (zag (by rfl)) (by rfl)) (fun _=>rfl))),Bx.out (bv 0)⟩;case hb2=>(intro cl C s H fp;refine' ⟨Bx.out (zao (i:=0) zrv rfl (Or.inl rfl) (by first|exact .inl rfl|exact .inr rfl|assumption)),Bx.out zfv,Bx.out (zpz (zamt (K:=K) rfl) (bv 1) (zjq hu (bv 2) (bv 0) (fun _ _=>rfl)) (by rfl))⟩))
  case hb3=>(intro cl C s H fp;refine' ⟨Bx.out (zct (K:=K) (n:=2) rfl rfl (zau (zao (i:=0) zli rfl (Or.inl rfl) (by first|exact .inl rfl|exact .inr rfl|assumption)) (zau (zao (i:=1) zli rfl (Or.inl rfl) (by first|exact .inl rfl|exact .inr rfl|assumption)) zcs (by rfl)) (by rfl)) (by rfl) (by rfl)),Bx.out zfv,Bx.out (bv 1)⟩)
 exact fn_d (f:=zrj) ((zba (zbk (zih zan)) (zba (zgm (zxn (zac (zad 4) zan)) (zgd (zbc (zbc zed))) (zba (zbk (zaz zft (zcf (zad 6)) (se_c fun _=>zaf))) (zba (zbk (zih zan)) (zba (zgm (zcq (zad 3)) zdf (zba (zbk (zad 1)) (zba (zii (st_t (zaz zasg (zaz zdy (zcf (zad 6)) (se_c fun _=>zaf)) (se_c fun _=>zaf))) (zbk (zeo (zcq (zad 1)) zdf (zjf (by decide)) (zja (zfx zti (zac (zeo (zcq (zbj (zac (zad 2) zan))) zdf (zjf (by decide)) zhp (zaz zzy (zad 1) (zlu (zad 0)))) zan))) (zad 0))) zff) (zba (zjy (zcf (zaz zdy (zad 8) (zfx zjx (zac (zad 11) zan))))) (zbk (zaz zft (zad 8) (zfx zjx (zac (zad 11) zan)))))))) (zii (st_t (zaz zang (zfx zjb (zac (zad 9) zan)) (zeo (zcq (zad 5)) (zgd (zbc (zbc zed))) (zng (zdl (by decide) (zdl (by decide) zjp))) zhp (zad 1)))) (zjy (zek (zac (zad 7) (zac (zfx zjb (zac (zad 9) zan)) zan)))) zff))))) zmt))) h
theorem zabb {f:Addr} {fd:q9} (F:Fun K "_law_fits" "_law_fits" zid f fd) (T:Txt mg) (D_law_parts:zis P w K mg base):FnOk P w K mg base CX0 2 f fd ["_law_up_here", "_law_kinds", "_law_call_here"] (spD 3 zcb):=by
 refine F.ok zaav (fun vs H Q E h=>zdg h) (fun cdv A outer s H vs Q E hr h=>?_)
 have hu:=zgp hr
 apply Exists.intro
 apply And.intro
 ·refine' Bx.out (zai (zdv qr rfl (zqz (K:=K) rfl rfl T.enumerate (zaa (bv 1) zah (by rfl)) (by rfl)) (zct (K:=K) (n:=2) rfl rfl (zau (zao (i:=3) zmx rfl (Or.inl rfl) (.inl rfl)) (zau (zao (i:=4) zmx rfl (Or.inr rfl) (.inl rfl)) zcs (by rfl)) (by rfl)) (by rfl) (by rfl))
  (zal (zdr (zon (zcr (K:=K) rfl (zbm (znd (K:=K) rfl rfl) (by rfl) T.any zqb (zaa (zcw (zce (N':=["_law_name", "_law_up_here", "_law_kind"]) (own:=["_law_name"]) (fr:=[0,4]) (by kernel_rfl)) rfl (zbh (K:=K) rfl (zcd D_law_parts (hr.mono (by decide)) (by rfl) (zaa (zbw (zdo (K:=K) rfl) (bv 2) (bv 3) (fun _ _=>rfl)) zah (by rfl)) (by decide) (zag (by rfl)) (by rfl))) ?hb1 (by intro _;rfl)) zah (by rfl)) (by decide) (by decide) (zag (by rfl)) (by rfl)) (fun _=>rfl))) (zal (zbo zdh)) zby)) (by intro _;rfl))
 (zal (zbo zdh)))
  case hb1=>(intro cl C s H fp;refine' ⟨Bx.out (zao (i:=0) zsx rfl (Or.inl rfl) (by first|exact .inl rfl|exact .inr rfl|assumption)),Bx.out zfv,Bx.out (zpz (zamt (K:=K) rfl) (bv 2) (zjq hu (bv 1) (bv 0) (fun _ _=>rfl)) (by rfl))⟩)
 exact fn_d (f:=zts) ((zba (zgm (zaca (zac (zad 1) zan)) (zgd (zbc (zbc zed))) (zii (zth (zja (zfx zti (zac (zeo (zcq (zbj (zac (zcf (zad 3)) zan))) zdf (zjf (by decide)) zhp (zaz zzy (zad 2) (zlu (zad 0)))) zan)))) (zde (se_c fun _=>zap)) zff)) (zde (se_c fun _=>zap)))) h
theorem zaek {f:Addr} {fd:q9} (F:Fun K "_law_due" "_law_due" zjl f fd) (T:Txt mg) (D_law_fits:zow P w K mg base):FnOk P w K mg base CX0 3 f fd ["_law_up_here", "_law_rules_here", "_law_call_here", "_law_own"] (spD 4 zfn):=by
 refine F.ok zaeh (fun vs H Q E h=>zdg h) (fun cdv A outer s H vs Q E hr h=>?_)
 have hu:=zgp hr
 apply Exists.intro
 apply And.intro
 ·refine' Bx.out (zai (zay (i:=4) zhc rfl (Or.inl rfl) (zgb zah) (by rfl) (.inl rfl))
 (zai (zdv qr rfl (zbh (K:=K) rfl (bv 1)) (zct (K:=K) (n:=2) rfl rfl (zau (zao (i:=5) zhc rfl (Or.inl rfl) (.inl rfl)) (zau (zao (i:=6) zhc rfl (Or.inr rfl) (.inl rfl)) zcs (by rfl)) (by rfl)) (by rfl) (by rfl))
  (zal (zdr (zaak (zcr (K:=K) rfl (zcd D_law_fits (hr.mono (by decide)) (by rfl) (zaa (bv 0) (zaa (bv 6) (zaa (bv 2) zah (by rfl)) (by rfl)) (by rfl)) (by decide) (zag (by rfl)) (by rfl)) (fun _=>rfl)) (zaak (zbz (zmf (K:=K) rfl hr.units) (bv 6) (bv 3) (zfs _)) (zacb (zcr (K:=K) rfl (zcd D_law_fits (hr.mono (by decide)) (by rfl) (zaa (bv 0) (zaa (bv 6) (zaa (bv 3) zah (by rfl)) (by rfl)) (by rfl)) (by decide) (zag (by rfl)) (by rfl)) (fun _=>rfl))))).pt (zal (zdm (zfh (K:=K) rfl qe qg qf zcn (bv 4) (zaa (zch (zaa (bv 5) (zaa (bv 6) zah (by rfl)) (by rfl))) zah (by rfl)) (by rfl) (by rfl) (by rfl) (zag (by rfl)) (by rfl)) (by rfl))) zby)) (by intro _;rfl))
 (zai (zay (i:=7) zhc rfl (Or.inl rfl) (zgb zah) (by rfl) (.inl rfl))
 (zai (zdv qr rfl (zbh (K:=K) rfl (bv 4)) (zct (K:=K) (n:=2) rfl rfl (zau (zao (i:=5) zhc rfl (Or.inl rfl) (.inl rfl)) (zau (zao (i:=6) zhc rfl (Or.inr rfl) (.inl rfl)) zcs (by rfl)) (by rfl)) (by rfl) (by rfl))
  (zal (zdr (zon (zcr (K:=K) rfl (zbm (znd (K:=K) rfl rfl) (by rfl) T.any zqb (zaa (zcw (zce (N':=["_law_one", "_law_other", "_law_up_here", "_law_kinds"]) (own:=["_law_one", "_law_other"]) (fr:=[0,6]) (by kernel_rfl)) rfl (zbh (K:=K) rfl (bv 4)) ?hb1 (by intro _;rfl)) zah (by rfl)) (by decide) (by decide) (zag (by rfl)) (by rfl)) (fun _=>rfl))) (zal (zdm (zfh (K:=K) rfl qe qg qf zcn (bv 7) (zaa (bv 5) zah (by rfl)) (by rfl) (by rfl) (by rfl) (zag (by rfl)) (by rfl)) (by rfl))) zby)) (by intro _;rfl))
 (zai (zdr (zbz (zni (K:=K) rfl hr.units) (zbm (zeb (K:=K) rfl) (by rfl) T.len zfo (zaa (bv 7) zah (by rfl)) (by decide) (by decide) (zag (by rfl)) (by rfl)) zaj (zfs _)) (zal (zbo (zch (zaa zfu zah (by rfl))))) zby)
 (zai (zdr (zbz (zni (K:=K) rfl hr.units) (zbm (zeb (K:=K) rfl) (by rfl) T.len zfo (zaa (bv 7) zah (by rfl)) (by decide) (by decide) (zag (by rfl)) (by rfl)) zaj (zfs _)) (zal (zbo (zch (zaa zfu (zaa (zbw (zdo (K:=K) rfl) (bv 7) zaj (fun _ _=>rfl)) zah (by rfl)) (by rfl))))) zby)
 (zal (zbo (zch (zaa zfu (zaa (zdd (zfg (K:=K) rfl) (by rfl) T.tuple zes (zaa (bv 7) zah (by rfl)) (by decide) (by decide) (zag (by rfl)) (by rfl)) zah (by rfl)) (by rfl)))))))))))
  case hb1=>(intro cl C s H fp;refine' ⟨Bx.out (zct (K:=K) (n:=2) rfl rfl (zau (zao (i:=0) zny rfl (Or.inl rfl) (by first|exact .inl rfl|exact .inr rfl|assumption)) (zau (zao (i:=1) zny rfl (Or.inl rfl) (by first|exact .inl rfl|exact .inr rfl|assumption)) zcs (by rfl)) (by rfl)) (by rfl) (by rfl)),Bx.out zfv,Bx.out (zaaj (zpz (zmf (K:=K) rfl hr.units) (bv 1) (bv 3) (zfs _)) (zaai (zcd D_law_fits (hr.mono (by decide)) (by rfl) (zaa (bv 2) (zaa (bv 3) (zaa (bv 1) zah (by rfl)) (by rfl)) (by rfl)) (by decide) (zag (by rfl)) (by rfl))))⟩)
 exact fn_d (f:=znt) ((zba (zbk (zih zan)) (zba (zgm (zcq (zad 1)) (zgd (zbc (zbc zed))) (zii (zagb (zja (zbj (zac (zad 0) (zac (zad 6) (zac (zad 2) zan))))) (zagb (st_t (zaz zsn (zad 6) (zad 3))) (zja (zbj (zac (zad 0) (zac (zad 6) (zac (zad 3) zan))))))) (zjy (zek (zac (zad 5) (zac (zad 6) zan)))) zff)) (zba (zbk (zih zan)) (zba (zgm (zcq (zad 4)) (zgd (zbc (zbc zed))) (zii (zth (zja (zfx zti (zac (zeo (zcq (zad 4)) (zgd (zbc (zbc zed))) (zng (zdl (by decide) (zdl (by decide) zjp))) zhp (zagc (zaz zsn (zad 1) (zad 3)) (zbj (zac (zad 2) (zac (zad 3) (zac (zad 1) zan)))))) zan)))) (zjy (zad 5)) zff)) (zba (zii (st_t (zaz zus (zfx zjx (zac (zad 7) zan)) (se_c fun _=>zaf))) (zde (zek (zac (se_c fun _=>zcc) zan))) zff) (zba (zii (st_t (zaz zus (zfx zjx (zac (zad 7) zan)) (se_c fun _=>zaf))) (zde (zek (zac (se_c fun _=>zcc) (zac (zcf (se_c fun _=>zaf)) zan)))) zff) (zde (zek (zac (se_c fun _=>zcc) (zac (zfx zjb (zac (zad 7) zan)) zan))))))))))) h
theorem zabc {f:Addr} {fd:q9} {cl:Str→Addr} (F:Fun K "_law_told" "_law_told" zie f fd) (T:Txt mg) (D_onward:zacw P w K mg base cl) (XK:XKit P w K mg base cl ["NoCall", "NoFit", "NoKind", "NoRule"] ["NoCall", "NoFit", "NoKind", "NoRule"] "CallError"):FnOk P w K mg base CX0 7 f fd ["_law_book", "_law_call_here", "_law_name"] (spD 3 zbe):=by
 refine F.ok zaaw (fun vs H Q E h=>zdg h) (fun cdv A outer s H vs Q E hr h=>?_)
 have hu:=zgp hr
 apply Exists.intro
 apply And.intro
 ·refine' Bx.out (zai (zay (i:=4) ziq rfl (Or.inl rfl) (zch (zaa zfu (zaa zfu zah (by rfl)) (by rfl))) (by rfl) (.inl rfl))
 (zai (zalp (i:=4) (j:=3) D_onward XK (hr.mono (by decide)) (by rfl) (zaa (bv 0) (zaa (bv 1) (zaa (bv 2) zah (by rfl)) (by rfl)) (by rfl)) ziq rfl rfl rfl rfl rfl rfl (by rfl) (fun _ _ _ hxm hxcl=>(zai (zay (i:=4) ziq rfl (Or.inl rfl) (zch (zaa (zbm (zkx (K:=K) rfl hxm hxcl) (by rfl) T.isinstance zdk (zaa (bv 3) (zaa (zqa (by rfl) (XK.mgk "NoRule" (by decide)) (by decide)) zah (by rfl)) (by rfl)) (by decide) (by decide) (zag (by rfl)) (by rfl)) (zaa (zbm (zkx (K:=K) rfl hxm hxcl) (by rfl) T.isinstance zdk (zaa (bv 3) (zaa (zqa (by rfl) (XK.mgk "NoCall" (by decide)) (by decide)) zah (by rfl)) (by rfl)) (by decide) (by decide) (zag (by rfl)) (by rfl)) (zaa (zbm (zkx (K:=K) rfl hxm hxcl) (by rfl) T.isinstance zdk (zaa (bv 3) (zaa (zqa (by rfl) (XK.mgk "NoKind" (by decide)) (by decide)) zah (by rfl)) (by rfl)) (by decide) (by decide) (zag (by rfl)) (by rfl)) (zaa (zbm (zkx (K:=K) rfl hxm hxcl) (by rfl) T.isinstance zdk (zaa (bv 3) (zaa (zqa (by rfl) (XK.mgk "NoFit" (by decide)) (by decide)) zah (by rfl)) (by rfl)) (by decide) (by decide) (zag (by rfl)) (by rfl)) (zaa (zalo (K:=K) rfl hxm (bv 3) (by rfl)) zah (by rfl)) (by rfl)) (by rfl)) (by rfl)) (by rfl))) (by rfl) (.inl rfl)) (zal (zay (i:=4) ziq rfl (Or.inl rfl) (zaw (zbu (K:=K) rfl) (bv 4) (zch (zaa (zbm (zkx (K:=K) rfl hxm hxcl) (by rfl) T.isinstance zdk (zaa (bv 3) (zaa (zvc (v:=.ty "ValueError") (by rfl) XK.mgV zkv rfl (by decide) (by decide)) zah (by rfl)) (by rfl)) (by decide) (by decide) (zag (by rfl)) (by rfl)) zah (by rfl)))) (by rfl) (.inl rfl))))) (by decide) (by decide) (zag (by rfl)) (by rfl) (by rfl))
 (zal (zbo (bv 4)))))
 exact fn_d (f:=zmh) ((zba (zbk (zek (zac (se_c fun _=>zcc) (zac (se_c fun _=>zcc) zan)))) (zba (zapn (cl:=cl) 5 (by decide) (zac (zad 0) (zac (zad 1) (zac (zad 2) zan))) (by intro xc hxc xd;exact (zapm (zahr (i:=4) (j:=3) (zahq (zlv (zvd (XK.kit xc hxc "NoRule" (by decide))) (zlv (zvd (XK.kit xc hxc "NoCall" (by decide))) (zlv (zvd (XK.kit xc hxc "NoKind" (by decide))) (zlv (zvd (XK.kit xc hxc "NoFit" (by decide))) (zlv zasy zahp)))))) (by decide)) (zahr (i:=4) (j:=3) (zasz zfa (zasw (zad 4)) (zahq (zlv (zapl (XK.val xc hxc)) zahp))) (by decide))))) zmt))) h
theorem zyz {f:Addr} {fd:q9} (F:Fun K "_law_asked" "_law_asked" zhd f fd) (T:Txt mg) (D_law_due:zyt P w K mg base) (D_law_fits:zow P w K mg base) (D_law_told:zox P w K mg base):FnOk P w K mg base CX0 8 f fd ["_law_book", "_law_up_here", "_law_call_here"] (spD 3 zcu):=by
 refine F.ok zyn (fun vs H Q E h=>zdg h) (fun cdv A outer s H vs Q E hr h=>?_)
 have hu:=zgp hr
 apply Exists.intro
 apply And.intro
 ·refine' Bx.out (zai (zdv qr rfl (zbh (K:=K) rfl (zbw (zdo (K:=K) rfl) (bv 0) zaj (fun _ _=>rfl))) (zct (K:=K) (n:=2) rfl rfl (zau (zao (i:=3) zhm rfl (Or.inl rfl) (.inl rfl)) (zau (zao (i:=4) zhm rfl (Or.inl rfl) (.inl rfl)) zcs (by rfl)) (by rfl)) (by rfl) (by rfl))
  (zai (zay (i:=5) zhm rfl (Or.inl rfl) (zch (zaa zdh (zaa zdh (zaa zdh (zaa zdh (zaa (bv 3) (zaa zdh zah (by rfl)) (by rfl)) (by rfl)) (by rfl)) (by rfl)) (by rfl))) (by rfl) (.inl rfl))
 (zai (zdr (zcr (K:=K) rfl (zcd D_law_fits (hr.mono (by decide)) (by rfl) (zaa (bv 1) (zaa (bv 4) (zaa (bv 2) zah (by rfl)) (by rfl)) (by rfl)) (by decide) (zag (by rfl)) (by rfl)) (fun _=>rfl)) (zal (zay (i:=5) zhm rfl (Or.inl rfl) (zch (zaa zfu (zaa (zcd D_law_due (hr.mono (by decide)) (by rfl) (zaa (bv 1) (zaa (zbw (zdo (K:=K) rfl) (bv 0) zaj (fun _ _=>rfl)) (zaa (bv 2) (zaa (bv 4) zah (by rfl)) (by rfl)) (by rfl)) (by rfl)) (by decide) (zag (by rfl)) (by rfl)) zah (by rfl)) (by rfl))) (by rfl) (.inl rfl))) zby)
 (zal (zdr (zanh (zbz (zmf (K:=K) rfl hr.units) (zcd D_law_told (hr.mono (by decide)) (by rfl) (zaa (bv 0) (zaa (bv 2) (zaa (bv 3) zah (by rfl)) (by rfl)) (by rfl)) (by decide) (zag (by rfl)) (by rfl)) (bv 5) (zfs _)) (zagz (zbz (zmf (K:=K) rfl hr.units) (zcd D_law_told (hr.mono (by decide)) (by rfl) (zaa (bv 0) (zaa (bv 2) (zaa (bv 3) zah (by rfl)) (by rfl)) (by rfl)) (by decide) (zag (by rfl)) (by rfl)) (bv 5) (zfs _)))).pt (zal (zbo zdh)) zby)))) (by intro _;rfl))
 (zal (zbo zdh)))
 exact fn_d (f:=zrk) ((zba (zgm (zcq (zcf (se_c fun _=>zaf))) (zgd (zbc (zbc zed))) (zba (zbk (zek (zac (se_c fun _=>zap) (zac (se_c fun _=>zap) (zac (se_c fun _=>zap) (zac (se_c fun _=>zap) (zac (zad 3) (zac (se_c fun _=>zap) zan)))))))) (zba (zii (zja (zbj (zac (zad 1) (zac (zad 4) (zac (zad 2) zan))))) (zbk (zek (zac (se_c fun _=>zcc) (zac (zbj (zac (zad 1) (zac (zcf (se_c fun _=>zaf)) (zac (zad 2) (zac (zad 4) zan))))) zan)))) zff) (zii (zash (st_t (zaz zsn (zbj (zac (zad 0) (zac (zad 2) (zac (zad 3) zan)))) (zad 5))) (st_t (zaz zsn (zbj (zac (zad 0) (zac (zad 2) (zac (zad 3) zan)))) (zad 5)))) (zde (se_c fun _=>zap)) zff)))) (zde (se_c fun _=>zap)))) h
theorem zsz {f:Addr} {fd:q9} (F:Fun K "_law_refused" "_law_refused" zfq f fd) (T:Txt mg) (D_law_parts:zis P w K mg base) (D_law_told:zox P w K mg base):FnOk P w K mg base CX0 8 f fd ["_law_book", "_law_call_here", "_law_title", "_law_odd", "_law_cells"] (spD 5 zep):=by
 refine F.ok zsv (fun vs H Q E h=>zdg h) (fun cdv A outer s H vs Q E hr h=>?_)
 have hu:=zgp hr
 apply Exists.intro
 apply And.intro
 ·refine' Bx.out (zai (zay (i:=5) zdb rfl (Or.inl rfl) (zaw zcz (zbw (zdo (K:=K) rfl) (bv 4) zaj (fun _ _=>rfl)) (zbm (zeb (K:=K) rfl) (by rfl) T.len zfo (zaa (bv 1) zah (by rfl)) (by decide) (by decide) (zag (by rfl)) (by rfl))) (by rfl) (.inl rfl))
 (zai (zay (i:=6) zdb rfl (Or.inl rfl) (zaw (zbu (K:=K) rfl) (zaw (zahn (K:=K) rfl) (zbx (sl_W (K:=K) rfl) (bv 1) zdn (zca (bv 5))) (zch (zaa (zbw (zdo (K:=K) rfl) (bv 3) zaj (fun _ _=>rfl)) zah (by rfl)))) (zbx (sl_W (K:=K) rfl) (bv 1) (zca (zaw (zbu (K:=K) rfl) (bv 5) zaj)) zdn)) (by rfl) (.inl rfl))
 (zai (zdr (zbz (zni (K:=K) rfl hr.units) (zaw zcz (zbw (zdo (K:=K) rfl) (bv 4) zaj (fun _ _=>rfl)) zaj) zaj (zfs _)) (zal (zay (i:=6) zdb rfl (Or.inl rfl) (zaw (zbu (K:=K) rfl) (zaw (zahn (K:=K) rfl) (zbx (sl_W (K:=K) rfl) (bv 1) zdn (zca (bv 5))) (zch (zaa (zdd (zfg (K:=K) rfl) (by rfl) T.tuple zes (zaa (zaw (zbu (K:=K) rfl) (zcd D_law_parts (hr.mono (by decide)) (by rfl) (zaa (zbw (zdo (K:=K) rfl) (bv 1) (bv 5) (fun _ _=>rfl)) zah (by rfl)) (by decide) (zag (by rfl)) (by rfl)) (bv 3)) zah (by rfl)) (by decide) (by decide) (zag (by rfl)) (by rfl)) zah (by rfl)))) (zbx (sl_W (K:=K) rfl) (bv 1) (zca (zaw (zbu (K:=K) rfl) (bv 5) zaj)) zdn)) (by rfl) (.inl rfl))) zby)
 (zai (zdv qr rfl (zbh (K:=K) rfl (zgb (zaa (bv 1) (zaa (bv 6) (zaa (zbx (sl_W (K:=K) rfl) (bv 1) (zca zaj) zdn) (zaa (zaw (zbu (K:=K) rfl) (bv 6) (zch (zaa (zbw (zdo (K:=K) rfl) (bv 3) zaj (fun _ _=>rfl)) zah (by rfl)))) zah (by rfl)) (by rfl)) (by rfl)) (by rfl)))) (zao (i:=7) zdb rfl (Or.inl rfl) (.inl rfl))
  (zal (zdr (zbz (zmf (K:=K) rfl hr.units) (zcd D_law_told (hr.mono (by decide)) (by rfl) (zaa (bv 0) (zaa (bv 7) (zaa (bv 2) zah (by rfl)) (by rfl)) (by rfl)) (by decide) (zag (by rfl)) (by rfl)) (zch (zaa zdh (zaa zdh (zaa zdh (zaa zdh (zaa (bv 2) (zaa zdh zah (by rfl)) (by rfl)) (by rfl)) (by rfl)) (by rfl)) (by rfl))) (zfs _)) (zal (zbo zdh)) zby)) (by intro _;rfl))
 (zai (zdv qr rfl (zbh (K:=K) rfl (zbw (zdo (K:=K) rfl) (bv 0) zaj (fun _ _=>rfl))) (zct (K:=K) (n:=2) rfl rfl (zau (zao (i:=8) zdb rfl (Or.inl rfl) (.inl rfl)) (zau (zao (i:=9) zdb rfl (Or.inl rfl) (.inl rfl)) zcs (by rfl)) (by rfl)) (by rfl) (by rfl))
  (zai (zdr (zbz (zmf (K:=K) rfl hr.units) (zcd D_law_told (hr.mono (by decide)) (by rfl) (zaa (bv 0) (zaa (bv 6) (zaa (bv 8) zah (by rfl)) (by rfl)) (by rfl)) (by decide) (zag (by rfl)) (by rfl)) (zch (zaa zdh (zaa zdh (zaa zdh (zaa zdh (zaa (zbw (zdo (K:=K) rfl) (bv 3) zaj (fun _ _=>rfl)) (zaa zdh zah (by rfl)) (by rfl)) (by rfl)) (by rfl)) (by rfl)) (by rfl))) (zfs _)) (zal (zbo zdh)) zby)
 (zal (zdv qr rfl (zbh (K:=K) rfl (zgb (zaa (zbx (sl_W (K:=K) rfl) (bv 1) (zca zaj) zdn) (zaa (zaw (zbu (K:=K) rfl) (bv 6) (zch (zaa (zbw (zdo (K:=K) rfl) (bv 3) zaj (fun _ _=>rfl)) zah (by rfl)))) zah (by rfl)) (by rfl)))) (zao (i:=7) zdb rfl (Or.inl rfl) (.inl rfl))
  (zal (zdr (zbz (zmf (K:=K) rfl hr.units) (zcd D_law_told (hr.mono (by decide)) (by rfl) (zaa (bv 0) (zaa (bv 7) (zaa (bv 8) zah (by rfl)) (by rfl)) (by rfl)) (by decide) (zag (by rfl)) (by rfl)) (zch (zaa zdh (zaa zdh (zaa zdh (zaa zdh (zaa zahb (zaa zdh zah (by rfl)) (by rfl)) (by rfl)) (by rfl)) (by rfl)) (by rfl))) (zfs _)) (zal (zbo zdh)) zby)) (by intro _;rfl)))) (by intro _;rfl))
 (zal (zbo zdh)))))))
 exact fn_d (f:=znu) ((zba (zbk (zaz zdy (zcf (se_c fun _=>zaf)) (zfx zjx (zac (zad 1) zan)))) (zba (zbk (zaz zfa (zaz zaho (ztl (zad 1) zew (zco (zad 5))) (zek (zac (zcf (se_c fun _=>zaf)) zan))) (ztl (zad 1) (zco (zaz zfa (zad 5) (se_c fun _=>zaf))) zew))) (zba (zii (st_t (zaz zus (zaz zdy (zcf (se_c fun _=>zaf)) (se_c fun _=>zaf)) (se_c fun _=>zaf))) (zbk (zaz zfa (zaz zaho (ztl (zad 1) zew (zco (zad 5))) (zek (zac (zfx zjb (zac (zaz zfa (zbj (zac (zcf (zad 5)) zan)) (zad 3)) zan)) zan))) (ztl (zad 1) (zco (zaz zfa (zad 5) (se_c fun _=>zaf))) zew))) zff) (zba (zgm (zcq (zih (zac (zad 1) (zac (zad 6) (zac (ztl (zad 1) (zco (se_c fun _=>zaf)) zew) (zac (zaz zfa (zad 6) (zek (zac (zcf (se_c fun _=>zaf)) zan))) zan)))))) zdf (zii (st_t (zaz zsn (zbj (zac (zad 0) (zac (zad 7) (zac (zad 2) zan)))) (zek (zac (se_c fun _=>zap) (zac (se_c fun _=>zap) (zac (se_c fun _=>zap) (zac (se_c fun _=>zap) (zac (zad 2) (zac (se_c fun _=>zap) zan))))))))) (zde (se_c fun _=>zap)) zff)) (zba (zgm (zcq (zcf (se_c fun _=>zaf))) (zgd (zbc (zbc zed))) (zba (zii (st_t (zaz zsn (zbj (zac (zad 0) (zac (zad 6) (zac (zad 8) zan)))) (zek (zac (se_c fun _=>zap) (zac (se_c fun _=>zap) (zac (se_c fun _=>zap) (zac (se_c fun _=>zap) (zac (zcf (se_c fun _=>zaf)) (zac (se_c fun _=>zap) zan))))))))) (zde (se_c fun _=>zap)) zff) (zgm (zcq (zih (zac (ztl (zad 1) (zco (se_c fun _=>zaf)) zew) (zac (zaz zfa (zad 6) (zek (zac (zcf (se_c fun _=>zaf)) zan))) zan)))) zdf (zii (st_t (zaz zsn (zbj (zac (zad 0) (zac (zad 7) (zac (zad 8) zan)))) (zek (zac (se_c fun _=>zap) (zac (se_c fun _=>zap) (zac (se_c fun _=>zap) (zac (se_c fun _=>zap) (zac (se_c fun _=>zls) (zac (se_c fun _=>zap) zan))))))))) (zde (se_c fun _=>zap)) zff)))) (zde (se_c fun _=>zap)))))))) h
end
inductive Arm where
 | one (n:Str)
 | many (ns:List Str)
def Arm.parts:Arm→List Str
 | .one n=>[n]
 | .many ns=>ns
def armD:Arm→PyData
 | .one n=>.str n
 | .many ns=>.tuple (ns.map .str)
def zaq (c:List Arm):PyData:=.tuple (c.map armD)
def zak (ks:List Str):PyData:=.tuple (ks.map .str)
def zcg (r:Str×List Str):PyData:=.tuple [.str r.1,zak r.2]
def zat (rs:List (Str×List Str)):PyData:=.list (rs.map zcg)
def zbn (W:Web) (p:Nat) (rs:List (Str×List Str)):PyData:=.tuple [webD W,.int p,zat rs]
theorem zev (a:Arm):zbf [armD a]=some (zae a.parts,true):=by
 cases a with
 | one n=>rfl
 | many ns=>rfl
theorem zsb {c:List Arm} (hc:c.length<300) (ha:∀ a∈c,a.parts.length<300):zfj [zaq c]=some (zae (c.flatMap Arm.parts),true):=by
 have k:zkt (gN 0) zcv (zas (zbb 1 zbf (zab (eVar 0) aNil))) (gN 1) zcv (eVar 1) [.no,.no] (c.map armD)=some (c.flatMap fun a=>a.parts.map .str):=by
  refine zrg fun a hm=>⟨[.pl (armD a),.no],rfl,rfl,?_⟩
  have e:zas (zbb 1 zbf (zab (eVar 0) aNil)) [.pl (armD a),.no]=some (a.parts.map .str,[]):=by
   unfold zas
   rw [zbv (n:=1) (rs:=[⟨armD a,false,[]⟩]) rfl rfl (zev a)]
   rfl
  unfold innL
  rw [e]
  show (if (a.parts.map PyData.str).length<300 then zej (gN 1) zcv (eVar 1) [.pl (armD a),.no] (a.parts.map .str) else none)=_
  rw [if_pos (by rw [qF];exact ha a hm)]
  exact zdi fun x _=>⟨[.pl (armD a),.pl (.str x)],rfl,rfl,vs x,rfl,rfl⟩
 have fl:(c.flatMap fun a=>a.parts.map PyData.str)=(c.flatMap Arm.parts).map .str:=by
  rw [List.map_flatMap]
 rw [fl] at k
 exact ziw (env:=[.pl (zaq c)]) rfl (zkz (zaly (own:=["arm", "name"]) (fr:=[]) (fi:=zas (eVar 0)) (ds:=c.map armD) (bs:=[]) rfl (by rw [qF];exact hc) k))
def upA (W:Web) (a:Arm):List Str:=a.parts.foldl (fun ks n=>(up W n).foldl insS ks) []
theorem zvx {W:Web} {a:Arm} {x:Str}:x∈upA W a↔∃ n∈a.parts,x∈up W n:=by
 unfold upA
 have:∀ (l ks:List Str),x∈l.foldl (fun ks n=>(up W n).foldl insS ks) ks↔x∈ks∨∃ n∈l,x∈up W n:=by
  intro l
  induction l with
  | nil=>intro ks;simp
  | cons n l ih=>intro ks;rw [qBW,ih,znp];simp [or_assoc]
 rw [this];simp
theorem zael {W:Web} (h:WebOk W) {a:Arm} (hk:∀ n∈a.parts,n∈nm W):zlc [.dict (dS zbi (ups W)),armD a]=some (zbi (upA W a),true):=by
 have nd:∀ (l ks:List Str),ks.Nodup→(∀ x∈ks,x∈nm W)→(l.foldl (fun ks n=>(up W n).foldl insS ks) ks).Nodup∧∀ x∈l.foldl (fun ks n=>(up W n).foldl insS ks) ks,x∈nm W:=by
  intro l
  induction l with
  | nil=>intro ks h1 h2;exact ⟨h1,h2⟩
  | cons n l ih =>
   intro ks h1 h2
   refine ih _ (zvg h1) fun x hx=>?_
   rcases znp.mp hx with z|z
   ·exact h2 x z
   ·exact zaco h z
 obtain ⟨env',lp,s3,rfl⟩:=zdu (enc:=PyData.str) (g:=gN 3) (body:=sUpd 2 (zdz 0 (eVar 3))) (l:=a.parts) (env:=[.pl (.dict (dS zbi (ups W))),.pl (armD a),.ac (zbi []),.no])
  (fun pre env=>∃ s3,env=[.pl (.dict (dS zbi (ups W))),.pl (armD a),.ac (zbi (pre.foldl (fun ks n=>(up W n).foldl insS ks) [])),s3]) ⟨_,rfl⟩ (by
   rintro pre n post env hp ⟨s3,rfl⟩
   have hn:n∈nm W:=hk n (by rw [← hp];simp)
   refine ⟨[.pl (.dict (dS zbi (ups W))),.pl (armD a),.ac (zbi (pre.foldl (fun ks n=>(up W n).foldl insS ks) [])),.pl (.str n)],[.pl (.dict (dS zbi (ups W))),.pl (armD a),.ac (zbi ((pre++[n]).foldl (fun ks n=>(up W n).foldl insS ks) [])),.pl (.str n)],rfl,.inl ?_,_,rfl⟩
   ·have l1:=zahv h n
    obtain ⟨n1,n2⟩:=nd pre [] qCC (by simp)
    have l2:=zkk _ _ n1 n2
    have l3:=zqm h
    have lz:(zix (pre.foldl (fun ks n=>(up W n).foldl insS ks) [])).length+(zix (up W n)).length≤100000:=by unfold zix;rw [qF,qF];omega
    simp only [sUpd,zbi,zdz,eVar,qAY,qAX,qD,keyD,zla,zly hn,qA7]
    rw [if_pos ⟨lz,by simp⟩,zmw,qBY]
    simp [frzs])
 exact ziw (env:=[.pl (.dict (dS zbi (ups W))),.pl (armD a),.no,.no]) rfl (zav rfl (zav (for_list (zbv (n:=1) (rs:=[⟨armD a,false,[]⟩]) rfl rfl (zev a)) lp) rfl))
theorem zsc {W:Web} (h:WebOk W) {c:List Arm} (hc:c.length<300) (hk:∀ a∈c,∀ n∈a.parts,n∈nm W):zfk [.dict (dS zbi (ups W)),zaq c]=some (.list (c.map fun a=>zbi (upA W a)),true):=by
 have k:zej (gN 0) zcv (zbb 2 zlc (zab (eVar 1) (zab (eVar 0) aNil))) [.no,.pl (.dict (dS zbi (ups W)))] (c.map armD)=some (c.map fun a=>zbi (upA W a)) :=
  zdi fun a hm=>⟨[.pl (armD a),.pl (.dict (dS zbi (ups W)))],rfl,rfl,_,zbv (n:=2) (rs:=[⟨.dict (dS zbi (ups W)),false,[]⟩,⟨armD a,false,[]⟩]) rfl rfl (zael h (hk a hm)),rfl⟩
 exact ziw (env:=[.pl (.dict (dS zbi (ups W))),.pl (zaq c)]) rfl (zkz (zex (own:=["arm"]) (fr:=[0]) (fi:=zas (eVar 1)) (ds:=c.map armD) (bs:=[]) rfl (by rw [qF];omega) k))
theorem zacy {α β:Type} (f:α→PyData) (g:β→PyData) (l:List α) (r:List β):List.zipWith (fun d e=>PyData.tuple [d,e]) (l.map f) (r.map g)=(l.zip r).map fun z=>PyData.tuple [f z.1,g z.2]:=by
 induction l generalizing r with
 | nil=>rfl
 | cons a l ih=>cases r with
  | nil=>rfl
  | cons b r=>rw [qY,qY,List.zipWith_cons_cons,ih,qBE,qY]
def fitB (W:Web) (ks:List Str) (c:List Arm):Bool:=(ks.zip c).all fun z=>decide (z.1∈upA W z.2)
theorem zza {W:Web} {ks:List Str} {c:List Arm} (hc:c.length<300):zhl [zak ks,.list (c.map fun a=>zbi (upA W a))]=some (.bool (fitB W ks c),false):=by
 have it:zaeb (zab (eVar 0) (zab (eVar 1) aNil)) [.pl (zak ks),.pl (.list (c.map fun a=>zbi (upA W a)))]=some ((ks.zip c).map fun z=>PyData.tuple [.str z.1,zbi (upA W z.2)],[]):=by
  show some (List.zipWith (fun d e=>PyData.tuple [d,e]) (ks.map .str) (c.map fun a=>zbi (upA W a)),[]++[])=_
  rw [zacy];rfl
 have k:zej (gT 2 (zar 0 (zar 1 zdc))) zcv (eDIn false (eVar 0) (eVar 1)) [.no,.no] ((ks.zip c).map fun z=>PyData.tuple [.str z.1,zbi (upA W z.2)])=some ((ks.zip c).map fun z=>.bool (decide (z.1∈upA W z.2))) :=
  zdi fun z _=>⟨[.pl (.str z.1),.pl (zbi (upA W z.2))],rfl,rfl,vb (decide (z.1∈upA W z.2)),zann (neg:=false) (fr:=false) (bs:=[]) rfl rfl,rfl⟩
 have lz:(ks.zip c).length≤c.length:=by rw [List.length_zip];exact Nat.min_le_right _ _
 exact ziw (env:=[.pl (zak ks),.pl (.list (c.map fun a=>zbi (upA W a)))]) rfl (zkz (bs:=[]) (zati (zex (own:=["kind", "roof"]) (fr:=[]) it (by rw [qF];omega) k)))
def zfr (W:Web) (ks ls:List Str):Bool:=!(ks==ls)&&(ks.zip ls).all fun z=>decide (z.2∈up W z.1)
theorem zvy:∀ (a b:List Str),PyData.eqvAll (a.map .str) (b.map .str)=(a==b)
 | [],[]=>rfl
 | [],_::_=>rfl
 | _::_,[]=>rfl
 | x::a,y::b=>by
  show (qAK (.str x) (.str y)&&PyData.eqvAll (a.map .str) (b.map .str))=_
  rw [zvy a b]
  show ((x==y)&&(a==b))=_
  rfl
def LowS (ks:List Str):Prop:=∀ k∈ks,qAF k=true
theorem zlm {ks:List Str} (h:LowS ks):qAD (zak ks)=true:=by
 obtain ⟨h1,h2⟩:=znr ks h
 unfold qAD zak
 rw [qAB]
 refine ⟨h1,decide_eq_true ?_⟩
 show qi (ks.map .str)+1≤64
 omega
theorem zvz {ks ls:List Str} (h1:LowS ks) (h2:LowS ls):neD (zak ks) (zak ls)=some (.bool (!(ks==ls)),false):=by
 unfold neD eqOk
 rw [zlm h1,zlm h2,Bool.and_self,qA4,if_pos rfl]
 show some (PyData.bool (!PyData.eqvAll (ks.map .str) (ls.map .str)),false)=_
 rw [zvy]
theorem zsd {W:Web} (h:WebOk W) {ks ls:List Str} (h1:LowS ks) (h2:LowS ls) (hk:∀ k∈ks,k∈nm W) (hl:ks.length<300):zfl [.dict (dS zbi (ups W)),zak ks,zak ls]=some (.bool (zfr W ks ls),false):=by
 have it:zaeb (zab (eVar 1) (zab (eVar 2) aNil)) [.pl (.dict (dS zbi (ups W))),.pl (zak ks),.pl (zak ls)]=some ((ks.zip ls).map fun z=>PyData.tuple [.str z.1,.str z.2],[]):=by
  show some (List.zipWith (fun d e=>PyData.tuple [d,e]) (ks.map .str) (ls.map .str),[]++[])=_
  rw [zacy];rfl
 have k:zej (gT 2 (zar 0 (zar 1 zdc))) zcv (eDIn false (eVar 1) (zdz 2 (eVar 0))) [.no,.no,.pl (.dict (dS zbi (ups W)))] ((ks.zip ls).map fun z=>PyData.tuple [.str z.1,.str z.2])=some ((ks.zip ls).map fun z=>.bool (decide (z.2∈up W z.1))) :=
  zdi fun z hz=>⟨[.pl (.str z.1),.pl (.str z.2),.pl (.dict (dS zbi (ups W)))],rfl,rfl,vb (decide (z.2∈up W z.1)),zann (neg:=false) (fr:=false) (bs:=[]) rfl (zaii (d:=zbi (up W z.1)) (.inl rfl) rfl (by rw [zla,zly (hk z.1 (qBG hz).1)];rfl)),rfl⟩
 have lz:(ks.zip ls).length≤ks.length:=by rw [List.length_zip];exact qBm _ _
 have e1:eOp neD (eVar 1) (eVar 2) [.pl (.dict (dS zbi (ups W))),.pl (zak ks),.pl (zak ls)]=some (vb (!(ks==ls))):=by
  show ((neD (zak ks) (zak ls)).bind fun z=>some (⟨z.1,z.2,bsOf z.1 ([]++[])⟩:Val))=_
  rw [zvz h1 h2];rfl
 have e2:=zati (f:=fun z:Str×Str=>decide (z.2∈up W z.1)) (zex (own:=["low", "high"]) (fr:=[0]) it (by rw [qF];omega) k)
 refine ziw (env:=[.pl (.dict (dS zbi (ups W))),.pl (zak ks),.pl (zak ls)]) rfl (zkz (bs:=[]) ?_)
 unfold eAnd
 rw [e1,qD]
 unfold zfr
 cases ks==ls with
 | true=>rfl
 | false=>exact e2
structure RulesOk (W:Web) (rs:List (Str×List Str)):Prop where
 low:∀ r∈rs,LowS r.2
 kinds:∀ r∈rs,∀ k∈r.2,k∈nm W
 few:∀ r∈rs,r.2.length<300
 len:rs.length<300
theorem RulesOk.filter {W:Web} {rs:List (Str×List Str)} (h:RulesOk W rs) (p:Str×List Str→Bool):RulesOk W (rs.filter p) :=
 ⟨fun r hr=>h.low r (qAJ.mp hr).1,fun r hr=>h.kinds r (qAJ.mp hr).1,fun r hr=>h.few r (qAJ.mp hr).1,qA6 (qAr _ _) h.len⟩
structure CallOk (W:Web) (c:List Arm):Prop where
 len:c.length<300
 few:∀ a∈c,a.parts.length<300
 kinds:∀ a∈c,∀ n∈a.parts,n∈nm W
def fitL (W:Web) (rs:List (Str×List Str)) (c:List Arm):List (Str×List Str):=rs.filter fun r=>fitB W r.2 c
def zoz (W:Web) (rs:List (Str×List Str)):List (Str×List Str):=rs.filter fun r=>!(rs.any fun q=>zfr W q.2 r.2)
theorem zob {n:Nat} {g:GF} {f:AF} {env:DEnv} {rs:List Val} {b:Bool} (h:f env=some rs) (hn:rs.length=n) (k:g (zhu rs)=some (.bool b,false)):tTru (zbb n g f) env=some b:=by
 unfold tTru;rw [zbv h hn k];rfl
theorem zama {α:Type} {f:α→Bool} {l:List α} {a:EF} {env:DEnv} {fr:Bool} {bs:List Nat} (ha:a env=some ⟨.list (l.map fun x=>.bool (f x)),fr,bs⟩):eCB (anyD fun bs=>bs.any id) (zab a aNil) env=some (vb (l.any f)):=by
 unfold eCB
 rw [zeq ha,qD]
 show ((zqr (l.map fun x=>.bool (f x))).map _).bind _=_
 rw [zrf]
 simp only [qA7,qD,qB6]
 rfl
theorem zzb {W:Web} (h:WebOk W) {rs:List (Str×List Str)} (hr:RulesOk W rs):zjc [.dict (dS zbi (ups W)),zat rs]=some (zat (zoz W rs),true):=by
 have hlen:=hr.len
 have k:zej (gN 0) (zkp (tTru (eCB (anyD fun bs=>bs.any id) (zab (zdt ["name", "kinds"] [0,1] (zas (eVar 2)) (gT 2 (zar 0 (zar 1 zdc))) zcv (zbb 3 zfl (zab (eVar 3) (zab (eVar 1) (zab (eIxV 2 (eC (.int 1))) aNil))))) aNil)))) (eVar 0) [.no,.pl (.dict (dS zbi (ups W))),.pl (zat rs)] (rs.map zcg)=some ((zoz W rs).map zcg):=by
  refine zfi (enc:=zcg) (out:=zcg) (e:=eVar 0) (fun r=>!(rs.any fun q=>zfr W q.2 r.2)) fun r hm=>⟨[.pl (zcg r),.pl (.dict (dS zbi (ups W))),.pl (zat rs)],rfl,?_,fun _=>⟨⟨zcg r,false,[]⟩,rfl,rfl⟩⟩
  have k2:zej (gT 2 (zar 0 (zar 1 zdc))) zcv (zbb 3 zfl (zab (eVar 3) (zab (eVar 1) (zab (eIxV 2 (eC (.int 1))) aNil)))) [.no,.no,.pl (zcg r),.pl (.dict (dS zbi (ups W)))] (rs.map zcg)=some (rs.map fun q=>.bool (zfr W q.2 r.2)) :=
   zdi fun q hq=>⟨[.pl (.str q.1),.pl (zak q.2),.pl (zcg r),.pl (.dict (dS zbi (ups W)))],rfl,rfl,_,zbv (n:=3) (rs:=[⟨.dict (dS zbi (ups W)),false,[]⟩,⟨zak q.2,false,[]⟩,⟨zak r.2,false,[]⟩]) rfl rfl (zsd h (hr.low q hq) (hr.low r hm) (hr.kinds q hq) (hr.few q hq)),rfl⟩
  exact zxx (zama (f:=fun q:Str×List Str=>zfr W q.2 r.2) (zex (own:=["name", "kinds"]) (fr:=[0,1]) (fi:=zas (eVar 2)) (env:=[.pl (zcg r),.pl (.dict (dS zbi (ups W))),.pl (zat rs)]) (ds:=rs.map zcg) (bs:=[]) rfl (by rw [qF];omega) k2))
 exact ziw (env:=[.pl (.dict (dS zbi (ups W))),.pl (zat rs)]) rfl (zkz (zex (own:=["rule"]) (fr:=[0,1]) (fi:=zas (eVar 1)) (ds:=rs.map zcg) (bs:=[]) rfl (by rw [qF];omega) k))
theorem zln {rs:List (Str×List Str)} (hl:rs.length<300):zem [zat rs]=some (zae (rs.map (·.1)),true):=by
 have k:zej (gT 2 (zar 0 (zar 1 zdc))) zcv (eVar 0) [.no,.no] (rs.map zcg)=some (rs.map fun r=>.str r.1):=zdi fun r _=>⟨[.pl (.str r.1),.pl (zak r.2)],rfl,rfl,vs r.1,rfl,rfl⟩
 have e:(rs.map fun r=>PyData.str r.1)=(rs.map (·.1)).map .str:=by rw [qBH];rfl
 rw [e] at k
 exact ziw (env:=[.pl (zat rs)]) rfl (zkz (zex (own:=["name", "kinds"]) (fr:=[]) (fi:=zas (eVar 0)) (ds:=rs.map zcg) (bs:=[]) rfl (by rw [qF];omega) k))
def zit:List Str→PyData
 | []=>.tuple [.str "none"]
 | [x]=>.tuple [.str "rule",.str x]
 | xs=>.tuple [.str "quarrel",zak xs]
theorem zabd:∀ (xs:List Str),zjv [zae xs]=some (zit xs,false)
 | []=>rfl
 | [x]=>rfl
 | x::y::xs=>by
  have t:zbg (eOp eqD (eCB lenD (zab (eVar 0) aNil)) (eC (.int 1))) [.pl (zae (x::y::xs))]=some false:=by
   rw [zfy (zst (i:=((x::y::xs).map PyData.str).length) (j:=1) (ztp rfl) rfl)]
   congr 1
  exact ziw (env:=[.pl (zae (x::y::xs))]) rfl (zav (if_f rfl rfl) (zav (if_f t rfl) rfl))
theorem zta {W:Web} (h:WebOk W) {rs:List (Str×List Str)} (hr:RulesOk W rs):zhi [.dict (dS zbi (ups W)),zat rs]=some (zit ((zoz W rs).map (·.1)),false) :=
 ziw (env:=[.pl (.dict (dS zbi (ups W))),.pl (zat rs)]) rfl (zkz (zbv (n:=1) (rs:=[⟨zae ((zoz W rs).map fun r:Str×List Str=>r.1),true,[]⟩]) (zeq (zbv (n:=1) (rs:=[⟨zat (zoz W rs),true,[]⟩]) (zeq (zbv (n:=2) (rs:=[⟨.dict (dS zbi (ups W)),false,[]⟩,⟨zat rs,false,[]⟩]) rfl rfl (zzb h hr))) rfl (zln (rs:=zoz W rs) (hr.filter _).len))) rfl (zabd _)))
def Two (x:Str):Prop:=∃ a b,∀ c∈x.cps.toList,c=a∨c=b
theorem zse {x:Str} {l u:Option Int} {c:Nat} (h:c∈(Txt.slice x l u).cps.toList):c∈x.cps.toList:=by
 unfold Txt.slice at h
 split at h
 ·exact h
 ·have h:c∈(List.filterMap (x.cps[·]?) (Builtin.Str.strSliceIndices l u 1 x.length)):=by simpa using h
  obtain ⟨i,_,e⟩:=qBs.mp h
  have:=qCz e
  simpa using this
theorem zacz {a b:EF} {env:DEnv} {x y:List Str} {f1 f2:Bool} {b1 b2:List Nat} (ha:a env=some ⟨zae x,f1,b1⟩) (hb:b env=some ⟨zae y,f2,b2⟩) (h:x.length+y.length≤100000):eOp addD a b env=some ⟨zae (x++y),true,b1++b2⟩:=by
 unfold eOp
 rw [ha,hb]
 show ((if (x.map PyData.str).length+(y.map PyData.str).length≤100000 then some (PyData.list (x.map .str++y.map .str),true) else none).bind fun z=>some (⟨z.1,z.2,bsOf z.1 (b1++b2)⟩:Val))=_
 rw [if_pos (by rw [qF,qF];exact h),← qv]
 rfl
theorem zzc {a:EF} {l h:PF'} {env:DEnv} {x y:List Str} {f:Bool} {bs:List Nat} {lo hi:Option Int} (ha:a env=some ⟨zae x,f,bs⟩) (hl:l env=some lo) (hh:h env=some hi) (e:cutD (x.map .str) lo hi=y.map .str):eSl a l h env=some ⟨zae y,true,bs⟩:=by
 unfold eSl
 rw [ha,hl,hh]
 show (some (PyData.list (cutD (x.map .str) lo hi),true)).bind (fun z=>some (⟨z.1,z.2,bsOf z.1 bs⟩:Val))=_
 rw [e]
 rfl
theorem zaiq {md o st at_:Int} {stem:Str} (h:∃ a,∀ x∈stem.cps.toList,x=a) (hst:0≤st) (k:Nat):Two (zju md o st stem at_ k):=by
 obtain ⟨a,ha⟩:=h
 have l1:∀ (z:Int) (x:Nat),x∈(ltr z).cps.toList→x=97+z.toNat:=fun z x hx=>by unfold ltr at hx;simpa using hx
 unfold zju
 split
 ·refine ⟨a,97+((o+st * k) % 26).toNat,fun x hx=>?_⟩
  rw [zjt,zjt] at hx
  rcases qp.mp hx with hx|hx
  ·rcases qp.mp hx with hx|hx
   ·exact .inl (ha x (zse hx))
   ·exact .inr (l1 _ x hx)
  ·exact .inl (ha x (zse hx))
 ·split
  ·refine ⟨a,97+((o+st * k) % 26).toNat,fun x hx=>?_⟩
   rw [zjt] at hx
   rcases qp.mp hx with hx|hx
   ·exact .inl (ha x (zse hx))
   ·exact .inr (l1 _ x hx)
  ·refine ⟨97+((o+(k:Int) / 8) % 26).toNat,0,fun x hx=>.inl ?_⟩
   unfold ltr at hx
   have:=qAO ((k:Int) * st) (show (8:Int)≠0 by decide)
   rw [znq (by omega)] at hx
   exact qBz hx
def zey:List Str:=["none", "rule", "quarrel", "near", "far", "out"]
theorem zpa {x:Str} {a b c:Nat} (h1:a∈x.cps.toList) (h2:b∈x.cps.toList) (h3:c∈x.cps.toList) (n1:a≠b) (n2:a≠c) (n3:b≠c):¬ Two x:=by
 rintro ⟨p,q,h⟩
 have:=h a h1
 have:=h b h2
 have:=h c h3
 omega
theorem zaem:∀ x∈zey,¬ Two x:=by
 intro x hx
 unfold zey at hx
 simp only [qX,qAv,or_false] at hx
 rcases hx with rfl|rfl|rfl|rfl|rfl|rfl
 ·exact zpa (a:=110) (b:=111) (c:=101) (by decide +kernel) (by decide +kernel) (by decide +kernel) (by decide) (by decide) (by decide)
 ·exact zpa (a:=114) (b:=117) (c:=108) (by decide +kernel) (by decide +kernel) (by decide +kernel) (by decide) (by decide) (by decide)
 ·exact zpa (a:=113) (b:=117) (c:=97) (by decide +kernel) (by decide +kernel) (by decide +kernel) (by decide) (by decide) (by decide)
 ·exact zpa (a:=110) (b:=101) (c:=97) (by decide +kernel) (by decide +kernel) (by decide +kernel) (by decide) (by decide) (by decide)
 ·exact zpa (a:=102) (b:=97) (c:=114) (by decide +kernel) (by decide +kernel) (by decide +kernel) (by decide) (by decide) (by decide)
 ·exact zpa (a:=111) (b:=117) (c:=116) (by decide +kernel) (by decide +kernel) (by decide +kernel) (by decide) (by decide) (by decide)
theorem zamb:zey.Nodup:=by decide +kernel
theorem zair:∀ x∈zey,Low x:=by
 intro x hx
 unfold zey at hx
 simp only [qX,qAv,or_false] at hx
 unfold Low
 rcases hx with rfl|rfl|rfl|rfl|rfl|rfl<;>decide +kernel
theorem zsf (ds:List PyData) (k:Nat):cutD ds (some (k:Int)) none=ds.drop k:=by
 unfold cutD
 have e1:HT.sIx ds.length ds.length none=ds.length:=rfl
 rw [e1,HT.sIx_nat]
 rcases Nat.le_total k ds.length with h|h
 ·rw [Nat.min_eq_left h,qCu (by rw [qAI];exact qJ _)]
 ·rw [Nat.min_eq_right h,qBC,qCx h,List.take_nil]
theorem zais:∀ x∈zey,x.length≤20:=by decide +kernel
theorem zoc {m c:Int} (m0:0≤m) (m16:m≤16) (c0:0≤c):∃ xs:List Str,zdj [.int m,.int c]=some (zae xs,true)∧xs.length=m.toNat∧xs.Nodup∧∀ x∈xs,Low x∧x.length≤20:=by
 have md:∀ (z j:Int),0<j→0≤z % j∧z % j<j:=fun z j hj=>⟨qAO z (by omega),qAV z hj⟩
 have i8:=md (c / 3) 8 (by decide)
 obtain ⟨st,hst,hmem⟩:=zapy i8.1 i8.2
 have st0:0≤st∧st<100:=by
  simp only [qX,qBd,or_false] at hmem
  rcases hmem with rfl|rfl|rfl|rfl|rfl|rfl|rfl|rfl<;>decide
 have o26:=md (c / 24) 26 (by decide)
 have j26:=md (c / 624) 26 (by decide)
 have n8:=md (c / 16224) 8 (by decide)
 have lowS:Low (Txt.mul (ltr (c / 624 % 26)) (c / 16224 % 8)):=Low.mul (by omega) n8.1
 have lenS:(Txt.mul (ltr (c / 624 % 26)) (c / 16224 % 8)).length≤7:=by unfold ltr;rw [zahy n8.1];omega
 have s3:sSet 3 (eOp ixD (eTup (zab (eC (.int 1)) (zab (eC (.int 3)) (zab (eC (.int 5)) (zab (eC (.int 7)) (zab (eC (.int 9)) (zab (eC (.int 11)) (zab (eC (.int 15)) (zab (eC (.int 17)) aNil))))))))) (eOp modD (eOp zcy (eVar 1) (eC (.int 3))) (eC (.int 8)))) [.pl (.int m),.pl (.int c),.pl (.str abc),.no,.no,.no,.no,.no,.no,.no,.no,.no]=some (.nx [.pl (.int m),.pl (.int c),.pl (.str abc),.pl (.int st),.no,.no,.no,.no,.no,.no,.no,.no]):=by
  refine zcl (r:=vi st) ?_
  unfold eOp
  show ((some (⟨.tuple [PyData.int 1,.int 3,.int 5,.int 7,.int 9,.int 11,.int 15,.int 17],false,[]⟩:Val)).bind fun x=>((some (vi (c / 3 % 8))).bind fun y=>(ixD x.d y.d).bind fun z=>some (⟨z.1,z.2,bsOf z.1 (x.bs++y.bs)⟩:Val)))=_
  simp only [qD,ixD]
  rw [hst];rfl
 have s5:sSet 5 (eOp mulD (eIxV 2 (eOp modD (eOp zcy (eVar 1) (eC (.int 624))) (eC (.int 26)))) (eOp modD (eOp zcy (eVar 1) (eC (.int 16224))) (eC (.int 8)))) [.pl (.int m),.pl (.int c),.pl (.str abc),.pl (.int st),.pl (.int (c / 24 % 26)),.no,.no,.no,.no,.no,.no,.no] =
   some (.nx [.pl (.int m),.pl (.int c),.pl (.str abc),.pl (.int st),.pl (.int (c / 24 % 26)),.pl (.str (Txt.mul (ltr (c / 624 % 26)) (c / 16224 % 8))),.no,.no,.no,.no,.no,.no]) :=
  zcl (r:=vs _) (zanl (zapx rfl rfl j26.1 j26.2) rfl ⟨by show 1≤1000;decide,by omega,by omega⟩)
 have oneS:∃ a,∀ x∈(Txt.mul (ltr (c / 624 % 26)) (c / 16224 % 8)).cps.toList,x=a:=⟨_,fun x hx=>by
  unfold ltr at hx
  rw [znq n8.1] at hx
  exact qBz hx⟩
 generalize hO:c / 24 % 26=o at o26 s5
 generalize Txt.mul (ltr (c / 624 % 26)) (c / 16224 % 8)=stem at lowS lenS s5 oneS
 clear j26 n8 i8
 have s6:∃ at_:Int,sSet 6 (eOp modD (eOp zcy (eVar 1) (eC (.int 129792))) (eOp addD (eCB lenD (zab (eVar 5) aNil)) (eC (.int 1)))) [.pl (.int m),.pl (.int c),.pl (.str abc),.pl (.int st),.pl (.int o),.pl (.str stem),.no,.no,.no,.no,.no,.no]=some (.nx [.pl (.int m),.pl (.int c),.pl (.str abc),.pl (.int st),.pl (.int o),.pl (.str stem),.pl (.int at_),.no,.no,.no,.no,.no]) :=
  ⟨_,zcl (r:=vi _) (zhk rfl (zvi (zanm rfl (by omega)) rfl) (by omega))⟩
 obtain ⟨at_,s6⟩:=s6
 have loop:∃ env',forL (gN 8) (sSeq (sSet 9 (eIxV 2 (eOp modD (eOp addD (eVar 4) (eOp mulD (eVar 3) (eVar 8))) (eC (.int 26)))))
  (sIf (zbg (eOp eqD (eOp modD (eVar 1) (eC (.int 3))) (eC (.int 0)))) (sApp 7 (eOp addD (eOp addD (eSl (eVar 5) zcm (zbl (eVar 6))) (eVar 9)) (eSl (eVar 5) (zbl (eVar 6)) zcm))) (sIf (zbg (eOp eqD (eOp modD (eVar 1) (eC (.int 3))) (eC (.int 1)))) (sApp 7 (eOp addD (eSl (eVar 5) zcm (zbl (eOp modD (eOp mulD (eVar 8) (eVar 3)) (eOp addD (eCB lenD (zab (eVar 5) aNil)) (eC (.int 1)))))) (eVar 9))) (sApp 7 (eOp mulD (eIxV 2 (eOp modD (eOp addD (eVar 4) (eOp zcy (eVar 8) (eC (.int 8)))) (eC (.int 26)))) (eOp addD (eC (.int 1)) (eOp modD (eOp mulD (eVar 8) (eVar 3)) (eC (.int 8)))))))))
   ((List.range m.toNat).map fun (k:Nat)=>PyData.int (k:Int)) [.pl (.int m),.pl (.int c),.pl (.str abc),.pl (.int st),.pl (.int o),.pl (.str stem),.pl (.int at_),.ac (.list []),.no,.no,.no,.no]=some (.nx env') ∧
   ∃ s8 s9,env'=[.pl (.int m),.pl (.int c),.pl (.str abc),.pl (.int st),.pl (.int o),.pl (.str stem),.pl (.int at_),.ac (zae ((List.range m.toNat).map (zju (c % 3) o st stem at_))),s8,s9,.no,.no]:=by
  refine zdu (fun pre env=>∃ s8 s9,env=[.pl (.int m),.pl (.int c),.pl (.str abc),.pl (.int st),.pl (.int o),.pl (.str stem),.pl (.int at_),.ac (zae (pre.map (zju (c % 3) o st stem at_))),s8,s9,.no,.no]) ⟨_,_,rfl⟩ ?_
  rintro pre k post env hk ⟨s8,s9,rfl⟩
  have hkm:k<m.toNat:=qAq.mp (by rw [← hk];simp)
  have hpl:pre.length<100:=by
   have:=congrArg List.length hk
   simp at this
   omega
  have b1:0≤st * (k:Int):=qCo st0.1 (Int.natCast_nonneg _)
  have s26:=md (o+st * (k:Int)) 26 (by decide)
  have sl:∀ a b,(Txt.slice stem a b).length≤7:=fun a b=>qAG (Txt.slice_le stem a b) lenS
  have lz:stem.length≤100000:=qAG lenS (by decide)
  have l1:(ltr ((o+st * (k:Int)) % 26)).length=1:=rfl
  refine ⟨_,[.pl (.int m),.pl (.int c),.pl (.str abc),.pl (.int st),.pl (.int o),.pl (.str stem),.pl (.int at_),.ac (zae ((pre++[k]).map (zju (c % 3) o st stem at_))),.pl (.int (k:Int)),.pl (.str (ltr ((o+st * (k:Int)) % 26))),.no,.no],rfl,.inl ?_,_,_,rfl⟩
  refine zav (zcl (r:=vs _) (zapx rfl (zhk (zvi rfl (zalv rfl rfl (.inl ⟨by omega,by omega⟩))) rfl (by decide)) s26.1 s26.2)) ?_
  have fin:∀ x:Str,x=zju (c % 3) o st stem at_ k→(PyData.list ((pre.map (zju (c % 3) o st stem at_)).map PyData.str++[.str x]))=zae ((pre++[k]).map (zju (c % 3) o st stem at_)):=fun x e=>by
   unfold zae
   rw [qv,qv,e];rfl
  have lp:((pre.map (zju (c % 3) o st stem at_)).map PyData.str).length<100000:=by rw [qF,qF];exact qDA hpl (by decide)
  by_cases h0:c % 3=0
  ·refine if_t (zfy (by rw [zst (zhk rfl rfl (by decide)) rfl];rw [h0];rfl)) ?_
   have z1:=sl none (some at_)
   have z2:=sl (some at_) none
   refine (zpd rfl (zaie (zaie (zapu rfl rfl (zkb rfl) lz) rfl (by omega)) (zapu rfl (zkb rfl) rfl lz) (by rw [zvj];omega)) lp).trans ?_
   rw [fin _ (by unfold zju;rw [if_pos h0])];rfl
  ·refine if_f (zfy (by rw [zst (zhk rfl rfl (by decide)) rfl];rw [beq_eq_false_iff_ne.mpr h0])) ?_
   by_cases h1:c % 3=1
   ·refine if_t (zfy (by rw [zst (zhk rfl rfl (by decide)) rfl];rw [h1];rfl)) ?_
    have z1:=sl none (some ((k:Int) * st % ((stem.length:Int)+1)))
    refine (zpd rfl (zaie (zapu rfl rfl (zkb (zhk (zalv rfl rfl (.inr ⟨by omega,by omega⟩)) (zvi (zanm rfl lz) rfl) (by omega))) lz) rfl (by omega)) lp).trans ?_
    rw [fin _ (by unfold zju;rw [if_neg h0,if_pos h1])];rfl
   ·refine if_f (zfy (by rw [zst (zhk rfl rfl (by decide)) rfl];rw [beq_eq_false_iff_ne.mpr h1])) ?_
    have t26:=md (o+(k:Int) / 8) 26 (by decide)
    have u8:=md ((k:Int) * st) 8 (by decide)
    refine (zpd rfl (zanl (zapx rfl (zhk (zvi rfl (zlb rfl rfl (by decide) (by decide))) rfl (by decide)) t26.1 t26.2) (zvi rfl (zhk (zalv rfl rfl (.inr ⟨by omega,by omega⟩)) rfl (by decide))) ⟨by show 1≤1000;decide,by omega,by omega⟩) lp).trans ?_
    rw [fin _ (by unfold zju;rw [if_neg h0,if_neg h1])];rfl
 obtain ⟨env',hl,s8,s9,rfl⟩:=loop
 generalize hN:(List.range m.toNat).map (zju (c % 3) o st stem at_)=xs at hl
 have lx:xs.length=m.toNat:=by rw [← hN];simp
 have nx:xs.Nodup:=by rw [← hN];exact zrc fun a b ha hb e=>zaic hmem o26.1 (by omega) (by omega) e
 have lo:∀ x∈xs,Low x∧x.length≤20:=fun x hx=>by
  rw [← hN] at hx
  obtain ⟨j,_,rfl⟩:=qz.mp hx
  refine ⟨zaid lowS o26.1 st0.1 j,?_⟩
  have sl:∀ a b,(Txt.slice stem a b).length≤7:=fun a b=>qAG (Txt.slice_le stem a b) lenS
  have l1:∀ i,(ltr i).length=1:=fun _=>rfl
  unfold zju
  split
  ·rw [zvj,zvj,l1]
   have h1:=sl none (some at_);have h2:=sl (some at_) none
   omega
  ·split
   ·rw [zvj,l1]
    have h1:=sl none (some ((j:Int) * st % ((stem.length:Int)+1)))
    omega
   ·have u8:=md ((j:Int) * st) 8 (by decide)
    unfold ltr
    rw [zahy (by omega)]
    omega
 have tw:∀ x∈xs,Two x:=fun x hx=>by
  rw [← hN] at hx
  obtain ⟨j,_,rfl⟩:=qz.mp hx
  exact zaiq oneS st0.1 j
 have it:zho (zab (eVar 0) aNil) [.pl (.int m),.pl (.int c),.pl (.str abc),.pl (.int st),.pl (.int o),.pl (.str stem),.pl (.int at_),.ac (.list []),.no,.no,.no,.no]=some ((List.range m.toNat).map fun (k:Nat)=>PyData.int (k:Int),[]):=by
  unfold zho
  rw [zeq (r:=vi m) rfl]
  simp only [qD]
  rw [if_pos ⟨by omega,by omega⟩,zrd]
 have run:∀ o',(sSeq (sIf (zbg (eOp eqD (eOp modD (eOp zcy (eVar 1) (eC (.int 1038336))) (eC (.int 6))) (eC (.int 5)))) (sSeq (sSet 10 (eLst (zab (eC (.str "none")) (zab (eC (.str "rule")) (zab (eC (.str "quarrel")) (zab (eC (.str "near")) (zab (eC (.str "far")) (zab (eC (.str "out")) aNil))))))))
  (sSeq (sSet 11 (eOp modD (eOp zcy (eVar 1) (eC (.int 6230016))) (eC (.int 6))))
  (sSet 7 (eSl (eOp addD (eOp addD (eSl (eVar 10) (zbl (eVar 11)) zcm) (eSl (eVar 10) zcm (zbl (eVar 11)))) (eSl (eVar 7) (zbl (eC (.int 6))) zcm)) zcm (zbl (eVar 0)))))) sNil)
  (zsp 7)) [.pl (.int m),.pl (.int c),.pl (.str abc),.pl (.int st),.pl (.int o),.pl (.str stem),.pl (.int at_),.ac (zae xs),s8,s9,.no,.no]=o'→(zil [.pl (.int m),.pl (.int c),.no,.no,.no,.no,.no,.no,.no,.no,.no,.no]=o'):=fun o' e =>
  zav rfl (zav s3 (zav (e1:=[.pl (.int m),.pl (.int c),.pl (.str abc),.pl (.int st),.pl (.int o),.no,.no,.no,.no,.no,.no,.no]) (by rw [← hO];rfl) (zav s5 (zav s6 (zav rfl (zav (zhq it hl) e))))))
 have t1:zbg (eOp eqD (eOp modD (eOp zcy (eVar 1) (eC (.int 1038336))) (eC (.int 6))) (eC (.int 5))) [.pl (.int m),.pl (.int c),.pl (.str abc),.pl (.int st),.pl (.int o),.pl (.str stem),.pl (.int at_),.ac (zae xs),s8,s9,.no,.no]=some (c / 1038336 % 6==5):=zfy (zst (zhk (zlb rfl rfl (by decide) (by decide)) rfl (by decide)) rfl)
 cases hb:(c / 1038336 % 6==5) with
 | false =>
  rw [hb] at t1
  exact ⟨xs,ziw (env:=[.pl (.int m),.pl (.int c),.no,.no,.no,.no,.no,.no,.no,.no,.no,.no]) rfl (run _ (zav (if_f t1 rfl) rfl)),lx,nx,lo⟩
 | true =>
  rw [hb] at t1
  have m6:=md (c / 6230016) 6 (by decide)
  obtain ⟨q,hq,q6⟩:∃ q:Nat,c / 6230016 % 6=(q:Int)∧q≤6:=⟨(c / 6230016 % 6).toNat,by omega,by omega⟩
  have e11:sSet 11 (eOp modD (eOp zcy (eVar 1) (eC (.int 6230016))) (eC (.int 6))) [.pl (.int m),.pl (.int c),.pl (.str abc),.pl (.int st),.pl (.int o),.pl (.str stem),.pl (.int at_),.ac (zae xs),s8,s9,.ac (zae zey),.no]=some (.nx [.pl (.int m),.pl (.int c),.pl (.str abc),.pl (.int st),.pl (.int o),.pl (.str stem),.pl (.int at_),.ac (zae xs),s8,s9,.ac (zae zey),.pl (.int (q:Int))]):=by
   rw [← hq]
   exact zcl (r:=vi _) (zhk (zlb rfl rfl (by decide) (by decide)) rfl (by decide))
  have cutW1:cutD (zey.map .str) (some (q:Int)) none=(zey.drop q).map .str:=by rw [zsf,qBg]
  have cutW2:cutD (zey.map .str) none (some (q:Int))=(zey.take q).map .str:=by rw [zre _ _ (by simpa [zey] using q6),qBS]
  have cutX:cutD (xs.map .str) (some ((6:Nat):Int)) none=(xs.drop 6).map .str:=by rw [zsf,qBg]
  have lW:(zey.drop q++zey.take q).length=6:=by rw [qW,qAI,qAH];show 6 - q+min q 6=6;omega
  have lR:((zey.drop q++zey.take q)++xs.drop 6).length≥m.toNat:=by rw [qW,lW,qAI,lx];omega
  have cutM:cutD (((zey.drop q++zey.take q)++xs.drop 6).map .str) none (some (m.toNat:Int))=(((zey.drop q++zey.take q)++xs.drop 6).take m.toNat).map .str:=by rw [zre _ _ (by rw [qF];exact lR),qBS]
  have hm:(m.toNat:Int)=m:=by omega
  rw [hm] at cutM
  have wl:(zey.drop q).length+(zey.take q).length≤100000:=by rw [← qW,lW];decide
  have a12:eOp addD (eSl (eVar 10) (zbl (eVar 11)) zcm) (eSl (eVar 10) zcm (zbl (eVar 11))) [.pl (.int m),.pl (.int c),.pl (.str abc),.pl (.int st),.pl (.int o),.pl (.str stem),.pl (.int at_),.ac (zae xs),s8,s9,.ac (zae zey),.pl (.int (q:Int))]=some ⟨zae (zey.drop q++zey.take q),true,[10]++[10]⟩ :=
   zacz (zzc (x:=zey) (f:=false) (bs:=[10]) rfl (zkb (i:=(q:Int)) rfl) rfl cutW1) (zzc (x:=zey) (f:=false) (bs:=[10]) rfl rfl (zkb (i:=(q:Int)) rfl) cutW2) wl
  have a3:eSl (eVar 7) (zbl (eC (.int 6))) zcm [.pl (.int m),.pl (.int c),.pl (.str abc),.pl (.int st),.pl (.int o),.pl (.str stem),.pl (.int at_),.ac (zae xs),s8,s9,.ac (zae zey),.pl (.int (q:Int))]=some ⟨zae (xs.drop 6),true,[7]⟩:=zzc (x:=xs) (f:=false) (bs:=[7]) rfl (zkb (i:=((6:Nat):Int)) rfl) rfl cutX
  have a4:=zzc (l:=zcm) (h:=zbl (eVar 0)) (zacz a12 a3 (by rw [lW,qAI,lx];omega)) rfl (zkb (i:=m) rfl) cutM
  refine ⟨((zey.drop q++zey.take q)++xs.drop 6).take m.toNat,ziw (env:=[.pl (.int m),.pl (.int c),.no,.no,.no,.no,.no,.no,.no,.no,.no,.no]) rfl (run _ (zav (if_t t1 (zav rfl (zav e11 (zcl a4)))) rfl)),by rw [qAH];omega,?_,fun x hx=>?_⟩
  ·refine List.Nodup.sublist (qBy _ _) ?_
   have pw:(zey.drop q++zey.take q).Perm zey:=by
    have:=List.perm_append_comm (l₁:=zey.drop q) (l₂:=zey.take q)
    rwa [qC3] at this
   refine qAj.mpr ⟨pw.nodup_iff.mpr zamb,nx.sublist (List.drop_sublist _ _),fun a ha b hb e=>?_⟩
   subst e
   exact zaem a (pw.mem_iff.mp ha) (tw a (qAb hb))
  ·rcases qp.mp (qAa hx) with z|z
   ·have hw:x∈zey:=?_
    exact ⟨zair x hw,zais x hw⟩
    rcases qp.mp z with z|z
    ·exact qAb z
    ·exact qAa z
   ·exact lo x (qAb z)
theorem zzd {α:Type} (enc:α→PyData) (l:List α):zsq (l.map enc)=((List.range l.length).zip l).map fun z=>PyData.tuple [.int (z.1:Nat),enc z.2]:=by
 rw [zacr]
 have:∀ (l:List α) (k:Nat),(l.zipIdx k).map (fun (p:α×Nat)=>PyData.tuple [.int (p.2:Int),enc p.1])=(((List.range l.length).map (·+k)).zip l).map fun z=>PyData.tuple [.int (z.1:Nat),enc z.2]:=by
  intro l
  induction l with
  | nil=>intro k;rfl
  | cons x l ih =>
   intro k
   rw [qCS,qY,ih,qAN,qCv,qY,qBE,qY,qB9]
   congr 3
   rw [qBH]
   refine qBj fun j _=>?_
   show j+(k+1)=j+1+k
   omega
 rw [this l 0]
 simp
theorem zmb {W:Web} (h:WebOk W) {ks:List Str} {c:List Arm} (hc:CallOk W c) (hl:ks.length≤c.length):zcb [.dict (dS zae (ups W)),zak ks,zaq c]=some (.bool (fitB W ks c),false):=by
 have it:zxm (zab (eVar 1) aNil) [.pl (.dict (dS zae (ups W))),.pl (zak ks),.pl (zaq c),.no,.no]=some (((List.range ks.length).zip ks).map fun z=>PyData.tuple [.int (z.1:Nat),.str z.2],[]):=by
  show some (zsq (ks.map .str),[])=_
  rw [zzd]
 have key:=zxq (enc:=fun z:Nat×Str=>PyData.tuple [.int (z.1:Nat),.str z.2]) (g:=gT 2 (zar 3 (zar 4 zdc))) (body:=sIf (zkp (tTru (eCB (anyD fun bs=>bs.any id) (zab (zdt ["_law_name"] [0,4] (zas (zbb 1 zbf (zab (eIxV 2 (eVar 3)) aNil))) (gN 0) zcv (eOp (inD false) (eVar 2) (zdz 1 (eVar 0)))) aNil)))) (sRet (eC (.bool false))) sNil)
  (fun z=>(c[z.1]?).elim false fun a=>decide (z.2∈upA W a)) (.bool false) false (fun env=>∃ s3 s4,env=[.pl (.dict (dS zae (ups W))),.pl (zak ks),.pl (zaq c),s3,s4]) ((List.range ks.length).zip ks) [.pl (.dict (dS zae (ups W))),.pl (zak ks),.pl (zaq c),.no,.no] ⟨_,_,rfl⟩ (by
   rintro ⟨i,k⟩ hz env ⟨s3,s4,rfl⟩
   have hi:i<c.length:=by
    have:=qAq.mp (qBG hz).1
    omega
   have ha:c[i]∈c:=qAe _
   refine ⟨[.pl (.dict (dS zae (ups W))),.pl (zak ks),.pl (zaq c),.pl (.int (i:Nat)),.pl (.str k)],rfl,?_⟩
   have ix:eIxV 2 (eVar 3) [.pl (.dict (dS zae (ups W))),.pl (zak ks),.pl (zaq c),.pl (.int (i:Nat)),.pl (.str k)]=some ⟨armD c[i],false,[]⟩:=by
    show ((ixD (.tuple (c.map armD)) (.int (i:Nat))).bind fun z=>some (⟨z.1,z.2,bsOf z.1 ([]++[])⟩:Val))=_
    simp only [ixD]
    rw [zmn (v:=armD c[i]) (by rw [qT,qH hi];rfl)]
    simp only [qA7,qD]
    cases c[i]<;>rfl
   have itp:zas (zbb 1 zbf (zab (eIxV 2 (eVar 3)) aNil)) [.pl (.dict (dS zae (ups W))),.pl (zak ks),.pl (zaq c),.pl (.int (i:Nat)),.pl (.str k)]=some (c[i].parts.map .str,[]):=by
    unfold zas
    rw [zbv (n:=1) (rs:=[⟨armD c[i],false,[]⟩]) (zeq ix) rfl (zev c[i])]
    rfl
   have k2:zej (gN 0) zcv (eOp (inD false) (eVar 2) (zdz 1 (eVar 0))) [.no,.pl (.dict (dS zae (ups W))),.pl (.str k)] (c[i].parts.map .str)=some (c[i].parts.map fun n=>.bool (decide (k∈up W n))) :=
    zdi fun n hn=>⟨[.pl (.str n),.pl (.dict (dS zae (ups W))),.pl (.str k)],rfl,rfl,vb (decide (k∈up W n)),e_in (neg:=false) (fr:=false) (bs:=[]) rfl (zaii (d:=zae (up W n)) (.inl rfl) rfl (by rw [zla,zly (hc.kinds _ ha n hn)];rfl)),rfl⟩
   have t:=zxx (zama (f:=fun n:Str=>decide (k∈up W n)) (zex (own:=["_law_name"]) (fr:=[0,4]) itp (by rw [qF];have:=hc.few _ ha;omega) k2))
   have ev:(c[i].parts.any fun n=>decide (k∈up W n))=decide (k∈upA W c[i]):=by
    rw [qAl,qA2,decide_eq_true_iff,zvx]
    exact ⟨fun ⟨n,h1,h2⟩=>⟨n,h1,of_decide_eq_true h2⟩,fun ⟨n,h1,h2⟩=>⟨n,h1,decide_eq_true h2⟩⟩
   rw [ev] at t
   have pe:((c[i]?).elim false fun a=>decide (k∈upA W a))=decide (k∈upA W c[i]):=by rw [qH hi];rfl
   constructor
   ·intro hp
    have hp:((c[i]?).elim false fun a=>decide (k∈upA W a))=true:=hp
    rw [pe] at hp
    rw [hp] at t
    exact ⟨_,if_f t rfl,_,_,rfl⟩
   ·intro hp
    have hp:((c[i]?).elim false fun a=>decide (k∈upA W a))=false:=hp
    rw [pe] at hp
    rw [hp] at t
    exact if_t t rfl)
 have same:(((List.range ks.length).zip ks).all fun z=>(c[z.1]?).elim false fun a=>decide (z.2∈upA W a))=fitB W ks c:=by
  have gen:∀ (ks:List Str) (c:List Arm) (m:Nat) (cc:List Arm),ks.length≤c.length→(∀ j,cc[m+j]?=c[j]?)→((((List.range ks.length).map (·+m)).zip ks).all fun z=>(cc[z.1]?).elim false fun a=>decide (z.2∈upA W a))=fitB W ks c:=by
   intro ks
   induction ks with
   | nil=>intro c m cc _ _;rfl
   | cons k ks ih =>
    intro c m cc hle hcc
    cases c with
    | nil=>simp at hle
    | cons a c =>
     have h0:=hcc 0
     rw [Nat.add_zero] at h0
     have r:=ih c (m+1) cc (by simpa using hle) fun j=>by
      have:=hcc (j+1)
      rw [qAY] at this
      rw [← this]
      congr 1
      omega
     unfold fitB at r ⊢
     rw [qAN,qCv,qY,qBE,qAy,qBE,qAy,← r,qB9,h0]
     congr 1
     rw [qBH]
     congr 2
     refine qBj fun j _=>?_
     show j+1+m=j+(m+1)
     omega
  have:=gen ks c 0 c hl fun j=>by rw [qB9]
  simpa using this
 rw [same] at key
 cases hb:fitB W ks c with
 | true =>
  obtain ⟨env',lp,s3,s4,rfl⟩:=key.1 hb
  exact ziw (env:=[.pl (.dict (dS zae (ups W))),.pl (zak ks),.pl (zaq c),.no,.no]) rfl (zav (zhq it lp) rfl)
 | false=>exact ziw (env:=[.pl (.dict (dS zae (ups W))),.pl (zak ks),.pl (zaq c),.no,.no]) rfl (zatb (zhq it (key.2 hb)))
theorem zait {i:Nat} {f:EF} {env:DEnv} {ds:List PyData} {d:PyData} {fr:Bool} {bs:List Nat} (he:env[i]?=some (.ac (.list ds))) (hf:f env=some ⟨d,fr,bs⟩) (hl:ds.length<100000) (hi:i∉bs):sApp i f env=some (.nx ((frzs env bs).set i (.ac (.list (ds++[d]))))):=by
 unfold sApp
 rw [he,hf]
 show (if ds.length<100000∧i∉bs then _ else _)=_
 rw [if_pos ⟨hl,hi⟩]
theorem zatl {a b:EF} {env:DEnv} {i j:Int} (ha:a env=some (vi i)) (hb:b env=some (vi j)):eOp gtD a b env=some (vb (decide (j<i))):=by
 unfold eOp;rw [ha,hb];rfl
theorem zaqa (neg:Bool) (x a b:Str):inD neg (.str x) (.tuple [.str a,.str b])=some (.bool (if neg then !decide (x∈[a,b]) else decide (x∈[a,b])),false):=by
 unfold inD
 simp only [zif]
 rw [if_pos ⟨rfl,zlx [a,b]⟩]
 have:=zacm [a,b] x
 rw [qY,qY,qCQ] at this
 rw [this]
theorem b64:-(2 ^ 64)<(4:Int)∧(4:Int)<2 ^ 64:=by omega
structure CallIn (xs:List Str) (c:List Arm):Prop where
 kinds:∀ a∈c,∀ n∈a.parts,n∈xs
 few:∀ a∈c,a.parts.length≤4
 some:∀ a∈c,a.parts≠[]
theorem CallIn.snoc {xs:List Str} {c:List Arm} {a:Arm} (h:CallIn xs c) (h1:∀ n∈a.parts,n∈xs) (h2:a.parts.length≤4) (h3:a.parts≠[]):CallIn xs (c++[a]):=by
 refine ⟨fun b hb=>?_,fun b hb=>?_,fun b hb=>?_⟩<;>rcases qp.mp hb with z|z
 ·exact h.kinds b z
 ·rw [qAT.mp z];exact h1
 ·exact h.few b z
 ·rw [qAT.mp z];exact h2
 ·exact h.some b z
 ·rw [qAT.mp z];exact h3
section
variable {A0 A2 A6 s8 s9:Sl} {ds:List PyData} {xs:List Str} {r:Int} {n at_:Nat}
theorem zaiu {env:DEnv} {b:EF} {j:Nat} {i:Int} (h1:env[1]?=some (.pl (zae xs))) (hb:b env=some (vi i)) (hi:i=(j:Int)) (hj:j<xs.length):eIxV 1 b env=some (vs xs[j]):=by
 subst hi
 exact zaao (ds:=xs.map .str) h1 hb (by rw [qT,qH hj];rfl)
theorem zada (hn:n=xs.length) (ha:at_<n):∃ hj:n - 1 - at_<xs.length,eIxV 1 (eOp subD (eOp subD (eVar 5) (eC (.int 1))) (eVar 7)) [A0,.pl (zae xs),A2,.ac (.list ds),.pl (.int r),.pl (.int (n:Int)),A6,.pl (.int (at_:Int)),s8,s9]=some (vs (xs[n - 1 - at_]'hj)):=by
 have hj:n - 1 - at_<xs.length:=by omega
 have e:(n:Int) - 1 - (at_:Int)=((n - 1 - at_:Nat):Int):=by omega
 exact ⟨hj,zaiu rfl (zalu (i:=(n:Int) - 1) (j:=(at_:Int)) (zalu (i:=(n:Int)) (j:=1) rfl rfl) rfl) e hj⟩
theorem zaqb (hn:n=xs.length) (ha:at_<n) (hl:ds.length<100000):∃ a:Arm,(∀ m∈a.parts,m∈xs)∧a.parts.length≤4∧a.parts≠[]∧sApp 3 (eTup (zab (eIxV 1 (eOp subD (eOp subD (eVar 5) (eC (.int 1))) (eVar 7))) aNil)) [A0,.pl (zae xs),A2,.ac (.list ds),.pl (.int r),.pl (.int (n:Int)),A6,.pl (.int (at_:Int)),s8,s9]=some (.nx [A0,.pl (zae xs),A2,.ac (.list (ds++[armD a])),.pl (.int r),.pl (.int (n:Int)),A6,.pl (.int (at_:Int)),s8,s9]):=by
 obtain ⟨hj,e⟩:=zada (A0:=A0) (A2:=A2) (A6:=A6) (s8:=s8) (s9:=s9) (ds:=ds) (r:=r) hn ha
 refine ⟨.many [xs[n - 1 - at_]'hj],fun m hm=>by rw [qAT.mp hm];exact qAe _,by show 1≤4;decide,by simp [Arm.parts],?_⟩
 refine zpd (i:=3) (ds:=ds) (d:=armD (.many [xs[n - 1 - at_]'hj])) (fr:=false) rfl ?_ hl
 unfold eTup
 rw [zeq e]
 rfl
theorem zamc (hn:n=xs.length) (ha:at_<n) (hl:ds.length<100000):∃ a:Arm,(∀ m∈a.parts,m∈xs)∧a.parts.length≤4∧a.parts≠[]∧sApp 3 (eIxV 1 (eOp subD (eOp subD (eVar 5) (eC (.int 1))) (eVar 7))) [A0,.pl (zae xs),A2,.ac (.list ds),.pl (.int r),.pl (.int (n:Int)),A6,.pl (.int (at_:Int)),s8,s9]=some (.nx [A0,.pl (zae xs),A2,.ac (.list (ds++[armD a])),.pl (.int r),.pl (.int (n:Int)),A6,.pl (.int (at_:Int)),s8,s9]):=by
 obtain ⟨hj,e⟩:=zada (A0:=A0) (A2:=A2) (A6:=A6) (s8:=s8) (s9:=s9) (ds:=ds) (r:=r) hn ha
 refine ⟨.one (xs[n - 1 - at_]'hj),fun m hm=>by rw [qAT.mp hm];exact qAe _,by show 1≤4;decide,by simp [Arm.parts],?_⟩
 exact zpd (i:=3) (ds:=ds) (d:=armD (.one (xs[n - 1 - at_]'hj))) (fr:=false) rfl e hl
end
def Hd (d:PyData) (s:Sl):Prop:=s=.pl d∨s=.ac d
theorem e_hd {env:DEnv} {i:Nat} {d:PyData} {s:Sl} (h:env[i]?=some s) (hs:Hd d s):∃ bs,eVar i env=some ⟨d,false,bs⟩:=by
 unfold eVar
 rw [h]
 rcases hs with rfl|rfl
 ·exact ⟨_,rfl⟩
 ·exact ⟨_,rfl⟩
section
variable {A0 A2 A6 s8 s9:Sl} {ds:List PyData} {xs:List Str} {r:Int} {n at_:Nat}
theorem zamd (hn:n=xs.length) (ha:at_<n) (h1:1<n) (r0:0≤r) (hl:ds.length<100000) (hx:xs.length≤16):∃ (a:Arm) (s8' s9':Sl),(∀ m∈a.parts,m∈xs)∧a.parts.length≤4∧a.parts≠[] ∧
  (sSeq (sSet 8 (eOp modD (eOp addD (eOp addD (eVar 7) (eC (.int 1))) (eOp modD (eOp zcy (eVar 4) (eC (.int 4))) (eOp subD (eVar 5) (eC (.int 1))))) (eVar 5)))
  (sSeq (sSet 9 (zdt ["_law_name"] [1,7,8] (zas (eSl (eVar 1) (zbl (eOp subD (eVar 5) (eOp modD (eVar 4) (eC (.int 3))))) zcm)) (gN 0) (zbg (eOp (inD true) (eVar 0) (eTup (zab (eIxV 1 (eVar 2)) (zab (eIxV 1 (eVar 3)) aNil))))) (eVar 0)))
  (sApp 3 (eCB zfb (zab (eOp addD (eLst (zab (eIxV 1 (eVar 7)) (zab (eIxV 1 (eVar 8)) aNil))) (eVar 9)) aNil))))) [A0,.pl (zae xs),A2,.ac (.list ds),.pl (.int r),.pl (.int (n:Int)),A6,.pl (.int (at_:Int)),s8,s9]=some (.nx [A0,.pl (zae xs),A2,.ac (.list (ds++[armD a])),.pl (.int r),.pl (.int (n:Int)),A6,.pl (.int (at_:Int)),s8',s9']):=by
 have m0:∀ (z j:Int),0<j→0≤z % j∧z % j<j:=fun z j hj=>⟨qAO z (by omega),qAV z hj⟩
 have q:=m0 ((at_:Int)+1+r / 4 % ((n:Int) - 1)) (n:Int) (by omega)
 generalize hby:((at_:Int)+1+r / 4 % ((n:Int) - 1)) % (n:Int)=byz at q
 obtain ⟨by_,hb⟩:∃ b:Nat,byz=(b:Int):=⟨byz.toNat,by omega⟩
 subst hb
 have hbn:by_<n:=by omega
 have e8:sSet 8 (eOp modD (eOp addD (eOp addD (eVar 7) (eC (.int 1))) (eOp modD (eOp zcy (eVar 4) (eC (.int 4))) (eOp subD (eVar 5) (eC (.int 1))))) (eVar 5)) [A0,.pl (zae xs),A2,.ac (.list ds),.pl (.int r),.pl (.int (n:Int)),A6,.pl (.int (at_:Int)),s8,s9]=some (.nx [A0,.pl (zae xs),A2,.ac (.list ds),.pl (.int r),.pl (.int (n:Int)),A6,.pl (.int (at_:Int)),.pl (.int (by_:Int)),s9]):=by
  rw [zcl (zhk (zvi (zvi (i:=(at_:Int)) (j:=1) rfl rfl) (zhk (zlb (i:=r) (j:=4) rfl rfl (by decide) (by decide)) (zalu (i:=(n:Int)) (j:=1) rfl rfl) (by omega))) (j:=(n:Int)) rfl (by omega)),hby]
  rfl
 have r3:=m0 r 3 (by decide)
 obtain ⟨k,hk⟩:∃ k:Nat,(n:Int) - r % 3=(k:Int):=⟨((n:Int) - r % 3).toNat,by omega⟩
 have ha':at_<xs.length:=by omega
 have hb':by_<xs.length:=by omega
 have sl:zas (eSl (eVar 1) (zbl (eOp subD (eVar 5) (eOp modD (eVar 4) (eC (.int 3))))) zcm) [A0,.pl (zae xs),A2,.ac (.list ds),.pl (.int r),.pl (.int (n:Int)),A6,.pl (.int (at_:Int)),.pl (.int (by_:Int)),s9]=some ((xs.drop k).map .str,[]):=by
  unfold zas
  have lo:zbl (eOp subD (eVar 5) (eOp modD (eVar 4) (eC (.int 3)))) [A0,.pl (zae xs),A2,.ac (.list ds),.pl (.int r),.pl (.int (n:Int)),A6,.pl (.int (at_:Int)),.pl (.int (by_:Int)),s9]=some (some (k:Int)):=by
   rw [zkb (zalu (i:=(n:Int)) rfl (zhk (i:=r) (j:=3) rfl rfl (by decide))),hk]
  rw [zzc (x:=xs) (y:=xs.drop k) (f:=false) (bs:=[]) rfl lo rfl (by rw [zsf,qBg])]
  rfl
 let p:Str→Bool:=fun x=>!decide (x∈[xs[at_],xs[by_]])
 have c:zej (gN 0) (zbg (eOp (inD true) (eVar 0) (eTup (zab (eIxV 1 (eVar 2)) (zab (eIxV 1 (eVar 3)) aNil))))) (eVar 0) [.no,.pl (zae xs),.pl (.int (at_:Int)),.pl (.int (by_:Int))] ((xs.drop k).map .str)=some (((xs.drop k).filter p).map .str):=by
  refine zfi p fun x hx=>⟨[.pl (.str x),.pl (zae xs),.pl (.int (at_:Int)),.pl (.int (by_:Int))],rfl,zfy ?_,fun _=>⟨vs x,rfl,rfl⟩⟩
  have i1:eIxV 1 (eVar 2) [.pl (.str x),.pl (zae xs),.pl (.int (at_:Int)),.pl (.int (by_:Int))]=some (vs xs[at_]):=zaiu rfl rfl rfl ha'
  have i2:eIxV 1 (eVar 3) [.pl (.str x),.pl (zae xs),.pl (.int (at_:Int)),.pl (.int (by_:Int))]=some (vs xs[by_]):=zaiu rfl rfl rfl hb'
  have tp:eTup (zab (eIxV 1 (eVar 2)) (zab (eIxV 1 (eVar 3)) aNil)) [.pl (.str x),.pl (zae xs),.pl (.int (at_:Int)),.pl (.int (by_:Int))]=some ⟨.tuple [.str xs[at_],.str xs[by_]],false,[]⟩:=by
   unfold eTup
   rw [zbs i1 (zeq i2)]
   rfl
  have st:eOp (inD true) (eVar 0) (eTup (zab (eIxV 1 (eVar 2)) (zab (eIxV 1 (eVar 3)) aNil))) [.pl (.str x),.pl (zae xs),.pl (.int (at_:Int)),.pl (.int (by_:Int))]=((inD true (.str x) (.tuple [.str xs[at_],.str xs[by_]])).bind fun z=>some (⟨z.1,z.2,bsOf z.1 []⟩:Val)):=by
   unfold eOp
   rw [tp]
   rfl
  rw [st,zaqa]
  rfl
 have e9:sSet 9 (zdt ["_law_name"] [1,7,8] (zas (eSl (eVar 1) (zbl (eOp subD (eVar 5) (eOp modD (eVar 4) (eC (.int 3))))) zcm)) (gN 0) (zbg (eOp (inD true) (eVar 0) (eTup (zab (eIxV 1 (eVar 2)) (zab (eIxV 1 (eVar 3)) aNil))))) (eVar 0)) [A0,.pl (zae xs),A2,.ac (.list ds),.pl (.int r),.pl (.int (n:Int)),A6,.pl (.int (at_:Int)),.pl (.int (by_:Int)),s9]=some (.nx [A0,.pl (zae xs),A2,.ac (.list ds),.pl (.int r),.pl (.int (n:Int)),A6,.pl (.int (at_:Int)),.pl (.int (by_:Int)),.ac (zae ((xs.drop k).filter p))]):=by
  refine zcl (r:=⟨zae ((xs.drop k).filter p),true,[]⟩) ?_
  rw [zex (own:=["_law_name"]) (fr:=[1,7,8]) (ds:=(xs.drop k).map .str) (bs:=[]) sl (by rw [qF,qAI];omega) c,zlx]
  rfl
 have hfl:((xs.drop k).filter p).length≤2:=qAG (qAr _ _) (by rw [qAI];omega)
 generalize hmo:(xs.drop k).filter p=more at e9 hfl
 refine ⟨.many (xs[at_]::xs[by_]::more),.pl (.int (by_:Int)),.pl (zae more),fun m hm=>?_,(by show (xs[at_]::xs[by_]::more).length≤4;rw [qAN,qAN];omega),(by simp [Arm.parts]),zav e8 (zav e9 ?_)⟩
 ·rcases qX.mp hm with rfl|hm
  ·exact qAe _
  ·rcases qX.mp hm with rfl|hm
   ·exact qAe _
   ·rw [← hmo] at hm
    exact qAb (qAJ.mp hm).1
 ·have i1:eIxV 1 (eVar 7) [A0,.pl (zae xs),A2,.ac (.list ds),.pl (.int r),.pl (.int (n:Int)),A6,.pl (.int (at_:Int)),.pl (.int (by_:Int)),.ac (zae more)]=some (vs xs[at_]):=zaiu rfl rfl rfl ha'
  have i2:eIxV 1 (eVar 8) [A0,.pl (zae xs),A2,.ac (.list ds),.pl (.int r),.pl (.int (n:Int)),A6,.pl (.int (at_:Int)),.pl (.int (by_:Int)),.ac (zae more)]=some (vs xs[by_]):=zaiu rfl rfl rfl hb'
  have l2:eLst (zab (eIxV 1 (eVar 7)) (zab (eIxV 1 (eVar 8)) aNil)) [A0,.pl (zae xs),A2,.ac (.list ds),.pl (.int r),.pl (.int (n:Int)),A6,.pl (.int (at_:Int)),.pl (.int (by_:Int)),.ac (zae more)]=some ⟨zae [xs[at_],xs[by_]],true,[]⟩:=by
   unfold eLst
   rw [zbs i1 (zeq i2)]
   rfl
  have ad:=zacz (x:=[xs[at_],xs[by_]]) (y:=more) (b:=eVar 9) (f2:=false) (b2:=[9]) l2 rfl (by show 2+more.length≤100000;omega)
  have tu:eCB zfb (zab (eOp addD (eLst (zab (eIxV 1 (eVar 7)) (zab (eIxV 1 (eVar 8)) aNil))) (eVar 9)) aNil) [A0,.pl (zae xs),A2,.ac (.list ds),.pl (.int r),.pl (.int (n:Int)),A6,.pl (.int (at_:Int)),.pl (.int (by_:Int)),.ac (zae more)]=some ⟨armD (.many (xs[at_]::xs[by_]::more)),false,[9]⟩:=by
   unfold eCB
   rw [zeq ad]
   rfl
  exact zait (i:=3) (ds:=ds) rfl tu hl (by decide)
end
theorem zaen {xs:List Str} {c:Int} {p:Nat} (hx:1≤xs.length∧xs.length≤16) (c0:0≤c) (hp:p≤3):∃ cl:List Arm,zge [.int c,zae xs,.int p]=some (zaq cl,false)∧cl.length=p∧CallIn xs cl:=by
 have m0:∀ (z j:Int),0<j→0≤z % j∧z % j<j:=fun z j hj=>⟨qAO z (by omega),qAV z hj⟩
 have lp:=zdu (enc:=fun (k:Nat)=>PyData.int (k:Int)) (g:=gN 6) (l:=List.range p) (env:=[.pl (.int c),.pl (zae xs),.pl (.int p),.ac (.list []),.pl (.int c),.pl (.int (xs.length:Int)),.no,.no,.no,.no])
  (body:=(sSeq (sSet 7 (eOp modD (eVar 4) (eVar 5)))
  (sSeq (sSet 4 (eOp zcy (eVar 4) (eVar 5)))
  (sSeq (sIf (zbg (eOp eqD (eOp modD (eVar 4) (eC (.int 4))) (eC (.int 2)))) (sApp 3 (eTup (zab (eIxV 1 (eOp subD (eOp subD (eVar 5) (eC (.int 1))) (eVar 7))) aNil))) (sIf (zol (zbg (eOp eqD (eOp modD (eVar 4) (eC (.int 4))) (eC (.int 3)))) (zbg (eOp gtD (eVar 5) (eC (.int 1))))) (sSeq (sSet 8 (eOp modD (eOp addD (eOp addD (eVar 7) (eC (.int 1))) (eOp modD (eOp zcy (eVar 4) (eC (.int 4))) (eOp subD (eVar 5) (eC (.int 1))))) (eVar 5)))
  (sSeq (sSet 9 (zdt ["_law_name"] [1,7,8] (zas (eSl (eVar 1) (zbl (eOp subD (eVar 5) (eOp modD (eVar 4) (eC (.int 3))))) zcm)) (gN 0) (zbg (eOp (inD true) (eVar 0) (eTup (zab (eIxV 1 (eVar 2)) (zab (eIxV 1 (eVar 3)) aNil))))) (eVar 0)))
  (sApp 3 (eCB zfb (zab (eOp addD (eLst (zab (eIxV 1 (eVar 7)) (zab (eIxV 1 (eVar 8)) aNil))) (eVar 9)) aNil))))) (sApp 3 (eIxV 1 (eOp subD (eOp subD (eVar 5) (eC (.int 1))) (eVar 7))))))
  (sSet 4 (eOp zcy (eVar 4) (eOp mulD (eC (.int 4)) (eVar 5)))))))) (fun pre env=>∃ (cl:List Arm) (r:Int) (s6 s7 s8 s9:Sl),env=[.pl (.int c),.pl (zae xs),.pl (.int p),.ac (.list (cl.map armD)),.pl (.int r),.pl (.int (xs.length:Int)),s6,s7,s8,s9]∧0≤r∧cl.length=pre.length∧CallIn xs cl)
  ⟨[],c,_,_,_,_,rfl,c0,rfl,⟨fun a h=>(nomatch h),fun a h=>(nomatch h),fun a h=>(nomatch h)⟩⟩ (by
   rintro pre k post env hk ⟨cl,r,s6,s7,s8,s9,rfl,r0,hcl,ok⟩
   have hpl:pre.length<4:=by
    have:=congrArg List.length hk
    simp at this;omega
   have q:=m0 r (xs.length:Int) (by omega)
   obtain ⟨at_,hat⟩:∃ a:Nat,r % (xs.length:Int)=(a:Int):=⟨(r % (xs.length:Int)).toNat,by omega⟩
   have ha:at_<xs.length:=by omega
   have e7:sSet 7 (eOp modD (eVar 4) (eVar 5)) [.pl (.int c),.pl (zae xs),.pl (.int p),.ac (.list (cl.map armD)),.pl (.int r),.pl (.int (xs.length:Int)),.pl (.int (k:Int)),s7,s8,s9]=some (.nx [.pl (.int c),.pl (zae xs),.pl (.int p),.ac (.list (cl.map armD)),.pl (.int r),.pl (.int (xs.length:Int)),.pl (.int (k:Int)),.pl (.int (at_:Int)),s8,s9]):=by
    rw [zcl (zhk (i:=r) (j:=(xs.length:Int)) rfl rfl (by omega)),hat];rfl
   have q0:0≤r / (xs.length:Int):=qBn r0 (by omega)
   have e4:sSet 4 (eOp zcy (eVar 4) (eVar 5)) [.pl (.int c),.pl (zae xs),.pl (.int p),.ac (.list (cl.map armD)),.pl (.int r),.pl (.int (xs.length:Int)),.pl (.int (k:Int)),.pl (.int (at_:Int)),s8,s9]=some (.nx [.pl (.int c),.pl (zae xs),.pl (.int p),.ac (.list (cl.map armD)),.pl (.int (r / (xs.length:Int))),.pl (.int (xs.length:Int)),.pl (.int (k:Int)),.pl (.int (at_:Int)),s8,s9]):=zcl (zlb (i:=r) (j:=(xs.length:Int)) rfl rfl (by omega) (by omega))
   generalize r / (xs.length:Int)=r' at e4 q0
   have hds:(cl.map armD).length<100000:=by rw [qF];omega
   have t2:zbg (eOp eqD (eOp modD (eVar 4) (eC (.int 4))) (eC (.int 2))) [.pl (.int c),.pl (zae xs),.pl (.int p),.ac (.list (cl.map armD)),.pl (.int r'),.pl (.int (xs.length:Int)),.pl (.int (k:Int)),.pl (.int (at_:Int)),s8,s9]=some (r' % 4==2):=zfy (zst (zhk rfl rfl (by decide)) rfl)
   have t3:zol (zbg (eOp eqD (eOp modD (eVar 4) (eC (.int 4))) (eC (.int 3)))) (zbg (eOp gtD (eVar 5) (eC (.int 1)))) [.pl (.int c),.pl (zae xs),.pl (.int p),.ac (.list (cl.map armD)),.pl (.int r'),.pl (.int (xs.length:Int)),.pl (.int (k:Int)),.pl (.int (at_:Int)),s8,s9]=some ((r' % 4==3)&&decide (1<(xs.length:Int))):=by
    have t31:zbg (eOp eqD (eOp modD (eVar 4) (eC (.int 4))) (eC (.int 3))) [.pl (.int c),.pl (zae xs),.pl (.int p),.ac (.list (cl.map armD)),.pl (.int r'),.pl (.int (xs.length:Int)),.pl (.int (k:Int)),.pl (.int (at_:Int)),s8,s9]=some (r' % 4==3):=zfy (zst (zhk rfl rfl (by decide)) rfl)
    have t32:zbg (eOp gtD (eVar 5) (eC (.int 1))) [.pl (.int c),.pl (zae xs),.pl (.int p),.ac (.list (cl.map armD)),.pl (.int r'),.pl (.int (xs.length:Int)),.pl (.int (k:Int)),.pl (.int (at_:Int)),s8,s9]=some (decide (1<(xs.length:Int))):=zfy (zatl rfl rfl)
    unfold zol
    rw [t31,qD,t32]
    cases (r' % 4==3)<;>rfl
   have fin:∀ (a:Arm) (s8' s9':Sl),sSet 4 (eOp zcy (eVar 4) (eOp mulD (eC (.int 4)) (eVar 5))) [.pl (.int c),.pl (zae xs),.pl (.int p),.ac (.list (cl.map armD++[armD a])),.pl (.int r'),.pl (.int (xs.length:Int)),.pl (.int (k:Int)),.pl (.int (at_:Int)),s8',s9']=some (.nx [.pl (.int c),.pl (zae xs),.pl (.int p),.ac (.list ((cl++[a]).map armD)),.pl (.int (r' / (4 * (xs.length:Int)))),.pl (.int (xs.length:Int)),.pl (.int (k:Int)),.pl (.int (at_:Int)),s8',s9']):=fun a s8' s9'=>by
    rw [qv]
    exact zcl (zlb (i:=r') rfl (zalv (i:=4) (j:=(xs.length:Int)) rfl rfl (.inl b64)) (by omega) (by omega))
   have go:∀ {G:SF} (a:Arm) (s8' s9':Sl),(∀ m∈a.parts,m∈xs)→a.parts.length≤4→a.parts≠[]→G [.pl (.int c),.pl (zae xs),.pl (.int p),.ac (.list (cl.map armD)),.pl (.int r'),.pl (.int (xs.length:Int)),.pl (.int (k:Int)),.pl (.int (at_:Int)),s8,s9]=some (.nx [.pl (.int c),.pl (zae xs),.pl (.int p),.ac (.list (cl.map armD++[armD a])),.pl (.int r'),.pl (.int (xs.length:Int)),.pl (.int (k:Int)),.pl (.int (at_:Int)),s8',s9']) →
     ∃ e1 e2,gN 6 (.int (k:Int)) [.pl (.int c),.pl (zae xs),.pl (.int p),.ac (.list (cl.map armD)),.pl (.int r),.pl (.int (xs.length:Int)),s6,s7,s8,s9]=some e1∧((sSeq (sSet 7 (eOp modD (eVar 4) (eVar 5))) (sSeq (sSet 4 (eOp zcy (eVar 4) (eVar 5))) (sSeq G (sSet 4 (eOp zcy (eVar 4) (eOp mulD (eC (.int 4)) (eVar 5))))))) e1=some (.nx e2)∨(sSeq (sSet 7 (eOp modD (eVar 4) (eVar 5))) (sSeq (sSet 4 (eOp zcy (eVar 4) (eVar 5))) (sSeq G (sSet 4 (eOp zcy (eVar 4) (eOp mulD (eC (.int 4)) (eVar 5))))))) e1=some (.ct e2)) ∧
      ∃ (cl':List Arm) (r:Int) (s6 s7 s8 s9:Sl),e2=[.pl (.int c),.pl (zae xs),.pl (.int p),.ac (.list (cl'.map armD)),.pl (.int r),.pl (.int (xs.length:Int)),s6,s7,s8,s9]∧0≤r∧cl'.length=(pre++[k]).length∧CallIn xs cl':=fun {G} a s8' s9' h1 h2 h3 hg =>
    ⟨_,_,rfl,.inl (zav e7 (zav e4 (zav hg (fin a s8' s9')))),cl++[a],_,_,_,_,_,rfl,qBn q0 (by omega),by simp [hcl],ok.snoc h1 h2 h3⟩
   cases h2:(r' % 4==2) with
   | true =>
    rw [h2] at t2
    obtain ⟨a,a1,a2,a3,a4⟩:=zaqb (A0:=.pl (.int c)) (A2:=.pl (.int p)) (A6:=.pl (.int (k:Int))) (s8:=s8) (s9:=s9) (ds:=cl.map armD) (xs:=xs) (r:=r') (n:=xs.length) (at_:=at_) rfl ha hds
    exact go a _ _ a1 a2 a3 (if_t t2 a4)
   | false =>
    rw [h2] at t2
    cases h3:((r' % 4==3)&&decide (1<(xs.length:Int))) with
    | true =>
     rw [h3] at t3
     have h1:1<xs.length:=by
      have:=of_decide_eq_true (qDD.mp h3).2
      omega
     obtain ⟨a,s8',s9',a1,a2,a3,a4⟩:=zamd (A0:=.pl (.int c)) (A2:=.pl (.int p)) (A6:=.pl (.int (k:Int))) (s8:=s8) (s9:=s9) (ds:=cl.map armD) (xs:=xs) (r:=r') (n:=xs.length) (at_:=at_) rfl ha h1 q0 hds hx.2
     exact go a _ _ a1 a2 a3 (if_f t2 (if_t t3 a4))
    | false =>
     rw [h3] at t3
     obtain ⟨a,a1,a2,a3,a4⟩:=zamc (A0:=.pl (.int c)) (A2:=.pl (.int p)) (A6:=.pl (.int (k:Int))) (s8:=s8) (s9:=s9) (ds:=cl.map armD) (xs:=xs) (r:=r') (n:=xs.length) (at_:=at_) rfl ha hds
     exact go a _ _ a1 a2 a3 (if_f t2 (if_f t3 a4)))
 obtain ⟨env',lp,cl,r,s6,s7,s8,s9,rfl,_,hcl,ok⟩:=lp
 have el:eCB lenD (zab (eVar 1) aNil) [.pl (.int c),.pl (zae xs),.pl (.int p),.ac (.list []),.pl (.int c),.no,.no,.no,.no,.no]=some (vi (xs.length:Int)):=by
  have:=ztp (a:=eVar 1) (env:=[.pl (.int c),.pl (zae xs),.pl (.int p),.ac (.list []),.pl (.int c),.no,.no,.no,.no,.no]) (ds:=xs.map .str) (fr:=false) (bs:=[]) rfl
  rw [qF] at this
  exact this
 have it:zho (zab (eVar 2) aNil) [.pl (.int c),.pl (zae xs),.pl (.int p),.ac (.list []),.pl (.int c),.pl (.int (xs.length:Int)),.no,.no,.no,.no]=some ((List.range p).map (fun (k:Nat)=>PyData.int (k:Int)),[]):=by
  unfold zho
  rw [zeq (r:=vi (p:Int)) rfl,qD]
  simp only
  rw [if_pos (by omega),zrd]
  rfl
 refine ⟨cl,ziw rfl (zav rfl (zav (zcl (r:=vi c) rfl) (zav (zcl el) (zav (zhq it lp) (zkz (bs:=[3]) rfl))))),by rw [hcl,List.length_range],ok⟩
theorem zze:∀ (l:List (List Str)),(∀ ks∈l,LowS ks)→qu (l.map zak)=true∧qi (l.map zak)≤1
 | [],_=>⟨rfl,by simp [qi]⟩
 | ks::l,h=>by
  obtain ⟨h1,h2⟩:=zze l fun x hx=>h x (qL _ hx)
  obtain ⟨g1,g2⟩:=znr ks (h ks qj)
  constructor
  ·rw [qY]
   simp only [qu,zak,PyData.canLay0,qAB]
   exact ⟨g1,h1⟩
  ·rw [qY]
   simp only [qi,zak,PyData.depth]
   rw [g2]
   have:qi (l.map fun ks=>PyData.tuple (ks.map .str))≤1:=h2
   omega
theorem zabe {l:List (List Str)} (h:∀ ks∈l,LowS ks):qAD (.list (l.map zak))=true:=by
 obtain ⟨h1,h2⟩:=zze l h
 unfold qAD
 rw [qAB]
 refine ⟨by simpa [PyData.canLay0] using h1,decide_eq_true ?_⟩
 simp only [PyData.depth]
 omega
theorem zaiv (l:List (List Str)) (ks:List Str):((l.map zak).any fun e=>qAK e (zak ks))=decide (ks∈l):=by
 rw [qB6,qAl,qA2,decide_eq_true_iff]
 have e:∀ a b:List Str,qAK (zak a) (zak b)=(a==b):=fun a b=>by
  unfold zak
  simp only [qAK]
  exact zvy a b
 constructor
 ·rintro ⟨y,hy,h⟩
  have h:qAK (zak y) (zak ks)=true:=h
  rw [e,beq_iff_eq] at h
  rw [← h];exact hy
 ·intro h
  refine ⟨ks,h,?_⟩
  show qAK (zak ks) (zak ks)=true
  rw [e];exact beq_self_eq_true _
theorem zaiw {neg:Bool} {l:List (List Str)} {ks:List Str} (h:∀ x∈l,LowS x) (hk:LowS ks):inS neg (zak ks) (.list (l.map zak))=some (.bool (if neg then !decide (ks∈l) else decide (ks∈l)),false):=by
 unfold inS
 simp only [zif]
 rw [if_pos ⟨zlm hk,zabe h⟩,zaiv]
theorem zsg {W:Web} (lo:∀ x∈nm W,Low x) {ks:List Str} (h:∀ k∈ks,k∈nm W):LowS ks:=fun k hk=>zhj (lo k (h k hk))
theorem zub {W:Web} (h:WebOk W) {cs:List Int} {i:Nat} (hi:i<cs.length) (hcs:∀ z∈cs,0≤z) {A3 A4 A5 A7:Sl} {c0:List Arm} (hne:0<(nm W).length):∀ (c:List Arm) (ks:List Str) (r:Int) (s10 s11:Sl),CallIn (nm W) c→0≤r→(∀ k∈ks,k∈nm W)→ks.length+c.length<1000 →
  ∃ (ks':List Str) (r':Int) (s10' s11':Sl),forL (gN 10) (sSeq (sSet 11 (eVar 1))
  (sSeq (sIf (zbg (eOp gtD (eOp modD (eIxV 0 (eVar 6)) (eC (.int 4))) (eC (.int 0)))) (sSet 11 (zdt ["_law_name"] [2,10] (zas (eVar 1)) (gN 0) (tTru (eCB (anyD fun bs=>bs.any id) (zab (zdt ["_law_one"] [0,1] (zas (zbb 1 zbf (zab (eVar 2) aNil))) (gN 0) zcv (eOp (inD false) (eVar 1) (zdz 2 (eVar 0)))) aNil))) (eVar 0))) sNil)
  (sSeq (sApp 9 (eIxV 11 (eOp modD (eVar 8) (eCB lenD (zab (eVar 11) aNil)))))
  (sSet 8 (eOp zcy (eVar 8) (eCB lenD (zab (eVar 11) aNil))))))) (c.map armD) [.pl (zcp cs),.pl (zae (nm W)),.pl (.dict (dS zae (ups W))),A3,A4,A5,.pl (.int (i:Int)),A7,.pl (.int r),.ac (zae ks),s10,s11]=some (.nx [.pl (zcp cs),.pl (zae (nm W)),.pl (.dict (dS zae (ups W))),A3,A4,A5,.pl (.int (i:Int)),A7,.pl (.int r'),.ac (zae ks'),s10',s11'])∧(∀ k∈ks',k∈nm W)∧ks'.length=ks.length+c.length
 | [],ks,r,s10,s11,_,_,hk,_=>⟨ks,r,s10,s11,rfl,hk,rfl⟩
 | a::c,ks,r,s10,s11,hc,r0,hk,hl=>by
  have hlW:(nm W).length≤12:=zqm h
  have hap:=hc.kinds a qj
  have e11:sSet 11 (eVar 1) [.pl (zcp cs),.pl (zae (nm W)),.pl (.dict (dS zae (ups W))),A3,A4,A5,.pl (.int (i:Int)),A7,.pl (.int r),.ac (zae ks),.pl (armD a),s11]=some (.nx [.pl (zcp cs),.pl (zae (nm W)),.pl (.dict (dS zae (ups W))),A3,A4,A5,.pl (.int (i:Int)),A7,.pl (.int r),.ac (zae ks),.pl (armD a),.pl (zae (nm W))]):=zcl (r:=⟨zae (nm W),false,[]⟩) rfl
  have pool:∃ (pl:List Str) (s:Sl),Hd (zae pl) s∧0<pl.length∧pl.length≤12∧(∀ x∈pl,x∈nm W)∧sIf (zbg (eOp gtD (eOp modD (eIxV 0 (eVar 6)) (eC (.int 4))) (eC (.int 0)))) (sSet 11 (zdt ["_law_name"] [2,10] (zas (eVar 1)) (gN 0) (tTru (eCB (anyD fun bs=>bs.any id) (zab (zdt ["_law_one"] [0,1] (zas (zbb 1 zbf (zab (eVar 2) aNil))) (gN 0) zcv (eOp (inD false) (eVar 1) (zdz 2 (eVar 0)))) aNil))) (eVar 0))) sNil [.pl (zcp cs),.pl (zae (nm W)),.pl (.dict (dS zae (ups W))),A3,A4,A5,.pl (.int (i:Int)),A7,.pl (.int r),.ac (zae ks),.pl (armD a),.pl (zae (nm W))]=some (.nx [.pl (zcp cs),.pl (zae (nm W)),.pl (.dict (dS zae (ups W))),A3,A4,A5,.pl (.int (i:Int)),A7,.pl (.int r),.ac (zae ks),.pl (armD a),s]):=by
   have t:zbg (eOp gtD (eOp modD (eIxV 0 (eVar 6)) (eC (.int 4))) (eC (.int 0))) [.pl (zcp cs),.pl (zae (nm W)),.pl (.dict (dS zae (ups W))),A3,A4,A5,.pl (.int (i:Int)),A7,.pl (.int r),.ac (zae ks),.pl (armD a),.pl (zae (nm W))]=some (decide (0<cs[i] % 4)) :=
    zfy (zatl (zhk (i:=cs[i]) (zaao (n:=i) rfl rfl (by rw [qT,qH hi];rfl)) rfl (by decide)) rfl)
   by_cases hz:0<cs[i] % 4
   ·rw [decide_eq_true hz] at t
    have cm:zej (gN 0) (tTru (eCB (anyD fun bs=>bs.any id) (zab (zdt ["_law_one"] [0,1] (zas (zbb 1 zbf (zab (eVar 2) aNil))) (gN 0) zcv (eOp (inD false) (eVar 1) (zdz 2 (eVar 0)))) aNil))) (eVar 0) [.no,.pl (.dict (dS zae (ups W))),.pl (armD a)] ((nm W).map .str)=some (((nm W).filter fun x=>decide (x∈upA W a)).map .str):=by
     refine zfi (fun x=>decide (x∈upA W a)) fun x hx=>⟨[.pl (.str x),.pl (.dict (dS zae (ups W))),.pl (armD a)],rfl,?_,fun _=>⟨vs x,rfl,rfl⟩⟩
     have itp:zas (zbb 1 zbf (zab (eVar 2) aNil)) [.pl (.str x),.pl (.dict (dS zae (ups W))),.pl (armD a)]=some (a.parts.map .str,[]):=by
      unfold zas
      rw [zbv (n:=1) (rs:=[⟨armD a,false,[]⟩]) (zeq rfl) rfl (zev a)]
      rfl
     have k2:zej (gN 0) zcv (eOp (inD false) (eVar 1) (zdz 2 (eVar 0))) [.no,.pl (.str x),.pl (.dict (dS zae (ups W)))] (a.parts.map .str)=some (a.parts.map fun n=>.bool (decide (x∈up W n))) :=
      zdi fun n hn=>⟨[.pl (.str n),.pl (.str x),.pl (.dict (dS zae (ups W)))],rfl,rfl,vb (decide (x∈up W n)),e_in (neg:=false) (fr:=false) (bs:=[]) rfl (zaii (k:=2) (d:=zae (up W n)) (.inl rfl) rfl (by rw [zla,zly (hap n hn)];rfl)),rfl⟩
     have an:=zama (f:=fun n:Str=>decide (x∈up W n)) (zex (own:=["_law_one"]) (fr:=[0,1]) itp (by rw [qF];have:=hc.few a qj;omega) k2)
     have ev:(a.parts.any fun n=>decide (x∈up W n))=decide (x∈upA W a):=by
      rw [qAl,qA2,decide_eq_true_iff,zvx]
      exact ⟨fun ⟨n,h1,h2⟩=>⟨n,h1,of_decide_eq_true h2⟩,fun ⟨n,h1,h2⟩=>⟨n,h1,decide_eq_true h2⟩⟩
     rw [ev] at an
     unfold tTru
     rw [an]
     rfl
    refine ⟨(nm W).filter fun x=>decide (x∈upA W a),.ac (zae ((nm W).filter fun x=>decide (x∈upA W a))),.inr rfl,?_,qAG (qAr _ _) hlW,fun x hx=>(qAJ.mp hx).1,if_t t (zcl (r:=⟨zae ((nm W).filter fun x=>decide (x∈upA W a)),true,[]⟩) ?_)⟩
    ·obtain ⟨n,hn⟩:=List.exists_mem_of_ne_nil _ (hc.some a qj)
     exact qCw (qAJ.mpr ⟨hap n hn,decide_eq_true (zvx.mpr ⟨n,hn,zaps h (hap n hn)⟩)⟩)
    ·rw [zex (own:=["_law_name"]) (fr:=[2,10]) (ds:=(nm W).map .str) (bs:=[]) rfl (by rw [qF];omega) cm,zlx]
     rfl
   ·rw [decide_eq_false hz] at t
    exact ⟨nm W,.pl (zae (nm W)),.inl rfl,hne,hlW,fun x hx=>hx,if_f t rfl⟩
  obtain ⟨pl,s,hs,p0,p12,psub,ep⟩:=pool
  have q0:=qAO r (show (pl.length:Int)≠0 by omega)
  have q1:=qAV r (show (0:Int)<(pl.length:Int) by omega)
  have hj:(r % (pl.length:Int)).toNat<pl.length:=by omega
  have len:∀ (ks:List Str),eCB lenD (zab (eVar 11) aNil) [.pl (zcp cs),.pl (zae (nm W)),.pl (.dict (dS zae (ups W))),A3,A4,A5,.pl (.int (i:Int)),A7,.pl (.int r),.ac (zae ks),.pl (armD a),s]=some (vi (pl.length:Int)):=fun ks=>by
   obtain ⟨bs,hv⟩:=e_hd (env:=[.pl (zcp cs),.pl (zae (nm W)),.pl (.dict (dS zae (ups W))),A3,A4,A5,.pl (.int (i:Int)),A7,.pl (.int r),.ac (zae ks),.pl (armD a),s]) (i:=11) rfl hs
   have:=ztp (ds:=pl.map .str) hv
   rw [qF] at this
   exact this
  have ix:eIxV 11 (eOp modD (eVar 8) (eCB lenD (zab (eVar 11) aNil))) [.pl (zcp cs),.pl (zae (nm W)),.pl (.dict (dS zae (ups W))),A3,A4,A5,.pl (.int (i:Int)),A7,.pl (.int r),.ac (zae ks),.pl (armD a),s]=some (vs pl[(r % (pl.length:Int)).toNat]):=by
   have hm:eOp modD (eVar 8) (eCB lenD (zab (eVar 11) aNil)) [.pl (zcp cs),.pl (zae (nm W)),.pl (.dict (dS zae (ups W))),A3,A4,A5,.pl (.int (i:Int)),A7,.pl (.int r),.ac (zae ks),.pl (armD a),s]=some (vi (((r % (pl.length:Int)).toNat:Nat):Int)):=by
    rw [zhk (i:=r) rfl (len ks) (by omega),Int.toNat_of_nonneg q0]
   have hg:(pl.map PyData.str)[(r % (pl.length:Int)).toNat]?=some (.str pl[(r % (pl.length:Int)).toNat]):=by rw [qT,qH hj];rfl
   rcases id hs with e|e
   ·exact zaao (ds:=pl.map .str) (by rw [e];rfl) hm hg
   ·exact zatf (ds:=pl.map .str) (by rw [e];rfl) hm hg
  generalize hx:pl[(r % (pl.length:Int)).toNat]=x at ix
  have hxm:x∈nm W:=psub x (by rw [← hx];exact qAe _)
  have ap:sApp 9 (eIxV 11 (eOp modD (eVar 8) (eCB lenD (zab (eVar 11) aNil)))) [.pl (zcp cs),.pl (zae (nm W)),.pl (.dict (dS zae (ups W))),A3,A4,A5,.pl (.int (i:Int)),A7,.pl (.int r),.ac (zae ks),.pl (armD a),s]=some (.nx [.pl (zcp cs),.pl (zae (nm W)),.pl (.dict (dS zae (ups W))),A3,A4,A5,.pl (.int (i:Int)),A7,.pl (.int r),.ac (zae (ks++[x])),.pl (armD a),s]):=by
   rw [zpd (ds:=ks.map .str) (d:=.str x) (fr:=false) rfl ix (by rw [qF];omega)]
   congr 2
   unfold zae
   simp
  have e8:sSet 8 (eOp zcy (eVar 8) (eCB lenD (zab (eVar 11) aNil))) [.pl (zcp cs),.pl (zae (nm W)),.pl (.dict (dS zae (ups W))),A3,A4,A5,.pl (.int (i:Int)),A7,.pl (.int r),.ac (zae (ks++[x])),.pl (armD a),s]=some (.nx [.pl (zcp cs),.pl (zae (nm W)),.pl (.dict (dS zae (ups W))),A3,A4,A5,.pl (.int (i:Int)),A7,.pl (.int (r / (pl.length:Int))),.ac (zae (ks++[x])),.pl (armD a),s]):=zcl (zlb (i:=r) rfl (len _) (by omega) (by omega))
  obtain ⟨ks',r',s10',s11',lp,hk',hl'⟩:=zub h hi hcs (A3:=A3) (A4:=A4) (A5:=A5) (A7:=A7) (c0:=c0) hne c (ks++[x]) (r / (pl.length:Int)) (.pl (armD a)) s ⟨fun b hb=>hc.kinds b (qL _ hb),fun b hb=>hc.few b (qL _ hb),fun b hb=>hc.some b (qL _ hb)⟩ (qBn r0 (by omega)) (fun k hk2=>(qp.mp hk2).elim (hk k) fun z=>by rw [qAT.mp z];exact hxm) (by simp at hl ⊢;omega)
  refine ⟨ks',r',s10',s11',?_,hk',by simp at hl' ⊢;omega⟩
  rw [qY]
  unfold forL
  show Option.bind (sSeq _ _ [.pl (zcp cs),.pl (zae (nm W)),.pl (.dict (dS zae (ups W))),A3,A4,A5,.pl (.int (i:Int)),A7,.pl (.int r),.ac (zae ks),.pl (armD a),s11]) _=_
  rw [zav e11 (zav ep (zav ap e8))]
  exact lp
structure MadeOk (W:Web) (p:Nat) (ts:List Str) (rs:List (Str×List Str)):Prop where
 kinds:∀ r∈rs,∀ k∈r.2,k∈nm W
 size:∀ r∈rs,r.2.length=p
 unl:(rs.map (·.2)).Nodup
 sub:(rs.map (·.1)).Sublist ts
theorem zabf {W:Web} (h:WebOk W) (lo:∀ x∈nm W,Low x) (hne:0<(nm W).length) {cs:List Int} {c:List Arm} {ts:List Str} (hcs:∀ z∈cs,0≤z) (hle:ts.length≤cs.length) (hts:ts.length≤16) (hc:CallIn (nm W) c) (hcl:c.length≤3) :
  ∃ rs,zim [zcp cs,zae (nm W),.dict (dS zae (ups W)),zaq c,zae ts]=some (zat rs,true)∧MadeOk W c.length ts rs:=by
 have it:ztj (zab (eVar 4) aNil) [.pl (zcp cs),.pl (zae (nm W)),.pl (.dict (dS zae (ups W))),.pl (zaq c),.pl (zae ts),.ac (.list []),.no,.no,.no,.no,.no,.no]=some (((List.range ts.length).zip ts).map fun z=>PyData.tuple [.int (z.1:Nat),.str z.2],[]):=by
  show some (zsq (ts.map .str),[])=_
  rw [zzd]
 obtain ⟨env',lp,rs,s6,s7,s8,s9,s10,s11,rfl,ok⟩:=zdu (enc:=fun z:Nat×Str=>PyData.tuple [.int (z.1:Nat),.str z.2]) (g:=gT 2 (zar 6 (zar 7 zdc))) (l:=(List.range ts.length).zip ts) (env:=[.pl (zcp cs),.pl (zae (nm W)),.pl (.dict (dS zae (ups W))),.pl (zaq c),.pl (zae ts),.ac (.list []),.no,.no,.no,.no,.no,.no])
  (body:=(sSeq (sSet 8 (eOp zcy (eIxV 0 (eVar 6)) (eC (.int 4))))
  (sSeq (sSet 9 (eLst aNil))
  (sSeq (sFor (zas (eVar 3)) (gN 10)
  (sSeq (sSet 11 (eVar 1))
  (sSeq (sIf (zbg (eOp gtD (eOp modD (eIxV 0 (eVar 6)) (eC (.int 4))) (eC (.int 0)))) (sSet 11 (zdt ["_law_name"] [2,10] (zas (eVar 1)) (gN 0) (tTru (eCB (anyD fun bs=>bs.any id) (zab (zdt ["_law_one"] [0,1] (zas (zbb 1 zbf (zab (eVar 2) aNil))) (gN 0) zcv (eOp (inD false) (eVar 1) (zdz 2 (eVar 0)))) aNil))) (eVar 0))) sNil)
  (sSeq (sApp 9 (eIxV 11 (eOp modD (eVar 8) (eCB lenD (zab (eVar 11) aNil)))))
  (sSet 8 (eOp zcy (eVar 8) (eCB lenD (zab (eVar 11) aNil))))))))
  (sIf (zbg (eOp (inS true) (eCB zfb (zab (eVar 9) aNil)) (zdt ["_law_one", "_law_row"] [] (zas (eVar 5)) (gT 2 (zar 0 (zar 1 zdc))) zcv (eVar 1)))) (sApp 5 (eTup (zab (eVar 7) (zab (eCB zfb (zab (eVar 9) aNil)) aNil)))) sNil)))))
  (fun pre env=>∃ (rs:List (Str×List Str)) (s6 s7 s8 s9 s10 s11:Sl),env=[.pl (zcp cs),.pl (zae (nm W)),.pl (.dict (dS zae (ups W))),.pl (zaq c),.pl (zae ts),.ac (zat rs),s6,s7,s8,s9,s10,s11]∧MadeOk W c.length (pre.map (·.2)) rs)
  ⟨[],_,_,_,_,_,_,rfl,fun r hr=>(nomatch hr),fun r hr=>(nomatch hr),qCC,qCg _⟩ (by
   rintro pre ⟨i,t⟩ post env hp ⟨rs,s6,s7,s8,s9,s10,s11,rfl,ok⟩
   have hz:(i,t)∈(List.range ts.length).zip ts:=by rw [← hp];simp
   have hi:i<cs.length:=by
    have:=qAq.mp (qBG hz).1
    omega
   have hpl:pre.length≤16:=by
    have:=congrArg List.length hp
    simp at this;omega
   have hrs:rs.length≤16:=by
    have:=ok.sub.length_le
    simp at this;omega
   have e8:sSet 8 (eOp zcy (eIxV 0 (eVar 6)) (eC (.int 4))) [.pl (zcp cs),.pl (zae (nm W)),.pl (.dict (dS zae (ups W))),.pl (zaq c),.pl (zae ts),.ac (zat rs),.pl (.int (i:Int)),.pl (.str t),s8,s9,s10,s11]=some (.nx [.pl (zcp cs),.pl (zae (nm W)),.pl (.dict (dS zae (ups W))),.pl (zaq c),.pl (zae ts),.ac (zat rs),.pl (.int (i:Int)),.pl (.str t),.pl (.int (cs[i] / 4)),s9,s10,s11]) :=
    zcl (zlb (i:=cs[i]) (zaao (n:=i) rfl rfl (by rw [qT,qH hi];rfl)) rfl (by decide) (by decide))
   obtain ⟨ks,r',s10',s11',inn,hk,hkl⟩:=zub h hi hcs (A3:=.pl (zaq c)) (A4:=.pl (zae ts)) (A5:=.ac (zat rs)) (A7:=.pl (.str t)) (c0:=c) hne c [] (cs[i] / 4) s10 s11 hc (qBn (hcs _ (qAe _)) (by decide)) (fun k hk=>(nomatch hk)) (by simp;omega)
   have hkl:ks.length=c.length:=by simpa using hkl
   have lk:LowS ks:=zsg lo hk
   have tup:∀ (E:DEnv),E[9]?=some (.ac (zae ks))→eCB zfb (zab (eVar 9) aNil) E=some ⟨zak ks,false,[9]⟩:=fun E hE=>by
    unfold eCB
    rw [zeq (r:=⟨zae ks,false,[9]⟩) (by unfold eVar;rw [hE])]
    rfl
   have cm:zej (gT 2 (zar 0 (zar 1 zdc))) zcv (eVar 1) [.no,.no] (rs.map zcg)=some (rs.map fun r=>zak r.2):=zdi (enc:=zcg) (out:=fun r=>zak r.2) fun r _=>⟨[.pl (.str r.1),.pl (zak r.2)],rfl,rfl,⟨zak r.2,false,[]⟩,rfl,rfl⟩
   have cm2:=zex (own:=["_law_one", "_law_row"]) (fr:=[]) (fi:=zas (eVar 5)) (g:=gT 2 (zar 0 (zar 1 zdc))) (t:=zcv) (e:=eVar 1) (env:=[.pl (zcp cs),.pl (zae (nm W)),.pl (.dict (dS zae (ups W))),.pl (zaq c),.pl (zae ts),.ac (zat rs),.pl (.int (i:Int)),.pl (.str t),.pl (.int r'),.ac (zae ks),s10',s11']) (ds:=rs.map zcg) (bs:=[5]) rfl (by rw [qF];omega) cm
   have em:(rs.map fun r=>zak r.2)=(rs.map (·.2)).map zak:=by rw [qBH];rfl
   rw [em] at cm2
   have tin:zbg (eOp (inS true) (eCB zfb (zab (eVar 9) aNil)) (zdt ["_law_one", "_law_row"] [] (zas (eVar 5)) (gT 2 (zar 0 (zar 1 zdc))) zcv (eVar 1))) [.pl (zcp cs),.pl (zae (nm W)),.pl (.dict (dS zae (ups W))),.pl (zaq c),.pl (zae ts),.ac (zat rs),.pl (.int (i:Int)),.pl (.str t),.pl (.int r'),.ac (zae ks),s10',s11']=some (!decide (ks∈rs.map (·.2))):=by
    refine zfy ?_
    unfold eOp
    rw [tup _ rfl,cm2]
    simp only [qD]
    rw [zaiw (neg:=true) (fun x hx=>by
     obtain ⟨r,hr,rfl⟩:=qz.mp hx
     exact zsg lo (ok.kinds r hr)) lk]
    rfl
   have itc:zas (eVar 3) [.pl (zcp cs),.pl (zae (nm W)),.pl (.dict (dS zae (ups W))),.pl (zaq c),.pl (zae ts),.ac (zat rs),.pl (.int (i:Int)),.pl (.str t),.pl (.int (cs[i] / 4)),.ac (zae []),s10,s11]=some (c.map armD,[]):=rfl
   have hpm:(pre++[(i,t)]).map (·.2)=pre.map (·.2)++[t]:=by simp
   by_cases hin:ks∈rs.map (·.2)
   ·rw [decide_eq_true hin] at tin
    exact ⟨_,_,rfl,.inl (zav e8 (zav rfl (zav (zhq itc inn) (if_f tin rfl)))),rs,_,_,_,_,_,_,rfl,ok.kinds,ok.size,ok.unl,by rw [hpm];exact ok.sub.trans (List.sublist_append_left _ _)⟩
   ·rw [decide_eq_false hin] at tin
    have et:eTup (zab (eVar 7) (zab (eCB zfb (zab (eVar 9) aNil)) aNil)) [.pl (zcp cs),.pl (zae (nm W)),.pl (.dict (dS zae (ups W))),.pl (zaq c),.pl (zae ts),.ac (zat rs),.pl (.int (i:Int)),.pl (.str t),.pl (.int r'),.ac (zae ks),s10',s11']=some ⟨zcg (t,ks),false,[9]⟩:=by
     unfold eTup
     rw [zbs (r:=vs t) rfl (zeq (tup _ rfl))]
     rfl
    have ap:sApp 5 (eTup (zab (eVar 7) (zab (eCB zfb (zab (eVar 9) aNil)) aNil))) [.pl (zcp cs),.pl (zae (nm W)),.pl (.dict (dS zae (ups W))),.pl (zaq c),.pl (zae ts),.ac (zat rs),.pl (.int (i:Int)),.pl (.str t),.pl (.int r'),.ac (zae ks),s10',s11']=some (.nx [.pl (zcp cs),.pl (zae (nm W)),.pl (.dict (dS zae (ups W))),.pl (zaq c),.pl (zae ts),.ac (zat (rs++[(t,ks)])),.pl (.int (i:Int)),.pl (.str t),.pl (.int r'),.pl (zae ks),s10',s11']):=by
     rw [zait (i:=5) (ds:=rs.map zcg) rfl et (by rw [qF];omega) (by decide)]
     congr 2
     unfold zat
     rw [qv]
     rfl
    refine ⟨_,_,rfl,.inl (zav e8 (zav rfl (zav (zhq itc inn) (if_t tin ap)))),rs++[(t,ks)],_,_,_,_,_,_,rfl,fun r hr=>?_,fun r hr=>?_,?_,?_⟩
    ·rcases qp.mp hr with hr|hr
     ·exact ok.kinds r hr
     ·rw [qAT.mp hr];exact hk
    ·rcases qp.mp hr with hr|hr
     ·exact ok.size r hr
     ·rw [qAT.mp hr];exact hkl
    ·rw [qv]
     exact qAj.mpr ⟨ok.unl,by simp,fun a ha b hb e=>hin (by
      have:b=ks:=by simpa using hb
      rw [← this,← e];exact ha)⟩
    ·rw [hpm,qv]
     exact ok.sub.append (qCg _))
 have hs:((List.range ts.length).zip ts).map (·.2)=ts:=by
  rw [show (fun z:Nat×Str=>z.2)=Prod.snd from rfl,List.map_snd_zip (by rw [List.length_range];exact qJ _)]
 rw [hs] at ok
 exact ⟨rs,ziw rfl (zav rfl (zav (zhq it lp) rfl)),ok⟩
theorem MadeOk.rules {W:Web} {p:Nat} {ts:List Str} {rs:List (Str×List Str)} (m:MadeOk W p ts rs) (lo:∀ x∈nm W,Low x) (hp:p≤3) (hts:ts.length≤16):RulesOk W rs :=
 ⟨fun r hr=>zsg lo (m.kinds r hr),m.kinds,fun r hr=>by rw [m.size r hr];omega,by have:=m.sub.length_le;simp at this;omega⟩
theorem MadeOk.names {W:Web} {p:Nat} {ts:List Str} {rs:List (Str×List Str)} (m:MadeOk W p ts rs) (nd:ts.Nodup):(rs.map (·.1)).Nodup:=m.sub.nodup nd
theorem CallIn.ok {W:Web} {c:List Arm} (h:CallIn (nm W) c) (hl:c.length≤3):CallOk W c:=⟨by omega,fun a ha=>qA6 (h.few a ha) (by decide),h.kinds⟩
def geB (W:Web) (a b:List Str):Bool:=(a.zip b).all fun z=>decide (z.2∈up W z.1)
theorem zadb {W:Web} {a b:List Str}:zfr W a b=(!(a==b)&&geB W a b):=rfl
abbrev Rule:=Str×List Str
structure OrdOk (W:Web) (p:Nat) (S:List Rule):Prop where
 kinds:∀ r∈S,∀ k∈r.2,k∈nm W
 size:∀ r∈S,r.2.length=p
theorem zsh:∀ (l:List Rule),ztk (l.map zcg)=some (dS zak l)
 | []=>rfl
 | p::l=>by
  rw [qY]
  unfold zcg ztk
  simp only [keyD,qD]
  rw [show l.map (fun p=>PyData.tuple [.str p.1,zak p.2])=l.map zcg from rfl,zsh l]
  rfl
theorem zauv:∀ (l:List Rule),(l.map (·.1)).Nodup→zje [] (dS zak l)=dS zak l:=by
 refine zop (fun _=>rfl) fun l p ih h=>?_
 rw [qv] at h
 have e:dS zak (l++[p])=dS zak l++[(.str p.1,zak p.2)]:=by unfold dS;rw [qv];rfl
 rw [e]
 unfold zje at ih ⊢
 rw [qBY,ih (qAj.mp h).1,← e]
 exact zaan zak fun hm=>(qAj.mp h).2.2 p.1 hm p.1 (by simp) rfl
theorem zaeo {l:List Rule} (h:(l.map (·.1)).Nodup):zxd [zat l]=some (.dict (dS zak l),true):=by
 unfold zxd zat
 simp only
 rw [zsh,qA7,zauv l h]
theorem zaix:∀ {l:List Rule},(l.map (·.1)).Nodup→∀ {n:Str} {a b:List Str},(n,a)∈l→(n,b)∈l→a=b
 | [],_,_,_,_,h,_=>by cases h
 | p::l,nd,n,a,b,h1,h2=>by
  rw [qY,qA8] at nd
  rcases qX.mp h1 with e1|h1
  ·rcases qX.mp h2 with e2|h2
   ·rw [← e1] at e2;exact (Prod.mk.inj e2).2.symm
   ·exact absurd (qz.mpr ⟨(n,b),h2,rfl⟩) (by rw [← e1] at nd;exact nd.1)
  ·rcases qX.mp h2 with e2|h2
   ·exact absurd (qz.mpr ⟨(n,a),h1,rfl⟩) (by rw [← e2] at nd;exact nd.1)
   ·exact zaix nd.2 h1 h2
theorem zame {l:List Rule} (nd:(l.map (·.1)).Nodup) {r:Rule} (h:r∈l):l.lookup r.1=some r.2:=by
 obtain ⟨ks,lk,hm⟩:=zik (l:=l) (n:=r.1) (qz.mpr ⟨r,h,rfl⟩)
 rw [lk,zaix nd hm (show (r.1,r.2)∈l from h)]
theorem zaiy {l:List Rule} (nd:(l.map (·.1)).Nodup) (f:Rule→Bool):((l.filter f).map (·.1)).Nodup:=(List.Sublist.map _ List.filter_sublist).nodup nd
abbrev nms (S:List Rule):List Str:=S.map (·.1)
theorem zzf:∀ (l:List Rule),(∀ r∈l,qAF r.1=true∧LowS r.2)→qu (l.map zcg)=true∧qi (l.map zcg)≤2
 | [],_=>⟨rfl,qAg _⟩
 | p::r,h=>by
  obtain ⟨h1,h2⟩:=zzf r fun q hq=>h q (qL _ hq)
  obtain ⟨g1,g2⟩:=h p qj
  obtain ⟨l1,l2⟩:=znr p.2 g2
  rw [qY]
  constructor
  ·show ((qAF p.1&&(qu (p.2.map .str)&&true))&&qu (r.map zcg))=true
   rw [g1,l1,h1];rfl
  ·show max (max 0 (max (qi (p.2.map .str)+1) 0)+1) (qi (r.map zcg))≤2
   rw [l2]
   omega
theorem zzg (a:List Str):zaq (a.map Arm.one)=zak a:=by
 unfold zaq zak
 rw [qBH]
 rfl
theorem zwa {W:Web}:∀ (a b:List Str),fitB W b (a.map Arm.one)=geB W a b
 | [],b=>by unfold fitB geB;simp
 | x::a,[]=>by unfold fitB geB;simp
 | x::a,y::b=>by
  have ih:=zwa (W:=W) a b
  unfold fitB geB at ih ⊢
  rw [qY,qBE,qBE,qAy,qAy,ih]
  congr 1
  rw [decide_eq_decide,zvx]
  show (∃ n∈[x],y∈up W n)↔y∈up W x
  simp
theorem zamf {d:PyData} (s:qAD d=true):neD d d=some (.bool false,false):=by
 unfold neD eqOk
 rw [s,Bool.and_self,qA4,if_pos rfl,PySem.SeqAt.eqv_refl _ (qAo s)]
 rfl
theorem zaqc {a b:EF} {env:DEnv} {d:PyData} {f1 f2:Bool} {b1 b2:List Nat} (ha:a env=some ⟨d,f1,b1⟩) (hb:b env=some ⟨d,f2,b2⟩) (s:qAD d=true):zbg (eOp neD a b) env=some false:=by
 refine zfy ?_
 unfold eOp;rw [ha,hb]
 simp only [qD]
 rw [zamf s];rfl
structure Bk (W:Web) (rs:List Rule) (c:List Arm):Prop where
 web:WebOk W
 rul:RulesOk W rs
 cal:CallOk W c
 ord:OrdOk W c.length rs
 nd:(rs.map (·.1)).Nodup
 low:∀ r∈rs,qAF r.1=true
theorem Bk.lows {W:Web} {rs:List Rule} {c:List Arm} (b:Bk W rs c) {S:List Rule} (hs:∀ x∈S,x∈rs):LowS (nms S):=fun k hk=>by
 obtain ⟨r,hr,rfl⟩:=qz.mp hk
 exact b.low r (hs r hr)
theorem zatm {f g:TF} {env:DEnv} (h1:f env=some false) (h2:g env=some false):tOrF f g env=some false:=by unfold tOrF;rw [h1];exact h2
theorem zabg {W:Web} {p:Nat} {rs:List Rule} (h:WebOk W) (lo:∀ x∈nm W,Low x) (lr:∀ r∈rs,qAF r.1=true∧LowS r.2):qAD (zbn W p rs)=true:=by
 obtain ⟨w1,w2⟩:=zacs W (zapz h lo)
 obtain ⟨r1,r2⟩:=zzf rs lr
 unfold qAD zbn
 rw [qAB]
 refine ⟨?_,decide_eq_true ?_⟩
 ·show (qu (W.map rowD)&&(true&&(qu (rs.map zcg)&&true)))=true
  rw [w1,r1];rfl
 ·show max (qi (W.map rowD)+1) (max 0 (max (qi (rs.map zcg)+1) 0))+1≤64
  omega
theorem zatn {w:OF} {a b:EF} {env:DEnv} {x y:Val} {z:PyData} {fr:Bool} (ha:a env=some x) (hb:b env=some y) (hw:w x.d y.d=some (z,fr)):eOp w a b env=some ⟨z,fr,bsOf z (x.bs++y.bs)⟩:=by
 unfold eOp;rw [ha,qD,hb,qD,hw];rfl
section
variable {d:PyData} {n:Nat}
end
theorem zaqd {neg:Bool} {i j:Nat} {env:DEnv} {x:Str} {xs:List Str} {s:Sl} (hi:env[i]?=some (.pl (.str x))) (hj:env[j]?=some s) (hs:Hd (zae xs) s):zbg (eOp (inD neg) (eVar i) (eVar j)) env=some (if neg then !decide (x∈xs) else decide (x∈xs)):=by
 obtain ⟨bs,e⟩:=e_hd hj hs
 have ei:eVar i env=some (vs x):=by unfold eVar;rw [hi]
 exact zfy (zatn ei e (zvf neg xs x))
section
variable {d:PyData} {n:Nat}
end
theorem zaiz:∀ c<128,∀ q∈[34,39],(Builtin.Str.reprChar q c).length≤4:=by decide +kernel
def zgo (W:Web) (ns:List Str):Option Str:=ns.find? fun n=>!decide (n∈nm W)
theorem zuc {W:Web}:∀ (ns:List Str) (all:List Str) (s:Sl),(∀ x∈ns,x∉nm W→atD (.str x)=true)→∃ s',zaag (gN 3) (xIf (zbg (eOp (inD true) (eVar 3) (eVar 2))) (zkw "NoKind" (eVar 3)) (xOf sNil)) (ns.map .str) [.pl (webD W),.pl (zae all),.ac (zae (nm W)),s] =
  (match zgo W ns with|none=>some (.ok (.nx [.pl (webD W),.pl (zae all),.ac (zae (nm W)),s']))|some x=>some (.rx "NoKind" (.str x)))
 | [],all,s,_=>⟨s,rfl⟩
 | n::ns,all,s,h=>by
  have t:=zaqd (neg:=true) (i:=3) (j:=2) (env:=[.pl (webD W),.pl (zae all),.ac (zae (nm W)),.pl (.str n)]) (x:=n) (xs:=nm W) rfl rfl (.inr rfl)
  by_cases hm:n∈nm W
  ·obtain ⟨s',e⟩:=zuc ns all (.pl (.str n)) fun x hx=>h x (qL _ hx)
   refine ⟨s',?_⟩
   have b:xIf (zbg (eOp (inD true) (eVar 3) (eVar 2))) (zkw "NoKind" (eVar 3)) (xOf sNil) [.pl (webD W),.pl (zae all),.ac (zae (nm W)),.pl (.str n)]=some (.ok (.nx [.pl (webD W),.pl (zae all),.ac (zae (nm W)),.pl (.str n)])):=by
    unfold xIf
    rw [t,qD,if_neg (by simp [hm])]
    rfl
   have f:zgo W (n::ns)=zgo W ns:=by unfold zgo;rw [qA0];simp [hm]
   rw [f,← e]
   show ((xIf _ _ _ [.pl (webD W),.pl (zae all),.ac (zae (nm W)),.pl (.str n)]).bind _)=_
   rw [b];rfl
  ·refine ⟨s,?_⟩
   have b:xIf (zbg (eOp (inD true) (eVar 3) (eVar 2))) (zkw "NoKind" (eVar 3)) (xOf sNil) [.pl (webD W),.pl (zae all),.ac (zae (nm W)),.pl (.str n)]=some (.rx "NoKind" (.str n)):=by
    unfold xIf
    rw [t,qD,if_pos (by simp [hm])]
    show (if atD (.str n)=true then some (OutX.rx "NoKind" (.str n)) else none)=_
    rw [if_pos (h n (by simp) hm)]
   have f:zgo W (n::ns)=some n:=by unfold zgo;rw [qA0];simp [hm]
   rw [f]
   show ((xIf _ _ _ [.pl (webD W),.pl (zae all),.ac (zae (nm W)),.pl (.str n)]).bind _)=_
   rw [b];rfl
theorem ztb {W:Web} (hl:W.length<100000) {ns:List Str} (h:∀ x∈ns,x∉nm W→atD (.str x)=true):zga [webD W,zae ns]=some (match zgo W ns with|none=>.ok .none false|some x=>.rx "NoKind" (.str x)):=by
 obtain ⟨s',e⟩:=zuc (W:=W) ns ns .no h
 have f:zfz [.pl (webD W),.pl (zae ns),.no,.no]=zaag (gN 3) (xIf (zbg (eOp (inD true) (eVar 3) (eVar 2))) (zkw "NoKind" (eVar 3)) (xOf sNil)) (ns.map .str) [.pl (webD W),.pl (zae ns),.ac (zae (nm W)),.no]:=by
  unfold zfz xSeq xOf
  rw [zcl (zbv (n:=1) (rs:=[⟨webD W,false,[]⟩]) rfl rfl (zaee hl))]
  rfl
 unfold zga fnX
 show (match zfz [.pl (webD W),.pl (zae ns),.no,.no] with|some (.ok (.rt d fr))=>some (ResX.ok d fr)|some (.ok (.nx _))=>some (.ok .none false)|some (.rx c d)=>some (.rx c d)|_=>none)=_
 rw [f,e]
 cases zgo W ns<;>rfl
theorem zez {f g:SFX} {env e1:DEnv} {o:Option OutX} (h:f env=some (.ok (.nx e1))) (k:g e1=o):xSeq f g env=o:=by unfold xSeq;rw [h];exact k
theorem zsi {f g:SFX} {env:DEnv} {c:Str} {d:PyData} (h:f env=some (.rx c d)):xSeq f g env=some (.rx c d):=by unfold xSeq;rw [h];rfl
theorem zaqe {t:TF} {f g:SFX} {env:DEnv} {o:Option OutX} (h:t env=some true) (k:f env=o):xIf t f g env=o:=by unfold xIf;rw [h];exact k
theorem zaep {t:TF} {f g:SFX} {env:DEnv} {o:Option OutX} (h:t env=some false) (k:g env=o):xIf t f g env=o:=by unfold xIf;rw [h];exact k
theorem zzh {f:SF} {env:DEnv} {o:Out} (h:f env=some o):xOf f env=some (.ok o):=by unfold xOf;rw [h];rfl
theorem zsj {c:Str} {f:EF} {env:DEnv} {r:Val} (h:f env=some r) (ha:atD r.d=true):zkw c f env=some (.rx c r.d):=by unfold zkw;rw [h,qD,if_pos ha]
theorem zadc {n:Nat} {g:GFX} {f:AF} {env:DEnv} {rs:List Val} {d:PyData} {fr:Bool} (h:f env=some rs) (hn:rs.length=n) (k:g (zhu rs)=some (.ok d fr)):zaah n g f env=some (.ok (.nx env)):=by unfold zaah;rw [h,qD,if_pos hn,k];rfl
theorem zadd {n:Nat} {g:GFX} {f:AF} {env:DEnv} {rs:List Val} {c:Str} {d:PyData} (h:f env=some rs) (hn:rs.length=n) (k:g (zhu rs)=some (.rx c d)):zaah n g f env=some (.rx c d):=by unfold zaah;rw [h,qD,if_pos hn,k];rfl
theorem zaja {i n:Nat} {g:GFX} {f:AF} {env:DEnv} {rs:List Val} {d:PyData} {fr:Bool} (h:f env=some rs) (hn:rs.length=n) (k:g (zhu rs)=some (.ok d fr)):zaed i n g f env=some (.ok (.nx (putV env i ⟨d,fr,bsOf d (bss rs)⟩))):=by unfold zaed;rw [h,qD,if_pos hn,k];rfl
theorem zaqf {i n:Nat} {g:GFX} {f:AF} {env:DEnv} {rs:List Val} {c:Str} {d:PyData} (h:f env=some rs) (hn:rs.length=n) (k:g (zhu rs)=some (.rx c d)):zaed i n g f env=some (.rx c d):=by unfold zaed;rw [h,qD,if_pos hn,k];rfl
theorem zano {n:Nat} {f:SFX} {ds:List PyData} {env:DEnv} {d:PyData} {fr:Bool} (h:zkq n ds=env) (e:f env=some (.ok (.rt d fr))):fnX n f ds=some (.ok d fr):=by unfold fnX;rw [h,e]
theorem zato {n:Nat} {f:SFX} {ds:List PyData} {env e1:DEnv} (h:zkq n ds=env) (e:f env=some (.ok (.nx e1))):fnX n f ds=some (.ok .none false):=by unfold fnX;rw [h,e]
theorem zud {n:Nat} {f:SFX} {ds:List PyData} {env:DEnv} {c:Str} {d:PyData} (h:zkq n ds=env) (e:f env=some (.rx c d)):fnX n f ds=some (.rx c d):=by unfold fnX;rw [h,e]
def ziu (W:Web) (p:Nat) (c:List Arm):Option (Str×PyData):=if c.length=p then (zgo W (c.flatMap Arm.parts)).map fun x=>("NoKind",.str x) else some ("NoCall",.none)
structure CallLike (W:Web) (c:List Arm):Prop where
 len:c.length<300
 few:∀ a∈c,a.parts.length<300
 at_:∀ a∈c,∀ n∈a.parts,n∉nm W→atD (.str n)=true
theorem CallOk.like {W:Web} {c:List Arm} (h:CallOk W c):CallLike W c:=⟨h.len,h.few,fun a ha n hn z=>absurd (h.kinds a ha n hn) z⟩
theorem zajb {W:Web} {p:Nat} {c:List Arm} (h:CallOk W c) (hp:c.length=p):ziu W p c=none:=by
 unfold ziu
 rw [if_pos hp]
 have:zgo W (c.flatMap Arm.parts)=none:=by
  unfold zgo
  rw [List.find?_eq_none]
  intro n hn
  obtain ⟨a,ha,hn'⟩:=qBN.mp hn
  simp [h.kinds a ha n hn']
 rw [this];rfl
theorem zaqg (a b:Nat):neD (.int (a:Int)) (.int (b:Int))=some (.bool (!decide (a=b)),false):=by
 by_cases e:a=b
 ·subst e
  rw [zahu,decide_eq_true rfl];rfl
 ·have:(a:Int)≠(b:Int):=fun z=>e (Int.ofNat.inj z)
  rw [decide_eq_false e]
  show some (PyData.bool (!((a:Int)==(b:Int))),false)=_
  rw [beq_eq_false_iff_ne.mpr this]
theorem zod {W:Web} (h:WebOk W) {p:Nat} {c:List Arm} (hc:CallLike W c):zhx [webD W,.int p,zaq c]=some (match ziu W p c with|none=>.ok .none false|some z=>.rx z.1 z.2):=by
 have hW:W.length≤12:=h.len
 have e2:eCB lenD (zab (eVar 2) aNil) [.pl (webD W),.pl (.int p),.pl (zaq c)]=some (vi (c.map armD).length):=rfl
 have t:zbg (eOp neD (eCB lenD (zab (eVar 2) aNil)) (eVar 1)) [.pl (webD W),.pl (.int p),.pl (zaq c)]=some (!decide (c.length=p)):=by
  refine zfy ?_
  unfold eOp
  rw [e2]
  show ((neD (.int ((c.map armD).length:Nat)) (.int (p:Nat))).bind fun z=>some (⟨z.1,z.2,bsOf z.1 ([]++[])⟩:Val))=_
  rw [qF,zaqg];rfl
 unfold ziu
 by_cases hp:c.length=p
 ·rw [decide_eq_true hp] at t
  rw [if_pos hp]
  have cn:=ztb (W:=W) (by omega) (ns:=c.flatMap Arm.parts) fun x hx hm=>by
   obtain ⟨a,ha',hn'⟩:=qBN.mp hx
   exact hc.at_ a ha' x hn' hm
  have ar:zab (eVar 0) (zab (zbb 1 zfj (zab (eVar 2) aNil)) aNil) [.pl (webD W),.pl (.int p),.pl (zaq c)]=some [⟨webD W,false,[]⟩,⟨zae (c.flatMap Arm.parts),true,[]⟩]:=zbs rfl (zeq (zbv (n:=1) (rs:=[⟨zaq c,false,[]⟩]) rfl rfl (zsb hc.len hc.few)))
  cases hf:zgo W (c.flatMap Arm.parts) with
  | none =>
   rw [hf] at cn
   exact zato (env:=[.pl (webD W),.pl (.int p),.pl (zaq c)]) rfl (zez (zaep t rfl) (zadc (n:=2) ar rfl cn))
  | some x =>
   rw [hf] at cn
   exact zud (env:=[.pl (webD W),.pl (.int p),.pl (zaq c)]) rfl (zez (zaep t rfl) (zadd (n:=2) ar rfl cn))
 ·rw [decide_eq_false hp] at t
  rw [if_neg hp]
  exact zud (env:=[.pl (webD W),.pl (.int p),.pl (zaq c)]) rfl (zsi (zaqe t (zsj (r:=⟨.none,false,[]⟩) rfl rfl)))
theorem zamg {W:Web} (h:WebOk W) {p:Nat} {rs:List Rule} {c:List Arm} (hc:CallLike W c) {z:Str×PyData} (hb:ziu W p c=some z):zee [zbn W p rs,zaq c]=some (.rx z.1 z.2):=by
 have g:=zod h (p:=p) hc
 rw [hb] at g
 exact zud (env:=[.pl (zbn W p rs),.pl (zaq c),.no,.no,.no,.no]) rfl (zez rfl (zsi (zadd (n:=3) (rs:=[⟨webD W,false,[]⟩,vi p,⟨zaq c,false,[]⟩]) rfl rfl g)))
theorem zajc {W:Web} (h:WebOk W) {p:Nat} {rs:List Rule} {c:List Arm} (hr:RulesOk W rs) (hc:CallOk W c) (hp:c.length=p):zee [zbn W p rs,zaq c]=some (.ok (zat (fitL W rs c)) true):=by
 have hl:=hr.len
 have g:=zod h (p:=p) hc.like
 rw [zajb hc hp] at g
 have e5:sSet 5 (zbb 2 zfk (zab (zbb 1 zgt (zab (eVar 2) aNil)) (zab (eVar 1) aNil))) [.pl (zbn W p rs),.pl (zaq c),.pl (webD W),.pl (.int p),.pl (zat rs),.no]=some (.nx [.pl (zbn W p rs),.pl (zaq c),.pl (webD W),.pl (.int p),.pl (zat rs),.ac (.list (c.map fun a=>zbi (upA W a)))]) :=
  zcl (r:=⟨.list (c.map fun a=>zbi (upA W a)),true,[]⟩) (zbv (n:=2) (rs:=[⟨.dict (dS zbi (ups W)),true,[]⟩,⟨zaq c,false,[]⟩]) (zbs (zbv (n:=1) (rs:=[⟨webD W,false,[]⟩]) rfl rfl (zto h)) (zeq rfl)) rfl (zsc h hc.len hc.kinds))
 have k:zej (gN 0) (tTru (zbb 2 zhl (zab (eIxV 0 (eC (.int 1))) (zab (eVar 1) aNil)))) (eVar 0) [.no,.pl (.list (c.map fun a=>zbi (upA W a)))] (rs.map zcg)=some ((fitL W rs c).map zcg) :=
  zfi (enc:=zcg) (out:=zcg) (e:=eVar 0) (fun r=>fitB W r.2 c) fun r hm=>⟨[.pl (zcg r),.pl (.list (c.map fun a=>zbi (upA W a)))],rfl,zob (n:=2) (rs:=[⟨zak r.2,false,[]⟩,⟨.list (c.map fun a=>zbi (upA W a)),false,[]⟩]) rfl rfl (zza hc.len),fun _=>⟨⟨zcg r,false,[]⟩,rfl,rfl⟩⟩
 exact zano (env:=[.pl (zbn W p rs),.pl (zaq c),.no,.no,.no,.no]) rfl (zez rfl (zez (zadc (n:=3) (rs:=[⟨webD W,false,[]⟩,vi p,⟨zaq c,false,[]⟩]) rfl rfl g) (zez (zzh e5) (zzh (zkz (zex (own:=["rule"]) (fr:=[5]) (fi:=zas (eVar 4)) (ds:=rs.map zcg) (bs:=[]) rfl (by rw [qF];omega) k))))))
abbrev onE (W:Web) (p:Nat) (rs:List Rule) (c:List Arm) (n:Str) (s6 s7 s8:Sl):DEnv:=[.pl (zbn W p rs),.pl (zaq c),.pl (.str n),.pl (webD W),.pl (.int p),.pl (zat rs),s6,s7,s8]
theorem zamh {W:Web} {p:Nat} {rs:List Rule} {c:List Arm} {n:Str} (hl:rs.length<300):zbg (eOp (inD true) (eVar 2) (zbb 1 zem (zab (eVar 5) aNil))) (onE W p rs c n .no .no .no)=some (!decide (n∈nms rs)) :=
 zfy (e_in (neg:=true) rfl (zbv (n:=1) (rs:=[⟨zat rs,false,[]⟩]) (zeq rfl) rfl (zln hl)))
theorem zaeq {W:Web} {p:Nat} {rs:List Rule} {c:List Arm} {n:Str} (hl:rs.length<300) (hn:n∉nms rs) (ha:atD (.str n)=true):zef [zbn W p rs,zaq c,.str n]=some (.rx "NoRule" (.str n)):=by
 have t:=zamh (W:=W) (p:=p) (c:=c) (n:=n) hl
 rw [decide_eq_false hn] at t
 exact zud (env:=[.pl (zbn W p rs),.pl (zaq c),.pl (.str n),.no,.no,.no,.no,.no,.no]) rfl (zez rfl (zsi (zaqe t (zsj (r:=⟨.str n,false,[]⟩) rfl ha))))
theorem zabh {W:Web} (h:WebOk W) {p:Nat} {rs:List Rule} {c:List Arm} {n:Str} (hl:rs.length<300) (hn:n∈nms rs) (hc:CallLike W c) {z:Str×PyData} (hb:ziu W p c=some z):zef [zbn W p rs,zaq c,.str n]=some (.rx z.1 z.2):=by
 have t:=zamh (W:=W) (p:=p) (c:=c) (n:=n) hl
 rw [decide_eq_true hn] at t
 exact zud (env:=[.pl (zbn W p rs),.pl (zaq c),.pl (.str n),.no,.no,.no,.no,.no,.no]) rfl (zez rfl (zez (zaep t rfl) (zsi (zaqf (n:=2) (rs:=[⟨zbn W p rs,false,[]⟩,⟨zaq c,false,[]⟩]) rfl rfl (zamg h hc hb)))))
theorem zatp {W:Web} {p:Nat} {rs S:List Rule} {c:List Arm} {n:Str} (hl:S.length<300):zbg (eOp (inD true) (eVar 2) (zbb 1 zem (zab (eVar 6) aNil))) (onE W p rs c n (.ac (zat S)) .no .no)=some (!decide (n∈nms S)) :=
 zfy (e_in (neg:=true) rfl (zbv (n:=1) (rs:=[⟨zat S,false,[6]⟩]) (zeq rfl) rfl (zln hl)))
theorem zajd {W:Web} (h:WebOk W) {p:Nat} {rs:List Rule} {c:List Arm} {n:Str} (hr:RulesOk W rs) (hc:CallOk W c) (hp:c.length=p) (hn:n∈nms rs) (hf:n∉nms (fitL W rs c)) (ha:atD (.str n)=true):zef [zbn W p rs,zaq c,.str n]=some (.rx "NoFit" (.str n)):=by
 have t:=zamh (W:=W) (p:=p) (c:=c) (n:=n) hr.len
 rw [decide_eq_true hn] at t
 have t2:=zatp (W:=W) (p:=p) (rs:=rs) (S:=fitL W rs c) (c:=c) (n:=n) (RulesOk.filter hr _).len
 rw [decide_eq_false hf] at t2
 exact zud (env:=[.pl (zbn W p rs),.pl (zaq c),.pl (.str n),.no,.no,.no,.no,.no,.no]) rfl (zez rfl (zez (zaep t rfl) (zez (zaja (n:=2) (rs:=[⟨zbn W p rs,false,[]⟩,⟨zaq c,false,[]⟩]) rfl rfl (zajc h hr hc hp)) (zsi (zaqe t2 (zsj (r:=⟨.str n,false,[]⟩) rfl ha))))))
theorem zatq {W:Web} (h:WebOk W) {p:Nat} {rs:List Rule} {c:List Arm} (hr:RulesOk W rs) (hc:CallOk W c) (hp:c.length=p) (nd:(rs.map (·.1)).Nodup) {r:Rule} (hm:r∈fitL W rs c):zef [zbn W p rs,zaq c,.str r.1]=some (.ok (zit (nms (zoz W ((fitL W rs c).filter fun x=>zfr W r.2 x.2)))) false):=by
 have hl:=hr.len
 have fok:RulesOk W (fitL W rs c):=hr.filter _
 have ndf:((fitL W rs c).map (·.1)).Nodup:=zaiy nd _
 have hin1:r.1∈nms rs:=qz.mpr ⟨r,(qAJ.mp hm).1,rfl⟩
 have hin2:r.1∈nms (fitL W rs c):=qz.mpr ⟨r,hm,rfl⟩
 have t1:=zamh (W:=W) (p:=p) (c:=c) (n:=r.1) hl
 rw [decide_eq_true hin1] at t1
 have t2:=zatp (W:=W) (p:=p) (rs:=rs) (S:=fitL W rs c) (c:=c) (n:=r.1) fok.len
 rw [decide_eq_true hin2] at t2
 have e7:sSet 7 (zaga (eCB zxd (zab (eVar 6) aNil)) (eVar 2)) (onE W p rs c r.1 (.ac (zat (fitL W rs c))) .no .no)=some (.nx (onE W p rs c r.1 (.pl (zat (fitL W rs c))) (.pl (zak r.2)) .no)):=by
  refine zcl (r:=⟨zak r.2,false,[6]⟩) ?_
  have ed:eCB zxd (zab (eVar 6) aNil) (onE W p rs c r.1 (.ac (zat (fitL W rs c))) .no .no)=some ⟨.dict (dS zak (fitL W rs c)),true,[6]⟩:=by
   unfold eCB
   rw [zeq (r:=⟨zat (fitL W rs c),false,[6]⟩) rfl]
   show ((zxd [zat (fitL W rs c)]).bind _)=_
   rw [zaeo ndf];rfl
  unfold zaga
  rw [ed]
  show ((some (Sum.inr r.1:Key)).bind fun k=>(zmr (dS zak (fitL W rs c)) k).bind _)=_
  rw [qD,zla,zame ndf hm]
  rfl
 have e8:sSet 8 (zbb 1 zgt (zab (eVar 3) aNil)) (onE W p rs c r.1 (.pl (zat (fitL W rs c))) (.pl (zak r.2)) .no)=some (.nx (onE W p rs c r.1 (.pl (zat (fitL W rs c))) (.pl (zak r.2)) (.ac (.dict (dS zbi (ups W)))))) :=
  zcl (r:=⟨.dict (dS zbi (ups W)),true,[]⟩) (zbv (n:=1) (rs:=[⟨webD W,false,[]⟩]) rfl rfl (zto h))
 have cm:zej (gN 0) (tTru (zbb 3 zfl (zab (eVar 2) (zab (eVar 1) (zab (eIxV 0 (eC (.int 1))) aNil))))) (eVar 0) [.no,.pl (zak r.2),.pl (.dict (dS zbi (ups W)))] ((fitL W rs c).map zcg)=some (((fitL W rs c).filter fun x=>zfr W r.2 x.2).map zcg) :=
  zfi (enc:=zcg) (out:=zcg) (fun x=>zfr W r.2 x.2) fun x hx=>⟨[.pl (zcg x),.pl (zak r.2),.pl (.dict (dS zbi (ups W)))],rfl,zob (n:=3) (rs:=[⟨.dict (dS zbi (ups W)),false,[]⟩,⟨zak r.2,false,[]⟩,⟨zak x.2,false,[]⟩]) rfl rfl (zsd h (fok.low r hm) (fok.low x hx) (fok.kinds r hm) (fok.few r hm)),fun _=>⟨⟨zcg x,false,[]⟩,rfl,rfl⟩⟩
 have cm2:=zex (own:=["rule"]) (fr:=[7,8]) (fi:=zas (eVar 6)) (e:=eVar 0) (env:=onE W p rs c r.1 (.pl (zat (fitL W rs c))) (.pl (zak r.2)) (.ac (.dict (dS zbi (ups W))))) (ds:=(fitL W rs c).map zcg) (bs:=[]) rfl (by rw [qF];have:=fok.len;omega) cm
 exact zano (env:=[.pl (zbn W p rs),.pl (zaq c),.pl (.str r.1),.no,.no,.no,.no,.no,.no]) rfl (zez rfl (zez (zaep t1 rfl) (zez (zaja (n:=2) (rs:=[⟨zbn W p rs,false,[]⟩,⟨zaq c,false,[]⟩]) rfl rfl (zajc h hr hc hp)) (zez (zaep t2 rfl) (zez (zzh e7) (zez (zzh e8) (zzh (zkz (zbv (n:=2) (zbs (a:=eVar 8) (r:=⟨.dict (dS zbi (ups W)),false,[8]⟩) rfl (zeq cm2)) rfl (zta h (fok.filter _)))))))))))
def zkh:ResX→PyData
 | .ok d _=>.tuple [.str "told",d]
 | .rx c d=>.tuple [.bool (decide (c = "NoRule")),.bool (decide (c = "NoCall")),.bool (decide (c = "NoKind")),.bool (decide (c = "NoFit")),d,.bool true]
def zaje:ResX→Prop
 | .ok _ _=>True
 | .rx c _=>c∈(["NoCall", "NoFit", "NoKind", "NoRule"]:List Str)
theorem zade {B C N:PyData} {r:ResX} (h:zef [B,C,N]=some r) (k:zaje r):zbe [B,C,N]=some (zkh r,false):=by
 refine ziw (env:=[.pl B,.pl C,.pl N,.no,.no]) rfl (zav (e1:=[.pl B,.pl C,.pl N,.no,.pl (.tuple [.str "refused",.str "by none"])]) rfl ?_)
 cases r with
 | ok d fr =>
  refine zav (e1:=[.pl B,.pl C,.pl N,.no,.pl (.tuple [.str "told",d])]) ?_ rfl
  refine (if_pos rfl).trans ?_
  unfold zahs
  show (some _).bind _=_
  rw [qD]
  show (if 3=3 then (zef [B,C,N]).bind _ else none)=_
  refine (if_pos rfl).trans ?_
  rw [h];rfl
 | rx c d =>
  refine zav (e1:=[.pl B,.pl C,.pl N,.no,.pl (zkh (.rx c d))]) ?_ rfl
  refine (if_pos rfl).trans ?_
  unfold zahs
  show (some _).bind _=_
  rw [qD]
  show (if 3=3 then (zef [B,C,N]).bind _ else none)=_
  refine (if_pos rfl).trans ?_
  rw [h]
  show (if c∈_ then _ else none)=_
  refine (if_pos (show c∈(["NoCall", "NoFit", "NoKind", "NoRule"]:List Str) from k)).trans ?_
  rfl
theorem zajf {W:Web} {q:List Str} (h1:q.length<300) (h2:∀ k∈q,k∈nm W):CallOk W (q.map Arm.one):=⟨by rw [qF];exact h1,fun z hz=>by obtain ⟨x,_,rfl⟩:=qz.mp hz;show 1<300;decide,fun z hz n hn=>by
 obtain ⟨x,hx,rfl⟩:=qz.mp hz
 have:n=x:=by simpa [Arm.parts] using hn
 rw [this];exact h2 x hx⟩
theorem zaqh {a b:List Str}:(a==b)=(b==a):=by
 by_cases h:a=b
 ·rw [h]
 ·rw [beq_eq_false_iff_ne.mpr h,beq_eq_false_iff_ne.mpr fun z=>h z.symm]
theorem zaqi {A0 A1 A2 A3 A4 A5 A6:Sl}:∀ (xs:List Str),(sSeq (sIf (zbg (eOp eqD (eCB lenD (zab (eVar 7) aNil)) (eC (.int 0)))) (sRet (eTup (zab (eC (.str "none")) aNil))) sNil)
  (sSeq (sIf (zbg (eOp eqD (eCB lenD (zab (eVar 7) aNil)) (eC (.int 1)))) (sRet (eTup (zab (eC (.str "rule")) (zab (eIxV 7 (eC (.int 0))) aNil)))) sNil)
  (sRet (eTup (zab (eC (.str "quarrel")) (zab (eCB zfb (zab (eVar 7) aNil)) aNil)))))) [A0,A1,A2,A3,A4,A5,A6,.ac (zae xs)]=some (.rt (zit xs) false)
 | []=>rfl
 | [x]=>rfl
 | x::y::xs=>by
  have t:∀ j:Int,(j=0∨j=1)→zbg (eOp eqD (eCB lenD (zab (eVar 7) aNil)) (eC (.int j))) [A0,A1,A2,A3,A4,A5,A6,.ac (zae (x::y::xs))]=some false:=fun j hj=>by
   rw [zfy (zst (i:=((x::y::xs).map PyData.str).length) (j:=j) (ztp rfl) rfl)]
   congr 1
   rw [beq_eq_false_iff_ne,qF,qAN,qAN]
   omega
  exact zav (if_f (t 0 (.inl rfl)) rfl) (zav (if_f (t 1 (.inr rfl)) rfl) rfl)
theorem zaqj {W:Web} (h:WebOk W) {rs:List Rule} {c:List Arm} {own:List Str} (hr:RulesOk W rs) (hc:CallOk W c) (ok:OrdOk W c.length rs) (ho:own.length=c.length) (hok:∀ k∈own,k∈nm W) (hol:LowS own) :
  zfn [.dict (dS zae (ups W)),zat rs,zaq c,zak own]=some (zit (nms (zoz W ((fitL W rs c).filter fun x=>zfr W own x.2))),false):=by
 have hl:=hr.len
 let S:=(fitL W rs c).filter fun x=>zfr W own x.2
 have hS:S=rs.filter fun x=>fitB W x.2 c&&zfr W own x.2:=by
  show ((rs.filter _).filter _)=_
  rw [List.filter_filter]
  congr 1
  funext x
  exact Bool.and_comm _ _
 have hsub:∀ x∈S,x∈rs:=fun x hx=>(qAJ.mp (qAJ.mp hx).1).1
 have sl:S.length≤rs.length:=qAG (qAr _ _) (qAr _ _)
 show _=some (zit (nms (zoz W S)),false)
 have hol':own.length<300:=by rw [ho];exact hc.len
 have co:=zajf (W:=W) hol' hok
 obtain ⟨env',lp,s5,s6,rfl⟩:=zdu (enc:=zcg) (g:=gT 2 (zar 5 (zar 6 zdc))) (l:=rs) (env:=[.pl (.dict (dS zae (ups W))),.pl (zat rs),.pl (zaq c),.pl (zak own),.ac (.list []),.no,.no,.no])
  (body:=(sIf (zol (tTru (zbb 3 zcb (zab (eVar 0) (zab (eVar 6) (zab (eVar 2) aNil))))) (zol (zbg (eOp neD (eVar 6) (eVar 3))) (tTru (zbb 3 zcb (zab (eVar 0) (zab (eVar 6) (zab (eVar 3) aNil))))))) (sApp 4 (eTup (zab (eVar 5) (zab (eVar 6) aNil)))) sNil))
  (fun pre env=>∃ s5 s6,env=[.pl (.dict (dS zae (ups W))),.pl (zat rs),.pl (zaq c),.pl (zak own),.ac (zat (pre.filter fun x=>fitB W x.2 c&&zfr W own x.2)),s5,s6,.no]) ⟨_,_,rfl⟩ (by
   rintro pre r post env hp ⟨s5,s6,rfl⟩
   have hrr:r∈rs:=by rw [← hp];simp
   have hpl:pre.length<300:=by
    have:=congrArg List.length hp
    simp at this;omega
   refine ⟨_,[.pl (.dict (dS zae (ups W))),.pl (zat rs),.pl (zaq c),.pl (zak own),.ac (zat ((pre++[r]).filter fun x=>fitB W x.2 c&&zfr W own x.2)),.pl (.str r.1),.pl (zak r.2),.no],rfl,.inl ?_,_,_,rfl⟩
   generalize hacc:pre.filter (fun x=>fitB W x.2 c&&zfr W own x.2)=acc
   have la:acc.length<300:=by rw [← hacc];exact qA6 (qAr _ _) hpl
   have e1:tTru (zbb 3 zcb (zab (eVar 0) (zab (eVar 6) (zab (eVar 2) aNil)))) [.pl (.dict (dS zae (ups W))),.pl (zat rs),.pl (zaq c),.pl (zak own),.ac (zat acc),.pl (.str r.1),.pl (zak r.2),.no]=some (fitB W r.2 c):=zob (n:=3) (rs:=[⟨.dict (dS zae (ups W)),false,[]⟩,⟨zak r.2,false,[]⟩,⟨zaq c,false,[]⟩]) rfl rfl (zmb h hc (by rw [ok.size r hrr];exact qJ _))
   have gf:=zmb h (ks:=r.2) co (by rw [qF,ok.size r hrr,ho];exact qJ _)
   rw [zzg,zwa] at gf
   have e2:tTru (zbb 3 zcb (zab (eVar 0) (zab (eVar 6) (zab (eVar 3) aNil)))) [.pl (.dict (dS zae (ups W))),.pl (zat rs),.pl (zaq c),.pl (zak own),.ac (zat acc),.pl (.str r.1),.pl (zak r.2),.no]=some (geB W own r.2):=zob (n:=3) (rs:=[⟨.dict (dS zae (ups W)),false,[]⟩,⟨zak r.2,false,[]⟩,⟨zak own,false,[]⟩]) rfl rfl gf
   have e3:zbg (eOp neD (eVar 6) (eVar 3)) [.pl (.dict (dS zae (ups W))),.pl (zat rs),.pl (zaq c),.pl (zak own),.ac (zat acc),.pl (.str r.1),.pl (zak r.2),.no]=some (!(own==r.2)):=by
    refine zfy ?_
    show ((neD (zak r.2) (zak own)).bind fun z=>some (⟨z.1,z.2,bsOf z.1 ([]++[])⟩:Val))=_
    rw [zvz (hr.low r hrr) hol,zaqh];rfl
   have tt:zol (tTru (zbb 3 zcb (zab (eVar 0) (zab (eVar 6) (zab (eVar 2) aNil))))) (zol (zbg (eOp neD (eVar 6) (eVar 3))) (tTru (zbb 3 zcb (zab (eVar 0) (zab (eVar 6) (zab (eVar 3) aNil)))))) [.pl (.dict (dS zae (ups W))),.pl (zat rs),.pl (zaq c),.pl (zak own),.ac (zat acc),.pl (.str r.1),.pl (zak r.2),.no]=some (fitB W r.2 c&&zfr W own r.2):=by
    unfold zol
    rw [e1,e3,e2,zadb]
    cases fitB W r.2 c<;>cases own==r.2<;>rfl
   rw [List.filter_append,hacc]
   cases hb:(fitB W r.2 c&&zfr W own r.2) with
   | false =>
    rw [hb] at tt
    refine if_f tt ?_
    rw [show ([r].filter fun x=>fitB W x.2 c&&zfr W own x.2)=[] by rw [qBO,hb];rfl,qx]
    rfl
   | true =>
    rw [hb] at tt
    refine if_t tt ?_
    rw [show ([r].filter fun x=>fitB W x.2 c&&zfr W own x.2)=[r] by rw [qBO,hb];rfl]
    rw [zpd (ds:=acc.map zcg) (d:=zcg r) (fr:=false) rfl rfl (by rw [qF];omega)]
    congr 2
    unfold zat
    simp)
 rw [← hS] at lp
 obtain ⟨env',lp2,t5,t6,rfl⟩:=zdu (enc:=zcg) (g:=gT 2 (zar 5 (zar 6 zdc))) (l:=S) (env:=[.pl (.dict (dS zae (ups W))),.pl (zat rs),.pl (zaq c),.pl (zak own),.pl (zat S),s5,s6,.ac (zae [])])
  (body:=(sIf (zkp (tTru (eCB (anyD fun bs=>bs.any id) (zab (zdt ["_law_one", "_law_other"] [0,6] (zas (eVar 4)) (gT 2 (zar 0 (zar 1 zdc))) zcv (eAnd (eOp neD (eVar 1) (eVar 3)) (zbb 3 zcb (zab (eVar 2) (zab (eVar 3) (zab (eVar 1) aNil)))))) aNil)))) (sApp 7 (eVar 5)) sNil))
  (fun pre env=>∃ s5 s6,env=[.pl (.dict (dS zae (ups W))),.pl (zat rs),.pl (zaq c),.pl (zak own),.pl (zat S),s5,s6,.ac (zae (nms (pre.filter fun r=>!(S.any fun q=>zfr W q.2 r.2))))]) ⟨_,_,rfl⟩ (by
   rintro pre r post env hp ⟨s5,s6,rfl⟩
   have hrr:r∈rs:=hsub r (by rw [← hp];simp)
   have hpl:pre.length<300:=by
    have:=congrArg List.length hp
    simp at this;omega
   refine ⟨_,[.pl (.dict (dS zae (ups W))),.pl (zat rs),.pl (zaq c),.pl (zak own),.pl (zat S),.pl (.str r.1),.pl (zak r.2),.ac (zae (nms ((pre++[r]).filter fun r=>!(S.any fun q=>zfr W q.2 r.2))))],rfl,.inl ?_,_,_,rfl⟩
   have cm2:zej (gT 2 (zar 0 (zar 1 zdc))) zcv (eAnd (eOp neD (eVar 1) (eVar 3)) (zbb 3 zcb (zab (eVar 2) (zab (eVar 3) (zab (eVar 1) aNil))))) [.no,.no,.pl (.dict (dS zae (ups W))),.pl (zak r.2)] (S.map zcg)=some (S.map fun q=>.bool (zfr W q.2 r.2)):=by
    refine zdi (enc:=zcg) (out:=fun q=>.bool (zfr W q.2 r.2)) fun q hq=>⟨[.pl (.str q.1),.pl (zak q.2),.pl (.dict (dS zae (ups W))),.pl (zak r.2)],rfl,rfl,vb (zfr W q.2 r.2),?_,rfl⟩
    have hqr:=hsub q hq
    have gf:=zmb h (ks:=r.2) (zajf (hr.few q hqr) (hr.kinds q hqr)) (by rw [qF,ok.size r hrr,ok.size q hqr];exact qJ _)
    rw [zzg,zwa] at gf
    have e1:eOp neD (eVar 1) (eVar 3) [.pl (.str q.1),.pl (zak q.2),.pl (.dict (dS zae (ups W))),.pl (zak r.2)]=some (vb (!(q.2==r.2))):=by
     show ((neD (zak q.2) (zak r.2)).bind fun z=>some (⟨z.1,z.2,bsOf z.1 ([]++[])⟩:Val))=_
     rw [zvz (hr.low q hqr) (hr.low r hrr)];rfl
    have e2:zbb 3 zcb (zab (eVar 2) (zab (eVar 3) (zab (eVar 1) aNil))) [.pl (.str q.1),.pl (zak q.2),.pl (.dict (dS zae (ups W))),.pl (zak r.2)]=some (vb (geB W q.2 r.2)):=zbv (n:=3) (rs:=[⟨.dict (dS zae (ups W)),false,[]⟩,⟨zak r.2,false,[]⟩,⟨zak q.2,false,[]⟩]) rfl rfl gf
    unfold eAnd
    rw [e1,e2,zadb]
    cases q.2==r.2<;>rfl
   generalize hacc:pre.filter (fun r=>!(S.any fun q=>zfr W q.2 r.2))=acc
   have la:acc.length<300:=by rw [← hacc];exact qA6 (qAr _ _) hpl
   have an:=zxx (zama (f:=fun q:Rule=>zfr W q.2 r.2) (zex (own:=["_law_one", "_law_other"]) (fr:=[0,6]) (fi:=zas (eVar 4)) (env:=[.pl (.dict (dS zae (ups W))),.pl (zat rs),.pl (zaq c),.pl (zak own),.pl (zat S),.pl (.str r.1),.pl (zak r.2),.ac (zae (nms acc))]) (ds:=S.map zcg) (bs:=[]) rfl (by rw [qF];omega) cm2))
   rw [List.filter_append,hacc]
   cases hb:(S.any fun q=>zfr W q.2 r.2) with
   | true =>
    rw [hb] at an
    refine if_f an ?_
    rw [show ([r].filter fun r=>!(S.any fun q=>zfr W q.2 r.2))=[] by rw [qBO,hb];rfl,qx]
    rfl
   | false =>
    rw [hb] at an
    refine if_t an ?_
    rw [show ([r].filter fun r=>!(S.any fun q=>zfr W q.2 r.2))=[r] by rw [qBO,hb];rfl]
    rw [zpd (ds:=(nms acc).map .str) (d:=.str r.1) (fr:=false) rfl rfl (by rw [qF,qF];omega)]
    congr 2
    unfold zae nms
    simp)
 exact ziw (env:=[.pl (.dict (dS zae (ups W))),.pl (zat rs),.pl (zaq c),.pl (zak own),.no,.no,.no,.no]) rfl (zav rfl (zav (zhq (ds:=rs.map zcg) (bs:=[]) rfl lp) (zav rfl (zav (zhq (ds:=S.map zcg) (bs:=[4]) rfl lp2) (zaqi _)))))
def shN (k:Nat) (d:PyData):Prop:=PyData.canLay0 d=true∧PyData.depth d≤k
theorem zanp {k:Nat}:∀ {ds:List PyData},(∀ d∈ds,shN k d)→qu ds=true∧qi ds≤k
 | [],_=>⟨by unfold qu;rfl,by unfold qi;omega⟩
 | d::ds,h=>by
  obtain ⟨h1,h2⟩:=h d (by simp)
  obtain ⟨h3,h4⟩:=zanp fun x hx=>h x (qL _ hx)
  unfold qu qi
  exact ⟨by rw [h1,h3];rfl,by omega⟩
theorem zue {k:Nat} {ds:List PyData} (h:∀ d∈ds,shN k d):shN (k+1) (.tuple ds):=by
 obtain ⟨h1,h2⟩:=zanp h
 unfold shN PyData.canLay0 PyData.depth
 exact ⟨h1,by omega⟩
theorem zsk {k:Nat} {b:Bool}:shN k (.bool b):=by unfold shN PyData.canLay0 PyData.depth;exact ⟨rfl,by omega⟩
theorem zaqk {k:Nat}:shN k .none:=by unfold shN PyData.canLay0 PyData.depth;exact ⟨rfl,by omega⟩
theorem zoe {k:Nat} {x:Str} (h:qAF x=true):shN k (.str x):=by unfold shN PyData.canLay0 PyData.depth;exact ⟨h,by omega⟩
theorem zzi {k:Nat}:∀ d∈([]:List PyData),shN k d:=fun d h=>by cases h
theorem zhe {k:Nat} {d:PyData} {ds:List PyData} (h:shN k d) (t:∀ x∈ds,shN k x):∀ x∈d::ds,shN k x:=fun x hx=>(qX.mp hx).elim (fun e=>e▸h) (t x)
theorem zzj {k:Nat} {d:PyData} (h:shN k d) (hk:k≤64):qAD d=true:=by
 unfold qAD
 rw [h.1,decide_eq_true (qAG h.2 hk)];rfl
theorem zaql {k:Nat} {xs:List Str} (h:LowS xs):∀ d∈xs.map PyData.str,shN k d:=fun d hd=>by
 obtain ⟨x,hx,rfl⟩:=qz.mp hd
 exact zoe (h x hx)
theorem zadf:qAF "none" = true∧qAF "rule" = true∧qAF "quarrel" = true∧qAF "told" = true:=by decide +kernel
theorem zajg {xs:List Str} (h:LowS xs):shN 2 (zit xs):=by
 obtain ⟨w1,w2,w3,_⟩:=zadf
 match xs,h with
 | [],_=>exact zue (zhe (zoe w1) zzi)
 | [x],h=>exact zue (zhe (zoe w2) (zhe (zoe (h x (by simp))) zzi))
 | x::y::xs,h=>exact zue (zhe (zoe w3) (zhe (zue (zaql h)) zzi))
theorem zauw {xs:List Str} {fr:Bool} (h:LowS xs):qAD (zkh (.ok (zit xs) fr))=true:=zzj (k:=3) (zue (zhe (zoe zadf.2.2.2) (zhe (zajg h) zzi))) (by decide)
theorem zami {c:Str} {d:PyData} (h:shN 1 d):qAD (zkh (.rx c d))=true:=zzj (k:=2) (zue (zhe zsk (zhe zsk (zhe zsk (zhe zsk (zhe h (zhe zsk zzi))))))) (by decide)
theorem zaqm {W:Web} {rs:List Rule} {c:List Arm} (nd:(rs.map (·.1)).Nodup) {r:Rule} (hr:r∈rs) (hf:fitB W r.2 c=false):r.1∉nms (fitL W rs c):=fun hm=>by
 obtain ⟨q,hq,e⟩:=qz.mp hm
 obtain ⟨q1,q2⟩:=qAJ.mp hq
 have hq2:(r.1,q.2)∈rs:=by rw [← e];exact q1
 have e2:=zaix nd (n:=r.1) (a:=r.2) (b:=q.2) hr hq2
 rw [← e2,hf] at q2
 cases q2
theorem zatr:("NoFit":Str)∈(["NoCall", "NoFit", "NoKind", "NoRule"]:List Str):=by decide
theorem zaqn:("NoCall":Str)∈(["NoCall", "NoFit", "NoKind", "NoRule"]:List Str):=by decide
theorem zaqo:("NoKind":Str)∈(["NoCall", "NoFit", "NoKind", "NoRule"]:List Str):=by decide
theorem zaqp:("NoRule":Str)∈(["NoCall", "NoFit", "NoKind", "NoRule"]:List Str):=by decide
theorem zzk {W:Web} {rs:List Rule} {c:List Arm} (b:Bk W rs c) (ha:∀ r∈rs,atD (.str r.1)=true):zcu [zbn W c.length rs,.dict (dS zae (ups W)),zaq c]=some (.bool true,false):=by
 have hl:=b.rul.len
 obtain ⟨env',lp,s3,s4,s5,rfl⟩:=zdu (enc:=zcg) (g:=gT 2 (zar 3 (zar 4 zdc))) (l:=rs) (env:=[.pl (zbn W c.length rs),.pl (.dict (dS zae (ups W))),.pl (zaq c),.no,.no,.no])
  (body:=(sSeq (sSet 5 (eTup (zab (eC (.bool false)) (zab (eC (.bool false)) (zab (eC (.bool false)) (zab (eC (.bool true)) (zab (eVar 3) (zab (eC (.bool true)) aNil))))))))
  (sSeq (sIf (tTru (zbb 3 zcb (zab (eVar 1) (zab (eVar 4) (zab (eVar 2) aNil))))) (sSet 5 (eTup (zab (eC (.str "told")) (zab (zbb 4 zfn (zab (eVar 1) (zab (eIxV 0 (eC (.int 2))) (zab (eVar 2) (zab (eVar 4) aNil))))) aNil)))) sNil)
  (sIf (tOrF (zbg (eOp neD (zbb 3 zbe (zab (eVar 0) (zab (eVar 2) (zab (eVar 3) aNil)))) (eVar 5))) (zbg (eOp neD (zbb 3 zbe (zab (eVar 0) (zab (eVar 2) (zab (eVar 3) aNil)))) (eVar 5)))) (sRet (eC (.bool false))) sNil))))
  (fun _ env=>∃ s3 s4 s5,env=[.pl (zbn W c.length rs),.pl (.dict (dS zae (ups W))),.pl (zaq c),s3,s4,s5]) ⟨_,_,_,rfl⟩ (by
   rintro pre r post env hp ⟨s3,s4,s5,rfl⟩
   have hr:r∈rs:=by rw [← hp];simp
   have e1:tTru (zbb 3 zcb (zab (eVar 1) (zab (eVar 4) (zab (eVar 2) aNil)))) [.pl (zbn W c.length rs),.pl (.dict (dS zae (ups W))),.pl (zaq c),.pl (.str r.1),.pl (zak r.2),.pl (zkh (.rx "NoFit" (.str r.1)))]=some (fitB W r.2 c):=zob (n:=3) (rs:=[⟨.dict (dS zae (ups W)),false,[]⟩,⟨zak r.2,false,[]⟩,⟨zaq c,false,[]⟩]) rfl rfl (zmb b.web b.cal (by rw [b.ord.size r hr];exact qJ _))
   have fin:∀ x:ResX,zef [zbn W c.length rs,zaq c,.str r.1]=some x→zaje x→qAD (zkh x)=true→sIf (tOrF (zbg (eOp neD (zbb 3 zbe (zab (eVar 0) (zab (eVar 2) (zab (eVar 3) aNil)))) (eVar 5))) (zbg (eOp neD (zbb 3 zbe (zab (eVar 0) (zab (eVar 2) (zab (eVar 3) aNil)))) (eVar 5)))) (sRet (eC (.bool false))) sNil [.pl (zbn W c.length rs),.pl (.dict (dS zae (ups W))),.pl (zaq c),.pl (.str r.1),.pl (zak r.2),.pl (zkh x)]=some (.nx [.pl (zbn W c.length rs),.pl (.dict (dS zae (ups W))),.pl (zaq c),.pl (.str r.1),.pl (zak r.2),.pl (zkh x)]):=fun x hx kx sx=>by
    have t:=zaqc (b:=eVar 5) (d:=zkh x) (env:=[.pl (zbn W c.length rs),.pl (.dict (dS zae (ups W))),.pl (zaq c),.pl (.str r.1),.pl (zak r.2),.pl (zkh x)]) (zbv (n:=3) (f:=zab (eVar 0) (zab (eVar 2) (zab (eVar 3) aNil))) (rs:=[⟨zbn W c.length rs,false,[]⟩,⟨zaq c,false,[]⟩,⟨.str r.1,false,[]⟩]) rfl rfl (zade hx kx)) rfl sx
    exact if_f (zatm t t) rfl
   cases hb:fitB W r.2 c with
   | false =>
    rw [hb] at e1
    have g:=zajd b.web b.rul b.cal rfl (qz.mpr ⟨r,hr,rfl⟩) (zaqm b.nd hr hb) (ha r hr)
    exact ⟨_,_,rfl,.inl (zav (e1:=[.pl (zbn W c.length rs),.pl (.dict (dS zae (ups W))),.pl (zaq c),.pl (.str r.1),.pl (zak r.2),.pl (zkh (.rx "NoFit" (.str r.1)))]) rfl (zav (if_f e1 rfl) (fin _ g zatr (zami (zoe (b.low r hr)))))),_,_,_,rfl⟩
   | true =>
    rw [hb] at e1
    have hm:r∈fitL W rs c:=qAJ.mpr ⟨hr,hb⟩
    have g:=zatq b.web b.rul b.cal rfl b.nd hm
    have gd:=zaqj b.web b.rul b.cal b.ord (own:=r.2) (b.ord.size r hr) (b.ord.kinds r hr) (b.rul.low r hr)
    have low:LowS (nms (zoz W ((fitL W rs c).filter fun x=>zfr W r.2 x.2))):=b.lows fun x hx=>(qAJ.mp (qAJ.mp (qAJ.mp hx).1).1).1
    have e2:sSet 5 (eTup (zab (eC (.str "told")) (zab (zbb 4 zfn (zab (eVar 1) (zab (eIxV 0 (eC (.int 2))) (zab (eVar 2) (zab (eVar 4) aNil))))) aNil))) [.pl (zbn W c.length rs),.pl (.dict (dS zae (ups W))),.pl (zaq c),.pl (.str r.1),.pl (zak r.2),.pl (zkh (.rx "NoFit" (.str r.1)))]=some (.nx [.pl (zbn W c.length rs),.pl (.dict (dS zae (ups W))),.pl (zaq c),.pl (.str r.1),.pl (zak r.2),.pl (zkh (.ok (zit (nms (zoz W ((fitL W rs c).filter fun x=>zfr W r.2 x.2)))) false))]):=by
     refine zcl (r:=⟨zkh (.ok (zit (nms (zoz W ((fitL W rs c).filter fun x=>zfr W r.2 x.2)))) false),false,[]⟩) ?_
     unfold eTup
     rw [zbs (a:=eC (.str "told")) (r:=⟨.str "told",false,[]⟩) rfl (zeq (zbv (n:=4) (f:=zab (eVar 1) (zab (eIxV 0 (eC (.int 2))) (zab (eVar 2) (zab (eVar 4) aNil)))) (rs:=[⟨.dict (dS zae (ups W)),false,[]⟩,⟨zat rs,false,[]⟩,⟨zaq c,false,[]⟩,⟨zak r.2,false,[]⟩]) rfl rfl gd))]
     have z:bsOf (zit (nms (zoz W ((fitL W rs c).filter fun x=>zfr W r.2 x.2)))) (bss [⟨.dict (dS zae (ups W)),false,[]⟩,⟨zat rs,false,[]⟩,⟨zaq c,false,[]⟩,⟨zak r.2,false,[]⟩])=[]:=by unfold bsOf;split<;>rfl
     rw [z];rfl
    exact ⟨_,_,rfl,.inl (zav (e1:=[.pl (zbn W c.length rs),.pl (.dict (dS zae (ups W))),.pl (zaq c),.pl (.str r.1),.pl (zak r.2),.pl (zkh (.rx "NoFit" (.str r.1)))]) rfl (zav (if_t e1 e2) (fin _ g trivial (zauw low)))),_,_,_,rfl⟩)
 exact ziw (env:=[.pl (zbn W c.length rs),.pl (.dict (dS zae (ups W))),.pl (zaq c),.no,.no,.no]) rfl (zav (zhq (ds:=rs.map zcg) (bs:=[]) rfl lp) rfl)
theorem zadg (d:PyData):bsOf d []=[]:=by unfold bsOf;split<;>rfl
theorem zats {k n:Nat} {b:EF} {env:DEnv} {ds:List PyData} {d:PyData} (he:env[k]?=some (.pl (.tuple ds))) (hb:b env=some (vi (n:Int))) (hd:ds[n]?=some d):eIxV k b env=some ⟨d,false,[]⟩:=by
 unfold eIxV
 rw [he]
 unfold eOp eVar
 rw [he]
 simp only [qD,hb]
 show ((atI ds (n:Int)).map fun d=>(d,false)).bind _=_
 rw [zmn hd]
 show some (⟨d,false,bsOf d ([]++[])⟩:Val)=_
 rw [qx,zadg]
theorem zatt {a b:EF} {env:DEnv} {x y:List PyData} {f1 f2:Bool} (ha:a env=some ⟨.tuple x,f1,[]⟩) (hb:b env=some ⟨.tuple y,f2,[]⟩) (h:x.length+y.length≤100000):eOp addE a b env=some ⟨.tuple (x++y),false,[]⟩:=by
 unfold eOp
 rw [ha,hb]
 show (addE (.tuple x) (.tuple y)).bind (fun z=>some (⟨z.1,z.2,bsOf z.1 ([]++[])⟩:Val))=_
 have e:addE (.tuple x) (.tuple y)=some (.tuple (x++y),false):=by
  cases x with
  | nil=>rfl
  | cons p x=>exact if_pos ⟨rfl,h⟩
 rw [e,qD,qx,zadg]
theorem zanq {a b:EF} {env:DEnv} {x y:List PyData} {f1 f2:Bool} (ha:a env=some ⟨.tuple x,f1,[]⟩) (hb:b env=some ⟨.tuple y,f2,[]⟩) (h:x.length+y.length≤100000) (hx:x≠[]):eOp addD a b env=some ⟨.tuple (x++y),false,[]⟩:=by
 unfold eOp
 rw [ha,hb]
 show (addD (.tuple x) (.tuple y)).bind (fun z=>some (⟨z.1,z.2,bsOf z.1 ([]++[])⟩:Val))=_
 have e:addD (.tuple x) (.tuple y)=some (.tuple (x++y),false):=by
  cases x with
  | nil=>exact absurd rfl hx
  | cons p x=>exact if_pos ⟨rfl,h⟩
 rw [e,qD,qx,zadg]
theorem zaqq {a:EF} {l h:PF'} {env:DEnv} {ds es:List PyData} {f:Bool} {lo hi:Option Int} (ha:a env=some ⟨.tuple ds,f,[]⟩) (hl:l env=some lo) (hh:h env=some hi) (e:cutD ds lo hi=es):eSlT a l h env=some ⟨.tuple es,false,[]⟩:=by
 unfold eSlT
 rw [ha,hl,hh]
 show some (⟨.tuple (cutD ds lo hi),false,[]⟩:Val)=_
 rw [e]
def putA (c:List Arm) (k:Nat) (a:Arm):List Arm:=c.take k++[a]++c.drop (k+1)
theorem zqc {c:List Arm} {k:Nat} {a:Arm} (h:k<c.length):(putA c k a).length=c.length:=by
 unfold putA
 rw [qW,qW,qAH,qAI]
 simp only [qAN,qBT]
 omega
theorem zadh {c:List Arm} {k:Nat} {a x:Arm} (h:x∈putA c k a):x=a∨x∈c:=by
 unfold putA at h
 rcases qp.mp h with h|h
 ·rcases qp.mp h with h|h
  ·exact .inr (qAa h)
  ·exact .inl (by simpa using h)
 ·exact .inr (qAb h)
theorem zaer {l1 l2:List Str} {x:Str} {p:Str→Bool} (h1:∀ y∈l1,p y=false) (h2:p x=true):(l1++x::l2).find? p=some x:=by
 rw [List.find?_append,List.find?_eq_none.mpr fun y hy=>by rw [h1 y hy];decide,qA0,h2];rfl
theorem zadi {W:Web} {c:List Arm} (hc:CallOk W c) {k:Nat} (hk:k<c.length) {a:Arm} {pre post:List Str} {o:Str} (ha:a.parts=pre++o::post) (hp:∀ y∈pre,y∈nm W) (ho:o∉nm W):ziu W c.length (putA c k a)=some (("NoKind":Str),PyData.str o):=by
 unfold ziu
 rw [if_pos (zqc hk)]
 have:zgo W ((putA c k a).flatMap Arm.parts)=some o:=by
  unfold zgo putA
  rw [qDI,qDI]
  simp only [List.flatMap_cons,List.flatMap_nil,qx]
  rw [ha,← qBJ,qBJ,qCU]
  refine zaer (fun y hy=>?_) (by simp [ho])
  rcases qp.mp hy with h|h
  ·obtain ⟨b,hb,h⟩:=qBN.mp h
   simp [hc.kinds b (qAa hb) y h]
  ·simp [hp y h]
 rw [this];rfl
theorem zajh {W:Web} {p:Nat} {c:List Arm} (h:c.length≠p):ziu W p c=some (("NoCall":Str),PyData.none):=by unfold ziu;rw [if_neg h]
abbrev rfE (B:PyData) (c:List Arm) (t o0 o1:Str) (z0 z1:Int) (s5 s6 s7 s8 s9:Sl):DEnv:=[.pl B,.pl (zaq c),.pl (.str t),.pl (zae [o0,o1]),.pl (zcp [z0,z1]),s5,s6,s7,s8,s9]
theorem zanr {B:PyData} {c:List Arm} {t o0 o1:Str} {z0 z1:Int} {s6 s7 s8 s9:Sl} {k:Nat} (hk:k<c.length) (hc:c.length≤100) {e:EF} {a:Arm} (he:e (rfE B c t o0 o1 z0 z1 (.pl (.int (k:Int))) s6 s7 s8 s9)=some ⟨armD a,false,[]⟩) :
  sSet 6 (eOp addD (eOp addE (eSlT (eVar 1) zcm (zbl (eVar 5))) (eTup (zab e aNil))) (eSlT (eVar 1) (zbl (eOp addD (eVar 5) (eC (.int 1)))) zcm)) (rfE B c t o0 o1 z0 z1 (.pl (.int (k:Int))) s6 s7 s8 s9)=some (.nx (rfE B c t o0 o1 z0 z1 (.pl (.int (k:Int))) (.pl (zaq (putA c k a))) s7 s8 s9)):=by
 refine zcl (r:=⟨zaq (putA c k a),false,[]⟩) ?_
 have e1:eSlT (eVar 1) zcm (zbl (eVar 5)) (rfE B c t o0 o1 z0 z1 (.pl (.int (k:Int))) s6 s7 s8 s9)=some ⟨.tuple ((c.take k).map armD),false,[]⟩:=zaqq (ds:=c.map armD) (f:=false) (lo:=none) (hi:=some (k:Int)) rfl rfl rfl (by rw [zre _ _ (by rw [qF];omega),qBS])
 have e2:eSlT (eVar 1) (zbl (eOp addD (eVar 5) (eC (.int 1)))) zcm (rfE B c t o0 o1 z0 z1 (.pl (.int (k:Int))) s6 s7 s8 s9)=some ⟨.tuple ((c.drop (k+1)).map armD),false,[]⟩:=zaqq (ds:=c.map armD) (f:=false) (lo:=some ((k+1:Nat):Int)) (hi:=none) rfl (zkb (i:=(k:Int)+1) rfl) rfl (by rw [zsf,qBg])
 have e3:eTup (zab e aNil) (rfE B c t o0 o1 z0 z1 (.pl (.int (k:Int))) s6 s7 s8 s9)=some ⟨.tuple [armD a],false,[]⟩:=by
  unfold eTup
  rw [zeq he];rfl
 have e4:=zanq (zatt e1 e3 (by rw [qF,qAH];show _+1≤_;omega)) e2 (by rw [qW,qF,qF,qAH,qAI];show _+1+_≤_;omega) (by intro z;have:=congrArg List.length z;simp at this)
 rw [e4]
 unfold zaq putA
 rw [qv,qv];rfl
theorem zabi {B:PyData} {c:List Arm} {n:Str} {r:ResX} {env:DEnv} {f:AF} {e:EF} (g:zef [B,zaq c,.str n]=some r) (k:zaje r) (sh:qAD (zkh r)=true) (hf:f env=some [⟨B,false,[]⟩,⟨zaq c,false,[]⟩,⟨.str n,false,[]⟩]) (he:e env=some ⟨zkh r,false,[]⟩):sIf (zbg (eOp neD (zbb 3 zbe f) e)) (sRet (eC (.bool false))) sNil env=some (.nx env) :=
 if_f (zaqc (d:=zkh r) (zbv (n:=3) hf rfl (zade g k)) he sh) rfl
theorem zabj {W:Web} {rs:List Rule} {c:List Arm} (b:Bk W rs c) (hne:0<c.length) (hcl:c.length≤3) (hpa:∀ a∈c,a.parts.length≤4) {t o0 o1:Str} {z0 z1:Int} (ht:t∉nms rs) (ta:atD (.str t)=true) (tl:qAF t=true)
  (h0:o0∉nm W) (a0:atD (.str o0)=true) (l0:qAF o0=true) (a1:atD (.str o1)=true):zep [zbn W c.length rs,zaq c,.str t,zae [o0,o1],zcp [z0,z1]]=some (.bool true,false):=by
 have hl:=b.rul.len
 obtain ⟨k,hk,hkl⟩:∃ k:Nat,z0 % (c.length:Int)=(k:Int)∧k<c.length:=by
  have h1:=qAO z0 (show (c.length:Int)≠0 by omega)
  have h2:=qAV z0 (show 0<(c.length:Int) by omega)
  exact ⟨(z0 % (c.length:Int)).toNat,by omega,by omega⟩
 have e5:sSet 5 (eOp modD (eIxV 4 (eC (.int 0))) (eCB lenD (zab (eVar 1) aNil))) (rfE (zbn W c.length rs) c t o0 o1 z0 z1 .no .no .no .no .no)=some (.nx (rfE (zbn W c.length rs) c t o0 o1 z0 z1 (.pl (.int (k:Int))) .no .no .no .no)):=by
  have e:eCB lenD (zab (eVar 1) aNil) (rfE (zbn W c.length rs) c t o0 o1 z0 z1 .no .no .no .no .no)=some (vi ((c.map armD).length:Nat)):=rfl
  rw [qF] at e
  rw [zcl (zhk (i:=z0) rfl e (by omega)),hk];rfl
 have e6:=zanr (B:=zbn W c.length rs) (t:=t) (o0:=o0) (o1:=o1) (z0:=z0) (z1:=z1) (s6:=.no) (s7:=.no) (s8:=.no) (s9:=.no) hkl (by omega) (e:=eIxV 3 (eC (.int 0))) (a:=.one o0) rfl
 have e7:∃ w:List Arm,w.length=c.length∧CallLike W w∧ziu W c.length w=some (("NoKind":Str),PyData.str o0)∧sIf (zbg (eOp eqD (eOp modD (eIxV 4 (eC (.int 1))) (eC (.int 2))) (eC (.int 1)))) (sSet 6 (eOp addD (eOp addE (eSlT (eVar 1) zcm (zbl (eVar 5))) (eTup (zab (eCB zfb (zab (eOp addD (zbb 1 zbf (zab (eIxV 1 (eVar 5)) aNil)) (eVar 3)) aNil)) aNil))) (eSlT (eVar 1) (zbl (eOp addD (eVar 5) (eC (.int 1)))) zcm))) sNil
   (rfE (zbn W c.length rs) c t o0 o1 z0 z1 (.pl (.int (k:Int))) (.pl (zaq (putA c k (.one o0)))) .no .no .no)=some (.nx (rfE (zbn W c.length rs) c t o0 o1 z0 z1 (.pl (.int (k:Int))) (.pl (zaq w)) .no .no .no)):=by
  have tt:zbg (eOp eqD (eOp modD (eIxV 4 (eC (.int 1))) (eC (.int 2))) (eC (.int 1))) (rfE (zbn W c.length rs) c t o0 o1 z0 z1 (.pl (.int (k:Int))) (.pl (zaq (putA c k (.one o0)))) .no .no .no)=some (z1 % 2==1):=zfy (zst (zhk (i:=z1) rfl rfl (by decide)) rfl)
  have like:∀ a:Arm,a.parts.length≤6→(∀ n∈a.parts,n∈nm W∨n=o0∨n=o1)→CallLike W (putA c k a):=fun a h1 h2=>⟨by rw [zqc hkl];omega,fun x hx=>by
   rcases zadh hx with rfl|hx
   ·omega
   ·have:=hpa x hx;omega,fun x hx n hn z=>by
   rcases zadh hx with rfl|hx
   ·rcases h2 n hn with y|rfl|rfl
    ·exact absurd y z
    ·exact a0
    ·exact a1
   ·exact absurd (b.cal.kinds x hx n hn) z⟩
  cases hz:(z1 % 2==1) with
  | false =>
   rw [hz] at tt
   exact ⟨putA c k (.one o0),zqc hkl,like _ (by show 1≤6;decide) (fun n hn=>.inr (.inl (by simpa [Arm.parts] using hn))),zadi b.cal hkl (pre:=[]) (post:=[]) rfl (fun y hy=>by cases hy) h0,if_f tt rfl⟩
  | true =>
   rw [hz] at tt
   have hm:c[k]∈c:=qAe _
   have hp4:=hpa _ hm
   have ei:eIxV 1 (eVar 5) (rfE (zbn W c.length rs) c t o0 o1 z0 z1 (.pl (.int (k:Int))) (.pl (zaq (putA c k (.one o0)))) .no .no .no)=some ⟨armD c[k],false,[]⟩:=zats (ds:=c.map armD) (n:=k) rfl rfl (by rw [qT,qH hkl];rfl)
   have ea:eOp addD (zbb 1 zbf (zab (eIxV 1 (eVar 5)) aNil)) (eVar 3) (rfE (zbn W c.length rs) c t o0 o1 z0 z1 (.pl (.int (k:Int))) (.pl (zaq (putA c k (.one o0)))) .no .no .no)=some ⟨zae (c[k].parts++[o0,o1]),true,[]++[]⟩:=zacz (f1:=true) (f2:=false) (b1:=[]) (b2:=[]) (zbv (n:=1) (rs:=[⟨armD c[k],false,[]⟩]) (zeq ei) rfl (zev _)) rfl (by show _+2≤_;omega)
   have et:eCB zfb (zab (eOp addD (zbb 1 zbf (zab (eIxV 1 (eVar 5)) aNil)) (eVar 3)) aNil) (rfE (zbn W c.length rs) c t o0 o1 z0 z1 (.pl (.int (k:Int))) (.pl (zaq (putA c k (.one o0)))) .no .no .no)=some ⟨armD (.many (c[k].parts++[o0,o1])),false,[]⟩:=by
    unfold eCB
    rw [zeq ea];rfl
   refine ⟨putA c k (.many (c[k].parts++[o0,o1])),zqc hkl,like _ ?_ ?_,zadi b.cal hkl (pre:=c[k].parts) (post:=[o1]) rfl (fun y hy=>b.cal.kinds _ hm y hy) h0,if_t tt (zanr hkl (by omega) et)⟩
   ·show (c[k].parts++[o0,o1]).length≤6
    rw [qW];show _+2≤6;omega
   ·intro n hn
    rcases qp.mp (show n∈c[k].parts++[o0,o1] from hn) with y|y
    ·exact .inl (b.cal.kinds _ hm n y)
    ·simp only [qX,qBd,or_false] at y
     exact .inr y
 obtain ⟨w,wl,wk,wb,e7⟩:=e7
 have es:∀ s7 s8 s9,eSlT (eVar 1) (zbl (eC (.int 1))) zcm (rfE (zbn W c.length rs) c t o0 o1 z0 z1 (.pl (.int (k:Int))) (.pl (zaq w)) s7 s8 s9)=some ⟨zaq (c.drop 1),false,[]⟩:=fun s7 s8 s9=>by
  unfold zaq
  exact zaqq (ds:=c.map armD) (f:=false) (lo:=some ((1:Nat):Int)) (hi:=none) rfl rfl rfl (by rw [zsf,qBg])
 have el:∀ s7 s8 s9,eOp addD (eVar 6) (eTup (zab (eIxV 3 (eC (.int 1))) aNil)) (rfE (zbn W c.length rs) c t o0 o1 z0 z1 (.pl (.int (k:Int))) (.pl (zaq w)) s7 s8 s9)=some ⟨zaq (w++[.one o1]),false,[]⟩:=fun s7 s8 s9=>by
  have:=zanq (a:=eVar 6) (b:=eTup (zab (eIxV 3 (eC (.int 1))) aNil)) (env:=rfE (zbn W c.length rs) c t o0 o1 z0 z1 (.pl (.int (k:Int))) (.pl (zaq w)) s7 s8 s9) (x:=w.map armD) (y:=[.str o1]) (f1:=false) (f2:=false) rfl rfl (by rw [qF];show _+1≤_;omega) (by intro z;have:=congrArg List.length z;rw [qF] at this;simp at this;rw [this] at wl;simp at wl;omega)
  rw [this]
  unfold zaq
  rw [qv];rfl
 have it1:zas (eLst (zab (eVar 1) (zab (eVar 6) (zab (eSlT (eVar 1) (zbl (eC (.int 1))) zcm) (zab (eOp addD (eVar 6) (eTup (zab (eIxV 3 (eC (.int 1))) aNil))) aNil))))) (rfE (zbn W c.length rs) c t o0 o1 z0 z1 (.pl (.int (k:Int))) (.pl (zaq w)) .no .no .no)=some ([c,w,c.drop 1,w++[.one o1]].map zaq,[]):=by
  unfold zas eLst
  rw [zbs (a:=eVar 1) (r:=⟨zaq c,false,[]⟩) rfl (zbs (a:=eVar 6) (r:=⟨zaq w,false,[]⟩) rfl (zbs (es _ _ _) (zeq (el _ _ _))))]
  rfl
 have it2:∀ s7 s8 s9,zas (eLst (zab (eSlT (eVar 1) (zbl (eC (.int 1))) zcm) (zab (eOp addD (eVar 6) (eTup (zab (eIxV 3 (eC (.int 1))) aNil))) aNil))) (rfE (zbn W c.length rs) c t o0 o1 z0 z1 (.pl (.int (k:Int))) (.pl (zaq w)) s7 s8 s9)=some ([c.drop 1,w++[.one o1]].map zaq,[]):=fun s7 s8 s9=>by
  unfold zas eLst
  rw [zbs (es _ _ _) (zeq (el _ _ _))]
  rfl
 obtain ⟨env',lp,s7,rfl⟩:=zdu (enc:=zaq) (g:=gN 7) (l:=[c,w,c.drop 1,w++[.one o1]]) (env:=rfE (zbn W c.length rs) c t o0 o1 z0 z1 (.pl (.int (k:Int))) (.pl (zaq w)) .no .no .no)
  (body:=(sIf (zbg (eOp neD (zbb 3 zbe (zab (eVar 0) (zab (eVar 7) (zab (eVar 2) aNil)))) (eTup (zab (eC (.bool true)) (zab (eC (.bool false)) (zab (eC (.bool false)) (zab (eC (.bool false)) (zab (eVar 2) (zab (eC (.bool true)) aNil))))))))) (sRet (eC (.bool false))) sNil))
  (fun _ env=>∃ s7,env=rfE (zbn W c.length rs) c t o0 o1 z0 z1 (.pl (.int (k:Int))) (.pl (zaq w)) s7 .no .no) ⟨_,rfl⟩ (by
   rintro pre x post env hp ⟨s7,rfl⟩
   exact ⟨_,_,rfl,.inl (zabi (c:=x) (r:=.rx "NoRule" (.str t)) (zaeq hl ht ta) zaqp (zami (zoe tl)) rfl rfl),_,rfl⟩)
 obtain ⟨env',lp2,s7',s8,s9,rfl⟩:=zdu (enc:=zcg) (g:=gT 2 (zar 8 (zar 9 zdc))) (l:=rs) (env:=rfE (zbn W c.length rs) c t o0 o1 z0 z1 (.pl (.int (k:Int))) (.pl (zaq w)) s7 .no .no)
  (body:=(sSeq (sIf (zbg (eOp neD (zbb 3 zbe (zab (eVar 0) (zab (eVar 6) (zab (eVar 8) aNil)))) (eTup (zab (eC (.bool false)) (zab (eC (.bool false)) (zab (eC (.bool true)) (zab (eC (.bool false)) (zab (eIxV 3 (eC (.int 0))) (zab (eC (.bool true)) aNil))))))))) (sRet (eC (.bool false))) sNil)
  (sFor (zas (eLst (zab (eSlT (eVar 1) (zbl (eC (.int 1))) zcm) (zab (eOp addD (eVar 6) (eTup (zab (eIxV 3 (eC (.int 1))) aNil))) aNil)))) (gN 7)
  (sIf (zbg (eOp neD (zbb 3 zbe (zab (eVar 0) (zab (eVar 7) (zab (eVar 8) aNil)))) (eTup (zab (eC (.bool false)) (zab (eC (.bool true)) (zab (eC (.bool false)) (zab (eC (.bool false)) (zab (eC .none) (zab (eC (.bool true)) aNil))))))))) (sRet (eC (.bool false))) sNil))))
  (fun _ env=>∃ s7 s8 s9,env=rfE (zbn W c.length rs) c t o0 o1 z0 z1 (.pl (.int (k:Int))) (.pl (zaq w)) s7 s8 s9) ⟨_,_,_,rfl⟩ (by
   rintro pre r post env hp ⟨s7,s8,s9,rfl⟩
   have hr:r∈rs:=by rw [← hp];simp
   have hn:r.1∈nms rs:=qz.mpr ⟨r,hr,rfl⟩
   have k1:CallLike W (c.drop 1):=⟨by rw [qAI];omega,fun a ha=>b.cal.few a (qAb ha),fun a ha n hn z=>absurd (b.cal.kinds a (qAb ha) n hn) z⟩
   have k2:CallLike W (w++[.one o1]):=⟨by rw [qW];show _+1<300;omega,fun a ha=>by
    rcases qp.mp ha with y|y
    ·exact wk.few a y
    ·have:a=.one o1:=by simpa using y
     rw [this];show 1<300;decide,fun a ha n hn z=>by
    rcases qp.mp ha with y|y
    ·exact wk.at_ a y n hn z
    ·have:a=.one o1:=by simpa using y
     rw [this] at hn
     have:n=o1:=by simpa [Arm.parts] using hn
     rw [this];exact a1⟩
   obtain ⟨env3,lp3,u7,rfl⟩:=zdu (enc:=zaq) (g:=gN 7) (l:=[c.drop 1,w++[.one o1]]) (env:=rfE (zbn W c.length rs) c t o0 o1 z0 z1 (.pl (.int (k:Int))) (.pl (zaq w)) s7 (.pl (.str r.1)) (.pl (zak r.2)))
    (body:=(sIf (zbg (eOp neD (zbb 3 zbe (zab (eVar 0) (zab (eVar 7) (zab (eVar 8) aNil)))) (eTup (zab (eC (.bool false)) (zab (eC (.bool true)) (zab (eC (.bool false)) (zab (eC (.bool false)) (zab (eC .none) (zab (eC (.bool true)) aNil))))))))) (sRet (eC (.bool false))) sNil))
    (fun _ env=>∃ s7,env=rfE (zbn W c.length rs) c t o0 o1 z0 z1 (.pl (.int (k:Int))) (.pl (zaq w)) s7 (.pl (.str r.1)) (.pl (zak r.2))) ⟨_,rfl⟩ (by
     rintro pre x post env hp' ⟨s7,rfl⟩
     have hx:x=c.drop 1∨x=w++[.one o1]:=by
      have:x∈[c.drop 1,w++[.one o1]]:=by rw [← hp'];simp
      simpa using this
     have g:zef [zbn W c.length rs,zaq x,.str r.1]=some (.rx "NoCall" .none):=by
      rcases hx with rfl|rfl
      ·exact zabh b.web hl hn k1 (zajh (by rw [qAI];omega))
      ·exact zabh b.web hl hn k2 (zajh (by rw [qW,wl];show c.length+1≠c.length;omega))
     exact ⟨_,_,rfl,.inl (zabi (c:=x) (r:=.rx "NoCall" .none) g zaqn (zami zaqk) rfl rfl),_,rfl⟩)
   exact ⟨_,_,rfl,.inl (zav (zabi (c:=w) (r:=.rx "NoKind" (.str o0)) (zabh b.web hl hn wk wb) zaqo (zami (zoe l0)) rfl rfl) (zhq (it2 _ _ _) lp3)),_,_,_,rfl⟩)
 exact ziw (env:=rfE (zbn W c.length rs) c t o0 o1 z0 z1 .no .no .no .no .no) rfl (zav e5 (zav e6 (zav e7 (zav (zhq it1 lp) (zav (zhq (ds:=rs.map zcg) (bs:=[]) rfl lp2) rfl)))))
section
variable {a b:EF} {env:DEnv}
end
theorem zuf:∀ (xs:List Str),zaal (xs.map .str)=true
 | []=>rfl
 | _::xs=>by
  show (true&&zaal (xs.map .str))=true
  rw [zuf xs];rfl
theorem zaux {a b:EF} {env:DEnv} {r:Val} (ha:a env=some (vb true)) (hb:b env=some r):eAnd a b env=some r:=by
 unfold eAnd
 rw [ha]
 exact hb
theorem zauy {a b:EF} {env:DEnv} {ds:List PyData} {fr:Bool} {bs:List Nat} {i:Int} {d:PyData} (ha:a env=some ⟨.list ds,fr,bs⟩) (hb:b env=some (vi i)) (h:atI ds i=some d):eOp ixD a b env=some ⟨d,false,bsOf d bs⟩:=by
 unfold eOp
 rw [ha,hb]
 simp only [qD,ixD]
 rw [h]
 simp
noncomputable def zzl:SF:=(sSeq (sSet 2 (eOp addD (eC (.int 1)) (eOp modD (eIxV 1 (eC (.int 0))) (eC (.int 3)))))
  (sSeq (sSet 3 (zbb 2 zdj (zab (eOp addD (eC (.int 3)) (eOp modD (eOp zcy (eIxV 1 (eC (.int 0))) (eC (.int 3))) (eOp ixD (eTup (zab (eC (.int 8)) (zab (eC (.int 8)) (zab (eC (.int 6)) aNil)))) (eOp subD (eVar 2) (eC (.int 1)))))) (zab (eIxV 1 (eC (.int 1))) aNil))))
  (sSeq (sSet 4 (eSl (eVar 3) zcm (zbl (eNeg (eC (.int 2))))))
  (sSeq (sSet 5 (zbb 2 zky (zab (eSl (eVar 1) (zbl (eC (.int 8))) (zbl (eC (.int 16)))) (zab (eVar 4) aNil))))
  (sSeq (sSet 6 (zbb 1 zno (zab (eVar 5) aNil)))
  (sSeq (sSet 7 (zdt ["_law_cell"] [2,4] (zas (eSl (eVar 1) (zbl (eC (.int 4))) (zbl (eC (.int 6))))) (gN 0) zcv (zbb 3 zge (zab (eVar 0) (zab (eVar 2) (zab (eVar 1) aNil))))))
  (sSeq (sSet 8 (zbb 2 zdj (zab (eC (.int 12)) (zab (eIxV 1 (eC (.int 2))) aNil))))
  (sSeq (sSet 9 (zbb 5 zim (zab (eSl (eVar 1) (zbl (eC (.int 16))) (zbl (eC (.int 27)))) (zab (eVar 4) (zab (eVar 6) (zab (eIxV 7 (eC (.int 0))) (zab (eSl (eVar 8) zcm (zbl (eOp modD (eIxV 1 (eC (.int 3))) (eC (.int 12))))) aNil)))))))
  (ztm 10 [11,12] (zdt ["_law_name", "_law_elders"] [] (zas (eVar 5)) (gT 2 (zar 0 (zar 1 zdc))) zcv (eTup (zab (eVar 0) (zab (eCB zwx (zab (eVar 1) aNil)) aNil)))) (eVar 2) (eCB zwx (zab (eVar 9) aNil)) (sSeq (sFor (zas (eVar 7)) (gN 11)
  (sIf (tOrF (zkp (tTru (zbb 3 zcu (zab (eVar 10) (zab (eVar 6) (zab (eVar 11) aNil)))))) (zkp (tTru (zbb 5 zep (zab (eVar 10) (zab (eVar 11) (zab (eIxV 8 (eC (.int 11))) (zab (eSl (eVar 3) (zbl (eNeg (eC (.int 2)))) zcm) (zab (eSl (eVar 1) (zbl (eC (.int 6))) (zbl (eC (.int 8)))) aNil))))))))) (sRet (eC (.bool false))) sNil)) (sSeq (sIf (zbg (eOp neD (eVar 10) (eTup (zab (eVar 5) (zab (eVar 2) (zab (eVar 9) aNil)))))) (sRet (eC (.bool false))) sNil) (sSet 12 (eCB zfb (zab (zdt ["_law_arm"] [] (zas (eIxV 7 (eC (.int 1)))) (gN 0) zcv (eOp ixD (zbb 1 zbf (zab (eVar 0) aNil)) (eC (.int 0)))) aNil))))) (zbg (eOp (inS true) (eVar 12) (zdt ["_law_name", "_law_kinds"] [] (zas (eVar 9)) (gT 2 (zar 0 (zar 1 zdc))) zcv (eVar 1)))) (eTup (zab (eIxV 8 (eC (.int 11))) (zab (eVar 12) aNil))) (sRet (eAnd (zbb 3 zcu (zab (eVar 10) (zab (eVar 6) (zab (eIxV 7 (eC (.int 1))) aNil)))) (zbb 3 zcu (zab (eVar 10) (zab (eVar 6) (zab (eIxV 7 (eC (.int 0))) aNil)))))))))))))))
theorem zamj {h:Nat} {as:List Nat} {f1 f2 f3 fv:EF} {R1 R2:SF} {c:TF} {env e0 e':DEnv} {d1 d2:PyData} {ds:List PyData} {u1 u2:Bool} {b1 b2 b3:List Nat} {o:Option Out} (h0:plE env=e0) (k1:f1 e0=some ⟨d1,u1,b1⟩) (k2:f2 e0=some ⟨d2,u2,b2⟩) (k3:f3 e0=some ⟨.list ds,true,b3⟩) (hh:h∉as)
  (kr:R1 (e0.set h (.pl (.tuple [d1,d2,.list ds])))=some (.nx e')) (hl:e'.length=env.length∧h<env.length)
  (kc:(c e'=some false∧R2 ((noA as e0).set h (.pl (.tuple [d1,d2,.list ds])))=o)∨∃ (z:PyData) (fz:Bool) (bz:List Nat),c e'=some true∧fv e'=some ⟨z,fz,bz⟩∧znl z=true∧ds.length<1000∧R2 ((noA as e0).set h (.pl (.tuple [d1,d2,.list (ds++[z])])))=o):ztm h as f1 f2 f3 R1 c fv R2 env=o:=by
 unfold ztm
 rw [h0,k1,qD,k2,qD,k3,qD]
 show (if true=true∧h∉as then _ else none)=o
 rw [if_pos ⟨rfl,hh⟩,kr,qD]
 show (if e'.length=env.length∧h<env.length then _ else none)=o
 rw [if_pos hl]
 rcases kc with ⟨kc,k⟩|⟨z,fz,bz,kc,ki,h1,h2,kk⟩
 ·rw [kc,qD,if_neg (by decide)];exact k
 ·rw [kc,qD,if_pos rfl,ki,qD]
  show (if znl z=true∧ds.length<1000 then _ else none)=o
  rw [if_pos ⟨h1,h2⟩]
  exact kk
theorem zatu (ys:List Str) (x y:Str):cutD ((ys++[x,y]).map PyData.str) none (some (-2))=ys.map .str:=by
 unfold cutD
 have e1:HT.sIx ((ys++[x,y]).map PyData.str).length 0 none=0:=rfl
 have e2:HT.sIx ((ys++[x,y]).map PyData.str).length ((ys++[x,y]).map PyData.str).length (some (-2))=ys.length:=by
  unfold HT.sIx
  simp
  omega
 rw [e1,e2]
 simp
theorem zatv (ys:List Str) (x y:Str):cutD ((ys++[x,y]).map PyData.str) (some (-2)) none=[x,y].map .str:=by
 unfold cutD
 have e1:HT.sIx ((ys++[x,y]).map PyData.str).length 0 (some (-2))=ys.length:=by
  unfold HT.sIx
  simp
  omega
 have e2:HT.sIx ((ys++[x,y]).map PyData.str).length ((ys++[x,y]).map PyData.str).length none=((ys++[x,y]).map PyData.str).length:=rfl
 rw [e1,e2]
 simp
theorem zaes {x:Str} (h:Low x) (hl:x.length≤20):(reprText x).length≤1000:=by
 have hq:reprQuote x∈[34,39]:=by unfold reprQuote;split<;>simp
 have fold:∀ (l:List Nat) (a:Array Nat),(∀ c∈l,c<128)→(l.foldl (fun out c=>out++(Builtin.Str.reprChar (reprQuote x) c).toArray) a).size≤a.size+4 * l.length:=by
  intro l
  induction l with
  | nil=>intro a _;simp
  | cons c l ih =>
   intro a hc
   rw [qBW]
   have h1:=ih (a++(Builtin.Str.reprChar (reprQuote x) c).toArray) fun c' hc'=>hc c' (qL _ hc')
   have h2:=zaiz c (hc c (by simp)) _ hq
   rw [Array.size_append] at h1
   simp only [qR,qAN] at h1 ⊢
   omega
 show ((x.cps.foldl (fun out c=>out++(Builtin.Str.reprChar (reprQuote x) c).toArray) #[reprQuote x]).push (reprQuote x)).size≤1000
 rw [Array.size_push,← Array.foldl_toList]
 have h1:=fold x.cps.toList #[reprQuote x] fun c hc=>h c (by first|exact hc|exact qC6.mp hc|exact Array.mem_toList.mp hc)
 have h2:x.cps.toList.length=x.length:=rfl
 have h3:(#[reprQuote x]:Array Nat).size=1:=rfl
 omega
theorem zzm {x:Str} (h:Low x∧x.length≤20):atD (.str x)=true:=decide_eq_true (zaes h.1 h.2)
theorem zaji (r:Rule):znl (zcg r)=true:=by
 show (znl (.str r.1)&&(zaal (r.2.map .str)&&true))=true
 rw [zuf];rfl
def hd1 (a:Arm):Str:=a.parts.headD ""
theorem zajj {a:Arm} (h:a.parts≠[]):hd1 a∈a.parts∧∃ l,a.parts=hd1 a::l:=by
 unfold hd1
 cases e:a.parts with
 | nil=>exact absurd e h
 | cons x l=>exact ⟨by simp,l,rfl⟩
abbrev E9 (cs:List Int) (p:Nat) (s3 s4 s5 s6 s7 s8 s9 s10 s11 s12:Sl):DEnv:=[.no,.pl (zcp cs),.pl (.int p),s3,s4,s5,s6,s7,s8,s9,s10,s11,s12]
abbrev G9 (cs:List Int) (p:Nat) (st:List Str) (o0 o1:Str) (W:Web) (c0 c1:List Arm) (ts:List Str) (s9 s10 s11 s12:Sl):DEnv:=E9 cs p (.pl (zae (st++[o0,o1]))) (.pl (zae st)) (.pl (webD W)) (.pl (.dict (dS zae (ups W)))) (.pl (.list ([c0,c1].map zaq))) (.pl (zae ts)) s9 s10 s11 s12
abbrev H9 (cs:List Int) (p:Nat) (st:List Str) (o0 o1:Str) (W:Web) (s7 s8 s9 s10 s11 s12:Sl):DEnv:=E9 cs p (.pl (zae (st++[o0,o1]))) (.pl (zae st)) (.pl (webD W)) (.ac (.dict (dS zae (ups W)))) s7 s8 s9 s10 s11 s12
theorem zauz {W:Web} {p:Nat} {ts:List Str} {rs:List Rule} {c:List Arm} (ok:WebOk W) (lo:∀ x∈nm W,Low x) (mk:MadeOk W p ts rs) (nt:ts.Nodup) (lot:∀ x∈ts,Low x) (hp:p≤3) (hts:ts.length≤16) (hc:CallIn (nm W) c) (hl:c.length=p):Bk W rs c :=
 ⟨ok,mk.rules lo hp hts,hc.ok (by omega),⟨mk.kinds,fun r hr=>by rw [hl];exact mk.size r hr⟩,mk.names nt,fun r hr=>zhj (lot r.1 (mk.sub.subset (qz.mpr ⟨r,hr,rfl⟩)))⟩
theorem Bk.add {W:Web} {rs:List Rule} {c:List Arm} (b:Bk W rs c) {t:Str} {own:List Str} (h1:LowS own) (h2:∀ k∈own,k∈nm W) (h3:own.length=c.length) (h4:t∉nms rs) (h5:qAF t=true) (hl:rs.length<299):Bk W (rs++[(t,own)]) c:=by
 have m:∀ r:Rule,r∈rs++[(t,own)]→r∈rs∨r=(t,own):=fun r hr=>(qp.mp hr).imp id fun z=>by simpa using z
 refine ⟨b.web,⟨fun r hr=>?_,fun r hr=>?_,fun r hr=>?_,by rw [qW];show _+1<300;omega⟩,b.cal,⟨fun r hr=>?_,fun r hr=>?_⟩,?_,fun r hr=>?_⟩
 ·rcases m r hr with z|rfl
  ·exact b.rul.low r z
  ·exact h1
 ·rcases m r hr with z|rfl
  ·exact b.rul.kinds r z
  ·exact h2
 ·rcases m r hr with z|rfl
  ·exact b.rul.few r z
  ·show own.length<300;rw [h3];exact b.cal.len
 ·rcases m r hr with z|rfl
  ·exact b.ord.kinds r z
  ·exact h2
 ·rcases m r hr with z|rfl
  ·exact b.ord.size r z
  ·exact h3
 ·rw [qv,qAj]
  exact ⟨b.nd,by simp,fun x hx y hy e=>by
   have:y=t:=by simpa using hy
   rw [e,this] at hx
   exact h4 hx⟩
 ·rcases m r hr with z|rfl
  ·exact b.low r z
  ·exact h5
theorem zamk {cs:List Int} (hl:cs.length=32) (h0:∀ c∈cs,0≤c):zzl (envL 11 cs)=some (.rt (.bool true) false):=by
 have L:∀ n:Nat,n<32→n<cs.length:=fun n h=>by rw [hl];exact h
 have gc:=fun (n:Nat) (hn:n<cs.length)=>h0 (cs[n]'hn) (qAe _)
 have md:∀ (z j:Int),0<j→0≤z % j∧z % j<j:=fun z j hj=>⟨qAO z (by omega),qAV z hj⟩
 have p3:=md (cs[0]'(L _ (by decide))) 3 (by decide)
 obtain ⟨p,hp⟩:∃ p:Nat,(1:Int)+cs[0]'(L _ (by decide)) % 3=(p:Int):=⟨(1+cs[0]'(L _ (by decide)) % 3).toNat,by omega⟩
 have hpr:1≤p∧p≤3:=by omega
 have e2:(sSet 2 (eOp addD (eC (.int 1)) (eOp modD (eIxV 1 (eC (.int 0))) (eC (.int 3))))) (envL 11 cs)=some (.nx (E9 cs p .no .no .no .no .no .no .no .no .no .no)):=by
  rw [zcl (zvi rfl (zhk (zxy (n:=0) rfl rfl (L _ (by decide))) rfl (by decide))),hp]
  rfl
 have ev:∃ v:Int,0<v∧v≤8∧(eOp ixD (eTup (zab (eC (.int 8)) (zab (eC (.int 8)) (zab (eC (.int 6)) aNil)))) (eOp subD (eVar 2) (eC (.int 1)))) (E9 cs p .no .no .no .no .no .no .no .no .no .no)=some (vi v):=by
  have:p=1∨p=2∨p=3:=by omega
  rcases this with rfl|rfl|rfl
  ·exact ⟨8,by decide,by decide,rfl⟩
  ·exact ⟨8,by decide,by decide,rfl⟩
  ·exact ⟨6,by decide,by decide,rfl⟩
 obtain ⟨v,v0,v8,ev⟩:=ev
 have mv:=md (cs[0]'(L _ (by decide)) / 3) v v0
 obtain ⟨xs,gx,lx,nx,lox⟩:=zoc (m:=3+cs[0]'(L _ (by decide)) / 3 % v) (c:=cs[1]'(L _ (by decide))) (by omega) (by omega) (gc 1 (L _ (by decide)))
 have hx:3≤xs.length∧xs.length≤10:=by omega
 have e3:(sSet 3 (zbb 2 zdj (zab (eOp addD (eC (.int 3)) (eOp modD (eOp zcy (eIxV 1 (eC (.int 0))) (eC (.int 3))) (eOp ixD (eTup (zab (eC (.int 8)) (zab (eC (.int 8)) (zab (eC (.int 6)) aNil)))) (eOp subD (eVar 2) (eC (.int 1)))))) (zab (eIxV 1 (eC (.int 1))) aNil)))) (E9 cs p .no .no .no .no .no .no .no .no .no .no)=some (.nx (E9 cs p (.ac (zae xs)) .no .no .no .no .no .no .no .no .no)) :=
  zcl (r:=⟨zae xs,true,[]⟩) (zbv (n:=2) (rs:=[vi (3+cs[0]'(L _ (by decide)) / 3 % v),vi (cs[1]'(L _ (by decide)))]) (zbs (zvi rfl (zhk (zlb (zxy (n:=0) rfl rfl (L _ (by decide))) rfl (by decide) (by decide)) ev v0)) (zeq (zxy (n:=1) rfl rfl (L _ (by decide))))) rfl gx)
 clear ev mv gx lx
 obtain ⟨st,o0,o1,rfl⟩:∃ st o0 o1,xs=st++[o0,o1]:=by
  refine ⟨xs.take (xs.length - 2),xs[xs.length - 2]'(by omega),xs[xs.length - 1]'(by omega),?_⟩
  have h1:xs.drop (xs.length - 2)=[xs[xs.length - 2]'(by omega),xs[xs.length - 1]'(by omega)]:=by
   rw [qAR (by omega)]
   congr 1
   have:xs.length - 2+1=xs.length - 1:=by omega
   rw [qAR (by omega),List.drop_eq_nil_of_le (by omega)]
   simp only [this]
  rw [← h1,qC3]
 have hst:1≤st.length∧st.length≤8:=by
  rw [qW] at hx
  have:[o0,o1].length=2:=rfl
  omega
 have nst:st.Nodup:=(qAj.mp nx).1
 have lo:∀ x∈st,Low x:=fun x h=>(lox x (qAA _ h)).1
 have lo0:=lox o0 (qd _ (by simp))
 have lo1:=lox o1 (qd _ (by simp))
 have no0:o0∉st:=fun z=>(qAj.mp nx).2.2 o0 z o0 (by simp) rfl
 have e4:(sSet 4 (eSl (eVar 3) zcm (zbl (eNeg (eC (.int 2)))))) (E9 cs p (.ac (zae (st++[o0,o1]))) .no .no .no .no .no .no .no .no .no)=some (.nx (E9 cs p (.pl (zae (st++[o0,o1]))) (.ac (zae st)) .no .no .no .no .no .no .no .no)) :=
  zcl (r:=⟨zae st,true,[3]⟩) (zzc (x:=st++[o0,o1]) (f:=false) (bs:=[3]) (lo:=none) (hi:=some (-2)) rfl rfl rfl (zatu st o0 o1))
 obtain ⟨W,gw,hnm,ok⟩:=zaih (cs:=(cs.drop 8).take 8) (xs:=st) (by rw [qAH,qAI];omega) (by omega) nst
 have lo':∀ x∈nm W,Low x:=by rw [hnm];exact lo
 have cut:∀ (a b:Nat) (x:EF) (y:EF) (env:DEnv),b≤32→a≤b→env[1]?=some (.pl (zcp cs))→x env=some (vi (a:Int))→y env=some (vi (b:Int))→eSl (eVar 1) (zbl x) (zbl y) env=some ⟨zcp ((cs.drop a).take (b - a)),true,[]⟩:=fun a b x y env hb hab he hx hy=>by
  unfold eSl
  have ee:eVar 1 env=some ⟨zcp cs,false,[]⟩:=by unfold eVar;rw [he]
  rw [ee,zkb hx,zkb hy]
  show some (⟨.list (cutD (cs.map .int) (some (a:Int)) (some (b:Int))),true,[]⟩:Val)=_
  rw [zalw cs a b (by omega) hab];rfl
 have e5:(sSet 5 (zbb 2 zky (zab (eSl (eVar 1) (zbl (eC (.int 8))) (zbl (eC (.int 16)))) (zab (eVar 4) aNil)))) (E9 cs p (.pl (zae (st++[o0,o1]))) (.ac (zae st)) .no .no .no .no .no .no .no .no)=some (.nx (E9 cs p (.pl (zae (st++[o0,o1]))) (.pl (zae st)) (.ac (webD W)) .no .no .no .no .no .no .no)) :=
  zcl (r:=⟨webD W,true,[4]⟩) (zbv (n:=2) (rs:=[⟨zcp ((cs.drop 8).take 8),true,[]⟩,⟨zae st,false,[4]⟩]) (zbs (cut 8 16 _ _ _ (by decide) (by decide) rfl rfl rfl) (zeq rfl)) rfl gw)
 have e6:(sSet 6 (zbb 1 zno (zab (eVar 5) aNil))) (E9 cs p (.pl (zae (st++[o0,o1]))) (.pl (zae st)) (.ac (webD W)) .no .no .no .no .no .no .no)=some (.nx (H9 cs p st o0 o1 W .no .no .no .no .no .no)) :=
  zcl (r:=⟨.dict (dS zae (ups W)),true,[5]⟩) (zbv (n:=1) (rs:=[⟨webD W,false,[5]⟩]) (zeq rfl) rfl (zalt ok))
 have H:∀ c:Int,∃ cl:List Arm,0≤c→(zge [.int c,zae st,.int p]=some (zaq cl,false)∧cl.length=p∧CallIn st cl):=fun c=>by
  by_cases hc:0≤c
  ·obtain ⟨cl,h⟩:=zaen (xs:=st) (c:=c) (p:=p) (by omega) hc hpr.2
   exact ⟨cl,fun _=>h⟩
  ·exact ⟨[],fun z=>absurd z hc⟩
 let f:Int→List Arm:=fun c=>Classical.choose (H c)
 have hf:∀ c:Int,0≤c→(zge [.int c,zae st,.int p]=some (zaq (f c),false)∧(f c).length=p∧CallIn st (f c)):=fun c=>Classical.choose_spec (H c)
 generalize f=f at hf
 have hcells:∀ c∈(cs.drop 4).take 2,0≤c:=fun c hc=>h0 c (qAb (qAa hc))
 have l2:((cs.drop 4).take 2).length=2:=by rw [qAH,qAI];omega
 obtain ⟨d0,d1,hq⟩:∃ d0 d1,(cs.drop 4).take 2=[d0,d1]:=by
  match (cs.drop 4).take 2,l2 with
  | [a,b],_=>exact ⟨a,b,rfl⟩
 rw [hq] at hcells
 have hd0:=hf d0 (hcells d0 (by simp))
 have hd1':=hf d1 (hcells d1 (by simp))
 have cm:zej (gN 0) zcv (zbb 3 zge (zab (eVar 0) (zab (eVar 2) (zab (eVar 1) aNil)))) [.no,.pl (.int p),.pl (zae st)] ([d0,d1].map .int)=some ([f d0,f d1].map zaq) :=
  zdi (enc:=PyData.int) (out:=fun c=>zaq (f c)) (l:=[d0,d1]) fun c hc=>⟨[.pl (.int c),.pl (.int p),.pl (zae st)],rfl,rfl,⟨zaq (f c),false,[]⟩,zbv (n:=3) (rs:=[vi c,⟨zae st,false,[]⟩,vi p]) rfl rfl (hf c (hcells c hc)).1,rfl⟩
 have e7:(sSet 7 (zdt ["_law_cell"] [2,4] (zas (eSl (eVar 1) (zbl (eC (.int 4))) (zbl (eC (.int 6))))) (gN 0) zcv (zbb 3 zge (zab (eVar 0) (zab (eVar 2) (zab (eVar 1) aNil)))))) (H9 cs p st o0 o1 W .no .no .no .no .no .no)=some (.nx (H9 cs p st o0 o1 W (.ac (.list ([f d0,f d1].map zaq))) .no .no .no .no .no)):=by
  have it:(zas (eSl (eVar 1) (zbl (eC (.int 4))) (zbl (eC (.int 6))))) (H9 cs p st o0 o1 W .no .no .no .no .no .no)=some ([d0,d1].map .int,[]):=by
   unfold zas
   rw [cut 4 6 _ _ _ (by decide) (by decide) rfl rfl rfl,show 6 - 4=2 from rfl,hq]
   rfl
  refine zcl (r:=⟨.list ([f d0,f d1].map zaq),true,[]⟩) ?_
  rw [zex (own:=["_law_cell"]) (fr:=[2,4]) it (by show 2<100000;decide) cm]
  have:(if zgc ([f d0,f d1].map zaq)=true then ([]:List Nat) else []++capA [2,4] (H9 cs p st o0 o1 W .no .no .no .no .no .no))=[]:=by split<;>rfl
  rw [this]
 have m12:=md (cs[3]'(L _ (by decide))) 12 (by decide)
 obtain ⟨ts,gt,lt,nt,lot⟩:=zoc (m:=12) (c:=cs[2]'(L _ (by decide))) (by decide) (by decide) (gc 2 (L _ (by decide)))
 have lt:ts.length=12:=lt
 have e8:(sSet 8 (zbb 2 zdj (zab (eC (.int 12)) (zab (eIxV 1 (eC (.int 2))) aNil)))) (H9 cs p st o0 o1 W (.ac (.list ([f d0,f d1].map zaq))) .no .no .no .no .no)=some (.nx (H9 cs p st o0 o1 W (.ac (.list ([f d0,f d1].map zaq))) (.ac (zae ts)) .no .no .no .no)) :=
  zcl (r:=⟨zae ts,true,[]⟩) (zbv (n:=2) (rs:=[vi 12,vi (cs[2]'(L _ (by decide)))]) (zbs rfl (zeq (zxy (n:=2) rfl rfl (L _ (by decide))))) rfl gt)
 obtain ⟨m,hm,hm12⟩:∃ m:Nat,cs[3]'(L _ (by decide)) % 12=(m:Int)∧m<12:=⟨(cs[3]'(L _ (by decide)) % 12).toNat,by omega,by omega⟩
 have c0in:CallIn (nm W) (f d0):=by rw [hnm];exact hd0.2.2
 have c1in:CallIn (nm W) (f d1):=by rw [hnm];exact hd1'.2.2
 have tl:(ts.take m).length≤11:=by rw [qAH];omega
 obtain ⟨rs,gr,mk⟩:=zabf ok lo' (by rw [hnm];omega) (cs:=(cs.drop 16).take 11) (c:=f d0) (ts:=ts.take m) (fun z hz=>h0 z (qAb (qAa hz))) (by rw [qAH,qAH,qAI];omega) (by omega) c0in (by rw [hd0.2.1];exact hpr.2)
 rw [hnm] at gr
 rw [hd0.2.1] at mk
 have e9:(sSet 9 (zbb 5 zim (zab (eSl (eVar 1) (zbl (eC (.int 16))) (zbl (eC (.int 27)))) (zab (eVar 4) (zab (eVar 6) (zab (eIxV 7 (eC (.int 0))) (zab (eSl (eVar 8) zcm (zbl (eOp modD (eIxV 1 (eC (.int 3))) (eC (.int 12))))) aNil))))))) (H9 cs p st o0 o1 W (.ac (.list ([f d0,f d1].map zaq))) (.ac (zae ts)) .no .no .no .no)=some (.nx (E9 cs p (.pl (zae (st++[o0,o1]))) (.pl (zae st)) (.pl (webD W)) (.pl (.dict (dS zae (ups W)))) (.ac (.list ([f d0,f d1].map zaq))) (.pl (zae ts)) (.ac (zat rs)) .no .no .no)):=by
  have ei:eIxV 7 (eC (.int 0)) (H9 cs p st o0 o1 W (.ac (.list ([f d0,f d1].map zaq))) (.ac (zae ts)) .no .no .no .no)=some ⟨zaq (f d0),false,[]⟩:=zatf (n:=0) rfl rfl rfl
  have et:(eSl (eVar 8) zcm (zbl (eOp modD (eIxV 1 (eC (.int 3))) (eC (.int 12))))) (H9 cs p st o0 o1 W (.ac (.list ([f d0,f d1].map zaq))) (.ac (zae ts)) .no .no .no .no)=some ⟨zae (ts.take m),true,[8]⟩ :=
   zzc (x:=ts) (f:=false) (bs:=[8]) (lo:=none) (hi:=some (m:Int)) rfl rfl (zkb (by rw [zhk (zxy (n:=3) rfl rfl (L _ (by decide))) rfl (by decide),hm])) (by rw [zre _ _ (by rw [qF];omega),qBS])
  exact zcl (r:=⟨zat rs,true,[6,8]⟩) (zbv (n:=5) (rs:=[⟨zcp ((cs.drop 16).take 11),true,[]⟩,⟨zae st,false,[]⟩,⟨.dict (dS zae (ups W)),false,[6]⟩,⟨zaq (f d0),false,[]⟩,⟨zae (ts.take m),true,[8]⟩]) (zbs (cut 16 27 _ _ _ (by decide) (by decide) rfl rfl rfl) (zbs rfl (zbs rfl (zbs ei (zeq et))))) rfl gr)
 have ntm:(ts.take m).Nodup:=nt.sublist (qBy _ _)
 have lotm:∀ x∈ts.take m,Low x:=fun x h=>(lot x (qAa h)).1
 have bk:∀ c:List Arm,c.length=p→CallIn (nm W) c→Bk W rs c:=fun c h1 h2=>zauz ok lo' mk ntm lotm hpr.2 (by omega) h2 h1
 have hrt:∀ r∈rs,r.1∈ts.take m:=fun r hr=>mk.sub.subset (qz.mpr ⟨r,hr,rfl⟩)
 have ha:∀ r∈rs,atD (.str r.1)=true:=fun r hr=>zzm (lot r.1 (qAa (hrt r hr)))
 have rl:rs.length≤11:=by have:=mk.sub.length_le;rw [qF] at this;omega
 have h11:11<ts.length:=by omega
 have tin:ts[11]∈ts:=qAe _
 have tno:ts[11]∉nms rs:=fun z=>by
  have h1:=mk.sub.subset z
  obtain ⟨j,hj,e⟩:=List.mem_iff_getElem.mp h1
  rw [List.getElem_take] at e
  have hj':j<m:=by rw [qAH] at hj;omega
  exact qBu.mp nt j 11 (by omega) h11 (by omega) e
 generalize hT:ts[11]=t at tin tno
 have lot':=lot t tin
 have e11:∀ s9 s10 s11 s12,eIxV 8 (eC (.int 11)) (G9 cs p st o0 o1 W (f d0) (f d1) ts s9 s10 s11 s12)=some (vs t):=fun s9 s10 s11 s12=>by
  rw [← hT]
  exact zaao (n:=11) (ds:=ts.map .str) rfl rfl (by rw [qT,qH h11];rfl)
 obtain ⟨z0,z1,hz⟩:∃ z0 z1,(cs.drop 6).take 2=[z0,z1]:=by
  have l2:((cs.drop 6).take 2).length=2:=by rw [qAH,qAI];omega
  match (cs.drop 6).take 2,l2 with
  | [a,b],_=>exact ⟨a,b,rfl⟩
 have refd:∀ c:List Arm,c.length=p→CallIn st c→zep [zbn W p rs,zaq c,.str t,zae [o0,o1],zcp [z0,z1]]=some (.bool true,false):=fun c h1 h2=>by
  have h2':CallIn (nm W) c:=by rw [hnm];exact h2
  have:=zabj (bk c h1 h2') (by omega) (by omega) h2.few (t:=t) (o0:=o0) (o1:=o1) (z0:=z0) (z1:=z1) tno (zzm lot') (zhj lot'.1) (by rw [hnm];exact no0) (zzm lo0) (zhj lo0.1) (zzm lo1)
  rw [h1] at this
  exact this
 have askd:∀ c:List Arm,c.length=p→CallIn st c→zcu [zbn W p rs,.dict (dS zae (ups W)),zaq c]=some (.bool true,false):=fun c h1 h2=>by
  have:=zzk (bk c h1 (by rw [hnm];exact h2)) ha
  rw [h1] at this
  exact this
 obtain ⟨env',lp,s11,rfl⟩:=zdu (enc:=zaq) (g:=gN 11) (l:=[f d0,f d1]) (env:=G9 cs p st o0 o1 W (f d0) (f d1) ts (.pl (zat rs)) (.pl (zbn W p rs)) .no .no)
  (body:=(sIf (tOrF (zkp (tTru (zbb 3 zcu (zab (eVar 10) (zab (eVar 6) (zab (eVar 11) aNil)))))) (zkp (tTru (zbb 5 zep (zab (eVar 10) (zab (eVar 11) (zab (eIxV 8 (eC (.int 11))) (zab (eSl (eVar 3) (zbl (eNeg (eC (.int 2)))) zcm) (zab (eSl (eVar 1) (zbl (eC (.int 6))) (zbl (eC (.int 8)))) aNil))))))))) (sRet (eC (.bool false))) sNil))
  (fun _ env=>∃ s11,env=G9 cs p st o0 o1 W (f d0) (f d1) ts (.pl (zat rs)) (.pl (zbn W p rs)) s11 .no) ⟨_,rfl⟩ (by
   rintro pre c post env hpc ⟨s11,rfl⟩
   have hc:c=f d0∨c=f d1:=by
    have:c∈[f d0,f d1]:=by rw [← hpc];simp
    simpa using this
   have k:c.length=p∧CallIn st c:=by
    rcases hc with rfl|rfl
    ·exact hd0.2
    ·exact hd1'.2
   have es:(eSl (eVar 3) (zbl (eNeg (eC (.int 2)))) zcm) (G9 cs p st o0 o1 W (f d0) (f d1) ts (.pl (zat rs)) (.pl (zbn W p rs)) (.pl (zaq c)) .no)=some ⟨zae [o0,o1],true,[]⟩ :=
    zzc (x:=st++[o0,o1]) (f:=false) (bs:=[]) (lo:=some (-2)) (hi:=none) rfl rfl rfl (zatv st o0 o1)
   have ez:=cut 6 8 (eC (.int 6)) (eC (.int 8)) (G9 cs p st o0 o1 W (f d0) (f d1) ts (.pl (zat rs)) (.pl (zbn W p rs)) (.pl (zaq c)) .no) (by decide) (by decide) rfl rfl rfl
   rw [show 8 - 6=2 from rfl,hz] at ez
   exact ⟨_,_,rfl,.inl (if_f (zatm (zxx (zbv (n:=3) (rs:=[⟨zbn W p rs,false,[]⟩,⟨.dict (dS zae (ups W)),false,[]⟩,⟨zaq c,false,[]⟩]) rfl rfl (askd c k.1 k.2))) (zxx (zbv (n:=5) (rs:=[⟨zbn W p rs,false,[]⟩,⟨zaq c,false,[]⟩,vs t,⟨zae [o0,o1],true,[]⟩,⟨zcp [z0,z1],true,[]⟩]) (zbs rfl (zbs rfl (zbs (e11 _ _ _ _) (zbs es (zeq ez))))) rfl (refd c k.1 k.2)))) rfl),_,rfl⟩)
 let own:=(f d1).map hd1
 have ownin:∀ k∈own,k∈nm W:=fun k hk=>by
  obtain ⟨a,ha,rfl⟩:=qz.mp hk
  exact c1in.kinds a ha _ (zajj (c1in.some a ha)).1
 have ownl:own.length=p:=by show ((f d1).map hd1).length=p;rw [qF];exact hd1'.2.1
 have ownlow:LowS own:=zsg lo' ownin
 have e12:(sSet 12 (eCB zfb (zab (zdt ["_law_arm"] [] (zas (eIxV 7 (eC (.int 1)))) (gN 0) zcv (eOp ixD (zbb 1 zbf (zab (eVar 0) aNil)) (eC (.int 0)))) aNil))) (G9 cs p st o0 o1 W (f d0) (f d1) ts (.pl (zat rs)) (.pl (zbn W p rs)) s11 .no)=some (.nx (G9 cs p st o0 o1 W (f d0) (f d1) ts (.pl (zat rs)) (.pl (zbn W p rs)) s11 (.pl (zak own)))):=by
  have cm2:zej (gN 0) zcv (eOp ixD (zbb 1 zbf (zab (eVar 0) aNil)) (eC (.int 0))) [.no] ((f d1).map armD)=some ((f d1).map fun a=>.str (hd1 a)) :=
   zdi (enc:=armD) (out:=fun a=>.str (hd1 a)) fun a ha=>⟨[.pl (armD a)],rfl,rfl,vs (hd1 a),by
    obtain ⟨l,el⟩:=(zajj (c1in.some a ha)).2
    have gn:=zev a
    exact zauy (ds:=a.parts.map .str) (fr:=true) (bs:=[]) (i:=0) (zbv (n:=1) (rs:=[⟨armD a,false,[]⟩]) rfl rfl gn) rfl (by rw [el];exact zmn (j:=0) rfl),rfl⟩
  have it:(zas (eIxV 7 (eC (.int 1)))) (G9 cs p st o0 o1 W (f d0) (f d1) ts (.pl (zat rs)) (.pl (zbn W p rs)) s11 .no)=some ((f d1).map armD,[]):=rfl
  have cl:((f d1).map armD).length<100000:=by rw [qF,hd1'.2.1];omega
  have ce:=zex (own:=["_law_arm"]) (fr:=[]) it cl cm2
  refine zcl (r:=⟨zak own,false,[]⟩) ?_
  have e0:(if zgc ((f d1).map fun a=>PyData.str (hd1 a))=true then ([]:List Nat) else []++capA [] (G9 cs p st o0 o1 W (f d0) (f d1) ts (.pl (zat rs)) (.pl (zbn W p rs)) s11 .no))=[]:=by split<;>rfl
  rw [e0] at ce
  unfold eCB
  rw [zeq ce]
  show some (⟨.tuple ((f d1).map fun a=>PyData.str (hd1 a)),false,bsOf _ _⟩:Val)=_
  have:((f d1).map fun a=>PyData.str (hd1 a))=own.map .str:=by rw [qBH];rfl
  rw [this]
  show some (⟨zak own,false,bsOf _ []⟩:Val)=_
  rw [zadg]
 have rl12:∀ r∈rs,qAF r.1=true∧LowS r.2:=fun r hr=>⟨zhj (lotm r.1 (hrt r hr)),zsg lo' (mk.kinds r hr)⟩
 have r1:(sSeq (sFor (zas (eVar 7)) (gN 11) (sIf (tOrF (zkp (tTru (zbb 3 zcu (zab (eVar 10) (zab (eVar 6) (zab (eVar 11) aNil)))))) (zkp (tTru (zbb 5 zep (zab (eVar 10) (zab (eVar 11) (zab (eIxV 8 (eC (.int 11))) (zab (eSl (eVar 3) (zbl (eNeg (eC (.int 2)))) zcm) (zab (eSl (eVar 1) (zbl (eC (.int 6))) (zbl (eC (.int 8)))) aNil))))))))) (sRet (eC (.bool false))) sNil)) (sSeq (sIf (zbg (eOp neD (eVar 10) (eTup (zab (eVar 5) (zab (eVar 2) (zab (eVar 9) aNil)))))) (sRet (eC (.bool false))) sNil) (sSet 12 (eCB zfb (zab (zdt ["_law_arm"] [] (zas (eIxV 7 (eC (.int 1)))) (gN 0) zcv (eOp ixD (zbb 1 zbf (zab (eVar 0) aNil)) (eC (.int 0)))) aNil))))) (G9 cs p st o0 o1 W (f d0) (f d1) ts (.pl (zat rs)) (.pl (zbn W p rs)) .no .no)=some (.nx (G9 cs p st o0 o1 W (f d0) (f d1) ts (.pl (zat rs)) (.pl (zbn W p rs)) s11 (.pl (zak own)))) :=
  zav (zhq (ds:=[f d0,f d1].map zaq) (bs:=[]) rfl lp) (zav (if_f (zaqc (d:=zbn W p rs) (f1:=false) (f2:=false) (b1:=[]) (b2:=[]) rfl rfl (zabg ok lo' rl12)) rfl) e12)
 have tt:(zbg (eOp (inS true) (eVar 12) (zdt ["_law_name", "_law_kinds"] [] (zas (eVar 9)) (gT 2 (zar 0 (zar 1 zdc))) zcv (eVar 1)))) (G9 cs p st o0 o1 W (f d0) (f d1) ts (.pl (zat rs)) (.pl (zbn W p rs)) s11 (.pl (zak own)))=some (!decide (own∈rs.map (·.2))):=by
  have cm3:zej (gT 2 (zar 0 (zar 1 zdc))) zcv (eVar 1) [.no,.no] (rs.map zcg)=some (rs.map fun r=>zak r.2):=zdi (enc:=zcg) (out:=fun r=>zak r.2) fun r hr=>⟨[.pl (.str r.1),.pl (zak r.2)],rfl,rfl,⟨zak r.2,false,[]⟩,rfl,rfl⟩
  have ce:=zex (own:=["_law_name", "_law_kinds"]) (fr:=[]) (fi:=zas (eVar 9)) (env:=G9 cs p st o0 o1 W (f d0) (f d1) ts (.pl (zat rs)) (.pl (zbn W p rs)) s11 (.pl (zak own))) (ds:=rs.map zcg) (bs:=[]) rfl (by rw [qF];omega) cm3
  refine zfy ?_
  unfold eOp
  rw [ce]
  show (inS true (zak own) (.list (rs.map fun r=>zak r.2))).bind _=_
  have:(rs.map fun r=>zak r.2)=(rs.map (·.2)).map zak:=by rw [qBH];rfl
  rw [this,zaiw (fun x hx=>by obtain ⟨r,hr,rfl⟩:=qz.mp hx;exact (rl12 r hr).2) ownlow]
  rfl
 have k1:(zdt ["_law_name", "_law_elders"] [] (zas (eVar 5)) (gT 2 (zar 0 (zar 1 zdc))) zcv (eTup (zab (eVar 0) (zab (eCB zwx (zab (eVar 1) aNil)) aNil)))) (G9 cs p st o0 o1 W (f d0) (f d1) ts (.pl (zat rs)) .no .no .no)=some ⟨webD W,true,[]⟩:=by
  have cw:=zex (own:=["_law_name", "_law_elders"]) (fr:=[]) (fi:=zas (eVar 5)) (g:=gT 2 (zar 0 (zar 1 zdc))) (t:=zcv) (e:=eTup (zab (eVar 0) (zab (eCB zwx (zab (eVar 1) aNil)) aNil))) (env:=G9 cs p st o0 o1 W (f d0) (f d1) ts (.pl (zat rs)) .no .no .no) (ds:=W.map rowD) (bs:=[]) rfl (by rw [qF];have:=ok.len;omega) zalx
  rw [cw]
  have:(if zgc (W.map rowD)=true then ([]:List Nat) else []++capA [] (G9 cs p st o0 o1 W (f d0) (f d1) ts (.pl (zat rs)) .no .no .no))=[]:=by split<;>rfl
  rw [this];rfl
 have fin:∀ S:List Rule,(∀ c:List Arm,c.length=p→CallIn st c→zcu [zbn W p S,.dict (dS zae (ups W)),zaq c]=some (.bool true,false))→(sRet (eAnd (zbb 3 zcu (zab (eVar 10) (zab (eVar 6) (zab (eIxV 7 (eC (.int 1))) aNil)))) (zbb 3 zcu (zab (eVar 10) (zab (eVar 6) (zab (eIxV 7 (eC (.int 0))) aNil)))))) (G9 cs p st o0 o1 W (f d0) (f d1) ts (.pl (zat rs)) (.pl (zbn W p S)) .no .no)=some (.rt (.bool true) false):=fun S hS =>
  zkz (bs:=[]) (zaux (zbv (n:=3) (rs:=[⟨zbn W p S,false,[]⟩,⟨.dict (dS zae (ups W)),false,[]⟩,⟨zaq (f d1),false,[]⟩]) rfl rfl (hS _ hd1'.2.1 hd1'.2.2)) (zbv (n:=3) (rs:=[⟨zbn W p S,false,[]⟩,⟨.dict (dS zae (ups W)),false,[]⟩,⟨zaq (f d0),false,[]⟩]) rfl rfl (hS _ hd0.2.1 hd0.2.2)))
 refine zav e2 (zav e3 (zav e4 (zav e5 (zav e6 (zav e7 (zav e8 (zav e9 (zamj (e0:=G9 cs p st o0 o1 W (f d0) (f d1) ts (.pl (zat rs)) .no .no .no) (d2:=.int p) (u2:=false) (b2:=[]) (ds:=rs.map zcg) (b3:=[]) rfl k1 rfl rfl (by decide) r1 ⟨rfl,by show 10<13;decide⟩ ?_))))))))
 cases hb:decide (own∈rs.map (·.2)) with
 | true =>
  rw [hb] at tt
  exact .inl ⟨tt,fin rs askd⟩
 | false =>
  rw [hb] at tt
  refine .inr ⟨zcg (t,own),false,[],tt,?_,zaji _,by rw [qF];omega,?_⟩
  ·unfold eTup
   rw [zbs (e11 _ _ _ _) (zeq (a:=eVar 12) (r:=⟨zak own,false,[]⟩) rfl)]
   rfl
  ·have:=fin (rs++[(t,own)]) fun c h1 h2=>by
    have b:=(bk c h1 (by rw [hnm];exact h2)).add (t:=t) (own:=own) ownlow ownin (by rw [h1];exact ownl) tno (zhj lot'.1) (by omega)
    have g:=zzk b fun r hr=>by
     rcases qp.mp hr with z|z
     ·exact ha r z
     ·have:r=(t,own):=by simpa using z
      rw [this];exact zzm lot'
    rw [h1] at g
    exact g
   rw [← this]
   unfold zbn zat
   rw [qv];rfl
section
variable {P:Program} {w:World} {K:qB} {mg:Str→Option Value} {base:Heap}
theorem zava {s k:Int} (h1:0≤s) (h2:s<2147483647) (h3:0≤k) (h4:k≤64):0≤s * (k+2)+7919 * k * k+11∧s * (k+2)+7919 * k * k+11<200000000000:=by
 have a1:0≤s * (k+2):=qCo h1 (by omega)
 have a2:s * (k+2)≤2147483647 * 66:=Int.mul_le_mul (by omega) (by omega) (by omega) (by omega)
 have a3:0≤7919 * k * k:=qCo (by omega) h3
 have a4:7919 * k * k≤7919 * 64 * 64:=Int.mul_le_mul (by omega) h4 h3 (by omega)
 omega
def zabk (K:qB):Sp:=fun vs H Q _=>∃ (a:Addr) (ns:List Int) (m:Int),vs=[.ref a,.int m]∧SqL K H a (ns.map .int)∧0≤m∧m≤64 ∧
 ∀ p H' (cs:List Int),H p=none→Same H H'→H' p=some (.lst (cs.map .int))→cs.length=m.toNat→(∀ c∈cs,0≤c∧c<1000000000000)→Q (.ref p) H'
theorem zzn {f:Addr} {fd:q9} (F:Fun K "_law_draws" "_law_draws" zgy f fd) (T:Txt mg):FnOk P w K mg base CX0 1 f fd ["_law_script", "_law_many"] (zabk K):=by
 refine F.ok zyg (fun vs H Q E h=>?_) (fun cdv A outer s H vs Q E hr h=>?_)
 ·obtain ⟨a,ns,m,rfl,_⟩:=h
  rfl
 ·obtain ⟨a,ns,m,rfl,hS,h0,h64,k⟩:=h
  apply Exists.intro
  apply And.intro
  ·refine' (zlo (zabl (i:=2) (hf:=Or.inl rfl) zgj rfl (Or.inl rfl) ziy)
 (zlo (zaex qr rfl (zaki (K:=K) rfl (zabn (zkl (K:=K) rfl) (pv 0) zafi (zafj ziy))) (zzq (i:=3) (hf:=Or.inl rfl) zgj rfl (Or.inl rfl))
  (zml (zabl (i:=2) (hf:=Or.inl rfl) zgj rfl (Or.inl rfl) (zmc zcz (zmc (zbu (K:=K) rfl) (zmc zjd (pv 2) ziy) (zmc zcz (pv 3) ziy)) ziy))))
 (zlo (zabl (i:=4) (hf:=Or.inl rfl) zgj rfl (Or.inl rfl) (zamq zpb))
 (zlo (zaex qr rfl (zwd rfl T.range (zki (pv 1) zpb)) (zzq (i:=5) (hf:=Or.inl rfl) zgj rfl (Or.inl rfl))
  (zml (zard (zafa zaue (pv 5) (zabm (zeb (K:=K) rfl) (by rfl) T.len zfo (zki (pv 0) zpb)) (zfs _)) (zml (zuh (zafx (K:=K) rfl qe qg qf zcn (pv 4) (zki (zmc zcz (zarq (zdo (K:=K) rfl) (pv 0) (pv 5) (fun _ _=>rfl)) (zmc zamo ziy ziy)) zpb)))) (zml (zuh (zafx (K:=K) rfl qe qg qf zcn (pv 4) (zki (zmc zfd (zmc zcz (zmc zamo (zmc (zbu (K:=K) rfl) (zmc (zbu (K:=K) rfl) (zmc zjd (pv 2) (zmc (zbu (K:=K) rfl) (pv 5) ziy)) (zmc zjd (zmc zjd ziy (pv 5)) (pv 5))) ziy) ziy) ziy) ziy) zpb)))))))
 (zml (zamn (pv 4)))))))
  refine ⟨_,rfl,_,rfl,a,_,rfl,hS,fun p hp=>⟨p,rfl,⟨_,SqL.of zax⟩,L2.for_list (xs:=cutV (ns.map V.int) none (some 63)) (fun i σ H1=>∃ (sd:Int) (v3:Option V),σ=[some (.ref a),some (.int m),some (.int sd),v3,none,none]∧H1=upd H p (.lst (cutV (ns.map V.int) none (some 63)))∧0≤sd∧sd<2147483647)
   ⟨7,none,rfl,rfl,by decide,by decide⟩ (fun i σ H1 _ ⟨_,_,_,e,_⟩=>e▸SqL.of zax) ?_ ?_⟩⟩
  ·rintro i x σ H1 hi ⟨sd,v3,rfl,rfl,b0,b1⟩
   obtain ⟨z,rfl⟩:∃ z,x=V.int z:=by
    have hm:=qBf hi
    unfold cutV at hm
    obtain ⟨z,_,e⟩:=qz.mp (qAb (qAa hm))
    exact ⟨z,e.symm⟩
   refine ⟨_,rfl,.inl ⟨by omega,by omega⟩,_,rfl,_,_,rfl,rfl,(by show (0:Int)<2147483629;decide),_,_,rfl,rfl,(by show (0:Int)<2147483647;decide),?_⟩
   exact ⟨_,_,rfl,rfl,qAO _ (by decide),qAV _ (by decide)⟩
  ·rintro σ H1 ⟨sd,v3,rfl,rfl,b0,b1⟩
   refine ⟨qAg _,fun q hq=>?_⟩
   have hqH:H q=none:=(Same.new hp).free hq
   have sH:∀ o,Same H (upd (upd H p (.lst (cutV (ns.map V.int) none (some 63)))) q o):=fun o=>(Same.new hp).upd hqH
   refine ⟨_,rfl,m,rfl,by omega,by omega,L2.for_range (n:=m.toNat) (fun i σ H2=>∃ (cs:List Int) (v5:Option V),σ=[some (.ref a),some (.int m),some (.int sd),v3,some (.ref q),v5]∧H2=upd (upd H p (.lst (cutV (ns.map V.int) none (some 63)))) q (.lst (cs.map .int))∧cs.length=i∧∀ c∈cs,0≤c∧c<1000000000000)
    ⟨[],none,rfl,rfl,rfl,fun _ h=>nomatch h⟩ ?_ ?_⟩
   ·rintro i σ H2 hi ⟨cs,v5,rfl,rfl,hc,hp0⟩
    have hi64:(i:Int)≤64:=by omega
    refine ⟨_,rfl,_,rfl,_,_,rfl,.inl ⟨_,(sH _).seq hS,rfl⟩,_,_,rfl,rfl,_,rfl,?_⟩
    have lz:(cs.map V.int).length<qU:=by rw [qF,hc];exact qA6 (show i≤64 by omega) (by decide)
    have fin:∀ v:Int,0≤v→v<1000000000000→∃ (cs':List Int) (v5:Option V),[some (.ref a),some (.int m),some (.int sd),v3,some (.ref q),some (.int (0+(i:Int)))]=[some (.ref a),some (.int m),some (.int sd),v3,some (.ref q),v5] ∧
      upd (upd (upd H p (.lst (cutV (ns.map V.int) none (some 63)))) q (.lst (cs.map .int))) q (.lst (cs.map V.int++[.int v]))=upd (upd H p (.lst (cutV (ns.map V.int) none (some 63)))) q (.lst (cs'.map .int))∧cs'.length=i+1∧∀ c∈cs',0≤c∧c<1000000000000:=fun v hv hv2=>by
     refine ⟨cs++[v],_,rfl,?_,by simp [hc],fun c h=>?_⟩
     ·rw [zans,qv];rfl
     ·rcases qp.mp h with h|h
      ·exact hp0 c h
      ·rw [qAT.mp h];exact ⟨hv,hv2⟩
    refine ite2 (fun h=>?_) (fun h=>?_)
    ·have h:(0:Int)+i<((ns.map V.int).length:Nat):=of_decide_eq_true h
     rw [qF] at h
     have hin:i<ns.length:=by omega
     have ga:atI (ns.map V.int) (0+(i:Int))=some (.int ns[i]):=by
      rw [Int.zero_add]
      exact zmn (by rw [qT,qH hin];rfl)
     refine ⟨_,rfl,.inl ⟨rfl,_,SqL.of zax⟩,_,rfl,_,rfl,_,_,.inl ((sH _).seq hS),ga,_,_,rfl,rfl,⟨by decide,by decide,by decide⟩,_,_,rfl,rfl,(by show (0:Int)<10 ^ 12;decide),q,_,_,rfl,rfl,zax,lz,?_⟩
     exact fin _ (qAO _ (by decide)) (qAV _ (by decide))
    ·obtain ⟨d1,d2⟩:=zava (s:=sd) (k:=0+(i:Int)) b0 b1 (by omega) (by omega)
     refine ⟨_,rfl,.inl ⟨rfl,_,SqL.of zax⟩,_,rfl,_,rfl,.inl ⟨by omega,by omega⟩,_,rfl,.inl ⟨by decide,by decide⟩,_,rfl,.inr ⟨by omega,by omega⟩,?_⟩
     refine ⟨_,_,rfl,rfl,⟨by decide,by decide,?_⟩,_,_,rfl,rfl,(by show (0:Int)<2147483647;decide),_,_,rfl,rfl,⟨by decide,by decide⟩,q,_,_,rfl,rfl,zax,lz,?_⟩
     ·show (sd * (0+(i:Int)+2)+7919 * (0+(i:Int)) * (0+(i:Int))+11).natAbs<2 ^ 64
      omega
     ·refine fin _ (qBn (qAO _ (by decide)) (by decide)) ?_
      have h9:∀ z:Int,z % 2147483647 / 7<1000000000000:=fun z=>by have:=qAV z (show (0:Int)<2147483647 by decide);omega
      exact h9 _
   ·rintro σ H2 ⟨cs,v5,rfl,rfl,hc,hp0⟩
    exact ⟨_,rfl,k q _ cs hqH (sH _) zax hc hp0⟩
end
section
variable {P:Program} {w:World} {K:qB} {mg:Str→Option Value} {base:Heap}
def zaml (K:qB):Sp:=fun vs H Q _=>∃ (a:Addr) (ns:List Int),vs=[.ref a]∧SqL K H a (ns.map V.int)∧∀ H',Q (.bl true) H'
theorem zatw {f:Addr} {fd:q9} (F:Fun K "law" "law" zvs f fd) (T:Txt mg) (D_law_asked:zrz P w K mg base) (D_law_call:zua P w K mg base) (D_law_draws:Dn P w K mg base "_law_draws" ["_law_script", "_law_many"] 1 (zabk K)) (D_law_names:zrx P w K mg base) (D_law_parts:zis P w K mg base) (D_law_refused:zoa P w K mg base) (D_law_rules:zry P w K mg base) (D_law_up:zacx P w K mg base) (D_law_web:zys P w K mg base):FnOk P w K mg base CX0 9 f fd ["_law_script"] (zaml K):=by
 refine F.ok zatk (fun vs H Q E h=>?_) (fun cdv A outer s H vs Q E hr h=>?_)
 ·obtain ⟨a,ns,rfl,_⟩:=h
  rfl
 ·obtain ⟨a,ns,rfl,hS,k⟩:=h
  have hu:=zgp hr
  apply Exists.intro
  apply And.intro
  ·refine' Bx.out (zai (zay (i:=1) zjm rfl (Or.inl rfl) (zcd D_law_draws (hr.mono (by decide)) (by rfl) (zaa (bv 0) (zaa zaj zah (by rfl)) (by rfl)) (by decide) (zag (by rfl)) (by rfl)) (by rfl) (.inl rfl))
 (zai (zay (i:=2) zjm rfl (Or.inr rfl) (zaw (zbu (K:=K) rfl) zaj (zaw zcz (zbw (zdo (K:=K) rfl) (bv 1) zaj (fun _ _=>rfl)) zaj)) (by rfl) (.inl rfl))
 (zai (zay (i:=3) zjm rfl (Or.inl rfl) (zcd D_law_names (hr.mono (by decide)) (by rfl) (zaa (zaw (zbu (K:=K) rfl) zaj (zaw zcz (zaw zfd (zbw (zdo (K:=K) rfl) (bv 1) zaj (fun _ _=>rfl)) zaj) (zbw (zdo (K:=K) rfl) (zch (zaa zaj (zaa zaj (zaa zaj zah (by rfl)) (by rfl)) (by rfl))) (zaw zqf (bv 2) zaj) (fun _ _=>rfl)))) (zaa (zbw (zdo (K:=K) rfl) (bv 1) zaj (fun _ _=>rfl)) zah (by rfl)) (by rfl)) (by decide) (zag (by rfl)) (by rfl)) (by rfl) (.inl rfl))
 (zai (zay (i:=4) zjm rfl (Or.inr rfl) (zbx (zkl (K:=K) rfl) (bv 3) zdn (zca (zani zamp zaj))) (by rfl) (.inl rfl))
 (zai (zay (i:=5) zjm rfl (Or.inl rfl) (zcd D_law_web (hr.mono (by decide)) (by rfl) (zaa (zbx (zkl (K:=K) rfl) (bv 1) (zca zaj) (zca zaj)) (zaa (bv 4) zah (by rfl)) (by rfl)) (by decide) (zag (by rfl)) (by rfl)) (by rfl) (.inl rfl))
 (zai (zay (i:=6) zjm rfl (Or.inl rfl) (zcd D_law_up (hr.mono (by decide)) (by rfl) (zaa (bv 5) zah (by rfl)) (by decide) (zag (by rfl)) (by rfl)) (by rfl) (.inl rfl))
 (zai (zqy (i:=7) (zce (N':=["_law_cell", "_law_places", "_law_stand"]) (own:=["_law_cell"]) (fr:=[2,4]) (by kernel_rfl)) rfl (zbh (K:=K) rfl (zbx (zkl (K:=K) rfl) (bv 1) (zca zaj) (zca zaj))) ?hb1 (by rfl) zjm rfl rfl (by intro _;rfl))
 (zai (zay (i:=8) zjm rfl (Or.inl rfl) (zcd D_law_names (hr.mono (by decide)) (by rfl) (zaa zaj (zaa (zbw (zdo (K:=K) rfl) (bv 1) zaj (fun _ _=>rfl)) zah (by rfl)) (by rfl)) (by decide) (zag (by rfl)) (by rfl)) (by rfl) (.inl rfl))
 (zai (zay (i:=9) zjm rfl (Or.inl rfl) (zcd D_law_rules (hr.mono (by decide)) (by rfl) (zaa (zbx (zkl (K:=K) rfl) (bv 1) (zca zaj) (zca zaj)) (zaa (bv 4) (zaa (bv 6) (zaa (zbw (zdo (K:=K) rfl) (bv 7) zaj (fun _ _=>rfl)) (zaa (zbx (zkl (K:=K) rfl) (bv 8) zdn (zca (zaw zcz (zbw (zdo (K:=K) rfl) (bv 1) zaj (fun _ _=>rfl)) zaj))) zah (by rfl)) (by rfl)) (by rfl)) (by rfl)) (by rfl)) (by decide) (zag (by rfl)) (by rfl)) (by rfl) (.inl rfl))
 (zai (zay (i:=10) zjm rfl (Or.inl rfl) (zch (zaa (zcw (zce (N':=["_law_name", "_law_elders"]) (own:=["_law_name", "_law_elders"]) (fr:=[]) (by kernel_rfl)) rfl (zbh (K:=K) rfl (bv 5)) ?hb2 (by intro _;rfl)) (zaa (bv 2) (zaa (zdd (zlr (K:=K) rfl) (by rfl) T.list znv (zaa (bv 9) zah (by rfl)) (by decide) (by decide) (zag (by rfl)) (by rfl)) zah (by rfl)) (by rfl)) (by rfl))) (by rfl) (.inl rfl))
 (zai (zdv qr rfl (zbh (K:=K) rfl (bv 7)) (zao (i:=11) zjm rfl (Or.inl rfl) (.inl rfl))
  (zal (zdr (zanh (zon (zcr (K:=K) rfl (zcd D_law_asked (hr.mono (by decide)) (by rfl) (zaa (bv 10) (zaa (bv 6) (zaa (bv 11) zah (by rfl)) (by rfl)) (by rfl)) (by decide) (zag (by rfl)) (by rfl)) (fun _=>rfl))) (zagz (zon (zcr (K:=K) rfl (zcd D_law_refused (hr.mono (by decide)) (by rfl) (zaa (bv 10) (zaa (bv 11) (zaa (zbw (zdo (K:=K) rfl) (bv 8) zaj (fun _ _=>rfl)) (zaa (zbx (zkl (K:=K) rfl) (bv 3) (zca (zani zamp zaj)) zdn) (zaa (zbx (zkl (K:=K) rfl) (bv 1) (zca zaj) (zca zaj)) zah (by rfl)) (by rfl)) (by rfl)) (by rfl)) (by rfl)) (by decide) (zag (by rfl)) (by rfl)) (fun _=>rfl))))).pt (zal (zbo zdh)) zby)) (by intro _;rfl))
 (zai (zdr (zbz (zmf (K:=K) rfl hr.units) (bv 10) (zch (zaa (bv 5) (zaa (bv 2) (zaa (bv 9) zah (by rfl)) (by rfl)) (by rfl))) (zfs _)) (zal (zbo zdh)) zby)
 (zai (zay (i:=12) zjm rfl (Or.inl rfl) (zdd (zfg (K:=K) rfl) (by rfl) T.tuple zes (zaa (zcw (zce (N':=["_law_arm"]) (own:=["_law_arm"]) (fr:=[]) (by kernel_rfl)) rfl (zbh (K:=K) rfl (zbw (zdo (K:=K) rfl) (bv 7) zaj (fun _ _=>rfl))) ?hb3 (by intro _;rfl)) zah (by rfl)) (by decide) (by decide) (zag (by rfl)) (by rfl)) (by rfl) (.inl rfl))
 (zai (zdr (zbz (zxk (K:=K) rfl hr.units) (bv 12) (zcw (zce (N':=["_law_name", "_law_kinds"]) (own:=["_law_name", "_law_kinds"]) (fr:=[]) (by kernel_rfl)) rfl (zbh (K:=K) rfl (bv 9)) ?hb4 (by intro _;rfl)) (by rfl)) (zal (zdm (zfh (K:=K) rfl qe qg qf zcn (zbw (zdo (K:=K) rfl) (bv 10) zaj (fun _ _=>rfl)) (zaa (zch (zaa (zbw (zdo (K:=K) rfl) (bv 8) zaj (fun _ _=>rfl)) (zaa (bv 12) zah (by rfl)) (by rfl))) zah (by rfl)) (by rfl) (by rfl) (by rfl) (zag (by rfl)) (by rfl)) (by rfl))) zby)
 (zal (zbo (zaaj (zcd D_law_asked (hr.mono (by decide)) (by rfl) (zaa (bv 10) (zaa (bv 6) (zaa (zbw (zdo (K:=K) rfl) (bv 7) zaj (fun _ _=>rfl)) zah (by rfl)) (by rfl)) (by rfl)) (by decide) (zag (by rfl)) (by rfl)) (zaai (zcd D_law_asked (hr.mono (by decide)) (by rfl) (zaa (bv 10) (zaa (bv 6) (zaa (zbw (zdo (K:=K) rfl) (bv 7) zaj (fun _ _=>rfl)) zah (by rfl)) (by rfl)) (by rfl)) (by decide) (zag (by rfl)) (by rfl))))))))))))))))))))
   case hb1=>(intro cl C s H fp;refine' ⟨Bx.out (zao (i:=0) zaim rfl (Or.inl rfl) (by first|exact .inl rfl|exact .inr rfl|assumption)),Bx.out zfv,Bx.out (zcd D_law_call (hr.mono (by decide)) (by rfl) (zaa (bv 0) (zaa (bv 2) (zaa (bv 1) zah (by rfl)) (by rfl)) (by rfl)) (by decide) (zag (by rfl)) (by rfl))⟩)
   case hb2=>(intro cl C s H fp;refine' ⟨Bx.out (zct (K:=K) (n:=2) rfl rfl (zau (zao (i:=0) zyp rfl (Or.inl rfl) (by first|exact .inl rfl|exact .inr rfl|assumption)) (zau (zao (i:=1) zyp rfl (Or.inl rfl) (by first|exact .inl rfl|exact .inr rfl|assumption)) zcs (by rfl)) (by rfl)) (by rfl) (by rfl)),Bx.out zfv,Bx.out (zch (zaa (bv 0) (zaa (zdd (zlr (K:=K) rfl) (by rfl) T.list znv (zaa (bv 1) zah (by rfl)) (by decide) (by decide) (zag (by rfl)) (by rfl)) zah (by rfl)) (by rfl)))⟩)
   case hb3=>(intro cl C s H fp;refine' ⟨Bx.out (zao (i:=0) zain rfl (Or.inl rfl) (by first|exact .inl rfl|exact .inr rfl|assumption)),Bx.out zfv,Bx.out (zbw (zdo (K:=K) rfl) (zcd D_law_parts (hr.mono (by decide)) (by rfl) (zaa (bv 0) zah (by rfl)) (by decide) (zag (by rfl)) (by rfl)) zaj (fun _ _=>rfl))⟩)
   case hb4=>(intro cl C s H fp;refine' ⟨Bx.out (zct (K:=K) (n:=2) rfl rfl (zau (zao (i:=0) zyq rfl (Or.inl rfl) (by first|exact .inl rfl|exact .inr rfl|assumption)) (zau (zao (i:=1) zyq rfl (Or.inl rfl) (by first|exact .inl rfl|exact .inr rfl|assumption)) zcs (by rfl)) (by rfl)) (by rfl) (by rfl)),Bx.out zfv,Bx.out (bv 1)⟩)
  refine ⟨_,rfl,a,ns,32,rfl,hS,by decide,by decide,fun pc H1 cs hpc s1 e1 lc p1=>?_⟩
  exact zapp (F:=zzl) ((zba (zbk (zaz zfa (se_c fun _=>zaf) (zaz zdy (zcf (se_c fun _=>zaf)) (se_c fun _=>zaf)))) (zba (zbk (zbj (zac (zaz zfa (se_c fun _=>zaf) (zaz zdy (zaz zft (zcf (se_c fun _=>zaf)) (se_c fun _=>zaf)) (zaz zakk (zek (zac (se_c fun _=>zaf) (zac (se_c fun _=>zaf) (zac (se_c fun _=>zaf) zan)))) (zaz zqp (zad 2) (se_c fun _=>zaf))))) (zac (zcf (se_c fun _=>zaf)) zan)))) (zba (zbk (zmd (zad 3) zew (zco (zanb (se_c fun _=>zaf))))) (zba (zbk (zbj (zac (zmd (zad 1) (zco (se_c fun _=>zaf)) (zco (se_c fun _=>zaf))) (zac (zad 4) zan)))) (zba (zbk (zbj (zac (zad 5) zan))) (zba (zbk (zeo (zcq (zmd (zad 1) (zco (se_c fun _=>zaf)) (zco (se_c fun _=>zaf)))) zdf (zjf (by decide)) zhp (zbj (zac (zad 0) (zac (zad 2) (zac (zad 1) zan)))))) (zba (zbk (zbj (zac (se_c fun _=>zaf) (zac (zcf (se_c fun _=>zaf)) zan)))) (zba (zbk (zbj (zac (zmd (zad 1) (zco (se_c fun _=>zaf)) (zco (se_c fun _=>zaf))) (zac (zad 4) (zac (zad 6) (zac (zcf (se_c fun _=>zaf)) (zac (zmd (zad 8) zew (zco (zaz zdy (zcf (se_c fun _=>zaf)) (se_c fun _=>zaf)))) zan))))))) (zaht (zeo (zcq (zad 5)) (zgd (zbc (zbc zed))) (zng (zdl (by decide) (zdl (by decide) zjp))) zhp (zek (zac (zad 0) (zac (zfx zut (zac (zad 1) zan)) zan)))) (zad 2) (zfx zut (zac (zad 9) zan)) (zapi (zcq (zad 7)) (zall (by decide)) (zanj (zash (zth (zja (zbj (zac (zad 10) (zac (zad 6) (zac (zad 11) zan)))))) (zth (zja (zbj (zac (zad 10) (zac (zad 11) (zac (zcf (se_c fun _=>zaf)) (zac (zmd (zad 3) (zco (zanb (se_c fun _=>zaf))) zew) (zac (zmd (zad 1) (zco (se_c fun _=>zaf)) (zco (se_c fun _=>zaf))) zan))))))))) (zahj (se_c fun _=>zap)) zahh)) (zanj (st_t (zaz zsn (zad 10) (zek (zac (zad 5) (zac (zad 2) (zac (zad 9) zan)))))) (zahj (se_c fun _=>zap)) zahh) (zaph (zfx zjb (zac (zeo (zcq (zcf (se_c fun _=>zaf))) zdf (zjf (by decide)) zhp (zaz zakk (zbj (zac (zad 0) zan)) (se_c fun _=>zaf))) zan)) (by decide)) (st_t (zaz zang (zad 12) (zeo (zcq (zad 9)) (zgd (zbc (zbc zed))) (zng (zdl (by decide) (zdl (by decide) zjp))) zhp (zad 1)))) (zek (zac (zcf (se_c fun _=>zaf)) (zac (zad 12) zan))) (zde (zagc (zbj (zac (zad 10) (zac (zad 6) (zac (zcf (se_c fun _=>zaf)) zan)))) (zbj (zac (zad 10) (zac (zad 6) (zac (zcf (se_c fun _=>zaf)) zan)))))))))))))))) (zapq (n:=11) e1) (zamk lc (fun c h=>(p1 c h).1)) k
end
theorem us_s {us:List Value} {n:Nat} (h:us.length=n+1):∃ a t,us=a::t∧t.length=n:=by
 cases us with
 | nil=>cases h
 | cons a t=>exact ⟨a,t,rfl,Nat.succ.inj h⟩
theorem us_1 {us:List Value} (h:us.length=1):∃ a0,us=[a0]:=by
 obtain ⟨a,t,rfl,h2⟩:=us_s h
 cases qBU.mp h2
 exact ⟨a,rfl⟩
theorem us_2 {us:List Value} (h:us.length=2):∃ a0 a1,us=[a0,a1]:=by
 obtain ⟨a0,t,rfl,h2⟩:=us_s h
 obtain ⟨a1,rfl⟩:=us_1 h2
 exact ⟨a0,a1,rfl⟩
theorem us_3 {us:List Value} (h:us.length=3):∃ a0 a1 a2,us=[a0,a1,a2]:=by
 obtain ⟨a0,t,rfl,h2⟩:=us_s h
 obtain ⟨a1,a2,rfl⟩:=us_2 h2
 exact ⟨a0,a1,a2,rfl⟩
theorem us_4 {us:List Value} (h:us.length=4):∃ a0 a1 a2 a3,us=[a0,a1,a2,a3]:=by
 obtain ⟨a0,t,rfl,h2⟩:=us_s h
 obtain ⟨a1,a2,a3,rfl⟩:=us_3 h2
 exact ⟨a0,a1,a2,a3,rfl⟩
theorem us_5 {us:List Value} (h:us.length=5):∃ a0 a1 a2 a3 a4,us=[a0,a1,a2,a3,a4]:=by
 obtain ⟨a0,t,rfl,h2⟩:=us_s h
 obtain ⟨a1,a2,a3,a4,rfl⟩:=us_4 h2
 exact ⟨a0,a1,a2,a3,a4,rfl⟩
theorem all_mk {l:PySem.W.OpenLaw} {w:World} {K:qB} {h:Heap} {mg:Str→Option Value} {fa f1 f2 f3 f4 f5 f6 f7 f8 f9 f10 f11 f12 f13 f14 f15 f16 f17 f18 f19 f20 f21 f22 f23 f24 f25 f26 f27 f28 f29:Addr} (X:K.In h) (G:h.Ns qM mg) (hfa:mg "law" = some (.ref fa))
  {od1 an1 od2 an2 od3 an3 od4 an4 od5 an5 od6 an6 od7 an7 od8 an8 od9 an9 od10 an10 od11 an11 od12 an12 od13 an13 od14 an14 od15 an15 od16 an16 od17 an17 od18 an18 od19 an19 od20 an20 od21 an21 od22 an22 od23 an23 od24 an24 od25 an25 od26 an26 od27 an27 od28 an28 od29 an29:Option Addr} {sl1 sl2 sl3 sl4 sl5 sl6 sl7 sl8 sl9 sl10 sl11 sl12 sl13 sl14 sl15 sl16 sl17 sl18 sl19 sl20 sl21 sl22 sl23 sl24 sl25 sl26 sl27 sl28 sl29:Array (Option Value)} {oc1 kV1 dc1 pm1 cd1 ct1 oc2 kV2 dc2 pm2 cd2 ct2 oc3 kV3 dc3 pm3 cd3 ct3 oc4 kV4 dc4 pm4 cd4 ct4 oc5 kV5 dc5 pm5 cd5 ct5 oc6 kV6 dc6 pm6 cd6 ct6 oc7 kV7 dc7 pm7 cd7 ct7 oc8 kV8 dc8 pm8 cd8 ct8 oc9 kV9 dc9 pm9 cd9 ct9 oc10 kV10 dc10 pm10 cd10 ct10 oc11 kV11 dc11 pm11 cd11 ct11 oc12 kV12 dc12 pm12 cd12 ct12 oc13 kV13 dc13 pm13 cd13 ct13 oc14 kV14 dc14 pm14 cd14 ct14 oc15 kV15 dc15 pm15 cd15 ct15 oc16 kV16 dc16 pm16 cd16 ct16 oc17 kV17 dc17 pm17 cd17 ct17 oc18 kV18 dc18 pm18 cd18 ct18 oc19 kV19 dc19 pm19 cd19 ct19 oc20 kV20 dc20 pm20 cd20 ct20 oc21 kV21 dc21 pm21 cd21 ct21 oc22 kV22 dc22 pm22 cd22 ct22 oc23 kV23 dc23 pm23 cd23 ct23 oc24 kV24 dc24 pm24 cd24 ct24 oc25 kV25 dc25 pm25 cd25 ct25 oc26 kV26 dc26 pm26 cd26 ct26 oc27 kV27 dc27 pm27 cd27 ct27 oc28 kV28 dc28 pm28 cd28 ct28 oc29 kV29 dc29 pm29 cd29 ct29:Value}
  (a1:qQ K qM "names_of" = some (some (.ref f1))) (l1:K.lookup f1=some ⟨oc1,od1,.func (qc "names_of" "names_of" (zbr zhz) (zbp zhz) (zam zhz) .none kV1 dc1 pm1 an1 cd1 ct1),sl1⟩) (c1:qa K cd1 "names_of" = true) (k1:qN K (.ref f1)=true)
  (a2:qQ K qM "names_in" = some (some (.ref f2))) (l2:K.lookup f2=some ⟨oc2,od2,.func (qc "names_in" "names_in" (zbr zia) (zbp zia) (zam zia) .none kV2 dc2 pm2 an2 cd2 ct2),sl2⟩) (c2:qa K cd2 "names_in" = true) (k2:qN K (.ref f2)=true)
  (a3:qQ K qM "check_kinds" = some (some (.ref f3))) (l3:K.lookup f3=some ⟨oc3,od3,.func (qc "check_kinds" "check_kinds" (zbr zfp) (zbp zfp) (zam zfp) .none kV3 dc3 pm3 an3 cd3 ct3),sl3⟩) (c3:qa K cd3 "check_kinds" = true) (k3:qN K (.ref f3)=true)
  (a4:qQ K qM "roofs_of" = some (some (.ref f4))) (l4:K.lookup f4=some ⟨oc4,od4,.func (qc "roofs_of" "roofs_of" (zbr zib) (zbp zib) (zam zib) .none kV4 dc4 pm4 an4 cd4 ct4),sl4⟩) (c4:qa K cd4 "roofs_of" = true) (k4:qN K (.ref f4)=true)
  (a5:qQ K qM "roof_of" = some (some (.ref f5))) (l5:K.lookup f5=some ⟨oc5,od5,.func (qc "roof_of" "roof_of" (zbr zjj) (zbp zjj) (zam zjj) .none kV5 dc5 pm5 an5 cd5 ct5),sl5⟩) (c5:qa K cd5 "roof_of" = true) (k5:qN K (.ref f5)=true)
  (a6:qQ K qM "names_in_call" = some (some (.ref f6))) (l6:K.lookup f6=some ⟨oc6,od6,.func (qc "names_in_call" "names_in_call" (zbr zeg) (zbp zeg) (zam zeg) .none kV6 dc6 pm6 an6 cd6 ct6),sl6⟩) (c6:qa K cd6 "names_in_call" = true) (k6:qN K (.ref f6)=true)
  (a7:qQ K qM "check_call" = some (some (.ref f7))) (l7:K.lookup f7=some ⟨oc7,od7,.func (qc "check_call" "check_call" (zbr zgf) (zbp zgf) (zam zgf) .none kV7 dc7 pm7 an7 cd7 ct7),sl7⟩) (c7:qa K cd7 "check_call" = true) (k7:qN K (.ref f7)=true)
  (a8:qQ K qM "roofs_in_call" = some (some (.ref f8))) (l8:K.lookup f8=some ⟨oc8,od8,.func (qc "roofs_in_call" "roofs_in_call" (zbr zeh) (zbp zeh) (zam zeh) .none kV8 dc8 pm8 an8 cd8 ct8),sl8⟩) (c8:qa K cd8 "roofs_in_call" = true) (k8:qN K (.ref f8)=true)
  (a9:qQ K qM "fits_under" = some (some (.ref f9))) (l9:K.lookup f9=some ⟨oc9,od9,.func (qc "fits_under" "fits_under" (zbr zgg) (zbp zgg) (zam zgg) .none kV9 dc9 pm9 an9 cd9 ct9),sl9⟩) (c9:qa K cd9 "fits_under" = true) (k9:qN K (.ref f9)=true)
  (a10:qQ K qM "is_nearer" = some (some (.ref f10))) (l10:K.lookup f10=some ⟨oc10,od10,.func (qc "is_nearer" "is_nearer" (zbr zgw) (zbp zgw) (zam zgw) .none kV10 dc10 pm10 an10 cd10 ct10),sl10⟩) (c10:qa K cd10 "is_nearer" = true) (k10:qN K (.ref f10)=true)
  (a11:qQ K qM "rules_that_fit" = some (some (.ref f11))) (l11:K.lookup f11=some ⟨oc11,od11,.func (qc "rules_that_fit" "rules_that_fit" (zbr zds) (zbp zds) (zam zds) .none kV11 dc11 pm11 an11 cd11 ct11),sl11⟩) (c11:qa K cd11 "rules_that_fit" = true) (k11:qN K (.ref f11)=true)
  (a12:qQ K qM "nearest_of" = some (some (.ref f12))) (l12:K.lookup f12=some ⟨oc12,od12,.func (qc "nearest_of" "nearest_of" (zbr zgh) (zbp zgh) (zam zgh) .none kV12 dc12 pm12 an12 cd12 ct12),sl12⟩) (c12:qa K cd12 "nearest_of" = true) (k12:qN K (.ref f12)=true)
  (a13:qQ K qM "rule_names" = some (some (.ref f13))) (l13:K.lookup f13=some ⟨oc13,od13,.func (qc "rule_names" "rule_names" (zbr zgi) (zbp zgi) (zam zgi) .none kV13 dc13 pm13 an13 cd13 ct13),sl13⟩) (c13:qa K cd13 "rule_names" = true) (k13:qN K (.ref f13)=true)
  (a14:qQ K qM "answer_by" = some (some (.ref f14))) (l14:K.lookup f14=some ⟨oc14,od14,.func (qc "answer_by" "answer_by" (zbr zgx) (zbp zgx) (zam zgx) .none kV14 dc14 pm14 an14 cd14 ct14),sl14⟩) (c14:qa K cd14 "answer_by" = true) (k14:qN K (.ref f14)=true)
  (a15:qQ K qM "answer_among" = some (some (.ref f15))) (l15:K.lookup f15=some ⟨oc15,od15,.func (qc "answer_among" "answer_among" (zbr zet) (zbp zet) (zam zet) .none kV15 dc15 pm15 an15 cd15 ct15),sl15⟩) (c15:qa K cd15 "answer_among" = true) (k15:qN K (.ref f15)=true)
  (a16:qQ K qM "onward" = some (some (.ref f16))) (l16:K.lookup f16=some ⟨oc16,od16,.func (qc "onward" "onward" (zbr zlz) (zbp zlz) (zam zlz) .none kV16 dc16 pm16 an16 cd16 ct16),sl16⟩) (c16:qa K cd16 "onward" = true) (k16:qN K (.ref f16)=true)
  (a17:qQ K qM "_law_draws" = some (some (.ref f17))) (l17:K.lookup f17=some ⟨oc17,od17,.func (qc "_law_draws" "_law_draws" (zbr zgy) (zbp zgy) (zam zgy) .none kV17 dc17 pm17 an17 cd17 ct17),sl17⟩) (c17:qa K cd17 "_law_draws" = true) (k17:qN K (.ref f17)=true)
  (a18:qQ K qM "_law_names" = some (some (.ref f18))) (l18:K.lookup f18=some ⟨oc18,od18,.func (qc "_law_names" "_law_names" (zbr zgz) (zbp zgz) (zam zgz) .none kV18 dc18 pm18 an18 cd18 ct18),sl18⟩) (c18:qa K cd18 "_law_names" = true) (k18:qN K (.ref f18)=true)
  (a19:qQ K qM "_law_web" = some (some (.ref f19))) (l19:K.lookup f19=some ⟨oc19,od19,.func (qc "_law_web" "_law_web" (zbr zjk) (zbp zjk) (zam zjk) .none kV19 dc19 pm19 an19 cd19 ct19),sl19⟩) (c19:qa K cd19 "_law_web" = true) (k19:qN K (.ref f19)=true)
  (a20:qQ K qM "_law_up" = some (some (.ref f20))) (l20:K.lookup f20=some ⟨oc20,od20,.func (qc "_law_up" "_law_up" (zbr zma) (zbp zma) (zam zma) .none kV20 dc20 pm20 an20 cd20 ct20),sl20⟩) (c20:qa K cd20 "_law_up" = true) (k20:qN K (.ref f20)=true)
  (a21:qQ K qM "_law_parts" = some (some (.ref f21))) (l21:K.lookup f21=some ⟨oc21,od21,.func (qc "_law_parts" "_law_parts" (zbr zha) (zbp zha) (zam zha) .none kV21 dc21 pm21 an21 cd21 ct21),sl21⟩) (c21:qa K cd21 "_law_parts" = true) (k21:qN K (.ref f21)=true)
  (a22:qQ K qM "_law_call" = some (some (.ref f22))) (l22:K.lookup f22=some ⟨oc22,od22,.func (qc "_law_call" "_law_call" (zbr zic) (zbp zic) (zam zic) .none kV22 dc22 pm22 an22 cd22 ct22),sl22⟩) (c22:qa K cd22 "_law_call" = true) (k22:qN K (.ref f22)=true)
  (a23:qQ K qM "_law_rules" = some (some (.ref f23))) (l23:K.lookup f23=some ⟨oc23,od23,.func (qc "_law_rules" "_law_rules" (zbr zhb) (zbp zhb) (zam zhb) .none kV23 dc23 pm23 an23 cd23 ct23),sl23⟩) (c23:qa K cd23 "_law_rules" = true) (k23:qN K (.ref f23)=true)
  (a24:qQ K qM "_law_fits" = some (some (.ref f24))) (l24:K.lookup f24=some ⟨oc24,od24,.func (qc "_law_fits" "_law_fits" (zbr zid) (zbp zid) (zam zid) .none kV24 dc24 pm24 an24 cd24 ct24),sl24⟩) (c24:qa K cd24 "_law_fits" = true) (k24:qN K (.ref f24)=true)
  (a25:qQ K qM "_law_due" = some (some (.ref f25))) (l25:K.lookup f25=some ⟨oc25,od25,.func (qc "_law_due" "_law_due" (zbr zjl) (zbp zjl) (zam zjl) .none kV25 dc25 pm25 an25 cd25 ct25),sl25⟩) (c25:qa K cd25 "_law_due" = true) (k25:qN K (.ref f25)=true)
  (a26:qQ K qM "_law_told" = some (some (.ref f26))) (l26:K.lookup f26=some ⟨oc26,od26,.func (qc "_law_told" "_law_told" (zbr zie) (zbp zie) (zam zie) .none kV26 dc26 pm26 an26 cd26 ct26),sl26⟩) (c26:qa K cd26 "_law_told" = true) (k26:qN K (.ref f26)=true)
  (a27:qQ K qM "_law_asked" = some (some (.ref f27))) (l27:K.lookup f27=some ⟨oc27,od27,.func (qc "_law_asked" "_law_asked" (zbr zhd) (zbp zhd) (zam zhd) .none kV27 dc27 pm27 an27 cd27 ct27),sl27⟩) (c27:qa K cd27 "_law_asked" = true) (k27:qN K (.ref f27)=true)
  (a28:qQ K qM "_law_refused" = some (some (.ref f28))) (l28:K.lookup f28=some ⟨oc28,od28,.func (qc "_law_refused" "_law_refused" (zbr zfq) (zbp zfq) (zam zfq) .none kV28 dc28 pm28 an28 cd28 ct28),sl28⟩) (c28:qa K cd28 "_law_refused" = true) (k28:qN K (.ref f28)=true)
  (a29:qQ K qM "law" = some (some (.ref f29))) (l29:K.lookup f29=some ⟨oc29,od29,.func (qc "law" "law" (zbr zvs) (zbp zvs) (zam zvs) .none kV29 dc29 pm29 an29 cd29 ct29),sl29⟩) (c29:qa K cd29 "law" = true) (k29:qN K (.ref f29)=true)
  {y0 y1 y2 y3 y4 fI:Addr} {xoc xkV xdc xpm xcd xct:Value} {xod xan:Option Addr} {xsl:Array (Option Value)}
  {xdd0:Option Addr} {xsl0:Array (Option Value)} {xcdt0:ClassData}
  {xdd1:Option Addr} {xsl1:Array (Option Value)} {xcdt1:ClassData}
  {xdd2:Option Addr} {xsl2:Array (Option Value)} {xcdt2:ClassData}
  {xdd3:Option Addr} {xsl3:Array (Option Value)} {xcdt3:ClassData}
  (xa0:qQ K qM "NoCall" = some (some (.ref y0)))
  (xp0:PySem.W.isClsIn K y0=true)
  (xq0:PySem.W.typeIn K (.ref y0)=some (.type "type"))
  (xa1:qQ K qM "NoFit" = some (some (.ref y1)))
  (xp1:PySem.W.isClsIn K y1=true)
  (xq1:PySem.W.typeIn K (.ref y1)=some (.type "type"))
  (xa2:qQ K qM "NoKind" = some (some (.ref y2)))
  (xp2:PySem.W.isClsIn K y2=true)
  (xq2:PySem.W.typeIn K (.ref y2)=some (.type "type"))
  (xa3:qQ K qM "NoRule" = some (some (.ref y3)))
  (xp3:PySem.W.isClsIn K y3=true)
  (xq3:PySem.W.typeIn K (.ref y3)=some (.type "type"))
  (xa4:qQ K qM "CallError" = some (some (.ref y4)))
  (xp4:PySem.W.isClsIn K y4=true)
  (xq4:PySem.W.typeIn K (.ref y4)=some (.type "type"))
  (xz:qQ K qM "ValueError" = some none)
  (xi0:PySem.W.findIn K (.ref y0) "__init__" = some (some (.ref fI)))
  (xi1:PySem.W.findIn K (.ref y1) "__init__" = some (some (.ref fI)))
  (xi2:PySem.W.findIn K (.ref y2) "__init__" = some (some (.ref fI)))
  (xi3:PySem.W.findIn K (.ref y3) "__init__" = some (some (.ref fI)))
  (xl:K.lookup fI=some ⟨xoc,xod,.func (qc "__init__" "CallError.__init__" (zbr (zum (top 1) 0)) (zbp (zum (top 1) 0)) (zam (zum (top 1) 0)) .none xkV xdc xpm xan xcd xct),xsl⟩)
  (xc:qa K xcd "CallError.__init__" = true)
  (xk:qN K (.ref fI)=true)
  (xf:PySem.W.isFn K (.ref fI)=true)
  (xlc0:K.lookup y0=some ⟨.type "type",xdd0,.cls xcdt0,xsl0⟩)
  (xb0:xcB y0 xcdt0 xsl0=true)
  (xkp0:qN K (.ref y0)=true)
  (xsa0:PySem.W.findIn K (.ref y0) "__setattr__" = some (some (.builtin "object.__setattr__")))
  (xat0:PySem.W.findIn K (.ref y0) "at" = some (none))
  (xga0:PySem.W.findIn K (.ref y0) "__getattribute__" = some (some (.builtin "BaseException.__getattribute__")))
  (xgh0:PySem.W.findIn K (.ref y0) "__getattr__" = some (none))
  (xcl0:PySem.W.findIn K (.ref y0) "__class__" = some (some (.builtin "object.__class__")))
  (xs0_b:PySem.W.subIn K (.ref y0) (.type "BaseException")=some true)
  (xs0_v:PySem.W.subIn K (.ref y0) (.type "ValueError")=some true)
  (xs0_s:PySem.W.subIn K (.ref y0) (.ref y0)=some true)
  (xs0_B:PySem.W.subIn K (.ref y0) (.ref y4)=some true)
  (xs0_1:PySem.W.subIn K (.ref y0) (.ref y1)=some false)
  (xs0_2:PySem.W.subIn K (.ref y0) (.ref y2)=some false)
  (xs0_3:PySem.W.subIn K (.ref y0) (.ref y3)=some false)
  (xlc1:K.lookup y1=some ⟨.type "type",xdd1,.cls xcdt1,xsl1⟩)
  (xb1:xcB y1 xcdt1 xsl1=true)
  (xkp1:qN K (.ref y1)=true)
  (xsa1:PySem.W.findIn K (.ref y1) "__setattr__" = some (some (.builtin "object.__setattr__")))
  (xat1:PySem.W.findIn K (.ref y1) "at" = some (none))
  (xga1:PySem.W.findIn K (.ref y1) "__getattribute__" = some (some (.builtin "BaseException.__getattribute__")))
  (xgh1:PySem.W.findIn K (.ref y1) "__getattr__" = some (none))
  (xcl1:PySem.W.findIn K (.ref y1) "__class__" = some (some (.builtin "object.__class__")))
  (xs1_b:PySem.W.subIn K (.ref y1) (.type "BaseException")=some true)
  (xs1_v:PySem.W.subIn K (.ref y1) (.type "ValueError")=some true)
  (xs1_s:PySem.W.subIn K (.ref y1) (.ref y1)=some true)
  (xs1_B:PySem.W.subIn K (.ref y1) (.ref y4)=some true)
  (xs1_0:PySem.W.subIn K (.ref y1) (.ref y0)=some false)
  (xs1_2:PySem.W.subIn K (.ref y1) (.ref y2)=some false)
  (xs1_3:PySem.W.subIn K (.ref y1) (.ref y3)=some false)
  (xlc2:K.lookup y2=some ⟨.type "type",xdd2,.cls xcdt2,xsl2⟩)
  (xb2:xcB y2 xcdt2 xsl2=true)
  (xkp2:qN K (.ref y2)=true)
  (xsa2:PySem.W.findIn K (.ref y2) "__setattr__" = some (some (.builtin "object.__setattr__")))
  (xat2:PySem.W.findIn K (.ref y2) "at" = some (none))
  (xga2:PySem.W.findIn K (.ref y2) "__getattribute__" = some (some (.builtin "BaseException.__getattribute__")))
  (xgh2:PySem.W.findIn K (.ref y2) "__getattr__" = some (none))
  (xcl2:PySem.W.findIn K (.ref y2) "__class__" = some (some (.builtin "object.__class__")))
  (xs2_b:PySem.W.subIn K (.ref y2) (.type "BaseException")=some true)
  (xs2_v:PySem.W.subIn K (.ref y2) (.type "ValueError")=some true)
  (xs2_s:PySem.W.subIn K (.ref y2) (.ref y2)=some true)
  (xs2_B:PySem.W.subIn K (.ref y2) (.ref y4)=some true)
  (xs2_0:PySem.W.subIn K (.ref y2) (.ref y0)=some false)
  (xs2_1:PySem.W.subIn K (.ref y2) (.ref y1)=some false)
  (xs2_3:PySem.W.subIn K (.ref y2) (.ref y3)=some false)
  (xlc3:K.lookup y3=some ⟨.type "type",xdd3,.cls xcdt3,xsl3⟩)
  (xb3:xcB y3 xcdt3 xsl3=true)
  (xkp3:qN K (.ref y3)=true)
  (xsa3:PySem.W.findIn K (.ref y3) "__setattr__" = some (some (.builtin "object.__setattr__")))
  (xat3:PySem.W.findIn K (.ref y3) "at" = some (none))
  (xga3:PySem.W.findIn K (.ref y3) "__getattribute__" = some (some (.builtin "BaseException.__getattribute__")))
  (xgh3:PySem.W.findIn K (.ref y3) "__getattr__" = some (none))
  (xcl3:PySem.W.findIn K (.ref y3) "__class__" = some (some (.builtin "object.__class__")))
  (xs3_b:PySem.W.subIn K (.ref y3) (.type "BaseException")=some true)
  (xs3_v:PySem.W.subIn K (.ref y3) (.type "ValueError")=some true)
  (xs3_s:PySem.W.subIn K (.ref y3) (.ref y3)=some true)
  (xs3_B:PySem.W.subIn K (.ref y3) (.ref y4)=some true)
  (xs3_0:PySem.W.subIn K (.ref y3) (.ref y0)=some false)
  (xs3_1:PySem.W.subIn K (.ref y3) (.ref y1)=some false)
  (xs3_2:PySem.W.subIn K (.ref y3) (.ref y2)=some false)
  (xBb:PySem.W.subIn K (.ref y4) (.type "BaseException")=some true)
  (z1:qQ K qM "all" = some none) (z2:qQ K qM "any" = some none) (z3:qQ K qM "dict" = some none) (z4:qQ K qM "enumerate" = some none) (z5:qQ K qM "isinstance" = some none) (z6:qQ K qM "len" = some none) (z7:qQ K qM "list" = some none) (z8:qQ K qM "min" = some none) (z9:qQ K qM "range" = some none) (z10:qQ K qM "tuple" = some none) (z11:qQ K qM "zip" = some none) :
  ∃ fd:q9,(∀ (s:Shared) (v:Value),BindsTo s fd ⟨[v],[]⟩ [("_law_script",v)])∧∀ base:Heap,K.In base→base.Ns qM mg→FnOk l.prog w K mg base CX0 9 fa fd ["_law_script"] (zaml K):=by
 have e:=hfa.symm.trans (qV X G a29)
 cases e
 have T:Txt mg:=⟨qAS X G z1,qAS X G z2,qAS X G z3,qAS X G z4,qAS X G z5,qAS X G z6,qAS X G z7,qAS X G z8,qAS X G z9,qAS X G z10,qAS X G z11⟩
 have F1:=zdq (st:=zhz) l1 c1 k1
 have b1:=F1.binds (ps:=["web"]) fun _ _ _ _ _ _ us hl=>by obtain ⟨_,rfl⟩:=us_1 hl;rfl
 have F2:=zdq (st:=zia) l2 c2 k2
 have b2:=F2.binds (ps:=["arm"]) fun _ _ _ _ _ _ us hl=>by obtain ⟨_,rfl⟩:=us_1 hl;rfl
 have F3:=zdq (st:=zfp) l3 c3 k3
 have b3:=F3.binds (ps:=["web", "names"]) fun _ _ _ _ _ _ us hl=>by obtain ⟨_,_,rfl⟩:=us_2 hl;rfl
 have F4:=zdq (st:=zib) l4 c4 k4
 have b4:=F4.binds (ps:=["web"]) fun _ _ _ _ _ _ us hl=>by obtain ⟨_,rfl⟩:=us_1 hl;rfl
 have F5:=zdq (st:=zjj) l5 c5 k5
 have b5:=F5.binds (ps:=["roofs", "arm"]) fun _ _ _ _ _ _ us hl=>by obtain ⟨_,_,rfl⟩:=us_2 hl;rfl
 have F6:=zdq (st:=zeg) l6 c6 k6
 have b6:=F6.binds (ps:=["call"]) fun _ _ _ _ _ _ us hl=>by obtain ⟨_,rfl⟩:=us_1 hl;rfl
 have F7:=zdq (st:=zgf) l7 c7 k7
 have b7:=F7.binds (ps:=["web", "places", "call"]) fun _ _ _ _ _ _ us hl=>by obtain ⟨_,_,_,rfl⟩:=us_3 hl;rfl
 have F8:=zdq (st:=zeh) l8 c8 k8
 have b8:=F8.binds (ps:=["roofs", "call"]) fun _ _ _ _ _ _ us hl=>by obtain ⟨_,_,rfl⟩:=us_2 hl;rfl
 have F9:=zdq (st:=zgg) l9 c9 k9
 have b9:=F9.binds (ps:=["kinds", "call_roofs"]) fun _ _ _ _ _ _ us hl=>by obtain ⟨_,_,rfl⟩:=us_2 hl;rfl
 have F10:=zdq (st:=zgw) l10 c10 k10
 have b10:=F10.binds (ps:=["roofs", "one", "other"]) fun _ _ _ _ _ _ us hl=>by obtain ⟨_,_,_,rfl⟩:=us_3 hl;rfl
 have F11:=zdq (st:=zds) l11 c11 k11
 have b11:=F11.binds (ps:=["book", "call"]) fun _ _ _ _ _ _ us hl=>by obtain ⟨_,_,rfl⟩:=us_2 hl;rfl
 have F12:=zdq (st:=zgh) l12 c12 k12
 have b12:=F12.binds (ps:=["roofs", "rules"]) fun _ _ _ _ _ _ us hl=>by obtain ⟨_,_,rfl⟩:=us_2 hl;rfl
 have F13:=zdq (st:=zgi) l13 c13 k13
 have b13:=F13.binds (ps:=["rules"]) fun _ _ _ _ _ _ us hl=>by obtain ⟨_,rfl⟩:=us_1 hl;rfl
 have F14:=zdq (st:=zgx) l14 c14 k14
 have b14:=F14.binds (ps:=["names"]) fun _ _ _ _ _ _ us hl=>by obtain ⟨_,rfl⟩:=us_1 hl;rfl
 have F15:=zdq (st:=zet) l15 c15 k15
 have b15:=F15.binds (ps:=["roofs", "rules"]) fun _ _ _ _ _ _ us hl=>by obtain ⟨_,_,rfl⟩:=us_2 hl;rfl
 have F16:=zdq (st:=zlz) l16 c16 k16
 have b16:=F16.binds (ps:=["book", "call", "name"]) fun _ _ _ _ _ _ us hl=>by obtain ⟨_,_,_,rfl⟩:=us_3 hl;rfl
 have F17:=zdq (st:=zgy) l17 c17 k17
 have b17:=F17.binds (ps:=["_law_script", "_law_many"]) fun _ _ _ _ _ _ us hl=>by obtain ⟨_,_,rfl⟩:=us_2 hl;rfl
 have F18:=zdq (st:=zgz) l18 c18 k18
 have b18:=F18.binds (ps:=["_law_many", "_law_cell"]) fun _ _ _ _ _ _ us hl=>by obtain ⟨_,_,rfl⟩:=us_2 hl;rfl
 have F19:=zdq (st:=zjk) l19 c19 k19
 have b19:=F19.binds (ps:=["_law_cells", "_law_names_here"]) fun _ _ _ _ _ _ us hl=>by obtain ⟨_,_,rfl⟩:=us_2 hl;rfl
 have F20:=zdq (st:=zma) l20 c20 k20
 have b20:=F20.binds (ps:=["_law_web_here"]) fun _ _ _ _ _ _ us hl=>by obtain ⟨_,rfl⟩:=us_1 hl;rfl
 have F21:=zdq (st:=zha) l21 c21 k21
 have b21:=F21.binds (ps:=["_law_arm"]) fun _ _ _ _ _ _ us hl=>by obtain ⟨_,rfl⟩:=us_1 hl;rfl
 have F22:=zdq (st:=zic) l22 c22 k22
 have b22:=F22.binds (ps:=["_law_cell", "_law_names_here", "_law_places"]) fun _ _ _ _ _ _ us hl=>by obtain ⟨_,_,_,rfl⟩:=us_3 hl;rfl
 have F23:=zdq (st:=zhb) l23 c23 k23
 have b23:=F23.binds (ps:=["_law_cells", "_law_names_here", "_law_up_here", "_law_call_here", "_law_titles"]) fun _ _ _ _ _ _ us hl=>by obtain ⟨_,_,_,_,_,rfl⟩:=us_5 hl;rfl
 have F24:=zdq (st:=zid) l24 c24 k24
 have b24:=F24.binds (ps:=["_law_up_here", "_law_kinds", "_law_call_here"]) fun _ _ _ _ _ _ us hl=>by obtain ⟨_,_,_,rfl⟩:=us_3 hl;rfl
 have F25:=zdq (st:=zjl) l25 c25 k25
 have b25:=F25.binds (ps:=["_law_up_here", "_law_rules_here", "_law_call_here", "_law_own"]) fun _ _ _ _ _ _ us hl=>by obtain ⟨_,_,_,_,rfl⟩:=us_4 hl;rfl
 have F26:=zdq (st:=zie) l26 c26 k26
 have b26:=F26.binds (ps:=["_law_book", "_law_call_here", "_law_name"]) fun _ _ _ _ _ _ us hl=>by obtain ⟨_,_,_,rfl⟩:=us_3 hl;rfl
 have F27:=zdq (st:=zhd) l27 c27 k27
 have b27:=F27.binds (ps:=["_law_book", "_law_up_here", "_law_call_here"]) fun _ _ _ _ _ _ us hl=>by obtain ⟨_,_,_,rfl⟩:=us_3 hl;rfl
 have F28:=zdq (st:=zfq) l28 c28 k28
 have b28:=F28.binds (ps:=["_law_book", "_law_call_here", "_law_title", "_law_odd", "_law_cells"]) fun _ _ _ _ _ _ us hl=>by obtain ⟨_,_,_,_,_,rfl⟩:=us_5 hl;rfl
 have F29:=zdq (st:=zvs) l29 c29 k29
 refine ⟨qc "law" "law" (zbr zvs) (zbp zvs) (zam zvs) .none kV29 dc29 pm29 an29 cd29 ct29,fun s v=>.of_eq rfl,fun base _ _=>?_⟩
 have XF:=zdq (st:=zum (top 1) 0) xl xc xk
 have xv:=qAS X G xz
 obtain ⟨cl,cl0,cl1,cl2,cl3,cl4⟩:∃ cl:Str→Addr,cl "NoCall" = y0∧cl "NoFit" = y1∧cl "NoKind" = y2∧cl "NoRule" = y3∧cl "CallError" = y4:=⟨fun s=>if s = "NoCall" then y0 else if s = "NoFit" then y1 else if s = "NoKind" then y2 else if s = "NoRule" then y3 else if s = "CallError" then y4 else 0,rfl,rfl,rfl,rfl,rfl⟩
 have XM0:XMk K y0 fI:=⟨(zxo xlc0 xb0).1,(zxo xlc0 xb0).2,xi0,xf,xkp0,xsa0,xat0,xga0,xgh0⟩
 have X_NoCall:XcOk l.prog w K mg base "NoCall" (cl "NoCall"):=by rw [cl0];exact ⟨fI,_,XM0,zuw XF XM0 xv rfl rfl (by decide) (fun _=>⟨_,rfl⟩),XF.binds (ps:=["self", "at"]) (fun _ _ _ _ _ _ us hl=>by obtain ⟨_,_,rfl⟩:=us_2 hl;rfl),qV X G xa0,xcl0,zach xs0_b xp0 xq0 xs0_s⟩
 have XM1:XMk K y1 fI:=⟨(zxo xlc1 xb1).1,(zxo xlc1 xb1).2,xi1,xf,xkp1,xsa1,xat1,xga1,xgh1⟩
 have X_NoFit:XcOk l.prog w K mg base "NoFit" (cl "NoFit"):=by rw [cl1];exact ⟨fI,_,XM1,zuw XF XM1 xv rfl rfl (by decide) (fun _=>⟨_,rfl⟩),XF.binds (ps:=["self", "at"]) (fun _ _ _ _ _ _ us hl=>by obtain ⟨_,_,rfl⟩:=us_2 hl;rfl),qV X G xa1,xcl1,zach xs1_b xp1 xq1 xs1_s⟩
 have XM2:XMk K y2 fI:=⟨(zxo xlc2 xb2).1,(zxo xlc2 xb2).2,xi2,xf,xkp2,xsa2,xat2,xga2,xgh2⟩
 have X_NoKind:XcOk l.prog w K mg base "NoKind" (cl "NoKind"):=by rw [cl2];exact ⟨fI,_,XM2,zuw XF XM2 xv rfl rfl (by decide) (fun _=>⟨_,rfl⟩),XF.binds (ps:=["self", "at"]) (fun _ _ _ _ _ _ us hl=>by obtain ⟨_,_,rfl⟩:=us_2 hl;rfl),qV X G xa2,xcl2,zach xs2_b xp2 xq2 xs2_s⟩
 have XM3:XMk K y3 fI:=⟨(zxo xlc3 xb3).1,(zxo xlc3 xb3).2,xi3,xf,xkp3,xsa3,xat3,xga3,xgh3⟩
 have X_NoRule:XcOk l.prog w K mg base "NoRule" (cl "NoRule"):=by rw [cl3];exact ⟨fI,_,XM3,zuw XF XM3 xv rfl rfl (by decide) (fun _=>⟨_,rfl⟩),XF.binds (ps:=["self", "at"]) (fun _ _ _ _ _ _ us hl=>by obtain ⟨_,_,rfl⟩:=us_2 hl;rfl),qV X G xa3,xcl3,zach xs3_b xp3 xq3 xs3_s⟩
 have XK_law_told:XKit l.prog w K mg base cl ["NoCall", "NoFit", "NoKind", "NoRule"] ["NoCall", "NoFit", "NoKind", "NoRule"] "CallError":=by
  refine ⟨(zbq X_NoCall (zbq X_NoFit (zbq X_NoKind (zbq X_NoRule znn)))),?_,?_,?_,?_,?_,xv⟩
  ·rw [cl4];exact (zbq (by rw [cl0];exact zaci xBb xp4 xq4 xs0_B) (zbq (by rw [cl1];exact zaci xBb xp4 xq4 xs1_B) (zbq (by rw [cl2];exact zaci xBb xp4 xq4 xs2_B) (zbq (by rw [cl3];exact zaci xBb xp4 xq4 xs3_B) znn))))
  ·exact (zbq (zbq (by rw [cl0];exact kd_t (zacf xp0 xq0 xs0_s) rfl) (zbq (by rw [cl0,cl1];exact kd_f (zka xs0_s xp1 xq1 xs0_1) (by decide)) (zbq (by rw [cl0,cl2];exact kd_f (zka xs0_s xp2 xq2 xs0_2) (by decide)) (zbq (by rw [cl0,cl3];exact kd_f (zka xs0_s xp3 xq3 xs0_3) (by decide)) znn)))) (zbq (zbq (by rw [cl1,cl0];exact kd_f (zka xs1_s xp0 xq0 xs1_0) (by decide)) (zbq (by rw [cl1];exact kd_t (zacf xp1 xq1 xs1_s) rfl) (zbq (by rw [cl1,cl2];exact kd_f (zka xs1_s xp2 xq2 xs1_2) (by decide)) (zbq (by rw [cl1,cl3];exact kd_f (zka xs1_s xp3 xq3 xs1_3) (by decide)) znn)))) (zbq (zbq (by rw [cl2,cl0];exact kd_f (zka xs2_s xp0 xq0 xs2_0) (by decide)) (zbq (by rw [cl2,cl1];exact kd_f (zka xs2_s xp1 xq1 xs2_1) (by decide)) (zbq (by rw [cl2];exact kd_t (zacf xp2 xq2 xs2_s) rfl) (zbq (by rw [cl2,cl3];exact kd_f (zka xs2_s xp3 xq3 xs2_3) (by decide)) znn)))) (zbq (zbq (by rw [cl3,cl0];exact kd_f (zka xs3_s xp0 xq0 xs3_0) (by decide)) (zbq (by rw [cl3,cl1];exact kd_f (zka xs3_s xp1 xq1 xs3_1) (by decide)) (zbq (by rw [cl3,cl2];exact kd_f (zka xs3_s xp2 xq2 xs3_2) (by decide)) (zbq (by rw [cl3];exact kd_t (zacf xp3 xq3 xs3_s) rfl) znn)))) znn))))
  ·exact (zbq (by rw [cl0];exact zacg xs0_v) (zbq (by rw [cl1];exact zacg xs1_v) (zbq (by rw [cl2];exact zacg xs2_v) (zbq (by rw [cl3];exact zacg xs3_v) znn))))
  ·exact (zbq (by rw [cl0];exact qV X G xa0) (zbq (by rw [cl1];exact qV X G xa1) (zbq (by rw [cl2];exact qV X G xa2) (zbq (by rw [cl3];exact qV X G xa3) znn))))
  ·rw [cl4];exact qV X G xa4
 have D_names_of:ztz l.prog w K mg base:=⟨f1,_,zaax F1 T , qV X G a1,k1,b1⟩
 have D_names_in:zou l.prog w K mg base:=⟨f2,_,zaay F2 T , qV X G a2,k2,b2⟩
 have D_check_kinds:znz l.prog w K mg base cl:=⟨f3,_,zsy (cl:=cl) F3 T D_names_of X_NoKind,qV X G a3,k3,b3⟩
 have D_roofs_of:zov l.prog w K mg base:=⟨f4,_,zaaz F4 T , qV X G a4,k4,b4⟩
 have D_roof_of:zyr l.prog w K mg base:=⟨f5,_,zaei F5 T D_names_in,qV X G a5,k5,b5⟩
 have D_names_in_call:zlj l.prog w K mg base:=⟨f6,_,zpu F6 T D_names_in,qV X G a6,k6,b6⟩
 have D_check_call:zpl l.prog w K mg base cl:=⟨f7,_,zvt (cl:=cl) F7 T D_check_kinds D_names_in_call X_NoCall,qV X G a7,k7,b7⟩
 have D_roofs_in_call:zlk l.prog w K mg base:=⟨f8,_,zpv F8 T D_roof_of,qV X G a8,k8,b8⟩
 have D_fits_under:zpm l.prog w K mg base:=⟨f9,_,zvu F9 T , qV X G a9,k9,b9⟩
 have D_is_nearer:zmz l.prog w K mg base:=⟨f10,_,zyu F10 T , qV X G a10,k10,b10⟩
 have D_rules_that_fit:zkg l.prog w K mg base cl:=⟨f11,_,zoy (cl:=cl) F11 T D_check_call D_fits_under D_roofs_in_call D_roofs_of,qV X G a11,k11,b11⟩
 have D_nearest_of:zpn l.prog w K mg base:=⟨f12,_,zvv F12 T D_is_nearer,qV X G a12,k12,b12⟩
 have D_rule_names:zll l.prog w K mg base:=⟨f13,_,zvw F13 T , qV X G a13,k13,b13⟩
 have D_answer_by:zrw l.prog w K mg base:=⟨f14,_,zyv F14 T , qV X G a14,k14,b14⟩
 have D_answer_among:zmk l.prog w K mg base:=⟨f15,_,zsa F15 T D_answer_by D_nearest_of D_rule_names,qV X G a15,k15,b15⟩
 have D_onward:zacw l.prog w K mg base cl:=⟨f16,_,zaio (cl:=cl) F16 T D_answer_among D_is_nearer D_roofs_of D_rule_names D_rules_that_fit X_NoFit X_NoRule,qV X G a16,k16,b16⟩
 have D_law_draws:Dn l.prog w K mg base "_law_draws" ["_law_script", "_law_many"] 1 (zabk K):=⟨f17,_,zzn F17 T , qV X G a17,k17,b17⟩
 have D_law_names:zrx l.prog w K mg base:=⟨f18,_,zyw F18 T , qV X G a18,k18,b18⟩
 have D_law_web:zys l.prog w K mg base:=⟨f19,_,zaej F19 T , qV X G a19,k19,b19⟩
 have D_law_up:zacx l.prog w K mg base:=⟨f20,_,zaip F20 T , qV X G a20,k20,b20⟩
 have D_law_parts:zis l.prog w K mg base:=⟨f21,_,zyx F21 T , qV X G a21,k21,b21⟩
 have D_law_call:zua l.prog w K mg base:=⟨f22,_,zaba F22 T , qV X G a22,k22,b22⟩
 have D_law_rules:zry l.prog w K mg base:=⟨f23,_,zyy F23 T D_law_parts,qV X G a23,k23,b23⟩
 have D_law_fits:zow l.prog w K mg base:=⟨f24,_,zabb F24 T D_law_parts,qV X G a24,k24,b24⟩
 have D_law_due:zyt l.prog w K mg base:=⟨f25,_,zaek F25 T D_law_fits,qV X G a25,k25,b25⟩
 have D_law_told:zox l.prog w K mg base:=⟨f26,_,zabc (cl:=cl) F26 T D_onward XK_law_told,qV X G a26,k26,b26⟩
 have D_law_asked:zrz l.prog w K mg base:=⟨f27,_,zyz F27 T D_law_due D_law_fits D_law_told,qV X G a27,k27,b27⟩
 have D_law_refused:zoa l.prog w K mg base:=⟨f28,_,zsz F28 T D_law_parts D_law_told,qV X G a28,k28,b28⟩
 exact zatw F29 T D_law_asked D_law_call D_law_draws D_law_names D_law_parts D_law_refused D_law_rules D_law_up D_law_web
theorem walk {l:PySem.W.OpenLaw} {q:Program} {loose:List Str} {XP:(Str→Option Value)→Heap→Prop} {YP:World→Heap→Prop} {d:DefRec} {K:Params→qB} (hn:l.most=some 63) (hdf:d.params.defaults=[])
  (hY:∀ (w:World) (h:Heap),YP w h→(K w.params).In h)
  (F:∀ (w:World) (mg:Str→Option Value) (fa:Addr) (h:Heap),(K w.params).In h→h.Ns qM mg→mg d.name=some (.ref fa) →
   ∃ fd:q9,(∀ (s:Shared) (u:Value),BindsTo s fd ⟨[u],[]⟩ [("_law_script",u)])∧∀ base:Heap,(K w.params).In base→base.Ns qM mg→FnOk l.prog w (K w.params) mg base CX0 9 fa fd ["_law_script"] (zaml (K w.params))) :
  PySem.W.WalkO q loose XP YP l.row.toRowW d [] (fun f vs=>PySem.call f vs) :=
 L2.walk_of (n:=63) (k:=9) (x:="_law_script") (CX:=fun _=>CX0) (sp:=fun w=>zaml (K w.params)) hn (by decide) hdf ⟨rfl,by decide,by decide⟩ hY F (fun _ _ a ns hl _ hS=>⟨a,ns,rfl,hS,fun _=>rfl⟩) fun _ _ _ _ _ z=>z
end Bc
theorem PySem.W.Fast.te2621462210225459492:True:=trivial
def PySem.W.Fast.tw7879924317289106860:PySem.Program:=PySem.Challenge.pw_bestcalls_k19_onward
theorem PySem.W.Fast.te7879924317289106860:PySem.Challenge.pw_bestcalls_k19_onward=PySem.W.Fast.tw7879924317289106860:=rfl
open PySem PySem.W PyProof.Rows
set_option maxRecDepth 100000 in
set_option maxHeartbeats 0 in
theorem PySem.Challenge.cw_bestcalls_k19_onward_holds : PySem.Challenge.rw_bestcalls_k19_onward.Holds := by
 w_on;o_law;k_head;(case hw=>w_witness2)
 k_fill
 refine Bc.walk (l:=PySem.Challenge.rw_bestcalls_k19_onward) rfl rfl (fun w h Y=>PySem.W.kIn_of Y) ?F
 case F =>
  intro w mg fa h KX G hmg
  refine' Bc.all_mk KX G hmg ?a1 ?l1 ?c1 ?k1 ?a2 ?l2 ?c2 ?k2 ?a3 ?l3 ?c3 ?k3 ?a4 ?l4 ?c4 ?k4 ?a5 ?l5 ?c5 ?k5 ?a6 ?l6 ?c6 ?k6 ?a7 ?l7 ?c7 ?k7 ?a8 ?l8 ?c8 ?k8 ?a9 ?l9 ?c9 ?k9 ?a10 ?l10 ?c10 ?k10 ?a11 ?l11 ?c11 ?k11 ?a12 ?l12 ?c12 ?k12 ?a13 ?l13 ?c13 ?k13 ?a14 ?l14 ?c14 ?k14 ?a15 ?l15 ?c15 ?k15 ?a16 ?l16 ?c16 ?k16 ?a17 ?l17 ?c17 ?k17 ?a18 ?l18 ?c18 ?k18 ?a19 ?l19 ?c19 ?k19 ?a20 ?l20 ?c20 ?k20 ?a21 ?l21 ?c21 ?k21 ?a22 ?l22 ?c22 ?k22 ?a23 ?l23 ?c23 ?k23 ?a24 ?l24 ?c24 ?k24 ?a25 ?l25 ?c25 ?k25 ?a26 ?l26 ?c26 ?k26 ?a27 ?l27 ?c27 ?k27 ?a28 ?l28 ?c28 ?k28 ?a29 ?l29 ?c29 ?k29 ?xa0 ?xp0 ?xq0 ?xa1 ?xp1 ?xq1 ?xa2 ?xp2 ?xq2 ?xa3 ?xp3 ?xq3 ?xa4 ?xp4 ?xq4 ?xz ?xi0 ?xi1 ?xi2 ?xi3 ?xl ?xc ?xk ?xf ?xlc0 ?xb0 ?xkp0 ?xsa0 ?xat0 ?xga0 ?xgh0 ?xcl0 ?xs0_b ?xs0_v ?xs0_s ?xs0_B ?xs0_1 ?xs0_2 ?xs0_3 ?xlc1 ?xb1 ?xkp1 ?xsa1 ?xat1 ?xga1 ?xgh1 ?xcl1 ?xs1_b ?xs1_v ?xs1_s ?xs1_B ?xs1_0 ?xs1_2 ?xs1_3 ?xlc2 ?xb2 ?xkp2 ?xsa2 ?xat2 ?xga2 ?xgh2 ?xcl2 ?xs2_b ?xs2_v ?xs2_s ?xs2_B ?xs2_0 ?xs2_1 ?xs2_3 ?xlc3 ?xb3 ?xkp3 ?xsa3 ?xat3 ?xga3 ?xgh3 ?xcl3 ?xs3_b ?xs3_v ?xs3_s ?xs3_B ?xs3_0 ?xs3_1 ?xs3_2 ?xBb ?z1 ?z2 ?z3 ?z4 ?z5 ?z6 ?z7 ?z8 ?z9 ?z10 ?z11
  (case a1=>k_is)
  (case l1=>k_is)
  (case c1=>k_is)
  (case k1=>k_is)
  (case a2=>k_is)
  (case l2=>k_is)
  (case c2=>k_is)
  (case k2=>k_is)
  (case a3=>k_is)
  (case l3=>k_is)
  (case c3=>k_is)
  (case k3=>k_is)
  (case a4=>k_is)
  (case l4=>k_is)
  (case c4=>k_is)
  (case k4=>k_is)
  (case a5=>k_is)
  (case l5=>k_is)
  (case c5=>k_is)
  (case k5=>k_is)
  (case a6=>k_is)
  (case l6=>k_is)
  (case c6=>k_is)
  (case k6=>k_is)
  (case a7=>k_is)
  (case l7=>k_is)
  (case c7=>k_is)
  (case k7=>k_is)
  (case a8=>k_is)
  (case l8=>k_is)
  (case c8=>k_is)
  (case k8=>k_is)
  (case a9=>k_is)
  (case l9=>k_is)
  (case c9=>k_is)
  (case k9=>k_is)
  (case a10=>k_is)
  (case l10=>k_is)
  (case c10=>k_is)
  (case k10=>k_is)
  (case a11=>k_is)
  (case l11=>k_is)
  (case c11=>k_is)
  (case k11=>k_is)
  (case a12=>k_is)
  (case l12=>k_is)
  (case c12=>k_is)
  (case k12=>k_is)
  (case a13=>k_is)
  (case l13=>k_is)
  (case c13=>k_is)
  (case k13=>k_is)
  (case a14=>k_is)
  (case l14=>k_is)
  (case c14=>k_is)
  (case k14=>k_is)
  (case a15=>k_is)
  (case l15=>k_is)
  (case c15=>k_is)
  (case k15=>k_is)
  (case a16=>k_is)
  (case l16=>k_is)
  (case c16=>k_is)
  (case k16=>k_is)
  (case a17=>k_is)
  (case l17=>k_is)
  (case c17=>k_is)
  (case k17=>k_is)
  (case a18=>k_is)
  (case l18=>k_is)
  (case c18=>k_is)
  (case k18=>k_is)
  (case a19=>k_is)
  (case l19=>k_is)
  (case c19=>k_is)
  (case k19=>k_is)
  (case a20=>k_is)
  (case l20=>k_is)
  (case c20=>k_is)
  (case k20=>k_is)
  (case a21=>k_is)
  (case l21=>k_is)
  (case c21=>k_is)
  (case k21=>k_is)
  (case a22=>k_is)
  (case l22=>k_is)
  (case c22=>k_is)
  (case k22=>k_is)
  (case a23=>k_is)
  (case l23=>k_is)
  (case c23=>k_is)
  (case k23=>k_is)
  (case a24=>k_is)
  (case l24=>k_is)
  (case c24=>k_is)
  (case k24=>k_is)
  (case a25=>k_is)
  (case l25=>k_is)
  (case c25=>k_is)
  (case k25=>k_is)
  (case a26=>k_is)
  (case l26=>k_is)
  (case c26=>k_is)
  (case k26=>k_is)
  (case a27=>k_is)
  (case l27=>k_is)
  (case c27=>k_is)
  (case k27=>k_is)
  (case a28=>k_is)
  (case l28=>k_is)
  (case c28=>k_is)
  (case k28=>k_is)
  (case a29=>k_is)
  (case l29=>k_is)
  (case c29=>k_is)
  (case k29=>k_is)
  (case xa0=>k_is)
  (case xp0=>k_is)
  (case xq0=>k_is)
  (case xa1=>k_is)
  (case xp1=>k_is)
  (case xq1=>k_is)
  (case xa2=>k_is)
  (case xp2=>k_is)
  (case xq2=>k_is)
  (case xa3=>k_is)
  (case xp3=>k_is)
  (case xq3=>k_is)
  (case xa4=>k_is)
  (case xp4=>k_is)
  (case xq4=>k_is)
  (case xz=>k_is)
  (case xi0=>k_is)
  (case xi1=>k_is)
  (case xi2=>k_is)
  (case xi3=>k_is)
  (case xl=>k_is)
  (case xc=>k_is)
  (case xk=>k_is)
  (case xf=>k_is)
  (case xlc0=>k_is)
  (case xb0=>rfl)
  (case xkp0=>k_is)
  (case xsa0=>k_is)
  (case xat0=>k_is)
  (case xga0=>k_is)
  (case xgh0=>k_is)
  (case xcl0=>k_is)
  (case xs0_b=>k_is)
  (case xs0_v=>k_is)
  (case xs0_s=>k_is)
  (case xs0_B=>k_is)
  (case xs0_1=>k_is)
  (case xs0_2=>k_is)
  (case xs0_3=>k_is)
  (case xlc1=>k_is)
  (case xb1=>rfl)
  (case xkp1=>k_is)
  (case xsa1=>k_is)
  (case xat1=>k_is)
  (case xga1=>k_is)
  (case xgh1=>k_is)
  (case xcl1=>k_is)
  (case xs1_b=>k_is)
  (case xs1_v=>k_is)
  (case xs1_s=>k_is)
  (case xs1_B=>k_is)
  (case xs1_0=>k_is)
  (case xs1_2=>k_is)
  (case xs1_3=>k_is)
  (case xlc2=>k_is)
  (case xb2=>rfl)
  (case xkp2=>k_is)
  (case xsa2=>k_is)
  (case xat2=>k_is)
  (case xga2=>k_is)
  (case xgh2=>k_is)
  (case xcl2=>k_is)
  (case xs2_b=>k_is)
  (case xs2_v=>k_is)
  (case xs2_s=>k_is)
  (case xs2_B=>k_is)
  (case xs2_0=>k_is)
  (case xs2_1=>k_is)
  (case xs2_3=>k_is)
  (case xlc3=>k_is)
  (case xb3=>rfl)
  (case xkp3=>k_is)
  (case xsa3=>k_is)
  (case xat3=>k_is)
  (case xga3=>k_is)
  (case xgh3=>k_is)
  (case xcl3=>k_is)
  (case xs3_b=>k_is)
  (case xs3_v=>k_is)
  (case xs3_s=>k_is)
  (case xs3_B=>k_is)
  (case xs3_0=>k_is)
  (case xs3_1=>k_is)
  (case xs3_2=>k_is)
  (case xBb=>k_is)
  (case z1=>k_is)
  (case z2=>k_is)
  (case z3=>k_is)
  (case z4=>k_is)
  (case z5=>k_is)
  (case z6=>k_is)
  (case z7=>k_is)
  (case z8=>k_is)
  (case z9=>k_is)
  (case z10=>k_is)
  (case z11=>k_is)
