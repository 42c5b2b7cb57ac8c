import PyProof.Rows.All
import Wide.All
import OpenK.AllK
import Wide.FinOn
import Lean
import PyProof.EqAt
import PyProof.EqKinds
import PyProof.TupleCall
import KE.KRevSl
import PySem.Challenge.RW_bestcalls_k16_papers_written
set_option genSizeOf false
set_option Elab.async false
set_option linter.all false
set_option maxRecDepth 100000
noncomputable section
open Option renaming bind_eq_some_iff→qA,bind_some→qD,map_eq_some_iff→qJ,map_some→qAq,isSome_map→qBz,isSome_some→qCs
open PySem.W renaming Frag→qB,keepIn→qP,nsIn→qQ,codeIn→qS,fnOf→qX,mg_of→qa,mg_none_of→qAP,kia_one→qAe,cellsFrom_some→qCP,kitx_list→qCq,kitx_dict→qCr
open List renaming length_map→qC,getElem?_eq_getElem→qE,getElem?_eq_some_iff→qN,getElem?_map→qR,mem_cons_of_mem→qT,size_toArray→qW,map_cons→qZ,mem_cons_self→qc,mem_cons→qe,mem_filter→qh,mem_append_right→qm,length_append→qp,mem_append_left→qz,getElem?_set_ne→q9,mem_append→qAA,length_set→qAB,getElem?_set_self→qAD,getD_eq_getElem?_getD→qAE,replicate_succ→qAG,mem_singleton→qAI,map_append→qAJ,getElem?_cons_zero→qAK,getElem?_cons_succ→qAL,getElem?_append_left→qAN,lookup_cons→qAO,getElem?_append_right→qAR,any_eq_true→qAS,mem_range→qAT,not_mem_nil→qAX,getElem_mem→qAY,all_eq_true→qAZ,mem_map→qAa,of_mem_zip→qAb,length_cons→qAc,append_nil→qAg,length_drop→qAh,map_map→qAi,length_replicate→qAj,length_filter_le→qAk,take_append_of_le_length→qAm,mem_of_mem_drop→qAn,all_cons→qAp,length_take→qAu,drop_eq_getElem_cons→qAv,mem_of_mem_take→qAx,mem_of_getElem?→qAy,nodup_cons→qAz,flatten_cons→qA0,any_cons→qA3,zip_cons_cons→qA5,any_eq_false→qA8,getElem?_zip_eq_some→qBA,drop_length→qBD,length_zip→qBG,length_eq_zero_iff→qBH,getElem?_replicate→qBI,foldl_cons→qBJ,find?_cons→qBK,nodup_append→qBM,append_assoc→qBN,map_congr_left→qBR,getElem_of_mem→qBS,set_cons_zero→qBU,set_cons_succ→qBV,mem_filterMap→qBW,map_nil→qBX,any_map→qBY,reverse_cons→qBa,foldl_append→qBb,eq_of_mem_replicate→qBc,map_take→qBg,mem_nil_iff→qBh,mem_flatMap→qBi,filter_cons→qBj,nodup_nil→qBq,zipIdx_map_fst→qBt,getElem?_range→qBu,filterMap_cons→qBv,map_drop→qB0,take_sublist→qB4,filter_congr→qB5,eraseIdxIfInBounds_toArray→qB6,zipIdx_cons→qB9,take_length→qCA,dropLast_concat_getLast→qCD,length_nil→qCH,forIn_cons→qCI,pairwise_iff_getElem→qCR,take_of_length_le→qCi,range_succ_eq_map→qCj,length_pos_of_mem→qCk,mem_iff_getElem?→qCn,getElem?_eq_none→qCo,length_dropLast→qCv,getElem?_zipIdx→qCw,length_reverse→qCz,filter_eq_self→qC0
open PySem renaming wpAny_bind→qF,Expr→qL,mainGlobals→qM,wpAny_pure→qd,Pos→qi,sizeLine→qj,FuncData→qw,starEach→qAH,mem_of_lookup→qAM,wpAny_truthy_bool→qAf,wpAny_pyIter_tuple→qAo,wpAny_callSpecial?_slot→qAr,wpAny_pyIter_list→qAs,wpAny_field→qAt,wpAny_seqItems→qA6,wpAny_setField_rec→qA7,call_meets→qBC,wpAny_call_entry→qBF,wpAny_loadPart'→qBO,wpAny_getItem_str_slice→qBP,wpAny_passesOwn→qBZ,tupleKind_room_in1→qBf,wpAny_mono→qBl,typeIs_str→qBm,wpAny_standAt→qBn,post_val_or_str→qBx,codeAny_mono→qBy,wpAny_updateSeq_pair→qB3,wpAny_onRaise→qCB,wpAny_Call_Name_kw→qCC,wpAny_rule→qCL,wpAny_newObj_type→qCM,wpAny_execs_nil→qCf,sizeLine_eq→qCg,seqIndex_of→qCh,wpAny_comprehension_free→qCy
open PySem.PyData renaming eqv→qG,strOk→qV,depthAll→qk,canLayAll0→qv
open PySem.Heap renaming get?_push_of_some→qH,lt_size→qU,get?_push_size→qq,size_push→qAw
open PySem.SeqAt renaming shaped→qI,canLay_of_shaped→qAU,eqv_refl→qBe
open Bool renaming false_ne_true→qK,and_eq_true→qb,and_eq_true_iff→qo,eq_iff_iff→qAF,not_eq_true'→qBd,or_eq_true_iff→qBw,true_and→qB1,false_eq_true→qB2,and_false→qCU,false_or→qCd,and_self→qCe,or_true→qCp
open Nat renaming le_refl→qO,lt_of_lt_of_le→qt,ne_of_lt→qx,le_trans→qAW,zero_le→qAd,lt_of_le_of_lt→qAl,min_le_left→qA1,lt_irrefl→qA4,le_add_right→qBk,ne_of_gt→qBp,le_of_succ_le→qB7,zero_add→qB8,lt_trans→qCt,le_of_lt→qCu
open PySem.F renaming plainAttrs_list→qY,type_list_append→qf,slot_list_append→qg,slot_tuple_iterator_next→qBB,slot_zip_next→qBr,type_dict_update→qCE,slot_dict_update→qCF,args_tuple_add_2→qCG,plainAttrs_dict→qCN,entry_tuple_add→qCO,slot_tuple_add→qCQ,args_tuple_iterator_next_1→qCT,type_list_pop→qCX,slot_list_pop→qCY,entry_tuple_iterator_next→qCa
open Option.some renaming inj→qr
open PySem.PassesOwn renaming never→qu
open PySem.Str renaming ofString→qy
open PySem.Builtin.SmallTypes renaming nextOf→qAC
open Int renaming emod_nonneg→qAQ,emod_lt_of_pos→qAV,toNat_natCast→qA9,ediv_nonneg→qBT,mul_nonneg→qCZ
open Ne renaming symm→qA2
open PyProof.Rows renaming slot_tuple_getitem→qBE,callWith_type1→qBL
open List.Sublist renaming refl→qBQ
open Sum.inr renaming inj→qBo
open PySem.Paired renaming length→qBs
open PySem.Heap.SameBut renaming update→qCJ
open PySem.Calls renaming Name_function_global→qCK,callWith_builtin→qCc
open PySem.Heap.IsTuple renaming push→qCS
open PySem.SeqAt.EqAt renaming str_int→qCV,int_str→qCW
open PySem.Heap.IsList renaming push→qCb
open Array renaming mem_of_getElem?→qCl,getElem?_toList→qCm,length_toList→qCx
open List.Perm renaming refl→qC1
namespace L2
open PySem PySem.Spec PyProof.Rows
noncomputable abbrev Key:=Sum Int Str
noncomputable def zaen:Key→Value→Bool
 | .inl k,v=>Value.isInt k v
 | .inr x,v=>Value.isStrOf x v
noncomputable def keyH (w:World):Key→Int
 | .inl k=>hashInt k
 | .inr x=>hashStr w x
theorem zeu:∀ {k:Key} {v:Value},zaen k v=true→(∃ i t,k=Sum.inl i∧v=Value.int i t)∨(∃ x t,k=Sum.inr x∧v=Value.str x t)
 | .inl i,v,h=>by
  obtain ⟨t,e⟩:=Value.isInt_shape (k:=i) (v:=v) h
  exact .inl ⟨i,t,rfl,e⟩
 | .inr x,v,h=>by
  obtain ⟨t,e⟩:=Value.isStrOf_shape (x:=x) (v:=v) h
  exact .inr ⟨x,t,rfl,e⟩
theorem zaga (i:Int) (t:Tok):zaen (.inl i) (.int i t)=true:=by simp [zaen,Value.isInt]
theorem zagb (x:Str) (t:Tok):zaen (.inr x) (.str x t)=true:=by simp [zaen,Value.isStrOf]
theorem zark (a b:Int):decide ((Sum.inl a:Key)=Sum.inl b)=(a==b):=by
 by_cases e:a=b
 ·subst e;simp
 ·have h:¬ (Sum.inl a:Key)=Sum.inl b:=fun q=>e (Sum.inl.inj q)
  rw [decide_eq_false h]
  exact (beq_eq_false_iff_ne.mpr e).symm
theorem zarl (a b:Str):decide ((Sum.inr a:Key)=Sum.inr b)=decide (a=b):=by
 by_cases e:a=b
 ·subst e;simp
 ·have h:¬ (Sum.inr a:Key)=Sum.inr b:=fun q=>e (qBo q)
  rw [decide_eq_false h,decide_eq_false e]
theorem zarm (a:Int) (b:Str):decide ((Sum.inl a:Key)=Sum.inr b)=false:=decide_eq_false (fun q=>nomatch q)
theorem zarn (a:Str) (b:Int):decide ((Sum.inr a:Key)=Sum.inl b)=false:=decide_eq_false (fun q=>nomatch q)
noncomputable def zfj (prog:Program) (w:World):PySem.KeyKind prog w Key where
 is:=zaen
 hash:=keyH w
 inj:=fun v a b ha hb=>by
  rcases zeu ha with ⟨i,t,rfl,rfl⟩|⟨x,t,rfl,rfl⟩
  ·rcases zeu hb with ⟨j,u,rfl,e⟩|⟨y,u,rfl,e⟩
   ·injection e with e1 _;rw [e1]
   ·exact nomatch e
  ·rcases zeu hb with ⟨j,u,rfl,e⟩|⟨y,u,rfl,e⟩
   ·exact nomatch e
   ·injection e with e1 _;rw [e1]
 byValue:=fun k v h=>by
  rcases zeu h with ⟨i,t,rfl,rfl⟩|⟨x,t,rfl,rfl⟩<;>rfl
 pyHash:=fun hv h=>by
  rcases zeu hv with ⟨i,t,rfl,rfl⟩|⟨x,t,rfl,rfl⟩
  ·exact wpAny_pyHash_int h
  ·exact wpAny_pyHash_str h
 eqBool:=fun hu hv h=>by
  rcases zeu hu with ⟨i,t,rfl,rfl⟩|⟨x,t,rfl,rfl⟩
  ·rcases zeu hv with ⟨j,u,rfl,rfl⟩|⟨y,u,rfl,rfl⟩
   ·rw [zark] at h;exact wpAny_eqBool_int h
   ·rw [zarm] at h;exact qCW i t y u _ _ _ _ h
  ·rcases zeu hv with ⟨j,u,rfl,rfl⟩|⟨y,u,rfl,rfl⟩
   ·rw [zarn] at h;exact qCV x t j u _ _ _ _ h
   ·rw [zarl] at h;exact wpAny_eqBool_str h
 «strs»:=fun k x t v h=>by
  rcases zeu h with ⟨i,u,rfl,e⟩|⟨y,u,rfl,e⟩
  ·exact nomatch e
  ·injection e with e1 _
   subst e1
   cases v<;>rfl
theorem zaaj (prog:Program) (w:World) (i:Int) (t:Tok):(zfj prog w).is (.inl i) (.int i t)=true:=zaga i t
theorem zaak (prog:Program) (w:World) (x:Str) (t:Tok):(zfj prog w).is (.inr x) (.str x t)=true:=zagb x t
inductive V where
 | non|bl (b:Bool)|int (i:Int)|str (x:Str)|byt (b:Array UInt8)|flt (b:UInt64)|ref (a:Addr)|ty (n:String)
 deriving DecidableEq
noncomputable def RelV:V→Value→Prop
 | .non,u=>u=Value.none
 | .bl b,u=>u=Value.bool b
 | .int i,u=>∃ t,u=Value.int i t
 | .str x,u=>∃ t,u=Value.str x t
 | .byt b,u=>∃ t,u=Value.bytes b t
 | .flt b,u=>∃ t,u=Value.float b t
 | .ref a,u=>u=Value.ref a
 | .ty n,u=>u=Value.type n
noncomputable abbrev Vals:List V→List Value→Prop:=Paired RelV
theorem Vals.length {xs:List V} {us:List Value} (r:Vals xs us):xs.length=us.length:=qBs r
theorem Vals.get:∀ {xs:List V} {us:List Value} {i:Nat} {x:V},Vals xs us→xs[i]?=some x→∃ u,us[i]?=some u∧RelV x u
 | _,_,_,_,.nil,e=>by simp at e
 | _,_,0,_,.cons r _,e=>by simp at e;subst e;exact ⟨_,rfl,r⟩
 | _,_,i+1,x,.cons _ t,e=>by
  obtain ⟨u,h1,h2⟩:=Vals.get (i:=i) (x:=x) t (by simpa using e)
  exact ⟨u,by simpa using h1,h2⟩
theorem Vals.set {x:V} {u:Value} (r:RelV x u):∀ {xs:List V} {us:List Value} (i:Nat),Vals xs us→Vals (xs.set i x) (us.set i u)
 | _,_,_,.nil=>.nil
 | _,_,0,.cons _ t=>.cons r t
 | _,_,i+1,.cons q t=>.cons q (Vals.set r i t)
theorem Vals.append:∀ {xs ys:List V} {us ws:List Value},Vals xs us→Vals ys ws→Vals (xs++ys) (us++ws)
 | _,_,_,_,.nil,s=>s
 | _,_,_,_,.cons r t,s=>.cons r (Vals.append t s)
theorem Vals.take:∀ {xs:List V} {us:List Value} (n:Nat),Vals xs us→Vals (xs.take n) (us.take n)
 | _,_,0,_=>.nil
 | _,_,_+1,.nil=>.nil
 | _,_,n+1,.cons r t=>.cons r (Vals.take n t)
theorem Vals.drop:∀ {xs:List V} {us:List Value} (n:Nat),Vals xs us→Vals (xs.drop n) (us.drop n)
 | _,_,0,r=>r
 | _,_,_+1,.nil=>.nil
 | _,_,n+1,.cons _ t=>Vals.drop n t
noncomputable def RelO:Option V→Option Value→Prop
 | some v,some u=>RelV v u
 | none,none=>True
 | _,_=>False
noncomputable def KV {κ:Type}:List (κ×V)→List (κ×Value)→Prop:=Paired fun (p:κ×V) (q:κ×Value)=>p.1=q.1∧RelV p.2 q.2
noncomputable def kV:Key→V
 | .inl i=>.int i
 | .inr x=>.str x
inductive HO where
  | lst (xs:List V)
  | tup (xs:List V)
  | dK (kvs:List (Key×V))|dT (kvs:List (List Key×V))
  | set (S:Int→Bool) (n:Nat)
  | ins (C dx:Addr) (fs:List (Str×V))
  | own (x:Addr)
  | xd (fs:List (Str×V))
  | met (f x:Addr)
  | rng (lo hi:Int)
  | frz (o:Obj) (u:HO)
  | tbl (ps:Array Value)
  | ext (φ:Heap→Prop)
noncomputable abbrev Hp:=Addr→Option HO
noncomputable def upd (H:Hp) (a:Addr) (o:HO):Hp:=fun b=>if b=a then some o else H b
theorem zbp {H:Hp} {a:Addr} {o:HO}:upd H a o a=some o:=by unfold upd;rw [if_pos rfl]
theorem zcj {H:Hp} {a b:Addr} {o:HO} (h:b≠a):upd H a o b=H b:=by unfold upd;rw [if_neg h]
theorem zaoq {H:Hp} {a:Addr} {o u:HO}:upd (upd H a o) a u=upd H a u:=by
 funext b;unfold upd;split<;>rfl
theorem zaun {H:Hp} {a b:Addr} {o u:HO} (h:H a=some o) (h':H b=some u) (d:o≠u):a≠b:=by
 intro e;subst e;rw [h] at h';exact d (qr h')
theorem zcg {H:Hp} {a b:Addr} {o:HO} (h:H a=some o) (h':H b=none):a≠b:=by
 intro e;subst e;rw [h] at h';cases h'
section
variable (P:Program) (w:World)
noncomputable def zgu (H:Hp) (h:Heap) (a:Addr):HO→Prop
 | .lst xs=>xs.length≤qj∧∃ (its:List Value) (n:Nat),Vals xs its∧h.get? a=some {cls:=.type "list",data:=.seq its.toArray n}
 | .tup xs=>xs.length≤qj∧∃ its:List Value,Vals xs its∧IsTup h a its.toArray
 | .dK kvs=>kvs.length≤qj∧(a==sysModules)=false∧∃ vs,KV kvs vs∧h.DictOf (zfj P w) a vs
 | .dT kvs=>kvs.length≤qj∧(a==sysModules)=false∧∃ xs:List (List Key×Addr×Value),
   Paired (fun (p:List Key×V) (q:List Key×Addr×Value)=>p.1=q.1∧H q.2.1=some (.tup (p.1.map kV))∧RelV p.2 q.2.2) kvs xs ∧
   ∃ o es ep,h.get? a=some o∧o.ExactDict∧o.data=.dict es ep∧es.toList=xs.map (entryOfKey (tupleKind (zfj P w)))∧(xs.map (·.1)).Nodup
 | .set S n=>h.SetOf (intKind P w) a S n
 | .ins C dx fs=>H dx=some (.own a)∧fs.length≤1000∧dx≠a∧h.get? a=some (PySem.W.instObj C dx) ∧
   ∃ mA,h.Ns1 dx mA∧(∀ f,RelO (fs.lookup f) (mA f))∧PySem.Within mA (fs.map (·.1))
 | .own _=>∃ o,h.get? a=some o
 | .xd fs=>∃ mA,h.Ns1 a mA∧∀ f,RelO (fs.lookup f) (mA f)
 | .rng lo hi=>∃ t u v,h.get? a=some {cls:=.type "range",data:=.fields #[.int lo t,.int hi u,.int 1 v]}
 | .frz o u=>h.get? a=some o∧zgu H h a u
 | .tbl ps=>h.get? a=some {cls:=.none,data:=.fields ps}
 | .met f x=>h.get? a=some (PySem.W.methodObj (.ref f) (.ref x))
 | .ext φ=>φ h∧(∃ o,h.get? a=some o)∧∀ h1 h2:Heap,φ h1→(∀ o,h1.get? a=some o→h2.get? a=some o)→φ h2
noncomputable def HOk (H:Hp) (h:Heap):Prop:=∀ a o,H a=some o→zgu P w H h a o
end
section
variable {P:Program} {w:World} {H H':Hp} {h h':Heap} {a:Addr} {o:HO}
theorem zgu.lt (x:zgu P w H h a o):a<h.objs.size:=by
 cases o with
 | lst xs=>obtain ⟨_,_,_,_,e⟩:=x;exact qU e
 | tup xs=>obtain ⟨_,_,_,p⟩:=x;exact p.lt
 | dK kvs=>obtain ⟨_,_,_,_,o,_,_,e,_⟩:=x;exact qU e
 | dT kvs=>obtain ⟨_,_,_,_,o,_,_,e,_⟩:=x;exact qU e
 | set S n=>obtain ⟨o,_,_,_,e,_⟩:=x;exact qU e
 | ins C dx fs=>obtain ⟨_,_,_,e,_⟩:=x;exact qU e
 | own y=>obtain ⟨_,e⟩:=x;exact qU e
 | xd fs=>obtain ⟨_,⟨_,_,_,e,_⟩,_⟩:=x;exact qU e
 | rng lo hi=>obtain ⟨_,_,_,e⟩:=x;exact qU e
 | frz ob u=>obtain ⟨e,_⟩:=x;exact qU e
 | tbl ps=>exact qU (show h.get? a=some _ from x)
 | met f y=>exact qU (show h.get? a=some _ from x)
 | ext φ=>obtain ⟨_,⟨_,e⟩,_⟩:=x;exact qU e
theorem Paired.mapP {α β:Type} {F G:α→β→Prop}:∀ {l₁:List α} {l₂:List β},Paired F l₁ l₂→(∀ a b,F a b→G a b)→Paired G l₁ l₂
 | _,_,.nil,_=>.nil
 | _,_,.cons r t,f=>.cons (f _ _ r) (Paired.mapP t f)
theorem zgu.stay (x:zgu P w H h a o) (k:∀ b u,(b=a∨H b=some (.own a))→h.get? b=some u→h'.get? b=some u)
  (ho:∀ b,H b=some (.own a)→H' b=some (.own a)) (ht:∀ b xs,H b=some (.tup xs)→H' b=some (.tup xs)):zgu P w H' h' a o:=by
 induction o with
 | lst xs=>obtain ⟨z,its,n,r,e⟩:=x;exact ⟨z,its,n,r,k _ _ (.inl rfl) e⟩
 | tup xs=>obtain ⟨z,its,r,ob,e,c⟩:=x;exact ⟨z,its,r,ob,k _ _ (.inl rfl) e,c⟩
 | dK kvs=>obtain ⟨z,y,vs,r,ob,es,ep,e,c⟩:=x;exact ⟨z,y,vs,r,ob,es,ep,k _ _ (.inl rfl) e,c⟩
 | dT kvs =>
  obtain ⟨z,y,xs,r,ob,es,ep,e,c⟩:=x
  exact ⟨z,y,xs,Paired.mapP r fun p q z=>⟨z.1,ht _ _ z.2.1,z.2.2⟩,ob,es,ep,k _ _ (.inl rfl) e,c⟩
 | set S n=>obtain ⟨ob,es,ep,t,e,c⟩:=x;exact ⟨ob,es,ep,t,k _ _ (.inl rfl) e,c⟩
 | ins C dx fs =>
  obtain ⟨d,z,ne,e,mA,⟨od,es,ep,e2,c⟩,r⟩:=x
  exact ⟨ho _ d,z,ne,k _ _ (.inl rfl) e,mA,⟨od,es,ep,k _ _ (.inr d) e2,c⟩,r⟩
 | own y=>obtain ⟨ob,e⟩:=x;exact ⟨ob,k _ _ (.inl rfl) e⟩
 | xd fs=>obtain ⟨mA,⟨od,es,ep,e,c⟩,r⟩:=x;exact ⟨mA,⟨od,es,ep,k _ _ (.inl rfl) e,c⟩,r⟩
 | rng lo hi=>obtain ⟨t,u,v,e⟩:=x;exact ⟨t,u,v,k _ _ (.inl rfl) e⟩
 | frz ob u ih=>obtain ⟨e,q⟩:=x;exact ⟨k _ _ (.inl rfl) e,ih q⟩
 | tbl ps =>
  have e:h.get? a=some {cls:=.none,data:=.fields ps}:=x
  show h'.get? a=some {cls:=.none,data:=.fields ps}
  exact k a _ (.inl rfl) e
 | met f y =>
  have e:h.get? a=some (PySem.W.methodObj (.ref f) (.ref y)):=x
  show h'.get? a=some (PySem.W.methodObj (.ref f) (.ref y))
  exact k a _ (.inl rfl) e
 | ext φ=>obtain ⟨p,⟨o,e⟩,st⟩:=x;exact ⟨st _ _ p fun o q=>k _ _ (.inl rfl) q,⟨o,k _ _ (.inl rfl) e⟩,st⟩
theorem HOk.lt (x:HOk P w H h) (e:H a=some o):a<h.objs.size:=(x a o e).lt
theorem HOk.fresh (x:HOk P w H h) (e:h.objs.size≤a):H a=none:=by
 cases q:H a with
 | none=>rfl
 | some u=>exact absurd (qt (x.lt q) e) (qA4 _)
theorem HOk.kept (x:HOk P w H h) (k:∀ b u,h.get? b=some u→h'.get? b=some u):HOk P w H h':=fun a o e =>
 (x a o e).stay (fun b u _ q=>k b u q) (fun _ q=>q) fun _ _ q=>q
theorem HOk.laid (x:HOk P w H h) (k:∀ b u,h.get? b=some u→h'.get? b=some u) (hp:h.objs.size≤a) (new:zgu P w (upd H a o) h' a o):HOk P w (upd H a o) h':=fun b u e=>by
 have hn:=x.fresh hp
 by_cases hb:b=a
 ·subst hb;rw [zbp] at e;cases e;exact new
 ·rw [zcj hb] at e
  exact (x b u e).stay (fun c v _ q=>k c v q) (fun c q=>by rw [zcj (zcg q hn)];exact q) fun c xs q=>by rw [zcj (zcg q hn)];exact q
end
noncomputable def Rd (H:Hp) (a:Addr) (u:HO):Prop:=H a=some u∨∃ o,H a=some (.frz o u)
theorem Rd.ok {P:Program} {w:World} {H:Hp} {h:Heap} {a:Addr} {u:HO} (r:Rd H a u) (x:HOk P w H h):zgu P w H h a u:=by
 rcases r with r|⟨o,r⟩
 ·exact x a u r
 ·obtain ⟨_,q⟩:=x a _ r
  exact q
noncomputable def Mut:Option HO→Prop
 | some (.lst _)=>True
 | some (.dK _)=>True
 | some (.dT _)=>True
 | some (.set _ _)=>True
 | some (.ins _ _ _)=>True
 | some (.ext _)=>True
 | _=>False
section
variable {P:Program} {w:World} {H:Hp} {h h':Heap} {x e:Addr} {o':HO}
theorem HOk.write (ok:HOk P w H h) (mu:Mut (H x)) (he:e=x∨H e=some (.own x)) (k:∀ b u,b≠e→h.get? b=some u→h'.get? b=some u) (heo:∃ u,h'.get? e=some u)
  (new:zgu P w (upd H x o') h' x o'):HOk P w (upd H x o') h':=fun b u q=>by
 have nown:∀ c y,H c=some (.own y)→c≠x:=fun c y r z=>by subst z;rw [r] at mu;exact mu
 have ntup:∀ c xs,H c=some (.tup xs)→c≠x:=fun c xs r z=>by subst z;rw [r] at mu;exact mu
 by_cases hb:b=x
 ·subst hb;rw [zbp] at q;cases q;exact new
 ·rw [zcj hb] at q
  by_cases hbe:b=e
  ·have q':H b=some (.own x):=by
    rcases he with z|z
    ·exact absurd (hbe.trans z) hb
    ·rw [hbe];exact z
   rw [q] at q';cases q'
   obtain ⟨v,hv⟩:=heo
   exact ⟨v,by rw [hbe];exact hv⟩
  ·refine (ok b u q).stay (fun c v hc r=>k c v ?_ r) (fun c r=>by rw [zcj (nown c b r)];exact r) fun c xs r=>by rw [zcj (ntup c xs r)];exact r
   rcases hc with rfl|hc
   ·exact hbe
   ·rintro rfl
    rcases he with z|z
    ·exact nown c b hc z
    ·rw [hc] at z;cases z;exact hb rfl
end
set_option genInjectivity false in
structure Un (fs ex:List Addr) (H H':Hp) (h h':Heap):Prop where
 keep:∀ b o,h.get? b=some o→H b=none→b∉fs→b∉ex→h'.get? b=some o
 slot:∀ b o,h.get? b=some o→H b=none→b∈fs→b∉ex→∃ sl,h'.get? b=some {o with slots:=sl}
 free:∀ b o,h.get? b=some o→H b=none→b∉ex→H' b=none
 there:∀ b o,h.get? b=some o→b∉ex→∃ o',h'.get? b=some o'
 tups:∀ b xs,H b=some (.tup xs)→H' b=some (.tup xs)
 frzs:∀ b o u,H b=some (.frz o u)→H' b=some (.frz o u)
 tbls:∀ b ps,H b=some (.tbl ps)→∃ more,H' b=some (.tbl (ps++more))
section
variable {fs fs' ex ex':List Addr} {H H1 H2:Hp} {h h1 h2 h':Heap} {a x e:Addr} {o:HO}
theorem Un.any (u:Un fs ex H H1 h h1) {b:Addr} {ob:Obj} (q:h.get? b=some ob) (n:H b=none) (hx:b∉ex):∃ sl,h1.get? b=some {ob with slots:=sl}:=by
 by_cases hb:b∈fs
 ·exact u.slot b ob q n hb hx
 ·exact ⟨ob.slots,u.keep b ob q n hb hx⟩
theorem Un.kept (k:∀ b u,h.get? b=some u→h'.get? b=some u):Un fs ex H H h h' :=
 ⟨fun b ob q _ _ _=>k b ob q,fun b ob q _ _ _=>⟨ob.slots,k b ob q⟩,fun _ _ _ n _=>n,fun b ob q _=>⟨ob,k b ob q⟩,fun _ _ q=>q,fun _ _ _ q=>q,fun _ ps q=>⟨#[],by rw [q];simp⟩⟩
theorem Un.refl:Un fs ex H H h h:=Un.kept fun _ _ q=>q
theorem Un.laid (k:∀ b u,h.get? b=some u→h'.get? b=some u) (hp:h.objs.size≤a) (hn:H a=none):Un fs ex H (upd H a o) h h' where
 keep:=fun b u q _ _ _=>k b u q
 slot:=fun b u q _ _ _=>⟨u.slots,k b u q⟩
 free:=fun b u q n _=>by rw [zcj (qx (qt (qU q) hp))];exact n
 there:=fun b u q _=>⟨u,k b u q⟩
 tups:=fun b xs q=>by rw [zcj (zcg q hn)];exact q
 frzs:=fun b u xs q=>by rw [zcj (zcg q hn)];exact q
 tbls:=fun b ps q=>⟨#[],by rw [zcj (zcg q hn),q];simp⟩
theorem Un.write (mu:Mut (H x)) (he:e=x∨H e=some (.own x)) (k:∀ b u,b≠e→h.get? b=some u→h'.get? b=some u) (heo:∃ u,h'.get? e=some u):Un fs ex H (upd H x o) h h':=by
 have hx:∀ b,H b=none→b≠x:=fun b n z=>by subst z;rw [n] at mu;exact mu
 have hb:∀ b,H b=none→b≠e:=fun b n z=>by
  subst z
  rcases he with r|r
  ·exact hx b n r
  ·rw [n] at r;cases r
 have hm:∀ b u,H b=some u→¬ Mut (some u)→b≠x:=fun b u q nm z=>by subst z;rw [q] at mu;exact nm mu
 refine ⟨fun b u q n _ _=>k b u (hb b n) q,fun b u q n _ _=>⟨u.slots,k b u (hb b n) q⟩,fun b u q n _=>by rw [zcj (hx b n)];exact n,fun b u q _=>?_,
  fun b xs q=>by rw [zcj (hm b _ q fun z=>z)];exact q,fun b u xs q=>by rw [zcj (hm b _ q fun z=>z)];exact q,fun b ps q=>⟨#[],by rw [zcj (hm b _ q fun z=>z),q];simp⟩⟩
 by_cases hbe:b=e
 ·subst hbe;exact heo
 ·exact ⟨u,k b u hbe q⟩
end
noncomputable def trk (h:Heap) (H:Hp):List Addr:=(List.range h.objs.size).filter fun a=>(H a).isSome
noncomputable def hidT (h:Heap) (H:Hp):Heap:=PySem.W.hideAll h (trk h H)
theorem zagc (h:Heap) (H:Hp):(hidT h H).objs.size=h.objs.size:=PySem.W.hideAll_size _ _
theorem zakt {h:Heap} {H:Hp} {b:Addr} {o:Obj} (e:h.get? b=some o) (n:H b=none):(hidT h H).get? b=some o :=
 PySem.W.hideAll_get _ e fun hm=>by
  have q:(H b).isSome=true:=(qh.mp hm).2
  rw [n] at q;simp at q
theorem zaor {h:Heap} {H:Hp} {b:Addr} {o:Obj} (e:(hidT h H).get? b=some o):h.get? b=some o∧H b=none:=by
 have e':h.get? b=some o:=PySem.W.of_hideAll (trk h H) e
 refine ⟨e',?_⟩
 cases q:H b with
 | none=>rfl
 | some x =>
  have hm:b∈trk h H:=qh.mpr ⟨qAT.mpr (qU e'),by simp [q]⟩
  have z:(hidT h H).get? b=none:=PySem.W.hideAll_none (trk h H) hm
  rw [z] at e;cases e
set_option genInjectivity false in
structure Mod (K:qB) (mg:Str→Option Value) (base:Heap):Prop where
 kin:K.In base
 glob:base.Ns qM mg
 blt:∃ mb,base.Ns builtinsNs mb∧∀ x:Str,x ≠ "__name__" → mb x=bootBuiltins x
 nolimit:base.NoLimit
set_option genInjectivity false in
structure Cx where
 prog:Program
 w:World
 K:qB
 mg:Str→Option Value
 base:Heap
 A:Around
 N:List Str
 s₀:Shared
 H₀:Hp
 env:Env
 outer:List Env
 stack:List Env
 ex:List Addr
 fn:Str→Bool
 calm:Bool
 pn:List (Addr×Obj)
 xe:Value→Shared→Prop
noncomputable def frs (l:List Env):List Addr:=l.filterMap (·.frame)
noncomputable abbrev Cx.fs (X:Cx):List Addr:=frs X.outer
noncomputable def Vis (sc:Scope) (x:Str):Prop:=sc.names.lookup x=some .local∨sc.names.lookup x=some .cell∨sc.names.lookup x=some .free
noncomputable def visB (sc:Scope) (x:Str):Bool:=match sc.names.lookup x with
 | some .local=>true
 | some .cell=>true
 | some .free=>true
 | _=>false
theorem visB.of {sc:Scope} {x:Str} (h:visB sc x=true):Vis sc x:=by
 unfold visB at h
 cases e:sc.names.lookup x with
 | none=>rw [e] at h;cases h
 | some k=>rw [e] at h;cases k<;>first|exact .inl e|exact .inr (.inl e)|exact .inr (.inr e)|cases h
noncomputable def Loc (sc:Scope) (x:Str):Prop:=sc.names.lookup x=some .local∨sc.names.lookup x=some .cell
noncomputable def Look (env:Env) (h:Heap) (m:Str→Option Value) (x:Str) (u:Value):Prop :=
 (env.kindOf x=some .local∧m x=some u)∨((env.kindOf x=some .cell∨env.kindOf x=some .free)∧∃ c,env.cells.lookup x=some c∧h.IsCell c (some u))
set_option genInjectivity false in
structure Cx.Ok (X:Cx):Prop where
 mod:Mod X.K X.mg X.base
 kind:X.env.scope.kind=.function
 glob:X.env.globals=qM
 blt:X.env.builtins=builtinsNs
 above:X.s₀.heap.objs.size≤X.env.locals
 inj:∀ x y c,X.env.cells.lookup x=some c→X.env.cells.lookup y=some c→x=y
 has:∀ x,(X.env.kindOf x=some .cell∨X.env.kindOf x=some .free)→∃ c,X.env.cells.lookup x=some c
 cab:∀ x c,X.fn x=true→X.env.cells.lookup x=some c→X.s₀.heap.objs.size≤c
 hd:X.calm=true→X.A.handled=none
 frames:X.A.frames=some X.stack
 stk:X.stack=X.outer∨(X.stack=X.env::X.outer∧X.env.frame=some X.env.locals)
 exf:∀ b∈X.ex,b≠X.env.locals∧∀ x c,X.env.cells.lookup x=some c→c≠b
 bs:∀ b o,X.base.get? b=some o→X.s₀.heap.get? b=some o∧X.H₀ b=none
 bsz:X.base.objs.size≤X.s₀.heap.objs.size
 noex:∀ b o,X.base.get? b=some o→b∉X.ex
 exfs:∀ b∈X.ex,b∉X.fs
 funs:X.s₀.heap.FunFrames X.base X.outer
 frf:∀ b∈X.fs,X.H₀ b=none
set_option genInjectivity false in
structure Inv (X:Cx) (pins:List (Addr×Obj)) (σ:List (Option V)) (H:Hp) (s:Shared):Prop where
 ok:X.Ok
 os:s.os=X.s₀.os
 bare:AllBare s.gens
 base:Un X.fs X.ex X.H₀ H X.s₀.heap s.heap
 loc:∃ m,s.heap.Ns X.env.locals m∧∀ (i:Nat) (x:Str) (v:V),X.N[i]?=some x→σ[i]?=some (some v)→Vis X.env.scope x→∃ u,RelV v u∧Look X.env s.heap m x u
 cell:∀ x c,X.env.cells.lookup x=some c→∃ v,s.heap.IsCell c v
 free:H X.env.locals=none
 freeC:∀ x c,X.env.cells.lookup x=some c→H c=none
 pin:∀ p∈X.pn++pins,s.heap.get? p.1=some p.2∧H p.1=none∧p.1≠X.env.locals∧p.1∉X.fs∧∀ v,p.2.data≠.cell v
 hok:HOk X.prog X.w H s.heap
 len:σ.length=X.N.length
section
variable {X:Cx} {pins:List (Addr×Obj)} {σ:List (Option V)} {H H':Hp} {s:Shared} {h':Heap}
theorem Cx.Ok.nofr (ok:X.Ok) {b:Addr} {o:Obj} (e:X.base.get? b=some o):b∉X.fs:=fun hb=>by
 have:=(ok.funs.mem hb).1
 rw [e] at this;cases this
theorem Inv.bs (I:Inv X pins σ H s):∀ b o,X.base.get? b=some o→s.heap.get? b=some o∧H b=none:=fun b o e =>
 ⟨I.base.keep b o (I.ok.bs b o e).1 (I.ok.bs b o e).2 (I.ok.nofr e) (I.ok.noex b o e),I.base.free b o (I.ok.bs b o e).1 (I.ok.bs b o e).2 (I.ok.noex b o e)⟩
theorem Inv.bk (I:Inv X pins σ H s):∀ b o,X.base.get? b=some o→s.heap.get? b=some o:=fun b o e=>(I.bs b o e).1
theorem Inv.mod (I:Inv X pins σ H s):Mod X.K X.mg X.base:=I.ok.mod
theorem Inv.kIn (I:Inv X pins σ H s):X.K.In s.heap:=I.ok.mod.kin.keeps I.bk
theorem Inv.lt (I:Inv X pins σ H s):X.env.locals<s.heap.objs.size:=let ⟨_,hn,_⟩:=I.loc;hn.lt
theorem Inv.sz (I:Inv X pins σ H s):X.s₀.heap.objs.size≤s.heap.objs.size:=qAW I.ok.above (qCu I.lt)
theorem Inv.nofs (I:Inv X pins σ H s) {a:Addr} (h:s.heap.objs.size≤a):a∉X.fs:=fun hb=>by
 obtain ⟨_,o,ho,_⟩:=I.ok.funs.mem hb
 exact absurd (qt (qU ho) (qAW I.sz h)) (qA4 _)
theorem Inv.cne (I:Inv X pins σ H s):∀ x c,X.env.cells.lookup x=some c→c≠X.env.locals:=fun x c e z=>by
 obtain ⟨v,o,ho,hd⟩:=I.cell x c e
 obtain ⟨m,⟨o',es,ep,ho',hd',_⟩,_⟩:=I.loc
 rw [z,ho'] at ho;cases ho;rw [hd'] at hd;cases hd
theorem Inv.funs (I:Inv X pins σ H s):s.heap.FunFrames X.base X.outer:=by
 have all:∀ (l:List Env),(∀ b∈frs l,b∈X.fs)→X.s₀.heap.FunFrames X.base l→s.heap.FunFrames X.base l:=by
  intro l
  induction l with
  | nil=>intro _ _;trivial
  | cons env r ih =>
   intro hs hl
   obtain ⟨hk,⟨L,o,hf,hn,ho,hd⟩,hr⟩:=hl
   have hL:L∈X.fs:=hs L (by unfold frs;rw [qBv,hf];exact qc)
   obtain ⟨sl,e⟩:=I.base.slot L o ho (I.ok.frf L hL) hL fun z=>I.ok.exfs L z hL
   exact ⟨hk,⟨L,_,hf,hn,e,hd⟩,ih (fun b hb=>hs b (by unfold frs;rw [qBv,hf];exact qT _ hb)) hr⟩
 exact all X.outer (fun _ hb=>hb) I.ok.funs
theorem Inv.stack (I:Inv X pins σ H s):s.heap.FunFrames X.base X.stack:=by
 rcases I.ok.stk with e|⟨e,hf⟩
 ·rw [e];exact I.funs
 ·rw [e]
  obtain ⟨m,hn,_⟩:=I.loc
  refine .cons (by rw [I.ok.kind];decide) hf hn ?_ I.funs
  exact Heap.get?_none_of_le (qAW I.ok.bsz I.ok.above)
theorem Inv.stkSub (I:Inv X pins σ H s):∀ b∈frs X.stack,b∈X.env.locals::X.fs:=fun b hb=>by
 rcases I.ok.stk with e|⟨e,hf⟩
 ·rw [e] at hb;exact qT _ hb
 ·rw [e] at hb
  unfold frs at hb
  rw [qBv,hf] at hb
  exact hb
theorem Inv.stkFree (I:Inv X pins σ H s):∀ b∈frs X.stack,H b=none:=fun b hb=>by
 rcases qe.mp (I.stkSub b hb) with e|hb
 ·rw [e];exact I.free
 ·obtain ⟨_,o,ho,_⟩:=I.ok.funs.mem hb
  exact I.base.free b o ho (I.ok.frf b hb) fun z=>I.ok.exfs b z hb
theorem Inv.step {g':Array GenState} {t':Nat} {d':Drawn} {ch:List Addr} (I:Inv X pins σ H s)
  (hch:∀ b∈ch,(b∈X.ex∨X.s₀.heap.objs.size≤b)∧b≠X.env.locals∧(∀ x c,X.env.cells.lookup x=some c→c≠b)∧∀ p∈X.pn++pins,p.1≠b)
  (keep:∀ b o,b≠X.env.locals→b∉X.fs→b∉ch→s.heap.get? b=some o→H b=none→h'.get? b=some o)
  (slot:∀ b o,b≠X.env.locals→b∈X.fs→b∉ch→s.heap.get? b=some o→H b=none→∃ sl,h'.get? b=some {o with slots:=sl}) (free:∀ b o,b∉ch→s.heap.get? b=some o→H b=none→H' b=none)
  (there:∀ b o,b∉ch→s.heap.get? b=some o→∃ o',h'.get? b=some o')
  (tups:∀ b xs,H b=some (.tup xs)→H' b=some (.tup xs)) (frzs:∀ b o u,H b=some (.frz o u)→H' b=some (.frz o u)) (tbls:∀ b ps,H b=some (.tbl ps)→∃ more,H' b=some (.tbl (ps++more)))
  (ns:∀ m,s.heap.Ns X.env.locals m→h'.Ns X.env.locals m) (hok:HOk X.prog X.w H' h') (hg:AllBare g') :
  Inv X pins σ H' {s with heap:=h',gens:=g',drawn:=d',toks:=t'}:=by
 have neL:∀ b o,X.s₀.heap.get? b=some o→b≠X.env.locals:=fun b o e=>qx (qt (qU e) I.ok.above)
 have neC:∀ b o,X.s₀.heap.get? b=some o→b∉X.ex→b∉ch:=fun b o e hx hb=>by
  rcases (hch b hb).1 with z|z
  ·exact hx z
  ·exact absurd (qt (qU e) z) (qA4 _)
 have cellK:∀ x c,X.env.cells.lookup x=some c→∀ v,s.heap.IsCell c v→h'.IsCell c v:=fun x c e v ⟨o,ho,hd⟩=>by
  have nch:c∉ch:=fun z=>(hch c z).2.2.1 x c e rfl
  by_cases hc:c∈X.fs
  ·obtain ⟨sl,q⟩:=slot c o (I.cne x c e) hc nch ho (I.freeC x c e)
   exact ⟨_,q,hd⟩
  ·exact ⟨o,keep c o (I.cne x c e) hc nch ho (I.freeC x c e),hd⟩
 refine ⟨I.ok,I.os,hg,⟨fun b o e n hb hx=>?_,fun b o e n hb hx=>?_,fun b o e n hx=>?_,fun b o e hx=>?_,fun b xs e=>tups b xs (I.base.tups b xs e),fun b o xs e=>frzs b o xs (I.base.frzs b o xs e),fun b ps e=>?_⟩,?_,fun x c e=>?_,?_,fun x c e=>?_,fun p hp=>?_,hok,I.len⟩
 ·exact keep b o (neL b o e) hb (neC b o e hx) (I.base.keep b o e n hb hx) (I.base.free b o e n hx)
 ·obtain ⟨sl,e1⟩:=I.base.slot b o e n hb hx
  obtain ⟨sl',e2⟩:=slot b _ (neL b o e) hb (neC b o e hx) e1 (I.base.free b o e n hx)
  exact ⟨sl',e2⟩
 ·obtain ⟨o',e1⟩:=I.base.there b o e hx
  exact free b o' (neC b o e hx) e1 (I.base.free b o e n hx)
 ·obtain ⟨o',e1⟩:=I.base.there b o e hx
  exact there b o' (neC b o e hx) e1
 ·obtain ⟨m1,e1⟩:=I.base.tbls b ps e
  obtain ⟨m2,e2⟩:=tbls b _ e1
  exact ⟨m1++m2,by rw [e2,Array.append_assoc]⟩
 ·obtain ⟨m,hn,hl⟩:=I.loc
  refine ⟨m,ns m hn,fun i x v e1 e2 e3=>?_⟩
  obtain ⟨u,r,l⟩:=hl i x v e1 e2 e3
  refine ⟨u,r,?_⟩
  rcases l with l|⟨k,c,e,z⟩
  ·exact .inl l
  ·exact .inr ⟨k,c,e,cellK x c e _ z⟩
 ·obtain ⟨v,z⟩:=I.cell x c e
  exact ⟨v,cellK x c e v z⟩
 ·obtain ⟨m,⟨o,_,_,ho,_⟩,_⟩:=I.loc
  exact free _ o (fun z=>(hch _ z).2.1 rfl) ho I.free
 ·obtain ⟨v,o,ho,hd⟩:=I.cell x c e
  exact free c o (fun z=>(hch c z).2.2.1 x c e rfl) ho (I.freeC x c e)
 ·obtain ⟨e,n,ne,nf,d⟩:=I.pin p hp
  have nch:p.1∉ch:=fun z=>(hch p.1 z).2.2.2 p hp rfl
  exact ⟨keep p.1 p.2 ne nf nch e n,free p.1 p.2 nch e n,ne,nf,d⟩
theorem Inv.un {t':Nat} (I:Inv X pins σ H s) (u:Un X.fs [] H H' s.heap h') (hok:HOk X.prog X.w H' h'):Inv X pins σ H' {s with heap:=h',toks:=t'}:=by
 obtain ⟨m,⟨o,es,ep,ho,r⟩,_⟩:=id I.loc
 obtain ⟨sl,hL⟩:=u.any ho I.free (by simp)
 exact I.step (g':=s.gens) (d':=s.drawn) (ch:=[]) (fun _ z=>nomatch z) (fun b o _ hb _ e n=>u.keep b o e n hb (by simp)) (fun b o _ hb _ e n=>u.slot b o e n hb (by simp)) (fun b o _ e n=>u.free b o e n (by simp)) (fun b o _ e=>u.there b o e (by simp)) u.tups u.frzs u.tbls (fun m' hm=>by
  obtain ⟨o',es',ep',ho',r'⟩:=hm
  rw [ho] at ho';cases ho'
  exact ⟨_,es',ep',hL,r'⟩) hok I.bare
theorem Inv.call {g':Array GenState} {t':Nat} {d':Drawn} {ch:List Addr} (I:Inv X pins σ H s) (u:Un (frs X.stack) ch H H' s.heap h') (hok:HOk X.prog X.w H' h') (hg:AllBare g')
  (hch:∀ b∈ch,(b∈X.ex∨X.s₀.heap.objs.size≤b)∧b≠X.env.locals∧(∀ x c,X.env.cells.lookup x=some c→c≠b)∧∀ p∈X.pn++pins,p.1≠b) :
  Inv X pins σ H' {s with heap:=h',gens:=g',drawn:=d',toks:=t'}:=by
 obtain ⟨m,⟨o,es,ep,ho,r⟩,_⟩:=id I.loc
 obtain ⟨sl,hL⟩:=u.any ho I.free fun z=>(hch _ z).2.1 rfl
 exact I.step (ch:=ch) hch (fun b o hL hb hc e n=>u.keep b o e n (fun z=>(qe.mp (I.stkSub b z)).elim hL hb) hc) (fun b o _ _ hc e n=>u.any e n hc) (fun b o hc e n=>u.free b o e n hc) (fun b o hc e=>u.there b o e hc) u.tups u.frzs u.tbls (fun m' hm=>by
  obtain ⟨o',es',ep',ho',r'⟩:=hm
  rw [ho] at ho';cases ho'
  exact ⟨_,es',ep',hL,r'⟩) hok hg
theorem Inv.turned {t':Nat} {it:Addr} (I:Inv X pins σ H s) (k:∀ b o,b≠it→s.heap.get? b=some o→h'.get? b=some o) (hn:H it=none) (hL:it≠X.env.locals)
  (h1:it∈X.ex∨X.s₀.heap.objs.size≤it) (h2:∀ x c,X.env.cells.lookup x=some c→c≠it) (h3:∀ p∈X.pn++pins,p.1≠it):Inv X pins σ H {s with heap:=h',toks:=t'}:=by
 have nit:∀ b u,H b=some u→b≠it:=fun b u e z=>by rw [z,hn] at e;cases e
 refine I.step (g':=s.gens) (d':=s.drawn) (ch:=[it]) (fun b hb=>?_) (fun b o _ _ hc e _=>k b o (fun z=>hc (by simp [z])) e) (fun b o _ _ hc e _=>⟨o.slots,k b o (fun z=>hc (by simp [z])) e⟩) (fun _ _ _ _ n=>n)
  (fun b o hc e=>⟨o,k b o (fun z=>hc (by simp [z])) e⟩) (fun _ _ e=>e) (fun _ _ _ e=>e) (fun b ps e=>⟨#[],by rw [e];simp⟩) (fun m hm=>?_) (fun b u e=>?_) I.bare
 ·have e:b=it:=by simpa using hb
  subst e
  exact ⟨h1,hL,h2,h3⟩
 ·obtain ⟨o,es,ep,ho,r⟩:=hm
  exact ⟨o,es,ep,k _ o (qA2 hL) ho,r⟩
 ·refine (I.hok b u e).stay (fun c v hc q=>k c v ?_ q) (fun _ q=>q) fun _ _ q=>q
  rcases hc with z|z
  ·rw [z];exact nit b u e
  ·exact nit c _ z
theorem Inv.tok (I:Inv X pins σ H s) (t:Nat):Inv X pins σ H {s with toks:=t}:=I.un (h':=s.heap) (t':=t) Un.refl I.hok
theorem Inv.kept {t':Nat} (I:Inv X pins σ H s) (k:∀ b u,s.heap.get? b=some u→h'.get? b=some u):Inv X pins σ H {s with heap:=h',toks:=t'}:=I.un (Un.kept k) (I.hok.kept k)
theorem Inv.laid {a:Addr} {o:HO} {t':Nat} (I:Inv X pins σ H s) (k:∀ b u,s.heap.get? b=some u→h'.get? b=some u) (hp:s.heap.objs.size≤a) (new:zgu X.prog X.w (upd H a o) h' a o) :
  Inv X pins σ (upd H a o) {s with heap:=h',toks:=t'}:=I.un (Un.laid k hp (I.hok.fresh hp)) (I.hok.laid k hp new)
theorem Inv.write {x e:Addr} {o:HO} {t':Nat} (I:Inv X pins σ H s) (mu:Mut (H x)) (he:e=x∨H e=some (.own x)) (k:∀ b u,b≠e→s.heap.get? b=some u→h'.get? b=some u) (heo:∃ u,h'.get? e=some u)
  (new:zgu X.prog X.w (upd H x o) h' x o):Inv X pins σ (upd H x o) {s with heap:=h',toks:=t'}:=I.un (Un.write mu he k heo) (I.hok.write mu he k heo new)
theorem Inv.pins_of {pins':List (Addr×Obj)} (I:Inv X pins σ H s) (h:∀ p∈pins',s.heap.get? p.1=some p.2∧H p.1=none∧p.1≠X.env.locals∧p.1∉X.fs∧∀ v,p.2.data≠.cell v):Inv X pins' σ H s :=
 ⟨I.ok,I.os,I.bare,I.base,I.loc,I.cell,I.free,I.freeC,fun p hp=>(qAA.mp hp).elim (fun z=>I.pin p (qz _ z)) (h p),I.hok,I.len⟩
theorem zack {N:List Str} (hN:N.Nodup) {i j:Nat} {x:Str} (a:N[i]?=some x) (b:N[j]?=some x):i=j:=by
 obtain ⟨h1,e1⟩:=qN.mp a
 obtain ⟨h2,e2⟩:=qN.mp b
 exact (List.getElem_inj hN).mp (e1.trans e2.symm)
theorem zxe {M:Model} {A:Around} {E:Value→Shared→Prop} {i:Nat} {x:Str} {v:V} {u:Value} {Q:Unit→Shared→Prop} (I:Inv X pins σ H s) (hN:X.N.Nodup) (hi:X.N[i]?=some x) (hx:Loc X.env.scope x) (r:RelV v u)
  (h:∀ s',Inv X pins (σ.set i (some v)) H s'→(∃ a,Heap.SameBut a s.heap s'.heap∧(a=X.env.locals∨X.env.cells.lookup x=some a))→Q () s') (hf:X.fn x=true∨X.env.scope.names.lookup x=some .local:=by assumption):wpAny M A (storeName X.env x u) Q E s:=by
 obtain ⟨m,hn,hl⟩:=id I.loc
 have hcls:(X.env.scope.kind==.class||(X.env.scope.kind==.module&&X.env.locals != X.env.globals))=false:=by rw [I.ok.kind];rfl
 have hiσ:i<σ.length:=by rw [I.len];exact (qN.mp hi).1
 have cne:=I.cne
 have tracked:∀ {a:Addr} {h':Heap},(∃ o,s.heap.get? a=some o∧H a=none)→Heap.SameBut a s.heap h'→HOk X.prog X.w H h':=fun {a h'} ha hs b ob e=>by
  obtain ⟨_,_,hfree⟩:=ha
  refine (I.hok b ob e).stay (fun c w' hc q=>(hs.2 c ?_).trans q) (fun _ q=>q) fun _ _ q=>q
  rintro rfl
  rcases hc with rfl|hc
  ·rw [hfree] at e;cases e
  ·rw [hfree] at hc;cases hc
 rcases hx with hk|hk
 ·refine wpAny_storeName_local hk hn (fun h' hn' hs=>?_) hcls
  obtain ⟨oL,_,_,hoL,_⟩:=id hn
  refine h _ ⟨I.ok,I.os,I.bare,⟨fun b o e n hb hx=>?_,fun b o e n hb hx=>?_,I.base.free,fun b o e hx=>?_,I.base.tups,I.base.frzs,I.base.tbls⟩,⟨_,hn',fun j y v' e1 e2 e3=>?_⟩,fun y c e=>?_,I.free,I.freeC,fun p hp=>?_,tracked ⟨oL,hoL,I.free⟩ hs,by simpa using I.len⟩ ⟨_,hs,.inl rfl⟩
  ·exact (hs.2 b (qx (qt (qU e) I.ok.above))).trans (I.base.keep b o e n hb hx)
  ·obtain ⟨sl,e1⟩:=I.base.slot b o e n hb hx
   exact ⟨sl,(hs.2 b (qx (qt (qU e) I.ok.above))).trans e1⟩
  ·obtain ⟨o',e1⟩:=I.base.there b o e hx
   exact ⟨o',(hs.2 b (qx (qt (qU e) I.ok.above))).trans e1⟩
  ·by_cases hj:j=i
   ·subst hj
    rw [hi] at e1;cases e1
    rw [qAD hiσ] at e2
    cases e2
    exact ⟨u,r,.inl ⟨hk,by simp⟩⟩
   ·rw [q9 (qA2 hj)] at e2
    obtain ⟨u',r',q⟩:=hl j y v' e1 e2 e3
    refine ⟨u',r',?_⟩
    rcases q with ⟨k,e⟩|⟨k,c,e,z⟩
    ·refine .inl ⟨k,?_⟩
     have:y≠x:=fun e=>hj (zack hN e1 (e▸hi))
     simp [this,e]
    ·exact .inr ⟨k,c,e,z.sameBut hs (cne y c e)⟩
  ·obtain ⟨w',z⟩:=I.cell y c e
   exact ⟨w',z.sameBut hs (cne y c e)⟩
  ·obtain ⟨e,n,ne,nf,d⟩:=I.pin p hp
   exact ⟨(hs.2 p.1 ne).trans e,n,ne,nf,d⟩
 ·have hfn:X.fn x=true:=by
   rcases hf with z|z
   ·exact z
   ·rw [z] at hk;cases hk
  obtain ⟨c,hc⟩:=I.ok.has x (.inl hk)
  obtain ⟨w',z⟩:=I.cell x c hc
  refine wpAny_storeName_cell I.ok.kind hk hc z (fun h' hc' hs=>?_)
  obtain ⟨oc,hoc,hocd⟩:=id z
  refine h {s with heap:=h'} ⟨I.ok,I.os,I.bare,⟨fun b o e n hb hx=>?_,fun b o e n hb hx=>?_,I.base.free,fun b o e hx=>?_,I.base.tups,I.base.frzs,I.base.tbls⟩,⟨m,hn.sameBut hs (qA2 (cne x c hc)),fun j y v' e1 e2 e3=>?_⟩,fun y c' e=>?_,I.free,I.freeC,fun p hp=>?_,tracked ⟨oc,hoc,I.freeC x c hc⟩ hs,by simpa using I.len⟩ ⟨c,hs,.inr hc⟩
  ·exact (hs.2 b (qx (qt (qU e) (I.ok.cab x c hfn hc)))).trans (I.base.keep b o e n hb hx)
  ·obtain ⟨sl,e1⟩:=I.base.slot b o e n hb hx
   exact ⟨sl,(hs.2 b (qx (qt (qU e) (I.ok.cab x c hfn hc)))).trans e1⟩
  ·obtain ⟨o',e1⟩:=I.base.there b o e hx
   exact ⟨o',(hs.2 b (qx (qt (qU e) (I.ok.cab x c hfn hc)))).trans e1⟩
  ·by_cases hj:j=i
   ·subst hj
    rw [hi] at e1;cases e1
    rw [qAD hiσ] at e2
    cases e2
    exact ⟨u,r,.inr ⟨.inl hk,c,hc,hc'⟩⟩
   ·rw [q9 (qA2 hj)] at e2
    obtain ⟨u',r',q⟩:=hl j y v' e1 e2 e3
    refine ⟨u',r',?_⟩
    rcases q with q|⟨k,c',e,z'⟩
    ·exact .inl q
    ·refine .inr ⟨k,c',e,z'.sameBut hs ?_⟩
     rintro rfl
     exact hj (zack hN e1 (I.ok.inj _ _ _ e hc▸hi))
  ·by_cases hcc:c'=c
   ·subst hcc;exact ⟨_,hc'⟩
   ·obtain ⟨w2,z2⟩:=I.cell y c' e
    exact ⟨w2,z2.sameBut hs hcc⟩
  ·obtain ⟨e,n,ne,nf,d⟩:=I.pin p hp
   refine ⟨(hs.2 p.1 ?_).trans e,n,ne,nf,d⟩
   intro q
   rw [q,hoc] at e
   have q':oc=p.2:=qr e
   exact d w' (by rw [← q'];exact hocd)
theorem zacl {M:Model} {A:Around} {E:Value→Shared→Prop} {i:Nat} {x:Str} {v:V} {u:Value} {Q:Unit→Shared→Prop} (I:Inv X pins σ H s) (hN:X.N.Nodup) (hi:X.N[i]?=some x) (hx:Loc X.env.scope x) (r:RelV v u)
  (h:∀ s',Inv X pins (σ.set i (some v)) H s'→Q () s') (hf:X.fn x=true∨X.env.scope.names.lookup x=some .local:=by assumption):wpAny M A (storeName X.env x u) Q E s :=
 zxe I hN hi hx r (fun s' I' _=>h s' I') hf
end
noncomputable abbrev XK:=Value→Option Addr→Hp→Prop
noncomputable abbrev St:=List (Option V)
noncomputable abbrev VK:=V→Hp→Prop
noncomputable abbrev TE:=St→Hp→VK→Prop
noncomputable abbrev TT:=St→Hp→(Bool→Hp→Prop)→Prop
noncomputable abbrev TA:=St→Hp→(List V→Hp→Prop)→Prop
set_option genInjectivity false in
structure Ends where
 nx:St→Hp→Prop
 rt:VK
 bk:St→Hp→Prop:=fun _ _=>False
 ct:St→Hp→Prop:=fun _ _=>False
noncomputable abbrev TS:=Ends→St→Hp→Prop
noncomputable def EP (X:Cx) (pins:List (Addr×Obj)) (σ:St) (Q:VK) (u:Value) (s':Shared):Prop:=∃ v H',Inv X pins σ H' s'∧RelV v u∧Q v H'
noncomputable def TP (X:Cx) (pins:List (Addr×Obj)) (σ:St) (Q:Bool→Hp→Prop) (b:Bool) (s':Shared):Prop:=∃ H',Inv X pins σ H' s'∧Q b H'
noncomputable def AP (X:Cx) (pins:List (Addr×Obj)) (σ:St) (Q:List V→Hp→Prop) (us:List Value) (s':Shared):Prop:=∃ vs H',Inv X pins σ H' s'∧Vals vs us∧Q vs H'
noncomputable def SP (X:Cx) (pins:List (Addr×Obj)) (D:Ends) (f:Flow) (s':Shared):Prop :=
 match f with
 | .next=>∃ σ' H',Inv X pins σ' H' s'∧D.nx σ' H'
 | .brk=>∃ σ' H',Inv X pins σ' H' s'∧D.bk σ' H'
 | .cont=>∃ σ' H',Inv X pins σ' H' s'∧D.ct σ' H'
 | .ret u=>∃ v σ' H',Inv X pins σ' H' s'∧RelV v u∧D.rt v H'
noncomputable def PE (X:Cx) (e:Expr) (t:TE):Prop :=
 ∀ (pins:List (Addr×Obj)) (s:Shared) (σ:St) (H:Hp) (Q:VK),Inv X pins σ H s→t σ H Q→wpAny (model X.prog X.w) X.A (eval e X.env) (EP X pins σ Q) X.xe s
noncomputable def PT (X:Cx) (e:Expr) (t:TT):Prop :=
 ∀ (pins:List (Addr×Obj)) (s:Shared) (σ:St) (H:Hp) (Q:Bool→Hp→Prop),Inv X pins σ H s→t σ H Q→wpAny (model X.prog X.w) X.A (isTrue e X.env (eval e X.env)) (TP X pins σ Q) X.xe s
noncomputable def PW (X:Cx) (e:Expr) (t:TT):Prop :=
 ∀ (whole:Sem Value) (pins:List (Addr×Obj)) (s:Shared) (σ:St) (H:Hp) (Q:Bool→Hp→Prop),Inv X pins σ H s→t σ H Q→wpAny (model X.prog X.w) X.A (isTrue e X.env whole) (TP X pins σ Q) X.xe s
theorem PW.pt {X:Cx} {e:Expr} {t:TT} (h:PW X e t):PT X e t:=h _
noncomputable def PA (X:Cx) (es:List Expr) (t:TA):Prop :=
 ∀ (pos:Pos) (pins:List (Addr×Obj)) (s:Shared) (σ:St) (H:Hp) (Q:List V→Hp→Prop),Inv X pins σ H s→t σ H Q→wpAny (model X.prog X.w) X.A (spliced (backTo pos (starEach es X.env))) (AP X pins σ Q) X.xe s
noncomputable def PS (X:Cx) (st:Stmt) (t:TS):Prop :=
 ∀ (pins:List (Addr×Obj)) (s:Shared) (σ:St) (H:Hp) (D:Ends),Inv X pins σ H s→t D σ H→wpAny (model X.prog X.w) X.A (exec st X.env) (SP X pins D) X.xe s
noncomputable def PSs (X:Cx) (st:List Stmt) (t:TS):Prop :=
 ∀ (pins:List (Addr×Obj)) (s:Shared) (σ:St) (H:Hp) (D:Ends),Inv X pins σ H s→t D σ H→wpAny (model X.prog X.w) X.A (execs st X.env) (SP X pins D) X.xe s
theorem thn {α:Type} {t:Sem α} {Q Q':α→Shared→Prop} {M:Model} {A:Around} {E:Value→Shared→Prop} {s:Shared} (h:wpAny M A t Q E s) (hQ:∀ a s,Q a s→Q' a s):wpAny M A t Q' E s:=qBl h hQ fun _ _ x=>x
section
variable {X:Cx}
theorem bin {a b:Expr} {ta tb:TE} (ha:PE X a ta) (hb:PE X b tb) {pins:List (Addr×Obj)} {s:Shared} {σ:St} {H:Hp} {R:V→V→Hp→Prop} (I:Inv X pins σ H s) (h:ta σ H fun x H1=>tb σ H1 fun y H2=>R x y H2)
  {α:Type} {Q:α→Shared→Prop} {f:Value→Value→Sem α}
  (hf:∀ v u s2 x y H2,Inv X pins σ H2 s2→RelV x v→RelV y u→R x y H2→wpAny (model X.prog X.w) X.A (f v u) Q X.xe s2) :
  wpAny (model X.prog X.w) X.A (eval a X.env) (fun v s₁=>wpAny (model X.prog X.w) X.A (eval b X.env) (fun u s₂=>wpAny (model X.prog X.w) X.A (f v u) Q X.xe s₂) X.xe s₁) X.xe s:=by
 refine thn (ha pins s σ H _ I h) fun v s1 ⟨x,H1,I1,r1,q1⟩=>?_
 refine thn (hb pins s1 σ H1 _ I1 q1) fun u s2 ⟨y,H2,I2,r2,q2⟩=>?_
 exact hf v u s2 x y H2 I2 r1 r2 q2
noncomputable def tVar (i:Nat):TE:=fun σ H Q=>∃ v,σ[i]?=some (some v)∧Q v H
noncomputable def tC (v:V):TE:=fun _ H Q=>Q v H
theorem zans {i:Nat} {x:Str} {pos:Pos} (hN:X.N[i]?=some x) (hv:Vis X.env.scope x) (hd:(x==("__debug__":Str))=false:=by decide) (hcd:(x==("__classdict__":Str))=false:=by decide):PE X (.Name x pos) (tVar i):=by
 intro pins s σ H Q I h
 obtain ⟨v,e,h⟩:=h
 obtain ⟨m,hn,hl⟩:=I.loc
 obtain ⟨u,r,l⟩:=hl i x v hN e hv
 have fin:EP X pins σ Q u s:=⟨v,H,I,r,h⟩
 rcases l with ⟨hk,hm⟩|⟨hk,c,hc,hcell⟩
 ·exact wpAny_Name (wpAny_loadName_local I.ok.kind hk hn hm fin) hd
 ·rcases hk with hk|hk
  ·exact wpAny_Name (wpAny_loadName_cell I.ok.kind hk hc hcell fin) hd
  ·exact wpAny_Name (wpAny_loadName_free I.ok.kind hk hc hcell fin hcd) hd
theorem zjd {i j pos}:PE X (.Constant (.int i) j pos) (tC (.int i)):=fun _ _ _ H _ I h=>wpAny_Constant_int ⟨.int i,H,I.tok _,⟨_,rfl⟩,h⟩
theorem zauo {b j pos}:PE X (.Constant (.bool b) j pos) (tC (.bl b)):=fun _ _ _ H _ I h=>Constant_bool ⟨.bl b,H,I,rfl,h⟩
theorem zaro {j pos}:PE X (.Constant .none j pos) (tC .non):=fun _ _ _ H _ I h=>Constant_none ⟨.non,H,I,rfl,h⟩
theorem zarp {x j pos}:PE X (.Constant (.str x) j pos) (tC (.str x)):=fun _ _ _ H _ I h=>Calls.Constant_str ⟨.str x,H,I.tok _,⟨_,rfl⟩,h⟩
noncomputable def Gl (X:Cx) (x:Str):Prop:=X.env.kindOf x=some .globalImplicit
theorem zaos {E:Value→Shared→Prop} {pins:List (Addr×Obj)} {s:Shared} {σ:St} {H:Hp} {x:Str} {u:Value} {pos:Pos} {Q:Value→Shared→Prop} (I:Inv X pins σ H s) (hg:Gl X x) (hm:X.mg x=some u) (h:Q u s)
  (hd:(x==("__debug__":Str))=false:=by decide):wpAny (model X.prog X.w) X.A (eval (.Name x pos) X.env) Q E s :=
 qCK I.ok.kind hg (Calls.loadGlobal_global (by rw [I.ok.glob];exact I.mod.glob.keeps I.bk) hm h) hd
theorem zub {E:Value→Shared→Prop} {pins:List (Addr×Obj)} {s:Shared} {σ:St} {H:Hp} {x:Str} {u:Value} {pos:Pos} {Q:Value→Shared→Prop} (I:Inv X pins σ H s) (hg:Gl X x) (hm:X.mg x=none) (hv:bootBuiltins x=some u) (h:Q u s)
  (hn:x ≠ "__name__":=by decide) (hd:(x==("__debug__":Str))=false:=by decide):wpAny (model X.prog X.w) X.A (eval (.Name x pos) X.env) Q E s:=by
 obtain ⟨mb,h1,h2⟩:=I.mod.blt
 exact qCK I.ok.kind hg (Calls.loadGlobal_builtin (by rw [I.ok.glob];exact I.mod.glob.keeps I.bk) hm (by rw [I.ok.blt];exact h1.keeps I.bk) ((h2 x hn).trans hv) h) hd
theorem zaot {x:Str} {v:V} {u:Value} {pos:Pos} (hg:Gl X x) (hm:X.mg x=none) (hv:bootBuiltins x=some u) (r:RelV v u) (hn:x ≠ "__name__":=by decide) (hd:(x==("__debug__":Str))=false:=by decide):PE X (.Name x pos) (tC v) :=
 fun _ _ _ H _ I h=>zub I hg hm hv ⟨v,H,I,r,h⟩ hn hd
variable {a b:Expr} {ta tb:TE} {pos:Pos}
noncomputable def PC (X:Cx) (op:CmpOp) (a b:Expr) (t:TE):Prop :=
 ∀ (pins:List (Addr×Obj)) (s:Shared) (σ:St) (H:Hp) (Q:VK),Inv X pins σ H s→t σ H Q →
  wpAny (model X.prog X.w) X.A (eval a X.env) (fun v s₁=>wpAny (model X.prog X.w) X.A (eval b X.env) (fun u s₂=>wpAny (model X.prog X.w) X.A (compareOp op v u) (EP X pins σ Q) X.xe s₂) X.xe s₁) X.xe s
theorem zaku (b:Expr) {op:CmpOp} (h:op≠.In) (h2:op≠.NotIn):behindInMarks op b=false:=by
 have e1:(op==CmpOp.In)=false:=by cases op<;>first|rfl|exact absurd rfl h
 have e2:(op==CmpOp.NotIn)=false:=by cases op<;>first|rfl|exact absurd rfl h2
 cases b<;>simp [behindInMarks,e1,e2]
noncomputable def tIsN (ta:TE):TE:=fun σ H Q=>ta σ H fun x H1=>Q (.bl (decide (x=.non))) H1
theorem RelV.none_iff {x:V} {v:Value} (r:RelV x v):(v==Value.none)=decide (x=.non):=by
 cases x with
 | non=>cases r;rfl
 | bl _=>cases r;rfl
 | int _=>obtain ⟨t,rfl⟩:=r;rfl
 | str _=>obtain ⟨t,rfl⟩:=r;rfl
 | byt _=>obtain ⟨t,rfl⟩:=r;rfl
 | flt _=>obtain ⟨t,rfl⟩:=r;rfl
 | ref _=>cases r;rfl
 | ty _=>cases r;rfl
theorem zarq {j pos'} (ha:PE X a ta):PC X .Is a (.Constant .none j pos') (tIsN ta):=by
 intro pins s σ H Q I h
 refine thn (ha pins s σ H _ I h) fun v s1 ⟨x,H1,I1,r1,q1⟩=>?_
 exact Constant_none (is_none_gen ⟨.bl _,H1,I1,by rw [r1.none_iff];rfl,q1⟩)
noncomputable def tB (t:TE):TT:=fun σ H Q=>t σ H fun x H1=>∃ c,x=.bl c∧Q c H1
theorem zarr {op:CmpOp} {t:TE} (h:PC X op a b t) (h1:behindInMarks op b=false:=by rfl):PE X (.Compare a [op] [b] pos) t:=fun pins s σ H Q I hw=>wpAny_Compare1 (h pins s σ H Q I hw) h1
theorem zars {op:CmpOp} {t:TE} (h:PC X op a b t) (h1:behindInMarks op b=false:=by rfl):PT X (.Compare a [op] [b] pos) (tB t):=by
 intro pins s σ H Q I hw
 refine wpAny_isTrue_Compare1 (thn (h pins s σ H _ I hw) fun v s1 h1=>thn h1 fun u s2 h2=>thn h2 fun c s3 ⟨x,H1,I1,r1,q1⟩=>?_) h1
 obtain ⟨d,rfl,q⟩:=q1
 cases r1
 exact qAf ⟨H1,I1,q⟩
variable {tA tB':TT} {rest:List Expr}
noncomputable def tAnd (t u:TT):TT:=fun σ H Q=>t σ H fun c H1=>if c=true then u σ H1 Q else Q false H1
noncomputable def tOr (t u:TT):TT:=fun σ H Q=>t σ H fun c H1=>if c=true then Q true H1 else u σ H1 Q
noncomputable def tNot (t:TT):TT:=fun σ H Q=>t σ H fun c H1=>Q (!c) H1
theorem zaou (ha:PT X a tA):PW X (.BoolOp .And [a] pos) tA:=by
 intro wh pins s σ H Q I h
 refine isTrue_and (thn (ha pins s σ H Q I h) fun c s1 e=>?_)
 cases c with
 | true=>exact isTrue_and_nil e
 | false=>exact e
theorem zart (ha:PT X a tA):PW X (.BoolOp .Or [a] pos) tA:=by
 intro wh pins s σ H Q I h
 refine isTrue_or (thn (ha pins s σ H Q I h) fun c s1 e=>?_)
 cases c with
 | false=>exact isTrue_or_nil e
 | true=>exact e
theorem zaru (ha:PT X a tA) (hb:PW X (.BoolOp .And (b::rest) pos) tB'):PW X (.BoolOp .And (a::b::rest) pos) (tAnd tA tB'):=by
 intro wh pins s σ H Q I h
 refine isTrue_and (thn (ha pins s σ H _ I h) fun c s1 ⟨H1,I1,q1⟩=>?_)
 cases c with
 | true=>exact hb wh pins s1 σ H1 Q I1 q1
 | false=>exact ⟨H1,I1,q1⟩
theorem zaup (ha:PT X a tA) (hb:PW X (.BoolOp .Or (b::rest) pos) tB'):PW X (.BoolOp .Or (a::b::rest) pos) (tOr tA tB'):=by
 intro wh pins s σ H Q I h
 refine isTrue_or (thn (ha pins s σ H _ I h) fun c s1 ⟨H1,I1,q1⟩=>?_)
 cases c with
 | true=>exact ⟨H1,I1,q1⟩
 | false=>exact hb wh pins s1 σ H1 Q I1 q1
theorem zarv (ha:PT X a tA):PT X (.UnaryOp .Not a pos) (tNot tA):=by
 intro pins s σ H Q I h
 exact isTrue_not (ha pins s σ H (fun c H1=>Q (!c) H1) I h)
noncomputable def tAndV (ta tb:TE):TE:=fun σ H Q=>ta σ H fun x H1=>∃ c,x=.bl c∧if c=true then tb σ H1 Q else Q (.bl false) H1
noncomputable def tNotV (ta:TE):TE:=fun σ H Q=>ta σ H fun x H1=>∃ c,x=.bl c∧Q (.bl (!c)) H1
theorem zarw {op} {t:TE} (h:PE X a t):PE X (.BoolOp op [a] pos) t:=fun pins s σ H Q I hw=>BoolOp_one (h pins s σ H Q I hw)
theorem zarx (ha:PE X a ta) (hb:PE X (.BoolOp .And (b::rest) pos) tb):PE X (.BoolOp .And (a::b::rest) pos) (tAndV ta tb):=by
 intro pins s σ H Q I h
 refine BoolOp_and (thn (ha pins s σ H _ I h) fun v s1 ⟨x,H1,I1,r1,q1⟩=>?_)
 obtain ⟨c,rfl,q1⟩:=q1
 cases r1
 refine qAf ?_
 cases c with
 | true=>exact hb pins s1 σ H1 Q I1 q1
 | false=>exact ⟨.bl false,H1,I1,rfl,q1⟩
theorem zary (ha:PE X a ta):PE X (.UnaryOp .Not a pos) (tNotV ta):=by
 intro pins s σ H Q I h
 refine UnaryOp_ (thn (ha pins s σ H _ I h) fun v s1 ⟨x,H1,I1,r1,q1⟩=>?_)
 obtain ⟨c,rfl,q1⟩:=q1
 cases r1
 exact not_of (qAf ⟨.bl (!c),H1,I1,rfl,q1⟩)
end
noncomputable def SqL (K:qB) (H:Hp) (a:Addr) (xs:List V):Prop :=
 Rd H a (.lst xs) ∨
  ∃ (o:Obj) (its:Array Value) (n:Nat),K.lookup a=some o∧o.cls=.type "list" ∧ o.dict=none∧o.data=.seq its n∧its.size≤qj∧Vals xs its.toList
noncomputable def SqT (K:qB) (H:Hp) (a:Addr) (xs:List V):Prop :=
 Rd H a (.tup xs) ∨
  ∃ (o:Obj) (its:Array Value) (n:Nat),K.lookup a=some o∧o.cls=.type "tuple" ∧ o.data=.seq its n∧its.size≤qj∧Vals xs its.toList
noncomputable def absV:Value→Option V
 | .none=>some .non
 | .bool b=>some (.bl b)
 | .int i _=>some (.int i)
 | .str x _=>some (.str x)
 | .bytes b _=>some (.byt b)
 | .float b _=>some (.flt b)
 | .ref a=>some (.ref a)
 | .type n=>some (.ty n)
 | _=>none
theorem RelV.abs {x:V} {u:Value} (r:RelV x u):absV u=some x:=by
 cases x with
 | non=>cases r;rfl
 | bl _=>cases r;rfl
 | int _=>obtain ⟨t,rfl⟩:=r;rfl
 | str _=>obtain ⟨t,rfl⟩:=r;rfl
 | byt _=>obtain ⟨t,rfl⟩:=r;rfl
 | flt _=>obtain ⟨t,rfl⟩:=r;rfl
 | ref _=>cases r;rfl
 | ty _=>cases r;rfl
theorem RelV.inj {x y:V} {u:Value} (r:RelV x u) (q:RelV y u):x=y:=qr (r.abs.symm.trans q.abs)
theorem Vals.inj:∀ {xs ys:List V} {us:List Value},Vals xs us→Vals ys us→xs=ys
 | _,_,_,.nil,.nil=>rfl
 | _,_,_,.cons r t,.cons r' t'=>by rw [r.inj r',Vals.inj t t']
section
variable {X:Cx} {pins:List (Addr×Obj)} {σ:St} {H:Hp} {s:Shared} {a:Addr} {xs ys:List V}
theorem SqL.of {K:qB} (h:H a=some (.lst xs)):SqL K H a xs:=.inl (.inl h)
theorem SqT.of {K:qB} (h:H a=some (.tup xs)):SqT K H a xs:=.inl (.inl h)
theorem Inv.list (I:Inv X pins σ H s) (h:SqL X.K H a xs):∃ its:List Value,Vals xs its∧PlainL s.heap a its.toArray∧xs.length≤qj:=by
 rcases h with h|⟨o,its,n,hk,hc,hd,hs,hz,r⟩
 ·obtain ⟨z,its,n,r,e⟩:=h.ok I.hok
  exact ⟨its,r,⟨_,n,e,rfl,rfl,rfl⟩,z⟩
 ·refine ⟨its.toList,r,⟨o,n,I.kIn a o hk,hc,hd,by simpa using hs⟩,?_⟩
  have e:=r.length
  simp only [qCx] at e
  omega
theorem Inv.tuple (I:Inv X pins σ H s) (h:SqT X.K H a xs):∃ its:List Value,Vals xs its∧IsTup s.heap a its.toArray∧xs.length≤qj:=by
 rcases h with h|⟨o,its,n,hk,hc,hs,hz,r⟩
 ·obtain ⟨z,its,r,p⟩:=h.ok I.hok
  exact ⟨its,r,p,z⟩
 ·refine ⟨its.toList,r,⟨o,I.kIn a o hk,hc,n,by simpa using hs⟩,?_⟩
  have e:=r.length
  simp only [qCx] at e
  omega
theorem Inv.list_inj (I:Inv X pins σ H s) (h:SqL X.K H a xs) (h':SqL X.K H a ys):xs=ys:=by
 obtain ⟨its,r,⟨o,n,e,_,_,d⟩,_⟩:=I.list h
 obtain ⟨its',r',⟨o',n',e',_,_,d'⟩,_⟩:=I.list h'
 rw [e] at e';cases e'
 rw [d] at d'
 injection d' with d1 _
 have:its=its':=by simpa using congrArg Array.toList d1
 subst this
 exact r.inj r'
theorem Inv.tuple_inj (I:Inv X pins σ H s) (h:SqT X.K H a xs) (h':SqT X.K H a ys):xs=ys:=by
 obtain ⟨its,r,⟨o,e,_,n,d⟩,_⟩:=I.tuple h
 obtain ⟨its',r',⟨o',e',_,n',d'⟩,_⟩:=I.tuple h'
 rw [e] at e';cases e'
 rw [d] at d'
 injection d' with d1 _
 have:its=its':=by simpa using congrArg Array.toList d1
 subst this
 exact r.inj r'
end
noncomputable abbrev Cx.wish (X:Cx) (E:Value→Shared→Prop):Cx:={X with xe:=E}
noncomputable abbrev Cx.nox (X:Cx):Cx:=X.wish fun _ _=>False
theorem Cx.Ok.wish {X:Cx} (ok:X.Ok) (E:Value→Shared→Prop):(X.wish E).Ok :=
 ⟨ok.mod,ok.kind,ok.glob,ok.blt,ok.above,ok.inj,ok.has,ok.cab,ok.hd,ok.frames,ok.stk,ok.exf,ok.bs,ok.bsz,ok.noex,ok.exfs,ok.funs,ok.frf⟩
theorem Cx.Ok.unwish {X:Cx} {E:Value→Shared→Prop} (ok:(X.wish E).Ok):X.Ok :=
 ⟨ok.mod,ok.kind,ok.glob,ok.blt,ok.above,ok.inj,ok.has,ok.cab,ok.hd,ok.frames,ok.stk,ok.exf,ok.bs,ok.bsz,ok.noex,ok.exfs,ok.funs,ok.frf⟩
section
variable {X:Cx} {pins:List (Addr×Obj)} {σ:St} {H:Hp} {s:Shared} {E:Value→Shared→Prop}
theorem Inv.wish (I:Inv X pins σ H s) (E:Value→Shared→Prop):Inv (X.wish E) pins σ H s:=⟨I.ok.wish E,I.os,I.bare,I.base,I.loc,I.cell,I.free,I.freeC,I.pin,I.hok,I.len⟩
theorem Inv.unwish (I:Inv (X.wish E) pins σ H s):Inv X pins σ H s:=⟨I.ok.unwish,I.os,I.bare,I.base,I.loc,I.cell,I.free,I.freeC,I.pin,I.hok,I.len⟩
theorem SP.unwish {D:Ends} {f:Flow} {s':Shared} (h:SP (X.wish E) pins D f s'):SP X pins D f s':=by
 cases f with
 | next=>obtain ⟨σ',H',I,q⟩:=h;exact ⟨σ',H',I.unwish,q⟩
 | brk=>obtain ⟨σ',H',I,q⟩:=h;exact ⟨σ',H',I.unwish,q⟩
 | cont=>obtain ⟨σ',H',I,q⟩:=h;exact ⟨σ',H',I.unwish,q⟩
 | ret u=>obtain ⟨v,σ',H',I,r,q⟩:=h;exact ⟨v,σ',H',I.unwish,r,q⟩
theorem PSs.nox {st:List Stmt} {t:TS} (h:PSs X.nox st t):PSs X st t:=fun pins s σ H D I hw =>
 qBl (h pins s σ H D (I.wish _) hw) (fun _ _ q=>q.unwish) fun _ _ z=>False.elim z
end
section
variable {X:Cx} {st:Stmt} {rest:List Stmt} {t u:TS} {e:Expr} {te:TE} {pos:Pos}
noncomputable def tNext:TS:=fun D σ H=>D.nx σ H
noncomputable def tSeq (t u:TS):TS:=fun D σ H=>t {D with nx:=u D} σ H
theorem zaov:PSs X [] tNext:=fun _ _ σ H _ I h=>qCf ⟨σ,H,I,h⟩
theorem znv (h1:PS X st t) (h2:PSs X rest u):PSs X (st::rest) (tSeq t u):=by
 intro pins s σ H D I h
 refine wpAny_execs_cons (thn (h1 pins s σ H {D with nx:=u D} I h) fun f s1 q=>?_)
 cases f with
 | next =>
  obtain ⟨σ',H',I',q⟩:=q
  exact h2 pins s1 σ' H' D I' q
 | ret v=>exact q
 | brk=>exact q
 | cont=>exact q
theorem zou (h1:PS X st t):PSs X [st] t:=by
 intro pins s σ H D I h
 refine wpAny_execs_cons (thn (h1 pins s σ H D I h) fun f s1 q=>?_)
 cases f with
 | next=>exact qCf q
 | ret v=>exact q
 | brk=>exact q
 | cont=>exact q
theorem Inv.quiet {pins:List (Addr×Obj)} {σ:St} {H:Hp} {s:Shared} (I:Inv X pins σ H s):interactive X.env=false:=by simp [interactive,I.ok.kind]
noncomputable def tDrop (te:TE):TS:=fun D σ H=>te σ H fun _ H1=>D.nx σ H1
theorem zaal (he:PE X e te) (hs:swapsWith e none pos.line X.env=pure false:=by rfl):PS X (.Expr e pos) (tDrop te):=by
 intro pins s σ H D I h
 exact wpAny_Expr_any (thn (he pins s σ H _ I h) fun v s1 ⟨x,H1,I1,r1,q1⟩=>⟨σ,H1,I1,q1⟩) I.quiet hs
noncomputable def tRet (te:TE):TS:=fun D σ H=>te σ H D.rt
theorem zant (he:PE X e te):PS X (.Return (some e) pos) (tRet te):=by
 intro pins s σ H D I h
 exact wpAny_Return_some (thn (he pins s σ H _ I h) fun v s1 ⟨x,H1,I1,r1,q1⟩=>⟨x,σ,H1,I1,r1,q1⟩)
noncomputable def tIfS (c:TT) (t u:TS):TS:=fun D σ H=>c σ H fun b H1=>if b=true then t D σ H1 else u D σ H1
theorem zarz {c:Expr} {a b:List Stmt} {tc:TT} (hc:PT X c tc) (ha:PSs X a t) (hb:PSs X b u):PS X (.If c a b pos) (tIfS tc t u):=by
 intro pins s σ H D I h
 refine wpAny_If (thn (hc pins s σ H _ I h) fun d s1 ⟨H1,I1,q1⟩=>?_)
 cases d with
 | true=>exact ha pins s1 σ H1 D I1 q1
 | false=>exact hb pins s1 σ H1 D I1 q1
noncomputable def tNever:TS:=fun _ _ _=>False
theorem zakv:PS X st tNever:=fun _ _ _ _ _ _ h=>h.elim
end
noncomputable abbrev TG:=V→St→Hp→(St→Hp→Prop)→Prop
noncomputable abbrev TGs:=List V→St→Hp→(St→Hp→Prop)→Prop
noncomputable def PG (X:Cx) (target:Expr) (t:TG):Prop :=
 ∀ (pins:List (Addr×Obj)) (s:Shared) (σ:St) (H:Hp) (v:V) (u:Value) (Q:St→Hp→Prop),Inv X pins σ H s→RelV v u→t v σ H Q →
  wpAny (model X.prog X.w) X.A (assign target X.env u) (fun _ s'=>∃ σ' H',Inv X pins σ' H' s'∧Q σ' H') X.xe s
noncomputable def PGs (X:Cx) (ts:List Expr) (t:TGs):Prop :=
 ∀ (pins:List (Addr×Obj)) (s:Shared) (σ:St) (H:Hp) (vs:List V) (us:List Value) (Q:St→Hp→Prop),Inv X pins σ H s→Vals vs us→t vs σ H Q →
  wpAny (model X.prog X.w) X.A (assignInOrder ((assignEach ts X.env).map (·.2)) us) (fun _ s'=>∃ σ' H',Inv X pins σ' H' s'∧Q σ' H') X.xe s
section
variable {X:Cx} {pos:Pos}
noncomputable def gName (i:Nat):TG:=fun v σ H Q=>Q (σ.set i (some v)) H
theorem zaam {i:Nat} {x:Str} (hN:X.N.Nodup) (hi:X.N[i]?=some x) (hx:Loc X.env.scope x) (hf:X.fn x=true∨X.env.scope.names.lookup x=some .local:=by assumption):PG X (.Name x pos) (gName i):=by
 intro pins s σ H v u Q I r h
 exact wpAny_assign_Name (zacl I hN hi hx r (fun s' I'=>⟨_,H,I',h⟩) hf)
noncomputable def gNil:TGs:=fun vs σ H Q=>vs=[]∧Q σ H
noncomputable def gCons (t:TG) (u:TGs):TGs:=fun vs σ H Q=>∃ v r,vs=v::r∧t v σ H fun σ' H'=>u r σ' H' Q
theorem zaow:PGs X [] gNil:=by
 intro pins s σ H vs us Q I r h
 obtain ⟨e,h⟩:=h
 subst e
 cases r
 exact assignInOrder_nil ⟨σ,H,I,h⟩
theorem zakw {e:Expr} {es:List Expr} {t:TG} {u:TGs} (h1:PG X e t) (h2:PGs X es u)
  (hs:(assignEach (e::es) X.env).map (·.2)=assign e X.env::(assignEach es X.env).map (·.2):=by rfl):PGs X (e::es) (gCons t u):=by
 intro pins s σ H vs us Q I r h
 obtain ⟨v,vr,e1,h⟩:=h
 subst e1
 cases r with
 | cons r rr =>
  rw [hs]
  refine assignInOrder_cons (thn (h1 pins s σ H _ _ _ I r h) fun _ s1 ⟨σ1,H1,I1,q1⟩=>?_)
  exact h2 pins s1 σ1 H1 _ _ Q I1 rr q1
noncomputable def gTup (K:qB) (n:Nat) (t:TGs):TG:=fun v σ H Q=>∃ a xs,v=.ref a∧SqT K H a xs∧xs.length=n∧t xs σ H Q
theorem zasa {es:List Expr} {k:Nat} {t:TGs} {n:Nat} (hc:X.calm=true) (h:PGs X es t)
  (hn:(assignEach es X.env).length=n:=by rfl) (hst:(assignEach es X.env).findIdx? (·.1)=none:=by rfl):PG X (.Tuple es k pos) (gTup X.K n t):=by
 intro pins s σ H v u Q I r hw
 obtain ⟨a,xs,e1,hq,hl,hw⟩:=hw
 subst e1
 cases r
 obtain ⟨its,rv,ht,hz⟩:=I.tuple hq
 refine assign_Tuple_tuple (I.ok.hd hc) ht (by simp [hn,← hl,rv.length]) hst fun h' hx=>?_
 have I1:Inv X pins σ H {s with heap:=h'}:=I.kept (t':=s.toks) fun b o e=>hx b o (qx (qU e)) e
 exact h pins _ σ H xs _ Q I1 (by simpa using rv) hw
noncomputable def tAsg (te:TE) (g:TG):TS:=fun D σ H=>te σ H fun x H1=>g x σ H1 D.nx
theorem zasb {tg e:Expr} {te:TE} {g:TG} (he:PE X e te) (hg:PG X tg g) (hs:swapsWithSole [tg] e pos.line X.env=pure false:=by rfl) (hw:swappedStores [tg] e X.env=pure none:=by rfl)
  (h1:(assignEach [tg] X.env).map (·.2)=[assign tg X.env]:=by rfl):PS X (.Assign [tg] e pos) (tAsg te g):=by
 intro pins s σ H D I h
 refine wpAny_Assign_stores (thn (he pins s σ H _ I h) fun v s1 ⟨x,H1,I1,r1,q1⟩=>?_) hs hw
 rw [h1]
 exact thn (hg pins s1 σ H1 x v _ I1 r1 q1) fun _ s2 q=>q
theorem zacm {i:Nat} {x:Str} {e:Expr} {te:TE} {pos':Pos} (hN:X.N.Nodup) (hi:X.N[i]?=some x) (hx:Loc X.env.scope x) (he:PE X e te) (hs:swapsWith e (some (.Name x pos')) pos.line X.env=pure false:=by rfl) (hf:X.fn x=true∨X.env.scope.names.lookup x=some .local:=by assumption) :
  PS X (.Assign [.Name x pos'] e pos) (tAsg te (gName i)):=by
 intro pins s σ H D I h
 refine wpAny_Assign_Name (thn (he pins s σ H _ I h) fun v s1 ⟨y,H1,I1,r1,q1⟩=>?_) hs
 exact zacl I1 hN hi hx r1 (fun s2 I2=>⟨_,H1,I2,q1⟩) hf
end
section
variable {X:Cx} {pos:Pos}
end
set_option genInjectivity false in
structure It where
 go:Nat→Hp→Prop
 yld:Nat→Hp→V→Hp→Prop
 stop:Nat→Hp→Prop
noncomputable def FpOk (X:Cx) (pins:List (Addr×Obj)) (H:Hp) (b:Addr):Prop :=
 H b=none∧b≠X.env.locals∧b∉X.fs∧(b∈X.ex∨X.s₀.heap.objs.size≤b)∧(∀ x c,X.env.cells.lookup x=some c→c≠b)∧∀ p∈X.pn++pins,p.1≠b
theorem Inv.fpOk {X:Cx} {pins:List (Addr×Obj)} {σ:St} {H H':Hp} {s:Shared} {b:Addr} (I:Inv X pins σ H s) (hb:s.heap.objs.size≤b) (hn:H' b=none):FpOk X pins H' b:=by
 refine ⟨hn,qBp (qt I.lt hb),I.nofs hb,.inr (qAW I.sz hb),fun x c e z=>?_,fun p hp z=>?_⟩
 ·obtain ⟨v,q⟩:=I.cell x c e
  exact absurd (qt q.lt (by rw [z];exact hb)) (qA4 _)
 ·exact absurd (qt (qU (I.pin p hp).1) (by rw [z];exact hb)) (qA4 _)
set_option genInjectivity false in
structure Turn (P:Program) (w:World) (K:qB) (tg:Expr) (J:It) (fp:List Addr) (it:Addr) (tn:Nat→Heap→Prop):Prop where
 mem:it∈fp
 obj:∀ i h,tn i h→∀ b∈fp,∃ o,h.get? b=some o∧∀ v,o.data≠.cell v
 keep:∀ i h h',tn i h→(∀ b∈fp,∀ o,h.get? b=some o→h'.get? b=some o)→tn i h'
 item:∀ (X:Cx),X.prog=P→X.w=w→X.K=K→X.calm=true→∀ (i:Nat) (pins:List (Addr×Obj)) (s:Shared) (σ:St) (H:Hp) (E:Value→Shared→Prop),Inv X pins σ H s→(∀ b∈fp,FpOk X pins H b)→tn i s.heap→J.go i H →
  wpAny (model P w) X.A (pyNext (.ref it)) (fun r s1=>∃ u,r=some u ∧
   wpAny (model P w) X.A (letOwnedTupleGo tg (.ref it) u) (fun _ s2=>∃ x H',Inv X pins σ H' s2∧RelV x u∧J.yld i H x H'∧tn (i+1) s2.heap∧∀ b∈fp,H' b=none) E s1) E s
 done:∀ (X:Cx),X.prog=P→X.w=w→X.K=K→X.calm=true→∀ (i:Nat) (pins:List (Addr×Obj)) (s:Shared) (σ:St) (H:Hp) (E:Value→Shared→Prop),Inv X pins σ H s→(∀ b∈fp,FpOk X pins H b)→tn i s.heap→J.stop i H →
  wpAny (model P w) X.A (pyNext (.ref it)) (fun r s1=>r=none∧Inv X pins σ H s1) E s
 self:∀ (A:Around) (i:Nat) (s:Shared) (Q:Value→Shared→Prop) (E:Value→Shared→Prop),tn i s.heap→Q (.ref it) s→wpAny (model P w) A (pyIter (.ref it)) Q E s
noncomputable abbrev TI:=St→Hp→(It→Hp→Prop)→Prop
noncomputable def PIE (X:Cx) (pins:List (Addr×Obj)) (σ:St) (tg:Expr) (R:It→Hp→Prop) (itv:Value) (s2:Shared):Prop :=
 ∃ (it:Addr) (fp:List Addr) (tn:Nat→Heap→Prop) (J:It) (H':Hp),itv=.ref it∧Inv X pins σ H' s2∧Turn X.prog X.w X.K tg J fp it tn∧tn 0 s2.heap∧(∀ b∈fp,FpOk X pins H' b)∧R J H'
noncomputable def PI (X:Cx) (tg iter:Expr) (wi:TI):Prop :=
 ∀ (pins:List (Addr×Obj)) (s:Shared) (σ:St) (H:Hp) (R:It→Hp→Prop),Inv X pins σ H s→wi σ H R →
  wpAny (model X.prog X.w) X.A (eval iter X.env) (fun v s1=>wpAny (model X.prog X.w) X.A (pyIter v) (PIE X pins σ tg R) X.xe s1) X.xe s
theorem zaox {M:Model} {A:Around} {E:Value→Shared→Prop} {s:Shared} {tg:Expr} {it:Addr} {u:Value} {o:Obj} {n:String} {vs:Array Value} {Q:Unit→Shared→Prop} (ho:s.heap.get? it=some o) (hc:o.cls=.type n) (hd:o.data=.fields vs)
  (hn:["enumerate", "zip", "dict_itemiterator", "dict_reverseitemiterator", "odict_iterator", "itertools.zip_longest", "itertools.pairwise"].contains n=false) (hQ:Q () s):wpAny M A (letOwnedTupleGo tg (.ref it) u) Q E s:=by
 unfold letOwnedTupleGo
 cases tg<;>first
  | exact qd hQ
  | (cases u<;>first
    | exact qd hQ
    | (refine qF (wpAny_load ho ?_)
       rw [hc,hd]
       show wpAny M A (if (["enumerate", "zip", "dict_itemiterator", "dict_reverseitemiterator", "odict_iterator", "itertools.zip_longest", "itertools.pairwise"].contains n&&vs[0]?==some (rawInt _))=true then _ else _) Q E s
       rw [if_neg (by intro h;rw [hn,Bool.false_and] at h;cases h)]
       exact qd hQ))
noncomputable def Itl (K:qB) (a:Addr):It :=
 ⟨fun i H=>∃ xs x,SqL K H a xs∧xs[i]?=some x,fun i H x H'=>H'=H∧∀ xs,SqL K H a xs→xs[i]?=some x,fun i H=>∃ xs,SqL K H a xs∧xs.length≤i⟩
noncomputable def Itt (K:qB) (a:Addr):It :=
 ⟨fun i H=>∃ xs x,SqT K H a xs∧xs[i]?=some x,fun i H x H'=>H'=H∧∀ xs,SqT K H a xs→xs[i]?=some x,fun i H=>∃ xs,SqT K H a xs∧xs.length≤i⟩
noncomputable def Itr (lo:Int) (n:Nat):It:=⟨fun i _=>i<n,fun i H x H'=>H'=H∧x=.int (lo+i),fun i _=>n≤i⟩
theorem zxf {P:Program} {w:World} {K:qB} {tg:Expr} (a it:Addr):Turn P w K tg (Itl K a) [it] it (fun i h=>h.IsListIter it a i) where
 mem:=by simp
 obj:=fun i h st b hb=>by
  have e:b=it:=by simpa using hb
  subst e
  obtain ⟨o,e,c,d⟩:=st
  exact ⟨o,e,fun v z=>by rw [d] at z;cases z⟩
 keep:=fun i h h' st k=>st.at fun o e=>k it (by simp) o e
 item:=by
  intro X hP hw hK hc i pins s σ H E I hf st hg
  subst hP hw hK
  obtain ⟨xs,x,hq,hx⟩:=hg
  obtain ⟨its,rv,p,hz⟩:=I.list hq
  obtain ⟨u,hu,ru⟩:=rv.get hx
  obtain ⟨f0,f1,f2,f3,f4,f5⟩:=hf it (by simp)
  refine wpAny_pyNext_list_item st p.isList (x:=u) (by simpa using hu) fun h' st' sb=>?_
  have I1:Inv X pins σ H {s with heap:=h'}:=I.turned (t':=s.toks) (fun b o hb e=>(sb.2 b hb).trans e) f0 f1 f3 f4 f5
  obtain ⟨o,e,c,d⟩:=id st'
  exact ⟨u,rfl,zaox (s:={s with heap:=h'}) e c d (by decide) ⟨x,H,I1,ru,⟨rfl,fun ys hy=>by rw [I.list_inj hy hq];exact hx⟩,st',fun b hb=>(hf b hb).1⟩⟩
 done:=by
  intro X hP hw hK hc i pins s σ H E I hf st hg
  subst hP hw hK
  obtain ⟨xs,hq,hx⟩:=hg
  obtain ⟨its,rv,p,hz⟩:=I.list hq
  obtain ⟨f0,f1,f2,f3,f4,f5⟩:=hf it (by simp)
  have hl:=rv.length
  exact wpAny_pyNext_list_end (I.ok.hd hc) st p.isList (by simp;omega) fun h' eb=>⟨rfl,I.turned (t':=s.toks) (fun b o hb e=>eb b o hb e) f0 f1 f3 f4 f5⟩
 self:=fun _ _ _ _ _ st h=>wpAny_pyIter_listiter st h
theorem zaeo {P:Program} {w:World} {K:qB} {tg:Expr} (a it:Addr):Turn P w K tg (Itt K a) [it] it (fun i h=>h.IsTupleIter it a i) where
 mem:=by simp
 obj:=fun i h st b hb=>by
  have e:b=it:=by simpa using hb
  subst e
  obtain ⟨o,e,c,d⟩:=st
  exact ⟨o,e,fun v z=>by rw [d] at z;cases z⟩
 keep:=fun i h h' st k=>st.at fun o e=>k it (by simp) o e
 item:=by
  intro X hP hw hK hc i pins s σ H E I hf st hg
  subst hP hw hK
  obtain ⟨xs,x,hq,hx⟩:=hg
  obtain ⟨its,rv,p,hz⟩:=I.tuple hq
  obtain ⟨u,hu,ru⟩:=rv.get hx
  obtain ⟨f0,f1,f2,f3,f4,f5⟩:=hf it (by simp)
  refine wpAny_pyNext_tuple_item st (show s.heap.IsTuple a its.toArray from p) (x:=u) (by simpa using hu) fun h' st' sb=>?_
  have I1:Inv X pins σ H {s with heap:=h'}:=I.turned (t':=s.toks) (fun b o hb e=>(sb.2 b hb).trans e) f0 f1 f3 f4 f5
  obtain ⟨o,e,c,d⟩:=id st'
  exact ⟨u,rfl,zaox (s:={s with heap:=h'}) e c d (by decide) ⟨x,H,I1,ru,⟨rfl,fun ys hy=>by rw [I.tuple_inj hy hq];exact hx⟩,st',fun b hb=>(hf b hb).1⟩⟩
 done:=by
  intro X hP hw hK hc i pins s σ H E I hf st hg
  subst hP hw hK
  obtain ⟨xs,hq,hx⟩:=hg
  obtain ⟨its,rv,p,hz⟩:=I.tuple hq
  obtain ⟨f0,f1,f2,f3,f4,f5⟩:=hf it (by simp)
  have hl:=rv.length
  exact wpAny_pyNext_tuple_end (I.ok.hd hc) st (show s.heap.IsTuple a its.toArray from p) (by simp;omega) fun h' eb=>⟨rfl,I.turned (t':=s.toks) (fun b o hb e=>eb b o hb e) f0 f1 f3 f4 f5⟩
 self:=fun _ _ _ _ _ st h=>wpAny_pyIter_tupleiter st h
theorem zaep {P:Program} {w:World} {K:qB} {tg:Expr} (it:Addr) (lo:Int) (n:Nat):Turn P w K tg (Itr lo n) [it] it (fun i h=>IsRangeIter h it (lo+(i:Nat) * 1) ((n:Int) - (i:Nat)) 1) where
 mem:=by simp
 obj:=fun i h st b hb=>by
  have e:b=it:=by simpa using hb
  subst e
  exact ⟨_,st,fun v z=>by
   have z':Data.fields _=Data.cell v:=z
   cases z'⟩
 keep:=fun i h h' st k=>k it (by simp) _ st
 item:=by
  intro X hP hw hK hc i pins s σ H E I hf st hg
  subst hP hw hK
  obtain ⟨f0,f1,f2,f3,f4,f5⟩:=hf it (by simp)
  have W:=Walks.range (prog:=X.prog) (w:=X.w) (I.ok.hd hc) it lo 1 n
  refine W.item i s _ _ hg st fun v h' tk hv st' kk=>?_
  obtain ⟨t,rfl⟩:=hv
  have I1:Inv X pins σ H {s with heap:=h',toks:=tk}:=I.turned (fun b o hb e=>kk b o (by simpa using hb) e) f0 f1 f3 f4 f5
  refine ⟨_,rfl,zaox (s:={s with heap:=h',toks:=tk}) (n:="range_iterator") st' rfl rfl (by decide) ⟨.int (lo+i),H,I1,⟨t,?_⟩,⟨rfl,rfl⟩,st',fun b hb=>(hf b hb).1⟩⟩
  rw [Int.mul_one]
 done:=by
  intro X hP hw hK hc i pins s σ H E I hf st hg
  subst hP hw hK
  obtain ⟨f0,f1,f2,f3,f4,f5⟩:=hf it (by simp)
  exact wpAny_pyNext_range_end (I.ok.hd hc) st (by have:n≤i:=hg;omega) fun h' eb=>⟨rfl,I.turned (t':=s.toks) (fun b o hb e=>eb b o hb e) f0 f1 f3 f4 f5⟩
 self:=fun _ _ _ _ _ st h=>wpAny_pyIter_rangeiter st h
section
variable {X:Cx} {tg:Expr}
noncomputable def zasc (K:qB) (tl:TE):TI:=fun σ H R=>tl σ H fun x H1=>∃ a,x=.ref a∧(∃ xs,SqL K H1 a xs)∧R (Itl K a) H1
theorem zaoy {l:Expr} {tl:TE} (hl:PE X l tl):PI X tg l (zasc X.K tl):=by
 intro pins s σ H R I h
 refine thn (hl pins s σ H _ I h) fun v s1 ⟨x,H1,I1,r1,q1⟩=>?_
 obtain ⟨a,e,⟨xs,hq⟩,q⟩:=q1
 subst e
 cases r1
 obtain ⟨its,rv,p,hz⟩:=I1.list hq
 refine qAs p.isList ?_
 refine ⟨s1.heap.objs.size,[s1.heap.objs.size],_,_,H1,rfl,I1.kept (t':=s1.toks) fun b o e=>qH _ e,zxf a _,⟨_,qq _ rfl,rfl,rfl⟩,fun b hb=>?_,q⟩
 have e:b=s1.heap.objs.size:=by simpa using hb
 subst e
 exact I1.fpOk (qO _) (I1.hok.fresh (qO _))
theorem zakx {pins:List (Addr×Obj)} {σ:St} {H:Hp} {s:Shared} {R:It→Hp→Prop} {E:Value→Shared→Prop} {lo hi:Int} {t u v:Tok} {tk:Nat} (I:Inv X pins σ H s) (h1:-(2 ^ 62)≤lo) (h2:lo<2 ^ 62) (h3:-(2 ^ 62)≤hi) (h4:hi<2 ^ 62)
  (q:R (Itr lo (hi - lo).toNat) H):wpAny (model X.prog X.w) X.A (pyIter (.ref s.heap.objs.size)) (PIE X pins σ tg R) E {s with heap:=s.heap.push {cls:=.type "range",data:=.fields #[.int lo t,.int hi u,.int 1 v]},toks:=tk}:=by
 refine wpAny_pyIter_range (IsRange.new ..) (small_one h1 h2 h3 h4) ?_
 have I1:Inv X pins σ H {s with heap:=s.heap.push {cls:=.type "range",data:=.fields #[.int lo t,.int hi u,.int 1 v]},toks:=tk}:=I.kept fun b o e=>qH _ e
 refine ⟨(s.heap.push {cls:=.type "range",data:=.fields #[.int lo t,.int hi u,.int 1 v]}).objs.size,[(s.heap.push {cls:=.type "range",data:=.fields #[.int lo t,.int hi u,.int 1 v]}).objs.size],_,_,H,rfl,
  I1.kept (t':=tk) fun b o e=>qH _ e,zaep _ lo (hi - lo).toNat,?_,fun b hb=>?_,q⟩
 ·have e1:lo+((0:Nat):Int) * 1=lo:=by simp
  have e2:(((hi - lo).toNat:Nat):Int) - ((0:Nat):Int)=Builtin.Range.rangeSize lo hi 1:=by rw [rangeSize_one];split<;>omega
  show IsRangeIter _ _ (lo+((0:Nat):Int) * 1) ((((hi - lo).toNat:Nat):Int) - ((0:Nat):Int)) 1
  rw [e1,e2]
  exact qq _ rfl
 ·have e:b=(s.heap.push {cls:=.type "range",data:=.fields #[.int lo t,.int hi u,.int 1 v]}).objs.size:=by simpa using hb
  subst e
  exact I1.fpOk (qO _) (I1.hok.fresh (qO _))
noncomputable def iRng1 (ta:TA):TI:=fun σ H R=>ta σ H fun vs H1=>∃ j:Int,vs=[.int j]∧-(2 ^ 62)≤j∧j<2 ^ 62∧R (Itr 0 j.toNat) H1
theorem zxg {a:Expr} {ta:TA} {p pos:Pos} (hg:Gl X "range") (hm:X.mg "range" = none) (ha:PA X [a] ta) (hs:starEach [a] X.env=[(false,eval a X.env)]:=by rfl):PI X tg (.Call (.Name "range" p) [a] [] pos) (iRng1 ta):=by
 intro pins s σ H R I h
 refine Call_ (zub I hg hm boot_range (qBL (thn (ha pos pins s σ H _ I h) fun us s1 ⟨vs,H1,I1,r1,q1⟩=>?_) hs rfl))
 obtain ⟨j,e,q1,q2,q⟩:=q1
 subst e
 cases r1 with
 | cons r rr =>
  cases rr
  obtain ⟨t,rfl⟩:=r
  exact call_range_1 (zakx I1 (by omega) (by omega) q1 q2 (by simpa using q))
noncomputable def tFor (wi:TI) (g:TG) (tb:TS):TS:=fun D σ H=>wi σ H fun J H1=>∃ W:Nat→Nat→St→Hp→Prop,(∃ m,W 0 m σ H1)∧∀ i m σ H,W i m σ H →
 (J.stop i H∧D.nx σ H)∨(J.go i H∧∃ N:St→Hp→Prop,(∀ σ' H',N σ' H'→∃ m',m'<m∧W (i+1) m' σ' H')∧∀ x H',J.yld i H x H'→g x σ H' fun σ2 H2=>tb {D with nx:=N,ct:=N,bk:=D.nx} σ2 H2)
noncomputable def zxh (fp:List Addr) (h:Heap):List (Addr×Obj):=fp.filterMap fun b=>(h.get? b).map fun o=>(b,o)
theorem zmd {fp:List Addr} {h:Heap} {b:Addr} {o:Obj} (hb:b∈fp) (e:h.get? b=some o):(b,o)∈zxh fp h:=qBW.mpr ⟨b,hb,by rw [e];rfl⟩
theorem zagd {fp:List Addr} {h:Heap} {p:Addr×Obj} (hp:p∈zxh fp h):p.1∈fp∧h.get? p.1=some p.2:=by
 obtain ⟨b,hb,e⟩:=qBW.mp hp
 cases q:h.get? b with
 | none=>rw [q] at e;cases e
 | some o =>
  rw [q] at e
  have e':(b,o)=p:=qr e
  subst e'
  exact ⟨hb,q⟩
theorem Inv.pinned {pins:List (Addr×Obj)} {σ:St} {H:Hp} {s:Shared} {fp:List Addr} (I:Inv X pins σ H s) (hf:∀ b∈fp,FpOk X pins H b) (ho:∀ b∈fp,∃ o,s.heap.get? b=some o∧∀ v,o.data≠.cell v):Inv X (pins++zxh fp s.heap) σ H s :=
 I.pins_of fun p hp=>(qAA.mp hp).elim (fun z=>I.pin p (qm _ z)) fun z=>by
  obtain ⟨hb,e⟩:=zagd z
  obtain ⟨f0,f1,f2,_⟩:=hf p.1 hb
  obtain ⟨o,e',d⟩:=ho p.1 hb
  rw [e] at e';cases e'
  exact ⟨e,f0,f1,f2,d⟩
theorem Inv.unpinned {pins pl:List (Addr×Obj)} {σ:St} {H:Hp} {s:Shared} (I:Inv X (pins++pl) σ H s):Inv X pins σ H s:=I.pins_of fun p hp=>I.pin p (qm _ (qz _ hp))
theorem zage {iter:Expr} {body:List Stmt} {wi:TI} {g:TG} {tb:TS} {pos:Pos} (hp:PassesOwn (model X.prog X.w) X.A X.env X.xe) (hc:X.calm=true) (hi:PI X tg iter wi) (hg:PG X tg g) (hb:PSs X body tb)
  (hs:∀ x,foldedSetIterable iter X.env x=pure x:=by intro _;rfl):PS X (.For tg iter body [] pos) (tFor wi g tb):=by
 intro pins s σ H D I h
 refine wpAny_For (thn (hi pins s σ H _ I h) fun v s1 h1=>thn h1 fun itv s2 h2=>?_) hs
 obtain ⟨it,fp,tn,J,H2,e,I2,T,st2,f2,W,⟨m0,w0⟩,turn⟩:=h2
 subst e
 have stat:∀ {H':Hp},(∀ b∈fp,H' b=none)→∀ b∈fp,FpOk X pins H' b:=fun hn b hb=>⟨hn b hb,(f2 b hb).2⟩
 refine codeAny_forLoop_any (fun n s'=>∃ i σ' H',Inv X pins σ' H' s'∧tn i s'.heap∧(∀ b∈fp,H' b=none)∧W i n σ' H') ?_ m0 ⟨0,σ,H2,I2,st2,fun b hb=>(f2 b hb).1,w0⟩
 rintro n s3 ⟨i,σ3,H3,I3,st3,fr3,w3⟩
 rcases turn i n σ3 H3 w3 with ⟨stop,qn⟩|⟨go,N,hN,step⟩
 ·refine qBZ hp (thn (T.done X rfl rfl rfl hc i pins s3 σ3 H3 X.xe I3 (stat fr3) st3 stop) fun r s4 ⟨hr,I4⟩=>?_)
  subst hr
  exact qCf ⟨σ3,H3,I4,qn⟩
 ·refine qBZ hp (thn (T.item X rfl rfl rfl hc i pins s3 σ3 H3 X.xe I3 (stat fr3) st3 go) fun r s4 ⟨u,hr,h4⟩=>?_)
  subst hr
  refine qBZ hp (thn h4 fun _ s5 ⟨x,H5,I5,r5,y5,st5,fr5⟩=>?_)
  have I5':=I5.pinned (stat fr5) (T.obj _ _ st5)
  refine qBZ hp (thn (hg _ s5 σ3 H5 x u _ I5' r5 (step x H5 y5)) fun _ s6 ⟨σ6,H6,I6,q6⟩=>?_)
  refine qBZ hp (thn (hb _ s6 σ6 H6 _ I6 q6) fun f s7 q7=>?_)
  have again:∀ {σ7:St} {H7:Hp},Inv X (pins++zxh fp s5.heap) σ7 H7 s7→N σ7 H7→∃ m,m<n∧∃ i σ' H',Inv X pins σ' H' s7∧tn i s7.heap∧(∀ b∈fp,H' b=none)∧W i m σ' H':=fun {σ7 H7} I7 n7=>by
   obtain ⟨m',hm,w7⟩:=hN σ7 H7 n7
   refine ⟨m',hm,i+1,σ7,H7,I7.unpinned,T.keep _ _ _ st5 fun b hb o e=>(I7.pin (b,o) (qm _ (qm _ (zmd hb e)))).1,fun b hb=>?_,w7⟩
   obtain ⟨o,e,d⟩:=T.obj _ _ st5 b hb
   exact (I7.pin (b,o) (qm _ (qm _ (zmd hb e)))).2.1
  cases f with
  | next=>obtain ⟨σ7,H7,I7,n7⟩:=q7;exact again I7 n7
  | cont=>obtain ⟨σ7,H7,I7,n7⟩:=q7;exact again I7 n7
  | brk=>obtain ⟨σ7,H7,I7,q7⟩:=q7;exact ⟨σ7,H7,I7.unpinned,q7⟩
  | ret v=>obtain ⟨x7,σ7,H7,I7,r7,q7⟩:=q7;exact ⟨x7,σ7,H7,I7.unpinned,r7,q7⟩
end
theorem for_list {K:qB} {a:Addr} {xs:List V} {g:TG} {tb:TS} {D:Ends} {σ:St} {H:Hp} (Pv:Nat→St→Hp→Prop) (h0:Pv 0 σ H) (hl:∀ i σ H,i≤xs.length→Pv i σ H→SqL K H a xs)
  (hs:∀ i x σ H,xs[i]?=some x→Pv i σ H→g x σ H fun σ2 H2=>tb {D with nx:=Pv (i+1),ct:=Pv (i+1),bk:=D.nx} σ2 H2) (hd:∀ σ H,Pv xs.length σ H→D.nx σ H) :
  ∃ W:Nat→Nat→St→Hp→Prop,(∃ m,W 0 m σ H)∧∀ i m σ H,W i m σ H →
   ((Itl K a).stop i H∧D.nx σ H)∨((Itl K a).go i H∧∃ N:St→Hp→Prop,(∀ σ' H',N σ' H'→∃ m',m'<m∧W (i+1) m' σ' H')∧∀ x H',(Itl K a).yld i H x H'→g x σ H' fun σ2 H2=>tb {D with nx:=N,ct:=N,bk:=D.nx} σ2 H2):=by
 refine ⟨fun i m σ H=>m=xs.length - i∧i≤xs.length∧Pv i σ H,⟨xs.length,by simp,qAd _,h0⟩,?_⟩
 rintro i m σ H ⟨rfl,hi,p⟩
 have q:=hl i σ H hi p
 by_cases hlt:i<xs.length
 ·refine .inr ⟨⟨xs,xs[i],q,by simp [hlt]⟩,Pv (i+1),fun σ' H' p'=>⟨xs.length - (i+1),by omega,rfl,hlt,p'⟩,fun x H' y=>?_⟩
  obtain ⟨e,y⟩:=y
  subst e
  exact hs i x σ _ (y xs q) p
 ·have e:i=xs.length:=by omega
  subst e
  exact .inl ⟨⟨xs,q,qO _⟩,hd σ H p⟩
theorem for_range {lo:Int} {n:Nat} {g:TG} {tb:TS} {D:Ends} {σ:St} {H:Hp} (Pv:Nat→St→Hp→Prop) (h0:Pv 0 σ H)
  (hs:∀ i σ H,i<n→Pv i σ H→g (.int (lo+i)) σ H fun σ2 H2=>tb {D with nx:=Pv (i+1),ct:=Pv (i+1),bk:=D.nx} σ2 H2) (hd:∀ σ H,Pv n σ H→D.nx σ H) :
  ∃ W:Nat→Nat→St→Hp→Prop,(∃ m,W 0 m σ H)∧∀ i m σ H,W i m σ H →
   ((Itr lo n).stop i H∧D.nx σ H)∨((Itr lo n).go i H∧∃ N:St→Hp→Prop,(∀ σ' H',N σ' H'→∃ m',m'<m∧W (i+1) m' σ' H')∧∀ x H',(Itr lo n).yld i H x H'→g x σ H' fun σ2 H2=>tb {D with nx:=N,ct:=N,bk:=D.nx} σ2 H2):=by
 refine ⟨fun i m σ H=>m=n - i∧i≤n∧Pv i σ H,⟨n,by simp,qAd _,h0⟩,?_⟩
 rintro i m σ H ⟨rfl,hi,p⟩
 by_cases hlt:i<n
 ·refine .inr ⟨hlt,Pv (i+1),fun σ' H' p'=>⟨n - (i+1),by omega,rfl,hlt,p'⟩,fun x H' y=>?_⟩
  obtain ⟨e,y⟩:=y
  subst e y
  exact hs i σ _ hlt p
 ·have e:i=n:=by omega
  subst e
  exact .inl ⟨qO _,hd σ H p⟩
noncomputable abbrev R2:=V→V→Hp→VK→Prop
noncomputable def OpR (X:Cx) (f:Value→Value→Sem Value) (r:R2):Prop :=
 ∀ (pins:List (Addr×Obj)) (s:Shared) (σ:St) (H:Hp) (x y:V) (v u:Value) (Q:VK),Inv X pins σ H s→RelV x v→RelV y u→r x y H Q →
  wpAny (model X.prog X.w) X.A (f v u) (EP X pins σ Q) X.xe s
noncomputable def UnR (X:Cx) (f:Value→Sem Value) (r:V→Hp→VK→Prop):Prop :=
 ∀ (pins:List (Addr×Obj)) (s:Shared) (σ:St) (H:Hp) (x:V) (v:Value) (Q:VK),Inv X pins σ H s→RelV x v→r x H Q →
  wpAny (model X.prog X.w) X.A (f v) (EP X pins σ Q) X.xe s
noncomputable def CallR (X:Cx) (f:Value) (r:List V→Hp→VK→Prop):Prop :=
 ∀ (pins:List (Addr×Obj)) (s:Shared) (σ:St) (H:Hp) (xs:List V) (us:List Value) (Q:VK),Inv X pins σ H s→Vals xs us→r xs H Q →
  wpAny (model X.prog X.w) X.A (call f us) (EP X pins σ Q) X.xe s
noncomputable def TruR (X:Cx) (r:V→Hp→(Bool→Hp→Prop)→Prop):Prop :=
 ∀ (pins:List (Addr×Obj)) (s:Shared) (σ:St) (H:Hp) (x:V) (v:Value) (Q:Bool→Hp→Prop),Inv X pins σ H s→RelV x v→r x H Q →
  wpAny (model X.prog X.w) X.A (truthy v) (TP X pins σ Q) X.xe s
noncomputable def tOp (r:R2) (ta tb:TE):TE:=fun σ H Q=>ta σ H fun x H1=>tb σ H1 fun y H2=>r x y H2 Q
noncomputable def tUn (r:V→Hp→VK→Prop) (ta:TE):TE:=fun σ H Q=>ta σ H fun x H1=>r x H1 Q
noncomputable def rI (C:Int→Int→Prop) (g:Int→Int→V):R2:=fun x y H Q=>∃ i j,x=.int i∧y=.int j∧C i j∧Q (g i j) H
noncomputable def rI0 (g:Int→Int→V):R2:=fun x y H Q=>∃ i j,x=.int i∧y=.int j∧Q (g i j) H
noncomputable def rU (g:Int→V):V→Hp→VK→Prop:=fun x H Q=>∃ i,x=.int i∧Q (g i) H
section
variable {X:Cx} {a b c:Expr} {ta tb tc:TE} {pos:Pos}
theorem binT (ha:PE X a ta) (hb:PE X b tb) {pins:List (Addr×Obj)} {s:Shared} {σ:St} {H:Hp} {R:V→V→Hp→Prop} (I:Inv X pins σ H s)
  (h:ta σ H fun x H1=>tb σ H1 fun y H2=>R x y H2) {Q:Value→Shared→Prop} {f:Value→Value→Sem Value}
  (hf:∀ v u s2 x y H2,Inv X pins σ H2 s2→RelV x v→RelV y u→R x y H2→wpAny (model X.prog X.w) X.A (f v u) Q X.xe s2) :
  wpAny (model X.prog X.w) X.A (eval a X.env) (fun v s₁=>wpAny (model X.prog X.w) X.A (eval b X.env) (fun u s₂=>wpAny (model X.prog X.w) X.A (f v u) Q X.xe s₂) X.xe s₁) X.xe s:=by
 refine thn (ha pins s σ H _ I h) fun v s1 ⟨x,H1,I1,r1,q1⟩=>?_
 refine thn (hb pins s1 σ H1 _ I1 q1) fun u s2 ⟨y,H2,I2,r2,q2⟩=>?_
 exact hf v u s2 x y H2 I2 r1 r2 q2
theorem zmr {op:Operator} {r:R2} (ho:OpR X (binaryOp op) r) (ha:PE X a ta) (hb:PE X b tb):PE X (.BinOp a op b pos) (tOp r ta tb):=by
 intro pins s σ H Q I h
 exact wpAny_BinOp (binT ha hb I h fun v u s2 x y H2 I2 rx ry q=>ho pins s2 σ H2 x y v u Q I2 rx ry q)
theorem zauq {op:UnaryOp} {r:V→Hp→VK→Prop} (ho:UnR X (unaryOp op) r) (ha:PE X a ta):PE X (.UnaryOp op a pos) (tUn r ta):=by
 intro pins s σ H Q I h
 exact UnaryOp_ (thn (ha pins s σ H _ I h) fun v s1 ⟨x,H1,I1,r1,q1⟩=>ho pins s1 σ H1 x v Q I1 r1 q1)
theorem opI {f:Value→Value→Sem Value} {C:Int→Int→Prop} {g:Int→Int→Int}
  (rule:∀ (i j:Int) (t u:Tok) (s:Shared) (Q:Value→Shared→Prop) (E:Value→Shared→Prop),C i j→Q (.int (g i j) s.toks) {s with toks:=s.toks+1}→wpAny (model X.prog X.w) X.A (f (.int i t) (.int j u)) Q E s) :
  OpR X f (rI C fun i j=>.int (g i j)):=by
 intro pins s σ H x y v u Q I rx ry h
 obtain ⟨i,j,rfl,rfl,hc,q⟩:=h
 obtain ⟨t,rfl⟩:=rx
 obtain ⟨t',rfl⟩:=ry
 exact rule i j t t' s _ _ hc ⟨.int (g i j),H,I.tok _,⟨_,rfl⟩,q⟩
theorem opI0 {f:Value→Value→Sem Value} {g:Int→Int→Int}
  (rule:∀ (i j:Int) (t u:Tok) (s:Shared) (Q:Value→Shared→Prop) (E:Value→Shared→Prop),Q (.int (g i j) s.toks) {s with toks:=s.toks+1}→wpAny (model X.prog X.w) X.A (f (.int i t) (.int j u)) Q E s) :
  OpR X f (rI0 fun i j=>.int (g i j)):=by
 intro pins s σ H x y v u Q I rx ry h
 obtain ⟨i,j,rfl,rfl,q⟩:=h
 obtain ⟨t,rfl⟩:=rx
 obtain ⟨t',rfl⟩:=ry
 exact rule i j t t' s _ _ ⟨.int (g i j),H,I.tok _,⟨_,rfl⟩,q⟩
theorem opB0 {f:Value→Value→Sem Value} {g:Int→Int→Bool}
  (rule:∀ (i j:Int) (t u:Tok) (s:Shared) (Q:Value→Shared→Prop) (E:Value→Shared→Prop),Q (.bool (g i j)) s→wpAny (model X.prog X.w) X.A (f (.int i t) (.int j u)) Q E s) :
  OpR X f (rI0 fun i j=>.bl (g i j)):=by
 intro pins s σ H x y v u Q I rx ry h
 obtain ⟨i,j,rfl,rfl,q⟩:=h
 obtain ⟨t,rfl⟩:=rx
 obtain ⟨t',rfl⟩:=ry
 exact rule i j t t' s _ _ ⟨.bl (g i j),H,I,rfl,q⟩
noncomputable def CDiv (i j:Int):Prop:=0<j∧j<1073741824
noncomputable def CPow (i j:Int):Prop:=0≤j∧j≤1000000∧i.natAbs<2 ^ 64
noncomputable def CMul (i j:Int):Prop:=(-(2 ^ 64)<i∧i<2 ^ 64)∨(-(2 ^ 64)<j∧j<2 ^ 64)
theorem CMul.ok {i j:Int} (h:CMul i j):IntMulOk i j:=by
 rcases h with ⟨h1,h2⟩|⟨h1,h2⟩
 ·exact .of_left (intBits_le_64 h1 h2)
 ·exact .of_right (intBits_le_64 h1 h2)
theorem zasd:OpR X (binaryOp .Add) (rI0 fun i j=>.int (i+j)):=opI0 fun _ _ _ _ _ _ _ q=>add_int q
theorem zri:OpR X (binaryOp .Sub) (rI0 fun i j=>.int (i - j)):=opI0 fun _ _ _ _ _ _ _ q=>sub_int q
theorem zase:OpR X (binaryOp .Mult) (rI CMul fun i j=>.int (i * j)):=opI fun _ _ _ _ _ _ _ hc q=>mul_int q hc.ok
theorem zfk:OpR X (binaryOp .FloorDiv) (rI CDiv fun i j=>.int (i / j)):=opI fun i j _ _ _ _ _ hc q=>by
 have h1:(0:Int)<j:=hc.1
 have h2:j<1073741824:=hc.2
 exact floordiv_int (by omega) (by rw [Int.fdiv_eq_ediv_of_nonneg i (by omega)];exact q) (.inl (PyProof.noPylong_small (by omega)))
theorem zdp:OpR X (binaryOp .Mod) (rI (fun _ j=>0<j) fun i j=>.int (i % j)):=opI fun i j _ _ _ _ _ hc q=>by
 have h1:(0:Int)<j:=hc
 exact mod_int' (by omega) (by rw [Int.fmod_eq_emod_of_nonneg i (by omega)];exact q)
theorem zanu:OpR X (binaryOp .Pow) (rI CPow fun i j=>.int (i ^ j.toNat)):=opI fun _ _ _ _ _ _ _ hc q=>pow_int_small hc.1 hc.2.1 hc.2.2 q
theorem unI {f:Value→Sem Value} {g:Int→Int}
  (rule:∀ (i:Int) (t:Tok) (s:Shared) (Q:Value→Shared→Prop) (E:Value→Shared→Prop),Q (.int (g i) s.toks) {s with toks:=s.toks+1}→wpAny (model X.prog X.w) X.A (f (.int i t)) Q E s) :
  UnR X f (rU fun i=>.int (g i)):=by
 intro pins s σ H x v Q I rx h
 obtain ⟨i,rfl,q⟩:=h
 obtain ⟨t,rfl⟩:=rx
 exact rule i t s _ _ ⟨.int (g i),H,I.tok _,⟨_,rfl⟩,q⟩
theorem zasf:UnR X (unaryOp .USub) (rU fun i=>.int (-i)):=unI fun _ _ _ _ _ q=>neg_int q
end
noncomputable def scal:V→V→Bool
 | .non,.non=>true|.non,.int _=>true|.int _,.non=>true|.non,.bl _=>true|.bl _,.non=>true|.non,.str _=>true|.str _,.non=>true
 | .int _,.int _=>true|.bl _,.bl _=>true|.str _,.str _=>true|.byt _,.byt _=>true
 | .int _,.str _=>true|.str _,.int _=>true|.bl _,.str _=>true|.str _,.bl _=>true
 | _,_=>false
noncomputable def rEq:R2:=fun x y H Q=>scal x y=true∧Q (.bl (decide (x=y))) H
noncomputable def rNe:R2:=fun x y H Q=>scal x y=true∧Q (.bl (!decide (x=y))) H
theorem zaan {i j:Int}:decide (V.int i=V.int j)=(i==j):=by
 rw [qAF]
 simp
theorem zacn {i j:Bool}:decide (V.bl i=V.bl j)=(i==j):=by
 rw [qAF]
 simp
theorem zrj {i j:Str}:decide (V.str i=V.str j)=(i==j):=by
 rw [qAF]
 simp
theorem zagf {i j:Array UInt8}:decide (V.byt i=V.byt j)=(i.toList==j.toList):=by
 rw [qAF]
 cases i
 cases j
 simp
section
variable {X:Cx} {a b c:Expr} {ta tb tc:TE} {pos:Pos}
theorem zdx {pins:List (Addr×Obj)} {σ:St} {H:Hp} {s:Shared} {Q:VK} {k k':Bool} (I:Inv X pins σ H s) (q:Q (.bl k) H) (e:k=k'):EP X pins σ Q (.bool k') s:=by
 subst e
 exact ⟨.bl k,H,I,rfl,q⟩
theorem zasg:OpR X (compareOp .Eq) rEq:=by
 intro pins s σ H x y v u Q I rx ry h
 obtain ⟨hs,q⟩:=h
 cases x with
 | non =>
  cases rx
  cases y with
  | non=>cases ry;exact PySem.EqNone.eq_none_none (zdx I q (by simp))
  | bl j=>cases ry;exact PySem.EqNone.eq_none_bool (zdx I q (by simp))
  | int j=>obtain ⟨t',rfl⟩:=ry;exact PySem.EqNone.eq_none_int (zdx I q (by simp))
  | str j=>obtain ⟨t',rfl⟩:=ry;exact PySem.EqNone.eq_none_str (zdx I q (by simp))
  | _=>exact absurd (show false=true from hs) qK
 | bl i =>
  cases rx
  cases y with
  | non=>cases ry;exact PySem.EqNone.eq_bool_none (zdx I q (by simp))
  | bl j=>cases ry;exact eq_bool (zdx I q zacn)
  | str j=>obtain ⟨t',rfl⟩:=ry;exact PySem.EqMixed.eq_bool_str (zdx I q (by simp))
  | _=>exact absurd (show false=true from hs) qK
 | int i =>
  obtain ⟨t,rfl⟩:=rx
  cases y with
  | non=>cases ry;exact PySem.EqNone.eq_int_none (zdx I q (by simp))
  | int j=>obtain ⟨t',rfl⟩:=ry;exact eq_int (zdx I q zaan)
  | str j=>obtain ⟨t',rfl⟩:=ry;exact PySem.EqMixed.eq_int_str (zdx I q (by simp))
  | _=>exact absurd (show false=true from hs) qK
 | str i =>
  obtain ⟨t,rfl⟩:=rx
  cases y with
  | non=>cases ry;exact PySem.EqNone.eq_str_none (zdx I q (by simp))
  | bl j=>cases ry;exact PySem.EqMixed.eq_str_bool (zdx I q (by simp))
  | int j=>obtain ⟨t',rfl⟩:=ry;exact PySem.EqMixed.eq_str_int (zdx I q (by simp))
  | str j=>obtain ⟨t',rfl⟩:=ry;exact eq_str (zdx I q zrj)
  | _=>exact absurd (show false=true from hs) qK
 | byt i =>
  obtain ⟨t,rfl⟩:=rx
  cases y with
  | byt j=>obtain ⟨t',rfl⟩:=ry;exact PySem.W.eq_bytes (zdx I q zagf)
  | _=>exact absurd (show false=true from hs) qK
 | _=>cases y<;>exact absurd (show false=true from hs) qK
theorem zaur:OpR X (compareOp .NotEq) rNe:=by
 intro pins s σ H x y v u Q I rx ry h
 obtain ⟨hs,q⟩:=h
 cases x with
 | non =>
  cases rx
  cases y with
  | non=>cases ry;exact PySem.EqNone.ne_none_none (zdx I q (by simp))
  | bl j=>cases ry;exact PySem.EqNone.ne_none_bool (zdx I q (by simp))
  | int j=>obtain ⟨t',rfl⟩:=ry;exact PySem.EqNone.ne_none_int (zdx I q (by simp))
  | str j=>obtain ⟨t',rfl⟩:=ry;exact PySem.EqNone.ne_none_str (zdx I q (by simp))
  | _=>exact absurd (show false=true from hs) qK
 | bl i =>
  cases rx
  cases y with
  | non=>cases ry;exact PySem.EqNone.ne_bool_none (zdx I q (by simp))
  | bl j=>cases ry;exact ne_bool (zdx I q (congrArg not zacn))
  | str j=>obtain ⟨t',rfl⟩:=ry;exact PySem.EqMixed.ne_bool_str (zdx I q (by simp))
  | _=>exact absurd (show false=true from hs) qK
 | int i =>
  obtain ⟨t,rfl⟩:=rx
  cases y with
  | non=>cases ry;exact PySem.EqNone.ne_int_none (zdx I q (by simp))
  | int j=>obtain ⟨t',rfl⟩:=ry;exact ne_int (zdx I q (congrArg not zaan))
  | str j=>obtain ⟨t',rfl⟩:=ry;exact PySem.EqMixed.ne_int_str (zdx I q (by simp))
  | _=>exact absurd (show false=true from hs) qK
 | str i =>
  obtain ⟨t,rfl⟩:=rx
  cases y with
  | non=>cases ry;exact PySem.EqNone.ne_str_none (zdx I q (by simp))
  | bl j=>cases ry;exact PySem.EqMixed.ne_str_bool (zdx I q (by simp))
  | int j=>obtain ⟨t',rfl⟩:=ry;exact PySem.EqMixed.ne_str_int (zdx I q (by simp))
  | str j=>obtain ⟨t',rfl⟩:=ry;exact ne_str (zdx I q (congrArg not zrj))
  | _=>exact absurd (show false=true from hs) qK
 | byt i =>
  obtain ⟨t,rfl⟩:=rx
  cases y with
  | byt j=>obtain ⟨t',rfl⟩:=ry;exact PySem.W.ne_bytes (zdx I q (congrArg not zagf))
  | _=>exact absurd (show false=true from hs) qK
 | _=>cases y<;>exact absurd (show false=true from hs) qK
theorem zaoz:OpR X (compareOp .Lt) (rI0 fun i j=>.bl (decide (i<j))):=opB0 fun _ _ _ _ _ _ _ q=>lt_int q
theorem zash:OpR X (compareOp .LtE) (rI0 fun i j=>.bl (decide (i≤j))):=opB0 fun _ _ _ _ _ _ _ q=>le_int q
theorem zapa:OpR X (compareOp .Gt) (rI0 fun i j=>.bl (decide (j<i))):=opB0 fun _ _ _ _ _ _ _ q=>gt_int q
theorem OpR.or {f:Value→Value→Sem Value} {r r':R2} (h:OpR X f r) (h':OpR X f r'):OpR X f (fun x y H Q=>r x y H Q∨r' x y H Q):=by
 intro pins s σ H x y v u Q I rx ry q
 rcases q with q|q
 ·exact h pins s σ H x y v u Q I rx ry q
 ·exact h' pins s σ H x y v u Q I rx ry q
theorem zcp (b:Expr) {op:CmpOp} (h:op≠.In:=by decide) (h2:op≠.NotIn:=by decide):behindInMarks op b=false:=by
 have e1:(op==CmpOp.In)=false:=by cases op<;>first|rfl|exact absurd rfl h
 have e2:(op==CmpOp.NotIn)=false:=by cases op<;>first|rfl|exact absurd rfl h2
 cases b<;>simp [behindInMarks,e1,e2]
theorem zapb {op:CmpOp} {r:R2} (ho:OpR X (compareOp op) r) (ha:PE X a ta) (hb:PE X b tb) (hm:behindInMarks op b=false):PE X (.Compare a [op] [b] pos) (tOp r ta tb):=by
 intro pins s σ H Q I h
 exact wpAny_Compare1 (binT ha hb I h fun v u s2 x y H2 I2 rx ry q=>ho pins s2 σ H2 x y v u Q I2 rx ry q) hm
noncomputable def tTest (t:TE):TT:=fun σ H Q=>t σ H fun x H'=>∃ k,x=.bl k∧Q k H'
theorem zagg {op:CmpOp} {r:R2} (ho:OpR X (compareOp op) r) (ha:PE X a ta) (hb:PE X b tb) (hm:behindInMarks op b=false):PT X (.Compare a [op] [b] pos) (tTest (tOp r ta tb)):=by
 intro pins s σ H Q I h
 refine wpAny_isTrue_Compare1 (thn (ha pins s σ H _ I h) fun v s1 ⟨x,H1,I1,r1,q1⟩=>thn (hb pins s1 σ H1 _ I1 q1) fun u s2 ⟨y,H2,I2,r2,q2⟩ =>
  thn (ho pins s2 σ H2 x y v u _ I2 r1 r2 q2) fun c s3 ⟨z,H3,I3,r3,k,e,q3⟩=>?_) hm
 subst e
 cases r3
 exact qAf ⟨H3,I3,q3⟩
noncomputable def tChain (r r':R2) (ta tb tc:TE):TE:=fun σ H Q=>ta σ H fun x H1=>tb σ H1 fun y H2=>r x y H2 fun z H3=>∃ k,z=.bl k ∧
 (if k=true then tc σ H3 fun w' H4=>r' y w' H4 Q else Q (.bl false) H3)
theorem zaky {op op':CmpOp} {r r':R2} (ho:OpR X (compareOp op) r) (ho':OpR X (compareOp op') r') (ha:PE X a ta) (hb:PE X b tb) (hc:PE X c tc)
  (hm:lastMarks [op,op'] [b,c]=false:=by with_unfolding_all rfl):PE X (.Compare a [op,op'] [b,c] pos) (tChain r r' ta tb tc):=by
 intro pins s σ H Q I h
 refine Compare_chain (thn (ha pins s σ H _ I h) fun v s1 ⟨x,H1,I1,r1,q1⟩=>chain_link (thn (hb pins s1 σ H1 _ I1 q1) fun u s2 ⟨y,H2,I2,r2,q2⟩ =>
  thn (ho pins s2 σ H2 x y v u _ I2 r1 r2 q2) fun d s3 ⟨z,H3,I3,r3,k,e,q3⟩=>?_)) hm
 subst e
 cases r3
 refine qAf ?_
 cases k with
 | false=>exact ite_ff ⟨.bl false,H3,I3,rfl,q3⟩
 | true=>exact ite_tt (chain_last (thn (hc pins s3 σ H3 _ I3 q3) fun w' s4 ⟨z',H4,I4,r4,q4⟩=>ho' pins s4 σ H4 y z' u w' Q I4 r2 r4 q4))
theorem zakz {op op':CmpOp} {r r':R2} (ho:OpR X (compareOp op) r) (ho':OpR X (compareOp op') r') (ha:PE X a ta) (hb:PE X b tb) (hc:PE X c tc)
  (hm:lastMarks [op,op'] [b,c]=false:=by with_unfolding_all rfl):PT X (.Compare a [op,op'] [b,c] pos) (tTest (tChain r r' ta tb tc)):=by
 intro pins s σ H Q I h
 refine isTrue_chain (thn (ha pins s σ H _ I h) fun v s1 ⟨x,H1,I1,r1,q1⟩=>test_link (thn (hb pins s1 σ H1 _ I1 q1) fun u s2 ⟨y,H2,I2,r2,q2⟩ =>
  thn (ho pins s2 σ H2 x y v u _ I2 r1 r2 q2) fun d s3 ⟨z,H3,I3,r3,k,e,q3⟩=>?_)) hm
 subst e
 cases r3
 refine qAf ?_
 cases k with
 | false =>
  obtain ⟨k',e',q'⟩:=q3
  cases e'
  exact ite_ff ⟨H3,I3,q'⟩
 | true =>
  refine ite_tt (test_last (thn (hc pins s3 σ H3 _ I3 q3) fun w' s4 ⟨z',H4,I4,r4,q4⟩=>thn (ho' pins s4 σ H4 y z' u w' _ I4 r2 r4 q4) fun d' s5 ⟨z2,H5,I5,r5,k2,e2,q5⟩=>?_))
  subst e2
  cases r5
  exact qAf ⟨H5,I5,q5⟩
noncomputable def TruV (K:qB) (x:V) (H:Hp) (k:Bool):Prop :=
 match x with
 | .non=>k=false
 | .bl b=>k=b
 | .int i=>k=(i != 0)
 | .str y=>y.length≤qj∧k=((y.length:Int) != 0)
 | .byt y=>y.size≤qj∧k=((y.size:Int) != 0)
 | .ref p=>(∃ xs,SqL K H p xs∧k=!xs.isEmpty)∨(∃ xs,SqT K H p xs∧k=!xs.isEmpty)∨∃ kvs,H p=some (.dK kvs)∧k=!kvs.isEmpty
 | _=>False
theorem zaeq {κ:Type} {kvs:List (κ×V)} {vs:List (κ×Value)} (r:KV kvs vs):(!vs.isEmpty)=!kvs.isEmpty:=by
 cases r<;>rfl
theorem zuc {xs:List V} {its:List Value} (r:Vals xs its):(!its.toArray.isEmpty)=!xs.isEmpty:=by
 cases r<;>simp
theorem zxi:(qj:Nat)<2 ^ 63:=by rw [qCg];decide
theorem zasi:TruR X (fun x H Q=>∃ k,TruV X.K x H k∧Q k H):=by
 intro pins s σ H x v Q I rx h
 obtain ⟨k,e,q⟩:=h
 have hl:=zxi
 have hs:qj=16777216:=qCg
 cases x with
 | non =>
  cases rx
  have e':k=false:=e
  subst e'
  exact truthy_none ⟨H,I,q⟩
 | bl b =>
  cases rx
  have e':k=b:=e
  subst e'
  exact qAf ⟨H,I,q⟩
 | int i =>
  obtain ⟨t,rfl⟩:=rx
  have e':k=(i != 0):=e
  subst e'
  exact PySem.P.truthy_int ⟨H,I,q⟩
 | str y =>
  obtain ⟨t,rfl⟩:=rx
  obtain ⟨hy,e'⟩:y.length≤qj∧k=((y.length:Int) != 0):=e
  subst e'
  exact PySem.P.truthy_str (by omega) ⟨H,I.tok _,q⟩
 | byt y =>
  obtain ⟨t,rfl⟩:=rx
  obtain ⟨hy,e'⟩:y.size≤qj∧k=((y.size:Int) != 0):=e
  subst e'
  exact PySem.W.truthy_bytes (by omega) ⟨H,I.tok _,q⟩
 | ref p =>
  cases rx
  have e':(∃ xs,SqL X.K H p xs∧k=!xs.isEmpty)∨(∃ xs,SqT X.K H p xs∧k=!xs.isEmpty)∨∃ kvs,H p=some (.dK kvs)∧k=!kvs.isEmpty:=e
  rcases e' with ⟨xs,hx,e'⟩|⟨xs,hx,e'⟩|⟨kvs,hx,e'⟩
  ·subst e'
   obtain ⟨its,r,pl,hz⟩:=I.list hx
   have hlen:=r.length
   exact wpAny_truthy_list pl.isList (by simp only [qW];omega) ⟨H,I.tok _,by rw [zuc r];exact q⟩
  ·subst e'
   obtain ⟨its,r,pl,hz⟩:=I.tuple hx
   have hlen:=r.length
   exact truthy_tuple pl (by simp only [qW];omega) ⟨H,I.tok _,by rw [zuc r];exact q⟩
  ·subst e'
   obtain ⟨hz,hS,vs,r,m⟩:kvs.length≤qj∧(p==sysModules)=false∧∃ vs,KV kvs vs∧s.heap.DictOf (zfj X.prog X.w) p vs:=I.hok p _ hx
   have hlen:kvs.length=vs.length:=qBs r
   exact wpAny_truthy_dict hS m (by omega) ⟨H,I.tok _,by rw [zaeq r];exact q⟩
 | _=>exact (show False from e).elim
theorem zala (ha:PE X a ta) (he:∀ whole,isTrue a X.env whole=(do let v ← whole;standAt a.pos;holding [v] (truthy v))) :
  PT X a (fun σ H Q=>ta σ H fun x H'=>∃ k,TruV X.K x H' k∧Q k H'):=by
 intro pins s σ H Q I h
 exact isTrue_plain (thn (ha pins s σ H _ I h) fun v s1 ⟨x,H1,I1,r1,q1⟩=>zasi pins s1 σ H1 x v Q I1 r1 q1) (he _)
theorem zaer:OpR X (binaryOp .Add) (fun x y H Q=>∃ i j,x=.str i∧y=.str j∧i.length+j.length≤qj∧Q (.str (i++j)) H):=by
 intro pins s σ H x y v u Q I rx ry h
 obtain ⟨i,j,rfl,rfl,hz,q⟩:=h
 obtain ⟨t,rfl⟩:=rx
 obtain ⟨t',rfl⟩:=ry
 exact add_str (fun t' tk=>⟨.str (i++j),H,I.tok _,⟨_,rfl⟩,q⟩) hz
theorem zaes {x:V} {us:List Value} (r:Vals [x] us):∃ u,us=[u]∧RelV x u:=by
 cases r with
 | cons r1 r2=>cases r2;exact ⟨_,rfl,r1⟩
theorem zapc {x y:V} {us:List Value} (r:Vals [x,y] us):∃ u w',us=[u,w']∧RelV x u∧RelV y w':=by
 cases r with
 | cons r1 r2 =>
  cases r2 with
  | cons r3 r4=>cases r4;exact ⟨_,_,rfl,r1,r3⟩
theorem zagh (hc:X.calm=true):CallR X (.builtin "min") (fun xs H Q=>∃ i j,xs=[.int i,.int j]∧Q (.int (if j<i then j else i)) H):=by
 intro pins s σ H xs us Q I r h
 obtain ⟨i,j,rfl,q⟩:=h
 obtain ⟨u,w',rfl,⟨t,rfl⟩,⟨t',rfl⟩⟩:=zapc r
 refine min_two_ints (I.ok.hd hc) fun h' tk k=>⟨_,H,I.kept k,?_,q⟩
 by_cases hj:j<i
 ·rw [if_pos hj,if_pos hj];exact ⟨_,rfl⟩
 ·rw [if_neg hj,if_neg hj];exact ⟨_,rfl⟩
noncomputable def LenV (K:qB) (x:V) (H:Hp) (n:Nat):Prop :=
 match x with
 | .str y=>y.length≤qj∧n=y.length
 | .byt y=>y.size≤qj∧n=y.size
 | .ref p=>(∃ xs,SqL K H p xs∧n=xs.length)∨∃ xs,SqT K H p xs∧n=xs.length
 | _=>False
theorem zalb:CallR X (.builtin "len") (fun xs H Q=>∃ x n,xs=[x]∧LenV X.K x H n∧Q (.int n) H):=by
 intro pins s σ H xs us Q I r h
 obtain ⟨x,n,rfl,e,q⟩:=h
 obtain ⟨u,rfl,rx⟩:=zaes r
 have hl:=zxi
 have hs:qj=16777216:=qCg
 cases x with
 | str y =>
  obtain ⟨t,rfl⟩:=rx
  obtain ⟨hy,e'⟩:y.length≤qj∧n=y.length:=e
  subst e'
  exact len_str (by omega) ⟨.int _,H,I.tok _,⟨_,rfl⟩,q⟩
 | byt y =>
  obtain ⟨t,rfl⟩:=rx
  obtain ⟨hy,e'⟩:y.size≤qj∧n=y.size:=e
  subst e'
  exact PySem.W.len_bytes (by omega) ⟨.int _,H,I.tok _,⟨_,rfl⟩,q⟩
 | ref p =>
  cases rx
  have e':(∃ xs,SqL X.K H p xs∧n=xs.length)∨∃ xs,SqT X.K H p xs∧n=xs.length:=e
  rcases e' with ⟨xs,hx,e'⟩|⟨xs,hx,e'⟩
  ·subst e'
   obtain ⟨its,r',pl,hz⟩:=I.list hx
   have hlen:=r'.length
   exact Calls.call_len_list pl.isList (by simp only [qW];omega) ⟨.int xs.length,H,I.tok _,⟨_,by simp only [qW];rw [hlen]⟩,q⟩
  ·subst e'
   obtain ⟨its,r',pl,hz⟩:=I.tuple hx
   have hlen:=r'.length
   exact len_tuple pl (by simp only [qW];omega) ⟨.int xs.length,H,I.tok _,⟨_,by simp only [qW];rw [hlen]⟩,q⟩
 | _=>exact (show False from e).elim
end
set_option genInjectivity false in
structure ObjM (h:Heap) (x dx C:Addr) (mA:Str→Option Value):Prop where
 obj:h.get? x=some (PySem.W.instObj C dx)
 ns:h.Ns1 dx mA
 ne:dx≠x
theorem zagi {h:Heap} {dx:Addr} {mA:Str→Option Value} (n:h.Ns1 dx mA):∃ od,h.get? dx=some od∧∀ name,PySem.W.lookIn name od=some (mA name):=by
 obtain ⟨o,es,ep,ho,hd,hk,_,hm⟩:=n
 refine ⟨o,ho,fun name=>?_⟩
 have e:=hm name
 unfold nsFind findBy at e
 rw [← Array.find?_toList] at e
 unfold PySem.W.lookIn
 rw [hd]
 dsimp only
 split
 ·rename_i y q
  rw [q] at e
  exact congrArg some e
 ·rename_i q
  rw [q] at e
  have a:es.toList.any (·.refKey)=false:=by
   rw [qA8]
   intro y hy
   obtain ⟨z,t,hkey⟩:=hk y (Array.mem_toList_iff.mp hy)
   simp [DictEntry.refKey,hkey]
  have a':¬ es.toList.any (·.refKey)=true:=by rw [a];exact qK
  rw [if_neg a']
  exact congrArg some e
theorem ObjM.look {h:Heap} {x dx C:Addr} {mA:Str→Option Value} (I:ObjM h x dx C mA):∃ od,PySem.W.InstAt h x (PySem.W.instObj C dx) C (some od)∧∀ name,PySem.W.lookIn name od=some (mA name) :=
 let ⟨od,ho,hl⟩:=zagi I.ns
 ⟨od,⟨I.obj,rfl,rfl,ho⟩,hl⟩
section
variable {prog:Program} {w:World} {A:Around} {E:Value→Shared→Prop} {s:Shared} {K:qB} {x dx C f:Addr} {mA:Str→Option Value} {name:Str} {v:Value}
end
theorem RelO.some_of {v:V} {o:Option Value} (r:RelO (some v) o):∃ u,o=some u∧RelV v u:=by
 cases o with
 | none=>exact (show False from r).elim
 | some u=>exact ⟨u,rfl,r⟩
section
variable {P:Program} {w:World} {H H':Hp} {h h':Heap} {a C dx:Addr} {fs fs':List (Str×V)}
theorem zapd (hok:HOk P w H h) (e:H a=some (.ins C dx fs)):∃ mA,ObjM h a dx C mA∧(∀ f,RelO (fs.lookup f) (mA f))∧PySem.Within mA (fs.map (·.1))∧fs.length≤1000∧H dx=some (.own a):=by
 obtain ⟨d,z,ne,ob,mA,n,r,q⟩:=(show zgu P w H h a (.ins C dx fs) from hok a _ e)
 exact ⟨mA,⟨ob,n,ne⟩,r,q,z,d⟩
end
set_option genInjectivity false in
structure Cls (K:qB) (C:Addr):Prop where
 pg:PySem.W.plainGet K C Str.empty=true
 hd:PySem.W.hasDictIn K C=true
 po:PySem.W.plainOver K C=true
 sa:PySem.W.findIn K (.ref C) "__setattr__" = some (some (.builtin "object.__setattr__"))
theorem Cls.get {K:qB} {C:Addr} (c:Cls K C) (f:Str):PySem.W.plainGet K C f=true:=c.pg
set_option genInjectivity false in
set_option genInjectivity false in
section
variable {X:Cx} {pins:List (Addr×Obj)} {σ:St} {H:Hp} {s:Shared} {a C dx:Addr} {fs:List (Str×V)} {f:Str} {v:V} {A:Around} {E:Value→Shared→Prop}
end
section
variable {X:Cx} {o e value:Expr} {f:Str} {pos pos' tpos:Pos} {ta tv:TE}
end
section
variable {X:Cx} {pins:List (Addr×Obj)} {σ:St} {H:Hp} {s:Shared} {A:Around} {E:Value→Shared→Prop} {Q:Value→Shared→Prop} {c:Value} {b:Bool}
inductive TyOf (K:qB) (H:Hp):V→Value→Prop where
 | non:TyOf K H .non (.type "NoneType")
 | bl (x:Bool):TyOf K H (.bl x) (.type "bool")
 | int (i:Int):TyOf K H (.int i) (.type "int")
 | str (x:Str):TyOf K H (.str x) (.type "str")
 | flt (x:UInt64):TyOf K H (.flt x) (.type "float")
 | lst {a:Addr} {xs:List V} (e:H a=some (.lst xs)):TyOf K H (.ref a) (.type "list")
 | frz {a:Addr} {o:Obj} {xs:List V} (e:H a=some (.frz o (.lst xs))):TyOf K H (.ref a) (.type "list")
 | tup {a:Addr} {xs:List V} (e:H a=some (.tup xs)):TyOf K H (.ref a) (.type "tuple")
 | dK {a:Addr} {kvs:List (Key×V)} (e:H a=some (.dK kvs)):TyOf K H (.ref a) (.type "dict")
 | dT {a:Addr} {kvs:List (List Key×V)} (e:H a=some (.dT kvs)):TyOf K H (.ref a) (.type "dict")
 | ins {a C dx:Addr} {fs:List (Str×V)} (e:H a=some (.ins C dx fs)) (cl:Cls K C) (ha:PySem.W.findIn K (.ref C) "__class__" = some (some (.builtin "object.__class__")))
   (hn:PySem.W.specialIn K (.builtin "object.__class__") "__get__" = some (some (.builtin "getset_descriptor.__get__"))) (htk:PySem.W.takesIn K (.builtin "object.__class__")=some true)
   (hm:PySem.W.mroIn K C (.type "object")=some true):TyOf K H (.ref a) (.ref C)
theorem zagj {x:V} {u t:Value} (I:Inv X pins σ H s) (rx:RelV x u) (ty:TyOf X.K H x t) (e:PySem.W.kitOne X.K t c=some b) (h:∀ tk,Q (.bool b) {s with toks:=tk}) :
  wpAny (model X.prog X.w) A (call (.builtin "isinstance") [u,c]) Q E s:=by
 cases ty with
 | non=>cases (show u=Value.none from rx);exact qAe PySem.W.kitx_none I.kIn True.intro e (fun z=>nomatch z) h
 | bl y=>cases (show u=Value.bool y from rx);exact qAe PySem.W.kitx_bool I.kIn True.intro e (fun z=>nomatch z) h
 | int i=>obtain ⟨t,q⟩:=(show ∃ t,u=Value.int i t from rx);cases q;exact qAe PySem.W.kitx_int I.kIn True.intro e (fun z=>nomatch z) h
 | str y=>obtain ⟨t,q⟩:=(show ∃ t,u=Value.str y t from rx);cases q;exact qAe PySem.W.kitx_str I.kIn True.intro e (fun z=>nomatch z) h
 | flt y=>obtain ⟨t,q⟩:=(show ∃ t,u=Value.float y t from rx);cases q;exact qAe PySem.W.kitx_float I.kIn True.intro e (fun z=>nomatch z) h
 | @lst a xs ea =>
  cases (show u=Value.ref a from rx)
  obtain ⟨_,_,n,_,h1⟩:=(show zgu X.prog X.w H s.heap a (.lst xs) from I.hok a _ ea)
  exact qAe qCq I.kIn ⟨_,h1,rfl⟩ e (fun z=>nomatch z) h
 | @frz a ob xs ea =>
  cases (show u=Value.ref a from rx)
  obtain ⟨_,_,_,n,_,h1⟩:=(show zgu X.prog X.w H s.heap a (.frz ob (.lst xs)) from I.hok a _ ea)
  exact qAe qCq I.kIn ⟨_,h1,rfl⟩ e (fun z=>nomatch z) h
 | @tup a xs ea =>
  cases (show u=Value.ref a from rx)
  obtain ⟨_,_,_,p⟩:=(show zgu X.prog X.w H s.heap a (.tup xs) from I.hok a _ ea)
  obtain ⟨o,h1,h2,_⟩:=p
  exact qAe PySem.W.kitx_tuple I.kIn ⟨o,h1,h2⟩ e (fun z=>nomatch z) h
 | @dK a kvs ea =>
  cases (show u=Value.ref a from rx)
  obtain ⟨_,_,vs,_,p⟩:=(show zgu X.prog X.w H s.heap a (.dK kvs) from I.hok a _ ea)
  obtain ⟨o,es,ep,h1,h2,_⟩:=p
  exact qAe qCr I.kIn ⟨o,h1,h2.1⟩ e (fun z=>nomatch z) h
 | @dT a kvs ea =>
  cases (show u=Value.ref a from rx)
  obtain ⟨_,_,xs,_,o,es,ep,h1,h2,_⟩:=(show zgu X.prog X.w H s.heap a (.dT kvs) from I.hok a _ ea)
  exact qAe qCr I.kIn ⟨o,h1,h2.1⟩ e (fun z=>nomatch z) h
 | @ins a C dx fs ea cl ha hn htk hm =>
  cases (show u=Value.ref a from rx)
  obtain ⟨mA,O,_⟩:=zapd I.hok ea
  obtain ⟨od,J,_⟩:=O.look
  exact qAe (PySem.W.kitx_own (cl.get _) cl.hd ha hn htk hm) I.kIn J e (fun z=>nomatch z) h
end
set_option genInjectivity false in
structure Room (k:Nat) (A:Around):Prop where
 hd:A.handled=none
 dp:A.depth+3 * k+5<recursionLimit
 un:A.units+16 * k+200<cLine
theorem Room.mono {j k:Nat} {A:Around} (r:Room k A) (h:j≤k):Room j A:=⟨r.hd,by have:=r.dp;omega,by have:=r.un;omega⟩
theorem Room.deeper {k:Nat} {A:Around} (r:Room (k+1) A) (env:Env):Room k (A.deeper env) :=
 ⟨r.hd,by have:=r.dp;show A.depth+1+3 * k+5<_;omega,by have:=r.un;show A.units+3+16 * k+200<_;omega⟩
theorem Room.depth {k:Nat} {A:Around} (r:Room k A):A.depth<recursionLimit:=by have:=r.dp;omega
theorem Room.units {k:Nat} {A:Around} (r:Room k A):A.units+64<cLine:=by have:=r.un;omega
noncomputable def tNil:TA:=fun _ H Q=>Q [] H
noncomputable def tCons (ta:TE) (tr:TA):TA:=fun σ H Q=>ta σ H fun x H1=>tr σ H1 fun xs H2=>Q (x::xs) H2
section
variable {X:Cx} {e:Expr} {es:List Expr} {te:TE} {t:TA} {pos:Pos}
theorem zud:PA X [] tNil:=fun _ _ _ _ H Q I h=>Calls.spliced_nil ⟨[],H,I,.nil,h⟩
theorem zrk (ha:PE X e te) (hr:PA X es t) (hs:starEach (e::es) X.env=(false,eval e X.env)::starEach es X.env:=by rfl):PA X (e::es) (tCons te t):=by
 intro pos pins s σ H Q I h
 rw [hs]
 show wpAny _ _ (spliced ((false,eval e X.env)::backTo pos (starEach es X.env))) _ _ s
 refine Calls.spliced_cons (thn (ha pins s σ H _ I h) fun u s1 ⟨x,H1,I1,r1,q1⟩=>?_)
 exact thn (hr pos pins s1 σ H1 _ I1 q1) fun us s2 ⟨xs,H2,I2,r2,q2⟩=>⟨x::xs,H2,I2,.cons r1 r2,q2⟩
noncomputable def tTup (t:TA):TE:=fun σ H Q=>t σ H fun xs H1=>xs.length≤qj∧∀ p,H1 p=none→Q (.ref p) (upd H1 p (.tup xs))
noncomputable def tLst (t:TA):TE:=fun σ H Q=>t σ H fun xs H1=>xs.length≤qj∧∀ p,H1 p=none→Q (.ref p) (upd H1 p (.lst xs))
theorem zasj {x1} (h:PA X es t):PE X (.Tuple es x1 pos) (tTup t):=by
 intro pins s σ H Q I hq
 refine wpAny_Tuple_spliced (thn (h pos pins s σ H _ I hq) fun us s1 ⟨xs,H1,I1,r,z,q⟩=>⟨by rw [← r.length];exact z,?_⟩)
 have hf:H1 s1.heap.objs.size=none:=I1.hok.fresh (qO _)
 refine ⟨.ref s1.heap.objs.size,upd H1 s1.heap.objs.size (.tup xs),I1.laid (t':=s1.toks) (fun b u e=>qH _ e) (qO _) ?_,rfl,q _ hf⟩
 exact ⟨z,us,r,⟨_,qq _ rfl,rfl,_,rfl⟩⟩
theorem zanv (h:PA X es t):PE X (.List es pos) (tLst t):=by
 intro pins s σ H Q I hq
 refine wpAny_List_spliced (thn (h pos pins s σ H _ I hq) fun us s1 ⟨xs,H1,I1,r,z,q⟩=>⟨by rw [← r.length];exact z,?_⟩)
 have hf:H1 s1.heap.objs.size=none:=I1.hok.fresh (qO _)
 refine ⟨.ref s1.heap.objs.size,upd H1 s1.heap.objs.size (.lst xs),I1.laid (t':=s1.toks) (fun b u e=>qH _ e) (qO _) ?_,rfl,q _ hf⟩
 exact ⟨z,us,0,r,qq _ rfl⟩
end
noncomputable abbrev Sp:=List V→Hp→VK→XK→Prop
noncomputable abbrev CXT:=List Env→Hp→Shared→XK→Value→Shared→Prop
set_option genInjectivity false in
structure Env0 (P:Program) (w:World) (K:qB) (mg:Str→Option Value) (base:Heap) (A:Around) (outer:List Env) (s:Shared) (H:Hp):Prop where
 frames:A.frames=some outer
 mod:Mod K mg base
 bs:∀ b o,base.get? b=some o→s.heap.get? b=some o∧H b=none
 bsz:base.objs.size≤s.heap.objs.size
 funs:s.heap.FunFrames base outer
 frf:∀ b∈frs outer,H b=none
 hok:HOk P w H s.heap
 bare:AllBare s.gens
noncomputable def CE (outer:List Env) (P:Program) (w:World) (H:Hp) (s:Shared) (Q:VK) (u:Value) (s':Shared):Prop :=
 ∃ v H',s'.os=s.os∧AllBare s'.gens∧Un (frs outer) [] H H' s.heap s'.heap∧HOk P w H' s'.heap∧RelV v u∧Q v H'
noncomputable def CR (CX:CXT) (outer:List Env) (P:Program) (w:World) (H:Hp) (s:Shared) (Q:VK) (E:XK) (r:Result) (s':Shared):Prop :=
 match r with
 | .ok (.ret u)=>CE outer P w H s Q u s'
 | .ok _=>False
 | .error e=>CX outer H s E e s'
set_option genInjectivity false in
structure FnOk (P:Program) (w:World) (K:qB) (mg:Str→Option Value) (base:Heap) (CX:CXT) (k:Nat) (f:Addr) (fd:qw) (ps:List Str) (sp:Sp):Prop where
 len:∀ vs H Q E,sp vs H Q E→vs.length=ps.length
 run:∀ (A:Around) (outer:List Env) (s:Shared) (H:Hp) (args:Args) (us:List Value) (vs:List V) (Q:VK) (E:XK),Room k A→Env0 P w K mg base A outer s H→BindsTo s fd args (ps.zip us)→Vals vs us→sp vs H Q E →
  codeAny (model P w) A (.call (.ref f) args) (CR CX outer P w H s Q E) s
section
variable {X:Cx} {pins:List (Addr×Obj)} {σ:St} {H:Hp} {s s':Shared}
theorem Inv.env0 (I:Inv X pins σ H s):Env0 X.prog X.w X.K X.mg X.base X.A X.stack s H :=
 ⟨I.ok.frames,I.ok.mod,I.bs,qAW I.ok.bsz I.sz,I.stack,I.stkFree,I.hok,I.bare⟩
theorem Inv.after {Q:VK} {u:Value} (I:Inv X pins σ H s) (h:CE X.stack X.prog X.w H s Q u s'):EP X pins σ Q u s':=by
 obtain ⟨v,H',os,bare,un,hok,r,q⟩:=h
 obtain ⟨hh,g,d,t,os'⟩:=s'
 obtain rfl:os'=s.os:=os
 exact ⟨v,H',I.call (h':=hh) (g':=g) (d':=d) (t':=t) (ch:=[]) un hok bare (fun b z=>absurd z (by simp)),r,q⟩
end
noncomputable def tCall (sp:Sp) (dvs:List V) (E:XK) (t:TA):TE:=fun σ H Q=>t σ H fun vs H1=>sp (vs++dvs) H1 Q E
noncomputable def zaet (K:qB) (fd:qw) (ps:List Str) (ds:List Value):Prop :=
 ∀ (s:Shared) (us:List Value),K.In s.heap→(us++ds).length=ps.length→BindsTo s fd ⟨us,[]⟩ (ps.zip (us++ds))
theorem zaet.all {K:qB} {fd:qw} {ps:List Str} (h:∀ us:List Value,us.length=ps.length→bindArgs fd ⟨us,[]⟩=pure (ps.zip us)):zaet K fd ps []:=fun s us _ hl=>by
 rw [qAg] at hl ⊢
 exact .of_eq (h us hl)
noncomputable def zagk (CX:CXT) (X:Cx) (E:XK):Prop:=∀ (pins:List (Addr×Obj)) (σ:St) (H:Hp) (s:Shared) (e:Value) (s':Shared),Inv X pins σ H s→CX X.stack H s E e s'→X.xe e s'
section
variable {X:Cx} {CX:CXT} {k:Nat} {f C:Addr} {fd:qw} {ps:List Str} {sp:Sp} {dvs:List V} {ds:List Value} {E:XK} {x m:Str} {p pos apos:Pos} {e o:Expr} {es:List Expr} {ta:TE} {t:TA}
theorem zask {pins:List (Addr×Obj)} {σ:St} {H:Hp} {s:Shared} {Q:VK} {us:List Value} {vs:List V} (F:FnOk X.prog X.w X.K X.mg X.base CX k f fd ps sp) (hr:Room k X.A) (hb:zaet X.K fd ps ds) (hd:Vals dvs ds) (hx:zagk CX X E)
  (I:Inv X pins σ H s) (r:Vals vs us) (h:sp (vs++dvs) H Q E):wpAny (model X.prog X.w) X.A (call (.ref f) us) (EP X pins σ Q) X.xe s:=by
 have r2:Vals (vs++dvs) (us++ds):=r.append hd
 have hl:(us++ds).length=ps.length:=by rw [← r2.length];exact F.len _ _ _ _ h
 refine wpAny_call (qBy (F.run X.A X.stack s H ⟨us,[]⟩ (us++ds) (vs++dvs) Q E hr I.env0 (hb s us I.kIn hl) r2 h) fun r s' hq=>?_)
 cases r with
 | error e=>exact hx pins σ H s e s' I hq
 | ok fl =>
  cases fl with
  | ret u=>exact I.after hq
  | next=>exact False.elim hq
  | brk=>exact False.elim hq
  | cont=>exact False.elim hq
theorem zape (F:FnOk X.prog X.w X.K X.mg X.base CX k f fd ps sp) (hr:Room k X.A) (hg:Gl X x) (hm:X.mg x=some (.ref f)) (hk:qP X.K (.ref f)=true) (hb:zaet X.K fd ps ds) (hd:Vals dvs ds) (hx:zagk CX X E)
  (ha:PA X (e::es) t) (hdb:(x==("__debug__":Str))=false:=by decide) (he:starEach (e::es) X.env=(false,eval e X.env)::starEach es X.env:=by rfl) (hpl:(backTo pos (starEach es X.env)).any (·.1)=false:=by rfl) :
  PE X (.Call (.Name x p) (e::es) [] pos) (tCall sp dvs E t):=by
 intro pins s σ H Q I h
 refine qCC (zaos I hg hm ?_ hdb)
 refine PySem.W.callWith_K (h₀:=X.base) I.ok.mod.kin hk (thn (ha pos pins s σ H _ I h) fun us s1 ⟨vs,H1,I1,r,q⟩=>⟨I1.kIn,?_⟩) he hpl
 exact zask F hr hb hd hx I1 r q
set_option genInjectivity false in
end
section
variable {X:Cx} {CX:CXT} {k:Nat} {f C:Addr} {fd:qw} {ps ks:List Str} {sp:Sp} {E:XK} {x m:Str} {p pos apos kpos:Pos} {e o:Expr} {es:List Expr} {kws:List Keyword} {te ta:TE} {t tk:TA} {nm:Option Str}
set_option genInjectivity false in
variable {g:List Value→List Value→List Value} {gV:List V→List V→List V}
end
set_option genInjectivity false in
structure FnScope (N P:List Str) (sc:Scope):Prop where
 kind:sc.kind=.function
 co:sc.isCoroutine=false
 gen:sc.isGenerator=false
 nd:N.Nodup
 pre:N.take P.length=P
 par:∀ x∈P,sc.names.lookup x=some .local∨sc.names.lookup x=some .cell
 nofree:∀ y∈sc.names,y.2≠.free
theorem zxj {kindOf:Str→Option NameKind} {x:Str}:∀ {binds:List (Str×Value)} {m:Str→Option Value},(∀ v,(x,v)∉binds)→bindL kindOf binds m x=m x
 | [],_,_=>rfl
 | (n,v)::r,m,h=>by
  unfold bindL
  rw [zxj fun w hw=>h w (qT _ hw)]
  split
  ·have:x≠n:=by rintro rfl;exact h v qc
   simp [this]
  ·rfl
theorem zxk {kindOf:Str→Option NameKind} {x:Str}:∀ {binds:List (Str×Value)} {m:Str→Option Value},(∀ v,(x,v)∉binds)→bindC kindOf binds m x=m x
 | [],_,_=>rfl
 | (n,v)::r,m,h=>by
  unfold bindC
  rw [zxk fun w hw=>h w (qT _ hw)]
  split
  ·rfl
  ·have:x≠n:=by rintro rfl;exact h v qc
   simp [this]
theorem zxl {kindOf:Str→Option NameKind} {x:Str} {v:Value}:∀ {P:List Str} {vs:List Value} {i:Nat} {m:Str→Option Value},P.Nodup→P[i]?=some x→vs[i]?=some v→kindOf x=some .local →
  bindL kindOf (P.zip vs) m x=some v
 | [],_,_,_,_,h,_,_=>by simp at h
 | _::_,[],_,_,_,_,h,_=>by simp at h
 | p::P,w::vs,0,m,nd,h1,h2,hk=>by
  simp at h1 h2;subst h1;subst h2
  show bindL kindOf ((p,w)::P.zip vs) m p=_
  unfold bindL
  rw [zxj fun v hv=>(qAz.mp nd).1 (qAb hv).1,if_pos hk]
  simp
 | p::P,w::vs,i+1,m,nd,h1,h2,hk=>by
  show bindL kindOf ((p,w)::P.zip vs) m x=_
  unfold bindL
  exact zxl (i:=i) (qAz.mp nd).2 (by simpa using h1) (by simpa using h2) hk
theorem zxm {kindOf:Str→Option NameKind} {x:Str} {v:Value}:∀ {P:List Str} {vs:List Value} {i:Nat} {m:Str→Option Value},P.Nodup→P[i]?=some x→vs[i]?=some v→kindOf x≠some .local →
  bindC kindOf (P.zip vs) m x=some v
 | [],_,_,_,_,h,_,_=>by simp at h
 | _::_,[],_,_,_,_,h,_=>by simp at h
 | p::P,w::vs,0,m,nd,h1,h2,hk=>by
  simp at h1 h2;subst h1;subst h2
  show bindC kindOf ((p,w)::P.zip vs) m p=_
  unfold bindC
  rw [zxk fun v hv=>(qAz.mp nd).1 (qAb hv).1,if_neg hk]
  simp
 | p::P,w::vs,i+1,m,nd,h1,h2,hk=>by
  show bindC kindOf ((p,w)::P.zip vs) m x=_
  unfold bindC
  exact zxm (i:=i) (qAz.mp nd).2 (by simpa using h1) (by simpa using h2) hk
noncomputable def zqt (N:List Str) (vs:List V):St:=vs.map some++List.replicate (N.length - vs.length) none
noncomputable def cxOf (CX:CXT) (P:Program) (w:World) (K:qB) (mg:Str→Option Value) (base:Heap) (N:List Str) (qual:Str) (scope:Scope) (f:Addr) (cd:Value) (A:Around) (outer:List Env) (s:Shared) (H:Hp) (E:XK):Cx where
 prog:=P
 w:=w
 K:=K
 mg:=mg
 base:=base
 A:=A.deeper (envOfC qual scope s.heap.objs.size f cd)
 N:=N
 s₀:=s
 H₀:=H
 env:=envOfC qual scope s.heap.objs.size f cd
 outer:=outer
 stack:=envOfC qual scope s.heap.objs.size f cd::outer
 ex:=[]
 calm:=true
 fn:=fun _=>true
 pn:=[]
 xe:=fun e s'=>wpAny (model P w) (A.deeper (envOfC qual scope s.heap.objs.size f cd)) (leaving (envOfC qual scope s.heap.objs.size f cd) e) (fun _ s''=>CX outer H s E e s'') (fun e' s''=>CX outer H s E e' s'') s'
theorem zvf {sc:Scope} {n:Nat} {x:Str} (h:sc.names.lookup x=some .cell):∃ c,(cellsFrom n sc.names []).lookup x=some c:=by
 have q:=qCP sc.names n [] (.inl h)
 exact Option.isSome_iff_exists.mp q
theorem zagl {CX:CXT} {P:Program} {w:World} {K:qB} {mg:Str→Option Value} {base:Heap} {N ps:List Str} {qual:Str} {scope:Scope} {f:Addr} {cd:Value} {A:Around} {outer:List Env} {s s1:Shared} {H:Hp} {E:XK} {us:List Value} {vs:List V}
  (S:FnScope N ps scope) (hd:A.handled=none) (e0:Env0 P w K mg base A outer s H) (hl:vs.length=ps.length) (r:Vals vs us)
  (x:InCallC s s.heap.objs.size (bindL (envOfC qual scope s.heap.objs.size f cd).kindOf (ps.zip us) fun _=>none) (cellsFrom (s.heap.objs.size+1) scope.names []) (bindC (envOfC qual scope s.heap.objs.size f cd).kindOf (ps.zip us) fun _=>none) s1) :
  Inv (cxOf CX P w K mg base N qual scope f cd A outer s H E) [] (zqt N vs) H s1:=by
 have hpl:ps.length≤N.length:=by have:=congrArg List.length S.pre;rw [qAu] at this;omega
 obtain ⟨h1,tk,rfl,hk⟩:=x.done
 have noA:∀ b:Addr,b∉(cxOf CX P w K mg base N qual scope f cd A outer s H E).ex:=fun b z=>absurd (show b∈([]:List Addr) from z) (by simp)
 refine ⟨⟨e0.mod,S.kind,rfl,rfl,qO _,fun y z c h1 h2=>?_,fun y hy=>?_,fun y c _ h=>?_,fun _=>hd,Around.frames_deeper e0.frames,.inr ⟨rfl,rfl⟩,fun b z=>absurd z (noA b),e0.bs,e0.bsz,fun b _ _=>noA b,fun b z=>absurd z (noA b),e0.funs,e0.frf⟩,
  rfl,e0.bare,Un.kept hk,⟨_,x.toInCall.ns,fun i y v h1 h2 h3=>?_⟩,fun y c h=>⟨_,x.cell y c h⟩,e0.hok.fresh (qO _),fun y c h=>?_,fun p hp=>absurd (show p∈([]:List (Addr×Obj)) from hp) (by simp),e0.hok.kept hk,?_⟩
 ·exact name_of_addr x.apart (qAM h1) (qAM h2)
 ·have hy:scope.names.lookup y=some .cell∨scope.names.lookup y=some .free:=hy
  rcases hy with hy|hy
  ·exact zvf hy
  ·exact absurd rfl (S.nofree _ (qAM hy))
 ·exact qCu (x.above y c (qAM h))
 ·have hi:i<vs.length:=by
   unfold zqt at h2
   by_cases hi:i<vs.length
   ·exact hi
   ·rw [qAR (by simpa using hi)] at h2
    rw [qBI] at h2
    split at h2<;>cases h2
  have ha:vs[i]?=some v:=by
   unfold zqt at h2
   rw [qAN (by simpa using hi),qR] at h2
   cases e:vs[i]? with
   | none=>rw [e] at h2;cases h2
   | some a=>rw [e] at h2;cases h2;rfl
  obtain ⟨u,hu,rv⟩:=r.get ha
  have hp:ps[i]?=some y:=by
   rw [← S.pre,List.getElem?_take_of_lt (by omega)];exact h1
  have ndP:ps.Nodup:=by rw [← S.pre];exact S.nd.sublist (qB4 _ _)
  refine ⟨u,rv,?_⟩
  rcases S.par y (qAy hp) with k|k
  ·exact .inl ⟨k,zxl ndP hp hu k⟩
  ·obtain ⟨c,e⟩:=zvf (n:=s.heap.objs.size+1) k
   refine .inr ⟨.inl k,c,e,?_⟩
   have q:=x.cell y c e
   rw [zxm ndP hp hu (by show scope.names.lookup y≠_;rw [k];decide)] at q
   exact q
 ·exact e0.hok.fresh (qCu (x.above y c (qAM h)))
 ·unfold zqt
  show _=N.length
  rw [qp,qC,qAj]
  omega
theorem zaus {CX:CXT} {P:Program} {w:World} {K:qB} {mg:Str→Option Value} {base:Heap} {k:Nat} {f:Addr} {name qual:Str} {params:Arguments} {body:List Stmt} {scope:Scope} {dV kV doc pm cdv ct oc:Value} {an od:Option Addr}
  {osl:Array (Option Value)} {N ps:List Str} {sp:Sp} (lk:K.lookup f=some ⟨oc,od,.func (qX name qual params body scope dV kV doc pm an cdv ct),osl⟩) (hcd:qS K cdv qual=true) (S:FnScope N ps scope)
  (len:∀ vs H Q E,sp vs H Q E→vs.length=ps.length)
  (hbody:∀ (A:Around) (outer:List Env) (s:Shared) (H:Hp) (vs:List V) (Q:VK) (E:XK),Room k (A.deeper (envOfC qual scope s.heap.objs.size f cdv))→sp vs H Q E →
   ∃ t,PSs (cxOf CX P w K mg base N qual scope f cdv A outer s H E) body t∧t {nx:=fun _ H'=>Q .non H',rt:=Q} (zqt N vs) H) :
  FnOk P w K mg base CX (k+1) f (qX name qual params body scope dV kV doc pm an cdv ct) ps sp:=by
 refine ⟨len,fun A outer s H args us vs Q E hr e0 hb r hsp=>?_⟩
 have hl:=len _ _ _ _ hsp
 have KX:K.In s.heap:=e0.mod.kin.keeps fun b o e=>(e0.bs b o e).1
 have lim:s.heap.NoLimit:=e0.mod.nolimit.keeps fun b o e=>(e0.bs b o e).1
 have hkind:∀ y∈ps.zip us,scope.names.lookup y.1=some .local∨(scope.names.lookup y.1=some .cell∧((cellsFrom (s.heap.objs.size+1) scope.names []).lookup y.1).isSome=true):=fun ⟨n,v⟩ hy=>by
  rcases S.par n (qAb hy).1 with q|q
  ·exact .inl q
  ·exact .inr ⟨q,qCP _ _ _ (.inl q)⟩
 refine codeAny_call_function hr.depth (KX _ _ lk) rfl S.co S.gen rfl (PySem.W.codeRec_of KX hcd) (hb _ _ _ _ ?_)
 refine wpAny_newFunctionEnv_cells S.kind hkind fun env he s1 x=>?_
 subst he
 refine ⟨lim.keeps x.toInCall.keep,codeAny_func ?_⟩
 obtain ⟨t,ht,hq⟩:=hbody A outer s H vs Q E (hr.deeper _) hsp
 have I:Inv (cxOf CX P w K mg base N qual scope f cdv A outer s H E) [] (zqt N vs) H s1:=zagl S hr.hd e0 hl r x
 refine qBl (ht [] s1 (zqt N vs) H _ I hq) (fun fl s' hs=>?_) fun e s' hs=>hs
 have fin:∀ {σ':St} {H':Hp} {v:V} {u:Value},Inv (cxOf CX P w K mg base N qual scope f cdv A outer s H E) [] σ' H' s'→RelV v u→Q v H'→CE outer P w H s Q u s' :=
  fun {σ' H' v u} J rv q=>⟨v,H',J.os,J.bare,J.base,J.hok,rv,q⟩
 cases fl with
 | ret u =>
  obtain ⟨v,σ',H',J,rv,q⟩:=hs
  exact fin J rv q
 | next =>
  obtain ⟨σ',H',J,q⟩:=hs
  exact fin (v:=V.non) (u:=Value.none) J rfl q
 | brk =>
  obtain ⟨_,_,_,q⟩:=hs
  exact False.elim q
 | cont =>
  obtain ⟨_,_,_,q⟩:=hs
  exact False.elim q
section
variable {X:Cx} {x:Str} {p pos:Pos} {e:Expr} {es:List Expr} {t:TA} {id T:String} {r:List V→Hp→VK→Prop}
noncomputable def tCB (r:List V→Hp→VK→Prop) (t:TA):TE:=fun σ H Q=>t σ H fun vs H1=>r vs H1 Q
theorem zaco (hc:CallR X (.builtin id) r) (hg:Gl X x) (hm:X.mg x=none) (hv:bootBuiltins x=some (.builtin id)) (ha:PA X (e::es) t) (hn:x ≠ "__name__":=by decide) (hdb:(x==("__debug__":Str))=false:=by decide)
  (he:starEach (e::es) X.env=(false,eval e X.env)::starEach es X.env:=by rfl) (hpl:(backTo pos (starEach es X.env)).any (·.1)=false:=by rfl):PE X (.Call (.Name x p) (e::es) [] pos) (tCB r t):=by
 intro pins s σ H Q I h
 refine qCC (zub I hg hm hv ?_ hn hdb)
 exact PyProof.Rows.callWith_builtin1 (thn (ha pos pins s σ H _ I h) fun us s1 ⟨vs,H1,I1,r1,q1⟩=>hc pins s1 σ H1 vs us Q I1 r1 q1) he hpl
theorem zagm (hc:CallR X (.type T) r) (hg:Gl X x) (hm:X.mg x=none) (hv:bootBuiltins x=some (.type T)) (ha:PA X (e::es) t) (hn:x ≠ "__name__":=by decide) (hdb:(x==("__debug__":Str))=false:=by decide)
  (he:starEach (e::es) X.env=(false,eval e X.env)::starEach es X.env:=by rfl) (hpl:(backTo pos (starEach es X.env)).any (·.1)=false:=by rfl):PE X (.Call (.Name x p) (e::es) [] pos) (tCB r t):=by
 intro pins s σ H Q I h
 refine qCC (zub I hg hm hv ?_ hn hdb)
 exact qBL (thn (ha pos pins s σ H _ I h) fun us s1 ⟨vs,H1,I1,r1,q1⟩=>hc pins s1 σ H1 vs us Q I1 r1 q1) he hpl
end
end L2
namespace HT
open PySem PyProof.Rows
section
open PySem.SeqAt
open PySem.AutoSeq1 (wpAny_loadPart')
open PySem.MeetsSeq PySem.MeetsSeq2 PySem.MeetsSeq3
end
section
variable {prog:Program} {w:World} {A:Around} {E:Value→Shared→Prop} {s:Shared}
theorem cat_tup {t b:Addr} {vs ws:List Value} {Q:Value→Shared→Prop} (ht:IsTup s.heap t vs.toArray) (hb:IsTup s.heap b ws.toArray) (hv:vs≠[])
  (h1:ws=[]→Q (.ref t) s) (h2:ws≠[]→Q (.ref s.heap.objs.size) {s with heap:=s.heap.push {cls:=.type "tuple",data:=.seq (vs++ws).toArray}})
  (hsz:vs.length+ws.length≤qj):wpAny (model prog w) A (binaryOp .Add (.ref t) (.ref b)) Q E s:=by
 obtain ⟨⟨cls,dd,data,sl⟩,ho,hc,n,hd⟩:=id ht
 obtain ⟨⟨cls2,dd2,data2,sl2⟩,ho2,hc2,n2,hd2⟩:=id hb
 simp only at hc hd hc2 hd2
 subst hc hd hc2 hd2
 have e:vs.toArray++ws.toArray=(vs++ws).toArray:=by simp
 by_cases hw:ws=[]
 ·exact concat_meets ⟨_,ho,rfl⟩ ⟨_,ho2,rfl⟩ noFill_tuple_add seq_tuple_add qCQ qCO (qCG _ _)
   (tuple_addW1 t b vs.toArray ws.toArray n n2 dd dd2 sl sl2 (by simpa using hv) (by simp [hw])) ⟨ho,ho2,h1 hw⟩
 ·refine concat_meets ⟨_,ho,rfl⟩ ⟨_,ho2,rfl⟩ noFill_tuple_add seq_tuple_add qCQ qCO (qCG _ _)
   (tuple_addW2 t b vs.toArray ws.toArray n n2 dd dd2 sl sl2 (by simpa using hv) (by simpa using hw) (by rw [qW,qW];exact hsz)) ⟨ho,ho2,?_⟩
  rw [e]
  exact h2 hw
noncomputable def sIx (n d:Nat):Option Int→Nat
 | none=>d
 | some v=>if v<0 then (v+(n:Int)).toNat else min v.toNat n
theorem sIx_nat (n d k:Nat):sIx n d (some (k:Int))=min k n:=by
 show (if (k:Int)<0 then ((k:Int)+(n:Int)).toNat else min (k:Int).toNat n)=min k n
 rw [if_neg (by omega),qA9]
end
end HT
namespace L2
open PySem PySem.Spec PyProof.Rows
noncomputable abbrev TO:=St→Hp→(Option Int→Hp→Prop)→Prop
noncomputable def PO (X:Cx) (e:Option Expr) (t:TO):Prop :=
 ∀ (pins:List (Addr×Obj)) (s:Shared) (σ:St) (H:Hp) (Q:Option Int→Hp→Prop),Inv X pins σ H s→t σ H Q →
  wpAny (model X.prog X.w) X.A (evalPart e X.env) (fun u s'=>∃ o H',Inv X pins σ H' s'∧IsPart u o∧Q o H') X.xe s
noncomputable def tNoPart:TO:=fun _ H Q=>Q none H
noncomputable def tPart (t:TE):TO:=fun σ H Q=>t σ H fun x H1=>∃ i,x=.int i∧Q (some i) H1
section
variable {X:Cx} {e:Expr} {te:TE} {lo hi:Option Expr} {tl th:TO} {pos p2:Pos}
theorem zagn:PO X none tNoPart:=by
 intro pins s σ H Q I h
 rw [evalPart_none]
 exact qd ⟨none,H,I,.none,h⟩
theorem zago (h:PE X e te):PO X (some e) (tPart te):=by
 intro pins s σ H Q I hw
 rw [evalPart_some]
 refine thn (h pins s σ H _ I hw) fun u s1 ⟨x,H1,I1,r1,q1⟩=>?_
 obtain ⟨i,rfl,q⟩:=q1
 obtain ⟨t,rfl⟩:=r1
 exact ⟨some i,H1,I1,.int i t,q⟩
noncomputable def SlR (X:Cx) (r:V→Option Int→Option Int→Hp→VK→Prop):Prop :=
 ∀ (pins:List (Addr×Obj)) (s:Shared) (σ:St) (H:Hp) (x:V) (v vl vu:Value) (lo hi:Option Int) (sl:Addr) (Q:VK),Inv X pins σ H s→RelV x v→s.heap.IsSliceOf sl vl vu .none→IsPart vl lo→IsPart vu hi→r x lo hi H Q →
  ∃ T id,typeLookup (.type T) "__getitem__" = pure (some (.builtin id))∧s.TypeIs v T∧wpAny (model X.prog X.w) X.A (getItem v (.ref sl)) (EP X pins σ Q) X.xe s
noncomputable def tSl (r:V→Option Int→Option Int→Hp→VK→Prop) (te:TE) (tl th:TO):TE:=fun σ H Q=>te σ H fun x H1=>tl σ H1 fun l H2=>th σ H2 fun u H3=>r x l u H3 Q
theorem zacp {r:V→Option Int→Option Int→Hp→VK→Prop} (hr:SlR X r) (he:PE X e te) (hl:PO X lo tl) (hu:PO X hi th):PE X (.Subscript e (.Slice lo hi none p2) pos) (tSl r te tl th):=by
 intro pins s σ H Q I h
 refine Subscript_ (thn (he pins s σ H _ I h) fun v s1 ⟨x,H1,I1,r1,q1⟩=>?_)
 refine wpAny_Slice (thn (hl pins s1 σ H1 _ I1 q1) fun vl s2 ⟨l,H2,I2,pl,q2⟩=>thn (hu pins s2 σ H2 _ I2 q2) fun vu s3 ⟨u,H3,I3,pu,q3⟩=>?_)
 rw [evalPart_none]
 refine qd ?_
 have I4:Inv X pins σ H3 {s3 with heap:=s3.heap.push {cls:=.type "slice",data:=.fields #[vl,vu,.none]}}:=I3.kept (t':=s3.toks) fun b ob q=>qH _ q
 obtain ⟨T,id,hT,ht,hg⟩:=hr pins {s3 with heap:=s3.heap.push {cls:=.type "slice",data:=.fields #[vl,vu,.none]}} σ H3 x v vl vu l u s3.heap.objs.size Q I4 r1 (Heap.IsSliceOf.new ..) pl pu q3
 show wpAny (model X.prog X.w) X.A (subscriptTail e (.Slice lo hi none p2) v (.ref s3.heap.objs.size)) (EP X pins σ Q) X.xe {s3 with heap:=s3.heap.push {cls:=.type "slice",data:=.fields #[vl,vu,.none]}}
 exact tail_any (ops:=[.ref s3.heap.objs.size,v]) ht hT hg (by with_unfolding_all rfl)
noncomputable def cutV (xs:List V) (lo hi:Option Int):List V:=(xs.drop (HT.sIx xs.length 0 lo)).take (HT.sIx xs.length xs.length hi - HT.sIx xs.length 0 lo)
theorem zaao (xs:List V) (lo hi:Option Int):(cutV xs lo hi).length≤xs.length:=by
 unfold cutV
 rw [qAu,qAh]
 omega
noncomputable def zasl (K:qB):R2:=fun x y H Q=>∃ a b xs ys,x=.ref a∧y=.ref b∧SqT K H a xs∧SqT K H b ys∧xs≠[]∧xs.length+ys.length≤qj ∧
 (ys=[]→Q (.ref a) H)∧(ys≠[]→∀ p,H p=none→Q (.ref p) (upd H p (.tup (xs++ys))))
theorem Vals.nil_iff {xs:List V} {us:List Value} (r:Vals xs us):us=[]↔xs=[]:=by
 cases r with
 | nil=>simp
 | cons _ _=>simp
theorem zapf:OpR X (binaryOp .Add) (zasl X.K):=by
 intro pins s σ H x y v u Q I rx ry h
 obtain ⟨a,b,xs,ys,rfl,rfl,ha,hb,hx,hz,q1,q2⟩:=h
 cases rx
 cases ry
 obtain ⟨its,r1,p1,_⟩:=I.tuple ha
 obtain ⟨its2,r2,p2,_⟩:=I.tuple hb
 refine HT.cat_tup p1 p2 (fun z=>hx (r1.nil_iff.mp z)) (fun z=>⟨.ref a,H,I,rfl,q1 (r2.nil_iff.mp z)⟩) (fun z=>?_) (by rw [← r1.length,← r2.length];exact hz)
 refine ⟨.ref s.heap.objs.size,_,I.laid (t':=s.toks) (o:=.tup (xs++ys)) (fun b ob q=>qH _ q) (qO _) ?_,rfl,q2 (fun w=>z (r2.nil_iff.mpr w)) _ (I.hok.fresh (qO _))⟩
 exact ⟨by rw [qp];exact hz,_,r1.append r2,IsTup.new _ _⟩
end
noncomputable def ixN (n:Nat) (i:Int):Option Nat:=if 0≤i then (if i<n then some i.toNat else none) else if -(n:Int)≤i then some (i+n).toNat else none
noncomputable def atI {α:Type} (xs:List α) (i:Int):Option α:=(ixN xs.length i).bind fun j=>xs[j]?
theorem zapg {n:Nat} {i:Int} {j:Nat} (h:ixN n i=some j):seqIndex? i n=some j∧j<n∧-(n:Int)≤i∧i<n:=by
 unfold ixN at h
 by_cases h0:0≤i
 ·rw [if_pos h0] at h
  by_cases h1:i<n
  ·rw [if_pos h1] at h
   have e:i.toNat=j:=qr h
   exact ⟨by rw [qCh h0 h1,e],by omega,by omega,h1⟩
  ·rw [if_neg h1] at h;cases h
 ·rw [if_neg h0] at h
  by_cases h1:-(n:Int)≤i
  ·rw [if_pos h1] at h
   have e:(i+n).toNat=j:=qr h
   exact ⟨by rw [seqIndex_neg (by omega) h1,e],by omega,h1,by omega⟩
  ·rw [if_neg h1] at h;cases h
theorem zaap {α:Type} {xs:List α} {i:Int} {v:α} (h:atI xs i=some v):∃ j,seqIndex? i xs.length=some j∧xs[j]?=some v∧j<xs.length∧-(xs.length:Int)≤i∧i<xs.length:=by
 unfold atI at h
 cases e:ixN xs.length i with
 | none=>rw [e] at h;cases h
 | some j =>
  rw [e] at h
  obtain ⟨h1,h2,h3,h4⟩:=zapg e
  exact ⟨j,h1,h,h2,h3,h4⟩
theorem zov {α:Type} {xs:List α} {j:Nat} {v:α} (h:xs[j]?=some v):atI xs (j:Int)=some v:=by
 have hj:j<xs.length:=(qN.mp h).1
 have e:ixN xs.length (j:Int)=some j:=by
  unfold ixN
  rw [if_pos (by omega),if_pos (by omega)];simp
 unfold atI;rw [e];exact h
theorem zalc {α:Type} (xs:List α) (v:α):atI (xs++[v]) (-1)=some v:=by
 have hl:(xs++[v]).length=xs.length+1:=by simp
 have e:ixN (xs++[v]).length (-1)=some xs.length:=by
  unfold ixN
  rw [hl,if_neg (by decide),if_pos (by omega)]
  congr 1
  omega
 unfold atI
 rw [e]
 show (xs++[v])[xs.length]?=some v
 simp
noncomputable def PlainIx (b:Expr):Prop:=∀ o i,subscripted b false o i=operate [o,i] (getItem o i)
noncomputable def IxR (X:Cx) (r:R2):Prop :=
 ∀ (value slice:Expr) (pins:List (Addr×Obj)) (s:Shared) (σ:St) (H:Hp) (x y:V) (v u:Value) (Q:VK),Inv X pins σ H s→RelV x v→RelV y u→r x y H Q →
  subscripted slice false v u=operate [v,u] (getItem v u)→wpAny (model X.prog X.w) X.A (subscriptTail value slice v u) (EP X pins σ Q) X.xe s
noncomputable def MtR (X:Cx) (id:String) (r:V→List V→Hp→VK→Prop):Prop :=
 ∀ (pins:List (Addr×Obj)) (s:Shared) (σ:St) (H:Hp) (x:V) (xs:List V) (v:Value) (us:List Value) (Q:VK),Inv X pins σ H s→RelV x v→Vals xs us→r x xs H Q →
  wpAny (model X.prog X.w) X.A (call (.builtin id) (v::us)) (EP X pins σ Q) X.xe s
section
variable {X:Cx} {a b:Expr} {ta tb:TE} {pos:Pos}
theorem zasm {r:R2} (hr:IxR X r) (ha:PE X a ta) (hb:PE X b tb) (hs:PlainIx b):PE X (.Subscript a b pos) (tOp r ta tb):=by
 intro pins s σ H Q I h
 exact Subscript_ (binT ha hb I h fun v u s2 x y H2 I2 rx ry q=>hr a b pins s2 σ H2 x y v u Q I2 rx ry q (hs _ _))
noncomputable def rIxL (K:qB):R2:=fun x y H Q=>∃ p xs i v,x=.ref p∧y=.int i∧SqL K H p xs∧atI xs i=some v∧Q v H
noncomputable def rIxT (K:qB):R2:=fun x y H Q=>∃ p xs i v,x=.ref p∧y=.int i∧SqT K H p xs∧atI xs i=some v∧Q v H
noncomputable def rIxS:R2:=fun x y H Q=>∃ z i c,x=.str z∧y=.int i∧z.length≤qj∧atI z.cps.toList i=some c∧Q (.str ⟨#[c]⟩) H
theorem zaph:IxR X (rIxL X.K):=by
 intro value slice pins s σ H x y v u Q I rx ry h hs
 obtain ⟨p,xs,i,z,rfl,rfl,hq,he,q⟩:=h
 cases rx
 obtain ⟨t,rfl⟩:=ry
 obtain ⟨its,r,pl,hz⟩:=I.list hq
 obtain ⟨j,h1,h2,h3,h4,h5⟩:=zaap he
 obtain ⟨w,ew,rw'⟩:=r.get h2
 have hl:=r.length
 have hn:=zxi
 have fin:EP X pins σ Q w s:=⟨z,H,I,rw',q⟩
 by_cases h0:0≤i
 ·have hj:i.toNat=j:=by
   rw [qCh h0 h5] at h1
   exact qr h1
  exact item_listR pl.isList h0 (by omega) (by rw [hj];simpa using ew) fin hs
 ·have hj:(i+(its.toArray.size:Int)).toNat=j:=by
   rw [seqIndex_neg (by omega) h4] at h1
   rw [qW,← hl]
   exact qr h1
  exact subscriptTail_builtinR (x:=w) pl.isList.typeIs slot_list_getitem.lookup
   (wpAny_getItem_list_neg (Q:=fun r s'=>r=w∧EP X pins σ Q r s') pl.isList (by omega) (by rw [qW]<;>omega) (by omega) (by rw [hj];simpa using ew) ⟨rfl,fin⟩) hs
theorem zasn:IxR X (rIxT X.K):=by
 intro value slice pins s σ H x y v u Q I rx ry h hs
 obtain ⟨p,xs,i,z,rfl,rfl,hq,he,q⟩:=h
 cases rx
 obtain ⟨t,rfl⟩:=ry
 obtain ⟨its,r,pl,hz⟩:=I.tuple hq
 obtain ⟨j,h1,h2,h3,h4,h5⟩:=zaap he
 obtain ⟨w,ew,rw'⟩:=r.get h2
 have hl:=r.length
 have hn:=zxi
 have fin:EP X pins σ Q w s:=⟨z,H,I,rw',q⟩
 exact subscriptTail_builtinR (x:=w) pl.typeIs slot_tuple_getitem.lookup
  (getItem_tuple (j:=j) (Q:=fun r s'=>r=w∧EP X pins σ Q r s') pl (by omega) (by omega) (by rw [qW,← hl];exact h1) (by simpa using ew) ⟨rfl,fin⟩) hs
theorem zaso:IxR X rIxS:=by
 intro value slice pins s σ H x y v u Q I rx ry h hs
 obtain ⟨z,i,c,rfl,rfl,hz,he,q⟩:=h
 obtain ⟨t,rfl⟩:=rx
 obtain ⟨t',rfl⟩:=ry
 obtain ⟨j,h1,h2,h3,h4,h5⟩:=zaap he
 have hl:z.cps.toList.length=z.length:=by simp [Str.length]
 rw [hl] at h1 h4 h5
 have hn:=zxi
 exact tail_any (qBm s z t) slot_str_getitem.lookup (getItem_str (c:=c) (by
  have e1:decide (i < -(2 ^ 63:Int))=false:=decide_eq_false (by omega)
  have e2:decide (i≥2 ^ 63)=false:=decide_eq_false (by omega)
  rw [e1,e2,Bool.or_false]) (by rw [h1];simpa using h2) ⟨.str ⟨#[c]⟩,H,I.tok _,⟨_,rfl⟩,q⟩) hs
theorem zxn (lo hi:Option Int) (n:Nat):(sliceBounds lo hi none n).1=((HT.sIx n 0 lo:Nat):Int)∧(sliceBounds lo hi none n).2.1=((HT.sIx n n hi:Nat):Int)∧(sliceBounds lo hi none n).2.2=1:=by
 refine ⟨?_,?_,rfl⟩
 ·cases lo with
  | none=>simp [sliceBounds,HT.sIx]
  | some i =>
   simp only [sliceBounds,HT.sIx,Option.getD_none,show (1:Int) > 0 by decide,if_true]
   by_cases h:i<0
   ·simp only [h,if_true]<;>omega
   ·simp only [h,if_false]<;>omega
 ·cases hi with
  | none=>simp [sliceBounds,HT.sIx]
  | some i =>
   simp only [sliceBounds,HT.sIx,Option.getD_none,show (1:Int) > 0 by decide,if_true]
   by_cases h:i<0
   ·simp only [h,if_true]<;>omega
   ·simp only [h,if_false]<;>omega
theorem zvg (its:List Value) (lo hi:Option Int):slicePick its.toArray lo hi none=((its.drop (HT.sIx its.length 0 lo)).take (HT.sIx its.length its.length hi - HT.sIx its.length 0 lo)).toArray:=by
 obtain ⟨h1,h2,h3⟩:=zxn lo hi its.toArray.size
 unfold slicePick
 rw [h1,h2,h3]
 simp only [sliceRange_one,pick_run,qW]<;>rfl
noncomputable def rSlL (K:qB):V→Option Int→Option Int→Hp→VK→Prop:=fun x lo hi H Q=>∃ a xs,x=.ref a∧SqL K H a xs∧∀ p,H p=none→Q (.ref p) (upd H p (.lst (cutV xs lo hi)))
theorem zapi:SlR X (rSlL X.K):=by
 intro pins s σ H x v vl vu lo hi sl Q I rx hs pl pu h
 obtain ⟨a,xs,rfl,hx,q⟩:=h
 cases rx
 obtain ⟨its,r,ht,hz⟩:=I.list hx
 have hlen:=r.length
 refine ⟨"list",_,slot_list_getitem.lookup,ht.isList.typeIs,?_⟩
 refine wpAny_getItem_list_slice ht.isList hs pl pu .none (by simp) ?_ (by rw [qW]<;>omega)
 rw [zvg,← hlen]
 refine ⟨.ref s.heap.objs.size,_,I.laid (t':=s.toks) (o:=.lst (cutV xs lo hi)) (fun b ob q=>qH _ q) (qO _) ?_,rfl,q _ (I.hok.fresh (qO _))⟩
 exact ⟨qAW (zaao xs lo hi) hz,_,0,(r.drop (HT.sIx xs.length 0 lo)).take (HT.sIx xs.length xs.length hi - HT.sIx xs.length 0 lo),qq _ rfl⟩
noncomputable def znd:V→Bool
 | .non=>true
 | .bl _=>true
 | .int _=>true
 | .str _=>true
 | _=>false
noncomputable def eqV:V→V→Bool
 | .non,.non=>true
 | .bl a,.bl b=>a==b
 | .bl a,.int b=>(if a then 1 else 0)==b
 | .int a,.bl b=>a==(if b then 1 else 0)
 | .int a,.int b=>a==b
 | .str a,.str b=>a==b
 | _,_=>false
theorem zasp {A:Around} {s:Shared} {y x:V} {u v:Value} (ry:RelV y u) (rx:RelV x v) (fy:znd y=true) (fx:znd x=true):SeqAt.EqAt A s u v (eqV y x):=by
 cases y with
 | non =>
  cases ry
  cases x with
  | non=>cases rx;exact SeqAt.EqAt.same _
  | bl b=>cases rx;exact SeqAt.EqAt.none_bool b
  | int b=>obtain ⟨t,rfl⟩:=rx;exact SeqAt.EqAt.none_int b t
  | str b=>obtain ⟨t,rfl⟩:=rx;exact SeqAt.EqAt.none_str b t
  | _=>exact absurd (show false=true from fx) qK
 | bl a =>
  cases ry
  cases x with
  | non=>cases rx;exact SeqAt.EqAt.bool_none a
  | bl b=>cases rx;exact SeqAt.EqAt.bool_bool a b
  | int b=>obtain ⟨t,rfl⟩:=rx;exact SeqAt.EqAt.bool_int a b t
  | str b=>obtain ⟨t,rfl⟩:=rx;exact SeqAt.EqAt.bool_str a b t
  | _=>exact absurd (show false=true from fx) qK
 | int a =>
  obtain ⟨t',rfl⟩:=ry
  cases x with
  | non=>cases rx;exact SeqAt.EqAt.int_none a t'
  | bl b=>cases rx;exact SeqAt.EqAt.int_bool a t' b
  | int b=>obtain ⟨t,rfl⟩:=rx;exact SeqAt.EqAt.int_int a t' b t
  | str b=>obtain ⟨t,rfl⟩:=rx;exact qCW a t' b t
  | _=>exact absurd (show false=true from fx) qK
 | str a =>
  obtain ⟨t',rfl⟩:=ry
  cases x with
  | non=>cases rx;exact SeqAt.EqAt.str_none a t'
  | bl b=>cases rx;exact SeqAt.EqAt.str_bool a t' b
  | int b=>obtain ⟨t,rfl⟩:=rx;exact qCV a t' b t
  | str b=>obtain ⟨t,rfl⟩:=rx;exact SeqAt.EqAt.str_str a t' b t
  | _=>exact absurd (show false=true from fx) qK
 | _=>exact absurd (show false=true from fy) qK
noncomputable def eqU (x:V) (u:Value):Bool:=match u with
 | .none=>eqV .non x
 | .bool b=>eqV (.bl b) x
 | .int i _=>eqV (.int i) x
 | .str z _=>eqV (.str z) x
 | _=>false
theorem zanw {x y:V} {u:Value} (r:RelV y u) (f:znd y=true):eqU x u=eqV y x:=by
 cases y with
 | non=>cases r;rfl
 | bl b=>cases r;rfl
 | int i=>obtain ⟨t,rfl⟩:=r;rfl
 | str z=>obtain ⟨t,rfl⟩:=r;rfl
 | _=>exact absurd (show false=true from f) qK
theorem zrl {x:V}:∀ {xs:List V} {us:List Value},Vals xs us→xs.all znd=true→us.any (eqU x)=xs.any fun y=>eqV y x
 | _,_,.nil,_=>rfl
 | y::xs,u::us,.cons r t,f=>by
  rw [qAp,qb] at f
  rw [qA3,qA3,zanw r f.1,zrl t f.2]
theorem znw {A:Around} {s:Shared} {x:V} {v:Value} (rx:RelV x v) (fx:znd x=true):∀ {xs:List V} {us:List Value},Vals xs us→xs.all znd=true→∀ u∈us,SeqAt.EqAt A s u v (eqU x u)
 | _,_,.nil,_=>fun u hu=>by cases hu
 | y::xs,u::us,.cons r t,f=>fun u' hu=>by
  rw [qAp,qb] at f
  rcases qe.mp hu with rfl|hu
  ·rw [zanw r f.1];exact zasp r rx f.1 fx
  ·exact znw rx fx t f.2 u' hu
noncomputable def inV (x:V) (xs:List V):Bool:=xs.any fun y=>eqV y x
noncomputable def rIn (K:qB) (neg:Bool):R2:=fun x y H Q=>∃ p xs,y=.ref p∧(SqL K H p xs∨SqT K H p xs)∧znd x=true∧xs.all znd=true∧Q (.bl (if neg then !inV x xs else inV x xs)) H
theorem zagp:OpR X (compareOp .In) (rIn X.K false):=by
 intro pins s σ H x y v u Q I rx ry h
 obtain ⟨p,xs,rfl,hq,fx,fs,q⟩:=h
 cases ry
 rcases hq with hq|hq
 ·obtain ⟨its,r,pl,hz⟩:=I.list hq
  refine SeqAt.in_listAt (eqU x) pl.isList (fun w hw=>znw rx fx r fs w (by simpa using hw)) ⟨.bl _,H,I,rfl,?_⟩
  rw [show its.toArray.any (eqU x)=its.any (eqU x) by simp,zrl r fs]
  exact q
 ·obtain ⟨its,r,pl,hz⟩:=I.tuple hq
  refine SeqAt.in_tupleAt (eqU x) pl (fun w hw=>znw rx fx r fs w (by simpa using hw)) ⟨.bl _,H,I,rfl,?_⟩
  rw [show its.toArray.any (eqU x)=its.any (eqU x) by simp,zrl r fs]
  exact q
theorem zxo:OpR X (compareOp .NotIn) (rIn X.K true):=by
 intro pins s σ H x y v u Q I rx ry h
 obtain ⟨p,xs,rfl,hq,fx,fs,q⟩:=h
 cases ry
 rcases hq with hq|hq
 ·obtain ⟨its,r,pl,hz⟩:=I.list hq
  refine SeqAt.notIn_listAt (eqU x) pl.isList (fun w hw=>znw rx fx r fs w (by simpa using hw)) ⟨.bl _,H,I,rfl,?_⟩
  rw [show its.toArray.any (eqU x)=its.any (eqU x) by simp,zrl r fs]
  exact q
 ·obtain ⟨its,r,pl,hz⟩:=I.tuple hq
  refine SeqAt.notIn_tupleAt (eqU x) pl (fun w hw=>znw rx fx r fs w (by simpa using hw)) ⟨.bl _,H,I,rfl,?_⟩
  rw [show its.toArray.any (eqU x)=its.any (eqU x) by simp,zrl r fs]
  exact q
theorem zxp:CallR X (.type "list") (fun xs H Q=>∃ p ys,xs=[.ref p]∧(SqL X.K H p ys∨SqT X.K H p ys)∧∀ l,H l=none→Q (.ref l) (upd H l (.lst ys))):=by
 intro pins s σ H xs us Q I r h
 obtain ⟨p,ys,rfl,hq,q⟩:=h
 obtain ⟨u,rfl,rx⟩:=zaes r
 cases rx
 have fin:∀ (its:List Value),Vals ys its→ys.length≤qj→∀ (h':Heap) (c':Nat),(∀ b o',s.heap.get? b=some o'→h'.get? b=some o') →
   h'.get? s.heap.objs.size=some {cls:=.type "list",dict:=none,data:=.seq its.toArray c',slots:=#[]}→EP X pins σ Q (.ref s.heap.objs.size) {s with heap:=h'}:=fun its r' hz h' c' kp e =>
  ⟨.ref s.heap.objs.size,_,I.laid (t':=s.toks) kp (qO _) (show zgu X.prog X.w _ h' _ (.lst ys) from ⟨hz,its,c',r',e⟩),rfl,q _ (I.hok.fresh (qO _))⟩
 rcases hq with hq|hq
 ·obtain ⟨its,r',pl,hz⟩:=I.list hq
  have hlen:=r'.length
  obtain ⟨o,ho,hc,n,hd⟩:=pl.isList
  exact call_list_seq p (.inl rfl) ho hc hd (fun h' c' kp e=>fin its r' hz h' c' kp e) (by simp only [qW]<;>omega)
 ·obtain ⟨its,r',pl,hz⟩:=I.tuple hq
  have hlen:=r'.length
  obtain ⟨o,ho,hc,n,hd⟩:=pl
  exact call_list_seq p (.inr rfl) ho hc hd (fun h' c' kp e=>fin its r' hz h' c' kp e) (by simp only [qW]<;>omega)
theorem zvh:CallR X (.type "tuple") (fun xs H Q=>∃ p ys,xs=[.ref p]∧((SqL X.K H p ys∧∀ l,H l=none→Q (.ref l) (upd H l (.tup ys)))∨(SqT X.K H p ys∧Q (.ref p) H))):=by
 intro pins s σ H xs us Q I r h
 obtain ⟨p,ys,rfl,h⟩:=h
 obtain ⟨u,rfl,rx⟩:=zaes r
 cases rx
 rcases h with ⟨hq,q⟩|⟨hq,q⟩
 ·obtain ⟨its,r',pl,hz⟩:=I.list hq
  have hlen:=r'.length
  refine call_tuple_list pl.isList (fun h' kp=>?_) (by simp only [qW]<;>omega)
  have I1:Inv X pins σ H {s with heap:=h'}:=I.kept (t':=s.toks) kp
  have I2:Inv X pins σ (upd H h'.objs.size (.tup ys)) {s with heap:=h'.push {cls:=.type "tuple",data:=.seq its.toArray}} :=
   I1.laid (t':=s.toks) (fun b o e=>qH _ e) (qO _) (show zgu X.prog X.w _ _ _ (.tup ys) from ⟨hz,its,r',IsTup.new _ _⟩)
  exact ⟨.ref h'.objs.size,_,I2,rfl,q _ (I1.hok.fresh (qO _))⟩
 ·obtain ⟨its,r',pl,hz⟩:=I.tuple hq
  exact call_tuple_same pl ⟨.ref p,H,I,rfl,q⟩
noncomputable def tyV (K:qB) (T:String) (x:V) (H:Hp):Prop:=match x with
 | .str _=>T = "str"
 | .int _=>T = "int"
 | .ref p=>(T = "list" ∧ ∃ xs,SqL K H p xs)∨(T = "tuple" ∧ ∃ o,K.lookup p=some o∧o.cls=.type "tuple" ∧ o.dict=none) ∨
   (T = "dict" ∧ ((∃ kvs,H p=some (.dK kvs))∨∃ kvs,H p=some (.dT kvs)))∨(T = "set" ∧ ∃ S n,H p=some (.set S n))
 | _=>False
theorem zanx {pins:List (Addr×Obj)} {σ:St} {H:Hp} {s:Shared} {T:String} {x:V} {v:Value} (I:Inv X pins σ H s) (r:RelV x v) (ty:tyV X.K T x H) :
  s.TypeIs v T∧∀ a,v=.ref a→∃ ob,s.heap.get? a=some ob∧ob.dict=none:=by
 cases x with
 | str z =>
  obtain ⟨t,rfl⟩:=r
  cases (show T = "str" from ty)
  exact ⟨qBm s z t,fun _ e=>nomatch e⟩
 | int i =>
  obtain ⟨t,rfl⟩:=r
  cases (show T = "int" from ty)
  exact ⟨typeIs_int s i t,fun _ e=>nomatch e⟩
 | ref p =>
  cases r
  rcases ty with ⟨rfl,xs,hq⟩|⟨rfl,o,hk,hc,hd⟩|⟨rfl,hk⟩|⟨rfl,S,n,hk⟩
  ·obtain ⟨its,_,pl,_⟩:=I.list hq
   refine ⟨pl.isList.typeIs,fun a e=>?_⟩
   cases e
   obtain ⟨o,n,e,c,hd,_⟩:=pl
   exact ⟨o,e,hd⟩
  ·refine ⟨⟨o,I.kIn p o hk,hc⟩,fun a e=>?_⟩
   cases e
   exact ⟨o,I.kIn _ o hk,hd⟩
  ·have z:∃ o,s.heap.get? p=some o∧o.ExactDict:=by
    rcases hk with ⟨kvs,hk⟩|⟨kvs,hk⟩
    ·obtain ⟨_,_,_,_,o,_,_,e,ex,_⟩:=I.hok p _ hk
     exact ⟨o,e,ex⟩
    ·obtain ⟨_,_,_,_,o,_,_,e,ex,_⟩:=I.hok p _ hk
     exact ⟨o,e,ex⟩
   obtain ⟨o,e,ex⟩:=z
   refine ⟨⟨o,e,ex.1⟩,fun a e2=>?_⟩
   cases e2
   exact ⟨o,e,ex.2.1⟩
  ·obtain ⟨o,_,_,_,e,ex,_⟩:=I.hok p _ hk
   refine ⟨⟨o,e,ex.1⟩,fun a e2=>?_⟩
   cases e2
   exact ⟨o,e,ex.2.1⟩
 | _=>exact False.elim ty
noncomputable def tBM0 (K:qB) (T:String) (r:V→List V→Hp→VK→Prop) (to:TE):TE:=fun σ H Q=>to σ H fun x H1=>tyV K T x H1∧r x [] H1 Q
noncomputable def tBM (K:qB) (T:String) (r:V→List V→Hp→VK→Prop) (to:TE) (t:TA):TE:=fun σ H Q=>to σ H fun x H1=>tyV K T x H1∧t σ H1 fun xs H2=>r x xs H2 Q
variable {o e:Expr} {es:List Expr} {to:TE} {t:TA} {name:Str} {apos cpos:Pos} {T id:String} {r:V→List V→Hp→VK→Prop}
theorem zasq (pa:PlainAttrs T) (slot:Slot T name id) (hty:typeOf (.builtin id)=pure (.type "method_descriptor")) (hm:MtR X id r) (ho:PE X o to)
  (hbase:attributeBase o name X.env (eval o X.env)=eval o X.env:=by rfl) (hline:(apos.endLine==cpos.line)=true:=by rfl):PE X (.Call (.Attribute o name apos) [] [] cpos) (tBM0 X.K T r to):=by
 intro pins s σ H Q I h
 refine wpAny_Call_method0_late hbase hline (thn (ho pins s σ H _ I h) fun v s1 ⟨x,H1,I1,r1,ty,q1⟩=>?_)
 obtain ⟨h1,h2⟩:=zanx I1 r1 ty
 exact ⟨T,id,pa,slot,hty,h1,h2,qCc rfl (PySem.evalArgs_none (hm pins s1 σ H1 x [] v [] Q I1 r1 .nil q1))⟩
theorem zaut (pa:PlainAttrs T) (slot:Slot T name id) (hty:typeOf (.builtin id)=pure (.type "method_descriptor")) (hm:MtR X id r) (ho:PE X o to) (ha:PA X (e::es) t)
  (hbase:attributeBase o name X.env (eval o X.env)=eval o X.env:=by rfl)
  (hfew:((backTo cpos (starEach (e::es) X.env)).all (fun x=>!x.1)&&(backToKw cpos (keywordEach [] X.env)).all (fun x=>x.1.isSome)
   && decide ((e::es).length+([]:List Keyword).length+(if ([]:List Keyword).isEmpty then 0 else 1)<30))=true:=by rfl)
  (hline:(apos.endLine==cpos.line)=true:=by rfl) (hs:starEach (e::es) X.env=(false,eval e X.env)::starEach es X.env:=by rfl) (hplain:(backTo cpos (starEach es X.env)).any (·.1)=false:=by rfl) :
  PE X (.Call (.Attribute o name apos) (e::es) [] cpos) (tBM X.K T r to t):=by
 intro pins s σ H Q I h
 refine wpAny_Call_method_late hbase hfew hline rfl (thn (ho pins s σ H _ I h) fun v s1 ⟨x,H1,I1,r1,ty,q1⟩=>?_)
 obtain ⟨h1,h2⟩:=zanx I1 r1 ty
 refine ⟨T,id,pa,slot,hty,h1,h2,?_⟩
 have hA:=ha cpos pins s1 σ H1 _ I1 q1
 rw [hs] at hA ⊢
 refine qCc (by show (false||(backTo cpos (starEach es X.env)).any (·.1))=false;rw [hplain]<;>rfl) (Calls.evalArgs_plain ?_)
 exact thn hA fun us s2 ⟨vs,H2,I2,r2,q2⟩=>hm pins s2 σ H2 x vs v us Q I2 r1 r2 q2
end
noncomputable def MtM (X:Cx) (id:String) (r:V→List V→Hp→VK→Prop):Prop :=
 ∀ (pins:List (Addr×Obj)) (s:Shared) (σ:St) (H:Hp) (x:V) (xs:List V) (v:Value) (us:List Value) (Q:VK),Inv X pins σ H s→RelV x v→Vals xs us→r x xs H Q →
  wpAny (model X.prog X.w) X.A (call (.builtin id) (v::us)) (EP X pins σ Q) X.xe s
theorem Vals.one:∀ {x:V} {us:List Value},Vals [x] us→∃ u,us=[u]∧RelV x u
 | _,_,.cons r .nil=>⟨_,rfl,r⟩
theorem Vals.zero:∀ {us:List Value},Vals [] us→us=[]
 | _,.nil=>rfl
theorem Vals.dropLast {xs:List V} {us:List Value} (h:Vals xs us):Vals xs.dropLast us.dropLast:=by
 induction h with
 | nil=>exact .nil
 | cons r t ih =>
  cases t with
  | nil=>exact .nil
  | cons q t'=>exact .cons r ih
theorem Vals.eraseIdx:∀ {xs:List V} {us:List Value} (i:Nat),Vals xs us→Vals (xs.eraseIdx i) (us.eraseIdx i)
 | _,_,_,.nil=>.nil
 | _,_,0,.cons _ t=>t
 | _,_,i+1,.cons r t=>.cons r (Vals.eraseIdx i t)
theorem Vals.reverse {xs:List V} {us:List Value} (h:Vals xs us):Vals xs.reverse us.reverse:=by
 induction h with
 | nil=>exact .nil
 | cons r t ih=>rw [qBa,qBa];exact Vals.append ih (.cons r .nil)
theorem Vals.rep {xs:List V} {us:List Value} (h:Vals xs us):∀ k:Nat,Vals (List.replicate k xs).flatten (List.replicate k us).flatten
 | 0=>.nil
 | k+1=>by
  rw [qAG,qAG,qA0,qA0]
  exact Vals.append h (Vals.rep h k)
theorem zaeu {α:Type} (l:List α):l.eraseIdx (l.length - 1)=l.dropLast:=by
 induction l with
 | nil=>rfl
 | cons a r ih =>
  cases r with
  | nil=>rfl
  | cons b r =>
   have e:(a::b::r).length - 1=((b::r).length - 1)+1:=by
    have h1:(a::b::r).length=r.length+2:=rfl
    have h2:(b::r).length=r.length+1:=rfl
    omega
   rw [e,List.eraseIdx_cons_succ,ih]
   all_goals rfl
theorem zxq {α:Type}:∀ (l:List α) (i:Nat),(l.eraseIdx i).length≤l.length
 | [],_=>qO _
 | _::_,0=>Nat.le_succ _
 | _::r,i+1=>Nat.succ_le_succ (zxq r i)
theorem foldl_rep (its:List Value):∀ (k:Nat) (acc:List Value),
  List.foldl (fun x1 x2=>x1++x2) acc.toArray (List.replicate k its.toArray)=(acc++(List.replicate k its).flatten).toArray
 | 0,acc=>by simp
 | k+1,acc=>by
  have e:acc.toArray++its.toArray=(acc++its).toArray:=by simp
  have e2:(acc++its)++(List.replicate k its).flatten=acc++(List.replicate (k+1) its).flatten:=by
   rw [qAG,qA0,qBN]
  rw [← e2,← foldl_rep its k (acc++its),← e,qAG,qBJ]
section
variable {X:Cx} {pins:List (Addr×Obj)} {σ:St} {H:Hp} {s:Shared} {l b:Addr} {xs ys zs:List V}
theorem Inv.lset {its its':List Value} {n:Nat} {f:Array Value→Array Value} {t':Nat} (I:Inv X pins σ H s) (hH:H l=some (.lst xs))
  (e:s.heap.get? l=some {cls:=.type "list",data:=.seq its.toArray n}) (hf:f its.toArray=its'.toArray) (hv:Vals ys its') (hz:ys.length≤qj) :
  Inv X pins σ (upd H l (.lst ys)) {s with heap:=s.heap.update l (Obj.mapSeq f),toks:=t'}:=by
 have q:=PySem.IsL.update e f
 rw [hf] at q
 refine I.write (x:=l) (e:=l) (by rw [hH];exact trivial) (.inl rfl) (fun b' u hb hu=>(Heap.get?_update_other s.heap (Obj.mapSeq f) (qA2 hb)).trans hu) ⟨_,q⟩ ?_
 exact ⟨hz,its',_,hv,q⟩
theorem Inv.lnew {its:List Value} {t':Nat} (I:Inv X pins σ H s) (hv:Vals ys its) (hz:ys.length≤qj) :
  Inv X pins σ (upd H s.heap.objs.size (.lst ys)) {s with heap:=s.heap.push {cls:=.type "list",data:=.seq its.toArray},toks:=t'} :=
 I.laid (fun _ _ q=>qH _ q) (qO _) ⟨hz,its,0,hv,qq _ rfl⟩
theorem Inv.fresh (I:Inv X pins σ H s):H s.heap.objs.size=none:=I.hok.fresh (qO _)
theorem Inv.lstM (I:Inv X pins σ H s) (hH:H l=some (.lst xs)):xs.length≤qj∧∃ (its:List Value) (n:Nat),Vals xs its∧xs.length=its.length∧s.heap.get? l=some {cls:=.type "list",data:=.seq its.toArray n}:=by
 obtain ⟨z,its,n,r,e⟩:=I.hok l _ hH
 exact ⟨z,its,n,r,r.length,e⟩
theorem zacq {n:Nat} (h:n≤qj):Builtin.List.listTooLong n=false:=by
 unfold Builtin.List.listTooLong
 exact decide_eq_false (by omega)
end
section
variable {X:Cx}
noncomputable def zaaq:V→List V→Hp→VK→Prop:=fun x vs H Q=>∃ l xs y,x=.ref l∧vs=[y]∧H l=some (.lst xs)∧xs.length<qj∧Q .non (upd H l (.lst (xs++[y])))
theorem zcy:MtM X "list.append" zaaq:=by
 intro pins s σ H x vs v us Q I rx rv h
 obtain ⟨l,xs,y,rfl,rfl,hH,hz,q⟩:=h
 cases rx
 obtain ⟨u,rfl,ru⟩:=rv.one
 obtain ⟨z,its,n,r,hl,e⟩:=I.lstM hH
 refine qBC F.slot_list_append ⟨_,e,rfl⟩ F.entry_list_append (F.args_list_append_2 _ _) (PySem.list_append l its.toArray n u (by rw [qW];omega)) ⟨e,?_⟩
 refine ⟨.non,_,I.lset (its':=its++[u]) hH e (by simp) (r.append (.cons ru .nil)) ?_,rfl,q⟩
 rw [qp,List.length_singleton]
 omega
noncomputable def zapj:V→List V→Hp→VK→Prop:=fun x vs H Q=>∃ l b xs zs,x=.ref l∧vs=[.ref b]∧H l=some (.lst xs)∧H b=some (.lst zs)∧xs.length+zs.length≤qj∧Q .non (upd H l (.lst (xs++zs)))
theorem zasr:MtM X "list.extend" zapj:=by
 intro pins s σ H x vs v us Q I rx rv h
 obtain ⟨l,b,xs,zs,rfl,rfl,hH,hB,hz,q⟩:=h
 cases rx
 obtain ⟨u,rfl,ru⟩:=rv.one
 cases ru
 obtain ⟨z,its,n,r,hl,e⟩:=I.lstM hH
 obtain ⟨z2,its2,n2,r2,hl2,e2⟩:=I.lstM hB
 have hsz:its.toArray.size+its2.toArray.size≤qj:=by rw [qW,qW];omega
 have hlong:¬ (!its.toArray.isEmpty&&Builtin.List.listTooLong (its.toArray.size+its2.toArray.size))=true:=by
  rw [zacq hsz,qCU]
  exact qK
 refine qBC F.slot_list_extend ⟨_,e,rfl⟩ F.entry_list_extend (F.args_list_extend_2 _ _)
  (AutoSeq1.list_extend_list_list_0 l its.toArray n b its2.toArray n2 hlong (by rw [qW];omega) (by omega)) ⟨e,e2,?_⟩
 refine ⟨.non,_,I.lset (its':=its++its2) hH e (by simp) (r.append r2) ?_,rfl,q⟩
 rw [qp]
 omega
noncomputable def rPop:V→List V→Hp→VK→Prop:=fun x vs H Q=>∃ l xs y,x=.ref l∧vs=[]∧H l=some (.lst xs)∧xs[xs.length - 1]?=some y∧Q y (upd H l (.lst xs.dropLast))
theorem zavl:MtM X "list.pop" rPop:=by
 intro pins s σ H x vs v us Q I rx rv h
 obtain ⟨l,xs,y,rfl,rfl,hH,hy,q⟩:=h
 cases rx
 have hus:=rv.zero
 subst hus
 obtain ⟨z,its,n,r,hl,e⟩:=I.lstM hH
 obtain ⟨u,hu,ru⟩:=r.get hy
 have hy':its.toArray[its.toArray.size - 1]?=some u:=by
  show its.toArray[its.length - 1]?=some u
  rw [← qCm,← hl]
  exact hu
 refine qBC F.slot_list_pop ⟨_,e,rfl⟩ F.entry_list_pop (F.args_list_pop_1 _) (MeetsSeq.list_pop_last l its.toArray n u hy' (by rw [qW];omega)) ⟨e,?_⟩
 refine ⟨y,_,I.lset (its':=its.dropLast) hH e ?_ r.dropLast ?_,ru,q⟩
 ·show its.toArray.eraseIdxIfInBounds (its.toArray.size - 1)=its.dropLast.toArray
  rw [qW,qB6,zaeu]
 ·rw [qCv]
  omega
noncomputable def zacr:V→List V→Hp→VK→Prop:=fun x vs H Q=>∃ l xs i k y,x=.ref l∧vs=[.int i]∧H l=some (.lst xs)∧-(2 ^ 63)≤i∧i<2 ^ 63∧seqIndex? i xs.length=some k∧xs[k]?=some y∧Q y (upd H l (.lst (xs.eraseIdx k)))
theorem zacs:MtM X "list.pop" zacr:=by
 intro pins s σ H x vs v us Q I rx rv h
 obtain ⟨l,xs,i,k,y,rfl,rfl,hH,h1,h2,hk,hy,q⟩:=h
 cases rx
 obtain ⟨u,rfl,ru⟩:=rv.one
 obtain ⟨t,rfl⟩:=ru
 obtain ⟨z,its,n,r,hl,e⟩:=I.lstM hH
 obtain ⟨w,hw,rw'⟩:=r.get hy
 refine qBC F.slot_list_pop ⟨_,e,rfl⟩ F.entry_list_pop (F.args_list_pop_2 _ _)
  (MeetsSeq.list_pop_at l its.toArray n i t k w (fitsIndex_both h1 h2) (by rw [qW,← hl];exact hk) (by rw [← qCm];exact hw) (by rw [qW];omega)) ⟨e,?_⟩
 refine ⟨y,_,I.lset (its':=its.eraseIdx k) hH e ?_ (r.eraseIdx k) ?_,rw',q⟩
 ·show its.toArray.eraseIdxIfInBounds k=(its.eraseIdx k).toArray
  rw [qB6]
 ·have:=zxq xs k
  omega
noncomputable def zact:V→List V→Hp→VK→Prop:=fun x vs H Q=>∃ l xs,x=.ref l∧vs=[]∧H l=some (.lst xs)∧Q .non (upd H l (.lst xs.reverse))
theorem zaev:MtM X "list.reverse" zact:=by
 intro pins s σ H x vs v us Q I rx rv h
 obtain ⟨l,xs,rfl,rfl,hH,q⟩:=h
 cases rx
 have hus:=rv.zero
 subst hus
 obtain ⟨z,its,n,r,hl,e⟩:=I.lstM hH
 refine qBC F.slot_list_reverse ⟨_,e,rfl⟩ F.entry_list_reverse (F.args_list_reverse_1 _) (AutoSeq1.list_reverse_list_0 l its.toArray n (by rw [qW];omega)) ⟨e,?_⟩
 refine ⟨.non,_,I.lset (its':=its.reverse) hH e (by simp) r.reverse ?_,rfl,q⟩
 rw [qCz]
 omega
noncomputable def rCat:R2:=fun x y H Q=>∃ l b xs zs,x=.ref l∧y=.ref b∧H l=some (.lst xs)∧H b=some (.lst zs)∧xs.length+zs.length≤qj∧∀ p,H p=none→Q (.ref p) (upd H p (.lst (xs++zs)))
theorem zass:OpR X (binaryOp .Add) rCat:=by
 intro pins s σ H x y v u Q I rx ry h
 obtain ⟨l,b,xs,zs,rfl,rfl,hH,hB,hz,q⟩:=h
 cases rx
 cases ry
 obtain ⟨z,its,n,r,hl,e⟩:=I.lstM hH
 obtain ⟨z2,its2,n2,r2,hl2,e2⟩:=I.lstM hB
 refine PySem.P.add_list e e2 ?_ (by rw [qW,qW];omega)
 have ea:its.toArray++its2.toArray=(its++its2).toArray:=by simp
 rw [ea]
 exact ⟨.ref _,_,I.lnew (t':=s.toks) (r.append r2) (by rw [qp];omega),rfl,q _ I.fresh⟩
noncomputable def rRep:R2:=fun x y H Q=>∃ l k xs,x=.ref l∧y=.int k∧H l=some (.lst xs)∧-(2 ^ 63)≤k∧k<2 ^ 63∧xs.length * k.toNat≤qj ∧
 ∀ p,H p=none→Q (.ref p) (upd H p (.lst (List.replicate k.toNat xs).flatten))
theorem zapk {α:Type} (xs:List α) (k:Nat):(List.replicate k xs).flatten.length=k * xs.length:=by
 induction k with
 | zero=>simp
 | succ k ih=>rw [qAG,qA0,qp,ih,Nat.succ_mul,Nat.add_comm]
theorem zast:OpR X (binaryOp .Mult) rRep:=by
 intro pins s σ H x y v u Q I rx ry h
 obtain ⟨l,k,xs,rfl,rfl,hH,h1,h2,hz,q⟩:=h
 cases rx
 obtain ⟨t,rfl⟩:=ry
 obtain ⟨z,its,n,r,hl,e⟩:=I.lstM hH
 have hlen:its.toArray.size * k.toNat≤qj:=by rw [qW,← hl];exact hz
 have hcap:¬ its.toArray.size * k.toNat > (2 ^ 63 - 1) / 8:=by
  have:(qj:Nat)≤(2 ^ 63 - 1) / 8:=by decide
  omega
 have hfit:¬ (!Builtin.List.listFitsIndex k)=true:=by
  rw [fitsIndex_both h1 h2]
  exact qK
 have hlong:¬ Builtin.List.listTooLong (its.toArray.size * k.toNat)=true:=by
  rw [zacq hlen]
  exact qK
 have hnew:List.foldl (fun x1 x2=>x1++x2) #[] (List.replicate (if its.toArray.isEmpty=true then 0 else k.toNat) its.toArray)=(List.replicate k.toNat its).flatten.toArray:=by
  have f0:∀ m:Nat,List.foldl (fun x1 x2=>x1++x2) #[] (List.replicate m its.toArray)=(List.replicate m its).flatten.toArray:=fun m=>by
   have:=foldl_rep its m []
   rw [List.nil_append] at this
   exact this
  rw [f0]
  cases its with
  | nil=>simp
  | cons a r'=>rw [if_neg (by simp)]
 refine wpAny_binaryOp_repeat_ref (T:="list") (U:="int") (by decide) ⟨_,e,rfl⟩ (fun s'=>typeIs_int s' k t) noFill_list_mul F.fills_int_mul F.slot_int_rmul repeat_list F.slot_int_index.lookup
  (qBC F.slot_int_rmul (typeIs_int s k t) F.entry_int_rmul (F.args_int_rmul_2 _ _) (int___rmul___int_list k t l its.toArray n)
   ⟨e,rfl,⟨_,e,rfl⟩,qBC F.slot_list_mul ⟨_,e,rfl⟩ F.entry_list_mul (F.args_list_mul_2 _ _) (AutoListH.list___mul___list_int_3 l its.toArray n k t hfit hcap hlong) ⟨e,?_⟩⟩)
 rw [hnew]
 exact ⟨.ref _,_,I.lnew (t':=s.toks) (r.rep k.toNat) (by rw [zapk,Nat.mul_comm];exact hz),rfl,q _ I.fresh⟩
end
section
variable {prog:Program} {w:World} {A:Around} {E:Value→Shared→Prop} {s:Shared}
set_option maxRecDepth 100000 in
end
section
variable {X:Cx}
end
section
variable {κ:Type} [DecidableEq κ]
noncomputable def valV (kvs:List (κ×V)) (k:κ):Option V:=(kvs.find? fun kv=>decide (kv.1=k)).map (·.2)
noncomputable def putK (kvs:List (κ×V)) (k:κ) (v:V):List (κ×V) :=
 if (kvs.any fun kv=>decide (kv.1=k))=true then kvs.map (fun kv=>if kv.1=k then (kv.1,v) else kv) else kvs++[(k,v)]
theorem zre {p:κ×V} {r:List (κ×V)} {k:κ} (e:p.1=k):valV (p::r) k=some p.2:=by simp [valV,qBK,e]
theorem zrf {p:κ×V} {r:List (κ×V)} {k:κ} (e:¬ p.1=k):valV (p::r) k=valV r k:=by simp [valV,qBK,e]
theorem zacu (k:κ):∀ kvs:List (κ×V),(kvs.any fun kv=>decide (kv.1=k))=(valV kvs k).isSome
 | []=>rfl
 | p::r=>by
  rw [qA3]
  by_cases e:p.1=k
  ·simp only [zre e,decide_eq_true e,Bool.true_or,qCs]
  ·rw [zrf e,decide_eq_false e,qCd];exact zacu k r
theorem zne (kvs:List (κ×V)) (k:κ) (v:V):(putK kvs k v).length≤kvs.length+1:=by
 unfold putK
 split
 ·rw [qC];omega
 ·rw [qp,qAc,qCH];omega
theorem RelO.isSome_eq {o:Option V} {u:Option Value} (r:RelO o u):o.isSome=u.isSome:=by
 cases o with
 | none=>cases u with
  | none=>rfl
  | some _=>exact (show False from r).elim
 | some _=>cases u with
  | none=>exact (show False from r).elim
  | some _=>rfl
theorem KV.val {kvs:List (κ×V)} {vs:List (κ×Value)} (r:KV kvs vs) (k:κ):RelO (valV kvs k) (valueAt vs k):=by
 unfold KV at r
 induction r with
 | nil=>exact True.intro
 | @cons p q ps qs h t ih =>
  obtain ⟨h1,h2⟩:=h
  by_cases e:p.1=k
  ·have e':q.1=k:=h1.symm.trans e
   have b:valueAt (q::qs) k=some q.2:=by simp [valueAt,qBK,e']
   rw [zre e,b];exact h2
  ·have e':¬ q.1=k:=fun z=>e (h1.trans z)
   have b:valueAt (q::qs) k=valueAt qs k:=by simp [valueAt,qBK,e']
   rw [zrf e,b];exact ih
theorem KV.any {kvs:List (κ×V)} {vs:List (κ×Value)} (r:KV kvs vs) (k:κ):(kvs.any fun kv=>decide (kv.1=k))=vs.any fun kv=>decide (kv.1=k):=by
 unfold KV at r
 induction r with
 | nil=>rfl
 | cons h t ih=>rw [qA3,qA3,ih,h.1]
theorem KV.repl {kvs:List (κ×V)} {vs:List (κ×Value)} (r:KV kvs vs) (k:κ) {y:V} {u:Value} (ry:RelV y u) :
  KV (kvs.map fun kv=>if kv.1=k then (kv.1,y) else kv) (vs.map fun kv=>if kv.1=k then (kv.1,u) else kv):=by
 unfold KV at r ⊢
 induction r with
 | nil=>exact .nil
 | @cons p q ps qs h t ih =>
  rw [qZ,qZ]
  refine .cons ?_ ih
  obtain ⟨h1,h2⟩:=h
  by_cases e:p.1=k
  ·rw [if_pos e,if_pos (h1.symm.trans e)];exact ⟨h1,ry⟩
  ·rw [if_neg e,if_neg (fun z=>e (h1.trans z))];exact ⟨h1,h2⟩
theorem KV.put {kvs:List (κ×V)} {vs:List (κ×Value)} (r:KV kvs vs) (k:κ) {y:V} {u:Value} (ry:RelV y u):KV (putK kvs k y) (stored vs k u):=by
 unfold putK stored
 rw [r.any k]
 by_cases e:(vs.any fun kv=>decide (kv.1=k))=true
 ·rw [if_pos e,if_pos e];exact r.repl k ry
 ·rw [if_neg e,if_neg e];exact Paired.snoc r ⟨rfl,ry⟩
theorem KV.length {kvs:List (κ×V)} {vs:List (κ×Value)} (r:KV kvs vs):kvs.length=vs.length:=qBs r
end
theorem zaew {P:Program} {w:World} {k:Key} {u:Value} (r:RelV (kV k) u):(zfj P w).is k u=true:=by
 cases k with
 | inl i=>obtain ⟨t,e⟩:=(show ∃ t,u=Value.int i t from r);subst e;exact zaaj P w i t
 | inr x=>obtain ⟨t,e⟩:=(show ∃ t,u=Value.str x t from r);subst e;exact zaak P w x t
theorem zxr {P:Program} {w:World}:∀ {ks:List Key} {us:List Value},Vals (ks.map kV) us→ItemsAre (zfj P w) ks us
 | [],_,r=>by rw [qBX] at r;cases r;exact .nil
 | k::ks,_,r=>by
  rw [qZ] at r
  cases r with
  | cons h t=>exact .cons (zaew h) (zxr t)
noncomputable abbrev KT (H:Hp):List (List Key×V)→List (List Key×Addr×Value)→Prop:=Paired fun p q=>p.1=q.1∧H q.2.1=some (.tup (p.1.map kV))∧RelV p.2 q.2.2
theorem KT.val {H:Hp} {kvs:List (List Key×V)} {xs:List (List Key×Addr×Value)} (r:KT H kvs xs) (k:List Key):RelO (valV kvs k) ((atKey xs k).map (·.2)):=by
 induction r with
 | nil=>exact True.intro
 | @cons p q ps qs h t ih =>
  obtain ⟨h1,_,h2⟩:=h
  by_cases e:p.1=k
  ·have e':q.1=k:=h1.symm.trans e
   have b:atKey (q::qs) k=some q.2:=by simp [atKey,qBK,e']
   rw [zre e,b];exact h2
  ·have e':¬ q.1=k:=fun z=>e (h1.trans z)
   have b:atKey (q::qs) k=atKey qs k:=by simp [atKey,qBK,e']
   rw [zrf e,b];exact ih
theorem KT.repl {H:Hp} {kvs:List (List Key×V)} {xs:List (List Key×Addr×Value)} (r:KT H kvs xs) (k:List Key) {y:V} {u:Value} (ry:RelV y u) :
  KT H (kvs.map fun kv=>if kv.1=k then (kv.1,y) else kv) (xs.map (putAt k u)):=by
 induction r with
 | nil=>exact .nil
 | @cons p q ps qs h t ih =>
  rw [qZ,qZ]
  refine .cons ?_ ih
  obtain ⟨h1,h2,h3⟩:=h
  unfold putAt
  by_cases e:p.1=k
  ·rw [if_pos e,if_pos (h1.symm.trans e)];exact ⟨h1,h2,ry⟩
  ·rw [if_neg e,if_neg (fun z=>e (h1.trans z))];exact ⟨h1,h2,h3⟩
theorem KT.put {H:Hp} {kvs:List (List Key×V)} {xs:List (List Key×Addr×Value)} (r:KT H kvs xs) (k:List Key) {b:Addr} {y:V} {u:Value} (hb:H b=some (.tup (k.map kV))) (ry:RelV y u) :
  KT H (putK kvs k y) (storedH xs k b u):=by
 have e:(kvs.any fun kv=>decide (kv.1=k))=(atKey xs k).isSome:=by
  rw [zacu,(r.val k).isSome_eq,qBz]
 unfold putK storedH
 rw [e]
 by_cases q:(atKey xs k).isSome=true
 ·rw [if_pos q,if_pos q];exact r.repl k ry
 ·rw [if_neg q,if_neg q];exact Paired.snoc r ⟨rfl,hb,ry⟩
theorem KT.keeps {H H':Hp} {kvs:List (List Key×V)} {xs:List (List Key×Addr×Value)} (r:KT H kvs xs) (ht:∀ b ys,H b=some (.tup ys)→H' b=some (.tup ys)):KT H' kvs xs :=
 Paired.mapP r fun _ _ z=>⟨z.1,ht _ _ z.2.1,z.2.2⟩
section
variable {P:Program} {w:World} {H:Hp} {h:Heap} {a:Addr}
theorem zasu {u:HO} (ok:HOk P w H h) (e:Rd H a u):zgu P w H h a u:=e.ok ok
theorem zagq {kvs:List (Key×V)} (ok:HOk P w H h) (e:Rd H a (.dK kvs)):kvs.length≤qj∧(a==sysModules)=false∧∃ vs,KV kvs vs∧h.DictOf (zfj P w) a vs :=
 show zgu P w H h a (.dK kvs) from zasu ok e
theorem zald {kvs:List (Key×V)} (ok:HOk P w H h) (e:H a=some (.dK kvs)):kvs.length≤qj∧(a==sysModules)=false∧∃ vs,KV kvs vs∧h.DictOf (zfj P w) a vs:=zagq ok (.inl e)
theorem zxs {ks:List Key} (ok:HOk P w H h) (e:H a=some (.tup (ks.map kV))):(tupleKind (zfj P w)).is h ks a:=by
 obtain ⟨_,its,r,o,h1,h2,n,h3⟩:=(show zgu P w H h a (.tup (ks.map kV)) from ok a _ e)
 exact ⟨o,its.toArray,n,h1,h2,h3,by simpa using zxr r⟩
theorem zagr {kvs:List (List Key×V)} (ok:HOk P w H h) (e:Rd H a (.dT kvs)):kvs.length≤qj∧(a==sysModules)=false ∧
  ∃ xs,KT H kvs xs∧h.DictOfH (tupleKind (zfj P w)) a xs:=by
 obtain ⟨z,y,xs,r,o,es,ep,h1,h2,h3,h4,h5⟩:=(show zgu P w H h a (.dT kvs) from zasu ok e)
 refine ⟨z,y,xs,r,o,es,ep,h1,h2,h3,h4,fun x hx=>?_,h5⟩
 have all:∀ {l:List (List Key×V)} {m:List (List Key×Addr×Value)},KT H l m→∀ x∈m,(tupleKind (zfj P w)).is h x.1 x.2.1:=by
  intro l m q
  induction q with
  | nil=>intro x hx;exact nomatch hx
  | @cons p q ps qs hq t ih =>
   intro x hx
   rcases qe.mp hx with e|hx
   ·subst e
    exact zxs ok (by rw [← hq.1];exact hq.2.1)
   ·exact ih x hx
 exact all r x hx
theorem zauu {kvs:List (List Key×V)} (ok:HOk P w H h) (e:H a=some (.dT kvs)):kvs.length≤qj∧(a==sysModules)=false ∧
  ∃ xs,KT H kvs xs∧h.DictOfH (tupleKind (zfj P w)) a xs:=zagr ok (.inl e)
end
noncomputable def DGet (H:Hp) (a:Addr) (y:V) (r:Option V):Prop :=
 (∃ kvs k,Rd H a (.dK kvs)∧y=kV k∧r=valV kvs k)∨∃ kvs k b,Rd H a (.dT kvs)∧y=.ref b∧H b=some (.tup (k.map kV))∧r=valV kvs k
noncomputable def DPut (H:Hp) (a:Addr) (y v:V) (H':Hp):Prop :=
 (∃ kvs k,H a=some (.dK kvs)∧y=kV k∧kvs.length<qj∧H'=upd H a (.dK (putK kvs k v))) ∨
 ∃ kvs k b,H a=some (.dT kvs)∧y=.ref b∧H b=some (.tup (k.map kV))∧kvs.length<qj∧H'=upd H a (.dT (putK kvs k v))
theorem DGet.k {H:Hp} {a:Addr} {kvs:List (Key×V)} {k:Key} (e:H a=some (.dK kvs)):DGet H a (kV k) (valV kvs k):=.inl ⟨kvs,k,.inl e,rfl,rfl⟩
theorem DPut.k {H:Hp} {a:Addr} {kvs:List (Key×V)} {k:Key} {v:V} (e:H a=some (.dK kvs)) (hl:kvs.length<qj):DPut H a (kV k) v (upd H a (.dK (putK kvs k v))):=.inl ⟨kvs,k,e,rfl,hl,rfl⟩
section
variable {X:Cx} {pins:List (Addr×Obj)} {σ:St} {H:Hp} {s:Shared} {a:Addr} {y v:V} {u r:Value} {o:Option V} {A:Around} {E:Value→Shared→Prop}
theorem Inv.big (I:Inv X pins σ H s):sysModules<s.heap.objs.size:=by
 have h:qM<s.heap.objs.size:=(I.mod.glob.keeps I.bk).lt
 exact qCt (by decide) h
theorem zags {Q:Value→Shared→Prop} (hu:A.units+1<cLine) (I:Inv X pins σ H s) (g:DGet H a y (some v)) (ry:RelV y u) (h:∀ w' s',Inv X pins σ H s'→RelV v w'→Q w' s') :
  wpAny (model X.prog X.w) A (getItem (.ref a) u) Q E s:=by
 rcases g with ⟨kvs,k,e,ey,l⟩|⟨kvs,k,b,e,ey,eb,l⟩
 ·subst ey
  obtain ⟨z,hd,vs,rel,dd⟩:=zagq I.hok e
  obtain ⟨w',hw,rw'⟩:=RelO.some_of (v:=v) (o:=valueAt vs k) (by rw [l];exact rel.val k)
  exact wpAny_getItem_of (zaew ry) dd.mapOf hw (h w' _ (I.tok _) rw')
 ·subst ey
  cases (show u=Value.ref b from ry)
  obtain ⟨z,hd,xs,rel,dd⟩:=zagr I.hok e
  obtain ⟨w',hw,rw'⟩:=RelO.some_of (v:=v) (o:=(atKey xs k).map (·.2)) (by rw [l];exact rel.val k)
  obtain ⟨p,hp,hp2⟩:=qJ.mp hw
  refine wpAny_getItem_heap (qBf hu) (zxs I.hok eb) dd hp ?_
  rw [hp2]
  exact h w' _ (I.tok _) rw'
theorem d_in {Q:Value→Shared→Prop} (hu:A.units+1<cLine) (I:Inv X pins σ H s) (g:DGet H a y o) (ry:RelV y u) (h:∀ s',Inv X pins σ H s'→Q (.bool o.isSome) s') :
  wpAny (model X.prog X.w) A (compareOp .In u (.ref a)) Q E s:=by
 rcases g with ⟨kvs,k,e,ey,l⟩|⟨kvs,k,b,e,ey,eb,l⟩
 ·subst ey
  obtain ⟨z,hd,vs,rel,dd⟩:=zagq I.hok e
  refine wpAny_in_of (zaew ry) hd dd.mapOf ?_
  rw [← (rel.val k).isSome_eq,← l]
  exact h _ (I.tok _)
 ·subst ey
  cases (show u=Value.ref b from ry)
  obtain ⟨z,hd,xs,rel,dd⟩:=zagr I.hok e
  refine wpAny_in_heap (qBf hu) (zxs I.hok eb) hd dd ?_
  have q:=(rel.val k).isSome_eq
  rw [qBz] at q
  rw [← q,← l]
  exact h _ (I.tok _)
theorem zapl {Q:Value→Shared→Prop} (hu:A.units+1<cLine) (I:Inv X pins σ H s) (g:DGet H a y o) (ry:RelV y u) (h:∀ s',Inv X pins σ H s'→Q (.bool (!o.isSome)) s') :
  wpAny (model X.prog X.w) A (compareOp .NotIn u (.ref a)) Q E s:=by
 rcases g with ⟨kvs,k,e,ey,l⟩|⟨kvs,k,b,e,ey,eb,l⟩
 ·subst ey
  obtain ⟨z,hd,vs,rel,dd⟩:=zagq I.hok e
  refine wpAny_notIn_of (zaew ry) hd dd.mapOf ?_
  rw [← (rel.val k).isSome_eq,← l]
  exact h _ (I.tok _)
 ·subst ey
  cases (show u=Value.ref b from ry)
  obtain ⟨z,hd,xs,rel,dd⟩:=zagr I.hok e
  refine wpAny_notIn_heap (qBf hu) (zxs I.hok eb) hd dd ?_
  have q:=(rel.val k).isSome_eq
  rw [qBz] at q
  rw [← q,← l]
  exact h _ (I.tok _)
theorem zvi {h':Heap} {t':Nat} {ob:HO} (I:Inv X pins σ H s) (mu:Mut (H a)) (hs:Heap.SameBut a s.heap h') (he:∃ q,h'.get? a=some q) (new:zgu X.prog X.w (upd H a ob) h' a ob) :
  Inv X pins σ (upd H a ob) {s with heap:=h',toks:=t'} :=
 I.write (x:=a) (e:=a) mu (.inl rfl) (fun b q hb z=>(hs.2 b hb).trans z) he new
theorem zagt {P:Program} {w:World} {H':Hp} {h':Heap} {kvs:List (Key×V)} {vs:List (Key×Value)} (z:kvs.length≤qj) (hd:(a==sysModules)=false) (rel:KV kvs vs) (dd:h'.DictOf (zfj P w) a vs) :
  zgu P w H' h' a (.dK kvs):=⟨z,hd,vs,rel,dd⟩
theorem zagu {H':Hp} {Q:Unit→Shared→Prop} (hu:A.units+1<cLine) (I:Inv X pins σ H s) (g:DPut H a y v H') (ry:RelV y u) (rv:RelV v r) (h:∀ s',Inv X pins σ H' s'→Q () s') :
  wpAny (model X.prog X.w) A (setItem (.ref a) u r) Q E s:=by
 rcases g with ⟨kvs,k,e,ey,l,eH⟩|⟨kvs,k,b,e,ey,eb,l,eH⟩
 ·subst ey eH
  obtain ⟨z,hd,vs,rel,dd⟩:=zald I.hok e
  have hz:vs.length≤qj:=by rw [← rel.length];exact z
  have hl:(putK kvs k v).length≤qj:=by have:=zne kvs k v;omega
  refine wpAny_setItem_pairs (hsz:=hz) (zaew ry) dd fun h' dd' hs=>h _ ?_
  have he:∃ q,h'.get? a=some q:=let ⟨q,_,_,hq,_⟩:=dd';⟨q,hq⟩
  exact zvi I (by rw [e];exact True.intro) hs he (zagt hl hd (rel.put k rv) dd')
 ·subst ey eH
  cases (show u=Value.ref b from ry)
  obtain ⟨z,hd,xs,rel,dd⟩:=zauu I.hok e
  have hz:xs.length≤qj:=by rw [← qBs rel];exact z
  have hl:(putK kvs k v).length≤qj:=by have:=zne kvs k v;omega
  refine wpAny_setItem_heap (hsz:=hz) (qBf hu) (zxs I.hok eb) dd fun h' dd' hs=>h _ ?_
  obtain ⟨q,es,ep,hq,h2,h3,h4,_,h5⟩:=dd'
  refine zvi I (by rw [e];exact True.intro) hs ⟨q,hq⟩ ⟨hl,hd,_,(rel.put k eb rv).keeps fun c ys ec=>?_,q,es,ep,hq,h2,h3,h4,h5⟩
  rw [zcj (zaun ec e (fun z=>nomatch z))]
  exact ec
end
section
variable {X:Cx} {pins:List (Addr×Obj)} {σ:St} {H:Hp} {s:Shared} {a:Addr} {kvs:List (Key×V)} {k:Key} {u:Value} {A:Around} {E:Value→Shared→Prop}
end
noncomputable def NoSl (i:Expr):Prop:=∀ ov iv,subscripted i false ov iv=operate [ov,iv] (getItem ov iv)
theorem zapm {prog:Program} {w:World} {A:Around} {E:Value→Shared→Prop} {s:Shared} {env:Env} {value slice:Expr} {pos:Pos} {T id:String} {Q:Value→Shared→Prop}
  (hl:typeLookup (.type T) "__getitem__" = pure (some (.builtin id))) (hs:NoSl slice)
  (h:wpAny (model prog w) A (eval value env) (fun o s₁=>wpAny (model prog w) A (eval slice env) (fun i s₂=>s₂.TypeIs o T∧wpAny (model prog w) A (getItem o i) Q E s₂) E s₁) E s) :
  wpAny (model prog w) A (eval (.Subscript value slice pos) env) Q E s:=by
 refine Subscript_ (qBl h (fun o s₁ h₁=>qBl h₁ (fun i s₂ h₂=>?_) fun _ _ x=>x) fun _ _ x=>x)
 obtain ⟨hT,h₂⟩:=h₂
 unfold subscriptTail
 refine qF ?_
 rw [getitemInPython_of_ne hT.not_modules]
 refine qF (wpAny_specialOf hT hl ?_)
 have fin:wpAny (model prog w) A (subscripted slice false o i) (fun r s₃=>wpAny (model prog w) A (letTemporaryGo value o r >>= fun _=>pure r) Q E s₃) E s₂:=by
  rw [hs o i]
  exact wpAny_operating (qBl h₂ (fun r s₃ h₃=>qF (wpAny_letTemporaryGo (qd h₃))) fun _ _ x=>x)
 first
  | exact qd (qF fin)
  | exact qF (qd (qF fin))
  | exact qF fin
theorem zaar {X:Cx} {pins:List (Addr×Obj)} {σ:St} {H:Hp} {s:Shared} {a:Addr} {y:V} {o:Option V} (I:Inv X pins σ H s) (g:DGet H a y o):s.TypeIs (.ref a) "dict":=by
 rcases g with ⟨kvs,k,e,_,_⟩|⟨kvs,k,b,e,_,_,_⟩
 ·obtain ⟨_,_,vs,_,dd⟩:=zagq I.hok e
  exact dd.typeIs
 ·obtain ⟨_,_,xs,_,dd⟩:=zagr I.hok e
  exact dd.typeIs
noncomputable def tDGet (td ty:TE):TE:=fun σ H Q=>td σ H fun x H1=>ty σ H1 fun y H2=>∃ a v,x=.ref a∧DGet H2 a y (some v)∧Q v H2
noncomputable def tDIn (ty td:TE):TE:=fun σ H Q=>ty σ H fun y H1=>td σ H1 fun x H2=>∃ a o,x=.ref a∧DGet H2 a y o∧Q (.bl o.isSome) H2
noncomputable def tDNotIn (ty td:TE):TE:=fun σ H Q=>ty σ H fun y H1=>td σ H1 fun x H2=>∃ a o,x=.ref a∧DGet H2 a y o∧Q (.bl (!o.isSome)) H2
noncomputable def sDPut (td ty tv:TE):TS:=fun D σ H=>tv σ H fun v H1=>td σ H1 fun x H2=>ty σ H2 fun y H3=>∃ a H4,x=.ref a∧DPut H3 a y v H4∧D.nx σ H4
section
variable {X:Cx} {o i e value:Expr} {pos pos' tpos:Pos} {td ty tv:TE}
theorem zapn (hu:X.A.units+1<cLine) (ho:PE X o td) (hi:PE X i ty) (hs:NoSl i):PE X (.Subscript o i pos) (tDGet td ty):=by
 intro pins s σ H Q I h
 refine zapm PySem.F.slot_dict_getitem.lookup hs (thn (ho pins s σ H _ I h) fun u s1 ⟨x,H1,I1,rx,q1⟩=>thn (hi pins s1 σ H1 _ I1 q1) fun iv s2 ⟨y,H2,I2,ry,a,v,ex,g,q2⟩=>?_)
 subst ex
 obtain rfl:u=Value.ref a:=rx
 exact ⟨zaar I2 g,zags hu I2 g ry fun w' s3 I3 rw'=>⟨v,H2,I3,rw',q2⟩⟩
theorem zasv (hu:X.A.units+1<cLine) (hi:PE X i ty) (ho:PE X o td):PC X .In i o (tDIn ty td):=by
 intro pins s σ H Q I h
 refine thn (hi pins s σ H _ I h) fun iv s1 ⟨y,H1,I1,ry,q1⟩=>thn (ho pins s1 σ H1 _ I1 q1) fun u s2 ⟨x,H2,I2,rx,a,ov,ex,g,q2⟩=>?_
 subst ex
 obtain rfl:u=Value.ref a:=rx
 exact d_in hu I2 g ry fun s3 I3=>⟨.bl ov.isSome,H2,I3,rfl,q2⟩
theorem zagv (hu:X.A.units+1<cLine) (hi:PE X i ty) (ho:PE X o td):PC X .NotIn i o (tDNotIn ty td):=by
 intro pins s σ H Q I h
 refine thn (hi pins s σ H _ I h) fun iv s1 ⟨y,H1,I1,ry,q1⟩=>thn (ho pins s1 σ H1 _ I1 q1) fun u s2 ⟨x,H2,I2,rx,a,ov,ex,g,q2⟩=>?_
 subst ex
 obtain rfl:u=Value.ref a:=rx
 exact zapl hu I2 g ry fun s3 I3=>⟨.bl (!ov.isSome),H2,I3,rfl,q2⟩
theorem zapo (hu:X.A.units+1<cLine) (ho:PE X o td) (hi:PE X i ty) (hv:PE X value tv) (hs:swapsWith value (some (.Subscript o i pos')) pos.line X.env=pure false) :
  PS X (.Assign [.Subscript o i pos'] value pos) (sDPut td ty tv):=by
 intro pins s σ H D I h
 refine wpAny_Assign_Subscript (thn (hv pins s σ H _ I h) fun r s1 ⟨v,H1,I1,rv,q1⟩=>thn (ho pins s1 σ H1 _ I1 q1) fun u s2 ⟨x,H2,I2,rx,q2⟩=>thn (hi pins s2 σ H2 _ I2 q2) fun iv s3 ⟨y,H3,I3,ry,a,H4,ex,g,q3⟩=>?_) hs
 subst ex
 obtain rfl:u=Value.ref a:=rx
 exact zagu hu I3 g ry rv fun s4 I4=>⟨σ,H4,I4,q3⟩
end
theorem zacv {P:Program} {w:World} {H:Hp} (h:Heap) (hb:sysModules<h.objs.size):zgu P w H (h.push {cls:=.type "dict",data:=.dict #[]}) h.objs.size (.dK []) :=
 ⟨qAd _,beq_eq_false_iff_ne.mpr (qA2 (qx hb)),[],.nil,Heap.DictOf.new h⟩
noncomputable def tDNewK:TE:=fun _ H Q=>∀ p,H p=none→Q (.ref p) (upd H p (.dK []))
section
variable {X:Cx} {pos:Pos}
theorem zale:PE X (.Dict [] [] pos) tDNewK:=fun pins s σ H Q I h =>
 wpAny_Dict_empty ⟨.ref s.heap.objs.size,_,I.laid (a:=s.heap.objs.size) (o:=.dK []) (t':=s.toks) (fun _ _ q=>qH _ q) (qO _) (zacv s.heap I.big),rfl,h _ (I.hok.fresh (qO _))⟩
end
noncomputable def zagw:List (TE×TE)→St→Hp→(List (V×V)→Hp→Prop)→Prop
 | [],_,H,Q=>Q [] H
 | (tk,tv)::r,σ,H,Q=>tk σ H fun x H1=>tv σ H1 fun y H2=>zagw r σ H2 fun ps H3=>Q ((x,y)::ps) H3
noncomputable abbrev VV:List (V×V)→List (Value×Value)→Prop:=Paired fun p q=>RelV p.1 q.1∧RelV p.2 q.2
noncomputable def PPs (X:Cx) (pos:Pos) (keys:List (Option Expr)) (values:List Expr) (trs:List (TE×TE)):Prop :=
 ∀ (pins:List (Addr×Obj)) (s:Shared) (σ:St) (H:Hp) (Q:List (V×V)→Hp→Prop),Inv X pins σ H s→zagw trs σ H Q →
  wpAny (model X.prog X.w) X.A (evalPairs (pairTrees keys values X.env pos)) (fun vs s'=>∃ ps H',Inv X pins σ H' s'∧VV ps vs∧Q ps H') X.xe s
theorem zapp {X:Cx} {pos:Pos}:PPs X pos [] [] []:=fun pins s σ H Q I h=>pairTrees_nil_walk ⟨[],H,I,.nil,h⟩
theorem zalf {X:Cx} {pos:Pos} {k v:Expr} {ks:List (Option Expr)} {vs:List Expr} {tk tv:TE} {trs:List (TE×TE)} (hk:PE X k tk) (hv:PE X v tv) (hr:PPs X pos ks vs trs) :
  PPs X pos (some k::ks) (v::vs) ((tk,tv)::trs):=fun pins s σ H Q I h =>
 pairTrees_cons_walk (thn (hk pins s σ H _ I h) fun u s1 ⟨x,H1,I1,rx,q1⟩=>thn (hv pins s1 σ H1 _ I1 q1) fun w2 s2 ⟨y,H2,I2,ry,q2⟩ =>
  thn (hr pins s2 σ H2 _ I2 q2) fun ws s3 ⟨ps,H3,I3,rel,q3⟩=>⟨(x,y)::ps,H3,I3,.cons ⟨rx,ry⟩ rel,q3⟩)
noncomputable def znx (kvs more:List (Key×V)):List (Key×V):=more.foldl (fun acc kv=>putK acc kv.1 kv.2) kvs
theorem KV.merge:∀ {more:List (Key×V)} {rs:List (Key×Value)} {kvs:List (Key×V)} {vs:List (Key×Value)},KV more rs→KV kvs vs→KV (znx kvs more) (merged vs rs):=by
 intro more rs kvs vs r
 unfold KV at r
 induction r generalizing kvs vs with
 | nil=>intro q;exact q
 | @cons p q ps qs h t ih =>
  intro r0
  have e:KV (putK kvs p.1 p.2) (stored vs q.1 q.2):=by
   have:=r0.put p.1 h.2
   rw [← h.1];exact this
  exact ih e
theorem zkd:∀ (more kvs:List (Key×V)),(znx kvs more).length≤kvs.length+more.length
 | [],kvs=>by show kvs.length≤kvs.length+0;omega
 | p::r,kvs=>by
  have h1:=zkd r (putK kvs p.1 p.2)
  have h2:=zne kvs p.1 p.2
  show (znx (putK kvs p.1 p.2) r).length≤_
  rw [qAc];omega
theorem zue {P:Program} {w:World}:∀ {kvs:List (Key×V)} {ws:List (Value×Value)},VV (kvs.map fun kv=>(kV kv.1,kv.2)) ws→∃ rs,Carries (zfj P w) ws rs∧KV kvs rs
 | [],_,r=>by rw [qBX] at r;cases r;exact ⟨[],True.intro,.nil⟩
 | p::kvs,_,r=>by
  rw [qZ] at r
  cases r with
  | @cons a b as bs h t =>
   obtain ⟨rs,c,q⟩:=zue (P:=P) (w:=w) t
   obtain ⟨b1,b2⟩:=b
   exact ⟨(p.1,b2)::rs,⟨zaew h.1,rfl,c⟩,.cons ⟨rfl,h.2⟩ q⟩
noncomputable def tDisp (trs:List (TE×TE)):TE:=fun σ H Q=>∀ p,H p=none→zagw trs σ (upd H p (.dK [])) fun ps H2=>H2 p=some (.dK [])∧∃ kvs:List (Key×V),ps=kvs.map (fun kv=>(kV kv.1,kv.2))∧kvs.length≤15∧Q (.ref p) (upd H2 p (.dK (znx [] kvs)))
theorem zapq {X:Cx} {pos:Pos} {keys:List (Option Expr)} {values:List Expr} {trs:List (TE×TE)} (h:PPs X pos keys values trs) (hall:keys.all (·.isSome)=true) (hl:keys.length=values.length) (h0:keys≠[])
  (h15:keys.length≤15):PE X (.Dict keys values pos) (tDisp trs):=by
 intro pins s σ H Q I q
 have hn:=I.hok.fresh (qO s.heap.objs.size)
 have I1:=I.laid (a:=s.heap.objs.size) (o:=.dK []) (h':=s.heap.push {cls:=.type "dict",data:=.dict #[]}) (t':=s.toks) (fun _ _ q=>qH _ q) (qO _) (zacv s.heap I.big)
 refine wpAny_Dict_walk (knd:=zfj X.prog X.w) hall hl h0 h15 (thn (h pins _ σ _ _ I1 (q _ hn)) fun ws s2 ⟨ps,H2,I2,rel,e,kvs,ep,lk,q2⟩=>?_)
 subst ep
 obtain ⟨rs,c,rk⟩:=zue (P:=X.prog) (w:=X.w) rel
 obtain ⟨z,hd,vs0,r0,dd⟩:=zald I2.hok e
 cases r0
 refine ⟨rs,c,dd,fun h' dd' hs=>⟨.ref s.heap.objs.size,_,?_,rfl,q2⟩⟩
 have hz:(znx [] kvs).length≤qj:=by
  have h1:=zkd kvs []
  rw [qCH] at h1
  rw [qCg];omega
 have he:∃ q,h'.get? s.heap.objs.size=some q:=let ⟨q,_,_,hq,_⟩:=dd';⟨q,hq⟩
 exact zvi I2 (by rw [e];exact True.intro) hs he (zagt hz hd (rk.merge .nil) dd')
set_option genInjectivity false in
set_option genInjectivity false in
section
variable {X:Cx} {pins:List (Addr×Obj)} {σ:St} {H:Hp} {s:Shared} {a:Addr} {y d:V} {u r:Value} {o:Option V} {A:Around} {E:Value→Shared→Prop}
end
section
variable {X:Cx} {o e f:Expr} {apos cpos:Pos} {td ty tx:TE}
end
section
variable {X:Cx} {pins:List (Addr×Obj)} {σ:St} {H:Hp} {s:Shared} {a:Addr} {kvs:List (Key×V)} {A:Around} {E:Value→Shared→Prop}
end
section
variable {X:Cx} {pins:List (Addr×Obj)} {σ:St} {H:Hp} {s:Shared} {a:Addr} {y:V} {u:Value} {A:Around} {E:Value→Shared→Prop}
end
end L2
namespace Att
open PySem PySem.W PySem.Calls PyProof.Rows
theorem zrm {P:Params} {h:Heap}:∀ (ns:List Int) (vs:List Value),WellAll P h vs (ns.map WData.int)→IntsAre vs ns:=by
 intro ns
 induction ns with
 | nil =>
  intro vs w
  rw [qBX] at w
  cases w
  exact .nil
 | cons n ns ih =>
  intro vs w
  rw [qZ] at w
  cases w with
  | cons a b =>
   cases a
   exact .cons _ _ (ih _ b)
theorem zagx {l:OpenLaw} {n:Nat} (hn:l.most=some n) {P:Params} {h:Heap} {args:List WData} {vals:List Value}
  (hpre:l.row.toRowW.claim.pre args=true) (hwl:WellAll P h vals args) :
  ∃ a vs ns,vals=[Value.ref a]∧args=[WData.list (ns.map WData.int)]∧h.get? a=some {cls:=.type "list",data:=.seq vs.toArray}∧IntsAre vs ns∧ns.length≤n:=by
 have hsh:WShape.hasAll [] args [.list .int]=true:=(pre_splitW hpre).1
 have hc:l.pre.holds [] {args:=args}=true:=(pre_splitW hpre).2
 obtain ⟨d,r,rfl,h1,h2⟩:=hasAllW_cons hsh
 obtain rfl:=hasAllW_nil h2
 obtain ⟨xs,rfl,h3⟩:=hasW_list h1
 obtain ⟨ns,rfl⟩:=items_int h3
 have hlen:ns.length≤n:=by
  unfold OpenLaw.pre at hc
  have h4:(WTm.not (.lt (.lit (.int (n:Int))) (.len (.arg 0)))).holds [] {args:=[.list (ns.map .int)]}=true:=by
   have h4:=(holds_andW hc).1
   rw [hn] at h4
   exact h4
  have h5:=condW_of h4 (w_not (w_lt w_lit (w_len_list (w_arg rfl))))
  rw [qC] at h5
  refine Nat.le_of_not_lt fun q=>?_
  have q':(n:Int)<((ns.length:Nat):Int):=by omega
  first
   | (rw [decide_eq_true q'] at h5;exact absurd h5 (by decide))
   | (simp at h5;omega)
 cases hwl with
 | cons w1 w2 =>
  cases w2
  cases w1 with
  | list ho hall=>exact ⟨_,_,ns,rfl,rfl,ho,zrm ns _ hall,hlen⟩
theorem zagy (l:OpenLaw) (args:List WData):l.row.toRowW.claim.post args (.bool true) args=true :=
 postW_of (r:=l.row.toRowW) (X:=(true==true))
  (show WShape.has [] (.bool true) .bool=true by first|rfl|decide|simp [WShape.has,WShape.arms,WShape.armsAll])
  (show (WTm.eq .res (.lit (.bool true))).value [] {args:=args,res:=some (.bool true),after:=args}=some (.bool (true==true)) from w_eq_bool (w_res rfl) w_lit) rfl
theorem attach_call {l:OpenLaw} {n:Nat} {q:Program} {loose:List Str} {XP:(Str→Option Value)→Heap→Prop} {YP:World→Heap→Prop} {d:DefRec}
  (hn:l.most=some n) (hdf:d.params.defaults=[])
  (call:∀ (w:World) (s₀ s₁:Shared) (mg mb:Str→Option Value) (fa:Addr) (o:Obj) (pm cd doc:Value) (a:Addr) (vs:List Value) (ns:List Int),
   Ground q loose [] XP w s₀ mg mb s₁.heap→YP w s₁.heap →
   s₁.heap.get? fa=some o→o.data=.func (docDef d.name d.params d.body d.scope pm cd doc)→s₁.heap.CodeRec cd d.name→mg d.name=some (.ref fa) →
   s₁.heap.get? a=some {cls:=.type "list",data:=.seq vs.toArray}→IntsAre vs ns→ns.length≤n→s₁.gens=#[] →
   codeAny (model l.prog w) callerA (.call (.ref fa) ⟨[.ref a],[]⟩) (fun r s'=>r=.ok (.ret (.bool true))∧OldK s₁.heap s'.heap∧s'.os=s₁.os∧AllBare s'.gens) s₁) :
  WalkO q loose XP YP l.row.toRowW d [] (fun f vs=>PySem.call f vs):=by
 intro w s₀ s₁ mg mb G Y fa o pm cd doc dV kV ho hd hcd hD hmg hg args vals as hpre hlay hrd hwl hlo
 obtain rfl:dV=.none:=Dflts.none hD hdf
 obtain rfl:kV=.none:=Dflts.noKw hD
 obtain ⟨a,vs,ns,rfl,rfl,hobj,hints,hlen⟩:=zagx hn hpre hwl
 refine enter_call (qBy (call w s₀ s₁ mg mb fa o pm cd doc a vs ns G Y ho (fd_plain hd) hcd hmg hobj hints hlen hg) fun r s' hq=>?_)
 obtain ⟨rfl,h2,h3,h4⟩:=hq
 exact ⟨.inl ⟨.bool true,.bool true,[],rfl,fun _=>rfl,.bool true,zagy l _,fun _=>⟨List.Pairwise.nil,fun _ hm=>(nomatch hm)⟩⟩,h2,h3,h4⟩
section
variable {prog:Program} {w:World} {A:Around} {E:Value→Shared→Prop} {s:Shared} {K:Frag}
end
end Att
namespace L2
open PySem PySem.Spec PyProof.Rows
theorem zxt:∀ {vs:List Value} {ns:List Int},IntsAre vs ns→Vals (ns.map V.int) vs
 | _,_,.nil=>.nil
 | _,_,.cons n t h=>.cons ⟨t,rfl⟩ (zxt h)
noncomputable def Only (H:Hp):Prop:=∀ b,H b=none∨∃ o xs,H b=some (.frz o (.lst xs))
theorem zalg {P:Program} {w:World} {K:qB} {mg mb:Str→Option Value} {CX:CXT} {k:Nat} {fa a:Addr} {fd:qw} {x:Str} {sp:Sp} {s₁:Shared} {vs:List Value} {ns:List Int}
  (KX:K.In s₁.heap) (hns:s₁.heap.Ns qM mg) (hb:s₁.heap.Ns builtinsNs mb) (hbb:∀ x:Str,x ≠ "__name__" → mb x=bootBuiltins x) (hlim:s₁.heap.NoLimit) (hg:s₁.gens=#[])
  (ha:s₁.heap.get? a=some {cls:=.type "list",data:=.seq vs.toArray}) (hi:IntsAre vs ns) (hl:ns.length≤qj) (hr:Room k callerA)
  (F:∀ base:Heap,K.In base→base.Ns qM mg→FnOk P w K mg base CX k fa fd [x] sp) (hbind:∀ (s:Shared) (u:Value),BindsTo s fd ⟨[u],[]⟩ [(x,u)])
  (hsp:∀ H:Hp,Only H→SqL K H a (ns.map V.int)→sp [.ref a] H (fun v _=>v=.bl true) fun _ _ _=>False)
  (hCX:∀ H e s',CX [] H s₁ (fun _ _ _=>False) e s'→False) :
  codeAny (model P w) callerA (.call (.ref fa) ⟨[.ref a],[]⟩) (fun r s'=>r=.ok (.ret (.bool true))∧OldK s₁.heap s'.heap∧s'.os=s₁.os∧AllBare s'.gens) s₁:=by
 have rv:=zxt hi
 have lenV:=hi.length
 have core:∀ H:Hp,Only H→SqL K H a (ns.map V.int)→HOk P w H s₁.heap→(∀ b,H b≠none→b=a)→(H a≠none→K.lookup a=none) →
   codeAny (model P w) callerA (.call (.ref fa) ⟨[.ref a],[]⟩) (fun r s'=>r=.ok (.ret (.bool true))∧OldK s₁.heap s'.heap∧s'.os=s₁.os∧AllBare s'.gens) s₁:=by
  intro H hO hS hok hA hK
  have base_of:∀ {b:Addr} {o:Obj},s₁.heap.get? b=some o→H b=none→(hidT s₁.heap H).get? b=some o:=fun e n=>zakt e n
  have noA:∀ {b:Addr} {o:Obj} {es:Array DictEntry} {ep:Nat},s₁.heap.get? b=some o→o.data=.dict es ep→H b=none:=fun {b o es ep} e d=>by
   cases q:H b with
   | none=>rfl
   | some u =>
    have e':b=a:=hA b (by rw [q];simp)
    subst e'
    rw [ha] at e;cases e
    have d':Data.seq vs.toArray _=Data.dict es ep:=d
    cases d'
  have nsK:∀ {b:Addr} {m:Str→Option Value},s₁.heap.Ns b m→(hidT s₁.heap H).Ns b m:=fun {b m} ⟨o,es,ep,e,d,r⟩=>⟨o,es,ep,base_of e (noA e d),d,r⟩
  have hKb:K.In (hidT s₁.heap H):=fun b o e=>base_of (KX b o e) (by
   cases q:H b with
   | none=>rfl
   | some u =>
    have e':b=a:=hA b (by rw [q];simp)
    subst e'
    rw [hK (by rw [q];simp)] at e;cases e)
  have hM:Mod K mg (hidT s₁.heap H):=⟨hKb,nsK hns,⟨mb,nsK hb,hbb⟩,let ⟨mc,h1,h2⟩:=hlim;⟨mc,nsK h1,h2⟩⟩
  have e0:Env0 P w K mg (hidT s₁.heap H) callerA [] s₁ H:=⟨rfl,hM,fun b o e=>zaor e,Nat.le_of_eq (zagc _ _),trivial,fun b hb=>absurd (show b∈([]:List Addr) from hb) (by simp),hok,.of_eq hg⟩
  refine qBy ((F _ hKb (nsK hns)).run callerA [] s₁ H ⟨[.ref a],[]⟩ [.ref a] [.ref a] _ _ hr e0 (hbind s₁ (.ref a)) (.cons rfl .nil) (hsp H hO hS)) fun r s' h=>?_
  cases r with
  | error e=>exact (hCX H e s' h).elim
  | ok fl =>
   cases fl with
   | next=>exact False.elim h
   | brk=>exact False.elim h
   | cont=>exact False.elim h
   | ret u =>
    obtain ⟨v,H',os,bare,un,hok',r',q⟩:=h
    have q':v=.bl true:=q
    subst q'
    obtain rfl:u=Value.bool true:=r'
    refine ⟨rfl,OldK.of_keep fun b o e=>?_,os,bare⟩
    cases q:H b with
    | none=>exact un.keep b o e q (by intro z;exact absurd (show b∈([]:List Addr) from z) (by simp)) (by simp)
    | some u =>
     rcases hO b with z|⟨ob,xs,z⟩
     ·rw [q] at z;cases z
     ·have z2:=un.frzs b ob _ z
      obtain ⟨e1,_⟩:=hok b _ z
      obtain ⟨e2,_⟩:=hok' b _ z2
      rw [e] at e1;cases e1
      exact e2
 cases hk:K.lookup a with
 | some o =>
  have e:=KX a o hk
  rw [ha] at e
  cases e
  refine core (fun _=>none) (fun _=>.inl rfl) (.inr ⟨_,vs.toArray,_,hk,rfl,rfl,rfl,by rw [qW,lenV];exact hl,by simpa using rv⟩) (fun b u z=>by have z':(none:Option HO)=some u:=z;cases z') (fun b z=>absurd rfl z) fun z=>absurd rfl z
 | none =>
  refine core (fun b=>if b=a then some (.frz {cls:=.type "list",data:=.seq vs.toArray} (.lst (ns.map V.int))) else none) (fun b=>?_) (.inl (.inr ⟨{cls:=.type "list",data:=.seq vs.toArray},if_pos rfl⟩)) (fun b u z=>?_) (fun b z=>?_) fun _=>hk
  ·by_cases hb:b=a
   ·exact .inr ⟨_,_,if_pos hb⟩
   ·exact .inl (if_neg hb)
  ·by_cases hb:b=a
   ·have z':=(if_pos hb).symm.trans z
    cases z'
    subst hb
    exact ⟨ha,by rw [qC];exact hl,vs,_,rv,ha⟩
   ·have z':=(if_neg hb).symm.trans z
    cases z'
  ·by_cases hb:b=a
   ·exact hb
   ·exact absurd (if_neg hb) z
theorem walk_of {l:PySem.W.OpenLaw} {n k:Nat} {q:Program} {loose:List Str} {XP:(Str→Option Value)→Heap→Prop} {YP:World→Heap→Prop} {d:DefRec} {K:Params→qB} {CX:World→CXT} {sp:World→Sp} {x:Str}
  (hn:l.most=some n) (hn2:n≤qj) (hdf:d.params.defaults=[]) (hr:Room k callerA)
  (hY:∀ (w:World) (h:Heap),YP w h→(K w.params).In h)
  (F:∀ (w:World) (mg:Str→Option Value) (fa:Addr) (h:Heap),(K w.params).In h→h.Ns qM mg→mg d.name=some (.ref fa) →
   ∃ fd:qw,(∀ (s:Shared) (u:Value),BindsTo s fd ⟨[u],[]⟩ [(x,u)]) ∧
    ∀ base:Heap,(K w.params).In base→base.Ns qM mg→FnOk l.prog w (K w.params) mg base (CX w) k fa fd [x] (sp w))
  (hsp:∀ (w:World) (H:Hp) (a:Addr) (ns:List Int),ns.length≤n→Only H→SqL (K w.params) H a (ns.map V.int)→sp w [.ref a] H (fun v _=>v=.bl true) fun _ _ _=>False)
  (hCX:∀ (w:World) (H:Hp) (s:Shared) (e:Value) (s':Shared),CX w [] H s (fun _ _ _=>False) e s'→False) :
  PySem.W.WalkO q loose XP YP l.row.toRowW d [] (fun f vs=>PySem.call f vs):=by
 refine Att.attach_call hn hdf fun w s₀ s₁ mg mb fa o pm cd doc a vs ns G Y ho hd hcd hmg hobj hints hlen hg=>?_
 have KX:=hY w _ Y
 obtain ⟨fd,hb,hF⟩:=F w mg fa _ KX G.T.g hmg
 exact zalg KX G.T.g G.T.b G.T.builtins G.T.nolimit hg hobj hints (qAW hlen hn2) hr hF hb (fun H hO hS=>hsp w H a ns hlen hO hS) fun H e s'=>hCX w H s₁ e s'
end L2
namespace L2
open PySem PySem.Spec PyProof.Rows
noncomputable def zbw (s:Stmt):Arguments:=match s with
 | .FunctionDef _ a _ _ _ _ _ _ _ _=>a
 | _=>{posonlyargs:=[],args:=[],vararg:=none,kwonlyargs:=[],kw_defaults:=[],kwarg:=none,defaults:=[]}
noncomputable def zbu (s:Stmt):List Stmt:=match s with
 | .FunctionDef _ _ b _ _ _ _ _ _ _=>b
 | _=>[]
noncomputable def zap (s:Stmt):Scope:=match s with
 | .FunctionDef _ _ _ _ _ _ sc _ _ _=>sc
 | _=>{kind:=.function,names:=[],isGenerator:=false,isCoroutine:=false}
noncomputable abbrev CX0:CXT:=fun _ _ _ _ _ _=>False
noncomputable abbrev E0:XK:=fun _ _ _=>False
theorem zauv {X:Cx}:zagk CX0 X E0:=fun _ _ _ _ _ _ _ h=>h.elim
set_option genInjectivity false in
structure Fun (K:qB) (x qual:Str) (st:Stmt) (f:Addr) (fd:qw):Prop where
 ex:∃ (oc:Value) (od:Option Addr) (kV doc pm:Value) (an:Option Addr) (cdv ct:Value) (osl:Array (Option Value)),
  fd=qX x qual (zbw st) (zbu st) (zap st) .none kV doc pm an cdv ct∧K.lookup f=some ⟨oc,od,.func fd,osl⟩∧qS K cdv qual=true
 kp:qP K (.ref f)=true
section
variable {P:Program} {w:World} {K:qB} {mg:Str→Option Value} {base:Heap}
theorem Fun.ok {x qual:Str} {st:Stmt} {f:Addr} {fd:qw} {N ps:List Str} {k:Nat} {sp:Sp} (F:Fun K x qual st f fd) (S:FnScope N ps (zap st)) (len:∀ vs H Q E,sp vs H Q E→vs.length=ps.length)
  (hbody:∀ (cdv:Value) (A:Around) (outer:List Env) (s:Shared) (H:Hp) (vs:List V) (Q:VK) (E:XK),Room k (A.deeper (envOfC qual (zap st) s.heap.objs.size f cdv))→sp vs H Q E →
   ∃ t,PSs (cxOf CX0 P w K mg base N qual (zap st) f cdv A outer s H E).nox (zbu st) t∧t {nx:=fun _ H'=>Q .non H',rt:=Q} (zqt N vs) H):FnOk P w K mg base CX0 (k+1) f fd ps sp:=by
 obtain ⟨oc,od,kV,doc,pm,an,cdv,ct,osl,rfl,lk,hcd⟩:=F.ex
 refine zaus lk hcd S len fun A outer s H vs Q E hr hsp=>?_
 obtain ⟨t,h,q⟩:=hbody cdv A outer s H vs Q E hr hsp
 exact ⟨t,h.nox,q⟩
theorem Fun.binds {x qual:Str} {st:Stmt} {f:Addr} {fd:qw} {ps:List Str} (F:Fun K x qual st f fd)
  (h:∀ (kV doc pm:Value) (an:Option Addr) (cdv ct:Value) (us:List Value),us.length=ps.length→bindArgs (qX x qual (zbw st) (zbu st) (zap st) .none kV doc pm an cdv ct) ⟨us,[]⟩=pure (ps.zip us)):zaet K fd ps []:=by
 obtain ⟨oc,od,kV,doc,pm,an,cdv,ct,osl,rfl,lk,hcd⟩:=F.ex
 exact .all (h kV doc pm an cdv ct)
theorem zcz {x qual:Str} {st:Stmt} {f:Addr} {oc:Value} {od an:Option Addr} {osl:Array (Option Value)} {kV doc pm cdv ct:Value} (l:K.lookup f=some ⟨oc,od,.func (qX x qual (zbw st) (zbu st) (zap st) .none kV doc pm an cdv ct),osl⟩)
  (c:qS K cdv qual=true) (k:qP K (.ref f)=true):Fun K x qual st f (qX x qual (zbw st) (zbu st) (zap st) .none kV doc pm an cdv ct):=⟨⟨oc,od,kV,doc,pm,an,cdv,ct,osl,rfl,l,c⟩,k⟩
end
theorem zfh {A:Around} {k:Nat} (hr:Room k A):A.units+1<cLine:=qAl (Nat.add_le_add_left (by decide:1≤64) _) hr.units
section
variable {X:Cx}
theorem pv (i:Nat) {x:Str} {pos:Pos} (hN:X.N[i]?=some x:=by rfl) (hv:visB X.env.scope x=true:=by rfl) (hd:(x==("__debug__":Str))=false:=by decide)
  (hcd:(x==("__classdict__":Str))=false:=by decide):PE X (.Name x pos) (tVar i):=zans hN (visB.of hv) hd hcd
end
theorem iteF {A B:Prop} (h:B):if false=true then A else B:=by
 rw [if_neg qK]
 exact h
theorem iteT {A B:Prop} (h:A):if true=true then A else B:=by
 rw [if_pos rfl]
 exact h
theorem ite2 {c A B:Prop} [Decidable c] (h1:c→A) (h2:¬ c→B):if c then A else B:=by
 by_cases h:c
 ·rw [if_pos h]
  exact h1 h
 ·rw [if_neg h]
  exact h2 h
noncomputable def Same (H H':Hp):Prop:=∀ b o,H b=some o→H' b=some o
theorem Same.refl (H:Hp):Same H H:=fun _ _ h=>h
theorem Same.trans {H H1 H2:Hp} (a:Same H H1) (b:Same H1 H2):Same H H2:=fun c o h=>b c o (a c o h)
theorem Same.free {H H':Hp} (e:Same H H') {l:Addr} (h:H' l=Option.none):H l=Option.none:=by
 cases q:H l with
 | none=>rfl
 | some o =>
  rw [e l o q] at h
  cases h
theorem Same.seq {K:qB} {H H':Hp} {a:Addr} {xs:List V} (e:Same H H') (h:SqL K H a xs):SqL K H' a xs:=by
 rcases h with (h|⟨o,h⟩)|h
 ·exact .inl (.inl (e _ _ h))
 ·exact .inl (.inr ⟨o,e _ _ h⟩)
 ·exact .inr h
section
variable {κ:Type} [DecidableEq κ]
theorem zaas:∀ {l:List κ} {k:κ},l.Nodup→¬ k∈l→(l++[k]).Nodup
 | [],k,_,_=>by simp
 | a::r,k,h,hk=>by
  obtain ⟨h1,h2⟩:=qAz.mp h
  show (a::(r++[k])).Nodup
  refine qAz.mpr ⟨fun m=>?_,zaas h2 fun m=>hk (qe.mpr (Or.inr m))⟩
  rcases qAA.mp m with q|q
  ·exact h1 q
  ·exact hk (qe.mpr (Or.inl (qAI.mp q).symm))
end
end L2
set_option maxHeartbeats 4000000
namespace L2
open PySem PySem.Spec PyProof.Rows
noncomputable def clos (cells:List (Str×Addr)):List (Str×NameKind)→List (Str×Addr)→List (Str×Addr)
 | [],acc=>acc
 | (n,k)::r,acc=>if k==.free then clos cells r ((n,(cells.lookup n).getD 0)::acc) else clos cells r acc
theorem zvj {cells:List (Str×Addr)}:∀ {names:List (Str×NameKind)} {acc:List (Str×Addr)},(∀ y∈names,y.2=.free→∃ c,cells.lookup y.1=some c)→∀ p∈clos cells names acc,p∈acc∨((p.1,NameKind.free)∈names∧cells.lookup p.1=some p.2)
 | [],acc,_,p,hp=>.inl hp
 | (n,k)::r,acc,h,p,hp=>by
  unfold clos at hp
  have hr:∀ y∈r,y.2=.free→∃ c,cells.lookup y.1=some c:=fun y hy=>h y (qT _ hy)
  split at hp
  ·rename_i hk
   rcases zvj hr p hp with q|q
   ·rcases qe.mp q with q|q
    ·subst q
     have hk':k=.free:=by simpa using hk
     subst hk'
     obtain ⟨c,hc⟩:=h (n,.free) qc rfl
     exact .inr ⟨qc,by show cells.lookup n=some ((cells.lookup n).getD 0);rw [hc];rfl⟩
    ·exact .inl q
   ·exact .inr ⟨qT _ q.1,q.2⟩
  ·rcases zvj hr p hp with q|q
   ·exact .inl q
   ·exact .inr ⟨qT _ q.1,q.2⟩
theorem zvk {cells:List (Str×Addr)}:∀ {names:List (Str×NameKind)} {acc:List (Str×Addr)},∀ p∈acc,p∈clos cells names acc
 | [],acc,p,hp=>hp
 | (n,k)::r,acc,p,hp=>by
  unfold clos
  split
  ·exact zvk p (qT _ hp)
  ·exact zvk p hp
theorem zvl {cells:List (Str×Addr)} {x:Str}:∀ {names:List (Str×NameKind)} {acc:List (Str×Addr)},(x,NameKind.free)∈names→∃ c,(x,c)∈clos cells names acc
 | [],_,h=>by simp at h
 | (n,k)::r,acc,h=>by
  unfold clos
  rcases qe.mp h with e|h
  ·cases e
   rw [if_pos (show (NameKind.free==NameKind.free)=true by decide)]
   exact ⟨_,zvk _ qc⟩
  ·split
   ·exact zvl h
   ·exact zvl h
theorem zny {α:Type} {x:Str} {c:α}:∀ {l:List (Str×α)},(x,c)∈l→∃ c',l.lookup x=some c'
 | [],h=>by simp at h
 | (k,v)::r,h=>by
  rw [qAO]
  cases hb:x==k with
  | true=>exact ⟨v,rfl⟩
  | false =>
   rcases qe.mp h with e|h
   ·cases e;simp at hb
   ·exact zny h
theorem znz {scope:Scope} {env:Env} (h:∀ y∈scope.names,y.2=.free→∃ c,env.cells.lookup y.1=some c):closureFor scope env=pure (clos env.cells scope.names []):=by
 unfold closureFor
 have key:∀ (names:List (Str×NameKind)) (acc:List (Str×Addr)),(∀ y∈names,y.2=.free→∃ c,env.cells.lookup y.1=some c) →
   (forIn names acc (fun (x:Str×NameKind) (r:List (Str×Addr))=>(if (x.2==.free)=true then (do let a ← cellOf env x.1;pure (ForInStep.yield ((x.1,a)::r))) else pure (ForInStep.yield r):Sem (ForInStep (List (Str×Addr))))))=pure (clos env.cells names acc):=by
  intro names
  induction names with
  | nil=>intro acc _;rfl
  | cons y r ih =>
   intro acc hy
   obtain ⟨n,k⟩:=y
   have hr:=fun y (hm:y∈r)=>hy y (qT _ hm)
   rw [qCI]
   unfold clos
   cases hk:(k==NameKind.free) with
   | true =>
    have hk':k=.free:=by simpa using hk
    subst hk'
    obtain ⟨c,hc⟩:=hy (n,.free) qc rfl
    have e1:cellOf env n=pure c:=by unfold cellOf;rw [hc]
    simp only [if_true]
    have hc':env.cells.lookup n=some c:=hc
    rw [e1,hc']
    simp only [pure_bind,Option.getD_some]
    exact ih _ hr
   | false =>
    simp only [qB2,if_false,pure_bind]
    exact ih _ hr
 simpa using key scope.names [] h
theorem zih:∀ (names:List (Str×NameKind)) (n:Nat) (acc:List (Str×Addr)),cellsFrom n names acc=cellsFrom n names []++acc
 | [],_,_=>rfl
 | (name,kind)::r,n,acc=>by
  unfold cellsFrom
  split
  ·rw [zih r (n+1) ((name,n)::acc),zih r (n+1) [(name,n)],qBN];rfl
  ·exact zih r n acc
theorem zii {x:Str} {c:Addr}:∀ (names:List (Str×NameKind)) (n:Nat) (acc:List (Str×Addr)),(x,c)∈cellsFrom n names acc→(x,c)∈acc∨(x,NameKind.cell)∈names
 | [],_,_,h=>.inl h
 | (name,kind)::r,n,acc,h=>by
  unfold cellsFrom at h
  split at h
  ·rename_i hk
   have hk':kind=.cell:=by simpa using hk
   subst hk'
   rcases zii r _ _ h with q|q
   ·rcases qe.mp q with q|q
    ·cases q;exact .inr qc
    ·exact .inl q
   ·exact .inr (qT _ q)
  ·rcases zii r _ _ h with q|q
   ·exact .inl q
   ·exact .inr (qT _ q)
theorem zme {α:Type} {x:Str}:∀ {l r:List (Str×α)},(l++r).lookup x=(l.lookup x).or (r.lookup x)
 | [],_=>by simp
 | (k,v)::l,r=>by
  rw [List.cons_append,qAO,qAO]
  cases x==k with
  | true=>rfl
  | false=>exact zme
theorem zhq {env:Env} {x:Str} {k':NameKind}:∀ {names:List (Str×NameKind)},
  (names.map fun (n,k)=>if (k==NameKind.free&&env.scope.kind==.function&&env.kindOf n==some .cell) then (n,NameKind.cell) else (n,k)).lookup x=some k' →
  ∃ k,names.lookup x=some k∧(k'=k∨(k=.free∧k'=.cell))
 | [],h=>by simp at h
 | (n,k)::r,h=>by
  rw [qZ] at h
  by_cases hc:(k==NameKind.free&&env.scope.kind==.function&&env.kindOf n==some .cell)=true
  ·simp only [hc,if_true] at h
   rw [qAO] at h ⊢
   cases hx:x==n with
   | true =>
    rw [hx] at h
    have hk:k=.free:=by simp at hc;exact hc.1.1
    exact ⟨k,rfl,.inr ⟨hk,(qr h).symm⟩⟩
   | false=>rw [hx] at h;exact zhq h
  ·simp only [hc,qB2,if_false] at h
   rw [qAO] at h ⊢
   cases hx:x==n with
   | true=>rw [hx] at h;exact ⟨k,rfl,.inl (qr h).symm⟩
   | false=>rw [hx] at h;exact zhq h
theorem zla {env:Env} {x:Str}:∀ {names:List (Str×NameKind)},names.lookup x=some .free →
  ((names.map fun (n,k)=>if (k==NameKind.free&&env.scope.kind==.function&&env.kindOf n==some .cell) then (n,NameKind.cell) else (n,k)).lookup x=some .free ∨
   (names.map fun (n,k)=>if (k==NameKind.free&&env.scope.kind==.function&&env.kindOf n==some .cell) then (n,NameKind.cell) else (n,k)).lookup x=some .cell)
 | [],h=>by simp at h
 | (n,k)::r,h=>by
  rw [qZ]
  rw [qAO] at h
  by_cases hc:(k==NameKind.free&&env.scope.kind==.function&&env.kindOf n==some .cell)=true
  ·simp only [hc,if_true]
   rw [qAO]
   cases hx:x==n with
   | true=>exact .inr rfl
   | false=>rw [hx] at h;exact zla h
  ·simp only [hc,qB2,if_false]
   rw [qAO]
   cases hx:x==n with
   | true=>rw [hx] at h;exact .inl h
   | false=>rw [hx] at h;exact zla h
theorem zaex {M:Model} {A:Around} {E:Value→Shared→Prop} {s:Shared} {scope:Scope} {globals:Addr} {cl:List (Str×Addr)} {qual:Str} {env:Env} {Q:Env→Shared→Prop}
  (hQ:∀ h',(∀ b o,s.heap.get? b=some o→h'.get? b=some o)→h'.Ns s.heap.objs.size (fun _=>none)→(∀ n c,(n,c)∈cellsFrom (s.heap.objs.size+1) scope.names []→h'.IsCell c none∧s.heap.objs.size+1≤c) →
   ((cellsFrom (s.heap.objs.size+1) scope.names []).Pairwise fun x y=>x.2≠y.2) →
   Q {scope:=scope,locals:=s.heap.objs.size,globals:=globals,cells:=cellsFrom (s.heap.objs.size+1) scope.names []++cl,qual:=qual,func:=none,code:=env.code,frame:=env.frame,builtins:=env.builtins} {s with heap:=h'}) :
  wpAny M A (newFunctionEnv scope globals cl [] qual none .none (some env)) Q E s:=by
 simp only [newFunctionEnv,qCs,if_true]
 refine qF (wpAny_alloc ?_)
 refine qF (wpAny_layCells _ (fun name kind cells=>by cases hkc:kind==NameKind.cell<;>simp [hkc]) _ _ _ _ ?_)
 have ok:=cellsFrom_ok scope.names (s.heap.push {cls:=.type "dict",data:=.dict #[]}) (s.heap.objs.size+1) [] ⟨fun _ _ hm=>(nomatch hm),List.Pairwise.nil⟩ (by rw [qAw];exact qO _)
 rw [qAw] at ok
 rw [show ({s with heap:=s.heap.push {cls:=.type "dict",data:=.dict #[]}}:Shared).heap.objs.size=s.heap.objs.size+1 from qAw ..]
 rw [zih]
 refine qF ?_
 refine qd (qd ?_)
 exact hQ _ (fun b o e=>pushCells_keeps _ _ b o (qH _ e)) ((Heap.Ns.new s.heap (.type "dict")).keeps (pushCells_keeps _ _)) ok.empty ok.apart
noncomputable def cxComp (X:Cx) (scope:Scope) (N' own:List Str) (cl:List (Str×Addr)) (C:Addr) (s:Shared) (H:Hp) (fp:List Addr):Cx :=
 {X with N:=N',s₀:=s,H₀:=H,env:=compEnvC scope cl C X.env,outer:=X.stack,stack:=X.stack,ex:=fp,fn:=fun x=>own.contains x,pn:=[],xe:=fun _ _=>False}
structure CompOk (X:Cx) (scope:Scope) (N' own:List Str) (fr:List Nat):Prop where
 kind:scope.kind=.function
 names:∀ y∈scope.names,scope.names.lookup y.1=some y.2
 up:∀ y∈scope.names,y.2=.free→(X.env.kindOf y.1=some .cell∨X.env.kindOf y.1=some .free)
 nm:N'=own++fr.map (fun j=>X.N.getD j Str.empty)
 fr:∀ j∈fr,j<X.N.length∧scope.names.lookup (X.N.getD j Str.empty)=some .free
 own:∀ x∈own,scope.names.lookup x=some .local∨scope.names.lookup x=some .cell
noncomputable def tau (own:List Str) (fr:List Nat) (σ:St):St:=own.map (fun _=>none)++fr.map (fun j=>σ.getD j none)
section
variable {X:Cx} {pins:List (Addr×Obj)} {σ:St} {H:Hp} {s:Shared} {scope:Scope} {N' own:List Str} {fr:List Nat}
theorem zow (c:CompOk X scope N' own fr) (ok:X.Ok):∀ y∈scope.names,y.2=.free→∃ a,X.env.cells.lookup y.1=some a:=fun y hy e=>ok.has y.1 (c.up y hy e)
theorem zalh {fp:List Addr} {h':Heap} (c:CompOk X scope N' own fr) (I:Inv X pins σ H s)
  (hf:∀ b∈fp,FpOk X pins H b) (ho:∀ b∈fp,∃ o,s.heap.get? b=some o∧∀ v,o.data≠.cell v)
  (keep:∀ b o,s.heap.get? b=some o→h'.get? b=some o) (ns:h'.Ns s.heap.objs.size (fun _=>none))
  (cells:∀ n c,(n,c)∈cellsFrom (s.heap.objs.size+1) scope.names []→h'.IsCell c none∧s.heap.objs.size+1≤c)
  (apart:(cellsFrom (s.heap.objs.size+1) scope.names []).Pairwise fun x y=>x.2≠y.2) :
  Inv (cxComp X scope N' own (cellsFrom (s.heap.objs.size+1) scope.names []++clos X.env.cells scope.names []) s.heap.objs.size s H fp) [] (tau own fr σ) H {s with heap:=h'}:=by
 have found:=zow c I.ok
 have clm:∀ x a,(x,a)∈clos X.env.cells scope.names []→(x,NameKind.free)∈scope.names∧X.env.cells.lookup x=some a:=fun x a hm=>by
  rcases zvj found (x,a) hm with q|q
  ·simp at q
  ·exact q
 have look:∀ x a,(cellsFrom (s.heap.objs.size+1) scope.names []++clos X.env.cells scope.names []).lookup x=some a →
   ((x,a)∈cellsFrom (s.heap.objs.size+1) scope.names []∧(x,NameKind.cell)∈scope.names)∨((x,NameKind.free)∈scope.names∧X.env.cells.lookup x=some a):=fun x a e=>by
  rw [zme] at e
  cases q:(cellsFrom (s.heap.objs.size+1) scope.names []).lookup x with
  | some b =>
   rw [q] at e
   cases e
   have hm:=qAM q
   rcases zii _ _ _ hm with z|z
   ·simp at z
   ·exact .inl ⟨hm,z⟩
  | none =>
   rw [q] at e
   exact .inr (clm x a (qAM e))
 have lookF:∀ x a,(x,NameKind.free)∈scope.names→X.env.cells.lookup x=some a→(cellsFrom (s.heap.objs.size+1) scope.names []++clos X.env.cells scope.names []).lookup x=some a:=fun x a hx e=>by
  rw [zme]
  have q:(cellsFrom (s.heap.objs.size+1) scope.names []).lookup x=none:=by
   cases q:(cellsFrom (s.heap.objs.size+1) scope.names []).lookup x with
   | none=>rfl
   | some b =>
    rcases zii _ _ _ (qAM q) with z|z
    ·simp at z
    ·have h1:=c.names _ hx
     have h2:=c.names _ z
     rw [h1] at h2
     cases h2
  rw [q]
  obtain ⟨d,hd⟩:=zvl (cells:=X.env.cells) (acc:=[]) hx
  obtain ⟨d',hd'⟩:=zny hd
  have:=(clm x d' (qAM hd')).2
  rw [e] at this
  cases this
  exact hd'
 have below:∀ b o,s.heap.get? b=some o→b<s.heap.objs.size:=fun b o e=>qU e
 have cold:∀ x a,X.env.cells.lookup x=some a→a<s.heap.objs.size:=fun x a e=>let ⟨v,q⟩:=I.cell x a e;q.lt
 refine ⟨⟨I.ok.mod,c.kind,I.ok.glob,I.ok.blt,qO _,?inj,?has,?cab,I.ok.hd,I.ok.frames,.inl rfl,?exf,I.bs,qAW I.ok.bsz I.sz,?noex,?exfs,I.stack,I.stkFree⟩,
  rfl,I.bare,Un.kept keep,⟨_,ns,?loc⟩,?cell,I.hok.fresh (qO _),?freeC,?pin,I.hok.kept keep,?len⟩
 case inj =>
  intro x y a h1 h2
  rcases look x a h1 with ⟨m1,k1⟩|⟨k1,e1⟩<;>rcases look y a h2 with ⟨m2,k2⟩|⟨k2,e2⟩
  ·exact name_of_addr apart m1 m2
  ·exact absurd (qt (cold y a e2) (qB7 (cells x a m1).2)) (qA4 _)
  ·exact absurd (qt (cold x a e1) (qB7 (cells y a m2).2)) (qA4 _)
  ·exact I.ok.inj x y a e1 e2
 case has =>
  intro x hx
  have hx':(∃ k,scope.names.lookup x=some k∧(k=.cell∨k=.free)):=by
   rcases hx with hx|hx
   ·obtain ⟨k,e,q⟩:=zhq (env:=X.env) (names:=scope.names) hx
    rcases q with q|⟨q,_⟩
    ·exact ⟨k,e,.inl q.symm⟩
    ·exact ⟨k,e,.inr q⟩
   ·obtain ⟨k,e,q⟩:=zhq (env:=X.env) (names:=scope.names) hx
    rcases q with q|⟨q,_⟩
    ·exact ⟨k,e,.inr q.symm⟩
    ·exact ⟨k,e,.inr q⟩
  obtain ⟨k,e,q⟩:=hx'
  show ∃ a,(cellsFrom (s.heap.objs.size+1) scope.names []++clos X.env.cells scope.names []).lookup x=some a
  rcases q with rfl|rfl
  ·obtain ⟨a,ha⟩:=zvf (n:=s.heap.objs.size+1) e
   exact ⟨a,by rw [zme,ha];rfl⟩
  ·obtain ⟨a,ha⟩:=found _ (qAM e) rfl
   exact ⟨a,lookF x a (qAM e) ha⟩
 case cab =>
  intro x a hx e
  have hx:own.contains x=true:=hx
  have hx':x∈own:=by simpa using hx
  rcases look x a e with ⟨m1,_⟩|⟨k1,_⟩
  ·have:=(cells x a m1).2
   show s.heap.objs.size≤a
   omega
  ·have h1:=c.names _ k1
   rcases c.own x hx' with h2|h2
   ·rw [h1] at h2;cases h2
   ·rw [h1] at h2;cases h2
 case exf =>
  intro b hb
  obtain ⟨o,e,d⟩:=ho b hb
  refine ⟨qx (below b o e),fun x a q z=>?_⟩
  subst z
  rcases look x a q with ⟨m1,_⟩|⟨k1,e1⟩
  ·exact absurd (qt (below a o e) (qB7 (cells x a m1).2)) (qA4 _)
  ·obtain ⟨v,o',e',d'⟩:=I.cell x a e1
   rw [e] at e'
   cases e'
   exact d v d'
 case noex =>
  intro b o e hb
  rcases (hf b hb).2.2.2.1 with z|z
  ·exact I.ok.noex b o e z
  ·exact absurd (qt (qt (qU e) I.ok.bsz) z) (qA4 _)
 case exfs =>
  intro b hb z
  rcases qe.mp (I.stkSub b z) with q|q
  ·exact (hf b hb).2.1 q
  ·exact (hf b hb).2.2.1 q
 case loc =>
  intro i x v h1 h2 h3
  have h1:N'[i]?=some x:=h1
  rw [c.nm] at h1
  unfold tau at h2
  by_cases hi:i<own.length
  ·rw [qAN (by simpa using hi),qR] at h2
   cases q:own[i]? with
   | none=>rw [q] at h2;cases h2
   | some z=>rw [q] at h2;cases h2
  ·rw [qAR (by simpa using hi),qR,qC] at h2
   rw [qAR (by simpa using hi),qR] at h1
   cases q:fr[i - own.length]? with
   | none=>rw [q] at h2;cases h2
   | some j =>
    rw [q] at h1 h2
    have e1:X.N.getD j Str.empty=x:=qr h1
    have e2:σ.getD j none=some v:=qr h2
    obtain ⟨hj,hfree⟩:=c.fr j (qAy q)
    rw [e1] at hfree
    have hNj:X.N[j]?=some x:=by
     rw [← e1,qAE,qE hj];rfl
    have hσj:σ[j]?=some (some v):=by
     rw [qAE] at e2
     cases z:σ[j]? with
     | none=>rw [z] at e2;cases e2
     | some w=>rw [z] at e2;rw [show w=some v from e2]
    have hmem:(x,NameKind.free)∈scope.names:=qAM hfree
    have hup:=c.up _ hmem rfl
    obtain ⟨m,hn,hl⟩:=I.loc
    obtain ⟨u,ru,lk⟩:=hl j x v hNj hσj (by rcases hup with z|z;exact .inr (.inl z);exact .inr (.inr z))
    refine ⟨u,ru,.inr ⟨?_,?_⟩⟩
    ·rcases zla (env:=X.env) (names:=scope.names) hfree with z|z
     ·exact .inr z
     ·exact .inl z
    ·rcases lk with ⟨k1,_⟩|⟨_,a,ha,hc⟩
     ·rcases hup with z|z
      ·rw [show X.env.kindOf x=some .cell from z] at k1;cases k1
      ·rw [show X.env.kindOf x=some .free from z] at k1;cases k1
     ·exact ⟨a,lookF x a hmem ha,hc.keeps keep⟩
 case cell =>
  intro x a e
  rcases look x a e with ⟨m1,_⟩|⟨k1,e1⟩
  ·exact ⟨_,(cells x a m1).1⟩
  ·obtain ⟨v,q⟩:=I.cell x a e1
   exact ⟨v,q.keeps keep⟩
 case freeC =>
  intro x a e
  rcases look x a e with ⟨m1,_⟩|⟨k1,e1⟩
  ·exact I.hok.fresh (by have:=(cells x a m1).2;omega)
  ·exact I.freeC x a e1
 case pin=>intro p hp;exact absurd (show p∈([]:List (Addr×Obj)) from hp) (by simp)
 case len =>
  show (tau own fr σ).length=N'.length
  rw [c.nm];unfold tau;simp
end
noncomputable abbrev TM:=St→Hp→(St→Hp→Prop)→Prop
noncomputable def PM (X:Cx) (act:Sem Unit) (t:TM):Prop :=
 ∀ (pins:List (Addr×Obj)) (s:Shared) (σ:St) (H:Hp) (Q:St→Hp→Prop),Inv X pins σ H s→t σ H Q→wpAny (model X.prog X.w) X.A act (fun _ s'=>∃ σ' H',Inv X pins σ' H' s'∧Q σ' H') X.xe s
noncomputable def PF (X:Cx) (ifs:List Expr) (t:TT):Prop :=
 ∀ (pins:List (Addr×Obj)) (s:Shared) (σ:St) (H:Hp) (Q:Bool→Hp→Prop),Inv X pins σ H s→t σ H Q →
  wpAny (model X.prog X.w) X.A (forIn ifs true fun c r=>if r=true then do let ok ← isTrue c X.env (eval c X.env);pure (ForInStep.yield ok) else pure (ForInStep.yield r)) (TP X pins σ Q) X.xe s
noncomputable def tAll:TT:=fun _ H Q=>Q true H
section
variable {X:Cx}
theorem zasw:PF X [] tAll:=fun _ s σ H Q I h=>wpAny_tests_nil ⟨H,I,h⟩
theorem zasx {c:Expr} {t:TT} (h:PT X c t):PF X [c] t:=fun pins s σ H Q I q=>wpAny_tests_one (h pins s σ H Q I q)
noncomputable def zaey (p:Addr) (te:TE):TM:=fun σ H Q=>te σ H fun v H1=>∃ ys,H1 p=some (.lst ys)∧ys.length<qj∧Q σ (upd H1 p (.lst (ys++[v])))
theorem zaat {elt:Expr} {te:TE} {p:Addr} (h:PE X elt te):PM X (do let _ ← call (.builtin "list.append") [.ref p,← eval elt X.env]) (zaey p te):=by
 intro pins s σ H Q I q
 refine qF (thn (h pins s σ H _ I q) fun u s1 ⟨v,H1,I1,r,ys,hp,hz,q1⟩=>?_)
 refine qF (thn (zcy pins s1 σ H1 (.ref p) [v] (.ref p) [u] (fun _ H2=>Q σ H2) I1 rfl (.cons r .nil) ⟨p,ys,v,rfl,rfl,hp,hz,q1⟩) fun _ s2 ⟨_,H2,I2,_,q2⟩=>?_)
 exact qd ⟨σ,H2,I2,q2⟩
noncomputable def zali (J:It) (g:TG) (tt:TT) (tm:TM):TM:=fun σ H Q=>∃ W:Nat→Nat→St→Hp→Prop,(∃ m,W 0 m σ H)∧∀ i m σ H,W i m σ H →
 (J.stop i H∧Q σ H)∨(J.go i H∧∃ N:St→Hp→Prop,(∀ σ' H',N σ' H'→∃ m',m'<m∧W (i+1) m' σ' H')∧∀ x H',J.yld i H x H'→g x σ H' fun σ2 H2=>tt σ2 H2 fun b H3=>if b=true then tm σ2 H3 N else N σ2 H3)
theorem zrn {elt0:Expr} {gens:List Comprehension} {scope:Scope} {cpos:Pos} {depth:Nat} {target:Expr} {ifs:List Expr} {emit:Sem Unit} {acc:Value} {ip:Pos} {it:Addr} {fp:List Addr} {tn:Nat→Heap→Prop} {J:It} {g:TG} {tt:TT} {tm:TM} {pins:List (Addr×Obj)} {σ:St} {H:Hp} {s:Shared} {Q:St→Hp→Prop}
  (hx:X.xe=fun _ _=>False) (hc:X.calm=true)
  (eq:compTurn (.ListComp elt0 gens scope cpos) depth (.ref it) acc X.env=(do
   standAt ip
   match ← pyNext (.ref it) with
   | none=>pure (.done .next)
   | some v =>
    letOwnedTupleGo target (.ref it) v
    assign target X.env v
    let mut ok:=true
    for c in ifs do
     if ok then ok ← isTrue c X.env (eval c X.env)
    if ok then emit
    again (.compLoop (.ListComp elt0 gens scope cpos) depth (.ref it) acc X.env)))
  (T:Turn X.prog X.w X.K target J fp it tn) (hg:PG X target g) (ht:PF X ifs tt) (hm:PM X emit tm)
  (I:Inv X pins σ H s) (st:tn 0 s.heap) (hf:∀ b∈fp,FpOk X pins H b) (h:zali J g tt tm σ H Q) :
  codeAny (model X.prog X.w) X.A (.compLoop (.ListComp elt0 gens scope cpos) depth (.ref it) acc X.env) (fun r s'=>r=.ok .next∧∃ σ' H',Inv X pins σ' H' s'∧Q σ' H') s:=by
 obtain ⟨W,⟨m0,w0⟩,turn⟩:=h
 have stat:∀ {H':Hp},(∀ b∈fp,H' b=none)→∀ b∈fp,FpOk X pins H' b:=fun hn b hb=>⟨hn b hb,(hf b hb).2⟩
 have xe:∀ {α:Type} {m:Sem α} {Q':α→Shared→Prop} {E:Value→Shared→Prop} {s:Shared},wpAny (model X.prog X.w) X.A m Q' X.xe s→wpAny (model X.prog X.w) X.A m Q' E s:=fun q=>qBl q (fun _ _ z=>z) fun _ _ z=>by rw [hx] at z;exact z.elim
 refine codeAny_loop rfl (fun n s'=>∃ i σ' H',Inv X pins σ' H' s'∧tn i s'.heap∧(∀ b∈fp,H' b=none)∧W i n σ' H') ?_ m0 ⟨0,σ,H,I,st,fun b hb=>(hf b hb).1,w0⟩
 rintro n s3 ⟨i,σ3,H3,I3,st3,fr3,w3⟩
 show wpAny _ X.A ((compTurn (.ListComp elt0 gens scope cpos) depth (.ref it) acc X.env).onRaise (fun x=>do noteFrame x X.env;theTreesLotGoes x)) _ _ s3
 refine wpAny_noted ?_
 rw [eq]
 refine qF (qBn (qF ?_))
 rcases turn i n σ3 H3 w3 with ⟨stop,qn⟩|⟨go,N,hN,step⟩
 ·refine thn (T.done X rfl rfl rfl hc i pins s3 σ3 H3 _ I3 (stat fr3) st3 stop) fun r s4 ⟨hr,I4⟩=>?_
  subst hr
  exact qd ⟨rfl,σ3,H3,I4,qn⟩
 ·refine thn (T.item X rfl rfl rfl hc i pins s3 σ3 H3 _ I3 (stat fr3) st3 go) fun r s4 ⟨u,hr,h4⟩=>?_
  subst hr
  refine qF (thn h4 fun _ s5 ⟨x,H5,I5,r5,y5,st5,fr5⟩=>?_)
  have I5':=I5.pinned (stat fr5) (T.obj _ _ st5)
  refine qF (xe (thn (hg _ s5 σ3 H5 x u _ I5' r5 (step x H5 y5)) fun _ s6 ⟨σ6,H6,I6,q6⟩=>?_))
  have again:∀ {σ7:St} {H7:Hp} {s7:Shared},Inv X (pins++zxh fp s5.heap) σ7 H7 s7→N σ7 H7→∃ m,m<n∧∃ i σ' H',Inv X pins σ' H' s7∧tn i s7.heap∧(∀ b∈fp,H' b=none)∧W i m σ' H':=fun {σ7 H7 s7} I7 n7=>by
   obtain ⟨m',hm,w7⟩:=hN σ7 H7 n7
   refine ⟨m',hm,i+1,σ7,H7,I7.unpinned,T.keep _ _ _ st5 fun b hb o e=>(I7.pin (b,o) (qm _ (qm _ (zmd hb e)))).1,fun b hb=>?_,w7⟩
   obtain ⟨o,e,d⟩:=T.obj _ _ st5 b hb
   exact (I7.pin (b,o) (qm _ (qm _ (zmd hb e)))).2.1
  refine qF (xe (thn (ht _ s6 σ6 H6 _ I6 q6) fun ok s7 ⟨H7,I7,q7⟩=>?_))
  cases ok with
  | false =>
   rw [if_neg (by decide)] at q7
   exact qd ⟨rfl,again I7 q7⟩
  | true =>
   rw [if_pos rfl] at q7
   refine qF (xe (thn (hm _ s7 σ6 H7 _ I7 q7) fun _ s8 ⟨σ8,H8,I8,q8⟩=>?_))
   exact qd ⟨rfl,again I8 q8⟩
end
section
variable {X:Cx} {pins:List (Addr×Obj)} {σ:St} {H:Hp} {s:Shared} {scope:Scope} {N' own:List Str} {fr:List Nat}
theorem zuf {elt0 target iter:Expr} {ifs:List Expr} {rest:List Comprehension} {cpos:Pos} {g:TG} {tt:TT} {tm:Addr→TM} {emit:Value→Env→Sem Unit} {it:Addr} {fp:List Addr} {tn:Nat→Heap→Prop} {J:It} {Q:VK} {E:Value→Shared→Prop} {RR:Value→Addr→Result→Shared→Prop}
  (c:CompOk X scope N' own fr) (hc:X.calm=true)
  (eq:∀ it acc env,compTurn (.ListComp elt0 (⟨target,iter,ifs,0⟩::rest) scope cpos) 0 it acc env=(do
   standAt iter.pos
   match ← pyNext it with
   | none=>pure (.done .next)
   | some v =>
    letOwnedTupleGo target it v
    assign target env v
    let mut ok:=true
    for c in ifs do
     if ok then ok ← isTrue c env (eval c env)
    if ok then emit acc env
    again (.compLoop (.ListComp elt0 (⟨target,iter,ifs,0⟩::rest) scope cpos) 0 it acc env)))
  (T:Turn X.prog X.w X.K target J fp it tn)
  (hb:∀ (cl:List (Str×Addr)) (C:Addr) (s:Shared) (H:Hp) (fp:List Addr) (p:Addr),PG (cxComp X scope N' own cl C s H fp) target g∧PF (cxComp X scope N' own cl C s H fp) ifs tt∧PM (cxComp X scope N' own cl C s H fp) (emit (.ref p) (compEnvC scope cl C X.env)) (tm p))
  (I:Inv X pins σ H s) (st:tn 0 s.heap) (hf:∀ b∈fp,FpOk X pins H b)
  (h:∀ p,H p=none→zali J g tt (tm p) (tau own fr σ) (upd H p (.lst [])) (fun _ H'=>Q (.ref p) H'))
  (hRR:∀ (p C:Addr) (m:Str→Option Value) (H':Hp) (s':Shared),Inv X pins σ H' s'→s'.heap.Ns C m→FpOk X pins H' C→Q (.ref p) H'→RR (.ref p) C (.ok .next) s') :
  wpAny (model X.prog X.w) X.A (newList []) (fun acc s₃=>wpAny (model X.prog X.w) X.A (newFunctionEnv scope X.env.globals (clos X.env.cells scope.names []) [] X.env.qual none .none (some X.env)) (fun cenv s₄ =>
   codeAny (model X.prog X.w) X.A (.compStart (.ListComp elt0 (⟨target,iter,ifs,0⟩::rest) scope cpos) 0 (.ref it) acc {cenv with scope:=relabel scope X.env}) (RR acc cenv.locals) s₄) E s₃) E s:=by
 refine qCM ?_
 have I3:Inv X pins σ (upd H s.heap.objs.size (.lst [])) {s with heap:=s.heap.push {cls:=.type "list",dict:=none,data:=.seq ([]:List Value).toArray}}:=I.lnew (t':=s.toks) .nil (qAd _)
 have hn0:H s.heap.objs.size=none:=I.hok.fresh (qO _)
 generalize e3:({s with heap:=s.heap.push {cls:=.type "list",dict:=none,data:=.seq ([]:List Value).toArray}}:Shared)=s3 at I3 ⊢
 have k3:∀ b o,s.heap.get? b=some o→s3.heap.get? b=some o:=fun b o e=>by rw [← e3];exact qH _ e
 have hne:∀ b∈fp,b≠s.heap.objs.size:=fun b hb=>by
  obtain ⟨o,e,_⟩:=T.obj _ _ st b hb
  exact qx (qU e)
 have hf3:∀ b∈fp,FpOk X pins (upd H s.heap.objs.size (.lst [])) b:=fun b hb=>⟨by rw [zcj (hne b hb)];exact (hf b hb).1,(hf b hb).2⟩
 have st3:tn 0 s3.heap:=T.keep _ _ _ st fun b _ o e=>k3 b o e
 refine zaex fun h' keep ns cells apart=>?_
 have I4:=zalh c I3 hf3 (T.obj _ _ st3) keep ns cells apart
 have st4:tn 0 h':=T.keep _ _ _ st3 fun b _ o e=>keep b o e
 obtain ⟨hg,ht,hm⟩:=hb (cellsFrom (s3.heap.objs.size+1) scope.names []++clos X.env.cells scope.names []) s3.heap.objs.size s3 (upd H s.heap.objs.size (.lst [])) fp s.heap.objs.size
 have hf4:∀ b∈fp,FpOk (cxComp X scope N' own (cellsFrom (s3.heap.objs.size+1) scope.names []++clos X.env.cells scope.names []) s3.heap.objs.size s3 (upd H s.heap.objs.size (.lst [])) fp) [] (upd H s.heap.objs.size (.lst [])) b:=fun b hb =>
  ⟨(hf3 b hb).1,(I4.ok.exf b hb).1,I4.ok.exfs b hb,.inl hb,(I4.ok.exf b hb).2,fun p hp=>absurd (show p∈([]:List (Addr×Obj)) from hp) (by simp)⟩
 have loop:codeAny (model X.prog X.w) X.A (.compLoop (.ListComp elt0 (⟨target,iter,ifs,0⟩::rest) scope cpos) 0 (.ref it) (.ref s.heap.objs.size) (compEnvC scope (cellsFrom (s3.heap.objs.size+1) scope.names []++clos X.env.cells scope.names []) s3.heap.objs.size X.env)) (RR (.ref s.heap.objs.size) s3.heap.objs.size) {s3 with heap:=h'}:=by
  refine qBy (zrn (X:=cxComp X scope N' own (cellsFrom (s3.heap.objs.size+1) scope.names []++clos X.env.cells scope.names []) s3.heap.objs.size s3 (upd H s.heap.objs.size (.lst [])) fp) (pins:=[]) rfl hc (eq _ _ _) T hg ht hm I4 st4 hf4 (h _ hn0)) fun r s5 hr=>?_
  obtain ⟨rfl,σ5,H5,I5,q5⟩:=hr
  obtain ⟨m,hn,_⟩:=id I5.loc
  have u5:Un (frs X.stack) fp (upd H s.heap.objs.size (.lst [])) H5 s3.heap s5.heap:=I5.base
  have hok5:HOk X.prog X.w H5 s5.heap:=I5.hok
  have os5:s5.os=s3.os:=I5.os
  have bare5:=I5.bare
  have free5:H5 s3.heap.objs.size=none:=I5.free
  have hn:s5.heap.Ns s3.heap.objs.size m:=hn
  clear I5
  obtain ⟨hh,gg,dd,tk,os'⟩:=s5
  obtain rfl:os'=s3.os:=os5
  have I6:Inv X pins σ H5 {s3 with heap:=hh,gens:=gg,drawn:=dd,toks:=tk}:=I3.call (ch:=fp) u5 hok5 bare5 fun b hb=>⟨(hf3 b hb).2.2.2.1,(hf3 b hb).2.1,(hf3 b hb).2.2.2.2.1,(hf3 b hb).2.2.2.2.2⟩
  exact hRR _ _ m H5 _ I6 hn (I3.fpOk (qO _) free5) q5
 exact codeAny_compStart_list loop (T.self _ 0 _ _ _ st4 loop)
noncomputable def zalj (wi:TI) (g:TG) (tt:TT) (tm:Addr→TM) (own:List Str) (fr:List Nat):TE:=fun σ H Q=>wi σ H fun J H1=>∀ p,H1 p=none→zali J g tt (tm p) (tau own fr σ) (upd H1 p (.lst [])) (fun _ H'=>Q (.ref p) H')
theorem zacw {elt0 target iter:Expr} {ifs:List Expr} {rest:List Comprehension} {cpos:Pos} {wi:TI} {g:TG} {tt:TT} {tm:Addr→TM} {emit:Value→Env→Sem Unit} (c:CompOk X scope N' own fr) (hc:X.calm=true)
  (eq:∀ it acc env,compTurn (.ListComp elt0 (⟨target,iter,ifs,0⟩::rest) scope cpos) 0 it acc env=(do
   standAt iter.pos
   match ← pyNext it with
   | none=>pure (.done .next)
   | some v =>
    letOwnedTupleGo target it v
    assign target env v
    let mut ok:=true
    for c in ifs do
     if ok then ok ← isTrue c env (eval c env)
    if ok then emit acc env
    again (.compLoop (.ListComp elt0 (⟨target,iter,ifs,0⟩::rest) scope cpos) 0 it acc env)))
  (hi:PI X target iter wi)
  (hb:∀ (cl:List (Str×Addr)) (C:Addr) (s:Shared) (H:Hp) (fp:List Addr) (p:Addr),PG (cxComp X scope N' own cl C s H fp) target g∧PF (cxComp X scope N' own cl C s H fp) ifs tt∧PM (cxComp X scope N' own cl C s H fp) (emit (.ref p) (compEnvC scope cl C X.env)) (tm p))
  (hs:∀ x,foldedSetIterable iter X.env x=pure x:=by intro _;rfl) :
  PE X (.ListComp elt0 (⟨target,iter,ifs,0⟩::rest) scope cpos) (zalj wi g tt tm own fr):=by
 intro pins s σ H Q I h
 rw [eval_ListComp]
 refine qCy (use:=none) rfl hs (znz (zow c I.ok)) c.kind (fun y hy e=>(c.names y hy).trans (by rw [e])) ?_
 refine thn (hi pins s σ H _ I h) fun v s1 h1=>thn h1 fun itv s2 h2=>?_
 obtain ⟨it,fp,tn,J,H2,e,I2,T,st2,f2,q⟩:=h2
 subst e
 refine zuf (Q:=Q) c hc eq T hb I2 st2 f2 q fun p C m H' s' I' hn hC q'=>?_
 exact ⟨m,hn,fun h' sb=>⟨.ref p,H',I'.turned (t':=s'.toks) (fun b o hb e=>(sb.2 b hb).trans e) hC.1 hC.2.1 hC.2.2.2.1 hC.2.2.2.2.1 hC.2.2.2.2.2,rfl,q'⟩⟩
noncomputable def zasy (wi:TI) (g:TG) (tt:TT) (tm:Addr→TM) (own:List Str) (fr:List Nat) (i:Nat):TS:=fun D σ H=>zalj wi g tt tm own fr σ H fun v H'=>D.nx (σ.set i (some v)) H'
theorem zalk {elt0 target iter:Expr} {ifs:List Expr} {rest:List Comprehension} {cpos spos py:Pos} {wi:TI} {g:TG} {tt:TT} {tm:Addr→TM} {emit:Value→Env→Sem Unit} {i:Nat} {y:Str} (c:CompOk X scope N' own fr) (hc:X.calm=true)
  (eq:∀ it acc env,compTurn (.ListComp elt0 (⟨target,iter,ifs,0⟩::rest) scope cpos) 0 it acc env=(do
   standAt iter.pos
   match ← pyNext it with
   | none=>pure (.done .next)
   | some v =>
    letOwnedTupleGo target it v
    assign target env v
    let mut ok:=true
    for c in ifs do
     if ok then ok ← isTrue c env (eval c env)
    if ok then emit acc env
    again (.compLoop (.ListComp elt0 (⟨target,iter,ifs,0⟩::rest) scope cpos) 0 it acc env)))
  (hi:PI X target iter wi)
  (hb:∀ (cl:List (Str×Addr)) (C:Addr) (s:Shared) (H:Hp) (fp:List Addr) (p:Addr),PG (cxComp X scope N' own cl C s H fp) target g∧PF (cxComp X scope N' own cl C s H fp) ifs tt∧PM (cxComp X scope N' own cl C s H fp) (emit (.ref p) (compEnvC scope cl C X.env)) (tm p))
  (hsw:swapsWith (.ListComp elt0 (⟨target,iter,ifs,0⟩::rest) scope cpos) (some (.Name y py)) spos.line X.env=pure true)
  (hN:X.N.Nodup) (hy:X.N[i]?=some y) (hl:X.env.scope.names.lookup y=some .local)
  (hs:∀ x,foldedSetIterable iter X.env x=pure x:=by intro _;rfl) :
  PS X (.Assign [.Name y py] (.ListComp elt0 (⟨target,iter,ifs,0⟩::rest) scope cpos) spos) (zasy wi g tt tm own fr i):=by
 intro pins s σ H D I h
 rw [exec_Assign_Name_used _ _ _ _ hsw]
 refine qF (qBn (qF ?_))
 show wpAny _ X.A (do let _ ← comprehension (.ListComp elt0 (⟨target,iter,ifs,0⟩::rest) scope cpos) scope X.env _ (newList []) false (eval iter X.env) (some (assign (.Name y py) X.env))) _ _ s
 refine qF (thn (qCy (use:=some (assign (.Name y py) X.env)) (Q:=fun _ s'=>SP X pins D .next s') rfl hs (znz (zow c I.ok)) c.kind (fun y hy e=>(c.names y hy).trans (by rw [e])) ?_) fun _ s' q=>qd (qd q))
 refine thn (hi pins s σ H _ I h) fun v s1 h1=>thn h1 fun itv s2 h2=>?_
 obtain ⟨it,fp,tn,J,H2,e,I2,T,st2,f2,q⟩:=h2
 subst e
 refine zuf (Q:=fun v H'=>D.nx (σ.set i (some v)) H') c hc eq T hb I2 st2 f2 q fun p C m H' s' I' hn hC q'=>?_
 show wpAny _ X.A (assign (.Name y py) X.env (.ref p)) _ _ _
 refine wpAny_assign_Name (zxe I' hN hy (.inl hl) (v:=.ref p) rfl (fun s'' I'' ⟨a,sb,ha⟩=>?_) (.inr hl))
 have hCa:C≠a:=by
  rcases ha with rfl|ha
  ·exact hC.2.1
  ·exact qA2 (hC.2.2.2.2.1 y a ha)
 refine ⟨m,hn.sameBut sb hCa,fun h' sb'=>⟨σ.set i (some (.ref p)),H',I''.turned (t':=s''.toks) (fun b o hb e=>(sb'.2 b hb).trans e) hC.1 hC.2.1 hC.2.2.2.1 hC.2.2.2.2.1 hC.2.2.2.2.2,q'⟩⟩
end
section
variable {X:Cx}
section
variable {scope:Scope} {N' own:List Str} {fr:List Nat} {elt target iter:Expr} {ifs:List Expr} {cpos:Pos} {wi:TI} {g:TG} {tt:TT} {te:TE}
noncomputable def tComp1 (wi:TI) (g:TG) (tt:TT) (te:TE) (own:List Str) (fr:List Nat):TE:=zalj wi g tt (fun p=>zaey p te) own fr
theorem zall (c:CompOk X scope N' own fr) (hc:X.calm=true) (hi:PI X target iter wi)
  (hb:∀ (cl:List (Str×Addr)) (C:Addr) (s:Shared) (H:Hp) (fp:List Addr),PG (cxComp X scope N' own cl C s H fp) target g∧PF (cxComp X scope N' own cl C s H fp) ifs tt∧PE (cxComp X scope N' own cl C s H fp) elt te)
  (hs:∀ x,foldedSetIterable iter X.env x=pure x:=by intro _;rfl):PE X (.ListComp elt [⟨target,iter,ifs,0⟩] scope cpos) (tComp1 wi g tt te own fr) :=
 zacw (emit:=fun acc env=>do let _ ← call (.builtin "list.append") [acc,← eval elt env]) c hc (fun _ _ _=>rfl) hi
  (fun cl C s H fp p=>⟨(hb cl C s H fp).1,(hb cl C s H fp).2.1,zaat (hb cl C s H fp).2.2⟩) hs
noncomputable def tAsgC1 (wi:TI) (g:TG) (tt:TT) (te:TE) (own:List Str) (fr:List Nat) (i:Nat):TS:=zasy wi g tt (fun p=>zaey p te) own fr i
theorem zalm {spos py:Pos} {i:Nat} {y:Str} (c:CompOk X scope N' own fr) (hc:X.calm=true) (hi:PI X target iter wi)
  (hb:∀ (cl:List (Str×Addr)) (C:Addr) (s:Shared) (H:Hp) (fp:List Addr),PG (cxComp X scope N' own cl C s H fp) target g∧PF (cxComp X scope N' own cl C s H fp) ifs tt∧PE (cxComp X scope N' own cl C s H fp) elt te)
  (hsw:swapsWith (.ListComp elt [⟨target,iter,ifs,0⟩] scope cpos) (some (.Name y py)) spos.line X.env=pure true)
  (hN:X.N.Nodup) (hy:X.N[i]?=some y) (hl:X.env.scope.names.lookup y=some .local)
  (hs:∀ x,foldedSetIterable iter X.env x=pure x:=by intro _;rfl):PS X (.Assign [.Name y py] (.ListComp elt [⟨target,iter,ifs,0⟩] scope cpos) spos) (tAsgC1 wi g tt te own fr i) :=
 zalk (emit:=fun acc env=>do let _ ← call (.builtin "list.append") [acc,← eval elt env]) c hc (fun _ _ _=>rfl) hi
  (fun cl C s H fp p=>⟨(hb cl C s H fp).1,(hb cl C s H fp).2.1,zaat (hb cl C s H fp).2.2⟩) hsw hN hy hl hs
end
noncomputable def zauw:R2:=fun x y H Q=>∃ z n,x=.str z∧y=.int n∧z.length≤1000∧-1000≤n∧n≤1000∧Q (.str (Txt.mul z n)) H
theorem zapr:OpR X (binaryOp .Mult) zauw:=by
 intro pins s σ H x y v u Q I rx ry h
 obtain ⟨z,n,rfl,rfl,h1,h2,h3,q⟩:=h
 obtain ⟨t,rfl⟩:=rx
 obtain ⟨t',rfl⟩:=ry
 exact SB.mul (mulOk_of 1000 1000 h1 (by omega) (by omega) (by decide) (by decide)) fun t' k=>⟨.str (Txt.mul z n),H,I.tok _,⟨_,rfl⟩,q⟩
noncomputable def rSlS:V→Option Int→Option Int→Hp→VK→Prop:=fun x lo hi H Q=>∃ z,x=.str z∧z.length≤qj∧Q (.str (Txt.slice z lo hi)) H
theorem zasz:SlR X rSlS:=by
 intro pins s σ H x v vl vu lo hi sl Q I rx hs pl pu h
 obtain ⟨z,rfl,hz,q⟩:=h
 obtain ⟨t,rfl⟩:=rx
 refine ⟨"str",_,F.slot_str_getitem.lookup,qBm _ _ _,?_⟩
 have fin:∀ t' k,EP X pins σ Q (.str (Txt.slice z lo hi) t') {s with toks:=k}:=fun t' k=>⟨.str (Txt.slice z lo hi),H,I.tok _,⟨_,rfl⟩,q⟩
 have fz:(Txt.slice z lo hi).length≤qj:=qAW (Txt.slice_le z _ _) hz
 cases pl with
 | none=>cases pu with
  | none=>exact qBP (l:=none) (u:=none) (st:=none) hs rfl (qBx ⟨fz,fin⟩)
  | int j tj=>exact qBP (l:=none) (u:=some (j,tj)) (st:=none) hs rfl (qBx ⟨fz,fin⟩)
 | int i ti=>cases pu with
  | none=>exact qBP (l:=some (i,ti)) (u:=none) (st:=none) hs rfl (qBx ⟨fz,fin⟩)
  | int j tj=>exact qBP (l:=some (i,ti)) (u:=some (j,tj)) (st:=none) hs rfl (qBx ⟨fz,fin⟩)
noncomputable def zagz:V→List V→Hp→VK→Prop:=fun x vs H Q=>∃ d o kvs more,x=.ref d∧vs=[.ref o]∧d≠o∧H d=some (.dK kvs)∧H o=some (.dK more)∧kvs.length+more.length≤qj∧Q .non (upd H d (.dK (znx kvs more)))
theorem zxu:MtM X "dict.update" zagz:=by
 intro pins s σ H x vs v us Q I rx rv h
 obtain ⟨d,o,kvs,more,rfl,rfl,hne,hd,ho,hz,q⟩:=h
 cases rx
 obtain ⟨u,rfl,ru⟩:=rv.one
 cases ru
 obtain ⟨z1,s1,vs1,rel1,dd1⟩:=zald I.hok hd
 obtain ⟨z2,s2,vs2,rel2,dd2⟩:=zald I.hok ho
 refine call_meetsIn F.slot_dict_update dd1.typeIs F.entry_dict_update (F.args_dict_update_2 _ _) (meets_dict_update (zfj X.prog X.w) d o hne s2) ⟨vs1,vs2,dd1,dd2,?_,fun h' h1 h2 sb=>?_⟩
 ·rw [← rel1.length,← rel2.length];exact hz
 ·have he:∃ q,h'.get? d=some q:=by obtain ⟨ob,_,_,e,_⟩:=h1;exact ⟨ob,e⟩
  refine ⟨.non,_,zvi (t':=s.toks) I (by rw [hd];trivial) sb he (zagt (qAW (zkd more kvs) hz) s1 (rel2.merge rel1) h1),rfl,q⟩
theorem zaln {id:String} (hid:id = "isinstance"):CallR X (.builtin id) (fun xs H Q=>∃ x n t b,xs=[x,.ty n]∧TyOf X.K H x t∧PySem.W.kitOne X.K t (.type n)=some b∧Q (.bl b) H):=by
 subst hid
 intro pins s σ H xs us Q I r h
 obtain ⟨x,n,t,b,rfl,ty,e,q⟩:=h
 obtain ⟨u,w',rfl,rx,ry⟩:=zapc r
 cases ry
 exact zagj I rx ty e fun tk=>⟨.bl b,H,I.tok _,rfl,q⟩
end
section
variable {X:Cx}
end
mutual
def Rep (K:qB) (H:Hp):PyData→V→Prop
 | .none,v=>v=.non
 | .bool b,v=>v=.bl b
 | .int i,v=>v=.int i
 | .str x,v=>v=.str x
 | .list ds,v=>∃ a xs,v=.ref a∧SqL K H a xs∧Reps K H ds xs
 | .tuple ds,v=>∃ a xs,v=.ref a∧SqT K H a xs∧Reps K H ds xs
 | .dict _,_=>False
def Reps (K:qB) (H:Hp):List PyData→List V→Prop
 | [],xs=>xs=[]
 | d::ds,xs=>∃ v vs,xs=v::vs∧Rep K H d v∧Reps K H ds vs
end
mutual
theorem zgn {X:Cx} {pins:List (Addr×Obj)} {σ:St} {H:Hp} {s:Shared} (I:Inv X pins σ H s):∀ (d:PyData) {v:V} {u:Value},Rep X.K H d v→RelV v u→∃ as,Reads s.heap u d as
 | .none,v,u,h,r=>by unfold Rep at h;subst h;cases r;exact ⟨_,.none⟩
 | .bool b,v,u,h,r=>by unfold Rep at h;subst h;cases r;exact ⟨_,.bool b⟩
 | .int i,v,u,h,r=>by unfold Rep at h;subst h;obtain ⟨t,rfl⟩:=r;exact ⟨_,.int i t⟩
 | .str x,v,u,h,r=>by unfold Rep at h;subst h;obtain ⟨t,rfl⟩:=r;exact ⟨_,.str x t⟩
 | .list ds,v,u,h,r=>by
  unfold Rep at h
  obtain ⟨a,xs,rfl,hq,hr⟩:=h
  cases r
  obtain ⟨its,rv,p,hz⟩:=I.list hq
  obtain ⟨as,q⟩:=zox I ds hr rv
  obtain ⟨o,h1,h2,n,h3⟩:=p.isList
  exact ⟨_,reads_list_at h1 h2 h3 (by simpa using q)⟩
 | .tuple ds,v,u,h,r=>by
  unfold Rep at h
  obtain ⟨a,xs,rfl,hq,hr⟩:=h
  cases r
  obtain ⟨its,rv,p,hz⟩:=I.tuple hq
  obtain ⟨as,q⟩:=zox I ds hr rv
  obtain ⟨o,h1,h2,n,h3⟩:=p
  exact ⟨_,reads_tuple_at h1 h2 h3 (by simpa using q)⟩
 | .dict _,_,_,h,_=>by unfold Rep at h;exact h.elim
theorem zox {X:Cx} {pins:List (Addr×Obj)} {σ:St} {H:Hp} {s:Shared} (I:Inv X pins σ H s):∀ (ds:List PyData) {vs:List V} {us:List Value},Reps X.K H ds vs→Vals vs us→∃ as,ReadsAll s.heap us ds as
 | [],vs,us,h,r=>by unfold Reps at h;subst h;cases r;exact ⟨_,.nil⟩
 | d::ds,vs,us,h,r=>by
  unfold Reps at h
  obtain ⟨v,vs',rfl,h1,h2⟩:=h
  cases r with
  | cons r rr =>
   obtain ⟨as,q1⟩:=zgn I d h1 r
   obtain ⟨bs,q2⟩:=zox I ds h2 rr
   exact ⟨_,.cons q1 q2⟩
end
theorem SqT.same {K:qB} {H H':Hp} {a:Addr} {xs:List V} (h:Same H H') (q:SqT K H a xs):SqT K H' a xs:=by
 rcases q with (q|⟨o,q⟩)|q
 ·exact .inl (.inl (h _ _ q))
 ·exact .inl (.inr ⟨o,h _ _ q⟩)
 ·exact .inr q
section
variable {X:Cx}
noncomputable def rEqD (K:qB) (neg:Bool):R2:=fun x y H Q=>∃ d e,Rep K H d x∧Rep K H e y∧qI d=true∧qI e=true∧Q (.bl (if neg then !PyData.eqv d e else qG d e)) H
theorem zata (hu:X.A.units+64<cLine):OpR X (compareOp .Eq) (rEqD X.K false):=by
 intro pins s σ H x y v u Q I rx ry h
 obtain ⟨d,e,hd,he,sd,se,q⟩:=h
 obtain ⟨as,r1⟩:=zgn I d hd rx
 obtain ⟨bs,r2⟩:=zgn I e he ry
 exact eq_dataH r1 r2 sd se hu ⟨.bl (qG d e),H,I,rfl,q⟩
theorem zatb (hu:X.A.units+64<cLine):OpR X (compareOp .NotEq) (rEqD X.K true):=by
 intro pins s σ H x y v u Q I rx ry h
 obtain ⟨d,e,hd,he,sd,se,q⟩:=h
 obtain ⟨as,r1⟩:=zgn I d hd rx
 obtain ⟨bs,r2⟩:=zgn I e he ry
 exact ne_dataH r1 r2 sd se hu ⟨.bl (!PyData.eqv d e),H,I,rfl,q⟩
theorem zaha {bs:List Bool}:∀ {its:List Value},Vals (bs.map V.bl) its→its=bs.map Value.bool:=by
 induction bs with
 | nil=>intro its r;cases r;rfl
 | cons b bs ih =>
  intro its r
  cases r with
  | cons r rr=>cases r;rw [ih rr];rfl
theorem zahb (bs:List Bool):(List.range bs.length).any (fun i=>bs.getD i false)=bs.any id:=by
 rw [qAF,qAS,qAS]
 constructor
 ·rintro ⟨i,hi,h⟩
  have hi:=qAT.mp hi
  rw [qAE,qE hi] at h
  exact ⟨_,qAY hi,h⟩
 ·rintro ⟨b,hb,h⟩
  obtain ⟨i,hi,e⟩:=qBS hb
  exact ⟨i,qAT.mpr hi,by rw [qAE,qE hi,e];exact h⟩
theorem zahc (bs:List Bool):(List.range bs.length).all (fun i=>bs.getD i false)=bs.all id:=by
 rw [qAF,qAZ,qAZ]
 constructor
 ·intro h b hb
  obtain ⟨i,hi,e⟩:=qBS hb
  have q:=h i (qAT.mpr hi)
  rw [qAE,qE hi,e] at q
  exact q
 ·intro h i hi
  have hi:=qAT.mp hi
  have q:=h _ (qAY hi)
  rw [qAE,qE hi]
  exact q
noncomputable def rAny (K:qB) (f:List Bool→Bool):List V→Hp→VK→Prop:=fun xs H Q=>∃ p bs,xs=[.ref p]∧SqL K H p (bs.map V.bl)∧Q (.bl (f bs)) H
theorem zalo (hc:X.calm=true):CallR X (.builtin "any") (rAny X.K fun bs=>bs.any id):=by
 intro pins s σ H xs us Q I r h
 obtain ⟨p,bs,rfl,hq,q⟩:=h
 obtain ⟨u,rfl,ru⟩:=zaes r
 cases ru
 obtain ⟨its,rv,pl,hz⟩:=I.list hq
 cases zaha rv
 have hne:p≠s.heap.objs.size:=by obtain ⟨o,e,_⟩:=pl.isList;exact qx (qU e)
 refine call_any_walk (qAs pl.isList ⟨s.heap.objs.size,_,_,_,_,_,fun i=>bs.getD i false,rfl,Walks.list (A:=X.A.in1) (show X.A.in1.handled=none from I.ok.hd hc) _ p hne (bs.map Value.bool).toArray,⟨⟨_,qq _ rfl,rfl,rfl⟩,?_⟩,?_,?_⟩)
 ·obtain ⟨o,e,z⟩:=pl.isList
  exact ⟨o,qH _ e,z⟩
 ·intro i v s' Q' E' hv hQ
  have hv:(bs.map Value.bool)[i]?=some v:=by simpa using hv
  rw [qR] at hv
  cases e:bs[i]? with
  | none=>rw [e] at hv;cases hv
  | some b =>
   rw [e] at hv
   cases hv
   have z:bs.getD i false=b:=by rw [qAE,e];rfl
   have hQ:Q' (bs.getD i false) s':=hQ
   rw [z] at hQ
   exact qAf hQ
 ·intro h' tk hk
  refine ⟨.bl (bs.any id),H,?_,by rw [← zahb bs];simp;rfl,q⟩
  exact I.kept (t':=tk) fun b o e=>hk b o (by have:=qU e;simp;exact qx this) (qH _ e)
theorem zalp (hc:X.calm=true):CallR X (.builtin "all") (rAny X.K fun bs=>bs.all id):=by
 intro pins s σ H xs us Q I r h
 obtain ⟨p,bs,rfl,hq,q⟩:=h
 obtain ⟨u,rfl,ru⟩:=zaes r
 cases ru
 obtain ⟨its,rv,pl,hz⟩:=I.list hq
 cases zaha rv
 have hne:p≠s.heap.objs.size:=by obtain ⟨o,e,_⟩:=pl.isList;exact qx (qU e)
 refine call_all_walk (qAs pl.isList ⟨s.heap.objs.size,_,_,_,_,_,fun i=>bs.getD i false,rfl,Walks.list (A:=X.A.in1) (show X.A.in1.handled=none from I.ok.hd hc) _ p hne (bs.map Value.bool).toArray,⟨⟨_,qq _ rfl,rfl,rfl⟩,?_⟩,?_,?_⟩)
 ·obtain ⟨o,e,z⟩:=pl.isList
  exact ⟨o,qH _ e,z⟩
 ·intro i v s' Q' E' hv hQ
  have hv:(bs.map Value.bool)[i]?=some v:=by simpa using hv
  rw [qR] at hv
  cases e:bs[i]? with
  | none=>rw [e] at hv;cases hv
  | some b =>
   rw [e] at hv
   cases hv
   have z:bs.getD i false=b:=by rw [qAE,e];rfl
   have hQ:Q' (bs.getD i false) s':=hQ
   rw [z] at hQ
   exact qAf hQ
 ·intro h' tk hk
  refine ⟨.bl (bs.all id),H,?_,by rw [← zahc bs];simp;rfl,q⟩
  exact I.kept (t':=tk) fun b o e=>hk b o (by have:=qU e;simp;exact qx this) (qH _ e)
end
noncomputable def zahd (o:Option NameKind):Bool:=o==some .cell||o==some .free
noncomputable def zahe (sc:Scope) (N:List Str) (scope:Scope) (N' own:List Str) (fr:List Nat):Bool :=
 (scope.kind==.function)&&(scope.names.all fun y=>scope.names.lookup y.1==some y.2)&&(scope.names.all fun y=>!(y.2==.free)||zahd (sc.names.lookup y.1)) &&
 (N'==own++fr.map fun j=>N.getD j Str.empty)&&(fr.all fun j=>decide (j<N.length)&&(scope.names.lookup (N.getD j Str.empty)==some .free)) &&
 (own.all fun x=>scope.names.lookup x==some .local||scope.names.lookup x==some .cell)
section
variable {X:Cx}
theorem zcc {scope:Scope} {N' own:List Str} {fr:List Nat} (h:zahe X.env.scope X.N scope N' own fr=true):CompOk X scope N' own fr:=by
 unfold zahe at h
 simp only [qb] at h
 obtain ⟨⟨⟨⟨⟨h1,h2⟩,h3⟩,h4⟩,h5⟩,h6⟩:=h
 refine ⟨eq_of_beq h1,fun y hy=>eq_of_beq (qAZ.mp h2 y hy),fun y hy e=>?_,eq_of_beq h4,fun j hj=>?_,fun x hx=>?_⟩
 ·have q:=qAZ.mp h3 y hy
  rw [e] at q
  have q:zahd (X.env.scope.names.lookup y.1)=true:=by simpa using q
  unfold zahd at q
  rcases qBw.mp q with z|z
  ·exact .inl (eq_of_beq z)
  ·exact .inr (eq_of_beq z)
 ·have q:=qAZ.mp h5 j hj
  rw [qb] at q
  exact ⟨of_decide_eq_true q.1,eq_of_beq q.2⟩
 ·have q:=qAZ.mp h6 x hx
  rcases qBw.mp q with z|z
  ·exact .inl (eq_of_beq z)
  ·exact .inr (eq_of_beq z)
noncomputable def zaps (K:qB):R2:=fun x y H Q=>match x,y with
 | .int i,.int j=>Q (.int (i+j)) H
 | .str a,.str b=>a.length+b.length≤qj∧Q (.str (a++b)) H
 | .ref _,.ref _=>rCat x y H Q∨zasl K x y H Q
 | _,_=>False
theorem zapt:OpR X (binaryOp .Add) (zaps X.K):=by
 intro pins s σ H x y v u Q I rx ry h
 cases x<;>cases y<;>first
  | exact h.elim
  | exact zasd pins s σ H _ _ v u Q I rx ry ⟨_,_,rfl,rfl,h⟩
  | exact zaer pins s σ H _ _ v u Q I rx ry ⟨_,_,rfl,rfl,h.1,h.2⟩
  | exact (zass.or zapf) pins s σ H _ _ v u Q I rx ry h
noncomputable def zatc:R2:=fun x y H Q=>match x,y with
 | .int i,.int j=>CMul i j∧Q (.int (i * j)) H
 | .str z,.int n=>z.length≤1000∧-1000≤n∧n≤1000∧Q (.str (Txt.mul z n)) H
 | _,_=>False
theorem zjj:OpR X (binaryOp .Mult) zatc:=by
 intro pins s σ H x y v u Q I rx ry h
 cases x<;>cases y<;>first
  | exact h.elim
  | exact zase pins s σ H _ _ v u Q I rx ry ⟨_,_,rfl,rfl,h.1,h.2⟩
  | exact zapr pins s σ H _ _ v u Q I rx ry ⟨_,_,rfl,rfl,h.1,h.2.1,h.2.2.1,h.2.2.2⟩
noncomputable def rIxU (K:qB):R2:=fun x y H Q=>match x,y with
 | .str z,.int i=>z.length≤qj∧∃ c,atI z.cps.toList i=some c∧Q (.str ⟨#[c]⟩) H
 | .ref p,.int i=>∃ xs v,(SqL K H p xs∨SqT K H p xs)∧atI xs i=some v∧Q v H
 | _,_=>False
theorem ix_U:IxR X (rIxU X.K):=by
 intro value slice pins s σ H x y v u Q I rx ry h hs
 cases x<;>cases y<;>first
  | exact h.elim
  | (obtain ⟨h1,c,h2,h3⟩:=h;exact zaso value slice pins s σ H _ _ v u Q I rx ry ⟨_,_,c,rfl,rfl,h1,h2,h3⟩ hs)
  | (obtain ⟨xs,w,h1,h2,h3⟩:=h
     rcases h1 with h1|h1
     ·exact zaph value slice pins s σ H _ _ v u Q I rx ry ⟨_,xs,_,w,rfl,rfl,h1,h2,h3⟩ hs
     ·exact zasn value slice pins s σ H _ _ v u Q I rx ry ⟨_,xs,_,w,rfl,rfl,h1,h2,h3⟩ hs)
noncomputable def rSlU (K:qB):V→Option Int→Option Int→Hp→VK→Prop:=fun x lo hi H Q=>match x with
 | .str z=>z.length≤qj∧Q (.str (Txt.slice z lo hi)) H
 | .ref _=>rSlL K x lo hi H Q
 | _=>False
theorem sl_U:SlR X (rSlU X.K):=by
 intro pins s σ H x v vl vu lo hi sl Q I rx hs pl pu h
 cases x<;>first
  | exact h.elim
  | exact zasz pins s σ H _ v vl vu lo hi sl Q I rx hs pl pu ⟨_,rfl,h.1,h.2⟩
  | exact zapi pins s σ H _ v vl vu lo hi sl Q I rx hs pl pu h
noncomputable def Dn (P:Program) (w:World) (K:qB) (mg:Str→Option Value) (base:Heap) (x:Str) (ps:List Str) (k:Nat) (sp:Sp):Prop :=
 ∃ f fd,FnOk P w K mg base CX0 k f fd ps sp∧mg x=some (.ref f)∧qP K (.ref f)=true∧zaet K fd ps []
theorem zaux {x:Str} {p pos:Pos} {e:Expr} {es:List Expr} {t:TA} {ps:List Str} {k:Nat} {sp:Sp} (D:Dn X.prog X.w X.K X.mg X.base x ps k sp) (hr:Room k X.A) (hg:Gl X x) (ha:PA X (e::es) t)
  (hdb:(x==("__debug__":Str))=false:=by decide) (he:starEach (e::es) X.env=(false,eval e X.env)::starEach es X.env:=by rfl) (hpl:(backTo pos (starEach es X.env)).any (·.1)=false:=by rfl) :
  PE X (.Call (.Name x p) (e::es) [] pos) (tCall sp [] E0 t):=by
 obtain ⟨f,fd,F,hm,hk,hb⟩:=D
 exact zape F hr hg hm hk hb .nil zauv ha hdb he hpl
end
theorem Same.upd {H H':Hp} {p:Addr} {o:HO} (h:Same H H') (hp:H p=none):Same H (upd H' p o):=fun b u e=>by rw [zcj (zcg e hp)];exact h b u e
theorem Same.new {H:Hp} {p:Addr} {o:HO} (hp:H p=none):Same H (L2.upd H p o):=(Same.refl H).upd hp
end L2
namespace Bc
open PySem L2
noncomputable abbrev Web:=List (Str×List Str)
noncomputable def nm (W:Web):List Str:=W.map (·.1)
structure WebOk (W:Web):Prop where
 nd:(nm W).Nodup
 el:∀ i n es,W[i]?=some (n,es)→∀ e∈es,e∈nm (W.take i)
 few:∀ p∈W,p.2.length≤4
 len:W.length≤12
theorem zlb {α:Type} [DecidableEq α]:∀ (l m:List α),l.Nodup→(∀ x∈l,x∈m)→l.length≤m.length
 | [],_,_,_=>qAd _
 | a::l,m,h,s=>by
  obtain ⟨h1,h2⟩:=qAz.mp h
  have ha:=s a qc
  have q:=zlb l (m.erase a) h2 fun x hx=>(List.mem_erase_of_ne (fun (z:x=a)=>h1 (by rw [← z];exact hx))).mpr (s x (qT _ hx))
  rw [List.length_erase_of_mem ha] at q
  have:=qCk ha
  rw [qAc]
  omega
section
variable {κ:Type} [DecidableEq κ]
end
theorem zro {W:Web} (h:WebOk W):(nm W).length≤12:=by unfold nm;rw [qC];exact h.len
end Bc
namespace L2
open PySem PySem.Spec PyProof.Rows
section
variable {X:Cx} {K:qB} (hK:X.K=K)
include hK
theorem zapu {es:List Expr} {k:Nat} {t:TGs} {n:Nat} {pos:Pos} (hc:X.calm=true) (h:PGs X es t)
  (hn:(assignEach es X.env).length=n:=by rfl) (hst:(assignEach es X.env).findIdx? (·.1)=none:=by rfl):PG X (.Tuple es k pos) (gTup K n t):=by subst hK;exact zasa hc h hn hst
theorem zcn:IxR X (rIxU K):=by subst hK;exact ix_U
theorem zoy:SlR X (rSlU K):=by subst hK;exact sl_U
theorem zde:OpR X (binaryOp .Add) (zaps K):=by subst hK;exact zapt
theorem zany:OpR X (compareOp .In) (rIn K false):=by subst hK;exact zagp
theorem zrp:OpR X (compareOp .NotIn) (rIn K true):=by subst hK;exact zxo
theorem zbz:CallR X (.builtin "len") (fun xs H Q=>∃ x n,xs=[x]∧LenV K x H n∧Q (.int n) H):=by subst hK;exact zalb
theorem zlc (hc:X.calm=true):CallR X (.builtin "any") (rAny K fun bs=>bs.any id):=by subst hK;exact zalo hc
theorem zrq (hc:X.calm=true):CallR X (.builtin "all") (rAny K fun bs=>bs.all id):=by subst hK;exact zalp hc
theorem zfx:CallR X (.builtin "isinstance") (fun xs H Q=>∃ x n t b,xs=[x,.ty n]∧TyOf K H x t∧PySem.W.kitOne K t (.type n)=some b∧Q (.bl b) H):=by subst hK;exact zaln rfl
theorem zjo:CallR X (.type "list") (fun xs H Q=>∃ p ys,xs=[.ref p]∧(SqL K H p ys∨SqT K H p ys)∧∀ l,H l=none→Q (.ref l) (upd H l (.lst ys))):=by subst hK;exact zxp
theorem zalq {tg l:Expr} {tl:TE} (hl:PE X l tl):PI X tg l (zasc K tl):=by subst hK;exact zaoy hl
theorem zahf {T:String} {name:Str} {id:String} {r:V→List V→Hp→VK→Prop} {o e:Expr} {es:List Expr} {to:TE} {t:TA} {apos cpos:Pos} (pa:PlainAttrs T) (slot:Slot T name id) (hty:typeOf (.builtin id)=pure (.type "method_descriptor")) (hm:MtR X id r) (ho:PE X o to) (ha:PA X (e::es) t)
  (hbase:attributeBase o name X.env (eval o X.env)=eval o X.env:=by rfl)
  (hfew:((backTo cpos (starEach (e::es) X.env)).all (fun x=>!x.1)&&(backToKw cpos (keywordEach [] X.env)).all (fun x=>x.1.isSome)
   && decide ((e::es).length+([]:List Keyword).length+(if ([]:List Keyword).isEmpty then 0 else 1)<30))=true:=by rfl)
  (hline:(apos.endLine==cpos.line)=true:=by rfl) (hs:starEach (e::es) X.env=(false,eval e X.env)::starEach es X.env:=by rfl) (hplain:(backTo cpos (starEach es X.env)).any (·.1)=false:=by rfl) :
  PE X (.Call (.Attribute o name apos) (e::es) [] cpos) (tBM K T r to t):=by subst hK;exact zaut pa slot hty hm ho ha hbase hfew hline hs hplain
end
noncomputable def keyD:PyData→Option Key
 | .int i=>some (Sum.inl i)
 | .str s=>some (Sum.inr s)
 | _=>none
mutual
def Rp (H:Hp):PyData→V→Prop
 | .none,v=>v=.non
 | .bool b,v=>v=.bl b
 | .int i,v=>v=.int i
 | .str x,v=>v=.str x
 | .list ds,v=>∃ a xs,v=.ref a∧H a=some (.lst xs)∧Rps H ds xs
 | .tuple ds,v=>∃ a xs,v=.ref a∧H a=some (.tup xs)∧Rps H ds xs
 | .dict kvs,v=>∃ a ps,v=.ref a∧H a=some (.dK ps)∧Rpd H kvs ps
def Rps (H:Hp):List PyData→List V→Prop
 | [],xs=>xs=[]
 | d::ds,xs=>∃ v vs,xs=v::vs∧Rp H d v∧Rps H ds vs
def Rpd (H:Hp):List (PyData×PyData)→List (Key×V)→Prop
 | [],ps=>ps=[]
 | (k,d)::r,ps=>∃ k' v vs,ps=(k',v)::vs∧keyD k=some k'∧Rp H d v∧Rpd H r vs
end
mutual
theorem Rp.same {H H':Hp} (h:Same H H'):∀ (d:PyData) {v:V},Rp H d v→Rp H' d v
 | .none,v,q=>by unfold Rp at q ⊢;exact q
 | .bool b,v,q=>by unfold Rp at q ⊢;exact q
 | .int i,v,q=>by unfold Rp at q ⊢;exact q
 | .str x,v,q=>by unfold Rp at q ⊢;exact q
 | .list ds,v,q=>by
  unfold Rp at q ⊢
  obtain ⟨a,xs,e,hq,hr⟩:=q
  exact ⟨a,xs,e,h _ _ hq,Rps.same h ds hr⟩
 | .tuple ds,v,q=>by
  unfold Rp at q ⊢
  obtain ⟨a,xs,e,hq,hr⟩:=q
  exact ⟨a,xs,e,h _ _ hq,Rps.same h ds hr⟩
 | .dict kvs,v,q=>by
  unfold Rp at q ⊢
  obtain ⟨a,xs,e,hq,hr⟩:=q
  exact ⟨a,xs,e,h _ _ hq,Rpd.same h kvs hr⟩
theorem Rps.same {H H':Hp} (h:Same H H'):∀ (ds:List PyData) {vs:List V},Rps H ds vs→Rps H' ds vs
 | [],vs,q=>by unfold Rps at q ⊢;exact q
 | d::ds,vs,q=>by
  unfold Rps at q ⊢
  obtain ⟨v,vs',e,h1,h2⟩:=q
  exact ⟨v,vs',e,Rp.same h d h1,Rps.same h ds h2⟩
theorem Rpd.same {H H':Hp} (h:Same H H'):∀ (ds:List (PyData×PyData)) {vs:List (Key×V)},Rpd H ds vs→Rpd H' ds vs
 | [],vs,q=>by unfold Rpd at q ⊢;exact q
 | (k,d)::ds,vs,q=>by
  unfold Rpd at q ⊢
  obtain ⟨k',v,vs',e,h0,h1,h2⟩:=q
  exact ⟨k',v,vs',e,h0,Rp.same h d h1,Rpd.same h ds h2⟩
end
theorem zeg {H:Hp}:∀ {ds:List PyData} {xs:List V},Rps H ds xs↔Paired (Rp H) ds xs
 | [],xs=>by
  constructor
  ·intro h;unfold Rps at h;subst h;exact .nil
  ·intro h;cases h;unfold Rps;rfl
 | d::ds,xs=>by
  constructor
  ·intro h
   unfold Rps at h
   obtain ⟨v,vs,rfl,h1,h2⟩:=h
   exact .cons h1 (zeg.mp h2)
  ·intro h
   cases h with
   | cons h1 h2=>unfold Rps;exact ⟨_,_,rfl,h1,zeg.mpr h2⟩
theorem Rps.length {H:Hp} {ds:List PyData} {xs:List V} (h:Rps H ds xs):ds.length=xs.length:=(zeg.mp h).length
theorem zfe {H:Hp} {ds:List PyData} {v:V} (h:Rp H (.list ds) v):∃ a xs,v=.ref a∧H a=some (.lst xs)∧Rps H ds xs:=by unfold Rp at h;exact h
theorem zec {H:Hp} {ds:List PyData} {v:V} (h:Rp H (.tuple ds) v):∃ a xs,v=.ref a∧H a=some (.tup xs)∧Rps H ds xs:=by unfold Rp at h;exact h
theorem zjk {H:Hp} {ds:List (PyData×PyData)} {v:V} (h:Rp H (.dict ds) v):∃ a xs,v=.ref a∧H a=some (.dK xs)∧Rpd H ds xs:=by unfold Rp at h;exact h
theorem zey {H:Hp} {i:Int} {v:V} (h:Rp H (.int i) v):v=.int i:=by unfold Rp at h;exact h
theorem zkp {H:Hp} {i:Str} {v:V} (h:Rp H (.str i) v):v=.str i:=by unfold Rp at h;exact h
theorem zjl {H:Hp} {i:Bool} {v:V} (h:Rp H (.bool i) v):v=.bl i:=by unfold Rp at h;exact h
theorem zvm {H:Hp} {v:V} (h:Rp H .none v):v=.non:=by unfold Rp at h;exact h
theorem zag {H:Hp} {i:Int}:Rp H (.int i) (.int i):=by unfold Rp;rfl
theorem zbk {H:Hp} {i:Str}:Rp H (.str i) (.str i):=by unfold Rp;rfl
theorem zbb {H:Hp} {i:Bool}:Rp H (.bool i) (.bl i):=by unfold Rp;rfl
theorem zjp {H:Hp}:Rp H .none .non:=by unfold Rp;rfl
theorem zhb {H:Hp} {ds:List PyData} {a:Addr} {xs:List V} (h:H a=some (.lst xs)) (r:Rps H ds xs):Rp H (.list ds) (.ref a):=by unfold Rp;exact ⟨a,xs,rfl,h,r⟩
theorem znf {H:Hp} {ds:List PyData} {a:Addr} {xs:List V} (h:H a=some (.tup xs)) (r:Rps H ds xs):Rp H (.tuple ds) (.ref a):=by unfold Rp;exact ⟨a,xs,rfl,h,r⟩
theorem zoz {H:Hp} {ds:List (PyData×PyData)} {a:Addr} {xs:List (Key×V)} (h:H a=some (.dK xs)) (r:Rpd H ds xs):Rp H (.dict ds) (.ref a):=by unfold Rp;exact ⟨a,xs,rfl,h,r⟩
theorem zed {H:Hp}:Rps H [] []:=by unfold Rps;rfl
theorem zpa {H:Hp}:Rpd H [] []:=by unfold Rpd;rfl
theorem zdi {H:Hp} {d:PyData} {ds:List PyData} {v:V} {vs:List V} (h:Rp H d v) (r:Rps H ds vs):Rps H (d::ds) (v::vs):=by
 show Rps H (d::ds) _
 unfold Rps;exact ⟨v,vs,rfl,h,r⟩
theorem Rps.append {H:Hp} {ds es:List PyData} {vs ws:List V} (h:Rps H ds vs) (r:Rps H es ws):Rps H (ds++es) (vs++ws):=by
 replace h:=zeg.mp h
 refine zeg.mpr ?_
 induction h with
 | nil=>exact zeg.mp r
 | cons h _ ih=>exact .cons h ih
theorem Rps.get2 {H:Hp} {ds:List PyData} {vs:List V} (h:Rps H ds vs) {i:Nat} {d:PyData} (e:ds[i]?=some d):∃ v,vs[i]?=some v∧Rp H d v:=by
 replace h:=zeg.mp h
 induction h generalizing i with
 | nil=>simp at e
 | cons h _ ih =>
  cases i with
  | zero=>simp at e;subst e;exact ⟨_,rfl,h⟩
  | succ i=>simpa using ih (by simpa using e)
open Classical in
noncomputable def Offs (A:Addr→Prop) (H:Hp):Hp:=fun b=>if A b then none else H b
theorem Offs.get {A:Addr→Prop} {H:Hp} {b:Addr} (h:¬ A b):Offs A H b=H b:=if_neg h
theorem Offs.out {A:Addr→Prop} {H:Hp} {b:Addr} (h:A b):Offs A H b=none:=if_pos h
theorem Offs.of {A:Addr→Prop} {H:Hp} {b:Addr} {o:HO} (h:Offs A H b=some o):¬ A b∧H b=some o:=by
 by_cases hb:A b
 ·rw [Offs.out hb] at h;cases h
 ·rw [Offs.get hb] at h;exact ⟨hb,h⟩
theorem Offs.mono {A B:Addr→Prop} {H H':Hp} (s:Same H H') (h:∀ b o,H b=some o→¬ A b→¬ B b):Same (Offs A H) (Offs B H'):=fun b o e=>by
 obtain ⟨h1,h2⟩:=Offs.of e
 rw [Offs.get (h b o h2 h1)]
 exact s b o h2
theorem Offs.same (A:Addr→Prop) (H:Hp):Same (Offs A H) H:=fun b o e=>(Offs.of e).2
theorem Offs.sub {A B:Addr→Prop} {H:Hp} (h:∀ b,B b→A b):Same (Offs A H) (Offs B H):=Offs.mono (Same.refl _) fun b _ _ n z=>n (h b z)
theorem Offs.grow {A:Addr→Prop} {H H':Hp} (s:Same H H'):Same (Offs A H) (Offs A H'):=Offs.mono s fun _ _ _ z=>z
theorem Offs.upd {A:Addr→Prop} {H:Hp} {a:Addr} {o:HO} (h:A a):Offs A (upd H a o)=Offs A H:=by
 funext b
 by_cases hb:A b
 ·rw [Offs.out hb,Offs.out hb]
 ·rw [Offs.get hb,Offs.get hb,zcj (fun e=>hb (by rw [e];exact h))]
inductive Sl where
 | no
  | pl (d:PyData)
  | ac (d:PyData)
noncomputable abbrev DEnv:=List Sl
noncomputable def own (env:DEnv) (σ:St) (a:Addr):Prop:=∃ (i:Nat) (d:PyData),env[i]?=some (.ac d)∧σ[i]?=some (some (.ref a))
noncomputable def zjq (Ho H:Hp) (a:Addr):PyData→Prop
 | .list ds=>∃ xs,H a=some (.lst xs)∧Rps Ho ds xs
 | .dict kvs=>∃ ps,H a=some (.dK ps)∧Rpd Ho kvs ps
 | _=>False
theorem zjq.rp {Ho H H':Hp} {a:Addr} {d:PyData} (h:zjq Ho H a d) (s:Same Ho H') (e:∀ o,H a=some o→H' a=some o):Rp H' d (.ref a):=by
 cases d with
 | list ds =>
  obtain ⟨xs,h1,h2⟩:=h
  exact zhb (e _ h1) (Rps.same s _ h2)
 | dict ds =>
  obtain ⟨xs,h1,h2⟩:=h
  exact zoz (e _ h1) (Rpd.same s _ h2)
 | _=>exact h.elim
theorem zjq.same {Ho H Ho' H':Hp} {a:Addr} {d:PyData} (h:zjq Ho H a d) (s:Same Ho Ho') (e:∀ o,H a=some o→H' a=some o):zjq Ho' H' a d:=by
 cases d with
 | list ds =>
  obtain ⟨xs,h1,h2⟩:=h
  exact ⟨xs,e _ h1,Rps.same s _ h2⟩
 | dict ds =>
  obtain ⟨xs,h1,h2⟩:=h
  exact ⟨xs,e _ h1,Rpd.same s _ h2⟩
 | _=>exact h.elim
theorem zjq.ex {Ho H:Hp} {a:Addr} {d:PyData} (h:zjq Ho H a d):∃ o,H a=some o:=by
 cases d with
 | list ds=>obtain ⟨xs,h1,h2⟩:=h;exact ⟨_,h1⟩
 | dict ds=>obtain ⟨xs,h1,h2⟩:=h;exact ⟨_,h1⟩
 | _=>exact h.elim
structure EnvOk (fx:Addr→Prop) (H0:Hp) (env:DEnv) (σ:St) (H:Hp):Prop where
 len:env.length=σ.length
 pl:∀ (i:Nat) (d:PyData),env[i]?=some (.pl d)→∃ v,σ[i]?=some (some v)∧Rp (Offs (fun a=>fx a∨own env σ a) H) d v
 ac:∀ (i:Nat) (d:PyData),env[i]?=some (.ac d)→∃ a,σ[i]?=some (some (.ref a))∧H0 a=none∧¬ fx a∧zjq (Offs (fun a=>fx a∨own env σ a) H) H a d
 inj:∀ (i j:Nat) (d e:PyData) (a:Addr),env[i]?=some (.ac d)→env[j]?=some (.ac e)→σ[i]?=some (some (.ref a))→σ[j]?=some (some (.ref a))→i=j
 base:Same H0 H
 fxs:∀ b,fx b→∃ o,H b=some o
theorem EnvOk.grow {fx fx':Addr→Prop} {H0:Hp} {env:DEnv} {σ:St} {H H':Hp} (h:EnvOk fx H0 env σ H) (s:Same H H') (f:∀ b o,H b=some o→¬ fx b→¬ fx' b) (g:∀ b,fx' b→∃ o,H' b=some o):EnvOk fx' H0 env σ H':=by
 have so:Same (Offs (fun a=>fx a∨own env σ a) H) (Offs (fun a=>fx' a∨own env σ a) H'):=Offs.mono s fun b o e n=>fun z=>z.elim (f b o e fun y=>n (.inl y)) fun y=>n (.inr y)
 refine ⟨h.len,fun i d e=>?_,fun i d e=>?_,h.inj,h.base.trans s,g⟩
 ·obtain ⟨v,h1,h2⟩:=h.pl i d e
  exact ⟨v,h1,Rp.same so d h2⟩
 ·obtain ⟨a,h1,h2,h3,h4⟩:=h.ac i d e
  obtain ⟨o,ho⟩:=h4.ex
  exact ⟨a,h1,h2,f a o ho h3,h4.same so fun o=>s a o⟩
theorem EnvOk.up {fx:Addr→Prop} {H0:Hp} {env:DEnv} {σ:St} {H H':Hp} (h:EnvOk fx H0 env σ H) (s:Same H H'):EnvOk fx H0 env σ H' :=
 h.grow s (fun _ _ _ z=>z) fun b z=>let ⟨o,e⟩:=h.fxs b z;⟨o,s b o e⟩
structure Val where
 d:PyData
 fr:Bool
 bs:List Nat
noncomputable def lim (fx:Addr→Prop) (env:DEnv) (σ:St) (bs:List Nat) (a:Addr):Prop:=fx a∨∃ (i:Nat) (d:PyData),i∉bs∧env[i]?=some (.ac d)∧σ[i]?=some (some (.ref a))
structure ValOk (A:Addr→Prop) (H H':Hp) (r:Val) (v:V):Prop where
 rp:Rp (Offs A H') r.d v
 fr:r.fr=true→∃ a,v=.ref a∧H a=none∧zjq (Offs (fun b=>A b∨b=a) H') H' a r.d
theorem zke {fx:Addr→Prop} {env:DEnv} {σ:St} {bs cs:List Nat} (h:∀ i∈bs,i∈cs):∀ a,lim fx env σ cs a→lim fx env σ bs a:=by
 rintro a (z|⟨i,d,h1,h2,h3⟩)
 ·exact .inl z
 ·exact .inr ⟨i,d,fun q=>h1 (h i q),h2,h3⟩
theorem zrr {fx:Addr→Prop} {env:DEnv} {σ:St} {bs:List Nat}:∀ a,lim fx env σ bs a→fx a∨own env σ a:=by
 rintro a (z|⟨i,d,h1,h2,h3⟩)
 ·exact .inl z
 ·exact .inr ⟨i,d,h2,h3⟩
theorem zapv {fx:Addr→Prop} {env:DEnv} {σ:St}:∀ a,fx a∨own env σ a→lim fx env σ [] a:=by
 rintro a (z|⟨i,d,h2,h3⟩)
 ·exact .inl z
 ·exact .inr ⟨i,d,by simp,h2,h3⟩
theorem EnvOk.lims {fx:Addr→Prop} {H0:Hp} {env:DEnv} {σ:St} {H:Hp} (h:EnvOk fx H0 env σ H) (bs:List Nat):∀ b,lim fx env σ bs b→∃ o,H b=some o:=by
 rintro b (z|⟨i,d,h1,h2,h3⟩)
 ·exact h.fxs b z
 ·obtain ⟨a,g1,g2,g3,g4⟩:=h.ac i d h2
  rw [h3] at g1
  cases g1
  exact g4.ex
theorem ValOk.later {A B:Addr→Prop} {H0 H H' H'':Hp} {r:Val} {v:V} (h:ValOk A H H' r v) (s0:Same H0 H) (s:Same H' H'') (hB:∀ b,B b→A b):ValOk B H0 H'' r v:=by
 refine ⟨Rp.same (Offs.mono s fun b _ _ n z=>n (hB b z)) _ h.rp,fun e=>?_⟩
 obtain ⟨a,h1,h2,h3⟩:=h.fr e
 exact ⟨a,h1,s0.free h2,h3.same (Offs.mono s fun b _ _ n z=>n (z.elim (fun y=>.inl (hB b y)) .inr)) fun o=>s a o⟩
noncomputable def zgv:PyData→Bool
 | .list _=>false
 | .tuple _=>false
 | .dict _=>false
 | _=>true
theorem zaau {H H':Hp} {d:PyData} {v:V} (f:zgv d=true) (h:Rp H d v):Rp H' d v:=by
 cases d<;>first
  | (unfold Rp at h ⊢;exact h)
  | cases f
noncomputable def bsOf (d:PyData) (bs:List Nat):List Nat:=if zgv d=true then [] else bs
theorem zaav {fx:Addr→Prop} {env:DEnv} {σ:St} {bs:List Nat} {H:Hp} {d:PyData} {v:V} (h:Rp (Offs (lim fx env σ bs) H) d v):Rp (Offs (lim fx env σ (bsOf d bs)) H) d v:=by
 unfold bsOf
 split
 ·rename_i e;exact zaau e h
 ·exact h
noncomputable abbrev EF:=DEnv→Option Val
noncomputable def SE (te:TE) (f:EF):Prop:=∀ (fx:Addr→Prop) (H0:Hp) (env:DEnv) (σ:St) (H:Hp),EnvOk fx H0 env σ H→∀ r,f env=some r→∀ Q:VK,(∀ v H',Same H H'→ValOk (lim fx env σ r.bs) H H' r v→Q v H')→te σ H Q
noncomputable abbrev TF:=DEnv→Option Bool
noncomputable def ST (tt:TT) (f:TF):Prop:=∀ (fx:Addr→Prop) (H0:Hp) (env:DEnv) (σ:St) (H:Hp),EnvOk fx H0 env σ H→∀ b,f env=some b→∀ Q:Bool→Hp→Prop,(∀ H',Same H H'→Q b H')→tt σ H Q
noncomputable abbrev AF:=DEnv→Option (List Val)
noncomputable def SA (ta:TA) (f:AF):Prop:=∀ (fx:Addr→Prop) (H0:Hp) (env:DEnv) (σ:St) (H:Hp),EnvOk fx H0 env σ H→∀ rs,f env=some rs→∀ Q:List V→Hp→Prop,
 (∀ vs H',Same H H'→Paired (fun r v=>ValOk (lim fx env σ r.bs) H H' r v) rs vs→Q vs H')→ta σ H Q
section
variable {X:Cx}
noncomputable def eVar (i:Nat):EF:=fun env=>match env[i]? with
 | some (.pl d)=>some ⟨d,false,[]⟩
 | some (.ac d)=>some ⟨d,false,[i]⟩
 | _=>none
theorem zad (i:Nat):SE (tVar i) (eVar i):=by
 intro fx H0 env σ H h r hr Q q
 unfold eVar at hr
 cases e:env[i]? with
 | none=>rw [e] at hr;cases hr
 | some sl =>
  rw [e] at hr
  cases sl with
  | no=>cases hr
  | pl d =>
   cases hr
   obtain ⟨v,h1,h2⟩:=h.pl i d e
   exact ⟨v,h1,q v H (Same.refl _) ⟨Rp.same (Offs.sub zrr) _ h2,fun z=>by cases z⟩⟩
  | ac d =>
   cases hr
   obtain ⟨a,h1,h2,h3,h4⟩:=h.ac i d e
   have hna:¬ lim fx env σ [i] a:=by
    rintro (z|⟨j,d',g1,g2,g3⟩)
    ·exact h3 z
    ·exact g1 (qAI.mpr (h.inj j i d' d a g2 e g3 h1))
   exact ⟨_,h1,q _ H (Same.refl _) ⟨h4.rp (Offs.sub zrr) fun o z=>by rw [Offs.get hna];exact z,fun z=>by cases z⟩⟩
noncomputable def eC (d:PyData):EF:=fun _=>some ⟨d,false,[]⟩
theorem se_c {d:PyData} {v:V} (h:∀ H,Rp H d v):SE (tC v) (eC d):=by
 intro fx H0 env σ H _ r hr Q q
 cases hr
 exact q v H (Same.refl _) ⟨h _,fun z=>by cases z⟩
noncomputable abbrev OF:=PyData→PyData→Option (PyData×Bool)
noncomputable def SO (r:R2) (f:OF):Prop:=∀ (A:Addr→Prop) (H:Hp) (x y:V) (dx dy:PyData),(∀ b,A b→∃ o,H b=some o)→Rp (Offs A H) dx x→Rp (Offs A H) dy y→∀ d fr,f dx dy=some (d,fr)→∀ Q:VK,
 (∀ v H',Same H H'→Rp (Offs A H') d v→(fr=true→∃ a,v=.ref a∧H a=none∧zjq (Offs (fun b=>A b∨b=a) H') H' a d)→Q v H')→r x y H Q
noncomputable def eOp (f:OF) (a b:EF):EF:=fun env=>(a env).bind fun x=>(b env).bind fun y=>(f x.d y.d).bind fun z=>some ⟨z.1,z.2,bsOf z.1 (x.bs++y.bs)⟩
theorem zbc {r:R2} {f:OF} {ta tb:TE} {fa fb:EF} (ho:SO r f) (ha:SE ta fa) (hb:SE tb fb):SE (tOp r ta tb) (eOp f fa fb):=by
 intro fx H0 env σ H h rr hr Q q
 unfold eOp at hr
 obtain ⟨x,ex,hr⟩:=qA.mp hr
 obtain ⟨y,ey,hr⟩:=qA.mp hr
 obtain ⟨⟨d,fr⟩,ez,hr⟩:=qA.mp hr
 cases hr
 refine ha fx H0 env σ H h x ex _ fun v H1 s1 v1=>hb fx H0 env σ H1 (h.up s1) y ey _ fun u H2 s2 v2=>?_
 have l1:∀ b,lim fx env σ (x.bs++y.bs) b→lim fx env σ x.bs b:=zke fun i hi=>qz _ hi
 have l2:∀ b,lim fx env σ (x.bs++y.bs) b→lim fx env σ y.bs b:=zke fun i hi=>qm _ hi
 refine ho (lim fx env σ (x.bs++y.bs)) H2 v u x.d y.d ((h.up (s1.trans s2)).lims _) (v1.later (Same.refl _) s2 l1).rp (v2.later (Same.refl _) (Same.refl _) l2).rp d fr ez _ fun w H3 s3 rp fr3=>q w H3 ((s1.trans s2).trans s3) ⟨zaav rp,fun e=>?_⟩
 obtain ⟨a,g1,g2,g3⟩:=fr3 e
 refine ⟨a,g1,(s1.trans s2).free g2,?_⟩
 have nf:zgv d=false:=by cases d<;>first|rfl|exact g3.elim
 show zjq (Offs (fun b=>lim fx env σ (bsOf d (x.bs++y.bs)) b∨b=a) H3) H3 a d
 rw [show bsOf d (x.bs++y.bs)=x.bs++y.bs by unfold bsOf;rw [if_neg (by rw [nf];decide)]]
 exact g3
end
theorem zib {n:Nat} (h:n≤100000):n≤qj:=qAW h (by decide)
theorem zrs {n:Nat} (h:n<100000):n<qj:=qCt h (by decide)
theorem zga {A:Addr→Prop} {H:Hp} (hA:∀ b,A b→∃ o,H b=some o) {p:Addr} (hp:H p=none):¬ A p:=fun z=>by
 obtain ⟨o,e⟩:=hA p z
 rw [hp] at e;cases e
theorem zrt {A:Addr→Prop} {H:Hp} {p:Addr} {ds:List PyData} {xs:List V} (hp:H p=none) (r:Rps (Offs A H) ds xs):zjq (Offs (fun b=>A b∨b=p) (upd H p (.lst xs))) (upd H p (.lst xs)) p (.list ds):=by
 refine ⟨xs,zbp,Rps.same (Offs.mono (Same.new hp) fun b o e n z=>?_) _ r⟩
 rcases z with z|z
 ·exact n z
 ·rw [z,hp] at e;cases e
theorem zxv {A:Addr→Prop} {H:Hp} {p:Addr} {ds:List PyData} {xs:List V} (hp:H p=none) (hA:¬ A p) (r:Rps (Offs A H) ds xs):Rp (Offs A (upd H p (.lst xs))) (.list ds) (.ref p) :=
 zhb (by rw [Offs.get hA];exact zbp) (Rps.same (Offs.grow (Same.new hp)) _ r)
theorem zpb {A:Addr→Prop} {H:Hp} {p:Addr} {ds:List PyData} {xs:List V} (hp:H p=none) (hA:¬ A p) (r:Rps (Offs A H) ds xs):Rp (Offs A (upd H p (.tup xs))) (.tuple ds) (.ref p) :=
 znf (by rw [Offs.get hA];exact zbp) (Rps.same (Offs.grow (Same.new hp)) _ r)
theorem zez {A:Addr→Prop} {H:Hp} {a:Addr} {o:HO} (h:Offs A H a=some o):H a=some o:=(Offs.of h).2
noncomputable def addD:OF
 | .int i,.int j=>some (.int (i+j),false)
 | .str a,.str b=>if a.length+b.length≤100000 then some (.str (a++b),false) else none
 | .list a,.list b=>if a.length+b.length≤100000 then some (.list (a++b),true) else none
 | .tuple a,.tuple b=>if a.isEmpty=false∧a.length+b.length≤100000 then some (.tuple (a++b),false) else none
 | _,_=>none
theorem zhw {K:qB}:SO (zaps K) addD:=by
 intro A H x y dx dy hA rx ry d fr e Q q
 unfold addD at e
 split at e
 ·cases e
  cases zey rx;cases zey ry
  exact q _ H (Same.refl _) zag (fun z=>by cases z)
 ·split at e
  ·rename_i hl
   cases e
   cases zkp rx;cases zkp ry
   exact ⟨zib hl,q _ H (Same.refl _) zbk (fun z=>by cases z)⟩
  ·cases e
 ·split at e
  ·rename_i hl
   cases e
   obtain ⟨p,xs,rfl,hp,r1⟩:=zfe rx
   obtain ⟨p',ys,rfl,hp',r2⟩:=zfe ry
   refine .inl ⟨p,p',xs,ys,rfl,rfl,zez hp,zez hp',zib (by rw [← r1.length,← r2.length];exact hl),fun b hb=>?_⟩
   exact q _ _ (Same.new hb) (zxv hb (zga hA hb) (r1.append r2)) fun _=>⟨b,rfl,hb,zrt hb (r1.append r2)⟩
  ·cases e
 ·split at e
  ·rename_i hl
   cases e
   obtain ⟨p,xs,rfl,hp,r1⟩:=zec rx
   obtain ⟨p',ys,rfl,hp',r2⟩:=zec ry
   refine .inr ⟨p,p',xs,ys,rfl,rfl,SqT.of (zez hp),SqT.of (zez hp'),fun z=>?_,zib (by rw [← r1.length,← r2.length];exact hl.2),fun z=>?_,fun _ b hb=>?_⟩
   ·have h1:=r1.length
    have h0:=hl.1
    rw [z] at h1
    rw [List.isEmpty_eq_false_iff] at h0
    exact h0 (qBH.mp h1)
   ·have h2:=r2.length
    rw [z] at h2
    have:=qBH.mp h2
    subst this
    rw [qAg] at q
    exact q _ H (Same.refl _) rx (fun z=>by cases z)
   ·exact q _ _ (Same.new hb) (zpb hb (zga hA hb) (r1.append r2)) (fun z=>by cases z)
  ·cases e
 ·cases e
noncomputable def intD (c:Int→Int→Bool) (f:Int→Int→PyData):OF
 | .int i,.int j=>if c i j=true then some (f i j,false) else none
 | _,_=>none
theorem zanz {C:Int→Int→Prop} {g:Int→Int→V} {c:Int→Int→Bool} {f:Int→Int→PyData} (hc:∀ i j,c i j=true→C i j) (hf:∀ H i j,Rp H (f i j) (g i j)):SO (rI C g) (intD c f):=by
 intro A H x y dx dy hA rx ry d fr e Q q
 unfold intD at e
 split at e
 ·split at e
  ·rename_i h
   cases e
   cases zey rx;cases zey ry
   exact ⟨_,_,rfl,rfl,hc _ _ h,q _ H (Same.refl _) (hf _ _ _) (fun z=>by cases z)⟩
  ·cases e
 ·cases e
theorem zvn {g:Int→Int→V} {f:Int→Int→PyData} (hf:∀ H i j,Rp H (f i j) (g i j)):SO (rI0 g) (intD (fun _ _=>true) f):=by
 intro A H x y dx dy hA rx ry d fr e Q q
 unfold intD at e
 split at e
 ·split at e
  ·cases e
   cases zey rx;cases zey ry
   exact ⟨_,_,rfl,rfl,q _ H (Same.refl _) (hf _ _ _) (fun z=>by cases z)⟩
  ·cases e
 ·cases e
noncomputable def subD:OF:=intD (fun _ _=>true) fun i j=>.int (i - j)
theorem zru:SO (rI0 fun i j=>.int (i - j)) subD:=zvn fun _ _ _=>zag
noncomputable def ltD:OF:=intD (fun _ _=>true) fun i j=>.bool (decide (i<j))
theorem zatd:SO (rI0 fun i j=>.bl (decide (i<j))) ltD:=zvn fun _ _ _=>zbb
noncomputable def leD:OF:=intD (fun _ _=>true) fun i j=>.bool (decide (i≤j))
theorem zate:SO (rI0 fun i j=>.bl (decide (i≤j))) leD:=zvn fun _ _ _=>zbb
noncomputable def gtD:OF:=intD (fun _ _=>true) fun i j=>.bool (decide (j<i))
theorem zapw:SO (rI0 fun i j=>.bl (decide (j<i))) gtD:=zvn fun _ _ _=>zbb
noncomputable def modD:OF:=intD (fun _ j=>decide (0<j)) fun i j=>.int (i % j)
theorem zeh:SO (rI (fun _ j=>0<j) fun i j=>.int (i % j)) modD:=zanz (fun _ _ h=>of_decide_eq_true h) fun _ _ _=>zag
noncomputable def zdk:OF:=intD (fun _ j=>decide (0<j∧j<1073741824)) fun i j=>.int (i / j)
theorem zft:SO (rI CDiv fun i j=>.int (i / j)) zdk:=zanz (fun i j h=>(of_decide_eq_true h:0<j∧j<1073741824)) fun _ _ _=>zag
noncomputable def mulD:OF
 | .int i,.int j=>if (-(2 ^ 64)<i∧i<2 ^ 64)∨(-(2 ^ 64)<j∧j<2 ^ 64) then some (.int (i * j),false) else none
 | .str z,.int n=>if z.length≤1000∧-1000≤n∧n≤1000 then some (.str (Txt.mul z n),false) else none
 | _,_=>none
theorem zug:SO zatc mulD:=by
 intro A H x y dx dy hA rx ry d fr e Q q
 unfold mulD at e
 split at e
 ·split at e
  ·rename_i h
   cases e
   cases zey rx;cases zey ry
   exact ⟨h,q _ H (Same.refl _) zag (fun z=>by cases z)⟩
  ·cases e
 ·split at e
  ·rename_i h
   cases e
   cases zkp rx;cases zey ry
   exact ⟨h.1,h.2.1,h.2.2,q _ H (Same.refl _) zbk (fun z=>by cases z)⟩
  ·cases e
 ·cases e
mutual
theorem zrv {K:qB} {H:Hp}:∀ {d:PyData} {v:V},d.canLay0=true→Rp H d v→Rep K H d v
 | .none,v,_,h=>by unfold Rp at h;unfold Rep;exact h
 | .bool b,v,_,h=>by unfold Rp at h;unfold Rep;exact h
 | .int i,v,_,h=>by unfold Rp at h;unfold Rep;exact h
 | .str x,v,_,h=>by unfold Rp at h;unfold Rep;exact h
 | .list ds,v,c,h=>by
  obtain ⟨a,xs,e,h1,h2⟩:=zfe h
  unfold Rep
  exact ⟨a,xs,e,SqL.of h1,zvo (by simpa [PyData.canLay0] using c) h2⟩
 | .tuple ds,v,c,h=>by
  obtain ⟨a,xs,e,h1,h2⟩:=zec h
  unfold Rep
  exact ⟨a,xs,e,SqT.of h1,zvo (by simpa [PyData.canLay0] using c) h2⟩
 | .dict _,v,c,h=>by simp [PyData.canLay0] at c
theorem zvo {K:qB} {H:Hp}:∀ {ds:List PyData} {vs:List V},qv ds=true→Rps H ds vs→Reps K H ds vs
 | [],vs,_,h=>by unfold Rps at h;unfold Reps;exact h
 | d::ds,vs,c,h=>by
  unfold Rps at h
  obtain ⟨v,ws,e,h1,h2⟩:=h
  have c:d.canLay0=true∧qv ds=true:=by simpa [qv] using c
  unfold Reps
  exact ⟨v,ws,e,zrv c.1 h1,zvo c.2 h2⟩
end
noncomputable def zalr:PyData→PyData→Bool
 | .none,.none=>true|.none,.int _=>true|.int _,.none=>true|.none,.bool _=>true|.bool _,.none=>true|.none,.str _=>true|.str _,.none=>true
 | .int _,.int _=>true|.bool _,.bool _=>true|.str _,.str _=>true
 | .int _,.str _=>true|.str _,.int _=>true|.bool _,.str _=>true|.str _,.bool _=>true
 | _,_=>false
noncomputable def eqOk (dx dy:PyData):Bool:=zalr dx dy||(qI dx&&qI dy)
noncomputable def eqD:OF:=fun dx dy=>if eqOk dx dy=true then some (.bool (qG dx dy),false) else none
noncomputable def neD:OF:=fun dx dy=>if eqOk dx dy=true then some (.bool (!PyData.eqv dx dy),false) else none
theorem zahg {H:Hp} {dx dy:PyData} {x y:V} (s:zalr dx dy=true) (rx:Rp H dx x) (ry:Rp H dy y):scal x y=true∧decide (x=y)=qG dx dy:=by
 cases dx<;>cases dy<;>first
  | (exact absurd (show false=true from s) qK)
  | (unfold Rp at rx ry;subst rx;subst ry;refine ⟨rfl,?_⟩;first|rfl|exact zaan|exact zacn|exact zrj|simp [qG])
theorem zhx {K:qB}:SO (fun x y H Q=>rEq x y H Q∨rEqD K false x y H Q) eqD:=by
 intro A H x y dx dy hA rx ry d fr e Q q
 unfold eqD at e
 split at e
 ·rename_i h
  cases e
  cases hs:zalr dx dy with
  | true =>
   obtain ⟨h1,h2⟩:=zahg hs rx ry
   exact .inl ⟨h1,by rw [h2];exact q _ H (Same.refl _) zbb (fun z=>by cases z)⟩
  | false =>
   unfold eqOk at h
   rw [hs,qCd,qb] at h
   have rx:=Rp.same (Offs.same A H) _ rx
   have ry:=Rp.same (Offs.same A H) _ ry
   exact .inr ⟨dx,dy,zrv (qAU h.1) rx,zrv (qAU h.2) ry,h.1,h.2,q _ H (Same.refl _) zbb (fun z=>by cases z)⟩
 ·cases e
theorem zxw {K:qB}:SO (fun x y H Q=>rNe x y H Q∨rEqD K true x y H Q) neD:=by
 intro A H x y dx dy hA rx ry d fr e Q q
 unfold neD at e
 split at e
 ·rename_i h
  cases e
  cases hs:zalr dx dy with
  | true =>
   obtain ⟨h1,h2⟩:=zahg hs rx ry
   exact .inl ⟨h1,by rw [h2];exact q _ H (Same.refl _) zbb (fun z=>by cases z)⟩
  | false =>
   unfold eqOk at h
   rw [hs,qCd,qb] at h
   have rx:=Rp.same (Offs.same A H) _ rx
   have ry:=Rp.same (Offs.same A H) _ ry
   exact .inr ⟨dx,dy,zrv (qAU h.1) rx,zrv (qAU h.2) ry,h.1,h.2,q _ H (Same.refl _) zbb (fun z=>by cases z)⟩
 ·cases e
noncomputable def zfq (ds:List PyData):Bool:=ds.all zgv
theorem zaoa {H:Hp} {d:PyData} {v:V} (f:zgv d=true) (h:Rp H d v):znd v=true:=by
 cases d<;>first
  | (unfold Rp at h;subst h;rfl)
  | cases f
theorem zapx {H:Hp} {ds:List PyData} {vs:List V} (f:zfq ds=true) (h:Rps H ds vs):vs.all znd=true:=by
 replace h:=zeg.mp h
 induction h with
 | nil=>rfl
 | cons h _ ih =>
  unfold zfq at f
  rw [qAp,qb] at f
  rw [qAp,zaoa f.1 h,ih f.2];rfl
theorem zapy {H:Hp} {d e:PyData} {v u:V} (f:zgv d=true) (g:zgv e=true) (h:Rp H d v) (k:Rp H e u):eqV v u=qG d e:=by
 cases d<;>cases e<;>first
  | (unfold Rp at h k;subst h;subst k;rfl)
  | exact absurd (show false=true from f) qK
  | exact absurd (show false=true from g) qK
theorem zapz {H:Hp} {d:PyData} {v:V} (f:zgv d=true) (h:Rp H d v) {ds:List PyData} {vs:List V} (g:zfq ds=true) (r:Rps H ds vs):inV v vs=ds.any fun e=>qG e d:=by
 replace r:=zeg.mp r
 unfold inV
 induction r with
 | nil=>rfl
 | cons r _ ih =>
  unfold zfq at g
  rw [qAp,qb] at g
  rw [qA3,qA3,zapy g.1 f r h,ih g.2]
noncomputable def zgy:PyData→Option (List PyData)
 | .list ds=>some ds
 | .tuple ds=>some ds
 | _=>none
noncomputable def inD (neg:Bool):OF:=fun d c=>match zgy c with
 | some ds=>if zgv d=true∧zfq ds=true then some (.bool (if neg then !(ds.any fun e=>qG e d) else ds.any fun e=>qG e d),false) else none
 | none=>none
theorem zacx {K:qB} {H:Hp} {c:PyData} {v:V} {ds:List PyData} (h:Rp H c v) (e:zgy c=some ds):∃ p xs,v=.ref p∧(SqL K H p xs∨SqT K H p xs)∧Rps H ds xs:=by
 cases c<;>first
  | cases e
  | skip
 ·obtain ⟨a,xs,e,h1,h2⟩:=zfe h;exact ⟨a,xs,e,.inl (SqL.of h1),h2⟩
 ·obtain ⟨a,xs,e,h1,h2⟩:=zec h;exact ⟨a,xs,e,.inr (SqT.of h1),h2⟩
theorem zahh {K:qB} {neg:Bool}:SO (rIn K neg) (inD neg):=by
 intro A H x y dx dy hA rx ry d fr e Q q
 unfold inD at e
 split at e
 ·rename_i ds hi
  split at e
  ·rename_i h
   cases e
   have rx:=Rp.same (Offs.same A H) _ rx
   obtain ⟨p,xs,rfl,hq,r⟩:=zacx (K:=K) (Rp.same (Offs.same A H) _ ry) hi
   refine ⟨p,xs,rfl,hq,zaoa h.1 rx,zapx h.2 r,?_⟩
   rw [zapz h.1 rx h.2 r]
   refine q _ H (Same.refl _) ?_ (fun z=>by cases z)
   cases neg<;>exact zbb
  ·cases e
 ·cases e
noncomputable def ixD:OF
 | .str z,.int i=>if z.length≤100000 then (atI z.cps.toList i).map fun c=>(.str ⟨#[c]⟩,false) else none
 | .list ds,.int i=>(atI ds i).map fun d=>(d,false)
 | .tuple ds,.int i=>(atI ds i).map fun d=>(d,false)
 | _,_=>none
theorem Rps.atI {H:Hp} {ds:List PyData} {vs:List V} (h:Rps H ds vs) {i:Int} {d:PyData} (e:atI ds i=some d):∃ v,L2.atI vs i=some v∧Rp H d v:=by
 unfold L2.atI at e ⊢
 rw [← h.length]
 cases g:ixN ds.length i with
 | none=>rw [g] at e;cases e
 | some j =>
  rw [g] at e
  exact h.get2 e
theorem zals {K:qB}:SO (rIxU K) ixD:=by
 intro A H x y dx dy hA rx ry d fr e Q q
 unfold ixD at e
 split at e
 ·split at e
  ·rename_i z i hl
   obtain ⟨c,hc,e⟩:=qJ.mp e
   cases e
   cases zkp rx;cases zey ry
   exact ⟨zib hl,c,hc,q _ H (Same.refl _) zbk (fun z=>by cases z)⟩
  ·cases e
 ·obtain ⟨c,hc,e⟩:=qJ.mp e
  cases e
  obtain ⟨p,xs,rfl,hp,r⟩:=zfe rx
  cases zey ry
  obtain ⟨v,hv,rv⟩:=r.atI hc
  exact ⟨xs,v,.inl (SqL.of (zez hp)),hv,q _ H (Same.refl _) rv (fun z=>by cases z)⟩
 ·obtain ⟨c,hc,e⟩:=qJ.mp e
  cases e
  obtain ⟨p,xs,rfl,hp,r⟩:=zec rx
  cases zey ry
  obtain ⟨v,hv,rv⟩:=r.atI hc
  exact ⟨xs,v,.inr (SqT.of (zez hp)),hv,q _ H (Same.refl _) rv (fun z=>by cases z)⟩
 ·cases e
noncomputable def zoa:List (PyData×PyData)→Key→Option PyData
 | [],_=>none
 | (k,d)::r,j=>if keyD k=some j then some d else zoa r j
noncomputable def zaaw (kvs:List (PyData×PyData)) (j:Key):Bool:=(zoa kvs j).isSome
noncomputable def ztu (kvs:List (PyData×PyData)) (k:PyData) (d:PyData):List (PyData×PyData) :=
 if (kvs.any fun kv=>decide (keyD kv.1=keyD k))=true then kvs.map (fun kv=>if keyD kv.1=keyD k then (kv.1,d) else kv) else kvs++[(k,d)]
noncomputable def zng (kvs more:List (PyData×PyData)):List (PyData×PyData):=more.foldl (fun acc kv=>ztu acc kv.1 kv.2) kvs
theorem zmf {H:Hp} {k d:PyData} {r:List (PyData×PyData)} {k':Key} {v:V} {vs:List (Key×V)} (hk:keyD k=some k') (h:Rp H d v) (q:Rpd H r vs):Rpd H ((k,d)::r) ((k',v)::vs):=by
 show Rpd H ((k,d)::r) _
 unfold Rpd;exact ⟨k',v,vs,rfl,hk,h,q⟩
theorem zim {H:Hp} {k d:PyData} {r:List (PyData×PyData)} {ps:List (Key×V)} (h:Rpd H ((k,d)::r) ps):∃ k' v vs,ps=(k',v)::vs∧keyD k=some k'∧Rp H d v∧Rpd H r vs:=by
 unfold Rpd at h;exact h
theorem Rpd.length {H:Hp}:∀ {kvs:List (PyData×PyData)} {ps:List (Key×V)},Rpd H kvs ps→kvs.length=ps.length
 | [],ps,h=>by unfold Rpd at h;subst h;rfl
 | (k,d)::r,ps,h=>by
  obtain ⟨k',v,vs,rfl,_,_,h3⟩:=zim h
  rw [qAc,qAc,h3.length]
theorem Rpd.get {H:Hp} {j:Key}:∀ {kvs:List (PyData×PyData)} {ps:List (Key×V)},Rpd H kvs ps→match zoa kvs j with
  | some d=>∃ v,valV ps j=some v∧Rp H d v
  | none=>valV ps j=none
 | [],ps,h=>by unfold Rpd at h;subst h;rfl
 | (k,d)::r,ps,h=>by
  obtain ⟨k',v,vs,rfl,hk,h2,h3⟩:=zim h
  have ih:=Rpd.get (j:=j) h3
  unfold zoa
  by_cases e:k'=j
  ·rw [if_pos (by rw [hk,e])]
   exact ⟨v,zre e,h2⟩
  ·rw [if_neg (fun z=>e (by rw [hk] at z;exact qr z)),zrf e]
   exact ih
theorem Rpd.any {H:Hp} {j:Key}:∀ {kvs:List (PyData×PyData)} {ps:List (Key×V)},Rpd H kvs ps→(kvs.any fun kv=>decide (keyD kv.1=some j))=ps.any fun kv=>decide (kv.1=j)
 | [],ps,h=>by unfold Rpd at h;subst h;rfl
 | (k,d)::r,ps,h=>by
  obtain ⟨k',v,vs,rfl,hk,h2,h3⟩:=zim h
  rw [qA3,qA3,h3.any,hk]
  congr 1
  simp
theorem Rpd.map {H:Hp} {j:Key} {d':PyData} {v':V} (h':Rp H d' v'):∀ {kvs:List (PyData×PyData)} {ps:List (Key×V)},Rpd H kvs ps→Rpd H (kvs.map fun kv=>if keyD kv.1=some j then (kv.1,d') else kv) (ps.map fun kv=>if kv.1=j then (kv.1,v') else kv)
 | [],ps,h=>by unfold Rpd at h;subst h;exact zpa
 | (k,d)::r,ps,h=>by
  obtain ⟨k',v,vs,rfl,hk,h2,h3⟩:=zim h
  rw [qZ,qZ]
  by_cases e:k'=j
  ·rw [if_pos (show keyD (k,d).1=some j by rw [hk,e]),if_pos (show ((k',v):Key×V).1=j from e)]
   exact zmf hk h' (Rpd.map h' h3)
  ·rw [if_neg (show ¬ keyD (k,d).1=some j from fun z=>e (by rw [hk] at z;exact qr z)),if_neg (show ¬ ((k',v):Key×V).1=j from e)]
   exact zmf hk h2 (Rpd.map h' h3)
theorem Rpd.snoc {H:Hp} {k d:PyData} {k':Key} {v:V} (hk:keyD k=some k') (h':Rp H d v):∀ {kvs:List (PyData×PyData)} {ps:List (Key×V)},Rpd H kvs ps→Rpd H (kvs++[(k,d)]) (ps++[(k',v)])
 | [],ps,h=>by unfold Rpd at h;subst h;exact zmf hk h' zpa
 | (k0,d0)::r,ps,h=>by
  obtain ⟨k1,v1,vs,rfl,hk1,h2,h3⟩:=zim h
  exact zmf hk1 h2 (Rpd.snoc hk h' h3)
theorem Rpd.put {H:Hp} {k d:PyData} {j:Key} {v:V} {kvs:List (PyData×PyData)} {ps:List (Key×V)} (h:Rpd H kvs ps) (hk:keyD k=some j) (h':Rp H d v):Rpd H (ztu kvs k d) (putK ps j v):=by
 unfold ztu putK
 rw [hk,h.any]
 split
 ·exact h.map h'
 ·exact h.snoc hk h'
theorem Rpd.merge {H:Hp}:∀ {more:List (PyData×PyData)} {ps:List (Key×V)} {kvs:List (PyData×PyData)} {qs:List (Key×V)},Rpd H kvs qs→Rpd H more ps→Rpd H (zng kvs more) (znx qs ps)
 | [],ps,kvs,qs,h,g=>by unfold Rpd at g;subst g;exact h
 | (k,d)::r,ps,kvs,qs,h,g=>by
  obtain ⟨k',v,vs,rfl,hk,h2,h3⟩:=zim g
  show Rpd H (zng (ztu kvs k d) r) (znx (putK qs k' v) vs)
  exact Rpd.merge (h.put hk h2) h3
theorem zahi {H:Hp} {d:PyData} {v:V} {k:Key} (h:Rp H d v) (e:keyD d=some k):v=kV k:=by
 cases d<;>first
  | (cases e;unfold Rp at h;exact h)
  | cases e
noncomputable def zavo (a b:EF):EF:=fun env=>(a env).bind fun x=>(b env).bind fun y=>match x.d with
 | .dict kvs=>(keyD y.d).bind fun k=>(zoa kvs k).bind fun d=>some ⟨d,false,bsOf d x.bs⟩
 | _=>none
noncomputable def eDIn (neg:Bool) (a b:EF):EF:=fun env=>(a env).bind fun x=>(b env).bind fun y=>match y.d with
 | .dict kvs=>(keyD x.d).bind fun k=>some ⟨.bool (if neg then !zaaw kvs k else zaaw kvs k),false,[]⟩
 | _=>none
theorem zahj {H:Hp} {kvs:List (PyData×PyData)} {ps:List (Key×V)} (r:Rpd H kvs ps) (k:Key):(valV ps k).isSome=zaaw kvs k:=by
 have g:=r.get (j:=k)
 unfold zaaw
 cases e:zoa kvs k with
 | none=>rw [e] at g;rw [show valV ps k=none from g];rfl
 | some d=>rw [e] at g;obtain ⟨w,e1,_⟩:=g;rw [e1];rfl
theorem zaob {td ty:TE} {fa fb:EF} (ha:SE ty fa) (hb:SE td fb):SE (tDIn ty td) (eDIn false fa fb):=by
 intro fx H0 env σ H h rr hr Q q
 unfold eDIn at hr
 obtain ⟨⟨dx,frx,bx⟩,ex,hr⟩:=qA.mp hr
 obtain ⟨⟨dy,fry,by'⟩,ey,hr⟩:=qA.mp hr
 cases dy with
 | dict kvs =>
  obtain ⟨k,ek,hr⟩:=qA.mp hr
  cases hr
  refine ha fx H0 env σ H h _ ex _ fun v H1 s1 v1=>hb fx H0 env σ H1 (h.up s1) _ ey _ fun u H2 s2 v2=>?_
  obtain ⟨a,ps,rfl,hp,r⟩:=zjk v2.rp
  rw [zahi v1.rp ek]
  exact ⟨a,_,rfl,DGet.k (zez hp),by rw [zahj r k];exact q _ H2 (s1.trans s2) ⟨zbb,fun z=>by cases z⟩⟩
 | _=>cases hr
theorem zxx {td ty:TE} {fa fb:EF} (ha:SE ty fa) (hb:SE td fb):SE (tDNotIn ty td) (eDIn true fa fb):=by
 intro fx H0 env σ H h rr hr Q q
 unfold eDIn at hr
 obtain ⟨⟨dx,frx,bx⟩,ex,hr⟩:=qA.mp hr
 obtain ⟨⟨dy,fry,by'⟩,ey,hr⟩:=qA.mp hr
 cases dy with
 | dict kvs =>
  obtain ⟨k,ek,hr⟩:=qA.mp hr
  cases hr
  refine ha fx H0 env σ H h _ ex _ fun v H1 s1 v1=>hb fx H0 env σ H1 (h.up s1) _ ey _ fun u H2 s2 v2=>?_
  obtain ⟨a,ps,rfl,hp,r⟩:=zjk v2.rp
  rw [zahi v1.rp ek]
  exact ⟨a,_,rfl,DGet.k (zez hp),by rw [zahj r k];exact q _ H2 (s1.trans s2) ⟨zbb,fun z=>by cases z⟩⟩
 | _=>cases hr
noncomputable def zbh (f:EF):TF:=fun env=>(f env).bind fun r=>match r.d with|.bool b=>some b|_=>none
theorem st_b {te:TE} {f:EF} (h:SE te f):ST (tB te) (zbh f):=by
 intro fx H0 env σ H hE b hb Q q
 unfold zbh at hb
 obtain ⟨⟨d,fr,bs⟩,e,hb⟩:=qA.mp hb
 cases d with
 | bool c =>
  have hb:some c=some b:=hb
  cases hb
  exact h fx H0 env σ H hE _ e _ fun v H' s v1=>⟨_,zjl v1.rp,q H' s⟩
 | _=>cases hb
theorem st_t {te:TE} {f:EF} (h:SE te f):ST (tTest te) (zbh f):=st_b h
noncomputable def truD:PyData→Option Bool
 | .none=>some false
 | .bool b=>some b
 | .int i=>some (i != 0)
 | .str x=>if x.length≤100000 then some ((x.length:Int) != 0) else none
 | .list ds=>some (!ds.isEmpty)
 | .tuple ds=>some (!ds.isEmpty)
 | .dict ds=>some (!ds.isEmpty)
noncomputable def tTru (f:EF):TF:=fun env=>(f env).bind fun r=>truD r.d
theorem znh {α β:Type} {xs:List α} {ys:List β} (h:xs.length=ys.length):xs.isEmpty=ys.isEmpty:=by
 cases xs<;>cases ys<;>simp at h<;>rfl
theorem zauy {K:qB} {H:Hp} {d:PyData} {v:V} {b:Bool} (h:Rp H d v) (e:truD d=some b):TruV K v H b:=by
 cases d with
 | none=>cases e;cases zvm h;rfl
 | bool c=>cases e;cases zjl h;rfl
 | int i=>cases e;cases zey h;rfl
 | str x =>
  have e:(if x.length≤100000 then some ((x.length:Int) != 0) else none)=some b:=e
  split at e
  ·rename_i hl;cases e;cases zkp h;exact ⟨zib hl,rfl⟩
  ·cases e
 | list ds=>cases e;obtain ⟨a,xs,rfl,h1,h2⟩:=zfe h;exact .inl ⟨xs,SqL.of h1,by rw [znh h2.length]⟩
 | tuple ds=>cases e;obtain ⟨a,xs,rfl,h1,h2⟩:=zec h;exact .inr (.inl ⟨xs,SqT.of h1,by rw [znh h2.length]⟩)
 | dict ds=>cases e;obtain ⟨a,xs,rfl,h1,h2⟩:=zjk h;exact .inr (.inr ⟨xs,h1,by rw [znh h2.length]⟩)
theorem zfr {K:qB} {te:TE} {f:EF} (h:SE te f):ST (fun σ H Q=>te σ H fun x H1=>∃ k,TruV K x H1 k∧Q k H1) (tTru f):=by
 intro fx H0 env σ H hE b hb Q q
 unfold tTru at hb
 obtain ⟨r,e,hb⟩:=qA.mp hb
 exact h fx H0 env σ H hE _ e _ fun v H' s v1=>⟨b,zauy (Rp.same (Offs.same _ _) _ v1.rp) hb,q H' s⟩
noncomputable def zij (f g:TF):TF:=fun env=>(f env).bind fun b=>if b=true then g env else some false
noncomputable def tOrF (f g:TF):TF:=fun env=>(f env).bind fun b=>if b=true then some true else g env
noncomputable def zfi (f:TF):TF:=fun env=>(f env).map fun b=>!b
theorem zpq {t u:TT} {f g:TF} (h:ST t f) (k:ST u g):ST (tAnd t u) (zij f g):=by
 intro fx H0 env σ H hE b hb Q q
 unfold zij at hb
 obtain ⟨c,e,hb⟩:=qA.mp hb
 refine h fx H0 env σ H hE c e _ fun H' s=>?_
 cases c with
 | true=>exact iteT (k fx H0 env σ H' (hE.up s) b hb _ fun H'' s'=>q H'' (s.trans s'))
 | false=>cases hb;exact iteF (q H' s)
theorem zaax {t u:TT} {f g:TF} (h:ST t f) (k:ST u g):ST (tOr t u) (tOrF f g):=by
 intro fx H0 env σ H hE b hb Q q
 unfold tOrF at hb
 obtain ⟨c,e,hb⟩:=qA.mp hb
 refine h fx H0 env σ H hE c e _ fun H' s=>?_
 cases c with
 | false=>exact iteF (k fx H0 env σ H' (hE.up s) b hb _ fun H'' s'=>q H'' (s.trans s'))
 | true=>cases hb;exact iteT (q H' s)
theorem zje {t:TT} {f:TF} (h:ST t f):ST (tNot t) (zfi f):=by
 intro fx H0 env σ H hE b hb Q q
 unfold zfi at hb
 obtain ⟨c,e,rfl⟩:=qJ.mp hb
 exact h fx H0 env σ H hE c e _ fun H' s=>q H' s
noncomputable def asB:PyData→Option Bool|.bool b=>some b|_=>none
noncomputable def eAnd (a b:EF):EF:=fun env=>(a env).bind fun x=>(asB x.d).bind fun c=>if c=true then b env else some ⟨.bool false,false,[]⟩
noncomputable def eNot (a:EF):EF:=fun env=>(a env).bind fun x=>(asB x.d).map fun c=>⟨.bool (!c),false,[]⟩
theorem as_b {H:Hp} {d:PyData} {v:V} {c:Bool} (h:Rp H d v) (e:asB d=some c):v=.bl c:=by
 cases d<;>first
  | (cases e;exact zjl h)
  | cases e
theorem zpr {ta tb:TE} {fa fb:EF} (ha:SE ta fa) (hb:SE tb fb):SE (tAndV ta tb) (eAnd fa fb):=by
 intro fx H0 env σ H h rr hr Q q
 unfold eAnd at hr
 obtain ⟨x,ex,hr⟩:=qA.mp hr
 obtain ⟨c,ec,hr⟩:=qA.mp hr
 refine ha fx H0 env σ H h _ ex _ fun v H1 s1 v1=>⟨c,as_b v1.rp ec,?_⟩
 cases c with
 | true=>exact iteT (hb fx H0 env σ H1 (h.up s1) _ hr _ fun u H2 s2 v2=>q u H2 (s1.trans s2) (v2.later s1 (Same.refl _) fun _ z=>z))
 | false=>cases hr;exact iteF (q _ H1 s1 ⟨zbb,fun z=>by cases z⟩)
theorem zaoc {ta:TE} {fa:EF} (ha:SE ta fa):SE (tNotV ta) (eNot fa):=by
 intro fx H0 env σ H h rr hr Q q
 unfold eNot at hr
 obtain ⟨x,ex,hr⟩:=qA.mp hr
 obtain ⟨c,ec,rfl⟩:=qJ.mp hr
 exact ha fx H0 env σ H h _ ex _ fun v H1 s1 v1=>⟨c,as_b v1.rp ec,q _ H1 s1 ⟨zbb,fun z=>by cases z⟩⟩
noncomputable def zaay:PyData→Bool|.none=>true|_=>false
noncomputable def eIsN (neg:Bool) (a:EF):EF:=fun env=>(a env).map fun x=>⟨.bool (if neg then !zaay x.d else zaay x.d),false,[]⟩
theorem zauz {H:Hp} {d:PyData} {v:V} (h:Rp H d v):decide (v=.non)=zaay d:=by
 cases d with
 | list ds=>obtain ⟨a,xs,rfl,_⟩:=zfe h;rfl
 | tuple ds=>obtain ⟨a,xs,rfl,_⟩:=zec h;rfl
 | dict ds=>obtain ⟨a,xs,rfl,_⟩:=zjk h;rfl
 | _=>unfold Rp at h;subst h;rfl
theorem zatf {ta:TE} {fa:EF} (ha:SE ta fa):SE (tIsN ta) (eIsN false fa):=by
 intro fx H0 env σ H h rr hr Q q
 unfold eIsN at hr
 obtain ⟨x,ex,rfl⟩:=qJ.mp hr
 refine ha fx H0 env σ H h _ ex _ fun v H1 s1 v1=>?_
 rw [zauz v1.rp]
 exact q _ H1 s1 ⟨zbb,fun z=>by cases z⟩
noncomputable def aNil:AF:=fun _=>some []
noncomputable def zab (a:EF) (r:AF):AF:=fun env=>(a env).bind fun x=>(r env).map fun xs=>x::xs
theorem zal:SA tNil aNil:=by
 intro fx H0 env σ H h rs hr Q q
 cases hr
 exact q [] H (Same.refl _) .nil
theorem zac {te:TE} {ta:TA} {f:EF} {g:AF} (h1:SE te f) (h2:SA ta g):SA (tCons te ta) (zab f g):=by
 intro fx H0 env σ H h rs hr Q q
 unfold zab at hr
 obtain ⟨x,ex,hr⟩:=qA.mp hr
 obtain ⟨xs,exs,rfl⟩:=qJ.mp hr
 exact h1 fx H0 env σ H h x ex _ fun v H1 s1 v1=>h2 fx H0 env σ H1 (h.up s1) xs exs _ fun vs H2 s2 vs2=>q (v::vs) H2 (s1.trans s2)
  (.cons (v1.later (Same.refl _) s2 fun _ z=>z) (Paired.mapP vs2 fun _ _ z=>z.later s1 (Same.refl _) fun _ y=>y))
noncomputable def zni (rs:List Val):List PyData:=rs.map (·.d)
noncomputable def bss (rs:List Val):List Nat:=rs.flatMap (·.bs)
theorem zob {fx:Addr→Prop} {env:DEnv} {σ:St} {H H':Hp}:∀ {rs:List Val} {vs:List V} {cs:List Nat},(∀ i∈bss rs,i∈cs)→Paired (fun r v=>ValOk (lim fx env σ r.bs) H H' r v) rs vs→Rps (Offs (lim fx env σ cs) H') (zni rs) vs
 | _,_,_,_,.nil=>zed
 | r::rs,v::vs,cs,hc,.cons h t=>zdi (Rp.same (Offs.sub (zke fun i hi=>hc i (qBi.mpr ⟨r,qc,hi⟩))) _ h.rp)
   (zob (fun i hi=>hc i (by obtain ⟨x,h1,h2⟩:=qBi.mp hi;exact qBi.mpr ⟨x,qT _ h1,h2⟩)) t)
noncomputable def eTup (f:AF):EF:=fun env=>(f env).bind fun rs=>if rs.length≤100000 then some ⟨.tuple (zni rs),false,bss rs⟩ else none
noncomputable def eLst (f:AF):EF:=fun env=>(f env).bind fun rs=>if rs.length≤100000 then some ⟨.list (zni rs),true,bss rs⟩ else none
theorem zrw (rs:List Val):(zni rs).length=rs.length:=by unfold zni;rw [qC]
theorem zei {ta:TA} {f:AF} (ha:SA ta f):SE (tTup ta) (eTup f):=by
 intro fx H0 env σ H h rr hr Q q
 unfold eTup at hr
 obtain ⟨rs,er,hr⟩:=qA.mp hr
 split at hr
 ·rename_i hl
  cases hr
  refine ha fx H0 env σ H h rs er _ fun vs H1 s1 v1=>?_
  have r:=zob (fun i hi=>hi) v1
  have hA:=(h.up s1).lims (bss rs)
  refine ⟨zib (by rw [← r.length,zrw];exact hl),fun p hp=>q _ _ (s1.trans (Same.new hp)) ⟨zpb hp (zga hA hp) r,fun z=>by cases z⟩⟩
 ·cases hr
theorem zif {ta:TA} {f:AF} (ha:SA ta f):SE (tLst ta) (eLst f):=by
 intro fx H0 env σ H h rr hr Q q
 unfold eLst at hr
 obtain ⟨rs,er,hr⟩:=qA.mp hr
 split at hr
 ·rename_i hl
  cases hr
  refine ha fx H0 env σ H h rs er _ fun vs H1 s1 v1=>?_
  have r:=zob (fun i hi=>hi) v1
  have hA:=(h.up s1).lims (bss rs)
  refine ⟨zib (by rw [← r.length,zrw];exact hl),fun p hp=>q _ _ (s1.trans (Same.new hp)) ⟨zxv hp (zga hA hp) r,fun _=>⟨p,rfl,s1.free hp,zrt hp r⟩⟩⟩
 ·cases hr
noncomputable def zalt:EF:=fun _=>some ⟨.dict [],true,[]⟩
theorem zaaz:SE tDNewK zalt:=by
 intro fx H0 env σ H h rr hr Q q
 cases hr
 intro p hp
 have hA:=h.lims []
 exact q _ _ (Same.new hp) ⟨zoz (by rw [Offs.get (zga hA hp)];exact zbp) zpa,fun _=>⟨p,rfl,hp,⟨[],zbp,zpa⟩⟩⟩
noncomputable def eD1 (k v:EF):EF:=fun env=>(k env).bind fun x=>(v env).bind fun y=>(keyD x.d).bind fun _=>some ⟨.dict [(x.d,y.d)],true,y.bs⟩
theorem zava {tk tv:TE} {f g:EF} (h1:SE tk f) (h2:SE tv g):SE (tDisp [(tk,tv)]) (eD1 f g):=by
 intro fx H0 env σ H h rr hr Q q
 unfold eD1 at hr
 obtain ⟨x,ex,hr⟩:=qA.mp hr
 obtain ⟨y,ey,hr⟩:=qA.mp hr
 obtain ⟨k,ek,hr⟩:=qA.mp hr
 cases hr
 intro p hp
 have hp0:Same H (upd H p (.dK [])):=Same.new hp
 have npf:¬ fx p:=zga h.fxs hp
 have hE:EnvOk (fun b=>fx b∨b=p) H0 env σ (upd H p (.dK [])):=h.grow hp0 (fun b o e n z=>z.elim n fun y=>by rw [y,hp] at e;cases e) fun b z=>by
  rcases z with z|z
  ·obtain ⟨o,e⟩:=h.fxs b z;exact ⟨o,hp0 b o e⟩
  ·rw [z];exact ⟨_,zbp⟩
 refine h1 _ H0 env σ _ hE x ex _ fun v H1 s1 v1=>h2 _ H0 env σ H1 (hE.up s1) y ey _ fun u H2 s2 v2=>?_
 have ep:H2 p=some (.dK []):=(s1.trans s2) _ _ zbp
 refine ⟨ep,[(k,u)],by rw [zahi v1.rp ek];rfl,(by show 1≤15;decide),?_⟩
 have em:znx [] [(k,u)]=[(k,u)]:=rfl
 rw [em]
 have rp2:Rp (Offs (fun b=>lim fx env σ y.bs b∨b=p) (upd H2 p (.dK [(k,u)]))) y.d u:=by
  rw [Offs.upd (.inr rfl)]
  exact Rp.same (Offs.sub fun b z=>by
   rcases z with (z|z)|z
   ·exact .inl (.inl z)
   ·exact .inr z
   ·exact .inl (.inr z)) _ v2.rp
 have hs:Same H (upd H2 p (.dK [(k,u)])):=fun b o e=>by
  rw [zcj (zcg e hp)]
  exact s2 _ _ (s1 _ _ (hp0 _ _ e))
 have hnp:¬ lim fx env σ y.bs p:=zga (h.lims y.bs) hp
 refine q _ _ hs ⟨zoz (by rw [Offs.get hnp];exact zbp) (zmf ek (Rp.same (Offs.sub fun b z=>.inl z) _ rp2) zpa),fun _=>⟨p,rfl,hp,⟨_,zbp,zmf ek rp2 zpa⟩⟩⟩
noncomputable abbrev GF:=List PyData→Option (PyData×Bool)
noncomputable def SC (r:List V→Hp→VK→Prop) (g:GF):Prop:=∀ (A:Addr→Prop) (H:Hp) (vs:List V) (ds:List PyData),(∀ b,A b→∃ o,H b=some o)→Rps (Offs A H) ds vs→∀ d fr,g ds=some (d,fr)→∀ Q:VK,
 (∀ v H',Same H H'→Rp (Offs A H') d v→(fr=true→∃ a,v=.ref a∧H a=none∧zjq (Offs (fun b=>A b∨b=a) H') H' a d)→Q v H')→r vs H Q
noncomputable def eCB (g:GF) (f:AF):EF:=fun env=>(f env).bind fun rs=>(g (zni rs)).bind fun z=>some ⟨z.1,z.2,bsOf z.1 (bss rs)⟩
theorem zdv {r:List V→Hp→VK→Prop} {g:GF} {ta:TA} {f:AF} (hc:SC r g) (ha:SA ta f):SE (tCB r ta) (eCB g f):=by
 intro fx H0 env σ H h rr hr Q q
 unfold eCB at hr
 obtain ⟨rs,er,hr⟩:=qA.mp hr
 obtain ⟨⟨d,fr⟩,ez,hr⟩:=qA.mp hr
 cases hr
 refine ha fx H0 env σ H h rs er _ fun vs H1 s1 v1=>hc (lim fx env σ (bss rs)) H1 vs (zni rs) ((h.up s1).lims _) (zob (fun i hi=>hi) v1) d fr ez _ fun w H3 s3 rp fr3=>q w H3 (s1.trans s3) ⟨zaav rp,fun e=>?_⟩
 obtain ⟨a,g1,g2,g3⟩:=fr3 e
 refine ⟨a,g1,s1.free g2,?_⟩
 have nf:zgv d=false:=by cases d<;>first|rfl|exact g3.elim
 show zjq (Offs (fun b=>lim fx env σ (bsOf d (bss rs)) b∨b=a) H3) H3 a d
 rw [show bsOf d (bss rs)=bss rs by unfold bsOf;rw [if_neg (by rw [nf];decide)]]
 exact g3
theorem rps1 {H:Hp} {d:PyData} {vs:List V} (h:Rps H [d] vs):∃ v,vs=[v]∧Rp H d v:=by
 unfold Rps at h
 obtain ⟨v,ws,rfl,h1,h2⟩:=h
 unfold Rps at h2
 subst h2
 exact ⟨v,rfl,h1⟩
theorem rps2 {H:Hp} {d e:PyData} {vs:List V} (h:Rps H [d,e] vs):∃ v u,vs=[v,u]∧Rp H d v∧Rp H e u:=by
 unfold Rps at h
 obtain ⟨v,ws,rfl,h1,h2⟩:=h
 obtain ⟨u,rfl,h3⟩:=rps1 h2
 exact ⟨v,u,rfl,h1,h3⟩
noncomputable def lenD:GF
 | [.str x]=>if x.length≤100000 then some (.int x.length,false) else none
 | [.list ds]=>some (.int ds.length,false)
 | [.tuple ds]=>some (.int ds.length,false)
 | _=>none
theorem zfa {K:qB}:SC (fun xs H Q=>∃ x n,xs=[x]∧LenV K x H n∧Q (.int n) H) lenD:=by
 intro A H vs ds hA rv d fr e Q q
 unfold lenD at e
 split at e
 ·split at e
  ·rename_i hl
   cases e
   obtain ⟨v,rfl,r⟩:=rps1 rv
   cases zkp r
   exact ⟨_,_,rfl,⟨zib hl,rfl⟩,q _ H (Same.refl _) zag (fun z=>by cases z)⟩
  ·cases e
 ·cases e
  obtain ⟨v,rfl,r⟩:=rps1 rv
  obtain ⟨a,xs,rfl,h1,h2⟩:=zfe r
  exact ⟨_,_,rfl,.inl ⟨xs,SqL.of (zez h1),rfl⟩,by rw [← h2.length];exact q _ H (Same.refl _) zag (fun z=>by cases z)⟩
 ·cases e
  obtain ⟨v,rfl,r⟩:=rps1 rv
  obtain ⟨a,xs,rfl,h1,h2⟩:=zec r
  exact ⟨_,_,rfl,.inr ⟨xs,SqT.of (zez h1),rfl⟩,by rw [← h2.length];exact q _ H (Same.refl _) zag (fun z=>by cases z)⟩
 ·cases e
noncomputable def minD:GF
 | [.int i,.int j]=>some (.int (if j<i then j else i),false)
 | _=>none
theorem zatg:SC (fun xs H Q=>∃ i j,xs=[.int i,.int j]∧Q (.int (if j<i then j else i)) H) minD:=by
 intro A H vs ds hA rv d fr e Q q
 unfold minD at e
 split at e
 ·cases e
  obtain ⟨v,u,rfl,r1,r2⟩:=rps2 rv
  cases zey r1;cases zey r2
  exact ⟨_,_,rfl,q _ H (Same.refl _) zag (fun z=>by cases z)⟩
 ·cases e
noncomputable def zrx:GF
 | [c]=>(zgy c).map fun ds=>(.list ds,true)
 | _=>none
theorem zry {K:qB}:SC (fun xs H Q=>∃ p ys,xs=[.ref p]∧(SqL K H p ys∨SqT K H p ys)∧∀ l,H l=none→Q (.ref l) (upd H l (.lst ys))) zrx:=by
 intro A H vs ds hA rv d fr e Q q
 unfold zrx at e
 split at e
 ·obtain ⟨es,he,e⟩:=qJ.mp e
  cases e
  obtain ⟨v,rfl,r1⟩:=rps1 rv
  obtain ⟨p,xs,rfl,hq,r⟩:=zacx (K:=K) r1 he
  refine ⟨p,xs,rfl,hq.imp (Offs.same A H).seq (SqT.same (Offs.same A H)),fun l hl=>?_⟩
  exact q _ _ (Same.new hl) (zxv hl (zga hA hl) r) fun _=>⟨l,rfl,hl,zrt hl r⟩
 ·cases e
noncomputable def zfs:GF
 | [c]=>(zgy c).map fun ds=>(.tuple ds,false)
 | _=>none
theorem zkf {K:qB}:SC (fun xs H Q=>∃ p ys,xs=[.ref p]∧((SqL K H p ys∧∀ l,H l=none→Q (.ref l) (upd H l (.tup ys)))∨(SqT K H p ys∧Q (.ref p) H))) zfs:=by
 intro A H vs ds hA rv d fr e Q q
 unfold zfs at e
 split at e
 ·obtain ⟨es,he,e⟩:=qJ.mp e
  cases e
  obtain ⟨v,rfl,r1⟩:=rps1 rv
  rename_i c
  cases c with
  | list ds =>
   cases he
   obtain ⟨p,xs,rfl,h1,r⟩:=zfe r1
   exact ⟨p,xs,rfl,.inl ⟨SqL.of (zez h1),fun l hl=>q _ _ (Same.new hl) (zpb hl (zga hA hl) r) (fun z=>by cases z)⟩⟩
  | tuple ds =>
   cases he
   obtain ⟨p,xs,rfl,h1,r⟩:=zec r1
   exact ⟨p,xs,rfl,.inr ⟨SqT.of (zez h1),q _ H (Same.refl _) r1 (fun z=>by cases z)⟩⟩
  | _=>cases he
 ·cases e
noncomputable def zrz:List PyData→Option (List Bool)
 | []=>some []
 | .bool b::r=>(zrz r).map fun bs=>b::bs
 | _=>none
theorem zxy {H:Hp}:∀ {ds:List PyData} {vs:List V} {bs:List Bool},Rps H ds vs→zrz ds=some bs→vs=bs.map V.bl
 | [],vs,bs,h,e=>by unfold Rps at h;cases e;exact h
 | d::ds,vs,bs,h,e=>by
  unfold Rps at h
  obtain ⟨v,ws,rfl,h1,h2⟩:=h
  cases d with
  | bool b =>
   obtain ⟨cs,ec,rfl⟩:=qJ.mp e
   rw [zjl h1,zxy h2 ec];rfl
  | _=>cases e
noncomputable def anyD (f:List Bool→Bool):GF
 | [.list ds]=>(zrz ds).map fun bs=>(.bool (f bs),false)
 | _=>none
theorem zps {K:qB} {f:List Bool→Bool}:SC (rAny K f) (anyD f):=by
 intro A H vs ds hA rv d fr e Q q
 unfold anyD at e
 split at e
 ·obtain ⟨bs,he,e⟩:=qJ.mp e
  cases e
  obtain ⟨v,rfl,r1⟩:=rps1 rv
  obtain ⟨p,xs,rfl,h1,r⟩:=zfe r1
  cases zxy r he
  exact ⟨p,bs,rfl,SqL.of (zez h1),q _ H (Same.refl _) zbb (fun z=>by cases z)⟩
 ·cases e
noncomputable def zpt:PyData→String
 | .none=>"NoneType" | .bool _=>"bool" | .int _=>"int" | .str _=>"str" | .list _=>"list" | .tuple _=>"tuple" | .dict _=>"dict"
theorem zavb {K:qB} {H:Hp} {d:PyData} {v:V} (h:Rp H d v):TyOf K H v (.type (zpt d)):=by
 cases d with
 | list ds=>obtain ⟨a,xs,rfl,h1,_⟩:=zfe h;exact .lst h1
 | tuple ds=>obtain ⟨a,xs,rfl,h1,_⟩:=zec h;exact .tup h1
 | dict ds=>obtain ⟨a,xs,rfl,h1,_⟩:=zjk h;exact .dK h1
 | none=>cases zvm h;exact .non
 | bool b=>cases zjl h;exact .bl _
 | int b=>cases zey h;exact .int _
 | str b=>cases zkp h;exact .str _
noncomputable def isiB (n:String) (d:PyData):Bool:=zpt d==n||(zpt d == "bool" && n == "int")
noncomputable def eIsi (n:String) (a:EF):EF:=fun env=>(a env).map fun x=>⟨.bool (isiB n x.d),false,[]⟩
theorem zmt {K:qB} {n:String} {te:TE} {f:EF} (h1:SE te f) (hk:∀ d,PySem.W.kitOne K (.type (zpt d)) (.type n)=some (isiB n d)) :
  SE (tCB (fun xs H Q=>∃ x n t b,xs=[x,.ty n]∧TyOf K H x t∧PySem.W.kitOne K t (.type n)=some b∧Q (.bl b) H) (tCons te (tCons (tC (.ty n)) tNil))) (eIsi n f):=by
 intro fx H0 env σ H h rr hr Q q
 unfold eIsi at hr
 obtain ⟨x,ex,rfl⟩:=qJ.mp hr
 refine h1 fx H0 env σ H h _ ex _ fun v H1 s1 v1=>?_
 exact ⟨v,n,_,_,rfl,zavb (Rp.same (Offs.same _ _) _ v1.rp),hk _,q _ H1 s1 ⟨zbb,fun z=>by cases z⟩⟩
theorem zacy {K:qB}:∀ d,PySem.W.kitOne K (.type (zpt d)) (.type "list")=some (isiB "list" d):=by intro d;cases d<;>rfl
theorem zoc {K:qB}:∀ d,PySem.W.kitOne K (.type (zpt d)) (.type "tuple")=some (isiB "tuple" d):=by intro d;cases d<;>rfl
theorem zahk {K:qB}:∀ d,PySem.W.kitOne K (.type (zpt d)) (.type "int")=some (isiB "int" d):=by intro d;cases d<;>rfl
theorem zacz {K:qB}:∀ d,PySem.W.kitOne K (.type (zpt d)) (.type "bool")=some (isiB "bool" d):=by intro d;cases d<;>rfl
noncomputable abbrev PF':=DEnv→Option (Option Int)
noncomputable def SPt (t:TO) (f:PF'):Prop:=∀ (fx:Addr→Prop) (H0:Hp) (env:DEnv) (σ:St) (H:Hp),EnvOk fx H0 env σ H→∀ r,f env=some r→∀ Q:Option Int→Hp→Prop,(∀ H',Same H H'→Q r H')→t σ H Q
noncomputable def zgo:PF':=fun _=>some none
noncomputable def zcv (a:EF):PF':=fun env=>(a env).bind fun x=>match x.d with|.int i=>some (some i)|_=>none
theorem zkg:SPt tNoPart zgo:=by
 intro fx H0 env σ H h r hr Q q
 cases hr
 exact q H (Same.refl _)
theorem zgb {te:TE} {f:EF} (h1:SE te f):SPt (tPart te) (zcv f):=by
 intro fx H0 env σ H h r hr Q q
 unfold zcv at hr
 obtain ⟨⟨d,fr,bs⟩,ex,hr⟩:=qA.mp hr
 cases d with
 | int i =>
  cases hr
  exact h1 fx H0 env σ H h _ ex _ fun v H1 s1 v1=>⟨i,zey v1.rp,q H1 s1⟩
 | _=>cases hr
noncomputable def cutD (xs:List PyData) (lo hi:Option Int):List PyData:=(xs.drop (HT.sIx xs.length 0 lo)).take (HT.sIx xs.length xs.length hi - HT.sIx xs.length 0 lo)
theorem Rps.drop {H:Hp} {ds:List PyData} {vs:List V} (h:Rps H ds vs) (n:Nat):Rps H (ds.drop n) (vs.drop n):=by
 induction n generalizing ds vs with
 | zero=>exact h
 | succ n ih =>
  cases ds with
  | nil=>unfold Rps at h;subst h;exact zed
  | cons d ds=>unfold Rps at h;obtain ⟨v,ws,rfl,h1,h2⟩:=h;exact ih h2
theorem Rps.take {H:Hp} {ds:List PyData} {vs:List V} (h:Rps H ds vs) (n:Nat):Rps H (ds.take n) (vs.take n):=by
 induction n generalizing ds vs with
 | zero=>exact zed
 | succ n ih =>
  cases ds with
  | nil=>unfold Rps at h;subst h;exact zed
  | cons d ds=>unfold Rps at h;obtain ⟨v,ws,rfl,h1,h2⟩:=h;exact zdi h1 (ih h2)
theorem Rps.cut {H:Hp} {ds:List PyData} {vs:List V} (h:Rps H ds vs) (lo hi:Option Int):Rps H (cutD ds lo hi) (cutV vs lo hi):=by
 unfold cutD cutV
 rw [← h.length]
 exact (h.drop _).take _
noncomputable def slD (d:PyData) (lo hi:Option Int):Option (PyData×Bool):=match d with
 | .str z=>if z.length≤100000 then some (.str (Txt.slice z lo hi),false) else none
 | .list ds=>some (.list (cutD ds lo hi),true)
 | _=>none
noncomputable def eSl (a:EF) (l h:PF'):EF:=fun env=>(a env).bind fun x=>(l env).bind fun lo=>(h env).bind fun hi=>(slD x.d lo hi).bind fun z=>some ⟨z.1,z.2,bsOf z.1 x.bs⟩
theorem zqu {K:qB} {te:TE} {tl th:TO} {f:EF} {fl fh:PF'} (h1:SE te f) (h2:SPt tl fl) (h3:SPt th fh):SE (tSl (rSlU K) te tl th) (eSl f fl fh):=by
 intro fx H0 env σ H h rr hr Q q
 unfold eSl at hr
 obtain ⟨⟨d,frd,bs⟩,ex,hr⟩:=qA.mp hr
 obtain ⟨lo,el,hr⟩:=qA.mp hr
 obtain ⟨hi,eh,hr⟩:=qA.mp hr
 obtain ⟨⟨d',fr'⟩,ez,hr⟩:=qA.mp hr
 cases hr
 refine h1 fx H0 env σ H h _ ex _ fun v H1 s1 v1=>h2 fx H0 env σ H1 (h.up s1) _ el _ fun H2 s2=>h3 fx H0 env σ H2 (h.up (s1.trans s2)) _ eh _ fun H3 s3=>?_
 have v3:=(v1.later (Same.refl _) (s2.trans s3) fun _ z=>z).rp
 have t3:=(s1.trans s2).trans s3
 cases d with
 | str z =>
  have ez:(if z.length≤100000 then some (PyData.str (Txt.slice z lo hi),false) else none)=some (d',fr'):=ez
  split at ez
  ·rename_i hl
   cases ez
   cases zkp v3
   exact ⟨zib hl,q _ H3 t3 ⟨zbk,fun z=>by cases z⟩⟩
  ·cases ez
 | list ds =>
  cases ez
  obtain ⟨p,xs,rfl,hp,r⟩:=zfe v3
  refine ⟨p,xs,rfl,SqL.of (zez hp),fun l hl=>q _ _ (t3.trans (Same.new hl)) ?_⟩
  have hA:=(h.up t3).lims bs
  exact ⟨zxv hl (zga hA hl) (r.cut lo hi),fun _=>⟨l,rfl,t3.free hl,zrt hl (r.cut lo hi)⟩⟩
 | _=>cases ez
noncomputable def zaez (fx:Addr→Prop) (H0:Hp) (d:PyData) (fr:Bool) (v:V) (H:Hp):Prop:=Rp (Offs fx H) d v∧(fr=true→∃ a,v=.ref a∧H0 a=none∧zjq (Offs (fun b=>fx b∨b=a) H) H a d)
noncomputable def spD (n:Nat) (g:GF):Sp:=fun vs H Q _=>∃ (fx:Addr→Prop) (ds:List PyData) (d:PyData) (fr:Bool),ds.length=n∧(∀ b,fx b→∃ o,H b=some o)∧Rps (Offs fx H) ds vs∧g ds=some (d,fr)∧∀ v H',Same H H'→zaez fx H d fr v H'→Q v H'
noncomputable def zay (n:Nat) (g:GF) (f:AF):EF:=fun env=>(f env).bind fun rs=>if rs.length=n then (g (zni rs)).bind fun z=>some ⟨z.1,z.2,bsOf z.1 (bss rs)⟩ else none
theorem zbe {n:Nat} {g:GF} {ta:TA} {f:AF} (ha:SA ta f):SE (tCall (spD n g) [] E0 ta) (zay n g f):=by
 intro fx H0 env σ H h rr hr Q q
 unfold zay at hr
 obtain ⟨rs,er,hr⟩:=qA.mp hr
 split at hr
 ·rename_i hn
  obtain ⟨⟨d,fr⟩,ez,hr⟩:=qA.mp hr
  cases hr
  refine ha fx H0 env σ H h rs er _ fun vs H1 s1 v1=>?_
  rw [qAg]
  refine ⟨lim fx env σ (bss rs),zni rs,d,fr,by rw [zrw];exact hn,(h.up s1).lims _,zob (fun i hi=>hi) v1,ez,fun w H3 s3 ⟨rp,fr3⟩=>q w H3 (s1.trans s3) ⟨zaav rp,fun e=>?_⟩⟩
  obtain ⟨a,g1,g2,g3⟩:=fr3 e
  refine ⟨a,g1,s1.free g2,?_⟩
  have nf:zgv d=false:=by cases d<;>first|rfl|exact g3.elim
  show zjq (Offs (fun b=>lim fx env σ (bsOf d (bss rs)) b∨b=a) H3) H3 a d
  rw [show bsOf d (bss rs)=bss rs by unfold bsOf;rw [if_neg (by rw [nf];decide)]]
  exact g3
 ·cases hr
inductive Out where
 | nx (env:DEnv)
 | bk (env:DEnv)
 | ct (env:DEnv)
 | rt (d:PyData) (fr:Bool)
noncomputable def Sat (fx:Addr→Prop) (H0:Hp) (D:Ends):Out→Prop
 | .nx env=>∀ σ H,EnvOk fx H0 env σ H→D.nx σ H
 | .bk env=>∀ σ H,EnvOk fx H0 env σ H→D.bk σ H
 | .ct env=>∀ σ H,EnvOk fx H0 env σ H→D.ct σ H
 | .rt d fr=>∀ v H,Same H0 H→zaez fx H0 d fr v H→D.rt v H
noncomputable abbrev SF:=DEnv→Option Out
noncomputable def SS (ts:TS) (F:SF):Prop:=∀ (fx:Addr→Prop) (H0:Hp) (env:DEnv) (σ:St) (H:Hp) (D:Ends),EnvOk fx H0 env σ H→∀ o,F env=some o→Sat fx H0 D o→ts D σ H
noncomputable def frz1 (env:DEnv) (i:Nat):DEnv:=match env[i]? with
 | some (.ac d)=>env.set i (.pl d)
 | _=>env
noncomputable def frzs (env:DEnv) (bs:List Nat):DEnv:=bs.foldl frz1 env
theorem zalu (env:DEnv) (i:Nat):(frz1 env i).length=env.length:=by
 unfold frz1;split
 ·rw [qAB]
 ·rfl
theorem zdq {α:Type} {l:List α} {i j:Nat} {x y:α} (h:(l.set i x)[j]?=some y):(j=i∧y=x)∨(j≠i∧l[j]?=some y):=by
 rw [List.getElem?_set] at h
 by_cases e:i=j
 ·subst e
  rw [if_pos rfl] at h
  split at h
  ·exact .inl ⟨rfl,(qr h).symm⟩
  ·cases h
 ·rw [if_neg e] at h
  exact .inr ⟨fun z=>e z.symm,h⟩
theorem zpc {env:DEnv} {i j:Nat} {d:PyData} (h:(frz1 env i)[j]?=some (.ac d)):env[j]?=some (.ac d)∧j≠i:=by
 unfold frz1 at h
 split at h
 ·rcases zdq h with ⟨_,e⟩|⟨e,h⟩
  ·cases e
  ·exact ⟨h,e⟩
 ·rename_i hn
  refine ⟨h,fun e=>?_⟩
  subst e
  exact hn d h
theorem zaqa {env:DEnv} {i j:Nat} {d:PyData} (h:(frz1 env i)[j]?=some (.pl d)):env[j]?=some (.pl d)∨(j=i∧env[i]?=some (.ac d)):=by
 unfold frz1 at h
 split at h
 ·rename_i d' hd
  rcases zdq h with ⟨e1,e⟩|⟨e,h⟩
  ·cases e;exact .inr ⟨e1,hd⟩
  ·exact .inl h
 ·exact .inl h
theorem zalv {env:DEnv} {σ:St} {i:Nat}:∀ a,own (frz1 env i) σ a→own env σ a:=by
 rintro a ⟨j,d,h1,h2⟩
 exact ⟨j,d,(zpc h1).1,h2⟩
theorem EnvOk.frz1 {fx:Addr→Prop} {H0:Hp} {env:DEnv} {σ:St} {H:Hp} (h:EnvOk fx H0 env σ H) (i:Nat):EnvOk fx H0 (frz1 env i) σ H:=by
 have so:Same (Offs (fun a=>fx a∨own env σ a) H) (Offs (fun a=>fx a∨own (L2.frz1 env i) σ a) H):=Offs.sub fun b z=>z.imp (fun y=>y) (zalv b)
 refine ⟨by rw [zalu];exact h.len,fun j d e=>?_,fun j d e=>?_,fun j k d d' a h1 h2 h3 h4=>h.inj j k d d' a (zpc h1).1 (zpc h2).1 h3 h4,h.base,h.fxs⟩
 ·rcases zaqa e with e|⟨rfl,e⟩
  ·obtain ⟨v,h1,h2⟩:=h.pl j d e
   exact ⟨v,h1,Rp.same so _ h2⟩
  ·obtain ⟨a,h1,h2,h3,h4⟩:=h.ac j d e
   refine ⟨_,h1,h4.rp so fun o eo=>?_⟩
   rw [Offs.get]
   ·exact eo
   ·rintro (z|⟨k,d',z1,z2⟩)
    ·exact h3 z
    ·obtain ⟨z1,z3⟩:=zpc z1
     exact z3 (h.inj k j d' d a z1 e z2 h1)
 ·obtain ⟨a,h1,h2,h3,h4⟩:=h.ac j d (zpc e).1
  exact ⟨a,h1,h2,h3,h4.same so fun o z=>z⟩
theorem EnvOk.frzs {fx:Addr→Prop} {H0:Hp} {σ:St} {H:Hp}:∀ (bs:List Nat) {env:DEnv},EnvOk fx H0 env σ H→EnvOk fx H0 (frzs env bs) σ H
 | [],_,h=>h
 | i::bs,_,h=>EnvOk.frzs bs (h.frz1 i)
theorem zahl:∀ {bs:List Nat} {env:DEnv} {j:Nat} {d:PyData},(frzs env bs)[j]?=some (.ac d)→env[j]?=some (.ac d)∧j∉bs
 | [],_,_,_,h=>⟨h,by simp⟩
 | i::bs,env,j,d,h=>by
  obtain ⟨h1,h2⟩:=zahl (bs:=bs) h
  obtain ⟨h3,h4⟩:=zpc h1
  exact ⟨h3,by simp [h4,h2]⟩
theorem zhr {fx:Addr→Prop} {env:DEnv} {σ:St} {bs:List Nat}:∀ a,fx a∨own (frzs env bs) σ a→lim fx env σ bs a:=by
 rintro a (z|⟨i,d,h1,h2⟩)
 ·exact .inl z
 ·obtain ⟨h3,h4⟩:=zahl h1
  exact .inr ⟨i,d,h4,h3,h2⟩
theorem zahm {env:DEnv} {σ:St} {i:Nat} {d:PyData} {v:V}:∀ a,own (env.set i (.pl d)) (σ.set i (some v)) a→own env σ a:=by
 rintro a ⟨j,e,h1,h2⟩
 rcases zdq h1 with ⟨_,z⟩|⟨ne,h1⟩
 ·cases z
 ·rcases zdq h2 with ⟨z,_⟩|⟨_,h2⟩
  ·exact absurd z ne
  ·exact ⟨j,e,h1,h2⟩
theorem EnvOk.setPl {fx:Addr→Prop} {H0:Hp} {env:DEnv} {σ:St} {H:Hp} (h:EnvOk fx H0 env σ H) (i:Nat) {d:PyData} {v:V} (r:Rp (Offs (fun a=>fx a∨own env σ a) H) d v):EnvOk fx H0 (env.set i (.pl d)) (σ.set i (some v)) H:=by
 have so:Same (Offs (fun a=>fx a∨own env σ a) H) (Offs (fun a=>fx a∨own (env.set i (.pl d)) (σ.set i (some v)) a) H):=Offs.sub fun b z=>z.imp (fun y=>y) (zahm b)
 have kept:∀ {j:Nat},j≠i→(σ.set i (some v))[j]?=σ[j]?:=fun {j} n=>q9 fun z=>n z.symm
 refine ⟨by rw [qAB,qAB];exact h.len,fun j e hj=>?_,fun j e hj=>?_,fun j k d1 d2 a h1 h2 h3 h4=>?_,h.base,h.fxs⟩
 ·rcases zdq hj with ⟨rfl,z⟩|⟨ne,hj'⟩
  ·cases z
   have hl:j<env.length:=by have:=(qN.mp hj).1;rwa [qAB] at this
   exact ⟨v,by rw [qAD (by rw [← h.len];exact hl)],Rp.same so _ r⟩
  ·obtain ⟨u,h1,h2⟩:=h.pl j e hj'
   exact ⟨u,by rw [kept ne];exact h1,Rp.same so _ h2⟩
 ·rcases zdq hj with ⟨_,z⟩|⟨ne,hj'⟩
  ·cases z
  ·obtain ⟨a,h1,h2,h3,h4⟩:=h.ac j e hj'
   exact ⟨a,by rw [kept ne];exact h1,h2,h3,h4.same so fun o z=>z⟩
 ·rcases zdq h1 with ⟨_,z⟩|⟨n1,h1⟩
  ·cases z
  rcases zdq h2 with ⟨_,z⟩|⟨n2,h2⟩
  ·cases z
  rw [kept n1] at h3
  rw [kept n2] at h4
  exact h.inj j k d1 d2 a h1 h2 h3 h4
theorem EnvOk.setAc {fx:Addr→Prop} {H0:Hp} {env:DEnv} {σ:St} {H:Hp} {a:Addr} (h:EnvOk (fun b=>fx b∨b=a) H0 env σ H) (i:Nat) {d:PyData} (r:zjq (Offs (fun b=>(fx b∨own env σ b)∨b=a) H) H a d) (h0:H0 a=none) (hf:¬ fx a) :
  EnvOk fx H0 (env.set i (.ac d)) (σ.set i (some (.ref a))) H:=by
 have kept:∀ {j:Nat},j≠i→(σ.set i (some (V.ref a)))[j]?=σ[j]?:=fun {j} n=>q9 fun z=>n z.symm
 have sub:∀ b,fx b∨own (env.set i (.ac d)) (σ.set i (some (.ref a))) b→(fx b∨b=a)∨own env σ b:=by
  rintro b (z|⟨j,e,h1,h2⟩)
  ·exact .inl (.inl z)
  ·rcases zdq h1 with ⟨rfl,z⟩|⟨ne,h1⟩
   ·have hl:j<env.length:=by have:=(qN.mp ‹(env.set j (.ac d))[j]?=_›).1;rwa [qAB] at this
    rw [qAD (by rw [← h.len];exact hl)] at h2
    cases h2
    exact .inl (.inr rfl)
   ·rw [kept ne] at h2
    exact .inr ⟨j,e,h1,h2⟩
 have so:Same (Offs (fun b=>(fx b∨b=a)∨own env σ b) H) (Offs (fun b=>fx b∨own (env.set i (.ac d)) (σ.set i (some (.ref a))) b) H):=Offs.sub sub
 have so2:Same (Offs (fun b=>(fx b∨own env σ b)∨b=a) H) (Offs (fun b=>fx b∨own (env.set i (.ac d)) (σ.set i (some (.ref a))) b) H):=Offs.sub fun b z=>by
  rcases sub b z with (y|y)|y
  ·exact .inl (.inl y)
  ·exact .inr y
  ·exact .inl (.inr y)
 refine ⟨by rw [qAB,qAB];exact h.len,fun j e hj=>?_,fun j e hj=>?_,fun j k d1 d2 b h1 h2 h3 h4=>?_,h.base,fun b z=>h.fxs b (.inl z)⟩
 ·rcases zdq hj with ⟨_,z⟩|⟨ne,hj'⟩
  ·cases z
  ·obtain ⟨u,h1,h2⟩:=h.pl j e hj'
   exact ⟨u,by rw [kept ne];exact h1,Rp.same so _ h2⟩
 ·rcases zdq hj with ⟨rfl,z⟩|⟨ne,hj'⟩
  ·cases z
   have hl:j<env.length:=by have:=(qN.mp hj).1;rwa [qAB] at this
   exact ⟨a,by rw [qAD (by rw [← h.len];exact hl)],h0,hf,r.same so2 fun o z=>z⟩
  ·obtain ⟨b,h1,h2,h3,h4⟩:=h.ac j e hj'
   exact ⟨b,by rw [kept ne];exact h1,h2,fun z=>h3 (.inl z),h4.same so fun o z=>z⟩
 ·rcases zdq h1 with ⟨e1,z1⟩|⟨n1,h1'⟩<;>rcases zdq h2 with ⟨e2,z2⟩|⟨n2,h2'⟩
  ·rw [e1,e2]
  ·subst e1
   have hl:j<env.length:=by have:=(qN.mp h1).1;rwa [qAB] at this
   rw [qAD (by rw [← h.len];exact hl)] at h3
   rw [kept n2] at h4
   cases h3
   obtain ⟨b,g1,g2,g3,g4⟩:=h.ac k d2 h2'
   rw [h4] at g1
   cases g1
   exact absurd (.inr rfl) g3
  ·subst e2
   have hl:k<env.length:=by have:=(qN.mp h2).1;rwa [qAB] at this
   rw [qAD (by rw [← h.len];exact hl)] at h4
   rw [kept n1] at h3
   cases h4
   obtain ⟨b,g1,g2,g3,g4⟩:=h.ac j d1 h1'
   rw [h3] at g1
   cases g1
   exact absurd (.inr rfl) g3
  ·rw [kept n1] at h3
   rw [kept n2] at h4
   exact h.inj j k d1 d2 b h1' h2' h3 h4
noncomputable def slOf (r:Val):Sl:=if r.fr=true then .ac r.d else .pl r.d
noncomputable def putV (env:DEnv) (i:Nat) (r:Val):DEnv:=(frzs env r.bs).set i (slOf r)
theorem EnvOk.put {fx:Addr→Prop} {H0:Hp} {env:DEnv} {σ:St} {H H':Hp} (h:EnvOk fx H0 env σ H) (s:Same H H') {r:Val} {v:V} (hv:ValOk (lim fx env σ r.bs) H H' r v) (i:Nat):EnvOk fx H0 (putV env i r) (σ.set i (some v)) H':=by
 unfold putV slOf
 cases e:r.fr with
 | false =>
  rw [if_neg qK]
  exact ((h.up s).frzs r.bs).setPl i (Rp.same (Offs.sub zhr) _ hv.rp)
 | true =>
  rw [if_pos rfl]
  obtain ⟨a,rfl,ha,hacc⟩:=hv.fr e
  have nfx:¬ fx a:=zga h.fxs ha
  have g:EnvOk (fun b=>fx b∨b=a) H0 env σ H':=h.grow s (fun b o eo n z=>z.elim n fun y=>by rw [y,ha] at eo;cases eo) fun b z=>by
   rcases z with z|z
   ·obtain ⟨o,eo⟩:=h.fxs b z;exact ⟨o,s b o eo⟩
   ·rw [z];exact hacc.ex
  refine (g.frzs r.bs).setAc i (hacc.same (Offs.sub fun b z=>?_) fun o z=>z) (h.base.free ha) nfx
  rcases z with z|z
  ·exact .inl (zhr b z)
  ·exact .inr z
noncomputable def sNil:SF:=fun env=>some (.nx env)
noncomputable def sSeq (f g:SF):SF:=fun env=>(f env).bind fun o=>match o with
 | .nx env'=>g env'
 | o=>some o
theorem zdm:SS tNext sNil:=by
 intro fx H0 env σ H D h o e q
 cases e
 exact q σ H h
theorem zav {t u:TS} {f g:SF} (h1:SS t f) (h2:SS u g):SS (tSeq t u) (sSeq f g):=by
 intro fx H0 env σ H D h o e q
 unfold sSeq at e
 obtain ⟨o1,e1,e⟩:=qA.mp e
 refine h1 fx H0 env σ H _ h o1 e1 ?_
 cases o1 with
 | nx env'=>exact fun σ' H' h'=>h2 fx H0 env' σ' H' D h' o e q
 | bk env'=>cases e;exact q
 | ct env'=>cases e;exact q
 | rt d fr=>cases e;exact q
noncomputable def zada:SF:=fun _=>none
theorem zadb:SS tNever zada:=by
 intro fx H0 env σ H D h o e q
 cases e
noncomputable def zafa (f:EF):SF:=fun env=>(f env).map fun _=>.nx env
theorem zahn {te:TE} {f:EF} (h1:SE te f):SS (tDrop te) (zafa f):=by
 intro fx H0 env σ H D h o e q
 unfold zafa at e
 obtain ⟨r,er,rfl⟩:=qJ.mp e
 exact h1 fx H0 env σ H h r er _ fun v H' s _=>q σ H' (h.up s)
noncomputable def sRet (f:EF):SF:=fun env=>(f env).map fun r=>.rt r.d r.fr
theorem zca {te:TE} {f:EF} (h1:SE te f):SS (tRet te) (sRet f):=by
 intro fx H0 env σ H D h o e q
 unfold sRet at e
 obtain ⟨r,er,rfl⟩:=qJ.mp e
 refine h1 fx H0 env σ H h r er _ fun v H' s hv=>q v H' (h.base.trans s) ⟨Rp.same (Offs.sub fun b z=>.inl z) _ hv.rp,fun z=>?_⟩
 obtain ⟨a,g1,g2,g3⟩:=hv.fr z
 exact ⟨a,g1,h.base.free g2,g3.same (Offs.sub fun b y=>y.imp .inl id) fun o z=>z⟩
noncomputable def ztv (i:Nat):SF:=fun env=>match env[i]? with
 | some (.pl d)=>some (.rt d false)
 | some (.ac d)=>some (.rt d true)
 | _=>none
theorem znj {i:Nat}:SS (tRet (tVar i)) (ztv i):=by
 intro fx H0 env σ H D h o e q
 unfold ztv at e
 cases ei:env[i]? with
 | none=>rw [ei] at e;cases e
 | some sl =>
  rw [ei] at e
  cases sl with
  | no=>cases e
  | pl d =>
   cases e
   obtain ⟨v,h1,h2⟩:=h.pl i d ei
   exact ⟨v,h1,q v H h.base ⟨Rp.same (Offs.sub fun b z=>.inl z) _ h2,fun z=>by cases z⟩⟩
  | ac d =>
   cases e
   obtain ⟨a,h1,h2,h3,h4⟩:=h.ac i d ei
   refine ⟨_,h1,q _ H h.base ⟨h4.rp (Offs.sub fun b z=>.inl z) fun o eo=>by rw [Offs.get h3];exact eo,fun _=>⟨a,rfl,h2,h4.same (Offs.sub fun b z=>?_) fun o z=>z⟩⟩⟩
   rcases z with z|z
   ·exact .inl z
   ·rw [z];exact .inr ⟨i,d,ei,h1⟩
noncomputable def sIf (c:TF) (f g:SF):SF:=fun env=>(c env).bind fun b=>if b=true then f env else g env
theorem zff {tc:TT} {t u:TS} {c:TF} {f g:SF} (hc:ST tc c) (h1:SS t f) (h2:SS u g):SS (tIfS tc t u) (sIf c f g):=by
 intro fx H0 env σ H D h o e q
 unfold sIf at e
 obtain ⟨b,eb,e⟩:=qA.mp e
 refine hc fx H0 env σ H h b eb _ fun H' s=>?_
 cases b with
 | true=>exact iteT (h1 fx H0 env σ H' D (h.up s) o e q)
 | false=>exact iteF (h2 fx H0 env σ H' D (h.up s) o e q)
noncomputable def sSet (i:Nat) (f:EF):SF:=fun env=>(f env).map fun r=>.nx (putV env i r)
theorem zbq {te:TE} {f:EF} {i:Nat} (h1:SE te f):SS (tAsg te (gName i)) (sSet i f):=by
 intro fx H0 env σ H D h o e q
 unfold sSet at e
 obtain ⟨r,er,rfl⟩:=qJ.mp e
 exact h1 fx H0 env σ H h r er _ fun v H' s hv=>q _ H' (h.put s hv i)
noncomputable abbrev GT:=PyData→DEnv→Option DEnv
noncomputable def SG (g:TG) (f:GT):Prop:=∀ (fx:Addr→Prop) (H0:Hp) (env:DEnv) (σ:St) (H:Hp) (d:PyData) (v:V),EnvOk fx H0 env σ H→Rp (Offs (fun a=>fx a∨own env σ a) H) d v→∀ env',f d env=some env'→∀ Q:St→Hp→Prop,
 (∀ σ',EnvOk fx H0 env' σ' H→Q σ' H)→g v σ H Q
noncomputable abbrev GTs:=List PyData→DEnv→Option DEnv
noncomputable def SGs (g:TGs) (f:GTs):Prop:=∀ (fx:Addr→Prop) (H0:Hp) (env:DEnv) (σ:St) (H:Hp) (ds:List PyData) (vs:List V),EnvOk fx H0 env σ H→Rps (Offs (fun a=>fx a∨own env σ a) H) ds vs→∀ env',f ds env=some env'→∀ Q:St→Hp→Prop,
 (∀ σ',EnvOk fx H0 env' σ' H→Q σ' H)→g vs σ H Q
noncomputable def gN (i:Nat):GT:=fun d env=>some (env.set i (.pl d))
theorem zej {i:Nat}:SG (gName i) (gN i):=by
 intro fx H0 env σ H d v h r env' e Q q
 cases e
 exact q _ (h.setPl i r)
noncomputable def zce:GTs:=fun ds env=>match ds with|[]=>some env|_=>none
noncomputable def zao (i:Nat) (g:GTs):GTs:=fun ds env=>match ds with|d::r=>g r (env.set i (.pl d))|[]=>none
theorem zdc:SGs gNil zce:=by
 intro fx H0 env σ H ds vs h r env' e Q q
 cases ds with
 | nil=>cases e;unfold Rps at r;exact ⟨r,q _ h⟩
 | cons _ _=>cases e
theorem zax {i:Nat} {t:TGs} {g:GTs} (h1:SGs t g):SGs (gCons (gName i) t) (zao i g):=by
 intro fx H0 env σ H ds vs h r env' e Q q
 cases ds with
 | nil=>cases e
 | cons d ds =>
  unfold Rps at r
  obtain ⟨v,ws,rfl,r1,r2⟩:=r
  refine ⟨v,ws,rfl,h1 fx H0 (env.set i (.pl d)) _ H ds ws (h.setPl i r1) (Rps.same (Offs.sub fun b z=>z.imp (fun y=>y) (zahm b)) _ r2) env' e Q q⟩
noncomputable def gT (n:Nat) (g:GTs):GT:=fun d env=>match d with|.tuple ds=>if ds.length=n then g ds env else none|_=>none
theorem zek {K:qB} {n:Nat} {t:TGs} {g:GTs} (h1:SGs t g):SG (gTup K n t) (gT n g):=by
 intro fx H0 env σ H d v h r env' e Q q
 unfold gT at e
 cases d with
 | tuple ds =>
  have e:(if ds.length=n then g ds env else none)=some env':=e
  split at e
  ·rename_i hn
   obtain ⟨a,xs,rfl,ha,rs⟩:=zec r
   exact ⟨a,xs,rfl,SqT.of (zez ha),by rw [← rs.length];exact hn,h1 fx H0 env σ H ds xs h rs env' e Q q⟩
  ·cases e
 | _=>cases e
noncomputable def sAsg (f:EF) (g:GT):SF:=fun env=>(f env).bind fun r=>(g r.d (frzs env r.bs)).map .nx
theorem zaho {te:TE} {f:EF} {g:TG} {gf:GT} (h1:SE te f) (h2:SG g gf):SS (tAsg te g) (sAsg f gf):=by
 intro fx H0 env σ H D h o e q
 unfold sAsg at e
 obtain ⟨r,er,e⟩:=qA.mp e
 obtain ⟨env',e',rfl⟩:=qJ.mp e
 exact h1 fx H0 env σ H h r er _ fun v H' s hv=>h2 fx H0 _ σ H' r.d v ((h.up s).frzs r.bs) (Rp.same (Offs.sub zhr) _ hv.rp) env' e' _ fun σ' h'=>q σ' H' h'
theorem EnvOk.mut {fx:Addr→Prop} {H0:Hp} {env:DEnv} {σ:St} {H:Hp} (h:EnvOk fx H0 env σ H) {i:Nat} {d d':PyData} {a:Addr} {o:HO} (e:env[i]?=some (.ac d)) (ea:σ[i]?=some (some (.ref a)))
  (r:zjq (Offs (fun b=>fx b∨own env σ b) H) (upd H a o) a d'):EnvOk fx H0 (env.set i (.ac d')) σ (upd H a o):=by
 have hl:i<env.length:=(qN.mp e).1
 have oa:own env σ a:=⟨i,d,e,ea⟩
 have ow:∀ b,own (env.set i (.ac d')) σ b↔own env σ b:=by
  intro b
  constructor
  ·rintro ⟨j,d1,h1,h2⟩
   rcases zdq h1 with ⟨rfl,z⟩|⟨ne,h1⟩
   ·exact ⟨j,d,e,h2⟩
   ·exact ⟨j,d1,h1,h2⟩
  ·rintro ⟨j,d1,h1,h2⟩
   by_cases hj:j=i
   ·subst hj;exact ⟨j,d',by rw [qAD hl],h2⟩
   ·exact ⟨j,d1,by rw [q9 fun z=>hj z.symm];exact h1,h2⟩
 have so:Same (Offs (fun b=>fx b∨own env σ b) H) (Offs (fun b=>fx b∨own (env.set i (.ac d')) σ b) (upd H a o)):=by
  have:Same (Offs (fun b=>fx b∨own env σ b) (upd H a o)) (Offs (fun b=>fx b∨own (env.set i (.ac d')) σ b) (upd H a o)):=Offs.sub fun b z=>z.imp (fun y=>y) (ow b).mp
  rw [Offs.upd (.inr oa)] at this
  exact this
 obtain ⟨a',g1,g2,g3,g4⟩:=h.ac i d e
 rw [ea] at g1
 cases g1
 refine ⟨by rw [qAB];exact h.len,fun j d1 hj=>?_,fun j d1 hj=>?_,fun j k d1 d2 b h1 h2 h3 h4=>?_,fun b u eb=>by rw [zcj (zcg eb g2)];exact h.base b u eb,fun b z=>?_⟩
 ·rcases zdq hj with ⟨_,z⟩|⟨ne,hj'⟩
  ·cases z
  ·obtain ⟨u,h1,h2⟩:=h.pl j d1 hj'
   exact ⟨u,h1,Rp.same so _ h2⟩
 ·rcases zdq hj with ⟨rfl,z⟩|⟨ne,hj'⟩
  ·cases z
   exact ⟨a,ea,g2,g3,r.same so fun o z=>z⟩
  ·obtain ⟨b,h1,h2,h3,h4⟩:=h.ac j d1 hj'
   refine ⟨b,h1,h2,h3,h4.same so fun o' z=>?_⟩
   rw [zcj fun y=>ne (h.inj j i d1 d a hj' e (by rw [← y];exact h1) ea)]
   exact z
 ·have f:∀ {j:Nat} {d1:PyData},(env.set i (.ac d'))[j]?=some (.ac d1)→∃ d2,env[j]?=some (.ac d2):=fun {j d1} hj=>by
   rcases zdq hj with ⟨rfl,z⟩|⟨ne,hj'⟩
   ·exact ⟨d,e⟩
   ·exact ⟨d1,hj'⟩
  obtain ⟨e1,h1⟩:=f h1
  obtain ⟨e2,h2⟩:=f h2
  exact h.inj j k e1 e2 b h1 h2 h3 h4
 ·obtain ⟨u,eu⟩:=h.fxs b z
  exact ⟨u,by rw [zcj fun y=>g3 (by rw [← y];exact z)];exact eu⟩
noncomputable def sApp (i:Nat) (f:EF):SF:=fun env=>match env[i]? with
 | some (.ac (.list ds))=>(f env).bind fun r=>if ds.length<100000∧i∉r.bs then some (.nx ((frzs env r.bs).set i (.ac (.list (ds++[r.d]))))) else none
 | _=>none
theorem zod {env:DEnv} {i:Nat} {d:PyData}:∀ {bs:List Nat},i∉bs→env[i]?=some (.ac d)→(frzs env bs)[i]?=some (.ac d):=by
 intro bs
 induction bs generalizing env with
 | nil=>intro _ e;exact e
 | cons j bs ih =>
  intro hn e
  have hj:i≠j:=fun z=>hn (by simp [z])
  refine ih (fun z=>hn (qT _ z)) ?_
  unfold frz1
  split
  ·rw [q9 fun z=>hj z.symm];exact e
  ·exact e
theorem zjf {K:qB} {i:Nat} {te:TE} {f:EF} (h1:SE te f):SS (tDrop (tBM K "list" zaaq (tVar i) (tCons te tNil))) (sApp i f):=by
 intro fx H0 env σ H D h o e q
 unfold sApp at e
 split at e
 ·rename_i ds ei
  obtain ⟨r,er,e⟩:=qA.mp e
  split at e
  ·rename_i hl
   cases e
   obtain ⟨a,g1,g2,g3,g4⟩:=h.ac i _ ei
   obtain ⟨xs,hx,rx⟩:=g4
   refine ⟨_,g1,.inl ⟨rfl,_,SqL.of hx⟩,h1 fx H0 env σ H h r er _ fun v H' s hv=>?_⟩
   have h':=(h.up s).frzs r.bs
   have ei':=zod hl.2 ei
   have hx':=s _ _ hx
   have rx':Rps (Offs (fun b=>fx b∨own (frzs env r.bs) σ b) H') ds xs:=by
    obtain ⟨a',z1,_,_,z4⟩:=h'.ac i _ ei'
    rw [g1] at z1
    cases z1
    obtain ⟨ys,y1,y2⟩:=z4
    rw [hx'] at y1
    cases y1
    exact y2
   refine ⟨a,xs,v,rfl,rfl,hx',zrs (by rw [← rx.length];exact hl.1),?_⟩
   refine q σ _ (h'.mut ei' g1 ⟨_,zbp,rx'.append (zdi (Rp.same (Offs.sub zhr) _ hv.rp) zed)⟩)
  ·cases e
 ·cases e
noncomputable def sPut (i:Nat) (fk fv:EF):SF:=fun env=>match env[i]? with
 | some (.ac (.dict kvs))=>(fv env).bind fun r=>(fk env).bind fun k=>(keyD k.d).bind fun _=>if kvs.length<100000∧i∉r.bs then some (.nx ((frzs env r.bs).set i (.ac (.dict (ztu kvs k.d r.d))))) else none
 | _=>none
theorem zaod {i:Nat} {tk tv:TE} {fk fv:EF} (h1:SE tk fk) (h2:SE tv fv):SS (sDPut (tVar i) tk tv) (sPut i fk fv):=by
 intro fx H0 env σ H D h o e q
 unfold sPut at e
 split at e
 ·rename_i kvs ei
  obtain ⟨r,er,e⟩:=qA.mp e
  obtain ⟨k,ek,e⟩:=qA.mp e
  obtain ⟨kk,ekk,e⟩:=qA.mp e
  split at e
  ·rename_i hl
   cases e
   obtain ⟨a,g1,g2,g3,g4⟩:=h.ac i _ ei
   obtain ⟨ps,hx,rx⟩:=g4
   refine h2 fx H0 env σ H h r er _ fun v H' s hv=>⟨_,g1,h1 fx H0 env σ H' (h.up s) k ek _ fun u H2 s2 hk=>?_⟩
   have t2:=s.trans s2
   have h':=(h.up t2).frzs r.bs
   have ei':=zod hl.2 ei
   have hx':=t2 _ _ hx
   have rx':Rpd (Offs (fun b=>fx b∨own (frzs env r.bs) σ b) H2) kvs ps:=by
    obtain ⟨a',z1,_,_,z4⟩:=h'.ac i _ ei'
    rw [g1] at z1
    cases z1
    obtain ⟨ys,y1,y2⟩:=z4
    rw [hx'] at y1
    cases y1
    exact y2
   rw [zahi hk.rp ekk]
   refine ⟨a,_,rfl,DPut.k hx' (zrs (by rw [← rx.length];exact hl.1)),?_⟩
   refine q σ _ (h'.mut ei' g1 ⟨_,zbp,rx'.put ekk (Rp.same (Offs.sub zhr) _ (hv.later (Same.refl _) s2 fun _ z=>z).rp)⟩)
  ·cases e
 ·cases e
noncomputable def sUpd (i:Nat) (f:EF):SF:=fun env=>match env[i]? with
 | some (.ac (.dict kvs))=>(f env).bind fun r=>match r.d with
  | .dict more=>if kvs.length+more.length≤100000∧i∉r.bs then some (.nx ((frzs env r.bs).set i (.ac (.dict (zng kvs more))))) else none
  | _=>none
 | _=>none
theorem zaoe {K:qB} {i:Nat} {te:TE} {f:EF} (h1:SE te f):SS (tDrop (tBM K "dict" zagz (tVar i) (tCons te tNil))) (sUpd i f):=by
 intro fx H0 env σ H D h o e q
 unfold sUpd at e
 split at e
 ·rename_i kvs ei
  obtain ⟨⟨rd,rfr,rbs⟩,er,e⟩:=qA.mp e
  cases rd with
  | dict more =>
   have e:(if kvs.length+more.length≤100000∧i∉rbs then some (Out.nx ((frzs env rbs).set i (.ac (.dict (zng kvs more))))) else none)=some o:=e
   split at e
   ·rename_i hl
    cases e
    obtain ⟨a,g1,g2,g3,g4⟩:=h.ac i _ ei
    obtain ⟨ps,hx,rx⟩:=g4
    refine ⟨_,g1,.inr (.inr (.inl ⟨rfl,.inl ⟨_,hx⟩⟩)),h1 fx H0 env σ H h _ er _ fun v H' s hv=>?_⟩
    have h':=(h.up s).frzs rbs
    have ei':=zod hl.2 ei
    have hx':=s _ _ hx
    have rx':Rpd (Offs (fun b=>fx b∨own (frzs env rbs) σ b) H') kvs ps:=by
     obtain ⟨a',z1,_,_,z4⟩:=h'.ac i _ ei'
     rw [g1] at z1
     cases z1
     obtain ⟨ys,y1,y2⟩:=z4
     rw [hx'] at y1
     cases y1
     exact y2
    obtain ⟨b,qs,rfl,hb,rb⟩:=zjk (Rp.same (Offs.sub zhr) _ hv.rp)
    have hab:a≠b:=fun z=>by
     subst z
     exact (Offs.of hb).1 (.inr ⟨i,_,ei',g1⟩)
    refine ⟨a,b,ps,qs,rfl,rfl,hab,hx',zez hb,zib (by rw [← rx.length,← rb.length];exact hl.1),?_⟩
    exact q σ _ (h'.mut ei' g1 ⟨_,zbp,rx'.merge rb⟩)
   ·cases e
  | _=>cases e
 ·cases e
noncomputable def sRev (i:Nat):SF:=fun env=>match env[i]? with
 | some (.ac (.list ds))=>some (.nx (env.set i (.ac (.list ds.reverse))))
 | _=>none
theorem Rps.reverse {H:Hp} {ds:List PyData} {vs:List V} (h:Rps H ds vs):Rps H ds.reverse vs.reverse:=by
 replace h:=zeg.mp h
 induction h with
 | nil=>exact zed
 | cons h _ ih=>rw [qBa,qBa];exact ih.append (zdi h zed)
theorem zath {K:qB} {i:Nat}:SS (tDrop (tBM0 K "list" zact (tVar i))) (sRev i):=by
 intro fx H0 env σ H D h o e q
 unfold sRev at e
 split at e
 ·rename_i ds ei
  cases e
  obtain ⟨a,g1,g2,g3,g4⟩:=h.ac i _ ei
  obtain ⟨xs,hx,rx⟩:=g4
  exact ⟨_,g1,.inl ⟨rfl,_,SqL.of hx⟩,a,xs,rfl,rfl,hx,q σ _ (h.mut ei g1 ⟨_,zbp,rx.reverse⟩)⟩
 ·cases e
theorem EnvOk.rebase {fx:Addr→Prop} {H0:Hp} {env:DEnv} {σ:St} {H:Hp} (h:EnvOk fx H0 env σ H):EnvOk fx (Offs (own env σ) H) env σ H:=by
 refine ⟨h.len,h.pl,fun i d e=>?_,h.inj,Offs.same _ _,h.fxs⟩
 obtain ⟨a,h1,h2,h3,h4⟩:=h.ac i d e
 exact ⟨a,h1,Offs.out ⟨i,d,e,h1⟩,h3,h4⟩
theorem EnvOk.floor {fx:Addr→Prop} {H0:Hp} {env:DEnv} {σ:St} {H:Hp} (h:EnvOk fx H0 env σ H):Same H0 (Offs (own env σ) H):=fun b o e=>by
 rw [Offs.get]
 ·exact h.base b o e
 ·rintro ⟨i,d,h1,h2⟩
  obtain ⟨a,g1,g2,_⟩:=h.ac i d h1
  rw [h2] at g1
  cases g1
  rw [g2] at e
  cases e
theorem EnvOk.unbase {fx:Addr→Prop} {H0 F:Hp} {env:DEnv} {σ:St} {H:Hp} (h:EnvOk fx F env σ H) (s:Same H0 F):EnvOk fx H0 env σ H:=by
 refine ⟨h.len,h.pl,fun i d e=>?_,h.inj,s.trans h.base,h.fxs⟩
 obtain ⟨a,h1,h2,h3,h4⟩:=h.ac i d e
 exact ⟨a,h1,s.free h2,h3,h4⟩
theorem zaez.unbase {fx:Addr→Prop} {H0 F:Hp} {d:PyData} {fr:Bool} {v:V} {H:Hp} (h:zaez fx F d fr v H) (s:Same H0 F):zaez fx H0 d fr v H :=
 ⟨h.1,fun e=>let ⟨a,h1,h2,h3⟩:=h.2 e;⟨a,h1,s.free h2,h3⟩⟩
theorem EnvOk.seen {fx:Addr→Prop} {env env':DEnv} {σ σ':St} {H H':Hp} (h:EnvOk fx (Offs (own env σ) H) env' σ' H'):Same (Offs (fun b=>fx b∨own env σ b) H) (Offs (fun b=>fx b∨own env' σ' b) H'):=fun b o e=>by
 obtain ⟨h1,h2⟩:=Offs.of e
 have hF:Offs (own env σ) H b=some o:=by rw [Offs.get fun z=>h1 (.inr z)];exact h2
 rw [Offs.get]
 ·exact h.base b o hF
 ·rintro (z|⟨i,d,g1,g2⟩)
  ·exact h1 (.inl z)
  ·obtain ⟨a,k1,k2,_⟩:=h.ac i d g1
   rw [g2] at k1
   cases k1
   rw [k2] at hF
   cases hF
theorem EnvOk.all {fx:Addr→Prop} {H0:Hp} {env:DEnv} {σ:St} {H:Hp} (h:EnvOk fx H0 env σ H):∀ b,fx b∨own env σ b→∃ o,H b=some o:=fun b z=>h.lims [] b (zapv b z)
noncomputable def Yl (A0:Addr→Prop) (H1:Hp) (J:It) (ds:List PyData):Prop:=∀ (A:Addr→Prop) (H':Hp),(∀ b,A b→∃ o,H' b=some o)→Same (Offs A0 H1) (Offs A H') →
 (∀ i d,ds[i]?=some d→J.go i H'∧∀ x H'',J.yld i H' x H''→Same H' H''∧Rp (Offs A H'') d x)∧J.stop ds.length H'
noncomputable abbrev IF':=DEnv→Option (List PyData×List Nat)
noncomputable def SI (wi:TI) (f:IF'):Prop:=∀ (fx:Addr→Prop) (H0:Hp) (env:DEnv) (σ:St) (H:Hp),EnvOk fx H0 env σ H→∀ ds bs,f env=some (ds,bs)→∀ R:It→Hp→Prop,
 (∀ J H1,Same H H1→Yl (fun b=>fx b∨own (frzs env bs) σ b) H1 J ds→R J H1)→wi σ H R
noncomputable def iSeq (K:qB) (te:TE):TI:=fun σ H R=>te σ H fun x H1=>∃ a,x=.ref a∧((∃ xs,SqL K H1 a xs)∧R (Itl K a) H1∨(∃ xs,SqT K H1 a xs)∧R (Itt K a) H1)
theorem zati {X:Cx} {tg l:Expr} {tl:TE} (hl:PE X l tl):PI X tg l (iSeq X.K tl):=by
 intro pins s σ H R I h
 refine thn (hl pins s σ H _ I h) fun v s1 ⟨x,H1,I1,r1,q1⟩=>?_
 obtain ⟨a,e,q⟩:=q1
 subst e
 cases r1
 rcases q with ⟨⟨xs,hq⟩,q⟩|⟨⟨xs,hq⟩,q⟩
 ·obtain ⟨its,rv,p,hz⟩:=I1.list hq
  refine qAs p.isList ?_
  refine ⟨s1.heap.objs.size,[s1.heap.objs.size],_,_,H1,rfl,I1.kept (t':=s1.toks) fun b o e=>qH _ e,zxf a _,⟨_,qq _ rfl,rfl,rfl⟩,fun b hb=>?_,q⟩
  have e:b=s1.heap.objs.size:=by simpa using hb
  subst e
  exact I1.fpOk (qO _) (I1.hok.fresh (qO _))
 ·obtain ⟨its,rv,p,hz⟩:=I1.tuple hq
  refine qAo (show s1.heap.IsTuple a its.toArray from p) ?_
  refine ⟨s1.heap.objs.size,[s1.heap.objs.size],_,_,H1,rfl,I1.kept (t':=s1.toks) fun b o e=>qH _ e,zaeo a _,⟨_,qq _ rfl,rfl,rfl⟩,fun b hb=>?_,q⟩
  have e:b=s1.heap.objs.size:=by simpa using hb
  subst e
  exact I1.fpOk (qO _) (I1.hok.fresh (qO _))
theorem zaqb {X:Cx} {K:qB} (hK:X.K=K) {tg l:Expr} {tl:TE} (hl:PE X l tl):PI X tg l (iSeq K tl):=by subst hK;exact zati hl
noncomputable def zaw (f:EF):IF':=fun env=>(f env).bind fun r=>(zgy r.d).map fun ds=>(ds,r.bs)
theorem zaqc {K:qB} {A0:Addr→Prop} {H1:Hp} {a:Addr} {ds:List PyData} {xs:List V} (h:Offs A0 H1 a=some (.lst xs)) (r:Rps (Offs A0 H1) ds xs):Yl A0 H1 (Itl K a) ds:=by
 intro A H' hA s
 have ha:=zez (s _ _ h)
 have r':=Rps.same s _ r
 refine ⟨fun i d e=>?_,⟨xs,SqL.of ha,by rw [r.length];exact qO _⟩⟩
 obtain ⟨v,hv,rv⟩:=r'.get2 e
 refine ⟨⟨xs,v,SqL.of ha,hv⟩,fun x H'' y=>?_⟩
 obtain ⟨rfl,y⟩:=y
 have:=y xs (SqL.of ha)
 rw [hv] at this
 cases this
 exact ⟨Same.refl _,rv⟩
theorem zatj {K:qB} {A0:Addr→Prop} {H1:Hp} {a:Addr} {ds:List PyData} {xs:List V} (h:Offs A0 H1 a=some (.tup xs)) (r:Rps (Offs A0 H1) ds xs):Yl A0 H1 (Itt K a) ds:=by
 intro A H' hA s
 have ha:=zez (s _ _ h)
 have r':=Rps.same s _ r
 refine ⟨fun i d e=>?_,⟨xs,SqT.of ha,by rw [r.length];exact qO _⟩⟩
 obtain ⟨v,hv,rv⟩:=r'.get2 e
 refine ⟨⟨xs,v,SqT.of ha,hv⟩,fun x H'' y=>?_⟩
 obtain ⟨rfl,y⟩:=y
 have:=y xs (SqT.of ha)
 rw [hv] at this
 cases this
 exact ⟨Same.refl _,rv⟩
theorem zdj {K:qB} {te:TE} {f:EF} (h1:SE te f):SI (iSeq K te) (zaw f):=by
 intro fx H0 env σ H h ds bs e R q
 unfold zaw at e
 obtain ⟨⟨d,fr,bs'⟩,er,e⟩:=qA.mp e
 obtain ⟨es,he,e⟩:=qJ.mp e
 cases e
 refine h1 fx H0 env σ H h _ er _ fun v H1 s hv=>?_
 have rp:=Rp.same (Offs.sub (zhr (bs:=bs'))) _ hv.rp
 cases d with
 | list ds =>
  cases he
  obtain ⟨a,xs,rfl,ha,r⟩:=zfe rp
  exact ⟨a,rfl,.inl ⟨⟨xs,SqL.of (zez ha)⟩,q _ H1 s (zaqc ha r)⟩⟩
 | tuple ds =>
  cases he
  obtain ⟨a,xs,rfl,ha,r⟩:=zec rp
  exact ⟨a,rfl,.inr ⟨⟨xs,SqT.of (zez ha)⟩,q _ H1 s (zatj ha r)⟩⟩
 | _=>cases he
noncomputable def zpd (ds:List PyData):List PyData:=ds.zipIdx.map fun p=>.tuple [.int p.2,p.1]
noncomputable def zpu (f:AF):IF':=fun env=>(f env).bind fun rs=>match rs with
 | [r]=>match r.d with
  | .list ds=>some (zpd ds,r.bs)
  | _=>none
 | _=>none
noncomputable def zsa (lo:Int) (n:Nat):List PyData:=(List.range n).map fun (k:Nat)=>.int (lo+(k:Int))
theorem zalw {A0:Addr→Prop} {H1:Hp} {lo:Int} {n:Nat}:Yl A0 H1 (Itr lo n) (zsa lo n):=by
 intro A H' hA s
 have hl:(zsa lo n).length=n:=by unfold zsa;simp
 refine ⟨fun i d e=>?_,by rw [hl];exact qO _⟩
 unfold zsa at e
 rw [qR] at e
 by_cases hi:i<n
 ·rw [qBu hi] at e
  cases e
  exact ⟨hi,fun x H'' ⟨e1,e2⟩=>by subst e1;subst e2;exact ⟨Same.refl _,zag⟩⟩
 ·rw [qCo (by simpa using hi)] at e
  cases e
noncomputable def zic (f:AF):IF':=fun env=>(f env).bind fun rs=>match rs with
 | [⟨.int j,_,_⟩]=>if -(2 ^ 62)≤j∧j<2 ^ 62 then some (zsa 0 j.toNat,[]) else none
 | _=>none
theorem zsb {ta:TA} {f:AF} (h1:SA ta f):SI (iRng1 ta) (zic f):=by
 intro fx H0 env σ H h ds bs e R q
 unfold zic at e
 obtain ⟨rs,er,e⟩:=qA.mp e
 split at e
 ·split at e
  ·rename_i hj
   cases e
   refine h1 fx H0 env σ H h _ er _ fun vs H1 s hv=>?_
   cases hv with
   | cons hv t =>
    cases t
    cases zey hv.rp
    exact ⟨_,rfl,hj.1,hj.2,q _ H1 s zalw⟩
  ·cases e
 ·cases e
noncomputable def forL (g:GT) (body:SF):List PyData→DEnv→Option Out
 | [],env=>some (.nx env)
 | d::ds,env=>(g d env).bind fun e1=>(body e1).bind fun o=>match o with
  | .nx e2=>forL g body ds e2
  | .ct e2=>forL g body ds e2
  | .bk e2=>some (.nx e2)
  | .rt d fr=>some (.rt d fr)
noncomputable def sFor (f:IF') (g:GT) (body:SF):SF:=fun env=>(f env).bind fun z=>forL g body z.1 (frzs env z.2)
theorem zgz {wi:TI} {g:TG} {tb:TS} {f:IF'} {gf:GT} {body:SF} (h1:SI wi f) (h2:SG g gf) (h3:SS tb body):SS (tFor wi g tb) (sFor f gf body):=by
 intro fx H0 env σ H D h o e q
 unfold sFor at e
 obtain ⟨⟨ds,bs⟩,er,e⟩:=qA.mp e
 refine h1 fx H0 env σ H h ds bs er _ fun J H1 s yl=>?_
 have hE:=(h.up s).frzs bs
 have fl:=hE.floor
 refine ⟨fun i m σ' H'=>m=ds.length - i∧i≤ds.length∧∃ env',forL gf body (ds.drop i) env'=some o∧EnvOk fx (Offs (own (frzs env bs) σ) H1) env' σ' H',⟨ds.length,rfl,qAd _,_,e,hE.rebase⟩,?_⟩
 rintro i m σ' H' ⟨rfl,hi,env',e',h'⟩
 obtain ⟨yi,ys⟩:=yl _ H' h'.all h'.seen
 by_cases hlt:i<ds.length
 ·obtain ⟨yg,yy⟩:=yi i ds[i] (qE hlt)
  refine .inr ⟨yg,fun σ'' H''=>i+1≤ds.length∧∃ env'',forL gf body (ds.drop (i+1)) env''=some o∧EnvOk fx (Offs (own (frzs env bs) σ) H1) env'' σ'' H'',?_,?_⟩
  ·rintro σ'' H'' ⟨hle,env'',e'',h''⟩
   exact ⟨ds.length - (i+1),by omega,rfl,hle,env'',e'',h''⟩
  ·intro x H'' hy
   obtain ⟨sy,ry⟩:=yy x H'' hy
   rw [qAv hlt] at e'
   obtain ⟨e1,ee1,e'⟩:=qA.mp e'
   obtain ⟨o1,eo1,e'⟩:=qA.mp e'
   refine h2 fx _ env' σ' H'' _ x (h'.up sy) ry e1 ee1 _ fun σ2 h2'=>h3 fx _ e1 σ2 H'' _ h2' o1 eo1 ?_
   cases o1 with
   | nx e2=>exact fun σ3 H3 hh=>⟨hlt,e2,e',hh⟩
   | ct e2=>exact fun σ3 H3 hh=>⟨hlt,e2,e',hh⟩
   | bk e2=>cases e';exact fun σ3 H3 hh=>q σ3 H3 (hh.unbase fl)
   | rt d fr=>cases e';exact fun v H3 sh rt=>q v H3 (fl.trans sh) (rt.unbase fl)
 ·have hi':i=ds.length:=by omega
  subst hi'
  rw [qBD] at e'
  cases e'
  exact .inl ⟨ys,q σ' H' (h'.unbase fl)⟩
noncomputable def zkq (n:Nat) (ds:List PyData):DEnv:=ds.map .pl++List.replicate (n - ds.length) .no
noncomputable def fnD (n:Nat) (f:SF):GF:=fun ds=>match f (zkq n ds) with
 | some (.rt d fr)=>some (d,fr)
 | some (.nx _)=>some (.none,false)
 | _=>none
theorem zxz {ds:List PyData} {n i:Nat} {sl:Sl} (e:(zkq n ds)[i]?=some sl):(∃ d,ds[i]?=some d∧sl=.pl d)∨sl=.no:=by
 unfold zkq at e
 by_cases hi:i<ds.length
 ·rw [qAN (by simpa using hi),qR,qE hi] at e
  cases e
  exact .inl ⟨_,qE hi,rfl⟩
 ·rw [qAR (by simpa using hi),qBI] at e
  split at e
  ·cases e;exact .inr rfl
  ·cases e
theorem zya {fx:Addr→Prop} {H:Hp} {N:List Str} {ds:List PyData} {vs:List V} (hf:∀ b,fx b→∃ o,H b=some o) (r:Rps (Offs fx H) ds vs):EnvOk fx H (zkq N.length ds) (zqt N vs) H:=by
 have no:∀ (i:Nat) (d:PyData),(zkq N.length ds)[i]?≠some (Sl.ac d):=fun i d e=>by
  rcases zxz e with ⟨d',_,z⟩|z<;>cases z
 refine ⟨?_,fun i d e=>?_,fun i d e=>absurd e (no i d),fun i j d e a h1=>absurd h1 (no i d),Same.refl _,hf⟩
 ·unfold zkq zqt
  rw [qp,qp,qC,qC,qAj,qAj,r.length]
 ·rcases zxz e with ⟨d',hd,z⟩|z
  ·cases z
   obtain ⟨v,hv,rv⟩:=r.get2 hd
   refine ⟨v,?_,Rp.same (Offs.sub fun b z=>?_) _ rv⟩
   ·unfold zqt
    have hi:i<vs.length:=(qN.mp hv).1
    rw [qAN (by simpa using hi),qR,hv];rfl
   ·rcases z with z|⟨j,d',z,_⟩
    ·exact z
    ·exact absurd z (no j d')
  ·cases z
theorem fn_d {N:List Str} {n:Nat} {f:SF} {t:TS} (hs:SS t f) {vs:List V} {H:Hp} {Q:VK} {E:XK} (h:spD n (fnD N.length f) vs H Q E):t {nx:=fun _ H'=>Q .non H',rt:=Q} (zqt N vs) H:=by
 obtain ⟨fx,ds,d,fr,hn,hf,r,g,k⟩:=h
 unfold fnD at g
 split at g
 ·rename_i d' fr' eo
  cases g
  exact hs fx H _ _ H _ (zya hf r) _ eo fun v H' s rt=>k v H' s rt
 ·rename_i e' eo
  cases g
  exact hs fx H _ _ H _ (zya hf r) _ eo fun σ H' hE=>k .non H' hE.base ⟨zjp,fun z=>by cases z⟩
 ·cases g
theorem zcf {n:Nat} {g:GF} {vs:List V} {H:Hp} {Q:VK} {E:XK} (h:spD n g vs H Q E):vs.length=n:=by
 obtain ⟨fx,ds,d,fr,hn,hf,r,_⟩:=h
 rw [← r.length];exact hn
noncomputable def zaqd:Sl→Sl
 | .ac d=>.pl d
 | s=>s
noncomputable def envB (own:List Str) (fr:List Nat) (env:DEnv):DEnv:=own.map (fun _=>Sl.no)++fr.map (fun j=>zaqd (env.getD j .no))
noncomputable def isAc:Option Sl→Bool
 | some (.ac _)=>true
 | _=>false
noncomputable def capA (fr:List Nat) (env:DEnv):List Nat:=fr.filter fun j=>isAc env[j]?
theorem zvp {own:List Str} {fr:List Nat} {env:DEnv} {i:Nat} {d:PyData} (e:(envB own fr env)[i]?=some (.pl d)):∃ j k,i=own.length+k∧fr[k]?=some j∧(env[j]?=some (.pl d)∨env[j]?=some (.ac d)):=by
 unfold envB at e
 by_cases hi:i<own.length
 ·rw [qAN (by simpa using hi),qR,qE hi] at e
  cases e
 ·rw [qAR (by simpa using hi),qC,qR] at e
  cases ej:fr[i - own.length]? with
  | none=>rw [ej] at e;cases e
  | some j =>
   rw [ej] at e
   refine ⟨j,i - own.length,by omega,ej,?_⟩
   have e:zaqd (env.getD j .no)=.pl d:=qr e
   rw [qAE] at e
   cases ev:env[j]? with
   | none=>rw [ev] at e;cases e
   | some s =>
    rw [ev] at e
    cases s with
    | no=>cases e
    | pl d'=>cases e;exact .inl rfl
    | ac d'=>cases e;exact .inr rfl
theorem zkh {own:List Str} {fr:List Nat} {env:DEnv} {i:Nat} {d:PyData}:(envB own fr env)[i]?≠some (.ac d):=by
 intro e
 unfold envB at e
 by_cases hi:i<own.length
 ·rw [qAN (by simpa using hi),qR,qE hi] at e
  cases e
 ·rw [qAR (by simpa using hi),qC,qR] at e
  cases ej:fr[i - own.length]? with
  | none=>rw [ej] at e;cases e
  | some j =>
   rw [ej] at e
   have e:zaqd (env.getD j .no)=.ac d:=qr e
   cases ev:env.getD j .no with
   | no=>rw [ev] at e;cases e
   | pl d'=>rw [ev] at e;cases e
   | ac d'=>rw [ev] at e;cases e
theorem zahp {own:List Str} {fr:List Nat} {σ:St} {k j:Nat} {v:V} (hk:fr[k]?=some j) (hv:σ[j]?=some (some v)):(tau own fr σ)[own.length+k]?=some (some v):=by
 unfold tau
 rw [qAR (by simp),qC,Nat.add_sub_cancel_left,qR,hk]
 show some (σ.getD j none)=_
 rw [qAE,hv];rfl
theorem zyb {fx:Addr→Prop} {H0:Hp} {env:DEnv} {σ:St} {H H1:Hp} {p:Addr} (h:EnvOk fx H0 env σ H) (s:Same H H1) (hp:H1 p=none) (own:List Str) (fr:List Nat) (bs:List Nat) :
  EnvOk (fun b=>lim fx env σ (bs++capA fr env) b∨b=p) H1 (envB own fr env) (tau own fr σ) (upd H1 p (.lst [])):=by
 have h1:=h.up s
 have sp:Same H1 (upd H1 p (.lst [])):=Same.new hp
 have so:Same (Offs (fun b=>fx b∨L2.own env σ b) H1) (Offs (fun b=>(lim fx env σ (bs++capA fr env) b∨b=p)∨L2.own (envB own fr env) (tau own fr σ) b) (upd H1 p (.lst []))):=Offs.mono sp fun b o e n z=>by
  rcases z with (z|z)|⟨i,d,z,_⟩
  ·exact n (zrr b z)
  ·rw [z,hp] at e;cases e
  ·exact absurd z zkh
 refine ⟨?_,fun i d e=>?_,fun i d e=>absurd e zkh,fun i j d e a z=>absurd z zkh,sp,fun b z=>?_⟩
 ·unfold envB tau;simp
 ·obtain ⟨j,k,rfl,hk,hj⟩:=zvp e
  rcases hj with hj|hj
  ·obtain ⟨v,h2,h3⟩:=h1.pl j d hj
   exact ⟨v,zahp hk h2,Rp.same so _ h3⟩
  ·obtain ⟨a,h2,h3,h4,h5⟩:=h1.ac j d hj
   refine ⟨_,zahp hk h2,h5.rp so fun o eo=>?_⟩
   rw [Offs.get]
   ·exact sp _ _ eo
   ·rintro ((z|⟨i',d',z1,z2,z3⟩)|⟨i',d',z,_⟩)
    ·rcases z with z|⟨i',d',z1,z2,z3⟩
     ·exact h4 z
     ·have e2:=h1.inj i' j d' d a z2 hj z3 h2
      subst e2
      refine z1 (qm _ (qh.mpr ⟨qAy hk,?_⟩))
      rw [hj];rfl
    ·rw [hp] at eo;cases eo
    ·exact absurd z zkh
 ·rcases z with z|z
  ·obtain ⟨o,e⟩:=h1.lims _ b z;exact ⟨o,sp b o e⟩
  ·rw [z];exact ⟨_,zbp⟩
theorem EnvOk.weaken {fx:Addr→Prop} {H0:Hp} {env e1:DEnv} {σ:St} {H:Hp} (h:EnvOk fx H0 e1 σ H) (hl:env.length=e1.length) (hp:∀ (i:Nat) (d:PyData),env[i]?=some (.pl d)→e1[i]?=some (.pl d)) (ha:∀ (i:Nat) (d:PyData),env[i]?≠some (.ac d)):EnvOk fx H0 env σ H:=by
 refine ⟨hl.trans h.len,fun i d e=>?_,fun i d e=>absurd e (ha i d),fun i j d e a z=>absurd z (ha i d),h.base,h.fxs⟩
 obtain ⟨v,h1,h2⟩:=h.pl i d (hp i d e)
 exact ⟨v,h1,Rp.same (Offs.sub fun b z=>z.imp (fun y=>y) fun ⟨j,d',z,_⟩=>absurd z (ha j d')) _ h2⟩
theorem EnvOk.updFx {fx:Addr→Prop} {H0:Hp} {env:DEnv} {σ:St} {H:Hp} {p:Addr} {o:HO} (h:EnvOk fx H0 env σ H) (hp:fx p) (h0:H0 p=none):EnvOk fx H0 env σ (upd H p o):=by
 have so:Offs (fun b=>fx b∨own env σ b) (upd H p o)=Offs (fun b=>fx b∨own env σ b) H:=Offs.upd (.inl hp)
 refine ⟨h.len,fun i d e=>?_,fun i d e=>?_,h.inj,fun b u e=>by rw [zcj (zcg e h0)];exact h.base b u e,fun b z=>?_⟩
 ·rw [so];exact h.pl i d e
 ·obtain ⟨a,h1,h2,h3,h4⟩:=h.ac i d e
  rw [so]
  exact ⟨a,h1,h2,h3,h4.same (Same.refl _) fun u z=>by rw [zcj fun y=>h3 (by rw [y];exact hp)];exact z⟩
 ·by_cases e:b=p
  ·rw [e];exact ⟨_,zbp⟩
  ·obtain ⟨u,hu⟩:=h.fxs b z
   exact ⟨u,by rw [zcj e];exact hu⟩
noncomputable def GX (n:Nat) (g:GT):Prop:=∀ d env e1,g d env=some e1→e1.length=env.length∧∀ i,n≤i→e1[i]?=env[i]?
noncomputable def GXs (n:Nat) (g:GTs):Prop:=∀ ds env e1,g ds env=some e1→e1.length=env.length∧∀ i,n≤i→e1[i]?=env[i]?
theorem zld {n i:Nat} (h:i<n):GX n (gN i):=by
 intro d env e1 e
 cases e
 exact ⟨qAB,fun j hj=>q9 (by omega)⟩
theorem zfu {n:Nat}:GXs n zce:=by
 intro ds env e1 e
 cases ds with
 | nil=>cases e;exact ⟨rfl,fun _ _=>rfl⟩
 | cons _ _=>cases e
theorem zby {n i:Nat} {g:GTs} (h:i<n) (hg:GXs n g):GXs n (zao i g):=by
 intro ds env e1 e
 cases ds with
 | nil=>cases e
 | cons d ds =>
  obtain ⟨h1,h2⟩:=hg ds _ e1 e
  rw [qAB] at h1
  exact ⟨h1,fun j hj=>(h2 j hj).trans (q9 (by omega))⟩
theorem zig {n m:Nat} {g:GTs} (hg:GXs n g):GX n (gT m g):=by
 intro d env e1 e
 unfold gT at e
 cases d with
 | tuple ds =>
  have e:(if ds.length=m then g ds env else none)=some e1:=e
  split at e
  ·exact hg ds env e1 e
  ·cases e
 | _=>cases e
noncomputable def zdy (g:GT) (t:TF) (e:EF) (env:DEnv):List PyData→Option (List PyData)
 | []=>some []
 | d::ds=>(g d env).bind fun e1=>(t e1).bind fun b=>if b=true then (e e1).bind fun r=>(zdy g t e env ds).map fun rs=>r.d::rs else zdy g t e env ds
noncomputable def zda (own:List Str) (fr:List Nat) (fi:IF') (g:GT) (t:TF) (e:EF):EF:=fun env=>(fi env).bind fun z=>if z.1.length<100000 then
 (zdy g t e (envB own fr env) z.1).map fun rs=>⟨.list rs,true,if zfq rs=true then [] else z.2++capA fr env⟩ else none
theorem zoe {H H':Hp} {ds:List PyData} {vs:List V} (f:zfq ds=true) (h:Rps H ds vs):Rps H' ds vs:=by
 replace h:=zeg.mp h
 induction h with
 | nil=>exact zed
 | cons h _ ih =>
  unfold zfq at f
  rw [qAp,qb] at f
  exact zdi (zaau f.1 h) (ih f.2)
theorem zdl {own:List Str} {fr:List Nat} {wi:TI} {g:TG} {tt:TT} {te:TE} {fi:IF'} {gf:GT} {t:TF} {e:EF} (h1:SI wi fi) (h2:SG g gf) (hx:GX own.length gf) (h3:ST tt t) (h4:SE te e) :
  SE (tComp1 wi g tt te own fr) (zda own fr fi gf t e):=by
 intro fx H0 env σ H h rr hr Q q
 unfold zda at hr
 obtain ⟨⟨ds,bs⟩,ei,hr⟩:=qA.mp hr
 split at hr
 ·rename_i hlen
  have hlen:ds.length<100000:=hlen
  obtain ⟨rs,ers,rfl⟩:=qJ.mp hr
  refine h1 fx H0 env σ H h ds bs ei _ fun J H1 s yl=>fun p hp=>?_
  have hB:=zyb h s hp own fr bs
  generalize hA:(fun b=>lim fx env σ (bs++capA fr env) b)=A
  have hA':∀ b,lim fx env σ (bs++capA fr env) b↔A b:=fun b=>by rw [← hA]
  have eA:(fun b=>lim fx env σ (bs++capA fr env) b∨b=p)=fun b=>A b∨b=p:=by rw [← hA]
  rw [eA] at hB
  have nA:¬ A p:=fun z=>by
   obtain ⟨o,eo⟩:=(h.up s).lims _ p ((hA' p).mpr z)
   rw [hp] at eo;cases eo
  have seen:∀ {σ':St} {H':Hp},EnvOk (fun b=>A b∨b=p) H1 (envB own fr env) σ' H'→Same (Offs (fun b=>fx b∨L2.own (frzs env bs) σ b) H1) (Offs (fun b=>A b∨b=p) H'):=fun {σ' H'} hE=>Offs.mono hE.base fun b o eo n z=>by
   rcases z with z|z
   ·rcases (hA' b).mpr z with z|⟨i,d,z1,z2,z3⟩
    ·exact n (.inl z)
    ·exact n (.inr ⟨i,d,zod (fun y=>z1 (qz _ y)) z2,z3⟩)
   ·rw [z,hp] at eo;cases eo
  refine ⟨fun i m σ' H'=>m=ds.length - i∧i≤ds.length∧∃ vs done rest,H' p=some (.lst vs)∧Rps (Offs (fun b=>A b∨b=p) H') done vs∧done.length≤i∧zdy gf t e (envB own fr env) (ds.drop i)=some rest∧done++rest=rs∧EnvOk (fun b=>A b∨b=p) H1 (envB own fr env) σ' H',
   ⟨ds.length,rfl,qAd _,[],[],rs,zbp,zed,qAd _,ers,rfl,hB⟩,?_⟩
  rintro i m σ' H' ⟨rfl,hi,vs,done,rest,ep,rd,dl,ec,edr,hE⟩
  obtain ⟨yi,ys⟩:=yl _ H' hE.fxs (seen hE)
  by_cases hlt:i<ds.length
  ·obtain ⟨yg,yy⟩:=yi i ds[i] (qE hlt)
   refine .inr ⟨yg,fun σ'' H''=>i+1≤ds.length∧∃ vs done rest,H'' p=some (.lst vs)∧Rps (Offs (fun b=>A b∨b=p) H'') done vs∧done.length≤i+1∧zdy gf t e (envB own fr env) (ds.drop (i+1))=some rest∧done++rest=rs∧EnvOk (fun b=>A b∨b=p) H1 (envB own fr env) σ'' H'',?_,?_⟩
   ·rintro σ'' H'' ⟨hle,hh⟩
    exact ⟨ds.length - (i+1),by omega,rfl,hle,hh⟩
   ·intro x H'' hy
    obtain ⟨sy,ry⟩:=yy x H'' hy
    rw [qAv hlt] at ec
    obtain ⟨e1,ee1,ec⟩:=qA.mp ec
    obtain ⟨b,eb,ec⟩:=qA.mp ec
    have ry':Rp (Offs (fun a=>(A a∨a=p)∨L2.own (envB own fr env) σ' a) H'') ds[i] x:=Rp.same (Offs.sub fun b z=>z.elim (fun y=>y) fun ⟨j,d',z,_⟩=>absurd z zkh) _ ry
    refine h2 _ H1 (envB own fr env) σ' H'' _ x (hE.up sy) ry' e1 ee1 _ fun σ2 hE2=>?_
    refine h3 _ H1 e1 σ2 H'' hE2 b eb _ fun H3 s3=>?_
    have hE3:=hE2.up s3
    obtain ⟨gl,gk⟩:=hx _ _ _ ee1
    have back:∀ {H4:Hp},EnvOk (fun b=>A b∨b=p) H1 e1 σ2 H4→EnvOk (fun b=>A b∨b=p) H1 (envB own fr env) σ2 H4:=fun {H4} hh=>hh.weaken gl.symm (fun j d' ej=>by
     by_cases hj:own.length≤j
     ·rw [gk j hj];exact ej
     ·obtain ⟨_,k,rfl,_⟩:=zvp ej;omega) fun j d'=>zkh
    cases b with
    | false =>
     have ec:zdy gf t e (envB own fr env) (ds.drop (i+1))=some rest:=ec
     exact iteF ⟨hlt,vs,done,rest,s3 _ _ (sy _ _ ep),Rps.same (Offs.grow (sy.trans s3)) _ rd,Nat.le_succ_of_le dl,ec,edr,back hE3⟩
    | true =>
     have ec:((e e1).bind fun r=>(zdy gf t e (envB own fr env) (ds.drop (i+1))).map fun rs=>r.d::rs)=some rest:=ec
     obtain ⟨r,er,ec⟩:=qA.mp ec
     obtain ⟨rest',er',rfl⟩:=qJ.mp ec
     refine iteT (h4 _ H1 e1 σ2 H3 hE3 r er _ fun v H4 s4 hv=>?_)
     have t4:=(sy.trans s3).trans s4
     refine ⟨vs,t4 _ _ ep,zrs (by rw [← rd.length];omega),hlt,vs++[v],done++[r.d],rest',zbp,?_,by rw [qp];simp;omega,er',by rw [← edr];simp,(back (hE3.up s4)).updFx (.inr rfl) hp⟩
     rw [Offs.upd (.inr rfl)]
     exact (Rps.same (Offs.grow t4) _ rd).append (zdi (Rp.same (Offs.sub fun b z=>.inl z) _ hv.rp) zed)
  ·have hi':i=ds.length:=by omega
   subst hi'
   rw [qBD] at ec
   cases ec
   rw [qAg] at edr
   subst edr
   refine .inl ⟨ys,q _ H' (s.trans hE.base) ⟨?_,fun _=>⟨p,rfl,s.free hp,?_⟩⟩⟩
   ·show Rp (Offs (lim fx env σ (if zfq done=true then [] else bs++capA fr env)) H') (.list done) (.ref p)
    have nl:∀ cs,¬ lim fx env σ cs p:=fun cs z=>by
     obtain ⟨o,eo⟩:=(h.up s).lims _ p z
     rw [hp] at eo;cases eo
    refine zhb (by rw [Offs.get (nl _)];exact ep) ?_
    split
    ·rename_i f;exact zoe f rd
    ·exact Rps.same (Offs.sub fun b z=>.inl ((hA' b).mp z)) _ rd
   ·show zjq (Offs (fun b=>lim fx env σ (if zfq done=true then [] else bs++capA fr env) b∨b=p) H') H' p (.list done)
    refine ⟨vs,ep,?_⟩
    split
    ·rename_i f;exact zoe f rd
    ·exact Rps.same (Offs.sub fun b z=>z.imp (hA' b).mp id) _ rd
 ·cases hr
section
variable {X:Cx} {K:qB}
theorem zahq (hK:X.K=K) {a:Expr} {ta:TE} (ha:PE X a ta) (he:∀ whole,isTrue a X.env whole=(do let v ← whole;standAt a.pos;holding [v] (truthy v))) :
  PT X a (fun σ H Q=>ta σ H fun x H'=>∃ k,TruV K x H' k∧Q k H'):=by subst hK;exact zala ha he
theorem zgc (hK:X.K=K):CallR X (.type "tuple") (fun xs H Q=>∃ p ys,xs=[.ref p]∧((SqL K H p ys∧∀ l,H l=none→Q (.ref l) (upd H l (.tup ys)))∨(SqT K H p ys∧Q (.ref p) H))):=by subst hK;exact zvh
theorem zer (hK:X.K=K) (hu:X.A.units+64<cLine):OpR X (compareOp .Eq) (fun x y H Q=>rEq x y H Q∨rEqD K false x y H Q):=by subst hK;exact zasg.or (zata hu)
theorem zpv (hK:X.K=K) (hu:X.A.units+64<cLine):OpR X (compareOp .NotEq) (fun x y H Q=>rNe x y H Q∨rEqD K true x y H Q):=by subst hK;exact zaur.or (zatb hu)
noncomputable def zcw:TF:=fun _=>some true
theorem zha:ST tAll zcw:=by
 intro fx H0 env σ H hE b hb Q q
 cases hb
 exact q H (Same.refl _)
noncomputable def rIsC (neg:Bool):R2:=fun x y H Q=>∃ b,y=.bl b∧Q (.bl (if neg then !decide (x=y) else decide (x=y))) H
theorem zahr {x:V} {v:Value} {b:Bool} (r:RelV x v):(v==Value.bool b)=decide (x=.bl b):=by
 cases x with
 | non=>cases r;rfl
 | bl c=>cases r;cases b<;>cases c<;>rfl
 | int _=>obtain ⟨t,rfl⟩:=r;rfl
 | str _=>obtain ⟨t,rfl⟩:=r;rfl
 | byt _=>obtain ⟨t,rfl⟩:=r;rfl
 | flt _=>obtain ⟨t,rfl⟩:=r;rfl
 | ref _=>cases r;rfl
 | ty _=>cases r;rfl
theorem zafb {x:V} {v:Value} {b:Bool} (r:RelV x v):plainIs v (.bool b)=true:=by
 cases x with
 | non=>cases r;rfl
 | bl c=>cases r;rfl
 | int _=>obtain ⟨t,rfl⟩:=r;rfl
 | str _=>obtain ⟨t,rfl⟩:=r;rfl
 | byt _=>obtain ⟨t,rfl⟩:=r;rfl
 | flt _=>obtain ⟨t,rfl⟩:=r;rfl
 | ref _=>cases r;rfl
 | ty _=>cases r;rfl
theorem zyc:OpR X (compareOp .IsNot) (rIsC true):=by
 intro pins s σ H x y v u Q I rx ry h
 obtain ⟨b,rfl,q⟩:=h
 cases ry
 exact wpAny_isNot_plain (zafb rx) ⟨.bl _,H,I,by rw [zahr rx];rfl,q⟩
noncomputable def isB:PyData→Bool→Bool
 | .bool c,b=>c==b
 | _,_=>false
noncomputable def isCD (neg:Bool):OF:=fun d e=>match e with
 | .bool b=>some (.bool (if neg then !isB d b else isB d b),false)
 | _=>none
theorem zavc {H:Hp} {d:PyData} {v:V} {b:Bool} (h:Rp H d v):decide (v=.bl b)=isB d b:=by
 cases d with
 | list ds=>obtain ⟨a,xs,rfl,_⟩:=zfe h;rfl
 | tuple ds=>obtain ⟨a,xs,rfl,_⟩:=zec h;rfl
 | dict ds=>obtain ⟨a,xs,rfl,_⟩:=zjk h;rfl
 | bool c=>cases zjl h;exact zacn
 | _=>unfold Rp at h;subst h;rfl
theorem zatk {neg:Bool}:SO (rIsC neg) (isCD neg):=by
 intro A H x y dx dy hA rx ry d fr e Q q
 unfold isCD at e
 split at e
 ·cases e
  cases zjl ry
  refine ⟨_,rfl,?_⟩
  rw [zavc rx]
  exact q _ H (Same.refl _) zbb (fun z=>by cases z)
 ·cases e
noncomputable def eNeg (a:EF):EF:=fun env=>(a env).bind fun x=>match x.d with|.int i=>some ⟨.int (-i),false,[]⟩|_=>none
theorem zatl {te:TE} {f:EF} (h1:SE te f):SE (tUn (rU fun i=>.int (-i)) te) (eNeg f):=by
 intro fx H0 env σ H h rr hr Q q
 unfold eNeg at hr
 obtain ⟨⟨d,fr,bs⟩,ex,hr⟩:=qA.mp hr
 cases d with
 | int i =>
  cases hr
  exact h1 fx H0 env σ H h _ ex _ fun v H1 s1 v1=>⟨i,zey v1.rp,q _ H1 s1 ⟨zag,fun z=>by cases z⟩⟩
 | _=>cases hr
noncomputable def zof (f g:OF) (a b c:EF):EF:=fun env=>(a env).bind fun x=>(b env).bind fun y=>(f x.d y.d).bind fun z=>(asB z.1).bind fun k=>if k=true then (c env).bind fun w=>(g y.d w.d).bind fun u=>if zgv u.1=true then some ⟨u.1,false,[]⟩ else none else some ⟨.bool false,false,[]⟩
theorem zadc {r r':R2} {f g:OF} {ta tb tc:TE} {fa fb fc:EF} (ho:SO r f) (ho':SO r' g) (ha:SE ta fa) (hb:SE tb fb) (hc:SE tc fc):SE (tChain r r' ta tb tc) (zof f g fa fb fc):=by
 intro fx H0 env σ H h rr hr Q q
 unfold zof at hr
 obtain ⟨x,ex,hr⟩:=qA.mp hr
 obtain ⟨y,ey,hr⟩:=qA.mp hr
 obtain ⟨⟨d,fr⟩,ez,hr⟩:=qA.mp hr
 obtain ⟨k,ek,hr⟩:=qA.mp hr
 refine ha fx H0 env σ H h x ex _ fun v H1 s1 v1=>hb fx H0 env σ H1 (h.up s1) y ey _ fun u H2 s2 v2=>?_
 have l1:∀ b,lim fx env σ (x.bs++y.bs) b→lim fx env σ x.bs b:=zke fun i hi=>qz _ hi
 have l2:∀ b,lim fx env σ (x.bs++y.bs) b→lim fx env σ y.bs b:=zke fun i hi=>qm _ hi
 refine ho (lim fx env σ (x.bs++y.bs)) H2 v u x.d y.d ((h.up (s1.trans s2)).lims _) (v1.later (Same.refl _) s2 l1).rp (v2.later (Same.refl _) (Same.refl _) l2).rp d fr ez _ fun w H3 s3 rp _=>⟨k,as_b rp ek,?_⟩
 have t3:=(s1.trans s2).trans s3
 cases k with
 | false=>cases hr;exact iteF (q _ H3 t3 ⟨zbb,fun z=>by cases z⟩)
 | true =>
  have hr:((fc env).bind fun w=>(g y.d w.d).bind fun u=>if zgv u.1=true then some (⟨u.1,false,[]⟩:Val) else none)=some rr:=hr
  obtain ⟨w',ew,hr⟩:=qA.mp hr
  obtain ⟨⟨d',fr'⟩,ez',hr⟩:=qA.mp hr
  split at hr
  ·rename_i hf
   cases hr
   refine iteT (hc fx H0 env σ H3 (h.up t3) w' ew _ fun v' H4 s4 v4=>?_)
   have l3:∀ b,lim fx env σ (y.bs++w'.bs) b→lim fx env σ y.bs b:=zke fun i hi=>qz _ hi
   have l4:∀ b,lim fx env σ (y.bs++w'.bs) b→lim fx env σ w'.bs b:=zke fun i hi=>qm _ hi
   exact ho' (lim fx env σ (y.bs++w'.bs)) H4 u v' y.d w'.d ((h.up (t3.trans s4)).lims _) (v2.later (Same.refl _) (s3.trans s4) l3).rp (v4.later (Same.refl _) (Same.refl _) l4).rp d' fr' ez' _ fun w2 H5 s5 rp5 _ =>
    q w2 H5 ((t3.trans s4).trans s5) ⟨zaau hf rp5,fun z=>by cases z⟩
  ·cases hr
end
end L2
namespace PySem
open Sem (wp)
end PySem
namespace L2
open PySem PySem.Spec PyProof.Rows
noncomputable def zaof:List PyData→Option (List (PyData×PyData))
 | []=>some []
 | .tuple [k,v]::r=>(keyD k).bind fun _=>(zaof r).map fun ps=>(k,v)::ps
 | _=>none
noncomputable def zavp:GF
 | [.list rows]=>(zaof rows).map fun ps=>(.dict (zng [] ps),true)
 | _=>none
noncomputable def znk (i j:Nat) (f:EF):SF:=fun env=>match env[i]?,env[j]? with
 | some (.ac (.list ds)),some (.ac (.list es))=>(f env).bind fun r=>match r.d with
  | .int k=>if 0≤k∧k<100000∧ds.length<100000∧i≠j then (es[k.toNat]?).bind fun d=>some (.nx ((env.set j (.ac (.list (es.eraseIdx k.toNat)))).set i (.ac (.list (ds++[d]))))) else none
  | _=>none
 | _,_=>none
theorem Rps.erase {H:Hp} {ds:List PyData} {vs:List V} (h:Rps H ds vs) (n:Nat):Rps H (ds.eraseIdx n) (vs.eraseIdx n):=by
 induction n generalizing ds vs with
 | zero =>
  cases ds with
  | nil=>unfold Rps at h;subst h;exact zed
  | cons d ds=>unfold Rps at h;obtain ⟨v,ws,rfl,h1,h2⟩:=h;exact h2
 | succ n ih =>
  cases ds with
  | nil=>unfold Rps at h;subst h;exact zed
  | cons d ds=>unfold Rps at h;obtain ⟨v,ws,rfl,h1,h2⟩:=h;exact zdi h1 (ih h2)
theorem zahs {K:qB} {i j:Nat} {te:TE} {f:EF} (h1:SE te f):SS (tDrop (tBM K "list" zaaq (tVar i) (tCons (tBM K "list" zacr (tVar j) (tCons te tNil)) tNil))) (znk i j f):=by
 intro fx H0 env σ H D h o e q
 unfold znk at e
 split at e
 ·rename_i ds es ei ej
  obtain ⟨⟨rd,rfr,rbs⟩,er,e⟩:=qA.mp e
  cases rd with
  | int k =>
   have e:(if 0≤k∧k<100000∧ds.length<100000∧i≠j then (es[k.toNat]?).bind fun d=>some (Out.nx ((env.set j (.ac (.list (es.eraseIdx k.toNat)))).set i (.ac (.list (ds++[d]))))) else none)=some o:=e
   split at e
   ·rename_i hl
    obtain ⟨d,ed,e⟩:=qA.mp e
    cases e
    obtain ⟨a,g1,g2,g3,g4⟩:=h.ac i _ ei
    obtain ⟨xs,hx,rx⟩:=g4
    obtain ⟨b,k1,k2,k3,k4⟩:=h.ac j _ ej
    obtain ⟨ys,hy,ry⟩:=k4
    have hab:a≠b:=fun z=>hl.2.2.2 (h.inj i j _ _ a ei ej g1 (by rw [z];exact k1))
    refine ⟨_,g1,.inl ⟨rfl,_,SqL.of hx⟩,_,k1,.inl ⟨rfl,_,SqL.of hy⟩,h1 fx H0 env σ H h _ er _ fun v H' s hv=>?_⟩
    cases zey hv.rp
    have h':=h.up s
    have hy':=s _ _ hy
    have hx':=s _ _ hx
    have ry':Rps (Offs (fun b=>fx b∨own env σ b) H') es ys:=Rps.same (Offs.grow s) _ ry
    have rx':Rps (Offs (fun b=>fx b∨own env σ b) H') ds xs:=Rps.same (Offs.grow s) _ rx
    obtain ⟨u,hu,ru⟩:=ry'.get2 ed
    have hlt:k.toNat<ys.length:=(qN.mp hu).1
    have hsq:seqIndex? k ys.length=some k.toNat:=qCh hl.1 (by omega)
    refine ⟨b,ys,k,k.toNat,u,rfl,rfl,hy',by omega,by omega,hsq,hu,?_⟩
    have h2:=h'.mut ej k1 (d':=.list (es.eraseIdx k.toNat)) (o:=.lst (ys.eraseIdx k.toNat)) ⟨_,zbp,ry'.erase _⟩
    have ei2:(env.set j (.ac (.list (es.eraseIdx k.toNat))))[i]?=some (.ac (.list ds)):=by rw [q9 (qA2 hl.2.2.2)];exact ei
    have hx2:(upd H' b (.lst (ys.eraseIdx k.toNat))) a=some (.lst xs):=by rw [zcj hab];exact hx'
    obtain ⟨a',z1,_,_,z4⟩:=h2.ac i _ ei2
    rw [g1] at z1
    cases z1
    obtain ⟨zs,y1,y2⟩:=z4
    rw [hx2] at y1
    cases y1
    have ow:Same (Offs (fun b=>fx b∨own env σ b) H') (Offs (fun c=>fx c∨own (env.set j (.ac (.list (es.eraseIdx k.toNat)))) σ c) (upd H' b (.lst (ys.eraseIdx k.toNat)))):=by
     have t:Same (Offs (fun b=>fx b∨own env σ b) (upd H' b (.lst (ys.eraseIdx k.toNat)))) (Offs (fun c=>fx c∨own (env.set j (.ac (.list (es.eraseIdx k.toNat)))) σ c) (upd H' b (.lst (ys.eraseIdx k.toNat)))):=Offs.sub fun c z=>z.imp (fun y=>y) fun ⟨m,d1,w1,w2⟩=>by
      rcases zdq w1 with ⟨rfl,_⟩|⟨_,w1⟩
      ·exact ⟨m,_,ej,w2⟩
      ·exact ⟨m,d1,w1,w2⟩
     rw [Offs.upd (.inr ⟨j,_,ej,k1⟩)] at t
     exact t
    refine ⟨a,xs,u,rfl,rfl,hx2,zrs (by rw [← rx.length];exact hl.2.2.1),?_⟩
    exact q σ _ (h2.mut ei2 g1 ⟨_,zbp,y2.append (zdi (Rp.same ow _ ru) zed)⟩)
   ·cases e
  | _=>cases e
 ·cases e
theorem zaqe {X:Cx} {K:qB} (hK:X.K=K) {T:String} {name:Str} {id:String} {r:V→List V→Hp→VK→Prop} {o:Expr} {to:TE} {apos cpos:Pos} (pa:PlainAttrs T) (slot:Slot T name id) (hty:typeOf (.builtin id)=pure (.type "method_descriptor")) (hm:MtR X id r) (ho:PE X o to)
  (hbase:attributeBase o name X.env (eval o X.env)=eval o X.env:=by rfl)
  (hline:(apos.endLine==cpos.line)=true:=by rfl) :
  PE X (.Call (.Attribute o name apos) [] [] cpos) (tBM0 K T r to):=by subst hK;exact zasq pa slot hty hm ho hbase hline
noncomputable def zel (i:Nat) (b:EF):EF:=fun env=>match env[i]? with
 | some (.pl (.dict kvs))=>(b env).bind fun y=>(keyD y.d).bind fun k=>(zoa kvs k).bind fun d=>some ⟨d,false,[]⟩
 | some (.ac (.dict kvs))=>(b env).bind fun y=>(keyD y.d).bind fun k=>(zoa kvs k).bind fun d=>some ⟨d,false,[]⟩
 | _=>none
theorem zmg {i:Nat} {ty:TE} {fb:EF} (hb:SE ty fb):SE (tDGet (tVar i) ty) (zel i fb):=by
 intro fx H0 env σ H h rr hr Q q
 unfold zel at hr
 have key:∀ (a:Addr) (ps:List (Key×V)) (kvs:List (PyData×PyData)),σ[i]?=some (some (.ref a))→H a=some (.dK ps)→Rpd (Offs (fun b=>fx b∨own env σ b) H) kvs ps→((fb env).bind fun y=>(keyD y.d).bind fun k=>(zoa kvs k).bind fun d=>some (⟨d,false,[]⟩:Val))=some rr→tDGet (tVar i) ty σ H Q:=by
  intro a ps kvs hs ha r hr
  obtain ⟨y,ey,hr⟩:=qA.mp hr
  obtain ⟨k,ek,hr⟩:=qA.mp hr
  obtain ⟨d,ed,hr⟩:=qA.mp hr
  cases hr
  refine ⟨_,hs,hb fx H0 env σ H h _ ey _ fun u H2 s2 v2=>?_⟩
  have g:=(Rpd.same (Offs.grow s2) _ r).get (j:=k)
  rw [ed] at g
  obtain ⟨w,e1,e2⟩:=g
  rw [zahi v2.rp ek]
  have dg:=DGet.k (k:=k) (s2 _ _ ha)
  rw [e1] at dg
  exact ⟨a,w,rfl,dg,q w H2 s2 ⟨Rp.same (Offs.sub zrr) _ e2,fun z=>by cases z⟩⟩
 split at hr
 ·rename_i kvs ei
  obtain ⟨v,h1,h2⟩:=h.pl i _ ei
  obtain ⟨a,ps,rfl,ha,r⟩:=zjk h2
  exact key a ps kvs h1 (zez ha) r hr
 ·rename_i kvs ei
  obtain ⟨a,h1,h2,h3,ps,ha,r⟩:=h.ac i _ ei
  exact key a ps kvs h1 ha r hr
 ·cases hr
noncomputable def eIxV (i:Nat) (b:EF):EF:=fun env=>match env[i]? with
 | some (.ac (.list ds))=>(b env).bind fun y=>match y.d with
  | .int k=>(atI ds k).map fun d=>⟨d,false,[]⟩
  | _=>none
 | _=>eOp ixD (eVar i) b env
theorem zbr {K:qB} {i:Nat} {tb:TE} {fb:EF} (hb:SE tb fb):SE (tOp (rIxU K) (tVar i) tb) (eIxV i fb):=by
 intro fx H0 env σ H h rr hr Q q
 unfold eIxV at hr
 split at hr
 ·rename_i ds ei
  obtain ⟨⟨dy,fy,bys⟩,ey,hr⟩:=qA.mp hr
  cases dy with
  | int k =>
   obtain ⟨d,ed,rfl⟩:=qJ.mp hr
   obtain ⟨a,h1,h2,h3,xs,ha,r⟩:=h.ac i _ ei
   refine ⟨_,h1,hb fx H0 env σ H h _ ey _ fun u H2 s2 v2=>?_⟩
   cases zey v2.rp
   obtain ⟨v,hv,rv⟩:=(Rps.same (Offs.grow s2) _ r).atI ed
   exact ⟨xs,v,.inl (SqL.of (s2 _ _ ha)),hv,q _ H2 s2 ⟨Rp.same (Offs.sub zrr) _ rv,fun z=>by cases z⟩⟩
  | _=>cases hr
 ·exact zbc zals (zad i) hb fx H0 env σ H h rr hr Q q
end L2
namespace Bc
open PySem L2
noncomputable def zjr:SF:=(sRet (zda ["name", "elders"] [] (zaw (eVar 0)) (gT 2 (zao 0 (zao 1 zce))) zcw (eVar 0)))
noncomputable def zmh:GF:=fnD 1 zjr
noncomputable def zgp:SF:=(sSeq (sSet 2 (zay 1 zmh (zab (eVar 0) aNil)))
  (sFor (zaw (eVar 1)) (gN 3)
  (sIf (zbh (eOp (inD true) (eVar 3) (eVar 2))) zada sNil)))
noncomputable def zgq:GF:=fnD 4 zgp
noncomputable def zuh:SF:=(sSeq (sSet 1 zalt)
  (sSeq (sFor (zaw (eVar 0)) (gT 2 (zao 2 (zao 3 zce)))
  (sSeq (sSet 4 (eD1 (eVar 2) (eC (.bool true))))
  (sSeq (sFor (zaw (eVar 3)) (gN 5)
  (sUpd 4 (zel 1 (eVar 5))))
  (sPut 1 (eVar 2) (eVar 4)))))
  (ztv 1)))
noncomputable def zdz:GF:=fnD 6 zuh
noncomputable def zyd:SF:=(sSeq (sSet 2 (eLst aNil))
  (sSeq (sFor (zpu (zab (eVar 1) aNil)) (gT 2 (zao 3 (zao 4 zce)))
  (sSeq (sSet 5 (eSl (eVar 1) zgo (zcv (eVar 3))))
  (sSeq (sSet 6 (eOp zdk (eIxV 0 (eVar 3)) (eC (.int 5))))
  (sSeq (sSet 7 (eLst aNil))
  (sSeq (sFor (zic (zab (eCB minD (zab (eOp modD (eIxV 0 (eVar 3)) (eC (.int 5))) (zab (eVar 3) aNil))) aNil)) (gN 8)
  (sSeq (sSet 9 (eOp modD (eVar 6) (eCB lenD (zab (eVar 5) aNil))))
  (sSeq (sSet 6 (eOp zdk (eVar 6) (eCB lenD (zab (eVar 5) aNil))))
  (znk 7 5 (eVar 9)))))
  (sApp 2 (eTup (zab (eVar 4) (zab (eVar 7) aNil)))))))))
  (ztv 2)))
noncomputable def zle:GF:=fnD 10 zyd
noncomputable def zadd:SF:=(sSeq (sSet 1 zalt)
  (sSeq (sFor (zaw (eVar 0)) (gT 2 (zao 2 (zao 3 zce)))
  (sSeq (sSet 4 (eLst (zab (eVar 2) aNil)))
  (sSeq (sFor (zaw (eVar 3)) (gN 5)
  (sFor (zaw (zel 1 (eVar 5))) (gN 6)
  (sIf (zbh (eOp (inD true) (eVar 6) (eVar 4))) (sApp 4 (eVar 6)) sNil)))
  (sPut 1 (eVar 2) (eVar 4)))))
  (ztv 1)))
noncomputable def zog:GF:=fnD 7 zadd
theorem zdn {α:Type} {enc out:α→PyData} {g:GT} {t:TF} {e:EF} {env:DEnv} (p:α→Bool):∀ {l:List α},(∀ x∈l,∃ e1,g (enc x) env=some e1∧t e1=some (p x)∧(p x=true→∃ r,e e1=some r∧r.d=out x)) →
  zdy g t e env (l.map enc)=some ((l.filter p).map out)
 | [],_=>rfl
 | x::l,h=>by
  obtain ⟨e1,h1,h2,h3⟩:=h x qc
  have ih:=zdn (l:=l) p fun y hy=>h y (qT _ hy)
  rw [qZ]
  unfold zdy
  rw [h1,qD,h2,qD]
  cases hp:p x with
  | false =>
   rw [if_neg qK,ih,qBj,hp];rfl
  | true =>
   obtain ⟨r,h4,h5⟩:=h3 hp
   rw [if_pos rfl,h4,qD,ih,qBj,hp]
   simp [h5]
theorem zdg {α:Type} {enc out:α→PyData} {g:GT} {t:TF} {e:EF} {env:DEnv} {l:List α} (h:∀ x∈l,∃ e1,g (enc x) env=some e1∧t e1=some true∧∃ r,e e1=some r∧r.d=out x):zdy g t e env (l.map enc)=some (l.map out):=by
 have q:=zdn (enc:=enc) (out:=out) (g:=g) (t:=t) (e:=e) (env:=env) (fun _=>true) (l:=l) fun x hx=>let ⟨e1,h1,h2,h3⟩:=h x hx;⟨e1,h1,h2,fun _=>h3⟩
 rw [q]
 congr 2
 exact qC0.mpr fun _ _=>rfl
theorem zade {α:Type} {enc:α→PyData} {g:GT} {body:SF} (I:List α→DEnv→Prop) (all:List α):∀ (l pre:List α) (env:DEnv),pre++l=all→I pre env →
  (∀ pre x post env,pre++x::post=all→I pre env→∃ e1 e2,g (enc x) env=some e1∧(body e1=some (.nx e2)∨body e1=some (.ct e2))∧I (pre++[x]) e2)→∃ env',forL g body (l.map enc) env=some (.nx env')∧I all env'
 | [],pre,env,hall,h0,hs=>by
  rw [qAg] at hall
  subst hall
  exact ⟨env,rfl,h0⟩
 | x::l,pre,env,hall,h0,hs=>by
  obtain ⟨e1,e2,h1,h2,h3⟩:=hs pre x l env hall h0
  obtain ⟨env',h4,h5⟩:=zade I all l (pre++[x]) e2 (by rw [← hall];simp) h3 hs
  refine ⟨env',?_,h5⟩
  rw [qZ]
  unfold forL
  rw [h1,qD]
  rcases h2 with h2|h2<;>rw [h2,qD]<;>exact h4
theorem zem {α:Type} {enc:α→PyData} {g:GT} {body:SF} {l:List α} {env:DEnv} (I:List α→DEnv→Prop) (h0:I [] env) (hs:∀ pre x post env,pre++x::post=l→I pre env→∃ e1 e2,g (enc x) env=some e1∧(body e1=some (.nx e2)∨body e1=some (.ct e2))∧I (pre++[x]) e2) :
  ∃ env',forL g body (l.map enc) env=some (.nx env')∧I l env':=zade I l l [] env rfl h0 hs
theorem zye {α:Type} {enc:α→PyData} {g:GT} {body:SF} (p:α→Bool) (d:PyData) (fr:Bool) (I:DEnv→Prop):∀ (l:List α) (env:DEnv),I env →
  (∀ x∈l,∀ env,I env→∃ e1,g (enc x) env=some e1∧(p x=true→∃ e2,body e1=some (.nx e2)∧I e2)∧(p x=false→body e1=some (.rt d fr))) →
  (l.all p=true→∃ env',forL g body (l.map enc) env=some (.nx env')∧I env')∧(l.all p=false→forL g body (l.map enc) env=some (.rt d fr))
 | [],env,h0,hs=>⟨fun _=>⟨env,rfl,h0⟩,fun h=>by simp at h⟩
 | x::l,env,h0,hs=>by
  obtain ⟨e1,h1,h2,h3⟩:=hs x qc env h0
  rw [qZ,qAp]
  unfold forL
  rw [h1,qD]
  cases hp:p x with
  | false =>
   rw [h3 hp,qD]
   exact ⟨fun h=>by simp at h,fun _=>rfl⟩
  | true =>
   obtain ⟨e2,h4,h5⟩:=h2 hp
   rw [h4,qD]
   exact zye p d fr I l e2 h5 fun y hy=>hs y (qT _ hy)
theorem zaqf {t:TS} {F:SF} (hs:SS t F) {env:DEnv} {σ:St} {H1:Hp} {Q:VK} {nx:St→Hp→Prop} (hE:EnvOk (fun _=>False) H1 env σ H1) (e:F env=some (.rt (.bool true) false)) (k:∀ H',Q (.bl true) H'):t {nx:=nx,rt:=Q} σ H1:=by
 refine hs _ H1 env σ H1 _ hE _ e fun v H s rt=>?_
 rw [show v=.bl true from zjl rt.1]
 exact k H
noncomputable def zbv (cs:List Int):PyData:=.list (cs.map .int)
theorem zadf {H:Hp}:∀ (cs:List Int),Rps H (cs.map .int) (cs.map .int)
 | []=>zed
 | c::cs=>zdi zag (zadf cs)
noncomputable def envL (n:Nat) (cs:List Int):DEnv:=.no::.pl (zbv cs)::List.replicate n .no
theorem zaqg {H1:Hp} {a pc:Addr} {cs:List Int} {n:Nat} (e:H1 pc=some (.lst (cs.map .int))):EnvOk (fun _=>False) H1 (envL n cs) (some (.ref a)::some (.ref pc)::List.replicate n none) H1:=by
 have no:∀ (i:Nat) (d:PyData),(envL n cs)[i]?≠some (Sl.ac d):=fun i d=>by
  unfold envL
  cases i with
  | zero=>simp
  | succ i=>cases i with
   | zero=>simp
   | succ i=>simp [qBI]
 refine ⟨by unfold envL;simp,fun i d h=>?_,fun i d h=>absurd h (no i d),fun i j d e a h=>absurd h (no i d),Same.refl _,fun b z=>z.elim⟩
 unfold envL at h
 cases i with
 | zero=>simp at h
 | succ i=>cases i with
  | zero =>
   simp at h
   subst h
   refine ⟨.ref pc,rfl,zhb ?_ (zadf cs)⟩
   rw [Offs.get]
   ·exact e
   ·rintro (z|⟨j,d',z,_⟩)
    ·exact z
    ·exact no j d' z
  | succ i=>simp [qBI] at h
theorem zat {f g:SF} {env e1:DEnv} {o:Option Out} (h:f env=some (.nx e1)) (k:g e1=o):sSeq f g env=o:=by unfold sSeq;rw [h];exact k
theorem zfy {f g:SF} {env:DEnv} {d:PyData} {fr:Bool} (h:f env=some (.rt d fr)):sSeq f g env=some (.rt d fr):=by unfold sSeq;rw [h];rfl
theorem for_list {f:EF} {g:GT} {b:SF} {env:DEnv} {ds:List PyData} {fr:Bool} {bs:List Nat} {o:Option Out} (h:f env=some ⟨.list ds,fr,bs⟩) (k:forL g b ds (frzs env bs)=o):sFor (zaw f) g b env=o:=by
 unfold sFor zaw;rw [h];exact k
theorem zjs {f:IF'} {g:GT} {b:SF} {env:DEnv} {ds:List PyData} {bs:List Nat} {o:Option Out} (h:f env=some (ds,bs)) (k:forL g b ds (frzs env bs)=o):sFor f g b env=o:=by
 unfold sFor;rw [h];exact k
theorem if_t {c:TF} {f g:SF} {env:DEnv} {o:Option Out} (h:c env=some true) (k:f env=o):sIf c f g env=o:=by unfold sIf;rw [h];exact k
theorem if_f {c:TF} {f g:SF} {env:DEnv} {o:Option Out} (h:c env=some false) (k:g env=o):sIf c f g env=o:=by unfold sIf;rw [h];exact k
theorem zcq {i:Nat} {f:EF} {env:DEnv} {r:Val} (h:f env=some r):sSet i f env=some (.nx (putV env i r)):=by unfold sSet;rw [h];rfl
theorem zaht {f:EF} {env:DEnv} {r:Val} (h:f env=some r):zafa f env=some (.nx env):=by unfold zafa;rw [h];rfl
theorem zes {f:EF} {env:DEnv} {d:PyData} {fr:Bool} {bs:List Nat} (h:f env=some ⟨d,fr,bs⟩):sRet f env=some (.rt d fr):=by unfold sRet;rw [h];rfl
theorem zbg {n:Nat} {g:GF} {f:AF} {env:DEnv} {rs:List Val} {d:PyData} {fr:Bool} (h:f env=some rs) (hn:rs.length=n) (k:g (zni rs)=some (d,fr)):zay n g f env=some ⟨d,fr,bsOf d (bss rs)⟩:=by
 unfold zay;rw [h,qD,if_pos hn,k];rfl
theorem zdr {own:List Str} {fr:List Nat} {fi:IF'} {g:GT} {t:TF} {e:EF} {env:DEnv} {ds:List PyData} {bs:List Nat} {rs:List PyData} (h:fi env=some (ds,bs)) (hl:ds.length<100000) (k:zdy g t e (envB own fr env) ds=some rs) :
  zda own fr fi g t e env=some ⟨.list rs,true,if zfq rs=true then [] else bs++capA fr env⟩:=by
 unfold zda;rw [h,qD,if_pos hl,k];rfl
theorem zdw {n:Nat} {f:SF} {ds:List PyData} {env:DEnv} {d:PyData} {fr:Bool} (h:zkq n ds=env) (e:f env=some (.rt d fr)):fnD n f ds=some (d,fr):=by
 unfold fnD;rw [h,e]
theorem zavd {n:Nat} {f:SF} {ds:List PyData} {env env':DEnv} (h:zkq n ds=env) (e:f env=some (.nx env')):fnD n f ds=some (.none,false):=by
 unfold fnD;rw [h,e]
theorem zahu (n:Int):neD (.int n) (.int n)=some (.bool false,false):=by
 have e:qG (.int n) (.int n)=true:=by unfold qG;exact beq_self_eq_true n
 show some (PyData.bool (!PyData.eqv (.int n) (.int n)),false)=_
 rw [e];rfl
noncomputable def zae (xs:List Str):PyData:=.list (xs.map .str)
noncomputable def rowD (p:Str×List Str):PyData:=.tuple [.str p.1,zae p.2]
noncomputable def webD (W:Web):PyData:=.list (W.map rowD)
theorem zin (xs:List Str):zfq (xs.map .str)=true:=by
 unfold zfq
 rw [List.all_map]
 exact qAZ.mpr fun _ _=>rfl
theorem zadg (xs:List Str) (x:Str):((xs.map PyData.str).any fun e=>qG e (.str x))=decide (x∈xs):=by
 rw [qBY,qAF,qAS,decide_eq_true_iff]
 constructor
 ·rintro ⟨y,hy,h⟩
  have:y=x:=by simpa [qG] using h
  rw [← this];exact hy
 ·exact fun h=>⟨x,h,by simp [qG]⟩
theorem zvq (b:Bool) (xs:List Str) (x:Str):inD b (.str x) (zae xs)=some (.bool (if b then !decide (x∈xs) else decide (x∈xs)),false):=by
 unfold inD zae
 simp only [zgy]
 rw [if_pos ⟨rfl,zin xs⟩,zadg]
theorem zafc {W:Web} (hl:W.length<100000):zmh [webD W]=some (zae (nm W),true):=by
 have c:zdy (gT 2 (zao 0 (zao 1 zce))) zcw (eVar 0) [.no,.no] (W.map rowD)=some (W.map fun p=>PyData.str p.1):=zdg fun p _=>⟨[.pl (.str p.1),.pl (zae p.2)],rfl,rfl,⟨.str p.1,false,[]⟩,rfl,rfl⟩
 have e:zjr [.pl (webD W)]=some (.rt (zae (nm W)) true):=by
  unfold zjr sRet zda zaw
  simp only [eVar,qAK,qD,webD,zgy,qAq,qC]
  rw [if_pos hl]
  show Option.map _ (Option.map _ (zdy _ _ _ [.no,.no] _))=_
  rw [c]
  unfold zae nm
  simp
 show (match zjr [.pl (webD W)] with|some (.rt d fr)=>some (d,fr)|some (.nx _)=>some (.none,false)|_=>none)=_
 rw [e]
theorem zvr {W:Web} (hl:W.length<100000) {ns:List Str} (h:∀ n∈ns,n∈nm W):zgq [webD W,zae ns]=some (.none,false):=by
 have l:∃ env',forL (gN 3) (sIf (zbh (eOp (inD true) (eVar 3) (eVar 2))) zada sNil) (ns.map .str) [.pl (webD W),.pl (zae ns),.ac (zae (nm W)),.no]=some (.nx env')∧True:=by
  refine zem (fun _ env=>∃ s,env=[.pl (webD W),.pl (zae ns),.ac (zae (nm W)),s]) ⟨_,rfl⟩ ?_ |>.imp fun _ q=>⟨q.1,trivial⟩
  rintro pre x post env hx ⟨s,rfl⟩
  have hm:=h x (by rw [← hx];simp)
  refine ⟨_,[.pl (webD W),.pl (zae ns),.ac (zae (nm W)),.pl (.str x)],rfl,.inl ?_,_,rfl⟩
  simp [sIf,zbh,eOp,eVar,sNil,zvq,hm,bsOf,zgv]
 obtain ⟨env',l,_⟩:=l
 have e:zgp [.pl (webD W),.pl (zae ns),.no,.no]=some (.nx env'):=by
  unfold zgp sSeq sSet zay sFor zaw
  simp only [zab,aNil,eVar,qAK,qAL,qD,qAq,zni,qZ,qBX,qAc,qCH,zafc hl,if_true]
  simp [putV,frzs,bsOf,zae,zgv,bss,slOf,zgy]
  exact l
 show (match zgp [.pl (webD W),.pl (zae ns),.no,.no] with|some (.rt d fr)=>some (d,fr)|some (.nx _)=>some (.none,false)|_=>none)=_
 rw [e]
noncomputable def insS (ks:List Str) (k:Str):List Str:=if k∈ks then ks else ks++[k]
noncomputable def upL (acc:List (Str×List Str)) (e:Str):List Str:=(acc.lookup e).getD []
noncomputable def zki (acc:List (Str×List Str)) (p:Str×List Str):List (Str×List Str):=acc++[(p.1,p.2.foldl (fun ks e=>(upL acc e).foldl insS ks) [p.1])]
noncomputable def ups (W:Web):List (Str×List Str):=W.foldl zki []
noncomputable def up (W:Web) (n:Str):List Str:=upL (ups W) n
theorem zkj (W:Web) (p:Str×List Str):ups (W++[p])=zki (ups W) p:=by unfold ups;rw [qBb];rfl
theorem zalx {ks:List Str} {k x:Str}:x∈insS ks k↔x∈ks∨x=k:=by
 unfold insS
 split
 ·rename_i h
  exact ⟨.inl,fun z=>z.elim id fun e=>e▸h⟩
 ·simp
theorem zoh {x:Str}:∀ {ms ks:List Str},x∈ms.foldl insS ks↔x∈ks∨x∈ms
 | [],ks=>by simp
 | m::ms,ks=>by
  rw [qBJ,zoh,zalx]
  simp [or_assoc]
theorem zaqh {ks:List Str} {k:Str} (h:ks.Nodup):(insS ks k).Nodup:=by
 unfold insS
 split
 ·exact h
 ·rename_i hk;exact zaas h hk
theorem zvs:∀ {ms ks:List Str},ks.Nodup→(ms.foldl insS ks).Nodup
 | [],_,h=>h
 | _::ms,_,h=>zvs (ms:=ms) (zaqh h)
theorem zsc {acc:List (Str×List Str)} {x:Str}:∀ {es ks:List Str},x∈es.foldl (fun ks e=>(upL acc e).foldl insS ks) ks↔x∈ks∨∃ e∈es,x∈upL acc e
 | [],ks=>by simp
 | e::es,ks=>by
  rw [qBJ,zsc,zoh]
  simp [or_assoc]
theorem zadh {acc:List (Str×List Str)}:∀ {es ks:List Str},ks.Nodup→(es.foldl (fun ks e=>(upL acc e).foldl insS ks) ks).Nodup
 | [],_,h=>h
 | _::es,_,h=>zadh (es:=es) (zvs h)
theorem zik {l:List (Str×List Str)} {n:Str} {p:Str×List Str}:(l++[p]).lookup n=(l.lookup n).or (if n==p.1 then some p.2 else none):=by
 induction l with
 | nil =>
  obtain ⟨a,b⟩:=p
  show List.lookup n [(a,b)]=_
  rw [qAO]
  cases n==a<;>rfl
 | cons q l ih =>
  obtain ⟨a,b⟩:=q
  rw [List.cons_append,qAO,qAO]
  cases n==a with
  | true=>rfl
  | false=>exact ih
theorem zsd {α:Type} {P:List α→Prop} (h0:P []) (hs:∀ l x,P l→P (l++[x])):∀ l,P l:=by
 intro l
 have:∀ n (l:List α),l.length=n→P l:=by
  intro n
  induction n with
  | zero=>intro l e;rw [qBH.mp e];exact h0
  | succ n ih =>
   intro l e
   have hne:l≠[]:=fun z=>by rw [z] at e;cases e
   rw [← qCD hne]
   exact hs _ _ (ih _ (by rw [qCv,e];rfl))
 exact this _ l rfl
theorem zhs:∀ (W:Web),(ups W).map (·.1)=nm W:=by
 refine zsd rfl fun W p ih=>?_
 rw [zkj]
 unfold zki nm
 rw [qAJ,qAJ,ih]
 rfl
theorem znl (W:Web) (p:Str×List Str):nm (W++[p])=nm W++[p.1]:=by unfold nm;rw [qAJ];rfl
theorem zhc {W:Web} {p:Str×List Str} (h:WebOk (W++[p])):WebOk W∧p.1∉nm W∧(∀ e∈p.2,e∈nm W)∧p.2.length≤4:=by
 have hp:(W++[p])[W.length]?=some p:=by simp
 refine ⟨⟨?_,fun i n es e=>?_,fun q hq=>h.few q (qz _ hq),?_⟩,?_,fun e he=>?_,h.few p (by simp)⟩
 ·have:=h.nd;rw [znl] at this;exact (qBM.mp this).1
 ·have hi:i<W.length:=(qN.mp e).1
  have q:=h.el i n es (by rw [qAN hi];exact e)
  rw [qAm (by omega)] at q
  exact q
 ·have:=h.len;simp at this;omega
 ·have:=h.nd
  rw [znl] at this
  intro hm
  exact (qBM.mp this).2.2 p.1 hm p.1 (by simp) rfl
 ·have q:=h.el W.length p.1 p.2 hp e he
  rw [qAm (qO _),qCA] at q
  exact q
theorem zkk {l:List (Str×List Str)} {n:Str} (h:n∈l.map (·.1)):∃ ks,l.lookup n=some ks∧(n,ks)∈l:=by
 induction l with
 | nil=>simp at h
 | cons q l ih =>
  obtain ⟨a,b⟩:=q
  rw [qAO]
  cases e:n==a with
  | true=>rw [eq_of_beq e];exact ⟨b,rfl,qc⟩
  | false =>
   have hn:n≠a:=beq_eq_false_iff_ne.mp e
   rcases qe.mp h with z|z
   ·exact absurd z hn
   ·obtain ⟨ks,h1,h2⟩:=ih z
    exact ⟨ks,h1,qT _ h2⟩
theorem zpe {W:Web} {p:Str×List Str} {m:Str} (h:m∈nm W):up (W++[p]) m=up W m:=by
 unfold up upL
 rw [zkj]
 unfold zki
 obtain ⟨ks,e,_⟩:=zkk (l:=ups W) (n:=m) (by rw [zhs];exact h)
 rw [zik,e]
 rfl
theorem zse {l:List (Str×List Str)} {n:Str} (h:n∉l.map (·.1)):l.lookup n=none:=by
 induction l with
 | nil=>rfl
 | cons q l ih =>
  obtain ⟨a,b⟩:=q
  rw [qAO]
  have h1:n≠a:=fun z=>h (by simp [z])
  rw [beq_eq_false_iff_ne.mpr h1]
  exact ih fun z=>h (qT _ z)
theorem zaog {W:Web} {p:Str×List Str} (h:p.1∉nm W):up (W++[p]) p.1=p.2.foldl (fun ks e=>(upL (ups W) e).foldl insS ks) [p.1]:=by
 unfold up upL
 rw [zkj]
 unfold zki
 rw [zik,zse (by rw [zhs];exact h)]
 simp [upL]
theorem zatm {W:Web} {n:Str} {es:List Str} (h:(n,es)∈W):n∈nm W:=qAa.mpr ⟨_,h,rfl⟩
theorem zvt {W:Web} (h:WebOk W) {n:Str} {es:List Str} (hm:(n,es)∈W):∀ e∈es,e∈nm W:=fun e he=>by
 obtain ⟨i,hi,e'⟩:=qBS hm
 have q:=h.el i n es (by rw [qE hi,e']) e he
 obtain ⟨p,h1,h2⟩:=qAa.mp q
 exact qAa.mpr ⟨p,qAx h1,h2⟩
theorem zatn {x:Str}:∀ {W:Web},WebOk W→∀ {n:Str} {es:List Str},(n,es)∈W→(x∈up W n↔x=n∨∃ e∈es,x∈up W e):=by
 intro W
 refine zsd (P:=fun W=>WebOk W→∀ {n:Str} {es:List Str},(n,es)∈W→(x∈up W n↔x=n∨∃ e∈es,x∈up W e)) (fun _ n es h=>nomatch h) (fun W p ih h n es hm=>?_) W
 obtain ⟨hW,hp,hel,_⟩:=zhc h
 rcases qAA.mp hm with hm|hm
 ·rw [zpe (zatm hm),ih hW hm]
  have:(∃ e∈es,x∈up W e)↔∃ e∈es,x∈up (W++[p]) e:=by
   constructor
   ·rintro ⟨e,he,hx⟩;exact ⟨e,he,by rw [zpe (zvt hW hm e he)];exact hx⟩
   ·rintro ⟨e,he,hx⟩;exact ⟨e,he,by rw [zpe (zvt hW hm e he)] at hx;exact hx⟩
  rw [this]
 ·have e:(n,es)=p:=by simpa using hm
  subst e
  rw [zaog hp,zsc]
  have:(∃ e∈es,x∈upL (ups W) e)↔∃ e∈es,x∈up (W++[(n,es)]) e:=by
   constructor
   ·rintro ⟨e,he,hx⟩;exact ⟨e,he,by rw [zpe (hel e he)];exact hx⟩
   ·rintro ⟨e,he,hx⟩;exact ⟨e,he,by rw [zpe (hel e he)] at hx;exact hx⟩
  rw [this]
  simp
theorem zaqi {W:Web} (h:WebOk W) {n:Str} (hn:n∈nm W):n∈up W n:=by
 obtain ⟨⟨m,es⟩,h1,h2⟩:=qAa.mp hn
 cases h2
 exact (zatn h h1).mpr (.inl rfl)
theorem zadi:∀ {W:Web},WebOk W→∀ {n x:Str},x∈up W n→x∈nm W:=by
 intro W
 refine zsd (P:=fun W=>WebOk W→∀ {n x:Str},x∈up W n→x∈nm W) (fun _ n x h=>by simp [up,ups,upL] at h) (fun W p ih h n x hx=>?_) W
 obtain ⟨hW,hp,hel,_⟩:=zhc h
 rw [znl]
 by_cases hn:n∈nm W
 ·rw [zpe hn] at hx
  exact qz _ (ih hW hx)
 ·by_cases e:n=p.1
  ·rw [e,zaog hp,zsc] at hx
   rcases hx with hx|⟨e',_,hx⟩
   ·exact qm _ (by simpa using hx)
   ·exact qz _ (ih hW hx)
  ·unfold up upL at hx
   rw [zkj] at hx
   unfold zki at hx
   rw [zik,zse (by rw [zhs];exact hn),beq_eq_false_iff_ne.mpr e] at hx
   simp at hx
theorem zave:∀ {W:Web} {n:Str},(up W n).Nodup:=by
 intro W
 refine zsd (P:=fun W=>∀ {n:Str},(up W n).Nodup) (fun {n}=>by simp [up,ups,upL]) (fun W p ih n=>?_) W
 unfold up upL
 rw [zkj]
 unfold zki
 rw [zik]
 cases e:(ups W).lookup n with
 | some ks =>
  have q:=ih (n:=n)
  unfold up upL at q
  rw [e] at q
  exact q
 | none =>
  show ((if n==p.1 then some _ else none).getD []).Nodup
  split
  ·exact zadh (by simp)
  ·exact qBq
theorem zahv {W:Web} (h:WebOk W) (n:Str):(up W n).length≤12:=by
 have:=zlb _ (nm W) (zave (W:=W) (n:=n)) fun x hx=>zadi h hx
 have:=zro h
 omega
noncomputable def dS (f:List Str→PyData) (l:List (Str×List Str)):List (PyData×PyData):=l.map fun p=>(.str p.1,f p.2)
theorem znm (f:List Str→PyData) (n:Str):∀ l:List (Str×List Str),zoa (dS f l) (Sum.inr n)=(l.lookup n).map f
 | []=>rfl
 | (a,b)::l=>by
  have ih:=znm f n l
  show (if keyD (.str a)=some (Sum.inr n) then some (f b) else zoa (dS f l) (Sum.inr n))=_
  rw [qAO]
  by_cases e:a=n
  ·subst e;rw [if_pos (show keyD (.str a)=some (Sum.inr a) from rfl),beq_self_eq_true];rfl
  ·rw [if_neg (show ¬ keyD (.str a)=some (Sum.inr n) from fun z=>e (qBo (qr z))),beq_eq_false_iff_ne.mpr (qA2 e)]
   exact ih
theorem zahw (f:List Str→PyData) {l:List (Str×List Str)} {n:Str} {ks:List Str} (h:n∉l.map (·.1)):ztu (dS f l) (.str n) (f ks)=dS f (l++[(n,ks)]):=by
 unfold ztu dS
 rw [if_neg,qAJ]
 ·rfl
 ·intro z
  rw [qBY,qAS] at z
  obtain ⟨p,hp,e⟩:=z
  have e:=of_decide_eq_true e
  exact h (qAa.mpr ⟨p,hp,qBo (qr e)⟩)
noncomputable def zjc (ks:List Str):List (PyData×PyData):=ks.map fun k=>(.str k,.bool true)
noncomputable def zas (ks:List Str):PyData:=.dict (zjc ks)
theorem zyf (x:Str):∀ ks:List Str,zaaw (zjc ks) (Sum.inr x)=decide (x∈ks)
 | []=>by simp [zjc,zaaw,zoa]
 | k::ks=>by
  have ih:=zyf x ks
  unfold zaaw at ih ⊢
  show (if keyD (.str k)=some (Sum.inr x) then some (PyData.bool true) else zoa (zjc ks) (Sum.inr x)).isSome=_
  by_cases e:k=x
  ·subst e;rw [if_pos (show keyD (.str k)=some (Sum.inr k) from rfl)];simp
  ·rw [if_neg (show ¬ keyD (.str k)=some (Sum.inr x) from fun z=>e (qBo (qr z))),ih]
   have:¬ x=k:=fun z=>e z.symm
   simp [this]
theorem zahx (ks:List Str) (k:Str):ztu (zjc ks) (.str k) (.bool true)=zjc (insS ks k):=by
 have ha:((zjc ks).any fun kv=>decide (keyD kv.1=keyD (.str k)))=decide (k∈ks):=by
  unfold zjc
  rw [qBY,qAF,qAS,decide_eq_true_iff]
  constructor
  ·rintro ⟨y,hy,h⟩
   have h:=of_decide_eq_true h
   have:y=k:=qBo (qr h)
   rw [← this];exact hy
  ·exact fun h=>⟨k,h,decide_eq_true rfl⟩
 unfold ztu insS
 rw [ha]
 by_cases hk:k∈ks
 ·rw [if_pos (decide_eq_true hk),if_pos hk]
  unfold zjc
  rw [qAi]
  refine qBR fun y _=>?_
  show (if keyD (PyData.str y)=keyD (.str k) then (PyData.str y,PyData.bool true) else (PyData.str y,PyData.bool true))=_
  split<;>rfl
 ·rw [if_neg (by simpa using hk),if_neg hk]
  unfold zjc
  rw [qAJ];rfl
theorem znn:∀ (ms ks:List Str),zng (zjc ks) (zjc ms)=zjc (ms.foldl insS ks)
 | [],_=>rfl
 | m::ms,ks=>by
  show zng (ztu (zjc ks) (.str m) (.bool true)) (zjc ms)=_
  rw [zahx,znn ms];rfl
theorem zadj {α:Type} {pre post:List α} {x:α} {l:List α} (h:pre++x::post=l):l=(pre++[x])++post:=by rw [← h];simp
theorem zyg:∀ {post W:Web},WebOk (W++post)→WebOk W:=by
 intro post
 refine zsd (P:=fun post=>∀ {W:Web},WebOk (W++post)→WebOk W) (fun {W} h=>by rwa [qAg] at h) (fun post p ih W h=>?_) post
 rw [← qBN] at h
 exact ih (zhc h).1
theorem zmi {W:Web} (h:WebOk W):zdz [webD W]=some (.dict (dS zas (ups W)),true):=by
 have inner:∀ (V:Web) (p:Str×List Str) (es pre:List Str) (s5:Sl),WebOk (V++[p])→pre++es=p.2 →
   ∃ s5',forL (gN 5) (sUpd 4 (zel 1 (eVar 5))) (es.map .str) [.pl (webD W),.ac (.dict (dS zas (ups V))),.pl (.str p.1),.pl (zae p.2),.ac (zas (pre.foldl (fun ks e=>(upL (ups V) e).foldl insS ks) [p.1])),s5] =
    some (.nx [.pl (webD W),.ac (.dict (dS zas (ups V))),.pl (.str p.1),.pl (zae p.2),.ac (zas (p.2.foldl (fun ks e=>(upL (ups V) e).foldl insS ks) [p.1])),s5']):=by
  intro V p es
  induction es with
  | nil=>intro pre s5 _ e;rw [qAg] at e;subst e;exact ⟨s5,rfl⟩
  | cons e es ih =>
   intro pre s5 hV hp
   obtain ⟨hV',hn,hel,hfew⟩:=zhc hV
   have he:e∈nm V:=hel e (by rw [← hp];simp)
   obtain ⟨ks,lk,_⟩:=zkk (l:=ups V) (n:=e) (by rw [zhs];exact he)
   have eup:upL (ups V) e=ks:=by unfold upL;rw [lk];rfl
   have l1:ks.length≤12:=by rw [← eup];exact zahv hV' e
   have sub:∀ x∈pre.foldl (fun ks e=>(upL (ups V) e).foldl insS ks) [p.1],x∈nm (V++[p]):=fun x hx=>by
    rw [znl]
    rcases zsc.mp hx with z|⟨e',_,z⟩
    ·exact qm _ (by simpa using z)
    ·exact qz _ (zadi hV' z)
   have l2:(pre.foldl (fun ks e=>(upL (ups V) e).foldl insS ks) [p.1]).length≤12:=by
    have:=zlb _ _ (zadh (acc:=ups V) (es:=pre) (ks:=[p.1]) (by simp)) sub
    have:=zro hV
    omega
   obtain ⟨s5',q⟩:=ih (pre++[e]) (.pl (.str e)) hV (by rw [← hp];simp)
   refine ⟨s5',?_⟩
   rw [qZ]
   unfold forL
   simp only [gN,qD,qBV,qBU]
   have b:sUpd 4 (zel 1 (eVar 5)) [.pl (webD W),.ac (.dict (dS zas (ups V))),.pl (.str p.1),.pl (zae p.2),.ac (zas (pre.foldl (fun ks e=>(upL (ups V) e).foldl insS ks) [p.1])),.pl (.str e)] =
     some (.nx [.pl (webD W),.ac (.dict (dS zas (ups V))),.pl (.str p.1),.pl (zae p.2),.ac (zas ((pre++[e]).foldl (fun ks e=>(upL (ups V) e).foldl insS ks) [p.1])),.pl (.str e)]):=by
    have lz:(zjc (pre.foldl (fun ks e=>(upL (ups V) e).foldl insS ks) [p.1])).length+(zjc ks).length≤100000:=by unfold zjc;rw [qC,qC];omega
    simp only [sUpd,zas,zel,eVar,qAL,qAK,qD,keyD,znm,lk,qAq]
    rw [if_pos ⟨lz,by simp⟩,znn]
    simp [frzs,qBb,eup]
   rw [b,qD]
   exact q
 have outer:∃ env',forL (gT 2 (zao 2 (zao 3 zce))) (sSeq (sSet 4 (eD1 (eVar 2) (eC (.bool true)))) (sSeq (sFor (zaw (eVar 3)) (gN 5) (sUpd 4 (zel 1 (eVar 5)))) (sPut 1 (eVar 2) (eVar 4)))) (W.map rowD) [.pl (webD W),.ac (.dict []),.no,.no,.no,.no]=some (.nx env') ∧
   ∃ s2 s3 s4 s5,env'=[.pl (webD W),.ac (.dict (dS zas (ups W))),s2,s3,s4,s5]:=by
  refine zem (fun pre env=>∃ s2 s3 s4 s5,env=[.pl (webD W),.ac (.dict (dS zas (ups pre))),s2,s3,s4,s5]) ⟨_,_,_,_,rfl⟩ ?_
  rintro pre p post env hp ⟨s2,s3,s4,s5,rfl⟩
  have hV:WebOk (pre++[p]):=zyg (post:=post) (by rw [← zadj hp];exact h)
  obtain ⟨hV',hn,hel,hfew⟩:=zhc hV
  obtain ⟨s5',q⟩:=inner pre p p.2 [] s5 hV rfl
  refine ⟨[.pl (webD W),.ac (.dict (dS zas (ups pre))),.pl (.str p.1),.pl (zae p.2),s4,s5],[.pl (webD W),.ac (.dict (dS zas (ups (pre++[p])))),.pl (.str p.1),.pl (zae p.2),.pl (zas (p.2.foldl (fun ks e=>(upL (ups pre) e).foldl insS ks) [p.1])),s5'],rfl,.inl ?_,_,_,_,_,rfl⟩
  have lz:(dS zas (ups pre)).length<100000:=by
   unfold dS
   rw [qC,← qC (f:=(·.1)),zhs]
   have:=zro hV'
   omega
  have st:sSet 4 (eD1 (eVar 2) (eC (.bool true))) [.pl (webD W),.ac (.dict (dS zas (ups pre))),.pl (.str p.1),.pl (zae p.2),s4,s5]=some (.nx [.pl (webD W),.ac (.dict (dS zas (ups pre))),.pl (.str p.1),.pl (zae p.2),.ac (zas [p.1]),s5]):=by
   simp [sSet,eD1,eVar,eC,keyD,putV,frzs,slOf,zas,zjc]
  have pt:sPut 1 (eVar 2) (eVar 4) [.pl (webD W),.ac (.dict (dS zas (ups pre))),.pl (.str p.1),.pl (zae p.2),.ac (zas (p.2.foldl (fun ks e=>(upL (ups pre) e).foldl insS ks) [p.1])),s5'] =
    some (.nx [.pl (webD W),.ac (.dict (dS zas (ups (pre++[p])))),.pl (.str p.1),.pl (zae p.2),.pl (zas (p.2.foldl (fun ks e=>(upL (ups pre) e).foldl insS ks) [p.1])),s5']):=by
   simp only [sPut,eVar,qAL,qAK,qD,keyD]
   rw [if_pos ⟨lz,by simp⟩,zahw zas (by rw [zhs];exact hn),zkj]
   simp [frzs,frz1,zki]
  exact zat st (zat (for_list rfl q) pt)
 obtain ⟨env',hl,s2,s3,s4,s5,rfl⟩:=outer
 exact zdw (env:=[.pl (webD W),.no,.no,.no,.no,.no]) rfl (zat rfl (zat (for_list rfl hl) rfl))
theorem zahy {W:Web} {A B C:Sl} {D E:Sl}:∀ (ms ks:List Str) (s6:Sl),ks.length+ms.length<100000→∃ s6',forL (gN 6) (sIf (zbh (eOp (inD true) (eVar 6) (eVar 4))) (sApp 4 (eVar 6)) sNil) (ms.map .str) [A,B,C,D,.ac (zae ks),E,s6]=some (.nx [A,B,C,D,.ac (zae (ms.foldl insS ks)),E,s6'])
 | [],ks,s6,_=>⟨s6,rfl⟩
 | m::ms,ks,s6,hl=>by
  have step:sIf (zbh (eOp (inD true) (eVar 6) (eVar 4))) (sApp 4 (eVar 6)) sNil [A,B,C,D,.ac (zae ks),E,.pl (.str m)]=some (.nx [A,B,C,D,.ac (zae (insS ks m)),E,.pl (.str m)]):=by
   by_cases hm:m∈ks
   ·refine if_f ?_ ?_
    ·simp [zbh,eOp,eVar,zvq,hm]
    ·rw [show insS ks m=ks from if_pos hm];rfl
   ·refine if_t ?_ ?_
    ·simp [zbh,eOp,eVar,zvq,hm]
    ·have lz:(ks.map PyData.str).length<100000:=by rw [qC];simp at hl;omega
     simp only [sApp,zae,eVar,qAL,qAK,qD]
     rw [if_pos ⟨lz,by simp⟩]
     simp [frzs,insS,hm]
  have hl2:(insS ks m).length+ms.length<100000:=by
   have:(insS ks m).length≤ks.length+1:=by unfold insS;split<;>simp
   simp at hl;omega
  obtain ⟨s6',q⟩:=zahy (W:=W) ms (insS ks m) (.pl (.str m)) hl2
  refine ⟨s6',?_⟩
  rw [qZ]
  unfold forL
  simp only [gN,qD,qBV,qBU]
  rw [step,qD]
  exact q
theorem zaly {W:Web} (h:WebOk W):zog [webD W]=some (.dict (dS zae (ups W)),true):=by
 have inner:∀ (V:Web) (p:Str×List Str) (es pre:List Str) (s5 s6:Sl),WebOk (V++[p])→pre++es=p.2 →
   ∃ s5' s6',forL (gN 5) (sFor (zaw (zel 1 (eVar 5))) (gN 6) (sIf (zbh (eOp (inD true) (eVar 6) (eVar 4))) (sApp 4 (eVar 6)) sNil)) (es.map .str) [.pl (webD W),.ac (.dict (dS zae (ups V))),.pl (.str p.1),.pl (zae p.2),.ac (zae (pre.foldl (fun ks e=>(upL (ups V) e).foldl insS ks) [p.1])),s5,s6] =
    some (.nx [.pl (webD W),.ac (.dict (dS zae (ups V))),.pl (.str p.1),.pl (zae p.2),.ac (zae (p.2.foldl (fun ks e=>(upL (ups V) e).foldl insS ks) [p.1])),s5',s6']):=by
  intro V p es
  induction es with
  | nil=>intro pre s5 s6 _ e;rw [qAg] at e;subst e;exact ⟨s5,s6,rfl⟩
  | cons e es ih =>
   intro pre s5 s6 hV hp
   obtain ⟨hV',hn,hel,hfew⟩:=zhc hV
   have he:e∈nm V:=hel e (by rw [← hp];simp)
   obtain ⟨ks,lk,_⟩:=zkk (l:=ups V) (n:=e) (by rw [zhs];exact he)
   have eup:upL (ups V) e=ks:=by unfold upL;rw [lk];rfl
   have l1:ks.length≤12:=by rw [← eup];exact zahv hV' e
   have sub:∀ x∈pre.foldl (fun ks e=>(upL (ups V) e).foldl insS ks) [p.1],x∈nm (V++[p]):=fun x hx=>by
    rw [znl]
    rcases zsc.mp hx with z|⟨e',_,z⟩
    ·exact qm _ (by simpa using z)
    ·exact qz _ (zadi hV' z)
   have l2:(pre.foldl (fun ks e=>(upL (ups V) e).foldl insS ks) [p.1]).length≤12:=by
    have:=zlb _ _ (zadh (acc:=ups V) (es:=pre) (ks:=[p.1]) (by simp)) sub
    have:=zro hV
    omega
   obtain ⟨s6',q1⟩:=zahy (W:=W) (A:=.pl (webD W)) (B:=.ac (.dict (dS zae (ups V)))) (C:=.pl (.str p.1)) (D:=.pl (zae p.2)) (E:=.pl (.str e)) ks (pre.foldl (fun ks e=>(upL (ups V) e).foldl insS ks) [p.1]) s6 (by omega)
   obtain ⟨s5',s6'',q⟩:=ih (pre++[e]) (.pl (.str e)) s6' hV (by rw [← hp];simp)
   refine ⟨s5',s6'',?_⟩
   rw [qZ]
   unfold forL
   simp only [gN,qD,qBV,qBU]
   have gd:zel 1 (eVar 5) [.pl (webD W),.ac (.dict (dS zae (ups V))),.pl (.str p.1),.pl (zae p.2),.ac (zae (pre.foldl (fun ks e=>(upL (ups V) e).foldl insS ks) [p.1])),.pl (.str e),s6]=some ⟨zae ks,false,[]⟩:=by
    simp [zel,eVar,keyD,znm,lk]
   rw [for_list gd q1,qD]
   rw [qBb,qBJ,List.foldl_nil,eup] at q
   exact q
 have outer:∃ env',forL (gT 2 (zao 2 (zao 3 zce))) (sSeq (sSet 4 (eLst (zab (eVar 2) aNil))) (sSeq (sFor (zaw (eVar 3)) (gN 5) (sFor (zaw (zel 1 (eVar 5))) (gN 6) (sIf (zbh (eOp (inD true) (eVar 6) (eVar 4))) (sApp 4 (eVar 6)) sNil))) (sPut 1 (eVar 2) (eVar 4)))) (W.map rowD) [.pl (webD W),.ac (.dict []),.no,.no,.no,.no,.no]=some (.nx env') ∧
   ∃ s2 s3 s4 s5 s6,env'=[.pl (webD W),.ac (.dict (dS zae (ups W))),s2,s3,s4,s5,s6]:=by
  refine zem (fun pre env=>∃ s2 s3 s4 s5 s6,env=[.pl (webD W),.ac (.dict (dS zae (ups pre))),s2,s3,s4,s5,s6]) ⟨_,_,_,_,_,rfl⟩ ?_
  rintro pre p post env hp ⟨s2,s3,s4,s5,s6,rfl⟩
  have hV:WebOk (pre++[p]):=zyg (post:=post) (by rw [← zadj hp];exact h)
  obtain ⟨hV',hn,hel,hfew⟩:=zhc hV
  obtain ⟨s5',s6',q⟩:=inner pre p p.2 [] s5 s6 hV rfl
  refine ⟨[.pl (webD W),.ac (.dict (dS zae (ups pre))),.pl (.str p.1),.pl (zae p.2),s4,s5,s6],[.pl (webD W),.ac (.dict (dS zae (ups (pre++[p])))),.pl (.str p.1),.pl (zae p.2),.pl (zae (p.2.foldl (fun ks e=>(upL (ups pre) e).foldl insS ks) [p.1])),s5',s6'],rfl,.inl ?_,_,_,_,_,_,rfl⟩
  have lz:(dS zae (ups pre)).length<100000:=by
   unfold dS
   rw [qC,← qC (f:=(·.1)),zhs]
   have:=zro hV'
   omega
  have pt:sPut 1 (eVar 2) (eVar 4) [.pl (webD W),.ac (.dict (dS zae (ups pre))),.pl (.str p.1),.pl (zae p.2),.ac (zae (p.2.foldl (fun ks e=>(upL (ups pre) e).foldl insS ks) [p.1])),s5',s6'] =
    some (.nx [.pl (webD W),.ac (.dict (dS zae (ups (pre++[p])))),.pl (.str p.1),.pl (zae p.2),.pl (zae (p.2.foldl (fun ks e=>(upL (ups pre) e).foldl insS ks) [p.1])),s5',s6']):=by
   simp only [sPut,eVar,qAL,qAK,qD,keyD]
   rw [if_pos ⟨lz,by simp⟩,zahw zae (by rw [zhs];exact hn),zkj]
   simp [frzs,frz1,zki]
  exact zat rfl (zat (for_list rfl q) pt)
 obtain ⟨env',hl,s2,s3,s4,s5,s6,rfl⟩:=outer
 exact zdw (env:=[.pl (webD W),.no,.no,.no,.no,.no,.no]) rfl (zat rfl (zat (for_list rfl hl) rfl))
noncomputable def ltr (i:Int):Str:=⟨#[97+i.toNat]⟩
noncomputable def Low (x:Str):Prop:=∀ c∈x.cps.toList,c<128
theorem zoi {x:Str} (h:Low x):qV x=true:=by
 unfold qV
 rw [← Array.all_toList,qAZ]
 intro c hc
 have:=h c hc
 exact decide_eq_true (by omega)
theorem zkl (a b:Str):(a++b).cps.toList=a.cps.toList++b.cps.toList:=by
 show (a.cps++b.cps).toList=_
 simp
theorem Low.app {a b:Str} (h1:Low a) (h2:Low b):Low (a++b):=fun c hc=>by
 rw [zkl] at hc
 exact (qAA.mp hc).elim (h1 c) (h2 c)
theorem Low.slice {x:Str} (h:Low x) (l u:Option Int):Low (Txt.slice x l u):=fun c hc=>by
 unfold Txt.slice at hc
 split at hc
 ·exact h c hc
 ·have hc:c∈(List.filterMap (x.cps[·]?) (Builtin.Str.strSliceIndices l u 1 x.length)):=by simpa using hc
  obtain ⟨i,_,e⟩:=qBW.mp hc
  exact h c (by
   have:=qCl e
   simpa using this)
theorem Low.ltr {i:Int} (h0:0≤i) (h1:i<26):Low (ltr i):=fun c hc=>by
 have:c=97+i.toNat:=by simpa [Bc.ltr] using hc
 omega
theorem foldl_rep (c:Nat):∀ (n:Nat) (acc:Array Nat),((List.replicate n #[c]).foldl (·++·) acc).toList=acc.toList++List.replicate n c
 | 0,acc=>by simp
 | n+1,acc=>by
  rw [qAG,qBJ,foldl_rep c n,qAG]
  simp
theorem zoj {c:Nat} {n:Int} (h:0≤n):(Txt.mul ⟨#[c]⟩ n).cps.toList=List.replicate n.toNat c:=by
 unfold Txt.mul
 split
 ·have:n.toNat=0:=by omega
  rw [this];rfl
 ·split
  ·rename_i h1 h2
   have:n=1:=by
    rcases qBw.mp h2 with z|z
    ·exact eq_of_beq z
    ·exact absurd z (by simp [Str.length])
   subst this
   rfl
  ·rw [foldl_rep];rfl
theorem Low.mul {c:Nat} (hc:c<128) {n:Int} (h:0≤n):Low (Txt.mul ⟨#[c]⟩ n):=fun d hd=>by
 rw [zoj h] at hd
 rw [qBc hd];exact hc
theorem zaqj {c:Nat} {n:Int} (h:0≤n):(Txt.mul ⟨#[c]⟩ n).length=n.toNat:=by
 have:=congrArg List.length (zoj (c:=c) h)
 rw [qAj] at this
 simpa [Str.length] using this
noncomputable def zkz (md o st:Int) (stem:Str) (at_:Int) (k:Nat):Str :=
 if md=0 then Txt.slice stem none (some at_)++ltr ((o+st * k) % 26)++Txt.slice stem (some at_) none
 else if md=1 then Txt.slice stem none (some (k * st % (stem.length+1)))++ltr ((o+st * k) % 26)
 else Txt.mul (ltr ((o+k / 8) % 26)) (1+k * st % 8)
theorem zahz {i j:Int} (h0:0≤i) (h1:0≤j) (h:ltr i=ltr j):i=j:=by
 unfold ltr at h
 have:#[97+i.toNat]=#[97+j.toNat]:=by injection h
 have:97+i.toNat=97+j.toNat:=by simpa using this
 omega
theorem zyh:∀ st∈([1,3,5,7,9,11,15,17]:List Nat),∀ a<16,∀ b<16,st * a % 26=st * b % 26→a=b:=by decide +kernel
theorem zadk {o st:Int} (hs:st∈([1,3,5,7,9,11,15,17]:List Int)) {a b:Nat} (ha:a<16) (hb:b<16) (h:(o+st * a) % 26=(o+st * b) % 26):a=b:=by
 have h2:=Int.emod_add_cancel_left.mp h
 simp only [qe,qBh,or_false] at hs
 rcases hs with rfl|rfl|rfl|rfl|rfl|rfl|rfl|rfl
 ·exact zyh 1 (by decide) a ha b hb (by exact_mod_cast h2)
 ·exact zyh 3 (by decide) a ha b hb (by exact_mod_cast h2)
 ·exact zyh 5 (by decide) a ha b hb (by exact_mod_cast h2)
 ·exact zyh 7 (by decide) a ha b hb (by exact_mod_cast h2)
 ·exact zyh 9 (by decide) a ha b hb (by exact_mod_cast h2)
 ·exact zyh 11 (by decide) a ha b hb (by exact_mod_cast h2)
 ·exact zyh 15 (by decide) a ha b hb (by exact_mod_cast h2)
 ·exact zyh 17 (by decide) a ha b hb (by exact_mod_cast h2)
theorem zaqk {x y:Int} (hx:0≤x) (hy:0≤y) (h:97+x.toNat=97+y.toNat):x=y:=by omega
theorem zato {x y:Int} (hx:0≤x) (hy:0≤y) (h:(1+x).toNat=(1+y).toNat):x=y:=by omega
theorem zaia {x:Int} (hx:0≤x):(1+x).toNat=x.toNat+1:=by omega
theorem tab8:∀ st∈([1,3,5,7,9,11,15,17]:List Nat),∀ a<16,∀ b<16,a / 8=b / 8→a * st % 8=b * st % 8→a=b:=by decide +kernel
theorem zaib {o st:Int} (hs:st∈([1,3,5,7,9,11,15,17]:List Int)) {a b:Nat} (ha:a<16) (hb:b<16) (h:(o+(a:Int) / 8) % 26=(o+(b:Int) / 8) % 26) (h2:(a:Int) * st % 8=b * st % 8):a=b:=by
 have q1:a / 8=b / 8:=by omega
 simp only [qe,qBh,or_false] at hs
 rcases hs with rfl|rfl|rfl|rfl|rfl|rfl|rfl|rfl
 ·exact tab8 1 (by decide) a ha b hb q1 (by exact_mod_cast h2)
 ·exact tab8 3 (by decide) a ha b hb q1 (by exact_mod_cast h2)
 ·exact tab8 5 (by decide) a ha b hb q1 (by exact_mod_cast h2)
 ·exact tab8 7 (by decide) a ha b hb q1 (by exact_mod_cast h2)
 ·exact tab8 9 (by decide) a ha b hb q1 (by exact_mod_cast h2)
 ·exact tab8 11 (by decide) a ha b hb q1 (by exact_mod_cast h2)
 ·exact tab8 15 (by decide) a ha b hb q1 (by exact_mod_cast h2)
 ·exact tab8 17 (by decide) a ha b hb q1 (by exact_mod_cast h2)
theorem zaic {md o st at_:Int} {stem:Str} (hs:st∈([1,3,5,7,9,11,15,17]:List Int)) (ho:0≤o) {a b:Nat} (ha:a<16) (hb:b<16) (h:zkz md o st stem at_ a=zkz md o st stem at_ b):a=b:=by
 have st0:0≤st:=by
  simp only [qe,qBh,or_false] at hs
  rcases hs with rfl|rfl|rfl|rfl|rfl|rfl|rfl|rfl<;>decide
 have n26:∀ z:Int,0≤z % 26:=fun z=>qAQ z (by decide)
 unfold zkz at h
 by_cases h0:md=0
 ·rw [if_pos h0,if_pos h0] at h
  have q:=congrArg (fun x:Str=>x.cps.toList) h
  simp only [zkl] at q
  have q2:=List.append_cancel_right q
  have q3:=List.append_cancel_left q2
  have q4:ltr ((o+st * a) % 26)=ltr ((o+st * b) % 26):=by
   unfold ltr at q3 ⊢
   congr 1
   exact Array.toList_inj.mp q3
  exact zadk hs ha hb (zahz (n26 _) (n26 _) q4)
 ·rw [if_neg h0,if_neg h0] at h
  by_cases h1:md=1
  ·rw [if_pos h1,if_pos h1] at h
   have q:=congrArg (fun x:Str=>x.cps.toList) h
   simp only [zkl] at q
   have q3:=(List.append_inj' q (by simp [ltr])).2
   have q4:ltr ((o+st * a) % 26)=ltr ((o+st * b) % 26):=by
    unfold ltr at q3 ⊢
    congr 1
    exact Array.toList_inj.mp q3
   exact zadk hs ha hb (zahz (n26 _) (n26 _) q4)
  ·rw [if_neg h1,if_neg h1] at h
   have m8:∀ z:Int,0≤z % 8:=fun z=>qAQ z (by decide)
   have q:(Txt.mul (ltr ((o+(a:Int) / 8) % 26)) (1+a * st % 8)).cps.toList=(Txt.mul (ltr ((o+(b:Int) / 8) % 26)) (1+b * st % 8)).cps.toList:=by rw [h]
   have ea:∀ k:Nat,(Txt.mul (ltr ((o+(k:Int) / 8) % 26)) (1+k * st % 8)).cps.toList=List.replicate (1+(k:Int) * st % 8).toNat (97+((o+(k:Int) / 8) % 26).toNat):=fun k=>zoj (by have:=m8 (k * st);omega)
   rw [ea a,ea b] at q
   have ql:=congrArg List.length q
   rw [qAj,qAj] at ql
   have w1:=m8 (a * st)
   have w2:=m8 (b * st)
   have hh:(97+((o+(a:Int) / 8) % 26).toNat)=(97+((o+(b:Int) / 8) % 26).toNat):=by
    have c1:(1+(a:Int) * st % 8).toNat=((a:Int) * st % 8).toNat+1:=zaia w1
    have c2:(1+(b:Int) * st % 8).toNat=((b:Int) * st % 8).toNat+1:=zaia w2
    rw [c1,c2,qAG,qAG] at q
    exact (List.cons.inj q).1
   have z1:=n26 (o+(a:Int) / 8)
   have z2:=n26 (o+(b:Int) / 8)
   exact zaib (o:=o) hs ha hb (zaqk z1 z2 hh) (zato w1 w2 ql)
theorem zsf {α:Type} {f:Nat→α} {n:Nat} (h:∀ a b,a<n→b<n→f a=f b→a=b):((List.range n).map f).Nodup:=by
 rw [List.nodup_iff_pairwise_ne,List.pairwise_map]
 refine List.Pairwise.imp_of_mem ?_ (List.pairwise_lt_range (n:=n))
 intro a b ha hb hab e
 have:=h a b (qAT.mp ha) (qAT.mp hb) e
 omega
theorem zaid {md o st at_:Int} {stem:Str} (hl:Low stem) (ho:0≤o) (hst:0≤st) (k:Nat):Low (zkz md o st stem at_ k):=by
 have n26:∀ z:Int,0≤z % 26∧z % 26<26:=fun z=>⟨qAQ z (by decide),qAV z (by decide)⟩
 unfold zkz
 split
 ·exact ((hl.slice _ _).app (Low.ltr (n26 _).1 (n26 _).2)).app (hl.slice _ _)
 ·split
  ·exact (hl.slice _ _).app (Low.ltr (n26 _).1 (n26 _).2)
  ·have:=qAQ ((k:Int) * st) (show (8:Int)≠0 by decide)
   exact Low.mul (by have:=n26 (o+(k:Int) / 8);omega) (by omega)
noncomputable abbrev vi (i:Int):Val:=⟨.int i,false,[]⟩
noncomputable abbrev vs (x:Str):Val:=⟨.str x,false,[]⟩
noncomputable abbrev vb (b:Bool):Val:=⟨.bool b,false,[]⟩
section
variable {a b:EF} {env:DEnv} {i j:Int}
theorem zid (ha:a env=some (vi i)) (hb:b env=some (vi j)) (h:0<j):eOp modD a b env=some (vi (i % j)):=by
 unfold eOp;rw [ha,hb];simp [modD,intD,h,bsOf,zgv]
theorem zlf (ha:a env=some (vi i)) (hb:b env=some (vi j)) (h:0<j) (h2:j<1073741824):eOp zdk a b env=some (vi (i / j)):=by
 unfold eOp;rw [ha,hb];simp [zdk,intD,h,h2,bsOf,zgv]
theorem zvu (ha:a env=some (vi i)) (hb:b env=some (vi j)):eOp addD a b env=some (vi (i+j)):=by
 unfold eOp;rw [ha,hb];simp [addD,bsOf,zgv]
theorem zalz (ha:a env=some (vi i)) (hb:b env=some (vi j)):eOp subD a b env=some (vi (i - j)):=by
 unfold eOp;rw [ha,hb];simp [subD,intD,bsOf,zgv]
theorem zama (ha:a env=some (vi i)) (hb:b env=some (vi j)) (h:(-(2 ^ 64)<i∧i<2 ^ 64)∨(-(2 ^ 64)<j∧j<2 ^ 64)):eOp mulD a b env=some (vi (i * j)):=by
 unfold eOp;rw [ha,hb]
 simp only [qD,mulD]
 rw [if_pos h];simp [bsOf,zgv]
theorem ztw (ha:a env=some (vi i)) (hb:b env=some (vi j)):eOp eqD a b env=some (vb (i==j)):=by
 unfold eOp;rw [ha,hb];rfl
theorem zaie {x y:Str} (ha:a env=some (vs x)) (hb:b env=some (vs y)) (h:x.length+y.length≤100000):eOp addD a b env=some (vs (x++y)):=by
 unfold eOp;rw [ha,hb]
 simp only [qD,addD]
 rw [if_pos h];simp [bsOf,zgv]
theorem zaoh {x:Str} (ha:a env=some (vs x)) (hb:b env=some (vi j)) (h:x.length≤1000∧-1000≤j∧j≤1000):eOp mulD a b env=some (vs (Txt.mul x j)):=by
 unfold eOp;rw [ha,hb]
 simp only [qD,mulD]
 rw [if_pos h];simp [bsOf,zgv]
theorem zaql {x:Str} {l h:PF'} {lo hi:Option Int} (ha:a env=some (vs x)) (hl:l env=some lo) (hh:h env=some hi) (hz:x.length≤100000):eSl a l h env=some (vs (Txt.slice x lo hi)):=by
 unfold eSl;rw [ha,hl,hh]
 simp only [qD,slD]
 rw [if_pos hz];simp [bsOf,zgv]
theorem zpw (ha:a env=some (vi i)):zcv a env=some (some i):=by unfold zcv;rw [ha];rfl
theorem zds {c:Bool} (ha:a env=some (vb c)):zbh a env=some c:=by unfold zbh;rw [ha];rfl
theorem zdt {r:Val} (ha:a env=some r):zab a aNil env=some [r]:=by unfold zab aNil;rw [ha];rfl
theorem zaoi {x:Str} (ha:a env=some (vs x)) (hz:x.length≤100000):eCB lenD (zab a aNil) env=some (vi x.length):=by
 unfold eCB
 rw [zdt ha]
 simp [zni,lenD,hz,bsOf,zgv]
theorem zlg {ds:List PyData} {fr:Bool} {bs:List Nat} (ha:a env=some ⟨.list ds,fr,bs⟩):eCB lenD (zab a aNil) env=some (vi ds.length):=by
 unfold eCB
 rw [zdt ha]
 simp [zni,lenD,bsOf,zgv]
theorem zsg {k n:Nat} {b:EF} {ds:List PyData} {d:PyData} (he:env[k]?=some (.pl (.list ds))) (hb:b env=some (vi (n:Int))) (hd:ds[n]?=some d):eIxV k b env=some ⟨d,false,[]⟩:=by
 unfold eIxV
 rw [he]
 unfold eOp eVar
 rw [he,hb]
 simp only [qD,ixD]
 rw [zov hd]
 simp [bsOf]
theorem zaif {k n:Nat} {b:EF} {ds:List PyData} {d:PyData} (he:env[k]?=some (.ac (.list ds))) (hb:b env=some (vi (n:Int))) (hd:ds[n]?=some d):eIxV k b env=some ⟨d,false,[]⟩:=by
 unfold eIxV
 rw [he]
 simp only
 rw [hb]
 simp only [qD]
 rw [zov hd];rfl
end
noncomputable def abc:Str:="abcdefghijklmnopqrstuvwxyz"
theorem zaqm:(List.range 26).all (fun i=>abc.cps.toList[i]?==some (97+i))=true:=by decide +kernel
theorem zaqn:abc.length=26:=by decide +kernel
theorem zatp {i:Int} (h0:0≤i) (h1:i<26):atI abc.cps.toList i=some (97+i.toNat):=by
 have q:=qAZ.mp zaqm i.toNat (qAT.mpr (by omega))
 have e:((i.toNat:Nat):Int)=i:=by omega
 rw [← e]
 have z:=zov (eq_of_beq q)
 rw [e] at z ⊢
 exact z
theorem zaqo {k:Nat} {b:EF} {env:DEnv} {i:Int} (he:env[k]?=some (.pl (.str abc))) (hb:b env=some (vi i)) (h0:0≤i) (h1:i<26):eIxV k b env=some (vs (ltr i)):=by
 unfold eIxV
 rw [he]
 unfold eOp eVar
 rw [he,hb]
 simp only [qD,ixD]
 rw [if_pos (by rw [zaqn];decide),zatp h0 h1]
 simp [bsOf,zgv,ltr]
theorem zaqp {i:Int} (h0:0≤i) (h1:i<8):∃ st:Int,atI [PyData.int 1,.int 3,.int 5,.int 7,.int 9,.int 11,.int 15,.int 17] i=some (.int st)∧st∈([1,3,5,7,9,11,15,17]:List Int):=by
 rcases (show i=0∨i=1∨i=2∨i=3∨i=4∨i=5∨i=6∨i=7 by omega) with rfl|rfl|rfl|rfl|rfl|rfl|rfl|rfl
 all_goals exact ⟨_,rfl,by decide⟩
theorem zmu {i:Nat} {f:EF} {env:DEnv} {ds:List PyData} {d:PyData} {fr:Bool} (he:env[i]?=some (.ac (.list ds))) (hf:f env=some ⟨d,fr,[]⟩) (hl:ds.length<100000):sApp i f env=some (.nx (env.set i (.ac (.list (ds++[d]))))):=by
 unfold sApp
 rw [he]
 simp only
 rw [hf]
 simp only [qD]
 rw [if_pos ⟨hl,by simp⟩];rfl
theorem zsh (n:Nat):zsa 0 n=(List.range n).map (fun (k:Nat)=>PyData.int (k:Int)):=by
 unfold zsa
 refine qBR fun k _=>?_
 show PyData.int (0+(k:Int))=_
 rw [Int.zero_add]
theorem zaqq (a b:Str):(a++b).length=a.length+b.length:=by
 have:=congrArg List.length (zkl a b)
 rw [qp] at this
 simpa [Str.length] using this
theorem zaig:WebOk []:=⟨qBq,fun i n es e=>by simp at e,fun p hp=>by simp at hp,by simp⟩
theorem zaih {W:Web} {p:Str×List Str} (h:WebOk W) (hn:p.1∉nm W) (he:∀ e∈p.2,e∈nm W) (hf:p.2.length≤4) (hl:W.length<12):WebOk (W++[p]):=by
 refine ⟨by rw [znl];exact zaas h.nd hn,fun i n es e=>?_,fun q hq=>?_,by simp;omega⟩
 ·by_cases hi:i<W.length
  ·rw [qAN hi] at e
   rw [qAm (by omega)]
   exact h.el i n es e
  ·rw [qAR (by omega)] at e
   have hi2:i - W.length=0:=by
    have:=(qN.mp e).1
    simp at this;omega
   rw [hi2] at e
   cases e
   have:i=W.length:=by omega
   subst this
   rw [qAm (qO _),qCA]
   exact he
 ·rcases qAA.mp hq with hq|hq
  ·exact h.few q hq
  ·rw [qAI.mp hq];exact hf
theorem zaba (ds:List PyData) (k:Nat) (h:k≤ds.length):cutD ds none (some (k:Int))=ds.take k:=by
 unfold cutD
 have e1:HT.sIx ds.length 0 none=0:=rfl
 rw [e1,HT.sIx_nat]
 simp
theorem zadl {α:Type} (enc:α→PyData) (l:List α):zpd (l.map enc)=(l.zipIdx).map fun (p:α×Nat)=>PyData.tuple [.int (p.2:Int),enc p.1]:=by
 unfold zpd
 rw [List.zipIdx_map,qAi];rfl
theorem zatq {α:Type} {l:List α} (nd:l.Nodup) {i j:Nat} {hi:i<l.length} {hj:j<l.length} (e:l[i]=l[j]):i=j:=by
 rcases Nat.lt_trichotomy i j with h|h|h
 ·exact absurd e (qCR.mp nd i j hi hj h)
 ·exact h
 ·exact absurd e.symm (qCR.mp nd j i hj hi h)
theorem zui {α:Type}:∀ (l:List α) (i:Nat) (h:i<l.length),(l[i]::l.eraseIdx i).Perm l
 | [],_,h=>by simp at h
 | a::l,0,_=>qC1 _
 | a::l,i+1,h=>by
  have hi:i<l.length:=by simpa using h
  have ih:=zui l i hi
  show (l[i]::a::l.eraseIdx i).Perm (a::l)
  exact (List.Perm.swap a l[i] _).trans (List.Perm.cons a ih)
theorem zsi {α β:Type} (f:α→β):∀ (l:List α) (i:Nat),(l.map f).eraseIdx i=(l.eraseIdx i).map f
 | [],_=>rfl
 | _::_,0=>rfl
 | a::l,i+1=>by
  show f a::(l.map f).eraseIdx i=f a::(l.eraseIdx i).map f
  rw [zsi f l i]
theorem zyi {A B C:Sl} {kk:Nat} {nn:Sl} {xs:List Str} (hx:xs.length≤12):∀ (t:Nat) (ls es:List Str) (rs:Int) (s8 s9:Sl),(es++ls).Perm xs→t+es.length≤4→t≤ls.length →
  ∃ es' s5 s6 s8' s9',forL (gN 8) (sSeq (sSet 9 (eOp modD (eVar 6) (eCB lenD (zab (eVar 5) aNil)))) (sSeq (sSet 6 (eOp zdk (eVar 6) (eCB lenD (zab (eVar 5) aNil)))) (znk 7 5 (eVar 9)))) ((List.range' es.length t).map fun (k:Nat)=>PyData.int (k:Int)) [A,B,C,.pl (.int (kk:Int)),nn,.ac (zae ls),.pl (.int rs),.ac (zae es),s8,s9] =
   some (.nx [A,B,C,.pl (.int (kk:Int)),nn,s5,s6,.ac (zae es'),s8',s9'])∧es'.Nodup=es'.Nodup∧(∃ ls',(es'++ls').Perm xs)∧es'.length=t+es.length
 | 0,ls,es,rs,s8,s9,pm,_,_=>⟨es,_,_,s8,s9,rfl,rfl,⟨ls,pm⟩,by simp⟩
 | t+1,ls,es,rs,s8,s9,pm,h4,hl=>by
  have hls:0<ls.length:=by omega
  have pl:=pm.length_eq
  rw [qp] at pl
  have a0:=qAQ rs (show ((ls.length:Nat):Int)≠0 by omega)
  have a1:=qAV rs (show (0:Int)<((ls.length:Nat):Int) by omega)
  have hk:(rs % ((ls.length:Nat):Int)).toNat<ls.length:=by omega
  have e9:((rs % ((ls.length:Nat):Int)).toNat:Int)=rs % ((ls.length:Nat):Int):=by omega
  generalize eA:(rs % ((ls.length:Nat):Int)).toNat=at_ at hk e9
  have pm2:((es++[ls[at_]])++ls.eraseIdx at_).Perm xs:=by
   refine List.Perm.trans ?_ pm
   rw [qBN]
   exact List.Perm.append_left es (zui ls at_ hk)
  obtain ⟨es',s5,s6,s8',s9',q,_,hp,hlen⟩:=zyi (A:=A) (B:=B) (C:=C) (kk:=kk) (nn:=nn) hx t (ls.eraseIdx at_) (es++[ls[at_]]) (rs / ((ls.length:Nat):Int)) (.pl (.int (es.length:Int))) (.pl (.int (at_:Int))) pm2 (by simp;omega) (by rw [List.length_eraseIdx_of_lt hk];omega)
  refine ⟨es',s5,s6,s8',s9',?_,rfl,hp,by rw [hlen];simp;omega⟩
  rw [List.range'_succ,qZ]
  unfold forL
  simp only [gN,qD,qBV,qBU]
  have st1:sSet 9 (eOp modD (eVar 6) (eCB lenD (zab (eVar 5) aNil))) [A,B,C,.pl (.int (kk:Int)),nn,.ac (zae ls),.pl (.int rs),.ac (zae es),.pl (.int (es.length:Int)),s9]=some (.nx [A,B,C,.pl (.int (kk:Int)),nn,.ac (zae ls),.pl (.int rs),.ac (zae es),.pl (.int (es.length:Int)),.pl (.int (at_:Int))]):=by
   have:=zcq (i:=9) (zid (a:=eVar 6) (env:=[A,B,C,.pl (.int (kk:Int)),nn,.ac (zae ls),.pl (.int rs),.ac (zae es),.pl (.int (es.length:Int)),s9]) rfl (zlg (a:=eVar 5) rfl) (by rw [qC];omega))
   rw [this,qC,← e9];rfl
  have st2:sSet 6 (eOp zdk (eVar 6) (eCB lenD (zab (eVar 5) aNil))) [A,B,C,.pl (.int (kk:Int)),nn,.ac (zae ls),.pl (.int rs),.ac (zae es),.pl (.int (es.length:Int)),.pl (.int (at_:Int))]=some (.nx [A,B,C,.pl (.int (kk:Int)),nn,.ac (zae ls),.pl (.int (rs / ((ls.length:Nat):Int))),.ac (zae es),.pl (.int (es.length:Int)),.pl (.int (at_:Int))]):=by
   have:=zcq (i:=6) (zlf (a:=eVar 6) (env:=[A,B,C,.pl (.int (kk:Int)),nn,.ac (zae ls),.pl (.int rs),.ac (zae es),.pl (.int (es.length:Int)),.pl (.int (at_:Int))]) rfl (zlg (a:=eVar 5) rfl) (by rw [qC];omega) (by rw [qC];omega))
   rw [this,qC];rfl
  have st3:znk 7 5 (eVar 9) [A,B,C,.pl (.int (kk:Int)),nn,.ac (zae ls),.pl (.int (rs / ((ls.length:Nat):Int))),.ac (zae es),.pl (.int (es.length:Int)),.pl (.int (at_:Int))]=some (.nx [A,B,C,.pl (.int (kk:Int)),nn,.ac (zae (ls.eraseIdx at_)),.pl (.int (rs / ((ls.length:Nat):Int))),.ac (zae (es++[ls[at_]])),.pl (.int (es.length:Int)),.pl (.int (at_:Int))]):=by
   simp only [znk,zae,eVar,qAL,qAK,qD]
   rw [if_pos ⟨by omega,by omega,by rw [qC];omega,by decide⟩,qA9,qR,qE hk]
   simp [zsi]
  rw [zat st1 (zat st2 st3),qD]
  rw [show (es++[ls[at_]]).length=es.length+1 by simp] at q
  exact q
theorem zaii {cs:List Int} {xs:List Str} (hle:xs.length≤cs.length) (h12:xs.length≤12) (nd:xs.Nodup):∃ W,zle [zbv cs,zae xs]=some (webD W,true)∧nm W=xs∧WebOk W:=by
 have loop:∃ env',forL (gT 2 (zao 3 (zao 4 zce))) (sSeq (sSet 5 (eSl (eVar 1) zgo (zcv (eVar 3))))
  (sSeq (sSet 6 (eOp zdk (eIxV 0 (eVar 3)) (eC (.int 5))))
  (sSeq (sSet 7 (eLst aNil))
  (sSeq (sFor (zic (zab (eCB minD (zab (eOp modD (eIxV 0 (eVar 3)) (eC (.int 5))) (zab (eVar 3) aNil))) aNil)) (gN 8)
  (sSeq (sSet 9 (eOp modD (eVar 6) (eCB lenD (zab (eVar 5) aNil))))
  (sSeq (sSet 6 (eOp zdk (eVar 6) (eCB lenD (zab (eVar 5) aNil))))
  (znk 7 5 (eVar 9)))))
  (sApp 2 (eTup (zab (eVar 4) (zab (eVar 7) aNil)))))))) ((xs.zipIdx).map fun (p:Str×Nat)=>PyData.tuple [.int (p.2:Int),.str p.1]) [.pl (zbv cs),.pl (zae xs),.ac (webD []),.no,.no,.no,.no,.no,.no,.no]=some (.nx env') ∧
   ∃ W s3 s4 s5 s6 s7 s8 s9,env'=[.pl (zbv cs),.pl (zae xs),.ac (webD W),s3,s4,s5,s6,s7,s8,s9]∧nm W=(xs.zipIdx).map (fun p:Str×Nat=>p.1)∧WebOk W:=by
  refine zem (fun pre env=>∃ W s3 s4 s5 s6 s7 s8 s9,env=[.pl (zbv cs),.pl (zae xs),.ac (webD W),s3,s4,s5,s6,s7,s8,s9]∧nm W=pre.map (fun p:Str×Nat=>p.1)∧WebOk W) ⟨[],_,_,_,_,_,_,_,rfl,rfl,zaig⟩ ?_
  rintro pre ⟨n,i⟩ post env hp ⟨W,s3,s4,s5,s6,s7,s8,s9,rfl,hnm,ok⟩
  have hz:(xs.zipIdx)[pre.length]?=some (n,i):=by rw [← hp];simp
  rw [qCw] at hz
  have hi:i=pre.length∧xs[pre.length]?=some n:=by
   cases e:xs[pre.length]? with
   | none=>rw [e] at hz;cases hz
   | some y=>rw [e] at hz;simp at hz;exact ⟨by omega,by rw [hz.1]⟩
  obtain ⟨rfl,hn⟩:=hi
  have hix:pre.length<xs.length:=(qN.mp hn).1
  have hic:pre.length<cs.length:=by omega
  have hpre:pre.map (fun p:Str×Nat=>p.1)=xs.take pre.length:=by
   have e1:(xs.zipIdx).map (fun p:Str×Nat=>p.1)=xs:=qBt 0 xs
   have e2:=congrArg (fun l:List (Str×Nat)=>(l.map (fun p:Str×Nat=>p.1)).take pre.length) hp
   simp only [e1] at e2
   rw [← e2,qAJ,qAm (by simp),← qBg,qCA]
  have hWl:W.length=pre.length:=by
   have:=congrArg List.length hnm
   unfold nm at this
   simpa using this
  have gc:∀ {env:DEnv},env[0]?=some (.pl (zbv cs))→env[3]?=some (.pl (.int (pre.length:Int)))→eIxV 0 (eVar 3) env=some (vi cs[pre.length]):=fun {env} h0 h3 =>
   zsg (ds:=cs.map .int) h0 (by unfold eVar;rw [h3]) (by rw [qR,qE hic];rfl)
  have m5:=qAQ cs[pre.length] (show (5:Int)≠0 by decide)
  have m5':=qAV cs[pre.length] (show (0:Int)<5 by decide)
  generalize eN:(if ((pre.length:Nat):Int)<cs[pre.length] % 5 then ((pre.length:Nat):Int) else cs[pre.length] % 5)=N
  have hN:0≤N∧N≤pre.length∧N≤4:=by rw [← eN];split<;>omega
  have tl:(xs.take pre.length).length=pre.length:=by rw [qAu];omega
  obtain ⟨es,s5',s6',s8',s9',q,_,⟨ls,pm⟩,hes⟩:=zyi (A:=.pl (zbv cs)) (B:=.pl (zae xs)) (C:=.ac (webD W)) (kk:=pre.length) (nn:=.pl (.str n)) (xs:=xs.take pre.length) (by omega) N.toNat (xs.take pre.length) [] (cs[pre.length] / 5) s8 s9 (qC1 _) (by simp;omega) (by omega)
  have ndT:(xs.take pre.length).Nodup:=nd.sublist (qB4 _ _)
  have ndE:es.Nodup:=(qBM.mp (pm.nodup_iff.mpr ndT)).1
  have subE:∀ e∈es,e∈nm W:=fun e he=>by rw [hnm,hpre];exact pm.mem_iff.mp (qz _ he)
  have nW:n∉nm W:=by
   rw [hnm,hpre]
   intro hm
   obtain ⟨j,hj,ej⟩:=qBS hm
   rw [List.getElem_take] at ej
   obtain ⟨hh,en⟩:=qN.mp hn
   have:=zatq nd (ej.trans en.symm)
   rw [tl] at hj
   omega
  refine ⟨_,[.pl (zbv cs),.pl (zae xs),.ac (webD (W++[(n,es)])),.pl (.int (pre.length:Int)),.pl (.str n),s5',s6',.pl (zae es),s8',s9'],rfl,.inl ?_,W++[(n,es)],_,_,_,_,_,_,_,rfl,by rw [znl,hnm];simp,zaih ok nW subE (by rw [hes];simp;omega) (by omega)⟩
  have st5:sSet 5 (eSl (eVar 1) zgo (zcv (eVar 3))) [.pl (zbv cs),.pl (zae xs),.ac (webD W),.pl (.int (pre.length:Int)),.pl (.str n),s5,s6,s7,s8,s9]=some (.nx [.pl (zbv cs),.pl (zae xs),.ac (webD W),.pl (.int (pre.length:Int)),.pl (.str n),.ac (zae (xs.take pre.length)),s6,s7,s8,s9]):=by
   have:eSl (eVar 1) zgo (zcv (eVar 3)) [.pl (zbv cs),.pl (zae xs),.ac (webD W),.pl (.int (pre.length:Int)),.pl (.str n),s5,s6,s7,s8,s9]=some ⟨zae (xs.take pre.length),true,[]⟩:=by
    simp only [eSl,eVar,zgo,zcv,qAL,qAK,qD,zae,slD]
    rw [zaba _ _ (by rw [qC];omega),← qBg]
    simp [bsOf,zgv]
   exact zcq this
  refine zat st5 (zat (zcq (r:=vi _) (zlf (gc rfl rfl) rfl (by decide) (by decide))) (zat rfl (zat (zjs (ds:=(List.range' ([]:List Str).length N.toNat).map fun (k:Nat)=>PyData.int (k:Int)) (bs:=[]) ?_ q) ?_)))
  ·have:eCB minD (zab (eOp modD (eIxV 0 (eVar 3)) (eC (.int 5))) (zab (eVar 3) aNil)) [.pl (zbv cs),.pl (zae xs),.ac (webD W),.pl (.int (pre.length:Int)),.pl (.str n),.ac (zae (xs.take pre.length)),.pl (.int (cs[pre.length] / 5)),.ac (.list []),s8,s9]=some (vi N):=by
    unfold eCB zab
    rw [zid (gc rfl rfl) (j:=5) rfl (by decide)]
    show ((minD [.int (cs[pre.length] % 5),.int ((pre.length:Nat):Int)]).bind fun z=>some (⟨z.1,z.2,bsOf z.1 _⟩:Val))=_
    unfold minD
    simp only [qD]
    rw [eN];rfl
   show zic _ [.pl (zbv cs),.pl (zae xs),.ac (webD W),.pl (.int (pre.length:Int)),.pl (.str n),.ac (zae (xs.take pre.length)),.pl (.int (cs[pre.length] / 5)),.ac (.list []),s8,s9]=_
   unfold zic
   rw [zdt this]
   simp only [qD]
   rw [if_pos ⟨by omega,by omega⟩,zsh,List.range_eq_range']
   rfl
  ·have lz:(W.map rowD).length<100000:=by rw [qC];omega
   simp only [sApp,webD,eTup,zab,aNil,eVar,qAL,qAK,qD,qAq,zni,bss]
   rw [if_pos (by simp)]
   simp only [qD]
   rw [if_pos ⟨lz,by simp⟩]
   simp [frzs,frz1,rowD,zae]
 obtain ⟨env',hl,W,s3,s4,s5,s6,s7,s8,s9,rfl,hnm,ok⟩:=loop
 refine ⟨W,zdw (env:=[.pl (zbv cs),.pl (zae xs),.no,.no,.no,.no,.no,.no,.no,.no]) rfl (zat rfl (zat (zjs (ds:=(xs.zipIdx).map fun (p:Str×Nat)=>PyData.tuple [.int (p.2:Int),.str p.1]) (bs:=[]) ?_ hl) rfl)),hnm.trans (qBt 0 xs),ok⟩
 unfold zpu
 rw [zdt (r:=⟨zae xs,false,[]⟩) rfl]
 simp only [qD,zae]
 rw [zadl]
section
variable {a b:EF} {env:DEnv} {x y:Str}
theorem e_in {neg:Bool} {xs:List Str} {fr:Bool} {bs:List Nat} (ha:a env=some (vs x)) (hb:b env=some ⟨zae xs,fr,bs⟩):eOp (inD neg) a b env=some (vb (if neg then !decide (x∈xs) else decide (x∈xs))):=by
 unfold eOp;rw [ha,hb];simp [zvq,bsOf,zgv]
theorem zaij {k:Nat} {kvs:List (PyData×PyData)} {d:PyData} (he:env[k]?=some (.pl (.dict kvs))∨env[k]?=some (.ac (.dict kvs))) (hb:b env=some (vs y)) (hd:zoa kvs (Sum.inr y)=some d):zel k b env=some ⟨d,false,[]⟩:=by
 unfold zel
 rcases he with he|he<;>rw [he]<;>simp only<;>rw [hb]<;>simp [keyD,hd]
theorem zadm {neg:Bool} {ks:List Str} {fr:Bool} {bs:List Nat} (ha:a env=some (vs x)) (hb:b env=some ⟨zas ks,fr,bs⟩):eDIn neg a b env=some (vb (if neg then !decide (x∈ks) else decide (x∈ks))):=by
 unfold eDIn;rw [ha,hb];simp [zas,keyD,zyf]
theorem zaqr {α:Type} {l:List α} (h:l≠[]):atI l (-1)=some (l.getLast h):=by
 have:=zalc l.dropLast (l.getLast h)
 rwa [qCD h] at this
theorem zaqs {k:Nat} {ds:List PyData} (he:env[k]?=some (.pl (.list ds))) (h:ds≠[]):eIxV k (eNeg (eC (.int 1))) env=some ⟨ds.getLast h,false,[]⟩:=by
 unfold eIxV
 rw [he]
 unfold eOp eVar eNeg eC
 rw [he]
 simp only [qD,ixD]
 rw [zaqr h]
 simp [bsOf]
end
theorem zmj {W:Web} {n:Str} (h:n∈nm W):(ups W).lookup n=some (up W n):=by
 obtain ⟨ks,e,_⟩:=zkk (l:=ups W) (n:=n) (by rw [zhs];exact h)
 unfold up upL
 rw [e];rfl
theorem zba {a:EF} {f:AF} {env:DEnv} {r:Val} {rs:List Val} (ha:a env=some r) (hf:f env=some rs):zab a f env=some (r::rs):=by unfold zab;rw [ha,hf];rfl
theorem zpx {f:EF} {env:DEnv} {c:Bool} (h:f env=some (vb c)):zfi (tTru f) env=some (!c):=by unfold zfi tTru;rw [h];rfl
theorem zvv (cs:List Int) (a b:Nat) (h:b≤cs.length) (hab:a≤b):cutD (cs.map .int) (some (a:Int)) (some (b:Int))=((cs.drop a).take (b - a)).map .int:=by
 unfold cutD
 have e1:min a cs.length=a:=by omega
 have e2:min b cs.length=b:=by omega
 rw [HT.sIx_nat,HT.sIx_nat,qC,e1,e2,← qB0,← qBg]
theorem zuj {env:DEnv} {cs:List Int} {b:EF} {n:Nat} (h1:env[1]?=some (.pl (zbv cs))) (hb:b env=some (vi (n:Int))) (hn:n<cs.length):eIxV 1 b env=some (vi (cs[n]'hn)) :=
 zsg (ds:=cs.map .int) h1 hb (by rw [qR,qE hn];rfl)
theorem zamb {W:Web}:zdy (gT 2 (zao 0 (zao 1 zce))) zcw (eTup (zab (eVar 0) (zab (eCB zrx (zab (eVar 1) aNil)) aNil))) [.no,.no] (W.map rowD)=some (W.map rowD) :=
 zdg fun p _=>⟨[.pl (.str p.1),.pl (zae p.2)],rfl,rfl,⟨rowD p,false,[]⟩,rfl,rfl⟩
theorem zkm:∀ (xs:List Str),(∀ x∈xs,qV x=true)→qv (xs.map .str)=true∧qk (xs.map .str)=0
 | [],_=>⟨rfl,rfl⟩
 | x::xs,h=>by
  obtain ⟨h1,h2⟩:=zkm xs fun y hy=>h y (qT _ hy)
  rw [qZ]
  refine ⟨?_,?_⟩
  ·show (qV x&&qv (xs.map .str))=true
   rw [h x qc,h1];rfl
  ·show max 0 (qk (xs.map .str))=0
   rw [h2];rfl
theorem zadn:∀ (W:Web),(∀ p∈W,qV p.1=true∧∀ e∈p.2,qV e=true)→qv (W.map rowD)=true∧qk (W.map rowD)≤2
 | [],_=>⟨rfl,qAd _⟩
 | p::r,h=>by
  obtain ⟨h1,h2⟩:=zadn r fun q hq=>h q (qT _ hq)
  obtain ⟨g1,g2⟩:=h p qc
  obtain ⟨l1,l2⟩:=zkm p.2 g2
  rw [qZ]
  constructor
  ·show ((qV p.1&&(qv (p.2.map .str)&&true))&&qv (r.map rowD))=true
   rw [g1,l1,h1];rfl
  ·show max (max 0 (max (qk (p.2.map .str)+1) 0)+1) (qk (r.map rowD))≤2
   rw [l2]
   omega
theorem zaqt {W:Web} (h:WebOk W) (hl:∀ x∈nm W,Low x):∀ p∈W,qV p.1=true∧∀ e∈p.2,qV e=true:=fun p hp =>
 ⟨zoi (hl _ (qAa.mpr ⟨p,hp,rfl⟩)),fun e he=>zoi (hl e (zvt h (n:=p.1) (es:=p.2) hp e he))⟩
end Bc
namespace L2
open PySem PySem.Spec PyProof.Rows
noncomputable def zaik (wi:TI) (g:TG) (tt:TT) (tm:TM):TM:=fun σ H Q=>wi σ H fun J H1=>zali J g tt tm σ H1 Q
section
variable {X:Cx}
theorem zabb {M:Model} {P:Program} {w:World} {A:Around} {R:Result→Shared→Prop} {s:Shared} {elt:Expr} {g0:Comprehension} {target iter:Expr} {ifs:List Expr} {rest:List Comprehension} {scope:Scope} {cpos:Pos} {it acc:Value} {env:Env}
  (l:codeAny (model P w) A (.compLoop (.ListComp elt (g0::⟨target,iter,ifs,0⟩::rest) scope cpos) 1 it acc env) R s)
  (t:∀ (A:Around) (E:Value→Shared→Prop),wpAny (model P w) A (pyIter it) (fun u s'=>u=it∧s'=s) E s) :
  codeAny (model P w) A (.compStart (.ListComp elt (g0::⟨target,iter,ifs,0⟩::rest) scope cpos) 1 it acc env) R s:=by
 refine codeAny_of_tree ?_
 show wpAny _ _ ((compStart (.ListComp elt (g0::⟨target,iter,ifs,0⟩::rest) scope cpos) 1 it acc env).onRaise (fun x=>do noteFrame x env;standAt theWindowsPlace)) _ _ s
 refine wpAny_notedAt ?_
 unfold compStart
 show wpAny _ _ (ask >>= _) _ _ s
 refine qF (wpAny_askSetting (wpAny_ite ?_))
 split
 ·first
   | exact qF (qd (qd (And.intro rfl l)))
   | exact qd (And.intro rfl l)
 ·refine qF (qCL ?_)
  first
   | exact qF (qBn (qF (thn (t _ _) fun u s' z=>by obtain ⟨e1,e2⟩:=z;subst e1;subst e2;exact qd (And.intro rfl l))))
   | (show wpAny _ _ (standAt iter.pos >>= _) _ _ s;exact qF (qBn (qF (thn (t _ _) fun u s' z=>by obtain ⟨e1,e2⟩:=z;subst e1;subst e2;exact qd (And.intro rfl l)))))
theorem zamc {elt0:Expr} {g0:Comprehension} {scope:Scope} {cpos:Pos} {target iter:Expr} {ifs:List Expr} {wi:TI} {g:TG} {tt:TT} {te:TE} {p:Addr}
  (hx:X.xe=fun _ _=>False) (hc:X.calm=true) (hi:PI X target iter wi) (hg:PG X target g) (ht:PF X ifs tt) (he:PE X elt0 te)
  (hs:∀ x,foldedSetIterable iter X.env x=pure x) :
  PM X (do
   let x ← eval iter X.env
   standAt iter.pos
   let x ← foldedSetIterable iter X.env x
   let _ ← runOwn (.compStart (.ListComp elt0 [g0,⟨target,iter,ifs,0⟩] scope cpos) 1 (← holding [x] (pyIter x)) (.ref p) X.env) X.env) (zaik wi g tt (zaey p te)):=by
 intro pins s σ H Q I h
 refine qF (thn (hi pins s σ H _ I h) fun v s1 h1=>?_)
 refine qF (qBn ?_)
 rw [hs]
 refine qF (qd (qF (wpAny_holding (thn h1 fun itv s2 h2=>?_))))
 obtain ⟨it,fp,tn,J,H2,e,I2,T,st2,f2,q⟩:=h2
 subst e
 refine qF (thn (wpAny_runOwn (h:=none) (Q:=fun _ s'=>∃ σ' H',Inv X pins σ' H' s'∧Q σ' H') ?_) fun _ _ z=>qd z)
 refine zabb (M:=model X.prog X.w) ?_ fun A E=>T.self A 0 s2 _ E st2 ⟨rfl,rfl⟩
 refine qBy (zrn (X:=X) (pins:=pins) hx hc (elt0:=elt0) (gens:=[g0,⟨target,iter,ifs,0⟩]) (depth:=1) (ip:=iter.pos) (emit:=(do let _ ← call (.builtin "list.append") [.ref p,← eval elt0 X.env])) rfl T hg ht (zaat he) I2 st2 f2 q) fun r s5 hr=>?_
 obtain ⟨rfl,z⟩:=hr
 exact z
theorem zavf (elt target iter target2 iter2:Expr) (ifs ifs2:List Expr) (scope:Scope) (cpos:Pos) (it acc:Value) (env:Env) :
  compTurn (.ListComp elt [⟨target,iter,ifs,0⟩,⟨target2,iter2,ifs2,0⟩] scope cpos) 0 it acc env=(do
   standAt iter.pos
   match ← pyNext it with
   | none=>pure (.done .next)
   | some v =>
    letOwnedTupleGo target it v
    assign target env v
    let mut ok:=true
    for c in ifs do
     if ok then ok ← isTrue c env (eval c env)
    if ok then do
     let x ← eval iter2 env
     standAt iter2.pos
     let x ← foldedSetIterable iter2 env x
     let i ← holding [x] (pyIter x)
     let _ ← runOwn (.compStart (.ListComp elt [⟨target,iter,ifs,0⟩,⟨target2,iter2,ifs2,0⟩] scope cpos) 1 i acc env) env
     again (.compLoop (.ListComp elt [⟨target,iter,ifs,0⟩,⟨target2,iter2,ifs2,0⟩] scope cpos) 0 it acc env)
    else again (.compLoop (.ListComp elt [⟨target,iter,ifs,0⟩,⟨target2,iter2,ifs2,0⟩] scope cpos) 0 it acc env)):=rfl
noncomputable def tComp2 (wi:TI) (g:TG) (tt:TT) (wi2:TI) (g2:TG) (tt2:TT) (te:TE) (own:List Str) (fr:List Nat):TE:=zalj wi g tt (fun p=>zaik wi2 g2 tt2 (zaey p te)) own fr
theorem zamd {scope:Scope} {N' own:List Str} {fr:List Nat} {elt target iter target2 iter2:Expr} {ifs ifs2:List Expr} {cpos:Pos} {wi wi2:TI} {g g2:TG} {tt tt2:TT} {te:TE} (c:CompOk X scope N' own fr) (hc:X.calm=true) (hi:PI X target iter wi)
  (hb:∀ (cl:List (Str×Addr)) (C:Addr) (s:Shared) (H:Hp) (fp:List Addr),PG (cxComp X scope N' own cl C s H fp) target g∧PF (cxComp X scope N' own cl C s H fp) ifs tt∧PI (cxComp X scope N' own cl C s H fp) target2 iter2 wi2∧PG (cxComp X scope N' own cl C s H fp) target2 g2∧PF (cxComp X scope N' own cl C s H fp) ifs2 tt2∧PE (cxComp X scope N' own cl C s H fp) elt te)
  (hs:∀ x,foldedSetIterable iter X.env x=pure x:=by intro _;rfl) (hs2:∀ env x,foldedSetIterable iter2 env x=pure x:=by intro _ _;rfl) :
  PE X (.ListComp elt [⟨target,iter,ifs,0⟩,⟨target2,iter2,ifs2,0⟩] scope cpos) (tComp2 wi g tt wi2 g2 tt2 te own fr) :=
 zacw (emit:=fun acc env=>do
   let x ← eval iter2 env
   standAt iter2.pos
   let x ← foldedSetIterable iter2 env x
   let _ ← runOwn (.compStart (.ListComp elt [⟨target,iter,ifs,0⟩,⟨target2,iter2,ifs2,0⟩] scope cpos) 1 (← holding [x] (pyIter x)) acc env) env) c hc (fun it acc env=>by
   rw [zavf]
   refine bind_congr fun _=>bind_congr fun r=>?_
   cases r with
   | none=>rfl
   | some v =>
    refine bind_congr fun _=>bind_congr fun _=>bind_congr fun ok=>?_
    cases ok with
    | false=>rfl
    | true=>simp only [if_true,bind_assoc,pure_bind]) hi
  (fun cl C s H fp p=>let ⟨h1,h2,h3,h4,h5,h6⟩:=hb cl C s H fp;⟨h1,h2,zamc (X:=cxComp X scope N' own cl C s H fp) rfl hc h3 h4 h5 h6 (fun x=>hs2 _ x)⟩) hs
end
noncomputable def NoAc (env:DEnv):Prop:=∀ (i:Nat) (d:PyData),env[i]?≠some (.ac d)
noncomputable def GZ (lo hi:Nat) (g:GT):Prop:=∀ d env e1,g d env=some e1→e1.length=env.length∧(∀ i,(i<lo∨hi≤i)→e1[i]?=env[i]?)∧(NoAc env→NoAc e1)
theorem zame {env:DEnv} {i:Nat} {d:PyData} (h:NoAc env):NoAc (env.set i (.pl d)):=by
 intro j d' e
 by_cases q:i=j
 ·subst q
  by_cases l:i<env.length
  ·rw [qAD l] at e;cases e
  ·rw [qCo (by simp;omega)] at e;cases e
 ·rw [q9 q] at e;exact h j d' e
theorem zail {lo hi i:Nat} (h:lo≤i) (h':i<hi):GZ lo hi (gN i):=by
 intro d env e1 e
 cases e
 exact ⟨qAB,fun j hj=>q9 (by omega),zame⟩
theorem zsj {g:GT} {t:TF} {e:EF} {env:DEnv}:∀ {ds rs:List PyData},zdy g t e env ds=some rs→rs.length≤ds.length
 | [],rs,h=>by cases h;exact qO _
 | d::ds,rs,h=>by
  unfold zdy at h
  obtain ⟨e1,_,h⟩:=qA.mp h
  obtain ⟨b,_,h⟩:=qA.mp h
  split at h
  ·obtain ⟨r,_,h⟩:=qA.mp h
   obtain ⟨rs',h',rfl⟩:=qJ.mp h
   have:=zsj h'
   simp;omega
  ·have:=zsj h
   simp;omega
noncomputable def innL (f2:IF') (g2:GT) (t2:TF) (e:EF) (e1:DEnv):Option (List PyData):=(f2 e1).bind fun z=>if z.1.length<300 then zdy g2 t2 e e1 z.1 else none
noncomputable def zlh (g:GT) (t:TF) (f2:IF') (g2:GT) (t2:TF) (e:EF) (env:DEnv):List PyData→Option (List PyData)
 | []=>some []
 | d::ds=>(g d env).bind fun e1=>(t e1).bind fun b=>if b=true then (innL f2 g2 t2 e e1).bind fun r1=>(zlh g t f2 g2 t2 e env ds).map fun rs=>r1++rs else zlh g t f2 g2 t2 e env ds
noncomputable def zyj (own:List Str) (fr:List Nat) (fi:IF') (g:GT) (t:TF) (f2:IF') (g2:GT) (t2:TF) (e:EF):EF:=fun env=>(fi env).bind fun z=>if z.1.length<300 then
 (zlh g t f2 g2 t2 e (envB own fr env) z.1).map fun rs=>⟨.list rs,true,if zfq rs=true then [] else z.2++capA fr env⟩ else none
theorem zamf {wi2:TI} {g2:TG} {tt2:TT} {te:TE} {f2:IF'} {gf2:GT} {t2:TF} {e:EF} {B:Addr→Prop} {H1:Hp} {e1:DEnv} {σ:St} {H:Hp} {p:Addr} {vs:List V} {done rest ds:List PyData} {bs:List Nat} {Q:St→Hp→Prop} {k n:Nat}
  (h5:SI wi2 f2) (h6:SG g2 gf2) (hy:GZ k n gf2) (h7:ST tt2 t2) (h4:SE te e) (na:NoAc e1) (no:∀ (i:Nat) (d:PyData),k≤i→i<n→e1[i]?≠some (.pl d))
  (hB:B p) (hp:H1 p=none) (hE:EnvOk B H1 e1 σ H) (ep:H p=some (.lst vs)) (rd:Rps (Offs B H) done vs) (ei:f2 e1=some (ds,bs)) (dl:done.length+ds.length<100000) (ec:zdy gf2 t2 e e1 ds=some rest)
  (q:∀ σ' H' vs',H' p=some (.lst vs')→Rps (Offs B H') (done++rest) vs'→EnvOk B H1 e1 σ' H'→Q σ' H'):zaik wi2 g2 tt2 (zaey p te) σ H Q:=by
 refine h5 B H1 e1 σ H hE ds bs ei _ fun J H4 s4 yl=>?_
 have hE4:=hE.up s4
 have n4:Offs (fun b=>b=p) H4 p=none:=Offs.out rfl
 refine ⟨fun i m σ' H'=>m=ds.length - i∧i≤ds.length∧∃ vs done' rest',H' p=some (.lst vs)∧Rps (Offs B H') done' vs∧done'.length≤done.length+i∧zdy gf2 t2 e e1 (ds.drop i)=some rest'∧done'++rest'=done++rest∧EnvOk B (Offs (fun b=>b=p) H4) e1 σ' H',
  ⟨ds.length,rfl,qAd _,vs,done,rest,s4 _ _ ep,Rps.same (Offs.grow s4) _ rd,qO _,ec,rfl,⟨hE4.len,hE4.pl,fun i d z=>absurd z (na i d),hE4.inj,Offs.same _ _,hE4.fxs⟩⟩,?_⟩
 rintro i m σ' H' ⟨rfl,hi,vs,done',rest',ep',rd',dl',ec',edr,hE'⟩
 obtain ⟨yi,ys⟩:=yl B H' hE'.fxs fun b o z=>by
  obtain ⟨z1,z2⟩:=Offs.of z
  have hb:¬ B b:=fun y=>z1 (.inl y)
  rw [Offs.get hb]
  exact hE'.base b o (by rw [Offs.get fun y=>hb (by rw [y];exact hB)];exact z2)
 by_cases hlt:i<ds.length
 ·obtain ⟨yg,yy⟩:=yi i ds[i] (qE hlt)
  refine .inr ⟨yg,fun σ'' H''=>i+1≤ds.length∧∃ vs done' rest',H'' p=some (.lst vs)∧Rps (Offs B H'') done' vs∧done'.length≤done.length+(i+1)∧zdy gf2 t2 e e1 (ds.drop (i+1))=some rest'∧done'++rest'=done++rest∧EnvOk B (Offs (fun b=>b=p) H4) e1 σ'' H'',?_,?_⟩
  ·rintro σ'' H'' ⟨hle,hh⟩
   exact ⟨ds.length - (i+1),by omega,rfl,hle,hh⟩
  ·intro x H'' hyx
   obtain ⟨sy,ry⟩:=yy x H'' hyx
   rw [qAv hlt] at ec'
   obtain ⟨e2,ee2,ec'⟩:=qA.mp ec'
   obtain ⟨b,eb,ec'⟩:=qA.mp ec'
   have ry':Rp (Offs (fun a=>B a∨L2.own e1 σ' a) H'') ds[i] x:=Rp.same (Offs.sub fun b z=>z.elim (fun y=>y) fun ⟨j,d',z,_⟩=>absurd z (na _ _)) _ ry
   refine h6 _ _ e1 σ' H'' _ x (hE'.up sy) ry' e2 ee2 _ fun σ2 hE2=>?_
   refine h7 _ _ e2 σ2 H'' hE2 b eb _ fun H3 s3=>?_
   have hE3:=hE2.up s3
   obtain ⟨gl,gk,_⟩:=hy _ _ _ ee2
   have back:∀ {H4':Hp},EnvOk B (Offs (fun b=>b=p) H4) e2 σ2 H4'→EnvOk B (Offs (fun b=>b=p) H4) e1 σ2 H4':=fun {H4'} hh=>hh.weaken gl.symm (fun j d' ej=>by
    by_cases hj:j<k∨n≤j
    ·rw [gk j hj];exact ej
    ·exact absurd ej (no j d' (by omega) (by omega))) na
   cases b with
   | false =>
    have ec':zdy gf2 t2 e e1 (ds.drop (i+1))=some rest':=ec'
    exact iteF ⟨hlt,vs,done',rest',s3 _ _ (sy _ _ ep'),Rps.same (Offs.grow (sy.trans s3)) _ rd',Nat.le_succ_of_le dl',ec',edr,back hE3⟩
   | true =>
    have ec':((e e2).bind fun r=>(zdy gf2 t2 e e1 (ds.drop (i+1))).map fun rs=>r.d::rs)=some rest':=ec'
    obtain ⟨r,er,ec'⟩:=qA.mp ec'
    obtain ⟨rest2,er',rfl⟩:=qJ.mp ec'
    refine iteT (h4 _ _ e2 σ2 H3 hE3 r er _ fun v H5 s5 hv=>?_)
    have t5:=(sy.trans s3).trans s5
    refine ⟨vs,t5 _ _ ep',zrs (by rw [← rd'.length];omega),hlt,vs++[v],done'++[r.d],rest2,zbp,?_,by rw [qp];simp;omega,er',by rw [← edr];simp,(back (hE3.up s5)).updFx hB n4⟩
    rw [Offs.upd hB]
    refine (Rps.same (Offs.grow t5) _ rd').append (zdi (Rp.same (Offs.sub fun b z=>.inl z) _ hv.rp) zed)
 ·have hi':i=ds.length:=by omega
  subst hi'
  rw [qBD] at ec'
  cases ec'
  rw [qAg] at edr
  subst edr
  exact .inl ⟨ys,q σ' H' vs ep' rd' ⟨hE'.len,hE'.pl,fun i d z=>absurd z (na i d),hE'.inj,fun b o z=>hE'.base b o (by rw [Offs.get fun y=>by rw [y,hp] at z;cases z];exact s4 b o (hE.base b o z)),hE'.fxs⟩⟩
theorem zamg {own:List Str} {fr:List Nat} {env:DEnv} {i:Nat} (h:i<own.length):(envB own fr env)[i]?=some .no:=by
 unfold envB
 rw [qAN (by simpa using h),qR,qE h];rfl
theorem zamh {own:List Str} {fr:List Nat} {wi wi2:TI} {g g2:TG} {tt tt2:TT} {te:TE} {fi f2:IF'} {gf gf2:GT} {t t2:TF} {e:EF} {k:Nat} (h1:SI wi fi) (h2:SG g gf) (hx:GZ 0 k gf) (hk:k≤own.length) (h3:ST tt t)
  (h5:SI wi2 f2) (h6:SG g2 gf2) (hy:GZ k own.length gf2) (h7:ST tt2 t2) (h4:SE te e) :
  SE (tComp2 wi g tt wi2 g2 tt2 te own fr) (zyj own fr fi gf t f2 gf2 t2 e):=by
 intro fx H0 env σ H h rr hr Q q
 unfold zyj at hr
 obtain ⟨⟨ds,bs⟩,ei,hr⟩:=qA.mp hr
 split at hr
 ·rename_i hlen
  have hlen:ds.length<300:=hlen
  obtain ⟨rs,ers,rfl⟩:=qJ.mp hr
  refine h1 fx H0 env σ H h ds bs ei _ fun J H1 s yl=>fun p hp=>?_
  have hB:=zyb h s hp own fr bs
  generalize hA:(fun b=>lim fx env σ (bs++capA fr env) b)=A
  have hA':∀ b,lim fx env σ (bs++capA fr env) b↔A b:=fun b=>by rw [← hA]
  have eA:(fun b=>lim fx env σ (bs++capA fr env) b∨b=p)=fun b=>A b∨b=p:=by rw [← hA]
  rw [eA] at hB
  have seen:∀ {σ':St} {H':Hp},EnvOk (fun b=>A b∨b=p) H1 (envB own fr env) σ' H'→Same (Offs (fun b=>fx b∨L2.own (frzs env bs) σ b) H1) (Offs (fun b=>A b∨b=p) H'):=fun {σ' H'} hE=>Offs.mono hE.base fun b o eo n z=>by
   rcases z with z|z
   ·rcases (hA' b).mpr z with z|⟨i,d,z1,z2,z3⟩
    ·exact n (.inl z)
    ·exact n (.inr ⟨i,d,zod (fun y=>z1 (qz _ y)) z2,z3⟩)
   ·rw [z,hp] at eo;cases eo
  refine ⟨fun i m σ' H'=>m=ds.length - i∧i≤ds.length∧∃ vs done rest,H' p=some (.lst vs)∧Rps (Offs (fun b=>A b∨b=p) H') done vs∧done.length≤i * 300∧zlh gf t f2 gf2 t2 e (envB own fr env) (ds.drop i)=some rest∧done++rest=rs∧EnvOk (fun b=>A b∨b=p) H1 (envB own fr env) σ' H',
   ⟨ds.length,rfl,qAd _,[],[],rs,zbp,zed,qAd _,ers,rfl,hB⟩,?_⟩
  rintro i m σ' H' ⟨rfl,hi,vs,done,rest,ep,rd,dl,ec,edr,hE⟩
  obtain ⟨yi,ys⟩:=yl _ H' hE.fxs (seen hE)
  by_cases hlt:i<ds.length
  ·obtain ⟨yg,yy⟩:=yi i ds[i] (qE hlt)
   refine .inr ⟨yg,fun σ'' H''=>i+1≤ds.length∧∃ vs done rest,H'' p=some (.lst vs)∧Rps (Offs (fun b=>A b∨b=p) H'') done vs∧done.length≤(i+1) * 300∧zlh gf t f2 gf2 t2 e (envB own fr env) (ds.drop (i+1))=some rest∧done++rest=rs∧EnvOk (fun b=>A b∨b=p) H1 (envB own fr env) σ'' H'',?_,?_⟩
   ·rintro σ'' H'' ⟨hle,hh⟩
    exact ⟨ds.length - (i+1),by omega,rfl,hle,hh⟩
   ·intro x H'' hyx
    obtain ⟨sy,ry⟩:=yy x H'' hyx
    rw [qAv hlt] at ec
    obtain ⟨e1,ee1,ec⟩:=qA.mp ec
    obtain ⟨b,eb,ec⟩:=qA.mp ec
    have ry':Rp (Offs (fun a=>(A a∨a=p)∨L2.own (envB own fr env) σ' a) H'') ds[i] x:=Rp.same (Offs.sub fun b z=>z.elim (fun y=>y) fun ⟨j,d',z,_⟩=>absurd z zkh) _ ry
    refine h2 _ H1 (envB own fr env) σ' H'' _ x (hE.up sy) ry' e1 ee1 _ fun σ2 hE2=>?_
    refine h3 _ H1 e1 σ2 H'' hE2 b eb _ fun H3 s3=>?_
    have hE3:=hE2.up s3
    obtain ⟨gl,gk,gn⟩:=hx _ _ _ ee1
    have na:NoAc e1:=gn fun _ _=>zkh
    have back:∀ {σ4:St} {H4:Hp},EnvOk (fun b=>A b∨b=p) H1 e1 σ4 H4→EnvOk (fun b=>A b∨b=p) H1 (envB own fr env) σ4 H4:=fun {σ4 H4} hh=>hh.weaken gl.symm (fun j d' ej=>by
     by_cases hj:own.length≤j
     ·rw [gk j (.inr (by omega))];exact ej
     ·obtain ⟨_,k,rfl,_⟩:=zvp ej;omega) fun j d'=>zkh
    cases b with
    | false =>
     have ec:zlh gf t f2 gf2 t2 e (envB own fr env) (ds.drop (i+1))=some rest:=ec
     exact iteF ⟨hlt,vs,done,rest,s3 _ _ (sy _ _ ep),Rps.same (Offs.grow (sy.trans s3)) _ rd,by omega,ec,edr,back hE3⟩
    | true =>
     have ec:((innL f2 gf2 t2 e e1).bind fun r1=>(zlh gf t f2 gf2 t2 e (envB own fr env) (ds.drop (i+1))).map fun rs=>r1++rs)=some rest:=ec
     obtain ⟨r1,er,ec⟩:=qA.mp ec
     obtain ⟨rest',er',rfl⟩:=qJ.mp ec
     obtain ⟨⟨ds2,bs2⟩,e2,er⟩:=qA.mp er
     split at er
     ·rename_i hl2
      have hl2:ds2.length<300:=hl2
      have l2:=zsj er
      refine iteT (zamf (B:=fun b=>A b∨b=p) (p:=p) (vs:=vs) (done:=done) h5 h6 hy h7 h4 na (fun j d' h8 h9 ej=>?_) (.inr rfl) hp hE3 (s3 _ _ (sy _ _ ep)) (Rps.same (Offs.grow (sy.trans s3)) _ rd) e2 (by omega) er fun σ5 H5 vs5 ep5 rd5 hE5=>?_)
      ·rw [gk j (.inr h8),zamg h9] at ej;cases ej
      ·have l2':r1.length≤ds2.length:=l2
       exact ⟨hlt,vs5,done++r1,rest',ep5,rd5,by rw [qp];omega,er',by rw [← edr,qBN],back hE5⟩
     ·cases er
  ·have hi':i=ds.length:=by omega
   subst hi'
   rw [qBD] at ec
   cases ec
   rw [qAg] at edr
   subst edr
   refine .inl ⟨ys,q _ H' (s.trans hE.base) ⟨?_,fun _=>⟨p,rfl,s.free hp,?_⟩⟩⟩
   ·show Rp (Offs (lim fx env σ (if zfq done=true then [] else bs++capA fr env)) H') (.list done) (.ref p)
    have nl:∀ cs,¬ lim fx env σ cs p:=fun cs z=>by
     obtain ⟨o,eo⟩:=(h.up s).lims _ p z
     rw [hp] at eo;cases eo
    refine zhb (by rw [Offs.get (nl _)];exact ep) ?_
    split
    ·rename_i f;exact zoe f rd
    ·exact Rps.same (Offs.sub fun b z=>.inl ((hA' b).mp z)) _ rd
   ·show zjq (Offs (fun b=>lim fx env σ (if zfq done=true then [] else bs++capA fr env) b∨b=p) H') H' p (.list done)
    refine ⟨vs,ep,?_⟩
    split
    ·rename_i f;exact zoe f rd
    ·exact Rps.same (Offs.sub fun b z=>z.imp (hA' b).mp id) _ rd
 ·cases hr
end L2
namespace PySem
open Sem (wp)
end PySem
namespace L2
open PySem PySem.Spec PyProof.Rows
instance memKey (k:Key) (l:List Key):Decidable (k∈l):=decidable_of_iff (∃ x,x∈l∧x=k) ⟨fun ⟨x,h,e⟩=>e▸h,fun h=>⟨k,h,rfl⟩⟩
end L2
namespace Bc
open PySem L2
noncomputable def zpf:SF:=(sSeq (sIf (tTru (eIsi "tuple" (eVar 0))) (sRet (eCB zrx (zab (eVar 0) aNil))) sNil)
  (sRet (eLst (zab (eVar 0) aNil))))
noncomputable def zcr:GF:=fnD 1 zpf
noncomputable def zyk:SF:=(sSeq (sSet 2 zalt)
  (sSeq (sFor (zaw (zay 1 zcr (zab (eVar 1) aNil))) (gN 3)
  (sUpd 2 (zel 0 (eVar 3))))
  (ztv 2)))
noncomputable def zli:GF:=fnD 4 zyk
theorem zsk {α:Type} (f:α→Bool):∀ (l:List α),zrz (l.map fun x=>.bool (f x))=some (l.map f)
 | []=>rfl
 | x::l=>by
  show (zrz (l.map fun x=>.bool (f x))).map _=_
  rw [zsk f l];rfl
theorem zaqu {α:Type} {f:α→Bool} {l:List α} {a:EF} {env:DEnv} {fr:Bool} {bs:List Nat} (ha:a env=some ⟨.list (l.map fun x=>.bool (f x)),fr,bs⟩):eCB (anyD fun bs=>bs.all id) (zab a aNil) env=some (vb (l.all f)):=by
 unfold eCB
 rw [zdt ha,qD]
 show ((zrz (l.map fun x=>.bool (f x))).map _).bind _=_
 rw [zsk]
 simp only [qAq,qD,List.all_map]
 rfl
theorem zsl {α:Type} {enc:α→PyData} {out:α→List PyData} {g:GT} {t:TF} {f2:IF'} {g2:GT} {t2:TF} {e:EF} {env:DEnv}:∀ {l:List α},(∀ x∈l,∃ e1,g (enc x) env=some e1∧t e1=some true∧innL f2 g2 t2 e e1=some (out x)) →
  zlh g t f2 g2 t2 e env (l.map enc)=some (l.flatMap out)
 | [],_=>rfl
 | x::l,h=>by
  obtain ⟨e1,h1,h2,h3⟩:=h x qc
  have ih:=zsl (l:=l) fun y hy=>h y (qT _ hy)
  rw [qZ]
  unfold zlh
  rw [h1,qD,h2,qD,if_pos rfl,h3,qD,ih,List.flatMap_cons]
  rfl
theorem zami {own:List Str} {fr:List Nat} {fi:IF'} {g:GT} {t:TF} {f2:IF'} {g2:GT} {t2:TF} {e:EF} {env:DEnv} {ds:List PyData} {bs:List Nat} {rs:List PyData} (h:fi env=some (ds,bs)) (hl:ds.length<300) (k:zlh g t f2 g2 t2 e (envB own fr env) ds=some rs) :
  zyj own fr fi g t f2 g2 t2 e env=some ⟨.list rs,true,if zfq rs=true then [] else bs++capA fr env⟩:=by
 unfold zyj;rw [h,qD,if_pos hl,k];rfl
theorem zatr {a:EF} {env:DEnv} {b c:Bool} {neg:Bool} (h:a env=some (vb b)):eOp (isCD neg) a (eC (.bool c)) env=some (vb (if neg then !(isB (.bool b) c) else isB (.bool b) c)):=by
 unfold eOp;rw [h];rfl
end Bc
namespace PySem
open Sem (wp)
noncomputable def SqIt (b:Bool) (h:Heap) (it l:Addr) (i:Nat):Prop:=match b with
 | true=>h.IsListIter it l i
 | false=>h.IsTupleIter it l i
noncomputable def zgw (b:Bool) (h:Heap) (l:Addr) (xs:Array Value):Prop:=match b with
 | true=>h.IsList l xs
 | false=>h.IsTuple l xs
theorem SqIt.moved {b:Bool} {h h':Heap} {it l:Addr} {i:Nat} (x:SqIt b h it l i) (e:∀ o,h.get? it=some o→h'.get? it=some o):SqIt b h' it l i:=by
 cases b with
 | true=>obtain ⟨o,q,r⟩:=x;exact ⟨o,e o q,r⟩
 | false=>obtain ⟨o,q,r⟩:=x;exact ⟨o,e o q,r⟩
theorem zgw.moved {b:Bool} {h h':Heap} {l:Addr} {xs:Array Value} (x:zgw b h l xs) (e:∀ o,h.get? l=some o→h'.get? l=some o):zgw b h' l xs:=by
 cases b with
 | true=>obtain ⟨o,q,r⟩:=x;exact ⟨o,e o q,r⟩
 | false=>obtain ⟨o,q,r⟩:=x;exact ⟨o,e o q,r⟩
theorem SqIt.at {b:Bool} {h h':Heap} {it l:Addr} {i:Nat} (x:SqIt b h it l i) (e:∀ o,h.get? it=some o→h'.get? it=some o):SqIt b h' it l i:=x.moved e
theorem SqIt.extBut {b:Bool} {h h':Heap} {it l c:Addr} {i:Nat} (x:SqIt b h it l i) (s:Heap.ExtBut c h h') (n:it≠c):SqIt b h' it l i:=x.moved fun o e=>s _ o n e
theorem zgw.extBut {b:Bool} {h h':Heap} {l c:Addr} {xs:Array Value} (x:zgw b h l xs) (s:Heap.ExtBut c h h') (n:l≠c):zgw b h' l xs:=x.moved fun o e=>s _ o n e
theorem SqIt.obj {b:Bool} {h:Heap} {it l:Addr} {i:Nat} (x:SqIt b h it l i):∃ o,h.get? it=some o∧∀ v,o.data≠.cell v:=by
 cases b with
 | true=>obtain ⟨o,q,_,r⟩:=x;exact ⟨o,q,fun v z=>by rw [r] at z;cases z⟩
 | false=>obtain ⟨o,q,_,r⟩:=x;exact ⟨o,q,fun v z=>by rw [r] at z;cases z⟩
section
variable {prog:Program} {w:World} {A:Around} {E:Value→Shared→Prop} {s:Shared}
theorem zvw {it l:Addr} {i:Nat} {items} {x:Value} {Q:Value→Shared→Prop} (hit:s.heap.IsTupleIter it l i)
  (hl:s.heap.IsTuple l items) (hx:items[i]?=some x)
  (hQ:∀ h',h'.IsTupleIter it l (i+1)→Heap.SameBut it s.heap h'→Q x {s with heap:=h'}) :
  wpAny (model prog w) A (qAC (.ref it)) Q E s:=by
 obtain ⟨o,ho,hc,hd⟩:=id hit
 obtain ⟨ol,hol,_,nl,hdl⟩:=hl
 unfold qAC
 refine qF (qAr (name:=Str.ofString "__next__") hit.typeIs qBB
  (qBF qBB hit.typeIs qCa ?_ (qCT _)))
 show wpAny _ _ (field (.ref it) 0 >>= _) _ _ s
 refine qF (qAt ho hd (x:=.ref l) rfl ?_)
 show wpAny _ _ (if (Value.ref l==Value.none)=true then _ else _) _ _ s
 rw [if_neg (show ¬ ((Value.ref l==Value.none)=true) from qK)]
 show wpAny _ _ (field (.ref it) 1 >>= _) _ _ s
 refine qF (qAt ho hd (x:=.int i 0) rfl ?_)
 show wpAny _ _ (seqItems? (.ref l) >>= _) _ _ s
 refine qF (qA6 hol hdl ?_)
 simp only [qA9,hx]
 refine qF (wpAny_setField ho hd (by simp) (qd ⟨x,rfl,qd (hQ _ ?_ (qCJ ..))⟩))
 exact ⟨_,Heap.get?_update_self _ ho (Obj.isFreed_of_fields (Obj.data_mapFields hd _)),(Obj.cls_mapFields ..).trans hc,by
  rw [Obj.data_mapFields hd];simp [rawInt]⟩
theorem zyl {it l:Addr} {i:Nat} {items} {Q:Value→Shared→Prop} (hh:A.handled=none)
  (hit:s.heap.IsTupleIter it l i) (hl:s.heap.IsTuple l items) (hx:items[i]?=none)
  (hE:∀ h' e,Heap.ExtBut it s.heap h'→(∃ o,h'.get? e=some o∧o.cls=.type "StopIteration")→E (.ref e) {s with heap:=h'}) :
  wpAny (model prog w) A (qAC (.ref it)) Q E s:=by
 obtain ⟨o,ho,hc,hd⟩:=id hit
 obtain ⟨ol,hol,_,nl,hdl⟩:=hl
 unfold qAC
 refine qF (qAr (name:=Str.ofString "__next__") hit.typeIs qBB
  (qBF qBB hit.typeIs qCa ?_ (qCT _)))
 show wpAny _ _ (field (.ref it) 0 >>= _) _ _ s
 refine qF (qAt ho hd (x:=.ref l) rfl ?_)
 show wpAny _ _ (if (Value.ref l==Value.none)=true then _ else _) _ _ s
 rw [if_neg (show ¬ ((Value.ref l==Value.none)=true) from qK)]
 show wpAny _ _ (field (.ref it) 1 >>= _) _ _ s
 refine qF (qAt ho hd (x:=.int i 0) rfl ?_)
 show wpAny _ _ (seqItems? (.ref l) >>= _) _ _ s
 refine qF (qA6 hol hdl ?_)
 simp only [qA9,hx]
 refine qF (qCL (qF (wpAny_setField ho hd (by simp) ?_)))
 show wpAny _ _ (newExc (.type "StopIteration") [] >>= _) _ _ _
 refine qF ?_
 simp only [newExc,newTuple]
 refine qF (qCM ?_ (by size_fits))
 refine qF (m:=firstArgMember _ _) (wpAny_of_eq (a:=Value.none) (by first|rfl|(simp only [firstArgMember];rfl)) ?_)
 refine qCM ?_ (by size_fits)
 simp only [raiseNew]
 refine qF (wpAny_handled ?_)
 first|rw [show A.in1.handled=none from hh]|rw [hh]
 refine qF (qd (wpAny_throw ?_))
 exact hE _ _ (((qCJ ..).extBut.push _).push _) ⟨_,qq _ rfl,rfl⟩
theorem zvx {b:Bool} {it l:Addr} {i:Nat} {xs:Array Value} {x:Value} {Q:Value→Shared→Prop} (hit:SqIt b s.heap it l i) (hl:zgw b s.heap l xs) (hx:xs[i]?=some x)
  (hQ:∀ h',SqIt b h' it l (i+1)→Heap.SameBut it s.heap h'→Q x {s with heap:=h'}):wpAny (model prog w) A (qAC (.ref it)) Q E s:=by
 cases b with
 | true=>exact wpAny_nextOf_list_item hit hl hx hQ
 | false=>exact zvw hit hl hx hQ
theorem zado {b:Bool} {it l:Addr} {i:Nat} {xs:Array Value} {Q:Value→Shared→Prop} (hh:A.handled=none) (hit:SqIt b s.heap it l i) (hl:zgw b s.heap l xs) (hx:xs[i]?=none)
  (hE:∀ h' e,Heap.ExtBut it s.heap h'→(∃ o,h'.get? e=some o∧o.cls=.type "StopIteration")→E (.ref e) {s with heap:=h'}):wpAny (model prog w) A (qAC (.ref it)) Q E s:=by
 cases b with
 | true=>exact wpAny_nextOf_list_end hh hit hl hx hE
 | false=>exact zyl hh hit hl hx hE
theorem zafd {b1 b2:Bool} {z TI TO i1 i2 l1 l2:Addr} {k1 k2:Nat} {xs ys:Array Value} {x y a b:Value} {Q:Value→Shared→Prop} (D:ZipApart z TI TO i1 i2 l1 l2)
  (hz:IsZip s.heap z TI TO .none) (hTI:IsPair s.heap TI (.ref i1) (.ref i2)) (hTO:IsPair s.heap TO a b)
  (h1:SqIt b1 s.heap i1 l1 k1) (h2:SqIt b2 s.heap i2 l2 k2) (hl1:zgw b1 s.heap l1 xs) (hl2:zgw b2 s.heap l2 ys) (hx:xs[k1]?=some x) (hy:ys[k2]?=some y)
  (hQ:∀ h',IsZip h' z TI TO (rawInt s.heap.objs.size)→IsPair h' TO x y→SqIt b1 h' i1 l1 (k1+1)→SqIt b2 h' i2 l2 (k2+1)→IsPair h' s.heap.objs.size x y→h'.objs.size=s.heap.objs.size+1 →
   (∀ c o,c≠z→c≠TO→c≠i1→c≠i2→s.heap.get? c=some o→h'.get? c=some o)→Q (.ref s.heap.objs.size) {s with heap:=h'}) :
  wpAny (model prog w) A (Builtin.«zip.__next__» ⟨[.ref z],[]⟩) (fun fin s'=>∃ v,fin=.done (.ret v)∧Q v s') E s:=by
 show wpAny _ _ (field (.ref z) 2 >>= _) _ _ _
 refine qF (qAt hz rfl (x:=.bool false) rfl ?_)
 show wpAny _ _ (field (.ref z) 3 >>= _) _ _ _
 refine qF (qAt hz rfl (x:=.ref TI) rfl ?_)
 refine qF (qA6 hTI rfl ?_)
 show wpAny _ _ (Builtin.SmallTypes.ownedTupleIsFree (.ref z) >>= _) _ _ _
 refine qF ?_
 unfold Builtin.SmallTypes.ownedTupleIsFree
 refine qF (qAt hz rfl (x:=.none) rfl (qd ?_))
 simp only [if_true]
 refine qF (qCL ?_)
 refine qF (qAt hz rfl (x:=.ref TO) rfl ?_)
 refine qF (qA7 hz (by simp) fun h₁ hz₁ hs₁=>?_)
 replace hz₁:IsZip h₁ z TI TO .ellipsis:=hz₁
 refine qF ?_
 simp only [qB9,List.zipIdx_nil,qCI,List.forIn_nil]
 refine qF (qF (qCB ?_))
 show wpAny _ _ (qAC (.ref i1) >>= _) _ _ _
 refine qF (zvx (h1.extBut hs₁.extBut D.i1z) (hl1.extBut hs₁.extBut D.l1z) hx fun h₂ h1₂ hs₂=>qd ?_)
 have hTO₂:IsPair h₂ TO a b:=hs₂.extBut _ _ D.TOi1 (hs₁.extBut _ _ D.TOz hTO)
 refine qF (qA6 hTO₂ rfl ?_)
 refine qF (qB3 hTO₂ fun h₃ hTO₃ hs₃=>?_)
 replace hTO₃:IsPair h₃ TO x b:=hTO₃
 refine qF (wpAny_letGo (qd ?_))
 refine qF (qF (qCB ?_))
 show wpAny _ _ (qAC (.ref i2) >>= _) _ _ _
 refine qF (zvx (((h2.extBut hs₁.extBut D.i2z).extBut hs₂.extBut D.i12.symm).extBut hs₃.extBut D.TOi2.symm)
  (((hl2.extBut hs₁.extBut D.l2z).extBut hs₂.extBut D.l2i1).extBut hs₃.extBut D.l2TO) hy fun h₄ h2₄ hs₄=>qd ?_)
 have hTO₄:IsPair h₄ TO x b:=hs₄.extBut _ _ D.TOi2 hTO₃
 refine qF (qA6 hTO₄ rfl ?_)
 refine qF (qB3 hTO₄ fun h₅ hTO₅ hs₅=>?_)
 replace hTO₅:IsPair h₅ TO x y:=hTO₅
 refine qF (wpAny_letGo (qd (qd ?_)))
 refine qF (qA6 hTO₅ rfl ?_)
 refine qF (wpAny_newTuple ?_)
 have hsz:h₅.objs.size=s.heap.objs.size:=by rw [hs₅.1,hs₄.1,hs₃.1,hs₂.1,hs₁.1]
 have hz₅:IsZip h₅ z TI TO .ellipsis:=hs₅.extBut _ _ D.TOz.symm (hs₄.extBut _ _ D.i2z.symm (hs₃.extBut _ _ D.TOz.symm (hs₂.extBut _ _ D.i1z.symm hz₁)))
 have hk₅:∀ c o,c≠z→c≠TO→c≠i1→c≠i2→s.heap.get? c=some o→h₅.get? c=some o:=fun c o c1 c2 c3 c4 e =>
  hs₅.extBut _ _ c2 (hs₄.extBut _ _ c4 (hs₃.extBut _ _ c2 (hs₂.extBut _ _ c3 (hs₁.extBut _ _ c1 e))))
 have h1₅:SqIt b1 h₅ i1 l1 (k1+1):=((h1₂.extBut hs₃.extBut D.TOi1.symm).extBut hs₄.extBut D.i12).extBut hs₅.extBut D.TOi1.symm
 have h2₅:SqIt b2 h₅ i2 l2 (k2+1):=h2₄.extBut hs₅.extBut D.TOi2.symm
 have hzlt:z<h₅.objs.size:=qU hz₅
 have hTOlt:TO<h₅.objs.size:=qU hTO₅
 have hi1lt:i1<h₅.objs.size:=by obtain ⟨_,e,_⟩:=h1₅.obj;exact qU e
 have hi2lt:i2<h₅.objs.size:=by obtain ⟨_,e,_⟩:=h2₅.obj;exact qU e
 show wpAny _ _ (Builtin.SmallTypes.ownedTupleHandOut (.ref z) (.ref h₅.objs.size) >>= _) _ _ _
 refine qF ?_
 unfold Builtin.SmallTypes.ownedTupleHandOut
 have hz₆:IsZip (h₅.push {cls:=.type "tuple",data:=.seq #[x,y]}) z TI TO .ellipsis:=qH _ hz₅
 refine qF (qA7 hz₆ (by simp) fun h₇ hz₇ hs₇=>?_)
 replace hz₇:IsZip h₇ z TI TO (rawInt h₅.objs.size):=hz₇
 refine qA7 hz₇ (by simp) fun h₈ hz₈ hs₈=>?_
 replace hz₈:IsZip h₈ z TI TO (rawInt h₅.objs.size):=hz₈
 have up:∀ c o,c≠z→h₅.get? c=some o→h₈.get? c=some o:=fun c o c1 e=>hs₈.extBut _ _ c1 (hs₇.extBut _ _ c1 (qH _ e))
 have hT₈:IsPair h₈ h₅.objs.size x y:=hs₈.extBut _ _ (qBp hzlt) (hs₇.extBut _ _ (qBp hzlt) (qq _ rfl))
 have hz8:h₈.objs.size=h₅.objs.size+1:=by rw [hs₈.1,hs₇.1,qAw]
 rw [hsz] at hz₈ hT₈ hz8
 refine qd ⟨_,rfl,?_⟩
 show Q (.ref h₅.objs.size) _
 rw [hsz]
 exact hQ h₈ hz₈ (up _ _ D.TOz hTO₅) (h1₅.at fun o e=>up _ o D.i1z e) (h2₅.at fun o e=>up _ o D.i2z e) hT₈ hz8 fun c o c1 c2 c3 c4 e=>up c o c1 (hk₅ c o c1 c2 c3 c4 e)
theorem zaim {b1 b2:Bool} {z TI TO i1 i2 l1 l2:Addr} {k1 k2:Nat} {xs ys:Array Value} {a b:Value} {Q:Fin→Shared→Prop} (hh:A.handled=none) (D:ZipApart z TI TO i1 i2 l1 l2)
  (hz:IsZip s.heap z TI TO .none) (hTI:IsPair s.heap TI (.ref i1) (.ref i2)) (hTO:IsPair s.heap TO a b)
  (h1:SqIt b1 s.heap i1 l1 k1) (h2:SqIt b2 s.heap i2 l2 k2) (hl1:zgw b1 s.heap l1 xs) (hl2:zgw b2 s.heap l2 ys) (hend:xs[k1]?=none∨ys[k2]?=none)
  (hE:∀ h' e,(∀ c o,c≠z→c≠TO→c≠i1→c≠i2→s.heap.get? c=some o→h'.get? c=some o)→(∃ o,h'.get? e=some o∧o.cls=.type "StopIteration")→E (.ref e) {s with heap:=h'}) :
  wpAny (model prog w) A (Builtin.«zip.__next__» ⟨[.ref z],[]⟩) Q E s:=by
 show wpAny _ _ (field (.ref z) 2 >>= _) _ _ _
 refine qF (qAt hz rfl (x:=.bool false) rfl ?_)
 show wpAny _ _ (field (.ref z) 3 >>= _) _ _ _
 refine qF (qAt hz rfl (x:=.ref TI) rfl ?_)
 refine qF (qA6 hTI rfl ?_)
 show wpAny _ _ (Builtin.SmallTypes.ownedTupleIsFree (.ref z) >>= _) _ _ _
 refine qF ?_
 unfold Builtin.SmallTypes.ownedTupleIsFree
 refine qF (qAt hz rfl (x:=.none) rfl (qd ?_))
 simp only [if_true]
 refine qF (qCL ?_)
 refine qF (qAt hz rfl (x:=.ref TO) rfl ?_)
 refine qF (qA7 hz (by simp) fun h₁ hz₁ hs₁=>?_)
 replace hz₁:IsZip h₁ z TI TO .ellipsis:=hz₁
 refine qF ?_
 simp only [qB9,List.zipIdx_nil,qCI,List.forIn_nil]
 refine qF (qF (qCB ?_))
 show wpAny _ _ (qAC (.ref i1) >>= _) _ _ _
 cases hx:xs[k1]? with
 | none =>
  refine qF (zado hh (h1.extBut hs₁.extBut D.i1z) (hl1.extBut hs₁.extBut D.l1z) hx fun h₂ e hs₂ he=>?_)
  obtain ⟨oe,hoe,hce⟩:=he
  have hz₂:IsZip h₂ z TI TO .ellipsis:=hs₂ _ _ D.i1z.symm hz₁
  have hez:e≠z:=fun x=>by subst x;rw [hz₂] at hoe;cases hoe;simp at hce
  refine qA7 hz₂ (by simp) fun h₃ _ hs₃=>hE h₃ e (fun c o c1 _ c3 _ x=>hs₃.extBut _ _ c1 (hs₂ _ _ c3 (hs₁.extBut _ _ c1 x))) ⟨oe,hs₃.extBut _ _ hez hoe,hce⟩
 | some x =>
  have hy:ys[k2]?=none:=by rcases hend with h|h;rw [hx] at h;cases h;exact h
  refine qF (zvx (h1.extBut hs₁.extBut D.i1z) (hl1.extBut hs₁.extBut D.l1z) hx fun h₂ h1₂ hs₂=>qd ?_)
  have hTO₂:IsPair h₂ TO a b:=hs₂.extBut _ _ D.TOi1 (hs₁.extBut _ _ D.TOz hTO)
  refine qF (qA6 hTO₂ rfl ?_)
  refine qF (qB3 hTO₂ fun h₃ hTO₃ hs₃=>?_)
  refine qF (wpAny_letGo (qd ?_))
  refine qF (qF (qCB ?_))
  show wpAny _ _ (qAC (.ref i2) >>= _) _ _ _
  refine qF (zado hh (((h2.extBut hs₁.extBut D.i2z).extBut hs₂.extBut D.i12.symm).extBut hs₃.extBut D.TOi2.symm)
   (((hl2.extBut hs₁.extBut D.l2z).extBut hs₂.extBut D.l2i1).extBut hs₃.extBut D.l2TO) hy fun h₄ e hs₄ he=>?_)
  obtain ⟨oe,hoe,hce⟩:=he
  have hz₄:IsZip h₄ z TI TO .ellipsis:=hs₄ _ _ D.i2z.symm (hs₃.extBut _ _ D.TOz.symm (hs₂.extBut _ _ D.i1z.symm hz₁))
  have hez:e≠z:=fun x=>by subst x;rw [hz₄] at hoe;cases hoe;simp at hce
  refine qA7 hz₄ (by simp) fun h₅ _ hs₅=>hE h₅ e (fun c o c1 c2 c3 c4 x=>hs₅.extBut _ _ c1 (hs₄ _ _ c4 (hs₃.extBut _ _ c2 (hs₂.extBut _ _ c3 (hs₁.extBut _ _ c1 x))))) ⟨oe,hs₅.extBut _ _ hez hoe,hce⟩
structure ZipAt (b1 b2:Bool) (h:Heap) (z TI TO i1 i2 l1 l2:Addr) (f0:Value) (k:Nat):Prop where
 z:IsZip h z TI TO f0
 ti:IsPair h TI (.ref i1) (.ref i2)
 to:∃ a b,IsPair h TO a b
 i1:SqIt b1 h i1 l1 k
 i2:SqIt b2 h i2 l2 k
theorem zain {b1 b2:Bool} {z TI TO i1 i2 l1 l2:Addr} {k:Nat} {xs ys:Array Value} {x y:Value} {Q:Value→Shared→Prop} (D:ZipApart z TI TO i1 i2 l1 l2)
  (hz:ZipAt b1 b2 s.heap z TI TO i1 i2 l1 l2 .none k) (hl1:zgw b1 s.heap l1 xs) (hl2:zgw b2 s.heap l2 ys) (hx:xs[k]?=some x) (hy:ys[k]?=some y)
  (hQ:∀ h',ZipAt b1 b2 h' z TI TO i1 i2 l1 l2 (rawInt s.heap.objs.size) (k+1)→IsPair h' s.heap.objs.size x y →
   (∀ c o,c≠z→c≠TO→c≠i1→c≠i2→s.heap.get? c=some o→h'.get? c=some o)→Q (.ref s.heap.objs.size) {s with heap:=h'}) :
  wpAny (model prog w) A (Builtin.«zip.__next__» ⟨[.ref z],[]⟩) (fun fin s'=>∃ v,fin=.done (.ret v)∧Q v s') E s:=by
 obtain ⟨p1,p2,⟨a,b,p3⟩,p4,p5⟩:=hz
 exact zafd D p1 p2 p3 p4 p5 hl1 hl2 hx hy fun h' q1 q2 q3 q4 q5 _ q7=>hQ h' ⟨q1,q7 _ _ D.TIz D.TITO D.TIi1 D.TIi2 p2,⟨x,y,q2⟩,q3,q4⟩ q5 q7
theorem zamj {b1 b2:Bool} {z TI TO i1 i2 l1 l2:Addr} {k:Nat} {xs ys:Array Value} {Q:Fin→Shared→Prop} (hh:A.handled=none) (D:ZipApart z TI TO i1 i2 l1 l2)
  (hz:ZipAt b1 b2 s.heap z TI TO i1 i2 l1 l2 .none k) (hl1:zgw b1 s.heap l1 xs) (hl2:zgw b2 s.heap l2 ys) (hend:xs[k]?=none∨ys[k]?=none)
  (hE:∀ h' e,(∀ c o,c≠z→c≠TO→c≠i1→c≠i2→s.heap.get? c=some o→h'.get? c=some o)→(∃ o,h'.get? e=some o∧o.cls=.type "StopIteration")→E (.ref e) {s with heap:=h'}) :
  wpAny (model prog w) A (Builtin.«zip.__next__» ⟨[.ref z],[]⟩) Q E s:=by
 obtain ⟨p1,p2,⟨a,b,p3⟩,p4,p5⟩:=hz
 exact zaim hh D p1 p2 p3 p4 p5 hl1 hl2 hend hE
end
end PySem
namespace L2
open PySem PySem.Spec PyProof.Rows
noncomputable def SqX (b:Bool) (K:qB) (H:Hp) (a:Addr) (xs:List V):Prop:=match b with
 | true=>SqL K H a xs
 | false=>SqT K H a xs
section
variable {X:Cx} {pins:List (Addr×Obj)} {σ:St} {H:Hp} {s:Shared}
theorem Inv.sq {b:Bool} {a:Addr} {xs:List V} (I:Inv X pins σ H s) (h:SqX b X.K H a xs):∃ its:List Value,Vals xs its∧zgw b s.heap a its.toArray∧xs.length≤qj:=by
 cases b with
 | true=>obtain ⟨its,r,p,z⟩:=I.list h;exact ⟨its,r,p.isList,z⟩
 | false=>obtain ⟨its,r,p,z⟩:=I.tuple h;exact ⟨its,r,(show s.heap.IsTuple a its.toArray from p),z⟩
theorem Inv.sq_inj {b:Bool} {a:Addr} {xs ys:List V} (I:Inv X pins σ H s) (h:SqX b X.K H a xs) (h':SqX b X.K H a ys):xs=ys:=by
 cases b with
 | true=>exact I.list_inj h h'
 | false=>exact I.tuple_inj h h'
end
noncomputable def Itz (K:qB) (b1:Bool) (a1:Addr) (b2:Bool) (a2:Addr):It :=
 ⟨fun i H=>∃ xs ys x y,SqX b1 K H a1 xs∧SqX b2 K H a2 ys∧xs[i]?=some x∧ys[i]?=some y,
  fun i H v H'=>∃ p x y,v=.ref p∧H p=none∧H'=upd H p (.tup [x,y])∧(∀ xs,SqX b1 K H a1 xs→xs[i]?=some x)∧∀ ys,SqX b2 K H a2 ys→ys[i]?=some y,
  fun i H=>∃ xs ys,SqX b1 K H a1 xs∧SqX b2 K H a2 ys∧(xs.length≤i∨ys.length≤i)⟩
theorem zamk {P:Program} {w:World} {K:qB} {elts:List Expr} {x1} {tpos:Pos} {b1 b2:Bool} {z TI TO i1 i2 l1 l2:Addr} (D:ZipApart z TI TO i1 i2 l1 l2) :
  Turn P w K (.Tuple elts x1 tpos) (Itz K b1 l1 b2 l2) [z,TI,TO,i1,i2] z (fun i h=>ZipAt b1 b2 h z TI TO i1 i2 l1 l2 .none i) where
 mem:=by simp
 obj:=fun i h st b hb=>by
  obtain ⟨a,c,hto⟩:=st.to
  simp only [qe,qAX,or_false] at hb
  rcases hb with rfl|rfl|rfl|rfl|rfl
  ·exact ⟨_,st.z,fun v q=>by simp at q⟩
  ·exact ⟨_,st.ti,fun v q=>by simp at q⟩
  ·exact ⟨_,hto,fun v q=>by simp at q⟩
  ·exact st.i1.obj
  ·exact st.i2.obj
 keep:=fun i h h' st k=>by
  obtain ⟨a,c,hto⟩:=st.to
  exact ⟨k z (by simp) _ st.z,k TI (by simp) _ st.ti,⟨a,c,k TO (by simp) _ hto⟩,st.i1.moved fun o q=>k i1 (by simp) o q,st.i2.moved fun o q=>k i2 (by simp) o q⟩
 item:=by
  intro X hP hw hK hc i pins s σ H E I hf st hg
  subst hP hw hK
  obtain ⟨xs,ys,x,y,q1,q2,hx,hy⟩:=hg
  obtain ⟨its1,rv1,p1,_⟩:=I.sq q1
  obtain ⟨its2,rv2,p2,_⟩:=I.sq q2
  obtain ⟨u1,hu1,ru1⟩:=rv1.get hx
  obtain ⟨u2,hu2,ru2⟩:=rv2.get hy
  have hT:s.TypeIs (.ref z) "zip":=⟨_,st.z,rfl⟩
  unfold pyNext
  refine qF (wpAny_attempt (qAr (name:=Str.ofString "__next__") hT qBr (qBF qBr hT F.entry_zip_next
   (zain D st p1 p2 (x:=u1) (y:=u2) (by simpa using hu1) (by simpa using hu2) fun h1 zt tp kp=>qd ?_) (F.args_zip_next_1 _))))
  refine ⟨_,rfl,wpAny_letOwnedTupleGo_zip (s:={s with heap:=h1}) zt.z fun h2 z2 sb2=>?_⟩
  have hp:H s.heap.objs.size=none:=I.hok.fresh (qO _)
  have fz:=hf z (by simp)
  have fO:=hf TO (by simp)
  have f1:=hf i1 (by simp)
  have f2:=hf i2 (by simp)
  have lt:∀ b∈[z,TI,TO,i1,i2],b≠s.heap.objs.size:=fun b hb=>by
   obtain ⟨a,c,hto⟩:=st.to
   simp only [qe,qAX,or_false] at hb
   rcases hb with rfl|rfl|rfl|rfl|rfl
   ·exact qx (qU st.z)
   ·exact qx (qU st.ti)
   ·exact qx (qU hto)
   ·obtain ⟨o,q,_⟩:=st.i1.obj;exact qx (qU q)
   ·obtain ⟨o,q,_⟩:=st.i2.obj;exact qx (qU q)
  have k2:∀ b o,b≠z→b≠TO→b≠i1→b≠i2→s.heap.get? b=some o→h2.get? b=some o:=fun b o e1 e2 e3 e4 q=>(sb2.2 b e1).trans (kp b o e1 e2 e3 e4 q)
  have t2:IsPair h2 s.heap.objs.size u1 u2:=(sb2.2 _ (qA2 (lt z (by simp)))).trans tp
  have nch:∀ b,b∉[z,TO,i1,i2]→b≠z∧b≠TO∧b≠i1∧b≠i2:=fun b hb=>⟨fun q=>hb (by simp [q]),fun q=>hb (by simp [q]),fun q=>hb (by simp [q]),fun q=>hb (by simp [q])⟩
  have k3:∀ b o,b∉[z,TO,i1,i2]→s.heap.get? b=some o→h2.get? b=some o:=fun b o hb q=>let ⟨e1,e2,e3,e4⟩:=nch b hb;k2 b o e1 e2 e3 e4 q
  have nH:∀ c v,H c=some v→c∉[z,TO,i1,i2]:=fun c v q hc=>by
   have:H c=none:=by
    simp only [qe,qAX,or_false] at hc
    rcases hc with rfl|rfl|rfl|rfl
    ·exact fz.1
    ·exact fO.1
    ·exact f1.1
    ·exact f2.1
   rw [this] at q;cases q
  refine ⟨.ref s.heap.objs.size,upd H s.heap.objs.size (.tup [x,y]),?_,rfl,⟨_,x,y,rfl,hp,rfl,fun zs q=>by rw [I.sq_inj q q1];exact hx,fun zs q=>by rw [I.sq_inj q q2];exact hy⟩,?_,fun b hb=>by rw [zcj (lt b hb)];exact (hf b hb).1⟩
  ·refine Inv.step (s:=s) (h':=h2) (g':=s.gens) (d':=s.drawn) (t':=s.toks) (ch:=[z,TO,i1,i2]) I (fun b hb=>?_) (fun b o _ _ hc q _=>k3 b o hc q) (fun b o _ _ hc q _=>⟨o.slots,k3 b o hc q⟩)
    (fun b o _ q n=>by rw [zcj (qx (qU q))];exact n) (fun b o hc q=>⟨o,k3 b o hc q⟩)
    (fun b xs q=>by rw [zcj (zcg q hp)];exact q) (fun b o v q=>by rw [zcj (zcg q hp)];exact q) (fun b ps q=>⟨#[],by rw [zcj (zcg q hp),q];simp⟩) (fun m hm=>?_) (fun b v q=>?_) I.bare
   ·have:=hf b (by
     simp only [qe,qAX,or_false] at hb ⊢
     rcases hb with rfl|rfl|rfl|rfl<;>simp)
    exact ⟨this.2.2.2.1,this.2.1,this.2.2.2.2.1,this.2.2.2.2.2⟩
   ·obtain ⟨o,es,ep,ho,r⟩:=hm
    exact ⟨o,es,ep,k2 _ o (qA2 fz.2.1) (qA2 fO.2.1) (qA2 f1.2.1) (qA2 f2.2.1) ho,r⟩
   ·by_cases hb:b=s.heap.objs.size
    ·subst hb
     rw [zbp] at q
     cases q
     exact ⟨by show 2≤qj;decide,[u1,u2],.cons ru1 (.cons ru2 .nil),_,t2,rfl,_,rfl⟩
    ·rw [zcj hb] at q
     refine (I.hok b v q).stay (fun c w' hc r=>?_) (fun c r=>by rw [zcj (zcg r hp)];exact r) fun c ys r=>by rw [zcj (zcg r hp)];exact r
     rcases hc with rfl|hc
     ·exact k3 c w' (nH c v q) r
     ·exact k3 c w' (nH c _ hc) r
  ·obtain ⟨a,c,hto⟩:=zt.to
   exact ⟨z2,(sb2.2 _ D.TIz).trans zt.ti,⟨a,c,(sb2.2 _ D.TOz).trans hto⟩,zt.i1.moved fun o q=>(sb2.2 _ D.i1z).trans q,zt.i2.moved fun o q=>(sb2.2 _ D.i2z).trans q⟩
 done:=by
  intro X hP hw hK hc i pins s σ H E I hf st hg
  subst hP hw hK
  obtain ⟨xs,ys,q1,q2,hle⟩:=hg
  obtain ⟨its1,rv1,p1,_⟩:=I.sq q1
  obtain ⟨its2,rv2,p2,_⟩:=I.sq q2
  have l1':=rv1.length
  have l2':=rv2.length
  have hT:s.TypeIs (.ref z) "zip":=⟨_,st.z,rfl⟩
  unfold pyNext
  refine qF (wpAny_attempt (qAr (name:=Str.ofString "__next__") hT qBr (qBF qBr hT F.entry_zip_next
   (zamj (by exact I.ok.hd hc) D st p1 p2 (by rcases hle with q|q;exact .inl (by simp;omega);exact .inr (by simp;omega)) fun h' e kp he=>?_) (F.args_zip_next_1 _))))
  obtain ⟨o,ho,hcl⟩:=he
  refine qF (wpAny_isInstance (T:="StopIteration") (b:=true) ⟨o,ho,hcl⟩ isSubtype_stop (qd ⟨rfl,?_⟩))
  have fz:=hf z (by simp)
  have fO:=hf TO (by simp)
  have f1:=hf i1 (by simp)
  have f2:=hf i2 (by simp)
  have nch:∀ b,b∉[z,TO,i1,i2]→b≠z∧b≠TO∧b≠i1∧b≠i2:=fun b hb=>⟨fun q=>hb (by simp [q]),fun q=>hb (by simp [q]),fun q=>hb (by simp [q]),fun q=>hb (by simp [q])⟩
  have k3:∀ b o,b∉[z,TO,i1,i2]→s.heap.get? b=some o→h'.get? b=some o:=fun b o hb q=>let ⟨e1,e2,e3,e4⟩:=nch b hb;kp b o e1 e2 e3 e4 q
  have nH:∀ c v,H c=some v→c∉[z,TO,i1,i2]:=fun c v q hc=>by
   have:H c=none:=by
    simp only [qe,qAX,or_false] at hc
    rcases hc with rfl|rfl|rfl|rfl
    ·exact fz.1
    ·exact fO.1
    ·exact f1.1
    ·exact f2.1
   rw [this] at q;cases q
  refine Inv.step (s:=s) (h':=h') (g':=s.gens) (d':=s.drawn) (t':=s.toks) (ch:=[z,TO,i1,i2]) I (fun b hb=>?_) (fun b o _ _ hc q _=>k3 b o hc q) (fun b o _ _ hc q _=>⟨o.slots,k3 b o hc q⟩)
    (fun b o _ q n=>n) (fun b o hc q=>⟨o,k3 b o hc q⟩) (fun b xs q=>q) (fun b o v q=>q) (fun b ps q=>⟨#[],by rw [q];simp⟩) (fun m hm=>?_) (fun b v q=>?_) I.bare
  ·have:=hf b (by
     simp only [qe,qAX,or_false] at hb ⊢
     rcases hb with rfl|rfl|rfl|rfl<;>simp)
   exact ⟨this.2.2.2.1,this.2.1,this.2.2.2.2.1,this.2.2.2.2.2⟩
  ·obtain ⟨o,es,ep,ho,r⟩:=hm
   exact ⟨o,es,ep,kp _ o (qA2 fz.2.1) (qA2 fO.2.1) (qA2 f1.2.1) (qA2 f2.2.1) ho,r⟩
  ·refine (I.hok b v q).stay (fun c w' hc r=>?_) (fun c r=>r) fun c ys r=>r
   rcases hc with rfl|hc
   ·exact k3 c w' (nH c v q) r
   ·exact k3 c w' (nH c _ hc) r
 self:=fun _ _ _ _ _ st h=>wpAny_pyIter_zip st.z h
end L2
namespace PySem
open Sem (wp)
noncomputable def itO (b:Bool) (l:Addr):Obj:=match b with
 | true=>{cls:=.type "list_iterator",data:=.fields #[.ref l,.int 0 0]}
 | false=>{cls:=.type "tuple_iterator",data:=.fields #[.ref l,.int 0 0]}
noncomputable def zx1 (b1:Bool) (h:Heap) (l1:Addr):Heap:=h.push (itO b1 l1)
noncomputable def zx2 (b1 b2:Bool) (h:Heap) (l1 l2:Addr):Heap:=(zx1 b1 h l1).push (itO b2 l2)
noncomputable def zx3 (b1 b2:Bool) (h:Heap) (l1 l2:Addr):Heap:=(zx2 b1 b2 h l1 l2).push {cls:=.type "tuple",data:=.seq #[.ref h.objs.size,.ref (zx1 b1 h l1).objs.size]}
noncomputable def zx4 (b1 b2:Bool) (h:Heap) (l1 l2:Addr):Heap:=(zx3 b1 b2 h l1 l2).push {cls:=.type "tuple",data:=.seq #[.none,.none]}
noncomputable def zx5 (b1 b2:Bool) (h:Heap) (l1 l2:Addr):Heap:=(zx4 b1 b2 h l1 l2).push {cls:=.type "zip",data:=.fields #[.none,.bool false,.bool false,.ref (zx2 b1 b2 h l1 l2).objs.size,.ref (zx3 b1 b2 h l1 l2).objs.size]}
theorem zafe (b1 b2:Bool) (l1 l2:Addr) (xs ys:Array Value) :
  Meets (Builtin.«zip.__new__» ⟨[.type "zip",.ref l1,.ref l2],[]⟩) (fun _ R s=>zgw b1 s.heap l1 xs∧zgw b2 s.heap l2 ys∧R (.ok (.ret (.ref (zx4 b1 b2 s.heap l1 l2).objs.size))) {s with heap:=zx5 b1 b2 s.heap l1 l2}) :=
 .of_wp fun prog w A R s h=>by
  obtain ⟨hp,g,d,tk,os⟩:=s;obtain ⟨h1,h2,h⟩:=h
  have hsub:=sub_zip
  cases b1 with
  | true =>
   have e1:Heap.IsList (Shared.heap ⟨hp,g,d,tk,os⟩) l1 xs:=h1
   cases b2 with
   | true =>
    have e2:Heap.IsList (Shared.heap ⟨hp.push {cls:=.type "list_iterator",data:=.fields #[.ref l1,.int 0 0]},g,d,tk,os⟩) l2 ys:=qCb h2 _
    wp_walk using qAs e1,qAs e2
    exact ⟨_,rfl,h⟩
   | false =>
    have e2:Heap.IsTuple (Shared.heap ⟨hp.push {cls:=.type "list_iterator",data:=.fields #[.ref l1,.int 0 0]},g,d,tk,os⟩) l2 ys:=qCS h2 _
    wp_walk using qAs e1,qAo e2
    exact ⟨_,rfl,h⟩
  | false =>
   have e1:Heap.IsTuple (Shared.heap ⟨hp,g,d,tk,os⟩) l1 xs:=h1
   cases b2 with
   | true =>
    have e2:Heap.IsList (Shared.heap ⟨hp.push {cls:=.type "tuple_iterator",data:=.fields #[.ref l1,.int 0 0]},g,d,tk,os⟩) l2 ys:=qCb h2 _
    wp_walk using qAo e1,qAs e2
    exact ⟨_,rfl,h⟩
   | false =>
    have e2:Heap.IsTuple (Shared.heap ⟨hp.push {cls:=.type "tuple_iterator",data:=.fields #[.ref l1,.int 0 0]},g,d,tk,os⟩) l2 ys:=qCS h2 _
    wp_walk using qAo e1,qAo e2
    exact ⟨_,rfl,h⟩
theorem zvy {b:Bool} {h:Heap} {a l:Addr} (e:h.get? a=some (itO b l)):SqIt b h a l 0:=by
 cases b with
 | true=>exact ⟨_,e,rfl,rfl⟩
 | false=>exact ⟨_,e,rfl,rfl⟩
theorem zaio {prog:Program} {w:World} {A:Around} {E:Value→Shared→Prop} {s:Shared} {b1 b2:Bool} {l1 l2:Addr} {xs ys:Array Value} {Q:Value→Shared→Prop} (h1:zgw b1 s.heap l1 xs) (h2:zgw b2 s.heap l2 ys)
  (h:∀ h',ZipAt b1 b2 h' (s.heap.objs.size+4) (s.heap.objs.size+2) (s.heap.objs.size+3) s.heap.objs.size (s.heap.objs.size+1) l1 l2 .none 0→(∀ c o,s.heap.get? c=some o→h'.get? c=some o)→Q (.ref (s.heap.objs.size+4)) {s with heap:=h'}) :
  wpAny (model prog w) A (call (.type "zip") [.ref l1,.ref l2]) Q E s:=by
 refine callType_new F.called_zip (by decide) (F.typeCall_zip_2 _ _) (F.newCall_zip_2 _ _) (fun obj=>F.args_object_init_3 obj _ _) F.entry_zip_new (zafe b1 b2 l1 l2 xs ys) ⟨h1,h2,?_⟩
 have z1:(zx1 b1 s.heap l1).objs.size=s.heap.objs.size+1:=qAw ..
 have z2:(zx2 b1 b2 s.heap l1 l2).objs.size=s.heap.objs.size+2:=by unfold zx2;rw [qAw,z1]
 have z3:(zx3 b1 b2 s.heap l1 l2).objs.size=s.heap.objs.size+3:=by unfold zx3;rw [qAw,z2]
 have z4:(zx4 b1 b2 s.heap l1 l2).objs.size=s.heap.objs.size+4:=by unfold zx4;rw [qAw,z3]
 have fr:∀ o:Obj,(zx5 b1 b2 s.heap l1 l2).get? (zx4 b1 b2 s.heap l1 l2).objs.size=some {cls:=.type "zip",dict:=none,data:=.fields #[.none,.bool false,.bool false,.ref (zx2 b1 b2 s.heap l1 l2).objs.size,.ref (zx3 b1 b2 s.heap l1 l2).objs.size],slots:=#[]}:=fun _=>qq _ rfl
 have g5:=fr {cls:=.none,data:=.seq #[]}
 have g4:(zx5 b1 b2 s.heap l1 l2).get? (zx3 b1 b2 s.heap l1 l2).objs.size=some {cls:=.type "tuple",data:=.seq #[.none,.none]}:=qH _ (qq _ rfl)
 have g3:(zx5 b1 b2 s.heap l1 l2).get? (zx2 b1 b2 s.heap l1 l2).objs.size=some {cls:=.type "tuple",data:=.seq #[.ref s.heap.objs.size,.ref (zx1 b1 s.heap l1).objs.size]}:=qH _ (qH _ (qq _ rfl))
 have g2:(zx5 b1 b2 s.heap l1 l2).get? (zx1 b1 s.heap l1).objs.size=some (itO b2 l2):=qH _ (qH _ (qH _ (qq _ (by cases b2<;>rfl))))
 have g1:(zx5 b1 b2 s.heap l1 l2).get? s.heap.objs.size=some (itO b1 l1):=qH _ (qH _ (qH _ (qH _ (qq _ (by cases b1<;>rfl)))))
 show _∧_
 rw [z2,z3,z4] at g5
 rw [z1,z2] at g3
 rw [z3] at g4
 rw [z1] at g2
 rw [z4]
 exact ⟨⟨_,g5,rfl⟩,h _ ⟨g5,g3,⟨_,_,g4⟩,zvy g1,zvy g2⟩ fun c o q=>qH _ (qH _ (qH _ (qH _ (qH _ q))))⟩
end PySem
namespace L2
open PySem PySem.Spec PyProof.Rows
theorem zats:bootBuiltins "zip" = some (.type "zip"):=by decide +kernel
noncomputable def iZip (K:qB) (ta:TA):TI:=fun σ H R=>ta σ H fun vs H1=>∃ b1 b2 a1 a2,vs=[.ref a1,.ref a2]∧(∃ xs,SqX b1 K H1 a1 xs)∧(∃ ys,SqX b2 K H1 a2 ys)∧R (Itz K b1 a1 b2 a2) H1
theorem zgw.there {b:Bool} {h:Heap} {l:Addr} {xs:Array Value} (x:zgw b h l xs):l<h.objs.size:=by
 cases b with
 | true=>obtain ⟨o,q,_⟩:=x;exact qU q
 | false=>obtain ⟨o,q,_⟩:=x;exact qU q
theorem zaip {n l1 l2:Nat} (h1:l1<n) (h2:l2<n):ZipApart (n+4) (n+2) (n+3) n (n+1) l1 l2:=by
 constructor<;>first|exact qx (by omega)|exact qBp (by omega)
theorem zatt {X:Cx} {K:qB} (hK:X.K=K) {a b:Expr} {ta:TA} {p pos:Pos} {elts:List Expr} {x1} {tpos:Pos} (hg:Gl X "zip") (hm:X.mg "zip" = none) (ha:PA X [a,b] ta) (hs:starEach [a,b] X.env=(false,eval a X.env)::starEach [b] X.env:=by rfl) (hs2:(backTo pos (starEach [b] X.env)).any (·.1)=false:=by rfl) :
  PI X (.Tuple elts x1 tpos) (.Call (.Name "zip" p) [a,b] [] pos) (iZip K ta):=by
 subst hK
 intro pins s σ H R I h
 refine Call_ (zub I hg hm zats (callWith_type1 (thn (ha pos pins s σ H _ I h) fun us s1 ⟨vs,H1,I1,r1,q1⟩=>?_) hs hs2))
 obtain ⟨b1,b2,l1,l2,rfl,⟨xs,e1⟩,⟨ys,e2⟩,q⟩:=q1
 obtain ⟨u1,u2,rfl,ru1,ru2⟩:=zapc r1
 cases ru1
 cases ru2
 obtain ⟨its1,rv1,p1,_⟩:=I1.sq e1
 obtain ⟨its2,rv2,p2,_⟩:=I1.sq e2
 have t1:=zgw.there p1
 have t2:=zgw.there p2
 refine zaio p1 p2 fun h' zt hk=>wpAny_pyIter_zip zt.z ?_
 have I2:Inv X pins σ H1 {s1 with heap:=h'}:=I1.kept (t':=s1.toks) hk
 have D:=zaip t1 t2
 refine ⟨s1.heap.objs.size+4,[s1.heap.objs.size+4,s1.heap.objs.size+2,s1.heap.objs.size+3,s1.heap.objs.size,s1.heap.objs.size+1],_,_,H1,rfl,I2,zamk D,zt,fun c hc=>?_,q⟩
 have hge:s1.heap.objs.size≤c:=by
  simp only [qe,qAX,or_false] at hc
  rcases hc with rfl|rfl|rfl|rfl|rfl
  ·exact qBk _ _
  ·exact qBk _ _
  ·exact qBk _ _
  ·exact qO _
  ·exact qBk _ _
 exact I1.fpOk hge (I1.hok.fresh hge)
noncomputable def ztx (f:AF):IF':=fun env=>(f env).bind fun rs=>match rs with
 | [r,t]=>(zgy r.d).bind fun ds=>(zgy t.d).map fun es=>(List.zipWith (fun d e=>.tuple [d,e]) ds es,r.bs++t.bs)
 | _=>none
theorem zaiq {K:qB} {A:Addr→Prop} {H:Hp} {d:PyData} {ds:List PyData} {v:V} (h:Rp (Offs A H) d v) (e:zgy d=some ds):∃ (b:Bool) (a:Addr) (xs:List V),v=.ref a∧Rps (Offs A H) ds xs∧∀ (B:Addr→Prop) (H':Hp),Same (Offs A H) (Offs B H')→SqX b K H' a xs:=by
 cases d with
 | list es =>
  cases e
  obtain ⟨a,xs,rfl,ha,r⟩:=zfe h
  exact ⟨true,a,xs,rfl,r,fun B H' s=>SqL.of (zez (s _ _ ha))⟩
 | tuple es =>
  cases e
  obtain ⟨a,xs,rfl,ha,r⟩:=zec h
  exact ⟨false,a,xs,rfl,r,fun B H' s=>SqT.of (zez (s _ _ ha))⟩
 | _=>cases e
theorem zaml {ds es:List PyData} {i:Nat} {d:PyData} (h:(List.zipWith (fun d e=>PyData.tuple [d,e]) ds es)[i]?=some d):∃ a b,ds[i]?=some a∧es[i]?=some b∧d=.tuple [a,b]:=by
 rw [List.getElem?_zipWith] at h
 cases e1:ds[i]? with
 | none=>rw [e1] at h;cases h
 | some a =>
  cases e2:es[i]? with
  | none=>rw [e1,e2] at h;cases h
  | some b=>rw [e1,e2] at h;cases h;exact ⟨a,b,rfl,rfl,rfl⟩
theorem zadp {K:qB} {ta:TA} {f:AF} (h1:SA ta f):SI (iZip K ta) (ztx f):=by
 intro fx H0 env σ H h ds bs e R q
 unfold ztx at e
 obtain ⟨rs,er,e⟩:=qA.mp e
 split at e
 ·rename_i r t
  obtain ⟨d1,ed1,e⟩:=qA.mp e
  obtain ⟨d2,ed2,e⟩:=qJ.mp e
  cases e
  refine h1 fx H0 env σ H h _ er _ fun vs H1 s hv=>?_
  cases hv with
  | cons hv1 hv' =>
   cases hv' with
   | cons hv2 hv'' =>
    cases hv''
    have sub1:∀ b,(fx b∨own (frzs env (r.bs++t.bs)) σ b)→lim fx env σ r.bs b:=fun b z=>zke (fun i hi=>qz _ hi) b (zhr b z)
    have sub2:∀ b,(fx b∨own (frzs env (r.bs++t.bs)) σ b)→lim fx env σ t.bs b:=fun b z=>zke (fun i hi=>qm _ hi) b (zhr b z)
    obtain ⟨b1,a1,xs,rfl,r1,e1⟩:=zaiq (K:=K) (Rp.same (Offs.sub sub1) _ hv1.rp) ed1
    obtain ⟨b2,a2,ys,rfl,r2,e2⟩:=zaiq (K:=K) (Rp.same (Offs.sub sub2) _ hv2.rp) ed2
    refine ⟨b1,b2,a1,a2,rfl,⟨xs,e1 _ H1 (Same.refl _)⟩,⟨ys,e2 _ H1 (Same.refl _)⟩,q _ H1 s ?_⟩
    intro A H' hA ss
    have q1:=e1 A H' ss
    have q2:=e2 A H' ss
    have r1':=Rps.same ss _ r1
    have r2':=Rps.same ss _ r2
    refine ⟨fun i d e=>?_,⟨xs,ys,q1,q2,?_⟩⟩
    ·obtain ⟨c1,c2,ec1,ec2,rfl⟩:=zaml e
     obtain ⟨v1,g1,rv1⟩:=r1'.get2 ec1
     obtain ⟨v2,g2,rv2⟩:=r2'.get2 ec2
     refine ⟨⟨xs,ys,v1,v2,q1,q2,g1,g2⟩,fun x H'' y=>?_⟩
     obtain ⟨p,x',y',rfl,hp,rfl,y1,y2⟩:=y
     have z1:=y1 xs q1
     rw [g1] at z1
     cases z1
     have z2:=y2 ys q2
     rw [g2] at z2
     cases z2
     exact ⟨Same.new hp,zpb hp (zga hA hp) (zdi rv1 (zdi rv2 zed))⟩
    ·rw [List.length_zipWith,r1.length,r2.length]
     rcases Nat.le_total xs.length ys.length with z|z
     ·exact .inl (by rw [Nat.min_eq_left z];exact qO _)
     ·exact .inr (by rw [Nat.min_eq_right z];exact qO _)
 ·cases e
noncomputable def rInS (K:qB) (neg:Bool):R2:=fun x y H Q=>∃ d c ds,Rep K H d x∧Rep K H c y∧zgy c=some ds∧qI d=true∧qI c=true∧Q (.bl (if neg then !(ds.any fun e=>qG e d) else ds.any fun e=>qG e d)) H
section
variable {X:Cx}
theorem shp {d:PyData} (h:qI d=true):d.canLay0=true∧d.depth≤64:=by
 unfold qI at h
 rw [qb] at h
 exact ⟨h.1,of_decide_eq_true h.2⟩
theorem zavm {K:qB} (hK:X.K=K) (hu:X.A.units+64<cLine):OpR X (compareOp .In) (rInS K false):=by
 subst hK
 intro pins s σ H x y v u Q I rx ry h
 obtain ⟨d,c,ds,hd,hc,hi,sd,sc,q⟩:=h
 obtain ⟨as,r1⟩:=zgn I d hd rx
 obtain ⟨bs,r2⟩:=zgn I c hc ry
 obtain ⟨l1,p1⟩:=shp sd
 obtain ⟨l2,p2⟩:=shp sc
 have q:EP X pins σ Q (.bool (ds.any fun e=>qG e d)) s:=⟨.bl (ds.any fun e=>qG e d),H,I,rfl,q⟩
 cases c with
 | list es =>
  cases hi
  have p2:qk ds+1≤64:=p2
  exact SeqAt.in_list_reads r2 r1 l2 l1 (by have:=qA1 (qk ds) d.depth;omega) q
 | tuple es =>
  cases hi
  have p2:qk ds+1≤64:=p2
  exact SeqAt.in_tuple_reads r2 r1 l2 l1 (by have:=qA1 (qk ds) d.depth;omega) q
 | _=>cases hi
theorem zym {K:qB} (hK:X.K=K) (hu:X.A.units+64<cLine):OpR X (compareOp .NotIn) (rInS K true):=by
 subst hK
 intro pins s σ H x y v u Q I rx ry h
 obtain ⟨d,c,ds,hd,hc,hi,sd,sc,q⟩:=h
 obtain ⟨as,r1⟩:=zgn I d hd rx
 obtain ⟨bs,r2⟩:=zgn I c hc ry
 obtain ⟨l1,p1⟩:=shp sd
 obtain ⟨l2,p2⟩:=shp sc
 have q:EP X pins σ Q (.bool (!(ds.any fun e=>qG e d))) s:=⟨.bl (!(ds.any fun e=>qG e d)),H,I,rfl,q⟩
 cases c with
 | list es =>
  cases hi
  have p2:qk ds+1≤64:=p2
  exact SeqAt.notIn_list_reads r2 r1 l2 l1 (by have:=qA1 (qk ds) d.depth;omega) q
 | tuple es =>
  cases hi
  have p2:qk ds+1≤64:=p2
  exact SeqAt.notIn_tuple_reads r2 r1 l2 l1 (by have:=qA1 (qk ds) d.depth;omega) q
 | _=>cases hi
end
noncomputable def inS (neg:Bool):OF:=fun d c=>match zgy c with
 | some ds=>if qI d=true∧qI c=true then some (.bool (if neg then !(ds.any fun e=>qG e d) else ds.any fun e=>qG e d),false) else none
 | none=>none
theorem zaoj {K:qB} {neg:Bool}:SO (rInS K neg) (inS neg):=by
 intro A H x y dx dy hA rx ry d fr e Q q
 unfold inS at e
 split at e
 ·rename_i ds hi
  split at e
  ·rename_i h
   cases e
   refine ⟨dx,dy,ds,zrv (qAU h.1) (Rp.same (Offs.same A H) _ rx),zrv (qAU h.2) (Rp.same (Offs.same A H) _ ry),hi,h.1,h.2,q _ H (Same.refl _) ?_ (fun z=>by cases z)⟩
   cases neg<;>exact zbb
  ·cases e
 ·cases e
end L2
namespace PySem
open Sem (wp)
open AutoSeq1 (wpAny_loadPart')
theorem zamm {prog:Program} {w:World} {A:Around} (hh:A.handled=none) (b:Bool) (it l:Addr) (hne:l≠it) (items:Array Value) :
  Draws prog w A it [it,l] items.size (fun i v=>items[i]?=some v) (fun i h=>SqIt b h it l i∧zgw b h l items) where
 live:=fun _ _ st=>let ⟨o,ho,_⟩:=st.1.obj;⟨o,ho⟩
 frame:=fun _ _ _ st hk=>⟨st.1.moved fun o e=>hk it (by simp) o e,st.2.moved fun o e=>hk l (by simp) o e⟩
 item:=fun i s Q E hi st hQ=>by
  refine zvx st.1 st.2 (x:=items[i]) (by simp [hi]) fun h' hit' hs'=>?_
  exact hQ _ h' s.toks (by simp [hi]) ⟨hit',st.2.moved fun o e=>hs'.extBut _ o hne e⟩ hs'
 done:=fun s Q E st hE=>zado hh st.1 st.2 (by simp) hE
theorem zqv (l:Addr) (items:Array Value) (n:Nat) (dct:Option Addr) (sl:Array (Option Value)) :
  Meets (Builtin.«enumerate.__new__» ⟨[.type "enumerate",.ref l],[]⟩) (fun _ R s=>s.heap.get? l=some {cls:=.type "tuple",dict:=dct,data:=.seq items n,slots:=sl} ∧
   R (.ok (.ret (.ref (s.heap.push (itO false l)).objs.size))) {s with heap:=(s.heap.push (itO false l)).push {cls:=.type "enumerate",data:=.fields #[.none,.bool false,.ref s.heap.objs.size,rawInt 0,.none,.none]}}) :=
 .of_wp fun prog w A R s h=>by
  obtain ⟨hp,g,d,tk,os⟩:=s;obtain ⟨hl,h⟩:=h
  have hsub:=sub_enumerate
  have e1:Heap.IsTuple (Shared.heap ⟨hp,g,d,tk,os⟩) l items:=⟨_,hl,rfl,n,rfl⟩
  wp_walk using qBO hl
  refine wpAny_stack_any fun st=>qd ?_
  split
  ·rename_i c _ _ _ _ _
   cases (c==Value.type "enumerate")
   ·wp_walk using qBO hl,qAo e1
    exact ⟨_,rfl,h⟩
   ·wp_walk using qBO hl,qAo e1
    exact ⟨_,rfl,h⟩
  ·wp_walk using qBO hl,qAo e1
   exact ⟨_,rfl,h⟩
theorem zyn {prog:Program} {w:World} {A:Around} {E:Value→Shared→Prop} {s:Shared} {b:Bool} {l:Addr} {items:Array Value} {Q:Value→Shared→Prop} (hL:zgw b s.heap l items)
  (h:∀ h',IsEnum h' (s.heap.objs.size+1) s.heap.objs.size 0 .none→SqIt b h' s.heap.objs.size l 0→(∀ c o,s.heap.get? c=some o→h'.get? c=some o)→Q (.ref (s.heap.objs.size+1)) {s with heap:=h'}) :
  wpAny (model prog w) A (call (.type "enumerate") [.ref l]) Q E s:=by
 cases b with
 | true=>exact call_enumerate_list hL fun h' e i _ k=>h h' e i k
 | false =>
  obtain ⟨⟨c,dct,dt,sl⟩,hl,hc,n,hd⟩:=hL
  replace hc:c=.type "tuple":=hc
  replace hd:dt=.seq items n:=hd
  subst hc hd
  refine callType_new F.called_enumerate (by decide) (F.typeCall_enumerate_1 _) (F.newCall_enumerate_1 _) (fun obj=>F.args_object_init_2 obj _) F.entry_enumerate_new (zqv l items n dct sl) ⟨hl,?_⟩
  have hz:(s.heap.push (itO false l)).objs.size=s.heap.objs.size+1:=qAw ..
  have he:=qq (s.heap.push (itO false l)) (o:={cls:=.type "enumerate",data:=.fields #[.none,.bool false,.ref s.heap.objs.size,rawInt 0,.none,.none]}) rfl
  show _∧_
  rw [hz] at he ⊢
  exact ⟨⟨_,he,rfl⟩,h _ he (zvy (b:=false) (qH _ (qq _ rfl))) fun c o x=>qH _ (qH _ x)⟩
end PySem
namespace L2
open PySem PySem.Spec PyProof.Rows
noncomputable def Itx (K:qB) (b:Bool) (a:Addr):It :=
 ⟨fun i H=>∃ xs x,SqX b K H a xs∧xs[i]?=some x,fun i H x H'=>∃ p y,x=.ref p∧H p=none∧H'=upd H p (.tup [.int i,y])∧∀ xs,SqX b K H a xs→xs[i]?=some y,fun i H=>∃ xs,SqX b K H a xs∧xs.length≤i⟩
theorem zaff {P:Program} {w:World} {K:qB} {elts:List Expr} {x1} {tpos:Pos} {b:Bool} (a e it:Addr) (hne:e≠it) (hea:e≠a) (hai:a≠it) :
  Turn P w K (.Tuple elts x1 tpos) (Itx K b a) [e,it] e (fun i h=>SqIt b h it a i∧∃ old,IsEnum h e it (i:Int) old) where
 mem:=by simp
 obj:=fun i h st c hc=>by
  obtain ⟨h1,old,h4⟩:=st
  rcases qe.mp hc with rfl|hc
  ·exact ⟨_,h4,fun v z=>by simp at z⟩
  ·have q:c=it:=by simpa using hc
   subst q
   exact h1.obj
 keep:=fun i h h' st k=>⟨st.1.moved fun o q=>k it (by simp) o q,let ⟨old,q⟩:=st.2;⟨old,k e (by simp) _ q⟩⟩
 item:=by
  intro X hP hw hK hc i pins s σ H E I hf st hg
  subst hP hw hK
  obtain ⟨xs,x,hq,hx⟩:=hg
  obtain ⟨its,rv,p,hz⟩:=I.sq hq
  obtain ⟨u,hu,ru⟩:=rv.get hx
  obtain ⟨hit,old,he⟩:=st
  have fe:=hf e (by simp)
  have fi:=hf it (by simp)
  have hlt:i<its.toArray.size:=by
   obtain ⟨hh,_⟩:=qN.mp hu
   simpa using hh
  refine wpAny_pyNext_enum_itemD (zamm (by exact I.ok.hd hc) b it a hai its.toArray) he ⟨hit,p⟩ hlt hne (by simp [hne,hea]) fun u' h1 tk pu e1 i1 t1 z1 k1=>?_
  have hu':u'=u:=by
   have pu:its.toArray[i]?=some u':=pu
   rw [List.getElem?_toArray,hu] at pu
   exact (qr pu).symm
  subst hu'
  refine ⟨_,rfl,wpAny_letOwnedTupleGo_enum (s:={s with heap:=h1,toks:=tk+1}) e1 fun h2 e2 sb2=>?_⟩
  have hp:H s.heap.objs.size=none:=I.hok.fresh (qO _)
  have hes:e≠s.heap.objs.size:=qx (qU he)
  have k2:∀ c o,c≠e→c≠it→s.heap.get? c=some o→h2.get? c=some o:=fun c o q1 q2 q=>(sb2.2 c q1).trans (k1 c o q1 q2 q)
  have t2:h2.get? s.heap.objs.size=some {cls:=.type "tuple",data:=.seq #[.int i tk,u']}:=(sb2.2 _ (qA2 hes)).trans t1
  have nch:∀ c,c∉[e,it]→c≠e∧c≠it:=fun c hb=>⟨fun z=>hb (by simp [z]),fun z=>hb (by simp [z])⟩
  refine ⟨.ref s.heap.objs.size,upd H s.heap.objs.size (.tup [.int i,x]),?_,rfl,⟨_,x,rfl,hp,rfl,fun ys hy=>by rw [I.sq_inj hy hq];exact hx⟩,⟨?_,u',e2⟩,fun c hb=>?_⟩
  ·refine Inv.step (s:=s) (h':=h2) (g':=s.gens) (d':=s.drawn) (t':=tk+1) (ch:=[e,it]) I (fun c hb=>?_) (fun c o _ _ hc q _=>k2 c o (nch c hc).1 (nch c hc).2 q) (fun c o _ _ hc q _=>⟨o.slots,k2 c o (nch c hc).1 (nch c hc).2 q⟩)
    (fun c o _ q n=>by rw [zcj (qx (qU q))];exact n) (fun c o hc q=>⟨o,k2 c o (nch c hc).1 (nch c hc).2 q⟩)
    (fun c xs q=>by rw [zcj (zcg q hp)];exact q) (fun c o v q=>by rw [zcj (zcg q hp)];exact q) (fun c ps q=>⟨#[],by rw [zcj (zcg q hp),q];simp⟩) (fun m hm=>?_) (fun c v q=>?_) I.bare
   ·rcases qe.mp hb with rfl|hb
    ·exact ⟨fe.2.2.2.1,fe.2.1,fe.2.2.2.2.1,fe.2.2.2.2.2⟩
    ·have z:c=it:=by simpa using hb
     subst z
     exact ⟨fi.2.2.2.1,fi.2.1,fi.2.2.2.2.1,fi.2.2.2.2.2⟩
   ·obtain ⟨o,es,ep,ho,r⟩:=hm
    exact ⟨o,es,ep,k2 _ o (qA2 fe.2.1) (qA2 fi.2.1) ho,r⟩
   ·by_cases hb:c=s.heap.objs.size
    ·subst hb
     rw [zbp] at q
     cases q
     exact ⟨by show 2≤qj;decide,[.int i tk,u'],.cons ⟨_,rfl⟩ (.cons ru .nil),_,t2,rfl,_,rfl⟩
    ·rw [zcj hb] at q
     have nt:∀ c w',H c=some w'→c≠e∧c≠it:=fun c w' z=>⟨(fun y=>by rw [y,fe.1] at z;cases z),(fun y=>by rw [y,fi.1] at z;cases z)⟩
     refine (I.hok c v q).stay (fun c w' hc r=>?_) (fun c r=>by rw [zcj (zcg r hp)];exact r) fun c ys r=>by rw [zcj (zcg r hp)];exact r
     rcases hc with rfl|hc
     ·exact k2 c w' (nt c v q).1 (nt c v q).2 r
     ·exact k2 c w' (nt c _ hc).1 (nt c _ hc).2 r
  ·exact i1.1.moved fun o q=>(sb2.2 _ (qA2 hne)).trans q
  ·rcases qe.mp hb with rfl|hb
   ·rw [zcj hes];exact fe.1
   ·have z:c=it:=by simpa using hb
    subst z
    obtain ⟨o,q1,_⟩:=hit.obj
    rw [zcj (qx (qU q1))]
    exact fi.1
 done:=by
  intro X hP hw hK hc i pins s σ H E I hf st hg
  subst hP hw hK
  obtain ⟨xs,hq,hx⟩:=hg
  obtain ⟨its,rv,p,hz⟩:=I.sq hq
  obtain ⟨hit,old,he⟩:=st
  obtain ⟨f0,f1,f2,f3,f4,f5⟩:=hf it (by simp)
  have hl:=rv.length
  have hT:s.TypeIs (.ref e) "enumerate":=⟨_,he,rfl⟩
  unfold pyNext
  refine qF (wpAny_attempt (qAr (name:=Str.ofString "__next__") hT F.slot_enumerate_next (qBF F.slot_enumerate_next hT F.entry_enumerate_next ?_ (F.args_enumerate_next_1 _))))
  show wpAny _ _ (field (.ref e) 2 >>= _) _ _ _
  refine qF (qAt he rfl (x:=.ref it) rfl ?_)
  refine qF (zado (by exact I.ok.hd hc) hit p (by simp;omega) fun h' x he' hx'=>?_)
  obtain ⟨o,ho,hcl⟩:=hx'
  refine qF (wpAny_isInstance (T:="StopIteration") (b:=true) ⟨o,ho,hcl⟩ isSubtype_stop (qd ⟨rfl,?_⟩))
  exact I.turned (t':=s.toks) (fun c o hb q=>he' c o hb q) f0 f1 f3 f4 f5
 self:=fun _ _ _ _ _ st h=>let ⟨_,q⟩:=st.2;wpAny_pyIter_enum q h
noncomputable def iEnumX (K:qB) (ta:TA):TI:=fun σ H R=>ta σ H fun vs H1=>∃ b a,vs=[.ref a]∧(∃ xs,SqX b K H1 a xs)∧R (Itx K b a) H1
theorem zamn {X:Cx} {K:qB} (hK:X.K=K) {a:Expr} {ta:TA} {p pos:Pos} {elts:List Expr} {x1} {tpos:Pos} (hg:Gl X "enumerate") (hm:X.mg "enumerate" = none) (ha:PA X [a] ta) (hs:starEach [a] X.env=[(false,eval a X.env)]:=by rfl) :
  PI X (.Tuple elts x1 tpos) (.Call (.Name "enumerate" p) [a] [] pos) (iEnumX K ta):=by
 subst hK
 intro pins s σ H R I h
 refine Call_ (zub I hg hm boot_enumerate (qBL (thn (ha pos pins s σ H _ I h) fun us s1 ⟨vs,H1,I1,r1,q1⟩=>?_) hs rfl))
 obtain ⟨b,l,rfl,⟨xs,hq⟩,q⟩:=q1
 obtain ⟨u,rfl,ru⟩:=zaes r1
 cases ru
 obtain ⟨its,rv,pl,hz⟩:=I1.sq hq
 have lt:=zgw.there pl
 refine zyn pl fun h' he hit hk=>wpAny_pyIter_enum he ?_
 have I2:Inv X pins σ H1 {s1 with heap:=h'}:=I1.kept (t':=s1.toks) hk
 refine ⟨s1.heap.objs.size+1,[s1.heap.objs.size+1,s1.heap.objs.size],_,_,H1,rfl,I2,zaff l _ _ (Nat.succ_ne_self _) (qBp (Nat.lt_succ_of_lt lt)) (qx lt),⟨hit,_,he⟩,fun c hb=>?_,q⟩
 rcases qe.mp hb with rfl|hb
 ·exact I1.fpOk (Nat.le_succ _) (I1.hok.fresh (Nat.le_succ _))
 ·have e:c=s1.heap.objs.size:=by simpa using hb
  subst e
  exact I1.fpOk (qO _) (I1.hok.fresh (qO _))
noncomputable def zpy (f:AF):IF':=fun env=>(f env).bind fun rs=>match rs with
 | [r]=>(zgy r.d).map fun ds=>(zpd ds,r.bs)
 | _=>none
theorem zvz {K:qB} {ta:TA} {f:AF} (h1:SA ta f):SI (iEnumX K ta) (zpy f):=by
 intro fx H0 env σ H h ds bs e R q
 unfold zpy at e
 obtain ⟨rs,er,e⟩:=qA.mp e
 split at e
 ·rename_i r
  obtain ⟨d1,ed1,e⟩:=qJ.mp e
  cases e
  refine h1 fx H0 env σ H h _ er _ fun vs H1 s hv=>?_
  cases hv with
  | cons hv t =>
   cases t
   obtain ⟨b,a,xs,rfl,r1,e1⟩:=zaiq (K:=K) (Rp.same (Offs.sub (zhr (bs:=r.bs))) _ hv.rp) ed1
   refine ⟨b,a,rfl,⟨xs,e1 _ H1 (Same.refl _)⟩,q _ H1 s ?_⟩
   intro A H' hA ss
   have q1:=e1 A H' ss
   have r1':=Rps.same ss _ r1
   have hl:(zpd d1).length=d1.length:=by unfold zpd;simp
   refine ⟨fun i d e=>?_,⟨xs,q1,by rw [hl,r1.length];exact qO _⟩⟩
   unfold zpd at e
   rw [qR,qCw] at e
   cases e0:d1[i]? with
   | none=>rw [e0] at e;cases e
   | some d0 =>
    rw [e0] at e
    obtain ⟨v,hv,rv⟩:=r1'.get2 e0
    have e:PyData.tuple [.int ((0+i:Nat):Int),d0]=d:=qr e
    rw [qB8] at e
    subst e
    refine ⟨⟨xs,v,q1,hv⟩,fun x H'' y=>?_⟩
    obtain ⟨p,y',rfl,hp,rfl,y⟩:=y
    have:=y xs q1
    rw [hv] at this
    cases this
    exact ⟨Same.new hp,zpb hp (zga hA hp) (zdi zag (zdi rv zed))⟩
 ·cases e
theorem zsm {K:qB} {ta:TA} {f:AF} (h1:SA ta f):SI (iEnumX K ta) (zpu f):=fun fx H0 env σ H h ds bs e R q =>
 zvz h1 fx H0 env σ H h ds bs (by
  unfold zpu at e
  unfold zpy
  obtain ⟨rs,er,e⟩:=qA.mp e
  rw [er]
  cases rs with
  | nil=>cases e
  | cons r t =>
   cases t with
   | nil =>
    obtain ⟨d,fr,b⟩:=r
    cases d<;>first|exact e|cases e
   | cons _ _=>cases e) R q
noncomputable def isStar:Expr→Bool
 | .Starred ..=>true
 | _=>false
theorem zaf {e:Expr} {es:List Expr} {env:Env} (h:isStar e=false):starEach (e::es) env=(false,eval e env)::starEach es env:=by
 cases e<;>first
  | rfl
  | cases h
theorem zamo {X:Cx} {e:Expr} {es:List Expr} {te:TE} {t:TA} (ha:PE X e te) (hr:PA X es t) (hs:isStar e=false:=by rfl):PA X (e::es) (tCons te t):=zrk ha hr (zaf hs)
end L2
namespace PySem.SeqAt
open AutoSeq1 (wpAny_loadPart')
open MeetsSeq PyProof.Rows
section
variable {A:Around} {s:Shared}
theorem zmv (l:Addr) (es:Array DictEntry) (n:Nat) (dd:Option Addr) (sl:Array (Option Value)) (b:Str) (u:Tok) :
  Meets (Builtin.«dict.__eq__» ⟨[.ref l,.str b u],[]⟩) (fun _ R s=>s.heap.get? l=some {cls:=.type "dict",dict:=dd,data:=.dict es n,slots:=sl}∧R (.ok (.ret .notImplemented)) s) :=
 .of_wp fun prog w A R s h=>by
  obtain ⟨hp,g,d,tk,os⟩:=s
  obtain ⟨hl,h⟩:=h
  have f1:=F.sub_str_dict
  wp_walk using qBO hl
  exact ⟨_,rfl,h⟩
theorem zmw (b:Str) (u:Tok) (l:Addr) (c:Value) (es:Array DictEntry) (n:Nat) (dd:Option Addr) (sl:Array (Option Value)) :
  Meets (Builtin.«str.__eq__» ⟨[.str b u,.ref l],[]⟩) (fun _ R s=>s.heap.get? l=some {cls:=c,dict:=dd,data:=.dict es n,slots:=sl}∧R (.ok (.ret .notImplemented)) s) :=
 .of_wp fun prog w A R s h=>by
  obtain ⟨hp,g,d,tk,os⟩:=s
  obtain ⟨hl,h⟩:=h
  wp_walk using qBO hl,wpAny_load hl
  exact ⟨_,rfl,h⟩
theorem rc_dict_str {l:Addr} {o:Obj} {es:Array DictEntry} {n:Nat} (b:Str) (u:Tok) (ho:s.heap.get? l=some o) (hc:o.cls=.type "dict") (hd:o.data=.dict es n) (hu:A.units<cLine):RcAt A s (.ref l) (.str b u) false:=fun prog w E Q h=>by
 obtain ⟨cls,dd,data,sl⟩:=o
 simp only at hc hd
 subst hc hd
 refine rc_eq_decline_or (k:=false) (Ta:="dict") (Tb:="str") ⟨_,ho,rfl⟩ (qBm s b u) (by decide) F.sub_str_dict F.slot_dict_eq F.slot_str_eq_refl (fun _ hq=>?_) (fun _ hq=>?_) (fun _ hq=>wpAny_of_eq (rfl:isSame (.ref l) (.str b u)=pure false) hq) (.inr hu) h
 ·exact qBC F.slot_dict_eq ⟨_,ho,rfl⟩ F.entry_dict_eq (F.args_dict_eq_2 _ _) (zmv l es n dd sl b u) ⟨ho,hq⟩
 ·exact qBC F.slot_str_eq_refl (qBm s b u) F.entry_str_eq (F.args_str_eq_2 _ _) (zmw b u l (.type "dict") es n dd sl) ⟨ho,hq⟩
theorem rc_str_dict {l:Addr} {o:Obj} {es:Array DictEntry} {n:Nat} (b:Str) (u:Tok) (ho:s.heap.get? l=some o) (hc:o.cls=.type "dict") (hd:o.data=.dict es n) (hu:A.units<cLine):RcAt A s (.str b u) (.ref l) false:=fun prog w E Q h=>by
 obtain ⟨cls,dd,data,sl⟩:=o
 simp only at hc hd
 subst hc hd
 refine rc_eq_decline_or (k:=false) (Ta:="str") (Tb:="dict") (qBm s b u) ⟨_,ho,rfl⟩ (by decide) F.sub_dict_str F.slot_str_eq F.slot_dict_eq_refl (fun _ hq=>?_) (fun _ hq=>?_) (fun _ hq=>wpAny_of_eq (rfl:isSame (.str b u) (.ref l)=pure false) hq) (.inr hu) h
 ·exact qBC F.slot_str_eq (qBm s b u) F.entry_str_eq (F.args_str_eq_2 _ _) (zmw b u l (.type "dict") es n dd sl) ⟨ho,hq⟩
 ·exact qBC F.slot_dict_eq_refl ⟨_,ho,rfl⟩ F.entry_dict_eq (F.args_dict_eq_2 _ _) (zmv l es n dd sl b u) ⟨ho,hq⟩
end
end PySem.SeqAt
namespace L2
open PySem PySem.Spec PyProof.Rows
noncomputable def zair:PyData→Bool|.str _=>true|_=>false
noncomputable def Odd (K:qB) (H:Hp) (v:V):Prop:=znd v=true∨∃ a,v=.ref a∧((∃ xs,SqL K H a xs)∨(∃ xs,SqT K H a xs)∨∃ ps,H a=some (.dK ps))
theorem zaok {K:qB} {H:Hp} {d:PyData} {v:V} (h:Rp H d v):Odd K H v:=by
 cases d with
 | none=>rw [zvm h];exact .inl rfl
 | bool b=>rw [zjl h];exact .inl rfl
 | int i=>rw [zey h];exact .inl rfl
 | str x=>rw [zkp h];exact .inl rfl
 | list ds=>obtain ⟨a,xs,rfl,ha,_⟩:=zfe h;exact .inr ⟨a,rfl,.inl ⟨xs,SqL.of ha⟩⟩
 | tuple ds=>obtain ⟨a,xs,rfl,ha,_⟩:=zec h;exact .inr ⟨a,rfl,.inr (.inl ⟨xs,SqT.of ha⟩)⟩
 | dict ds=>obtain ⟨a,xs,rfl,ha,_⟩:=zjk h;exact .inr ⟨a,rfl,.inr (.inr ⟨xs,ha⟩)⟩
section
variable {X:Cx}
theorem zais {pins:List (Addr×Obj)} {s:Shared} {σ:St} {H:Hp} (I:Inv X pins σ H s) {a:Addr} {ps:List (Key×V)} (h:H a=some (.dK ps)):∃ o es n,s.heap.get? a=some o∧o.cls=.type "dict" ∧ o.data=.dict es n:=by
 obtain ⟨_,_,vs,_,p⟩:=(show zgu X.prog X.w H s.heap a (.dK ps) from I.hok a _ h)
 obtain ⟨o,es,ep,h1,h2,h3,_⟩:=p
 exact ⟨o,es,ep,h1,h2.1,h3⟩
noncomputable def rEqT (K:qB) (neg:Bool):R2:=fun x y H Q=>(∃ z,x=.str z∧Odd K H y∨y=.str z∧Odd K H x)∧Q (.bl (if neg then !eqV x y else eqV x y)) H
theorem zamp {K:qB} {x y:V} {H:Hp} {Q:VK} (fx:znd x=true) (fy:znd y=true) (z:Str) (hz:x=.str z∨y=.str z):scal x y=true∧decide (x=y)=eqV x y:=by
 rcases hz with rfl|rfl
 ·cases y<;>first|exact ⟨rfl,zrj⟩|exact ⟨rfl,rfl⟩|exact ⟨rfl,by simp [eqV]⟩|exact absurd (show false=true from fy) qK
 ·cases x<;>first|exact ⟨rfl,zrj⟩|exact ⟨rfl,rfl⟩|exact ⟨rfl,by simp [eqV]⟩|exact absurd (show false=true from fx) qK
theorem zaol {K:qB} (hK:X.K=K) (hu:X.A.units+64<cLine):OpR X (compareOp .Eq) (rEqT K false):=by
 subst hK
 intro pins s σ H x y v u Q I rx ry h
 obtain ⟨⟨z,h⟩,q⟩:=h
 have hu0:X.A.units<cLine:=by omega
 have q':EP X pins σ Q (.bool (eqV x y)) s:=⟨.bl _,H,I,rfl,q⟩
 have flat:znd x=true→znd y=true→(x=.str z∨y=.str z)→wpAny (model X.prog X.w) X.A (compareOp .Eq v u) (EP X pins σ Q) X.xe s:=fun fx fy hz=>by
  obtain ⟨h1,h2⟩:=zamp (K:=X.K) (H:=H) (Q:=Q) fx fy z hz
  exact zasg pins s σ H x y v u Q I rx ry ⟨h1,by rw [h2];exact q⟩
 rcases h with ⟨rfl,o⟩|⟨rfl,o⟩
 ·rcases id o with fy|⟨a,rfl,oa⟩
  ·exact flat rfl fy (.inl rfl)
  ·cases ry
   obtain ⟨t,rfl⟩:=rx
   rcases oa with ⟨xs,h⟩|⟨xs,h⟩|⟨ps,h⟩
   ·obtain ⟨its,rv,p,hz⟩:=I.list h
    exact SeqAt.RcAt.str_list z t p.isList hu0 _ _ _ _ q'
   ·obtain ⟨its,rv,p,hz⟩:=I.tuple h
    exact SeqAt.RcAt.str_tuple z t p hu0 _ _ _ _ q'
   ·obtain ⟨ob,es,n,h1,h2,h3⟩:=zais I h
    exact SeqAt.rc_str_dict z t h1 h2 h3 hu0 _ _ _ _ q'
 ·rcases id o with fy|⟨a,rfl,oa⟩
  ·exact flat fy rfl (.inr rfl)
  ·cases rx
   obtain ⟨t,rfl⟩:=ry
   rcases oa with ⟨xs,h⟩|⟨xs,h⟩|⟨ps,h⟩
   ·obtain ⟨its,rv,p,hz⟩:=I.list h
    exact SeqAt.RcAt.list_str z t p.isList hu0 _ _ _ _ q'
   ·obtain ⟨its,rv,p,hz⟩:=I.tuple h
    exact SeqAt.RcAt.tuple_str z t p hu0 _ _ _ _ q'
   ·obtain ⟨ob,es,n,h1,h2,h3⟩:=zais I h
    exact SeqAt.rc_dict_str z t h1 h2 h3 hu0 _ _ _ _ q'
end
theorem zadq {d:PyData} (h:zair d=true):∃ z,d=.str z:=by
 cases d<;>first
  | exact ⟨_,rfl⟩
  | exact absurd (show false=true from h) qK
theorem zait {H:Hp} {d:PyData} {v:V} (h:Rp H d v) (z:Str):eqV v (.str z)=qG d (.str z)∧eqV (.str z) v=qG (.str z) d:=by
 cases d with
 | none=>rw [zvm h];exact ⟨by simp [eqV,qG],by simp [eqV,qG]⟩
 | bool b=>rw [zjl h];exact ⟨by simp [eqV,qG],by simp [eqV,qG]⟩
 | int i=>rw [zey h];exact ⟨by simp [eqV,qG],by simp [eqV,qG]⟩
 | str x=>rw [zkp h];exact ⟨by simp [eqV,qG],by simp [eqV,qG]⟩
 | list ds=>obtain ⟨a,xs,rfl,ha,_⟩:=zfe h;exact ⟨by simp [eqV,qG],by simp [eqV,qG]⟩
 | tuple ds=>obtain ⟨a,xs,rfl,ha,_⟩:=zec h;exact ⟨by simp [eqV,qG],by simp [eqV,qG]⟩
 | dict ds=>obtain ⟨a,xs,rfl,ha,_⟩:=zjk h;exact ⟨by simp [eqV,qG],by simp [eqV,qG]⟩
noncomputable def eqTD (neg:Bool):OF:=fun dx dy=>if zair dx=true∨zair dy=true then some (.bool (if neg then !PyData.eqv dx dy else qG dx dy),false) else none
theorem zaom {K:qB} {neg:Bool}:SO (rEqT K neg) (eqTD neg):=by
 intro A H x y dx dy hA rx ry d fr e Q q
 unfold eqTD at e
 split at e
 ·rename_i h
  cases e
  have rx:=Rp.same (Offs.same A H) _ rx
  have ry:=Rp.same (Offs.same A H) _ ry
  have fin:∀ b:Bool,eqV x y=b→b=qG dx dy→Q (.bl (if neg then !eqV x y else eqV x y)) H:=fun b h1 h2=>by
   rw [h1,h2]
   refine q _ H (Same.refl _) ?_ (fun z=>by cases z)
   cases neg<;>exact zbb
  rcases h with h|h
  ·obtain ⟨z,rfl⟩:=zadq h
   have:=zkp rx
   subst this
   exact ⟨⟨z,.inl ⟨rfl,zaok ry⟩⟩,fin _ (zait ry z).2 rfl⟩
  ·obtain ⟨z,rfl⟩:=zadq h
   have:=zkp ry
   subst this
   exact ⟨⟨z,.inr ⟨rfl,zaok rx⟩⟩,fin _ (zait rx z).1 rfl⟩
 ·cases e
structure Bx (p:Prop):Prop where
 out:p
theorem Bx.pt {X:Cx} {e:Expr} {t:TT} (h:Bx (PW X e t)):Bx (PT X e t):=⟨h.out.pt⟩
theorem zam:∀ {X:L2.Cx} {i:Int} {j:Nat} {pos:qi},L2.Bx (L2.PE X (qL.Constant (PySem.Const.int i) j pos) (L2.tC (L2.V.int i))):=by
 intro X i j pos
 exact ⟨@zjd X i j pos⟩
theorem zah:∀ {X:L2.Cx},L2.Bx (L2.PA X [] L2.tNil):=by
 intro X
 exact ⟨@zud X⟩
theorem zaa:∀ {X:L2.Cx} {e:qL} {es:List qL} {te:L2.TE} {t:L2.TA},L2.Bx (L2.PE X e te)→L2.Bx (L2.PA X es t)→L2.isStar e=Bool.false→L2.Bx (L2.PA X (e::es) (L2.tCons te t)):=by
 intro X e es te t ha hr hs
 exact ⟨@zamo X e es te t ha.out hr.out hs⟩
theorem zbj:∀ {X:L2.Cx} {a b:qL} {ta tb:L2.TE} {pos:qi} {op:PySem.Operator} {r:L2.R2},L2.OpR X (PySem.binaryOp op) r→L2.Bx (L2.PE X a ta)→L2.Bx (L2.PE X b tb)→L2.Bx (L2.PE X (a.BinOp op b pos) (L2.tOp r ta tb)):=by
 intro X a b ta tb pos op r ho ha hb
 exact ⟨@zmr X a b ta tb pos op r ho ha.out hb.out⟩
theorem zak:∀ {X:L2.Cx} {st:PySem.Stmt} {t:L2.TS},L2.Bx (L2.PS X st t)→L2.Bx (L2.PSs X [st] t):=by
 intro X st t h1
 exact ⟨@zou X st t h1.out⟩
theorem zai:∀ {X:L2.Cx} {st:PySem.Stmt} {rest:List PySem.Stmt} {t u:L2.TS},L2.Bx (L2.PS X st t)→L2.Bx (L2.PSs X rest u)→L2.Bx (L2.PSs X (st::rest) (L2.tSeq t u)):=by
 intro X st rest t u h1 h2
 exact ⟨@znv X st rest t u h1.out h2.out⟩
theorem zbo:∀ {X:L2.Cx} {x:PySem.Str} {p pos:qi} {e:qL} {es:List qL} {t:L2.TA} {ps:List PySem.Str} {k:Nat} {sp:L2.Sp},L2.Dn X.prog X.w X.K X.mg X.base x ps k sp→L2.Room k X.A→L2.Gl X x→L2.Bx (L2.PA X (e::es) t)→(x==qy "__debug__")=Bool.false→qAH (e::es) X.env=(Bool.false,PySem.eval e X.env)::qAH es X.env→((PySem.backTo pos (qAH es X.env)).any fun (x:Bool×PySem.Sem PySem.Value)=>x.fst)=Bool.false→L2.Bx (L2.PE X ((qL.Name x p).Call (e::es) [] pos) (L2.tCall sp [] L2.E0 t)):=by
 intro X x p pos e es t ps k sp D hr hg ha hdb he hpl
 exact ⟨@zaux X x p pos e es t ps k sp D hr hg ha.out hdb he hpl⟩
theorem zbd:∀ {X:L2.Cx} {e:qL} {te:L2.TE} {pos:qi},L2.Bx (L2.PE X e te)→L2.Bx (L2.PS X (PySem.Stmt.Return (Option.some e) pos) (L2.tRet te)):=by
 intro X e te pos he
 exact ⟨@zant X e te pos he.out⟩
theorem zbi:∀ {X:L2.Cx} {pos:qi} {i:Nat} {x:PySem.Str} {e:qL} {te:L2.TE} {pos':qi},X.N.Nodup→X.N[i]?=Option.some x→L2.Loc X.env.scope x→L2.Bx (L2.PE X e te)→PySem.swapsWith e (Option.some (qL.Name x pos')) pos.line X.env=Pure.pure Bool.false→X.fn x=Bool.true∨List.lookup x X.env.scope.names=Option.some PySem.NameKind.local→L2.Bx (L2.PS X (PySem.Stmt.Assign [qL.Name x pos'] e pos) (L2.tAsg te (L2.gName i))):=by
 intro X pos i x e te pos' hN hi hx he hs hf
 exact ⟨@zacm X pos i x e te pos' hN hi hx he.out hs hf⟩
theorem zaz:∀ {X:L2.Cx} {x:PySem.Str} {p pos:qi} {e:qL} {es:List qL} {t:L2.TA} {id:String} {r:List L2.V→L2.Hp→L2.VK→Prop},L2.CallR X (PySem.Value.builtin id) r→L2.Gl X x→X.mg x=Option.none→PySem.bootBuiltins x=Option.some (PySem.Value.builtin id)→L2.Bx (L2.PA X (e::es) t)→x≠qy "__name__" → (x==qy "__debug__")=Bool.false→qAH (e::es) X.env=(Bool.false,PySem.eval e X.env)::qAH es X.env→((PySem.backTo pos (qAH es X.env)).any fun (x:Bool×PySem.Sem PySem.Value)=>x.fst)=Bool.false→L2.Bx (L2.PE X ((qL.Name x p).Call (e::es) [] pos) (L2.tCB r t)):=by
 intro X x p pos e es t id r hc hg hm hv ha hn hdb he hpl
 exact ⟨@zaco X x p pos e es t id r hc hg hm hv ha.out hn hdb he hpl⟩
theorem zhy:∀ {X:L2.Cx} {b:Bool} {j:Nat} {pos:qi},L2.Bx (L2.PE X (qL.Constant (PySem.Const.bool b) j pos) (L2.tC (L2.V.bl b))):=by
 intro X b j pos
 exact ⟨@zauo X b j pos⟩
theorem zbn:∀ {X:L2.Cx} {a b:qL} {ta tb:L2.TE} {pos:qi} {r:L2.R2},L2.IxR X r→L2.Bx (L2.PE X a ta)→L2.Bx (L2.PE X b tb)→L2.PlainIx b→L2.Bx (L2.PE X (a.Subscript b pos) (L2.tOp r ta tb)):=by
 intro X a b ta tb pos r hr ha hb hs
 exact ⟨@zasm X a b ta tb pos r hr ha.out hb.out hs⟩
theorem zcs:∀ {X:L2.Cx} {t u:L2.TS} {pos:qi} {c:qL} {a b:List PySem.Stmt} {tc:L2.TT},L2.Bx (L2.PT X c tc)→L2.Bx (L2.PSs X a t)→L2.Bx (L2.PSs X b u)→L2.Bx (L2.PS X (PySem.Stmt.If c a b pos) (L2.tIfS tc t u)):=by
 intro X t u pos c a b tc hc ha hb
 exact ⟨@zarz X t u pos c a b tc hc.out ha.out hb.out⟩
theorem zbs:∀ {X:L2.Cx},L2.Bx (L2.PSs X [] L2.tNext):=by
 intro X
 exact ⟨@zaov X⟩
theorem zgr:∀ {X:L2.Cx} {a:qL} {pos:qi} {tA:L2.TT},L2.Bx (L2.PT X a tA)→L2.Bx (L2.PT X (qL.UnaryOp PySem.UnaryOp.Not a pos) (L2.tNot tA)):=by
 intro X a pos tA ha
 exact ⟨@zarv X a pos tA ha.out⟩
theorem zcb:∀ {X:L2.Cx} {K:qB},
 X.K=K →
  ∀ {a:qL} {ta:L2.TE},
   L2.Bx (L2.PE X a ta) →
    (∀ (whole:PySem.Sem PySem.Value),
      PySem.isTrue a X.env whole=do
       let v ← whole
       PySem.standAt a.pos
       PySem.holding [v] (PySem.truthy v)) →
     L2.Bx (L2.PT X a fun (σ:L2.St) (H:L2.Hp) (Q:Bool→L2.Hp→Prop)=>ta σ H fun (x:L2.V) (H':L2.Hp)=>∃ (k:Bool),L2.TruV K x H' k∧Q k H'):=by
 intro X K hK a ta ha he
 exact ⟨@zahq X K hK a ta ha.out he⟩
theorem zar:∀ {X:L2.Cx} {pos:qi} {i:Nat} {x:PySem.Str},X.N.Nodup→X.N[i]?=Option.some x→L2.Loc X.env.scope x→X.fn x=Bool.true∨List.lookup x X.env.scope.names=Option.some PySem.NameKind.local→L2.Bx (L2.PG X (qL.Name x pos) (L2.gName i)):=by
 intro X pos i x hN hi hx hf
 exact ⟨@zaam X pos i x hN hi hx hf⟩
theorem zfv:∀ {X:L2.Cx} {es:List qL} {t:L2.TA} {pos:qi},L2.Bx (L2.PA X es t)→L2.Bx (L2.PE X (qL.List es pos) (L2.tLst t)):=by
 intro X es t pos h
 exact ⟨@zanv X es t pos h.out⟩
theorem zev:∀ {X:L2.Cx} {tg iter:qL} {body:List PySem.Stmt} {wi:L2.TI} {g:L2.TG} {tb:L2.TS} {pos:qi},PySem.PassesOwn (PySem.model X.prog X.w) X.A X.env X.xe→X.calm=Bool.true→L2.Bx (L2.PI X tg iter wi)→L2.Bx (L2.PG X tg g)→L2.Bx (L2.PSs X body tb)→(∀ (x:PySem.Value),PySem.foldedSetIterable iter X.env x=Pure.pure x)→L2.Bx (L2.PS X (PySem.Stmt.For tg iter body [] pos) (L2.tFor wi g tb)):=by
 intro X tg iter body wi g tb pos hp hc hi hg hb hs
 exact ⟨@zage X tg iter body wi g tb pos hp hc hi.out hg.out hb.out hs⟩
theorem zbm:∀ {X:L2.Cx} {a b:qL} {ta tb:L2.TE} {pos:qi} {op:PySem.CmpOp} {r:L2.R2},L2.OpR X (PySem.compareOp op) r→L2.Bx (L2.PE X a ta)→L2.Bx (L2.PE X b tb)→PySem.behindInMarks op b=Bool.false→L2.Bx (L2.PT X (a.Compare [op] [b] pos) (L2.tTest (L2.tOp r ta tb))):=by
 intro X a b ta tb pos op r ho ha hb hm
 exact ⟨@zagg X a b ta tb pos op r ho ha.out hb.out hm⟩
theorem zcl:∀ {X:L2.Cx} {x:PySem.Str} {j:Nat} {pos:qi},L2.Bx (L2.PE X (qL.Constant (PySem.Const.str x) j pos) (L2.tC (L2.V.str x))):=by
 intro X x j pos
 exact ⟨@zarp X x j pos⟩
theorem zdf:∀ {X:L2.Cx} {e:qL} {te:L2.TE} {pos:qi},L2.Bx (L2.PE X e te)→PySem.swapsWith e Option.none pos.line X.env=Pure.pure Bool.false→L2.Bx (L2.PS X (PySem.Stmt.Expr e pos) (L2.tDrop te)):=by
 intro X e te pos he hs
 exact ⟨@zaal X e te pos he.out hs⟩
theorem zcx:∀ {X:L2.Cx} {es:List qL} {t:L2.TA} {pos:qi} {x1:Nat},L2.Bx (L2.PA X es t)→L2.Bx (L2.PE X (qL.Tuple es x1 pos) (L2.tTup t)):=by
 intro X es t pos x1 h
 exact ⟨@zasj X es t pos x1 h.out⟩
theorem zlj:∀ {X:L2.Cx} {a:qL} {pos:qi} {op:PySem.BoolOp} {t:L2.TE},L2.Bx (L2.PE X a t)→L2.Bx (L2.PE X (qL.BoolOp op [a] pos) t):=by
 intro X a pos op t h
 exact ⟨@zarw X a pos op t h.out⟩
theorem zht:∀ {X:L2.Cx} {a b:qL} {ta tb:L2.TE} {pos:qi} {op:PySem.CmpOp} {r:L2.R2},L2.OpR X (PySem.compareOp op) r→L2.Bx (L2.PE X a ta)→L2.Bx (L2.PE X b tb)→PySem.behindInMarks op b=Bool.false→L2.Bx (L2.PE X (a.Compare [op] [b] pos) (L2.tOp r ta tb)):=by
 intro X a b ta tb pos op r ho ha hb hm
 exact ⟨@zapb X a b ta tb pos op r ho ha.out hb.out hm⟩
theorem zea:∀ {X:L2.Cx} {x:PySem.Str} {p pos:qi} {e:qL} {es:List qL} {t:L2.TA} {T:String} {r:List L2.V→L2.Hp→L2.VK→Prop},L2.CallR X (PySem.Value.type T) r→L2.Gl X x→X.mg x=Option.none→PySem.bootBuiltins x=Option.some (PySem.Value.type T)→L2.Bx (L2.PA X (e::es) t)→x≠qy "__name__" → (x==qy "__debug__")=Bool.false→qAH (e::es) X.env=(Bool.false,PySem.eval e X.env)::qAH es X.env→((PySem.backTo pos (qAH es X.env)).any fun (x:Bool×PySem.Sem PySem.Value)=>x.fst)=Bool.false→L2.Bx (L2.PE X ((qL.Name x p).Call (e::es) [] pos) (L2.tCB r t)):=by
 intro X x p pos e es t T r hc hg hm hv ha hn hdb he hpl
 exact ⟨@zagm X x p pos e es t T r hc hg hm hv ha.out hn hdb he hpl⟩
theorem zhu:∀ {X:L2.Cx} {x:PySem.Str} {v:L2.V} {u:PySem.Value} {pos:qi},L2.Gl X x→X.mg x=Option.none→PySem.bootBuiltins x=Option.some u→L2.RelV v u→x≠qy "__name__" → (x==qy "__debug__")=Bool.false→L2.Bx (L2.PE X (qL.Name x pos) (L2.tC v)):=by
 intro X x v u pos hg hm hv r hn hd
 exact ⟨@zaot X x v u pos hg hm hv r hn hd⟩
theorem zpg:∀ {X:L2.Cx} {a:qL} {pos:qi} {tA:L2.TT},L2.Bx (L2.PT X a tA)→L2.Bx (L2.PW X (qL.BoolOp PySem.BoolOp.Or [a] pos) tA):=by
 intro X a pos tA ha
 exact ⟨@zart X a pos tA ha.out⟩
theorem zsn:∀ {X:L2.Cx} {a b:qL} {pos:qi} {tA tB':L2.TT} {rest:List qL},L2.Bx (L2.PT X a tA)→L2.Bx (L2.PW X (qL.BoolOp PySem.BoolOp.Or (b::rest) pos) tB')→L2.Bx (L2.PW X (qL.BoolOp PySem.BoolOp.Or (a::b::rest) pos) (L2.tOr tA tB')):=by
 intro X a b pos tA tB' rest ha hb
 exact ⟨@zaup X a b pos tA tB' rest ha.out hb.out⟩
theorem zew:∀ {X:L2.Cx} {e:qL} {te:L2.TE},L2.Bx (L2.PE X e te)→L2.Bx (L2.PO X (Option.some e) (L2.tPart te)):=by
 intro X e te h
 exact ⟨@zago X e te h.out⟩
theorem zil:∀ {X:L2.Cx},L2.Bx (L2.PO X Option.none L2.tNoPart):=by
 intro X
 exact ⟨@zagn X⟩
theorem zfb:∀ {X:L2.Cx} {e:qL} {te:L2.TE} {lo hi:Option qL} {tl th:L2.TO} {pos p2:qi} {r:L2.V→Option Int→Option Int→L2.Hp→L2.VK→Prop},L2.SlR X r→L2.Bx (L2.PE X e te)→L2.Bx (L2.PO X lo tl)→L2.Bx (L2.PO X hi th)→L2.Bx (L2.PE X (e.Subscript (qL.Slice lo hi Option.none p2) pos) (L2.tSl r te tl th)):=by
 intro X e te lo hi tl th pos p2 r hr he hl hu
 exact ⟨@zacp X e te lo hi tl th pos p2 r hr he.out hl.out hu.out⟩
theorem zdb:∀ {X:L2.Cx} {scope:PySem.Scope} {N' own:List PySem.Str} {fr:List Nat} {elt target iter:qL} {ifs:List qL} {cpos:qi} {wi:L2.TI} {g:L2.TG} {tt:L2.TT} {te:L2.TE},L2.CompOk X scope N' own fr→X.calm=Bool.true→L2.Bx (L2.PI X target iter wi)→(∀ (cl:List (PySem.Str×PySem.Addr)) (C:PySem.Addr) (s:PySem.Shared) (H:L2.Hp) (fp:List PySem.Addr),L2.PG (L2.cxComp X scope N' own cl C s H fp) target g∧L2.PF (L2.cxComp X scope N' own cl C s H fp) ifs tt∧L2.PE (L2.cxComp X scope N' own cl C s H fp) elt te)→(∀ (x:PySem.Value),PySem.foldedSetIterable iter X.env x=Pure.pure x)→L2.Bx (L2.PE X (elt.ListComp [{target:=target,iter:=iter,ifs:=ifs,is_async:=0}] scope cpos) (L2.tComp1 wi g tt te own fr)):=by
 intro X scope N' own fr elt target iter ifs cpos wi g tt te c hc hi hb hs
 exact ⟨@zall X scope N' own fr elt target iter ifs cpos wi g tt te c hc hi.out hb hs⟩
theorem zex:∀ {X:L2.Cx} {K:qB},X.K=K→∀ {T:String} {name:PySem.Str} {id:String} {r:L2.V→List L2.V→L2.Hp→L2.VK→Prop} {o e:qL} {es:List qL} {to:L2.TE} {t:L2.TA} {apos cpos:qi},PySem.PlainAttrs T→PySem.Slot T name id→PySem.typeOf (PySem.Value.builtin id)=Pure.pure (PySem.Value.type "method_descriptor")→L2.MtR X id r→L2.Bx (L2.PE X o to)→L2.Bx (L2.PA X (e::es) t)→PySem.attributeBase o name X.env (PySem.eval o X.env)=PySem.eval o X.env→((((PySem.backTo cpos (qAH (e::es) X.env)).all fun (x:Bool×PySem.Sem PySem.Value)=>!x.fst)&&(PySem.backToKw cpos (PySem.keywordEach [] X.env)).all fun (x:Option PySem.Str×PySem.Sem PySem.Value)=>x.fst.isSome)&&Decidable.decide (((e::es).length+([]:List Keyword).length+if ([]:List Keyword).isEmpty=Bool.true then 0 else 1)<30))=Bool.true→(apos.endLine==cpos.line)=Bool.true→qAH (e::es) X.env=(Bool.false,PySem.eval e X.env)::qAH es X.env→((PySem.backTo cpos (qAH es X.env)).any fun (x:Bool×PySem.Sem PySem.Value)=>x.fst)=Bool.false→L2.Bx (L2.PE X ((o.Attribute name apos).Call (e::es) [] cpos) (L2.tBM K T r to t)):=by
 intro X K hK T name id r o e es to t apos cpos pa slot hty hm ho ha hbase hfew hline hs hplain
 exact ⟨@zahf X K hK T name id r o e es to t apos cpos pa slot hty hm ho.out ha.out hbase hfew hline hs hplain⟩
theorem zlk:∀ {X:L2.Cx} {a b:qL} {ta tb:L2.TE} {pos:qi} {rest:List qL},L2.Bx (L2.PE X a ta)→L2.Bx (L2.PE X (qL.BoolOp PySem.BoolOp.And (b::rest) pos) tb)→L2.Bx (L2.PE X (qL.BoolOp PySem.BoolOp.And (a::b::rest) pos) (L2.tAndV ta tb)):=by
 intro X a b ta tb pos rest ha hb
 exact ⟨@zarx X a b ta tb pos rest ha.out hb.out⟩
theorem zamq:∀ {X:L2.Cx} {pos:qi},L2.Bx (L2.PPs X pos [] [] []):=by
 intro X pos
 exact ⟨@zapp X pos⟩
theorem zaiu:∀ {X:L2.Cx} {pos:qi} {k v:qL} {ks:List (Option qL)} {vs:List qL} {tk tv:L2.TE} {trs:List (L2.TE×L2.TE)},L2.Bx (L2.PE X k tk)→L2.Bx (L2.PE X v tv)→L2.Bx (L2.PPs X pos ks vs trs)→L2.Bx (L2.PPs X pos (Option.some k::ks) (v::vs) ((tk,tv)::trs)):=by
 intro X pos k v ks vs tk tv trs hk hv hr
 exact ⟨@zalf X pos k v ks vs tk tv trs hk.out hv.out hr.out⟩
theorem zbx:∀ {X:L2.Cx} {K:qB},X.K=K→∀ {tg l:qL} {tl:L2.TE},L2.Bx (L2.PE X l tl)→L2.Bx (L2.PI X tg l (L2.iSeq K tl)):=by
 intro X K hK tg l tl hl
 exact ⟨@zaqb X K hK tg l tl hl.out⟩
theorem zph:∀ {X:L2.Cx} {tg a:qL} {ta:L2.TA} {p pos:qi},L2.Gl X (qy "range")→X.mg (qy "range")=Option.none→L2.Bx (L2.PA X [a] ta)→qAH [a] X.env=[(Bool.false,PySem.eval a X.env)]→L2.Bx (L2.PI X tg ((qL.Name (qy "range") p).Call [a] [] pos) (L2.iRng1 ta)):=by
 intro X tg a ta p pos hg hm ha hs
 exact ⟨@zxg X tg a ta p pos hg hm ha.out hs⟩
theorem zfg:∀ {X:L2.Cx},L2.Bx (L2.PF X [] L2.tAll):=by
 intro X
 exact ⟨@zasw X⟩
theorem zwa:∀ {X:L2.Cx} {j:Nat} {pos:qi},L2.Bx (L2.PE X (qL.Constant PySem.Const.none j pos) (L2.tC L2.V.non)):=by
 intro X j pos
 exact ⟨@zaro X j pos⟩
theorem zso:∀ {X:L2.Cx} {pos:qi},L2.Bx (L2.PE X (qL.Dict [] [] pos) L2.tDNewK):=by
 intro X pos
 exact ⟨@zale X pos⟩
theorem zamr:∀ {X:L2.Cx} {pos:qi} {keys:List (Option qL)} {values:List qL} {trs:List (L2.TE×L2.TE)},L2.Bx (L2.PPs X pos keys values trs)→(keys.all fun (x:Option qL)=>x.isSome)=Bool.true→keys.length=values.length→keys≠[]→keys.length≤15→L2.Bx (L2.PE X (qL.Dict keys values pos) (L2.tDisp trs)):=by
 intro X pos keys values trs h hall hl h0 h15
 exact ⟨@zapq X pos keys values trs h.out hall hl h0 h15⟩
theorem zll:∀ {X:L2.Cx} {c:qL} {t:L2.TT},L2.Bx (L2.PT X c t)→L2.Bx (L2.PF X [c] t):=by
 intro X c t h
 exact ⟨@zasx X c t h.out⟩
theorem zaiv:∀ {X:L2.Cx} {a:qL} {ta:L2.TE} {pos:qi},L2.Bx (L2.PE X a ta)→L2.Bx (L2.PE X (qL.UnaryOp PySem.UnaryOp.Not a pos) (L2.tNotV ta)):=by
 intro X a ta pos ha
 exact ⟨@zary X a ta pos ha.out⟩
theorem zmk:∀ {X:L2.Cx} {o i:qL} {pos:qi} {td ty:L2.TE},X.A.units+1<PySem.cLine→L2.Bx (L2.PE X o td)→L2.Bx (L2.PE X i ty)→L2.NoSl i→L2.Bx (L2.PE X (o.Subscript i pos) (L2.tDGet td ty)):=by
 intro X o i pos td ty hu ho hi hs
 exact ⟨@zapn X o i pos td ty hu ho.out hi.out hs⟩
theorem zaiw:∀ {X:L2.Cx} {a b c:qL} {ta tb tc:L2.TE} {pos:qi} {op op':PySem.CmpOp} {r r':L2.R2},L2.OpR X (PySem.compareOp op) r→L2.OpR X (PySem.compareOp op') r'→L2.Bx (L2.PE X a ta)→L2.Bx (L2.PE X b tb)→L2.Bx (L2.PE X c tc)→PySem.lastMarks [op,op'] [b,c]=Bool.false→L2.Bx (L2.PE X (a.Compare [op,op'] [b,c] pos) (L2.tChain r r' ta tb tc)):=by
 intro X a b c ta tb tc pos op op' r r' ho ho' ha hb hc hm
 exact ⟨@zaky X a b c ta tb tc pos op op' r r' ho ho' ha.out hb.out hc.out hm⟩
theorem zml:∀ {X:L2.Cx} {a:qL} {pos:qi} {tA:L2.TT},L2.Bx (L2.PT X a tA)→L2.Bx (L2.PW X (qL.BoolOp PySem.BoolOp.And [a] pos) tA):=by
 intro X a pos tA ha
 exact ⟨@zaou X a pos tA ha.out⟩
theorem zlm:∀ {X:L2.Cx} {a b:qL} {pos:qi} {tA tB':L2.TT} {rest:List qL},L2.Bx (L2.PT X a tA)→L2.Bx (L2.PW X (qL.BoolOp PySem.BoolOp.And (b::rest) pos) tB')→L2.Bx (L2.PW X (qL.BoolOp PySem.BoolOp.And (a::b::rest) pos) (L2.tAnd tA tB')):=by
 intro X a b pos tA tB' rest ha hb
 exact ⟨@zaru X a b pos tA tB' rest ha.out hb.out⟩
theorem zaix:∀ {X:L2.Cx} {a b c:qL} {ta tb tc:L2.TE} {pos:qi} {op op':PySem.CmpOp} {r r':L2.R2},L2.OpR X (PySem.compareOp op) r→L2.OpR X (PySem.compareOp op') r'→L2.Bx (L2.PE X a ta)→L2.Bx (L2.PE X b tb)→L2.Bx (L2.PE X c tc)→PySem.lastMarks [op,op'] [b,c]=Bool.false→L2.Bx (L2.PT X (a.Compare [op,op'] [b,c] pos) (L2.tTest (L2.tChain r r' ta tb tc))):=by
 intro X a b c ta tb tc pos op op' r r' ho ho' ha hb hc hm
 exact ⟨@zakz X a b c ta tb tc pos op op' r r' ho ho' ha.out hb.out hc.out hm⟩
theorem zyo:∀ {X:L2.Cx} {st:PySem.Stmt},L2.Bx (L2.PS X st L2.tNever):=by
 intro X st
 exact ⟨@zakv X st⟩
theorem zadr:∀ {X:L2.Cx} {o i value:qL} {pos pos':qi} {td ty tv:L2.TE},X.A.units+1<PySem.cLine→L2.Bx (L2.PE X o td)→L2.Bx (L2.PE X i ty)→L2.Bx (L2.PE X value tv)→PySem.swapsWith value (Option.some (o.Subscript i pos')) pos.line X.env=Pure.pure Bool.false→L2.Bx (L2.PS X (PySem.Stmt.Assign [o.Subscript i pos'] value pos) (L2.sDPut td ty tv)):=by
 intro X o i value pos pos' td ty tv hu ho hi hv hs
 exact ⟨@zapo X o i value pos pos' td ty tv hu ho.out hi.out hv.out hs⟩
theorem zjt:∀ {X:L2.Cx} {scope:PySem.Scope} {N' own:List PySem.Str} {fr:List Nat} {elt target iter:qL} {ifs:List qL} {cpos:qi} {wi:L2.TI} {g:L2.TG} {tt:L2.TT} {te:L2.TE} {spos py:qi} {i:Nat} {y:PySem.Str},L2.CompOk X scope N' own fr→X.calm=Bool.true→L2.Bx (L2.PI X target iter wi)→(∀ (cl:List (PySem.Str×PySem.Addr)) (C:PySem.Addr) (s:PySem.Shared) (H:L2.Hp) (fp:List PySem.Addr),L2.PG (L2.cxComp X scope N' own cl C s H fp) target g∧L2.PF (L2.cxComp X scope N' own cl C s H fp) ifs tt∧L2.PE (L2.cxComp X scope N' own cl C s H fp) elt te)→PySem.swapsWith (elt.ListComp [{target:=target,iter:=iter,ifs:=ifs,is_async:=0}] scope cpos) (Option.some (qL.Name y py)) spos.line X.env=Pure.pure Bool.true→X.N.Nodup→X.N[i]?=Option.some y→List.lookup y X.env.scope.names=Option.some PySem.NameKind.local→(∀ (x:PySem.Value),PySem.foldedSetIterable iter X.env x=Pure.pure x)→L2.Bx (L2.PS X (PySem.Stmt.Assign [qL.Name y py] (elt.ListComp [{target:=target,iter:=iter,ifs:=ifs,is_async:=0}] scope cpos) spos) (L2.tAsgC1 wi g tt te own fr i)):=by
 intro X scope N' own fr elt target iter ifs cpos wi g tt te spos py i y c hc hi hb hsw hN hy hl hs
 exact ⟨@zalm X scope N' own fr elt target iter ifs cpos wi g tt te spos py i y c hc hi.out hb hsw hN hy hl hs⟩
theorem zabc:∀ {X:L2.Cx} {pos:qi} {tg e:qL} {te:L2.TE} {g:L2.TG},L2.Bx (L2.PE X e te)→L2.Bx (L2.PG X tg g)→PySem.swapsWithSole [tg] e pos.line X.env=Pure.pure Bool.false→PySem.swappedStores [tg] e X.env=Pure.pure Option.none→List.map (fun (x:Bool×(PySem.Value→PySem.Sem Unit))=>x.snd) (PySem.assignEach [tg] X.env)=[PySem.assign tg X.env]→L2.Bx (L2.PS X (PySem.Stmt.Assign [tg] e pos) (L2.tAsg te g)):=by
 intro X pos tg e te g he hg hs hw h1
 exact ⟨@zasb X pos tg e te g he.out hg.out hs hw h1⟩
theorem zwb:∀ {X:L2.Cx} {K:qB},X.K=K→∀ {a b:qL} {ta:L2.TA} {p pos:qi} {elts:List qL} {x1:Nat} {tpos:qi},L2.Gl X (qy "zip")→X.mg (qy "zip")=Option.none→L2.Bx (L2.PA X [a,b] ta)→qAH [a,b] X.env=(Bool.false,PySem.eval a X.env)::qAH [b] X.env→((PySem.backTo pos (qAH [b] X.env)).any fun (x:Bool×PySem.Sem PySem.Value)=>x.fst)=Bool.false→L2.Bx (L2.PI X (qL.Tuple elts x1 tpos) ((qL.Name (qy "zip") p).Call [a,b] [] pos) (L2.iZip K ta)):=by
 intro X K hK a b ta p pos elts x1 tpos hg hm ha hs hs2
 exact ⟨@zatt X K hK a b ta p pos elts x1 tpos hg hm ha.out hs hs2⟩
theorem zln:∀ {X:L2.Cx} {K:qB},X.K=K→∀ {a:qL} {ta:L2.TA} {p pos:qi} {elts:List qL} {x1:Nat} {tpos:qi},L2.Gl X (qy "enumerate")→X.mg (qy "enumerate")=Option.none→L2.Bx (L2.PA X [a] ta)→qAH [a] X.env=[(Bool.false,PySem.eval a X.env)]→L2.Bx (L2.PI X (qL.Tuple elts x1 tpos) ((qL.Name (qy "enumerate") p).Call [a] [] pos) (L2.iEnumX K ta)):=by
 intro X K hK a ta p pos elts x1 tpos hg hm ha hs
 exact ⟨@zamn X K hK a ta p pos elts x1 tpos hg hm ha.out hs⟩
theorem zch:∀ {X:L2.Cx},L2.Bx (L2.PGs X [] L2.gNil):=by
 intro X
 exact ⟨@zaow X⟩
theorem zau:∀ {X:L2.Cx} {e:qL} {es:List qL} {t:L2.TG} {u:L2.TGs},L2.Bx (L2.PG X e t)→L2.Bx (L2.PGs X es u)→List.map (fun (x:Bool×(PySem.Value→PySem.Sem Unit))=>x.snd) (PySem.assignEach (e::es) X.env)=PySem.assign e X.env::List.map (fun (x:Bool×(PySem.Value→PySem.Sem Unit))=>x.snd) (PySem.assignEach es X.env)→L2.Bx (L2.PGs X (e::es) (L2.gCons t u)):=by
 intro X e es t u h1 h2 hs
 exact ⟨@zakw X e es t u h1.out h2.out hs⟩
theorem zci:∀ {X:L2.Cx} {K:qB},X.K=K→∀ {es:List qL} {k:Nat} {t:L2.TGs} {n:Nat} {pos:qi},X.calm=Bool.true→L2.Bx (L2.PGs X es t)→(PySem.assignEach es X.env).length=n→List.findIdx? (fun (x:Bool×(PySem.Value→PySem.Sem Unit))=>x.fst) (PySem.assignEach es X.env)=Option.none→L2.Bx (L2.PG X (qL.Tuple es k pos) (L2.gTup K n t)):=by
 intro X K hK es k t n pos hc h hn hst
 exact ⟨@zapu X K hK es k t n pos hc h.out hn hst⟩
theorem zatu:∀ {X:L2.Cx} {a:qL} {ta:L2.TE} {pos:qi} {op:PySem.UnaryOp} {r:L2.V→L2.Hp→L2.VK→Prop},L2.UnR X (PySem.unaryOp op) r→L2.Bx (L2.PE X a ta)→L2.Bx (L2.PE X (qL.UnaryOp op a pos) (L2.tUn r ta)):=by
 intro X a ta pos op r ho ha
 exact ⟨@zauq X a ta pos op r ho ha.out⟩
theorem zaiy:∀ {X:L2.Cx} {scope:PySem.Scope} {N' own:List PySem.Str} {fr:List Nat} {elt target iter target2 iter2:qL} {ifs ifs2:List qL} {cpos:qi} {wi wi2:L2.TI} {g g2:L2.TG} {tt tt2:L2.TT} {te:L2.TE},L2.CompOk X scope N' own fr→X.calm=Bool.true→L2.Bx (L2.PI X target iter wi)→(∀ (cl:List (PySem.Str×PySem.Addr)) (C:PySem.Addr) (s:PySem.Shared) (H:L2.Hp) (fp:List PySem.Addr),L2.PG (L2.cxComp X scope N' own cl C s H fp) target g∧L2.PF (L2.cxComp X scope N' own cl C s H fp) ifs tt∧L2.PI (L2.cxComp X scope N' own cl C s H fp) target2 iter2 wi2∧L2.PG (L2.cxComp X scope N' own cl C s H fp) target2 g2∧L2.PF (L2.cxComp X scope N' own cl C s H fp) ifs2 tt2∧L2.PE (L2.cxComp X scope N' own cl C s H fp) elt te)→(∀ (x:PySem.Value),PySem.foldedSetIterable iter X.env x=Pure.pure x)→(∀ (env:PySem.Env) (x:PySem.Value),PySem.foldedSetIterable iter2 env x=Pure.pure x)→L2.Bx (L2.PE X (elt.ListComp [{target:=target,iter:=iter,ifs:=ifs,is_async:=0},{target:=target2,iter:=iter2,ifs:=ifs2,is_async:=0}] scope cpos) (L2.tComp2 wi g tt wi2 g2 tt2 te own fr)):=by
 intro X scope N' own fr elt target iter target2 iter2 ifs ifs2 cpos wi wi2 g g2 tt tt2 te c hc hi hb hs hs2
 exact ⟨@zamd X scope N' own fr elt target iter target2 iter2 ifs ifs2 cpos wi wi2 g g2 tt tt2 te c hc hi.out hb hs hs2⟩
theorem zams:∀ {X:L2.Cx} {K:qB},X.K=K→∀ {T:String} {name:PySem.Str} {id:String} {r:L2.V→List L2.V→L2.Hp→L2.VK→Prop} {o:qL} {to:L2.TE} {apos cpos:qi},PySem.PlainAttrs T→PySem.Slot T name id→PySem.typeOf (PySem.Value.builtin id)=Pure.pure (PySem.Value.type "method_descriptor")→L2.MtR X id r→L2.Bx (L2.PE X o to)→PySem.attributeBase o name X.env (PySem.eval o X.env)=PySem.eval o X.env→(apos.endLine==cpos.line)=Bool.true→L2.Bx (L2.PE X ((o.Attribute name apos).Call [] [] cpos) (L2.tBM0 K T r to)):=by
 intro X K hK T name id r o to apos cpos pa slot hty hm ho hbase hline
 exact ⟨@zaqe X K hK T name id r o to apos cpos pa slot hty hm ho.out hbase hline⟩
theorem zaqv:∀ {X:L2.Cx} {a:qL} {ta:L2.TE} {j:Nat} {pos':qi},L2.Bx (L2.PE X a ta)→L2.Bx (L2.PC X PySem.CmpOp.Is a (qL.Constant PySem.Const.none j pos') (L2.tIsN ta)):=by
 intro X a ta j pos' ha
 exact ⟨@zarq X a ta j pos' ha.out⟩
theorem zuk:∀ {X:L2.Cx} {o i:qL} {td ty:L2.TE},X.A.units+1<PySem.cLine→L2.Bx (L2.PE X i ty)→L2.Bx (L2.PE X o td)→L2.Bx (L2.PC X PySem.CmpOp.NotIn i o (L2.tDNotIn ty td)):=by
 intro X o i td ty hu hi ho
 exact ⟨@zagv X o i td ty hu hi.out ho.out⟩
theorem zaiz:∀ {X:L2.Cx} {o i:qL} {td ty:L2.TE},X.A.units+1<PySem.cLine→L2.Bx (L2.PE X i ty)→L2.Bx (L2.PE X o td)→L2.Bx (L2.PC X PySem.CmpOp.In i o (L2.tDIn ty td)):=by
 intro X o i td ty hu hi ho
 exact ⟨@zasv X o i td ty hu hi.out ho.out⟩
theorem zabd:∀ {X:L2.Cx} {a b:qL} {pos:qi} {op:PySem.CmpOp} {t:L2.TE},L2.Bx (L2.PC X op a b t)→PySem.behindInMarks op b=Bool.false→L2.Bx (L2.PE X (a.Compare [op] [b] pos) t):=by
 intro X a b pos op t h h1
 exact ⟨@zarr X a b pos op t h.out h1⟩
theorem zaja:∀ {X:L2.Cx} {a b:qL} {pos:qi} {op:PySem.CmpOp} {t:L2.TE},L2.Bx (L2.PC X op a b t)→PySem.behindInMarks op b=Bool.false→L2.Bx (L2.PT X (a.Compare [op] [b] pos) (L2.tB t)):=by
 intro X a b pos op t h h1
 exact ⟨@zars X a b pos op t h.out h1⟩
theorem bv {X:Cx} (i:Nat) {x:Str} {pos:Pos} (hN:X.N[i]?=some x:=by rfl) (hv:visB X.env.scope x=true:=by rfl) (hd:(x==("__debug__":Str))=false:=by decide)
  (hcd:(x==("__classdict__":Str))=false:=by decide):Bx (PE X (.Name x pos) (tVar i)):=⟨zans hN (visB.of hv) hd hcd⟩
noncomputable def SatK (fx:Addr→Prop) (H0:Hp) (J:Nat→Prop) (σ0:St) (D:Ends):Out→Prop
 | .nx env=>∀ σ H,EnvOk fx H0 env σ H→(∀ j,J j→σ[j]?=σ0[j]?)→D.nx σ H
 | .bk env=>∀ σ H,EnvOk fx H0 env σ H→(∀ j,J j→σ[j]?=σ0[j]?)→D.bk σ H
 | .ct env=>∀ σ H,EnvOk fx H0 env σ H→(∀ j,J j→σ[j]?=σ0[j]?)→D.ct σ H
 | .rt d fr=>∀ v H,Same H0 H→zaez fx H0 d fr v H→D.rt v H
theorem SatK.move {fx:Addr→Prop} {H0:Hp} {J:Nat→Prop} {σ0 σ1:St} {D:Ends} {o:Out} (h:SatK fx H0 J σ0 D o) (e:∀ j,J j→σ1[j]?=σ0[j]?):SatK fx H0 J σ1 D o:=by
 cases o with
 | nx env=>exact fun σ H hE k=>h σ H hE fun j hj=>(k j hj).trans (e j hj)
 | bk env=>exact fun σ H hE k=>h σ H hE fun j hj=>(k j hj).trans (e j hj)
 | ct env=>exact fun σ H hE k=>h σ H hE fun j hj=>(k j hj).trans (e j hj)
 | rt d fr=>exact h
noncomputable def SSk (J:Nat→Prop) (ts:TS) (F:SF):Prop:=∀ (fx:Addr→Prop) (H0:Hp) (env:DEnv) (σ:St) (H:Hp) (D:Ends),EnvOk fx H0 env σ H→∀ o,F env=some o→SatK fx H0 J σ D o→ts D σ H
section
variable {J:Nat→Prop}
theorem zajb:SSk J tNext sNil:=by
 intro fx H0 env σ H D h o e q
 cases e
 exact q σ H h fun _ _=>rfl
theorem zaqw {t u:TS} {f g:SF} (h1:SSk J t f) (h2:SSk J u g):SSk J (tSeq t u) (sSeq f g):=by
 intro fx H0 env σ H D h o e q
 unfold sSeq at e
 obtain ⟨o1,e1,e⟩:=qA.mp e
 refine h1 fx H0 env σ H _ h o1 e1 ?_
 cases o1 with
 | nx env'=>exact fun σ' H' h' k=>h2 fx H0 env' σ' H' D h' o e (q.move k)
 | bk env'=>cases e;exact q
 | ct env'=>cases e;exact q
 | rt d fr=>cases e;exact q
theorem zajc {te:TE} {f:EF} (h1:SE te f):SSk J (tRet te) (sRet f):=fun fx H0 env σ H D h o e q=>zca h1 fx H0 env σ H D h o e (by
 unfold sRet at e
 obtain ⟨r,er,rfl⟩:=qJ.mp e
 exact q)
theorem zaon {tc:TT} {t u:TS} {c:TF} {f g:SF} (hc:ST tc c) (h1:SSk J t f) (h2:SSk J u g):SSk J (tIfS tc t u) (sIf c f g):=by
 intro fx H0 env σ H D h o e q
 unfold sIf at e
 obtain ⟨b,eb,e⟩:=qA.mp e
 refine hc fx H0 env σ H h b eb _ fun H' s=>?_
 cases b with
 | true=>exact iteT (h1 fx H0 env σ H' D (h.up s) o e q)
 | false=>exact iteF (h2 fx H0 env σ H' D (h.up s) o e q)
noncomputable def SGk (J:Nat→Prop) (g:TG) (f:GT):Prop:=∀ (fx:Addr→Prop) (H0:Hp) (env:DEnv) (σ:St) (H:Hp) (d:PyData) (v:V),EnvOk fx H0 env σ H→Rp (Offs (fun a=>fx a∨own env σ a) H) d v→∀ env',f d env=some env'→∀ Q:St→Hp→Prop,
 (∀ σ',EnvOk fx H0 env' σ' H→(∀ j,J j→σ'[j]?=σ[j]?)→Q σ' H)→g v σ H Q
theorem zamt {i:Nat} (hJ:¬ J i):SGk J (gName i) (gN i):=by
 intro fx H0 env σ H d v h r env' e Q q
 cases e
 exact q _ (h.setPl i r) fun j hj=>q9 fun z=>hJ (by rw [z];exact hj)
theorem zaqx {wi:TI} {g:TG} {tb:TS} {f:IF'} {gf:GT} {body:SF} (h1:SI wi f) (h2:SGk J g gf) (h3:SSk J tb body):SSk J (tFor wi g tb) (sFor f gf body):=by
 intro fx H0 env σ H D h o e q
 unfold sFor at e
 obtain ⟨⟨ds,bs⟩,er,e⟩:=qA.mp e
 refine h1 fx H0 env σ H h ds bs er _ fun I H1 s yl=>?_
 have hE:=(h.up s).frzs bs
 have fl:=hE.floor
 refine ⟨fun i m σ' H'=>m=ds.length - i∧i≤ds.length∧(∀ j,J j→σ'[j]?=σ[j]?)∧∃ env',forL gf body (ds.drop i) env'=some o∧EnvOk fx (Offs (own (frzs env bs) σ) H1) env' σ' H',⟨ds.length,rfl,qAd _,fun _ _=>rfl,_,e,hE.rebase⟩,?_⟩
 rintro i m σ' H' ⟨rfl,hi,kp,env',e',h'⟩
 obtain ⟨yi,ys⟩:=yl _ H' h'.all h'.seen
 by_cases hlt:i<ds.length
 ·obtain ⟨yg,yy⟩:=yi i ds[i] (qE hlt)
  refine .inr ⟨yg,fun σ'' H''=>i+1≤ds.length∧(∀ j,J j→σ''[j]?=σ[j]?)∧∃ env'',forL gf body (ds.drop (i+1)) env''=some o∧EnvOk fx (Offs (own (frzs env bs) σ) H1) env'' σ'' H'',?_,?_⟩
  ·rintro σ'' H'' ⟨hle,kp',env'',e'',h''⟩
   exact ⟨ds.length - (i+1),by omega,rfl,hle,kp',env'',e'',h''⟩
  ·intro x H'' hy
   obtain ⟨sy,ry⟩:=yy x H'' hy
   rw [qAv hlt] at e'
   obtain ⟨e1,ee1,e'⟩:=qA.mp e'
   obtain ⟨o1,eo1,e'⟩:=qA.mp e'
   refine h2 fx _ env' σ' H'' _ x (h'.up sy) ry e1 ee1 _ fun σ2 h2' k2=>h3 fx _ e1 σ2 H'' _ h2' o1 eo1 ?_
   have k3:∀ j,J j→σ2[j]?=σ[j]?:=fun j hj=>(k2 j hj).trans (kp j hj)
   cases o1 with
   | nx e2=>exact fun σ3 H3 hh k4=>⟨hlt,fun j hj=>(k4 j hj).trans (k3 j hj),e2,e',hh⟩
   | ct e2=>exact fun σ3 H3 hh k4=>⟨hlt,fun j hj=>(k4 j hj).trans (k3 j hj),e2,e',hh⟩
   | bk e2=>cases e';exact fun σ3 H3 hh k4=>q σ3 H3 (hh.unbase fl) fun j hj=>(k4 j hj).trans (k3 j hj)
   | rt d fr=>cases e';exact fun v H3 sh rt=>q v H3 (fl.trans sh) (rt.unbase fl)
 ·have hi':i=ds.length:=by omega
  subst hi'
  rw [qBD] at e'
  cases e'
  exact .inl ⟨ys,q σ' H' (h'.unbase fl) kp⟩
end
section
variable {X:Cx}
end
end L2
namespace L2
open PySem PySem.Spec PyProof.Rows
mutual
def zsp:PyData→Bool
 | .list _=>false
 | .dict _=>false
 | .tuple ds=>zabe ds
 | _=>true
def zabe:List PyData→Bool
 | []=>true
 | d::ds=>zsp d&&zabe ds
end
mutual
theorem zajd {A B:Addr→Prop} {H:Hp} (h:∀ a xs,H a=some (.tup xs)→¬ A a→¬ B a):∀ (d:PyData) {v:V},zsp d=true→Rp (Offs A H) d v→Rp (Offs B H) d v
 | .none,v,_,q=>by unfold Rp at q ⊢;exact q
 | .bool b,v,_,q=>by unfold Rp at q ⊢;exact q
 | .int i,v,_,q=>by unfold Rp at q ⊢;exact q
 | .str x,v,_,q=>by unfold Rp at q ⊢;exact q
 | .list ds,v,f,_=>by unfold zsp at f;cases f
 | .dict ds,v,f,_=>by unfold zsp at f;cases f
 | .tuple ds,v,f,q=>by
  unfold zsp at f
  unfold Rp at q ⊢
  obtain ⟨a,xs,e,hq,hr⟩:=q
  obtain ⟨n,hh⟩:=Offs.of hq
  exact ⟨a,xs,e,by rw [Offs.get (h a xs hh n)];exact hh,zads h ds f hr⟩
theorem zads {A B:Addr→Prop} {H:Hp} (h:∀ a xs,H a=some (.tup xs)→¬ A a→¬ B a):∀ (ds:List PyData) {vs:List V},zabe ds=true→Rps (Offs A H) ds vs→Rps (Offs B H) ds vs
 | [],vs,_,q=>by unfold Rps at q ⊢;exact q
 | d::ds,vs,f,q=>by
  unfold zabe at f
  obtain ⟨f1,f2⟩:=qo.mp f
  unfold Rps at q ⊢
  obtain ⟨v,vs',e,h1,h2⟩:=q
  exact ⟨v,vs',e,zajd h d f1 h1,zads h ds f2 h2⟩
end
noncomputable def zju (f:EF):EF:=fun env=>(f env).map fun r=>if zsp r.d=true then ⟨r.d,false,[]⟩ else r
theorem zrg {te:TE} {f:EF} (h:SE te f):SE te (zju f):=by
 intro fx H0 env σ H hE rr hr Q q
 obtain ⟨r,er,rfl⟩:=qJ.mp hr
 refine h fx H0 env σ H hE r er Q fun v H1 s1 hv=>q v H1 s1 ?_
 split
 ·rename_i hh
  refine ⟨zajd (fun a xs e n z=>?_) _ hh hv.rp,fun z=>by cases z⟩
  rcases z with z|⟨i,d,_,h1,h2⟩
  ·exact n (.inl z)
  ·obtain ⟨b,g1,_,_,g4⟩:=(hE.up s1).ac i d h1
   rw [h2] at g1
   cases g1
   cases d with
   | list ds=>obtain ⟨ys,y1,_⟩:=g4;rw [e] at y1;cases y1
   | dict ds=>obtain ⟨ys,y1,_⟩:=g4;rw [e] at y1;cases y1
   | _=>exact g4.elim
 ·exact hv
end L2
namespace Bc
open PySem L2
noncomputable def zlo:SF:=(sRet (zyj ["arm", "name"] [] (zaw (eVar 0)) (gN 0) zcw (zaw (zay 1 zcr (zab (eVar 0) aNil))) (gN 1) zcw (eVar 1)))
noncomputable def zgs:GF:=fnD 1 zlo
noncomputable def zpz:SF:=(sSeq (sIf (zbh (eOp neD (eCB lenD (zab (eVar 2) aNil)) (eVar 1))) zada sNil)
  (zafa (zay 2 zgq (zab (eVar 0) (zab (zay 1 zgs (zab (eVar 2) aNil)) aNil)))))
noncomputable def zjg:GF:=fnD 3 zpz
noncomputable def zlp:SF:=(sRet (zda ["arm"] [0] (zaw (eVar 1)) (gN 0) zcw (zay 2 zli (zab (eVar 1) (zab (eVar 0) aNil)))))
noncomputable def zct:GF:=fnD 2 zlp
noncomputable def zqa:SF:=(sRet (eCB (anyD fun bs=>bs.all id) (zab (zda ["kind", "roof"] [] (ztx (zab (eVar 0) (zab (eVar 1) aNil))) (gT 2 (zao 0 (zao 1 zce))) zcw (eDIn false (eVar 0) (eVar 1))) aNil)))
noncomputable def zet:GF:=fnD 2 zqa
noncomputable def zsq:SF:=(sRet (eAnd (eOp neD (eVar 1) (eVar 2)) (eCB (anyD fun bs=>bs.all id) (zab (zda ["low", "high"] [0] (ztx (zab (eVar 1) (zab (eVar 2) aNil))) (gT 2 (zao 0 (zao 1 zce))) zcw (eDIn false (eVar 1) (zel 2 (eVar 0)))) aNil))))
noncomputable def zdu:GF:=fnD 3 zsq
noncomputable def zkr:SF:=(sSeq (sAsg (eVar 0) (gT 3 (zao 2 (zao 3 (zao 4 zce)))))
  (sSeq (zafa (zay 3 zjg (zab (eVar 2) (zab (eVar 3) (zab (eVar 1) aNil)))))
  (sSeq (sSet 5 (zay 2 zct (zab (zay 1 zdz (zab (eVar 2) aNil)) (zab (eVar 1) aNil))))
  (sRet (zda ["rule"] [5] (zaw (eVar 4)) (gN 0) (tTru (zay 2 zet (zab (eIxV 0 (eC (.int 1))) (zab (eVar 1) aNil)))) (eVar 0))))))
noncomputable def zco:GF:=fnD 6 zkr
noncomputable def zqb:SF:=(sRet (zda ["rule"] [0,1] (zaw (eVar 1)) (gN 0) (zfi (tTru (eCB (anyD fun bs=>bs.any id) (zab (zda ["name", "kinds"] [0,1] (zaw (eVar 2)) (gT 2 (zao 0 (zao 1 zce))) zcw (zay 3 zdu (zab (eVar 3) (zab (eVar 1) (zab (eIxV 2 (eC (.int 1))) aNil))))) aNil)))) (eVar 0)))
noncomputable def zfl:GF:=fnD 2 zqb
noncomputable def zqc:SF:=(sRet (zda ["name", "kinds"] [] (zaw (eVar 0)) (gT 2 (zao 0 (zao 1 zce))) zcw (eVar 0)))
noncomputable def zgf:GF:=fnD 1 zqc
noncomputable def zsr:SF:=(sSeq (sIf (zfi (tTru (eVar 0))) (sRet (eTup (zab (eC (.str "none")) aNil))) sNil)
  (sSeq (sIf (zbh (eOp eqD (eCB lenD (zab (eVar 0) aNil)) (eC (.int 1)))) (sRet (eTup (zab (eC (.str "rule")) (zab (eIxV 0 (eC (.int 0))) aNil)))) sNil)
  (sRet (eTup (zab (eC (.str "quarrel")) (zab (eCB zfs (zab (eVar 0) aNil)) aNil))))))
noncomputable def zhd:GF:=fnD 1 zsr
noncomputable def zyp:SF:=(sSeq (sSet 2 (zay 2 zco (zab (eVar 0) (zab (eVar 1) aNil))))
  (sRet (zay 1 zgf (zab (zay 2 zfl (zab (zay 1 zdz (zab (eIxV 0 (eC (.int 0))) aNil)) (zab (eVar 2) aNil))) aNil))))
noncomputable def zok:GF:=fnD 3 zyp
noncomputable def zss:SF:=(sRet (zay 1 zhd (zab (zay 2 zok (zab (eVar 0) (zab (eVar 1) aNil))) aNil)))
noncomputable def zgd:GF:=fnD 2 zss
noncomputable def ziw:SF:=(sSeq (sSet 2 (eC (.str "abcdefghijklmnopqrstuvwxyz")))
  (sSeq (sSet 3 (eOp ixD (eTup (zab (eC (.int 1)) (zab (eC (.int 3)) (zab (eC (.int 5)) (zab (eC (.int 7)) (zab (eC (.int 9)) (zab (eC (.int 11)) (zab (eC (.int 15)) (zab (eC (.int 17)) aNil))))))))) (eOp modD (eOp zdk (eVar 1) (eC (.int 3))) (eC (.int 8)))))
  (sSeq (sSet 4 (eOp modD (eOp zdk (eVar 1) (eC (.int 24))) (eC (.int 26))))
  (sSeq (sSet 5 (eOp mulD (eIxV 2 (eOp modD (eOp zdk (eVar 1) (eC (.int 624))) (eC (.int 26)))) (eOp modD (eOp zdk (eVar 1) (eC (.int 16224))) (eC (.int 8)))))
  (sSeq (sSet 6 (eOp modD (eOp zdk (eVar 1) (eC (.int 129792))) (eOp addD (eCB lenD (zab (eVar 5) aNil)) (eC (.int 1)))))
  (sSeq (sSet 7 (eLst aNil))
  (sSeq (sFor (zic (zab (eVar 0) aNil)) (gN 8)
  (sSeq (sSet 9 (eIxV 2 (eOp modD (eOp addD (eVar 4) (eOp mulD (eVar 3) (eVar 8))) (eC (.int 26)))))
  (sIf (zbh (eOp eqD (eOp modD (eVar 1) (eC (.int 3))) (eC (.int 0)))) (sApp 7 (eOp addD (eOp addD (eSl (eVar 5) zgo (zcv (eVar 6))) (eVar 9)) (eSl (eVar 5) (zcv (eVar 6)) zgo))) (sIf (zbh (eOp eqD (eOp modD (eVar 1) (eC (.int 3))) (eC (.int 1)))) (sApp 7 (eOp addD (eSl (eVar 5) zgo (zcv (eOp modD (eOp mulD (eVar 8) (eVar 3)) (eOp addD (eCB lenD (zab (eVar 5) aNil)) (eC (.int 1)))))) (eVar 9))) (sApp 7 (eOp mulD (eIxV 2 (eOp modD (eOp addD (eVar 4) (eOp zdk (eVar 8) (eC (.int 8)))) (eC (.int 26)))) (eOp addD (eC (.int 1)) (eOp modD (eOp mulD (eVar 8) (eVar 3)) (eC (.int 8))))))))))
  (sSeq (sIf (zbh (eOp eqD (eOp modD (eOp zdk (eVar 1) (eC (.int 1038336))) (eC (.int 6))) (eC (.int 5)))) (sSeq (sSet 10 (eLst (zab (eC (.str "none")) (zab (eC (.str "rule")) (zab (eC (.str "quarrel")) (zab (eC (.str "near")) (zab (eC (.str "far")) (zab (eC (.str "out")) aNil))))))))
  (sSeq (sSet 11 (eOp modD (eOp zdk (eVar 1) (eC (.int 6230016))) (eC (.int 6))))
  (sSet 7 (eSl (eOp addD (eOp addD (eSl (eVar 10) (zcv (eVar 11)) zgo) (eSl (eVar 10) zgo (zcv (eVar 11)))) (eSl (eVar 7) (zcv (eC (.int 6))) zgo)) zgo (zcv (eVar 0)))))) sNil)
  (ztv 7)))))))))
noncomputable def zdh:GF:=fnD 12 ziw
noncomputable def zul:SF:=(sSeq (sSet 3 (eLst aNil))
  (sSeq (sSet 4 (eVar 0))
  (sSeq (sSet 5 (eCB lenD (zab (eVar 1) aNil)))
  (sSeq (sFor (zic (zab (eVar 2) aNil)) (gN 6)
  (sSeq (sSet 7 (eOp modD (eVar 4) (eVar 5)))
  (sSeq (sSet 4 (eOp zdk (eVar 4) (eVar 5)))
  (sSeq (sIf (zbh (eOp eqD (eOp modD (eVar 4) (eC (.int 4))) (eC (.int 2)))) (sApp 3 (eTup (zab (eIxV 1 (eOp subD (eOp subD (eVar 5) (eC (.int 1))) (eVar 7))) aNil))) (sIf (zij (zbh (eOp eqD (eOp modD (eVar 4) (eC (.int 4))) (eC (.int 3)))) (zbh (eOp gtD (eVar 5) (eC (.int 1))))) (sSeq (sSet 8 (eOp modD (eOp addD (eOp addD (eVar 7) (eC (.int 1))) (eOp modD (eOp zdk (eVar 4) (eC (.int 4))) (eOp subD (eVar 5) (eC (.int 1))))) (eVar 5)))
  (sSeq (sSet 9 (zda ["_law_name"] [1,7,8] (zaw (eSl (eVar 1) (zcv (eOp subD (eVar 5) (eOp modD (eVar 4) (eC (.int 3))))) zgo)) (gN 0) (zbh (eOp (inD true) (eVar 0) (eTup (zab (eIxV 1 (eVar 2)) (zab (eIxV 1 (eVar 3)) aNil))))) (eVar 0)))
  (sApp 3 (eCB zfs (zab (eOp addD (eLst (zab (eIxV 1 (eVar 7)) (zab (eIxV 1 (eVar 8)) aNil))) (eVar 9)) aNil))))) (sApp 3 (eIxV 1 (eOp subD (eOp subD (eVar 5) (eC (.int 1))) (eVar 7))))))
  (sSet 4 (eOp zdk (eVar 4) (eOp mulD (eC (.int 4)) (eVar 5))))))))
  (sRet (eCB zfs (zab (eVar 3) aNil)))))))
noncomputable def zhe:GF:=fnD 10 zul
noncomputable def zst:SF:=(sSeq (sSet 5 (eLst aNil))
  (sSeq (sFor (zpu (zab (eVar 4) aNil)) (gT 2 (zao 6 (zao 7 zce)))
  (sSeq (sSet 8 (eOp zdk (eIxV 0 (eVar 6)) (eC (.int 4))))
  (sSeq (sSet 9 (eLst aNil))
  (sSeq (sFor (zaw (eVar 3)) (gN 10)
  (sSeq (sSet 11 (eVar 1))
  (sSeq (sIf (zbh (eOp gtD (eOp modD (eIxV 0 (eVar 6)) (eC (.int 4))) (eC (.int 0)))) (sSet 11 (zda ["_law_name"] [2,10] (zaw (eVar 1)) (gN 0) (tTru (eCB (anyD fun bs=>bs.any id) (zab (zda ["_law_one"] [0,1] (zaw (zay 1 zcr (zab (eVar 2) aNil))) (gN 0) zcw (eOp (inD false) (eVar 1) (zel 2 (eVar 0)))) aNil))) (eVar 0))) sNil)
  (sSeq (sApp 9 (eIxV 11 (eOp modD (eVar 8) (eCB lenD (zab (eVar 11) aNil)))))
  (sSet 8 (eOp zdk (eVar 8) (eCB lenD (zab (eVar 11) aNil))))))))
  (sIf (zbh (eOp (inS true) (eCB zfs (zab (eVar 9) aNil)) (zda ["_law_one", "_law_row"] [] (zaw (eVar 5)) (gT 2 (zao 0 (zao 1 zce))) zcw (eVar 1)))) (sApp 5 (eTup (zab (eVar 7) (zab (eCB zfs (zab (eVar 9) aNil)) aNil)))) sNil)))))
  (ztv 5)))
noncomputable def zix:GF:=fnD 12 zst
noncomputable def zum:SF:=(sRet (eAnd (eIsi "int" (eVar 0)) (eNot (eIsi "bool" (eVar 0)))))
noncomputable def zhf:GF:=fnD 1 zum
noncomputable def zadt:SF:=(sSeq (sIf (tOrF (zfi (tTru (zay 1 zhf (zab (eVar 2) aNil)))) (zfi (zbh (zof leD ltD (eC (.int 0)) (eVar 2) (eCB lenD (zab (eVar 0) aNil)))))) (sRet (eC (.bool false))) sNil)
  (sRet (eDIn true (eIxV 0 (eVar 2)) (eIxV 1 (eVar 2)))))
noncomputable def zrh:GF:=fnD 3 zadt
noncomputable def zqd:SF:=(sRet (eCB (anyD fun bs=>bs.any id) (zab (zda ["name", "others"] [0,2,3] (zaw (eVar 1)) (gT 2 (zao 0 (zao 1 zce))) zcw (eAnd (eOp (eqTD false) (eVar 0) (eVar 4)) (zay 3 zdu (zab (eVar 2) (zab (eVar 1) (zab (eVar 3) aNil)))))) aNil)))
noncomputable def zjh:GF:=fnD 4 zqd
noncomputable def zyq:SF:=(sSeq (sIf (zfi (tTru (eIsi "tuple" (eVar 4)))) (sRet (eC (.bool false))) sNil)
  (sSeq (sSet 5 (eIxV 3 (eC (.int 1))))
  (sSeq (sIf (zij (zbh (eOp eqD (eCB lenD (zab (eVar 4) aNil)) (eC (.int 2)))) (zbh (eOp eqD (eIxV 4 (eC (.int 0))) (eC (.str "out"))))) (sRet (zay 3 zrh (zab (eVar 5) (zab (eVar 1) (zab (eIxV 4 (eC (.int 1))) aNil))))) sNil)
  (sSeq (sIf (zbh (eOp (inS true) (eVar 3) (eVar 2))) (sRet (eC (.bool false))) sNil)
  (sSeq (sIf (zij (zbh (eOp eqD (eCB lenD (zab (eVar 4) aNil)) (eC (.int 2)))) (zbh (eOp eqD (eIxV 4 (eC (.int 0))) (eC (.str "far"))))) (sRet (zay 4 zjh (zab (eVar 0) (zab (eVar 2) (zab (eVar 5) (zab (eIxV 4 (eC (.int 1))) aNil)))))) sNil)
  (sRet (eOp eqD (eVar 4) (eTup (zab (eC (.str "near")) aNil)))))))))
noncomputable def zlq:GF:=fnD 6 zyq
noncomputable def zaje:SF:=(sSeq (sSet 4 (zay 2 zco (zab (eVar 0) (zab (eVar 1) aNil))))
  (sSeq (sAsg (eVar 0) (gT 3 (zao 5 (zao 6 (zao 7 zce)))))
  (sSeq (sIf (tOrF (zfi (tTru (eIsi "list" (eVar 3)))) (zbh (eOp neD (eCB lenD (zab (eVar 3) aNil)) (eCB lenD (zab (eVar 7) aNil))))) (sRet (eC (.bool false))) sNil)
  (sSeq (sSet 8 (zay 1 zdz (zab (eVar 5) aNil)))
  (sSeq (sSet 9 (zay 2 zct (zab (eVar 8) (zab (eVar 1) aNil))))
  (sSeq (sIf (zfi (tTru (eCB (anyD fun bs=>bs.all id) (zab (zda ["rule", "line"] [4,8,9] (ztx (zab (eVar 7) (zab (eVar 3) aNil))) (gT 2 (zao 0 (zao 1 zce))) zcw (zay 5 zlq (zab (eVar 3) (zab (eVar 4) (zab (eVar 2) (zab (eVar 0) (zab (eVar 1) aNil))))))) aNil)))) (sRet (eC (.bool false))) sNil)
  (sSeq (sSet 10 (zda ["rule", "line"] [] (ztx (zab (eVar 7) (zab (eVar 3) aNil))) (gT 2 (zao 0 (zao 1 zce))) (zbh (eOp eqD (eVar 1) (eTup (zab (eC (.str "near")) aNil)))) (eVar 0)))
  (sRet (eAnd (eOp eqD (zay 2 zfl (zab (eVar 8) (zab (eVar 10) aNil))) (eVar 10)) (eOp eqD (eVar 2) (zay 1 zhd (zab (zay 1 zgf (zab (eVar 10) aNil)) aNil))))))))))))
noncomputable def zjm:GF:=fnD 11 zaje
noncomputable def zadu:SF:=(sRet (eCB (anyD fun bs=>bs.any id) (zab (zda ["_law_name"] [0,2] (zaw (zay 1 zcr (zab (eVar 1) aNil))) (gN 0) zcw (eOp (inD false) (eVar 2) (zel 1 (eVar 0)))) aNil)))
noncomputable def zkn:GF:=fnD 3 zadu
noncomputable def zmx:SF:=(sSeq (sFor (zpy (zab (eVar 1) aNil)) (gT 2 (zao 3 (zao 4 zce)))
  (sIf (zfi (tTru (zay 3 zkn (zab (eVar 0) (zab (eIxV 2 (eVar 3)) (zab (eVar 4) aNil)))))) (sRet (eC (.bool false))) sNil))
  (sRet (eC (.bool true))))
noncomputable def zcd:GF:=fnD 5 zmx
noncomputable def zyr:SF:=(sSeq (sSet 2 (zda ["place", "kind"] [1] (zpy (zab (eVar 0) aNil)) (gT 2 (zao 0 (zao 1 zce))) (zbh (eDIn true (eVar 1) (eIxV 2 (eVar 0)))) (eVar 0)))
  (sRet (eTup (zab (eC (.str "out")) (zab (eIxV 2 (eC (.int 0))) aNil)))))
noncomputable def zlr:GF:=fnD 3 zyr
noncomputable def zadv:SF:=(sSeq (sSet 3 (zda ["name", "others"] [0,2] (zaw (eVar 1)) (gT 2 (zao 0 (zao 1 zce))) (tTru (zay 3 zdu (zab (eVar 2) (zab (eVar 1) (zab (eVar 3) aNil))))) (eVar 0)))
  (sSeq (sIf (tTru (eVar 3)) (sRet (eTup (zab (eC (.str "far")) (zab (eIxV 3 (eC (.int 0))) aNil)))) sNil)
  (sRet (eTup (zab (eC (.str "near")) aNil)))))
noncomputable def zol:GF:=fnD 4 zadv
noncomputable def zatv:SF:=(sSeq (sSet 2 (zay 2 zco (zab (eVar 0) (zab (eVar 1) aNil))))
  (sSeq (sAsg (eVar 0) (gT 3 (zao 3 (zao 4 (zao 5 zce)))))
  (sSeq (sSet 6 (zay 1 zdz (zab (eVar 3) aNil)))
  (sSeq (sSet 7 (zay 2 zct (zab (eVar 6) (zab (eVar 1) aNil))))
  (sSeq (sSet 8 (eLst aNil))
  (sSeq (sFor (zaw (eVar 5)) (gT 2 (zao 9 (zao 10 zce)))
  (sIf (tTru (zay 2 zet (zab (eVar 10) (zab (eVar 7) aNil)))) (sApp 8 (zju (zay 3 zol (zab (eVar 6) (zab (eVar 2) (zab (eVar 10) aNil)))))) (sApp 8 (zju (zay 2 zlr (zab (eVar 10) (zab (eVar 7) aNil)))))))
  (ztv 8)))))))
noncomputable def zabf:GF:=fnD 11 zatv
noncomputable def zmy:SF:=(sSeq (sIf (tOrF (zfi (tTru (eIsi "tuple" (eVar 4)))) (zbh (eOp eqD (eCB lenD (zab (eVar 4) aNil)) (eC (.int 0))))) (sRet (eC (.bool false))) sNil)
  (sSeq (sIf (zij (zbh (eOp eqD (eIxV 4 (eC (.int 0))) (eC (.str "out")))) (zij (zbh (eOp eqD (eCB lenD (zab (eVar 4) aNil)) (eC (.int 2)))) (zij (tTru (eIsi "int" (eIxV 4 (eC (.int 1))))) (zfi (tTru (eIsi "bool" (eIxV 4 (eC (.int 1))))))))) (sRet (eAnd (zof leD ltD (eC (.int 0)) (eIxV 4 (eC (.int 1))) (eCB lenD (zab (eVar 2) aNil))) (eNot (zay 3 zkn (zab (eVar 0) (zab (eIxV 3 (eIxV 4 (eC (.int 1)))) (zab (eIxV 2 (eIxV 4 (eC (.int 1)))) aNil))))))) sNil)
  (sSeq (sIf (zfi (tTru (zay 3 zcd (zab (eVar 0) (zab (eVar 2) (zab (eVar 3) aNil)))))) (sRet (eC (.bool false))) sNil)
  (sSeq (sIf (zij (zbh (eOp eqD (eIxV 4 (eC (.int 0))) (eC (.str "far")))) (zbh (eOp eqD (eCB lenD (zab (eVar 4) aNil)) (eC (.int 2))))) (sSeq (sSet 5 (zda ["_law_name", "_law_other"] [4] (zaw (eVar 1)) (gT 2 (zao 0 (zao 1 zce))) (zbh (eOp (eqTD false) (eVar 0) (eIxV 2 (eC (.int 1))))) (eVar 1)))
  (sSeq (sIf (tOrF (zbh (eOp eqD (eCB lenD (zab (eVar 5) aNil)) (eC (.int 0)))) (zbh (eOp eqD (eIxV 5 (eC (.int 0))) (eVar 2)))) (sRet (eC (.bool false))) sNil)
  (sRet (eAnd (zay 3 zcd (zab (eVar 0) (zab (eIxV 5 (eC (.int 0))) (zab (eVar 3) aNil)))) (zay 3 zcd (zab (eVar 0) (zab (eVar 2) (zab (eIxV 5 (eC (.int 0))) aNil)))))))) sNil)
  (sRet (eOp eqD (eVar 4) (eTup (zab (eC (.str "near")) aNil))))))))
noncomputable def zfc:GF:=fnD 6 zmy
noncomputable def zqe:SF:=(sSeq (sIf (tOrF (zfi (tTru (eIsi "list" (eVar 3)))) (zbh (eOp neD (eCB lenD (zab (eVar 3) aNil)) (eCB lenD (zab (eVar 1) aNil))))) (sRet (eC .none)) sNil)
  (sSeq (sSet 4 (eLst aNil))
  (sSeq (sFor (zpu (zab (eVar 1) aNil)) (gT 2 (zao 5 (zao 6 zce)))
  (sSeq (sIf (zfi (tTru (zay 5 zfc (zab (eVar 0) (zab (eVar 1) (zab (eIxV 6 (eC (.int 1))) (zab (eVar 2) (zab (eIxV 3 (eVar 5)) aNil)))))))) (sRet (eC .none)) sNil)
  (sIf (zbh (eOp eqD (eIxV 3 (eVar 5)) (eTup (zab (eC (.str "near")) aNil)))) (sApp 4 (eVar 6)) sNil)))
  (sSeq (sFor (zaw (eVar 4)) (gT 2 (zao 7 (zao 8 zce)))
  (sIf (tTru (eCB (anyD fun bs=>bs.any id) (zab (zda ["_law_one", "_law_other"] [0,8] (zaw (eVar 4)) (gT 2 (zao 0 (zao 1 zce))) zcw (eAnd (eOp neD (eVar 1) (eVar 3)) (zay 3 zcd (zab (eVar 2) (zab (eVar 3) (zab (eVar 1) aNil)))))) aNil))) (sRet (eC .none)) sNil))
  (sSeq (sIf (zbh (eOp eqD (eCB lenD (zab (eVar 4) aNil)) (eC (.int 0)))) (sRet (eTup (zab (eC (.str "none")) aNil))) sNil)
  (sSeq (sIf (zbh (eOp eqD (eCB lenD (zab (eVar 4) aNil)) (eC (.int 1)))) (sRet (eTup (zab (eC (.str "rule")) (zab (eOp ixD (eIxV 4 (eC (.int 0))) (eC (.int 0))) aNil)))) sNil)
  (sRet (eTup (zab (eC (.str "quarrel")) (zab (eCB zfs (zab (zda ["_law_name", "_law_kinds"] [] (zaw (eVar 4)) (gT 2 (zao 0 (zao 1 zce))) zcw (eVar 0)) aNil)) aNil))))))))))
noncomputable def zfm:GF:=fnD 9 zqe
noncomputable def zls:SF:=(sSeq (sSet 3 (zay 2 zabf (zab (eVar 0) (zab (eVar 2) aNil))))
  (sSeq (sSet 4 (zju (zay 4 zfm (zab (eVar 1) (zab (eIxV 0 (eC (.int 2))) (zab (eVar 2) (zab (eVar 3) aNil)))))))
  (sSeq (sIf (tOrF (zbh (eIsN false (eVar 4))) (tOrF (zbh (eOp neD (zay 2 zgd (zab (eVar 0) (zab (eVar 2) aNil))) (eVar 4))) (zbh (eOp (isCD true) (zay 4 zjm (zab (eVar 0) (zab (eVar 2) (zab (eVar 4) (zab (eVar 3) aNil))))) (eC (.bool true)))))) (sRet (eC (.bool false))) sNil)
  (sSeq (sSet 5 (eLst (zab (eTup (zab (eC (.str "none")) aNil)) (zab (eTup (zab (eC (.str "rule")) (zab (eC (.str "a")) aNil))) (zab (eTup (zab (eC (.str "quarrel")) (zab (eTup (zab (eC (.str "a")) (zab (eC (.str "b")) aNil))) aNil))) (zab (eCB zrx (zab (eVar 4) aNil)) (zab (eC .none) aNil)))))))
  (sSeq (sFor (zaw (eOp addD (eVar 5) (zda ["_law_name", "_law_kinds"] [] (zaw (eIxV 0 (eC (.int 2)))) (gT 2 (zao 0 (zao 1 zce))) zcw (eTup (zab (eC (.str "rule")) (zab (eVar 0) aNil)))))) (gN 6)
  (sIf (zij (zbh (eOp neD (eVar 6) (eVar 4))) (zbh (eOp (isCD true) (zay 4 zjm (zab (eVar 0) (zab (eVar 2) (zab (eVar 6) (zab (eVar 3) aNil))))) (eC (.bool false))))) (sRet (eC (.bool false))) sNil))
  (sSeq (sRev 3)
  (sSeq (sApp 3 (eTup (zab (eC (.str "near")) aNil)))
  (sRet (eOp eqD (zju (zay 4 zfm (zab (eVar 1) (zab (eIxV 0 (eC (.int 2))) (zab (eVar 2) (zab (zay 2 zabf (zab (eVar 0) (zab (eVar 2) aNil))) aNil)))))) (eVar 4))))))))))
noncomputable def zbt:GF:=fnD 7 zls
theorem zwc:bootBuiltins "all" = some (.builtin "all"):=by decide +kernel
theorem zom:bootBuiltins "any" = some (.builtin "any"):=by decide +kernel
theorem zys:bootBuiltins "bool" = some (.type "bool"):=by decide +kernel
theorem zadw:bootBuiltins "int" = some (.type "int"):=by decide +kernel
theorem zcm:bootBuiltins "isinstance" = some (.builtin "isinstance"):=by decide +kernel
theorem zck:bootBuiltins "len" = some (.builtin "len"):=by decide +kernel
theorem ziy:bootBuiltins "list" = some (.type "list"):=by decide +kernel
theorem zamu:bootBuiltins "min" = some (.builtin "min"):=by decide +kernel
theorem zen:bootBuiltins "tuple" = some (.type "tuple"):=by decide +kernel
theorem zaum:bootBuiltins "zip" = some (.type "zip"):=by decide +kernel
noncomputable def top (i:Nat):Stmt:=PySem.Challenge.pw_bestcalls_k16_papers_written.main.body.getD i (.Pass ⟨0,0,0,0⟩)
structure Txt (mg:Str→Option Value):Prop where
 all:mg "all" = none
 any:mg "any" = none
 bool:mg "bool" = none
 enumerate:mg "enumerate" = none
 int:mg "int" = none
 isinstance:mg "isinstance" = none
 len:mg "len" = none
 list:mg "list" = none
 min:mg "min" = none
 range:mg "range" = none
 tuple:mg "tuple" = none
 zip:mg "zip" = none
noncomputable abbrev zio:Stmt:=top 5
noncomputable abbrev zun:List Str:=["thing"]
theorem zabg:zun.Nodup:=by decide +kernel
theorem zabh:FnScope zun ["thing"] (zap zio):=⟨rfl,rfl,rfl,zabg,rfl,by decide +kernel,by decide +kernel⟩
noncomputable abbrev ziq:Stmt:=top 6
noncomputable abbrev zuo:List Str:=["web"]
theorem zabi:zuo.Nodup:=by decide +kernel
theorem zabj:FnScope zuo ["web"] (zap ziq):=⟨rfl,rfl,rfl,zabi,rfl,by decide +kernel,by decide +kernel⟩
noncomputable abbrev zir:Stmt:=top 7
noncomputable abbrev zup:List Str:=["arm"]
theorem zabk:zup.Nodup:=by decide +kernel
theorem zabl:FnScope zup ["arm"] (zap zir):=⟨rfl,rfl,rfl,zabk,rfl,by decide +kernel,by decide +kernel⟩
noncomputable abbrev zfo:Stmt:=top 8
noncomputable abbrev zon:List Str:=["web", "names", "known", "name"]
theorem zjn:zon.Nodup:=by decide +kernel
theorem zty:FnScope zon ["web", "names"] (zap zfo):=⟨rfl,rfl,rfl,zjn,rfl,by decide +kernel,by decide +kernel⟩
noncomputable abbrev zis:Stmt:=top 9
noncomputable abbrev zuq:List Str:=["web", "roofs", "name", "elders", "roof", "elder"]
theorem zhg:zuq.Nodup:=by decide +kernel
theorem zabm:FnScope zuq ["web"] (zap zis):=⟨rfl,rfl,rfl,zhg,rfl,by decide +kernel,by decide +kernel⟩
noncomputable abbrev zjv:Stmt:=top 10
noncomputable abbrev zyt:List Str:=["roofs", "arm", "roof", "name"]
theorem zpi:zyt.Nodup:=by decide +kernel
theorem zafg:FnScope zyt ["roofs", "arm"] (zap zjv):=⟨rfl,rfl,rfl,zpi,rfl,by decide +kernel,by decide +kernel⟩
noncomputable abbrev zeo:Stmt:=top 12
noncomputable abbrev zlt:List Str:=["call"]
theorem zqw:zlt.Nodup:=by decide +kernel
theorem zqx:FnScope zlt ["call"] (zap zeo):=⟨rfl,rfl,rfl,zqw,rfl,by decide +kernel,by decide +kernel⟩
noncomputable abbrev zgg:Stmt:=top 13
noncomputable abbrev zqf:List Str:=["web", "places", "call"]
theorem zwd:zqf.Nodup:=by decide +kernel
theorem zwe:FnScope zqf ["web", "places", "call"] (zap zgg):=⟨rfl,rfl,rfl,zwd,rfl,by decide +kernel,by decide +kernel⟩
noncomputable abbrev zep:Stmt:=top 14
noncomputable abbrev zlu:List Str:=["roofs", "call"]
theorem zqy:zlu.Nodup:=by decide +kernel
theorem zqz:FnScope zlu ["roofs", "call"] (zap zep):=⟨rfl,rfl,rfl,zqy,rfl,by decide +kernel,by decide +kernel⟩
noncomputable abbrev zgh:Stmt:=top 15
noncomputable abbrev zqg:List Str:=["kinds", "call_roofs"]
theorem zwf:zqg.Nodup:=by decide +kernel
theorem zwg:FnScope zqg ["kinds", "call_roofs"] (zap zgh):=⟨rfl,rfl,rfl,zwf,rfl,by decide +kernel,by decide +kernel⟩
noncomputable abbrev zhh:Stmt:=top 16
noncomputable abbrev zsu:List Str:=["roofs", "one", "other"]
theorem zyu:zsu.Nodup:=by decide +kernel
theorem zyv:FnScope zsu ["roofs", "one", "other"] (zap zhh):=⟨rfl,rfl,rfl,zyu,rfl,by decide +kernel,by decide +kernel⟩
noncomputable abbrev zeb:Stmt:=top 18
noncomputable abbrev zks:List Str:=["book", "call", "web", "places", "rules", "call_roofs"]
theorem zeq:zks.Nodup:=by decide +kernel
theorem zpj:FnScope zks ["book", "call"] (zap zeb):=⟨rfl,rfl,rfl,zeq,rfl,by decide +kernel,by decide +kernel⟩
noncomputable abbrev zgi:Stmt:=top 19
noncomputable abbrev zqh:List Str:=["roofs", "rules"]
theorem zwh:zqh.Nodup:=by decide +kernel
theorem zwi:FnScope zqh ["roofs", "rules"] (zap zgi):=⟨rfl,rfl,rfl,zwh,rfl,by decide +kernel,by decide +kernel⟩
noncomputable abbrev zgj:Stmt:=top 20
noncomputable abbrev zqi:List Str:=["rules"]
theorem zwj:zqi.Nodup:=by decide +kernel
theorem zwk:FnScope zqi ["rules"] (zap zgj):=⟨rfl,rfl,rfl,zwj,rfl,by decide +kernel,by decide +kernel⟩
noncomputable abbrev zhi:Stmt:=top 21
noncomputable abbrev zsv:List Str:=["names"]
theorem zyw:zsv.Nodup:=by decide +kernel
theorem zyx:FnScope zsv ["names"] (zap zhi):=⟨rfl,rfl,rfl,zyw,rfl,by decide +kernel,by decide +kernel⟩
noncomputable abbrev zjw:Stmt:=top 22
noncomputable abbrev zyy:List Str:=["book", "call", "rules"]
theorem zur:zyy.Nodup:=by decide +kernel
theorem zafh:FnScope zyy ["book", "call"] (zap zjw):=⟨rfl,rfl,rfl,zur,rfl,by decide +kernel,by decide +kernel⟩
noncomputable abbrev zhj:Stmt:=top 23
noncomputable abbrev zsw:List Str:=["book", "call"]
theorem zyz:zsw.Nodup:=by decide +kernel
theorem zza:FnScope zsw ["book", "call"] (zap zhj):=⟨rfl,rfl,rfl,zyz,rfl,by decide +kernel,by decide +kernel⟩
noncomputable abbrev zjx:Stmt:=top 25
noncomputable abbrev zzb:List Str:=["kinds", "call_roofs", "places"]
theorem zus:zzb.Nodup:=by decide +kernel
theorem zafi:FnScope zzb ["kinds", "call_roofs"] (zap zjx):=⟨rfl,rfl,rfl,zus,rfl,by decide +kernel,by decide +kernel⟩
noncomputable abbrev zmm:Stmt:=top 26
noncomputable abbrev zadx:List Str:=["roofs", "fit", "kinds", "names"]
theorem zzc:zadx.Nodup:=by decide +kernel
theorem zajf:FnScope zadx ["roofs", "fit", "kinds"] (zap zmm):=⟨rfl,rfl,rfl,zzc,rfl,by decide +kernel,by decide +kernel⟩
noncomputable abbrev zafj:Stmt:=top 27
noncomputable abbrev zatw:List Str:=["book", "call", "fit", "web", "places", "rules", "roofs", "call_roofs", "paper", "name", "kinds"]
theorem zmz:zatw.Nodup:=by decide +kernel
theorem zatx:FnScope zatw ["book", "call"] (zap zafj):=⟨rfl,rfl,rfl,zmz,rfl,by decide +kernel,by decide +kernel⟩
noncomputable abbrev zmn:Stmt:=top 28
noncomputable abbrev zady:List Str:=["kinds", "call_roofs", "thing"]
theorem zajg:zady.Nodup:=by decide +kernel
theorem zajh:FnScope zady ["kinds", "call_roofs", "thing"] (zap zmn):=⟨rfl,rfl,rfl,zajg,rfl,by decide +kernel,by decide +kernel⟩
noncomputable abbrev zgk:Stmt:=top 29
noncomputable abbrev zqj:List Str:=["roofs", "fit", "kinds", "thing"]
theorem zwl:zqj.Nodup:=by decide +kernel
theorem zwm:FnScope zqj ["roofs", "fit", "kinds", "thing"] (zap zgk):=⟨rfl,rfl,rfl,zwl,rfl,by decide +kernel,by decide +kernel⟩
noncomputable abbrev zjy:Stmt:=top 30
noncomputable abbrev zzd:List Str:=["roofs", "call_roofs", "fit", "rule", "thing", "kinds"]
theorem zut:zzd.Nodup:=by decide +kernel
theorem zafk:FnScope zzd ["roofs", "call_roofs", "fit", "rule", "thing"] (zap zjy):=⟨rfl,rfl,rfl,zut,rfl,by decide +kernel,by decide +kernel⟩
noncomputable abbrev zpk:Stmt:=top 31
noncomputable abbrev zaji:List Str:=["book", "call", "answer", "paper", "fit", "web", "places", "rules", "roofs", "call_roofs", "near"]
theorem zji:zaji.Nodup:=by decide +kernel
theorem zamv:FnScope zaji ["book", "call", "answer", "paper"] (zap zpk):=⟨rfl,rfl,rfl,zji,rfl,by decide +kernel,by decide +kernel⟩
noncomputable abbrev zhk:Stmt:=top 33
noncomputable abbrev zsx:List Str:=["_law_script", "_law_many", "_law_seed", "_law_cell", "_law_found", "_law_k"]
theorem zgl:zsx.Nodup:=by decide +kernel
theorem zze:FnScope zsx ["_law_script", "_law_many"] (zap zhk):=⟨rfl,rfl,rfl,zgl,rfl,by decide +kernel,by decide +kernel⟩
noncomputable abbrev zhl:Stmt:=top 34
noncomputable abbrev zsy:List Str:=["_law_many", "_law_cell", "_law_letters", "_law_step", "_law_origin", "_law_stem", "_law_at", "_law_names_here", "_law_k", "_law_sign", "_law_own", "_law_turn"]
theorem zcu:zsy.Nodup:=by decide +kernel
theorem zzf:FnScope zsy ["_law_many", "_law_cell"] (zap zhl):=⟨rfl,rfl,rfl,zcu,rfl,by decide +kernel,by decide +kernel⟩
noncomputable abbrev zjz:Stmt:=top 35
noncomputable abbrev zzg:List Str:=["_law_cells", "_law_names_here", "_law_web_here", "_law_k", "_law_name", "_law_left", "_law_rest", "_law_elders", "_law_turn", "_law_at"]
theorem zfd:zzg.Nodup:=by decide +kernel
theorem zafl:FnScope zzg ["_law_cells", "_law_names_here"] (zap zjz):=⟨rfl,rfl,rfl,zfd,rfl,by decide +kernel,by decide +kernel⟩
noncomputable abbrev zmo:Stmt:=top 36
noncomputable abbrev zadz:List Str:=["_law_web_here", "_law_up_here", "_law_name", "_law_elders", "_law_own", "_law_elder", "_law_one"]
theorem ziz:zadz.Nodup:=by decide +kernel
theorem zajj:FnScope zadz ["_law_web_here"] (zap zmo):=⟨rfl,rfl,rfl,ziz,rfl,by decide +kernel,by decide +kernel⟩
noncomputable abbrev zhm:Stmt:=top 37
noncomputable abbrev zsz:List Str:=["_law_arm"]
theorem zzh:zsz.Nodup:=by decide +kernel
theorem zzi:FnScope zsz ["_law_arm"] (zap zhm):=⟨rfl,rfl,rfl,zzh,rfl,by decide +kernel,by decide +kernel⟩
noncomputable abbrev zit:Stmt:=top 38
noncomputable abbrev zuu:List Str:=["_law_cell", "_law_names_here", "_law_places", "_law_call_here", "_law_rest", "_law_many", "_law_place", "_law_at", "_law_by", "_law_more"]
theorem zee:zuu.Nodup:=by decide +kernel
theorem zabn:FnScope zuu ["_law_cell", "_law_names_here", "_law_places"] (zap zit):=⟨rfl,rfl,rfl,zee,rfl,by decide +kernel,by decide +kernel⟩
noncomputable abbrev zhn:Stmt:=top 39
noncomputable abbrev zta:List Str:=["_law_cells", "_law_names_here", "_law_up_here", "_law_call_here", "_law_titles", "_law_rules_here", "_law_k", "_law_title", "_law_rest", "_law_kinds", "_law_arm", "_law_pool"]
theorem zdo:zta.Nodup:=by decide +kernel
theorem zzj:FnScope zta ["_law_cells", "_law_names_here", "_law_up_here", "_law_call_here", "_law_titles"] (zap zhn):=⟨rfl,rfl,rfl,zdo,rfl,by decide +kernel,by decide +kernel⟩
noncomputable abbrev zmp:Stmt:=top 40
noncomputable abbrev zaea:List Str:=["_law_up_here", "_law_arm", "_law_kind"]
theorem zajk:zaea.Nodup:=by decide +kernel
theorem zajl:FnScope zaea ["_law_up_here", "_law_arm", "_law_kind"] (zap zmp):=⟨rfl,rfl,rfl,zajk,rfl,by decide +kernel,by decide +kernel⟩
noncomputable abbrev ziu:Stmt:=top 41
noncomputable abbrev zuv:List Str:=["_law_up_here", "_law_kinds", "_law_call_here", "_law_k", "_law_kind"]
theorem zno:zuv.Nodup:=by decide +kernel
theorem zabo:FnScope zuv ["_law_up_here", "_law_kinds", "_law_call_here"] (zap ziu):=⟨rfl,rfl,rfl,zno,rfl,by decide +kernel,by decide +kernel⟩
noncomputable abbrev ziv:Stmt:=top 42
noncomputable abbrev zuw:List Str:=["_law_up_here", "_law_rules_here", "_law_kinds", "_law_call_here", "_law_item_here", "_law_others"]
theorem ztb:zuw.Nodup:=by decide +kernel
theorem zabp:FnScope zuw ["_law_up_here", "_law_rules_here", "_law_kinds", "_law_call_here", "_law_item_here"] (zap ziv):=⟨rfl,rfl,rfl,ztb,rfl,by decide +kernel,by decide +kernel⟩
noncomputable abbrev zgm:Stmt:=top 43
noncomputable abbrev zqk:List Str:=["_law_up_here", "_law_rules_here", "_law_call_here", "_law_paper", "_law_near", "_law_k", "_law_rule", "_law_name", "_law_kinds"]
theorem zfp:zqk.Nodup:=by decide +kernel
theorem zwn:FnScope zqk ["_law_up_here", "_law_rules_here", "_law_call_here", "_law_paper"] (zap zgm):=⟨rfl,rfl,rfl,zfp,rfl,by decide +kernel,by decide +kernel⟩
noncomputable abbrev zho:Stmt:=top 44
noncomputable abbrev ztc:List Str:=["_law_book", "_law_up_here", "_law_call_here", "_law_paper", "_law_reply", "_law_others", "_law_other"]
theorem zhz:ztc.Nodup:=by decide +kernel
theorem zzk:FnScope ztc ["_law_book", "_law_up_here", "_law_call_here"] (zap zho):=⟨rfl,rfl,rfl,zhz,rfl,by decide +kernel,by decide +kernel⟩
noncomputable abbrev zwo:Stmt:=top 45
noncomputable abbrev zaty:List Str:=["_law_script", "_law_cells", "_law_places", "_law_names_here", "_law_web_here", "_law_up_here", "_law_calls", "_law_rules_here", "_law_handed", "_law_call_here"]
theorem zna:zaty.Nodup:=by decide +kernel
theorem zatz:FnScope zaty ["_law_script"] (zap zwo):=⟨rfl,rfl,rfl,zna,rfl,by decide +kernel,by decide +kernel⟩
theorem znb:(["name", "elders"]:List Str).Nodup:=by decide +kernel
theorem zja:(["arm", "name"]:List Str).Nodup:=by decide +kernel
theorem znp:(["arm", "roofs"]:List Str).Nodup:=by decide +kernel
theorem zkt:(["kind", "roof"]:List Str).Nodup:=by decide +kernel
theorem zlv:(["low", "high", "roofs"]:List Str).Nodup:=by decide +kernel
theorem zms:(["rule", "call_roofs"]:List Str).Nodup:=by decide +kernel
theorem zra:(["rule", "roofs", "rules"]:List Str).Nodup:=by decide +kernel
theorem zku:(["name", "kinds", "rule", "roofs"]:List Str).Nodup:=by decide +kernel
theorem zkv:(["name", "kinds"]:List Str).Nodup:=by decide +kernel
theorem zoo:(["place", "kind", "call_roofs"]:List Str).Nodup:=by decide +kernel
theorem zql:(["name", "others", "roofs", "kinds"]:List Str).Nodup:=by decide +kernel
theorem zkw:(["name", "others", "roofs", "kinds", "thing"]:List Str).Nodup:=by decide +kernel
theorem ztd:(["rule", "line", "fit", "roofs", "call_roofs"]:List Str).Nodup:=by decide +kernel
theorem zte:(["rule", "line"]:List Str).Nodup:=by decide +kernel
theorem ztz:(["_law_name", "_law_names_here", "_law_at", "_law_by"]:List Str).Nodup:=by decide +kernel
theorem ztf:(["_law_name", "_law_up_here", "_law_arm"]:List Str).Nodup:=by decide +kernel
theorem ztg:(["_law_one", "_law_name", "_law_up_here"]:List Str).Nodup:=by decide +kernel
theorem zlw:(["_law_one", "_law_row"]:List Str).Nodup:=by decide +kernel
theorem zzl:(["_law_name", "_law_up_here", "_law_kind"]:List Str).Nodup:=by decide +kernel
theorem znc:(["_law_name", "_law_other", "_law_item_here"]:List Str).Nodup:=by decide +kernel
theorem zkx:(["_law_one", "_law_other", "_law_up_here", "_law_kinds"]:List Str).Nodup:=by decide +kernel
theorem zky:(["_law_name", "_law_kinds"]:List Str).Nodup:=by decide +kernel
theorem zlx:(["_law_name", "_law_kinds"]:List Str).Nodup:=by decide +kernel
theorem zajm:(["_law_cell", "_law_places", "_law_names_here"]:List Str).Nodup:=by decide +kernel
theorem zzm:(["_law_name", "_law_elders"]:List Str).Nodup:=by decide +kernel
theorem zaua:(["_law_name", "_law_elders"]:List Str).Nodup:=by decide +kernel
noncomputable abbrev zux (P:Program) (w:World) (K:qB) (mg:Str→Option Value) (base:Heap):Prop:=Dn P w K mg base "is_whole" ["thing"] 1 (spD 1 zhf)
noncomputable abbrev zuy (P:Program) (w:World) (K:qB) (mg:Str→Option Value) (base:Heap):Prop:=Dn P w K mg base "names_of" ["web"] 1 (spD 1 zmh)
noncomputable abbrev zpl (P:Program) (w:World) (K:qB) (mg:Str→Option Value) (base:Heap):Prop:=Dn P w K mg base "names_in" ["arm"] 1 (spD 1 zcr)
noncomputable abbrev zop (P:Program) (w:World) (K:qB) (mg:Str→Option Value) (base:Heap):Prop:=Dn P w K mg base "check_kinds" ["web", "names"] 2 (spD 2 zgq)
noncomputable abbrev zka (P:Program) (w:World) (K:qB) (mg:Str→Option Value) (base:Heap):Prop:=Dn P w K mg base "roofs_of" ["web"] 1 (spD 1 zdz)
noncomputable abbrev zzn (P:Program) (w:World) (K:qB) (mg:Str→Option Value) (base:Heap):Prop:=Dn P w K mg base "roof_of" ["roofs", "arm"] 2 (spD 2 zli)
noncomputable abbrev zly (P:Program) (w:World) (K:qB) (mg:Str→Option Value) (base:Heap):Prop:=Dn P w K mg base "names_in_call" ["call"] 2 (spD 1 zgs)
noncomputable abbrev zqm (P:Program) (w:World) (K:qB) (mg:Str→Option Value) (base:Heap):Prop:=Dn P w K mg base "check_call" ["web", "places", "call"] 3 (spD 3 zjg)
noncomputable abbrev zgt (P:Program) (w:World) (K:qB) (mg:Str→Option Value) (base:Heap):Prop:=Dn P w K mg base "roofs_in_call" ["roofs", "call"] 3 (spD 2 zct)
noncomputable abbrev zlz (P:Program) (w:World) (K:qB) (mg:Str→Option Value) (base:Heap):Prop:=Dn P w K mg base "fits_under" ["kinds", "call_roofs"] 1 (spD 2 zet)
noncomputable abbrev zko (P:Program) (w:World) (K:qB) (mg:Str→Option Value) (base:Heap):Prop:=Dn P w K mg base "is_nearer" ["roofs", "one", "other"] 1 (spD 3 zdu)
noncomputable abbrev zfz (P:Program) (w:World) (K:qB) (mg:Str→Option Value) (base:Heap):Prop:=Dn P w K mg base "rules_that_fit" ["book", "call"] 4 (spD 2 zco)
noncomputable abbrev zma (P:Program) (w:World) (K:qB) (mg:Str→Option Value) (base:Heap):Prop:=Dn P w K mg base "nearest_of" ["roofs", "rules"] 2 (spD 2 zfl)
noncomputable abbrev zmb (P:Program) (w:World) (K:qB) (mg:Str→Option Value) (base:Heap):Prop:=Dn P w K mg base "rule_names" ["rules"] 1 (spD 1 zgf)
noncomputable abbrev znq (P:Program) (w:World) (K:qB) (mg:Str→Option Value) (base:Heap):Prop:=Dn P w K mg base "answer_by" ["names"] 1 (spD 1 zhd)
noncomputable abbrev zzo (P:Program) (w:World) (K:qB) (mg:Str→Option Value) (base:Heap):Prop:=Dn P w K mg base "nearest" ["book", "call"] 5 (spD 2 zok)
noncomputable abbrev zth (P:Program) (w:World) (K:qB) (mg:Str→Option Value) (base:Heap):Prop:=Dn P w K mg base "answer_of" ["book", "call"] 6 (spD 2 zgd)
noncomputable abbrev zzp (P:Program) (w:World) (K:qB) (mg:Str→Option Value) (base:Heap):Prop:=Dn P w K mg base "why_out" ["kinds", "call_roofs"] 1 (spD 2 zlr)
noncomputable abbrev zaeb (P:Program) (w:World) (K:qB) (mg:Str→Option Value) (base:Heap):Prop:=Dn P w K mg base "why_in" ["roofs", "fit", "kinds"] 2 (spD 3 zol)
noncomputable abbrev zaub (P:Program) (w:World) (K:qB) (mg:Str→Option Value) (base:Heap):Prop:=Dn P w K mg base "why" ["book", "call"] 5 (spD 2 zabf)
noncomputable abbrev zaec (P:Program) (w:World) (K:qB) (mg:Str→Option Value) (base:Heap):Prop:=Dn P w K mg base "is_out" ["kinds", "call_roofs", "thing"] 2 (spD 3 zrh)
noncomputable abbrev zqn (P:Program) (w:World) (K:qB) (mg:Str→Option Value) (base:Heap):Prop:=Dn P w K mg base "is_farther" ["roofs", "fit", "kinds", "thing"] 2 (spD 4 zjh)
noncomputable abbrev zzq (P:Program) (w:World) (K:qB) (mg:Str→Option Value) (base:Heap):Prop:=Dn P w K mg base "is_line" ["roofs", "call_roofs", "fit", "rule", "thing"] 3 (spD 5 zlq)
noncomputable abbrev zajn (P:Program) (w:World) (K:qB) (mg:Str→Option Value) (base:Heap):Prop:=Dn P w K mg base "shows" ["book", "call", "answer", "paper"] 5 (spD 4 zjm)
noncomputable abbrev zti (P:Program) (w:World) (K:qB) (mg:Str→Option Value) (base:Heap):Prop:=Dn P w K mg base "_law_names" ["_law_many", "_law_cell"] 1 (spD 2 zdh)
noncomputable abbrev zzr (P:Program) (w:World) (K:qB) (mg:Str→Option Value) (base:Heap):Prop:=Dn P w K mg base "_law_web" ["_law_cells", "_law_names_here"] 1 (spD 2 zle)
noncomputable abbrev zaed (P:Program) (w:World) (K:qB) (mg:Str→Option Value) (base:Heap):Prop:=Dn P w K mg base "_law_up" ["_law_web_here"] 1 (spD 1 zog)
noncomputable abbrev znr (P:Program) (w:World) (K:qB) (mg:Str→Option Value) (base:Heap):Prop:=Dn P w K mg base "_law_parts" ["_law_arm"] 1 (spD 1 zcr)
noncomputable abbrev zuz (P:Program) (w:World) (K:qB) (mg:Str→Option Value) (base:Heap):Prop:=Dn P w K mg base "_law_call" ["_law_cell", "_law_names_here", "_law_places"] 1 (spD 3 zhe)
noncomputable abbrev ztj (P:Program) (w:World) (K:qB) (mg:Str→Option Value) (base:Heap):Prop:=Dn P w K mg base "_law_rules" ["_law_cells", "_law_names_here", "_law_up_here", "_law_call_here", "_law_titles"] 2 (spD 5 zix)
noncomputable abbrev zwp (P:Program) (w:World) (K:qB) (mg:Str→Option Value) (base:Heap):Prop:=Dn P w K mg base "_law_on" ["_law_up_here", "_law_arm", "_law_kind"] 2 (spD 3 zkn)
noncomputable abbrev zpm (P:Program) (w:World) (K:qB) (mg:Str→Option Value) (base:Heap):Prop:=Dn P w K mg base "_law_fits" ["_law_up_here", "_law_kinds", "_law_call_here"] 3 (spD 3 zcd)
noncomputable abbrev zva (P:Program) (w:World) (K:qB) (mg:Str→Option Value) (base:Heap):Prop:=Dn P w K mg base "_law_item" ["_law_up_here", "_law_rules_here", "_law_kinds", "_law_call_here", "_law_item_here"] 4 (spD 5 zfc)
noncomputable abbrev zqo (P:Program) (w:World) (K:qB) (mg:Str→Option Value) (base:Heap):Prop:=Dn P w K mg base "_law_answer" ["_law_up_here", "_law_rules_here", "_law_call_here", "_law_paper"] 5 (spD 4 zfm)
noncomputable abbrev ztk (P:Program) (w:World) (K:qB) (mg:Str→Option Value) (base:Heap):Prop:=Dn P w K mg base "_law_right" ["_law_book", "_law_up_here", "_law_call_here"] 7 (spD 3 zbt)
section
variable {P:Program} {w:World} {K:qB} {mg:Str→Option Value} {base:Heap}
theorem zabq {f:Addr} {fd:qw} (F:Fun K "is_whole" "is_whole" zio f fd) (T:Txt mg)  : FnOk P w K mg base CX0 1 f fd ["thing"] (spD 1 zhf):=by
 refine F.ok zabh (fun vs H Q E h=>zcf h) (fun cdv A outer s H vs Q E hr h=>?_)
 have hu:=zfh hr
 apply Exists.intro
 apply And.intro
 ·refine' Bx.out (zak (zbd (zlk (zaz (zfx (K:=K) rfl) (by rfl) T.isinstance zcm (zaa (bv 0) (zaa (zhu (v:=.ty "int") (by rfl) T.int zadw rfl (by decide) (by decide)) zah (by rfl)) (by rfl)) (by decide) (by decide) (zaf (by rfl)) (by rfl)) (zlj (zaiv (zaz (zfx (K:=K) rfl) (by rfl) T.isinstance zcm (zaa (bv 0) (zaa (zhu (v:=.ty "bool") (by rfl) T.bool zys rfl (by decide) (by decide)) zah (by rfl)) (by rfl)) (by decide) (by decide) (zaf (by rfl)) (by rfl)))))))
 exact fn_d (f:=zum) ((zca (zpr (zmt (zad 0) zahk) (zaoc (zmt (zad 0) zacz))))) h
theorem zabr {f:Addr} {fd:qw} (F:Fun K "names_of" "names_of" ziq f fd) (T:Txt mg)  : FnOk P w K mg base CX0 1 f fd ["web"] (spD 1 zmh):=by
 refine F.ok zabj (fun vs H Q E h=>zcf h) (fun cdv A outer s H vs Q E hr h=>?_)
 have hu:=zfh hr
 apply Exists.intro
 apply And.intro
 ·refine' Bx.out (zak (zbd (zdb (zcc (N':=["name", "elders"]) (own:=["name", "elders"]) (fr:=[]) (by kernel_rfl)) rfl (zbx (K:=K) rfl (bv 0)) ?hb1 (by intro _;rfl))))
  case hb1=>(intro cl C s H fp;refine' ⟨Bx.out (zci (K:=K) (n:=2) rfl rfl (zau (zar (i:=0) znb rfl (Or.inl rfl) (by first|exact .inl rfl|exact .inr rfl|assumption)) (zau (zar (i:=1) znb rfl (Or.inl rfl) (by first|exact .inl rfl|exact .inr rfl|assumption)) zch (by rfl)) (by rfl)) (by rfl) (by rfl)),Bx.out zfg,Bx.out (bv 0)⟩)
 exact fn_d (f:=zjr) ((zca (zdl (zdj (zad 0)) (zek (zax (zax zdc))) (zig (zby (by decide) (zby (by decide) zfu))) zha (zad 0)))) h
theorem zabs {f:Addr} {fd:qw} (F:Fun K "names_in" "names_in" zir f fd) (T:Txt mg)  : FnOk P w K mg base CX0 1 f fd ["arm"] (spD 1 zcr):=by
 refine F.ok zabl (fun vs H Q E h=>zcf h) (fun cdv A outer s H vs Q E hr h=>?_)
 have hu:=zfh hr
 apply Exists.intro
 apply And.intro
 ·refine' Bx.out (zai (zcs (zcb (K:=K) rfl (zaz (zfx (K:=K) rfl) (by rfl) T.isinstance zcm (zaa (bv 0) (zaa (zhu (v:=.ty "tuple") (by rfl) T.tuple zen rfl (by decide) (by decide)) zah (by rfl)) (by rfl)) (by decide) (by decide) (zaf (by rfl)) (by rfl)) (fun _=>rfl)) (zak (zbd (zea (zjo (K:=K) rfl) (by rfl) T.list ziy (zaa (bv 0) zah (by rfl)) (by decide) (by decide) (zaf (by rfl)) (by rfl)))) zbs)
 (zak (zbd (zfv (zaa (bv 0) zah (by rfl))))))
 exact fn_d (f:=zpf) ((zav (zff (zfr (zmt (zad 0) zoc)) (zca (zdv zry (zac (zad 0) zal))) zdm) (zca (zif (zac (zad 0) zal))))) h
theorem zua {f:Addr} {fd:qw} (F:Fun K "check_kinds" "check_kinds" zfo f fd) (T:Txt mg) (D_names_of:zuy P w K mg base):FnOk P w K mg base CX0 2 f fd ["web", "names"] (spD 2 zgq):=by
 refine F.ok zty (fun vs H Q E h=>zcf h) (fun cdv A outer s H vs Q E hr h=>?_)
 have hu:=zfh hr
 apply Exists.intro
 apply And.intro
 ·refine' Bx.out (zai (zbi (i:=2) zjn rfl (Or.inl rfl) (zbo D_names_of (hr.mono (by decide)) (by rfl) (zaa (bv 0) zah (by rfl)) (by decide) (zaf (by rfl)) (by rfl)) (by rfl) (.inl rfl))
 (zak (zev qu rfl (zbx (K:=K) rfl (bv 1)) (zar (i:=3) zjn rfl (Or.inl rfl) (.inl rfl))
  (zak (zcs (zbm (zrp (K:=K) rfl) (bv 3) (bv 2) (by rfl)) (zak zyo) zbs)) (by intro _;rfl))))
 exact fn_d (f:=zgp) ((zav (zbq (zbe (zac (zad 0) zal))) (zgz (zdj (zad 1)) zej (zff (st_t (zbc zahh (zad 3) (zad 2))) zadb zdm)))) h
theorem zabt {f:Addr} {fd:qw} (F:Fun K "roofs_of" "roofs_of" zis f fd) (T:Txt mg)  : FnOk P w K mg base CX0 1 f fd ["web"] (spD 1 zdz):=by
 refine F.ok zabm (fun vs H Q E h=>zcf h) (fun cdv A outer s H vs Q E hr h=>?_)
 have hu:=zfh hr
 apply Exists.intro
 apply And.intro
 ·refine' Bx.out (zai (zbi (i:=1) zhg rfl (Or.inl rfl) zso (by rfl) (.inl rfl))
 (zai (zev qu rfl (zbx (K:=K) rfl (bv 0)) (zci (K:=K) (n:=2) rfl rfl (zau (zar (i:=2) zhg rfl (Or.inl rfl) (.inl rfl)) (zau (zar (i:=3) zhg rfl (Or.inl rfl) (.inl rfl)) zch (by rfl)) (by rfl)) (by rfl) (by rfl))
  (zai (zbi (i:=4) zhg rfl (Or.inl rfl) (zamr (zaiu (bv 2) zhy zamq) rfl rfl (by simp) (by decide)) (by rfl) (.inl rfl))
 (zai (zev qu rfl (zbx (K:=K) rfl (bv 3)) (zar (i:=5) zhg rfl (Or.inl rfl) (.inl rfl))
  (zak (zdf (zex (K:=K) rfl qCN qCF qCE zxu (bv 4) (zaa (zmk hu (bv 1) (bv 5) (fun _ _=>rfl)) zah (by rfl)) (by rfl) (by rfl) (by rfl) (zaf (by rfl)) (by rfl)) (by rfl))) (by intro _;rfl))
 (zak (zadr hu (bv 1) (bv 2) (bv 4) rfl)))) (by intro _;rfl))
 (zak (zbd (bv 1)))))
 exact fn_d (f:=zuh) ((zav (zbq zaaz) (zav (zgz (zdj (zad 0)) (zek (zax (zax zdc))) (zav (zbq (zava (zad 2) (se_c fun _=>zbb))) (zav (zgz (zdj (zad 3)) zej (zaoe (zmg (zad 5)))) (zaod (zad 2) (zad 4))))) znj))) h
theorem zafm {f:Addr} {fd:qw} (F:Fun K "roof_of" "roof_of" zjv f fd) (T:Txt mg) (D_names_in:zpl P w K mg base):FnOk P w K mg base CX0 2 f fd ["roofs", "arm"] (spD 2 zli):=by
 refine F.ok zafg (fun vs H Q E h=>zcf h) (fun cdv A outer s H vs Q E hr h=>?_)
 have hu:=zfh hr
 apply Exists.intro
 apply And.intro
 ·refine' Bx.out (zai (zbi (i:=2) zpi rfl (Or.inl rfl) zso (by rfl) (.inl rfl))
 (zai (zev qu rfl (zbx (K:=K) rfl (zbo D_names_in (hr.mono (by decide)) (by rfl) (zaa (bv 1) zah (by rfl)) (by decide) (zaf (by rfl)) (by rfl))) (zar (i:=3) zpi rfl (Or.inl rfl) (.inl rfl))
  (zak (zdf (zex (K:=K) rfl qCN qCF qCE zxu (bv 2) (zaa (zmk hu (bv 0) (bv 3) (fun _ _=>rfl)) zah (by rfl)) (by rfl) (by rfl) (by rfl) (zaf (by rfl)) (by rfl)) (by rfl))) (by intro _;rfl))
 (zak (zbd (bv 2)))))
 exact fn_d (f:=zyk) ((zav (zbq zaaz) (zav (zgz (zdj (zbe (zac (zad 1) zal))) zej (zaoe (zmg (zad 3)))) znj))) h
theorem zrb {f:Addr} {fd:qw} (F:Fun K "names_in_call" "names_in_call" zeo f fd) (T:Txt mg) (D_names_in:zpl P w K mg base):FnOk P w K mg base CX0 2 f fd ["call"] (spD 1 zgs):=by
 refine F.ok zqx (fun vs H Q E h=>zcf h) (fun cdv A outer s H vs Q E hr h=>?_)
 have hu:=zfh hr
 apply Exists.intro
 apply And.intro
 ·refine' Bx.out (zak (zbd (zaiy (zcc (N':=["arm", "name"]) (own:=["arm", "name"]) (fr:=[]) (by kernel_rfl)) rfl (zbx (K:=K) rfl (bv 0)) ?hb1 (by intro _;rfl) (by intro _ _;rfl))))
  case hb1=>(intro cl C s H fp;refine' ⟨Bx.out (zar (i:=0) zja rfl (Or.inl rfl) (by first|exact .inl rfl|exact .inr rfl|assumption)),Bx.out zfg,Bx.out (zbx (K:=K) rfl (zbo D_names_in (hr.mono (by decide)) (by rfl) (zaa (bv 0) zah (by rfl)) (by decide) (zaf (by rfl)) (by rfl))),Bx.out (zar (i:=1) zja rfl (Or.inl rfl) (by first|exact .inl rfl|exact .inr rfl|assumption)),Bx.out zfg,Bx.out (bv 1)⟩)
 exact fn_d (f:=zlo) ((zca (zamh (k:=1) (zdj (zad 0)) zej (zail (by decide) (by decide)) (by decide) zha (zdj (zbe (zac (zad 0) zal))) zej (zail (by decide) (by decide)) zha (zad 1)))) h
theorem zwq {f:Addr} {fd:qw} (F:Fun K "check_call" "check_call" zgg f fd) (T:Txt mg) (D_check_kinds:zop P w K mg base) (D_names_in_call:zly P w K mg base):FnOk P w K mg base CX0 3 f fd ["web", "places", "call"] (spD 3 zjg):=by
 refine F.ok zwe (fun vs H Q E h=>zcf h) (fun cdv A outer s H vs Q E hr h=>?_)
 have hu:=zfh hr
 apply Exists.intro
 apply And.intro
 ·refine' Bx.out (zai (zcs (zbm (zpv (K:=K) rfl hr.units) (zaz (zbz (K:=K) rfl) (by rfl) T.len zck (zaa (bv 2) zah (by rfl)) (by decide) (by decide) (zaf (by rfl)) (by rfl)) (bv 1) (zcp _)) (zak zyo) zbs)
 (zak (zdf (zbo D_check_kinds (hr.mono (by decide)) (by rfl) (zaa (bv 0) (zaa (zbo D_names_in_call (hr.mono (by decide)) (by rfl) (zaa (bv 2) zah (by rfl)) (by decide) (zaf (by rfl)) (by rfl)) zah (by rfl)) (by rfl)) (by decide) (zaf (by rfl)) (by rfl)) (by rfl))))
 exact fn_d (f:=zpz) ((zav (zff (st_t (zbc zxw (zdv zfa (zac (zad 2) zal)) (zad 1))) zadb zdm) (zahn (zbe (zac (zad 0) (zac (zbe (zac (zad 2) zal)) zal)))))) h
theorem zrc {f:Addr} {fd:qw} (F:Fun K "roofs_in_call" "roofs_in_call" zep f fd) (T:Txt mg) (D_roof_of:zzn P w K mg base):FnOk P w K mg base CX0 3 f fd ["roofs", "call"] (spD 2 zct):=by
 refine F.ok zqz (fun vs H Q E h=>zcf h) (fun cdv A outer s H vs Q E hr h=>?_)
 have hu:=zfh hr
 apply Exists.intro
 apply And.intro
 ·refine' Bx.out (zak (zbd (zdb (zcc (N':=["arm", "roofs"]) (own:=["arm"]) (fr:=[0]) (by kernel_rfl)) rfl (zbx (K:=K) rfl (bv 1)) ?hb1 (by intro _;rfl))))
  case hb1=>(intro cl C s H fp;refine' ⟨Bx.out (zar (i:=0) znp rfl (Or.inl rfl) (by first|exact .inl rfl|exact .inr rfl|assumption)),Bx.out zfg,Bx.out (zbo D_roof_of (hr.mono (by decide)) (by rfl) (zaa (bv 1) (zaa (bv 0) zah (by rfl)) (by rfl)) (by decide) (zaf (by rfl)) (by rfl))⟩)
 exact fn_d (f:=zlp) ((zca (zdl (zdj (zad 1)) zej (zld (by decide)) zha (zbe (zac (zad 1) (zac (zad 0) zal)))))) h
theorem zwr {f:Addr} {fd:qw} (F:Fun K "fits_under" "fits_under" zgh f fd) (T:Txt mg)  : FnOk P w K mg base CX0 1 f fd ["kinds", "call_roofs"] (spD 2 zet):=by
 refine F.ok zwg (fun vs H Q E h=>zcf h) (fun cdv A outer s H vs Q E hr h=>?_)
 have hu:=zfh hr
 apply Exists.intro
 apply And.intro
 ·refine' Bx.out (zak (zbd (zaz (zrq (K:=K) rfl rfl) (by rfl) T.all zwc (zaa (zdb (zcc (N':=["kind", "roof"]) (own:=["kind", "roof"]) (fr:=[]) (by kernel_rfl)) rfl (zwb (K:=K) rfl rfl T.zip (zaa (bv 0) (zaa (bv 1) zah (by rfl)) (by rfl)) (by rfl) (by rfl)) ?hb1 (by intro _;rfl)) zah (by rfl)) (by decide) (by decide) (zaf (by rfl)) (by rfl))))
  case hb1=>(intro cl C s H fp;refine' ⟨Bx.out (zci (K:=K) (n:=2) rfl rfl (zau (zar (i:=0) zkt rfl (Or.inl rfl) (by first|exact .inl rfl|exact .inr rfl|assumption)) (zau (zar (i:=1) zkt rfl (Or.inl rfl) (by first|exact .inl rfl|exact .inr rfl|assumption)) zch (by rfl)) (by rfl)) (by rfl) (by rfl)),Bx.out zfg,Bx.out (zabd (zaiz hu (bv 0) (bv 1)) (by rfl))⟩)
 exact fn_d (f:=zqa) ((zca (zdv zps (zac (zdl (zadp (zac (zad 0) (zac (zad 1) zal))) (zek (zax (zax zdc))) (zig (zby (by decide) (zby (by decide) zfu))) zha (zaob (zad 0) (zad 1))) zal)))) h
theorem zzs {f:Addr} {fd:qw} (F:Fun K "is_nearer" "is_nearer" zhh f fd) (T:Txt mg)  : FnOk P w K mg base CX0 1 f fd ["roofs", "one", "other"] (spD 3 zdu):=by
 refine F.ok zyv (fun vs H Q E h=>zcf h) (fun cdv A outer s H vs Q E hr h=>?_)
 have hu:=zfh hr
 apply Exists.intro
 apply And.intro
 ·refine' Bx.out (zak (zbd (zlk (zht (zpv (K:=K) rfl hr.units) (bv 1) (bv 2) (zcp _)) (zlj (zaz (zrq (K:=K) rfl rfl) (by rfl) T.all zwc (zaa (zdb (zcc (N':=["low", "high", "roofs"]) (own:=["low", "high"]) (fr:=[0]) (by kernel_rfl)) rfl (zwb (K:=K) rfl rfl T.zip (zaa (bv 1) (zaa (bv 2) zah (by rfl)) (by rfl)) (by rfl) (by rfl)) ?hb1 (by intro _;rfl)) zah (by rfl)) (by decide) (by decide) (zaf (by rfl)) (by rfl))))))
  case hb1=>(intro cl C s H fp;refine' ⟨Bx.out (zci (K:=K) (n:=2) rfl rfl (zau (zar (i:=0) zlv rfl (Or.inl rfl) (by first|exact .inl rfl|exact .inr rfl|assumption)) (zau (zar (i:=1) zlv rfl (Or.inl rfl) (by first|exact .inl rfl|exact .inr rfl|assumption)) zch (by rfl)) (by rfl)) (by rfl) (by rfl)),Bx.out zfg,Bx.out (zabd (zaiz hu (bv 1) (zmk hu (bv 2) (bv 0) (fun _ _=>rfl))) (by rfl))⟩)
 exact fn_d (f:=zsq) ((zca (zpr (zbc zxw (zad 1) (zad 2)) (zdv zps (zac (zdl (zadp (zac (zad 1) (zac (zad 2) zal))) (zek (zax (zax zdc))) (zig (zby (by decide) (zby (by decide) zfu))) zha (zaob (zad 1) (zmg (zad 0)))) zal))))) h
theorem zpn {f:Addr} {fd:qw} (F:Fun K "rules_that_fit" "rules_that_fit" zeb f fd) (T:Txt mg) (D_check_call:zqm P w K mg base) (D_fits_under:zlz P w K mg base) (D_roofs_in_call:zgt P w K mg base) (D_roofs_of:zka P w K mg base):FnOk P w K mg base CX0 4 f fd ["book", "call"] (spD 2 zco):=by
 refine F.ok zpj (fun vs H Q E h=>zcf h) (fun cdv A outer s H vs Q E hr h=>?_)
 have hu:=zfh hr
 apply Exists.intro
 apply And.intro
 ·refine' Bx.out (zai (zabc (bv 0) (zci (K:=K) (n:=3) rfl rfl (zau (zar (i:=2) zeq rfl (Or.inl rfl) (.inl rfl)) (zau (zar (i:=3) zeq rfl (Or.inl rfl) (.inl rfl)) (zau (zar (i:=4) zeq rfl (Or.inl rfl) (.inl rfl)) zch (by rfl)) (by rfl)) (by rfl)) (by rfl) (by rfl)) (by rfl) (by rfl) (by rfl))
 (zai (zdf (zbo D_check_call (hr.mono (by decide)) (by rfl) (zaa (bv 2) (zaa (bv 3) (zaa (bv 1) zah (by rfl)) (by rfl)) (by rfl)) (by decide) (zaf (by rfl)) (by rfl)) (by rfl))
 (zai (zbi (i:=5) zeq rfl (Or.inr rfl) (zbo D_roofs_in_call (hr.mono (by decide)) (by rfl) (zaa (zbo D_roofs_of (hr.mono (by decide)) (by rfl) (zaa (bv 2) zah (by rfl)) (by decide) (zaf (by rfl)) (by rfl)) (zaa (bv 1) zah (by rfl)) (by rfl)) (by decide) (zaf (by rfl)) (by rfl)) (by rfl) (.inl rfl))
 (zak (zbd (zdb (zcc (N':=["rule", "call_roofs"]) (own:=["rule"]) (fr:=[5]) (by kernel_rfl)) rfl (zbx (K:=K) rfl (bv 4)) ?hb1 (by intro _;rfl)))))))
  case hb1=>(intro cl C s H fp;refine' ⟨Bx.out (zar (i:=0) zms rfl (Or.inl rfl) (by first|exact .inl rfl|exact .inr rfl|assumption)),Bx.out (zll (zcb (K:=K) rfl (zbo D_fits_under (hr.mono (by decide)) (by rfl) (zaa (zbn (zcn (K:=K) rfl) (bv 0) zam (fun _ _=>rfl)) (zaa (bv 1) zah (by rfl)) (by rfl)) (by decide) (zaf (by rfl)) (by rfl)) (fun _=>rfl))),Bx.out (bv 0)⟩)
 exact fn_d (f:=zkr) ((zav (zaho (zad 0) (zek (zax (zax (zax zdc))))) (zav (zahn (zbe (zac (zad 2) (zac (zad 3) (zac (zad 1) zal))))) (zav (zbq (zbe (zac (zbe (zac (zad 2) zal)) (zac (zad 1) zal)))) (zca (zdl (zdj (zad 4)) zej (zld (by decide)) (zfr (zbe (zac (zbr (se_c fun _=>zag)) (zac (zad 1) zal)))) (zad 0))))))) h
theorem zws {f:Addr} {fd:qw} (F:Fun K "nearest_of" "nearest_of" zgi f fd) (T:Txt mg) (D_is_nearer:zko P w K mg base):FnOk P w K mg base CX0 2 f fd ["roofs", "rules"] (spD 2 zfl):=by
 refine F.ok zwi (fun vs H Q E h=>zcf h) (fun cdv A outer s H vs Q E hr h=>?_)
 have hu:=zfh hr
 apply Exists.intro
 apply And.intro
 ·refine' Bx.out (zak (zbd (zdb (zcc (N':=["rule", "roofs", "rules"]) (own:=["rule"]) (fr:=[0,1]) (by kernel_rfl)) rfl (zbx (K:=K) rfl (bv 1)) ?hb1 (by intro _;rfl))))
  case hb1=>(intro cl C s H fp;refine' ⟨Bx.out (zar (i:=0) zra rfl (Or.inr rfl) (by first|exact .inl rfl|exact .inr rfl|assumption)),Bx.out (zll (zgr (zcb (K:=K) rfl (zaz (zlc (K:=K) rfl rfl) (by rfl) T.any zom (zaa (zdb (zcc (N':=["name", "kinds", "rule", "roofs"]) (own:=["name", "kinds"]) (fr:=[0,1]) (by kernel_rfl)) rfl (zbx (K:=K) rfl (bv 2)) ?hb2 (by intro _;rfl)) zah (by rfl)) (by decide) (by decide) (zaf (by rfl)) (by rfl)) (fun _=>rfl)))),Bx.out (bv 0)⟩;case hb2=>(intro cl C s H fp;refine' ⟨Bx.out (zci (K:=K) (n:=2) rfl rfl (zau (zar (i:=0) zku rfl (Or.inl rfl) (by first|exact .inl rfl|exact .inr rfl|assumption)) (zau (zar (i:=1) zku rfl (Or.inl rfl) (by first|exact .inl rfl|exact .inr rfl|assumption)) zch (by rfl)) (by rfl)) (by rfl) (by rfl)),Bx.out zfg,Bx.out (zbo D_is_nearer (hr.mono (by decide)) (by rfl) (zaa (bv 3) (zaa (bv 1) (zaa (zbn (zcn (K:=K) rfl) (bv 2) zam (fun _ _=>rfl)) zah (by rfl)) (by rfl)) (by rfl)) (by decide) (zaf (by rfl)) (by rfl))⟩))
 exact fn_d (f:=zqb) ((zca (zdl (zdj (zad 1)) zej (zld (by decide)) (zje (zfr (zdv zps (zac (zdl (zdj (zad 2)) (zek (zax (zax zdc))) (zig (zby (by decide) (zby (by decide) zfu))) zha (zbe (zac (zad 3) (zac (zad 1) (zac (zbr (se_c fun _=>zag)) zal))))) zal)))) (zad 0)))) h
theorem zwt {f:Addr} {fd:qw} (F:Fun K "rule_names" "rule_names" zgj f fd) (T:Txt mg)  : FnOk P w K mg base CX0 1 f fd ["rules"] (spD 1 zgf):=by
 refine F.ok zwk (fun vs H Q E h=>zcf h) (fun cdv A outer s H vs Q E hr h=>?_)
 have hu:=zfh hr
 apply Exists.intro
 apply And.intro
 ·refine' Bx.out (zak (zbd (zdb (zcc (N':=["name", "kinds"]) (own:=["name", "kinds"]) (fr:=[]) (by kernel_rfl)) rfl (zbx (K:=K) rfl (bv 0)) ?hb1 (by intro _;rfl))))
  case hb1=>(intro cl C s H fp;refine' ⟨Bx.out (zci (K:=K) (n:=2) rfl rfl (zau (zar (i:=0) zkv rfl (Or.inl rfl) (by first|exact .inl rfl|exact .inr rfl|assumption)) (zau (zar (i:=1) zkv rfl (Or.inl rfl) (by first|exact .inl rfl|exact .inr rfl|assumption)) zch (by rfl)) (by rfl)) (by rfl) (by rfl)),Bx.out zfg,Bx.out (bv 0)⟩)
 exact fn_d (f:=zqc) ((zca (zdl (zdj (zad 0)) (zek (zax (zax zdc))) (zig (zby (by decide) (zby (by decide) zfu))) zha (zad 0)))) h
theorem zzt {f:Addr} {fd:qw} (F:Fun K "answer_by" "answer_by" zhi f fd) (T:Txt mg)  : FnOk P w K mg base CX0 1 f fd ["names"] (spD 1 zhd):=by
 refine F.ok zyx (fun vs H Q E h=>zcf h) (fun cdv A outer s H vs Q E hr h=>?_)
 have hu:=zfh hr
 apply Exists.intro
 apply And.intro
 ·refine' Bx.out (zai (zcs (zgr (zcb (K:=K) rfl (bv 0) (fun _=>rfl))) (zak (zbd (zcx (zaa zcl zah (by rfl))))) zbs)
 (zai (zcs (zbm (zer (K:=K) rfl hr.units) (zaz (zbz (K:=K) rfl) (by rfl) T.len zck (zaa (bv 0) zah (by rfl)) (by decide) (by decide) (zaf (by rfl)) (by rfl)) zam (zcp _)) (zak (zbd (zcx (zaa zcl (zaa (zbn (zcn (K:=K) rfl) (bv 0) zam (fun _ _=>rfl)) zah (by rfl)) (by rfl))))) zbs)
 (zak (zbd (zcx (zaa zcl (zaa (zea (zgc (K:=K) rfl) (by rfl) T.tuple zen (zaa (bv 0) zah (by rfl)) (by decide) (by decide) (zaf (by rfl)) (by rfl)) zah (by rfl)) (by rfl)))))))
 exact fn_d (f:=zsr) ((zav (zff (zje (zfr (zad 0))) (zca (zei (zac (se_c fun _=>zbk) zal))) zdm) (zav (zff (st_t (zbc zhx (zdv zfa (zac (zad 0) zal)) (se_c fun _=>zag))) (zca (zei (zac (se_c fun _=>zbk) (zac (zbr (se_c fun _=>zag)) zal)))) zdm) (zca (zei (zac (se_c fun _=>zbk) (zac (zdv zkf (zac (zad 0) zal)) zal))))))) h
theorem zafn {f:Addr} {fd:qw} (F:Fun K "nearest" "nearest" zjw f fd) (T:Txt mg) (D_nearest_of:zma P w K mg base) (D_roofs_of:zka P w K mg base) (D_rule_names:zmb P w K mg base) (D_rules_that_fit:zfz P w K mg base):FnOk P w K mg base CX0 5 f fd ["book", "call"] (spD 2 zok):=by
 refine F.ok zafh (fun vs H Q E h=>zcf h) (fun cdv A outer s H vs Q E hr h=>?_)
 have hu:=zfh hr
 apply Exists.intro
 apply And.intro
 ·refine' Bx.out (zai (zbi (i:=2) zur rfl (Or.inl rfl) (zbo D_rules_that_fit (hr.mono (by decide)) (by rfl) (zaa (bv 0) (zaa (bv 1) zah (by rfl)) (by rfl)) (by decide) (zaf (by rfl)) (by rfl)) (by rfl) (.inl rfl))
 (zak (zbd (zbo D_rule_names (hr.mono (by decide)) (by rfl) (zaa (zbo D_nearest_of (hr.mono (by decide)) (by rfl) (zaa (zbo D_roofs_of (hr.mono (by decide)) (by rfl) (zaa (zbn (zcn (K:=K) rfl) (bv 0) zam (fun _ _=>rfl)) zah (by rfl)) (by decide) (zaf (by rfl)) (by rfl)) (zaa (bv 2) zah (by rfl)) (by rfl)) (by decide) (zaf (by rfl)) (by rfl)) zah (by rfl)) (by decide) (zaf (by rfl)) (by rfl)))))
 exact fn_d (f:=zyp) ((zav (zbq (zbe (zac (zad 0) (zac (zad 1) zal)))) (zca (zbe (zac (zbe (zac (zbe (zac (zbr (se_c fun _=>zag)) zal)) (zac (zad 2) zal))) zal))))) h
theorem zzu {f:Addr} {fd:qw} (F:Fun K "answer_of" "answer_of" zhj f fd) (T:Txt mg) (D_answer_by:znq P w K mg base) (D_nearest:zzo P w K mg base):FnOk P w K mg base CX0 6 f fd ["book", "call"] (spD 2 zgd):=by
 refine F.ok zza (fun vs H Q E h=>zcf h) (fun cdv A outer s H vs Q E hr h=>?_)
 have hu:=zfh hr
 apply Exists.intro
 apply And.intro
 ·refine' Bx.out (zak (zbd (zbo D_answer_by (hr.mono (by decide)) (by rfl) (zaa (zbo D_nearest (hr.mono (by decide)) (by rfl) (zaa (bv 0) (zaa (bv 1) zah (by rfl)) (by rfl)) (by decide) (zaf (by rfl)) (by rfl)) zah (by rfl)) (by decide) (zaf (by rfl)) (by rfl))))
 exact fn_d (f:=zss) ((zca (zbe (zac (zbe (zac (zad 0) (zac (zad 1) zal))) zal)))) h
theorem zafo {f:Addr} {fd:qw} (F:Fun K "why_out" "why_out" zjx f fd) (T:Txt mg)  : FnOk P w K mg base CX0 1 f fd ["kinds", "call_roofs"] (spD 2 zlr):=by
 refine F.ok zafi (fun vs H Q E h=>zcf h) (fun cdv A outer s H vs Q E hr h=>?_)
 have hu:=zfh hr
 apply Exists.intro
 apply And.intro
 ·refine' Bx.out (zai (zjt (i:=2) (zcc (N':=["place", "kind", "call_roofs"]) (own:=["place", "kind"]) (fr:=[1]) (by kernel_rfl)) rfl (zln (K:=K) rfl rfl T.enumerate (zaa (bv 0) zah (by rfl)) (by rfl)) ?hb1 (by rfl) zus rfl rfl (by intro _;rfl))
 (zak (zbd (zcx (zaa zcl (zaa (zbn (zcn (K:=K) rfl) (bv 2) zam (fun _ _=>rfl)) zah (by rfl)) (by rfl))))))
  case hb1=>(intro cl C s H fp;refine' ⟨Bx.out (zci (K:=K) (n:=2) rfl rfl (zau (zar (i:=0) zoo rfl (Or.inl rfl) (by first|exact .inl rfl|exact .inr rfl|assumption)) (zau (zar (i:=1) zoo rfl (Or.inl rfl) (by first|exact .inl rfl|exact .inr rfl|assumption)) zch (by rfl)) (by rfl)) (by rfl) (by rfl)),Bx.out (zll (zaja (zuk hu (bv 1) (zbn (zcn (K:=K) rfl) (bv 2) (bv 0) (fun _ _=>rfl))) (by rfl))),Bx.out (bv 0)⟩)
 exact fn_d (f:=zyr) ((zav (zbq (zdl (zvz (zac (zad 0) zal)) (zek (zax (zax zdc))) (zig (zby (by decide) (zby (by decide) zfu))) (st_b (zxx (zad 1) (zbr (zad 0)))) (zad 0))) (zca (zei (zac (se_c fun _=>zbk) (zac (zbr (se_c fun _=>zag)) zal)))))) h
theorem zajo {f:Addr} {fd:qw} (F:Fun K "why_in" "why_in" zmm f fd) (T:Txt mg) (D_is_nearer:zko P w K mg base):FnOk P w K mg base CX0 2 f fd ["roofs", "fit", "kinds"] (spD 3 zol):=by
 refine F.ok zajf (fun vs H Q E h=>zcf h) (fun cdv A outer s H vs Q E hr h=>?_)
 have hu:=zfh hr
 apply Exists.intro
 apply And.intro
 ·refine' Bx.out (zai (zjt (i:=3) (zcc (N':=["name", "others", "roofs", "kinds"]) (own:=["name", "others"]) (fr:=[0,2]) (by kernel_rfl)) rfl (zbx (K:=K) rfl (bv 1)) ?hb1 (by rfl) zzc rfl rfl (by intro _;rfl))
 (zai (zcs (zcb (K:=K) rfl (bv 3) (fun _=>rfl)) (zak (zbd (zcx (zaa zcl (zaa (zbn (zcn (K:=K) rfl) (bv 3) zam (fun _ _=>rfl)) zah (by rfl)) (by rfl))))) zbs)
 (zak (zbd (zcx (zaa zcl zah (by rfl)))))))
  case hb1=>(intro cl C s H fp;refine' ⟨Bx.out (zci (K:=K) (n:=2) rfl rfl (zau (zar (i:=0) zql rfl (Or.inl rfl) (by first|exact .inl rfl|exact .inr rfl|assumption)) (zau (zar (i:=1) zql rfl (Or.inl rfl) (by first|exact .inl rfl|exact .inr rfl|assumption)) zch (by rfl)) (by rfl)) (by rfl) (by rfl)),Bx.out (zll (zcb (K:=K) rfl (zbo D_is_nearer (hr.mono (by decide)) (by rfl) (zaa (bv 2) (zaa (bv 1) (zaa (bv 3) zah (by rfl)) (by rfl)) (by rfl)) (by decide) (zaf (by rfl)) (by rfl)) (fun _=>rfl))),Bx.out (bv 0)⟩)
 exact fn_d (f:=zadv) ((zav (zbq (zdl (zdj (zad 1)) (zek (zax (zax zdc))) (zig (zby (by decide) (zby (by decide) zfu))) (zfr (zbe (zac (zad 2) (zac (zad 1) (zac (zad 3) zal))))) (zad 0))) (zav (zff (zfr (zad 3)) (zca (zei (zac (se_c fun _=>zbk) (zac (zbr (se_c fun _=>zag)) zal)))) zdm) (zca (zei (zac (se_c fun _=>zbk) zal)))))) h
theorem zauc {f:Addr} {fd:qw} (F:Fun K "why" "why" zafj f fd) (T:Txt mg) (D_fits_under:zlz P w K mg base) (D_roofs_in_call:zgt P w K mg base) (D_roofs_of:zka P w K mg base) (D_rules_that_fit:zfz P w K mg base) (D_why_in:zaeb P w K mg base) (D_why_out:zzp P w K mg base):FnOk P w K mg base CX0 5 f fd ["book", "call"] (spD 2 zabf):=by
 refine F.ok zatx (fun vs H Q E h=>zcf h) (fun cdv A outer s H vs Q E hr h=>?_)
 have hu:=zfh hr
 apply Exists.intro
 apply And.intro
 ·refine' Bx.out (zai (zbi (i:=2) zmz rfl (Or.inl rfl) (zbo D_rules_that_fit (hr.mono (by decide)) (by rfl) (zaa (bv 0) (zaa (bv 1) zah (by rfl)) (by rfl)) (by decide) (zaf (by rfl)) (by rfl)) (by rfl) (.inl rfl))
 (zai (zabc (bv 0) (zci (K:=K) (n:=3) rfl rfl (zau (zar (i:=3) zmz rfl (Or.inl rfl) (.inl rfl)) (zau (zar (i:=4) zmz rfl (Or.inl rfl) (.inl rfl)) (zau (zar (i:=5) zmz rfl (Or.inl rfl) (.inl rfl)) zch (by rfl)) (by rfl)) (by rfl)) (by rfl) (by rfl)) (by rfl) (by rfl) (by rfl))
 (zai (zbi (i:=6) zmz rfl (Or.inl rfl) (zbo D_roofs_of (hr.mono (by decide)) (by rfl) (zaa (bv 3) zah (by rfl)) (by decide) (zaf (by rfl)) (by rfl)) (by rfl) (.inl rfl))
 (zai (zbi (i:=7) zmz rfl (Or.inl rfl) (zbo D_roofs_in_call (hr.mono (by decide)) (by rfl) (zaa (bv 6) (zaa (bv 1) zah (by rfl)) (by rfl)) (by decide) (zaf (by rfl)) (by rfl)) (by rfl) (.inl rfl))
 (zai (zbi (i:=8) zmz rfl (Or.inl rfl) (zfv zah) (by rfl) (.inl rfl))
 (zai (zev qu rfl (zbx (K:=K) rfl (bv 5)) (zci (K:=K) (n:=2) rfl rfl (zau (zar (i:=9) zmz rfl (Or.inl rfl) (.inl rfl)) (zau (zar (i:=10) zmz rfl (Or.inl rfl) (.inl rfl)) zch (by rfl)) (by rfl)) (by rfl) (by rfl))
  (zak (zcs (zcb (K:=K) rfl (zbo D_fits_under (hr.mono (by decide)) (by rfl) (zaa (bv 10) (zaa (bv 7) zah (by rfl)) (by rfl)) (by decide) (zaf (by rfl)) (by rfl)) (fun _=>rfl)) (zak (zdf (zex (K:=K) rfl qY qg qf zcy (bv 8) (zaa (zbo D_why_in (hr.mono (by decide)) (by rfl) (zaa (bv 6) (zaa (bv 2) (zaa (bv 10) zah (by rfl)) (by rfl)) (by rfl)) (by decide) (zaf (by rfl)) (by rfl)) zah (by rfl)) (by rfl) (by rfl) (by rfl) (zaf (by rfl)) (by rfl)) (by rfl))) (zak (zdf (zex (K:=K) rfl qY qg qf zcy (bv 8) (zaa (zbo D_why_out (hr.mono (by decide)) (by rfl) (zaa (bv 10) (zaa (bv 7) zah (by rfl)) (by rfl)) (by decide) (zaf (by rfl)) (by rfl)) zah (by rfl)) (by rfl) (by rfl) (by rfl) (zaf (by rfl)) (by rfl)) (by rfl))))) (by intro _;rfl))
 (zak (zbd (bv 8)))))))))
 exact fn_d (f:=zatv) ((zav (zbq (zbe (zac (zad 0) (zac (zad 1) zal)))) (zav (zaho (zad 0) (zek (zax (zax (zax zdc))))) (zav (zbq (zbe (zac (zad 3) zal))) (zav (zbq (zbe (zac (zad 6) (zac (zad 1) zal)))) (zav (zbq (zif zal)) (zav (zgz (zdj (zad 5)) (zek (zax (zax zdc))) (zff (zfr (zbe (zac (zad 10) (zac (zad 7) zal)))) (zjf (zrg (zbe (zac (zad 6) (zac (zad 2) (zac (zad 10) zal)))))) (zjf (zrg (zbe (zac (zad 10) (zac (zad 7) zal))))))) znj))))))) h
theorem zajp {f:Addr} {fd:qw} (F:Fun K "is_out" "is_out" zmn f fd) (T:Txt mg) (D_is_whole:zux P w K mg base):FnOk P w K mg base CX0 2 f fd ["kinds", "call_roofs", "thing"] (spD 3 zrh):=by
 refine F.ok zajh (fun vs H Q E h=>zcf h) (fun cdv A outer s H vs Q E hr h=>?_)
 have hu:=zfh hr
 apply Exists.intro
 apply And.intro
 ·refine' Bx.out (zai (zcs (zsn (zgr (zcb (K:=K) rfl (zbo D_is_whole (hr.mono (by decide)) (by rfl) (zaa (bv 2) zah (by rfl)) (by decide) (zaf (by rfl)) (by rfl)) (fun _=>rfl))) (zpg (zgr (zaix zash zaoz zam (bv 2) (zaz (zbz (K:=K) rfl) (by rfl) T.len zck (zaa (bv 0) zah (by rfl)) (by decide) (by decide) (zaf (by rfl)) (by rfl)) (by with_unfolding_all rfl))))).pt (zak (zbd zhy)) zbs)
 (zak (zbd (zabd (zuk hu (zbn (zcn (K:=K) rfl) (bv 0) (bv 2) (fun _ _=>rfl)) (zbn (zcn (K:=K) rfl) (bv 1) (bv 2) (fun _ _=>rfl))) (by rfl)))))
 exact fn_d (f:=zadt) ((zav (zff (zaax (zje (zfr (zbe (zac (zad 2) zal)))) (zje (st_t (zadc zate zatd (se_c fun _=>zag) (zad 2) (zdv zfa (zac (zad 0) zal)))))) (zca (se_c fun _=>zbb)) zdm) (zca (zxx (zbr (zad 2)) (zbr (zad 2)))))) h
theorem zwu {f:Addr} {fd:qw} (F:Fun K "is_farther" "is_farther" zgk f fd) (T:Txt mg) (D_is_nearer:zko P w K mg base):FnOk P w K mg base CX0 2 f fd ["roofs", "fit", "kinds", "thing"] (spD 4 zjh):=by
 refine F.ok zwm (fun vs H Q E h=>zcf h) (fun cdv A outer s H vs Q E hr h=>?_)
 have hu:=zfh hr
 apply Exists.intro
 apply And.intro
 ·refine' Bx.out (zak (zbd (zaz (zlc (K:=K) rfl rfl) (by rfl) T.any zom (zaa (zdb (zcc (N':=["name", "others", "roofs", "kinds", "thing"]) (own:=["name", "others"]) (fr:=[0,2,3]) (by kernel_rfl)) rfl (zbx (K:=K) rfl (bv 1)) ?hb1 (by intro _;rfl)) zah (by rfl)) (by decide) (by decide) (zaf (by rfl)) (by rfl))))
  case hb1=>(intro cl C s H fp;refine' ⟨Bx.out (zci (K:=K) (n:=2) rfl rfl (zau (zar (i:=0) zkw rfl (Or.inl rfl) (by first|exact .inl rfl|exact .inr rfl|assumption)) (zau (zar (i:=1) zkw rfl (Or.inl rfl) (by first|exact .inl rfl|exact .inr rfl|assumption)) zch (by rfl)) (by rfl)) (by rfl) (by rfl)),Bx.out zfg,Bx.out (zlk (zht (zaol (K:=K) rfl hr.units) (bv 0) (bv 4) (zcp _)) (zlj (zbo D_is_nearer (hr.mono (by decide)) (by rfl) (zaa (bv 2) (zaa (bv 1) (zaa (bv 3) zah (by rfl)) (by rfl)) (by rfl)) (by decide) (zaf (by rfl)) (by rfl))))⟩)
 exact fn_d (f:=zqd) ((zca (zdv zps (zac (zdl (zdj (zad 1)) (zek (zax (zax zdc))) (zig (zby (by decide) (zby (by decide) zfu))) zha (zpr (zbc zaom (zad 0) (zad 4)) (zbe (zac (zad 2) (zac (zad 1) (zac (zad 3) zal)))))) zal)))) h
theorem zafp {f:Addr} {fd:qw} (F:Fun K "is_line" "is_line" zjy f fd) (T:Txt mg) (D_is_farther:zqn P w K mg base) (D_is_out:zaec P w K mg base):FnOk P w K mg base CX0 3 f fd ["roofs", "call_roofs", "fit", "rule", "thing"] (spD 5 zlq):=by
 refine F.ok zafk (fun vs H Q E h=>zcf h) (fun cdv A outer s H vs Q E hr h=>?_)
 have hu:=zfh hr
 apply Exists.intro
 apply And.intro
 ·refine' Bx.out (zai (zcs (zgr (zcb (K:=K) rfl (zaz (zfx (K:=K) rfl) (by rfl) T.isinstance zcm (zaa (bv 4) (zaa (zhu (v:=.ty "tuple") (by rfl) T.tuple zen rfl (by decide) (by decide)) zah (by rfl)) (by rfl)) (by decide) (by decide) (zaf (by rfl)) (by rfl)) (fun _=>rfl))) (zak (zbd zhy)) zbs)
 (zai (zbi (i:=5) zut rfl (Or.inl rfl) (zbn (zcn (K:=K) rfl) (bv 3) zam (fun _ _=>rfl)) (by rfl) (.inl rfl))
 (zai (zcs (zlm (zbm (zer (K:=K) rfl hr.units) (zaz (zbz (K:=K) rfl) (by rfl) T.len zck (zaa (bv 4) zah (by rfl)) (by decide) (by decide) (zaf (by rfl)) (by rfl)) zam (zcp _)) (zml (zbm (zer (K:=K) rfl hr.units) (zbn (zcn (K:=K) rfl) (bv 4) zam (fun _ _=>rfl)) zcl (zcp _)))).pt (zak (zbd (zbo D_is_out (hr.mono (by decide)) (by rfl) (zaa (bv 5) (zaa (bv 1) (zaa (zbn (zcn (K:=K) rfl) (bv 4) zam (fun _ _=>rfl)) zah (by rfl)) (by rfl)) (by rfl)) (by decide) (zaf (by rfl)) (by rfl)))) zbs)
 (zai (zcs (zbm (zym (K:=K) rfl hr.units) (bv 3) (bv 2) (by rfl)) (zak (zbd zhy)) zbs)
 (zai (zcs (zlm (zbm (zer (K:=K) rfl hr.units) (zaz (zbz (K:=K) rfl) (by rfl) T.len zck (zaa (bv 4) zah (by rfl)) (by decide) (by decide) (zaf (by rfl)) (by rfl)) zam (zcp _)) (zml (zbm (zer (K:=K) rfl hr.units) (zbn (zcn (K:=K) rfl) (bv 4) zam (fun _ _=>rfl)) zcl (zcp _)))).pt (zak (zbd (zbo D_is_farther (hr.mono (by decide)) (by rfl) (zaa (bv 0) (zaa (bv 2) (zaa (bv 5) (zaa (zbn (zcn (K:=K) rfl) (bv 4) zam (fun _ _=>rfl)) zah (by rfl)) (by rfl)) (by rfl)) (by rfl)) (by decide) (zaf (by rfl)) (by rfl)))) zbs)
 (zak (zbd (zht (zer (K:=K) rfl hr.units) (bv 4) (zcx (zaa zcl zah (by rfl))) (zcp _)))))))))
 exact fn_d (f:=zyq) ((zav (zff (zje (zfr (zmt (zad 4) zoc))) (zca (se_c fun _=>zbb)) zdm) (zav (zbq (zbr (se_c fun _=>zag))) (zav (zff (zpq (st_t (zbc zhx (zdv zfa (zac (zad 4) zal)) (se_c fun _=>zag))) (st_t (zbc zhx (zbr (se_c fun _=>zag)) (se_c fun _=>zbk)))) (zca (zbe (zac (zad 5) (zac (zad 1) (zac (zbr (se_c fun _=>zag)) zal))))) zdm) (zav (zff (st_t (zbc zaoj (zad 3) (zad 2))) (zca (se_c fun _=>zbb)) zdm) (zav (zff (zpq (st_t (zbc zhx (zdv zfa (zac (zad 4) zal)) (se_c fun _=>zag))) (st_t (zbc zhx (zbr (se_c fun _=>zag)) (se_c fun _=>zbk)))) (zca (zbe (zac (zad 0) (zac (zad 2) (zac (zad 5) (zac (zbr (se_c fun _=>zag)) zal)))))) zdm) (zca (zbc zhx (zad 4) (zei (zac (se_c fun _=>zbk) zal)))))))))) h
theorem zamw {f:Addr} {fd:qw} (F:Fun K "shows" "shows" zpk f fd) (T:Txt mg) (D_answer_by:znq P w K mg base) (D_is_line:zzq P w K mg base) (D_nearest_of:zma P w K mg base) (D_roofs_in_call:zgt P w K mg base) (D_roofs_of:zka P w K mg base) (D_rule_names:zmb P w K mg base) (D_rules_that_fit:zfz P w K mg base):FnOk P w K mg base CX0 5 f fd ["book", "call", "answer", "paper"] (spD 4 zjm):=by
 refine F.ok zamv (fun vs H Q E h=>zcf h) (fun cdv A outer s H vs Q E hr h=>?_)
 have hu:=zfh hr
 apply Exists.intro
 apply And.intro
 ·refine' Bx.out (zai (zbi (i:=4) zji rfl (Or.inr rfl) (zbo D_rules_that_fit (hr.mono (by decide)) (by rfl) (zaa (bv 0) (zaa (bv 1) zah (by rfl)) (by rfl)) (by decide) (zaf (by rfl)) (by rfl)) (by rfl) (.inl rfl))
 (zai (zabc (bv 0) (zci (K:=K) (n:=3) rfl rfl (zau (zar (i:=5) zji rfl (Or.inl rfl) (.inl rfl)) (zau (zar (i:=6) zji rfl (Or.inl rfl) (.inl rfl)) (zau (zar (i:=7) zji rfl (Or.inl rfl) (.inl rfl)) zch (by rfl)) (by rfl)) (by rfl)) (by rfl) (by rfl)) (by rfl) (by rfl) (by rfl))
 (zai (zcs (zsn (zgr (zcb (K:=K) rfl (zaz (zfx (K:=K) rfl) (by rfl) T.isinstance zcm (zaa (bv 3) (zaa (zhu (v:=.ty "list") (by rfl) T.list ziy rfl (by decide) (by decide)) zah (by rfl)) (by rfl)) (by decide) (by decide) (zaf (by rfl)) (by rfl)) (fun _=>rfl))) (zpg (zbm (zpv (K:=K) rfl hr.units) (zaz (zbz (K:=K) rfl) (by rfl) T.len zck (zaa (bv 3) zah (by rfl)) (by decide) (by decide) (zaf (by rfl)) (by rfl)) (zaz (zbz (K:=K) rfl) (by rfl) T.len zck (zaa (bv 7) zah (by rfl)) (by decide) (by decide) (zaf (by rfl)) (by rfl)) (zcp _)))).pt (zak (zbd zhy)) zbs)
 (zai (zbi (i:=8) zji rfl (Or.inr rfl) (zbo D_roofs_of (hr.mono (by decide)) (by rfl) (zaa (bv 5) zah (by rfl)) (by decide) (zaf (by rfl)) (by rfl)) (by rfl) (.inl rfl))
 (zai (zbi (i:=9) zji rfl (Or.inr rfl) (zbo D_roofs_in_call (hr.mono (by decide)) (by rfl) (zaa (bv 8) (zaa (bv 1) zah (by rfl)) (by rfl)) (by decide) (zaf (by rfl)) (by rfl)) (by rfl) (.inl rfl))
 (zai (zcs (zgr (zcb (K:=K) rfl (zaz (zrq (K:=K) rfl rfl) (by rfl) T.all zwc (zaa (zdb (zcc (N':=["rule", "line", "fit", "roofs", "call_roofs"]) (own:=["rule", "line"]) (fr:=[4,8,9]) (by kernel_rfl)) rfl (zwb (K:=K) rfl rfl T.zip (zaa (bv 7) (zaa (bv 3) zah (by rfl)) (by rfl)) (by rfl) (by rfl)) ?hb1 (by intro _;rfl)) zah (by rfl)) (by decide) (by decide) (zaf (by rfl)) (by rfl)) (fun _=>rfl))) (zak (zbd zhy)) zbs)
 (zai (zjt (i:=10) (zcc (N':=["rule", "line"]) (own:=["rule", "line"]) (fr:=[]) (by kernel_rfl)) rfl (zwb (K:=K) rfl rfl T.zip (zaa (bv 7) (zaa (bv 3) zah (by rfl)) (by rfl)) (by rfl) (by rfl)) ?hb2 (by rfl) zji rfl rfl (by intro _;rfl))
 (zak (zbd (zlk (zht (zer (K:=K) rfl hr.units) (zbo D_nearest_of (hr.mono (by decide)) (by rfl) (zaa (bv 8) (zaa (bv 10) zah (by rfl)) (by rfl)) (by decide) (zaf (by rfl)) (by rfl)) (bv 10) (zcp _)) (zlj (zht (zer (K:=K) rfl hr.units) (bv 2) (zbo D_answer_by (hr.mono (by decide)) (by rfl) (zaa (zbo D_rule_names (hr.mono (by decide)) (by rfl) (zaa (bv 10) zah (by rfl)) (by decide) (zaf (by rfl)) (by rfl)) zah (by rfl)) (by decide) (zaf (by rfl)) (by rfl)) (zcp _)))))))))))))
  case hb1=>(intro cl C s H fp;refine' ⟨Bx.out (zci (K:=K) (n:=2) rfl rfl (zau (zar (i:=0) ztd rfl (Or.inl rfl) (by first|exact .inl rfl|exact .inr rfl|assumption)) (zau (zar (i:=1) ztd rfl (Or.inl rfl) (by first|exact .inl rfl|exact .inr rfl|assumption)) zch (by rfl)) (by rfl)) (by rfl) (by rfl)),Bx.out zfg,Bx.out (zbo D_is_line (hr.mono (by decide)) (by rfl) (zaa (bv 3) (zaa (bv 4) (zaa (bv 2) (zaa (bv 0) (zaa (bv 1) zah (by rfl)) (by rfl)) (by rfl)) (by rfl)) (by rfl)) (by decide) (zaf (by rfl)) (by rfl))⟩)
  case hb2=>(intro cl C s H fp;refine' ⟨Bx.out (zci (K:=K) (n:=2) rfl rfl (zau (zar (i:=0) zte rfl (Or.inl rfl) (by first|exact .inl rfl|exact .inr rfl|assumption)) (zau (zar (i:=1) zte rfl (Or.inl rfl) (by first|exact .inl rfl|exact .inr rfl|assumption)) zch (by rfl)) (by rfl)) (by rfl) (by rfl)),Bx.out (zll (zbm (zer (K:=K) rfl hr.units) (bv 1) (zcx (zaa zcl zah (by rfl))) (zcp _))),Bx.out (bv 0)⟩)
 exact fn_d (f:=zaje) ((zav (zbq (zbe (zac (zad 0) (zac (zad 1) zal)))) (zav (zaho (zad 0) (zek (zax (zax (zax zdc))))) (zav (zff (zaax (zje (zfr (zmt (zad 3) zacy))) (st_t (zbc zxw (zdv zfa (zac (zad 3) zal)) (zdv zfa (zac (zad 7) zal))))) (zca (se_c fun _=>zbb)) zdm) (zav (zbq (zbe (zac (zad 5) zal))) (zav (zbq (zbe (zac (zad 8) (zac (zad 1) zal)))) (zav (zff (zje (zfr (zdv zps (zac (zdl (zadp (zac (zad 7) (zac (zad 3) zal))) (zek (zax (zax zdc))) (zig (zby (by decide) (zby (by decide) zfu))) zha (zbe (zac (zad 3) (zac (zad 4) (zac (zad 2) (zac (zad 0) (zac (zad 1) zal))))))) zal)))) (zca (se_c fun _=>zbb)) zdm) (zav (zbq (zdl (zadp (zac (zad 7) (zac (zad 3) zal))) (zek (zax (zax zdc))) (zig (zby (by decide) (zby (by decide) zfu))) (st_t (zbc zhx (zad 1) (zei (zac (se_c fun _=>zbk) zal)))) (zad 0))) (zca (zpr (zbc zhx (zbe (zac (zad 8) (zac (zad 10) zal))) (zad 10)) (zbc zhx (zad 2) (zbe (zac (zbe (zac (zad 10) zal)) zal))))))))))))) h
theorem zzv {f:Addr} {fd:qw} (F:Fun K "_law_names" "_law_names" zhl f fd) (T:Txt mg)  : FnOk P w K mg base CX0 1 f fd ["_law_many", "_law_cell"] (spD 2 zdh):=by
 refine F.ok zzf (fun vs H Q E h=>zcf h) (fun cdv A outer s H vs Q E hr h=>?_)
 have hu:=zfh hr
 apply Exists.intro
 apply And.intro
 ·refine' Bx.out (zai (zbi (i:=2) zcu rfl (Or.inl rfl) zcl (by rfl) (.inl rfl))
 (zai (zbi (i:=3) zcu rfl (Or.inl rfl) (zbn (zcn (K:=K) rfl) (zcx (zaa zam (zaa zam (zaa zam (zaa zam (zaa zam (zaa zam (zaa zam (zaa zam zah (by rfl)) (by rfl)) (by rfl)) (by rfl)) (by rfl)) (by rfl)) (by rfl)) (by rfl))) (zbj zdp (zbj zfk (bv 1) zam) zam) (fun _ _=>rfl)) (by rfl) (.inl rfl))
 (zai (zbi (i:=4) zcu rfl (Or.inl rfl) (zbj zdp (zbj zfk (bv 1) zam) zam) (by rfl) (.inl rfl))
 (zai (zbi (i:=5) zcu rfl (Or.inl rfl) (zbj zjj (zbn (zcn (K:=K) rfl) (bv 2) (zbj zdp (zbj zfk (bv 1) zam) zam) (fun _ _=>rfl)) (zbj zdp (zbj zfk (bv 1) zam) zam)) (by rfl) (.inl rfl))
 (zai (zbi (i:=6) zcu rfl (Or.inl rfl) (zbj zdp (zbj zfk (bv 1) zam) (zbj (zde (K:=K) rfl) (zaz (zbz (K:=K) rfl) (by rfl) T.len zck (zaa (bv 5) zah (by rfl)) (by decide) (by decide) (zaf (by rfl)) (by rfl)) zam)) (by rfl) (.inl rfl))
 (zai (zbi (i:=7) zcu rfl (Or.inl rfl) (zfv zah) (by rfl) (.inl rfl))
 (zai (zev qu rfl (zph rfl T.range (zaa (bv 0) zah (by rfl)) (by rfl)) (zar (i:=8) zcu rfl (Or.inl rfl) (.inl rfl))
  (zai (zbi (i:=9) zcu rfl (Or.inl rfl) (zbn (zcn (K:=K) rfl) (bv 2) (zbj zdp (zbj (zde (K:=K) rfl) (bv 4) (zbj zjj (bv 3) (bv 8))) zam) (fun _ _=>rfl)) (by rfl) (.inl rfl))
 (zak (zcs (zbm (zer (K:=K) rfl hr.units) (zbj zdp (bv 1) zam) zam (zcp _)) (zak (zdf (zex (K:=K) rfl qY qg qf zcy (bv 7) (zaa (zbj (zde (K:=K) rfl) (zbj (zde (K:=K) rfl) (zfb (zoy (K:=K) rfl) (bv 5) zil (zew (bv 6))) (bv 9)) (zfb (zoy (K:=K) rfl) (bv 5) (zew (bv 6)) zil)) zah (by rfl)) (by rfl) (by rfl) (by rfl) (zaf (by rfl)) (by rfl)) (by rfl))) (zak (zcs (zbm (zer (K:=K) rfl hr.units) (zbj zdp (bv 1) zam) zam (zcp _)) (zak (zdf (zex (K:=K) rfl qY qg qf zcy (bv 7) (zaa (zbj (zde (K:=K) rfl) (zfb (zoy (K:=K) rfl) (bv 5) zil (zew (zbj zdp (zbj zjj (bv 8) (bv 3)) (zbj (zde (K:=K) rfl) (zaz (zbz (K:=K) rfl) (by rfl) T.len zck (zaa (bv 5) zah (by rfl)) (by decide) (by decide) (zaf (by rfl)) (by rfl)) zam)))) (bv 9)) zah (by rfl)) (by rfl) (by rfl) (by rfl) (zaf (by rfl)) (by rfl)) (by rfl))) (zak (zdf (zex (K:=K) rfl qY qg qf zcy (bv 7) (zaa (zbj zjj (zbn (zcn (K:=K) rfl) (bv 2) (zbj zdp (zbj (zde (K:=K) rfl) (bv 4) (zbj zfk (bv 8) zam)) zam) (fun _ _=>rfl)) (zbj (zde (K:=K) rfl) zam (zbj zdp (zbj zjj (bv 8) (bv 3)) zam))) zah (by rfl)) (by rfl) (by rfl) (by rfl) (zaf (by rfl)) (by rfl)) (by rfl)))))))) (by intro _;rfl))
 (zai (zcs (zbm (zer (K:=K) rfl hr.units) (zbj zdp (zbj zfk (bv 1) zam) zam) zam (zcp _)) (zai (zbi (i:=10) zcu rfl (Or.inl rfl) (zfv (zaa zcl (zaa zcl (zaa zcl (zaa zcl (zaa zcl (zaa zcl zah (by rfl)) (by rfl)) (by rfl)) (by rfl)) (by rfl)) (by rfl))) (by rfl) (.inl rfl))
 (zai (zbi (i:=11) zcu rfl (Or.inl rfl) (zbj zdp (zbj zfk (bv 1) zam) zam) (by rfl) (.inl rfl))
 (zak (zbi (i:=7) zcu rfl (Or.inl rfl) (zfb (zoy (K:=K) rfl) (zbj (zde (K:=K) rfl) (zbj (zde (K:=K) rfl) (zfb (zoy (K:=K) rfl) (bv 10) (zew (bv 11)) zil) (zfb (zoy (K:=K) rfl) (bv 10) zil (zew (bv 11)))) (zfb (zoy (K:=K) rfl) (bv 7) (zew zam) zil)) zil (zew (bv 0))) (by rfl) (.inl rfl))))) zbs)
 (zak (zbd (bv 7)))))))))))
 exact fn_d (f:=ziw) ((zav (zbq (se_c fun _=>zbk)) (zav (zbq (zbc zals (zei (zac (se_c fun _=>zag) (zac (se_c fun _=>zag) (zac (se_c fun _=>zag) (zac (se_c fun _=>zag) (zac (se_c fun _=>zag) (zac (se_c fun _=>zag) (zac (se_c fun _=>zag) (zac (se_c fun _=>zag) zal))))))))) (zbc zeh (zbc zft (zad 1) (se_c fun _=>zag)) (se_c fun _=>zag)))) (zav (zbq (zbc zeh (zbc zft (zad 1) (se_c fun _=>zag)) (se_c fun _=>zag))) (zav (zbq (zbc zug (zbr (zbc zeh (zbc zft (zad 1) (se_c fun _=>zag)) (se_c fun _=>zag))) (zbc zeh (zbc zft (zad 1) (se_c fun _=>zag)) (se_c fun _=>zag)))) (zav (zbq (zbc zeh (zbc zft (zad 1) (se_c fun _=>zag)) (zbc zhw (zdv zfa (zac (zad 5) zal)) (se_c fun _=>zag)))) (zav (zbq (zif zal)) (zav (zgz (zsb (zac (zad 0) zal)) zej (zav (zbq (zbr (zbc zeh (zbc zhw (zad 4) (zbc zug (zad 3) (zad 8))) (se_c fun _=>zag)))) (zff (st_t (zbc zhx (zbc zeh (zad 1) (se_c fun _=>zag)) (se_c fun _=>zag))) (zjf (zbc zhw (zbc zhw (zqu (zad 5) zkg (zgb (zad 6))) (zad 9)) (zqu (zad 5) (zgb (zad 6)) zkg))) (zff (st_t (zbc zhx (zbc zeh (zad 1) (se_c fun _=>zag)) (se_c fun _=>zag))) (zjf (zbc zhw (zqu (zad 5) zkg (zgb (zbc zeh (zbc zug (zad 8) (zad 3)) (zbc zhw (zdv zfa (zac (zad 5) zal)) (se_c fun _=>zag))))) (zad 9))) (zjf (zbc zug (zbr (zbc zeh (zbc zhw (zad 4) (zbc zft (zad 8) (se_c fun _=>zag))) (se_c fun _=>zag))) (zbc zhw (se_c fun _=>zag) (zbc zeh (zbc zug (zad 8) (zad 3)) (se_c fun _=>zag))))))))) (zav (zff (st_t (zbc zhx (zbc zeh (zbc zft (zad 1) (se_c fun _=>zag)) (se_c fun _=>zag)) (se_c fun _=>zag))) (zav (zbq (zif (zac (se_c fun _=>zbk) (zac (se_c fun _=>zbk) (zac (se_c fun _=>zbk) (zac (se_c fun _=>zbk) (zac (se_c fun _=>zbk) (zac (se_c fun _=>zbk) zal)))))))) (zav (zbq (zbc zeh (zbc zft (zad 1) (se_c fun _=>zag)) (se_c fun _=>zag))) (zbq (zqu (zbc zhw (zbc zhw (zqu (zad 10) (zgb (zad 11)) zkg) (zqu (zad 10) zkg (zgb (zad 11)))) (zqu (zad 7) (zgb (se_c fun _=>zag)) zkg)) zkg (zgb (zad 0)))))) zdm) znj))))))))) h
theorem zafq {f:Addr} {fd:qw} (F:Fun K "_law_web" "_law_web" zjz f fd) (T:Txt mg)  : FnOk P w K mg base CX0 1 f fd ["_law_cells", "_law_names_here"] (spD 2 zle):=by
 refine F.ok zafl (fun vs H Q E h=>zcf h) (fun cdv A outer s H vs Q E hr h=>?_)
 have hu:=zfh hr
 apply Exists.intro
 apply And.intro
 ·refine' Bx.out (zai (zbi (i:=2) zfd rfl (Or.inl rfl) (zfv zah) (by rfl) (.inl rfl))
 (zai (zev qu rfl (zln (K:=K) rfl rfl T.enumerate (zaa (bv 1) zah (by rfl)) (by rfl)) (zci (K:=K) (n:=2) rfl rfl (zau (zar (i:=3) zfd rfl (Or.inl rfl) (.inl rfl)) (zau (zar (i:=4) zfd rfl (Or.inl rfl) (.inl rfl)) zch (by rfl)) (by rfl)) (by rfl) (by rfl))
  (zai (zbi (i:=5) zfd rfl (Or.inl rfl) (zfb (zoy (K:=K) rfl) (bv 1) zil (zew (bv 3))) (by rfl) (.inl rfl))
 (zai (zbi (i:=6) zfd rfl (Or.inl rfl) (zbj zfk (zbn (zcn (K:=K) rfl) (bv 0) (bv 3) (fun _ _=>rfl)) zam) (by rfl) (.inl rfl))
 (zai (zbi (i:=7) zfd rfl (Or.inl rfl) (zfv zah) (by rfl) (.inl rfl))
 (zai (zev qu rfl (zph rfl T.range (zaa (zaz (zagh rfl) (by rfl) T.min zamu (zaa (zbj zdp (zbn (zcn (K:=K) rfl) (bv 0) (bv 3) (fun _ _=>rfl)) zam) (zaa (bv 3) zah (by rfl)) (by rfl)) (by decide) (by decide) (zaf (by rfl)) (by rfl)) zah (by rfl)) (by rfl)) (zar (i:=8) zfd rfl (Or.inl rfl) (.inl rfl))
  (zai (zbi (i:=9) zfd rfl (Or.inl rfl) (zbj zdp (bv 6) (zaz (zbz (K:=K) rfl) (by rfl) T.len zck (zaa (bv 5) zah (by rfl)) (by decide) (by decide) (zaf (by rfl)) (by rfl))) (by rfl) (.inl rfl))
 (zai (zbi (i:=6) zfd rfl (Or.inl rfl) (zbj zfk (bv 6) (zaz (zbz (K:=K) rfl) (by rfl) T.len zck (zaa (bv 5) zah (by rfl)) (by decide) (by decide) (zaf (by rfl)) (by rfl))) (by rfl) (.inl rfl))
 (zak (zdf (zex (K:=K) rfl qY qg qf zcy (bv 7) (zaa (zex (K:=K) rfl qY qCY qCX zacs (bv 5) (zaa (bv 9) zah (by rfl)) (by rfl) (by rfl) (by rfl) (zaf (by rfl)) (by rfl)) zah (by rfl)) (by rfl) (by rfl) (by rfl) (zaf (by rfl)) (by rfl)) (by rfl))))) (by intro _;rfl))
 (zak (zdf (zex (K:=K) rfl qY qg qf zcy (bv 2) (zaa (zcx (zaa (bv 4) (zaa (bv 7) zah (by rfl)) (by rfl))) zah (by rfl)) (by rfl) (by rfl) (by rfl) (zaf (by rfl)) (by rfl)) (by rfl))))))) (by intro _;rfl))
 (zak (zbd (bv 2)))))
 exact fn_d (f:=zyd) ((zav (zbq (zif zal)) (zav (zgz (zsm (zac (zad 1) zal)) (zek (zax (zax zdc))) (zav (zbq (zqu (zad 1) zkg (zgb (zad 3)))) (zav (zbq (zbc zft (zbr (zad 3)) (se_c fun _=>zag))) (zav (zbq (zif zal)) (zav (zgz (zsb (zac (zdv zatg (zac (zbc zeh (zbr (zad 3)) (se_c fun _=>zag)) (zac (zad 3) zal))) zal)) zej (zav (zbq (zbc zeh (zad 6) (zdv zfa (zac (zad 5) zal)))) (zav (zbq (zbc zft (zad 6) (zdv zfa (zac (zad 5) zal)))) (zahs (zad 9))))) (zjf (zei (zac (zad 4) (zac (zad 7) zal))))))))) znj))) h
theorem zajq {f:Addr} {fd:qw} (F:Fun K "_law_up" "_law_up" zmo f fd) (T:Txt mg)  : FnOk P w K mg base CX0 1 f fd ["_law_web_here"] (spD 1 zog):=by
 refine F.ok zajj (fun vs H Q E h=>zcf h) (fun cdv A outer s H vs Q E hr h=>?_)
 have hu:=zfh hr
 apply Exists.intro
 apply And.intro
 ·refine' Bx.out (zai (zbi (i:=1) ziz rfl (Or.inl rfl) zso (by rfl) (.inl rfl))
 (zai (zev qu rfl (zbx (K:=K) rfl (bv 0)) (zci (K:=K) (n:=2) rfl rfl (zau (zar (i:=2) ziz rfl (Or.inl rfl) (.inl rfl)) (zau (zar (i:=3) ziz rfl (Or.inl rfl) (.inl rfl)) zch (by rfl)) (by rfl)) (by rfl) (by rfl))
  (zai (zbi (i:=4) ziz rfl (Or.inl rfl) (zfv (zaa (bv 2) zah (by rfl))) (by rfl) (.inl rfl))
 (zai (zev qu rfl (zbx (K:=K) rfl (bv 3)) (zar (i:=5) ziz rfl (Or.inl rfl) (.inl rfl))
  (zak (zev qu rfl (zbx (K:=K) rfl (zmk hu (bv 1) (bv 5) (fun _ _=>rfl))) (zar (i:=6) ziz rfl (Or.inl rfl) (.inl rfl))
  (zak (zcs (zbm (zrp (K:=K) rfl) (bv 6) (bv 4) (by rfl)) (zak (zdf (zex (K:=K) rfl qY qg qf zcy (bv 4) (zaa (bv 6) zah (by rfl)) (by rfl) (by rfl) (by rfl) (zaf (by rfl)) (by rfl)) (by rfl))) zbs)) (by intro _;rfl))) (by intro _;rfl))
 (zak (zadr hu (bv 1) (bv 2) (bv 4) rfl)))) (by intro _;rfl))
 (zak (zbd (bv 1)))))
 exact fn_d (f:=zadd) ((zav (zbq zaaz) (zav (zgz (zdj (zad 0)) (zek (zax (zax zdc))) (zav (zbq (zif (zac (zad 2) zal))) (zav (zgz (zdj (zad 3)) zej (zgz (zdj (zmg (zad 5))) zej (zff (st_t (zbc zahh (zad 6) (zad 4))) (zjf (zad 6)) zdm))) (zaod (zad 2) (zad 4))))) znj))) h
theorem zzw {f:Addr} {fd:qw} (F:Fun K "_law_parts" "_law_parts" zhm f fd) (T:Txt mg)  : FnOk P w K mg base CX0 1 f fd ["_law_arm"] (spD 1 zcr):=by
 refine F.ok zzi (fun vs H Q E h=>zcf h) (fun cdv A outer s H vs Q E hr h=>?_)
 have hu:=zfh hr
 apply Exists.intro
 apply And.intro
 ·refine' Bx.out (zai (zcs (zcb (K:=K) rfl (zaz (zfx (K:=K) rfl) (by rfl) T.isinstance zcm (zaa (bv 0) (zaa (zhu (v:=.ty "tuple") (by rfl) T.tuple zen rfl (by decide) (by decide)) zah (by rfl)) (by rfl)) (by decide) (by decide) (zaf (by rfl)) (by rfl)) (fun _=>rfl)) (zak (zbd (zea (zjo (K:=K) rfl) (by rfl) T.list ziy (zaa (bv 0) zah (by rfl)) (by decide) (by decide) (zaf (by rfl)) (by rfl)))) zbs)
 (zak (zbd (zfv (zaa (bv 0) zah (by rfl))))))
 exact fn_d (f:=zpf) ((zav (zff (zfr (zmt (zad 0) zoc)) (zca (zdv zry (zac (zad 0) zal))) zdm) (zca (zif (zac (zad 0) zal))))) h
theorem zabu {f:Addr} {fd:qw} (F:Fun K "_law_call" "_law_call" zit f fd) (T:Txt mg)  : FnOk P w K mg base CX0 1 f fd ["_law_cell", "_law_names_here", "_law_places"] (spD 3 zhe):=by
 refine F.ok zabn (fun vs H Q E h=>zcf h) (fun cdv A outer s H vs Q E hr h=>?_)
 have hu:=zfh hr
 apply Exists.intro
 apply And.intro
 ·refine' Bx.out (zai (zbi (i:=3) zee rfl (Or.inl rfl) (zfv zah) (by rfl) (.inl rfl))
 (zai (zbi (i:=4) zee rfl (Or.inl rfl) (bv 0) (by rfl) (.inl rfl))
 (zai (zbi (i:=5) zee rfl (Or.inl rfl) (zaz (zbz (K:=K) rfl) (by rfl) T.len zck (zaa (bv 1) zah (by rfl)) (by decide) (by decide) (zaf (by rfl)) (by rfl)) (by rfl) (.inl rfl))
 (zai (zev qu rfl (zph rfl T.range (zaa (bv 2) zah (by rfl)) (by rfl)) (zar (i:=6) zee rfl (Or.inl rfl) (.inl rfl))
  (zai (zbi (i:=7) zee rfl (Or.inr rfl) (zbj zdp (bv 4) (bv 5)) (by rfl) (.inl rfl))
 (zai (zbi (i:=4) zee rfl (Or.inl rfl) (zbj zfk (bv 4) (bv 5)) (by rfl) (.inl rfl))
 (zai (zcs (zbm (zer (K:=K) rfl hr.units) (zbj zdp (bv 4) zam) zam (zcp _)) (zak (zdf (zex (K:=K) rfl qY qg qf zcy (bv 3) (zaa (zcx (zaa (zbn (zcn (K:=K) rfl) (bv 1) (zbj zri (zbj zri (bv 5) zam) (bv 7)) (fun _ _=>rfl)) zah (by rfl))) zah (by rfl)) (by rfl) (by rfl) (by rfl) (zaf (by rfl)) (by rfl)) (by rfl))) (zak (zcs (zlm (zbm (zer (K:=K) rfl hr.units) (zbj zdp (bv 4) zam) zam (zcp _)) (zml (zbm zapa (bv 5) zam (zcp _)))).pt (zai (zbi (i:=8) zee rfl (Or.inr rfl) (zbj zdp (zbj (zde (K:=K) rfl) (zbj (zde (K:=K) rfl) (bv 7) zam) (zbj zdp (zbj zfk (bv 4) zam) (zbj zri (bv 5) zam))) (bv 5)) (by rfl) (.inl rfl))
 (zai (zjt (i:=9) (zcc (N':=["_law_name", "_law_names_here", "_law_at", "_law_by"]) (own:=["_law_name"]) (fr:=[1,7,8]) (by kernel_rfl)) rfl (zbx (K:=K) rfl (zfb (zoy (K:=K) rfl) (bv 1) (zew (zbj zri (bv 5) (zbj zdp (bv 4) zam))) zil)) ?hb1 (by rfl) zee rfl rfl (by intro _;rfl))
 (zak (zdf (zex (K:=K) rfl qY qg qf zcy (bv 3) (zaa (zea (zgc (K:=K) rfl) (by rfl) T.tuple zen (zaa (zbj (zde (K:=K) rfl) (zfv (zaa (zbn (zcn (K:=K) rfl) (bv 1) (bv 7) (fun _ _=>rfl)) (zaa (zbn (zcn (K:=K) rfl) (bv 1) (bv 8) (fun _ _=>rfl)) zah (by rfl)) (by rfl))) (bv 9)) zah (by rfl)) (by decide) (by decide) (zaf (by rfl)) (by rfl)) zah (by rfl)) (by rfl) (by rfl) (by rfl) (zaf (by rfl)) (by rfl)) (by rfl))))) (zak (zdf (zex (K:=K) rfl qY qg qf zcy (bv 3) (zaa (zbn (zcn (K:=K) rfl) (bv 1) (zbj zri (zbj zri (bv 5) zam) (bv 7)) (fun _ _=>rfl)) zah (by rfl)) (by rfl) (by rfl) (by rfl) (zaf (by rfl)) (by rfl)) (by rfl))))))
 (zak (zbi (i:=4) zee rfl (Or.inl rfl) (zbj zfk (bv 4) (zbj zjj zam (bv 5))) (by rfl) (.inl rfl)))))) (by intro _;rfl))
 (zak (zbd (zea (zgc (K:=K) rfl) (by rfl) T.tuple zen (zaa (bv 3) zah (by rfl)) (by decide) (by decide) (zaf (by rfl)) (by rfl))))))))
  case hb1=>(intro cl C s H fp;refine' ⟨Bx.out (zar (i:=0) ztz rfl (Or.inl rfl) (by first|exact .inl rfl|exact .inr rfl|assumption)),Bx.out (zll (zbm (zrp (K:=K) rfl) (bv 0) (zcx (zaa (zbn (zcn (K:=K) rfl) (bv 1) (bv 2) (fun _ _=>rfl)) (zaa (zbn (zcn (K:=K) rfl) (bv 1) (bv 3) (fun _ _=>rfl)) zah (by rfl)) (by rfl))) (by rfl))),Bx.out (bv 0)⟩)
 exact fn_d (f:=zul) ((zav (zbq (zif zal)) (zav (zbq (zad 0)) (zav (zbq (zdv zfa (zac (zad 1) zal))) (zav (zgz (zsb (zac (zad 2) zal)) zej (zav (zbq (zbc zeh (zad 4) (zad 5))) (zav (zbq (zbc zft (zad 4) (zad 5))) (zav (zff (st_t (zbc zhx (zbc zeh (zad 4) (se_c fun _=>zag)) (se_c fun _=>zag))) (zjf (zei (zac (zbr (zbc zru (zbc zru (zad 5) (se_c fun _=>zag)) (zad 7))) zal))) (zff (zpq (st_t (zbc zhx (zbc zeh (zad 4) (se_c fun _=>zag)) (se_c fun _=>zag))) (st_t (zbc zapw (zad 5) (se_c fun _=>zag)))) (zav (zbq (zbc zeh (zbc zhw (zbc zhw (zad 7) (se_c fun _=>zag)) (zbc zeh (zbc zft (zad 4) (se_c fun _=>zag)) (zbc zru (zad 5) (se_c fun _=>zag)))) (zad 5))) (zav (zbq (zdl (zdj (zqu (zad 1) (zgb (zbc zru (zad 5) (zbc zeh (zad 4) (se_c fun _=>zag)))) zkg)) zej (zld (by decide)) (st_t (zbc zahh (zad 0) (zei (zac (zbr (zad 2)) (zac (zbr (zad 3)) zal))))) (zad 0))) (zjf (zdv zkf (zac (zbc zhw (zif (zac (zbr (zad 7)) (zac (zbr (zad 8)) zal))) (zad 9)) zal))))) (zjf (zbr (zbc zru (zbc zru (zad 5) (se_c fun _=>zag)) (zad 7)))))) (zbq (zbc zft (zad 4) (zbc zug (se_c fun _=>zag) (zad 5)))))))) (zca (zdv zkf (zac (zad 3) zal)))))))) h
theorem zzx {f:Addr} {fd:qw} (F:Fun K "_law_rules" "_law_rules" zhn f fd) (T:Txt mg) (D_law_parts:znr P w K mg base):FnOk P w K mg base CX0 2 f fd ["_law_cells", "_law_names_here", "_law_up_here", "_law_call_here", "_law_titles"] (spD 5 zix):=by
 refine F.ok zzj (fun vs H Q E h=>zcf h) (fun cdv A outer s H vs Q E hr h=>?_)
 have hu:=zfh hr
 apply Exists.intro
 apply And.intro
 ·refine' Bx.out (zai (zbi (i:=5) zdo rfl (Or.inl rfl) (zfv zah) (by rfl) (.inl rfl))
 (zai (zev qu rfl (zln (K:=K) rfl rfl T.enumerate (zaa (bv 4) zah (by rfl)) (by rfl)) (zci (K:=K) (n:=2) rfl rfl (zau (zar (i:=6) zdo rfl (Or.inl rfl) (.inl rfl)) (zau (zar (i:=7) zdo rfl (Or.inl rfl) (.inl rfl)) zch (by rfl)) (by rfl)) (by rfl) (by rfl))
  (zai (zbi (i:=8) zdo rfl (Or.inl rfl) (zbj zfk (zbn (zcn (K:=K) rfl) (bv 0) (bv 6) (fun _ _=>rfl)) zam) (by rfl) (.inl rfl))
 (zai (zbi (i:=9) zdo rfl (Or.inl rfl) (zfv zah) (by rfl) (.inl rfl))
 (zai (zev qu rfl (zbx (K:=K) rfl (bv 3)) (zar (i:=10) zdo rfl (Or.inr rfl) (.inl rfl))
  (zai (zbi (i:=11) zdo rfl (Or.inl rfl) (bv 1) (by rfl) (.inl rfl))
 (zai (zcs (zbm zapa (zbj zdp (zbn (zcn (K:=K) rfl) (bv 0) (bv 6) (fun _ _=>rfl)) zam) zam (zcp _)) (zak (zjt (i:=11) (zcc (N':=["_law_name", "_law_up_here", "_law_arm"]) (own:=["_law_name"]) (fr:=[2,10]) (by kernel_rfl)) rfl (zbx (K:=K) rfl (bv 1)) ?hb1 (by rfl) zdo rfl rfl (by intro _;rfl))) zbs)
 (zai (zdf (zex (K:=K) rfl qY qg qf zcy (bv 9) (zaa (zbn (zcn (K:=K) rfl) (bv 11) (zbj zdp (bv 8) (zaz (zbz (K:=K) rfl) (by rfl) T.len zck (zaa (bv 11) zah (by rfl)) (by decide) (by decide) (zaf (by rfl)) (by rfl))) (fun _ _=>rfl)) zah (by rfl)) (by rfl) (by rfl) (by rfl) (zaf (by rfl)) (by rfl)) (by rfl))
 (zak (zbi (i:=8) zdo rfl (Or.inl rfl) (zbj zfk (bv 8) (zaz (zbz (K:=K) rfl) (by rfl) T.len zck (zaa (bv 11) zah (by rfl)) (by decide) (by decide) (zaf (by rfl)) (by rfl))) (by rfl) (.inl rfl)))))) (by intro _;rfl))
 (zak (zcs (zbm (zym (K:=K) rfl hr.units) (zea (zgc (K:=K) rfl) (by rfl) T.tuple zen (zaa (bv 9) zah (by rfl)) (by decide) (by decide) (zaf (by rfl)) (by rfl)) (zdb (zcc (N':=["_law_one", "_law_row"]) (own:=["_law_one", "_law_row"]) (fr:=[]) (by kernel_rfl)) rfl (zbx (K:=K) rfl (bv 5)) ?hb3 (by intro _;rfl)) (by rfl)) (zak (zdf (zex (K:=K) rfl qY qg qf zcy (bv 5) (zaa (zcx (zaa (bv 7) (zaa (zea (zgc (K:=K) rfl) (by rfl) T.tuple zen (zaa (bv 9) zah (by rfl)) (by decide) (by decide) (zaf (by rfl)) (by rfl)) zah (by rfl)) (by rfl))) zah (by rfl)) (by rfl) (by rfl) (by rfl) (zaf (by rfl)) (by rfl)) (by rfl))) zbs))))) (by intro _;rfl))
 (zak (zbd (bv 5)))))
  case hb1=>(intro cl C s H fp;refine' ⟨Bx.out (zar (i:=0) ztf rfl (Or.inr rfl) (by first|exact .inl rfl|exact .inr rfl|assumption)),Bx.out (zll (zcb (K:=K) rfl (zaz (zlc (K:=K) rfl rfl) (by rfl) T.any zom (zaa (zdb (zcc (N':=["_law_one", "_law_name", "_law_up_here"]) (own:=["_law_one"]) (fr:=[0,1]) (by kernel_rfl)) rfl (zbx (K:=K) rfl (zbo D_law_parts (hr.mono (by decide)) (by rfl) (zaa (bv 2) zah (by rfl)) (by decide) (zaf (by rfl)) (by rfl))) ?hb2 (by intro _;rfl)) zah (by rfl)) (by decide) (by decide) (zaf (by rfl)) (by rfl)) (fun _=>rfl))),Bx.out (bv 0)⟩;case hb2=>(intro cl C s H fp;refine' ⟨Bx.out (zar (i:=0) ztg rfl (Or.inl rfl) (by first|exact .inl rfl|exact .inr rfl|assumption)),Bx.out zfg,Bx.out (zht (zany (K:=K) rfl) (bv 1) (zmk hu (bv 2) (bv 0) (fun _ _=>rfl)) (by rfl))⟩))
  case hb3=>(intro cl C s H fp;refine' ⟨Bx.out (zci (K:=K) (n:=2) rfl rfl (zau (zar (i:=0) zlw rfl (Or.inl rfl) (by first|exact .inl rfl|exact .inr rfl|assumption)) (zau (zar (i:=1) zlw rfl (Or.inl rfl) (by first|exact .inl rfl|exact .inr rfl|assumption)) zch (by rfl)) (by rfl)) (by rfl) (by rfl)),Bx.out zfg,Bx.out (bv 1)⟩)
 exact fn_d (f:=zst) ((zav (zbq (zif zal)) (zav (zgz (zsm (zac (zad 4) zal)) (zek (zax (zax zdc))) (zav (zbq (zbc zft (zbr (zad 6)) (se_c fun _=>zag))) (zav (zbq (zif zal)) (zav (zgz (zdj (zad 3)) zej (zav (zbq (zad 1)) (zav (zff (st_t (zbc zapw (zbc zeh (zbr (zad 6)) (se_c fun _=>zag)) (se_c fun _=>zag))) (zbq (zdl (zdj (zad 1)) zej (zld (by decide)) (zfr (zdv zps (zac (zdl (zdj (zbe (zac (zad 2) zal))) zej (zld (by decide)) zha (zbc zahh (zad 1) (zmg (zad 0)))) zal))) (zad 0))) zdm) (zav (zjf (zbr (zbc zeh (zad 8) (zdv zfa (zac (zad 11) zal))))) (zbq (zbc zft (zad 8) (zdv zfa (zac (zad 11) zal)))))))) (zff (st_t (zbc zaoj (zdv zkf (zac (zad 9) zal)) (zdl (zdj (zad 5)) (zek (zax (zax zdc))) (zig (zby (by decide) (zby (by decide) zfu))) zha (zad 1)))) (zjf (zei (zac (zad 7) (zac (zdv zkf (zac (zad 9) zal)) zal)))) zdm))))) znj))) h
theorem zajr {f:Addr} {fd:qw} (F:Fun K "_law_on" "_law_on" zmp f fd) (T:Txt mg) (D_law_parts:znr P w K mg base):FnOk P w K mg base CX0 2 f fd ["_law_up_here", "_law_arm", "_law_kind"] (spD 3 zkn):=by
 refine F.ok zajl (fun vs H Q E h=>zcf h) (fun cdv A outer s H vs Q E hr h=>?_)
 have hu:=zfh hr
 apply Exists.intro
 apply And.intro
 ·refine' Bx.out (zak (zbd (zaz (zlc (K:=K) rfl rfl) (by rfl) T.any zom (zaa (zdb (zcc (N':=["_law_name", "_law_up_here", "_law_kind"]) (own:=["_law_name"]) (fr:=[0,2]) (by kernel_rfl)) rfl (zbx (K:=K) rfl (zbo D_law_parts (hr.mono (by decide)) (by rfl) (zaa (bv 1) zah (by rfl)) (by decide) (zaf (by rfl)) (by rfl))) ?hb1 (by intro _;rfl)) zah (by rfl)) (by decide) (by decide) (zaf (by rfl)) (by rfl))))
  case hb1=>(intro cl C s H fp;refine' ⟨Bx.out (zar (i:=0) zzl rfl (Or.inl rfl) (by first|exact .inl rfl|exact .inr rfl|assumption)),Bx.out zfg,Bx.out (zht (zany (K:=K) rfl) (bv 2) (zmk hu (bv 1) (bv 0) (fun _ _=>rfl)) (by rfl))⟩)
 exact fn_d (f:=zadu) ((zca (zdv zps (zac (zdl (zdj (zbe (zac (zad 1) zal))) zej (zld (by decide)) zha (zbc zahh (zad 2) (zmg (zad 0)))) zal)))) h
theorem zabv {f:Addr} {fd:qw} (F:Fun K "_law_fits" "_law_fits" ziu f fd) (T:Txt mg) (D_law_on:zwp P w K mg base):FnOk P w K mg base CX0 3 f fd ["_law_up_here", "_law_kinds", "_law_call_here"] (spD 3 zcd):=by
 refine F.ok zabo (fun vs H Q E h=>zcf h) (fun cdv A outer s H vs Q E hr h=>?_)
 have hu:=zfh hr
 apply Exists.intro
 apply And.intro
 ·refine' Bx.out (zai (zev qu rfl (zln (K:=K) rfl rfl T.enumerate (zaa (bv 1) zah (by rfl)) (by rfl)) (zci (K:=K) (n:=2) rfl rfl (zau (zar (i:=3) zno rfl (Or.inl rfl) (.inl rfl)) (zau (zar (i:=4) zno rfl (Or.inl rfl) (.inl rfl)) zch (by rfl)) (by rfl)) (by rfl) (by rfl))
  (zak (zcs (zgr (zcb (K:=K) rfl (zbo D_law_on (hr.mono (by decide)) (by rfl) (zaa (bv 0) (zaa (zbn (zcn (K:=K) rfl) (bv 2) (bv 3) (fun _ _=>rfl)) (zaa (bv 4) zah (by rfl)) (by rfl)) (by rfl)) (by decide) (zaf (by rfl)) (by rfl)) (fun _=>rfl))) (zak (zbd zhy)) zbs)) (by intro _;rfl))
 (zak (zbd zhy)))
 exact fn_d (f:=zmx) ((zav (zgz (zvz (zac (zad 1) zal)) (zek (zax (zax zdc))) (zff (zje (zfr (zbe (zac (zad 0) (zac (zbr (zad 3)) (zac (zad 4) zal)))))) (zca (se_c fun _=>zbb)) zdm)) (zca (se_c fun _=>zbb)))) h
theorem zabw {f:Addr} {fd:qw} (F:Fun K "_law_item" "_law_item" ziv f fd) (T:Txt mg) (D_law_fits:zpm P w K mg base) (D_law_on:zwp P w K mg base):FnOk P w K mg base CX0 4 f fd ["_law_up_here", "_law_rules_here", "_law_kinds", "_law_call_here", "_law_item_here"] (spD 5 zfc):=by
 refine F.ok zabp (fun vs H Q E h=>zcf h) (fun cdv A outer s H vs Q E hr h=>?_)
 have hu:=zfh hr
 apply Exists.intro
 apply And.intro
 ·refine' Bx.out (zai (zcs (zsn (zgr (zcb (K:=K) rfl (zaz (zfx (K:=K) rfl) (by rfl) T.isinstance zcm (zaa (bv 4) (zaa (zhu (v:=.ty "tuple") (by rfl) T.tuple zen rfl (by decide) (by decide)) zah (by rfl)) (by rfl)) (by decide) (by decide) (zaf (by rfl)) (by rfl)) (fun _=>rfl))) (zpg (zbm (zer (K:=K) rfl hr.units) (zaz (zbz (K:=K) rfl) (by rfl) T.len zck (zaa (bv 4) zah (by rfl)) (by decide) (by decide) (zaf (by rfl)) (by rfl)) zam (zcp _)))).pt (zak (zbd zhy)) zbs)
 (zai (zcs (zlm (zbm (zer (K:=K) rfl hr.units) (zbn (zcn (K:=K) rfl) (bv 4) zam (fun _ _=>rfl)) zcl (zcp _)) (zlm (zbm (zer (K:=K) rfl hr.units) (zaz (zbz (K:=K) rfl) (by rfl) T.len zck (zaa (bv 4) zah (by rfl)) (by decide) (by decide) (zaf (by rfl)) (by rfl)) zam (zcp _)) (zlm (zcb (K:=K) rfl (zaz (zfx (K:=K) rfl) (by rfl) T.isinstance zcm (zaa (zbn (zcn (K:=K) rfl) (bv 4) zam (fun _ _=>rfl)) (zaa (zhu (v:=.ty "int") (by rfl) T.int zadw rfl (by decide) (by decide)) zah (by rfl)) (by rfl)) (by decide) (by decide) (zaf (by rfl)) (by rfl)) (fun _=>rfl)) (zml (zgr (zcb (K:=K) rfl (zaz (zfx (K:=K) rfl) (by rfl) T.isinstance zcm (zaa (zbn (zcn (K:=K) rfl) (bv 4) zam (fun _ _=>rfl)) (zaa (zhu (v:=.ty "bool") (by rfl) T.bool zys rfl (by decide) (by decide)) zah (by rfl)) (by rfl)) (by decide) (by decide) (zaf (by rfl)) (by rfl)) (fun _=>rfl))))))).pt (zak (zbd (zlk (zaiw zash zaoz zam (zbn (zcn (K:=K) rfl) (bv 4) zam (fun _ _=>rfl)) (zaz (zbz (K:=K) rfl) (by rfl) T.len zck (zaa (bv 2) zah (by rfl)) (by decide) (by decide) (zaf (by rfl)) (by rfl)) (by with_unfolding_all rfl)) (zlj (zaiv (zbo D_law_on (hr.mono (by decide)) (by rfl) (zaa (bv 0) (zaa (zbn (zcn (K:=K) rfl) (bv 3) (zbn (zcn (K:=K) rfl) (bv 4) zam (fun _ _=>rfl)) (fun _ _=>rfl)) (zaa (zbn (zcn (K:=K) rfl) (bv 2) (zbn (zcn (K:=K) rfl) (bv 4) zam (fun _ _=>rfl)) (fun _ _=>rfl)) zah (by rfl)) (by rfl)) (by rfl)) (by decide) (zaf (by rfl)) (by rfl))))))) zbs)
 (zai (zcs (zgr (zcb (K:=K) rfl (zbo D_law_fits (hr.mono (by decide)) (by rfl) (zaa (bv 0) (zaa (bv 2) (zaa (bv 3) zah (by rfl)) (by rfl)) (by rfl)) (by decide) (zaf (by rfl)) (by rfl)) (fun _=>rfl))) (zak (zbd zhy)) zbs)
 (zai (zcs (zlm (zbm (zer (K:=K) rfl hr.units) (zbn (zcn (K:=K) rfl) (bv 4) zam (fun _ _=>rfl)) zcl (zcp _)) (zml (zbm (zer (K:=K) rfl hr.units) (zaz (zbz (K:=K) rfl) (by rfl) T.len zck (zaa (bv 4) zah (by rfl)) (by decide) (by decide) (zaf (by rfl)) (by rfl)) zam (zcp _)))).pt (zai (zjt (i:=5) (zcc (N':=["_law_name", "_law_other", "_law_item_here"]) (own:=["_law_name", "_law_other"]) (fr:=[4]) (by kernel_rfl)) rfl (zbx (K:=K) rfl (bv 1)) ?hb1 (by rfl) ztb rfl rfl (by intro _;rfl))
 (zai (zcs (zsn (zbm (zer (K:=K) rfl hr.units) (zaz (zbz (K:=K) rfl) (by rfl) T.len zck (zaa (bv 5) zah (by rfl)) (by decide) (by decide) (zaf (by rfl)) (by rfl)) zam (zcp _)) (zpg (zbm (zer (K:=K) rfl hr.units) (zbn (zcn (K:=K) rfl) (bv 5) zam (fun _ _=>rfl)) (bv 2) (zcp _)))).pt (zak (zbd zhy)) zbs)
 (zak (zbd (zlk (zbo D_law_fits (hr.mono (by decide)) (by rfl) (zaa (bv 0) (zaa (zbn (zcn (K:=K) rfl) (bv 5) zam (fun _ _=>rfl)) (zaa (bv 3) zah (by rfl)) (by rfl)) (by rfl)) (by decide) (zaf (by rfl)) (by rfl)) (zlj (zbo D_law_fits (hr.mono (by decide)) (by rfl) (zaa (bv 0) (zaa (bv 2) (zaa (zbn (zcn (K:=K) rfl) (bv 5) zam (fun _ _=>rfl)) zah (by rfl)) (by rfl)) (by rfl)) (by decide) (zaf (by rfl)) (by rfl)))))))) zbs)
 (zak (zbd (zht (zer (K:=K) rfl hr.units) (bv 4) (zcx (zaa zcl zah (by rfl))) (zcp _))))))))
  case hb1=>(intro cl C s H fp;refine' ⟨Bx.out (zci (K:=K) (n:=2) rfl rfl (zau (zar (i:=0) znc rfl (Or.inl rfl) (by first|exact .inl rfl|exact .inr rfl|assumption)) (zau (zar (i:=1) znc rfl (Or.inl rfl) (by first|exact .inl rfl|exact .inr rfl|assumption)) zch (by rfl)) (by rfl)) (by rfl) (by rfl)),Bx.out (zll (zbm (zaol (K:=K) rfl hr.units) (bv 0) (zbn (zcn (K:=K) rfl) (bv 2) zam (fun _ _=>rfl)) (zcp _))),Bx.out (bv 1)⟩)
 exact fn_d (f:=zmy) ((zav (zff (zaax (zje (zfr (zmt (zad 4) zoc))) (st_t (zbc zhx (zdv zfa (zac (zad 4) zal)) (se_c fun _=>zag)))) (zca (se_c fun _=>zbb)) zdm) (zav (zff (zpq (st_t (zbc zhx (zbr (se_c fun _=>zag)) (se_c fun _=>zbk))) (zpq (st_t (zbc zhx (zdv zfa (zac (zad 4) zal)) (se_c fun _=>zag))) (zpq (zfr (zmt (zbr (se_c fun _=>zag)) zahk)) (zje (zfr (zmt (zbr (se_c fun _=>zag)) zacz)))))) (zca (zpr (zadc zate zatd (se_c fun _=>zag) (zbr (se_c fun _=>zag)) (zdv zfa (zac (zad 2) zal))) (zaoc (zbe (zac (zad 0) (zac (zbr (zbr (se_c fun _=>zag))) (zac (zbr (zbr (se_c fun _=>zag))) zal))))))) zdm) (zav (zff (zje (zfr (zbe (zac (zad 0) (zac (zad 2) (zac (zad 3) zal)))))) (zca (se_c fun _=>zbb)) zdm) (zav (zff (zpq (st_t (zbc zhx (zbr (se_c fun _=>zag)) (se_c fun _=>zbk))) (st_t (zbc zhx (zdv zfa (zac (zad 4) zal)) (se_c fun _=>zag)))) (zav (zbq (zdl (zdj (zad 1)) (zek (zax (zax zdc))) (zig (zby (by decide) (zby (by decide) zfu))) (st_t (zbc zaom (zad 0) (zbr (se_c fun _=>zag)))) (zad 1))) (zav (zff (zaax (st_t (zbc zhx (zdv zfa (zac (zad 5) zal)) (se_c fun _=>zag))) (st_t (zbc zhx (zbr (se_c fun _=>zag)) (zad 2)))) (zca (se_c fun _=>zbb)) zdm) (zca (zpr (zbe (zac (zad 0) (zac (zbr (se_c fun _=>zag)) (zac (zad 3) zal)))) (zbe (zac (zad 0) (zac (zad 2) (zac (zbr (se_c fun _=>zag)) zal)))))))) zdm) (zca (zbc zhx (zad 4) (zei (zac (se_c fun _=>zbk) zal))))))))) h
theorem zwv {f:Addr} {fd:qw} (F:Fun K "_law_answer" "_law_answer" zgm f fd) (T:Txt mg) (D_law_fits:zpm P w K mg base) (D_law_item:zva P w K mg base):FnOk P w K mg base CX0 5 f fd ["_law_up_here", "_law_rules_here", "_law_call_here", "_law_paper"] (spD 4 zfm):=by
 refine F.ok zwn (fun vs H Q E h=>zcf h) (fun cdv A outer s H vs Q E hr h=>?_)
 have hu:=zfh hr
 apply Exists.intro
 apply And.intro
 ·refine' Bx.out (zai (zcs (zsn (zgr (zcb (K:=K) rfl (zaz (zfx (K:=K) rfl) (by rfl) T.isinstance zcm (zaa (bv 3) (zaa (zhu (v:=.ty "list") (by rfl) T.list ziy rfl (by decide) (by decide)) zah (by rfl)) (by rfl)) (by decide) (by decide) (zaf (by rfl)) (by rfl)) (fun _=>rfl))) (zpg (zbm (zpv (K:=K) rfl hr.units) (zaz (zbz (K:=K) rfl) (by rfl) T.len zck (zaa (bv 3) zah (by rfl)) (by decide) (by decide) (zaf (by rfl)) (by rfl)) (zaz (zbz (K:=K) rfl) (by rfl) T.len zck (zaa (bv 1) zah (by rfl)) (by decide) (by decide) (zaf (by rfl)) (by rfl)) (zcp _)))).pt (zak (zbd zwa)) zbs)
 (zai (zbi (i:=4) zfp rfl (Or.inl rfl) (zfv zah) (by rfl) (.inl rfl))
 (zai (zev qu rfl (zln (K:=K) rfl rfl T.enumerate (zaa (bv 1) zah (by rfl)) (by rfl)) (zci (K:=K) (n:=2) rfl rfl (zau (zar (i:=5) zfp rfl (Or.inl rfl) (.inl rfl)) (zau (zar (i:=6) zfp rfl (Or.inl rfl) (.inl rfl)) zch (by rfl)) (by rfl)) (by rfl) (by rfl))
  (zai (zcs (zgr (zcb (K:=K) rfl (zbo D_law_item (hr.mono (by decide)) (by rfl) (zaa (bv 0) (zaa (bv 1) (zaa (zbn (zcn (K:=K) rfl) (bv 6) zam (fun _ _=>rfl)) (zaa (bv 2) (zaa (zbn (zcn (K:=K) rfl) (bv 3) (bv 5) (fun _ _=>rfl)) zah (by rfl)) (by rfl)) (by rfl)) (by rfl)) (by rfl)) (by decide) (zaf (by rfl)) (by rfl)) (fun _=>rfl))) (zak (zbd zwa)) zbs)
 (zak (zcs (zbm (zer (K:=K) rfl hr.units) (zbn (zcn (K:=K) rfl) (bv 3) (bv 5) (fun _ _=>rfl)) (zcx (zaa zcl zah (by rfl))) (zcp _)) (zak (zdf (zex (K:=K) rfl qY qg qf zcy (bv 4) (zaa (bv 6) zah (by rfl)) (by rfl) (by rfl) (by rfl) (zaf (by rfl)) (by rfl)) (by rfl))) zbs))) (by intro _;rfl))
 (zai (zev qu rfl (zbx (K:=K) rfl (bv 4)) (zci (K:=K) (n:=2) rfl rfl (zau (zar (i:=7) zfp rfl (Or.inl rfl) (.inl rfl)) (zau (zar (i:=8) zfp rfl (Or.inr rfl) (.inl rfl)) zch (by rfl)) (by rfl)) (by rfl) (by rfl))
  (zak (zcs (zcb (K:=K) rfl (zaz (zlc (K:=K) rfl rfl) (by rfl) T.any zom (zaa (zdb (zcc (N':=["_law_one", "_law_other", "_law_up_here", "_law_kinds"]) (own:=["_law_one", "_law_other"]) (fr:=[0,8]) (by kernel_rfl)) rfl (zbx (K:=K) rfl (bv 4)) ?hb1 (by intro _;rfl)) zah (by rfl)) (by decide) (by decide) (zaf (by rfl)) (by rfl)) (fun _=>rfl)) (zak (zbd zwa)) zbs)) (by intro _;rfl))
 (zai (zcs (zbm (zer (K:=K) rfl hr.units) (zaz (zbz (K:=K) rfl) (by rfl) T.len zck (zaa (bv 4) zah (by rfl)) (by decide) (by decide) (zaf (by rfl)) (by rfl)) zam (zcp _)) (zak (zbd (zcx (zaa zcl zah (by rfl))))) zbs)
 (zai (zcs (zbm (zer (K:=K) rfl hr.units) (zaz (zbz (K:=K) rfl) (by rfl) T.len zck (zaa (bv 4) zah (by rfl)) (by decide) (by decide) (zaf (by rfl)) (by rfl)) zam (zcp _)) (zak (zbd (zcx (zaa zcl (zaa (zbn (zcn (K:=K) rfl) (zbn (zcn (K:=K) rfl) (bv 4) zam (fun _ _=>rfl)) zam (fun _ _=>rfl)) zah (by rfl)) (by rfl))))) zbs)
 (zak (zbd (zcx (zaa zcl (zaa (zea (zgc (K:=K) rfl) (by rfl) T.tuple zen (zaa (zdb (zcc (N':=["_law_name", "_law_kinds"]) (own:=["_law_name", "_law_kinds"]) (fr:=[]) (by kernel_rfl)) rfl (zbx (K:=K) rfl (bv 4)) ?hb2 (by intro _;rfl)) zah (by rfl)) (by decide) (by decide) (zaf (by rfl)) (by rfl)) zah (by rfl)) (by rfl)))))))))))
  case hb1=>(intro cl C s H fp;refine' ⟨Bx.out (zci (K:=K) (n:=2) rfl rfl (zau (zar (i:=0) zkx rfl (Or.inl rfl) (by first|exact .inl rfl|exact .inr rfl|assumption)) (zau (zar (i:=1) zkx rfl (Or.inl rfl) (by first|exact .inl rfl|exact .inr rfl|assumption)) zch (by rfl)) (by rfl)) (by rfl) (by rfl)),Bx.out zfg,Bx.out (zlk (zht (zpv (K:=K) rfl hr.units) (bv 1) (bv 3) (zcp _)) (zlj (zbo D_law_fits (hr.mono (by decide)) (by rfl) (zaa (bv 2) (zaa (bv 3) (zaa (bv 1) zah (by rfl)) (by rfl)) (by rfl)) (by decide) (zaf (by rfl)) (by rfl))))⟩)
  case hb2=>(intro cl C s H fp;refine' ⟨Bx.out (zci (K:=K) (n:=2) rfl rfl (zau (zar (i:=0) zky rfl (Or.inl rfl) (by first|exact .inl rfl|exact .inr rfl|assumption)) (zau (zar (i:=1) zky rfl (Or.inl rfl) (by first|exact .inl rfl|exact .inr rfl|assumption)) zch (by rfl)) (by rfl)) (by rfl) (by rfl)),Bx.out zfg,Bx.out (bv 0)⟩)
 exact fn_d (f:=zqe) ((zav (zff (zaax (zje (zfr (zmt (zad 3) zacy))) (st_t (zbc zxw (zdv zfa (zac (zad 3) zal)) (zdv zfa (zac (zad 1) zal))))) (zca (se_c fun _=>zjp)) zdm) (zav (zbq (zif zal)) (zav (zgz (zsm (zac (zad 1) zal)) (zek (zax (zax zdc))) (zav (zff (zje (zfr (zbe (zac (zad 0) (zac (zad 1) (zac (zbr (se_c fun _=>zag)) (zac (zad 2) (zac (zbr (zad 5)) zal)))))))) (zca (se_c fun _=>zjp)) zdm) (zff (st_t (zbc zhx (zbr (zad 5)) (zei (zac (se_c fun _=>zbk) zal)))) (zjf (zad 6)) zdm))) (zav (zgz (zdj (zad 4)) (zek (zax (zax zdc))) (zff (zfr (zdv zps (zac (zdl (zdj (zad 4)) (zek (zax (zax zdc))) (zig (zby (by decide) (zby (by decide) zfu))) zha (zpr (zbc zxw (zad 1) (zad 3)) (zbe (zac (zad 2) (zac (zad 3) (zac (zad 1) zal)))))) zal))) (zca (se_c fun _=>zjp)) zdm)) (zav (zff (st_t (zbc zhx (zdv zfa (zac (zad 4) zal)) (se_c fun _=>zag))) (zca (zei (zac (se_c fun _=>zbk) zal))) zdm) (zav (zff (st_t (zbc zhx (zdv zfa (zac (zad 4) zal)) (se_c fun _=>zag))) (zca (zei (zac (se_c fun _=>zbk) (zac (zbc zals (zbr (se_c fun _=>zag)) (se_c fun _=>zag)) zal)))) zdm) (zca (zei (zac (se_c fun _=>zbk) (zac (zdv zkf (zac (zdl (zdj (zad 4)) (zek (zax (zax zdc))) (zig (zby (by decide) (zby (by decide) zfu))) zha (zad 0)) zal)) zal))))))))))) h
theorem zzy {f:Addr} {fd:qw} (F:Fun K "_law_right" "_law_right" zho f fd) (T:Txt mg) (D_law_answer:zqo P w K mg base) (D_answer_of:zth P w K mg base) (D_shows:zajn P w K mg base) (D_why:zaub P w K mg base):FnOk P w K mg base CX0 7 f fd ["_law_book", "_law_up_here", "_law_call_here"] (spD 3 zbt):=by
 refine F.ok zzk (fun vs H Q E h=>zcf h) (fun cdv A outer s H vs Q E hr h=>?_)
 have hu:=zfh hr
 apply Exists.intro
 apply And.intro
 ·refine' Bx.out (zai (zbi (i:=3) zhz rfl (Or.inl rfl) (zbo D_why (hr.mono (by decide)) (by rfl) (zaa (bv 0) (zaa (bv 2) zah (by rfl)) (by rfl)) (by decide) (zaf (by rfl)) (by rfl)) (by rfl) (.inl rfl))
 (zai (zbi (i:=4) zhz rfl (Or.inl rfl) (zbo D_law_answer (hr.mono (by decide)) (by rfl) (zaa (bv 1) (zaa (zbn (zcn (K:=K) rfl) (bv 0) zam (fun _ _=>rfl)) (zaa (bv 2) (zaa (bv 3) zah (by rfl)) (by rfl)) (by rfl)) (by rfl)) (by decide) (zaf (by rfl)) (by rfl)) (by rfl) (.inl rfl))
 (zai (zcs (zsn (zaja (zaqv (bv 4)) (by first|exact zaku _ (by decide) (by decide)|rfl)) (zsn (zbm (zpv (K:=K) rfl hr.units) (zbo D_answer_of (hr.mono (by decide)) (by rfl) (zaa (bv 0) (zaa (bv 2) zah (by rfl)) (by rfl)) (by decide) (zaf (by rfl)) (by rfl)) (bv 4) (zcp _)) (zpg (zbm zyc (zbo D_shows (hr.mono (by decide)) (by rfl) (zaa (bv 0) (zaa (bv 2) (zaa (bv 4) (zaa (bv 3) zah (by rfl)) (by rfl)) (by rfl)) (by rfl)) (by decide) (zaf (by rfl)) (by rfl)) zhy (zcp _))))).pt (zak (zbd zhy)) zbs)
 (zai (zbi (i:=5) zhz rfl (Or.inl rfl) (zfv (zaa (zcx (zaa zcl zah (by rfl))) (zaa (zcx (zaa zcl (zaa zcl zah (by rfl)) (by rfl))) (zaa (zcx (zaa zcl (zaa (zcx (zaa zcl (zaa zcl zah (by rfl)) (by rfl))) zah (by rfl)) (by rfl))) (zaa (zea (zjo (K:=K) rfl) (by rfl) T.list ziy (zaa (bv 4) zah (by rfl)) (by decide) (by decide) (zaf (by rfl)) (by rfl)) (zaa zwa zah (by rfl)) (by rfl)) (by rfl)) (by rfl)) (by rfl))) (by rfl) (.inl rfl))
 (zai (zev qu rfl (zbx (K:=K) rfl (zbj (zde (K:=K) rfl) (bv 5) (zdb (zcc (N':=["_law_name", "_law_kinds"]) (own:=["_law_name", "_law_kinds"]) (fr:=[]) (by kernel_rfl)) rfl (zbx (K:=K) rfl (zbn (zcn (K:=K) rfl) (bv 0) zam (fun _ _=>rfl))) ?hb1 (by intro _;rfl)))) (zar (i:=6) zhz rfl (Or.inl rfl) (.inl rfl))
  (zak (zcs (zlm (zbm (zpv (K:=K) rfl hr.units) (bv 6) (bv 4) (zcp _)) (zml (zbm zyc (zbo D_shows (hr.mono (by decide)) (by rfl) (zaa (bv 0) (zaa (bv 2) (zaa (bv 6) (zaa (bv 3) zah (by rfl)) (by rfl)) (by rfl)) (by rfl)) (by decide) (zaf (by rfl)) (by rfl)) zhy (zcp _)))).pt (zak (zbd zhy)) zbs)) (by intro _;rfl))
 (zai (zdf (zams (K:=K) rfl qY PySem.F.slot_list_reverse PySem.F.type_list_reverse zaev (bv 3) (by rfl) (by rfl)) (by rfl))
 (zai (zdf (zex (K:=K) rfl qY qg qf zcy (bv 3) (zaa (zcx (zaa zcl zah (by rfl))) zah (by rfl)) (by rfl) (by rfl) (by rfl) (zaf (by rfl)) (by rfl)) (by rfl))
 (zak (zbd (zht (zer (K:=K) rfl hr.units) (zbo D_law_answer (hr.mono (by decide)) (by rfl) (zaa (bv 1) (zaa (zbn (zcn (K:=K) rfl) (bv 0) zam (fun _ _=>rfl)) (zaa (bv 2) (zaa (zbo D_why (hr.mono (by decide)) (by rfl) (zaa (bv 0) (zaa (bv 2) zah (by rfl)) (by rfl)) (by decide) (zaf (by rfl)) (by rfl)) zah (by rfl)) (by rfl)) (by rfl)) (by rfl)) (by decide) (zaf (by rfl)) (by rfl)) (bv 4) (zcp _)))))))))))
  case hb1=>(intro cl C s H fp;refine' ⟨Bx.out (zci (K:=K) (n:=2) rfl rfl (zau (zar (i:=0) zlx rfl (Or.inl rfl) (by first|exact .inl rfl|exact .inr rfl|assumption)) (zau (zar (i:=1) zlx rfl (Or.inl rfl) (by first|exact .inl rfl|exact .inr rfl|assumption)) zch (by rfl)) (by rfl)) (by rfl) (by rfl)),Bx.out zfg,Bx.out (zcx (zaa zcl (zaa (bv 0) zah (by rfl)) (by rfl)))⟩)
 exact fn_d (f:=zls) ((zav (zbq (zbe (zac (zad 0) (zac (zad 2) zal)))) (zav (zbq (zrg (zbe (zac (zad 1) (zac (zbr (se_c fun _=>zag)) (zac (zad 2) (zac (zad 3) zal))))))) (zav (zff (zaax (st_b (zatf (zad 4))) (zaax (st_t (zbc zxw (zbe (zac (zad 0) (zac (zad 2) zal))) (zad 4))) (st_t (zbc zatk (zbe (zac (zad 0) (zac (zad 2) (zac (zad 4) (zac (zad 3) zal))))) (se_c fun _=>zbb))))) (zca (se_c fun _=>zbb)) zdm) (zav (zbq (zif (zac (zei (zac (se_c fun _=>zbk) zal)) (zac (zei (zac (se_c fun _=>zbk) (zac (se_c fun _=>zbk) zal))) (zac (zei (zac (se_c fun _=>zbk) (zac (zei (zac (se_c fun _=>zbk) (zac (se_c fun _=>zbk) zal))) zal))) (zac (zdv zry (zac (zad 4) zal)) (zac (se_c fun _=>zjp) zal))))))) (zav (zgz (zdj (zbc zhw (zad 5) (zdl (zdj (zbr (se_c fun _=>zag))) (zek (zax (zax zdc))) (zig (zby (by decide) (zby (by decide) zfu))) zha (zei (zac (se_c fun _=>zbk) (zac (zad 0) zal)))))) zej (zff (zpq (st_t (zbc zxw (zad 6) (zad 4))) (st_t (zbc zatk (zbe (zac (zad 0) (zac (zad 2) (zac (zad 6) (zac (zad 3) zal))))) (se_c fun _=>zbb)))) (zca (se_c fun _=>zbb)) zdm)) (zav zath (zav (zjf (zei (zac (se_c fun _=>zbk) zal))) (zca (zbc zhx (zrg (zbe (zac (zad 1) (zac (zbr (se_c fun _=>zag)) (zac (zad 2) (zac (zbe (zac (zad 0) (zac (zad 2) zal))) zal)))))) (zad 4))))))))))) h
end
inductive Arm where
 | one (n:Str)
 | many (ns:List Str)
noncomputable def Arm.parts:Arm→List Str
 | .one n=>[n]
 | .many ns=>ns
noncomputable def armD:Arm→PyData
 | .one n=>.str n
 | .many ns=>.tuple (ns.map .str)
noncomputable def zaq (c:List Arm):PyData:=.tuple (c.map armD)
noncomputable def zan (ks:List Str):PyData:=.tuple (ks.map .str)
noncomputable def zbf (r:Str×List Str):PyData:=.tuple [.str r.1,zan r.2]
noncomputable def zaj (rs:List (Str×List Str)):PyData:=.list (rs.map zbf)
noncomputable def zbl (W:Web) (p:Nat) (rs:List (Str×List Str)):PyData:=.tuple [webD W,.int p,zaj rs]
theorem zhv (a:Arm):zcr [armD a]=some (zae a.parts,true):=by
 cases a with
 | one n=>rfl
 | many ns=>rfl
theorem ztl {c:List Arm} (hc:c.length<300) (ha:∀ a∈c,a.parts.length<300):zgs [zaq c]=some (zae (c.flatMap Arm.parts),true):=by
 have k:zlh (gN 0) zcw (zaw (zay 1 zcr (zab (eVar 0) aNil))) (gN 1) zcw (eVar 1) [.no,.no] (c.map armD)=some (c.flatMap fun a=>a.parts.map .str):=by
  refine zsl fun a hm=>⟨[.pl (armD a),.no],rfl,rfl,?_⟩
  have e:zaw (zay 1 zcr (zab (eVar 0) aNil)) [.pl (armD a),.no]=some (a.parts.map .str,[]):=by
   unfold zaw
   rw [zbg (n:=1) (rs:=[⟨armD a,false,[]⟩]) rfl rfl (zhv a)]
   rfl
  unfold innL
  rw [e]
  show (if (a.parts.map PyData.str).length<300 then zdy (gN 1) zcw (eVar 1) [.pl (armD a),.no] (a.parts.map .str) else none)=_
  rw [if_pos (by rw [qC];exact ha a hm)]
  exact zdg fun x _=>⟨[.pl (armD a),.pl (.str x)],rfl,rfl,vs x,rfl,rfl⟩
 have fl:(c.flatMap fun a=>a.parts.map PyData.str)=(c.flatMap Arm.parts).map .str:=by
  rw [List.map_flatMap]
 rw [fl] at k
 exact zdw (env:=[.pl (zaq c)]) rfl (zes (zami (own:=["arm", "name"]) (fr:=[]) (fi:=zaw (eVar 0)) (ds:=c.map armD) (bs:=[]) rfl (by rw [qC];exact hc) k))
theorem zzz {W:Web} (h:WebOk W) {c:List Arm} (hc:c.length<300) (ha:∀ a∈c,a.parts.length<300) (hk:∀ a∈c,∀ n∈a.parts,n∈nm W):zjg [webD W,.int c.length,zaq c]=some (.none,false):=by
 have hW:W.length≤12:=h.len
 have e2:eCB lenD (zab (eVar 2) aNil) [.pl (webD W),.pl (.int c.length),.pl (zaq c)]=some (vi (c.map armD).length):=rfl
 have t:zbh (eOp neD (eCB lenD (zab (eVar 2) aNil)) (eVar 1)) [.pl (webD W),.pl (.int c.length),.pl (zaq c)]=some false:=by
  refine zds ?_
  unfold eOp
  rw [e2]
  show ((neD (.int ((c.map armD).length:Nat)) (.int (c.length:Nat))).bind fun z=>some (⟨z.1,z.2,bsOf z.1 ([]++[])⟩:Val))=_
  rw [qC]
  rw [zahu];rfl
 have cn:zgq [webD W,zae (c.flatMap Arm.parts)]=some (.none,false):=zvr (by omega) fun n hn=>by
  obtain ⟨a,ha',hn'⟩:=qBi.mp hn
  exact hk a ha' n hn'
 exact zavd (env:=[.pl (webD W),.pl (.int c.length),.pl (zaq c)]) rfl (zat (if_f t rfl) (zaht (zbg (n:=2) (rs:=[⟨webD W,false,[]⟩,⟨zae (c.flatMap Arm.parts),true,[]⟩]) (zba rfl (zdt (zbg (n:=1) (rs:=[⟨zaq c,false,[]⟩]) rfl rfl (ztl hc ha)))) rfl cn)))
noncomputable def upA (W:Web) (a:Arm):List Str:=a.parts.foldl (fun ks n=>(up W n).foldl insS ks) []
theorem zww {W:Web} {a:Arm} {x:Str}:x∈upA W a↔∃ n∈a.parts,x∈up W n:=by
 unfold upA
 have:∀ (l ks:List Str),x∈l.foldl (fun ks n=>(up W n).foldl insS ks) ks↔x∈ks∨∃ n∈l,x∈up W n:=by
  intro l
  induction l with
  | nil=>intro ks;simp
  | cons n l ih=>intro ks;rw [qBJ,ih,zoh];simp [or_assoc]
 rw [this];simp
theorem zafr {W:Web} (h:WebOk W) {a:Arm} (hk:∀ n∈a.parts,n∈nm W):zli [.dict (dS zas (ups W)),armD a]=some (zas (upA W a),true):=by
 have nd:∀ (l ks:List Str),ks.Nodup→(∀ x∈ks,x∈nm W)→(l.foldl (fun ks n=>(up W n).foldl insS ks) ks).Nodup∧∀ x∈l.foldl (fun ks n=>(up W n).foldl insS ks) ks,x∈nm W:=by
  intro l
  induction l with
  | nil=>intro ks h1 h2;exact ⟨h1,h2⟩
  | cons n l ih =>
   intro ks h1 h2
   refine ih _ (zvs h1) fun x hx=>?_
   rcases zoh.mp hx with z|z
   ·exact h2 x z
   ·exact zadi h z
 obtain ⟨env',lp,s3,rfl⟩:=zem (enc:=PyData.str) (g:=gN 3) (body:=sUpd 2 (zel 0 (eVar 3))) (l:=a.parts) (env:=[.pl (.dict (dS zas (ups W))),.pl (armD a),.ac (zas []),.no])
  (fun pre env=>∃ s3,env=[.pl (.dict (dS zas (ups W))),.pl (armD a),.ac (zas (pre.foldl (fun ks n=>(up W n).foldl insS ks) [])),s3]) ⟨_,rfl⟩ (by
   rintro pre n post env hp ⟨s3,rfl⟩
   have hn:n∈nm W:=hk n (by rw [← hp];simp)
   refine ⟨[.pl (.dict (dS zas (ups W))),.pl (armD a),.ac (zas (pre.foldl (fun ks n=>(up W n).foldl insS ks) [])),.pl (.str n)],[.pl (.dict (dS zas (ups W))),.pl (armD a),.ac (zas ((pre++[n]).foldl (fun ks n=>(up W n).foldl insS ks) [])),.pl (.str n)],rfl,.inl ?_,_,rfl⟩
   ·have l1:=zahv h n
    obtain ⟨n1,n2⟩:=nd pre [] qBq (by simp)
    have l2:=zlb _ _ n1 n2
    have l3:=zro h
    have lz:(zjc (pre.foldl (fun ks n=>(up W n).foldl insS ks) [])).length+(zjc (up W n)).length≤100000:=by unfold zjc;rw [qC,qC];omega
    simp only [sUpd,zas,zel,eVar,qAL,qAK,qD,keyD,znm,zmj hn,qAq]
    rw [if_pos ⟨lz,by simp⟩,znn,qBb]
    simp [frzs])
 exact zdw (env:=[.pl (.dict (dS zas (ups W))),.pl (armD a),.no,.no]) rfl (zat rfl (zat (for_list (zbg (n:=1) (rs:=[⟨armD a,false,[]⟩]) rfl rfl (zhv a)) lp) rfl))
theorem zjb {W:Web} (h:WebOk W) {c:List Arm} (hc:c.length<300) (hk:∀ a∈c,∀ n∈a.parts,n∈nm W):zct [.dict (dS zas (ups W)),zaq c]=some (.list (c.map fun a=>zas (upA W a)),true):=by
 have k:zdy (gN 0) zcw (zay 2 zli (zab (eVar 1) (zab (eVar 0) aNil))) [.no,.pl (.dict (dS zas (ups W)))] (c.map armD)=some (c.map fun a=>zas (upA W a)) :=
  zdg fun a hm=>⟨[.pl (armD a),.pl (.dict (dS zas (ups W)))],rfl,rfl,_,zbg (n:=2) (rs:=[⟨.dict (dS zas (ups W)),false,[]⟩,⟨armD a,false,[]⟩]) rfl rfl (zafr h (hk a hm)),rfl⟩
 exact zdw (env:=[.pl (.dict (dS zas (ups W))),.pl (zaq c)]) rfl (zes (zdr (own:=["arm"]) (fr:=[0]) (fi:=zaw (eVar 1)) (ds:=c.map armD) (bs:=[]) rfl (by rw [qC];omega) k))
theorem zwx {α β:Type} (f:α→PyData) (g:β→PyData) (l:List α) (r:List β):List.zipWith (fun d e=>PyData.tuple [d,e]) (l.map f) (r.map g)=(l.zip r).map fun z=>PyData.tuple [f z.1,g z.2]:=by
 induction l generalizing r with
 | nil=>rfl
 | cons a l ih=>cases r with
  | nil=>rfl
  | cons b r=>rw [qZ,qZ,List.zipWith_cons_cons,ih,qA5,qZ]
noncomputable def fitB (W:Web) (ks:List Str) (c:List Arm):Bool:=(ks.zip c).all fun z=>decide (z.1∈upA W z.2)
theorem zqp {W:Web} {ks:List Str} {c:List Arm} (hc:c.length<300):zet [zan ks,.list (c.map fun a=>zas (upA W a))]=some (.bool (fitB W ks c),false):=by
 have it:ztx (zab (eVar 0) (zab (eVar 1) aNil)) [.pl (zan ks),.pl (.list (c.map fun a=>zas (upA W a)))]=some ((ks.zip c).map fun z=>PyData.tuple [.str z.1,zas (upA W z.2)],[]):=by
  show some (List.zipWith (fun d e=>PyData.tuple [d,e]) (ks.map .str) (c.map fun a=>zas (upA W a)),[]++[])=_
  rw [zwx];rfl
 have k:zdy (gT 2 (zao 0 (zao 1 zce))) zcw (eDIn false (eVar 0) (eVar 1)) [.no,.no] ((ks.zip c).map fun z=>PyData.tuple [.str z.1,zas (upA W z.2)])=some ((ks.zip c).map fun z=>.bool (decide (z.1∈upA W z.2))) :=
  zdg fun z _=>⟨[.pl (.str z.1),.pl (zas (upA W z.2))],rfl,rfl,vb (decide (z.1∈upA W z.2)),zadm (neg:=false) (fr:=false) (bs:=[]) rfl rfl,rfl⟩
 have lz:(ks.zip c).length≤c.length:=by rw [qBG];exact Nat.min_le_right _ _
 exact zdw (env:=[.pl (zan ks),.pl (.list (c.map fun a=>zas (upA W a)))]) rfl (zes (bs:=[]) (zaqu (zdr (own:=["kind", "roof"]) (fr:=[]) it (by rw [qC];omega) k)))
noncomputable def zgx (W:Web) (ks ls:List Str):Bool:=!(ks==ls)&&(ks.zip ls).all fun z=>decide (z.2∈up W z.1)
theorem zoq:∀ (a b:List Str),PyData.eqvAll (a.map .str) (b.map .str)=(a==b)
 | [],[]=>rfl
 | [],_::_=>rfl
 | _::_,[]=>rfl
 | x::a,y::b=>by
  show (qG (.str x) (.str y)&&PyData.eqvAll (a.map .str) (b.map .str))=_
  rw [zoq a b]
  show ((x==y)&&(a==b))=_
  rfl
noncomputable def LowS (ks:List Str):Prop:=∀ k∈ks,qV k=true
theorem zia {ks:List Str} (h:LowS ks):qI (zan ks)=true:=by
 obtain ⟨h1,h2⟩:=zkm ks h
 unfold qI zan
 rw [qb]
 refine ⟨h1,decide_eq_true ?_⟩
 show qk (ks.map .str)+1≤64
 omega
theorem zaee {ks ls:List Str} (h1:LowS ks) (h2:LowS ls):neD (zan ks) (zan ls)=some (.bool (!(ks==ls)),false):=by
 unfold neD eqOk
 rw [zia h1,zia h2,qCe,qCp,if_pos rfl]
 show some (PyData.bool (!PyData.eqvAll (ks.map .str) (ls.map .str)),false)=_
 rw [zoq]
theorem zns {W:Web} (h:WebOk W) {ks ls:List Str} (h1:LowS ks) (h2:LowS ls) (hk:∀ k∈ks,k∈nm W) (hl:ks.length<300):zdu [.dict (dS zas (ups W)),zan ks,zan ls]=some (.bool (zgx W ks ls),false):=by
 have it:ztx (zab (eVar 1) (zab (eVar 2) aNil)) [.pl (.dict (dS zas (ups W))),.pl (zan ks),.pl (zan ls)]=some ((ks.zip ls).map fun z=>PyData.tuple [.str z.1,.str z.2],[]):=by
  show some (List.zipWith (fun d e=>PyData.tuple [d,e]) (ks.map .str) (ls.map .str),[]++[])=_
  rw [zwx];rfl
 have k:zdy (gT 2 (zao 0 (zao 1 zce))) zcw (eDIn false (eVar 1) (zel 2 (eVar 0))) [.no,.no,.pl (.dict (dS zas (ups W)))] ((ks.zip ls).map fun z=>PyData.tuple [.str z.1,.str z.2])=some ((ks.zip ls).map fun z=>.bool (decide (z.2∈up W z.1))) :=
  zdg fun z hz=>⟨[.pl (.str z.1),.pl (.str z.2),.pl (.dict (dS zas (ups W)))],rfl,rfl,vb (decide (z.2∈up W z.1)),zadm (neg:=false) (fr:=false) (bs:=[]) rfl (zaij (d:=zas (up W z.1)) (.inl rfl) rfl (by rw [znm,zmj (hk z.1 (qAb hz).1)];rfl)),rfl⟩
 have lz:(ks.zip ls).length≤ks.length:=by rw [qBG];exact qA1 _ _
 have e1:eOp neD (eVar 1) (eVar 2) [.pl (.dict (dS zas (ups W))),.pl (zan ks),.pl (zan ls)]=some (vb (!(ks==ls))):=by
  show ((neD (zan ks) (zan ls)).bind fun z=>some (⟨z.1,z.2,bsOf z.1 ([]++[])⟩:Val))=_
  rw [zaee h1 h2];rfl
 have e2:=zaqu (f:=fun z:Str×Str=>decide (z.2∈up W z.1)) (zdr (own:=["low", "high"]) (fr:=[0]) it (by rw [qC];omega) k)
 refine zdw (env:=[.pl (.dict (dS zas (ups W))),.pl (zan ks),.pl (zan ls)]) rfl (zes (bs:=[]) ?_)
 unfold eAnd
 rw [e1,qD]
 unfold zgx
 cases ks==ls with
 | true=>rfl
 | false=>exact e2
structure RulesOk (W:Web) (rs:List (Str×List Str)):Prop where
 low:∀ r∈rs,LowS r.2
 kinds:∀ r∈rs,∀ k∈r.2,k∈nm W
 few:∀ r∈rs,r.2.length<300
 len:rs.length<300
theorem RulesOk.filter {W:Web} {rs:List (Str×List Str)} (h:RulesOk W rs) (p:Str×List Str→Bool):RulesOk W (rs.filter p) :=
 ⟨fun r hr=>h.low r (qh.mp hr).1,fun r hr=>h.kinds r (qh.mp hr).1,fun r hr=>h.few r (qh.mp hr).1,qAl (qAk _ _) h.len⟩
structure CallOk (W:Web) (c:List Arm):Prop where
 len:c.length<300
 few:∀ a∈c,a.parts.length<300
 kinds:∀ a∈c,∀ n∈a.parts,n∈nm W
noncomputable def fitL (W:Web) (rs:List (Str×List Str)) (c:List Arm):List (Str×List Str):=rs.filter fun r=>fitB W r.2 c
noncomputable def zge (W:Web) (rs:List (Str×List Str)):List (Str×List Str):=rs.filter fun r=>!(rs.any fun q=>zgx W q.2 r.2)
theorem zaef {n:Nat} {g:GF} {f:AF} {env:DEnv} {rs:List Val} {b:Bool} (h:f env=some rs) (hn:rs.length=n) (k:g (zni rs)=some (.bool b,false)):tTru (zay n g f) env=some b:=by
 unfold tTru;rw [zbg h hn k];rfl
theorem zajs {α:Type} {f:α→Bool} {l:List α} {a:EF} {env:DEnv} {fr:Bool} {bs:List Nat} (ha:a env=some ⟨.list (l.map fun x=>.bool (f x)),fr,bs⟩):eCB (anyD fun bs=>bs.any id) (zab a aNil) env=some (vb (l.any f)):=by
 unfold eCB
 rw [zdt ha,qD]
 show ((zrz (l.map fun x=>.bool (f x))).map _).bind _=_
 rw [zsk]
 simp only [qAq,qD,qBY]
 rfl
theorem zqq {W:Web} (h:WebOk W) {rs:List (Str×List Str)} (hr:RulesOk W rs):zfl [.dict (dS zas (ups W)),zaj rs]=some (zaj (zge W rs),true):=by
 have hlen:=hr.len
 have k:zdy (gN 0) (zfi (tTru (eCB (anyD fun bs=>bs.any id) (zab (zda ["name", "kinds"] [0,1] (zaw (eVar 2)) (gT 2 (zao 0 (zao 1 zce))) zcw (zay 3 zdu (zab (eVar 3) (zab (eVar 1) (zab (eIxV 2 (eC (.int 1))) aNil))))) aNil)))) (eVar 0) [.no,.pl (.dict (dS zas (ups W))),.pl (zaj rs)] (rs.map zbf)=some ((zge W rs).map zbf):=by
  refine zdn (enc:=zbf) (out:=zbf) (e:=eVar 0) (fun r=>!(rs.any fun q=>zgx W q.2 r.2)) fun r hm=>⟨[.pl (zbf r),.pl (.dict (dS zas (ups W))),.pl (zaj rs)],rfl,?_,fun _=>⟨⟨zbf r,false,[]⟩,rfl,rfl⟩⟩
  have k2:zdy (gT 2 (zao 0 (zao 1 zce))) zcw (zay 3 zdu (zab (eVar 3) (zab (eVar 1) (zab (eIxV 2 (eC (.int 1))) aNil)))) [.no,.no,.pl (zbf r),.pl (.dict (dS zas (ups W)))] (rs.map zbf)=some (rs.map fun q=>.bool (zgx W q.2 r.2)) :=
   zdg fun q hq=>⟨[.pl (.str q.1),.pl (zan q.2),.pl (zbf r),.pl (.dict (dS zas (ups W)))],rfl,rfl,_,zbg (n:=3) (rs:=[⟨.dict (dS zas (ups W)),false,[]⟩,⟨zan q.2,false,[]⟩,⟨zan r.2,false,[]⟩]) rfl rfl (zns h (hr.low q hq) (hr.low r hm) (hr.kinds q hq) (hr.few q hq)),rfl⟩
  exact zpx (zajs (f:=fun q:Str×List Str=>zgx W q.2 r.2) (zdr (own:=["name", "kinds"]) (fr:=[0,1]) (fi:=zaw (eVar 2)) (env:=[.pl (zbf r),.pl (.dict (dS zas (ups W))),.pl (zaj rs)]) (ds:=rs.map zbf) (bs:=[]) rfl (by rw [qC];omega) k2))
 exact zdw (env:=[.pl (.dict (dS zas (ups W))),.pl (zaj rs)]) rfl (zes (zdr (own:=["rule"]) (fr:=[0,1]) (fi:=zaw (eVar 1)) (ds:=rs.map zbf) (bs:=[]) rfl (by rw [qC];omega) k))
theorem zqr {rs:List (Str×List Str)} (hl:rs.length<300):zgf [zaj rs]=some (zae (rs.map (·.1)),true):=by
 have k:zdy (gT 2 (zao 0 (zao 1 zce))) zcw (eVar 0) [.no,.no] (rs.map zbf)=some (rs.map fun r=>.str r.1):=zdg fun r _=>⟨[.pl (.str r.1),.pl (zan r.2)],rfl,rfl,vs r.1,rfl,rfl⟩
 have e:(rs.map fun r=>PyData.str r.1)=(rs.map (·.1)).map .str:=by rw [qAi];rfl
 rw [e] at k
 exact zdw (env:=[.pl (zaj rs)]) rfl (zes (zdr (own:=["name", "kinds"]) (fr:=[]) (fi:=zaw (eVar 0)) (ds:=rs.map zbf) (bs:=[]) rfl (by rw [qC];omega) k))
noncomputable def zfw:List Str→PyData
 | []=>.tuple [.str "none"]
 | [x]=>.tuple [.str "rule",.str x]
 | xs=>.tuple [.str "quarrel",zan xs]
theorem ztm:∀ (xs:List Str),zhd [zae xs]=some (zfw xs,false)
 | []=>rfl
 | [x]=>rfl
 | x::y::xs=>by
  have t:zbh (eOp eqD (eCB lenD (zab (eVar 0) aNil)) (eC (.int 1))) [.pl (zae (x::y::xs))]=some false:=by
   rw [zds (ztw (i:=((x::y::xs).map PyData.str).length) (j:=1) (zlg rfl) rfl)]
   congr 1
  exact zdw (env:=[.pl (zae (x::y::xs))]) rfl (zat (if_f rfl rfl) (zat (if_f t rfl) rfl))
theorem zie {W:Web} (h:WebOk W) {rs:List (Str×List Str)} {c:List Arm} (hr:RulesOk W rs) (hc:CallOk W c):zco [zbl W c.length rs,zaq c]=some (zaj (fitL W rs c),true):=by
 have hl:=hr.len
 have e5:sSet 5 (zay 2 zct (zab (zay 1 zdz (zab (eVar 2) aNil)) (zab (eVar 1) aNil))) [.pl (zbl W c.length rs),.pl (zaq c),.pl (webD W),.pl (.int c.length),.pl (zaj rs),.no]=some (.nx [.pl (zbl W c.length rs),.pl (zaq c),.pl (webD W),.pl (.int c.length),.pl (zaj rs),.ac (.list (c.map fun a=>zas (upA W a)))]) :=
  zcq (r:=⟨.list (c.map fun a=>zas (upA W a)),true,[]⟩) (zbg (n:=2) (rs:=[⟨.dict (dS zas (ups W)),true,[]⟩,⟨zaq c,false,[]⟩]) (zba (zbg (n:=1) (rs:=[⟨webD W,false,[]⟩]) rfl rfl (zmi h)) (zdt rfl)) rfl (zjb h hc.len hc.kinds))
 have k:zdy (gN 0) (tTru (zay 2 zet (zab (eIxV 0 (eC (.int 1))) (zab (eVar 1) aNil)))) (eVar 0) [.no,.pl (.list (c.map fun a=>zas (upA W a)))] (rs.map zbf)=some ((fitL W rs c).map zbf) :=
  zdn (enc:=zbf) (out:=zbf) (e:=eVar 0) (fun r=>fitB W r.2 c) fun r hm=>⟨[.pl (zbf r),.pl (.list (c.map fun a=>zas (upA W a)))],rfl,zaef (n:=2) (rs:=[⟨zan r.2,false,[]⟩,⟨.list (c.map fun a=>zas (upA W a)),false,[]⟩]) rfl rfl (zqp hc.len),fun _=>⟨⟨zbf r,false,[]⟩,rfl,rfl⟩⟩
 exact zdw (env:=[.pl (zbl W c.length rs),.pl (zaq c),.no,.no,.no,.no]) rfl (zat rfl (zat (zaht (zbg (n:=3) (rs:=[⟨webD W,false,[]⟩,vi c.length,⟨zaq c,false,[]⟩]) rfl rfl (zzz h hc.len hc.few hc.kinds))) (zat e5 (zes (zdr (own:=["rule"]) (fr:=[5]) (fi:=zaw (eVar 4)) (ds:=rs.map zbf) (bs:=[]) rfl (by rw [qC];omega) k)))))
theorem zajt {W:Web} (h:WebOk W) {rs:List (Str×List Str)} {c:List Arm} (hr:RulesOk W rs) (hc:CallOk W c):zok [zbl W c.length rs,zaq c]=some (zae ((zge W (fitL W rs c)).map (·.1)),true):=by
 have e2:sSet 2 (zay 2 zco (zab (eVar 0) (zab (eVar 1) aNil))) [.pl (zbl W c.length rs),.pl (zaq c),.no]=some (.nx [.pl (zbl W c.length rs),.pl (zaq c),.ac (zaj (fitL W rs c))]) :=
  zcq (r:=⟨zaj (fitL W rs c),true,[]⟩) (zbg (n:=2) (rs:=[⟨zbl W c.length rs,false,[]⟩,⟨zaq c,false,[]⟩]) rfl rfl (zie h hr hc))
 have e3:zay 1 zdz (zab (eIxV 0 (eC (.int 0))) aNil) [.pl (zbl W c.length rs),.pl (zaq c),.ac (zaj (fitL W rs c))]=some ⟨.dict (dS zas (ups W)),true,[]⟩:=zbg (n:=1) (rs:=[⟨webD W,false,[]⟩]) rfl rfl (zmi h)
 have e4:zay 2 zfl (zab (zay 1 zdz (zab (eIxV 0 (eC (.int 0))) aNil)) (zab (eVar 2) aNil)) [.pl (zbl W c.length rs),.pl (zaq c),.ac (zaj (fitL W rs c))]=some ⟨zaj (zge W (fitL W rs c)),true,[2]⟩:=zbg (n:=2) (rs:=[⟨.dict (dS zas (ups W)),true,[]⟩,⟨zaj (fitL W rs c),false,[2]⟩]) (zba e3 (zdt rfl)) rfl (zqq h (hr.filter _))
 exact zdw (env:=[.pl (zbl W c.length rs),.pl (zaq c),.no]) rfl (zat e2 (zes (zbg (n:=1) (rs:=[⟨zaj (zge W (fitL W rs c)),true,[2]⟩]) (zdt e4) rfl (zqr ((hr.filter _).filter _).len))))
theorem zabx {W:Web} (h:WebOk W) {rs:List (Str×List Str)} {c:List Arm} (hr:RulesOk W rs) (hc:CallOk W c):zgd [zbl W c.length rs,zaq c]=some (zfw ((zge W (fitL W rs c)).map (·.1)),false) :=
 zdw (env:=[.pl (zbl W c.length rs),.pl (zaq c)]) rfl (zes (zbg (n:=1) (rs:=[⟨zae ((zge W (fitL W rs c)).map fun r:Str×List Str=>r.1),true,[]⟩]) (zdt (zbg (n:=2) (rs:=[⟨zbl W c.length rs,false,[]⟩,⟨zaq c,false,[]⟩]) rfl rfl (zajt h hr hc))) rfl (ztm _)))
noncomputable def Two (x:Str):Prop:=∃ a b,∀ c∈x.cps.toList,c=a∨c=b
theorem ztn {x:Str} {l u:Option Int} {c:Nat} (h:c∈(Txt.slice x l u).cps.toList):c∈x.cps.toList:=by
 unfold Txt.slice at h
 split at h
 ·exact h
 ·have h:c∈(List.filterMap (x.cps[·]?) (Builtin.Str.strSliceIndices l u 1 x.length)):=by simpa using h
  obtain ⟨i,_,e⟩:=qBW.mp h
  have:=qCl e
  simpa using this
theorem zaju {a b:EF} {env:DEnv} {x y:List Str} {f1 f2:Bool} {b1 b2:List Nat} (ha:a env=some ⟨zae x,f1,b1⟩) (hb:b env=some ⟨zae y,f2,b2⟩) (h:x.length+y.length≤100000):eOp addD a b env=some ⟨zae (x++y),true,b1++b2⟩:=by
 unfold eOp
 rw [ha,hb]
 show ((if (x.map PyData.str).length+(y.map PyData.str).length≤100000 then some (PyData.list (x.map .str++y.map .str),true) else none).bind fun z=>some (⟨z.1,z.2,bsOf z.1 (b1++b2)⟩:Val))=_
 rw [if_pos (by rw [qC,qC];exact h),← qAJ]
 rfl
theorem zajv {a:EF} {l h:PF'} {env:DEnv} {x y:List Str} {f:Bool} {bs:List Nat} {lo hi:Option Int} (ha:a env=some ⟨zae x,f,bs⟩) (hl:l env=some lo) (hh:h env=some hi) (e:cutD (x.map .str) lo hi=y.map .str):eSl a l h env=some ⟨zae y,true,bs⟩:=by
 unfold eSl
 rw [ha,hl,hh]
 show (some (PyData.list (cutD (x.map .str) lo hi),true)).bind (fun z=>some (⟨z.1,z.2,bsOf z.1 bs⟩:Val))=_
 rw [e]
 rfl
theorem zajw {md o st at_:Int} {stem:Str} (h:∃ a,∀ x∈stem.cps.toList,x=a) (hst:0≤st) (k:Nat):Two (zkz md o st stem at_ k):=by
 obtain ⟨a,ha⟩:=h
 have l1:∀ (z:Int) (x:Nat),x∈(ltr z).cps.toList→x=97+z.toNat:=fun z x hx=>by unfold ltr at hx;simpa using hx
 unfold zkz
 split
 ·refine ⟨a,97+((o+st * k) % 26).toNat,fun x hx=>?_⟩
  rw [zkl,zkl] at hx
  rcases qAA.mp hx with hx|hx
  ·rcases qAA.mp hx with hx|hx
   ·exact .inl (ha x (ztn hx))
   ·exact .inr (l1 _ x hx)
  ·exact .inl (ha x (ztn hx))
 ·split
  ·refine ⟨a,97+((o+st * k) % 26).toNat,fun x hx=>?_⟩
   rw [zkl] at hx
   rcases qAA.mp hx with hx|hx
   ·exact .inl (ha x (ztn hx))
   ·exact .inr (l1 _ x hx)
  ·refine ⟨97+((o+(k:Int) / 8) % 26).toNat,0,fun x hx=>.inl ?_⟩
   unfold ltr at hx
   have:=qAQ ((k:Int) * st) (show (8:Int)≠0 by decide)
   rw [zoj (by omega)] at hx
   exact qBc hx
noncomputable def zfn:List Str:=["none", "rule", "quarrel", "near", "far", "out"]
theorem zpo {x:Str} {a b c:Nat} (h1:a∈x.cps.toList) (h2:b∈x.cps.toList) (h3:c∈x.cps.toList) (n1:a≠b) (n2:a≠c) (n3:b≠c):¬ Two x:=by
 rintro ⟨p,q,h⟩
 have:=h a h1
 have:=h b h2
 have:=h c h3
 omega
theorem zafs:∀ x∈zfn,¬ Two x:=by
 intro x hx
 unfold zfn at hx
 simp only [qe,qAX,or_false] at hx
 rcases hx with rfl|rfl|rfl|rfl|rfl|rfl
 ·exact zpo (a:=110) (b:=111) (c:=101) (by decide +kernel) (by decide +kernel) (by decide +kernel) (by decide) (by decide) (by decide)
 ·exact zpo (a:=114) (b:=117) (c:=108) (by decide +kernel) (by decide +kernel) (by decide +kernel) (by decide) (by decide) (by decide)
 ·exact zpo (a:=113) (b:=117) (c:=97) (by decide +kernel) (by decide +kernel) (by decide +kernel) (by decide) (by decide) (by decide)
 ·exact zpo (a:=110) (b:=101) (c:=97) (by decide +kernel) (by decide +kernel) (by decide +kernel) (by decide) (by decide) (by decide)
 ·exact zpo (a:=102) (b:=97) (c:=114) (by decide +kernel) (by decide +kernel) (by decide +kernel) (by decide) (by decide) (by decide)
 ·exact zpo (a:=111) (b:=117) (c:=116) (by decide +kernel) (by decide +kernel) (by decide +kernel) (by decide) (by decide) (by decide)
theorem zamx:zfn.Nodup:=by decide +kernel
theorem zajx:∀ x∈zfn,Low x:=by
 intro x hx
 unfold zfn at hx
 simp only [qe,qAX,or_false] at hx
 unfold Low
 rcases hx with rfl|rfl|rfl|rfl|rfl|rfl<;>decide +kernel
theorem zaby (ds:List PyData) (k:Nat):cutD ds (some (k:Int)) none=ds.drop k:=by
 unfold cutD
 have e1:HT.sIx ds.length ds.length none=ds.length:=rfl
 rw [e1,HT.sIx_nat]
 rcases Nat.le_total k ds.length with h|h
 ·rw [Nat.min_eq_left h,qCi (by rw [qAh];exact qO _)]
 ·rw [Nat.min_eq_right h,qBD,List.drop_of_length_le h,List.take_nil]
theorem zqs {m c:Int} (m0:0≤m) (m16:m≤16) (c0:0≤c):∃ xs:List Str,zdh [.int m,.int c]=some (zae xs,true)∧xs.length=m.toNat∧xs.Nodup∧∀ x∈xs,Low x:=by
 have md:∀ (z j:Int),0<j→0≤z % j∧z % j<j:=fun z j hj=>⟨qAQ z (by omega),qAV z hj⟩
 have i8:=md (c / 3) 8 (by decide)
 obtain ⟨st,hst,hmem⟩:=zaqp i8.1 i8.2
 have st0:0≤st∧st<100:=by
  simp only [qe,qBh,or_false] at hmem
  rcases hmem with rfl|rfl|rfl|rfl|rfl|rfl|rfl|rfl<;>decide
 have o26:=md (c / 24) 26 (by decide)
 have j26:=md (c / 624) 26 (by decide)
 have n8:=md (c / 16224) 8 (by decide)
 have lowS:Low (Txt.mul (ltr (c / 624 % 26)) (c / 16224 % 8)):=Low.mul (by omega) n8.1
 have lenS:(Txt.mul (ltr (c / 624 % 26)) (c / 16224 % 8)).length≤7:=by unfold ltr;rw [zaqj n8.1];omega
 have s3:sSet 3 (eOp ixD (eTup (zab (eC (.int 1)) (zab (eC (.int 3)) (zab (eC (.int 5)) (zab (eC (.int 7)) (zab (eC (.int 9)) (zab (eC (.int 11)) (zab (eC (.int 15)) (zab (eC (.int 17)) aNil))))))))) (eOp modD (eOp zdk (eVar 1) (eC (.int 3))) (eC (.int 8)))) [.pl (.int m),.pl (.int c),.pl (.str abc),.no,.no,.no,.no,.no,.no,.no,.no,.no]=some (.nx [.pl (.int m),.pl (.int c),.pl (.str abc),.pl (.int st),.no,.no,.no,.no,.no,.no,.no,.no]):=by
  refine zcq (r:=vi st) ?_
  unfold eOp
  show ((some (⟨.tuple [PyData.int 1,.int 3,.int 5,.int 7,.int 9,.int 11,.int 15,.int 17],false,[]⟩:Val)).bind fun x=>((some (vi (c / 3 % 8))).bind fun y=>(ixD x.d y.d).bind fun z=>some (⟨z.1,z.2,bsOf z.1 (x.bs++y.bs)⟩:Val)))=_
  simp only [qD,ixD]
  rw [hst];rfl
 have s5:sSet 5 (eOp mulD (eIxV 2 (eOp modD (eOp zdk (eVar 1) (eC (.int 624))) (eC (.int 26)))) (eOp modD (eOp zdk (eVar 1) (eC (.int 16224))) (eC (.int 8)))) [.pl (.int m),.pl (.int c),.pl (.str abc),.pl (.int st),.pl (.int (c / 24 % 26)),.no,.no,.no,.no,.no,.no,.no] =
   some (.nx [.pl (.int m),.pl (.int c),.pl (.str abc),.pl (.int st),.pl (.int (c / 24 % 26)),.pl (.str (Txt.mul (ltr (c / 624 % 26)) (c / 16224 % 8))),.no,.no,.no,.no,.no,.no]) :=
  zcq (r:=vs _) (zaoh (zaqo rfl rfl j26.1 j26.2) rfl ⟨by show 1≤1000;decide,by omega,by omega⟩)
 have oneS:∃ a,∀ x∈(Txt.mul (ltr (c / 624 % 26)) (c / 16224 % 8)).cps.toList,x=a:=⟨_,fun x hx=>by
  unfold ltr at hx
  rw [zoj n8.1] at hx
  exact qBc hx⟩
 generalize hO:c / 24 % 26=o at o26 s5
 generalize Txt.mul (ltr (c / 624 % 26)) (c / 16224 % 8)=stem at lowS lenS s5 oneS
 clear j26 n8 i8
 have s6:∃ at_:Int,sSet 6 (eOp modD (eOp zdk (eVar 1) (eC (.int 129792))) (eOp addD (eCB lenD (zab (eVar 5) aNil)) (eC (.int 1)))) [.pl (.int m),.pl (.int c),.pl (.str abc),.pl (.int st),.pl (.int o),.pl (.str stem),.no,.no,.no,.no,.no,.no]=some (.nx [.pl (.int m),.pl (.int c),.pl (.str abc),.pl (.int st),.pl (.int o),.pl (.str stem),.pl (.int at_),.no,.no,.no,.no,.no]) :=
  ⟨_,zcq (r:=vi _) (zid rfl (zvu (zaoi rfl (by omega)) rfl) (by omega))⟩
 obtain ⟨at_,s6⟩:=s6
 have loop:∃ env',forL (gN 8) (sSeq (sSet 9 (eIxV 2 (eOp modD (eOp addD (eVar 4) (eOp mulD (eVar 3) (eVar 8))) (eC (.int 26)))))
  (sIf (zbh (eOp eqD (eOp modD (eVar 1) (eC (.int 3))) (eC (.int 0)))) (sApp 7 (eOp addD (eOp addD (eSl (eVar 5) zgo (zcv (eVar 6))) (eVar 9)) (eSl (eVar 5) (zcv (eVar 6)) zgo))) (sIf (zbh (eOp eqD (eOp modD (eVar 1) (eC (.int 3))) (eC (.int 1)))) (sApp 7 (eOp addD (eSl (eVar 5) zgo (zcv (eOp modD (eOp mulD (eVar 8) (eVar 3)) (eOp addD (eCB lenD (zab (eVar 5) aNil)) (eC (.int 1)))))) (eVar 9))) (sApp 7 (eOp mulD (eIxV 2 (eOp modD (eOp addD (eVar 4) (eOp zdk (eVar 8) (eC (.int 8)))) (eC (.int 26)))) (eOp addD (eC (.int 1)) (eOp modD (eOp mulD (eVar 8) (eVar 3)) (eC (.int 8)))))))))
   ((List.range m.toNat).map fun (k:Nat)=>PyData.int (k:Int)) [.pl (.int m),.pl (.int c),.pl (.str abc),.pl (.int st),.pl (.int o),.pl (.str stem),.pl (.int at_),.ac (.list []),.no,.no,.no,.no]=some (.nx env') ∧
   ∃ s8 s9,env'=[.pl (.int m),.pl (.int c),.pl (.str abc),.pl (.int st),.pl (.int o),.pl (.str stem),.pl (.int at_),.ac (zae ((List.range m.toNat).map (zkz (c % 3) o st stem at_))),s8,s9,.no,.no]:=by
  refine zem (fun pre env=>∃ s8 s9,env=[.pl (.int m),.pl (.int c),.pl (.str abc),.pl (.int st),.pl (.int o),.pl (.str stem),.pl (.int at_),.ac (zae (pre.map (zkz (c % 3) o st stem at_))),s8,s9,.no,.no]) ⟨_,_,rfl⟩ ?_
  rintro pre k post env hk ⟨s8,s9,rfl⟩
  have hkm:k<m.toNat:=qAT.mp (by rw [← hk];simp)
  have hpl:pre.length<100:=by
   have:=congrArg List.length hk
   simp at this
   omega
  have b1:0≤st * (k:Int):=qCZ st0.1 (Int.natCast_nonneg _)
  have s26:=md (o+st * (k:Int)) 26 (by decide)
  have sl:∀ a b,(Txt.slice stem a b).length≤7:=fun a b=>qAW (Txt.slice_le stem a b) lenS
  have lz:stem.length≤100000:=qAW lenS (by decide)
  have l1:(ltr ((o+st * (k:Int)) % 26)).length=1:=rfl
  refine ⟨_,[.pl (.int m),.pl (.int c),.pl (.str abc),.pl (.int st),.pl (.int o),.pl (.str stem),.pl (.int at_),.ac (zae ((pre++[k]).map (zkz (c % 3) o st stem at_))),.pl (.int (k:Int)),.pl (.str (ltr ((o+st * (k:Int)) % 26))),.no,.no],rfl,.inl ?_,_,_,rfl⟩
  refine zat (zcq (r:=vs _) (zaqo rfl (zid (zvu rfl (zama rfl rfl (.inl ⟨by omega,by omega⟩))) rfl (by decide)) s26.1 s26.2)) ?_
  have fin:∀ x:Str,x=zkz (c % 3) o st stem at_ k→(PyData.list ((pre.map (zkz (c % 3) o st stem at_)).map PyData.str++[.str x]))=zae ((pre++[k]).map (zkz (c % 3) o st stem at_)):=fun x e=>by
   unfold zae
   rw [qAJ,qAJ,e];rfl
  have lp:((pre.map (zkz (c % 3) o st stem at_)).map PyData.str).length<100000:=by rw [qC,qC];exact qCt hpl (by decide)
  by_cases h0:c % 3=0
  ·refine if_t (zds (by rw [ztw (zid rfl rfl (by decide)) rfl];rw [h0];rfl)) ?_
   have z1:=sl none (some at_)
   have z2:=sl (some at_) none
   refine (zmu rfl (zaie (zaie (zaql rfl rfl (zpw rfl) lz) rfl (by omega)) (zaql rfl (zpw rfl) rfl lz) (by rw [zaqq];omega)) lp).trans ?_
   rw [fin _ (by unfold zkz;rw [if_pos h0])];rfl
  ·refine if_f (zds (by rw [ztw (zid rfl rfl (by decide)) rfl];rw [beq_eq_false_iff_ne.mpr h0])) ?_
   by_cases h1:c % 3=1
   ·refine if_t (zds (by rw [ztw (zid rfl rfl (by decide)) rfl];rw [h1];rfl)) ?_
    have z1:=sl none (some ((k:Int) * st % ((stem.length:Int)+1)))
    refine (zmu rfl (zaie (zaql rfl rfl (zpw (zid (zama rfl rfl (.inr ⟨by omega,by omega⟩)) (zvu (zaoi rfl lz) rfl) (by omega))) lz) rfl (by omega)) lp).trans ?_
    rw [fin _ (by unfold zkz;rw [if_neg h0,if_pos h1])];rfl
   ·refine if_f (zds (by rw [ztw (zid rfl rfl (by decide)) rfl];rw [beq_eq_false_iff_ne.mpr h1])) ?_
    have t26:=md (o+(k:Int) / 8) 26 (by decide)
    have u8:=md ((k:Int) * st) 8 (by decide)
    refine (zmu rfl (zaoh (zaqo rfl (zid (zvu rfl (zlf rfl rfl (by decide) (by decide))) rfl (by decide)) t26.1 t26.2) (zvu rfl (zid (zama rfl rfl (.inr ⟨by omega,by omega⟩)) rfl (by decide))) ⟨by show 1≤1000;decide,by omega,by omega⟩) lp).trans ?_
    rw [fin _ (by unfold zkz;rw [if_neg h0,if_neg h1])];rfl
 obtain ⟨env',hl,s8,s9,rfl⟩:=loop
 generalize hN:(List.range m.toNat).map (zkz (c % 3) o st stem at_)=xs at hl
 have lx:xs.length=m.toNat:=by rw [← hN];simp
 have nx:xs.Nodup:=by rw [← hN];exact zsf fun a b ha hb e=>zaic hmem o26.1 (by omega) (by omega) e
 have lo:∀ x∈xs,Low x:=fun x hx=>by
  rw [← hN] at hx
  obtain ⟨j,_,rfl⟩:=qAa.mp hx
  exact zaid lowS o26.1 st0.1 j
 have tw:∀ x∈xs,Two x:=fun x hx=>by
  rw [← hN] at hx
  obtain ⟨j,_,rfl⟩:=qAa.mp hx
  exact zajw oneS st0.1 j
 have it:zic (zab (eVar 0) aNil) [.pl (.int m),.pl (.int c),.pl (.str abc),.pl (.int st),.pl (.int o),.pl (.str stem),.pl (.int at_),.ac (.list []),.no,.no,.no,.no]=some ((List.range m.toNat).map fun (k:Nat)=>PyData.int (k:Int),[]):=by
  unfold zic
  rw [zdt (r:=vi m) rfl]
  simp only [qD]
  rw [if_pos ⟨by omega,by omega⟩,zsh]
 have run:∀ o',(sSeq (sIf (zbh (eOp eqD (eOp modD (eOp zdk (eVar 1) (eC (.int 1038336))) (eC (.int 6))) (eC (.int 5)))) (sSeq (sSet 10 (eLst (zab (eC (.str "none")) (zab (eC (.str "rule")) (zab (eC (.str "quarrel")) (zab (eC (.str "near")) (zab (eC (.str "far")) (zab (eC (.str "out")) aNil))))))))
  (sSeq (sSet 11 (eOp modD (eOp zdk (eVar 1) (eC (.int 6230016))) (eC (.int 6))))
  (sSet 7 (eSl (eOp addD (eOp addD (eSl (eVar 10) (zcv (eVar 11)) zgo) (eSl (eVar 10) zgo (zcv (eVar 11)))) (eSl (eVar 7) (zcv (eC (.int 6))) zgo)) zgo (zcv (eVar 0)))))) sNil)
  (ztv 7)) [.pl (.int m),.pl (.int c),.pl (.str abc),.pl (.int st),.pl (.int o),.pl (.str stem),.pl (.int at_),.ac (zae xs),s8,s9,.no,.no]=o'→(ziw [.pl (.int m),.pl (.int c),.no,.no,.no,.no,.no,.no,.no,.no,.no,.no]=o'):=fun o' e =>
  zat rfl (zat s3 (zat (e1:=[.pl (.int m),.pl (.int c),.pl (.str abc),.pl (.int st),.pl (.int o),.no,.no,.no,.no,.no,.no,.no]) (by rw [← hO];rfl) (zat s5 (zat s6 (zat rfl (zat (zjs it hl) e))))))
 have t1:zbh (eOp eqD (eOp modD (eOp zdk (eVar 1) (eC (.int 1038336))) (eC (.int 6))) (eC (.int 5))) [.pl (.int m),.pl (.int c),.pl (.str abc),.pl (.int st),.pl (.int o),.pl (.str stem),.pl (.int at_),.ac (zae xs),s8,s9,.no,.no]=some (c / 1038336 % 6==5):=zds (ztw (zid (zlf rfl rfl (by decide) (by decide)) rfl (by decide)) rfl)
 cases hb:(c / 1038336 % 6==5) with
 | false =>
  rw [hb] at t1
  exact ⟨xs,zdw (env:=[.pl (.int m),.pl (.int c),.no,.no,.no,.no,.no,.no,.no,.no,.no,.no]) rfl (run _ (zat (if_f t1 rfl) rfl)),lx,nx,lo⟩
 | true =>
  rw [hb] at t1
  have m6:=md (c / 6230016) 6 (by decide)
  obtain ⟨q,hq,q6⟩:∃ q:Nat,c / 6230016 % 6=(q:Int)∧q≤6:=⟨(c / 6230016 % 6).toNat,by omega,by omega⟩
  have e11:sSet 11 (eOp modD (eOp zdk (eVar 1) (eC (.int 6230016))) (eC (.int 6))) [.pl (.int m),.pl (.int c),.pl (.str abc),.pl (.int st),.pl (.int o),.pl (.str stem),.pl (.int at_),.ac (zae xs),s8,s9,.ac (zae zfn),.no]=some (.nx [.pl (.int m),.pl (.int c),.pl (.str abc),.pl (.int st),.pl (.int o),.pl (.str stem),.pl (.int at_),.ac (zae xs),s8,s9,.ac (zae zfn),.pl (.int (q:Int))]):=by
   rw [← hq]
   exact zcq (r:=vi _) (zid (zlf rfl rfl (by decide) (by decide)) rfl (by decide))
  have cutW1:cutD (zfn.map .str) (some (q:Int)) none=(zfn.drop q).map .str:=by rw [zaby,qB0]
  have cutW2:cutD (zfn.map .str) none (some (q:Int))=(zfn.take q).map .str:=by rw [zaba _ _ (by simpa [zfn] using q6),qBg]
  have cutX:cutD (xs.map .str) (some ((6:Nat):Int)) none=(xs.drop 6).map .str:=by rw [zaby,qB0]
  have lW:(zfn.drop q++zfn.take q).length=6:=by rw [qp,qAh,qAu];show 6 - q+min q 6=6;omega
  have lR:((zfn.drop q++zfn.take q)++xs.drop 6).length≥m.toNat:=by rw [qp,lW,qAh,lx];omega
  have cutM:cutD (((zfn.drop q++zfn.take q)++xs.drop 6).map .str) none (some (m.toNat:Int))=(((zfn.drop q++zfn.take q)++xs.drop 6).take m.toNat).map .str:=by rw [zaba _ _ (by rw [qC];exact lR),qBg]
  have hm:(m.toNat:Int)=m:=by omega
  rw [hm] at cutM
  have wl:(zfn.drop q).length+(zfn.take q).length≤100000:=by rw [← qp,lW];decide
  have a12:eOp addD (eSl (eVar 10) (zcv (eVar 11)) zgo) (eSl (eVar 10) zgo (zcv (eVar 11))) [.pl (.int m),.pl (.int c),.pl (.str abc),.pl (.int st),.pl (.int o),.pl (.str stem),.pl (.int at_),.ac (zae xs),s8,s9,.ac (zae zfn),.pl (.int (q:Int))]=some ⟨zae (zfn.drop q++zfn.take q),true,[10]++[10]⟩ :=
   zaju (zajv (x:=zfn) (f:=false) (bs:=[10]) rfl (zpw (i:=(q:Int)) rfl) rfl cutW1) (zajv (x:=zfn) (f:=false) (bs:=[10]) rfl rfl (zpw (i:=(q:Int)) rfl) cutW2) wl
  have a3:eSl (eVar 7) (zcv (eC (.int 6))) zgo [.pl (.int m),.pl (.int c),.pl (.str abc),.pl (.int st),.pl (.int o),.pl (.str stem),.pl (.int at_),.ac (zae xs),s8,s9,.ac (zae zfn),.pl (.int (q:Int))]=some ⟨zae (xs.drop 6),true,[7]⟩:=zajv (x:=xs) (f:=false) (bs:=[7]) rfl (zpw (i:=((6:Nat):Int)) rfl) rfl cutX
  have a4:=zajv (l:=zgo) (h:=zcv (eVar 0)) (zaju a12 a3 (by rw [lW,qAh,lx];omega)) rfl (zpw (i:=m) rfl) cutM
  refine ⟨((zfn.drop q++zfn.take q)++xs.drop 6).take m.toNat,zdw (env:=[.pl (.int m),.pl (.int c),.no,.no,.no,.no,.no,.no,.no,.no,.no,.no]) rfl (run _ (zat (if_t t1 (zat rfl (zat e11 (zcq a4)))) rfl)),by rw [qAu];omega,?_,fun x hx=>?_⟩
  ·refine List.Nodup.sublist (qB4 _ _) ?_
   have pw:(zfn.drop q++zfn.take q).Perm zfn:=by
    have:=List.perm_append_comm (l₁:=zfn.drop q) (l₂:=zfn.take q)
    rwa [List.take_append_drop] at this
   refine qBM.mpr ⟨pw.nodup_iff.mpr zamx,nx.sublist (List.drop_sublist _ _),fun a ha b hb e=>?_⟩
   subst e
   exact zafs a (pw.mem_iff.mp ha) (tw a (qAn hb))
  ·rcases qAA.mp (qAx hx) with z|z
   ·refine zajx x ?_
    rcases qAA.mp z with z|z
    ·exact qAn z
    ·exact qAx z
   ·exact lo x (qAn z)
theorem zto {α:Type} (enc:α→PyData) (l:List α):zpd (l.map enc)=((List.range l.length).zip l).map fun z=>PyData.tuple [.int (z.1:Nat),enc z.2]:=by
 rw [zadl]
 have:∀ (l:List α) (k:Nat),(l.zipIdx k).map (fun (p:α×Nat)=>PyData.tuple [.int (p.2:Int),enc p.1])=(((List.range l.length).map (·+k)).zip l).map fun z=>PyData.tuple [.int (z.1:Nat),enc z.2]:=by
  intro l
  induction l with
  | nil=>intro k;rfl
  | cons x l ih =>
   intro k
   rw [qB9,qZ,ih,qAc,qCj,qZ,qA5,qZ,qB8]
   congr 3
   rw [qAi]
   refine qBR fun j _=>?_
   show j+(k+1)=j+1+k
   omega
 rw [this l 0]
 simp
theorem zajy {i:Nat} {f:EF} {env:DEnv} {ds:List PyData} {d:PyData} {fr:Bool} {bs:List Nat} (he:env[i]?=some (.ac (.list ds))) (hf:f env=some ⟨d,fr,bs⟩) (hl:ds.length<100000) (hi:i∉bs):sApp i f env=some (.nx ((frzs env bs).set i (.ac (.list (ds++[d]))))):=by
 unfold sApp
 rw [he,hf]
 show (if ds.length<100000∧i∉bs then _ else _)=_
 rw [if_pos ⟨hl,hi⟩]
theorem zamy {a b:EF} {env:DEnv} {i j:Int} (ha:a env=some (vi i)) (hb:b env=some (vi j)):eOp gtD a b env=some (vb (decide (j<i))):=by
 unfold eOp;rw [ha,hb];rfl
theorem zaqy (neg:Bool) (x a b:Str):inD neg (.str x) (.tuple [.str a,.str b])=some (.bool (if neg then !decide (x∈[a,b]) else decide (x∈[a,b])),false):=by
 unfold inD
 simp only [zgy]
 rw [if_pos ⟨rfl,zin [a,b]⟩]
 have:=zadg [a,b] x
 rw [qZ,qZ,qBX] at this
 rw [this]
theorem b64:-(2 ^ 64)<(4:Int)∧(4:Int)<2 ^ 64:=by omega
structure CallIn (xs:List Str) (c:List Arm):Prop where
 kinds:∀ a∈c,∀ n∈a.parts,n∈xs
 few:∀ a∈c,a.parts.length≤4
 some:∀ a∈c,a.parts≠[]
theorem CallIn.snoc {xs:List Str} {c:List Arm} {a:Arm} (h:CallIn xs c) (h1:∀ n∈a.parts,n∈xs) (h2:a.parts.length≤4) (h3:a.parts≠[]):CallIn xs (c++[a]):=by
 refine ⟨fun b hb=>?_,fun b hb=>?_,fun b hb=>?_⟩<;>rcases qAA.mp hb with z|z
 ·exact h.kinds b z
 ·rw [qAI.mp z];exact h1
 ·exact h.few b z
 ·rw [qAI.mp z];exact h2
 ·exact h.some b z
 ·rw [qAI.mp z];exact h3
section
variable {A0 A2 A6 s8 s9:Sl} {ds:List PyData} {xs:List Str} {r:Int} {n at_:Nat}
theorem zajz {env:DEnv} {b:EF} {j:Nat} {i:Int} (h1:env[1]?=some (.pl (zae xs))) (hb:b env=some (vi i)) (hi:i=(j:Int)) (hj:j<xs.length):eIxV 1 b env=some (vs xs[j]):=by
 subst hi
 exact zsg (ds:=xs.map .str) h1 hb (by rw [qR,qE hj];rfl)
theorem zaeg (hn:n=xs.length) (ha:at_<n):∃ hj:n - 1 - at_<xs.length,eIxV 1 (eOp subD (eOp subD (eVar 5) (eC (.int 1))) (eVar 7)) [A0,.pl (zae xs),A2,.ac (.list ds),.pl (.int r),.pl (.int (n:Int)),A6,.pl (.int (at_:Int)),s8,s9]=some (vs (xs[n - 1 - at_]'hj)):=by
 have hj:n - 1 - at_<xs.length:=by omega
 have e:(n:Int) - 1 - (at_:Int)=((n - 1 - at_:Nat):Int):=by omega
 exact ⟨hj,zajz rfl (zalz (i:=(n:Int) - 1) (j:=(at_:Int)) (zalz (i:=(n:Int)) (j:=1) rfl rfl) rfl) e hj⟩
theorem zaqz (hn:n=xs.length) (ha:at_<n) (hl:ds.length<100000):∃ a:Arm,(∀ m∈a.parts,m∈xs)∧a.parts.length≤4∧a.parts≠[]∧sApp 3 (eTup (zab (eIxV 1 (eOp subD (eOp subD (eVar 5) (eC (.int 1))) (eVar 7))) aNil)) [A0,.pl (zae xs),A2,.ac (.list ds),.pl (.int r),.pl (.int (n:Int)),A6,.pl (.int (at_:Int)),s8,s9]=some (.nx [A0,.pl (zae xs),A2,.ac (.list (ds++[armD a])),.pl (.int r),.pl (.int (n:Int)),A6,.pl (.int (at_:Int)),s8,s9]):=by
 obtain ⟨hj,e⟩:=zaeg (A0:=A0) (A2:=A2) (A6:=A6) (s8:=s8) (s9:=s9) (ds:=ds) (r:=r) hn ha
 refine ⟨.many [xs[n - 1 - at_]'hj],fun m hm=>by rw [qAI.mp hm];exact qAY _,by show 1≤4;decide,by simp [Arm.parts],?_⟩
 refine zmu (i:=3) (ds:=ds) (d:=armD (.many [xs[n - 1 - at_]'hj])) (fr:=false) rfl ?_ hl
 unfold eTup
 rw [zdt e]
 rfl
theorem zamz (hn:n=xs.length) (ha:at_<n) (hl:ds.length<100000):∃ a:Arm,(∀ m∈a.parts,m∈xs)∧a.parts.length≤4∧a.parts≠[]∧sApp 3 (eIxV 1 (eOp subD (eOp subD (eVar 5) (eC (.int 1))) (eVar 7))) [A0,.pl (zae xs),A2,.ac (.list ds),.pl (.int r),.pl (.int (n:Int)),A6,.pl (.int (at_:Int)),s8,s9]=some (.nx [A0,.pl (zae xs),A2,.ac (.list (ds++[armD a])),.pl (.int r),.pl (.int (n:Int)),A6,.pl (.int (at_:Int)),s8,s9]):=by
 obtain ⟨hj,e⟩:=zaeg (A0:=A0) (A2:=A2) (A6:=A6) (s8:=s8) (s9:=s9) (ds:=ds) (r:=r) hn ha
 refine ⟨.one (xs[n - 1 - at_]'hj),fun m hm=>by rw [qAI.mp hm];exact qAY _,by show 1≤4;decide,by simp [Arm.parts],?_⟩
 exact zmu (i:=3) (ds:=ds) (d:=armD (.one (xs[n - 1 - at_]'hj))) (fr:=false) rfl e hl
end
noncomputable def Hd (d:PyData) (s:Sl):Prop:=s=.pl d∨s=.ac d
theorem e_hd {env:DEnv} {i:Nat} {d:PyData} {s:Sl} (h:env[i]?=some s) (hs:Hd d s):∃ bs,eVar i env=some ⟨d,false,bs⟩:=by
 unfold eVar
 rw [h]
 rcases hs with rfl|rfl
 ·exact ⟨_,rfl⟩
 ·exact ⟨_,rfl⟩
section
variable {A0 A2 A6 s8 s9:Sl} {ds:List PyData} {xs:List Str} {r:Int} {n at_:Nat}
theorem zana (hn:n=xs.length) (ha:at_<n) (h1:1<n) (r0:0≤r) (hl:ds.length<100000) (hx:xs.length≤16):∃ (a:Arm) (s8' s9':Sl),(∀ m∈a.parts,m∈xs)∧a.parts.length≤4∧a.parts≠[] ∧
  (sSeq (sSet 8 (eOp modD (eOp addD (eOp addD (eVar 7) (eC (.int 1))) (eOp modD (eOp zdk (eVar 4) (eC (.int 4))) (eOp subD (eVar 5) (eC (.int 1))))) (eVar 5)))
  (sSeq (sSet 9 (zda ["_law_name"] [1,7,8] (zaw (eSl (eVar 1) (zcv (eOp subD (eVar 5) (eOp modD (eVar 4) (eC (.int 3))))) zgo)) (gN 0) (zbh (eOp (inD true) (eVar 0) (eTup (zab (eIxV 1 (eVar 2)) (zab (eIxV 1 (eVar 3)) aNil))))) (eVar 0)))
  (sApp 3 (eCB zfs (zab (eOp addD (eLst (zab (eIxV 1 (eVar 7)) (zab (eIxV 1 (eVar 8)) aNil))) (eVar 9)) aNil))))) [A0,.pl (zae xs),A2,.ac (.list ds),.pl (.int r),.pl (.int (n:Int)),A6,.pl (.int (at_:Int)),s8,s9]=some (.nx [A0,.pl (zae xs),A2,.ac (.list (ds++[armD a])),.pl (.int r),.pl (.int (n:Int)),A6,.pl (.int (at_:Int)),s8',s9']):=by
 have m0:∀ (z j:Int),0<j→0≤z % j∧z % j<j:=fun z j hj=>⟨qAQ z (by omega),qAV z hj⟩
 have q:=m0 ((at_:Int)+1+r / 4 % ((n:Int) - 1)) (n:Int) (by omega)
 generalize hby:((at_:Int)+1+r / 4 % ((n:Int) - 1)) % (n:Int)=byz at q
 obtain ⟨by_,hb⟩:∃ b:Nat,byz=(b:Int):=⟨byz.toNat,by omega⟩
 subst hb
 have hbn:by_<n:=by omega
 have e8:sSet 8 (eOp modD (eOp addD (eOp addD (eVar 7) (eC (.int 1))) (eOp modD (eOp zdk (eVar 4) (eC (.int 4))) (eOp subD (eVar 5) (eC (.int 1))))) (eVar 5)) [A0,.pl (zae xs),A2,.ac (.list ds),.pl (.int r),.pl (.int (n:Int)),A6,.pl (.int (at_:Int)),s8,s9]=some (.nx [A0,.pl (zae xs),A2,.ac (.list ds),.pl (.int r),.pl (.int (n:Int)),A6,.pl (.int (at_:Int)),.pl (.int (by_:Int)),s9]):=by
  rw [zcq (zid (zvu (zvu (i:=(at_:Int)) (j:=1) rfl rfl) (zid (zlf (i:=r) (j:=4) rfl rfl (by decide) (by decide)) (zalz (i:=(n:Int)) (j:=1) rfl rfl) (by omega))) (j:=(n:Int)) rfl (by omega)),hby]
  rfl
 have r3:=m0 r 3 (by decide)
 obtain ⟨k,hk⟩:∃ k:Nat,(n:Int) - r % 3=(k:Int):=⟨((n:Int) - r % 3).toNat,by omega⟩
 have ha':at_<xs.length:=by omega
 have hb':by_<xs.length:=by omega
 have sl:zaw (eSl (eVar 1) (zcv (eOp subD (eVar 5) (eOp modD (eVar 4) (eC (.int 3))))) zgo) [A0,.pl (zae xs),A2,.ac (.list ds),.pl (.int r),.pl (.int (n:Int)),A6,.pl (.int (at_:Int)),.pl (.int (by_:Int)),s9]=some ((xs.drop k).map .str,[]):=by
  unfold zaw
  have lo:zcv (eOp subD (eVar 5) (eOp modD (eVar 4) (eC (.int 3)))) [A0,.pl (zae xs),A2,.ac (.list ds),.pl (.int r),.pl (.int (n:Int)),A6,.pl (.int (at_:Int)),.pl (.int (by_:Int)),s9]=some (some (k:Int)):=by
   rw [zpw (zalz (i:=(n:Int)) rfl (zid (i:=r) (j:=3) rfl rfl (by decide))),hk]
  rw [zajv (x:=xs) (y:=xs.drop k) (f:=false) (bs:=[]) rfl lo rfl (by rw [zaby,qB0])]
  rfl
 let p:Str→Bool:=fun x=>!decide (x∈[xs[at_],xs[by_]])
 have c:zdy (gN 0) (zbh (eOp (inD true) (eVar 0) (eTup (zab (eIxV 1 (eVar 2)) (zab (eIxV 1 (eVar 3)) aNil))))) (eVar 0) [.no,.pl (zae xs),.pl (.int (at_:Int)),.pl (.int (by_:Int))] ((xs.drop k).map .str)=some (((xs.drop k).filter p).map .str):=by
  refine zdn p fun x hx=>⟨[.pl (.str x),.pl (zae xs),.pl (.int (at_:Int)),.pl (.int (by_:Int))],rfl,zds ?_,fun _=>⟨vs x,rfl,rfl⟩⟩
  have i1:eIxV 1 (eVar 2) [.pl (.str x),.pl (zae xs),.pl (.int (at_:Int)),.pl (.int (by_:Int))]=some (vs xs[at_]):=zajz rfl rfl rfl ha'
  have i2:eIxV 1 (eVar 3) [.pl (.str x),.pl (zae xs),.pl (.int (at_:Int)),.pl (.int (by_:Int))]=some (vs xs[by_]):=zajz rfl rfl rfl hb'
  have tp:eTup (zab (eIxV 1 (eVar 2)) (zab (eIxV 1 (eVar 3)) aNil)) [.pl (.str x),.pl (zae xs),.pl (.int (at_:Int)),.pl (.int (by_:Int))]=some ⟨.tuple [.str xs[at_],.str xs[by_]],false,[]⟩:=by
   unfold eTup
   rw [zba i1 (zdt i2)]
   rfl
  have st:eOp (inD true) (eVar 0) (eTup (zab (eIxV 1 (eVar 2)) (zab (eIxV 1 (eVar 3)) aNil))) [.pl (.str x),.pl (zae xs),.pl (.int (at_:Int)),.pl (.int (by_:Int))]=((inD true (.str x) (.tuple [.str xs[at_],.str xs[by_]])).bind fun z=>some (⟨z.1,z.2,bsOf z.1 []⟩:Val)):=by
   unfold eOp
   rw [tp]
   rfl
  rw [st,zaqy]
  rfl
 have e9:sSet 9 (zda ["_law_name"] [1,7,8] (zaw (eSl (eVar 1) (zcv (eOp subD (eVar 5) (eOp modD (eVar 4) (eC (.int 3))))) zgo)) (gN 0) (zbh (eOp (inD true) (eVar 0) (eTup (zab (eIxV 1 (eVar 2)) (zab (eIxV 1 (eVar 3)) aNil))))) (eVar 0)) [A0,.pl (zae xs),A2,.ac (.list ds),.pl (.int r),.pl (.int (n:Int)),A6,.pl (.int (at_:Int)),.pl (.int (by_:Int)),s9]=some (.nx [A0,.pl (zae xs),A2,.ac (.list ds),.pl (.int r),.pl (.int (n:Int)),A6,.pl (.int (at_:Int)),.pl (.int (by_:Int)),.ac (zae ((xs.drop k).filter p))]):=by
  refine zcq (r:=⟨zae ((xs.drop k).filter p),true,[]⟩) ?_
  rw [zdr (own:=["_law_name"]) (fr:=[1,7,8]) (ds:=(xs.drop k).map .str) (bs:=[]) sl (by rw [qC,qAh];omega) c,zin]
  rfl
 have hfl:((xs.drop k).filter p).length≤2:=qAW (qAk _ _) (by rw [qAh];omega)
 generalize hmo:(xs.drop k).filter p=more at e9 hfl
 refine ⟨.many (xs[at_]::xs[by_]::more),.pl (.int (by_:Int)),.pl (zae more),fun m hm=>?_,(by show (xs[at_]::xs[by_]::more).length≤4;rw [qAc,qAc];omega),(by simp [Arm.parts]),zat e8 (zat e9 ?_)⟩
 ·rcases qe.mp hm with rfl|hm
  ·exact qAY _
  ·rcases qe.mp hm with rfl|hm
   ·exact qAY _
   ·rw [← hmo] at hm
    exact qAn (qh.mp hm).1
 ·have i1:eIxV 1 (eVar 7) [A0,.pl (zae xs),A2,.ac (.list ds),.pl (.int r),.pl (.int (n:Int)),A6,.pl (.int (at_:Int)),.pl (.int (by_:Int)),.ac (zae more)]=some (vs xs[at_]):=zajz rfl rfl rfl ha'
  have i2:eIxV 1 (eVar 8) [A0,.pl (zae xs),A2,.ac (.list ds),.pl (.int r),.pl (.int (n:Int)),A6,.pl (.int (at_:Int)),.pl (.int (by_:Int)),.ac (zae more)]=some (vs xs[by_]):=zajz rfl rfl rfl hb'
  have l2:eLst (zab (eIxV 1 (eVar 7)) (zab (eIxV 1 (eVar 8)) aNil)) [A0,.pl (zae xs),A2,.ac (.list ds),.pl (.int r),.pl (.int (n:Int)),A6,.pl (.int (at_:Int)),.pl (.int (by_:Int)),.ac (zae more)]=some ⟨zae [xs[at_],xs[by_]],true,[]⟩:=by
   unfold eLst
   rw [zba i1 (zdt i2)]
   rfl
  have ad:=zaju (x:=[xs[at_],xs[by_]]) (y:=more) (b:=eVar 9) (f2:=false) (b2:=[9]) l2 rfl (by show 2+more.length≤100000;omega)
  have tu:eCB zfs (zab (eOp addD (eLst (zab (eIxV 1 (eVar 7)) (zab (eIxV 1 (eVar 8)) aNil))) (eVar 9)) aNil) [A0,.pl (zae xs),A2,.ac (.list ds),.pl (.int r),.pl (.int (n:Int)),A6,.pl (.int (at_:Int)),.pl (.int (by_:Int)),.ac (zae more)]=some ⟨armD (.many (xs[at_]::xs[by_]::more)),false,[9]⟩:=by
   unfold eCB
   rw [zdt ad]
   rfl
  exact zajy (i:=3) (ds:=ds) rfl tu hl (by decide)
end
theorem zpp {xs:List Str} {c:Int} {p:Nat} (hx:1≤xs.length∧xs.length≤16) (c0:0≤c) (hp:p≤3):∃ cl:List Arm,zhe [.int c,zae xs,.int p]=some (zaq cl,false)∧cl.length=p∧CallIn xs cl:=by
 have m0:∀ (z j:Int),0<j→0≤z % j∧z % j<j:=fun z j hj=>⟨qAQ z (by omega),qAV z hj⟩
 have lp:=zem (enc:=fun (k:Nat)=>PyData.int (k:Int)) (g:=gN 6) (l:=List.range p) (env:=[.pl (.int c),.pl (zae xs),.pl (.int p),.ac (.list []),.pl (.int c),.pl (.int (xs.length:Int)),.no,.no,.no,.no])
  (body:=(sSeq (sSet 7 (eOp modD (eVar 4) (eVar 5)))
  (sSeq (sSet 4 (eOp zdk (eVar 4) (eVar 5)))
  (sSeq (sIf (zbh (eOp eqD (eOp modD (eVar 4) (eC (.int 4))) (eC (.int 2)))) (sApp 3 (eTup (zab (eIxV 1 (eOp subD (eOp subD (eVar 5) (eC (.int 1))) (eVar 7))) aNil))) (sIf (zij (zbh (eOp eqD (eOp modD (eVar 4) (eC (.int 4))) (eC (.int 3)))) (zbh (eOp gtD (eVar 5) (eC (.int 1))))) (sSeq (sSet 8 (eOp modD (eOp addD (eOp addD (eVar 7) (eC (.int 1))) (eOp modD (eOp zdk (eVar 4) (eC (.int 4))) (eOp subD (eVar 5) (eC (.int 1))))) (eVar 5)))
  (sSeq (sSet 9 (zda ["_law_name"] [1,7,8] (zaw (eSl (eVar 1) (zcv (eOp subD (eVar 5) (eOp modD (eVar 4) (eC (.int 3))))) zgo)) (gN 0) (zbh (eOp (inD true) (eVar 0) (eTup (zab (eIxV 1 (eVar 2)) (zab (eIxV 1 (eVar 3)) aNil))))) (eVar 0)))
  (sApp 3 (eCB zfs (zab (eOp addD (eLst (zab (eIxV 1 (eVar 7)) (zab (eIxV 1 (eVar 8)) aNil))) (eVar 9)) aNil))))) (sApp 3 (eIxV 1 (eOp subD (eOp subD (eVar 5) (eC (.int 1))) (eVar 7))))))
  (sSet 4 (eOp zdk (eVar 4) (eOp mulD (eC (.int 4)) (eVar 5)))))))) (fun pre env=>∃ (cl:List Arm) (r:Int) (s6 s7 s8 s9:Sl),env=[.pl (.int c),.pl (zae xs),.pl (.int p),.ac (.list (cl.map armD)),.pl (.int r),.pl (.int (xs.length:Int)),s6,s7,s8,s9]∧0≤r∧cl.length=pre.length∧CallIn xs cl)
  ⟨[],c,_,_,_,_,rfl,c0,rfl,⟨fun a h=>(nomatch h),fun a h=>(nomatch h),fun a h=>(nomatch h)⟩⟩ (by
   rintro pre k post env hk ⟨cl,r,s6,s7,s8,s9,rfl,r0,hcl,ok⟩
   have hpl:pre.length<4:=by
    have:=congrArg List.length hk
    simp at this;omega
   have q:=m0 r (xs.length:Int) (by omega)
   obtain ⟨at_,hat⟩:∃ a:Nat,r % (xs.length:Int)=(a:Int):=⟨(r % (xs.length:Int)).toNat,by omega⟩
   have ha:at_<xs.length:=by omega
   have e7:sSet 7 (eOp modD (eVar 4) (eVar 5)) [.pl (.int c),.pl (zae xs),.pl (.int p),.ac (.list (cl.map armD)),.pl (.int r),.pl (.int (xs.length:Int)),.pl (.int (k:Int)),s7,s8,s9]=some (.nx [.pl (.int c),.pl (zae xs),.pl (.int p),.ac (.list (cl.map armD)),.pl (.int r),.pl (.int (xs.length:Int)),.pl (.int (k:Int)),.pl (.int (at_:Int)),s8,s9]):=by
    rw [zcq (zid (i:=r) (j:=(xs.length:Int)) rfl rfl (by omega)),hat];rfl
   have q0:0≤r / (xs.length:Int):=qBT r0 (by omega)
   have e4:sSet 4 (eOp zdk (eVar 4) (eVar 5)) [.pl (.int c),.pl (zae xs),.pl (.int p),.ac (.list (cl.map armD)),.pl (.int r),.pl (.int (xs.length:Int)),.pl (.int (k:Int)),.pl (.int (at_:Int)),s8,s9]=some (.nx [.pl (.int c),.pl (zae xs),.pl (.int p),.ac (.list (cl.map armD)),.pl (.int (r / (xs.length:Int))),.pl (.int (xs.length:Int)),.pl (.int (k:Int)),.pl (.int (at_:Int)),s8,s9]):=zcq (zlf (i:=r) (j:=(xs.length:Int)) rfl rfl (by omega) (by omega))
   generalize r / (xs.length:Int)=r' at e4 q0
   have hds:(cl.map armD).length<100000:=by rw [qC];omega
   have t2:zbh (eOp eqD (eOp modD (eVar 4) (eC (.int 4))) (eC (.int 2))) [.pl (.int c),.pl (zae xs),.pl (.int p),.ac (.list (cl.map armD)),.pl (.int r'),.pl (.int (xs.length:Int)),.pl (.int (k:Int)),.pl (.int (at_:Int)),s8,s9]=some (r' % 4==2):=zds (ztw (zid rfl rfl (by decide)) rfl)
   have t3:zij (zbh (eOp eqD (eOp modD (eVar 4) (eC (.int 4))) (eC (.int 3)))) (zbh (eOp gtD (eVar 5) (eC (.int 1)))) [.pl (.int c),.pl (zae xs),.pl (.int p),.ac (.list (cl.map armD)),.pl (.int r'),.pl (.int (xs.length:Int)),.pl (.int (k:Int)),.pl (.int (at_:Int)),s8,s9]=some ((r' % 4==3)&&decide (1<(xs.length:Int))):=by
    have t31:zbh (eOp eqD (eOp modD (eVar 4) (eC (.int 4))) (eC (.int 3))) [.pl (.int c),.pl (zae xs),.pl (.int p),.ac (.list (cl.map armD)),.pl (.int r'),.pl (.int (xs.length:Int)),.pl (.int (k:Int)),.pl (.int (at_:Int)),s8,s9]=some (r' % 4==3):=zds (ztw (zid rfl rfl (by decide)) rfl)
    have t32:zbh (eOp gtD (eVar 5) (eC (.int 1))) [.pl (.int c),.pl (zae xs),.pl (.int p),.ac (.list (cl.map armD)),.pl (.int r'),.pl (.int (xs.length:Int)),.pl (.int (k:Int)),.pl (.int (at_:Int)),s8,s9]=some (decide (1<(xs.length:Int))):=zds (zamy rfl rfl)
    unfold zij
    rw [t31,qD,t32]
    cases (r' % 4==3)<;>rfl
   have fin:∀ (a:Arm) (s8' s9':Sl),sSet 4 (eOp zdk (eVar 4) (eOp mulD (eC (.int 4)) (eVar 5))) [.pl (.int c),.pl (zae xs),.pl (.int p),.ac (.list (cl.map armD++[armD a])),.pl (.int r'),.pl (.int (xs.length:Int)),.pl (.int (k:Int)),.pl (.int (at_:Int)),s8',s9']=some (.nx [.pl (.int c),.pl (zae xs),.pl (.int p),.ac (.list ((cl++[a]).map armD)),.pl (.int (r' / (4 * (xs.length:Int)))),.pl (.int (xs.length:Int)),.pl (.int (k:Int)),.pl (.int (at_:Int)),s8',s9']):=fun a s8' s9'=>by
    rw [qAJ]
    exact zcq (zlf (i:=r') rfl (zama (i:=4) (j:=(xs.length:Int)) rfl rfl (.inl b64)) (by omega) (by omega))
   have go:∀ {G:SF} (a:Arm) (s8' s9':Sl),(∀ m∈a.parts,m∈xs)→a.parts.length≤4→a.parts≠[]→G [.pl (.int c),.pl (zae xs),.pl (.int p),.ac (.list (cl.map armD)),.pl (.int r'),.pl (.int (xs.length:Int)),.pl (.int (k:Int)),.pl (.int (at_:Int)),s8,s9]=some (.nx [.pl (.int c),.pl (zae xs),.pl (.int p),.ac (.list (cl.map armD++[armD a])),.pl (.int r'),.pl (.int (xs.length:Int)),.pl (.int (k:Int)),.pl (.int (at_:Int)),s8',s9']) →
     ∃ e1 e2,gN 6 (.int (k:Int)) [.pl (.int c),.pl (zae xs),.pl (.int p),.ac (.list (cl.map armD)),.pl (.int r),.pl (.int (xs.length:Int)),s6,s7,s8,s9]=some e1∧((sSeq (sSet 7 (eOp modD (eVar 4) (eVar 5))) (sSeq (sSet 4 (eOp zdk (eVar 4) (eVar 5))) (sSeq G (sSet 4 (eOp zdk (eVar 4) (eOp mulD (eC (.int 4)) (eVar 5))))))) e1=some (.nx e2)∨(sSeq (sSet 7 (eOp modD (eVar 4) (eVar 5))) (sSeq (sSet 4 (eOp zdk (eVar 4) (eVar 5))) (sSeq G (sSet 4 (eOp zdk (eVar 4) (eOp mulD (eC (.int 4)) (eVar 5))))))) e1=some (.ct e2)) ∧
      ∃ (cl':List Arm) (r:Int) (s6 s7 s8 s9:Sl),e2=[.pl (.int c),.pl (zae xs),.pl (.int p),.ac (.list (cl'.map armD)),.pl (.int r),.pl (.int (xs.length:Int)),s6,s7,s8,s9]∧0≤r∧cl'.length=(pre++[k]).length∧CallIn xs cl':=fun {G} a s8' s9' h1 h2 h3 hg =>
    ⟨_,_,rfl,.inl (zat e7 (zat e4 (zat hg (fin a s8' s9')))),cl++[a],_,_,_,_,_,rfl,qBT q0 (by omega),by simp [hcl],ok.snoc h1 h2 h3⟩
   cases h2:(r' % 4==2) with
   | true =>
    rw [h2] at t2
    obtain ⟨a,a1,a2,a3,a4⟩:=zaqz (A0:=.pl (.int c)) (A2:=.pl (.int p)) (A6:=.pl (.int (k:Int))) (s8:=s8) (s9:=s9) (ds:=cl.map armD) (xs:=xs) (r:=r') (n:=xs.length) (at_:=at_) rfl ha hds
    exact go a _ _ a1 a2 a3 (if_t t2 a4)
   | false =>
    rw [h2] at t2
    cases h3:((r' % 4==3)&&decide (1<(xs.length:Int))) with
    | true =>
     rw [h3] at t3
     have h1:1<xs.length:=by
      have:=of_decide_eq_true (qo.mp h3).2
      omega
     obtain ⟨a,s8',s9',a1,a2,a3,a4⟩:=zana (A0:=.pl (.int c)) (A2:=.pl (.int p)) (A6:=.pl (.int (k:Int))) (s8:=s8) (s9:=s9) (ds:=cl.map armD) (xs:=xs) (r:=r') (n:=xs.length) (at_:=at_) rfl ha h1 q0 hds hx.2
     exact go a _ _ a1 a2 a3 (if_f t2 (if_t t3 a4))
    | false =>
     rw [h3] at t3
     obtain ⟨a,a1,a2,a3,a4⟩:=zamz (A0:=.pl (.int c)) (A2:=.pl (.int p)) (A6:=.pl (.int (k:Int))) (s8:=s8) (s9:=s9) (ds:=cl.map armD) (xs:=xs) (r:=r') (n:=xs.length) (at_:=at_) rfl ha hds
     exact go a _ _ a1 a2 a3 (if_f t2 (if_f t3 a4)))
 obtain ⟨env',lp,cl,r,s6,s7,s8,s9,rfl,_,hcl,ok⟩:=lp
 have el:eCB lenD (zab (eVar 1) aNil) [.pl (.int c),.pl (zae xs),.pl (.int p),.ac (.list []),.pl (.int c),.no,.no,.no,.no,.no]=some (vi (xs.length:Int)):=by
  have:=zlg (a:=eVar 1) (env:=[.pl (.int c),.pl (zae xs),.pl (.int p),.ac (.list []),.pl (.int c),.no,.no,.no,.no,.no]) (ds:=xs.map .str) (fr:=false) (bs:=[]) rfl
  rw [qC] at this
  exact this
 have it:zic (zab (eVar 2) aNil) [.pl (.int c),.pl (zae xs),.pl (.int p),.ac (.list []),.pl (.int c),.pl (.int (xs.length:Int)),.no,.no,.no,.no]=some ((List.range p).map (fun (k:Nat)=>PyData.int (k:Int)),[]):=by
  unfold zic
  rw [zdt (r:=vi (p:Int)) rfl,qD]
  simp only
  rw [if_pos (by omega),zsh]
  rfl
 refine ⟨cl,zdw rfl (zat rfl (zat (zcq (r:=vi c) rfl) (zat (zcq el) (zat (zjs it lp) (zes (bs:=[3]) rfl))))),by rw [hcl,List.length_range],ok⟩
theorem zaaa:∀ (l:List (List Str)),(∀ ks∈l,LowS ks)→qv (l.map zan)=true∧qk (l.map zan)≤1
 | [],_=>⟨rfl,by simp [qk]⟩
 | ks::l,h=>by
  obtain ⟨h1,h2⟩:=zaaa l fun x hx=>h x (qT _ hx)
  obtain ⟨g1,g2⟩:=zkm ks (h ks qc)
  constructor
  ·rw [qZ]
   simp only [qv,zan,PyData.canLay0,qb]
   exact ⟨g1,h1⟩
  ·rw [qZ]
   simp only [qk,zan,PyData.depth]
   rw [g2]
   have:qk (l.map fun ks=>PyData.tuple (ks.map .str))≤1:=h2
   omega
theorem zabz {l:List (List Str)} (h:∀ ks∈l,LowS ks):qI (.list (l.map zan))=true:=by
 obtain ⟨h1,h2⟩:=zaaa l h
 unfold qI
 rw [qb]
 refine ⟨by simpa [PyData.canLay0] using h1,decide_eq_true ?_⟩
 simp only [PyData.depth]
 omega
theorem zaka (l:List (List Str)) (ks:List Str):((l.map zan).any fun e=>qG e (zan ks))=decide (ks∈l):=by
 rw [qBY,qAF,qAS,decide_eq_true_iff]
 have e:∀ a b:List Str,qG (zan a) (zan b)=(a==b):=fun a b=>by
  unfold zan
  simp only [qG]
  exact zoq a b
 constructor
 ·rintro ⟨y,hy,h⟩
  have h:qG (zan y) (zan ks)=true:=h
  rw [e,beq_iff_eq] at h
  rw [← h];exact hy
 ·intro h
  refine ⟨ks,h,?_⟩
  show qG (zan ks) (zan ks)=true
  rw [e];exact beq_self_eq_true _
theorem zara {neg:Bool} {l:List (List Str)} {ks:List Str} (h:∀ x∈l,LowS x) (hk:LowS ks):inS neg (zan ks) (.list (l.map zan))=some (.bool (if neg then !decide (ks∈l) else decide (ks∈l)),false):=by
 unfold inS
 simp only [zgy]
 rw [if_pos ⟨zia hk,zabz h⟩,zaka]
theorem zaca {W:Web} (lo:∀ x∈nm W,Low x) {ks:List Str} (h:∀ k∈ks,k∈nm W):LowS ks:=fun k hk=>zoi (lo k (h k hk))
theorem zvb {W:Web} (h:WebOk W) {cs:List Int} {i:Nat} (hi:i<cs.length) (hcs:∀ z∈cs,0≤z) {A3 A4 A5 A7:Sl} {c0:List Arm} (hne:0<(nm W).length):∀ (c:List Arm) (ks:List Str) (r:Int) (s10 s11:Sl),CallIn (nm W) c→0≤r→(∀ k∈ks,k∈nm W)→ks.length+c.length<1000 →
  ∃ (ks':List Str) (r':Int) (s10' s11':Sl),forL (gN 10) (sSeq (sSet 11 (eVar 1))
  (sSeq (sIf (zbh (eOp gtD (eOp modD (eIxV 0 (eVar 6)) (eC (.int 4))) (eC (.int 0)))) (sSet 11 (zda ["_law_name"] [2,10] (zaw (eVar 1)) (gN 0) (tTru (eCB (anyD fun bs=>bs.any id) (zab (zda ["_law_one"] [0,1] (zaw (zay 1 zcr (zab (eVar 2) aNil))) (gN 0) zcw (eOp (inD false) (eVar 1) (zel 2 (eVar 0)))) aNil))) (eVar 0))) sNil)
  (sSeq (sApp 9 (eIxV 11 (eOp modD (eVar 8) (eCB lenD (zab (eVar 11) aNil)))))
  (sSet 8 (eOp zdk (eVar 8) (eCB lenD (zab (eVar 11) aNil))))))) (c.map armD) [.pl (zbv cs),.pl (zae (nm W)),.pl (.dict (dS zae (ups W))),A3,A4,A5,.pl (.int (i:Int)),A7,.pl (.int r),.ac (zae ks),s10,s11]=some (.nx [.pl (zbv cs),.pl (zae (nm W)),.pl (.dict (dS zae (ups W))),A3,A4,A5,.pl (.int (i:Int)),A7,.pl (.int r'),.ac (zae ks'),s10',s11'])∧(∀ k∈ks',k∈nm W)∧ks'.length=ks.length+c.length
 | [],ks,r,s10,s11,_,_,hk,_=>⟨ks,r,s10,s11,rfl,hk,rfl⟩
 | a::c,ks,r,s10,s11,hc,r0,hk,hl=>by
  have hlW:(nm W).length≤12:=zro h
  have hap:=hc.kinds a qc
  have e11:sSet 11 (eVar 1) [.pl (zbv cs),.pl (zae (nm W)),.pl (.dict (dS zae (ups W))),A3,A4,A5,.pl (.int (i:Int)),A7,.pl (.int r),.ac (zae ks),.pl (armD a),s11]=some (.nx [.pl (zbv cs),.pl (zae (nm W)),.pl (.dict (dS zae (ups W))),A3,A4,A5,.pl (.int (i:Int)),A7,.pl (.int r),.ac (zae ks),.pl (armD a),.pl (zae (nm W))]):=zcq (r:=⟨zae (nm W),false,[]⟩) rfl
  have pool:∃ (pl:List Str) (s:Sl),Hd (zae pl) s∧0<pl.length∧pl.length≤12∧(∀ x∈pl,x∈nm W)∧sIf (zbh (eOp gtD (eOp modD (eIxV 0 (eVar 6)) (eC (.int 4))) (eC (.int 0)))) (sSet 11 (zda ["_law_name"] [2,10] (zaw (eVar 1)) (gN 0) (tTru (eCB (anyD fun bs=>bs.any id) (zab (zda ["_law_one"] [0,1] (zaw (zay 1 zcr (zab (eVar 2) aNil))) (gN 0) zcw (eOp (inD false) (eVar 1) (zel 2 (eVar 0)))) aNil))) (eVar 0))) sNil [.pl (zbv cs),.pl (zae (nm W)),.pl (.dict (dS zae (ups W))),A3,A4,A5,.pl (.int (i:Int)),A7,.pl (.int r),.ac (zae ks),.pl (armD a),.pl (zae (nm W))]=some (.nx [.pl (zbv cs),.pl (zae (nm W)),.pl (.dict (dS zae (ups W))),A3,A4,A5,.pl (.int (i:Int)),A7,.pl (.int r),.ac (zae ks),.pl (armD a),s]):=by
   have t:zbh (eOp gtD (eOp modD (eIxV 0 (eVar 6)) (eC (.int 4))) (eC (.int 0))) [.pl (zbv cs),.pl (zae (nm W)),.pl (.dict (dS zae (ups W))),A3,A4,A5,.pl (.int (i:Int)),A7,.pl (.int r),.ac (zae ks),.pl (armD a),.pl (zae (nm W))]=some (decide (0<cs[i] % 4)) :=
    zds (zamy (zid (i:=cs[i]) (zsg (n:=i) rfl rfl (by rw [qR,qE hi];rfl)) rfl (by decide)) rfl)
   by_cases hz:0<cs[i] % 4
   ·rw [decide_eq_true hz] at t
    have cm:zdy (gN 0) (tTru (eCB (anyD fun bs=>bs.any id) (zab (zda ["_law_one"] [0,1] (zaw (zay 1 zcr (zab (eVar 2) aNil))) (gN 0) zcw (eOp (inD false) (eVar 1) (zel 2 (eVar 0)))) aNil))) (eVar 0) [.no,.pl (.dict (dS zae (ups W))),.pl (armD a)] ((nm W).map .str)=some (((nm W).filter fun x=>decide (x∈upA W a)).map .str):=by
     refine zdn (fun x=>decide (x∈upA W a)) fun x hx=>⟨[.pl (.str x),.pl (.dict (dS zae (ups W))),.pl (armD a)],rfl,?_,fun _=>⟨vs x,rfl,rfl⟩⟩
     have itp:zaw (zay 1 zcr (zab (eVar 2) aNil)) [.pl (.str x),.pl (.dict (dS zae (ups W))),.pl (armD a)]=some (a.parts.map .str,[]):=by
      unfold zaw
      rw [zbg (n:=1) (rs:=[⟨armD a,false,[]⟩]) (zdt rfl) rfl (zhv a)]
      rfl
     have k2:zdy (gN 0) zcw (eOp (inD false) (eVar 1) (zel 2 (eVar 0))) [.no,.pl (.str x),.pl (.dict (dS zae (ups W)))] (a.parts.map .str)=some (a.parts.map fun n=>.bool (decide (x∈up W n))) :=
      zdg fun n hn=>⟨[.pl (.str n),.pl (.str x),.pl (.dict (dS zae (ups W)))],rfl,rfl,vb (decide (x∈up W n)),e_in (neg:=false) (fr:=false) (bs:=[]) rfl (zaij (k:=2) (d:=zae (up W n)) (.inl rfl) rfl (by rw [znm,zmj (hap n hn)];rfl)),rfl⟩
     have an:=zajs (f:=fun n:Str=>decide (x∈up W n)) (zdr (own:=["_law_one"]) (fr:=[0,1]) itp (by rw [qC];have:=hc.few a qc;omega) k2)
     have ev:(a.parts.any fun n=>decide (x∈up W n))=decide (x∈upA W a):=by
      rw [qAF,qAS,decide_eq_true_iff,zww]
      exact ⟨fun ⟨n,h1,h2⟩=>⟨n,h1,of_decide_eq_true h2⟩,fun ⟨n,h1,h2⟩=>⟨n,h1,decide_eq_true h2⟩⟩
     rw [ev] at an
     unfold tTru
     rw [an]
     rfl
    refine ⟨(nm W).filter fun x=>decide (x∈upA W a),.ac (zae ((nm W).filter fun x=>decide (x∈upA W a))),.inr rfl,?_,qAW (qAk _ _) hlW,fun x hx=>(qh.mp hx).1,if_t t (zcq (r:=⟨zae ((nm W).filter fun x=>decide (x∈upA W a)),true,[]⟩) ?_)⟩
    ·obtain ⟨n,hn⟩:=List.exists_mem_of_ne_nil _ (hc.some a qc)
     exact qCk (qh.mpr ⟨hap n hn,decide_eq_true (zww.mpr ⟨n,hn,zaqi h (hap n hn)⟩)⟩)
    ·rw [zdr (own:=["_law_name"]) (fr:=[2,10]) (ds:=(nm W).map .str) (bs:=[]) rfl (by rw [qC];omega) cm,zin]
     rfl
   ·rw [decide_eq_false hz] at t
    exact ⟨nm W,.pl (zae (nm W)),.inl rfl,hne,hlW,fun x hx=>hx,if_f t rfl⟩
  obtain ⟨pl,s,hs,p0,p12,psub,ep⟩:=pool
  have q0:=qAQ r (show (pl.length:Int)≠0 by omega)
  have q1:=qAV r (show (0:Int)<(pl.length:Int) by omega)
  have hj:(r % (pl.length:Int)).toNat<pl.length:=by omega
  have len:∀ (ks:List Str),eCB lenD (zab (eVar 11) aNil) [.pl (zbv cs),.pl (zae (nm W)),.pl (.dict (dS zae (ups W))),A3,A4,A5,.pl (.int (i:Int)),A7,.pl (.int r),.ac (zae ks),.pl (armD a),s]=some (vi (pl.length:Int)):=fun ks=>by
   obtain ⟨bs,hv⟩:=e_hd (env:=[.pl (zbv cs),.pl (zae (nm W)),.pl (.dict (dS zae (ups W))),A3,A4,A5,.pl (.int (i:Int)),A7,.pl (.int r),.ac (zae ks),.pl (armD a),s]) (i:=11) rfl hs
   have:=zlg (ds:=pl.map .str) hv
   rw [qC] at this
   exact this
  have ix:eIxV 11 (eOp modD (eVar 8) (eCB lenD (zab (eVar 11) aNil))) [.pl (zbv cs),.pl (zae (nm W)),.pl (.dict (dS zae (ups W))),A3,A4,A5,.pl (.int (i:Int)),A7,.pl (.int r),.ac (zae ks),.pl (armD a),s]=some (vs pl[(r % (pl.length:Int)).toNat]):=by
   have hm:eOp modD (eVar 8) (eCB lenD (zab (eVar 11) aNil)) [.pl (zbv cs),.pl (zae (nm W)),.pl (.dict (dS zae (ups W))),A3,A4,A5,.pl (.int (i:Int)),A7,.pl (.int r),.ac (zae ks),.pl (armD a),s]=some (vi (((r % (pl.length:Int)).toNat:Nat):Int)):=by
    rw [zid (i:=r) rfl (len ks) (by omega),Int.toNat_of_nonneg q0]
   have hg:(pl.map PyData.str)[(r % (pl.length:Int)).toNat]?=some (.str pl[(r % (pl.length:Int)).toNat]):=by rw [qR,qE hj];rfl
   rcases id hs with e|e
   ·exact zsg (ds:=pl.map .str) (by rw [e];rfl) hm hg
   ·exact zaif (ds:=pl.map .str) (by rw [e];rfl) hm hg
  generalize hx:pl[(r % (pl.length:Int)).toNat]=x at ix
  have hxm:x∈nm W:=psub x (by rw [← hx];exact qAY _)
  have ap:sApp 9 (eIxV 11 (eOp modD (eVar 8) (eCB lenD (zab (eVar 11) aNil)))) [.pl (zbv cs),.pl (zae (nm W)),.pl (.dict (dS zae (ups W))),A3,A4,A5,.pl (.int (i:Int)),A7,.pl (.int r),.ac (zae ks),.pl (armD a),s]=some (.nx [.pl (zbv cs),.pl (zae (nm W)),.pl (.dict (dS zae (ups W))),A3,A4,A5,.pl (.int (i:Int)),A7,.pl (.int r),.ac (zae (ks++[x])),.pl (armD a),s]):=by
   rw [zmu (ds:=ks.map .str) (d:=.str x) (fr:=false) rfl ix (by rw [qC];omega)]
   congr 2
   unfold zae
   simp
  have e8:sSet 8 (eOp zdk (eVar 8) (eCB lenD (zab (eVar 11) aNil))) [.pl (zbv cs),.pl (zae (nm W)),.pl (.dict (dS zae (ups W))),A3,A4,A5,.pl (.int (i:Int)),A7,.pl (.int r),.ac (zae (ks++[x])),.pl (armD a),s]=some (.nx [.pl (zbv cs),.pl (zae (nm W)),.pl (.dict (dS zae (ups W))),A3,A4,A5,.pl (.int (i:Int)),A7,.pl (.int (r / (pl.length:Int))),.ac (zae (ks++[x])),.pl (armD a),s]):=zcq (zlf (i:=r) rfl (len _) (by omega) (by omega))
  obtain ⟨ks',r',s10',s11',lp,hk',hl'⟩:=zvb h hi hcs (A3:=A3) (A4:=A4) (A5:=A5) (A7:=A7) (c0:=c0) hne c (ks++[x]) (r / (pl.length:Int)) (.pl (armD a)) s ⟨fun b hb=>hc.kinds b (qT _ hb),fun b hb=>hc.few b (qT _ hb),fun b hb=>hc.some b (qT _ hb)⟩ (qBT r0 (by omega)) (fun k hk2=>(qAA.mp hk2).elim (hk k) fun z=>by rw [qAI.mp z];exact hxm) (by simp at hl ⊢;omega)
  refine ⟨ks',r',s10',s11',?_,hk',by simp at hl' ⊢;omega⟩
  rw [qZ]
  unfold forL
  show Option.bind (sSeq _ _ [.pl (zbv cs),.pl (zae (nm W)),.pl (.dict (dS zae (ups W))),A3,A4,A5,.pl (.int (i:Int)),A7,.pl (.int r),.ac (zae ks),.pl (armD a),s11]) _=_
  rw [zat e11 (zat ep (zat ap e8))]
  exact lp
structure MadeOk (W:Web) (p:Nat) (ts:List Str) (rs:List (Str×List Str)):Prop where
 kinds:∀ r∈rs,∀ k∈r.2,k∈nm W
 size:∀ r∈rs,r.2.length=p
 unl:(rs.map (·.2)).Nodup
 sub:(rs.map (·.1)).Sublist ts
theorem zacb {W:Web} (h:WebOk W) (lo:∀ x∈nm W,Low x) (hne:0<(nm W).length) {cs:List Int} {c:List Arm} {ts:List Str} (hcs:∀ z∈cs,0≤z) (hle:ts.length≤cs.length) (hts:ts.length≤16) (hc:CallIn (nm W) c) (hcl:c.length≤3) :
  ∃ rs,zix [zbv cs,zae (nm W),.dict (dS zae (ups W)),zaq c,zae ts]=some (zaj rs,true)∧MadeOk W c.length ts rs:=by
 have it:zpu (zab (eVar 4) aNil) [.pl (zbv cs),.pl (zae (nm W)),.pl (.dict (dS zae (ups W))),.pl (zaq c),.pl (zae ts),.ac (.list []),.no,.no,.no,.no,.no,.no]=some (((List.range ts.length).zip ts).map fun z=>PyData.tuple [.int (z.1:Nat),.str z.2],[]):=by
  show some (zpd (ts.map .str),[])=_
  rw [zto]
 obtain ⟨env',lp,rs,s6,s7,s8,s9,s10,s11,rfl,ok⟩:=zem (enc:=fun z:Nat×Str=>PyData.tuple [.int (z.1:Nat),.str z.2]) (g:=gT 2 (zao 6 (zao 7 zce))) (l:=(List.range ts.length).zip ts) (env:=[.pl (zbv cs),.pl (zae (nm W)),.pl (.dict (dS zae (ups W))),.pl (zaq c),.pl (zae ts),.ac (.list []),.no,.no,.no,.no,.no,.no])
  (body:=(sSeq (sSet 8 (eOp zdk (eIxV 0 (eVar 6)) (eC (.int 4))))
  (sSeq (sSet 9 (eLst aNil))
  (sSeq (sFor (zaw (eVar 3)) (gN 10)
  (sSeq (sSet 11 (eVar 1))
  (sSeq (sIf (zbh (eOp gtD (eOp modD (eIxV 0 (eVar 6)) (eC (.int 4))) (eC (.int 0)))) (sSet 11 (zda ["_law_name"] [2,10] (zaw (eVar 1)) (gN 0) (tTru (eCB (anyD fun bs=>bs.any id) (zab (zda ["_law_one"] [0,1] (zaw (zay 1 zcr (zab (eVar 2) aNil))) (gN 0) zcw (eOp (inD false) (eVar 1) (zel 2 (eVar 0)))) aNil))) (eVar 0))) sNil)
  (sSeq (sApp 9 (eIxV 11 (eOp modD (eVar 8) (eCB lenD (zab (eVar 11) aNil)))))
  (sSet 8 (eOp zdk (eVar 8) (eCB lenD (zab (eVar 11) aNil))))))))
  (sIf (zbh (eOp (inS true) (eCB zfs (zab (eVar 9) aNil)) (zda ["_law_one", "_law_row"] [] (zaw (eVar 5)) (gT 2 (zao 0 (zao 1 zce))) zcw (eVar 1)))) (sApp 5 (eTup (zab (eVar 7) (zab (eCB zfs (zab (eVar 9) aNil)) aNil)))) sNil)))))
  (fun pre env=>∃ (rs:List (Str×List Str)) (s6 s7 s8 s9 s10 s11:Sl),env=[.pl (zbv cs),.pl (zae (nm W)),.pl (.dict (dS zae (ups W))),.pl (zaq c),.pl (zae ts),.ac (zaj rs),s6,s7,s8,s9,s10,s11]∧MadeOk W c.length (pre.map (·.2)) rs)
  ⟨[],_,_,_,_,_,_,rfl,fun r hr=>(nomatch hr),fun r hr=>(nomatch hr),qBq,qBQ _⟩ (by
   rintro pre ⟨i,t⟩ post env hp ⟨rs,s6,s7,s8,s9,s10,s11,rfl,ok⟩
   have hz:(i,t)∈(List.range ts.length).zip ts:=by rw [← hp];simp
   have hi:i<cs.length:=by
    have:=qAT.mp (qAb hz).1
    omega
   have hpl:pre.length≤16:=by
    have:=congrArg List.length hp
    simp at this;omega
   have hrs:rs.length≤16:=by
    have:=ok.sub.length_le
    simp at this;omega
   have e8:sSet 8 (eOp zdk (eIxV 0 (eVar 6)) (eC (.int 4))) [.pl (zbv cs),.pl (zae (nm W)),.pl (.dict (dS zae (ups W))),.pl (zaq c),.pl (zae ts),.ac (zaj rs),.pl (.int (i:Int)),.pl (.str t),s8,s9,s10,s11]=some (.nx [.pl (zbv cs),.pl (zae (nm W)),.pl (.dict (dS zae (ups W))),.pl (zaq c),.pl (zae ts),.ac (zaj rs),.pl (.int (i:Int)),.pl (.str t),.pl (.int (cs[i] / 4)),s9,s10,s11]) :=
    zcq (zlf (i:=cs[i]) (zsg (n:=i) rfl rfl (by rw [qR,qE hi];rfl)) rfl (by decide) (by decide))
   obtain ⟨ks,r',s10',s11',inn,hk,hkl⟩:=zvb h hi hcs (A3:=.pl (zaq c)) (A4:=.pl (zae ts)) (A5:=.ac (zaj rs)) (A7:=.pl (.str t)) (c0:=c) hne c [] (cs[i] / 4) s10 s11 hc (qBT (hcs _ (qAY _)) (by decide)) (fun k hk=>(nomatch hk)) (by simp;omega)
   have hkl:ks.length=c.length:=by simpa using hkl
   have lk:LowS ks:=zaca lo hk
   have tup:∀ (E:DEnv),E[9]?=some (.ac (zae ks))→eCB zfs (zab (eVar 9) aNil) E=some ⟨zan ks,false,[9]⟩:=fun E hE=>by
    unfold eCB
    rw [zdt (r:=⟨zae ks,false,[9]⟩) (by unfold eVar;rw [hE])]
    rfl
   have cm:zdy (gT 2 (zao 0 (zao 1 zce))) zcw (eVar 1) [.no,.no] (rs.map zbf)=some (rs.map fun r=>zan r.2):=zdg (enc:=zbf) (out:=fun r=>zan r.2) fun r _=>⟨[.pl (.str r.1),.pl (zan r.2)],rfl,rfl,⟨zan r.2,false,[]⟩,rfl,rfl⟩
   have cm2:=zdr (own:=["_law_one", "_law_row"]) (fr:=[]) (fi:=zaw (eVar 5)) (g:=gT 2 (zao 0 (zao 1 zce))) (t:=zcw) (e:=eVar 1) (env:=[.pl (zbv cs),.pl (zae (nm W)),.pl (.dict (dS zae (ups W))),.pl (zaq c),.pl (zae ts),.ac (zaj rs),.pl (.int (i:Int)),.pl (.str t),.pl (.int r'),.ac (zae ks),s10',s11']) (ds:=rs.map zbf) (bs:=[5]) rfl (by rw [qC];omega) cm
   have em:(rs.map fun r=>zan r.2)=(rs.map (·.2)).map zan:=by rw [qAi];rfl
   rw [em] at cm2
   have tin:zbh (eOp (inS true) (eCB zfs (zab (eVar 9) aNil)) (zda ["_law_one", "_law_row"] [] (zaw (eVar 5)) (gT 2 (zao 0 (zao 1 zce))) zcw (eVar 1))) [.pl (zbv cs),.pl (zae (nm W)),.pl (.dict (dS zae (ups W))),.pl (zaq c),.pl (zae ts),.ac (zaj rs),.pl (.int (i:Int)),.pl (.str t),.pl (.int r'),.ac (zae ks),s10',s11']=some (!decide (ks∈rs.map (·.2))):=by
    refine zds ?_
    unfold eOp
    rw [tup _ rfl,cm2]
    simp only [qD]
    rw [zara (neg:=true) (fun x hx=>by
     obtain ⟨r,hr,rfl⟩:=qAa.mp hx
     exact zaca lo (ok.kinds r hr)) lk]
    rfl
   have itc:zaw (eVar 3) [.pl (zbv cs),.pl (zae (nm W)),.pl (.dict (dS zae (ups W))),.pl (zaq c),.pl (zae ts),.ac (zaj rs),.pl (.int (i:Int)),.pl (.str t),.pl (.int (cs[i] / 4)),.ac (zae []),s10,s11]=some (c.map armD,[]):=rfl
   have hpm:(pre++[(i,t)]).map (·.2)=pre.map (·.2)++[t]:=by simp
   by_cases hin:ks∈rs.map (·.2)
   ·rw [decide_eq_true hin] at tin
    exact ⟨_,_,rfl,.inl (zat e8 (zat rfl (zat (zjs itc inn) (if_f tin rfl)))),rs,_,_,_,_,_,_,rfl,ok.kinds,ok.size,ok.unl,by rw [hpm];exact ok.sub.trans (List.sublist_append_left _ _)⟩
   ·rw [decide_eq_false hin] at tin
    have et:eTup (zab (eVar 7) (zab (eCB zfs (zab (eVar 9) aNil)) aNil)) [.pl (zbv cs),.pl (zae (nm W)),.pl (.dict (dS zae (ups W))),.pl (zaq c),.pl (zae ts),.ac (zaj rs),.pl (.int (i:Int)),.pl (.str t),.pl (.int r'),.ac (zae ks),s10',s11']=some ⟨zbf (t,ks),false,[9]⟩:=by
     unfold eTup
     rw [zba (r:=vs t) rfl (zdt (tup _ rfl))]
     rfl
    have ap:sApp 5 (eTup (zab (eVar 7) (zab (eCB zfs (zab (eVar 9) aNil)) aNil))) [.pl (zbv cs),.pl (zae (nm W)),.pl (.dict (dS zae (ups W))),.pl (zaq c),.pl (zae ts),.ac (zaj rs),.pl (.int (i:Int)),.pl (.str t),.pl (.int r'),.ac (zae ks),s10',s11']=some (.nx [.pl (zbv cs),.pl (zae (nm W)),.pl (.dict (dS zae (ups W))),.pl (zaq c),.pl (zae ts),.ac (zaj (rs++[(t,ks)])),.pl (.int (i:Int)),.pl (.str t),.pl (.int r'),.pl (zae ks),s10',s11']):=by
     rw [zajy (i:=5) (ds:=rs.map zbf) rfl et (by rw [qC];omega) (by decide)]
     congr 2
     unfold zaj
     rw [qAJ]
     rfl
    refine ⟨_,_,rfl,.inl (zat e8 (zat rfl (zat (zjs itc inn) (if_t tin ap)))),rs++[(t,ks)],_,_,_,_,_,_,rfl,fun r hr=>?_,fun r hr=>?_,?_,?_⟩
    ·rcases qAA.mp hr with hr|hr
     ·exact ok.kinds r hr
     ·rw [qAI.mp hr];exact hk
    ·rcases qAA.mp hr with hr|hr
     ·exact ok.size r hr
     ·rw [qAI.mp hr];exact hkl
    ·rw [qAJ]
     exact qBM.mpr ⟨ok.unl,by simp,fun a ha b hb e=>hin (by
      have:b=ks:=by simpa using hb
      rw [← this,← e];exact ha)⟩
    ·rw [hpm,qAJ]
     exact ok.sub.append (qBQ _))
 have hs:((List.range ts.length).zip ts).map (·.2)=ts:=by
  rw [show (fun z:Nat×Str=>z.2)=Prod.snd from rfl,List.map_snd_zip (by rw [List.length_range];exact qO _)]
 rw [hs] at ok
 exact ⟨rs,zdw rfl (zat rfl (zat (zjs it lp) rfl)),ok⟩
theorem MadeOk.rules {W:Web} {p:Nat} {ts:List Str} {rs:List (Str×List Str)} (m:MadeOk W p ts rs) (lo:∀ x∈nm W,Low x) (hp:p≤3) (hts:ts.length≤16):RulesOk W rs :=
 ⟨fun r hr=>zaca lo (m.kinds r hr),m.kinds,fun r hr=>by rw [m.size r hr];omega,by have:=m.sub.length_le;simp at this;omega⟩
theorem MadeOk.names {W:Web} {p:Nat} {ts:List Str} {rs:List (Str×List Str)} (m:MadeOk W p ts rs) (nd:ts.Nodup):(rs.map (·.1)).Nodup:=m.sub.nodup nd
theorem CallIn.ok {W:Web} {c:List Arm} (h:CallIn (nm W) c) (hl:c.length≤3):CallOk W c:=⟨by omega,fun a ha=>qAl (h.few a ha) (by decide),h.kinds⟩
noncomputable def geB (W:Web) (a b:List Str):Bool:=(a.zip b).all fun z=>decide (z.2∈up W z.1)
theorem zaeh {W:Web} {a b:List Str}:zgx W a b=(!(a==b)&&geB W a b):=rfl
noncomputable abbrev Rule:=Str×List Str
structure OrdOk (W:Web) (p:Nat) (S:List Rule):Prop where
 kinds:∀ r∈S,∀ k∈r.2,k∈nm W
 size:∀ r∈S,r.2.length=p
theorem zkb {W:Web} {S:List Rule} {r:Rule}:r∈zge W S↔r∈S∧∀ q∈S,zgx W q.2 r.2=false:=by
 unfold zge
 rw [qh,qBd,qA8]
 constructor
 ·rintro ⟨h1,h2⟩
  exact ⟨h1,fun q hq=>by simpa using h2 q hq⟩
 ·rintro ⟨h1,h2⟩
  exact ⟨h1,fun q hq=>by simpa using h2 q hq⟩
theorem zakb {l:List Rule} (nd:(l.map (·.1)).Nodup) (f:Rule→Bool):((l.filter f).map (·.1)).Nodup:=(List.Sublist.map _ List.filter_sublist).nodup nd
noncomputable abbrev nms (S:List Rule):List Str:=S.map (·.1)
theorem ztp:∀ (l:List Rule),(∀ r∈l,qV r.1=true∧LowS r.2)→qv (l.map zbf)=true∧qk (l.map zbf)≤2
 | [],_=>⟨rfl,qAd _⟩
 | p::r,h=>by
  obtain ⟨h1,h2⟩:=ztp r fun q hq=>h q (qT _ hq)
  obtain ⟨g1,g2⟩:=h p qc
  obtain ⟨l1,l2⟩:=zkm p.2 g2
  rw [qZ]
  constructor
  ·show ((qV p.1&&(qv (p.2.map .str)&&true))&&qv (r.map zbf))=true
   rw [g1,l1,h1];rfl
  ·show max (max 0 (max (qk (p.2.map .str)+1) 0)+1) (qk (r.map zbf))≤2
   rw [l2]
   omega
theorem zmc {l:List Rule} (h:∀ r∈l,qV r.1=true∧LowS r.2):qI (zaj l)=true:=by
 obtain ⟨h1,h2⟩:=ztp l h
 unfold qI zaj
 rw [qb]
 refine ⟨h1,decide_eq_true ?_⟩
 show qk (l.map zbf)+1≤64
 omega
theorem zacc {r:Rule} (h:qV r.1=true∧LowS r.2):qI (zbf r)=true:=by
 obtain ⟨h1,h2⟩:=zkm r.2 h.2
 unfold qI zbf zan
 rw [qb]
 refine ⟨?_,decide_eq_true ?_⟩
 ·show (qV r.1&&(qv (r.2.map .str)&&true))=true
  rw [h.1,h1];rfl
 ·show max 0 (max (qk (r.2.map .str)+1) 0)+1≤64
  rw [h2];omega
theorem zwy (a b:Rule):qG (zbf a) (zbf b)=decide (a=b):=by
 unfold zbf zan
 show ((a.1==b.1)&&((PyData.eqvAll (a.2.map .str) (b.2.map .str))&&true))=_
 rw [zoq,Bool.and_true,qAF,qb,beq_iff_eq,beq_iff_eq,decide_eq_true_iff]
 exact ⟨fun ⟨h1,h2⟩=>Prod.ext h1 h2,fun h=>by rw [h];exact ⟨rfl,rfl⟩⟩
theorem zanb {neg:Bool} {l:List Rule} {r:Rule} (h:∀ r∈l,qV r.1=true∧LowS r.2) (hr:qV r.1=true∧LowS r.2):inS neg (zbf r) (zaj l)=some (.bool (if neg then !decide (r∈l) else decide (r∈l)),false):=by
 unfold inS
 rw [show zgy (zaj l)=some (l.map zbf) from rfl]
 simp only
 rw [if_pos ⟨zacc hr,zmc h⟩]
 have:((l.map zbf).any fun e=>qG e (zbf r))=decide (r∈l):=by
  rw [qBY,qAF,qAS,decide_eq_true_iff]
  constructor
  ·rintro ⟨y,hy,e⟩
   have e:qG (zbf y) (zbf r)=true:=e
   rw [zwy,decide_eq_true_iff] at e
   rw [← e];exact hy
  ·intro hm
   refine ⟨r,hm,?_⟩
   show qG (zbf r) (zbf r)=true
   rw [zwy];simp
 rw [this]
theorem zakc (a:List Str):zaq (a.map Arm.one)=zan a:=by
 unfold zaq zan
 rw [qAi]
 rfl
theorem zaei {W:Web}:∀ (a b:List Str),fitB W b (a.map Arm.one)=geB W a b
 | [],b=>by unfold fitB geB;simp
 | x::a,[]=>by unfold fitB geB;simp
 | x::a,y::b=>by
  have ih:=zaei (W:=W) a b
  unfold fitB geB at ih ⊢
  rw [qZ,qA5,qA5,qAp,qAp,ih]
  congr 1
  rw [decide_eq_decide,zww]
  show (∃ n∈[x],y∈up W n)↔y∈up W x
  simp
theorem zor {xs:List Str} (h:LowS xs):qI (zfw xs)=true:=by
 have w1:qV "none" = true:=by decide +kernel
 have w2:qV "rule" = true:=by decide +kernel
 have w3:qV "quarrel" = true:=by decide +kernel
 match xs,h with
 | [],_=>decide +kernel
 | [x],h =>
  unfold qI zfw
  rw [qb]
  refine ⟨?_,decide_eq_true (by show max 0 (max 0 0)+1≤64;decide)⟩
  show (qV "rule" && (qV x&&true))=true
  rw [w2,h x qc];rfl
 | x::y::xs,h =>
  obtain ⟨h1,h2⟩:=zkm (x::y::xs) h
  unfold qI zfw zan
  rw [qb]
  refine ⟨?_,decide_eq_true ?_⟩
  ·show (qV "quarrel" && (qv ((x::y::xs).map .str)&&true))=true
   rw [w3,h1];rfl
  ·show max 0 (max (qk ((x::y::xs).map .str)+1) 0)+1≤64
   rw [h2];decide
theorem zanc {d:PyData} (s:qI d=true):eqD d d=some (.bool true,false):=by
 unfold eqD eqOk
 rw [s,qCe,qCp,if_pos rfl,qBe _ (qAU s)]
theorem zand {d:PyData} (s:qI d=true):neD d d=some (.bool false,false):=by
 unfold neD eqOk
 rw [s,qCe,qCp,if_pos rfl,qBe _ (qAU s)]
 rfl
theorem zaud {a b:EF} {env:DEnv} {d:PyData} {f1 f2:Bool} {b1 b2:List Nat} (ha:a env=some ⟨d,f1,b1⟩) (hb:b env=some ⟨d,f2,b2⟩) (s:qI d=true):zbh (eOp neD a b) env=some false:=by
 refine zds ?_
 unfold eOp;rw [ha,hb]
 simp only [qD]
 rw [zand s];rfl
theorem zavg {a b:EF} {env:DEnv} {d:PyData} {f1 f2:Bool} {b1 b2:List Nat} (ha:a env=some ⟨d,f1,b1⟩) (hb:b env=some ⟨d,f2,b2⟩) (s:qI d=true):eOp eqD a b env=some (vb true):=by
 unfold eOp;rw [ha,hb]
 simp only [qD]
 rw [zanc s];rfl
structure Bk (W:Web) (rs:List Rule) (c:List Arm):Prop where
 web:WebOk W
 rul:RulesOk W rs
 cal:CallOk W c
 ord:OrdOk W c.length rs
 nd:(rs.map (·.1)).Nodup
 low:∀ r∈rs,qV r.1=true
theorem Bk.lows {W:Web} {rs:List Rule} {c:List Arm} (b:Bk W rs c) {S:List Rule} (hs:∀ x∈S,x∈rs):LowS (nms S):=fun k hk=>by
 obtain ⟨r,hr,rfl⟩:=qAa.mp hk
 exact b.low r (hs r hr)
theorem zakd {f g:TF} {env:DEnv} (h1:f env=some false) (h2:g env=some false):tOrF f g env=some false:=by unfold tOrF;rw [h1];exact h2
theorem zaft (d:PyData):zhf [d]=some (.bool (isiB "int" d&&!isiB "bool" d),false):=by
 refine zdw rfl (zes (bs:=[]) ?_)
 show eAnd (eIsi "int" (eVar 0)) (eNot (eIsi "bool" (eVar 0))) [.pl d]=_
 unfold eAnd
 rw [show eIsi "int" (eVar 0) [.pl d]=some (vb (isiB "int" d)) from rfl]
 simp only [qD,asB]
 cases isiB "int" d<;>rfl
theorem zwz {d:PyData} {z:Str}:qG d (.str z)=true↔d=.str z:=by
 cases d<;>simp [qG]
theorem zake {d:PyData} {z:Str}:qG (.str z) d=qG d (.str z):=by
 cases d<;>simp [qG,Bool.beq_comm]
section
variable {a b:EF} {env:DEnv}
theorem zaue {neg:Bool} {d e:PyData} {f1 f2:Bool} {b1 b2:List Nat} (ha:a env=some ⟨d,f1,b1⟩) (hb:b env=some ⟨e,f2,b2⟩) (h:zair d=true∨zair e=true):eOp (eqTD neg) a b env=some (vb (if neg then !PyData.eqv d e else qG d e)):=by
 unfold eOp;rw [ha,hb]
 simp only [qD,eqTD]
 rw [if_pos h];rfl
end
noncomputable def zos:PyData:=.tuple [.str "near"]
noncomputable def zef (d:PyData):Bool:=qG d zos
noncomputable def zrd (W:Web) (ks:List Str) (c:List Arm):PyData→Bool
 | .int k=>(decide (0≤k)&&decide (k<(ks.length:Int)))&&(ks[k.toNat]?).elim false fun x=>(c[k.toNat]?).elim false fun a=>!decide (x∈upA W a)
 | _=>false
noncomputable def farB (W:Web) (S:List Rule) (ks:List Str) (y:PyData):Bool:=S.any fun q=>qG (.str q.1) y&&zgx W q.2 ks
noncomputable def zkc (W:Web) (rs:List Rule) (c:List Arm) (r:Rule) (d:PyData):Bool:=match d with
 | .tuple [x,y]=>if qG x (.str "out")=true then zrd W r.2 c y else fitB W r.2 c&&(qG x (.str "far")&&farB W (fitL W rs c) r.2 y)
 | .tuple ds=>fitB W r.2 c&&zef (.tuple ds)
 | _=>false
noncomputable def zvc (d:PyData):Prop:=qI d=true∨∃ y,d=.tuple [.str "far",y]
theorem ixT {k n:Nat} {b:EF} {env:DEnv} {ds:List PyData} {d:PyData} (he:env[k]?=some (.pl (.tuple ds))) (hb:b env=some (vi (n:Int))) (hd:ds[n]?=some d):eIxV k b env=some ⟨d,false,[]⟩:=by
 unfold eIxV
 rw [he]
 unfold eOp eVar
 rw [he,hb]
 simp only [qD,ixD]
 rw [zov hd]
 simp [bsOf]
theorem zane {W:Web} {ks:List Str} {c:List Arm} (hl:ks.length=c.length) (y:PyData):zrh [zan ks,.list (c.map fun a=>zas (upA W a)),y]=some (.bool (zrd W ks c y),false):=by
 have wh:∀ b,(isiB "int" y&&!isiB "bool" y)=b→zfi (tTru (zay 1 zhf (zab (eVar 2) aNil))) [.pl (zan ks),.pl (.list (c.map fun a=>zas (upA W a))),.pl y]=some (!b):=fun b hb=>by
  refine zpx ?_
  rw [zbg (n:=1) (rs:=[⟨y,false,[]⟩]) (zdt rfl) rfl (zaft y),hb];rfl
 have no:∀ {g:TF},(isiB "int" y&&!isiB "bool" y)=false→tOrF (zfi (tTru (zay 1 zhf (zab (eVar 2) aNil)))) g [.pl (zan ks),.pl (.list (c.map fun a=>zas (upA W a))),.pl y]=some true:=fun hb=>by
  unfold tOrF;rw [wh _ hb];rfl
 cases y with
 | int k =>
  have ch:zfi (zbh (zof leD ltD (eC (.int 0)) (eVar 2) (eCB lenD (zab (eVar 0) aNil)))) [.pl (zan ks),.pl (.list (c.map fun a=>zas (upA W a))),.pl (.int k)]=some (!(decide (0≤k)&&decide (k<(ks.length:Int)))):=by
   unfold zfi
   rw [zds (c:=decide (0≤k)&&decide (k<(ks.length:Int))) ?_]
   ·rfl
   unfold zof
   show (if decide (0≤k)=true then _ else _)=_
   cases decide (0≤k) with
   | false=>rfl
   | true =>
    rw [if_pos rfl]
    show some (vb (decide (k<((ks.map PyData.str).length:Int))))=_
    rw [qC];rfl
  have tor:tOrF (zfi (tTru (zay 1 zhf (zab (eVar 2) aNil)))) (zfi (zbh (zof leD ltD (eC (.int 0)) (eVar 2) (eCB lenD (zab (eVar 0) aNil))))) [.pl (zan ks),.pl (.list (c.map fun a=>zas (upA W a))),.pl (.int k)]=some (!(decide (0≤k)&&decide (k<(ks.length:Int)))):=by
   unfold tOrF;rw [wh true rfl,ch];rfl
  rw [show zrd W ks c (.int k)=((decide (0≤k)&&decide (k<(ks.length:Int)))&&(ks[k.toNat]?).elim false fun x=>(c[k.toNat]?).elim false fun a=>!decide (x∈upA W a)) from rfl]
  cases hb:(decide (0≤k)&&decide (k<(ks.length:Int))) with
  | false=>exact zdw (env:=[.pl (zan ks),.pl (.list (c.map fun a=>zas (upA W a))),.pl (.int k)]) rfl (zfy (if_t (by rw [tor,hb];rfl) rfl))
  | true =>
   obtain ⟨h0,h1⟩:=qo.mp hb
   have h0:=of_decide_eq_true h0
   have h1:=of_decide_eq_true h1
   obtain ⟨n,rfl⟩:=Int.eq_ofNat_of_zero_le h0
   have hn:n<ks.length:=by omega
   have hn2:n<c.length:=by omega
   refine zdw (env:=[.pl (zan ks),.pl (.list (c.map fun a=>zas (upA W a))),.pl (.int (n:Int))]) rfl (zat (if_f (by rw [tor,hb];rfl) rfl) (zes (bs:=[]) ?_))
   have:=zadm (neg:=true) (a:=eIxV 0 (eVar 2)) (b:=eIxV 1 (eVar 2)) (env:=[.pl (zan ks),.pl (.list (c.map fun a=>zas (upA W a))),.pl (.int (n:Int))]) (x:=ks[n]) (ks:=upA W c[n]) (fr:=false) (bs:=[])
    (ixT (ds:=ks.map .str) rfl rfl (by rw [qR,qE hn];rfl)) (zsg (ds:=c.map fun a=>zas (upA W a)) rfl rfl (by rw [qR,qE hn2];rfl))
   rw [this]
   show _=some (vb (true&&((ks[n]?).elim false fun x=>(c[n]?).elim false fun a=>!decide (x∈upA W a))))
   rw [qE hn,qE hn2]
   rfl
 | none=>exact zdw (env:=[.pl (zan ks),.pl (.list (c.map fun a=>zas (upA W a))),.pl .none]) rfl (zfy (if_t (no rfl) rfl))
 | bool b=>exact zdw (env:=[.pl (zan ks),.pl (.list (c.map fun a=>zas (upA W a))),.pl (.bool b)]) rfl (zfy (if_t (no rfl) rfl))
 | str b=>exact zdw (env:=[.pl (zan ks),.pl (.list (c.map fun a=>zas (upA W a))),.pl (.str b)]) rfl (zfy (if_t (no rfl) rfl))
 | list b=>exact zdw (env:=[.pl (zan ks),.pl (.list (c.map fun a=>zas (upA W a))),.pl (.list b)]) rfl (zfy (if_t (no rfl) rfl))
 | tuple b=>exact zdw (env:=[.pl (zan ks),.pl (.list (c.map fun a=>zas (upA W a))),.pl (.tuple b)]) rfl (zfy (if_t (no rfl) rfl))
 | dict b=>exact zdw (env:=[.pl (zan ks),.pl (.list (c.map fun a=>zas (upA W a))),.pl (.dict b)]) rfl (zfy (if_t (no rfl) rfl))
theorem zaab {W:Web} (h:WebOk W) {S:List Rule} (hr:RulesOk W S) {ks:List Str} (lk:LowS ks) (y:PyData):zjh [.dict (dS zas (ups W)),zaj S,zan ks,y]=some (.bool (farB W S ks y),false):=by
 have cm:zdy (gT 2 (zao 0 (zao 1 zce))) zcw (eAnd (eOp (eqTD false) (eVar 0) (eVar 4)) (zay 3 zdu (zab (eVar 2) (zab (eVar 1) (zab (eVar 3) aNil))))) [.no,.no,.pl (.dict (dS zas (ups W))),.pl (zan ks),.pl y] (S.map zbf)=some (S.map fun q=>.bool (qG (.str q.1) y&&zgx W q.2 ks)):=by
  refine zdg (enc:=zbf) (out:=fun q=>.bool (qG (.str q.1) y&&zgx W q.2 ks)) fun q hq=>⟨[.pl (.str q.1),.pl (zan q.2),.pl (.dict (dS zas (ups W))),.pl (zan ks),.pl y],rfl,rfl,vb (qG (.str q.1) y&&zgx W q.2 ks),?_,rfl⟩
  unfold eAnd
  rw [zaue (neg:=false) (d:=.str q.1) (e:=y) (f1:=false) (f2:=false) (b1:=[]) (b2:=[]) rfl rfl (.inl rfl),zbg (n:=3) (rs:=[⟨.dict (dS zas (ups W)),false,[]⟩,⟨zan q.2,false,[]⟩,⟨zan ks,false,[]⟩]) rfl rfl (zns h (hr.low q hq) lk (hr.kinds q hq) (hr.few q hq))]
  cases qG (.str q.1) y<;>rfl
 have hfl:=hr.len
 exact zdw (env:=[.pl (.dict (dS zas (ups W))),.pl (zaj S),.pl (zan ks),.pl y]) rfl (zes (bs:=[]) (zajs (f:=fun q:Rule=>qG (.str q.1) y&&zgx W q.2 ks) (zdr (own:=["name", "others"]) (fr:=[0,2,3]) (fi:=zaw (eVar 1)) (ds:=S.map zbf) (bs:=[]) rfl (by rw [qC];omega) cm)))
theorem zmq {z:Str} (h:qV z=true):qI (.str z)=true:=by
 unfold qI
 rw [qb]
 exact ⟨h,rfl⟩
theorem zacd {x:PyData} {t:List PyData} (h:qI (.tuple (x::t))=true):qI x=true:=by
 unfold qI at h ⊢
 obtain ⟨h1,h2⟩:=qo.mp h
 have h1:(PyData.canLay0 x&&qv t)=true:=h1
 have h2:max (PyData.depth x) (qk t)+1≤64:=of_decide_eq_true h2
 rw [qb]
 exact ⟨(qo.mp h1).1,decide_eq_true (by omega)⟩
theorem zauf {d e:PyData} (hd:qI d=true) (he:qI e=true):eqD d e=some (.bool (qG d e),false):=by
 unfold eqD eqOk
 rw [hd,he,if_pos (by simp)]
theorem zxa {a b:EF} {env:DEnv} {d e:PyData} {f1 f2:Bool} {b1 b2:List Nat} (ha:a env=some ⟨d,f1,b1⟩) (hb:b env=some ⟨e,f2,b2⟩) (hd:qI d=true) (he:qI e=true):eOp eqD a b env=some (vb (qG d e)):=by
 unfold eOp
 rw [ha,hb]
 show ((eqD d e).bind fun z=>some (⟨z.1,z.2,bsOf z.1 (b1++b2)⟩:Val))=_
 rw [zauf hd he];rfl
theorem zhp:qI zos=true:=by decide +kernel
theorem zaug (z:String) (h:qV (Str.ofString z)=true:=by decide +kernel):qI (.str (Str.ofString z))=true:=zmq h
theorem zvc.head {x:PyData} {t:List PyData} (h:zvc (.tuple (x::t))):qI x=true:=by
 rcases h with h|⟨y,h⟩
 ·exact zacd h
 ·cases h;exact zaug "far"
theorem zxb {x y:PyData} {t:List PyData}:zef (.tuple (x::y::t))=false:=by
 show (qG x (.str "near")&&false)=false
 rw [qCU]
theorem zarb {k:Nat} {env:DEnv} {ds:List PyData} (he:env[k]?=some (.pl (.tuple ds))):eCB lenD (zab (eVar k) aNil) env=some (vi ds.length):=by
 unfold eCB
 rw [zdt (r:=⟨.tuple ds,false,[]⟩) (by unfold eVar;rw [he])]
 rfl
theorem len2 {k:Nat} {env:DEnv} {ds:List PyData} (he:env[k]?=some (.pl (.tuple ds))):zbh (eOp eqD (eCB lenD (zab (eVar k) aNil)) (eC (.int 2))) env=some (decide (ds.length=2)):=by
 rw [zds (ztw (i:=ds.length) (j:=2) (zarb he) rfl)]
 congr 1
 rw [qAF,beq_iff_eq,decide_eq_true_iff]
 omega
theorem zakf {W:Web} {rs:List Rule} {c:List Arm} {r:Rule} {d:PyData} (h:∀ ds,d≠.tuple ds):zkc W rs c r d=false:=by
 cases d<;>first|rfl|exact absurd rfl (h _)
theorem zafu {W:Web} {rs:List Rule} {c:List Arm} {r:Rule} {ds:List PyData} (h:ds.length≠2):zkc W rs c r (.tuple ds)=(fitB W r.2 c&&zef (.tuple ds)):=by
 unfold zkc
 match ds,h with
 | [],_=>rfl
 | [_],_=>rfl
 | [_,_],h=>exact absurd rfl h
 | _::_::_::_,_=>rfl
theorem Bk.low' {W:Web} {rs:List Rule} {c:List Arm} (b:Bk W rs c):∀ r∈rs,qV r.1=true∧LowS r.2:=fun r hr=>⟨b.low r hr,b.rul.low r hr⟩
theorem znt {W:Web} {rs:List Rule} {c:List Arm}:∀ r∈fitL W rs c,r∈rs:=fun r hr=>(qh.mp hr).1
theorem zakg {W:Web} {rs:List Rule} {c:List Arm} (b:Bk W rs c) {r:Rule} (hr:r∈rs) {d:PyData} (hd:zvc d) :
  zlq [.dict (dS zas (ups W)),.list (c.map fun a=>zas (upA W a)),zaj (fitL W rs c),zbf r,d]=some (.bool (zkc W rs c r d),false):=by
 have hsz:=b.ord.size r hr
 have hs:zkq 6 [.dict (dS zas (ups W)),.list (c.map fun a=>zas (upA W a)),zaj (fitL W rs c),zbf r,d]=[.pl (.dict (dS zas (ups W))),.pl (.list (c.map fun a=>zas (upA W a))),.pl (zaj (fitL W rs c)),.pl (zbf r),.pl d,.no]:=rfl
 by_cases ht:∃ ds,d=.tuple ds
 ·obtain ⟨ds,rfl⟩:=ht
  have t0:zfi (tTru (eIsi "tuple" (eVar 4))) [.pl (.dict (dS zas (ups W))),.pl (.list (c.map fun a=>zas (upA W a))),.pl (zaj (fitL W rs c)),.pl (zbf r),.pl (.tuple ds),.no]=some false:=rfl
  have s5:sSet 5 (eIxV 3 (eC (.int 1))) [.pl (.dict (dS zas (ups W))),.pl (.list (c.map fun a=>zas (upA W a))),.pl (zaj (fitL W rs c)),.pl (zbf r),.pl (.tuple ds),.no]=some (.nx [.pl (.dict (dS zas (ups W))),.pl (.list (c.map fun a=>zas (upA W a))),.pl (zaj (fitL W rs c)),.pl (zbf r),.pl (.tuple ds),.pl (zan r.2)]):=rfl
  have tin:zbh (eOp (inS true) (eVar 3) (eVar 2)) [.pl (.dict (dS zas (ups W))),.pl (.list (c.map fun a=>zas (upA W a))),.pl (zaj (fitL W rs c)),.pl (zbf r),.pl (.tuple ds),.pl (zan r.2)]=some (!fitB W r.2 c):=by
   refine zds ?_
   show ((inS true (zbf r) (zaj (fitL W rs c))).bind fun z=>some (⟨z.1,z.2,bsOf z.1 ([]++[])⟩:Val))=_
   rw [zanb (fun q hq=>b.low' q (znt q hq)) (b.low' r hr)]
   have:decide (r∈fitL W rs c)=fitB W r.2 c:=by
    rw [qAF,decide_eq_true_iff]
    exact ⟨fun h=>(qh.mp h).2,fun h=>qh.mpr ⟨hr,h⟩⟩
   rw [this];rfl
  have lw:∀ (z:Str) (q:PyData) (hz:qV z=true),qI q=true→ds[0]?=some q→zbh (eOp eqD (eIxV 4 (eC (.int 0))) (eC (.str z))) [.pl (.dict (dS zas (ups W))),.pl (.list (c.map fun a=>zas (upA W a))),.pl (zaj (fitL W rs c)),.pl (zbf r),.pl (.tuple ds),.pl (zan r.2)]=some (qG q (.str z)):=fun z q hz hq h0 =>
   zds (zxa (f1:=false) (f2:=false) (b1:=[]) (b2:=[]) (ixT (n:=0) rfl rfl h0) rfl hq (zmq hz))
  have l2:=len2 (k:=4) (ds:=ds) (env:=[.pl (.dict (dS zas (ups W))),.pl (.list (c.map fun a=>zas (upA W a))),.pl (zaj (fitL W rs c)),.pl (zbf r),.pl (.tuple ds),.pl (zan r.2)]) rfl
  have last:qI (.tuple ds)=true→sRet (eOp eqD (eVar 4) (eTup (zab (eC (.str "near")) aNil))) [.pl (.dict (dS zas (ups W))),.pl (.list (c.map fun a=>zas (upA W a))),.pl (zaj (fitL W rs c)),.pl (zbf r),.pl (.tuple ds),.pl (zan r.2)]=some (.rt (.bool (zef (.tuple ds))) false):=fun hsh =>
   zes (bs:=[]) (zxa (f1:=false) (f2:=false) (b1:=[]) (b2:=[]) (d:=.tuple ds) (e:=zos) rfl rfl hsh zhp)
  by_cases h2:ds.length=2
  ·obtain ⟨x,y,rfl⟩:∃ x y,ds=[x,y]:=by
    match ds,h2 with
    | [x,y],_=>exact ⟨x,y,rfl⟩
   have hx:qI x=true:=hd.head
   have lo:=lw "out" x (by decide +kernel) hx rfl
   have lf:=lw "far" x (by decide +kernel) hx rfl
   have aw:∀ {g:TF} {v:Bool},g [.pl (.dict (dS zas (ups W))),.pl (.list (c.map fun a=>zas (upA W a))),.pl (zaj (fitL W rs c)),.pl (zbf r),.pl (.tuple [x,y]),.pl (zan r.2)]=some v→zij (zbh (eOp eqD (eCB lenD (zab (eVar 4) aNil)) (eC (.int 2)))) g [.pl (.dict (dS zas (ups W))),.pl (.list (c.map fun a=>zas (upA W a))),.pl (zaj (fitL W rs c)),.pl (zbf r),.pl (.tuple [x,y]),.pl (zan r.2)]=some v:=fun hg=>by
    unfold zij;rw [l2];exact hg
   refine zdw hs (zat (if_f t0 rfl) (zat s5 ?_))
   show _=some (Out.rt (.bool (if qG x (.str "out")=true then zrd W r.2 c y else fitB W r.2 c&&(qG x (.str "far")&&farB W (fitL W rs c) r.2 y))) false)
   cases ho:qG x (.str "out") with
   | true =>
    rw [ho] at lo
    refine zfy (if_t (aw lo) (zes (bs:=[]) ?_))
    rw [zbg (n:=3) (rs:=[⟨zan r.2,false,[]⟩,⟨.list (c.map fun a=>zas (upA W a)),false,[]⟩,⟨y,false,[]⟩]) (zba rfl (zba rfl (zdt (ixT (n:=1) (ds:=[x,y]) rfl rfl rfl)))) rfl (zane hsz y)]
    rfl
   | false =>
    rw [ho] at lo
    refine zat (if_f (aw lo) rfl) ?_
    rw [if_neg qK]
    cases hf:fitB W r.2 c with
    | false=>exact zfy (if_t (by rw [tin,hf];rfl) rfl)
    | true =>
     refine zat (if_f (by rw [tin,hf];rfl) rfl) ?_
     rw [qB1]
     cases hfa:qG x (.str "far") with
     | true =>
      rw [hfa] at lf
      refine zfy (if_t (aw lf) (zes (bs:=[]) ?_))
      rw [zbg (n:=4) (rs:=[⟨.dict (dS zas (ups W)),false,[]⟩,⟨zaj (fitL W rs c),false,[]⟩,⟨zan r.2,false,[]⟩,⟨y,false,[]⟩]) (zba rfl (zba rfl (zba rfl (zdt (ixT (n:=1) (ds:=[x,y]) rfl rfl rfl))))) rfl (zaab b.web (b.rul.filter _) (b.rul.low r hr) y)]
      rfl
     | false =>
      rw [hfa] at lf
      have hsh:qI (.tuple [x,y])=true:=by
       rcases hd with h|⟨z,h⟩
       ·exact h
       ·cases h
        exact absurd hfa (by rw [zwz.mpr rfl];decide)
      refine zat (if_f (aw lf) rfl) ?_
      rw [last hsh,zxb]
      rfl
  ·have hsh:qI (.tuple ds)=true:=by
    rcases hd with h|⟨z,h⟩
    ·exact h
    ·cases h;exact absurd rfl h2
   have af:∀ {g:TF},zij (zbh (eOp eqD (eCB lenD (zab (eVar 4) aNil)) (eC (.int 2)))) g [.pl (.dict (dS zas (ups W))),.pl (.list (c.map fun a=>zas (upA W a))),.pl (zaj (fitL W rs c)),.pl (zbf r),.pl (.tuple ds),.pl (zan r.2)]=some false:=by
    intro g
    unfold zij;rw [l2,decide_eq_false h2];rfl
   rw [zafu h2]
   refine zdw hs (zat (if_f t0 rfl) (zat s5 (zat (if_f af rfl) ?_)))
   cases hf:fitB W r.2 c with
   | false=>exact zfy (if_t (by rw [tin,hf];rfl) rfl)
   | true=>exact zat (if_f (by rw [tin,hf];rfl) rfl) (zat (if_f af rfl) (by rw [last hsh];rfl))
 ·rw [zakf fun ds h=>ht ⟨ds,h⟩]
  refine zdw hs (zfy (if_t ?_ rfl))
  cases d<;>first|rfl|exact absurd ⟨_,rfl⟩ ht
theorem zaej {W:Web} {a:Arm} {k:Str} (hf:a.parts.length<300) (hk:∀ n∈a.parts,n∈nm W):zkn [.dict (dS zae (ups W)),armD a,.str k]=some (.bool (decide (k∈upA W a)),false):=by
 have itp:zaw (zay 1 zcr (zab (eVar 1) aNil)) [.pl (.dict (dS zae (ups W))),.pl (armD a),.pl (.str k)]=some (a.parts.map .str,[]):=by
  unfold zaw
  rw [zbg (n:=1) (rs:=[⟨armD a,false,[]⟩]) (zdt rfl) rfl (zhv a)]
  rfl
 have k2:zdy (gN 0) zcw (eOp (inD false) (eVar 2) (zel 1 (eVar 0))) [.no,.pl (.dict (dS zae (ups W))),.pl (.str k)] (a.parts.map .str)=some (a.parts.map fun n=>.bool (decide (k∈up W n))) :=
  zdg fun n hn=>⟨[.pl (.str n),.pl (.dict (dS zae (ups W))),.pl (.str k)],rfl,rfl,vb (decide (k∈up W n)),e_in (neg:=false) (fr:=false) (bs:=[]) rfl (zaij (d:=zae (up W n)) (.inl rfl) rfl (by rw [znm,zmj (hk n hn)];rfl)),rfl⟩
 have ev:(a.parts.any fun n=>decide (k∈up W n))=decide (k∈upA W a):=by
  rw [qAF,qAS,decide_eq_true_iff,zww]
  exact ⟨fun ⟨n,h1,h2⟩=>⟨n,h1,of_decide_eq_true h2⟩,fun ⟨n,h1,h2⟩=>⟨n,h1,decide_eq_true h2⟩⟩
 rw [← ev]
 exact zdw (env:=[.pl (.dict (dS zae (ups W))),.pl (armD a),.pl (.str k)]) rfl (zes (bs:=[]) (zajs (f:=fun n:Str=>decide (k∈up W n)) (zdr (own:=["_law_name"]) (fr:=[0,2]) itp (by rw [qC];omega) k2)))
theorem znu {W:Web} (h:WebOk W) {ks:List Str} {c:List Arm} (hc:CallOk W c) (hl:ks.length≤c.length):zcd [.dict (dS zae (ups W)),zan ks,zaq c]=some (.bool (fitB W ks c),false):=by
 have it:zpy (zab (eVar 1) aNil) [.pl (.dict (dS zae (ups W))),.pl (zan ks),.pl (zaq c),.no,.no]=some (((List.range ks.length).zip ks).map fun z=>PyData.tuple [.int (z.1:Nat),.str z.2],[]):=by
  show some (zpd (ks.map .str),[])=_
  rw [zto]
 have key:=zye (enc:=fun z:Nat×Str=>PyData.tuple [.int (z.1:Nat),.str z.2]) (g:=gT 2 (zao 3 (zao 4 zce))) (body:=sIf (zfi (tTru (zay 3 zkn (zab (eVar 0) (zab (eIxV 2 (eVar 3)) (zab (eVar 4) aNil)))))) (sRet (eC (.bool false))) sNil)
  (fun z=>(c[z.1]?).elim false fun a=>decide (z.2∈upA W a)) (.bool false) false (fun env=>∃ s3 s4,env=[.pl (.dict (dS zae (ups W))),.pl (zan ks),.pl (zaq c),s3,s4]) ((List.range ks.length).zip ks) [.pl (.dict (dS zae (ups W))),.pl (zan ks),.pl (zaq c),.no,.no] ⟨_,_,rfl⟩ (by
   rintro ⟨i,k⟩ hz env ⟨s3,s4,rfl⟩
   have hi:i<c.length:=by
    have:=qAT.mp (qAb hz).1
    omega
   have ha:c[i]∈c:=qAY _
   refine ⟨[.pl (.dict (dS zae (ups W))),.pl (zan ks),.pl (zaq c),.pl (.int (i:Nat)),.pl (.str k)],rfl,?_⟩
   have ix:eIxV 2 (eVar 3) [.pl (.dict (dS zae (ups W))),.pl (zan ks),.pl (zaq c),.pl (.int (i:Nat)),.pl (.str k)]=some ⟨armD c[i],false,[]⟩:=by
    show ((ixD (.tuple (c.map armD)) (.int (i:Nat))).bind fun z=>some (⟨z.1,z.2,bsOf z.1 ([]++[])⟩:Val))=_
    simp only [ixD]
    rw [zov (v:=armD c[i]) (by rw [qR,qE hi];rfl)]
    simp only [qAq,qD]
    cases c[i]<;>rfl
   have t:zfi (tTru (zay 3 zkn (zab (eVar 0) (zab (eIxV 2 (eVar 3)) (zab (eVar 4) aNil))))) [.pl (.dict (dS zae (ups W))),.pl (zan ks),.pl (zaq c),.pl (.int (i:Nat)),.pl (.str k)]=some (!decide (k∈upA W c[i])):=by
    refine zpx ?_
    rw [zbg (n:=3) (rs:=[⟨.dict (dS zae (ups W)),false,[]⟩,⟨armD c[i],false,[]⟩,⟨.str k,false,[]⟩]) (zba rfl (zba ix (zdt rfl))) rfl (zaej (hc.few _ ha) (hc.kinds _ ha))]
    rfl
   have pe:((c[i]?).elim false fun a=>decide (k∈upA W a))=decide (k∈upA W c[i]):=by rw [qE hi];rfl
   constructor
   ·intro hp
    have hp:((c[i]?).elim false fun a=>decide (k∈upA W a))=true:=hp
    rw [pe] at hp
    rw [hp] at t
    exact ⟨_,if_f t rfl,_,_,rfl⟩
   ·intro hp
    have hp:((c[i]?).elim false fun a=>decide (k∈upA W a))=false:=hp
    rw [pe] at hp
    rw [hp] at t
    exact if_t t rfl)
 have same:(((List.range ks.length).zip ks).all fun z=>(c[z.1]?).elim false fun a=>decide (z.2∈upA W a))=fitB W ks c:=by
  have gen:∀ (ks:List Str) (c:List Arm) (m:Nat) (cc:List Arm),ks.length≤c.length→(∀ j,cc[m+j]?=c[j]?)→((((List.range ks.length).map (·+m)).zip ks).all fun z=>(cc[z.1]?).elim false fun a=>decide (z.2∈upA W a))=fitB W ks c:=by
   intro ks
   induction ks with
   | nil=>intro c m cc _ _;rfl
   | cons k ks ih =>
    intro c m cc hle hcc
    cases c with
    | nil=>simp at hle
    | cons a c =>
     have h0:=hcc 0
     rw [Nat.add_zero] at h0
     have r:=ih c (m+1) cc (by simpa using hle) fun j=>by
      have:=hcc (j+1)
      rw [qAL] at this
      rw [← this]
      congr 1
      omega
     unfold fitB at r ⊢
     rw [qAc,qCj,qZ,qA5,qAp,qA5,qAp,← r,qB8,h0]
     congr 1
     rw [qAi]
     congr 2
     refine qBR fun j _=>?_
     show j+1+m=j+(m+1)
     omega
  have:=gen ks c 0 c hl fun j=>by rw [qB8]
  simpa using this
 rw [same] at key
 cases hb:fitB W ks c with
 | true =>
  obtain ⟨env',lp,s3,s4,rfl⟩:=key.1 hb
  exact zdw (env:=[.pl (.dict (dS zae (ups W))),.pl (zan ks),.pl (zaq c),.no,.no]) rfl (zat (zjs it lp) rfl)
 | false=>exact zdw (env:=[.pl (.dict (dS zae (ups W))),.pl (zan ks),.pl (zaq c),.no,.no]) rfl (zfy (zjs it (key.2 hb)))
theorem Bk.ones {W:Web} {rs:List Rule} {c:List Arm} (b:Bk W rs c) {q:Rule} (hq:q∈rs):CallOk W (q.2.map Arm.one) :=
 ⟨by rw [qC];exact b.rul.few q hq,fun z hz=>by obtain ⟨x,_,rfl⟩:=qAa.mp hz;show 1<300;decide,fun z hz n hn=>by
  obtain ⟨x,hx,rfl⟩:=qAa.mp hz
  have:n=x:=by simpa [Arm.parts] using hn
  rw [this];exact b.rul.kinds q hq x hx⟩
theorem ztq {W:Web} {rs:List Rule} {c:List Arm} (b:Bk W rs c) {q r:Rule} (hq:q∈rs) (hr:r∈rs):zcd [.dict (dS zae (ups W)),zan r.2,zan q.2]=some (.bool (geB W q.2 r.2),false):=by
 have gf:=znu b.web (ks:=r.2) (b.ones hq) (by rw [qC,b.ord.size r hr,b.ord.size q hq];exact qO _)
 rw [zakc,zaei] at gf
 exact gf
theorem zakh (a b:List Str):qG (zan a) (zan b)=(a==b):=zoq a b
theorem zaki {rs:List Rule} (nd:(rs.map (·.1)).Nodup) (y:PyData):(rs.filter fun q=>qG (.str q.1) y)=[]∨∃ q∈rs,qG (.str q.1) y=true∧(rs.filter fun q=>qG (.str q.1) y)=[q]:=by
 have nf:((rs.filter fun q=>qG (.str q.1) y).map (·.1)).Nodup:=zakb nd _
 have al:∀ q∈rs.filter (fun q=>qG (.str q.1) y),y=.str q.1:=fun q hq=>by
  have:=(qh.mp hq).2
  rw [zake] at this
  exact zwz.mp this
 cases e:rs.filter fun q=>qG (.str q.1) y with
 | nil=>exact .inl rfl
 | cons q t =>
  rw [e] at nf al
  have hq:q∈rs.filter fun q=>qG (.str q.1) y:=by rw [e];exact qc
  cases t with
  | nil=>exact .inr ⟨q,(qh.mp hq).1,(qh.mp hq).2,rfl⟩
  | cons p t =>
   have h1:=al q (by simp)
   have h2:=al p (by simp)
   rw [h1] at h2
   have h2:q.1=p.1:=by injection h2
   rw [qZ,qZ,qAz] at nf
   exact absurd (by rw [h2];simp) nf.1
theorem zanf {W:Web} {rs:List Rule} {c:List Arm} {ks:List Str} {y:PyData} (h:(rs.filter fun q=>qG (.str q.1) y)=[]):farB W (fitL W rs c) ks y=false:=by
 refine qA8.mpr fun q hq hb=>?_
 have:q∈rs.filter fun q=>qG (.str q.1) y:=qh.mpr ⟨znt q hq,(qo.mp hb).1⟩
 rw [h] at this
 cases this
theorem zarc {W:Web} {rs:List Rule} {c:List Arm} {ks:List Str} {y:PyData} {q:Rule} (hq:q∈rs) (hy:qG (.str q.1) y=true) (h:(rs.filter fun q=>qG (.str q.1) y)=[q]):farB W (fitL W rs c) ks y=(fitB W q.2 c&&zgx W q.2 ks):=by
 unfold farB
 rw [qAF,qAS,qb]
 constructor
 ·rintro ⟨p,hp,hb⟩
  obtain ⟨h1,h2⟩:=qo.mp hb
  have:p∈rs.filter fun q=>qG (.str q.1) y:=qh.mpr ⟨znt p hp,h1⟩
  rw [h] at this
  obtain rfl:p=q:=by simpa using this
  exact ⟨(qh.mp hp).2,h2⟩
 ·rintro ⟨h1,h2⟩
  exact ⟨q,qh.mpr ⟨hq,h1⟩,by rw [hy,h2];rfl⟩
noncomputable def zdd (rs:List Rule) (ds:List PyData):List Rule:=((rs.zip ds).filter fun z=>zef z.2).map (·.1)
noncomputable def zakj (W:Web) (rs:List Rule) (c:List Arm) (A:PyData) (P:PyData):Bool:=match P with
 | .list ds=>decide (ds.length=rs.length)&&(((rs.zip ds).all fun z=>zkc W rs c z.1 z.2)&&(decide (zge W (zdd rs ds)=zdd rs ds)&&qG A (zfw (nms (zdd rs ds)))))
 | _=>false
noncomputable def zakk (P:PyData):Prop:=∀ ds,P=.list ds→(∀ d∈ds,zvc d)∧ds.length<300
theorem zaoo {a b:EF} {env:DEnv} {m n:Nat} (ha:a env=some (vi (m:Int))) (hb:b env=some (vi (n:Int))):zbh (eOp neD a b) env=some (!decide (m=n)):=by
 refine zds ?_
 unfold eOp
 rw [ha,hb]
 show some (vb (!((m:Int)==(n:Int))))=_
 congr 2
 rw [qAF,qBd,qBd,beq_eq_false_iff_ne,decide_eq_false_iff_not]
 omega
theorem zace {W:Web} {rs:List Rule} {c:List Arm} (b:Bk W rs c) {r:Rule} {d:PyData} (hd:zvc d) (h:zkc W rs c r d=true):qI d=true:=by
 rcases hd with hd|⟨y,rfl⟩
 ·exact hd
 ·have h:(if qG (.str "far") (.str "out")=true then zrd W r.2 c y else fitB W r.2 c&&(qG (.str "far") (.str "far")&&farB W (fitL W rs c) r.2 y))=true:=h
  rw [if_neg (by decide +kernel)] at h
  have h:=(qo.mp (qo.mp h).2).2
  obtain ⟨q,hq,hb⟩:=qAS.mp h
  have hy:=(qo.mp hb).1
  rw [zake] at hy
  obtain rfl:=zwz.mp hy
  have hs:qV q.1=true:=b.low q (znt q hq)
  unfold qI
  rw [qb]
  refine ⟨?_,rfl⟩
  show (qV "far" && (qV q.1&&true))=true
  rw [hs]
  decide +kernel
theorem zaac:∀ (a b:List Rule),PyData.eqvAll (a.map zbf) (b.map zbf)=decide (a=b)
 | [],[]=>rfl
 | [],_::_=>rfl
 | _::_,[]=>rfl
 | x::a,y::b=>by
  show (qG (zbf x) (zbf y)&&PyData.eqvAll (a.map zbf) (b.map zbf))=_
  rw [zaac a b,zwy,qAF,qb,decide_eq_true_iff,decide_eq_true_iff,decide_eq_true_iff,List.cons.injEq]
theorem zot {rs:List Rule} {ds:List PyData}:∀ r∈zdd rs ds,r∈rs:=fun r hr=>by
 obtain ⟨z,hz,rfl⟩:=qAa.mp hr
 exact (qAb (qh.mp hz).1).1
theorem zang {rs:List Rule} {ds:List PyData}:(zdd rs ds).length≤rs.length:=by
 unfold zdd
 rw [qC]
 refine qAW (qAk _ _) ?_
 rw [qBG];exact qA1 _ _
theorem zakl {W:Web} {rs:List Rule} (h:RulesOk W rs) (ds:List PyData):RulesOk W (zdd rs ds) :=
 ⟨fun r hr=>h.low r (zot r hr),fun r hr=>h.kinds r (zot r hr),fun r hr=>h.few r (zot r hr),qAl zang h.len⟩
theorem zafv (rs:List Rule) (ds:List PyData):List.zipWith (fun d e=>PyData.tuple [d,e]) (rs.map zbf) ds=(rs.zip ds).map fun z=>PyData.tuple [zbf z.1,z.2]:=by
 have:=zwx zbf id rs ds
 rw [List.map_id] at this
 exact this
theorem zard {W:Web} {rs:List Rule} {c:List Arm} (b:Bk W rs c) {A P:PyData} (hA:qI A=true) (hP:zakk P):zjm [zbl W c.length rs,zaq c,A,P]=some (.bool (zakj W rs c A P),false):=by
 have hrl:=b.rul.len
 have s4:sSet 4 (zay 2 zco (zab (eVar 0) (zab (eVar 1) aNil))) [.pl (zbl W c.length rs),.pl (zaq c),.pl A,.pl P,.no,.no,.no,.no,.no,.no,.no]=some (.nx [.pl (zbl W c.length rs),.pl (zaq c),.pl A,.pl P,.ac (zaj (fitL W rs c)),.no,.no,.no,.no,.no,.no]) :=
  zcq (r:=⟨zaj (fitL W rs c),true,[]⟩) (zbg (n:=2) (rs:=[⟨zbl W c.length rs,false,[]⟩,⟨zaq c,false,[]⟩]) rfl rfl (zie b.web b.rul b.cal))
 have s5:sAsg (eVar 0) (gT 3 (zao 5 (zao 6 (zao 7 zce)))) [.pl (zbl W c.length rs),.pl (zaq c),.pl A,.pl P,.ac (zaj (fitL W rs c)),.no,.no,.no,.no,.no,.no]=some (.nx [.pl (zbl W c.length rs),.pl (zaq c),.pl A,.pl P,.ac (zaj (fitL W rs c)),.pl (webD W),.pl (.int c.length),.pl (zaj rs),.no,.no,.no]):=rfl
 have hs:zkq 11 [zbl W c.length rs,zaq c,A,P]=[.pl (zbl W c.length rs),.pl (zaq c),.pl A,.pl P,.no,.no,.no,.no,.no,.no,.no]:=rfl
 by_cases hl:∃ ds,P=.list ds
 ·obtain ⟨ds,rfl⟩:=hl
  obtain ⟨hi,hdl⟩:=hP ds rfl
  have tl:tOrF (zfi (tTru (eIsi "list" (eVar 3)))) (zbh (eOp neD (eCB lenD (zab (eVar 3) aNil)) (eCB lenD (zab (eVar 7) aNil)))) [.pl (zbl W c.length rs),.pl (zaq c),.pl A,.pl (.list ds),.ac (zaj (fitL W rs c)),.pl (webD W),.pl (.int c.length),.pl (zaj rs),.no,.no,.no]=some (!decide (ds.length=rs.length)):=by
   unfold tOrF
   rw [zaoo (m:=ds.length) (n:=(rs.map zbf).length) (zlg (fr:=false) (bs:=[]) rfl) (zlg (fr:=false) (bs:=[]) rfl),qC]
   rfl
  show _=some (PyData.bool (decide (ds.length=rs.length)&&(((rs.zip ds).all fun z=>zkc W rs c z.1 z.2)&&(decide (zge W (zdd rs ds)=zdd rs ds)&&qG A (zfw (nms (zdd rs ds)))))),false)
  by_cases he:ds.length=rs.length
  ·rw [decide_eq_true he,qB1]
   rw [decide_eq_true he] at tl
   have s8:sSet 8 (zay 1 zdz (zab (eVar 5) aNil)) [.pl (zbl W c.length rs),.pl (zaq c),.pl A,.pl (.list ds),.ac (zaj (fitL W rs c)),.pl (webD W),.pl (.int c.length),.pl (zaj rs),.no,.no,.no]=some (.nx [.pl (zbl W c.length rs),.pl (zaq c),.pl A,.pl (.list ds),.ac (zaj (fitL W rs c)),.pl (webD W),.pl (.int c.length),.pl (zaj rs),.ac (.dict (dS zas (ups W))),.no,.no]) :=
    zcq (r:=⟨.dict (dS zas (ups W)),true,[]⟩) (zbg (n:=1) (rs:=[⟨webD W,false,[]⟩]) rfl rfl (zmi b.web))
   have s9:sSet 9 (zay 2 zct (zab (eVar 8) (zab (eVar 1) aNil))) [.pl (zbl W c.length rs),.pl (zaq c),.pl A,.pl (.list ds),.ac (zaj (fitL W rs c)),.pl (webD W),.pl (.int c.length),.pl (zaj rs),.ac (.dict (dS zas (ups W))),.no,.no]=some (.nx [.pl (zbl W c.length rs),.pl (zaq c),.pl A,.pl (.list ds),.ac (zaj (fitL W rs c)),.pl (webD W),.pl (.int c.length),.pl (zaj rs),.pl (.dict (dS zas (ups W))),.ac (.list (c.map fun a=>zas (upA W a))),.no]) :=
    zcq (r:=⟨.list (c.map fun a=>zas (upA W a)),true,[8]⟩) (zbg (n:=2) (rs:=[⟨.dict (dS zas (ups W)),false,[8]⟩,⟨zaq c,false,[]⟩]) rfl rfl (zjb b.web b.cal.len b.cal.kinds))
   have it:ztx (zab (eVar 7) (zab (eVar 3) aNil)) [.pl (zbl W c.length rs),.pl (zaq c),.pl A,.pl (.list ds),.ac (zaj (fitL W rs c)),.pl (webD W),.pl (.int c.length),.pl (zaj rs),.pl (.dict (dS zas (ups W))),.ac (.list (c.map fun a=>zas (upA W a))),.no]=some ((rs.zip ds).map fun z=>PyData.tuple [zbf z.1,z.2],[]):=by
    show some (List.zipWith (fun d e=>PyData.tuple [d,e]) (rs.map zbf) ds,[]++[])=_
    rw [zafv];rfl
   have zl:((rs.zip ds).map fun z=>PyData.tuple [zbf z.1,z.2]).length<100000:=by
    rw [qC,qBG]
    have:=qA1 rs.length ds.length
    omega
   have c1:zdy (gT 2 (zao 0 (zao 1 zce))) zcw (zay 5 zlq (zab (eVar 3) (zab (eVar 4) (zab (eVar 2) (zab (eVar 0) (zab (eVar 1) aNil)))))) [.no,.no,.pl (zaj (fitL W rs c)),.pl (.dict (dS zas (ups W))),.pl (.list (c.map fun a=>zas (upA W a)))] ((rs.zip ds).map fun z=>PyData.tuple [zbf z.1,z.2])=some ((rs.zip ds).map fun z=>.bool (zkc W rs c z.1 z.2)) :=
    zdg fun z hz=>⟨[.pl (zbf z.1),.pl z.2,.pl (zaj (fitL W rs c)),.pl (.dict (dS zas (ups W))),.pl (.list (c.map fun a=>zas (upA W a)))],rfl,rfl,vb (zkc W rs c z.1 z.2),zbg (n:=5) (rs:=[⟨.dict (dS zas (ups W)),false,[]⟩,⟨.list (c.map fun a=>zas (upA W a)),false,[]⟩,⟨zaj (fitL W rs c),false,[]⟩,⟨zbf z.1,false,[]⟩,⟨z.2,false,[]⟩]) rfl rfl (zakg b (qAb hz).1 (hi z.2 (qAb hz).2)),rfl⟩
   have t6:=zpx (zaqu (f:=fun z:Rule×PyData=>zkc W rs c z.1 z.2) (zdr (own:=["rule", "line"]) (fr:=[4,8,9]) it zl c1))
   refine zdw hs (zat s4 (zat s5 (zat (if_f tl rfl) (zat s8 (zat s9 ?_)))))
   cases hall:(rs.zip ds).all fun z=>zkc W rs c z.1 z.2 with
   | false =>
    rw [hall] at t6
    exact zfy (if_t t6 rfl)
   | true =>
    rw [hall] at t6
    rw [qB1]
    refine zat (if_f t6 rfl) ?_
    have c2:zdy (gT 2 (zao 0 (zao 1 zce))) (zbh (eOp eqD (eVar 1) (eTup (zab (eC (.str "near")) aNil)))) (eVar 0) [.no,.no] ((rs.zip ds).map fun z=>PyData.tuple [zbf z.1,z.2])=some (((rs.zip ds).filter fun z=>zef z.2).map fun z=>zbf z.1) :=
     zdn (out:=fun z:Rule×PyData=>zbf z.1) (fun z=>zef z.2) fun z hz=>⟨[.pl (zbf z.1),.pl z.2],rfl,zds (zxa (f1:=false) (f2:=false) (b1:=[]) (b2:=[]) (d:=z.2) (e:=zos) rfl rfl (zace b (hi z.2 (qAb hz).2) (qAZ.mp hall z hz)) zhp),fun _=>⟨⟨zbf z.1,false,[]⟩,rfl,rfl⟩⟩
    have en:(((rs.zip ds).filter fun z=>zef z.2).map fun z=>zbf z.1)=(zdd rs ds).map zbf:=by unfold zdd;rw [qAi];rfl
    rw [en] at c2
    have s10:sSet 10 (zda ["rule", "line"] [] (ztx (zab (eVar 7) (zab (eVar 3) aNil))) (gT 2 (zao 0 (zao 1 zce))) (zbh (eOp eqD (eVar 1) (eTup (zab (eC (.str "near")) aNil)))) (eVar 0)) [.pl (zbl W c.length rs),.pl (zaq c),.pl A,.pl (.list ds),.ac (zaj (fitL W rs c)),.pl (webD W),.pl (.int c.length),.pl (zaj rs),.pl (.dict (dS zas (ups W))),.ac (.list (c.map fun a=>zas (upA W a))),.no]=some (.nx [.pl (zbl W c.length rs),.pl (zaq c),.pl A,.pl (.list ds),.ac (zaj (fitL W rs c)),.pl (webD W),.pl (.int c.length),.pl (zaj rs),.pl (.dict (dS zas (ups W))),.ac (.list (c.map fun a=>zas (upA W a))),.ac (zaj (zdd rs ds))]):=by
     refine zcq (r:=⟨zaj (zdd rs ds),true,[]⟩) ?_
     rw [zdr (own:=["rule", "line"]) (fr:=[]) it zl c2]
     have:(if zfq ((zdd rs ds).map zbf)=true then ([]:List Nat) else []++capA [] [.pl (zbl W c.length rs),.pl (zaq c),.pl A,.pl (.list ds),.ac (zaj (fitL W rs c)),.pl (webD W),.pl (.int c.length),.pl (zaj rs),.pl (.dict (dS zas (ups W))),.ac (.list (c.map fun a=>zas (upA W a))),.no])=[]:=by split<;>rfl
     rw [this];rfl
    have ln:∀ r∈zdd rs ds,qV r.1=true∧LowS r.2:=fun r hr=>b.low' r (zot r hr)
    have nok:=zakl b.rul ds
    refine zat s10 (zes (bs:=[]) ?_)
    unfold eAnd
    have q1:eOp eqD (zay 2 zfl (zab (eVar 8) (zab (eVar 10) aNil))) (eVar 10) [.pl (zbl W c.length rs),.pl (zaq c),.pl A,.pl (.list ds),.ac (zaj (fitL W rs c)),.pl (webD W),.pl (.int c.length),.pl (zaj rs),.pl (.dict (dS zas (ups W))),.ac (.list (c.map fun a=>zas (upA W a))),.ac (zaj (zdd rs ds))]=some (vb (decide (zge W (zdd rs ds)=zdd rs ds))):=by
     rw [zxa (d:=zaj (zge W (zdd rs ds))) (e:=zaj (zdd rs ds)) (f1:=true) (f2:=false) (b1:=[10]) (b2:=[10]) (zbg (n:=2) (rs:=[⟨.dict (dS zas (ups W)),false,[]⟩,⟨zaj (zdd rs ds),false,[10]⟩]) rfl rfl (zqq b.web nok)) rfl (zmc fun r hr=>ln r (qh.mp hr).1) (zmc ln)]
     congr 2
     exact zaac _ _
    have q2:eOp eqD (eVar 2) (zay 1 zhd (zab (zay 1 zgf (zab (eVar 10) aNil)) aNil)) [.pl (zbl W c.length rs),.pl (zaq c),.pl A,.pl (.list ds),.ac (zaj (fitL W rs c)),.pl (webD W),.pl (.int c.length),.pl (zaj rs),.pl (.dict (dS zas (ups W))),.ac (.list (c.map fun a=>zas (upA W a))),.ac (zaj (zdd rs ds))]=some (vb (qG A (zfw (nms (zdd rs ds))))) :=
     zxa (f1:=false) (f2:=false) (b1:=[]) rfl (zbg (n:=1) (rs:=[⟨zae (nms (zdd rs ds)),true,bsOf (zae (nms (zdd rs ds))) [10]⟩]) (zdt (zbg (n:=1) (rs:=[⟨zaj (zdd rs ds),false,[10]⟩]) rfl rfl (zqr nok.len))) rfl (ztm _)) hA (zor (b.lows zot))
    rw [q1,q2]
    cases decide (zge W (zdd rs ds)=zdd rs ds)<;>rfl
  ·rw [decide_eq_false he,Bool.false_and]
   rw [decide_eq_false he] at tl
   exact zdw hs (zat s4 (zat s5 (zfy (if_t tl rfl))))
 ·have:zakj W rs c A P=false:=by
   cases P<;>first|rfl|exact absurd ⟨_,rfl⟩ hl
  rw [this]
  refine zdw hs (zat s4 (zat s5 (zfy (if_t ?_ rfl))))
  cases P<;>first|rfl|exact absurd ⟨_,rfl⟩ hl
noncomputable def topB (W:Web) (rs:List Rule) (c:List Arm) (r:Rule):Bool:=fitB W r.2 c&&!((fitL W rs c).any fun q=>zgx W q.2 r.2)
theorem zanh {W:Web} {rs:List Rule} {c:List Arm}:rs.filter (topB W rs c)=zge W (fitL W rs c):=by
 unfold zge
 conv=>rhs;rw [fitL,List.filter_filter]
 refine qB5 fun r _=>?_
 unfold topB fitL
 rw [Bool.and_comm]
theorem zvd {W:Web} {rs:List Rule} {c:List Arm} {ds:List PyData} (hl:ds.length=rs.length) (h:∀ z∈rs.zip ds,zef z.2=topB W rs c z.1):zdd rs ds=zge W (fitL W rs c):=by
 unfold zdd
 rw [qB5 h,← zanh]
 have e1:rs=(rs.zip ds).map (·.1):=by rw [List.map_fst_zip (by omega)]
 conv=>rhs;rw [e1]
 rw [List.filter_map]
 congr 1
 refine qB5 fun z _=>?_
 show topB W rs c z.1=topB W ((rs.zip ds).map (·.1)) c z.1
 rw [← e1]
noncomputable def ztr (d:PyData):Prop:=d=zos∨(∃ k:Nat,d=.tuple [.str "out",.int (k:Nat)])∨∃ n:Str,qV n=true∧d=.tuple [.str "far",.str n]
structure GoodP (W:Web) (rs:List Rule) (c:List Arm) (ds:List PyData):Prop where
 len:ds.length=rs.length
 ok:∀ z∈rs.zip ds,zkc W rs c z.1 z.2=true∧zef z.2=topB W rs c z.1
 item:∀ d∈ds,ztr d
theorem zakm {W:Web} {S:List Rule}:zge W (zge W S)=zge W S:=by
 show (zge W S).filter _=_
 rw [qC0]
 intro r hr
 rw [qBd]
 refine qA8.mpr fun q hq hb=>?_
 rw [(zkb.mp hr).2 q (zkb.mp hq).1] at hb
 cases hb
noncomputable def onAt (W:Web) (ks:List Str) (c:List Arm) (k:Nat):Bool:=(ks[k]?).elim false fun x=>(c[k]?).elim false fun a=>decide (x∈upA W a)
noncomputable def zaek (W:Web) (ks:List Str) (c:List Arm):List Nat:=(List.range ks.length).filter fun k=>!onAt W ks c k
theorem zani {W:Web} {ks:List Str} {c:List Arm} (hl:ks.length=c.length) (h:zaek W ks c=[]):fitB W ks c=true:=by
 refine qAZ.mpr fun z hz=>?_
 obtain ⟨i,hi⟩:=qCn.mp hz
 obtain ⟨x,a⟩:=z
 rw [qBA] at hi
 have hlt:i<ks.length:=(qN.mp hi.1).1
 have:onAt W ks c i=true:=by
  cases ho:onAt W ks c i with
  | true=>rfl
  | false =>
   have:i∈zaek W ks c:=qh.mpr ⟨qAT.mpr hlt,by rw [ho];rfl⟩
   rw [h] at this
   cases this
 unfold onAt at this
 rw [hi.1,hi.2] at this
 exact this
theorem zanj {W:Web} {ks:List Str} {c:List Arm} (hl:ks.length=c.length) {k:Nat} (h:k∈zaek W ks c):zrd W ks c (.int (k:Nat))=true:=by
 obtain ⟨h1,h2⟩:=qh.mp h
 have hk:=qAT.mp h1
 have h2:onAt W ks c k=false:=by simpa using h2
 unfold onAt at h2
 show ((decide (0≤(k:Int))&&decide ((k:Int)<(ks.length:Int)))&&(ks[k]?).elim false fun x=>(c[k]?).elim false fun a=>!decide (x∈upA W a))=true
 rw [qE hk,qE (by omega:k<c.length)] at h2 ⊢
 have h2:decide (ks[k]∈upA W (c[k]'(by omega)))=false:=h2
 show ((decide (0≤(k:Int))&&decide ((k:Int)<(ks.length:Int)))&&!decide (ks[k]∈upA W (c[k]'(by omega))))=true
 rw [h2,decide_eq_true (by omega),decide_eq_true (by omega)]
 rfl
theorem zts {a b:PyData} (h1:a.canLay0=true) (h2:a.depth≤60) (h3:b.canLay0=true) (h4:b.depth≤60):qI (.tuple [a,b])=true:=by
 unfold qI
 rw [qb]
 refine ⟨?_,decide_eq_true ?_⟩
 ·show (PyData.canLay0 a&&(PyData.canLay0 b&&true))=true
  rw [h1,h3];rfl
 ·show max (PyData.depth a) (max (PyData.depth b) 0)+1≤64
  omega
theorem ztr.shaped {d:PyData} (h:ztr d):qI d=true:=by
 rcases h with rfl|⟨k,rfl⟩|⟨n,hn,rfl⟩
 ·exact zhp
 ·exact zts (by decide +kernel) (by decide) rfl (qAd _)
 ·exact zts (by decide +kernel) (by decide) hn (qAd _)
theorem zank {α β:Type} {l:List α} {m:List β} (h:m.length=l.length) (x:α) (y:β):(l++[x]).zip (m++[y])=l.zip m++[(x,y)]:=by
 rw [List.zip_append h.symm];rfl
theorem zakn {f:EF} {env:DEnv} {r:Val} (h:f env=some r) (hh:zsp r.d=true):zju f env=some ⟨r.d,false,[]⟩:=by
 unfold zju
 rw [h,qAq,if_pos hh]
theorem zako {W:Web} {ks:List Str} {c:List Arm} (hl:ks.length=c.length) (hk:ks.length<300) (hf:fitB W ks c=false):∃ k:Nat,zrd W ks c (.int (k:Nat))=true∧zlr [zan ks,.list (c.map fun a=>zas (upA W a))]=some (.tuple [.str "out",.int (k:Nat)],false):=by
 have it:zpy (zab (eVar 0) aNil) [.pl (zan ks),.pl (.list (c.map fun a=>zas (upA W a))),.no]=some (((List.range ks.length).zip ks).map fun z=>PyData.tuple [.int (z.1:Nat),.str z.2],[]):=by
  show some (zpd (ks.map .str),[])=_
  rw [zto]
 have mz:∀ z∈(List.range ks.length).zip ks,ks[z.1]?=some z.2:=fun z hz=>by
  obtain ⟨i,hi⟩:=qCn.mp hz
  obtain ⟨a,x⟩:=z
  rw [qBA] at hi
  have hlt:i<ks.length:=(qN.mp hi.2).1
  rw [qBu hlt] at hi
  have:i=a:=qr hi.1
  rw [← this];exact hi.2
 have cm:zdy (gT 2 (zao 0 (zao 1 zce))) (zbh (eDIn true (eVar 1) (eIxV 2 (eVar 0)))) (eVar 0) [.no,.no,.pl (.list (c.map fun a=>zas (upA W a)))] (((List.range ks.length).zip ks).map fun z=>PyData.tuple [.int (z.1:Nat),.str z.2])=some ((((List.range ks.length).zip ks).filter fun z=>!onAt W ks c z.1).map fun z=>PyData.int (z.1:Nat)) :=
  zdn (out:=fun z:Nat×Str=>PyData.int (z.1:Nat)) (fun z=>!onAt W ks c z.1) fun z hz=>by
   have hx:=mz z hz
   have hlt:z.1<ks.length:=(qN.mp hx).1
   have ha:c[z.1]?=some (c[z.1]'(by omega)):=qE (by omega)
   refine ⟨[.pl (.int (z.1:Nat)),.pl (.str z.2),.pl (.list (c.map fun a=>zas (upA W a)))],rfl,?_,fun _=>⟨vi (z.1:Nat),rfl,rfl⟩⟩
   have e:onAt W ks c z.1=decide (z.2∈upA W (c[z.1]'(by omega))):=by
    unfold onAt
    rw [hx,ha];rfl
   rw [e]
   exact zds (zadm (neg:=true) (x:=z.2) (ks:=upA W (c[z.1]'(by omega))) (fr:=false) (bs:=[]) rfl (zsg (n:=z.1) (ds:=c.map fun a=>zas (upA W a)) rfl rfl (by rw [qR,ha];rfl)))
 have ne:(((List.range ks.length).zip ks).filter fun z=>!onAt W ks c z.1)≠[]:=fun hn=>by
  have:zaek W ks c=[]:=by
   refine List.filter_eq_nil_iff.mpr fun k hk' hb=>?_
   have hlt:=qAT.mp hk'
   have:(k,ks[k])∈(List.range ks.length).zip ks:=qAy (i:=k) (by rw [qBA];exact ⟨qBu hlt,qE hlt⟩)
   have:(k,ks[k])∈((List.range ks.length).zip ks).filter fun z=>!onAt W ks c z.1:=qh.mpr ⟨this,hb⟩
   rw [hn] at this
   cases this
  rw [zani hl this] at hf
  cases hf
 generalize hF:(((List.range ks.length).zip ks).filter fun z=>!onAt W ks c z.1)=F at cm ne
 cases F with
 | nil=>exact absurd rfl ne
 | cons z F =>
  have hz:z∈((List.range ks.length).zip ks).filter fun z=>!onAt W ks c z.1:=by rw [hF];exact qc
  have hm:=qh.mp hz
  have hlt:z.1<ks.length:=(qN.mp (mz z hm.1)).1
  refine ⟨z.1,zanj hl (qh.mpr ⟨qAT.mpr hlt,hm.2⟩),?_⟩
  have s2:sSet 2 (zda ["place", "kind"] [1] (zpy (zab (eVar 0) aNil)) (gT 2 (zao 0 (zao 1 zce))) (zbh (eDIn true (eVar 1) (eIxV 2 (eVar 0)))) (eVar 0)) [.pl (zan ks),.pl (.list (c.map fun a=>zas (upA W a))),.no]=some (.nx [.pl (zan ks),.pl (.list (c.map fun a=>zas (upA W a))),.ac (.list ((z::F).map fun z=>PyData.int (z.1:Nat)))]):=by
   refine zcq (r:=⟨.list ((z::F).map fun z=>PyData.int (z.1:Nat)),true,[]⟩) ?_
   rw [zdr (own:=["place", "kind"]) (fr:=[1]) it (by rw [qC,qBG];have:=Nat.min_le_right (List.range ks.length).length ks.length;omega) cm]
   have:(if zfq ((z::F).map fun z=>PyData.int (z.1:Nat))=true then ([]:List Nat) else []++capA [1] [.pl (zan ks),.pl (.list (c.map fun a=>zas (upA W a))),.no])=[]:=by split<;>rfl
   rw [this]
  refine zdw (env:=[.pl (zan ks),.pl (.list (c.map fun a=>zas (upA W a))),.no]) rfl (zat s2 (zes (bs:=[]) ?_))
  unfold eTup
  rw [zba (r:=vs "out") rfl (zdt (zaif (n:=0) (d:=.int (z.1:Nat)) rfl rfl rfl))]
  rfl
theorem zanl {W:Web} {rs:List Rule} {c:List Arm} (b:Bk W rs c) {r:Rule} (hr:r∈rs) (hf:fitB W r.2 c=true):∃ d,ztr d∧zkc W rs c r d=true∧zef d=topB W rs c r∧zol [.dict (dS zas (ups W)),zaj (fitL W rs c),zan r.2]=some (d,false):=by
 have fok:RulesOk W (fitL W rs c):=b.rul.filter _
 have hfl:=fok.len
 have cm:zdy (gT 2 (zao 0 (zao 1 zce))) (tTru (zay 3 zdu (zab (eVar 2) (zab (eVar 1) (zab (eVar 3) aNil))))) (eVar 0) [.no,.no,.pl (.dict (dS zas (ups W))),.pl (zan r.2)] ((fitL W rs c).map zbf)=some ((nms ((fitL W rs c).filter fun q=>zgx W q.2 r.2)).map .str):=by
  rw [zdn (enc:=zbf) (out:=fun q:Rule=>PyData.str q.1) (fun q=>zgx W q.2 r.2) fun q hq=>⟨[.pl (.str q.1),.pl (zan q.2),.pl (.dict (dS zas (ups W))),.pl (zan r.2)],rfl,zaef (n:=3) (rs:=[⟨.dict (dS zas (ups W)),false,[]⟩,⟨zan q.2,false,[]⟩,⟨zan r.2,false,[]⟩]) rfl rfl (zns b.web (fok.low q hq) (b.rul.low r hr) (fok.kinds q hq) (fok.few q hq)),fun _=>⟨vs q.1,rfl,rfl⟩⟩]
  unfold nms;rw [qAi];rfl
 have s3:sSet 3 (zda ["name", "others"] [0,2] (zaw (eVar 1)) (gT 2 (zao 0 (zao 1 zce))) (tTru (zay 3 zdu (zab (eVar 2) (zab (eVar 1) (zab (eVar 3) aNil))))) (eVar 0)) [.pl (.dict (dS zas (ups W))),.pl (zaj (fitL W rs c)),.pl (zan r.2),.no]=some (.nx [.pl (.dict (dS zas (ups W))),.pl (zaj (fitL W rs c)),.pl (zan r.2),.ac (zae (nms ((fitL W rs c).filter fun q=>zgx W q.2 r.2)))]):=by
  refine zcq (r:=⟨zae (nms ((fitL W rs c).filter fun q=>zgx W q.2 r.2)),true,[]⟩) ?_
  rw [zdr (own:=["name", "others"]) (fr:=[0,2]) (fi:=zaw (eVar 1)) (ds:=(fitL W rs c).map zbf) (bs:=[]) rfl (by rw [qC];omega) cm,if_pos (zin _)]
  rfl
 cases hF:(fitL W rs c).filter fun q=>zgx W q.2 r.2 with
 | nil =>
  rw [hF] at s3
  have na:((fitL W rs c).any fun q=>zgx W q.2 r.2)=false:=by
   refine qA8.mpr fun q hq hn=>?_
   have:q∈(fitL W rs c).filter fun q=>zgx W q.2 r.2:=qh.mpr ⟨hq,hn⟩
   rw [hF] at this
   cases this
  refine ⟨zos,.inl rfl,?_,?_,zdw (env:=[.pl (.dict (dS zas (ups W))),.pl (zaj (fitL W rs c)),.pl (zan r.2),.no]) rfl (zat s3 (zat (if_f rfl rfl) rfl))⟩
  ·rw [show zkc W rs c r zos=(fitB W r.2 c&&zef zos) from rfl,hf];decide +kernel
  ·unfold topB
   rw [hf,na];decide +kernel
 | cons q F =>
  rw [hF] at s3
  have hq:q∈(fitL W rs c).filter fun q=>zgx W q.2 r.2:=by rw [hF];exact qc
  obtain ⟨hq1,hq2⟩:=qh.mp hq
  refine ⟨.tuple [.str "far",.str q.1],.inr (.inr ⟨q.1,b.low q (znt q hq1),rfl⟩),?_,?_,zdw (env:=[.pl (.dict (dS zas (ups W))),.pl (zaj (fitL W rs c)),.pl (zan r.2),.no]) rfl (zat s3 (zfy (if_t rfl (zes (bs:=[]) ?_))))⟩
  ·show (if qG (.str "far") (.str "out")=true then zrd W r.2 c (.str q.1) else fitB W r.2 c&&(qG (.str "far") (.str "far")&&farB W (fitL W rs c) r.2 (.str q.1)))=true
   rw [if_neg (by decide +kernel),hf,qB1,qb]
   exact ⟨by decide +kernel,qAS.mpr ⟨q,hq1,by rw [hq2,zwz.mpr rfl];rfl⟩⟩
  ·rw [zxb]
   symm
   unfold topB
   rw [qAS.mpr ⟨q,hq1,hq2⟩,Bool.not_true,qCU]
  ·unfold eTup
   rw [zba (r:=vs "far") rfl (zdt (zaif (n:=0) (d:=.str q.1) rfl rfl rfl))]
   rfl
theorem ztr.hard {d:PyData} (h:ztr d):zsp d=true:=by
 rcases h with rfl|⟨k,rfl⟩|⟨n,_,rfl⟩<;>rfl
theorem zavh {W:Web} {rs:List Rule} {c:List Arm} (b:Bk W rs c):∃ ds,zabf [zbl W c.length rs,zaq c]=some (.list ds,true)∧GoodP W rs c ds:=by
 have hrl:=b.rul.len
 have s2:sSet 2 (zay 2 zco (zab (eVar 0) (zab (eVar 1) aNil))) [.pl (zbl W c.length rs),.pl (zaq c),.no,.no,.no,.no,.no,.no,.no,.no,.no]=some (.nx [.pl (zbl W c.length rs),.pl (zaq c),.ac (zaj (fitL W rs c)),.no,.no,.no,.no,.no,.no,.no,.no]) :=
  zcq (r:=⟨zaj (fitL W rs c),true,[]⟩) (zbg (n:=2) (rs:=[⟨zbl W c.length rs,false,[]⟩,⟨zaq c,false,[]⟩]) rfl rfl (zie b.web b.rul b.cal))
 have s3:sAsg (eVar 0) (gT 3 (zao 3 (zao 4 (zao 5 zce)))) [.pl (zbl W c.length rs),.pl (zaq c),.ac (zaj (fitL W rs c)),.no,.no,.no,.no,.no,.no,.no,.no]=some (.nx [.pl (zbl W c.length rs),.pl (zaq c),.ac (zaj (fitL W rs c)),.pl (webD W),.pl (.int c.length),.pl (zaj rs),.no,.no,.no,.no,.no]):=rfl
 have s6:sSet 6 (zay 1 zdz (zab (eVar 3) aNil)) [.pl (zbl W c.length rs),.pl (zaq c),.ac (zaj (fitL W rs c)),.pl (webD W),.pl (.int c.length),.pl (zaj rs),.no,.no,.no,.no,.no]=some (.nx [.pl (zbl W c.length rs),.pl (zaq c),.ac (zaj (fitL W rs c)),.pl (webD W),.pl (.int c.length),.pl (zaj rs),.ac (.dict (dS zas (ups W))),.no,.no,.no,.no]) :=
  zcq (r:=⟨.dict (dS zas (ups W)),true,[]⟩) (zbg (n:=1) (rs:=[⟨webD W,false,[]⟩]) rfl rfl (zmi b.web))
 have s7:sSet 7 (zay 2 zct (zab (eVar 6) (zab (eVar 1) aNil))) [.pl (zbl W c.length rs),.pl (zaq c),.ac (zaj (fitL W rs c)),.pl (webD W),.pl (.int c.length),.pl (zaj rs),.ac (.dict (dS zas (ups W))),.no,.no,.no,.no]=some (.nx [.pl (zbl W c.length rs),.pl (zaq c),.ac (zaj (fitL W rs c)),.pl (webD W),.pl (.int c.length),.pl (zaj rs),.pl (.dict (dS zas (ups W))),.ac (.list (c.map fun a=>zas (upA W a))),.no,.no,.no]) :=
  zcq (r:=⟨.list (c.map fun a=>zas (upA W a)),true,[6]⟩) (zbg (n:=2) (rs:=[⟨.dict (dS zas (ups W)),false,[6]⟩,⟨zaq c,false,[]⟩]) rfl rfl (zjb b.web b.cal.len b.cal.kinds))
 have s8:sSet 8 (eLst aNil) [.pl (zbl W c.length rs),.pl (zaq c),.ac (zaj (fitL W rs c)),.pl (webD W),.pl (.int c.length),.pl (zaj rs),.pl (.dict (dS zas (ups W))),.ac (.list (c.map fun a=>zas (upA W a))),.no,.no,.no]=some (.nx [.pl (zbl W c.length rs),.pl (zaq c),.ac (zaj (fitL W rs c)),.pl (webD W),.pl (.int c.length),.pl (zaj rs),.pl (.dict (dS zas (ups W))),.ac (.list (c.map fun a=>zas (upA W a))),.ac (.list []),.no,.no]):=rfl
 obtain ⟨env',lp,acc,s9,s10,rfl,hl,ha,hit⟩:=zem (enc:=zbf) (g:=gT 2 (zao 9 (zao 10 zce))) (l:=rs) (env:=[.pl (zbl W c.length rs),.pl (zaq c),.ac (zaj (fitL W rs c)),.pl (webD W),.pl (.int c.length),.pl (zaj rs),.pl (.dict (dS zas (ups W))),.ac (.list (c.map fun a=>zas (upA W a))),.ac (.list []),.no,.no])
  (body:=(sIf (tTru (zay 2 zet (zab (eVar 10) (zab (eVar 7) aNil)))) (sApp 8 (zju (zay 3 zol (zab (eVar 6) (zab (eVar 2) (zab (eVar 10) aNil)))))) (sApp 8 (zju (zay 2 zlr (zab (eVar 10) (zab (eVar 7) aNil)))))))
  (fun pre env=>∃ (acc:List PyData) (s9 s10:Sl),env=[.pl (zbl W c.length rs),.pl (zaq c),.ac (zaj (fitL W rs c)),.pl (webD W),.pl (.int c.length),.pl (zaj rs),.pl (.dict (dS zas (ups W))),.ac (.list (c.map fun a=>zas (upA W a))),.ac (.list acc),s9,s10]∧acc.length=pre.length∧(∀ w∈pre.zip acc,zkc W rs c w.1 w.2=true∧zef w.2=topB W rs c w.1)∧∀ d∈acc,ztr d)
  ⟨[],_,_,rfl,rfl,(fun w hw=>by cases hw),(fun d hd=>by cases hd)⟩ (by
   rintro pre r post env hp ⟨acc,s9,s10,rfl,hl,ha,hit⟩
   have hr:r∈rs:=by rw [← hp];simp
   have hpl:pre.length<300:=by
    have:=congrArg List.length hp
    rw [qp] at this
    omega
   have tf:tTru (zay 2 zet (zab (eVar 10) (zab (eVar 7) aNil))) [.pl (zbl W c.length rs),.pl (zaq c),.ac (zaj (fitL W rs c)),.pl (webD W),.pl (.int c.length),.pl (zaj rs),.pl (.dict (dS zas (ups W))),.ac (.list (c.map fun a=>zas (upA W a))),.ac (.list acc),.pl (.str r.1),.pl (zan r.2)]=some (fitB W r.2 c):=by
    unfold tTru
    rw [zbg (n:=2) (rs:=[⟨zan r.2,false,[]⟩,⟨.list (c.map fun a=>zas (upA W a)),false,[7]⟩]) rfl rfl (zqp b.cal.len)]
    rfl
   have fin:∀ (d:PyData) (e2:DEnv),ztr d→zkc W rs c r d=true→zef d=topB W rs c r→∃ (acc':List PyData) (s9 s10:Sl),[.pl (zbl W c.length rs),.pl (zaq c),.ac (zaj (fitL W rs c)),.pl (webD W),.pl (.int c.length),.pl (zaj rs),.pl (.dict (dS zas (ups W))),.ac (.list (c.map fun a=>zas (upA W a))),.ac (.list (acc++[d])),.pl (.str r.1),.pl (zan r.2)]=[.pl (zbl W c.length rs),.pl (zaq c),.ac (zaj (fitL W rs c)),.pl (webD W),.pl (.int c.length),.pl (zaj rs),.pl (.dict (dS zas (ups W))),.ac (.list (c.map fun a=>zas (upA W a))),.ac (.list acc'),s9,s10]∧acc'.length=(pre++[r]).length∧(∀ w∈(pre++[r]).zip acc',zkc W rs c w.1 w.2=true∧zef w.2=topB W rs c w.1)∧∀ d∈acc',ztr d:=by
    intro d _ h1 h2 h3
    refine ⟨acc++[d],_,_,rfl,by rw [qp,qp,hl];rfl,?_,?_⟩
    ·intro w hw
     rw [zank hl] at hw
     rcases qAA.mp hw with hw|hw
     ·exact ha w hw
     ·obtain rfl:w=(r,d):=by simpa using hw
      exact ⟨h2,h3⟩
    ·intro d' hd'
     rcases qAA.mp hd' with hd'|hd'
     ·exact hit d' hd'
     ·obtain rfl:d'=d:=by simpa using hd'
      exact h1
   cases hf:fitB W r.2 c with
   | true =>
    obtain ⟨d,h1,h2,h3,h4⟩:=zanl b hr hf
    refine ⟨_,_,rfl,.inl (if_t (tf.trans (congrArg some hf)) (zmu (ds:=acc) (d:=d) (fr:=false) rfl (zakn (zbg (n:=3) (rs:=[⟨.dict (dS zas (ups W)),false,[]⟩,⟨zaj (fitL W rs c),false,[2]⟩,⟨zan r.2,false,[]⟩]) rfl rfl h4) h1.hard) (by omega))),fin d [] h1 h2 h3⟩
   | false =>
    obtain ⟨k,h1,h2⟩:=zako (b.ord.size r hr) (b.rul.few r hr) hf
    refine ⟨_,_,rfl,.inl (if_f (tf.trans (congrArg some hf)) (zmu (ds:=acc) (d:=.tuple [.str "out",.int (k:Nat)]) (fr:=false) rfl (zakn (zbg (n:=2) (rs:=[⟨zan r.2,false,[]⟩,⟨.list (c.map fun a=>zas (upA W a)),false,[7]⟩]) rfl rfl h2) rfl) (by omega))),fin _ [] (.inr (.inl ⟨k,rfl⟩)) ?_ ?_⟩
    ·show (if qG (.str "out") (.str "out")=true then zrd W r.2 c (.int (k:Nat)) else fitB W r.2 c&&(qG (.str "out") (.str "far")&&farB W (fitL W rs c) r.2 (.int (k:Nat))))=true
     rw [if_pos (by decide +kernel),h1]
    ·rw [zxb]
     symm
     unfold topB
     rw [hf];rfl)
 exact ⟨acc,zdw (env:=[.pl (zbl W c.length rs),.pl (zaq c),.no,.no,.no,.no,.no,.no,.no,.no,.no]) rfl (zat s2 (zat s3 (zat s6 (zat s7 (zat s8 (zat (zjs (ds:=rs.map zbf) (bs:=[]) rfl lp) rfl)))))),hl,ha,hit⟩
theorem zafw:qG (.str "near") (.str "out")=false:=by decide +kernel
theorem zafx:qG (.str "near") (.str "far")=false:=by decide +kernel
theorem zaad:qG (.str "far") (.str "out")=false:=by decide +kernel
theorem zaae:qG (.str "out") (.str "out")=true:=by decide +kernel
theorem zakp:qG (.str "far") (.str "far")=true:=by decide +kernel
theorem zauh:zef zos=true:=by decide +kernel
theorem ztt {k:Nat} {env:DEnv} {x z:Str} {t:List PyData} (he:env[k]?=some (.pl (.tuple (.str x::t)))) (hx:qV x=true) (hz:qV z=true):zbh (eOp eqD (eIxV k (eC (.int 0))) (eC (.str z))) env=some (qG (.str x) (.str z)) :=
 zds (zxa (f1:=false) (f2:=false) (b1:=[]) (b2:=[]) (ixT (n:=0) (ds:=.str x::t) he rfl rfl) rfl (zmq hx) (zmq hz))
theorem zaop:qV "near" = true:=by decide +kernel
theorem zanm:qV "far" = true:=by decide +kernel
theorem zann:qV "out" = true:=by decide +kernel
theorem zakq {f g:TF} {env:DEnv} (h:f env=some false):zij f g env=some false:=by unfold zij;rw [h];rfl
theorem zxc {f g:TF} {env:DEnv} {b:Bool} (h:f env=some true) (k:g env=some b):zij f g env=some b:=by unfold zij;rw [h];exact k
theorem zaaf {W:Web} {rs:List Rule} {c:List Arm} (b:Bk W rs c) {r:Rule} (hr:r∈rs) {d:PyData} (hd:ztr d) (hb:zkc W rs c r d=true) :
  zfc [.dict (dS zae (ups W)),zaj rs,zan r.2,zaq c,d]=some (.bool true,false):=by
 have hsz:=b.ord.size r hr
 have hrl:=b.rul.len
 have hs:zkq 6 [.dict (dS zae (ups W)),zaj rs,zan r.2,zaq c,d]=[.pl (.dict (dS zae (ups W))),.pl (zaj rs),.pl (zan r.2),.pl (zaq c),.pl d,.no]:=rfl
 have tfit:fitB W r.2 c=true→zfi (tTru (zay 3 zcd (zab (eVar 0) (zab (eVar 2) (zab (eVar 3) aNil))))) [.pl (.dict (dS zae (ups W))),.pl (zaj rs),.pl (zan r.2),.pl (zaq c),.pl d,.no]=some false:=fun hf=>by
  refine zpx (c:=true) ?_
  rw [zbg (n:=3) (rs:=[⟨.dict (dS zae (ups W)),false,[]⟩,⟨zan r.2,false,[]⟩,⟨zaq c,false,[]⟩]) rfl rfl (znu b.web b.cal (by rw [hsz];exact qO _)),hf]
  rfl
 rcases hd with rfl|⟨k,rfl⟩|⟨n,hn,rfl⟩
 ·have hf:fitB W r.2 c=true:=by
   rw [show zkc W rs c r zos=(fitB W r.2 c&&zef zos) from rfl] at hb
   exact (qo.mp hb).1
  refine zdw hs (zat (if_f (zakd rfl rfl) rfl) (zat (if_f (zakq ((ztt (k:=4) rfl zaop zann).trans (congrArg some zafw))) rfl) (zat (if_f (tfit hf) rfl) (zat (if_f (zakq ((ztt (k:=4) rfl zaop zanm).trans (congrArg some zafx))) rfl) (zes (bs:=[]) ?_)))))
  rw [zxa (f1:=false) (f2:=false) (b1:=[]) (b2:=[]) (d:=zos) (e:=zos) rfl rfl zhp zhp]
  exact congrArg (fun x=>some (vb x)) zauh
 ·have ho:zrd W r.2 c (.int (k:Nat))=true:=by
   have hb:(if qG (.str "out") (.str "out")=true then zrd W r.2 c (.int (k:Nat)) else fitB W r.2 c&&(qG (.str "out") (.str "far")&&farB W (fitL W rs c) r.2 (.int (k:Nat))))=true:=hb
   rw [if_pos zaae] at hb
   exact hb
  have ho:((decide (0≤(k:Int))&&decide ((k:Int)<(r.2.length:Int)))&&(r.2[k]?).elim false fun x=>(c[k]?).elim false fun a=>!decide (x∈upA W a))=true:=ho
  obtain ⟨ho1,ho2⟩:=qo.mp ho
  have hk:k<r.2.length:=by have:=of_decide_eq_true (qo.mp ho1).2;omega
  have hk2:k<c.length:=by omega
  rw [qE hk,qE hk2] at ho2
  have y1:eIxV 4 (eC (.int 1)) [.pl (.dict (dS zae (ups W))),.pl (zaj rs),.pl (zan r.2),.pl (zaq c),.pl (.tuple [.str "out",.int (k:Nat)]),.no]=some ⟨.int (k:Nat),false,[]⟩:=ixT (n:=1) (ds:=[.str "out",.int (k:Nat)]) rfl rfl rfl
  have l2:=len2 (k:=4) (ds:=[.str "out",.int (k:Nat)]) (env:=[.pl (.dict (dS zae (ups W))),.pl (zaj rs),.pl (zan r.2),.pl (zaq c),.pl (.tuple [.str "out",.int (k:Nat)]),.no]) rfl
  refine zdw hs (zat (if_f (zakd rfl rfl) rfl) (zfy (if_t (zxc ((ztt (k:=4) rfl zann zann).trans (congrArg some zaae)) (zxc l2 (zxc (by unfold tTru eIsi;rw [y1];rfl) (zpx (c:=false) (by unfold eIsi;rw [y1];rfl))))) (zes (bs:=[]) ?_))))
  have ch:zof leD ltD (eC (.int 0)) (eIxV 4 (eC (.int 1))) (eCB lenD (zab (eVar 2) aNil)) [.pl (.dict (dS zae (ups W))),.pl (zaj rs),.pl (zan r.2),.pl (zaq c),.pl (.tuple [.str "out",.int (k:Nat)]),.no]=some (vb true):=by
   unfold zof
   rw [y1]
   have h1:=(qo.mp ho1).1
   have h2:=(qo.mp ho1).2
   show (if decide (0≤(k:Int))=true then some (vb (decide ((k:Int)<((r.2.map PyData.str).length:Int)))) else some (vb false))=_
   rw [if_pos h1,qC,h2]
  unfold eAnd eNot
  rw [ch,zbg (n:=3) (rs:=[⟨.dict (dS zae (ups W)),false,[]⟩,⟨armD c[k],false,[]⟩,⟨.str r.2[k],false,[]⟩]) (zba rfl (zba (ixT (ds:=c.map armD) rfl y1 (by rw [qR,qE hk2];rfl)) (zdt (ixT (ds:=r.2.map .str) rfl y1 (by rw [qR,qE hk];rfl))))) rfl (zaej (b.cal.few _ (qAY _)) (b.cal.kinds _ (qAY _)))]
  exact congrArg (fun x=>some (vb x)) ho2
 ·have hb:(if qG (.str "far") (.str "out")=true then zrd W r.2 c (.str n) else fitB W r.2 c&&(qG (.str "far") (.str "far")&&farB W (fitL W rs c) r.2 (.str n)))=true:=hb
  rw [if_neg (by rw [zaad];decide)] at hb
  obtain ⟨hf,hb⟩:=qo.mp hb
  have hfar:=(qo.mp hb).2
  have l2:=len2 (k:=4) (ds:=[.str "far",.str n]) (env:=[.pl (.dict (dS zae (ups W))),.pl (zaj rs),.pl (zan r.2),.pl (zaq c),.pl (.tuple [.str "far",.str n]),.no]) rfl
  have cm:zdy (gT 2 (zao 0 (zao 1 zce))) (zbh (eOp (eqTD false) (eVar 0) (eIxV 2 (eC (.int 1))))) (eVar 1) [.no,.no,.pl (.tuple [.str "far",.str n])] (rs.map zbf)=some ((rs.filter fun q=>qG (.str q.1) (.str n)).map fun q=>zan q.2) :=
   zdn (enc:=zbf) (out:=fun q=>zan q.2) (fun q=>qG (.str q.1) (.str n)) fun q hq=>⟨[.pl (.str q.1),.pl (zan q.2),.pl (.tuple [.str "far",.str n])],rfl,zds (zaue (neg:=false) (d:=.str q.1) (e:=.str n) (f1:=false) (f2:=false) (b1:=[]) (b2:=[]) rfl (ixT (n:=1) (ds:=[.str "far",.str n]) rfl rfl rfl) (.inl rfl)),fun _=>⟨⟨zan q.2,false,[]⟩,rfl,rfl⟩⟩
  rcases zaki b.nd (.str n) with e|⟨q,hq,hy,e⟩
  ·rw [zanf e] at hfar
   cases hfar
  ·rw [zarc hq hy e,zaeh] at hfar
   obtain ⟨hqf,hfar⟩:=qo.mp hfar
   obtain ⟨hqr,hge⟩:=qo.mp hfar
   have hqr:(q.2==r.2)=false:=by simpa using hqr
   rw [e] at cm
   have s5:sSet 5 (zda ["_law_name", "_law_other"] [4] (zaw (eVar 1)) (gT 2 (zao 0 (zao 1 zce))) (zbh (eOp (eqTD false) (eVar 0) (eIxV 2 (eC (.int 1))))) (eVar 1)) [.pl (.dict (dS zae (ups W))),.pl (zaj rs),.pl (zan r.2),.pl (zaq c),.pl (.tuple [.str "far",.str n]),.no]=some (.nx [.pl (.dict (dS zae (ups W))),.pl (zaj rs),.pl (zan r.2),.pl (zaq c),.pl (.tuple [.str "far",.str n]),.ac (.list [zan q.2])]):=by
    refine zcq (r:=⟨.list [zan q.2],true,[]⟩) ?_
    rw [zdr (own:=["_law_name", "_law_other"]) (fr:=[4]) (fi:=zaw (eVar 1)) (ds:=rs.map zbf) (bs:=[]) rfl (by rw [qC];omega) cm]
    rfl
   have ix0:eIxV 5 (eC (.int 0)) [.pl (.dict (dS zae (ups W))),.pl (zaj rs),.pl (zan r.2),.pl (zaq c),.pl (.tuple [.str "far",.str n]),.ac (.list [zan q.2])]=some ⟨zan q.2,false,[]⟩:=zaif (n:=0) rfl rfl rfl
   have tq:tOrF (zbh (eOp eqD (eCB lenD (zab (eVar 5) aNil)) (eC (.int 0)))) (zbh (eOp eqD (eIxV 5 (eC (.int 0))) (eVar 2))) [.pl (.dict (dS zae (ups W))),.pl (zaj rs),.pl (zan r.2),.pl (zaq c),.pl (.tuple [.str "far",.str n]),.ac (.list [zan q.2])]=some false:=by
    refine zakd rfl ?_
    rw [zds (zxa (f1:=false) (f2:=false) (b1:=[]) (b2:=[]) ix0 rfl (zia (b.rul.low q hq)) (zia (b.rul.low r hr))),zakh,hqr]
   refine zdw hs (zat (if_f (zakd rfl rfl) rfl) (zat (if_f (zakq ((ztt (k:=4) rfl zanm zann).trans (congrArg some zaad))) rfl) (zat (if_f (tfit hf) rfl) (zfy (if_t (zxc ((ztt (k:=4) rfl zanm zanm).trans (congrArg some zakp)) l2) (zat s5 (zat (if_f tq rfl) (zes (bs:=[]) ?_))))))))
   unfold eAnd
   rw [zbg (n:=3) (rs:=[⟨.dict (dS zae (ups W)),false,[]⟩,⟨zan q.2,false,[]⟩,⟨zaq c,false,[]⟩]) (zba rfl (zba ix0 (zdt rfl))) rfl (znu b.web b.cal (by rw [b.ord.size q hq];exact qO _)),
    zbg (n:=3) (rs:=[⟨.dict (dS zae (ups W)),false,[]⟩,⟨zan r.2,false,[]⟩,⟨zan q.2,false,[]⟩]) (zba rfl (zba rfl (zdt ix0))) rfl (ztq b hq hr),hqf,hge]
   rfl
theorem zaag {W:Web} {rs:List Rule} {c:List Arm} (b:Bk W rs c) {gs:List PyData} (g:GoodP W rs c gs):zfm [.dict (dS zae (ups W)),zaj rs,zaq c,.list gs]=some (zfw (nms (zge W (fitL W rs c))),false):=by
 have hrl:=b.rul.len
 have he:=g.len
 have hs:zkq 9 [.dict (dS zae (ups W)),zaj rs,zaq c,.list gs]=[.pl (.dict (dS zae (ups W))),.pl (zaj rs),.pl (zaq c),.pl (.list gs),.no,.no,.no,.no,.no]:=rfl
 have nr:zdd rs gs=zge W (fitL W rs c):=zvd g.len fun z hz=>(g.ok z hz).2
 have tl:tOrF (zfi (tTru (eIsi "list" (eVar 3)))) (zbh (eOp neD (eCB lenD (zab (eVar 3) aNil)) (eCB lenD (zab (eVar 1) aNil)))) [.pl (.dict (dS zae (ups W))),.pl (zaj rs),.pl (zaq c),.pl (.list gs),.no,.no,.no,.no,.no]=some false:=by
  refine zakd rfl ?_
  rw [zaoo (m:=gs.length) (n:=(rs.map zbf).length) (zlg (fr:=false) (bs:=[]) rfl) (zlg (fr:=false) (bs:=[]) rfl),qC,decide_eq_true he]
  rfl
 have s4:sSet 4 (eLst aNil) [.pl (.dict (dS zae (ups W))),.pl (zaj rs),.pl (zaq c),.pl (.list gs),.no,.no,.no,.no,.no]=some (.nx [.pl (.dict (dS zae (ups W))),.pl (zaj rs),.pl (zaq c),.pl (.list gs),.ac (zaj []),.no,.no,.no,.no]):=rfl
 have e1:rs=(rs.zip gs).map (·.1):=by rw [List.map_fst_zip (by omega)]
 have it:zpu (zab (eVar 1) aNil) [.pl (.dict (dS zae (ups W))),.pl (zaj rs),.pl (zaq c),.pl (.list gs),.ac (zaj []),.no,.no,.no,.no]=some ((rs.zip gs).zipIdx.map fun t=>PyData.tuple [.int (t.2:Nat),zbf t.1.1],[]):=by
  show some (zpd (rs.map zbf),[])=_
  congr 2
  rw [e1,qAi]
  unfold zpd
  rw [← List.map_zipIdx,qAi]
  rw [← e1]
  rfl
 obtain ⟨env',lp,s5,s6,rfl⟩:=zem (enc:=fun t:(Rule×PyData)×Nat=>PyData.tuple [.int (t.2:Nat),zbf t.1.1]) (g:=gT 2 (zao 5 (zao 6 zce))) (l:=(rs.zip gs).zipIdx) (env:=[.pl (.dict (dS zae (ups W))),.pl (zaj rs),.pl (zaq c),.pl (.list gs),.ac (zaj []),.no,.no,.no,.no])
  (body:=(sSeq (sIf (zfi (tTru (zay 5 zfc (zab (eVar 0) (zab (eVar 1) (zab (eIxV 6 (eC (.int 1))) (zab (eVar 2) (zab (eIxV 3 (eVar 5)) aNil)))))))) (sRet (eC .none)) sNil) (sIf (zbh (eOp eqD (eIxV 3 (eVar 5)) (eTup (zab (eC (.str "near")) aNil)))) (sApp 4 (eVar 6)) sNil)))
  (fun pre env=>∃ s5 s6,env=[.pl (.dict (dS zae (ups W))),.pl (zaj rs),.pl (zaq c),.pl (.list gs),.ac (zaj ((pre.filter fun t=>zef t.1.2).map fun t=>t.1.1)),s5,s6,.no,.no]) ⟨_,_,rfl⟩ (by
   rintro pre ⟨⟨r,d⟩,i⟩ post env hp ⟨s5,s6,rfl⟩
   have hm:((r,d),i)∈(rs.zip gs).zipIdx:=by rw [← hp];simp
   have hg:(rs.zip gs)[i]?=some (r,d):=List.mem_zipIdx_iff_getElem?.mp hm
   have hz:(r,d)∈rs.zip gs:=qAy hg
   have hd:gs[i]?=some d:=by
    rw [qBA] at hg
    exact hg.2
   have hr:=(qAb hz).1
   have gi:=g.item d (qAb hz).2
   have hpl:pre.length<300:=by
    have:=congrArg List.length hp
    rw [qp,qAc,List.length_zipIdx,qBG] at this
    have:=qA1 rs.length gs.length
    omega
   have ix:eIxV 3 (eVar 5) [.pl (.dict (dS zae (ups W))),.pl (zaj rs),.pl (zaq c),.pl (.list gs),.ac (zaj ((pre.filter fun t=>zef t.1.2).map fun t=>t.1.1)),.pl (.int (i:Nat)),.pl (zbf r),.no,.no]=some ⟨d,false,[]⟩:=zsg rfl rfl hd
   have t1:zfi (tTru (zay 5 zfc (zab (eVar 0) (zab (eVar 1) (zab (eIxV 6 (eC (.int 1))) (zab (eVar 2) (zab (eIxV 3 (eVar 5)) aNil))))))) [.pl (.dict (dS zae (ups W))),.pl (zaj rs),.pl (zaq c),.pl (.list gs),.ac (zaj ((pre.filter fun t=>zef t.1.2).map fun t=>t.1.1)),.pl (.int (i:Nat)),.pl (zbf r),.no,.no]=some false:=by
    refine zpx (c:=true) ?_
    rw [zbg (n:=5) (rs:=[⟨.dict (dS zae (ups W)),false,[]⟩,⟨zaj rs,false,[]⟩,⟨zan r.2,false,[]⟩,⟨zaq c,false,[]⟩,⟨d,false,[]⟩]) (zba rfl (zba rfl (zba rfl (zba rfl (zdt ix))))) rfl (zaaf b hr gi (g.ok _ hz).1)]
    rfl
   have t2:zbh (eOp eqD (eIxV 3 (eVar 5)) (eTup (zab (eC (.str "near")) aNil))) [.pl (.dict (dS zae (ups W))),.pl (zaj rs),.pl (zaq c),.pl (.list gs),.ac (zaj ((pre.filter fun t=>zef t.1.2).map fun t=>t.1.1)),.pl (.int (i:Nat)),.pl (zbf r),.no,.no]=some (zef d) :=
    zds (zxa (f1:=false) (f2:=false) (b1:=[]) (b2:=[]) (d:=d) (e:=zos) ix rfl gi.shaped zhp)
   rw [List.filter_append,qAJ]
   cases hn:zef d with
   | false =>
    rw [hn] at t2
    refine ⟨_,_,rfl,.inl (zat (if_f t1 rfl) (if_f t2 rfl)),.pl (.int (i:Nat)),.pl (zbf r),?_⟩
    rw [show ([((r,d),i)].filter fun t:(Rule×PyData)×Nat=>zef t.1.2)=[] by rw [qBj];simp [hn],qBX,qAg]
    rfl
   | true =>
    rw [hn] at t2
    refine ⟨_,_,rfl,.inl (zat (if_f t1 rfl) (if_t t2 (zmu (ds:=(((pre.filter fun t=>zef t.1.2).map fun t=>t.1.1)).map zbf) (d:=zbf r) (fr:=false) rfl rfl ?_))),.pl (.int (i:Nat)),.pl (zbf r),?_⟩
    ·rw [qC,qC]
     exact qAl (qAk _ _) (by omega)
    ·rw [show ([((r,d),i)].filter fun t:(Rule×PyData)×Nat=>zef t.1.2)=[((r,d),i)] by rw [qBj];simp [hn]]
     show [_,_,_,_,_,_,_,_,_]=[_,_,_,_,_,_,_,_,_]
     unfold zaj
     rw [qAJ]
     rfl)
 have enr:((rs.zip gs).zipIdx.filter fun t=>zef t.1.2).map (fun t=>t.1.1)=zge W (fitL W rs c):=by
  rw [← nr]
  have:zdd rs gs=(((rs.zip gs).zipIdx.map Prod.fst).filter fun z=>zef z.2).map (·.1):=by rw [qBt];rfl
  rw [this,List.filter_map,qAi];rfl
 rw [enr] at lp
 generalize hN:zge W (fitL W rs c)=N at lp
 have hNm:∀ r∈N,r∈rs:=fun r hr=>by rw [← hN] at hr;exact znt r (zkb.mp hr).1
 have hNl:N.length<300:=by
  rw [← hN]
  exact qAl (qAW (qAk _ _) (qAk _ _)) hrl
 have hNn:∀ r∈N,(N.any fun q=>zgx W q.2 r.2)=false:=fun r hr=>by
  refine qA8.mpr fun q hq hb=>?_
  rw [← hN] at hr hq
  rw [(zkb.mp hr).2 q (zkb.mp hq).1] at hb
  cases hb
 obtain ⟨env2,lp2,s7,s8,rfl⟩:=zem (enc:=zbf) (g:=gT 2 (zao 7 (zao 8 zce))) (l:=N) (env:=[.pl (.dict (dS zae (ups W))),.pl (zaj rs),.pl (zaq c),.pl (.list gs),.pl (zaj N),s5,s6,.no,.no])
  (body:=(sIf (tTru (eCB (anyD fun bs=>bs.any id) (zab (zda ["_law_one", "_law_other"] [0,8] (zaw (eVar 4)) (gT 2 (zao 0 (zao 1 zce))) zcw (eAnd (eOp neD (eVar 1) (eVar 3)) (zay 3 zcd (zab (eVar 2) (zab (eVar 3) (zab (eVar 1) aNil)))))) aNil))) (sRet (eC .none)) sNil))
  (fun _ env=>∃ s7 s8,env=[.pl (.dict (dS zae (ups W))),.pl (zaj rs),.pl (zaq c),.pl (.list gs),.pl (zaj N),s5,s6,s7,s8]) ⟨_,_,rfl⟩ (by
   rintro pre r post env hp ⟨s7,s8,rfl⟩
   have hr:r∈N:=by rw [← hp];simp
   have hrr:=hNm r hr
   have cm2:zdy (gT 2 (zao 0 (zao 1 zce))) zcw (eAnd (eOp neD (eVar 1) (eVar 3)) (zay 3 zcd (zab (eVar 2) (zab (eVar 3) (zab (eVar 1) aNil))))) [.no,.no,.pl (.dict (dS zae (ups W))),.pl (zan r.2)] (N.map zbf)=some (N.map fun q=>.bool (zgx W q.2 r.2)):=by
    refine zdg (enc:=zbf) (out:=fun q=>.bool (zgx W q.2 r.2)) fun q hq=>⟨[.pl (.str q.1),.pl (zan q.2),.pl (.dict (dS zae (ups W))),.pl (zan r.2)],rfl,rfl,vb (zgx W q.2 r.2),?_,rfl⟩
    have hqr:=hNm q hq
    have e1:eOp neD (eVar 1) (eVar 3) [.pl (.str q.1),.pl (zan q.2),.pl (.dict (dS zae (ups W))),.pl (zan r.2)]=some (vb (!(q.2==r.2))):=by
     show ((neD (zan q.2) (zan r.2)).bind fun z=>some (⟨z.1,z.2,bsOf z.1 ([]++[])⟩:Val))=_
     rw [zaee (b.rul.low q hqr) (b.rul.low r hrr)];rfl
    have e2:zay 3 zcd (zab (eVar 2) (zab (eVar 3) (zab (eVar 1) aNil))) [.pl (.str q.1),.pl (zan q.2),.pl (.dict (dS zae (ups W))),.pl (zan r.2)]=some (vb (geB W q.2 r.2)):=zbg (n:=3) (rs:=[⟨.dict (dS zae (ups W)),false,[]⟩,⟨zan r.2,false,[]⟩,⟨zan q.2,false,[]⟩]) rfl rfl (ztq b hqr hrr)
    unfold eAnd
    rw [e1,e2,zaeh]
    cases q.2==r.2<;>rfl
   have an:tTru (eCB (anyD fun bs=>bs.any id) (zab (zda ["_law_one", "_law_other"] [0,8] (zaw (eVar 4)) (gT 2 (zao 0 (zao 1 zce))) zcw (eAnd (eOp neD (eVar 1) (eVar 3)) (zay 3 zcd (zab (eVar 2) (zab (eVar 3) (zab (eVar 1) aNil)))))) aNil)) [.pl (.dict (dS zae (ups W))),.pl (zaj rs),.pl (zaq c),.pl (.list gs),.pl (zaj N),s5,s6,.pl (.str r.1),.pl (zan r.2)]=some false:=by
    unfold tTru
    rw [zajs (f:=fun q:Rule=>zgx W q.2 r.2) (zdr (own:=["_law_one", "_law_other"]) (fr:=[0,8]) (fi:=zaw (eVar 4)) (ds:=N.map zbf) (bs:=[]) rfl (by rw [qC];omega) cm2),hNn r hr]
    rfl
   exact ⟨_,_,rfl,.inl (if_f an rfl),_,_,rfl⟩)
 have ln:∀ j:Int,zbh (eOp eqD (eCB lenD (zab (eVar 4) aNil)) (eC (.int j))) [.pl (.dict (dS zae (ups W))),.pl (zaj rs),.pl (zaq c),.pl (.list gs),.pl (zaj N),s5,s6,s7,s8]=some ((N.length:Int)==j):=fun j=>by
  rw [zds (ztw (i:=((N.map zbf).length:Nat)) (j:=j) (zlg (fr:=false) (bs:=[]) rfl) rfl),qC]
 refine zdw hs (zat (if_f tl rfl) (zat s4 (zat (zjs it lp) (zat (zjs (ds:=N.map zbf) (bs:=[4]) rfl lp2) ?_))))
 match N,hNm,hNl,ln with
 | [],_,_,ln=>exact zfy (if_t (ln 0) rfl)
 | [x],_,_,ln=>exact zat (if_f (ln 0) rfl) (zfy (if_t (ln 1) rfl))
 | x::y::N,_,hNl,ln =>
  have cm3:zdy (gT 2 (zao 0 (zao 1 zce))) zcw (eVar 0) [.no,.no] ((x::y::N).map zbf)=some ((nms (x::y::N)).map .str):=by
   have:=zdg (enc:=zbf) (out:=fun q:Rule=>.str q.1) (g:=gT 2 (zao 0 (zao 1 zce))) (t:=zcw) (e:=eVar 0) (env:=[.no,.no]) (l:=x::y::N) fun q _=>⟨[.pl (.str q.1),.pl (zan q.2)],rfl,rfl,vs q.1,rfl,rfl⟩
   rw [this];unfold nms;rw [qAi];rfl
  have ar:=zdr (own:=["_law_name", "_law_kinds"]) (fr:=[]) (fi:=zaw (eVar 4)) (env:=[.pl (.dict (dS zae (ups W))),.pl (zaj rs),.pl (zaq c),.pl (.list gs),.pl (zaj (x::y::N)),s5,s6,s7,s8]) (ds:=(x::y::N).map zbf) (bs:=[]) rfl (by rw [qC];omega) cm3
  refine zat (if_f ((ln 0).trans (by rfl)) rfl) (zat (if_f ((ln 1).trans (by rfl)) rfl) (zes (bs:=[]) ?_))
  have tp:eCB zfs (zab (zda ["_law_name", "_law_kinds"] [] (zaw (eVar 4)) (gT 2 (zao 0 (zao 1 zce))) zcw (eVar 0)) aNil) [.pl (.dict (dS zae (ups W))),.pl (zaj rs),.pl (zaq c),.pl (.list gs),.pl (zaj (x::y::N)),s5,s6,s7,s8]=some ⟨.tuple ((nms (x::y::N)).map .str),false,[]⟩:=by
   unfold eCB
   rw [zdt ar,if_pos (zin _)]
   rfl
  unfold eTup
  rw [zba (r:=vs "quarrel") rfl (zdt tp)]
  rfl
theorem zafy {W:Web} {rs:List Rule} {c:List Arm} {ds:List PyData} (g:GoodP W rs c ds) (A:PyData):zakj W rs c A (.list ds)=qG A (zfw (nms (zge W (fitL W rs c)))):=by
 have e:=zvd g.len fun z hz=>(g.ok z hz).2
 show (decide (ds.length=rs.length)&&(((rs.zip ds).all fun z=>zkc W rs c z.1 z.2)&&(decide (zge W (zdd rs ds)=zdd rs ds)&&qG A (zfw (nms (zdd rs ds))))))=_
 rw [e,zakm,decide_eq_true g.len,decide_eq_true rfl,qAZ.mpr fun z hz=>(g.ok z hz).1]
 rfl
theorem zano {d:PyData} (h:ztr d):zvc d:=by
 left
 rcases h with rfl|⟨k,rfl⟩|⟨n,hn,rfl⟩
 ·decide +kernel
 ·unfold qI
  rw [qb]
  exact ⟨by show (qV "out" && true)=true;decide +kernel,rfl⟩
 ·unfold qI
  rw [qb]
  refine ⟨?_,rfl⟩
  show (qV "far" && (qV n&&true))=true
  rw [hn];decide +kernel
theorem zafz {W:Web} {rs:List Rule} {c:List Arm} (b:Bk W rs c) {ds:List PyData} (g:GoodP W rs c ds):zakk (.list ds):=fun es he=>by
 cases he
 exact ⟨fun d hd=>zano (g.item d hd),by rw [g.len];exact b.rul.len⟩
theorem zve:∀ (xs:List Str),zabe (xs.map .str)=true
 | []=>rfl
 | _::xs=>by
  show (true&&zabe (xs.map .str))=true
  rw [zve xs];rfl
theorem zare:∀ (xs:List Str),∃ ts,zfw xs=.tuple ts∧zsp (zfw xs)=true
 | []=>⟨_,rfl,rfl⟩
 | [x]=>⟨_,rfl,rfl⟩
 | x::y::xs=>⟨_,rfl,by
  show (true&&(zabe ((x::y::xs).map .str)&&true))=true
  rw [zve];rfl⟩
theorem zacf {n:Str} (h:qV n=true):qI (.tuple [.str "rule",.str n])=true:=by
 unfold qI
 rw [qb]
 refine ⟨?_,rfl⟩
 show (qV "rule" && (qV n&&true))=true
 rw [h];decide +kernel
theorem zael {f:EF} {env:DEnv} {d:PyData} {fr:Bool} {bs:List Nat} (h:f env=some ⟨d,fr,bs⟩) (hh:zsp d=true):zju f env=some ⟨d,false,[]⟩:=by
 unfold zju
 rw [h]
 show some (if zsp d=true then (⟨d,false,[]⟩:Val) else _)=_
 rw [if_pos hh]
theorem zacg {W:Web} {n:Nat} {rs:List Rule} {env:DEnv} (h:env[0]?=some (.pl (zbl W n rs))):eIxV 0 (eC (.int 2)) env=some ⟨zaj rs,false,[]⟩:=by
 have e:eVar 0 env=some ⟨zbl W n rs,false,[]⟩:=by unfold eVar;rw [h]
 unfold eIxV
 rw [h]
 show eOp ixD (eVar 0) (eC (.int 2)) env=_
 unfold eOp
 rw [e]
 rfl
theorem zavi {a b:EF} {env:DEnv} {d e:PyData} {f1 f2:Bool} {b1 b2:List Nat} (ha:a env=some ⟨d,f1,b1⟩) (hb:b env=some ⟨e,f2,b2⟩) (sd:qI d=true) (se:qI e=true):zbh (eOp neD a b) env=some (!PyData.eqv d e):=by
 refine zds ?_
 unfold eOp
 rw [ha,hb]
 show ((neD d e).bind fun z=>some (⟨z.1,z.2,bsOf z.1 (b1++b2)⟩:Val))=_
 unfold neD eqOk
 rw [sd,se,if_pos (by simp)]
 rfl
theorem zxd {W:Web} {rs:List Rule} {c:List Arm} (b:Bk W rs c):zbt [zbl W c.length rs,.dict (dS zae (ups W)),zaq c]=some (.bool true,false):=by
 obtain ⟨ds,gw,g⟩:=zavh b
 have ga:=zaag b g
 have hP:=zafz b g
 have hrl:=b.rul.len
 have go:=zabx b.web b.rul b.cal
 have sA:qI (zfw (nms (zge W (fitL W rs c))))=true:=zor (b.lows fun x hx=>znt x (zkb.mp hx).1)
 have gs:=fun (A:PyData) (hA:qI A=true)=>zard b hA hP
 obtain ⟨ts,et,hh⟩:=zare (nms (zge W (fitL W rs c)))
 have go':zgd [zbl W c.length rs,zaq c]=some (zfw (nms (zge W (fitL W rs c))),false):=go
 have sg:=zafy g
 generalize hAn:zfw (nms (zge W (fitL W rs c)))=An at ga sA et hh go' sg
 have sL:qI (.list ts)=true:=by rw [et] at sA;exact sA
 have e3:sSet 3 (zay 2 zabf (zab (eVar 0) (zab (eVar 2) aNil))) [.pl (zbl W c.length rs),.pl (.dict (dS zae (ups W))),.pl (zaq c),.no,.no,.no,.no]=some (.nx [.pl (zbl W c.length rs),.pl (.dict (dS zae (ups W))),.pl (zaq c),.ac (.list ds),.no,.no,.no]) :=
  zcq (r:=⟨.list ds,true,[]⟩) (zbg (n:=2) (rs:=[⟨zbl W c.length rs,false,[]⟩,⟨zaq c,false,[]⟩]) rfl rfl gw)
 have e4:sSet 4 (zju (zay 4 zfm (zab (eVar 1) (zab (eIxV 0 (eC (.int 2))) (zab (eVar 2) (zab (eVar 3) aNil)))))) [.pl (zbl W c.length rs),.pl (.dict (dS zae (ups W))),.pl (zaq c),.ac (.list ds),.no,.no,.no]=some (.nx [.pl (zbl W c.length rs),.pl (.dict (dS zae (ups W))),.pl (zaq c),.ac (.list ds),.pl An,.no,.no]) :=
  zcq (r:=⟨An,false,[]⟩) (zael (zbg (n:=4) (rs:=[⟨.dict (dS zae (ups W)),false,[]⟩,⟨zaj rs,false,[]⟩,⟨zaq c,false,[]⟩,⟨.list ds,false,[3]⟩]) (zba rfl (zba (zacg rfl) (zba rfl (zdt rfl)))) rfl ga) hh)
 have i4:sIf (tOrF (zbh (eIsN false (eVar 4))) (tOrF (zbh (eOp neD (zay 2 zgd (zab (eVar 0) (zab (eVar 2) aNil))) (eVar 4))) (zbh (eOp (isCD true) (zay 4 zjm (zab (eVar 0) (zab (eVar 2) (zab (eVar 4) (zab (eVar 3) aNil))))) (eC (.bool true)))))) (sRet (eC (.bool false))) sNil [.pl (zbl W c.length rs),.pl (.dict (dS zae (ups W))),.pl (zaq c),.ac (.list ds),.pl An,.no,.no]=some (.nx [.pl (zbl W c.length rs),.pl (.dict (dS zae (ups W))),.pl (zaq c),.ac (.list ds),.pl An,.no,.no]):=by
  refine if_f ?_ rfl
  have t1:zbh (eIsN false (eVar 4)) [.pl (zbl W c.length rs),.pl (.dict (dS zae (ups W))),.pl (zaq c),.ac (.list ds),.pl An,.no,.no]=some false:=by rw [et];rfl
  have t2:=zaud (a:=zay 2 zgd (zab (eVar 0) (zab (eVar 2) aNil))) (b:=eVar 4) (env:=[.pl (zbl W c.length rs),.pl (.dict (dS zae (ups W))),.pl (zaq c),.ac (.list ds),.pl An,.no,.no]) (zbg (n:=2) (rs:=[⟨zbl W c.length rs,false,[]⟩,⟨zaq c,false,[]⟩]) rfl rfl go') rfl sA
  have g3:=gs An sA
  rw [sg An,qBe _ (qAU sA)] at g3
  have t3:=zds (zatr (neg:=true) (c:=true) (a:=zay 4 zjm (zab (eVar 0) (zab (eVar 2) (zab (eVar 4) (zab (eVar 3) aNil))))) (env:=[.pl (zbl W c.length rs),.pl (.dict (dS zae (ups W))),.pl (zaq c),.ac (.list ds),.pl An,.no,.no]) (zbg (n:=4) (rs:=[⟨zbl W c.length rs,false,[]⟩,⟨zaq c,false,[]⟩,⟨An,false,[]⟩,⟨.list ds,false,[3]⟩]) rfl rfl g3))
  unfold tOrF
  rw [t1,t2,t3]
  rfl
 have e5:sSet 5 (eLst (zab (eTup (zab (eC (.str "none")) aNil)) (zab (eTup (zab (eC (.str "rule")) (zab (eC (.str "a")) aNil))) (zab (eTup (zab (eC (.str "quarrel")) (zab (eTup (zab (eC (.str "a")) (zab (eC (.str "b")) aNil))) aNil))) (zab (eCB zrx (zab (eVar 4) aNil)) (zab (eC .none) aNil)))))) [.pl (zbl W c.length rs),.pl (.dict (dS zae (ups W))),.pl (zaq c),.ac (.list ds),.pl An,.no,.no]=some (.nx [.pl (zbl W c.length rs),.pl (.dict (dS zae (ups W))),.pl (zaq c),.ac (.list ds),.pl An,.ac (.list [.tuple [.str "none"],.tuple [.str "rule",.str "a"],.tuple [.str "quarrel",.tuple [.str "a",.str "b"]],.list ts,.none]),.no]):=by
  rw [et];rfl
 have it:zaw (eOp addD (eVar 5) (zda ["_law_name", "_law_kinds"] [] (zaw (eIxV 0 (eC (.int 2)))) (gT 2 (zao 0 (zao 1 zce))) zcw (eTup (zab (eC (.str "rule")) (zab (eVar 0) aNil))))) [.pl (zbl W c.length rs),.pl (.dict (dS zae (ups W))),.pl (zaq c),.ac (.list ds),.pl An,.ac (.list [.tuple [.str "none"],.tuple [.str "rule",.str "a"],.tuple [.str "quarrel",.tuple [.str "a",.str "b"]],.list ts,.none]),.no]=some (([.tuple [.str "none"],.tuple [.str "rule",.str "a"],.tuple [.str "quarrel",.tuple [.str "a",.str "b"]],.list ts,.none]++rs.map fun r=>.tuple [.str "rule",.str r.1]),[5]):=by
  have cm:zdy (gT 2 (zao 0 (zao 1 zce))) zcw (eTup (zab (eC (.str "rule")) (zab (eVar 0) aNil))) [.no,.no] (rs.map zbf)=some (rs.map fun r=>.tuple [.str "rule",.str r.1]) :=
   zdg fun r _=>⟨[.pl (.str r.1),.pl (zan r.2)],rfl,rfl,⟨.tuple [.str "rule",.str r.1],false,[]⟩,rfl,rfl⟩
  have it0:zaw (eIxV 0 (eC (.int 2))) [.pl (zbl W c.length rs),.pl (.dict (dS zae (ups W))),.pl (zaq c),.ac (.list ds),.pl An,.ac (.list [.tuple [.str "none"],.tuple [.str "rule",.str "a"],.tuple [.str "quarrel",.tuple [.str "a",.str "b"]],.list ts,.none]),.no]=some (rs.map zbf,[]):=by
   unfold zaw
   rw [zacg rfl];rfl
  have ec:=zdr (own:=["_law_name", "_law_kinds"]) (fr:=[]) it0 (by rw [qC];omega) cm
  have hb:(if zfq (rs.map fun r=>PyData.tuple [.str "rule",.str r.1])=true then ([]:List Nat) else []++capA [] [.pl (zbl W c.length rs),.pl (.dict (dS zae (ups W))),.pl (zaq c),.ac (.list ds),.pl An,.ac (.list [.tuple [.str "none"],.tuple [.str "rule",.str "a"],.tuple [.str "quarrel",.tuple [.str "a",.str "b"]],.list ts,.none]),.no])=[]:=by split<;>rfl
  rw [hb] at ec
  have ea:eOp addD (eVar 5) (zda ["_law_name", "_law_kinds"] [] (zaw (eIxV 0 (eC (.int 2)))) (gT 2 (zao 0 (zao 1 zce))) zcw (eTup (zab (eC (.str "rule")) (zab (eVar 0) aNil)))) [.pl (zbl W c.length rs),.pl (.dict (dS zae (ups W))),.pl (zaq c),.ac (.list ds),.pl An,.ac (.list [.tuple [.str "none"],.tuple [.str "rule",.str "a"],.tuple [.str "quarrel",.tuple [.str "a",.str "b"]],.list ts,.none]),.no]=some ⟨.list ([.tuple [.str "none"],.tuple [.str "rule",.str "a"],.tuple [.str "quarrel",.tuple [.str "a",.str "b"]],.list ts,.none]++rs.map fun r=>.tuple [.str "rule",.str r.1]),true,[5]⟩:=by
   show (Option.bind (zda ["_law_name", "_law_kinds"] [] (zaw (eIxV 0 (eC (.int 2)))) (gT 2 (zao 0 (zao 1 zce))) zcw (eTup (zab (eC (.str "rule")) (zab (eVar 0) aNil))) _) fun y=>(addD (.list [.tuple [.str "none"],.tuple [.str "rule",.str "a"],.tuple [.str "quarrel",.tuple [.str "a",.str "b"]],.list ts,.none]) y.d).bind fun z=>some (⟨z.1,z.2,bsOf z.1 ([5]++y.bs)⟩:Val))=_
   rw [ec]
   show ((if 5+(rs.map fun r=>PyData.tuple [.str "rule",.str r.1]).length≤100000 then some (PyData.list ([.tuple [.str "none"],.tuple [.str "rule",.str "a"],.tuple [.str "quarrel",.tuple [.str "a",.str "b"]],.list ts,.none]++rs.map fun r=>.tuple [.str "rule",.str r.1]),true) else none).bind fun z=>some (⟨z.1,z.2,bsOf z.1 ([5]++[])⟩:Val))=_
   rw [if_pos (by rw [qC];omega)]
   rfl
  show (Option.bind (eOp addD (eVar 5) _ _) fun r=>(zgy r.d).map fun ds=>(ds,r.bs))=_
  rw [ea]
  rfl
 have shO:∀ A∈([.tuple [.str "none"],.tuple [.str "rule",.str "a"],.tuple [.str "quarrel",.tuple [.str "a",.str "b"]],.list ts,.none]++rs.map fun r=>PyData.tuple [.str "rule",.str r.1]:List PyData),qI A=true:=by
  intro A hA
  rcases qAA.mp hA with hA|hA
  ·simp only [qe,qAX,or_false] at hA
   rcases hA with rfl|rfl|rfl|rfl|rfl
   ·decide +kernel
   ·decide +kernel
   ·decide +kernel
   ·exact sL
   ·decide +kernel
  ·obtain ⟨r,hr,rfl⟩:=qAa.mp hA
   exact zacf (b.low r hr)
 generalize ([.tuple [.str "none"],.tuple [.str "rule",.str "a"],.tuple [.str "quarrel",.tuple [.str "a",.str "b"]],.list ts,.none]++rs.map fun r=>PyData.tuple [.str "rule",.str r.1]:List PyData)=Os at it shO
 generalize hOt:PyData.list [.tuple [.str "none"],.tuple [.str "rule",.str "a"],.tuple [.str "quarrel",.tuple [.str "a",.str "b"]],.list ts,.none]=Ot at e5 it
 obtain ⟨env',lp,s6,rfl⟩:=zem (enc:=fun d:PyData=>d) (g:=gN 6) (l:=Os) (env:=[.pl (zbl W c.length rs),.pl (.dict (dS zae (ups W))),.pl (zaq c),.ac (.list ds),.pl An,.pl Ot,.no])
  (body:=sIf (zij (zbh (eOp neD (eVar 6) (eVar 4))) (zbh (eOp (isCD true) (zay 4 zjm (zab (eVar 0) (zab (eVar 2) (zab (eVar 6) (zab (eVar 3) aNil))))) (eC (.bool false))))) (sRet (eC (.bool false))) sNil)
  (fun _ env=>∃ s6,env=[.pl (zbl W c.length rs),.pl (.dict (dS zae (ups W))),.pl (zaq c),.ac (.list ds),.pl An,.pl Ot,s6]) ⟨_,rfl⟩ (by
   rintro pre A post env hp ⟨s6,rfl⟩
   have hA:=shO A (by rw [← hp];simp)
   have t1:=zavi (a:=eVar 6) (b:=eVar 4) (env:=[.pl (zbl W c.length rs),.pl (.dict (dS zae (ups W))),.pl (zaq c),.ac (.list ds),.pl An,.pl Ot,.pl A]) rfl rfl hA sA
   have g3:=gs A hA
   rw [sg A] at g3
   have t3:=zds (zatr (neg:=true) (c:=false) (a:=zay 4 zjm (zab (eVar 0) (zab (eVar 2) (zab (eVar 6) (zab (eVar 3) aNil))))) (env:=[.pl (zbl W c.length rs),.pl (.dict (dS zae (ups W))),.pl (zaq c),.ac (.list ds),.pl An,.pl Ot,.pl A]) (zbg (n:=4) (rs:=[⟨zbl W c.length rs,false,[]⟩,⟨zaq c,false,[]⟩,⟨A,false,[]⟩,⟨.list ds,false,[3]⟩]) rfl rfl g3))
   refine ⟨[.pl (zbl W c.length rs),.pl (.dict (dS zae (ups W))),.pl (zaq c),.ac (.list ds),.pl An,.pl Ot,.pl A],_,rfl,.inl (if_f ?_ rfl),_,rfl⟩
   unfold zij
   rw [t1,t3]
   cases qG A An<;>rfl)
 have lp':sFor (zaw (eOp addD (eVar 5) (zda ["_law_name", "_law_kinds"] [] (zaw (eIxV 0 (eC (.int 2)))) (gT 2 (zao 0 (zao 1 zce))) zcw (eTup (zab (eC (.str "rule")) (zab (eVar 0) aNil)))))) (gN 6) (sIf (zij (zbh (eOp neD (eVar 6) (eVar 4))) (zbh (eOp (isCD true) (zay 4 zjm (zab (eVar 0) (zab (eVar 2) (zab (eVar 6) (zab (eVar 3) aNil))))) (eC (.bool false))))) (sRet (eC (.bool false))) sNil) [.pl (zbl W c.length rs),.pl (.dict (dS zae (ups W))),.pl (zaq c),.ac (.list ds),.pl An,.ac Ot,.no]=some (.nx [.pl (zbl W c.length rs),.pl (.dict (dS zae (ups W))),.pl (zaq c),.ac (.list ds),.pl An,.pl Ot,s6]):=by
  refine zjs it ?_
  rw [List.map_id'] at lp
  exact lp
 have e7:sApp 3 (eTup (zab (eC (.str "near")) aNil)) [.pl (zbl W c.length rs),.pl (.dict (dS zae (ups W))),.pl (zaq c),.ac (.list ds.reverse),.pl An,.pl Ot,s6]=some (.nx [.pl (zbl W c.length rs),.pl (.dict (dS zae (ups W))),.pl (zaq c),.ac (.list (ds.reverse++[.tuple [.str "near"]])),.pl An,.pl Ot,s6]) :=
  zmu (d:=.tuple [.str "near"]) (fr:=false) rfl rfl (by rw [qCz,g.len];omega)
 have e8:eOp eqD (zju (zay 4 zfm (zab (eVar 1) (zab (eIxV 0 (eC (.int 2))) (zab (eVar 2) (zab (zay 2 zabf (zab (eVar 0) (zab (eVar 2) aNil))) aNil)))))) (eVar 4) [.pl (zbl W c.length rs),.pl (.dict (dS zae (ups W))),.pl (zaq c),.ac (.list (ds.reverse++[.tuple [.str "near"]])),.pl An,.pl Ot,s6]=some (vb true) :=
  zavg (zael (zbg (n:=4) (rs:=[⟨.dict (dS zae (ups W)),false,[]⟩,⟨zaj rs,false,[]⟩,⟨zaq c,false,[]⟩,⟨.list ds,true,[]⟩]) (zba rfl (zba (zacg rfl) (zba rfl (zdt (zbg (n:=2) (rs:=[⟨zbl W c.length rs,false,[]⟩,⟨zaq c,false,[]⟩]) rfl rfl gw))))) rfl ga) hh) rfl sA
 exact zdw (env:=[.pl (zbl W c.length rs),.pl (.dict (dS zae (ups W))),.pl (zaq c),.no,.no,.no,.no]) rfl (zat e3 (zat e4 (zat i4 (zat e5 (zat lp' (zat rfl (zat e7 (zes (bs:=[]) e8))))))))
theorem zach {W:Web} {p:Nat} {rs:List Rule} (h:WebOk W) (lo:∀ x∈nm W,Low x) (lr:∀ r∈rs,qV r.1=true∧LowS r.2):qI (zbl W p rs)=true:=by
 obtain ⟨w1,w2⟩:=zadn W (zaqt h lo)
 obtain ⟨r1,r2⟩:=ztp rs lr
 unfold qI zbl
 rw [qb]
 refine ⟨?_,decide_eq_true ?_⟩
 ·show (qv (W.map rowD)&&(true&&(qv (rs.map zbf)&&true)))=true
  rw [w1,r1];rfl
 ·show max (qk (W.map rowD)+1) (max 0 (max (qk (rs.map zbf)+1) 0))+1≤64
  omega
end Bc
namespace L2
open PySem PySem.Spec PyProof.Rows
noncomputable def plS:Sl→Sl
 | .ac d=>.pl d
 | s=>s
noncomputable def plE (env:DEnv):DEnv:=env.map plS
theorem zaem {env:DEnv} {i:Nat} {d:PyData}:(plE env)[i]?≠some (.ac d):=by
 unfold plE
 rw [qR]
 cases e:env[i]? with
 | none=>intro z;cases z
 | some s=>cases s<;>(intro z;cases z)
theorem zaui {env:DEnv} {σ:St} (hn:∀ (i:Nat) (d:PyData),env[i]?≠some (.ac d)) {a:Addr}:¬ own env σ a:=fun ⟨i,d,e,_⟩=>hn i d e
theorem zarf {fx:Addr→Prop} {env:DEnv} {σ:St} {H:Hp} (hl:env.length=σ.length) (hn:∀ (i:Nat) (d:PyData),env[i]?≠some (.ac d))
  (hp:∀ (i:Nat) (d:PyData),env[i]?=some (.pl d)→∃ v,σ[i]?=some (some v)∧Rp (Offs fx H) d v) (hf:∀ b,fx b→∃ o,H b=some o):EnvOk fx H env σ H :=
 ⟨hl,fun i d e=>let ⟨v,a,b⟩:=hp i d e;⟨v,a,Rp.same (Offs.sub fun b z=>z.elim id fun o=>absurd o (zaui hn)) d b⟩,fun i d e=>absurd e (hn i d),fun i _ d _ _ x=>absurd x (hn i d),Same.refl _,hf⟩
theorem EnvOk.plAll {fx:Addr→Prop} {H0:Hp} {env:DEnv} {σ:St} {H:Hp} (h:EnvOk fx H0 env σ H):∀ (i:Nat) (d:PyData),(plE env)[i]?=some (.pl d)→∃ v,σ[i]?=some (some v)∧Rp (Offs fx H) d v:=by
 intro i d e
 unfold plE at e
 rw [qR] at e
 cases e1:env[i]? with
 | none=>rw [e1] at e;cases e
 | some s =>
  rw [e1] at e
  cases s with
  | no=>cases e
  | pl d' =>
   cases e
   obtain ⟨v,h1,h2⟩:=h.pl i d e1
   exact ⟨v,h1,Rp.same (Offs.sub fun b z=>.inl z) _ h2⟩
  | ac d' =>
   cases e
   obtain ⟨a,h1,h2,h3,h4⟩:=h.ac i d e1
   exact ⟨_,h1,h4.rp (Offs.sub fun b z=>.inl z) fun o eo=>by rw [Offs.get h3];exact eo⟩
noncomputable def noA (as:List Nat) (env:DEnv):DEnv:=as.foldl (fun e i=>e.set i .no) env
theorem zarg (as:List Nat):∀ (env:DEnv),(noA as env).length=env.length:=by
 induction as with
 | nil=>intro env;rfl
 | cons i as ih=>intro env;show (noA as (env.set i .no)).length=_;rw [ih,qAB]
theorem zakr (as:List Nat):∀ {env:DEnv} {i:Nat} {s:Sl},(noA as env)[i]?=some s→s=.no∨(i∉as∧env[i]?=some s):=by
 induction as with
 | nil=>intro env i s e;exact .inr ⟨by simp,e⟩
 | cons j as ih =>
  intro env i s e
  rcases ih (env:=env.set j .no) e with z|⟨n,z⟩
  ·exact .inl z
  ·rcases zdq z with ⟨_,y⟩|⟨hn,y⟩
   ·exact .inl y
   ·exact .inr ⟨fun m=>(qe.mp m).elim hn n,y⟩
noncomputable def zaci (h:Nat) (as:List Nat) (f1 f2 f3:EF) (R1:SF) (c:TF) (ix:EF) (R2:SF):SF:=fun env =>
 (f1 (plE env)).bind fun r1=>(f2 (plE env)).bind fun r2=>(f3 (plE env)).bind fun r3=>match r3.d with
 | .list ds=>if r3.fr=true∧h∉as then (R1 ((plE env).set h (.pl (.tuple [r1.d,r2.d,.list ds])))).bind fun o=>match o with
  | .nx e=>if e.length=env.length∧h<env.length then (c e).bind fun b=>if b=true then (ix e).bind fun z=>(match z.d with
    | .int k=>if 0≤k∧k<100000∧k.toNat<ds.length then R2 ((noA as (plE env)).set h (.pl (.tuple [r1.d,r2.d,.list (ds.eraseIdx k.toNat)]))) else none
    | _=>none) else R2 ((noA as (plE env)).set h (.pl (.tuple [r1.d,r2.d,.list ds]))) else none
  | .rt d fr=>some (.rt d fr)
  | _=>none else none
 | _=>none
theorem Sat.unbase {fx:Addr→Prop} {H0 F:Hp} {D:Ends} {o:Out} (q:Sat fx H0 D o) (s:Same H0 F):Sat fx F D o:=by
 cases o with
 | nx env=>exact fun σ H h=>q σ H (h.unbase s)
 | bk env=>exact fun σ H h=>q σ H (h.unbase s)
 | ct env=>exact fun σ H h=>q σ H (h.unbase s)
 | rt d fr=>exact fun v H sh r=>q v H (s.trans sh) (r.unbase s)
theorem zarh {K:qB} {h:Nat} {as:List Nat} {f1 f2 f3 ix:EF} {R1 R2:SF} {c:TF} {te1 te2 te3 tix:TE} {t1 t2:TS} {tc:TT} (s1:SE te1 f1) (s2:SE te2 f2) (s3:SE te3 f3) (r1:SSk (fun j=>j∉as) t1 R1) (sc:ST tc c) (si:SE tix ix) (r2:SS t2 R2) :
  SS (tSeq (tAsg (tTup (tCons te1 (tCons te2 (tCons te3 tNil)))) (gName h)) (tSeq t1 (tSeq (tIfS tc (tDrop (tBM K "list" zacr (tOp (rIxU K) (tVar h) (tC (.int 2))) (tCons tix tNil))) tNext) t2))) (zaci h as f1 f2 f3 R1 c ix R2):=by
 intro fx H0 env σ H D hE o e q
 unfold zaci at e
 obtain ⟨x1,e1,e⟩:=qA.mp e
 obtain ⟨x2,e2,e⟩:=qA.mp e
 obtain ⟨⟨d3,f3',b3⟩,e3,e⟩:=qA.mp e
 cases d3 with
 | list ds =>
  have ee:(if f3'=true∧h∉as then (R1 ((plE env).set h (.pl (.tuple [x1.d,x2.d,.list ds])))).bind fun o=>match o with
   | .nx e=>if e.length=env.length∧h<env.length then (c e).bind fun b=>if b=true then (ix e).bind fun z=>(match z.d with
     | .int k=>if 0≤k∧k<100000∧k.toNat<ds.length then R2 ((noA as (plE env)).set h (.pl (.tuple [x1.d,x2.d,.list (ds.eraseIdx k.toNat)]))) else none
     | _=>none) else R2 ((noA as (plE env)).set h (.pl (.tuple [x1.d,x2.d,.list ds]))) else none
   | .rt d fr=>some (.rt d fr)
   | _=>none else none)=some o:=e
  clear e
  split at ee
  ·rename_i hh
   obtain ⟨rfl,hha⟩:=hh
   obtain ⟨o1,eo1,eo⟩:=qA.mp ee
   have pl0:=hE.plAll
   have plen:(plE env).length=σ.length:=by unfold plE;rw [qC];exact hE.len
   have hE0:EnvOk fx H (plE env) σ H:=zarf plen (fun i d=>zaem) pl0 hE.fxs
   have nolim:∀ (bs:List Nat) (b:Addr),lim fx (plE env) σ bs b→fx b:=fun bs b z=>z.elim id fun ⟨i,d,_,y,_⟩=>absurd y zaem
   refine s1 fx H (plE env) σ H hE0 x1 e1 _ fun v1 H1 g1 k1=>s2 fx H (plE env) σ H1 (hE0.up g1) x2 e2 _ fun v2 H2 g2 k2=>s3 fx H (plE env) σ H2 (hE0.up (g1.trans g2)) _ e3 _ fun v3 H3 g3 k3=>⟨by show 3≤_;exact zib (by decide),fun T hT=>?_⟩
   obtain ⟨L,rfl,nL,xs,hL,rL⟩:=k3.fr rfl
   have fxL:¬ fx L:=fun z=>by obtain ⟨u,eu⟩:=hE.fxs L z;rw [(g1.trans g2) _ _ eu] at nL;cases nL
   have fxT:¬ fx T:=fun z=>by obtain ⟨u,eu⟩:=hE.fxs T z;rw [((g1.trans g2).trans g3) _ _ eu] at hT;cases hT
   have hLT:T≠L:=fun z=>by rw [z,hL] at hT;cases hT
   have gT:Same H3 (upd H3 T (.tup [v1,v2,.ref L])):=Same.new hT
   have rp1:Rp (Offs fx H1) x1.d v1:=Rp.same (Offs.sub fun b z=>.inl z) _ k1.rp
   have rp2:Rp (Offs fx H2) x2.d v2:=Rp.same (Offs.sub fun b z=>.inl z) _ k2.rp
   have rL':Rps (Offs (fun b=>fx b∨b=L) H3) ds xs:=Rps.same (Offs.sub fun b z=>z.imp (fun y=>.inl y) id) _ rL
   have env_at:∀ (σ':St) (HH:Hp) (es:List PyData) (ys:List V),σ'.length=σ.length→(∀ b o,b≠L→(upd H3 T (.tup [v1,v2,.ref L])) b=some o→HH b=some o)→HH L=some (.lst ys)→Rps (Offs (fun b=>fx b∨b=L) H3) es ys →
     (∀ j,j∉as→σ'[j]?=(σ.set h (some (.ref T)))[j]?)→h<σ.length→Same H HH∧EnvOk fx HH ((noA as (plE env)).set h (.pl (.tuple [x1.d,x2.d,.list es]))) σ' HH:=by
    intro σ' HH es ys hl hs hy ry hk hh
    have sub:∀ (A:Hp),(∀ b o,A b=some o→b≠L∧(upd H3 T (.tup [v1,v2,.ref L])) b=some o)→Same A HH:=fun A z b o ee=>hs b o (z b o ee).1 (z b o ee).2
    have s2':Same H2 HH:=sub H2 fun b o ee=>⟨fun z=>(by rw [z,nL] at ee;cases ee),gT _ _ (g3 _ _ ee)⟩
    have s1':Same H1 HH:=g2.trans s2'
    have s0':Same H HH:=g1.trans s1'
    have s3':Same (Offs (fun b=>fx b∨b=L) H3) (Offs fx HH):=fun b o ee=>by
     obtain ⟨n,ee⟩:=Offs.of ee
     rw [Offs.get fun z=>n (.inl z)]
     exact hs b o (fun z=>n (.inr z)) (gT _ _ ee)
    refine ⟨s0',zarf (by rw [qAB,zarg];unfold plE;rw [qC,hE.len,hl]) (fun i d z=>?_) (fun i d z=>?_) fun b z=>let ⟨u,eu⟩:=hE.fxs b z;⟨u,s0' _ _ eu⟩⟩
    ·rcases zdq z with ⟨_,y⟩|⟨_,y⟩
     ·cases y
     ·rcases zakr as y with y|⟨_,y⟩
      ·cases y
      ·exact zaem y
    ·rcases zdq z with ⟨rfl,y⟩|⟨hn,y⟩
     ·cases y
      refine ⟨.ref T,by rw [hk i hha,qAD hh],znf (by rw [Offs.get fxT];exact hs T _ hLT zbp) (zdi (Rp.same (Offs.grow s1') _ rp1) (zdi (Rp.same (Offs.grow s2') _ rp2) (zdi (zhb (by rw [Offs.get fxL];exact hy) (Rps.same s3' _ ry)) zed)))⟩
     ·rcases zakr as y with y|⟨na,y⟩
      ·cases y
      ·obtain ⟨v,w1,w2⟩:=pl0 i d y
       exact ⟨v,by rw [hk i na,q9 fun z=>hn z.symm];exact w1,Rp.same (Offs.grow s0') _ w2⟩
   have hlt:h<σ.length∨¬ h<σ.length:=Nat.lt_or_ge h σ.length |>.imp id Nat.not_lt.mpr
   have Hs:Same H (upd H3 T (.tup [v1,v2,.ref L])):=((g1.trans g2).trans g3).trans gT
   have hE1:EnvOk fx (upd H3 T (.tup [v1,v2,.ref L])) ((plE env).set h (.pl (.tuple [x1.d,x2.d,.list ds]))) (σ.set h (some (.ref T))) (upd H3 T (.tup [v1,v2,.ref L])):=by
    refine zarf (by rw [qAB,qAB];exact plen) (fun i d z=>?_) (fun i d z=>?_) fun b z=>let ⟨u,eu⟩:=hE.fxs b z;⟨u,Hs _ _ eu⟩
    ·rcases zdq z with ⟨_,y⟩|⟨_,y⟩
     ·cases y
     ·exact zaem y
    ·rcases zdq z with ⟨rfl,y⟩|⟨hn,y⟩
     ·cases y
      have hi:i<σ.length:=by
       have:=(qN.mp z).1
       rw [qAB,plen] at this;exact this
      refine ⟨.ref T,qAD hi,znf (by rw [Offs.get fxT];exact zbp) (zdi (Rp.same (Offs.grow ((g2.trans g3).trans gT)) _ rp1) (zdi (Rp.same (Offs.grow (g3.trans gT)) _ rp2) (zdi (zhb (by rw [Offs.get fxL];exact gT _ _ hL) (Rps.same ?_ _ rL')) zed)))⟩
      exact fun b o eb=>by
       obtain ⟨n,eb⟩:=Offs.of eb
       rw [Offs.get fun z=>n (.inl z)]
       exact gT _ _ eb
     ·obtain ⟨v,w1,w2⟩:=pl0 i d y
      exact ⟨v,by rw [q9 fun z=>hn z.symm];exact w1,Rp.same (Offs.grow Hs) _ w2⟩
   refine r1 fx _ _ (σ.set h (some (.ref T))) _ _ hE1 o1 eo1 ?_
   cases o1 with
   | rt d fr=>cases eo;exact fun v HH sh rt=>q v HH (hE.base.trans (Hs.trans sh)) (rt.unbase (hE.base.trans Hs))
   | bk e'=>cases eo
   | ct e'=>cases eo
   | nx e' =>
    intro σ' H5 h5 kp
    have eo:(if e'.length=env.length∧h<env.length then (c e').bind fun b=>if b=true then (ix e').bind fun z=>(match z.d with
     | .int k=>if 0≤k∧k<100000∧k.toNat<ds.length then R2 ((noA as (plE env)).set h (.pl (.tuple [x1.d,x2.d,.list (ds.eraseIdx k.toNat)]))) else none
     | _=>none) else R2 ((noA as (plE env)).set h (.pl (.tuple [x1.d,x2.d,.list ds]))) else none)=some o:=eo
    by_cases hc:e'.length=env.length∧h<env.length
    rotate_left
    ·rw [if_neg hc] at eo;cases eo
    rw [if_pos hc] at eo
    have hhl:h<σ.length:=by rw [← hE.len];exact hc.2
    obtain ⟨bb,eb,eo⟩:=qA.mp eo
    refine sc fx _ e' σ' H5 h5 bb eb _ fun H6 g6=>?_
    have b6:Same (upd H3 T (.tup [v1,v2,.ref L])) H6:=h5.base.trans g6
    have sl:σ'.length=σ.length:=by rw [← h5.len,hc.1,hE.len]
    cases bb with
    | false =>
     refine iteF ?_
     obtain ⟨w1,w2⟩:=env_at σ' H6 ds xs sl (fun b o _ eb=>b6 _ _ eb) (b6 _ _ (gT _ _ hL)) rL' (fun j hj=>kp j hj) hhl
     exact r2 fx H6 _ σ' H6 D w2 o eo (q.unbase (hE.base.trans w1))
    | true =>
     refine iteT ?_
     obtain ⟨⟨zd,zf,zb⟩,ez,eo⟩:=qA.mp eo
     cases zd with
     | int k =>
      have eo:(if 0≤k∧k<100000∧k.toNat<ds.length then R2 ((noA as (plE env)).set h (.pl (.tuple [x1.d,x2.d,.list (ds.eraseIdx k.toNat)]))) else none)=some o:=eo
      split at eo
      ·rename_i hk
       have hlen:xs.length=ds.length:=rL'.length.symm
       have hσ:σ'[h]?=some (some (.ref T)):=(kp h hha).trans (qAD hhl)
       have hL6:=b6 _ _ (gT _ _ hL)
       refine ⟨.ref T,hσ,[v1,v2,.ref L],.ref L,.inr (SqT.of (b6 _ _ zbp)),rfl,.inl ⟨rfl,_,SqL.of hL6⟩,si fx _ e' σ' H6 (h5.up g6) _ ez _ fun v H7 g7 hv=>?_⟩
       cases zey hv.rp
       have hu:xs[k.toNat]?=some (xs[k.toNat]'(by omega)):=qE (by omega)
       refine ⟨L,xs,k,k.toNat,_,rfl,rfl,g7 _ _ hL6,by omega,by omega,qCh hk.1 (by omega),hu,?_⟩
       obtain ⟨w1,w2⟩:=env_at σ' (upd H7 L (.lst (xs.eraseIdx k.toNat))) (ds.eraseIdx k.toNat) (xs.eraseIdx k.toNat) sl (fun b o hb eb=>by rw [zcj hb];exact g7 _ _ (b6 _ _ eb)) zbp (rL'.erase _) (fun j hj=>kp j hj) hhl
       exact r2 fx _ _ σ' _ D w2 o eo (q.unbase (hE.base.trans w1))
      ·cases eo
     | _=>cases eo
  ·cases ee
 | _=>cases e
theorem zanp {K:qB} {h:Nat} {as:List Nat} {f1 f2 f3 ix:EF} {Ra Rb R2:SF} {c:TF} {te1 te2 te3 tix:TE} {ta tb t2:TS} {tc:TT} (s1:SE te1 f1) (s2:SE te2 f2) (s3:SE te3 f3) (ra:SSk (fun j=>j∉as) ta Ra) (rb:SSk (fun j=>j∉as) tb Rb) (sc:ST tc c) (si:SE tix ix) (r2:SS t2 R2) :
  SS (tSeq (tAsg (tTup (tCons te1 (tCons te2 (tCons te3 tNil)))) (gName h)) (tSeq ta (tSeq tb (tSeq (tIfS tc (tDrop (tBM K "list" zacr (tOp (rIxU K) (tVar h) (tC (.int 2))) (tCons tix tNil))) tNext) t2)))) (zaci h as f1 f2 f3 (sSeq Ra Rb) c ix R2) :=
 zarh (K:=K) s1 s2 s3 (zaqw ra rb) sc si r2
noncomputable def repD:OF
 | .list ds,.int n=>if 0≤n∧n≤100∧ds.length≤100 then some (.list (List.replicate n.toNat ds).flatten,true) else none
 | _,_=>none
theorem Rps.rep {H:Hp} {ds:List PyData} {vs:List V} (h:Rps H ds vs):∀ (n:Nat),Rps H (List.replicate n ds).flatten (List.replicate n vs).flatten
 | 0=>zed
 | n+1=>by
  rw [qAG,qAG,qA0,qA0]
  exact h.append (Rps.rep h n)
theorem zauj:SO rRep repD:=by
 intro A H x y dx dy hA rx ry d fr e Q q
 unfold repD at e
 split at e
 ·rename_i ds n
  split at e
  ·rename_i hl
   cases e
   obtain ⟨a,xs,rfl,h1,r1⟩:=zfe rx
   cases zey ry
   have hlen:=r1.length
   refine ⟨a,n,xs,rfl,rfl,zez h1,by omega,by omega,?_,fun p hp=>?_⟩
   ·refine zib ?_
    rw [← hlen]
    calc ds.length * n.toNat≤100 * 100:=Nat.mul_le_mul hl.2.2 (by omega)
     _≤100000:=by decide
   ·have r:=r1.rep n.toNat
    exact q _ _ (Same.new hp) (zxv hp (zga hA hp) r) fun _=>⟨p,rfl,hp,zrt hp r⟩
  ·cases e
 ·cases e
end L2
namespace Bc
open PySem L2
theorem zari {h:Nat} {as:List Nat} {f1 f2 f3 ix:EF} {R1 R2:SF} {c:TF} {env e0 e':DEnv} {d1 d2:PyData} {ds:List PyData} {u1 u2:Bool} {b1 b2 b3:List Nat} {o:Option Out} (h0:plE env=e0) (k1:f1 e0=some ⟨d1,u1,b1⟩) (k2:f2 e0=some ⟨d2,u2,b2⟩) (k3:f3 e0=some ⟨.list ds,true,b3⟩) (hh:h∉as)
  (kr:R1 (e0.set h (.pl (.tuple [d1,d2,.list ds])))=some (.nx e')) (hl:e'.length=env.length∧h<env.length)
  (kc:(c e'=some false∧R2 ((noA as e0).set h (.pl (.tuple [d1,d2,.list ds])))=o)∨∃ (k:Nat) (fz:Bool) (bz:List Nat),c e'=some true∧ix e'=some ⟨.int (k:Int),fz,bz⟩∧k<100000∧k<ds.length∧R2 ((noA as e0).set h (.pl (.tuple [d1,d2,.list (ds.eraseIdx k)])))=o):zaci h as f1 f2 f3 R1 c ix R2 env=o:=by
 unfold zaci
 rw [h0,k1,qD,k2,qD,k3,qD]
 show (if true=true∧h∉as then _ else none)=o
 rw [if_pos ⟨rfl,hh⟩,kr,qD]
 show (if e'.length=env.length∧h<env.length then _ else none)=o
 rw [if_pos hl]
 rcases kc with ⟨kc,k⟩|⟨k,fz,bz,kc,ki,h1,h2,kk⟩
 ·rw [kc,qD,if_neg (by decide)];exact k
 ·rw [kc,qD,if_pos rfl,ki,qD]
  show (if 0≤(k:Int)∧(k:Int)<100000∧(k:Int).toNat<ds.length then _ else none)=o
  rw [if_pos ⟨by omega,by omega,by omega⟩,qA9]
  exact kk
theorem Bk.sub {W:Web} {rs S:List Rule} {c:List Arm} (b:Bk W rs c) (hs:S.Sublist rs):Bk W S c :=
 ⟨b.web,⟨fun r hr=>b.rul.low r (hs.subset hr),fun r hr=>b.rul.kinds r (hs.subset hr),fun r hr=>b.rul.few r (hs.subset hr),qAl hs.length_le b.rul.len⟩,b.cal,⟨fun r hr=>b.ord.kinds r (hs.subset hr),fun r hr=>b.ord.size r (hs.subset hr)⟩,(hs.map _).nodup b.nd,fun r hr=>b.low r (hs.subset hr)⟩
theorem zaks (l:Str):∀ (n:Nat),(List.replicate n [PyData.str l]).flatten=(List.replicate n (Arm.one l)).map armD
 | 0=>rfl
 | n+1=>by
  rw [qAG,qAG,qA0,qZ,zaks l n];rfl
theorem zauk {f:EF} {env:DEnv} {c:List Arm} (h:f env=some ⟨.list (c.map armD),true,[]⟩):eCB zfs (zab f aNil) env=some ⟨zaq c,false,[]⟩:=by
 unfold eCB
 rw [zdt h]
 show some (⟨.tuple (c.map armD),false,bsOf (.tuple (c.map armD)) ([]++[])⟩:Val)=_
 unfold bsOf
 split<;>rfl
theorem zavj {a b:EF} {env:DEnv} {r:Val} (ha:a env=some (vb true)) (hb:b env=some r):eAnd a b env=some r:=by
 unfold eAnd
 rw [ha]
 exact hb
theorem lst1 {f:EF} {env:DEnv} {d:PyData} {fr:Bool} (h:f env=some ⟨d,fr,[]⟩):eLst (zab f aNil) env=some ⟨.list [d],true,[]⟩:=by
 unfold eLst
 rw [zdt h];rfl
theorem zarj {cs:List Int} (hl:cs.length=33):∃ a0 a1 a2,(cs.drop 4).take 3=[a0,a1,a2]:=by
 have l3:((cs.drop 4).take 3).length=3:=by rw [qAu,qAh];omega
 generalize (cs.drop 4).take 3=l at l3
 match l,l3 with
 | [a,b,c],_=>exact ⟨a,b,c,rfl⟩
noncomputable def zaah:SF:=(sSeq (sSet 2 (eOp addD (eC (.int 1)) (eOp modD (eIxV 1 (eC (.int 0))) (eC (.int 3)))))
  (sSeq (sSet 3 (zay 2 zdh (zab (eOp addD (eC (.int 1)) (eOp modD (eOp zdk (eIxV 1 (eC (.int 0))) (eC (.int 3))) (eOp ixD (eTup (zab (eC (.int 10)) (zab (eC (.int 10)) (zab (eC (.int 6)) aNil)))) (eOp subD (eVar 2) (eC (.int 1)))))) (zab (eIxV 1 (eC (.int 1))) aNil))))
  (sSeq (sSet 4 (zay 2 zle (zab (eSl (eVar 1) (zcv (eC (.int 8))) (zcv (eC (.int 18)))) (zab (eVar 3) aNil))))
  (sSeq (sSet 5 (zay 1 zog (zab (eVar 4) aNil)))
  (sSeq (sSet 6 (eOp addD (zda ["_law_cell"] [2,3] (zaw (eSl (eVar 1) (zcv (eC (.int 4))) (zcv (eC (.int 7))))) (gN 0) zcw (zay 3 zhe (zab (eVar 0) (zab (eVar 2) (zab (eVar 1) aNil))))) (eLst (zab (eCB zfs (zab (eOp repD (eLst (zab (eIxV 3 (eNeg (eC (.int 1)))) aNil)) (eVar 2)) aNil)) aNil))))
  (sSeq (sSet 7 (zay 5 zix (zab (eSl (eVar 1) (zcv (eC (.int 18))) (zcv (eC (.int 30)))) (zab (eVar 3) (zab (eVar 5) (zab (eIxV 6 (eC (.int 0))) (zab (zay 2 zdh (zab (eOp modD (eIxV 1 (eC (.int 3))) (eC (.int 13))) (zab (eIxV 1 (eC (.int 2))) aNil))) aNil)))))))
  (zaci 8 [9] (zda ["_law_name", "_law_elders"] [] (zaw (eVar 4)) (gT 2 (zao 0 (zao 1 zce))) zcw (eTup (zab (eVar 0) (zab (eCB zrx (zab (eVar 1) aNil)) aNil)))) (eVar 2) (eCB zrx (zab (eVar 7) aNil)) (sSeq (sFor (zaw (eVar 6)) (gN 9)
  (sIf (zfi (tTru (zay 3 zbt (zab (eVar 8) (zab (eVar 5) (zab (eVar 9) aNil)))))) (sRet (eC (.bool false))) sNil)) (sIf (zbh (eOp neD (eVar 8) (eTup (zab (eVar 4) (zab (eVar 2) (zab (eVar 7) aNil)))))) (sRet (eC (.bool false))) sNil)) (zbh (eOp gtD (eCB lenD (zab (eVar 7) aNil)) (eC (.int 0)))) (eOp modD (eIxV 1 (eC (.int 7))) (eCB lenD (zab (eVar 7) aNil))) (sRet (eAnd (zay 3 zbt (zab (eVar 8) (zab (eVar 5) (zab (eIxV 6 (eC (.int 1))) aNil)))) (zay 3 zbt (zab (eVar 8) (zab (eVar 5) (zab (eIxV 6 (eC (.int 0))) aNil)))))))))))))
theorem zanq {cs:List Int} (hl:cs.length=33) (h0:∀ c∈cs,0≤c):zaah (envL 8 cs)=some (.rt (.bool true) false):=by
 have L:∀ n:Nat,n<33→n<cs.length:=fun n h=>by rw [hl];exact h
 have gc:=fun (n:Nat) (hn:n<cs.length)=>h0 (cs[n]'hn) (qAY _)
 have md:∀ (z j:Int),0<j→0≤z % j∧z % j<j:=fun z j hj=>⟨qAQ z (by omega),qAV z hj⟩
 have p3:=md (cs[0]'(L _ (by decide))) 3 (by decide)
 obtain ⟨p,hp⟩:∃ p:Nat,(1:Int)+cs[0]'(L _ (by decide)) % 3=(p:Int):=⟨(1+cs[0]'(L _ (by decide)) % 3).toNat,by omega⟩
 have hpr:1≤p∧p≤3:=by omega
 have e2:(sSet 2 (eOp addD (eC (.int 1)) (eOp modD (eIxV 1 (eC (.int 0))) (eC (.int 3))))) (envL 8 cs)=some (.nx [.no,.pl (zbv cs),.pl (.int p),.no,.no,.no,.no,.no,.no,.no]):=by
  rw [zcq (zvu rfl (zid (zuj (n:=0) rfl rfl (L _ (by decide))) rfl (by decide))),hp]
  rfl
 have ev:∃ v:Int,0<v∧v≤10∧eOp ixD (eTup (zab (eC (.int 10)) (zab (eC (.int 10)) (zab (eC (.int 6)) aNil)))) (eOp subD (eVar 2) (eC (.int 1))) [.no,.pl (zbv cs),.pl (.int p),.no,.no,.no,.no,.no,.no,.no]=some (vi v):=by
  have:p=1∨p=2∨p=3:=by omega
  rcases this with rfl|rfl|rfl
  ·exact ⟨10,by decide,by decide,rfl⟩
  ·exact ⟨10,by decide,by decide,rfl⟩
  ·exact ⟨6,by decide,by decide,rfl⟩
 obtain ⟨v,v0,v10,ev⟩:=ev
 have mv:=md (cs[0]'(L _ (by decide)) / 3) v v0
 obtain ⟨xs,gx,lx,nx,lo⟩:=zqs (m:=1+cs[0]'(L _ (by decide)) / 3 % v) (c:=cs[1]'(L _ (by decide))) (by omega) (by omega) (gc 1 (L _ (by decide)))
 have hx:1≤xs.length∧xs.length≤10:=by omega
 have hne:xs≠[]:=fun z=>by rw [z] at hx;simp at hx
 have e3:(sSet 3 (zay 2 zdh (zab (eOp addD (eC (.int 1)) (eOp modD (eOp zdk (eIxV 1 (eC (.int 0))) (eC (.int 3))) (eOp ixD (eTup (zab (eC (.int 10)) (zab (eC (.int 10)) (zab (eC (.int 6)) aNil)))) (eOp subD (eVar 2) (eC (.int 1)))))) (zab (eIxV 1 (eC (.int 1))) aNil)))) [.no,.pl (zbv cs),.pl (.int p),.no,.no,.no,.no,.no,.no,.no]=some (.nx [.no,.pl (zbv cs),.pl (.int p),.ac (zae xs),.no,.no,.no,.no,.no,.no]) :=
  zcq (r:=⟨zae xs,true,[]⟩) (zbg (n:=2) (rs:=[vi (1+cs[0]'(L _ (by decide)) / 3 % v),vi (cs[1]'(L _ (by decide)))]) (zba (zvu rfl (zid (zlf (zuj (n:=0) rfl rfl (L _ (by decide))) rfl (by decide) (by decide)) ev v0)) (zdt (zuj (n:=1) rfl rfl (L _ (by decide))))) rfl gx)
 obtain ⟨W,gw,hnm,ok⟩:=zaii (cs:=(cs.drop 8).take 10) (xs:=xs) (by rw [qAu,qAh];omega) (by omega) nx
 have lo':∀ x∈nm W,Low x:=by rw [hnm];exact lo
 have e4:(sSet 4 (zay 2 zle (zab (eSl (eVar 1) (zcv (eC (.int 8))) (zcv (eC (.int 18)))) (zab (eVar 3) aNil)))) [.no,.pl (zbv cs),.pl (.int p),.ac (zae xs),.no,.no,.no,.no,.no,.no]=some (.nx [.no,.pl (zbv cs),.pl (.int p),.pl (zae xs),.ac (webD W),.no,.no,.no,.no,.no]):=by
  have es:eSl (eVar 1) (zcv (eC (.int 8))) (zcv (eC (.int 18))) [.no,.pl (zbv cs),.pl (.int p),.ac (zae xs),.no,.no,.no,.no,.no,.no]=some ⟨zbv ((cs.drop 8).take 10),true,[]⟩:=by
   rw [show eSl (eVar 1) (zcv (eC (.int 8))) (zcv (eC (.int 18))) [.no,.pl (zbv cs),.pl (.int p),.ac (zae xs),.no,.no,.no,.no,.no,.no]=some ⟨.list (cutD (cs.map .int) (some ((8:Nat):Int)) (some ((18:Nat):Int))),true,[]⟩ from rfl,zvv cs 8 18 (by omega) (by omega)]
   rfl
  exact zcq (r:=⟨webD W,true,[3]⟩) (zbg (n:=2) (rs:=[⟨zbv ((cs.drop 8).take 10),true,[]⟩,⟨zae xs,false,[3]⟩]) (zba es (zdt rfl)) rfl gw)
 have e5:(sSet 5 (zay 1 zog (zab (eVar 4) aNil))) [.no,.pl (zbv cs),.pl (.int p),.pl (zae xs),.ac (webD W),.no,.no,.no,.no,.no]=some (.nx [.no,.pl (zbv cs),.pl (.int p),.pl (zae xs),.pl (webD W),.ac (.dict (dS zae (ups W))),.no,.no,.no,.no]) :=
  zcq (r:=⟨.dict (dS zae (ups W)),true,[4]⟩) (zbg (n:=1) (rs:=[⟨webD W,false,[4]⟩]) (zdt rfl) rfl (zaly ok))
 obtain ⟨a0,a1,a2,h3⟩:=zarj hl
 have hn3:∀ a∈[a0,a1,a2],0≤a:=by
  rw [← h3]
  exact fun a ha=>h0 a (qAn (qAx ha))
 obtain ⟨c0,g0,l0,i0⟩:=zpp (xs:=xs) (c:=a0) (p:=p) (by omega) (hn3 a0 (by simp)) hpr.2
 obtain ⟨c1,g1,l1,i1⟩:=zpp (xs:=xs) (c:=a1) (p:=p) (by omega) (hn3 a1 (by simp)) hpr.2
 obtain ⟨c2,g2,l2,i2⟩:=zpp (xs:=xs) (c:=a2) (p:=p) (by omega) (hn3 a2 (by simp)) hpr.2
 obtain ⟨c3,l3,i3,ec3⟩:∃ c3:List Arm,c3.length=p∧CallIn xs c3∧(List.replicate p [PyData.str (xs.getLast hne)]).flatten=c3.map armD:=by
  refine ⟨List.replicate p (Arm.one (xs.getLast hne)),qAj,⟨fun a ha=>?_,fun a ha=>?_,fun a ha=>?_⟩,zaks _ p⟩<;>rw [(List.mem_replicate.mp ha).2]
  ·intro n hn
   rw [qAI.mp hn];exact List.getLast_mem hne
  ·show 1≤4;decide
  ·exact fun z=>by cases z
 have e6:(sSet 6 (eOp addD (zda ["_law_cell"] [2,3] (zaw (eSl (eVar 1) (zcv (eC (.int 4))) (zcv (eC (.int 7))))) (gN 0) zcw (zay 3 zhe (zab (eVar 0) (zab (eVar 2) (zab (eVar 1) aNil))))) (eLst (zab (eCB zfs (zab (eOp repD (eLst (zab (eIxV 3 (eNeg (eC (.int 1)))) aNil)) (eVar 2)) aNil)) aNil)))) [.no,.pl (zbv cs),.pl (.int p),.pl (zae xs),.pl (webD W),.ac (.dict (dS zae (ups W))),.no,.no,.no,.no]=some (.nx [.no,.pl (zbv cs),.pl (.int p),.pl (zae xs),.pl (webD W),.ac (.dict (dS zae (ups W))),.ac (.list ([c0,c1,c2,c3].map zaq)),.no,.no,.no]):=by
  have es:zaw (eSl (eVar 1) (zcv (eC (.int 4))) (zcv (eC (.int 7)))) [.no,.pl (zbv cs),.pl (.int p),.pl (zae xs),.pl (webD W),.ac (.dict (dS zae (ups W))),.no,.no,.no,.no]=some ([(a0,c0),(a1,c1),(a2,c2)].map (fun z:Int×List Arm=>PyData.int z.1),[]):=by
   rw [show zaw (eSl (eVar 1) (zcv (eC (.int 4))) (zcv (eC (.int 7)))) [.no,.pl (zbv cs),.pl (.int p),.pl (zae xs),.pl (webD W),.ac (.dict (dS zae (ups W))),.no,.no,.no,.no]=some (cutD (cs.map .int) (some ((4:Nat):Int)) (some ((7:Nat):Int)),[]) from rfl,zvv cs 4 7 (by omega) (by omega),h3]
   rfl
  have cm:zdy (gN 0) zcw (zay 3 zhe (zab (eVar 0) (zab (eVar 2) (zab (eVar 1) aNil)))) [.no,.pl (.int p),.pl (zae xs)] ([(a0,c0),(a1,c1),(a2,c2)].map (fun z:Int×List Arm=>PyData.int z.1))=some ([(a0,c0),(a1,c1),(a2,c2)].map (fun z:Int×List Arm=>zaq z.2)) :=
   zdg fun z hz=>⟨[.pl (.int z.1),.pl (.int p),.pl (zae xs)],rfl,rfl,⟨zaq z.2,false,[]⟩,by
    have gz:zhe [.int z.1,zae xs,.int p]=some (zaq z.2,false):=by
     simp only [qe,qAX,or_false] at hz
     rcases hz with rfl|rfl|rfl
     ·exact g0
     ·exact g1
     ·exact g2
    have:=zbg (n:=3) (f:=zab (eVar 0) (zab (eVar 2) (zab (eVar 1) aNil))) (env:=[.pl (.int z.1),.pl (.int p),.pl (zae xs)]) (rs:=[vi z.1,⟨zae xs,false,[]⟩,vi p]) rfl rfl gz
    rw [this];rfl,rfl⟩
  have ec:=zdr (own:=["_law_cell"]) (fr:=[2,3]) es (by show 3<100000;decide) cm
  have hb:(if zfq ([(a0,c0),(a1,c1),(a2,c2)].map (fun z:Int×List Arm=>zaq z.2))=true then ([]:List Nat) else []++capA [2,3] [.no,.pl (zbv cs),.pl (.int p),.pl (zae xs),.pl (webD W),.ac (.dict (dS zae (ups W))),.no,.no,.no,.no])=[]:=by split<;>rfl
  rw [hb] at ec
  have hla:eIxV 3 (eNeg (eC (.int 1))) [.no,.pl (zbv cs),.pl (.int p),.pl (zae xs),.pl (webD W),.ac (.dict (dS zae (ups W))),.no,.no,.no,.no]=some (vs (xs.getLast hne)):=by
   rw [zaqs (ds:=xs.map .str) rfl (by simpa using hne),List.getLast_map]
  have em:eOp repD (eLst (zab (eIxV 3 (eNeg (eC (.int 1)))) aNil)) (eVar 2) [.no,.pl (zbv cs),.pl (.int p),.pl (zae xs),.pl (webD W),.ac (.dict (dS zae (ups W))),.no,.no,.no,.no]=some ⟨.list (c3.map armD),true,[]⟩:=by
   have el:eLst (zab (eIxV 3 (eNeg (eC (.int 1)))) aNil) [.no,.pl (zbv cs),.pl (.int p),.pl (zae xs),.pl (webD W),.ac (.dict (dS zae (ups W))),.no,.no,.no,.no]=some ⟨.list [.str (xs.getLast hne)],true,[]⟩:=by
    unfold eLst
    rw [zdt hla];rfl
   unfold eOp
   rw [el]
   show ((repD (.list [.str (xs.getLast hne)]) (.int (p:Int))).bind fun z=>some (⟨z.1,z.2,bsOf z.1 ([]++[])⟩:Val))=_
   have:repD (.list [.str (xs.getLast hne)]) (.int (p:Int))=some (.list (c3.map armD),true):=by
    show (if 0≤(p:Int)∧(p:Int)≤100∧1≤100 then some (PyData.list (List.replicate (p:Int).toNat [PyData.str (xs.getLast hne)]).flatten,true) else none)=_
    rw [if_pos ⟨by omega,by omega,by decide⟩,qA9,ec3]
   rw [this];rfl
  have et:(eLst (zab (eCB zfs (zab (eOp repD (eLst (zab (eIxV 3 (eNeg (eC (.int 1)))) aNil)) (eVar 2)) aNil)) aNil)) [.no,.pl (zbv cs),.pl (.int p),.pl (zae xs),.pl (webD W),.ac (.dict (dS zae (ups W))),.no,.no,.no,.no]=some ⟨.list [zaq c3],true,[]⟩:=lst1 (zauk em)
  refine zcq (r:=⟨.list ([c0,c1,c2,c3].map zaq),true,[]⟩) ?_
  have ha:∀ (x y:EF) (ls ms:List PyData) (e:DEnv),x e=some ⟨.list ls,true,[]⟩→y e=some ⟨.list ms,true,[]⟩→ls.length+ms.length≤100000→eOp addD x y e=some ⟨.list (ls++ms),true,[]⟩:=fun x y ls ms e hx hy hz=>by
   unfold eOp
   rw [hx,hy]
   show ((if ls.length+ms.length≤100000 then some (PyData.list (ls++ms),true) else none).bind fun z=>some (⟨z.1,z.2,bsOf z.1 ([]++[])⟩:Val))=_
   rw [if_pos hz];rfl
  exact ha _ _ _ _ _ ec et (by show 4≤100000;decide)
 have m13:=md (cs[3]'(L _ (by decide))) 13 (by decide)
 obtain ⟨ts,gt,lt,nt,lot⟩:=zqs (m:=cs[3]'(L _ (by decide)) % 13) (c:=cs[2]'(L _ (by decide))) (by omega) (by omega) (gc 2 (L _ (by decide)))
 have ci:∀ c,CallIn xs c→CallIn (nm W) c:=fun c h=>by rw [hnm];exact h
 obtain ⟨rs,gr,mk⟩:=zacb ok lo' (by rw [hnm];omega) (cs:=(cs.drop 18).take 12) (c:=c0) (ts:=ts) (fun z hz=>h0 z (qAn (qAx hz))) (by rw [qAu,qAh];omega) (by omega) (ci c0 i0) (by rw [l0];exact hpr.2)
 rw [hnm] at gr
 rw [l0] at mk
 have e7:(sSet 7 (zay 5 zix (zab (eSl (eVar 1) (zcv (eC (.int 18))) (zcv (eC (.int 30)))) (zab (eVar 3) (zab (eVar 5) (zab (eIxV 6 (eC (.int 0))) (zab (zay 2 zdh (zab (eOp modD (eIxV 1 (eC (.int 3))) (eC (.int 13))) (zab (eIxV 1 (eC (.int 2))) aNil))) aNil))))))) [.no,.pl (zbv cs),.pl (.int p),.pl (zae xs),.pl (webD W),.ac (.dict (dS zae (ups W))),.ac (.list ([c0,c1,c2,c3].map zaq)),.no,.no,.no]=some (.nx [.no,.pl (zbv cs),.pl (.int p),.pl (zae xs),.pl (webD W),.pl (.dict (dS zae (ups W))),.ac (.list ([c0,c1,c2,c3].map zaq)),.ac (zaj rs),.no,.no]):=by
  have es:eSl (eVar 1) (zcv (eC (.int 18))) (zcv (eC (.int 30))) [.no,.pl (zbv cs),.pl (.int p),.pl (zae xs),.pl (webD W),.ac (.dict (dS zae (ups W))),.ac (.list ([c0,c1,c2,c3].map zaq)),.no,.no,.no]=some ⟨zbv ((cs.drop 18).take 12),true,[]⟩:=by
   rw [show eSl (eVar 1) (zcv (eC (.int 18))) (zcv (eC (.int 30))) [.no,.pl (zbv cs),.pl (.int p),.pl (zae xs),.pl (webD W),.ac (.dict (dS zae (ups W))),.ac (.list ([c0,c1,c2,c3].map zaq)),.no,.no,.no]=some ⟨.list (cutD (cs.map .int) (some ((18:Nat):Int)) (some ((30:Nat):Int))),true,[]⟩ from rfl,zvv cs 18 30 (by omega) (by omega)]
   rfl
  have et:zay 2 zdh (zab (eOp modD (eIxV 1 (eC (.int 3))) (eC (.int 13))) (zab (eIxV 1 (eC (.int 2))) aNil)) [.no,.pl (zbv cs),.pl (.int p),.pl (zae xs),.pl (webD W),.ac (.dict (dS zae (ups W))),.ac (.list ([c0,c1,c2,c3].map zaq)),.no,.no,.no]=some ⟨zae ts,true,[]⟩:=zbg (n:=2) (rs:=[vi (cs[3]'(L _ (by decide)) % 13),vi (cs[2]'(L _ (by decide)))]) (zba (zid (zuj (n:=3) rfl rfl (L _ (by decide))) rfl (by decide)) (zdt (zuj (n:=2) rfl rfl (L _ (by decide))))) rfl gt
  have e60:eIxV 6 (eC (.int 0)) [.no,.pl (zbv cs),.pl (.int p),.pl (zae xs),.pl (webD W),.ac (.dict (dS zae (ups W))),.ac (.list ([c0,c1,c2,c3].map zaq)),.no,.no,.no]=some ⟨zaq c0,false,[]⟩:=zaif (n:=0) (ds:=[c0,c1,c2,c3].map zaq) rfl rfl rfl
  exact zcq (r:=⟨zaj rs,true,[5]⟩) (zbg (n:=5) (rs:=[⟨zbv ((cs.drop 18).take 12),true,[]⟩,⟨zae xs,false,[]⟩,⟨.dict (dS zae (ups W)),false,[5]⟩,⟨zaq c0,false,[]⟩,⟨zae ts,true,[]⟩]) (zba es (zba rfl (zba rfl (zba e60 (zdt et))))) rfl gr)
 have hts:ts.length≤16:=by omega
 have rok:RulesOk W rs:=mk.rules lo' hpr.2 hts
 have rlow:∀ r∈rs,qV r.1=true:=fun r hr=>zoi (lot r.1 (mk.sub.subset (qAa.mpr ⟨r,hr,rfl⟩)))
 have bk:∀ c,CallIn xs c→c.length=p→Bk W rs c:=fun c h hcl=>⟨ok,rok,(ci c h).ok (by rw [hcl];exact hpr.2),⟨mk.kinds,fun r hr=>by rw [hcl];exact mk.size r hr⟩,mk.names nt,rlow⟩
 have hrl:rs.length≤16:=by
  have:=mk.sub.length_le
  rw [qC] at this
  omega
 have rt:∀ (S:List Rule) (c:List Arm),S.Sublist rs→CallIn xs c→c.length=p→zbt [zbl W p S,.dict (dS zae (ups W)),zaq c]=some (.bool true,false):=fun S c hs h hcl=>by
  have:=zxd ((bk c h hcl).sub hs)
  rw [hcl] at this
  exact this
 have sb:qI (zbl W p rs)=true:=zach ok lo' fun r hr=>⟨rlow r hr,rok.low r hr⟩
 obtain ⟨env',lp,s9,rfl⟩:=zem (enc:=zaq) (g:=gN 9) (l:=[c0,c1,c2,c3]) (env:=[.no,.pl (zbv cs),.pl (.int p),.pl (zae xs),.pl (webD W),.pl (.dict (dS zae (ups W))),.pl (.list ([c0,c1,c2,c3].map zaq)),.pl (zaj rs),.pl (zbl W p rs),.no])
  (body:=(sIf (zfi (tTru (zay 3 zbt (zab (eVar 8) (zab (eVar 5) (zab (eVar 9) aNil)))))) (sRet (eC (.bool false))) sNil)) (fun _ env=>∃ s9,env=[.no,.pl (zbv cs),.pl (.int p),.pl (zae xs),.pl (webD W),.pl (.dict (dS zae (ups W))),.pl (.list ([c0,c1,c2,c3].map zaq)),.pl (zaj rs),.pl (zbl W p rs),s9]) ⟨_,rfl⟩ (by
   rintro pre c post env hpc ⟨s9,rfl⟩
   have hc:c∈[c0,c1,c2,c3]:=by rw [← hpc];simp
   have hci:CallIn xs c∧c.length=p:=by
    simp only [qe,qAX,or_false] at hc
    rcases hc with rfl|rfl|rfl|rfl
    ·exact ⟨i0,l0⟩
    ·exact ⟨i1,l1⟩
    ·exact ⟨i2,l2⟩
    ·exact ⟨i3,l3⟩
   refine ⟨[.no,.pl (zbv cs),.pl (.int p),.pl (zae xs),.pl (webD W),.pl (.dict (dS zae (ups W))),.pl (.list ([c0,c1,c2,c3].map zaq)),.pl (zaj rs),.pl (zbl W p rs),.pl (zaq c)],_,rfl,.inl (if_f (zpx (c:=true) (zbg (n:=3) (rs:=[⟨zbl W p rs,false,[]⟩,⟨.dict (dS zae (ups W)),false,[]⟩,⟨zaq c,false,[]⟩]) rfl rfl (rt rs c (qBQ _) hci.1 hci.2))) rfl),_,rfl⟩)
 have r1:(sSeq (sFor (zaw (eVar 6)) (gN 9) (sIf (zfi (tTru (zay 3 zbt (zab (eVar 8) (zab (eVar 5) (zab (eVar 9) aNil)))))) (sRet (eC (.bool false))) sNil)) (sIf (zbh (eOp neD (eVar 8) (eTup (zab (eVar 4) (zab (eVar 2) (zab (eVar 7) aNil)))))) (sRet (eC (.bool false))) sNil)) [.no,.pl (zbv cs),.pl (.int p),.pl (zae xs),.pl (webD W),.pl (.dict (dS zae (ups W))),.pl (.list ([c0,c1,c2,c3].map zaq)),.pl (zaj rs),.pl (zbl W p rs),.no]=some (.nx [.no,.pl (zbv cs),.pl (.int p),.pl (zae xs),.pl (webD W),.pl (.dict (dS zae (ups W))),.pl (.list ([c0,c1,c2,c3].map zaq)),.pl (zaj rs),.pl (zbl W p rs),s9]):=by
  refine zat (for_list (ds:=[c0,c1,c2,c3].map zaq) (fr:=false) (bs:=[]) rfl lp) (if_f ?_ rfl)
  exact zaud (d:=zbl W p rs) (f1:=false) (f2:=false) (b1:=[]) (b2:=[]) rfl rfl sb
 have w1:(zda ["_law_name", "_law_elders"] [] (zaw (eVar 4)) (gT 2 (zao 0 (zao 1 zce))) zcw (eTup (zab (eVar 0) (zab (eCB zrx (zab (eVar 1) aNil)) aNil)))) [.no,.pl (zbv cs),.pl (.int p),.pl (zae xs),.pl (webD W),.pl (.dict (dS zae (ups W))),.pl (.list ([c0,c1,c2,c3].map zaq)),.pl (zaj rs),.no,.no]=some ⟨webD W,true,[]⟩:=by
  have fl:zfq (W.map rowD)=false:=by
   cases W with
   | nil=>have:=congrArg List.length hnm;simp [nm] at this;omega
   | cons q W=>rfl
  have hW:=ok.len
  rw [zdr (own:=["_law_name", "_law_elders"]) (fr:=[]) (fi:=zaw (eVar 4)) (env:=[.no,.pl (zbv cs),.pl (.int p),.pl (zae xs),.pl (webD W),.pl (.dict (dS zae (ups W))),.pl (.list ([c0,c1,c2,c3].map zaq)),.pl (zaj rs),.no,.no]) (ds:=W.map rowD) (bs:=[]) rfl (by rw [qC];omega) zamb,fl]
  rfl
 have last:∀ (S:List Rule),S.Sublist rs→(sRet (eAnd (zay 3 zbt (zab (eVar 8) (zab (eVar 5) (zab (eIxV 6 (eC (.int 1))) aNil)))) (zay 3 zbt (zab (eVar 8) (zab (eVar 5) (zab (eIxV 6 (eC (.int 0))) aNil)))))) [.no,.pl (zbv cs),.pl (.int p),.pl (zae xs),.pl (webD W),.pl (.dict (dS zae (ups W))),.pl (.list ([c0,c1,c2,c3].map zaq)),.pl (zaj rs),.pl (zbl W p S),.no]=some (.rt (.bool true) false):=fun S hs=>by
  have x1:eIxV 6 (eC (.int 1)) [.no,.pl (zbv cs),.pl (.int p),.pl (zae xs),.pl (webD W),.pl (.dict (dS zae (ups W))),.pl (.list ([c0,c1,c2,c3].map zaq)),.pl (zaj rs),.pl (zbl W p S),.no]=some ⟨zaq c1,false,[]⟩:=zsg (n:=1) (ds:=[c0,c1,c2,c3].map zaq) rfl rfl rfl
  have x0:eIxV 6 (eC (.int 0)) [.no,.pl (zbv cs),.pl (.int p),.pl (zae xs),.pl (webD W),.pl (.dict (dS zae (ups W))),.pl (.list ([c0,c1,c2,c3].map zaq)),.pl (zaj rs),.pl (zbl W p S),.no]=some ⟨zaq c0,false,[]⟩:=zsg (n:=0) (ds:=[c0,c1,c2,c3].map zaq) rfl rfl rfl
  exact zes (bs:=[]) (zavj (zbg (n:=3) (rs:=[⟨zbl W p S,false,[]⟩,⟨.dict (dS zae (ups W)),false,[]⟩,⟨zaq c1,false,[]⟩]) (zba rfl (zba rfl (zdt x1))) rfl (rt S c1 hs i1 l1)) (zbg (n:=3) (rs:=[⟨zbl W p S,false,[]⟩,⟨.dict (dS zae (ups W)),false,[]⟩,⟨zaq c0,false,[]⟩]) (zba rfl (zba rfl (zdt x0))) rfl (rt S c0 hs i0 l0)))
 have len7:eCB lenD (zab (eVar 7) aNil) [.no,.pl (zbv cs),.pl (.int p),.pl (zae xs),.pl (webD W),.pl (.dict (dS zae (ups W))),.pl (.list ([c0,c1,c2,c3].map zaq)),.pl (zaj rs),.pl (zbl W p rs),s9]=some (vi (rs.length:Nat)):=by
  rw [zlg (ds:=rs.map zbf) (fr:=false) (bs:=[]) rfl,qC]
 have tl:(zaci 8 [9] (zda ["_law_name", "_law_elders"] [] (zaw (eVar 4)) (gT 2 (zao 0 (zao 1 zce))) zcw (eTup (zab (eVar 0) (zab (eCB zrx (zab (eVar 1) aNil)) aNil)))) (eVar 2) (eCB zrx (zab (eVar 7) aNil)) (sSeq (sFor (zaw (eVar 6)) (gN 9) (sIf (zfi (tTru (zay 3 zbt (zab (eVar 8) (zab (eVar 5) (zab (eVar 9) aNil)))))) (sRet (eC (.bool false))) sNil)) (sIf (zbh (eOp neD (eVar 8) (eTup (zab (eVar 4) (zab (eVar 2) (zab (eVar 7) aNil)))))) (sRet (eC (.bool false))) sNil)) (zbh (eOp gtD (eCB lenD (zab (eVar 7) aNil)) (eC (.int 0)))) (eOp modD (eIxV 1 (eC (.int 7))) (eCB lenD (zab (eVar 7) aNil))) (sRet (eAnd (zay 3 zbt (zab (eVar 8) (zab (eVar 5) (zab (eIxV 6 (eC (.int 1))) aNil)))) (zay 3 zbt (zab (eVar 8) (zab (eVar 5) (zab (eIxV 6 (eC (.int 0))) aNil))))))) [.no,.pl (zbv cs),.pl (.int p),.pl (zae xs),.pl (webD W),.pl (.dict (dS zae (ups W))),.ac (.list ([c0,c1,c2,c3].map zaq)),.ac (zaj rs),.no,.no]=some (.rt (.bool true) false):=by
  refine zari (e0:=[.no,.pl (zbv cs),.pl (.int p),.pl (zae xs),.pl (webD W),.pl (.dict (dS zae (ups W))),.pl (.list ([c0,c1,c2,c3].map zaq)),.pl (zaj rs),.no,.no]) (e':=[.no,.pl (zbv cs),.pl (.int p),.pl (zae xs),.pl (webD W),.pl (.dict (dS zae (ups W))),.pl (.list ([c0,c1,c2,c3].map zaq)),.pl (zaj rs),.pl (zbl W p rs),s9]) (d1:=webD W) (d2:=.int p) (ds:=rs.map zbf) (u1:=true) (u2:=false) (b1:=[]) (b2:=[]) (b3:=[]) rfl w1 rfl rfl (by decide) r1 ⟨rfl,by show 8<10;decide⟩ ?_
  by_cases hr:0<rs.length
  ·right
   have mr:=md (cs[7]'(L _ (by decide))) (rs.length:Nat) (by omega)
   refine ⟨(cs[7]'(L _ (by decide)) % ((rs.length:Nat):Int)).toNat,false,[],?_,?_,by omega,by rw [qC];omega,?_⟩
   ·rw [zds (zamy len7 rfl),decide_eq_true (by omega)]
   ·rw [zid (zuj (n:=7) rfl rfl (L _ (by decide))) len7 (by omega)]
    have hz:cs[7]'(L _ (by decide)) % ((rs.length:Nat):Int)=(((cs[7]'(L _ (by decide)) % ((rs.length:Nat):Int)).toNat:Nat):Int):=by omega
    exact congrArg (fun z=>some (vi z)) hz
   ·have:=last (rs.eraseIdx (cs[7]'(L _ (by decide)) % ((rs.length:Nat):Int)).toNat) (List.eraseIdx_sublist _ _)
    rw [zsi]
    exact this
  ·left
   refine ⟨?_,last rs (qBQ _)⟩
   rw [zds (zamy len7 rfl),decide_eq_false (by omega)]
 exact zat e2 (zat e3 (zat e4 (zat e5 (zat e6 (zat e7 tl)))))
section
variable {P:Program} {w:World} {K:qB} {mg:Str→Option Value} {base:Heap}
theorem zavk {s k:Int} (h1:0≤s) (h2:s<2147483647) (h3:0≤k) (h4:k≤64):0≤s * (k+2)+7919 * k * k+11∧s * (k+2)+7919 * k * k+11<200000000000:=by
 have a1:0≤s * (k+2):=qCZ h1 (by omega)
 have a2:s * (k+2)≤2147483647 * 66:=Int.mul_le_mul (by omega) (by omega) (by omega) (by omega)
 have a3:0≤7919 * k * k:=qCZ (by omega) h3
 have a4:7919 * k * k≤7919 * 64 * 64:=Int.mul_le_mul (by omega) h4 h3 (by omega)
 omega
noncomputable def zacj (K:qB):Sp:=fun vs H Q _=>∃ (a:Addr) (ns:List Int) (m:Int),vs=[.ref a,.int m]∧SqL K H a (ns.map .int)∧0≤m∧m≤64 ∧
 ∀ p H' (cs:List Int),H p=none→Same H H'→H' p=some (.lst (cs.map .int))→cs.length=m.toNat→(∀ c∈cs,0≤c∧c<1000000000000)→Q (.ref p) H'
theorem zaai {f:Addr} {fd:qw} (F:Fun K "_law_draws" "_law_draws" zhk f fd) (T:Txt mg):FnOk P w K mg base CX0 1 f fd ["_law_script", "_law_many"] (zacj K):=by
 refine F.ok zze (fun vs H Q E h=>?_) (fun cdv A outer s H vs Q E hr h=>?_)
 ·obtain ⟨a,ns,m,rfl,_⟩:=h
  rfl
 ·obtain ⟨a,ns,m,rfl,hS,h0,h64,k⟩:=h
  apply Exists.intro
  apply And.intro
  ·refine' (znv (zacm (i:=2) (hf:=Or.inl rfl) zgl rfl (Or.inl rfl) zjd)
 (znv (zage qu rfl (zalq (K:=K) rfl (zacp (zoy (K:=K) rfl) (pv 0) zagn (zago zjd))) (zaam (i:=3) (hf:=Or.inl rfl) zgl rfl (Or.inl rfl))
  (zou (zacm (i:=2) (hf:=Or.inl rfl) zgl rfl (Or.inl rfl) (zmr zdp (zmr (zde (K:=K) rfl) (zmr zjj (pv 2) zjd) (zmr zdp (pv 3) zjd)) zjd))))
 (znv (zacm (i:=4) (hf:=Or.inl rfl) zgl rfl (Or.inl rfl) (zanv zud))
 (znv (zage qu rfl (zxg rfl T.range (zrk (pv 1) zud)) (zaam (i:=5) (hf:=Or.inl rfl) zgl rfl (Or.inl rfl))
  (zou (zarz (zagg zaoz (pv 5) (zaco (zbz (K:=K) rfl) (by rfl) T.len zck (zrk (pv 0) zud)) (zcp _)) (zou (zaal (zahf (K:=K) rfl qY qg qf zcy (pv 4) (zrk (zmr zdp (zasm (zcn (K:=K) rfl) (pv 0) (pv 5) (fun _ _=>rfl)) (zmr zanu zjd zjd)) zud)))) (zou (zaal (zahf (K:=K) rfl qY qg qf zcy (pv 4) (zrk (zmr zfk (zmr zdp (zmr zanu (zmr (zde (K:=K) rfl) (zmr (zde (K:=K) rfl) (zmr zjj (pv 2) (zmr (zde (K:=K) rfl) (pv 5) zjd)) (zmr zjj (zmr zjj zjd (pv 5)) (pv 5))) zjd) zjd) zjd) zjd) zud)))))))
 (zou (zant (pv 4)))))))
  refine ⟨_,rfl,_,rfl,a,_,rfl,hS,fun p hp=>⟨p,rfl,⟨_,SqL.of zbp⟩,L2.for_list (xs:=cutV (ns.map V.int) none (some 63)) (fun i σ H1=>∃ (sd:Int) (v3:Option V),σ=[some (.ref a),some (.int m),some (.int sd),v3,none,none]∧H1=upd H p (.lst (cutV (ns.map V.int) none (some 63)))∧0≤sd∧sd<2147483647)
   ⟨7,none,rfl,rfl,by decide,by decide⟩ (fun i σ H1 _ ⟨_,_,_,e,_⟩=>e▸SqL.of zbp) ?_ ?_⟩⟩
  ·rintro i x σ H1 hi ⟨sd,v3,rfl,rfl,b0,b1⟩
   obtain ⟨z,rfl⟩:∃ z,x=V.int z:=by
    have hm:=qAy hi
    unfold cutV at hm
    obtain ⟨z,_,e⟩:=qAa.mp (qAn (qAx hm))
    exact ⟨z,e.symm⟩
   refine ⟨_,rfl,.inl ⟨by omega,by omega⟩,_,rfl,_,_,rfl,rfl,(by show (0:Int)<2147483629;decide),_,_,rfl,rfl,(by show (0:Int)<2147483647;decide),?_⟩
   exact ⟨_,_,rfl,rfl,qAQ _ (by decide),qAV _ (by decide)⟩
  ·rintro σ H1 ⟨sd,v3,rfl,rfl,b0,b1⟩
   refine ⟨qAd _,fun q hq=>?_⟩
   have hqH:H q=none:=(Same.new hp).free hq
   have sH:∀ o,Same H (upd (upd H p (.lst (cutV (ns.map V.int) none (some 63)))) q o):=fun o=>(Same.new hp).upd hqH
   refine ⟨_,rfl,m,rfl,by omega,by omega,L2.for_range (n:=m.toNat) (fun i σ H2=>∃ (cs:List Int) (v5:Option V),σ=[some (.ref a),some (.int m),some (.int sd),v3,some (.ref q),v5]∧H2=upd (upd H p (.lst (cutV (ns.map V.int) none (some 63)))) q (.lst (cs.map .int))∧cs.length=i∧∀ c∈cs,0≤c∧c<1000000000000)
    ⟨[],none,rfl,rfl,rfl,fun _ h=>nomatch h⟩ ?_ ?_⟩
   ·rintro i σ H2 hi ⟨cs,v5,rfl,rfl,hc,hp0⟩
    have hi64:(i:Int)≤64:=by omega
    refine ⟨_,rfl,_,rfl,_,_,rfl,.inl ⟨_,(sH _).seq hS,rfl⟩,_,_,rfl,rfl,_,rfl,?_⟩
    have lz:(cs.map V.int).length<qj:=by rw [qC,hc];exact qAl (show i≤64 by omega) (by decide)
    have fin:∀ v:Int,0≤v→v<1000000000000→∃ (cs':List Int) (v5:Option V),[some (.ref a),some (.int m),some (.int sd),v3,some (.ref q),some (.int (0+(i:Int)))]=[some (.ref a),some (.int m),some (.int sd),v3,some (.ref q),v5] ∧
      upd (upd (upd H p (.lst (cutV (ns.map V.int) none (some 63)))) q (.lst (cs.map .int))) q (.lst (cs.map V.int++[.int v]))=upd (upd H p (.lst (cutV (ns.map V.int) none (some 63)))) q (.lst (cs'.map .int))∧cs'.length=i+1∧∀ c∈cs',0≤c∧c<1000000000000:=fun v hv hv2=>by
     refine ⟨cs++[v],_,rfl,?_,by simp [hc],fun c h=>?_⟩
     ·rw [zaoq,qAJ];rfl
     ·rcases qAA.mp h with h|h
      ·exact hp0 c h
      ·rw [qAI.mp h];exact ⟨hv,hv2⟩
    refine ite2 (fun h=>?_) (fun h=>?_)
    ·have h:(0:Int)+i<((ns.map V.int).length:Nat):=of_decide_eq_true h
     rw [qC] at h
     have hin:i<ns.length:=by omega
     have ga:atI (ns.map V.int) (0+(i:Int))=some (.int ns[i]):=by
      rw [Int.zero_add]
      exact zov (by rw [qR,qE hin];rfl)
     refine ⟨_,rfl,.inl ⟨rfl,_,SqL.of zbp⟩,_,rfl,_,rfl,_,_,.inl ((sH _).seq hS),ga,_,_,rfl,rfl,⟨by decide,by decide,by decide⟩,_,_,rfl,rfl,(by show (0:Int)<10 ^ 12;decide),q,_,_,rfl,rfl,zbp,lz,?_⟩
     exact fin _ (qAQ _ (by decide)) (qAV _ (by decide))
    ·obtain ⟨d1,d2⟩:=zavk (s:=sd) (k:=0+(i:Int)) b0 b1 (by omega) (by omega)
     refine ⟨_,rfl,.inl ⟨rfl,_,SqL.of zbp⟩,_,rfl,_,rfl,.inl ⟨by omega,by omega⟩,_,rfl,.inl ⟨by decide,by decide⟩,_,rfl,.inr ⟨by omega,by omega⟩,?_⟩
     refine ⟨_,_,rfl,rfl,⟨by decide,by decide,?_⟩,_,_,rfl,rfl,(by show (0:Int)<2147483647;decide),_,_,rfl,rfl,⟨by decide,by decide⟩,q,_,_,rfl,rfl,zbp,lz,?_⟩
     ·show (sd * (0+(i:Int)+2)+7919 * (0+(i:Int)) * (0+(i:Int))+11).natAbs<2 ^ 64
      omega
     ·refine fin _ (qBT (qAQ _ (by decide)) (by decide)) ?_
      have h9:∀ z:Int,z % 2147483647 / 7<1000000000000:=fun z=>by have:=qAV z (show (0:Int)<2147483647 by decide);omega
      exact h9 _
   ·rintro σ H2 ⟨cs,v5,rfl,rfl,hc,hp0⟩
    exact ⟨_,rfl,k q _ cs hqH (sH _) zbp hc hp0⟩
end
section
variable {P:Program} {w:World} {K:qB} {mg:Str→Option Value} {base:Heap}
noncomputable def zanr (K:qB):Sp:=fun vs H Q _=>∃ (a:Addr) (ns:List Int),vs=[.ref a]∧SqL K H a (ns.map V.int)∧∀ H',Q (.bl true) H'
theorem zaul {f:Addr} {fd:qw} (F:Fun K "law" "law" zwo f fd) (T:Txt mg) (D_law_call:zuz P w K mg base) (D_law_draws:Dn P w K mg base "_law_draws" ["_law_script", "_law_many"] 1 (zacj K)) (D_law_names:zti P w K mg base) (D_law_right:ztk P w K mg base) (D_law_rules:ztj P w K mg base) (D_law_up:zaed P w K mg base) (D_law_web:zzr P w K mg base):FnOk P w K mg base CX0 8 f fd ["_law_script"] (zanr K):=by
 refine F.ok zatz (fun vs H Q E h=>?_) (fun cdv A outer s H vs Q E hr h=>?_)
 ·obtain ⟨a,ns,rfl,_⟩:=h
  rfl
 ·obtain ⟨a,ns,rfl,hS,k⟩:=h
  have hu:=zfh hr
  apply Exists.intro
  apply And.intro
  ·refine' Bx.out (zai (zbi (i:=1) zna rfl (Or.inl rfl) (zbo D_law_draws (hr.mono (by decide)) (by rfl) (zaa (bv 0) (zaa zam zah (by rfl)) (by rfl)) (by decide) (zaf (by rfl)) (by rfl)) (by rfl) (.inl rfl))
 (zai (zbi (i:=2) zna rfl (Or.inr rfl) (zbj (zde (K:=K) rfl) zam (zbj zdp (zbn (zcn (K:=K) rfl) (bv 1) zam (fun _ _=>rfl)) zam)) (by rfl) (.inl rfl))
 (zai (zbi (i:=3) zna rfl (Or.inr rfl) (zbo D_law_names (hr.mono (by decide)) (by rfl) (zaa (zbj (zde (K:=K) rfl) zam (zbj zdp (zbj zfk (zbn (zcn (K:=K) rfl) (bv 1) zam (fun _ _=>rfl)) zam) (zbn (zcn (K:=K) rfl) (zcx (zaa zam (zaa zam (zaa zam zah (by rfl)) (by rfl)) (by rfl))) (zbj zri (bv 2) zam) (fun _ _=>rfl)))) (zaa (zbn (zcn (K:=K) rfl) (bv 1) zam (fun _ _=>rfl)) zah (by rfl)) (by rfl)) (by decide) (zaf (by rfl)) (by rfl)) (by rfl) (.inl rfl))
 (zai (zbi (i:=4) zna rfl (Or.inl rfl) (zbo D_law_web (hr.mono (by decide)) (by rfl) (zaa (zfb (zoy (K:=K) rfl) (bv 1) (zew zam) (zew zam)) (zaa (bv 3) zah (by rfl)) (by rfl)) (by decide) (zaf (by rfl)) (by rfl)) (by rfl) (.inl rfl))
 (zai (zbi (i:=5) zna rfl (Or.inl rfl) (zbo D_law_up (hr.mono (by decide)) (by rfl) (zaa (bv 4) zah (by rfl)) (by decide) (zaf (by rfl)) (by rfl)) (by rfl) (.inl rfl))
 (zai (zbi (i:=6) zna rfl (Or.inl rfl) (zbj (zde (K:=K) rfl) (zdb (zcc (N':=["_law_cell", "_law_places", "_law_names_here"]) (own:=["_law_cell"]) (fr:=[2,3]) (by kernel_rfl)) rfl (zbx (K:=K) rfl (zfb (zoy (K:=K) rfl) (bv 1) (zew zam) (zew zam))) ?hb1 (by intro _;rfl)) (zfv (zaa (zea (zgc (K:=K) rfl) (by rfl) T.tuple zen (zaa (zbj zast (zfv (zaa (zbn (zcn (K:=K) rfl) (bv 3) (zatu zasf zam) (fun _ _=>rfl)) zah (by rfl))) (bv 2)) zah (by rfl)) (by decide) (by decide) (zaf (by rfl)) (by rfl)) zah (by rfl)))) (by rfl) (.inl rfl))
 (zai (zbi (i:=7) zna rfl (Or.inl rfl) (zbo D_law_rules (hr.mono (by decide)) (by rfl) (zaa (zfb (zoy (K:=K) rfl) (bv 1) (zew zam) (zew zam)) (zaa (bv 3) (zaa (bv 5) (zaa (zbn (zcn (K:=K) rfl) (bv 6) zam (fun _ _=>rfl)) (zaa (zbo D_law_names (hr.mono (by decide)) (by rfl) (zaa (zbj zdp (zbn (zcn (K:=K) rfl) (bv 1) zam (fun _ _=>rfl)) zam) (zaa (zbn (zcn (K:=K) rfl) (bv 1) zam (fun _ _=>rfl)) zah (by rfl)) (by rfl)) (by decide) (zaf (by rfl)) (by rfl)) zah (by rfl)) (by rfl)) (by rfl)) (by rfl)) (by rfl)) (by decide) (zaf (by rfl)) (by rfl)) (by rfl) (.inl rfl))
 (zai (zbi (i:=8) zna rfl (Or.inl rfl) (zcx (zaa (zdb (zcc (N':=["_law_name", "_law_elders"]) (own:=["_law_name", "_law_elders"]) (fr:=[]) (by kernel_rfl)) rfl (zbx (K:=K) rfl (bv 4)) ?hb2 (by intro _;rfl)) (zaa (bv 2) (zaa (zea (zjo (K:=K) rfl) (by rfl) T.list ziy (zaa (bv 7) zah (by rfl)) (by decide) (by decide) (zaf (by rfl)) (by rfl)) zah (by rfl)) (by rfl)) (by rfl))) (by rfl) (.inl rfl))
 (zai (zev qu rfl (zbx (K:=K) rfl (bv 6)) (zar (i:=9) zna rfl (Or.inl rfl) (.inl rfl))
  (zak (zcs (zgr (zcb (K:=K) rfl (zbo D_law_right (hr.mono (by decide)) (by rfl) (zaa (bv 8) (zaa (bv 5) (zaa (bv 9) zah (by rfl)) (by rfl)) (by rfl)) (by decide) (zaf (by rfl)) (by rfl)) (fun _=>rfl))) (zak (zbd zhy)) zbs)) (by intro _;rfl))
 (zai (zcs (zbm (zpv (K:=K) rfl hr.units) (bv 8) (zcx (zaa (bv 4) (zaa (bv 2) (zaa (bv 7) zah (by rfl)) (by rfl)) (by rfl))) (zcp _)) (zak (zbd zhy)) zbs)
 (zai (zcs (zbm zapa (zaz (zbz (K:=K) rfl) (by rfl) T.len zck (zaa (bv 7) zah (by rfl)) (by decide) (by decide) (zaf (by rfl)) (by rfl)) zam (zcp _)) (zak (zdf (zex (K:=K) rfl qY qCY qCX zacs (zbn (zcn (K:=K) rfl) (bv 8) zam (fun _ _=>rfl)) (zaa (zbj zdp (zbn (zcn (K:=K) rfl) (bv 1) zam (fun _ _=>rfl)) (zaz (zbz (K:=K) rfl) (by rfl) T.len zck (zaa (bv 7) zah (by rfl)) (by decide) (by decide) (zaf (by rfl)) (by rfl))) zah (by rfl)) (by rfl) (by rfl) (by rfl) (zaf (by rfl)) (by rfl)) (by rfl))) zbs)
 (zak (zbd (zlk (zbo D_law_right (hr.mono (by decide)) (by rfl) (zaa (bv 8) (zaa (bv 5) (zaa (zbn (zcn (K:=K) rfl) (bv 6) zam (fun _ _=>rfl)) zah (by rfl)) (by rfl)) (by rfl)) (by decide) (zaf (by rfl)) (by rfl)) (zlj (zbo D_law_right (hr.mono (by decide)) (by rfl) (zaa (bv 8) (zaa (bv 5) (zaa (zbn (zcn (K:=K) rfl) (bv 6) zam (fun _ _=>rfl)) zah (by rfl)) (by rfl)) (by rfl)) (by decide) (zaf (by rfl)) (by rfl)))))))))))))))))
   case hb1=>(intro cl C s H fp;refine' ⟨Bx.out (zar (i:=0) zajm rfl (Or.inl rfl) (by first|exact .inl rfl|exact .inr rfl|assumption)),Bx.out zfg,Bx.out (zbo D_law_call (hr.mono (by decide)) (by rfl) (zaa (bv 0) (zaa (bv 2) (zaa (bv 1) zah (by rfl)) (by rfl)) (by rfl)) (by decide) (zaf (by rfl)) (by rfl))⟩)
   case hb2=>(intro cl C s H fp;refine' ⟨Bx.out (zci (K:=K) (n:=2) rfl rfl (zau (zar (i:=0) zzm rfl (Or.inl rfl) (by first|exact .inl rfl|exact .inr rfl|assumption)) (zau (zar (i:=1) zzm rfl (Or.inl rfl) (by first|exact .inl rfl|exact .inr rfl|assumption)) zch (by rfl)) (by rfl)) (by rfl) (by rfl)),Bx.out zfg,Bx.out (zcx (zaa (bv 0) (zaa (zea (zjo (K:=K) rfl) (by rfl) T.list ziy (zaa (bv 1) zah (by rfl)) (by decide) (by decide) (zaf (by rfl)) (by rfl)) zah (by rfl)) (by rfl)))⟩)
  refine ⟨_,rfl,a,ns,33,rfl,hS,by decide,by decide,fun pc H1 cs hpc s1 e1 lc p1=>?_⟩
  exact zaqf (F:=zaah) ((zav (zbq (zbc zhw (se_c fun _=>zag) (zbc zeh (zbr (se_c fun _=>zag)) (se_c fun _=>zag)))) (zav (zbq (zbe (zac (zbc zhw (se_c fun _=>zag) (zbc zeh (zbc zft (zbr (se_c fun _=>zag)) (se_c fun _=>zag)) (zbc zals (zei (zac (se_c fun _=>zag) (zac (se_c fun _=>zag) (zac (se_c fun _=>zag) zal)))) (zbc zru (zad 2) (se_c fun _=>zag))))) (zac (zbr (se_c fun _=>zag)) zal)))) (zav (zbq (zbe (zac (zqu (zad 1) (zgb (se_c fun _=>zag)) (zgb (se_c fun _=>zag))) (zac (zad 3) zal)))) (zav (zbq (zbe (zac (zad 4) zal))) (zav (zbq (zbc zhw (zdl (zdj (zqu (zad 1) (zgb (se_c fun _=>zag)) (zgb (se_c fun _=>zag)))) zej (zld (by decide)) zha (zbe (zac (zad 0) (zac (zad 2) (zac (zad 1) zal))))) (zif (zac (zdv zkf (zac (zbc zauj (zif (zac (zbr (zatl (se_c fun _=>zag))) zal)) (zad 2)) zal)) zal)))) (zav (zbq (zbe (zac (zqu (zad 1) (zgb (se_c fun _=>zag)) (zgb (se_c fun _=>zag))) (zac (zad 3) (zac (zad 5) (zac (zbr (se_c fun _=>zag)) (zac (zbe (zac (zbc zeh (zbr (se_c fun _=>zag)) (se_c fun _=>zag)) (zac (zbr (se_c fun _=>zag)) zal))) zal))))))) (zanp (zdl (zdj (zad 4)) (zek (zax (zax zdc))) (zig (zby (by decide) (zby (by decide) zfu))) zha (zei (zac (zad 0) (zac (zdv zry (zac (zad 1) zal)) zal)))) (zad 2) (zdv zry (zac (zad 7) zal)) (zaqx (zdj (zad 6)) (zamt (by decide)) (zaon (zje (zfr (zbe (zac (zad 8) (zac (zad 5) (zac (zad 9) zal)))))) (zajc (se_c fun _=>zbb)) zajb)) (zaon (st_t (zbc zxw (zad 8) (zei (zac (zad 4) (zac (zad 2) (zac (zad 7) zal)))))) (zajc (se_c fun _=>zbb)) zajb) (st_t (zbc zapw (zdv zfa (zac (zad 7) zal)) (se_c fun _=>zag))) (zbc zeh (zbr (se_c fun _=>zag)) (zdv zfa (zac (zad 7) zal))) (zca (zpr (zbe (zac (zad 8) (zac (zad 5) (zac (zbr (se_c fun _=>zag)) zal)))) (zbe (zac (zad 8) (zac (zad 5) (zac (zbr (se_c fun _=>zag)) zal)))))))))))))) (zaqg (n:=8) e1) (zanq lc (fun c h=>(p1 c h).1)) k
end
theorem us_s {us:List Value} {n:Nat} (h:us.length=n+1):∃ a t,us=a::t∧t.length=n:=by
 cases us with
 | nil=>cases h
 | cons a t=>exact ⟨a,t,rfl,Nat.succ.inj h⟩
theorem us_1 {us:List Value} (h:us.length=1):∃ a0,us=[a0]:=by
 obtain ⟨a,t,rfl,h2⟩:=us_s h
 cases qBH.mp h2
 exact ⟨a,rfl⟩
theorem us_2 {us:List Value} (h:us.length=2):∃ a0 a1,us=[a0,a1]:=by
 obtain ⟨a0,t,rfl,h2⟩:=us_s h
 obtain ⟨a1,rfl⟩:=us_1 h2
 exact ⟨a0,a1,rfl⟩
theorem us_3 {us:List Value} (h:us.length=3):∃ a0 a1 a2,us=[a0,a1,a2]:=by
 obtain ⟨a0,t,rfl,h2⟩:=us_s h
 obtain ⟨a1,a2,rfl⟩:=us_2 h2
 exact ⟨a0,a1,a2,rfl⟩
theorem us_4 {us:List Value} (h:us.length=4):∃ a0 a1 a2 a3,us=[a0,a1,a2,a3]:=by
 obtain ⟨a0,t,rfl,h2⟩:=us_s h
 obtain ⟨a1,a2,a3,rfl⟩:=us_3 h2
 exact ⟨a0,a1,a2,a3,rfl⟩
theorem us_5 {us:List Value} (h:us.length=5):∃ a0 a1 a2 a3 a4,us=[a0,a1,a2,a3,a4]:=by
 obtain ⟨a0,t,rfl,h2⟩:=us_s h
 obtain ⟨a1,a2,a3,a4,rfl⟩:=us_4 h2
 exact ⟨a0,a1,a2,a3,a4,rfl⟩
theorem all_mk {l:PySem.W.OpenLaw} {w:World} {K:qB} {h:Heap} {mg:Str→Option Value} {fa f1 f2 f3 f4 f5 f6 f7 f8 f9 f10 f11 f12 f13 f14 f15 f16 f17 f18 f19 f20 f21 f22 f23 f24 f25 f26 f27 f28 f29 f30 f31 f32 f33 f34 f35 f36 f37:Addr} (X:K.In h) (G:h.Ns qM mg) (hfa:mg "law" = some (.ref fa))
  {od1 an1 od2 an2 od3 an3 od4 an4 od5 an5 od6 an6 od7 an7 od8 an8 od9 an9 od10 an10 od11 an11 od12 an12 od13 an13 od14 an14 od15 an15 od16 an16 od17 an17 od18 an18 od19 an19 od20 an20 od21 an21 od22 an22 od23 an23 od24 an24 od25 an25 od26 an26 od27 an27 od28 an28 od29 an29 od30 an30 od31 an31 od32 an32 od33 an33 od34 an34 od35 an35 od36 an36 od37 an37:Option Addr} {sl1 sl2 sl3 sl4 sl5 sl6 sl7 sl8 sl9 sl10 sl11 sl12 sl13 sl14 sl15 sl16 sl17 sl18 sl19 sl20 sl21 sl22 sl23 sl24 sl25 sl26 sl27 sl28 sl29 sl30 sl31 sl32 sl33 sl34 sl35 sl36 sl37:Array (Option Value)} {oc1 kV1 dc1 pm1 cd1 ct1 oc2 kV2 dc2 pm2 cd2 ct2 oc3 kV3 dc3 pm3 cd3 ct3 oc4 kV4 dc4 pm4 cd4 ct4 oc5 kV5 dc5 pm5 cd5 ct5 oc6 kV6 dc6 pm6 cd6 ct6 oc7 kV7 dc7 pm7 cd7 ct7 oc8 kV8 dc8 pm8 cd8 ct8 oc9 kV9 dc9 pm9 cd9 ct9 oc10 kV10 dc10 pm10 cd10 ct10 oc11 kV11 dc11 pm11 cd11 ct11 oc12 kV12 dc12 pm12 cd12 ct12 oc13 kV13 dc13 pm13 cd13 ct13 oc14 kV14 dc14 pm14 cd14 ct14 oc15 kV15 dc15 pm15 cd15 ct15 oc16 kV16 dc16 pm16 cd16 ct16 oc17 kV17 dc17 pm17 cd17 ct17 oc18 kV18 dc18 pm18 cd18 ct18 oc19 kV19 dc19 pm19 cd19 ct19 oc20 kV20 dc20 pm20 cd20 ct20 oc21 kV21 dc21 pm21 cd21 ct21 oc22 kV22 dc22 pm22 cd22 ct22 oc23 kV23 dc23 pm23 cd23 ct23 oc24 kV24 dc24 pm24 cd24 ct24 oc25 kV25 dc25 pm25 cd25 ct25 oc26 kV26 dc26 pm26 cd26 ct26 oc27 kV27 dc27 pm27 cd27 ct27 oc28 kV28 dc28 pm28 cd28 ct28 oc29 kV29 dc29 pm29 cd29 ct29 oc30 kV30 dc30 pm30 cd30 ct30 oc31 kV31 dc31 pm31 cd31 ct31 oc32 kV32 dc32 pm32 cd32 ct32 oc33 kV33 dc33 pm33 cd33 ct33 oc34 kV34 dc34 pm34 cd34 ct34 oc35 kV35 dc35 pm35 cd35 ct35 oc36 kV36 dc36 pm36 cd36 ct36 oc37 kV37 dc37 pm37 cd37 ct37:Value}
  (a1:qQ K qM "is_whole" = some (some (.ref f1))) (l1:K.lookup f1=some ⟨oc1,od1,.func (qX "is_whole" "is_whole" (zbw zio) (zbu zio) (zap zio) .none kV1 dc1 pm1 an1 cd1 ct1),sl1⟩) (c1:qS K cd1 "is_whole" = true) (k1:qP K (.ref f1)=true)
  (a2:qQ K qM "names_of" = some (some (.ref f2))) (l2:K.lookup f2=some ⟨oc2,od2,.func (qX "names_of" "names_of" (zbw ziq) (zbu ziq) (zap ziq) .none kV2 dc2 pm2 an2 cd2 ct2),sl2⟩) (c2:qS K cd2 "names_of" = true) (k2:qP K (.ref f2)=true)
  (a3:qQ K qM "names_in" = some (some (.ref f3))) (l3:K.lookup f3=some ⟨oc3,od3,.func (qX "names_in" "names_in" (zbw zir) (zbu zir) (zap zir) .none kV3 dc3 pm3 an3 cd3 ct3),sl3⟩) (c3:qS K cd3 "names_in" = true) (k3:qP K (.ref f3)=true)
  (a4:qQ K qM "check_kinds" = some (some (.ref f4))) (l4:K.lookup f4=some ⟨oc4,od4,.func (qX "check_kinds" "check_kinds" (zbw zfo) (zbu zfo) (zap zfo) .none kV4 dc4 pm4 an4 cd4 ct4),sl4⟩) (c4:qS K cd4 "check_kinds" = true) (k4:qP K (.ref f4)=true)
  (a5:qQ K qM "roofs_of" = some (some (.ref f5))) (l5:K.lookup f5=some ⟨oc5,od5,.func (qX "roofs_of" "roofs_of" (zbw zis) (zbu zis) (zap zis) .none kV5 dc5 pm5 an5 cd5 ct5),sl5⟩) (c5:qS K cd5 "roofs_of" = true) (k5:qP K (.ref f5)=true)
  (a6:qQ K qM "roof_of" = some (some (.ref f6))) (l6:K.lookup f6=some ⟨oc6,od6,.func (qX "roof_of" "roof_of" (zbw zjv) (zbu zjv) (zap zjv) .none kV6 dc6 pm6 an6 cd6 ct6),sl6⟩) (c6:qS K cd6 "roof_of" = true) (k6:qP K (.ref f6)=true)
  (a7:qQ K qM "names_in_call" = some (some (.ref f7))) (l7:K.lookup f7=some ⟨oc7,od7,.func (qX "names_in_call" "names_in_call" (zbw zeo) (zbu zeo) (zap zeo) .none kV7 dc7 pm7 an7 cd7 ct7),sl7⟩) (c7:qS K cd7 "names_in_call" = true) (k7:qP K (.ref f7)=true)
  (a8:qQ K qM "check_call" = some (some (.ref f8))) (l8:K.lookup f8=some ⟨oc8,od8,.func (qX "check_call" "check_call" (zbw zgg) (zbu zgg) (zap zgg) .none kV8 dc8 pm8 an8 cd8 ct8),sl8⟩) (c8:qS K cd8 "check_call" = true) (k8:qP K (.ref f8)=true)
  (a9:qQ K qM "roofs_in_call" = some (some (.ref f9))) (l9:K.lookup f9=some ⟨oc9,od9,.func (qX "roofs_in_call" "roofs_in_call" (zbw zep) (zbu zep) (zap zep) .none kV9 dc9 pm9 an9 cd9 ct9),sl9⟩) (c9:qS K cd9 "roofs_in_call" = true) (k9:qP K (.ref f9)=true)
  (a10:qQ K qM "fits_under" = some (some (.ref f10))) (l10:K.lookup f10=some ⟨oc10,od10,.func (qX "fits_under" "fits_under" (zbw zgh) (zbu zgh) (zap zgh) .none kV10 dc10 pm10 an10 cd10 ct10),sl10⟩) (c10:qS K cd10 "fits_under" = true) (k10:qP K (.ref f10)=true)
  (a11:qQ K qM "is_nearer" = some (some (.ref f11))) (l11:K.lookup f11=some ⟨oc11,od11,.func (qX "is_nearer" "is_nearer" (zbw zhh) (zbu zhh) (zap zhh) .none kV11 dc11 pm11 an11 cd11 ct11),sl11⟩) (c11:qS K cd11 "is_nearer" = true) (k11:qP K (.ref f11)=true)
  (a12:qQ K qM "rules_that_fit" = some (some (.ref f12))) (l12:K.lookup f12=some ⟨oc12,od12,.func (qX "rules_that_fit" "rules_that_fit" (zbw zeb) (zbu zeb) (zap zeb) .none kV12 dc12 pm12 an12 cd12 ct12),sl12⟩) (c12:qS K cd12 "rules_that_fit" = true) (k12:qP K (.ref f12)=true)
  (a13:qQ K qM "nearest_of" = some (some (.ref f13))) (l13:K.lookup f13=some ⟨oc13,od13,.func (qX "nearest_of" "nearest_of" (zbw zgi) (zbu zgi) (zap zgi) .none kV13 dc13 pm13 an13 cd13 ct13),sl13⟩) (c13:qS K cd13 "nearest_of" = true) (k13:qP K (.ref f13)=true)
  (a14:qQ K qM "rule_names" = some (some (.ref f14))) (l14:K.lookup f14=some ⟨oc14,od14,.func (qX "rule_names" "rule_names" (zbw zgj) (zbu zgj) (zap zgj) .none kV14 dc14 pm14 an14 cd14 ct14),sl14⟩) (c14:qS K cd14 "rule_names" = true) (k14:qP K (.ref f14)=true)
  (a15:qQ K qM "answer_by" = some (some (.ref f15))) (l15:K.lookup f15=some ⟨oc15,od15,.func (qX "answer_by" "answer_by" (zbw zhi) (zbu zhi) (zap zhi) .none kV15 dc15 pm15 an15 cd15 ct15),sl15⟩) (c15:qS K cd15 "answer_by" = true) (k15:qP K (.ref f15)=true)
  (a16:qQ K qM "nearest" = some (some (.ref f16))) (l16:K.lookup f16=some ⟨oc16,od16,.func (qX "nearest" "nearest" (zbw zjw) (zbu zjw) (zap zjw) .none kV16 dc16 pm16 an16 cd16 ct16),sl16⟩) (c16:qS K cd16 "nearest" = true) (k16:qP K (.ref f16)=true)
  (a17:qQ K qM "answer_of" = some (some (.ref f17))) (l17:K.lookup f17=some ⟨oc17,od17,.func (qX "answer_of" "answer_of" (zbw zhj) (zbu zhj) (zap zhj) .none kV17 dc17 pm17 an17 cd17 ct17),sl17⟩) (c17:qS K cd17 "answer_of" = true) (k17:qP K (.ref f17)=true)
  (a18:qQ K qM "why_out" = some (some (.ref f18))) (l18:K.lookup f18=some ⟨oc18,od18,.func (qX "why_out" "why_out" (zbw zjx) (zbu zjx) (zap zjx) .none kV18 dc18 pm18 an18 cd18 ct18),sl18⟩) (c18:qS K cd18 "why_out" = true) (k18:qP K (.ref f18)=true)
  (a19:qQ K qM "why_in" = some (some (.ref f19))) (l19:K.lookup f19=some ⟨oc19,od19,.func (qX "why_in" "why_in" (zbw zmm) (zbu zmm) (zap zmm) .none kV19 dc19 pm19 an19 cd19 ct19),sl19⟩) (c19:qS K cd19 "why_in" = true) (k19:qP K (.ref f19)=true)
  (a20:qQ K qM "why" = some (some (.ref f20))) (l20:K.lookup f20=some ⟨oc20,od20,.func (qX "why" "why" (zbw zafj) (zbu zafj) (zap zafj) .none kV20 dc20 pm20 an20 cd20 ct20),sl20⟩) (c20:qS K cd20 "why" = true) (k20:qP K (.ref f20)=true)
  (a21:qQ K qM "is_out" = some (some (.ref f21))) (l21:K.lookup f21=some ⟨oc21,od21,.func (qX "is_out" "is_out" (zbw zmn) (zbu zmn) (zap zmn) .none kV21 dc21 pm21 an21 cd21 ct21),sl21⟩) (c21:qS K cd21 "is_out" = true) (k21:qP K (.ref f21)=true)
  (a22:qQ K qM "is_farther" = some (some (.ref f22))) (l22:K.lookup f22=some ⟨oc22,od22,.func (qX "is_farther" "is_farther" (zbw zgk) (zbu zgk) (zap zgk) .none kV22 dc22 pm22 an22 cd22 ct22),sl22⟩) (c22:qS K cd22 "is_farther" = true) (k22:qP K (.ref f22)=true)
  (a23:qQ K qM "is_line" = some (some (.ref f23))) (l23:K.lookup f23=some ⟨oc23,od23,.func (qX "is_line" "is_line" (zbw zjy) (zbu zjy) (zap zjy) .none kV23 dc23 pm23 an23 cd23 ct23),sl23⟩) (c23:qS K cd23 "is_line" = true) (k23:qP K (.ref f23)=true)
  (a24:qQ K qM "shows" = some (some (.ref f24))) (l24:K.lookup f24=some ⟨oc24,od24,.func (qX "shows" "shows" (zbw zpk) (zbu zpk) (zap zpk) .none kV24 dc24 pm24 an24 cd24 ct24),sl24⟩) (c24:qS K cd24 "shows" = true) (k24:qP K (.ref f24)=true)
  (a25:qQ K qM "_law_draws" = some (some (.ref f25))) (l25:K.lookup f25=some ⟨oc25,od25,.func (qX "_law_draws" "_law_draws" (zbw zhk) (zbu zhk) (zap zhk) .none kV25 dc25 pm25 an25 cd25 ct25),sl25⟩) (c25:qS K cd25 "_law_draws" = true) (k25:qP K (.ref f25)=true)
  (a26:qQ K qM "_law_names" = some (some (.ref f26))) (l26:K.lookup f26=some ⟨oc26,od26,.func (qX "_law_names" "_law_names" (zbw zhl) (zbu zhl) (zap zhl) .none kV26 dc26 pm26 an26 cd26 ct26),sl26⟩) (c26:qS K cd26 "_law_names" = true) (k26:qP K (.ref f26)=true)
  (a27:qQ K qM "_law_web" = some (some (.ref f27))) (l27:K.lookup f27=some ⟨oc27,od27,.func (qX "_law_web" "_law_web" (zbw zjz) (zbu zjz) (zap zjz) .none kV27 dc27 pm27 an27 cd27 ct27),sl27⟩) (c27:qS K cd27 "_law_web" = true) (k27:qP K (.ref f27)=true)
  (a28:qQ K qM "_law_up" = some (some (.ref f28))) (l28:K.lookup f28=some ⟨oc28,od28,.func (qX "_law_up" "_law_up" (zbw zmo) (zbu zmo) (zap zmo) .none kV28 dc28 pm28 an28 cd28 ct28),sl28⟩) (c28:qS K cd28 "_law_up" = true) (k28:qP K (.ref f28)=true)
  (a29:qQ K qM "_law_parts" = some (some (.ref f29))) (l29:K.lookup f29=some ⟨oc29,od29,.func (qX "_law_parts" "_law_parts" (zbw zhm) (zbu zhm) (zap zhm) .none kV29 dc29 pm29 an29 cd29 ct29),sl29⟩) (c29:qS K cd29 "_law_parts" = true) (k29:qP K (.ref f29)=true)
  (a30:qQ K qM "_law_call" = some (some (.ref f30))) (l30:K.lookup f30=some ⟨oc30,od30,.func (qX "_law_call" "_law_call" (zbw zit) (zbu zit) (zap zit) .none kV30 dc30 pm30 an30 cd30 ct30),sl30⟩) (c30:qS K cd30 "_law_call" = true) (k30:qP K (.ref f30)=true)
  (a31:qQ K qM "_law_rules" = some (some (.ref f31))) (l31:K.lookup f31=some ⟨oc31,od31,.func (qX "_law_rules" "_law_rules" (zbw zhn) (zbu zhn) (zap zhn) .none kV31 dc31 pm31 an31 cd31 ct31),sl31⟩) (c31:qS K cd31 "_law_rules" = true) (k31:qP K (.ref f31)=true)
  (a32:qQ K qM "_law_on" = some (some (.ref f32))) (l32:K.lookup f32=some ⟨oc32,od32,.func (qX "_law_on" "_law_on" (zbw zmp) (zbu zmp) (zap zmp) .none kV32 dc32 pm32 an32 cd32 ct32),sl32⟩) (c32:qS K cd32 "_law_on" = true) (k32:qP K (.ref f32)=true)
  (a33:qQ K qM "_law_fits" = some (some (.ref f33))) (l33:K.lookup f33=some ⟨oc33,od33,.func (qX "_law_fits" "_law_fits" (zbw ziu) (zbu ziu) (zap ziu) .none kV33 dc33 pm33 an33 cd33 ct33),sl33⟩) (c33:qS K cd33 "_law_fits" = true) (k33:qP K (.ref f33)=true)
  (a34:qQ K qM "_law_item" = some (some (.ref f34))) (l34:K.lookup f34=some ⟨oc34,od34,.func (qX "_law_item" "_law_item" (zbw ziv) (zbu ziv) (zap ziv) .none kV34 dc34 pm34 an34 cd34 ct34),sl34⟩) (c34:qS K cd34 "_law_item" = true) (k34:qP K (.ref f34)=true)
  (a35:qQ K qM "_law_answer" = some (some (.ref f35))) (l35:K.lookup f35=some ⟨oc35,od35,.func (qX "_law_answer" "_law_answer" (zbw zgm) (zbu zgm) (zap zgm) .none kV35 dc35 pm35 an35 cd35 ct35),sl35⟩) (c35:qS K cd35 "_law_answer" = true) (k35:qP K (.ref f35)=true)
  (a36:qQ K qM "_law_right" = some (some (.ref f36))) (l36:K.lookup f36=some ⟨oc36,od36,.func (qX "_law_right" "_law_right" (zbw zho) (zbu zho) (zap zho) .none kV36 dc36 pm36 an36 cd36 ct36),sl36⟩) (c36:qS K cd36 "_law_right" = true) (k36:qP K (.ref f36)=true)
  (a37:qQ K qM "law" = some (some (.ref f37))) (l37:K.lookup f37=some ⟨oc37,od37,.func (qX "law" "law" (zbw zwo) (zbu zwo) (zap zwo) .none kV37 dc37 pm37 an37 cd37 ct37),sl37⟩) (c37:qS K cd37 "law" = true) (k37:qP K (.ref f37)=true)
  (z1:qQ K qM "all" = some none) (z2:qQ K qM "any" = some none) (z3:qQ K qM "bool" = some none) (z4:qQ K qM "enumerate" = some none) (z5:qQ K qM "int" = some none) (z6:qQ K qM "isinstance" = some none) (z7:qQ K qM "len" = some none) (z8:qQ K qM "list" = some none) (z9:qQ K qM "min" = some none) (z10:qQ K qM "range" = some none) (z11:qQ K qM "tuple" = some none) (z12:qQ K qM "zip" = some none) :
  ∃ fd:qw,(∀ (s:Shared) (v:Value),BindsTo s fd ⟨[v],[]⟩ [("_law_script",v)])∧∀ base:Heap,K.In base→base.Ns qM mg→FnOk l.prog w K mg base CX0 8 fa fd ["_law_script"] (zanr K):=by
 have e:=hfa.symm.trans (qa X G a37)
 cases e
 have T:Txt mg:=⟨qAP X G z1,qAP X G z2,qAP X G z3,qAP X G z4,qAP X G z5,qAP X G z6,qAP X G z7,qAP X G z8,qAP X G z9,qAP X G z10,qAP X G z11,qAP X G z12⟩
 have F1:=zcz (st:=zio) l1 c1 k1
 have b1:=F1.binds (ps:=["thing"]) fun _ _ _ _ _ _ us hl=>by obtain ⟨_,rfl⟩:=us_1 hl;rfl
 have F2:=zcz (st:=ziq) l2 c2 k2
 have b2:=F2.binds (ps:=["web"]) fun _ _ _ _ _ _ us hl=>by obtain ⟨_,rfl⟩:=us_1 hl;rfl
 have F3:=zcz (st:=zir) l3 c3 k3
 have b3:=F3.binds (ps:=["arm"]) fun _ _ _ _ _ _ us hl=>by obtain ⟨_,rfl⟩:=us_1 hl;rfl
 have F4:=zcz (st:=zfo) l4 c4 k4
 have b4:=F4.binds (ps:=["web", "names"]) fun _ _ _ _ _ _ us hl=>by obtain ⟨_,_,rfl⟩:=us_2 hl;rfl
 have F5:=zcz (st:=zis) l5 c5 k5
 have b5:=F5.binds (ps:=["web"]) fun _ _ _ _ _ _ us hl=>by obtain ⟨_,rfl⟩:=us_1 hl;rfl
 have F6:=zcz (st:=zjv) l6 c6 k6
 have b6:=F6.binds (ps:=["roofs", "arm"]) fun _ _ _ _ _ _ us hl=>by obtain ⟨_,_,rfl⟩:=us_2 hl;rfl
 have F7:=zcz (st:=zeo) l7 c7 k7
 have b7:=F7.binds (ps:=["call"]) fun _ _ _ _ _ _ us hl=>by obtain ⟨_,rfl⟩:=us_1 hl;rfl
 have F8:=zcz (st:=zgg) l8 c8 k8
 have b8:=F8.binds (ps:=["web", "places", "call"]) fun _ _ _ _ _ _ us hl=>by obtain ⟨_,_,_,rfl⟩:=us_3 hl;rfl
 have F9:=zcz (st:=zep) l9 c9 k9
 have b9:=F9.binds (ps:=["roofs", "call"]) fun _ _ _ _ _ _ us hl=>by obtain ⟨_,_,rfl⟩:=us_2 hl;rfl
 have F10:=zcz (st:=zgh) l10 c10 k10
 have b10:=F10.binds (ps:=["kinds", "call_roofs"]) fun _ _ _ _ _ _ us hl=>by obtain ⟨_,_,rfl⟩:=us_2 hl;rfl
 have F11:=zcz (st:=zhh) l11 c11 k11
 have b11:=F11.binds (ps:=["roofs", "one", "other"]) fun _ _ _ _ _ _ us hl=>by obtain ⟨_,_,_,rfl⟩:=us_3 hl;rfl
 have F12:=zcz (st:=zeb) l12 c12 k12
 have b12:=F12.binds (ps:=["book", "call"]) fun _ _ _ _ _ _ us hl=>by obtain ⟨_,_,rfl⟩:=us_2 hl;rfl
 have F13:=zcz (st:=zgi) l13 c13 k13
 have b13:=F13.binds (ps:=["roofs", "rules"]) fun _ _ _ _ _ _ us hl=>by obtain ⟨_,_,rfl⟩:=us_2 hl;rfl
 have F14:=zcz (st:=zgj) l14 c14 k14
 have b14:=F14.binds (ps:=["rules"]) fun _ _ _ _ _ _ us hl=>by obtain ⟨_,rfl⟩:=us_1 hl;rfl
 have F15:=zcz (st:=zhi) l15 c15 k15
 have b15:=F15.binds (ps:=["names"]) fun _ _ _ _ _ _ us hl=>by obtain ⟨_,rfl⟩:=us_1 hl;rfl
 have F16:=zcz (st:=zjw) l16 c16 k16
 have b16:=F16.binds (ps:=["book", "call"]) fun _ _ _ _ _ _ us hl=>by obtain ⟨_,_,rfl⟩:=us_2 hl;rfl
 have F17:=zcz (st:=zhj) l17 c17 k17
 have b17:=F17.binds (ps:=["book", "call"]) fun _ _ _ _ _ _ us hl=>by obtain ⟨_,_,rfl⟩:=us_2 hl;rfl
 have F18:=zcz (st:=zjx) l18 c18 k18
 have b18:=F18.binds (ps:=["kinds", "call_roofs"]) fun _ _ _ _ _ _ us hl=>by obtain ⟨_,_,rfl⟩:=us_2 hl;rfl
 have F19:=zcz (st:=zmm) l19 c19 k19
 have b19:=F19.binds (ps:=["roofs", "fit", "kinds"]) fun _ _ _ _ _ _ us hl=>by obtain ⟨_,_,_,rfl⟩:=us_3 hl;rfl
 have F20:=zcz (st:=zafj) l20 c20 k20
 have b20:=F20.binds (ps:=["book", "call"]) fun _ _ _ _ _ _ us hl=>by obtain ⟨_,_,rfl⟩:=us_2 hl;rfl
 have F21:=zcz (st:=zmn) l21 c21 k21
 have b21:=F21.binds (ps:=["kinds", "call_roofs", "thing"]) fun _ _ _ _ _ _ us hl=>by obtain ⟨_,_,_,rfl⟩:=us_3 hl;rfl
 have F22:=zcz (st:=zgk) l22 c22 k22
 have b22:=F22.binds (ps:=["roofs", "fit", "kinds", "thing"]) fun _ _ _ _ _ _ us hl=>by obtain ⟨_,_,_,_,rfl⟩:=us_4 hl;rfl
 have F23:=zcz (st:=zjy) l23 c23 k23
 have b23:=F23.binds (ps:=["roofs", "call_roofs", "fit", "rule", "thing"]) fun _ _ _ _ _ _ us hl=>by obtain ⟨_,_,_,_,_,rfl⟩:=us_5 hl;rfl
 have F24:=zcz (st:=zpk) l24 c24 k24
 have b24:=F24.binds (ps:=["book", "call", "answer", "paper"]) fun _ _ _ _ _ _ us hl=>by obtain ⟨_,_,_,_,rfl⟩:=us_4 hl;rfl
 have F25:=zcz (st:=zhk) l25 c25 k25
 have b25:=F25.binds (ps:=["_law_script", "_law_many"]) fun _ _ _ _ _ _ us hl=>by obtain ⟨_,_,rfl⟩:=us_2 hl;rfl
 have F26:=zcz (st:=zhl) l26 c26 k26
 have b26:=F26.binds (ps:=["_law_many", "_law_cell"]) fun _ _ _ _ _ _ us hl=>by obtain ⟨_,_,rfl⟩:=us_2 hl;rfl
 have F27:=zcz (st:=zjz) l27 c27 k27
 have b27:=F27.binds (ps:=["_law_cells", "_law_names_here"]) fun _ _ _ _ _ _ us hl=>by obtain ⟨_,_,rfl⟩:=us_2 hl;rfl
 have F28:=zcz (st:=zmo) l28 c28 k28
 have b28:=F28.binds (ps:=["_law_web_here"]) fun _ _ _ _ _ _ us hl=>by obtain ⟨_,rfl⟩:=us_1 hl;rfl
 have F29:=zcz (st:=zhm) l29 c29 k29
 have b29:=F29.binds (ps:=["_law_arm"]) fun _ _ _ _ _ _ us hl=>by obtain ⟨_,rfl⟩:=us_1 hl;rfl
 have F30:=zcz (st:=zit) l30 c30 k30
 have b30:=F30.binds (ps:=["_law_cell", "_law_names_here", "_law_places"]) fun _ _ _ _ _ _ us hl=>by obtain ⟨_,_,_,rfl⟩:=us_3 hl;rfl
 have F31:=zcz (st:=zhn) l31 c31 k31
 have b31:=F31.binds (ps:=["_law_cells", "_law_names_here", "_law_up_here", "_law_call_here", "_law_titles"]) fun _ _ _ _ _ _ us hl=>by obtain ⟨_,_,_,_,_,rfl⟩:=us_5 hl;rfl
 have F32:=zcz (st:=zmp) l32 c32 k32
 have b32:=F32.binds (ps:=["_law_up_here", "_law_arm", "_law_kind"]) fun _ _ _ _ _ _ us hl=>by obtain ⟨_,_,_,rfl⟩:=us_3 hl;rfl
 have F33:=zcz (st:=ziu) l33 c33 k33
 have b33:=F33.binds (ps:=["_law_up_here", "_law_kinds", "_law_call_here"]) fun _ _ _ _ _ _ us hl=>by obtain ⟨_,_,_,rfl⟩:=us_3 hl;rfl
 have F34:=zcz (st:=ziv) l34 c34 k34
 have b34:=F34.binds (ps:=["_law_up_here", "_law_rules_here", "_law_kinds", "_law_call_here", "_law_item_here"]) fun _ _ _ _ _ _ us hl=>by obtain ⟨_,_,_,_,_,rfl⟩:=us_5 hl;rfl
 have F35:=zcz (st:=zgm) l35 c35 k35
 have b35:=F35.binds (ps:=["_law_up_here", "_law_rules_here", "_law_call_here", "_law_paper"]) fun _ _ _ _ _ _ us hl=>by obtain ⟨_,_,_,_,rfl⟩:=us_4 hl;rfl
 have F36:=zcz (st:=zho) l36 c36 k36
 have b36:=F36.binds (ps:=["_law_book", "_law_up_here", "_law_call_here"]) fun _ _ _ _ _ _ us hl=>by obtain ⟨_,_,_,rfl⟩:=us_3 hl;rfl
 have F37:=zcz (st:=zwo) l37 c37 k37
 refine ⟨qX "law" "law" (zbw zwo) (zbu zwo) (zap zwo) .none kV37 dc37 pm37 an37 cd37 ct37,fun s v=>.of_eq rfl,fun base _ _=>?_⟩
 have D_is_whole:zux l.prog w K mg base:=⟨f1,_,zabq F1 T , qa X G a1,k1,b1⟩
 have D_names_of:zuy l.prog w K mg base:=⟨f2,_,zabr F2 T , qa X G a2,k2,b2⟩
 have D_names_in:zpl l.prog w K mg base:=⟨f3,_,zabs F3 T , qa X G a3,k3,b3⟩
 have D_check_kinds:zop l.prog w K mg base:=⟨f4,_,zua F4 T D_names_of,qa X G a4,k4,b4⟩
 have D_roofs_of:zka l.prog w K mg base:=⟨f5,_,zabt F5 T , qa X G a5,k5,b5⟩
 have D_roof_of:zzn l.prog w K mg base:=⟨f6,_,zafm F6 T D_names_in,qa X G a6,k6,b6⟩
 have D_names_in_call:zly l.prog w K mg base:=⟨f7,_,zrb F7 T D_names_in,qa X G a7,k7,b7⟩
 have D_check_call:zqm l.prog w K mg base:=⟨f8,_,zwq F8 T D_check_kinds D_names_in_call,qa X G a8,k8,b8⟩
 have D_roofs_in_call:zgt l.prog w K mg base:=⟨f9,_,zrc F9 T D_roof_of,qa X G a9,k9,b9⟩
 have D_fits_under:zlz l.prog w K mg base:=⟨f10,_,zwr F10 T , qa X G a10,k10,b10⟩
 have D_is_nearer:zko l.prog w K mg base:=⟨f11,_,zzs F11 T , qa X G a11,k11,b11⟩
 have D_rules_that_fit:zfz l.prog w K mg base:=⟨f12,_,zpn F12 T D_check_call D_fits_under D_roofs_in_call D_roofs_of,qa X G a12,k12,b12⟩
 have D_nearest_of:zma l.prog w K mg base:=⟨f13,_,zws F13 T D_is_nearer,qa X G a13,k13,b13⟩
 have D_rule_names:zmb l.prog w K mg base:=⟨f14,_,zwt F14 T , qa X G a14,k14,b14⟩
 have D_answer_by:znq l.prog w K mg base:=⟨f15,_,zzt F15 T , qa X G a15,k15,b15⟩
 have D_nearest:zzo l.prog w K mg base:=⟨f16,_,zafn F16 T D_nearest_of D_roofs_of D_rule_names D_rules_that_fit,qa X G a16,k16,b16⟩
 have D_answer_of:zth l.prog w K mg base:=⟨f17,_,zzu F17 T D_answer_by D_nearest,qa X G a17,k17,b17⟩
 have D_why_out:zzp l.prog w K mg base:=⟨f18,_,zafo F18 T , qa X G a18,k18,b18⟩
 have D_why_in:zaeb l.prog w K mg base:=⟨f19,_,zajo F19 T D_is_nearer,qa X G a19,k19,b19⟩
 have D_why:zaub l.prog w K mg base:=⟨f20,_,zauc F20 T D_fits_under D_roofs_in_call D_roofs_of D_rules_that_fit D_why_in D_why_out,qa X G a20,k20,b20⟩
 have D_is_out:zaec l.prog w K mg base:=⟨f21,_,zajp F21 T D_is_whole,qa X G a21,k21,b21⟩
 have D_is_farther:zqn l.prog w K mg base:=⟨f22,_,zwu F22 T D_is_nearer,qa X G a22,k22,b22⟩
 have D_is_line:zzq l.prog w K mg base:=⟨f23,_,zafp F23 T D_is_farther D_is_out,qa X G a23,k23,b23⟩
 have D_shows:zajn l.prog w K mg base:=⟨f24,_,zamw F24 T D_answer_by D_is_line D_nearest_of D_roofs_in_call D_roofs_of D_rule_names D_rules_that_fit,qa X G a24,k24,b24⟩
 have D_law_draws:Dn l.prog w K mg base "_law_draws" ["_law_script", "_law_many"] 1 (zacj K):=⟨f25,_,zaai F25 T , qa X G a25,k25,b25⟩
 have D_law_names:zti l.prog w K mg base:=⟨f26,_,zzv F26 T , qa X G a26,k26,b26⟩
 have D_law_web:zzr l.prog w K mg base:=⟨f27,_,zafq F27 T , qa X G a27,k27,b27⟩
 have D_law_up:zaed l.prog w K mg base:=⟨f28,_,zajq F28 T , qa X G a28,k28,b28⟩
 have D_law_parts:znr l.prog w K mg base:=⟨f29,_,zzw F29 T , qa X G a29,k29,b29⟩
 have D_law_call:zuz l.prog w K mg base:=⟨f30,_,zabu F30 T , qa X G a30,k30,b30⟩
 have D_law_rules:ztj l.prog w K mg base:=⟨f31,_,zzx F31 T D_law_parts,qa X G a31,k31,b31⟩
 have D_law_on:zwp l.prog w K mg base:=⟨f32,_,zajr F32 T D_law_parts,qa X G a32,k32,b32⟩
 have D_law_fits:zpm l.prog w K mg base:=⟨f33,_,zabv F33 T D_law_on,qa X G a33,k33,b33⟩
 have D_law_item:zva l.prog w K mg base:=⟨f34,_,zabw F34 T D_law_fits D_law_on,qa X G a34,k34,b34⟩
 have D_law_answer:zqo l.prog w K mg base:=⟨f35,_,zwv F35 T D_law_fits D_law_item,qa X G a35,k35,b35⟩
 have D_law_right:ztk l.prog w K mg base:=⟨f36,_,zzy F36 T D_law_answer D_answer_of D_shows D_why,qa X G a36,k36,b36⟩
 exact zaul F37 T D_law_call D_law_draws D_law_names D_law_right D_law_rules D_law_up D_law_web
theorem walk {l:PySem.W.OpenLaw} {q:Program} {loose:List Str} {XP:(Str→Option Value)→Heap→Prop} {YP:World→Heap→Prop} {d:DefRec} {K:Params→qB} (hn:l.most=some 63) (hdf:d.params.defaults=[])
  (hY:∀ (w:World) (h:Heap),YP w h→(K w.params).In h)
  (F:∀ (w:World) (mg:Str→Option Value) (fa:Addr) (h:Heap),(K w.params).In h→h.Ns qM mg→mg d.name=some (.ref fa) →
   ∃ fd:qw,(∀ (s:Shared) (u:Value),BindsTo s fd ⟨[u],[]⟩ [("_law_script",u)])∧∀ base:Heap,(K w.params).In base→base.Ns qM mg→FnOk l.prog w (K w.params) mg base CX0 8 fa fd ["_law_script"] (zanr (K w.params))) :
  PySem.W.WalkO q loose XP YP l.row.toRowW d [] (fun f vs=>PySem.call f vs) :=
 L2.walk_of (n:=63) (k:=8) (x:="_law_script") (CX:=fun _=>CX0) (sp:=fun w=>zanr (K w.params)) hn (by decide) hdf ⟨rfl,by decide,by decide⟩ hY F (fun _ _ a ns hl _ hS=>⟨a,ns,rfl,hS,fun _=>rfl⟩) fun _ _ _ _ _ z=>z
end Bc
theorem PySem.W.Fast.te11195025146636288651:True:=trivial
noncomputable def PySem.W.Fast.tw8836460723148128564:PySem.Program:=PySem.Challenge.pw_bestcalls_k16_papers_written
theorem PySem.W.Fast.te8836460723148128564:PySem.Challenge.pw_bestcalls_k16_papers_written=PySem.W.Fast.tw8836460723148128564:=rfl
open PySem PySem.W PyProof.Rows
set_option maxRecDepth 100000 in
set_option maxHeartbeats 0 in
theorem PySem.Challenge.cw_bestcalls_k16_papers_written_holds : PySem.Challenge.rw_bestcalls_k16_papers_written.Holds := by
 w_on;o_law;k_head;(case hw=>w_witness2)
 k_fill
 refine Bc.walk (l:=PySem.Challenge.rw_bestcalls_k16_papers_written) rfl rfl (fun w h Y=>PySem.W.kIn_of Y) ?F
 case F =>
  intro w mg fa h KX G hmg
  refine' Bc.all_mk KX G hmg ?a1 ?l1 ?c1 ?k1 ?a2 ?l2 ?c2 ?k2 ?a3 ?l3 ?c3 ?k3 ?a4 ?l4 ?c4 ?k4 ?a5 ?l5 ?c5 ?k5 ?a6 ?l6 ?c6 ?k6 ?a7 ?l7 ?c7 ?k7 ?a8 ?l8 ?c8 ?k8 ?a9 ?l9 ?c9 ?k9 ?a10 ?l10 ?c10 ?k10 ?a11 ?l11 ?c11 ?k11 ?a12 ?l12 ?c12 ?k12 ?a13 ?l13 ?c13 ?k13 ?a14 ?l14 ?c14 ?k14 ?a15 ?l15 ?c15 ?k15 ?a16 ?l16 ?c16 ?k16 ?a17 ?l17 ?c17 ?k17 ?a18 ?l18 ?c18 ?k18 ?a19 ?l19 ?c19 ?k19 ?a20 ?l20 ?c20 ?k20 ?a21 ?l21 ?c21 ?k21 ?a22 ?l22 ?c22 ?k22 ?a23 ?l23 ?c23 ?k23 ?a24 ?l24 ?c24 ?k24 ?a25 ?l25 ?c25 ?k25 ?a26 ?l26 ?c26 ?k26 ?a27 ?l27 ?c27 ?k27 ?a28 ?l28 ?c28 ?k28 ?a29 ?l29 ?c29 ?k29 ?a30 ?l30 ?c30 ?k30 ?a31 ?l31 ?c31 ?k31 ?a32 ?l32 ?c32 ?k32 ?a33 ?l33 ?c33 ?k33 ?a34 ?l34 ?c34 ?k34 ?a35 ?l35 ?c35 ?k35 ?a36 ?l36 ?c36 ?k36 ?a37 ?l37 ?c37 ?k37 ?z1 ?z2 ?z3 ?z4 ?z5 ?z6 ?z7 ?z8 ?z9 ?z10 ?z11 ?z12
  (case a1=>k_is)
  (case l1=>k_is)
  (case c1=>k_is)
  (case k1=>k_is)
  (case a2=>k_is)
  (case l2=>k_is)
  (case c2=>k_is)
  (case k2=>k_is)
  (case a3=>k_is)
  (case l3=>k_is)
  (case c3=>k_is)
  (case k3=>k_is)
  (case a4=>k_is)
  (case l4=>k_is)
  (case c4=>k_is)
  (case k4=>k_is)
  (case a5=>k_is)
  (case l5=>k_is)
  (case c5=>k_is)
  (case k5=>k_is)
  (case a6=>k_is)
  (case l6=>k_is)
  (case c6=>k_is)
  (case k6=>k_is)
  (case a7=>k_is)
  (case l7=>k_is)
  (case c7=>k_is)
  (case k7=>k_is)
  (case a8=>k_is)
  (case l8=>k_is)
  (case c8=>k_is)
  (case k8=>k_is)
  (case a9=>k_is)
  (case l9=>k_is)
  (case c9=>k_is)
  (case k9=>k_is)
  (case a10=>k_is)
  (case l10=>k_is)
  (case c10=>k_is)
  (case k10=>k_is)
  (case a11=>k_is)
  (case l11=>k_is)
  (case c11=>k_is)
  (case k11=>k_is)
  (case a12=>k_is)
  (case l12=>k_is)
  (case c12=>k_is)
  (case k12=>k_is)
  (case a13=>k_is)
  (case l13=>k_is)
  (case c13=>k_is)
  (case k13=>k_is)
  (case a14=>k_is)
  (case l14=>k_is)
  (case c14=>k_is)
  (case k14=>k_is)
  (case a15=>k_is)
  (case l15=>k_is)
  (case c15=>k_is)
  (case k15=>k_is)
  (case a16=>k_is)
  (case l16=>k_is)
  (case c16=>k_is)
  (case k16=>k_is)
  (case a17=>k_is)
  (case l17=>k_is)
  (case c17=>k_is)
  (case k17=>k_is)
  (case a18=>k_is)
  (case l18=>k_is)
  (case c18=>k_is)
  (case k18=>k_is)
  (case a19=>k_is)
  (case l19=>k_is)
  (case c19=>k_is)
  (case k19=>k_is)
  (case a20=>k_is)
  (case l20=>k_is)
  (case c20=>k_is)
  (case k20=>k_is)
  (case a21=>k_is)
  (case l21=>k_is)
  (case c21=>k_is)
  (case k21=>k_is)
  (case a22=>k_is)
  (case l22=>k_is)
  (case c22=>k_is)
  (case k22=>k_is)
  (case a23=>k_is)
  (case l23=>k_is)
  (case c23=>k_is)
  (case k23=>k_is)
  (case a24=>k_is)
  (case l24=>k_is)
  (case c24=>k_is)
  (case k24=>k_is)
  (case a25=>k_is)
  (case l25=>k_is)
  (case c25=>k_is)
  (case k25=>k_is)
  (case a26=>k_is)
  (case l26=>k_is)
  (case c26=>k_is)
  (case k26=>k_is)
  (case a27=>k_is)
  (case l27=>k_is)
  (case c27=>k_is)
  (case k27=>k_is)
  (case a28=>k_is)
  (case l28=>k_is)
  (case c28=>k_is)
  (case k28=>k_is)
  (case a29=>k_is)
  (case l29=>k_is)
  (case c29=>k_is)
  (case k29=>k_is)
  (case a30=>k_is)
  (case l30=>k_is)
  (case c30=>k_is)
  (case k30=>k_is)
  (case a31=>k_is)
  (case l31=>k_is)
  (case c31=>k_is)
  (case k31=>k_is)
  (case a32=>k_is)
  (case l32=>k_is)
  (case c32=>k_is)
  (case k32=>k_is)
  (case a33=>k_is)
  (case l33=>k_is)
  (case c33=>k_is)
  (case k33=>k_is)
  (case a34=>k_is)
  (case l34=>k_is)
  (case c34=>k_is)
  (case k34=>k_is)
  (case a35=>k_is)
  (case l35=>k_is)
  (case c35=>k_is)
  (case k35=>k_is)
  (case a36=>k_is)
  (case l36=>k_is)
  (case c36=>k_is)
  (case k36=>k_is)
  (case a37=>k_is)
  (case l37=>k_is)
  (case c37=>k_is)
  (case k37=>k_is)
  (case z1=>k_is)
  (case z2=>k_is)
  (case z3=>k_is)
  (case z4=>k_is)
  (case z5=>k_is)
  (case z6=>k_is)
  (case z7=>k_is)
  (case z8=>k_is)
  (case z9=>k_is)
  (case z10=>k_is)
  (case z11=>k_is)
  (case z12=>k_is)
