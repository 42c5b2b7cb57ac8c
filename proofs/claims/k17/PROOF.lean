import PyProof.Rows.All
import Wide.All
import OpenK.AllK
import Wide.FinOn
import Lean
import PyProof.EqAt
import PyProof.EqKinds
import PyProof.TupleCall
import KE.KRevSl
import PySem.Challenge.RW_bestcalls_k17_papers_looked_at
set_option genSizeOf false
set_option Elab.async false
set_option linter.all false
set_option maxRecDepth 100000
noncomputable section
open Option renaming bind_eq_some_iff→qA,bind_some→qF,map_eq_some_iff→qK,map_some→qA2,isSome_map→qB5,isSome_some→qCy
open PySem.W renaming Frag→qB,keepIn→qT,nsIn→qU,codeIn→qV,fnOf→qd,mg_of→qe,mg_none_of→qAU,kia_one→qAm,cellsFrom_some→qCW,kitx_list→qCw,kitx_dict→qCx
open List renaming length_map→qC,getElem?_eq_getElem→qE,mem_cons_of_mem→qJ,getElem?_map→qL,size_toArray→qS,mem_cons_self→qX,getElem?_eq_some_iff→qZ,map_cons→qa,length_append→qb,mem_filter→qc,mem_cons→qg,mem_append_right→qo,mem_append→qv,getElem_mem→qy,mem_append_left→qAD,getD_eq_getElem?_getD→qAF,getElem?_cons_succ→qAG,getElem?_append_left→qAH,length_cons→qAI,mem_map→qAJ,getElem?_set_ne→qAL,lookup_cons→qAM,any_eq_true→qAN,all_eq_true→qAO,of_mem_zip→qAP,map_append→qAQ,length_set→qAR,getElem?_cons_zero→qAS,mem_singleton→qAV,getElem?_append_right→qAW,getElem?_set_self→qAY,map_map→qAa,mem_range→qAb,length_drop→qAc,mem_of_mem_take→qAd,mem_of_mem_drop→qAe,append_nil→qAh,not_mem_nil→qAi,length_take→qAj,all_cons→qAk,length_replicate→qAl,zip_cons_cons→qAq,take_append_of_le_length→qAr,mem_of_getElem?→qAs,filter_cons→qAw,length_filter_le→qAy,nodup_cons→qA3,any_cons→qA4,length_zip→qA9,any_eq_false→qBC,drop_eq_getElem_cons→qBF,map_take→qBI,length_eq_zero_iff→qBJ,getElem?_replicate→qBK,find?_cons→qBL,nodup_append→qBN,append_assoc→qBO,drop_length→qBR,zipIdx_map_fst→qBS,replicate_succ→qBT,map_congr_left→qBU,length_pos_iff→qBV,getElem_of_mem→qBW,foldl_cons→qBX,set_cons_zero→qBa,set_cons_succ→qBb,mem_filterMap→qBc,map_nil→qBd,any_map→qBe,getElem?_zip_eq_some→qBf,reverse_cons→qBh,foldl_append→qBi,eq_of_mem_replicate→qBj,map_drop→qBl,mem_nil_iff→qBm,mem_flatMap→qBn,nodup_nil→qBv,filter_eq_self→qB0,filterMap_cons→qB1,take_sublist→qB8,length_range→qB9,filter_congr→qCA,zipIdx_cons→qCD,take_length→qCE,map_fst_zip→qCF,length_nil→qCN,forIn_cons→qCO,pairwise_iff_getElem→qCY,take_of_length_le→qCm,range_succ_eq_map→qCn,length_pos_of_mem→qCo,take_append_drop→qCs,getElem?_eq_none→qCt,all_map→qCu,getElem?_zipIdx→qC1,length_reverse→qC5
open PySem renaming wpAny_bind→qD,mainGlobals→qP,wpAny_pure→qQ,Expr→qR,sizeLine→qk,Pos→qm,FuncData→qAB,starEach→qAK,mem_of_lookup→qAT,wpAny_field→qAn,wpAny_callSpecial?_slot→qAo,wpAny_pyIter_tuple→qAt,wpAny_truthy_bool→qAu,wpAny_pyIter_list→qAv,wpAny_newObj_type→qA5,wpAny_call_entry→qA7,wpAny_seqItems→qA8,wpAny_setField_rec→qBB,wpAny_loadPart'→qBP,wpAny_getItem_str_slice→qBQ,wpAny_standAt→qBY,wpAny_holding→qBZ,wpAny_passesOwn→qBg,tupleKind_room_in1→qBk,wpAny_mono→qBq,typeIs_str→qBr,call_meets→qBs,post_val_or_str→qB3,codeAny_mono→qB4,wpAny_updateSeq_pair→qB7,wpAny_onRaise→qCG,wpAny_Call_Name_kw→qCH,wpAny_rule→qCR,slot_list_getitem→qCS,wpAny_execs_nil→qCj,sizeLine_eq→qCk,seqIndex_of→qCl,wpAny_getItem_list_slice→qC2,wpAny_comprehension_free→qC3
open PySem.Heap renaming get?_push_of_some→qG,lt_size→qW,get?_push_size→qq,size_push→qA1,get?_update_other→qCq,get?_update_self→qCv
open PySem.PyData renaming eqv→qH,strOk→qN,depthAll→qf,canLayAll0→qu
open PySem.SeqAt renaming shaped→qI,canLay_of_shaped→qAg,eqv_refl→qCJ
open Nat renaming le_refl→qM,lt_of_lt_of_le→qt,ne_of_lt→q9,le_trans→qAX,zero_le→qAf,min_le_left→qAp,lt_of_le_of_lt→qA0,lt_irrefl→qA6,lt_succ_self→qBo,le_add_right→qBp,ne_of_gt→qBu,le_of_succ_le→qCB,zero_add→qCC,not_lt_zero→qCV,lt_trans→qCz,le_of_lt→qC0
open Bool renaming false_ne_true→qO,and_eq_true→qY,and_eq_true_iff→qp,eq_iff_iff→qAC,true_and→qAz,not_eq_true'→qBD,and_false→qBH,false_and→qBx,or_eq_true_iff→qB2,false_eq_true→qB6,false_or→qCi
open PySem.F renaming plainAttrs_list→qh,type_list_append→qi,slot_list_append→qj,slot_tuple_iterator_next→qBG,slot_zip_next→qBw,type_dict_update→qCK,slot_dict_update→qCL,args_tuple_add_2→qCM,plainAttrs_dict→qCT,entry_tuple_add→qCU,slot_tuple_add→qCX,args_tuple_iterator_next_1→qCb,entry_tuple_iterator_next→qCg
open Option.some renaming inj→qr
open Int renaming emod_nonneg→qw,emod_lt_of_pos→qx,ediv_nonneg→qBA,toNat_natCast→qBE,mul_nonneg→qCf,eq_ofNat_of_zero_le→qCp
open PySem.PassesOwn renaming never→qz
open PySem.Str renaming ofString→qAA
open PySem.Builtin.SmallTypes renaming nextOf→qAE
open PyProof.Rows renaming slot_tuple_getitem→qAZ,callWith_type1→qBM,Subscript_→qC4
open Ne renaming symm→qAx
open Sum.inr renaming inj→qBt
open Array renaming length_toList→qBy,mem_of_getElem?→qCr
open PySem.Paired renaming length→qBz
open PySem.Heap.IsSliceOf renaming new→qCI
open PySem.Heap.SameBut renaming update→qCP
open PySem.Calls renaming Name_function_global→qCQ
open List.Sublist renaming refl→qCZ
open PySem.Heap.IsTuple renaming push→qCa
open PySem.SeqAt.EqAt renaming str_str→qCc,str_int→qCd,int_str→qCe
open PySem.Heap.IsList renaming push→qCh
open List.Perm renaming refl→qC6
namespace L2
open PySem PySem.Spec PyProof.Rows
abbrev Key:=Sum Int Str
def zaff:Key→Value→Bool
 | .inl k,v=>Value.isInt k v
 | .inr x,v=>Value.isStrOf x v
def keyH (w:World):Key→Int
 | .inl k=>hashInt k
 | .inr x=>hashStr w x
theorem zfj:∀ {k:Key} {v:Value},zaff k v=true→(∃ i t,k=Sum.inl i∧v=Value.int i t)∨(∃ x t,k=Sum.inr x∧v=Value.str x t)
 | .inl i,v,h=>by
  obtain ⟨t,e⟩:=Value.isInt_shape (k:=i) (v:=v) h
  exact .inl ⟨i,t,rfl,e⟩
 | .inr x,v,h=>by
  obtain ⟨t,e⟩:=Value.isStrOf_shape (x:=x) (v:=v) h
  exact .inr ⟨x,t,rfl,e⟩
theorem zagu (i:Int) (t:Tok):zaff (.inl i) (.int i t)=true:=by simp [zaff,Value.isInt]
theorem zagv (x:Str) (t:Tok):zaff (.inr x) (.str x t)=true:=by simp [zaff,Value.isStrOf]
theorem zarv (a b:Int):decide ((Sum.inl a:Key)=Sum.inl b)=(a==b):=by
 by_cases e:a=b
 ·subst e;simp
 ·have h:¬ (Sum.inl a:Key)=Sum.inl b:=fun q=>e (Sum.inl.inj q)
  rw [decide_eq_false h]
  exact (beq_eq_false_iff_ne.mpr e).symm
theorem zarw (a b:Str):decide ((Sum.inr a:Key)=Sum.inr b)=decide (a=b):=by
 by_cases e:a=b
 ·subst e;simp
 ·have h:¬ (Sum.inr a:Key)=Sum.inr b:=fun q=>e (qBt q)
  rw [decide_eq_false h,decide_eq_false e]
theorem zarx (a:Int) (b:Str):decide ((Sum.inl a:Key)=Sum.inr b)=false:=decide_eq_false (fun q=>nomatch q)
theorem zary (a:Str) (b:Int):decide ((Sum.inr a:Key)=Sum.inl b)=false:=decide_eq_false (fun q=>nomatch q)
noncomputable def zfx (prog:Program) (w:World):PySem.KeyKind prog w Key where
 is:=zaff
 hash:=keyH w
 inj:=fun v a b ha hb=>by
  rcases zfj ha with ⟨i,t,rfl,rfl⟩|⟨x,t,rfl,rfl⟩
  ·rcases zfj hb with ⟨j,u,rfl,e⟩|⟨y,u,rfl,e⟩
   ·injection e with e1 _;rw [e1]
   ·exact nomatch e
  ·rcases zfj hb with ⟨j,u,rfl,e⟩|⟨y,u,rfl,e⟩
   ·exact nomatch e
   ·injection e with e1 _;rw [e1]
 byValue:=fun k v h=>by
  rcases zfj h with ⟨i,t,rfl,rfl⟩|⟨x,t,rfl,rfl⟩<;>rfl
 pyHash:=fun hv h=>by
  rcases zfj hv with ⟨i,t,rfl,rfl⟩|⟨x,t,rfl,rfl⟩
  ·exact wpAny_pyHash_int h
  ·exact wpAny_pyHash_str h
 eqBool:=fun hu hv h=>by
  rcases zfj hu with ⟨i,t,rfl,rfl⟩|⟨x,t,rfl,rfl⟩
  ·rcases zfj hv with ⟨j,u,rfl,rfl⟩|⟨y,u,rfl,rfl⟩
   ·rw [zarv] at h;exact wpAny_eqBool_int h
   ·rw [zarx] at h;exact qCe i t y u _ _ _ _ h
  ·rcases zfj hv with ⟨j,u,rfl,rfl⟩|⟨y,u,rfl,rfl⟩
   ·rw [zary] at h;exact qCd x t j u _ _ _ _ h
   ·rw [zarw] at h;exact wpAny_eqBool_str h
 «strs»:=fun k x t v h=>by
  rcases zfj h with ⟨i,u,rfl,e⟩|⟨y,u,rfl,e⟩
  ·exact nomatch e
  ·injection e with e1 _
   subst e1
   cases v<;>rfl
theorem zabm (prog:Program) (w:World) (i:Int) (t:Tok):(zfx prog w).is (.inl i) (.int i t)=true:=zagu i t
theorem zabn (prog:Program) (w:World) (x:Str) (t:Tok):(zfx prog w).is (.inr x) (.str x t)=true:=zagv x t
inductive V where
 | non|bl (b:Bool)|int (i:Int)|str (x:Str)|byt (b:Array UInt8)|flt (b:UInt64)|ref (a:Addr)|ty (n:String)
 deriving DecidableEq
noncomputable def RelV:V→Value→Prop
 | .non,u=>u=Value.none
 | .bl b,u=>u=Value.bool b
 | .int i,u=>∃ t,u=Value.int i t
 | .str x,u=>∃ t,u=Value.str x t
 | .byt b,u=>∃ t,u=Value.bytes b t
 | .flt b,u=>∃ t,u=Value.float b t
 | .ref a,u=>u=Value.ref a
 | .ty n,u=>u=Value.type n
abbrev Vals:List V→List Value→Prop:=Paired RelV
theorem Vals.length {xs:List V} {us:List Value} (r:Vals xs us):xs.length=us.length:=qBz r
theorem Vals.get:∀ {xs:List V} {us:List Value} {i:Nat} {x:V},Vals xs us→xs[i]?=some x→∃ u,us[i]?=some u∧RelV x u
 | _,_,_,_,.nil,e=>by simp at e
 | _,_,0,_,.cons r _,e=>by simp at e;subst e;exact ⟨_,rfl,r⟩
 | _,_,i+1,x,.cons _ t,e=>by
  obtain ⟨u,h1,h2⟩:=Vals.get (i:=i) (x:=x) t (by simpa using e)
  exact ⟨u,by simpa using h1,h2⟩
theorem Vals.set {x:V} {u:Value} (r:RelV x u):∀ {xs:List V} {us:List Value} (i:Nat),Vals xs us→Vals (xs.set i x) (us.set i u)
 | _,_,_,.nil=>.nil
 | _,_,0,.cons _ t=>.cons r t
 | _,_,i+1,.cons q t=>.cons q (Vals.set r i t)
theorem Vals.append:∀ {xs ys:List V} {us ws:List Value},Vals xs us→Vals ys ws→Vals (xs++ys) (us++ws)
 | _,_,_,_,.nil,s=>s
 | _,_,_,_,.cons r t,s=>.cons r (Vals.append t s)
theorem Vals.take:∀ {xs:List V} {us:List Value} (n:Nat),Vals xs us→Vals (xs.take n) (us.take n)
 | _,_,0,_=>.nil
 | _,_,_+1,.nil=>.nil
 | _,_,n+1,.cons r t=>.cons r (Vals.take n t)
theorem Vals.drop:∀ {xs:List V} {us:List Value} (n:Nat),Vals xs us→Vals (xs.drop n) (us.drop n)
 | _,_,0,r=>r
 | _,_,_+1,.nil=>.nil
 | _,_,n+1,.cons _ t=>Vals.drop n t
def RelO:Option V→Option Value→Prop
 | some v,some u=>RelV v u
 | none,none=>True
 | _,_=>False
def KV {κ:Type}:List (κ×V)→List (κ×Value)→Prop:=Paired fun (p:κ×V) (q:κ×Value)=>p.1=q.1∧RelV p.2 q.2
def kV:Key→V
 | .inl i=>.int i
 | .inr x=>.str x
inductive HO where
  | lst (xs:List V)
  | tup (xs:List V)
  | dK (kvs:List (Key×V))|dT (kvs:List (List Key×V))
  | set (S:Int→Bool) (n:Nat)
  | ins (C dx:Addr) (fs:List (Str×V))
  | own (x:Addr)
  | xd (fs:List (Str×V))
  | met (f x:Addr)
  | rng (lo hi:Int)
  | frz (o:Obj) (u:HO)
  | tbl (ps:Array Value)
  | ext (φ:Heap→Prop)
abbrev Hp:=Addr→Option HO
def upd (H:Hp) (a:Addr) (o:HO):Hp:=fun b=>if b=a then some o else H b
theorem zbx {H:Hp} {a:Addr} {o:HO}:upd H a o a=some o:=by unfold upd;rw [if_pos rfl]
theorem zcp {H:Hp} {a b:Addr} {o:HO} (h:b≠a):upd H a o b=H b:=by unfold upd;rw [if_neg h]
theorem zapl {H:Hp} {a:Addr} {o u:HO}:upd (upd H a o) a u=upd H a u:=by
 funext b;unfold upd;split<;>rfl
theorem zaup {H:Hp} {a b:Addr} {o u:HO} (h:H a=some o) (h':H b=some u) (d:o≠u):a≠b:=by
 intro e;subst e;rw [h] at h';exact d (qr h')
theorem zcr {H:Hp} {a b:Addr} {o:HO} (h:H a=some o) (h':H b=none):a≠b:=by
 intro e;subst e;rw [h] at h';cases h'
section
variable (P:Program) (w:World)
noncomputable def zhk (H:Hp) (h:Heap) (a:Addr):HO→Prop
 | .lst xs=>xs.length≤qk∧∃ (its:List Value) (n:Nat),Vals xs its∧h.get? a=some {cls:=.type "list",data:=.seq its.toArray n}
 | .tup xs=>xs.length≤qk∧∃ its:List Value,Vals xs its∧IsTup h a its.toArray
 | .dK kvs=>kvs.length≤qk∧(a==sysModules)=false∧∃ vs,KV kvs vs∧h.DictOf (zfx P w) a vs
 | .dT kvs=>kvs.length≤qk∧(a==sysModules)=false∧∃ xs:List (List Key×Addr×Value),
   Paired (fun (p:List Key×V) (q:List Key×Addr×Value)=>p.1=q.1∧H q.2.1=some (.tup (p.1.map kV))∧RelV p.2 q.2.2) kvs xs ∧
   ∃ o es ep,h.get? a=some o∧o.ExactDict∧o.data=.dict es ep∧es.toList=xs.map (entryOfKey (tupleKind (zfx P w)))∧(xs.map (·.1)).Nodup
 | .set S n=>h.SetOf (intKind P w) a S n
 | .ins C dx fs=>H dx=some (.own a)∧fs.length≤1000∧dx≠a∧h.get? a=some (PySem.W.instObj C dx) ∧
   ∃ mA,h.Ns1 dx mA∧(∀ f,RelO (fs.lookup f) (mA f))∧PySem.Within mA (fs.map (·.1))
 | .own _=>∃ o,h.get? a=some o
 | .xd fs=>∃ mA,h.Ns1 a mA∧∀ f,RelO (fs.lookup f) (mA f)
 | .rng lo hi=>∃ t u v,h.get? a=some {cls:=.type "range",data:=.fields #[.int lo t,.int hi u,.int 1 v]}
 | .frz o u=>h.get? a=some o∧zhk H h a u
 | .tbl ps=>h.get? a=some {cls:=.none,data:=.fields ps}
 | .met f x=>h.get? a=some (PySem.W.methodObj (.ref f) (.ref x))
 | .ext φ=>φ h∧(∃ o,h.get? a=some o)∧∀ h1 h2:Heap,φ h1→(∀ o,h1.get? a=some o→h2.get? a=some o)→φ h2
def HOk (H:Hp) (h:Heap):Prop:=∀ a o,H a=some o→zhk P w H h a o
end
section
variable {P:Program} {w:World} {H H':Hp} {h h':Heap} {a:Addr} {o:HO}
theorem zhk.lt (x:zhk P w H h a o):a<h.objs.size:=by
 cases o with
 | lst xs=>obtain ⟨_,_,_,_,e⟩:=x;exact qW e
 | tup xs=>obtain ⟨_,_,_,p⟩:=x;exact p.lt
 | dK kvs=>obtain ⟨_,_,_,_,o,_,_,e,_⟩:=x;exact qW e
 | dT kvs=>obtain ⟨_,_,_,_,o,_,_,e,_⟩:=x;exact qW e
 | set S n=>obtain ⟨o,_,_,_,e,_⟩:=x;exact qW e
 | ins C dx fs=>obtain ⟨_,_,_,e,_⟩:=x;exact qW e
 | own y=>obtain ⟨_,e⟩:=x;exact qW e
 | xd fs=>obtain ⟨_,⟨_,_,_,e,_⟩,_⟩:=x;exact qW e
 | rng lo hi=>obtain ⟨_,_,_,e⟩:=x;exact qW e
 | frz ob u=>obtain ⟨e,_⟩:=x;exact qW e
 | tbl ps=>exact qW (show h.get? a=some _ from x)
 | met f y=>exact qW (show h.get? a=some _ from x)
 | ext φ=>obtain ⟨_,⟨_,e⟩,_⟩:=x;exact qW e
theorem Paired.mapP {α β:Type} {F G:α→β→Prop}:∀ {l₁:List α} {l₂:List β},Paired F l₁ l₂→(∀ a b,F a b→G a b)→Paired G l₁ l₂
 | _,_,.nil,_=>.nil
 | _,_,.cons r t,f=>.cons (f _ _ r) (Paired.mapP t f)
theorem zhk.stay (x:zhk P w H h a o) (k:∀ b u,(b=a∨H b=some (.own a))→h.get? b=some u→h'.get? b=some u)
  (ho:∀ b,H b=some (.own a)→H' b=some (.own a)) (ht:∀ b xs,H b=some (.tup xs)→H' b=some (.tup xs)):zhk P w H' h' a o:=by
 induction o with
 | lst xs=>obtain ⟨z,its,n,r,e⟩:=x;exact ⟨z,its,n,r,k _ _ (.inl rfl) e⟩
 | tup xs=>obtain ⟨z,its,r,ob,e,c⟩:=x;exact ⟨z,its,r,ob,k _ _ (.inl rfl) e,c⟩
 | dK kvs=>obtain ⟨z,y,vs,r,ob,es,ep,e,c⟩:=x;exact ⟨z,y,vs,r,ob,es,ep,k _ _ (.inl rfl) e,c⟩
 | dT kvs =>
  obtain ⟨z,y,xs,r,ob,es,ep,e,c⟩:=x
  exact ⟨z,y,xs,Paired.mapP r fun p q z=>⟨z.1,ht _ _ z.2.1,z.2.2⟩,ob,es,ep,k _ _ (.inl rfl) e,c⟩
 | set S n=>obtain ⟨ob,es,ep,t,e,c⟩:=x;exact ⟨ob,es,ep,t,k _ _ (.inl rfl) e,c⟩
 | ins C dx fs =>
  obtain ⟨d,z,ne,e,mA,⟨od,es,ep,e2,c⟩,r⟩:=x
  exact ⟨ho _ d,z,ne,k _ _ (.inl rfl) e,mA,⟨od,es,ep,k _ _ (.inr d) e2,c⟩,r⟩
 | own y=>obtain ⟨ob,e⟩:=x;exact ⟨ob,k _ _ (.inl rfl) e⟩
 | xd fs=>obtain ⟨mA,⟨od,es,ep,e,c⟩,r⟩:=x;exact ⟨mA,⟨od,es,ep,k _ _ (.inl rfl) e,c⟩,r⟩
 | rng lo hi=>obtain ⟨t,u,v,e⟩:=x;exact ⟨t,u,v,k _ _ (.inl rfl) e⟩
 | frz ob u ih=>obtain ⟨e,q⟩:=x;exact ⟨k _ _ (.inl rfl) e,ih q⟩
 | tbl ps =>
  have e:h.get? a=some {cls:=.none,data:=.fields ps}:=x
  show h'.get? a=some {cls:=.none,data:=.fields ps}
  exact k a _ (.inl rfl) e
 | met f y =>
  have e:h.get? a=some (PySem.W.methodObj (.ref f) (.ref y)):=x
  show h'.get? a=some (PySem.W.methodObj (.ref f) (.ref y))
  exact k a _ (.inl rfl) e
 | ext φ=>obtain ⟨p,⟨o,e⟩,st⟩:=x;exact ⟨st _ _ p fun o q=>k _ _ (.inl rfl) q,⟨o,k _ _ (.inl rfl) e⟩,st⟩
theorem HOk.lt (x:HOk P w H h) (e:H a=some o):a<h.objs.size:=(x a o e).lt
theorem HOk.fresh (x:HOk P w H h) (e:h.objs.size≤a):H a=none:=by
 cases q:H a with
 | none=>rfl
 | some u=>exact absurd (qt (x.lt q) e) (qA6 _)
theorem HOk.kept (x:HOk P w H h) (k:∀ b u,h.get? b=some u→h'.get? b=some u):HOk P w H h':=fun a o e =>
 (x a o e).stay (fun b u _ q=>k b u q) (fun _ q=>q) fun _ _ q=>q
theorem HOk.laid (x:HOk P w H h) (k:∀ b u,h.get? b=some u→h'.get? b=some u) (hp:h.objs.size≤a) (new:zhk P w (upd H a o) h' a o):HOk P w (upd H a o) h':=fun b u e=>by
 have hn:=x.fresh hp
 by_cases hb:b=a
 ·subst hb;rw [zbx] at e;cases e;exact new
 ·rw [zcp hb] at e
  exact (x b u e).stay (fun c v _ q=>k c v q) (fun c q=>by rw [zcp (zcr q hn)];exact q) fun c xs q=>by rw [zcp (zcr q hn)];exact q
end
def Rd (H:Hp) (a:Addr) (u:HO):Prop:=H a=some u∨∃ o,H a=some (.frz o u)
theorem Rd.ok {P:Program} {w:World} {H:Hp} {h:Heap} {a:Addr} {u:HO} (r:Rd H a u) (x:HOk P w H h):zhk P w H h a u:=by
 rcases r with r|⟨o,r⟩
 ·exact x a u r
 ·obtain ⟨_,q⟩:=x a _ r
  exact q
noncomputable def Mut:Option HO→Prop
 | some (.lst _)=>True
 | some (.dK _)=>True
 | some (.dT _)=>True
 | some (.set _ _)=>True
 | some (.ins _ _ _)=>True
 | some (.ext _)=>True
 | _=>False
section
variable {P:Program} {w:World} {H:Hp} {h h':Heap} {x e:Addr} {o':HO}
theorem HOk.write (ok:HOk P w H h) (mu:Mut (H x)) (he:e=x∨H e=some (.own x)) (k:∀ b u,b≠e→h.get? b=some u→h'.get? b=some u) (heo:∃ u,h'.get? e=some u)
  (new:zhk P w (upd H x o') h' x o'):HOk P w (upd H x o') h':=fun b u q=>by
 have nown:∀ c y,H c=some (.own y)→c≠x:=fun c y r z=>by subst z;rw [r] at mu;exact mu
 have ntup:∀ c xs,H c=some (.tup xs)→c≠x:=fun c xs r z=>by subst z;rw [r] at mu;exact mu
 by_cases hb:b=x
 ·subst hb;rw [zbx] at q;cases q;exact new
 ·rw [zcp hb] at q
  by_cases hbe:b=e
  ·have q':H b=some (.own x):=by
    rcases he with z|z
    ·exact absurd (hbe.trans z) hb
    ·rw [hbe];exact z
   rw [q] at q';cases q'
   obtain ⟨v,hv⟩:=heo
   exact ⟨v,by rw [hbe];exact hv⟩
  ·refine (ok b u q).stay (fun c v hc r=>k c v ?_ r) (fun c r=>by rw [zcp (nown c b r)];exact r) fun c xs r=>by rw [zcp (ntup c xs r)];exact r
   rcases hc with rfl|hc
   ·exact hbe
   ·rintro rfl
    rcases he with z|z
    ·exact nown c b hc z
    ·rw [hc] at z;cases z;exact hb rfl
end
set_option genInjectivity false in
structure Un (fs ex:List Addr) (H H':Hp) (h h':Heap):Prop where
 keep:∀ b o,h.get? b=some o→H b=none→b∉fs→b∉ex→h'.get? b=some o
 slot:∀ b o,h.get? b=some o→H b=none→b∈fs→b∉ex→∃ sl,h'.get? b=some {o with slots:=sl}
 free:∀ b o,h.get? b=some o→H b=none→b∉ex→H' b=none
 there:∀ b o,h.get? b=some o→b∉ex→∃ o',h'.get? b=some o'
 tups:∀ b xs,H b=some (.tup xs)→H' b=some (.tup xs)
 frzs:∀ b o u,H b=some (.frz o u)→H' b=some (.frz o u)
 tbls:∀ b ps,H b=some (.tbl ps)→∃ more,H' b=some (.tbl (ps++more))
section
variable {fs fs' ex ex':List Addr} {H H1 H2:Hp} {h h1 h2 h':Heap} {a x e:Addr} {o:HO}
theorem Un.any (u:Un fs ex H H1 h h1) {b:Addr} {ob:Obj} (q:h.get? b=some ob) (n:H b=none) (hx:b∉ex):∃ sl,h1.get? b=some {ob with slots:=sl}:=by
 by_cases hb:b∈fs
 ·exact u.slot b ob q n hb hx
 ·exact ⟨ob.slots,u.keep b ob q n hb hx⟩
theorem Un.kept (k:∀ b u,h.get? b=some u→h'.get? b=some u):Un fs ex H H h h' :=
 ⟨fun b ob q _ _ _=>k b ob q,fun b ob q _ _ _=>⟨ob.slots,k b ob q⟩,fun _ _ _ n _=>n,fun b ob q _=>⟨ob,k b ob q⟩,fun _ _ q=>q,fun _ _ _ q=>q,fun _ ps q=>⟨#[],by rw [q];simp⟩⟩
theorem Un.refl:Un fs ex H H h h:=Un.kept fun _ _ q=>q
theorem Un.laid (k:∀ b u,h.get? b=some u→h'.get? b=some u) (hp:h.objs.size≤a) (hn:H a=none):Un fs ex H (upd H a o) h h' where
 keep:=fun b u q _ _ _=>k b u q
 slot:=fun b u q _ _ _=>⟨u.slots,k b u q⟩
 free:=fun b u q n _=>by rw [zcp (q9 (qt (qW q) hp))];exact n
 there:=fun b u q _=>⟨u,k b u q⟩
 tups:=fun b xs q=>by rw [zcp (zcr q hn)];exact q
 frzs:=fun b u xs q=>by rw [zcp (zcr q hn)];exact q
 tbls:=fun b ps q=>⟨#[],by rw [zcp (zcr q hn),q];simp⟩
theorem Un.write (mu:Mut (H x)) (he:e=x∨H e=some (.own x)) (k:∀ b u,b≠e→h.get? b=some u→h'.get? b=some u) (heo:∃ u,h'.get? e=some u):Un fs ex H (upd H x o) h h':=by
 have hx:∀ b,H b=none→b≠x:=fun b n z=>by subst z;rw [n] at mu;exact mu
 have hb:∀ b,H b=none→b≠e:=fun b n z=>by
  subst z
  rcases he with r|r
  ·exact hx b n r
  ·rw [n] at r;cases r
 have hm:∀ b u,H b=some u→¬ Mut (some u)→b≠x:=fun b u q nm z=>by subst z;rw [q] at mu;exact nm mu
 refine ⟨fun b u q n _ _=>k b u (hb b n) q,fun b u q n _ _=>⟨u.slots,k b u (hb b n) q⟩,fun b u q n _=>by rw [zcp (hx b n)];exact n,fun b u q _=>?_,
  fun b xs q=>by rw [zcp (hm b _ q fun z=>z)];exact q,fun b u xs q=>by rw [zcp (hm b _ q fun z=>z)];exact q,fun b ps q=>⟨#[],by rw [zcp (hm b _ q fun z=>z),q];simp⟩⟩
 by_cases hbe:b=e
 ·subst hbe;exact heo
 ·exact ⟨u,k b u hbe q⟩
end
def trk (h:Heap) (H:Hp):List Addr:=(List.range h.objs.size).filter fun a=>(H a).isSome
def hidT (h:Heap) (H:Hp):Heap:=PySem.W.hideAll h (trk h H)
theorem zagw (h:Heap) (H:Hp):(hidT h H).objs.size=h.objs.size:=PySem.W.hideAll_size _ _
theorem zali {h:Heap} {H:Hp} {b:Addr} {o:Obj} (e:h.get? b=some o) (n:H b=none):(hidT h H).get? b=some o :=
 PySem.W.hideAll_get _ e fun hm=>by
  have q:(H b).isSome=true:=(qc.mp hm).2
  rw [n] at q;simp at q
theorem zapm {h:Heap} {H:Hp} {b:Addr} {o:Obj} (e:(hidT h H).get? b=some o):h.get? b=some o∧H b=none:=by
 have e':h.get? b=some o:=PySem.W.of_hideAll (trk h H) e
 refine ⟨e',?_⟩
 cases q:H b with
 | none=>rfl
 | some x =>
  have hm:b∈trk h H:=qc.mpr ⟨qAb.mpr (qW e'),by simp [q]⟩
  have z:(hidT h H).get? b=none:=PySem.W.hideAll_none (trk h H) hm
  rw [z] at e;cases e
set_option genInjectivity false in
structure Mod (K:qB) (mg:Str→Option Value) (base:Heap):Prop where
 kin:K.In base
 glob:base.Ns qP mg
 blt:∃ mb,base.Ns builtinsNs mb∧∀ x:Str,x ≠ "__name__" → mb x=bootBuiltins x
 nolimit:base.NoLimit
set_option genInjectivity false in
structure Cx where
 prog:Program
 w:World
 K:qB
 mg:Str→Option Value
 base:Heap
 A:Around
 N:List Str
 s₀:Shared
 H₀:Hp
 env:Env
 outer:List Env
 stack:List Env
 ex:List Addr
 fn:Str→Bool
 calm:Bool
 pn:List (Addr×Obj)
 xe:Value→Shared→Prop
def frs (l:List Env):List Addr:=l.filterMap (·.frame)
abbrev Cx.fs (X:Cx):List Addr:=frs X.outer
def Vis (sc:Scope) (x:Str):Prop:=sc.names.lookup x=some .local∨sc.names.lookup x=some .cell∨sc.names.lookup x=some .free
def visB (sc:Scope) (x:Str):Bool:=match sc.names.lookup x with
 | some .local=>true
 | some .cell=>true
 | some .free=>true
 | _=>false
theorem visB.of {sc:Scope} {x:Str} (h:visB sc x=true):Vis sc x:=by
 unfold visB at h
 cases e:sc.names.lookup x with
 | none=>rw [e] at h;cases h
 | some k=>rw [e] at h;cases k<;>first|exact .inl e|exact .inr (.inl e)|exact .inr (.inr e)|cases h
def Loc (sc:Scope) (x:Str):Prop:=sc.names.lookup x=some .local∨sc.names.lookup x=some .cell
noncomputable def Look (env:Env) (h:Heap) (m:Str→Option Value) (x:Str) (u:Value):Prop :=
 (env.kindOf x=some .local∧m x=some u)∨((env.kindOf x=some .cell∨env.kindOf x=some .free)∧∃ c,env.cells.lookup x=some c∧h.IsCell c (some u))
set_option genInjectivity false in
structure Cx.Ok (X:Cx):Prop where
 mod:Mod X.K X.mg X.base
 kind:X.env.scope.kind=.function
 glob:X.env.globals=qP
 blt:X.env.builtins=builtinsNs
 above:X.s₀.heap.objs.size≤X.env.locals
 inj:∀ x y c,X.env.cells.lookup x=some c→X.env.cells.lookup y=some c→x=y
 has:∀ x,(X.env.kindOf x=some .cell∨X.env.kindOf x=some .free)→∃ c,X.env.cells.lookup x=some c
 cab:∀ x c,X.fn x=true→X.env.cells.lookup x=some c→X.s₀.heap.objs.size≤c
 hd:X.calm=true→X.A.handled=none
 frames:X.A.frames=some X.stack
 stk:X.stack=X.outer∨(X.stack=X.env::X.outer∧X.env.frame=some X.env.locals)
 exf:∀ b∈X.ex,b≠X.env.locals∧∀ x c,X.env.cells.lookup x=some c→c≠b
 bs:∀ b o,X.base.get? b=some o→X.s₀.heap.get? b=some o∧X.H₀ b=none
 bsz:X.base.objs.size≤X.s₀.heap.objs.size
 noex:∀ b o,X.base.get? b=some o→b∉X.ex
 exfs:∀ b∈X.ex,b∉X.fs
 funs:X.s₀.heap.FunFrames X.base X.outer
 frf:∀ b∈X.fs,X.H₀ b=none
set_option genInjectivity false in
structure Inv (X:Cx) (pins:List (Addr×Obj)) (σ:List (Option V)) (H:Hp) (s:Shared):Prop where
 ok:X.Ok
 os:s.os=X.s₀.os
 bare:AllBare s.gens
 base:Un X.fs X.ex X.H₀ H X.s₀.heap s.heap
 loc:∃ m,s.heap.Ns X.env.locals m∧∀ (i:Nat) (x:Str) (v:V),X.N[i]?=some x→σ[i]?=some (some v)→Vis X.env.scope x→∃ u,RelV v u∧Look X.env s.heap m x u
 cell:∀ x c,X.env.cells.lookup x=some c→∃ v,s.heap.IsCell c v
 free:H X.env.locals=none
 freeC:∀ x c,X.env.cells.lookup x=some c→H c=none
 pin:∀ p∈X.pn++pins,s.heap.get? p.1=some p.2∧H p.1=none∧p.1≠X.env.locals∧p.1∉X.fs∧∀ v,p.2.data≠.cell v
 hok:HOk X.prog X.w H s.heap
 len:σ.length=X.N.length
section
variable {X:Cx} {pins:List (Addr×Obj)} {σ:List (Option V)} {H H':Hp} {s:Shared} {h':Heap}
theorem Cx.Ok.nofr (ok:X.Ok) {b:Addr} {o:Obj} (e:X.base.get? b=some o):b∉X.fs:=fun hb=>by
 have:=(ok.funs.mem hb).1
 rw [e] at this;cases this
theorem Inv.bs (I:Inv X pins σ H s):∀ b o,X.base.get? b=some o→s.heap.get? b=some o∧H b=none:=fun b o e =>
 ⟨I.base.keep b o (I.ok.bs b o e).1 (I.ok.bs b o e).2 (I.ok.nofr e) (I.ok.noex b o e),I.base.free b o (I.ok.bs b o e).1 (I.ok.bs b o e).2 (I.ok.noex b o e)⟩
theorem Inv.bk (I:Inv X pins σ H s):∀ b o,X.base.get? b=some o→s.heap.get? b=some o:=fun b o e=>(I.bs b o e).1
theorem Inv.mod (I:Inv X pins σ H s):Mod X.K X.mg X.base:=I.ok.mod
theorem Inv.kIn (I:Inv X pins σ H s):X.K.In s.heap:=I.ok.mod.kin.keeps I.bk
theorem Inv.lt (I:Inv X pins σ H s):X.env.locals<s.heap.objs.size:=let ⟨_,hn,_⟩:=I.loc;hn.lt
theorem Inv.sz (I:Inv X pins σ H s):X.s₀.heap.objs.size≤s.heap.objs.size:=qAX I.ok.above (qC0 I.lt)
theorem Inv.nofs (I:Inv X pins σ H s) {a:Addr} (h:s.heap.objs.size≤a):a∉X.fs:=fun hb=>by
 obtain ⟨_,o,ho,_⟩:=I.ok.funs.mem hb
 exact absurd (qt (qW ho) (qAX I.sz h)) (qA6 _)
theorem Inv.cne (I:Inv X pins σ H s):∀ x c,X.env.cells.lookup x=some c→c≠X.env.locals:=fun x c e z=>by
 obtain ⟨v,o,ho,hd⟩:=I.cell x c e
 obtain ⟨m,⟨o',es,ep,ho',hd',_⟩,_⟩:=I.loc
 rw [z,ho'] at ho;cases ho;rw [hd'] at hd;cases hd
theorem Inv.funs (I:Inv X pins σ H s):s.heap.FunFrames X.base X.outer:=by
 have all:∀ (l:List Env),(∀ b∈frs l,b∈X.fs)→X.s₀.heap.FunFrames X.base l→s.heap.FunFrames X.base l:=by
  intro l
  induction l with
  | nil=>intro _ _;trivial
  | cons env r ih =>
   intro hs hl
   obtain ⟨hk,⟨L,o,hf,hn,ho,hd⟩,hr⟩:=hl
   have hL:L∈X.fs:=hs L (by unfold frs;rw [qB1,hf];exact qX)
   obtain ⟨sl,e⟩:=I.base.slot L o ho (I.ok.frf L hL) hL fun z=>I.ok.exfs L z hL
   exact ⟨hk,⟨L,_,hf,hn,e,hd⟩,ih (fun b hb=>hs b (by unfold frs;rw [qB1,hf];exact qJ _ hb)) hr⟩
 exact all X.outer (fun _ hb=>hb) I.ok.funs
theorem Inv.stack (I:Inv X pins σ H s):s.heap.FunFrames X.base X.stack:=by
 rcases I.ok.stk with e|⟨e,hf⟩
 ·rw [e];exact I.funs
 ·rw [e]
  obtain ⟨m,hn,_⟩:=I.loc
  refine .cons (by rw [I.ok.kind];decide) hf hn ?_ I.funs
  exact Heap.get?_none_of_le (qAX I.ok.bsz I.ok.above)
theorem Inv.stkSub (I:Inv X pins σ H s):∀ b∈frs X.stack,b∈X.env.locals::X.fs:=fun b hb=>by
 rcases I.ok.stk with e|⟨e,hf⟩
 ·rw [e] at hb;exact qJ _ hb
 ·rw [e] at hb
  unfold frs at hb
  rw [qB1,hf] at hb
  exact hb
theorem Inv.stkFree (I:Inv X pins σ H s):∀ b∈frs X.stack,H b=none:=fun b hb=>by
 rcases qg.mp (I.stkSub b hb) with e|hb
 ·rw [e];exact I.free
 ·obtain ⟨_,o,ho,_⟩:=I.ok.funs.mem hb
  exact I.base.free b o ho (I.ok.frf b hb) fun z=>I.ok.exfs b z hb
theorem Inv.step {g':Array GenState} {t':Nat} {d':Drawn} {ch:List Addr} (I:Inv X pins σ H s)
  (hch:∀ b∈ch,(b∈X.ex∨X.s₀.heap.objs.size≤b)∧b≠X.env.locals∧(∀ x c,X.env.cells.lookup x=some c→c≠b)∧∀ p∈X.pn++pins,p.1≠b)
  (keep:∀ b o,b≠X.env.locals→b∉X.fs→b∉ch→s.heap.get? b=some o→H b=none→h'.get? b=some o)
  (slot:∀ b o,b≠X.env.locals→b∈X.fs→b∉ch→s.heap.get? b=some o→H b=none→∃ sl,h'.get? b=some {o with slots:=sl}) (free:∀ b o,b∉ch→s.heap.get? b=some o→H b=none→H' b=none)
  (there:∀ b o,b∉ch→s.heap.get? b=some o→∃ o',h'.get? b=some o')
  (tups:∀ b xs,H b=some (.tup xs)→H' b=some (.tup xs)) (frzs:∀ b o u,H b=some (.frz o u)→H' b=some (.frz o u)) (tbls:∀ b ps,H b=some (.tbl ps)→∃ more,H' b=some (.tbl (ps++more)))
  (ns:∀ m,s.heap.Ns X.env.locals m→h'.Ns X.env.locals m) (hok:HOk X.prog X.w H' h') (hg:AllBare g') :
  Inv X pins σ H' {s with heap:=h',gens:=g',drawn:=d',toks:=t'}:=by
 have neL:∀ b o,X.s₀.heap.get? b=some o→b≠X.env.locals:=fun b o e=>q9 (qt (qW e) I.ok.above)
 have neC:∀ b o,X.s₀.heap.get? b=some o→b∉X.ex→b∉ch:=fun b o e hx hb=>by
  rcases (hch b hb).1 with z|z
  ·exact hx z
  ·exact absurd (qt (qW e) z) (qA6 _)
 have cellK:∀ x c,X.env.cells.lookup x=some c→∀ v,s.heap.IsCell c v→h'.IsCell c v:=fun x c e v ⟨o,ho,hd⟩=>by
  have nch:c∉ch:=fun z=>(hch c z).2.2.1 x c e rfl
  by_cases hc:c∈X.fs
  ·obtain ⟨sl,q⟩:=slot c o (I.cne x c e) hc nch ho (I.freeC x c e)
   exact ⟨_,q,hd⟩
  ·exact ⟨o,keep c o (I.cne x c e) hc nch ho (I.freeC x c e),hd⟩
 refine ⟨I.ok,I.os,hg,⟨fun b o e n hb hx=>?_,fun b o e n hb hx=>?_,fun b o e n hx=>?_,fun b o e hx=>?_,fun b xs e=>tups b xs (I.base.tups b xs e),fun b o xs e=>frzs b o xs (I.base.frzs b o xs e),fun b ps e=>?_⟩,?_,fun x c e=>?_,?_,fun x c e=>?_,fun p hp=>?_,hok,I.len⟩
 ·exact keep b o (neL b o e) hb (neC b o e hx) (I.base.keep b o e n hb hx) (I.base.free b o e n hx)
 ·obtain ⟨sl,e1⟩:=I.base.slot b o e n hb hx
  obtain ⟨sl',e2⟩:=slot b _ (neL b o e) hb (neC b o e hx) e1 (I.base.free b o e n hx)
  exact ⟨sl',e2⟩
 ·obtain ⟨o',e1⟩:=I.base.there b o e hx
  exact free b o' (neC b o e hx) e1 (I.base.free b o e n hx)
 ·obtain ⟨o',e1⟩:=I.base.there b o e hx
  exact there b o' (neC b o e hx) e1
 ·obtain ⟨m1,e1⟩:=I.base.tbls b ps e
  obtain ⟨m2,e2⟩:=tbls b _ e1
  exact ⟨m1++m2,by rw [e2,Array.append_assoc]⟩
 ·obtain ⟨m,hn,hl⟩:=I.loc
  refine ⟨m,ns m hn,fun i x v e1 e2 e3=>?_⟩
  obtain ⟨u,r,l⟩:=hl i x v e1 e2 e3
  refine ⟨u,r,?_⟩
  rcases l with l|⟨k,c,e,z⟩
  ·exact .inl l
  ·exact .inr ⟨k,c,e,cellK x c e _ z⟩
 ·obtain ⟨v,z⟩:=I.cell x c e
  exact ⟨v,cellK x c e v z⟩
 ·obtain ⟨m,⟨o,_,_,ho,_⟩,_⟩:=I.loc
  exact free _ o (fun z=>(hch _ z).2.1 rfl) ho I.free
 ·obtain ⟨v,o,ho,hd⟩:=I.cell x c e
  exact free c o (fun z=>(hch c z).2.2.1 x c e rfl) ho (I.freeC x c e)
 ·obtain ⟨e,n,ne,nf,d⟩:=I.pin p hp
  have nch:p.1∉ch:=fun z=>(hch p.1 z).2.2.2 p hp rfl
  exact ⟨keep p.1 p.2 ne nf nch e n,free p.1 p.2 nch e n,ne,nf,d⟩
theorem Inv.un {t':Nat} (I:Inv X pins σ H s) (u:Un X.fs [] H H' s.heap h') (hok:HOk X.prog X.w H' h'):Inv X pins σ H' {s with heap:=h',toks:=t'}:=by
 obtain ⟨m,⟨o,es,ep,ho,r⟩,_⟩:=id I.loc
 obtain ⟨sl,hL⟩:=u.any ho I.free (by simp)
 exact I.step (g':=s.gens) (d':=s.drawn) (ch:=[]) (fun _ z=>nomatch z) (fun b o _ hb _ e n=>u.keep b o e n hb (by simp)) (fun b o _ hb _ e n=>u.slot b o e n hb (by simp)) (fun b o _ e n=>u.free b o e n (by simp)) (fun b o _ e=>u.there b o e (by simp)) u.tups u.frzs u.tbls (fun m' hm=>by
  obtain ⟨o',es',ep',ho',r'⟩:=hm
  rw [ho] at ho';cases ho'
  exact ⟨_,es',ep',hL,r'⟩) hok I.bare
theorem Inv.call {g':Array GenState} {t':Nat} {d':Drawn} {ch:List Addr} (I:Inv X pins σ H s) (u:Un (frs X.stack) ch H H' s.heap h') (hok:HOk X.prog X.w H' h') (hg:AllBare g')
  (hch:∀ b∈ch,(b∈X.ex∨X.s₀.heap.objs.size≤b)∧b≠X.env.locals∧(∀ x c,X.env.cells.lookup x=some c→c≠b)∧∀ p∈X.pn++pins,p.1≠b) :
  Inv X pins σ H' {s with heap:=h',gens:=g',drawn:=d',toks:=t'}:=by
 obtain ⟨m,⟨o,es,ep,ho,r⟩,_⟩:=id I.loc
 obtain ⟨sl,hL⟩:=u.any ho I.free fun z=>(hch _ z).2.1 rfl
 exact I.step (ch:=ch) hch (fun b o hL hb hc e n=>u.keep b o e n (fun z=>(qg.mp (I.stkSub b z)).elim hL hb) hc) (fun b o _ _ hc e n=>u.any e n hc) (fun b o hc e n=>u.free b o e n hc) (fun b o hc e=>u.there b o e hc) u.tups u.frzs u.tbls (fun m' hm=>by
  obtain ⟨o',es',ep',ho',r'⟩:=hm
  rw [ho] at ho';cases ho'
  exact ⟨_,es',ep',hL,r'⟩) hok hg
theorem Inv.turned {t':Nat} {it:Addr} (I:Inv X pins σ H s) (k:∀ b o,b≠it→s.heap.get? b=some o→h'.get? b=some o) (hn:H it=none) (hL:it≠X.env.locals)
  (h1:it∈X.ex∨X.s₀.heap.objs.size≤it) (h2:∀ x c,X.env.cells.lookup x=some c→c≠it) (h3:∀ p∈X.pn++pins,p.1≠it):Inv X pins σ H {s with heap:=h',toks:=t'}:=by
 have nit:∀ b u,H b=some u→b≠it:=fun b u e z=>by rw [z,hn] at e;cases e
 refine I.step (g':=s.gens) (d':=s.drawn) (ch:=[it]) (fun b hb=>?_) (fun b o _ _ hc e _=>k b o (fun z=>hc (by simp [z])) e) (fun b o _ _ hc e _=>⟨o.slots,k b o (fun z=>hc (by simp [z])) e⟩) (fun _ _ _ _ n=>n)
  (fun b o hc e=>⟨o,k b o (fun z=>hc (by simp [z])) e⟩) (fun _ _ e=>e) (fun _ _ _ e=>e) (fun b ps e=>⟨#[],by rw [e];simp⟩) (fun m hm=>?_) (fun b u e=>?_) I.bare
 ·have e:b=it:=by simpa using hb
  subst e
  exact ⟨h1,hL,h2,h3⟩
 ·obtain ⟨o,es,ep,ho,r⟩:=hm
  exact ⟨o,es,ep,k _ o (qAx hL) ho,r⟩
 ·refine (I.hok b u e).stay (fun c v hc q=>k c v ?_ q) (fun _ q=>q) fun _ _ q=>q
  rcases hc with z|z
  ·rw [z];exact nit b u e
  ·exact nit c _ z
theorem Inv.tok (I:Inv X pins σ H s) (t:Nat):Inv X pins σ H {s with toks:=t}:=I.un (h':=s.heap) (t':=t) Un.refl I.hok
theorem Inv.kept {t':Nat} (I:Inv X pins σ H s) (k:∀ b u,s.heap.get? b=some u→h'.get? b=some u):Inv X pins σ H {s with heap:=h',toks:=t'}:=I.un (Un.kept k) (I.hok.kept k)
theorem Inv.laid {a:Addr} {o:HO} {t':Nat} (I:Inv X pins σ H s) (k:∀ b u,s.heap.get? b=some u→h'.get? b=some u) (hp:s.heap.objs.size≤a) (new:zhk X.prog X.w (upd H a o) h' a o) :
  Inv X pins σ (upd H a o) {s with heap:=h',toks:=t'}:=I.un (Un.laid k hp (I.hok.fresh hp)) (I.hok.laid k hp new)
theorem Inv.write {x e:Addr} {o:HO} {t':Nat} (I:Inv X pins σ H s) (mu:Mut (H x)) (he:e=x∨H e=some (.own x)) (k:∀ b u,b≠e→s.heap.get? b=some u→h'.get? b=some u) (heo:∃ u,h'.get? e=some u)
  (new:zhk X.prog X.w (upd H x o) h' x o):Inv X pins σ (upd H x o) {s with heap:=h',toks:=t'}:=I.un (Un.write mu he k heo) (I.hok.write mu he k heo new)
theorem Inv.pins_of {pins':List (Addr×Obj)} (I:Inv X pins σ H s) (h:∀ p∈pins',s.heap.get? p.1=some p.2∧H p.1=none∧p.1≠X.env.locals∧p.1∉X.fs∧∀ v,p.2.data≠.cell v):Inv X pins' σ H s :=
 ⟨I.ok,I.os,I.bare,I.base,I.loc,I.cell,I.free,I.freeC,fun p hp=>(qv.mp hp).elim (fun z=>I.pin p (qAD _ z)) (h p),I.hok,I.len⟩
theorem zadm {N:List Str} (hN:N.Nodup) {i j:Nat} {x:Str} (a:N[i]?=some x) (b:N[j]?=some x):i=j:=by
 obtain ⟨h1,e1⟩:=qZ.mp a
 obtain ⟨h2,e2⟩:=qZ.mp b
 exact (List.getElem_inj hN).mp (e1.trans e2.symm)
theorem zyc {M:Model} {A:Around} {E:Value→Shared→Prop} {i:Nat} {x:Str} {v:V} {u:Value} {Q:Unit→Shared→Prop} (I:Inv X pins σ H s) (hN:X.N.Nodup) (hi:X.N[i]?=some x) (hx:Loc X.env.scope x) (r:RelV v u)
  (h:∀ s',Inv X pins (σ.set i (some v)) H s'→(∃ a,Heap.SameBut a s.heap s'.heap∧(a=X.env.locals∨X.env.cells.lookup x=some a))→Q () s') (hf:X.fn x=true∨X.env.scope.names.lookup x=some .local:=by assumption):wpAny M A (storeName X.env x u) Q E s:=by
 obtain ⟨m,hn,hl⟩:=id I.loc
 have hcls:(X.env.scope.kind==.class||(X.env.scope.kind==.module&&X.env.locals != X.env.globals))=false:=by rw [I.ok.kind];rfl
 have hiσ:i<σ.length:=by rw [I.len];exact (qZ.mp hi).1
 have cne:=I.cne
 have tracked:∀ {a:Addr} {h':Heap},(∃ o,s.heap.get? a=some o∧H a=none)→Heap.SameBut a s.heap h'→HOk X.prog X.w H h':=fun {a h'} ha hs b ob e=>by
  obtain ⟨_,_,hfree⟩:=ha
  refine (I.hok b ob e).stay (fun c w' hc q=>(hs.2 c ?_).trans q) (fun _ q=>q) fun _ _ q=>q
  rintro rfl
  rcases hc with rfl|hc
  ·rw [hfree] at e;cases e
  ·rw [hfree] at hc;cases hc
 rcases hx with hk|hk
 ·refine wpAny_storeName_local hk hn (fun h' hn' hs=>?_) hcls
  obtain ⟨oL,_,_,hoL,_⟩:=id hn
  refine h _ ⟨I.ok,I.os,I.bare,⟨fun b o e n hb hx=>?_,fun b o e n hb hx=>?_,I.base.free,fun b o e hx=>?_,I.base.tups,I.base.frzs,I.base.tbls⟩,⟨_,hn',fun j y v' e1 e2 e3=>?_⟩,fun y c e=>?_,I.free,I.freeC,fun p hp=>?_,tracked ⟨oL,hoL,I.free⟩ hs,by simpa using I.len⟩ ⟨_,hs,.inl rfl⟩
  ·exact (hs.2 b (q9 (qt (qW e) I.ok.above))).trans (I.base.keep b o e n hb hx)
  ·obtain ⟨sl,e1⟩:=I.base.slot b o e n hb hx
   exact ⟨sl,(hs.2 b (q9 (qt (qW e) I.ok.above))).trans e1⟩
  ·obtain ⟨o',e1⟩:=I.base.there b o e hx
   exact ⟨o',(hs.2 b (q9 (qt (qW e) I.ok.above))).trans e1⟩
  ·by_cases hj:j=i
   ·subst hj
    rw [hi] at e1;cases e1
    rw [qAY hiσ] at e2
    cases e2
    exact ⟨u,r,.inl ⟨hk,by simp⟩⟩
   ·rw [qAL (qAx hj)] at e2
    obtain ⟨u',r',q⟩:=hl j y v' e1 e2 e3
    refine ⟨u',r',?_⟩
    rcases q with ⟨k,e⟩|⟨k,c,e,z⟩
    ·refine .inl ⟨k,?_⟩
     have:y≠x:=fun e=>hj (zadm hN e1 (e▸hi))
     simp [this,e]
    ·exact .inr ⟨k,c,e,z.sameBut hs (cne y c e)⟩
  ·obtain ⟨w',z⟩:=I.cell y c e
   exact ⟨w',z.sameBut hs (cne y c e)⟩
  ·obtain ⟨e,n,ne,nf,d⟩:=I.pin p hp
   exact ⟨(hs.2 p.1 ne).trans e,n,ne,nf,d⟩
 ·have hfn:X.fn x=true:=by
   rcases hf with z|z
   ·exact z
   ·rw [z] at hk;cases hk
  obtain ⟨c,hc⟩:=I.ok.has x (.inl hk)
  obtain ⟨w',z⟩:=I.cell x c hc
  refine wpAny_storeName_cell I.ok.kind hk hc z (fun h' hc' hs=>?_)
  obtain ⟨oc,hoc,hocd⟩:=id z
  refine h {s with heap:=h'} ⟨I.ok,I.os,I.bare,⟨fun b o e n hb hx=>?_,fun b o e n hb hx=>?_,I.base.free,fun b o e hx=>?_,I.base.tups,I.base.frzs,I.base.tbls⟩,⟨m,hn.sameBut hs (qAx (cne x c hc)),fun j y v' e1 e2 e3=>?_⟩,fun y c' e=>?_,I.free,I.freeC,fun p hp=>?_,tracked ⟨oc,hoc,I.freeC x c hc⟩ hs,by simpa using I.len⟩ ⟨c,hs,.inr hc⟩
  ·exact (hs.2 b (q9 (qt (qW e) (I.ok.cab x c hfn hc)))).trans (I.base.keep b o e n hb hx)
  ·obtain ⟨sl,e1⟩:=I.base.slot b o e n hb hx
   exact ⟨sl,(hs.2 b (q9 (qt (qW e) (I.ok.cab x c hfn hc)))).trans e1⟩
  ·obtain ⟨o',e1⟩:=I.base.there b o e hx
   exact ⟨o',(hs.2 b (q9 (qt (qW e) (I.ok.cab x c hfn hc)))).trans e1⟩
  ·by_cases hj:j=i
   ·subst hj
    rw [hi] at e1;cases e1
    rw [qAY hiσ] at e2
    cases e2
    exact ⟨u,r,.inr ⟨.inl hk,c,hc,hc'⟩⟩
   ·rw [qAL (qAx hj)] at e2
    obtain ⟨u',r',q⟩:=hl j y v' e1 e2 e3
    refine ⟨u',r',?_⟩
    rcases q with q|⟨k,c',e,z'⟩
    ·exact .inl q
    ·refine .inr ⟨k,c',e,z'.sameBut hs ?_⟩
     rintro rfl
     exact hj (zadm hN e1 (I.ok.inj _ _ _ e hc▸hi))
  ·by_cases hcc:c'=c
   ·subst hcc;exact ⟨_,hc'⟩
   ·obtain ⟨w2,z2⟩:=I.cell y c' e
    exact ⟨w2,z2.sameBut hs hcc⟩
  ·obtain ⟨e,n,ne,nf,d⟩:=I.pin p hp
   refine ⟨(hs.2 p.1 ?_).trans e,n,ne,nf,d⟩
   intro q
   rw [q,hoc] at e
   have q':oc=p.2:=qr e
   exact d w' (by rw [← q'];exact hocd)
theorem zadn {M:Model} {A:Around} {E:Value→Shared→Prop} {i:Nat} {x:Str} {v:V} {u:Value} {Q:Unit→Shared→Prop} (I:Inv X pins σ H s) (hN:X.N.Nodup) (hi:X.N[i]?=some x) (hx:Loc X.env.scope x) (r:RelV v u)
  (h:∀ s',Inv X pins (σ.set i (some v)) H s'→Q () s') (hf:X.fn x=true∨X.env.scope.names.lookup x=some .local:=by assumption):wpAny M A (storeName X.env x u) Q E s :=
 zyc I hN hi hx r (fun s' I' _=>h s' I') hf
end
abbrev XK:=Value→Option Addr→Hp→Prop
abbrev St:=List (Option V)
abbrev VK:=V→Hp→Prop
abbrev TE:=St→Hp→VK→Prop
abbrev TT:=St→Hp→(Bool→Hp→Prop)→Prop
abbrev TA:=St→Hp→(List V→Hp→Prop)→Prop
set_option genInjectivity false in
structure Ends where
 nx:St→Hp→Prop
 rt:VK
 bk:St→Hp→Prop:=fun _ _=>False
 ct:St→Hp→Prop:=fun _ _=>False
abbrev TS:=Ends→St→Hp→Prop
def EP (X:Cx) (pins:List (Addr×Obj)) (σ:St) (Q:VK) (u:Value) (s':Shared):Prop:=∃ v H',Inv X pins σ H' s'∧RelV v u∧Q v H'
def TP (X:Cx) (pins:List (Addr×Obj)) (σ:St) (Q:Bool→Hp→Prop) (b:Bool) (s':Shared):Prop:=∃ H',Inv X pins σ H' s'∧Q b H'
noncomputable def AP (X:Cx) (pins:List (Addr×Obj)) (σ:St) (Q:List V→Hp→Prop) (us:List Value) (s':Shared):Prop:=∃ vs H',Inv X pins σ H' s'∧Vals vs us∧Q vs H'
noncomputable def SP (X:Cx) (pins:List (Addr×Obj)) (D:Ends) (f:Flow) (s':Shared):Prop :=
 match f with
 | .next=>∃ σ' H',Inv X pins σ' H' s'∧D.nx σ' H'
 | .brk=>∃ σ' H',Inv X pins σ' H' s'∧D.bk σ' H'
 | .cont=>∃ σ' H',Inv X pins σ' H' s'∧D.ct σ' H'
 | .ret u=>∃ v σ' H',Inv X pins σ' H' s'∧RelV v u∧D.rt v H'
noncomputable def PE (X:Cx) (e:Expr) (t:TE):Prop :=
 ∀ (pins:List (Addr×Obj)) (s:Shared) (σ:St) (H:Hp) (Q:VK),Inv X pins σ H s→t σ H Q→wpAny (model X.prog X.w) X.A (eval e X.env) (EP X pins σ Q) X.xe s
noncomputable def PT (X:Cx) (e:Expr) (t:TT):Prop :=
 ∀ (pins:List (Addr×Obj)) (s:Shared) (σ:St) (H:Hp) (Q:Bool→Hp→Prop),Inv X pins σ H s→t σ H Q→wpAny (model X.prog X.w) X.A (isTrue e X.env (eval e X.env)) (TP X pins σ Q) X.xe s
noncomputable def PW (X:Cx) (e:Expr) (t:TT):Prop :=
 ∀ (whole:Sem Value) (pins:List (Addr×Obj)) (s:Shared) (σ:St) (H:Hp) (Q:Bool→Hp→Prop),Inv X pins σ H s→t σ H Q→wpAny (model X.prog X.w) X.A (isTrue e X.env whole) (TP X pins σ Q) X.xe s
theorem PW.pt {X:Cx} {e:Expr} {t:TT} (h:PW X e t):PT X e t:=h _
noncomputable def PA (X:Cx) (es:List Expr) (t:TA):Prop :=
 ∀ (pos:Pos) (pins:List (Addr×Obj)) (s:Shared) (σ:St) (H:Hp) (Q:List V→Hp→Prop),Inv X pins σ H s→t σ H Q→wpAny (model X.prog X.w) X.A (spliced (backTo pos (starEach es X.env))) (AP X pins σ Q) X.xe s
noncomputable def PS (X:Cx) (st:Stmt) (t:TS):Prop :=
 ∀ (pins:List (Addr×Obj)) (s:Shared) (σ:St) (H:Hp) (D:Ends),Inv X pins σ H s→t D σ H→wpAny (model X.prog X.w) X.A (exec st X.env) (SP X pins D) X.xe s
noncomputable def PSs (X:Cx) (st:List Stmt) (t:TS):Prop :=
 ∀ (pins:List (Addr×Obj)) (s:Shared) (σ:St) (H:Hp) (D:Ends),Inv X pins σ H s→t D σ H→wpAny (model X.prog X.w) X.A (execs st X.env) (SP X pins D) X.xe s
theorem thn {α:Type} {t:Sem α} {Q Q':α→Shared→Prop} {M:Model} {A:Around} {E:Value→Shared→Prop} {s:Shared} (h:wpAny M A t Q E s) (hQ:∀ a s,Q a s→Q' a s):wpAny M A t Q' E s:=qBq h hQ fun _ _ x=>x
section
variable {X:Cx}
theorem bin {a b:Expr} {ta tb:TE} (ha:PE X a ta) (hb:PE X b tb) {pins:List (Addr×Obj)} {s:Shared} {σ:St} {H:Hp} {R:V→V→Hp→Prop} (I:Inv X pins σ H s) (h:ta σ H fun x H1=>tb σ H1 fun y H2=>R x y H2)
  {α:Type} {Q:α→Shared→Prop} {f:Value→Value→Sem α}
  (hf:∀ v u s2 x y H2,Inv X pins σ H2 s2→RelV x v→RelV y u→R x y H2→wpAny (model X.prog X.w) X.A (f v u) Q X.xe s2) :
  wpAny (model X.prog X.w) X.A (eval a X.env) (fun v s₁=>wpAny (model X.prog X.w) X.A (eval b X.env) (fun u s₂=>wpAny (model X.prog X.w) X.A (f v u) Q X.xe s₂) X.xe s₁) X.xe s:=by
 refine thn (ha pins s σ H _ I h) fun v s1 ⟨x,H1,I1,r1,q1⟩=>?_
 refine thn (hb pins s1 σ H1 _ I1 q1) fun u s2 ⟨y,H2,I2,r2,q2⟩=>?_
 exact hf v u s2 x y H2 I2 r1 r2 q2
def tVar (i:Nat):TE:=fun σ H Q=>∃ v,σ[i]?=some (some v)∧Q v H
def tC (v:V):TE:=fun _ H Q=>Q v H
theorem zaof {i:Nat} {x:Str} {pos:Pos} (hN:X.N[i]?=some x) (hv:Vis X.env.scope x) (hd:(x==("__debug__":Str))=false:=by decide) (hcd:(x==("__classdict__":Str))=false:=by decide):PE X (.Name x pos) (tVar i):=by
 intro pins s σ H Q I h
 obtain ⟨v,e,h⟩:=h
 obtain ⟨m,hn,hl⟩:=I.loc
 obtain ⟨u,r,l⟩:=hl i x v hN e hv
 have fin:EP X pins σ Q u s:=⟨v,H,I,r,h⟩
 rcases l with ⟨hk,hm⟩|⟨hk,c,hc,hcell⟩
 ·exact wpAny_Name (wpAny_loadName_local I.ok.kind hk hn hm fin) hd
 ·rcases hk with hk|hk
  ·exact wpAny_Name (wpAny_loadName_cell I.ok.kind hk hc hcell fin) hd
  ·exact wpAny_Name (wpAny_loadName_free I.ok.kind hk hc hcell fin hcd) hd
theorem zkb {i j pos}:PE X (.Constant (.int i) j pos) (tC (.int i)):=fun _ _ _ H _ I h=>wpAny_Constant_int ⟨.int i,H,I.tok _,⟨_,rfl⟩,h⟩
theorem zauq {b j pos}:PE X (.Constant (.bool b) j pos) (tC (.bl b)):=fun _ _ _ H _ I h=>Constant_bool ⟨.bl b,H,I,rfl,h⟩
theorem zarz {j pos}:PE X (.Constant .none j pos) (tC .non):=fun _ _ _ H _ I h=>Constant_none ⟨.non,H,I,rfl,h⟩
theorem zasa {x j pos}:PE X (.Constant (.str x) j pos) (tC (.str x)):=fun _ _ _ H _ I h=>Calls.Constant_str ⟨.str x,H,I.tok _,⟨_,rfl⟩,h⟩
def Gl (X:Cx) (x:Str):Prop:=X.env.kindOf x=some .globalImplicit
theorem zapn {E:Value→Shared→Prop} {pins:List (Addr×Obj)} {s:Shared} {σ:St} {H:Hp} {x:Str} {u:Value} {pos:Pos} {Q:Value→Shared→Prop} (I:Inv X pins σ H s) (hg:Gl X x) (hm:X.mg x=some u) (h:Q u s)
  (hd:(x==("__debug__":Str))=false:=by decide):wpAny (model X.prog X.w) X.A (eval (.Name x pos) X.env) Q E s :=
 qCQ I.ok.kind hg (Calls.loadGlobal_global (by rw [I.ok.glob];exact I.mod.glob.keeps I.bk) hm h) hd
theorem zuz {E:Value→Shared→Prop} {pins:List (Addr×Obj)} {s:Shared} {σ:St} {H:Hp} {x:Str} {u:Value} {pos:Pos} {Q:Value→Shared→Prop} (I:Inv X pins σ H s) (hg:Gl X x) (hm:X.mg x=none) (hv:bootBuiltins x=some u) (h:Q u s)
  (hn:x ≠ "__name__":=by decide) (hd:(x==("__debug__":Str))=false:=by decide):wpAny (model X.prog X.w) X.A (eval (.Name x pos) X.env) Q E s:=by
 obtain ⟨mb,h1,h2⟩:=I.mod.blt
 exact qCQ I.ok.kind hg (Calls.loadGlobal_builtin (by rw [I.ok.glob];exact I.mod.glob.keeps I.bk) hm (by rw [I.ok.blt];exact h1.keeps I.bk) ((h2 x hn).trans hv) h) hd
theorem zapo {x:Str} {v:V} {u:Value} {pos:Pos} (hg:Gl X x) (hm:X.mg x=none) (hv:bootBuiltins x=some u) (r:RelV v u) (hn:x ≠ "__name__":=by decide) (hd:(x==("__debug__":Str))=false:=by decide):PE X (.Name x pos) (tC v) :=
 fun _ _ _ H _ I h=>zuz I hg hm hv ⟨v,H,I,r,h⟩ hn hd
variable {a b:Expr} {ta tb:TE} {pos:Pos}
noncomputable def PC (X:Cx) (op:CmpOp) (a b:Expr) (t:TE):Prop :=
 ∀ (pins:List (Addr×Obj)) (s:Shared) (σ:St) (H:Hp) (Q:VK),Inv X pins σ H s→t σ H Q →
  wpAny (model X.prog X.w) X.A (eval a X.env) (fun v s₁=>wpAny (model X.prog X.w) X.A (eval b X.env) (fun u s₂=>wpAny (model X.prog X.w) X.A (compareOp op v u) (EP X pins σ Q) X.xe s₂) X.xe s₁) X.xe s
def tB (t:TE):TT:=fun σ H Q=>t σ H fun x H1=>∃ c,x=.bl c∧Q c H1
theorem zasb {op:CmpOp} {t:TE} (h:PC X op a b t) (h1:behindInMarks op b=false:=by rfl):PE X (.Compare a [op] [b] pos) t:=fun pins s σ H Q I hw=>wpAny_Compare1 (h pins s σ H Q I hw) h1
variable {tA tB':TT} {rest:List Expr}
def tAnd (t u:TT):TT:=fun σ H Q=>t σ H fun c H1=>if c=true then u σ H1 Q else Q false H1
def tOr (t u:TT):TT:=fun σ H Q=>t σ H fun c H1=>if c=true then Q true H1 else u σ H1 Q
def tNot (t:TT):TT:=fun σ H Q=>t σ H fun c H1=>Q (!c) H1
theorem zapp (ha:PT X a tA):PW X (.BoolOp .And [a] pos) tA:=by
 intro wh pins s σ H Q I h
 refine isTrue_and (thn (ha pins s σ H Q I h) fun c s1 e=>?_)
 cases c with
 | true=>exact isTrue_and_nil e
 | false=>exact e
theorem zasc (ha:PT X a tA):PW X (.BoolOp .Or [a] pos) tA:=by
 intro wh pins s σ H Q I h
 refine isTrue_or (thn (ha pins s σ H Q I h) fun c s1 e=>?_)
 cases c with
 | false=>exact isTrue_or_nil e
 | true=>exact e
theorem zasd (ha:PT X a tA) (hb:PW X (.BoolOp .And (b::rest) pos) tB'):PW X (.BoolOp .And (a::b::rest) pos) (tAnd tA tB'):=by
 intro wh pins s σ H Q I h
 refine isTrue_and (thn (ha pins s σ H _ I h) fun c s1 ⟨H1,I1,q1⟩=>?_)
 cases c with
 | true=>exact hb wh pins s1 σ H1 Q I1 q1
 | false=>exact ⟨H1,I1,q1⟩
theorem zaur (ha:PT X a tA) (hb:PW X (.BoolOp .Or (b::rest) pos) tB'):PW X (.BoolOp .Or (a::b::rest) pos) (tOr tA tB'):=by
 intro wh pins s σ H Q I h
 refine isTrue_or (thn (ha pins s σ H _ I h) fun c s1 ⟨H1,I1,q1⟩=>?_)
 cases c with
 | true=>exact ⟨H1,I1,q1⟩
 | false=>exact hb wh pins s1 σ H1 Q I1 q1
theorem zase (ha:PT X a tA):PT X (.UnaryOp .Not a pos) (tNot tA):=by
 intro pins s σ H Q I h
 exact isTrue_not (ha pins s σ H (fun c H1=>Q (!c) H1) I h)
def tAndV (ta tb:TE):TE:=fun σ H Q=>ta σ H fun x H1=>∃ c,x=.bl c∧if c=true then tb σ H1 Q else Q (.bl false) H1
def tNotV (ta:TE):TE:=fun σ H Q=>ta σ H fun x H1=>∃ c,x=.bl c∧Q (.bl (!c)) H1
theorem zasf {op} {t:TE} (h:PE X a t):PE X (.BoolOp op [a] pos) t:=fun pins s σ H Q I hw=>BoolOp_one (h pins s σ H Q I hw)
theorem zasg (ha:PE X a ta) (hb:PE X (.BoolOp .And (b::rest) pos) tb):PE X (.BoolOp .And (a::b::rest) pos) (tAndV ta tb):=by
 intro pins s σ H Q I h
 refine BoolOp_and (thn (ha pins s σ H _ I h) fun v s1 ⟨x,H1,I1,r1,q1⟩=>?_)
 obtain ⟨c,rfl,q1⟩:=q1
 cases r1
 refine qAu ?_
 cases c with
 | true=>exact hb pins s1 σ H1 Q I1 q1
 | false=>exact ⟨.bl false,H1,I1,rfl,q1⟩
theorem zash (ha:PE X a ta):PE X (.UnaryOp .Not a pos) (tNotV ta):=by
 intro pins s σ H Q I h
 refine UnaryOp_ (thn (ha pins s σ H _ I h) fun v s1 ⟨x,H1,I1,r1,q1⟩=>?_)
 obtain ⟨c,rfl,q1⟩:=q1
 cases r1
 exact not_of (qAu ⟨.bl (!c),H1,I1,rfl,q1⟩)
end
noncomputable def SqL (K:qB) (H:Hp) (a:Addr) (xs:List V):Prop :=
 Rd H a (.lst xs) ∨
  ∃ (o:Obj) (its:Array Value) (n:Nat),K.lookup a=some o∧o.cls=.type "list" ∧ o.dict=none∧o.data=.seq its n∧its.size≤qk∧Vals xs its.toList
noncomputable def SqT (K:qB) (H:Hp) (a:Addr) (xs:List V):Prop :=
 Rd H a (.tup xs) ∨
  ∃ (o:Obj) (its:Array Value) (n:Nat),K.lookup a=some o∧o.cls=.type "tuple" ∧ o.data=.seq its n∧its.size≤qk∧Vals xs its.toList
noncomputable def absV:Value→Option V
 | .none=>some .non
 | .bool b=>some (.bl b)
 | .int i _=>some (.int i)
 | .str x _=>some (.str x)
 | .bytes b _=>some (.byt b)
 | .float b _=>some (.flt b)
 | .ref a=>some (.ref a)
 | .type n=>some (.ty n)
 | _=>none
theorem RelV.abs {x:V} {u:Value} (r:RelV x u):absV u=some x:=by
 cases x with
 | non=>cases r;rfl
 | bl _=>cases r;rfl
 | int _=>obtain ⟨t,rfl⟩:=r;rfl
 | str _=>obtain ⟨t,rfl⟩:=r;rfl
 | byt _=>obtain ⟨t,rfl⟩:=r;rfl
 | flt _=>obtain ⟨t,rfl⟩:=r;rfl
 | ref _=>cases r;rfl
 | ty _=>cases r;rfl
theorem RelV.inj {x y:V} {u:Value} (r:RelV x u) (q:RelV y u):x=y:=qr (r.abs.symm.trans q.abs)
theorem Vals.inj:∀ {xs ys:List V} {us:List Value},Vals xs us→Vals ys us→xs=ys
 | _,_,_,.nil,.nil=>rfl
 | _,_,_,.cons r t,.cons r' t'=>by rw [r.inj r',Vals.inj t t']
section
variable {X:Cx} {pins:List (Addr×Obj)} {σ:St} {H:Hp} {s:Shared} {a:Addr} {xs ys:List V}
theorem SqL.of {K:qB} (h:H a=some (.lst xs)):SqL K H a xs:=.inl (.inl h)
theorem SqT.of {K:qB} (h:H a=some (.tup xs)):SqT K H a xs:=.inl (.inl h)
theorem Inv.list (I:Inv X pins σ H s) (h:SqL X.K H a xs):∃ its:List Value,Vals xs its∧PlainL s.heap a its.toArray∧xs.length≤qk:=by
 rcases h with h|⟨o,its,n,hk,hc,hd,hs,hz,r⟩
 ·obtain ⟨z,its,n,r,e⟩:=h.ok I.hok
  exact ⟨its,r,⟨_,n,e,rfl,rfl,rfl⟩,z⟩
 ·refine ⟨its.toList,r,⟨o,n,I.kIn a o hk,hc,hd,by simpa using hs⟩,?_⟩
  have e:=r.length
  simp only [qBy] at e
  omega
theorem Inv.tuple (I:Inv X pins σ H s) (h:SqT X.K H a xs):∃ its:List Value,Vals xs its∧IsTup s.heap a its.toArray∧xs.length≤qk:=by
 rcases h with h|⟨o,its,n,hk,hc,hs,hz,r⟩
 ·obtain ⟨z,its,r,p⟩:=h.ok I.hok
  exact ⟨its,r,p,z⟩
 ·refine ⟨its.toList,r,⟨o,I.kIn a o hk,hc,n,by simpa using hs⟩,?_⟩
  have e:=r.length
  simp only [qBy] at e
  omega
theorem Inv.list_inj (I:Inv X pins σ H s) (h:SqL X.K H a xs) (h':SqL X.K H a ys):xs=ys:=by
 obtain ⟨its,r,⟨o,n,e,_,_,d⟩,_⟩:=I.list h
 obtain ⟨its',r',⟨o',n',e',_,_,d'⟩,_⟩:=I.list h'
 rw [e] at e';cases e'
 rw [d] at d'
 injection d' with d1 _
 have:its=its':=by simpa using congrArg Array.toList d1
 subst this
 exact r.inj r'
theorem Inv.tuple_inj (I:Inv X pins σ H s) (h:SqT X.K H a xs) (h':SqT X.K H a ys):xs=ys:=by
 obtain ⟨its,r,⟨o,e,_,n,d⟩,_⟩:=I.tuple h
 obtain ⟨its',r',⟨o',e',_,n',d'⟩,_⟩:=I.tuple h'
 rw [e] at e';cases e'
 rw [d] at d'
 injection d' with d1 _
 have:its=its':=by simpa using congrArg Array.toList d1
 subst this
 exact r.inj r'
end
abbrev Cx.wish (X:Cx) (E:Value→Shared→Prop):Cx:={X with xe:=E}
abbrev Cx.nox (X:Cx):Cx:=X.wish fun _ _=>False
theorem Cx.Ok.wish {X:Cx} (ok:X.Ok) (E:Value→Shared→Prop):(X.wish E).Ok :=
 ⟨ok.mod,ok.kind,ok.glob,ok.blt,ok.above,ok.inj,ok.has,ok.cab,ok.hd,ok.frames,ok.stk,ok.exf,ok.bs,ok.bsz,ok.noex,ok.exfs,ok.funs,ok.frf⟩
theorem Cx.Ok.unwish {X:Cx} {E:Value→Shared→Prop} (ok:(X.wish E).Ok):X.Ok :=
 ⟨ok.mod,ok.kind,ok.glob,ok.blt,ok.above,ok.inj,ok.has,ok.cab,ok.hd,ok.frames,ok.stk,ok.exf,ok.bs,ok.bsz,ok.noex,ok.exfs,ok.funs,ok.frf⟩
section
variable {X:Cx} {pins:List (Addr×Obj)} {σ:St} {H:Hp} {s:Shared} {E:Value→Shared→Prop}
theorem Inv.wish (I:Inv X pins σ H s) (E:Value→Shared→Prop):Inv (X.wish E) pins σ H s:=⟨I.ok.wish E,I.os,I.bare,I.base,I.loc,I.cell,I.free,I.freeC,I.pin,I.hok,I.len⟩
theorem Inv.unwish (I:Inv (X.wish E) pins σ H s):Inv X pins σ H s:=⟨I.ok.unwish,I.os,I.bare,I.base,I.loc,I.cell,I.free,I.freeC,I.pin,I.hok,I.len⟩
theorem SP.unwish {D:Ends} {f:Flow} {s':Shared} (h:SP (X.wish E) pins D f s'):SP X pins D f s':=by
 cases f with
 | next=>obtain ⟨σ',H',I,q⟩:=h;exact ⟨σ',H',I.unwish,q⟩
 | brk=>obtain ⟨σ',H',I,q⟩:=h;exact ⟨σ',H',I.unwish,q⟩
 | cont=>obtain ⟨σ',H',I,q⟩:=h;exact ⟨σ',H',I.unwish,q⟩
 | ret u=>obtain ⟨v,σ',H',I,r,q⟩:=h;exact ⟨v,σ',H',I.unwish,r,q⟩
theorem PSs.nox {st:List Stmt} {t:TS} (h:PSs X.nox st t):PSs X st t:=fun pins s σ H D I hw =>
 qBq (h pins s σ H D (I.wish _) hw) (fun _ _ q=>q.unwish) fun _ _ z=>False.elim z
end
section
variable {X:Cx} {st:Stmt} {rest:List Stmt} {t u:TS} {e:Expr} {te:TE} {pos:Pos}
def tNext:TS:=fun D σ H=>D.nx σ H
def tSeq (t u:TS):TS:=fun D σ H=>t {D with nx:=u D} σ H
theorem zapq:PSs X [] tNext:=fun _ _ σ H _ I h=>qCj ⟨σ,H,I,h⟩
theorem zoo (h1:PS X st t) (h2:PSs X rest u):PSs X (st::rest) (tSeq t u):=by
 intro pins s σ H D I h
 refine wpAny_execs_cons (thn (h1 pins s σ H {D with nx:=u D} I h) fun f s1 q=>?_)
 cases f with
 | next =>
  obtain ⟨σ',H',I',q⟩:=q
  exact h2 pins s1 σ' H' D I' q
 | ret v=>exact q
 | brk=>exact q
 | cont=>exact q
theorem zpt (h1:PS X st t):PSs X [st] t:=by
 intro pins s σ H D I h
 refine wpAny_execs_cons (thn (h1 pins s σ H D I h) fun f s1 q=>?_)
 cases f with
 | next=>exact qCj q
 | ret v=>exact q
 | brk=>exact q
 | cont=>exact q
theorem Inv.quiet {pins:List (Addr×Obj)} {σ:St} {H:Hp} {s:Shared} (I:Inv X pins σ H s):interactive X.env=false:=by simp [interactive,I.ok.kind]
def tDrop (te:TE):TS:=fun D σ H=>te σ H fun _ H1=>D.nx σ H1
theorem zabo (he:PE X e te) (hs:swapsWith e none pos.line X.env=pure false:=by rfl):PS X (.Expr e pos) (tDrop te):=by
 intro pins s σ H D I h
 exact wpAny_Expr_any (thn (he pins s σ H _ I h) fun v s1 ⟨x,H1,I1,r1,q1⟩=>⟨σ,H1,I1,q1⟩) I.quiet hs
def tRet (te:TE):TS:=fun D σ H=>te σ H D.rt
theorem zaog (he:PE X e te):PS X (.Return (some e) pos) (tRet te):=by
 intro pins s σ H D I h
 exact wpAny_Return_some (thn (he pins s σ H _ I h) fun v s1 ⟨x,H1,I1,r1,q1⟩=>⟨x,σ,H1,I1,r1,q1⟩)
def tIfS (c:TT) (t u:TS):TS:=fun D σ H=>c σ H fun b H1=>if b=true then t D σ H1 else u D σ H1
theorem zasi {c:Expr} {a b:List Stmt} {tc:TT} (hc:PT X c tc) (ha:PSs X a t) (hb:PSs X b u):PS X (.If c a b pos) (tIfS tc t u):=by
 intro pins s σ H D I h
 refine wpAny_If (thn (hc pins s σ H _ I h) fun d s1 ⟨H1,I1,q1⟩=>?_)
 cases d with
 | true=>exact ha pins s1 σ H1 D I1 q1
 | false=>exact hb pins s1 σ H1 D I1 q1
def tNever:TS:=fun _ _ _=>False
theorem zalj:PS X st tNever:=fun _ _ _ _ _ _ h=>h.elim
end
abbrev TG:=V→St→Hp→(St→Hp→Prop)→Prop
abbrev TGs:=List V→St→Hp→(St→Hp→Prop)→Prop
noncomputable def PG (X:Cx) (target:Expr) (t:TG):Prop :=
 ∀ (pins:List (Addr×Obj)) (s:Shared) (σ:St) (H:Hp) (v:V) (u:Value) (Q:St→Hp→Prop),Inv X pins σ H s→RelV v u→t v σ H Q →
  wpAny (model X.prog X.w) X.A (assign target X.env u) (fun _ s'=>∃ σ' H',Inv X pins σ' H' s'∧Q σ' H') X.xe s
noncomputable def PGs (X:Cx) (ts:List Expr) (t:TGs):Prop :=
 ∀ (pins:List (Addr×Obj)) (s:Shared) (σ:St) (H:Hp) (vs:List V) (us:List Value) (Q:St→Hp→Prop),Inv X pins σ H s→Vals vs us→t vs σ H Q →
  wpAny (model X.prog X.w) X.A (assignInOrder ((assignEach ts X.env).map (·.2)) us) (fun _ s'=>∃ σ' H',Inv X pins σ' H' s'∧Q σ' H') X.xe s
abbrev TSet:=V→V→V→Hp→(Hp→Prop)→Prop
noncomputable def PSet (X:Cx) (t:TSet):Prop :=
 ∀ (pins:List (Addr×Obj)) (s:Shared) (σ:St) (H:Hp) (o i v:V) (ov iv u:Value) (Q:Hp→Prop),Inv X pins σ H s→RelV o ov→RelV i iv→RelV v u→t o i v H Q →
  wpAny (model X.prog X.w) X.A (setItem ov iv u) (fun _ s'=>∃ H',Inv X pins σ H' s'∧Q H') X.xe s
section
variable {X:Cx} {pos:Pos}
def gName (i:Nat):TG:=fun v σ H Q=>Q (σ.set i (some v)) H
theorem zabp {i:Nat} {x:Str} (hN:X.N.Nodup) (hi:X.N[i]?=some x) (hx:Loc X.env.scope x) (hf:X.fn x=true∨X.env.scope.names.lookup x=some .local:=by assumption):PG X (.Name x pos) (gName i):=by
 intro pins s σ H v u Q I r h
 exact wpAny_assign_Name (zadn I hN hi hx r (fun s' I'=>⟨_,H,I',h⟩) hf)
def gNil:TGs:=fun vs σ H Q=>vs=[]∧Q σ H
def gCons (t:TG) (u:TGs):TGs:=fun vs σ H Q=>∃ v r,vs=v::r∧t v σ H fun σ' H'=>u r σ' H' Q
theorem zapr:PGs X [] gNil:=by
 intro pins s σ H vs us Q I r h
 obtain ⟨e,h⟩:=h
 subst e
 cases r
 exact assignInOrder_nil ⟨σ,H,I,h⟩
theorem zalk {e:Expr} {es:List Expr} {t:TG} {u:TGs} (h1:PG X e t) (h2:PGs X es u)
  (hs:(assignEach (e::es) X.env).map (·.2)=assign e X.env::(assignEach es X.env).map (·.2):=by rfl):PGs X (e::es) (gCons t u):=by
 intro pins s σ H vs us Q I r h
 obtain ⟨v,vr,e1,h⟩:=h
 subst e1
 cases r with
 | cons r rr =>
  rw [hs]
  refine assignInOrder_cons (thn (h1 pins s σ H _ _ _ I r h) fun _ s1 ⟨σ1,H1,I1,q1⟩=>?_)
  exact h2 pins s1 σ1 H1 _ _ Q I1 rr q1
def gTup (K:qB) (n:Nat) (t:TGs):TG:=fun v σ H Q=>∃ a xs,v=.ref a∧SqT K H a xs∧xs.length=n∧t xs σ H Q
theorem zasj {es:List Expr} {k:Nat} {t:TGs} {n:Nat} (hc:X.calm=true) (h:PGs X es t)
  (hn:(assignEach es X.env).length=n:=by rfl) (hst:(assignEach es X.env).findIdx? (·.1)=none:=by rfl):PG X (.Tuple es k pos) (gTup X.K n t):=by
 intro pins s σ H v u Q I r hw
 obtain ⟨a,xs,e1,hq,hl,hw⟩:=hw
 subst e1
 cases r
 obtain ⟨its,rv,ht,hz⟩:=I.tuple hq
 refine assign_Tuple_tuple (I.ok.hd hc) ht (by simp [hn,← hl,rv.length]) hst fun h' hx=>?_
 have I1:Inv X pins σ H {s with heap:=h'}:=I.kept (t':=s.toks) fun b o e=>hx b o (q9 (qW e)) e
 exact h pins _ σ H xs _ Q I1 (by simpa using rv) hw
def gSub (to ti:TE) (t:TSet):TG:=fun v σ H Q=>to σ H fun o H1=>ti σ H1 fun i H2=>t o i v H2 fun H3=>Q σ H3
theorem zask {o i:Expr} {to ti:TE} {t:TSet} (ho:PE X o to) (hi:PE X i ti) (hs:PSet X t)
  (ha:∀ v,assign (.Subscript o i pos) X.env v=(do
   let ov ← holding [v] (eval o X.env)
   let iv ← holding [v,ov] (eval i X.env)
   standAt pos
   holding [v,ov,iv] (setItem ov iv v)
   release [v,ov,iv] []):=by intro _;rfl):PG X (.Subscript o i pos) (gSub to ti t):=by
 intro pins s σ H v u Q I r h
 rw [ha]
 refine qD (qBZ (thn (ho pins s σ H _ I h) fun ov s1 ⟨x,H1,I1,r1,q1⟩=>?_))
 refine qD (qBZ (thn (hi pins s1 σ H1 _ I1 q1) fun iv s2 ⟨y,H2,I2,r2,q2⟩=>?_))
 refine qD (qBY (qD (qBZ (thn (hs pins s2 σ H2 x y v ov iv u _ I2 r1 r2 r q2) fun _ s3 ⟨H3,I3,q3⟩=>?_))))
 exact wpAny_release ⟨σ,H3,I3,q3⟩
def tAsg (te:TE) (g:TG):TS:=fun D σ H=>te σ H fun x H1=>g x σ H1 D.nx
theorem zaoh {tg e:Expr} {te:TE} {g:TG} (he:PE X e te) (hg:PG X tg g) (hs:swapsWithSole [tg] e pos.line X.env=pure false:=by rfl) (hw:swappedStores [tg] e X.env=pure none:=by rfl)
  (h1:(assignEach [tg] X.env).map (·.2)=[assign tg X.env]:=by rfl):PS X (.Assign [tg] e pos) (tAsg te g):=by
 intro pins s σ H D I h
 refine wpAny_Assign_stores (thn (he pins s σ H _ I h) fun v s1 ⟨x,H1,I1,r1,q1⟩=>?_) hs hw
 rw [h1]
 exact thn (hg pins s1 σ H1 x v _ I1 r1 q1) fun _ s2 q=>q
theorem zado {i:Nat} {x:Str} {e:Expr} {te:TE} {pos':Pos} (hN:X.N.Nodup) (hi:X.N[i]?=some x) (hx:Loc X.env.scope x) (he:PE X e te) (hs:swapsWith e (some (.Name x pos')) pos.line X.env=pure false:=by rfl) (hf:X.fn x=true∨X.env.scope.names.lookup x=some .local:=by assumption) :
  PS X (.Assign [.Name x pos'] e pos) (tAsg te (gName i)):=by
 intro pins s σ H D I h
 refine wpAny_Assign_Name (thn (he pins s σ H _ I h) fun v s1 ⟨y,H1,I1,r1,q1⟩=>?_) hs
 exact zadn I1 hN hi hx r1 (fun s2 I2=>⟨_,H1,I2,q1⟩) hf
end
section
variable {X:Cx} {pos:Pos}
end
set_option genInjectivity false in
structure It where
 go:Nat→Hp→Prop
 yld:Nat→Hp→V→Hp→Prop
 stop:Nat→Hp→Prop
noncomputable def FpOk (X:Cx) (pins:List (Addr×Obj)) (H:Hp) (b:Addr):Prop :=
 H b=none∧b≠X.env.locals∧b∉X.fs∧(b∈X.ex∨X.s₀.heap.objs.size≤b)∧(∀ x c,X.env.cells.lookup x=some c→c≠b)∧∀ p∈X.pn++pins,p.1≠b
theorem Inv.fpOk {X:Cx} {pins:List (Addr×Obj)} {σ:St} {H H':Hp} {s:Shared} {b:Addr} (I:Inv X pins σ H s) (hb:s.heap.objs.size≤b) (hn:H' b=none):FpOk X pins H' b:=by
 refine ⟨hn,qBu (qt I.lt hb),I.nofs hb,.inr (qAX I.sz hb),fun x c e z=>?_,fun p hp z=>?_⟩
 ·obtain ⟨v,q⟩:=I.cell x c e
  exact absurd (qt q.lt (by rw [z];exact hb)) (qA6 _)
 ·exact absurd (qt (qW (I.pin p hp).1) (by rw [z];exact hb)) (qA6 _)
set_option genInjectivity false in
structure Turn (P:Program) (w:World) (K:qB) (tg:Expr) (J:It) (fp:List Addr) (it:Addr) (tn:Nat→Heap→Prop):Prop where
 mem:it∈fp
 obj:∀ i h,tn i h→∀ b∈fp,∃ o,h.get? b=some o∧∀ v,o.data≠.cell v
 keep:∀ i h h',tn i h→(∀ b∈fp,∀ o,h.get? b=some o→h'.get? b=some o)→tn i h'
 item:∀ (X:Cx),X.prog=P→X.w=w→X.K=K→X.calm=true→∀ (i:Nat) (pins:List (Addr×Obj)) (s:Shared) (σ:St) (H:Hp) (E:Value→Shared→Prop),Inv X pins σ H s→(∀ b∈fp,FpOk X pins H b)→tn i s.heap→J.go i H →
  wpAny (model P w) X.A (pyNext (.ref it)) (fun r s1=>∃ u,r=some u ∧
   wpAny (model P w) X.A (letOwnedTupleGo tg (.ref it) u) (fun _ s2=>∃ x H',Inv X pins σ H' s2∧RelV x u∧J.yld i H x H'∧tn (i+1) s2.heap∧∀ b∈fp,H' b=none) E s1) E s
 done:∀ (X:Cx),X.prog=P→X.w=w→X.K=K→X.calm=true→∀ (i:Nat) (pins:List (Addr×Obj)) (s:Shared) (σ:St) (H:Hp) (E:Value→Shared→Prop),Inv X pins σ H s→(∀ b∈fp,FpOk X pins H b)→tn i s.heap→J.stop i H →
  wpAny (model P w) X.A (pyNext (.ref it)) (fun r s1=>r=none∧Inv X pins σ H s1) E s
 self:∀ (A:Around) (i:Nat) (s:Shared) (Q:Value→Shared→Prop) (E:Value→Shared→Prop),tn i s.heap→Q (.ref it) s→wpAny (model P w) A (pyIter (.ref it)) Q E s
abbrev TI:=St→Hp→(It→Hp→Prop)→Prop
noncomputable def PIE (X:Cx) (pins:List (Addr×Obj)) (σ:St) (tg:Expr) (R:It→Hp→Prop) (itv:Value) (s2:Shared):Prop :=
 ∃ (it:Addr) (fp:List Addr) (tn:Nat→Heap→Prop) (J:It) (H':Hp),itv=.ref it∧Inv X pins σ H' s2∧Turn X.prog X.w X.K tg J fp it tn∧tn 0 s2.heap∧(∀ b∈fp,FpOk X pins H' b)∧R J H'
noncomputable def PI (X:Cx) (tg iter:Expr) (wi:TI):Prop :=
 ∀ (pins:List (Addr×Obj)) (s:Shared) (σ:St) (H:Hp) (R:It→Hp→Prop),Inv X pins σ H s→wi σ H R →
  wpAny (model X.prog X.w) X.A (eval iter X.env) (fun v s1=>wpAny (model X.prog X.w) X.A (pyIter v) (PIE X pins σ tg R) X.xe s1) X.xe s
theorem zaps {M:Model} {A:Around} {E:Value→Shared→Prop} {s:Shared} {tg:Expr} {it:Addr} {u:Value} {o:Obj} {n:String} {vs:Array Value} {Q:Unit→Shared→Prop} (ho:s.heap.get? it=some o) (hc:o.cls=.type n) (hd:o.data=.fields vs)
  (hn:["enumerate", "zip", "dict_itemiterator", "dict_reverseitemiterator", "odict_iterator", "itertools.zip_longest", "itertools.pairwise"].contains n=false) (hQ:Q () s):wpAny M A (letOwnedTupleGo tg (.ref it) u) Q E s:=by
 unfold letOwnedTupleGo
 cases tg<;>first
  | exact qQ hQ
  | (cases u<;>first
    | exact qQ hQ
    | (refine qD (wpAny_load ho ?_)
       rw [hc,hd]
       show wpAny M A (if (["enumerate", "zip", "dict_itemiterator", "dict_reverseitemiterator", "odict_iterator", "itertools.zip_longest", "itertools.pairwise"].contains n&&vs[0]?==some (rawInt _))=true then _ else _) Q E s
       rw [if_neg (by intro h;rw [hn,qBx] at h;cases h)]
       exact qQ hQ))
noncomputable def Itl (K:qB) (a:Addr):It :=
 ⟨fun i H=>∃ xs x,SqL K H a xs∧xs[i]?=some x,fun i H x H'=>H'=H∧∀ xs,SqL K H a xs→xs[i]?=some x,fun i H=>∃ xs,SqL K H a xs∧xs.length≤i⟩
noncomputable def Itt (K:qB) (a:Addr):It :=
 ⟨fun i H=>∃ xs x,SqT K H a xs∧xs[i]?=some x,fun i H x H'=>H'=H∧∀ xs,SqT K H a xs→xs[i]?=some x,fun i H=>∃ xs,SqT K H a xs∧xs.length≤i⟩
def Itr (lo:Int) (n:Nat):It:=⟨fun i _=>i<n,fun i H x H'=>H'=H∧x=.int (lo+i),fun i _=>n≤i⟩
theorem zyd {P:Program} {w:World} {K:qB} {tg:Expr} (a it:Addr):Turn P w K tg (Itl K a) [it] it (fun i h=>h.IsListIter it a i) where
 mem:=by simp
 obj:=fun i h st b hb=>by
  have e:b=it:=by simpa using hb
  subst e
  obtain ⟨o,e,c,d⟩:=st
  exact ⟨o,e,fun v z=>by rw [d] at z;cases z⟩
 keep:=fun i h h' st k=>st.at fun o e=>k it (by simp) o e
 item:=by
  intro X hP hw hK hc i pins s σ H E I hf st hg
  subst hP hw hK
  obtain ⟨xs,x,hq,hx⟩:=hg
  obtain ⟨its,rv,p,hz⟩:=I.list hq
  obtain ⟨u,hu,ru⟩:=rv.get hx
  obtain ⟨f0,f1,f2,f3,f4,f5⟩:=hf it (by simp)
  refine wpAny_pyNext_list_item st p.isList (x:=u) (by simpa using hu) fun h' st' sb=>?_
  have I1:Inv X pins σ H {s with heap:=h'}:=I.turned (t':=s.toks) (fun b o hb e=>(sb.2 b hb).trans e) f0 f1 f3 f4 f5
  obtain ⟨o,e,c,d⟩:=id st'
  exact ⟨u,rfl,zaps (s:={s with heap:=h'}) e c d (by decide) ⟨x,H,I1,ru,⟨rfl,fun ys hy=>by rw [I.list_inj hy hq];exact hx⟩,st',fun b hb=>(hf b hb).1⟩⟩
 done:=by
  intro X hP hw hK hc i pins s σ H E I hf st hg
  subst hP hw hK
  obtain ⟨xs,hq,hx⟩:=hg
  obtain ⟨its,rv,p,hz⟩:=I.list hq
  obtain ⟨f0,f1,f2,f3,f4,f5⟩:=hf it (by simp)
  have hl:=rv.length
  exact wpAny_pyNext_list_end (I.ok.hd hc) st p.isList (by simp;omega) fun h' eb=>⟨rfl,I.turned (t':=s.toks) (fun b o hb e=>eb b o hb e) f0 f1 f3 f4 f5⟩
 self:=fun _ _ _ _ _ st h=>wpAny_pyIter_listiter st h
theorem zafg {P:Program} {w:World} {K:qB} {tg:Expr} (a it:Addr):Turn P w K tg (Itt K a) [it] it (fun i h=>h.IsTupleIter it a i) where
 mem:=by simp
 obj:=fun i h st b hb=>by
  have e:b=it:=by simpa using hb
  subst e
  obtain ⟨o,e,c,d⟩:=st
  exact ⟨o,e,fun v z=>by rw [d] at z;cases z⟩
 keep:=fun i h h' st k=>st.at fun o e=>k it (by simp) o e
 item:=by
  intro X hP hw hK hc i pins s σ H E I hf st hg
  subst hP hw hK
  obtain ⟨xs,x,hq,hx⟩:=hg
  obtain ⟨its,rv,p,hz⟩:=I.tuple hq
  obtain ⟨u,hu,ru⟩:=rv.get hx
  obtain ⟨f0,f1,f2,f3,f4,f5⟩:=hf it (by simp)
  refine wpAny_pyNext_tuple_item st (show s.heap.IsTuple a its.toArray from p) (x:=u) (by simpa using hu) fun h' st' sb=>?_
  have I1:Inv X pins σ H {s with heap:=h'}:=I.turned (t':=s.toks) (fun b o hb e=>(sb.2 b hb).trans e) f0 f1 f3 f4 f5
  obtain ⟨o,e,c,d⟩:=id st'
  exact ⟨u,rfl,zaps (s:={s with heap:=h'}) e c d (by decide) ⟨x,H,I1,ru,⟨rfl,fun ys hy=>by rw [I.tuple_inj hy hq];exact hx⟩,st',fun b hb=>(hf b hb).1⟩⟩
 done:=by
  intro X hP hw hK hc i pins s σ H E I hf st hg
  subst hP hw hK
  obtain ⟨xs,hq,hx⟩:=hg
  obtain ⟨its,rv,p,hz⟩:=I.tuple hq
  obtain ⟨f0,f1,f2,f3,f4,f5⟩:=hf it (by simp)
  have hl:=rv.length
  exact wpAny_pyNext_tuple_end (I.ok.hd hc) st (show s.heap.IsTuple a its.toArray from p) (by simp;omega) fun h' eb=>⟨rfl,I.turned (t':=s.toks) (fun b o hb e=>eb b o hb e) f0 f1 f3 f4 f5⟩
 self:=fun _ _ _ _ _ st h=>wpAny_pyIter_tupleiter st h
theorem zafh {P:Program} {w:World} {K:qB} {tg:Expr} (it:Addr) (lo:Int) (n:Nat):Turn P w K tg (Itr lo n) [it] it (fun i h=>IsRangeIter h it (lo+(i:Nat) * 1) ((n:Int) - (i:Nat)) 1) where
 mem:=by simp
 obj:=fun i h st b hb=>by
  have e:b=it:=by simpa using hb
  subst e
  exact ⟨_,st,fun v z=>by
   have z':Data.fields _=Data.cell v:=z
   cases z'⟩
 keep:=fun i h h' st k=>k it (by simp) _ st
 item:=by
  intro X hP hw hK hc i pins s σ H E I hf st hg
  subst hP hw hK
  obtain ⟨f0,f1,f2,f3,f4,f5⟩:=hf it (by simp)
  have W:=Walks.range (prog:=X.prog) (w:=X.w) (I.ok.hd hc) it lo 1 n
  refine W.item i s _ _ hg st fun v h' tk hv st' kk=>?_
  obtain ⟨t,rfl⟩:=hv
  have I1:Inv X pins σ H {s with heap:=h',toks:=tk}:=I.turned (fun b o hb e=>kk b o (by simpa using hb) e) f0 f1 f3 f4 f5
  refine ⟨_,rfl,zaps (s:={s with heap:=h',toks:=tk}) (n:="range_iterator") st' rfl rfl (by decide) ⟨.int (lo+i),H,I1,⟨t,?_⟩,⟨rfl,rfl⟩,st',fun b hb=>(hf b hb).1⟩⟩
  rw [Int.mul_one]
 done:=by
  intro X hP hw hK hc i pins s σ H E I hf st hg
  subst hP hw hK
  obtain ⟨f0,f1,f2,f3,f4,f5⟩:=hf it (by simp)
  exact wpAny_pyNext_range_end (I.ok.hd hc) st (by have:n≤i:=hg;omega) fun h' eb=>⟨rfl,I.turned (t':=s.toks) (fun b o hb e=>eb b o hb e) f0 f1 f3 f4 f5⟩
 self:=fun _ _ _ _ _ st h=>wpAny_pyIter_rangeiter st h
section
variable {X:Cx} {tg:Expr}
def zasl (K:qB) (tl:TE):TI:=fun σ H R=>tl σ H fun x H1=>∃ a,x=.ref a∧(∃ xs,SqL K H1 a xs)∧R (Itl K a) H1
theorem zapt {l:Expr} {tl:TE} (hl:PE X l tl):PI X tg l (zasl X.K tl):=by
 intro pins s σ H R I h
 refine thn (hl pins s σ H _ I h) fun v s1 ⟨x,H1,I1,r1,q1⟩=>?_
 obtain ⟨a,e,⟨xs,hq⟩,q⟩:=q1
 subst e
 cases r1
 obtain ⟨its,rv,p,hz⟩:=I1.list hq
 refine qAv p.isList ?_
 refine ⟨s1.heap.objs.size,[s1.heap.objs.size],_,_,H1,rfl,I1.kept (t':=s1.toks) fun b o e=>qG _ e,zyd a _,⟨_,qq _ rfl,rfl,rfl⟩,fun b hb=>?_,q⟩
 have e:b=s1.heap.objs.size:=by simpa using hb
 subst e
 exact I1.fpOk (qM _) (I1.hok.fresh (qM _))
theorem zall {pins:List (Addr×Obj)} {σ:St} {H:Hp} {s:Shared} {R:It→Hp→Prop} {E:Value→Shared→Prop} {lo hi:Int} {t u v:Tok} {tk:Nat} (I:Inv X pins σ H s) (h1:-(2 ^ 62)≤lo) (h2:lo<2 ^ 62) (h3:-(2 ^ 62)≤hi) (h4:hi<2 ^ 62)
  (q:R (Itr lo (hi - lo).toNat) H):wpAny (model X.prog X.w) X.A (pyIter (.ref s.heap.objs.size)) (PIE X pins σ tg R) E {s with heap:=s.heap.push {cls:=.type "range",data:=.fields #[.int lo t,.int hi u,.int 1 v]},toks:=tk}:=by
 refine wpAny_pyIter_range (IsRange.new ..) (small_one h1 h2 h3 h4) ?_
 have I1:Inv X pins σ H {s with heap:=s.heap.push {cls:=.type "range",data:=.fields #[.int lo t,.int hi u,.int 1 v]},toks:=tk}:=I.kept fun b o e=>qG _ e
 refine ⟨(s.heap.push {cls:=.type "range",data:=.fields #[.int lo t,.int hi u,.int 1 v]}).objs.size,[(s.heap.push {cls:=.type "range",data:=.fields #[.int lo t,.int hi u,.int 1 v]}).objs.size],_,_,H,rfl,
  I1.kept (t':=tk) fun b o e=>qG _ e,zafh _ lo (hi - lo).toNat,?_,fun b hb=>?_,q⟩
 ·have e1:lo+((0:Nat):Int) * 1=lo:=by simp
  have e2:(((hi - lo).toNat:Nat):Int) - ((0:Nat):Int)=Builtin.Range.rangeSize lo hi 1:=by rw [rangeSize_one];split<;>omega
  show IsRangeIter _ _ (lo+((0:Nat):Int) * 1) ((((hi - lo).toNat:Nat):Int) - ((0:Nat):Int)) 1
  rw [e1,e2]
  exact qq _ rfl
 ·have e:b=(s.heap.push {cls:=.type "range",data:=.fields #[.int lo t,.int hi u,.int 1 v]}).objs.size:=by simpa using hb
  subst e
  exact I1.fpOk (qM _) (I1.hok.fresh (qM _))
def iRng1 (ta:TA):TI:=fun σ H R=>ta σ H fun vs H1=>∃ j:Int,vs=[.int j]∧-(2 ^ 62)≤j∧j<2 ^ 62∧R (Itr 0 j.toNat) H1
theorem zye {a:Expr} {ta:TA} {p pos:Pos} (hg:Gl X "range") (hm:X.mg "range" = none) (ha:PA X [a] ta) (hs:starEach [a] X.env=[(false,eval a X.env)]:=by rfl):PI X tg (.Call (.Name "range" p) [a] [] pos) (iRng1 ta):=by
 intro pins s σ H R I h
 refine Call_ (zuz I hg hm boot_range (qBM (thn (ha pos pins s σ H _ I h) fun us s1 ⟨vs,H1,I1,r1,q1⟩=>?_) hs rfl))
 obtain ⟨j,e,q1,q2,q⟩:=q1
 subst e
 cases r1 with
 | cons r rr =>
  cases rr
  obtain ⟨t,rfl⟩:=r
  exact call_range_1 (zall I1 (by omega) (by omega) q1 q2 (by simpa using q))
noncomputable def tFor (wi:TI) (g:TG) (tb:TS):TS:=fun D σ H=>wi σ H fun J H1=>∃ W:Nat→Nat→St→Hp→Prop,(∃ m,W 0 m σ H1)∧∀ i m σ H,W i m σ H →
 (J.stop i H∧D.nx σ H)∨(J.go i H∧∃ N:St→Hp→Prop,(∀ σ' H',N σ' H'→∃ m',m'<m∧W (i+1) m' σ' H')∧∀ x H',J.yld i H x H'→g x σ H' fun σ2 H2=>tb {D with nx:=N,ct:=N,bk:=D.nx} σ2 H2)
def zyf (fp:List Addr) (h:Heap):List (Addr×Obj):=fp.filterMap fun b=>(h.get? b).map fun o=>(b,o)
theorem zmz {fp:List Addr} {h:Heap} {b:Addr} {o:Obj} (hb:b∈fp) (e:h.get? b=some o):(b,o)∈zyf fp h:=qBc.mpr ⟨b,hb,by rw [e];rfl⟩
theorem zagx {fp:List Addr} {h:Heap} {p:Addr×Obj} (hp:p∈zyf fp h):p.1∈fp∧h.get? p.1=some p.2:=by
 obtain ⟨b,hb,e⟩:=qBc.mp hp
 cases q:h.get? b with
 | none=>rw [q] at e;cases e
 | some o =>
  rw [q] at e
  have e':(b,o)=p:=qr e
  subst e'
  exact ⟨hb,q⟩
theorem Inv.pinned {pins:List (Addr×Obj)} {σ:St} {H:Hp} {s:Shared} {fp:List Addr} (I:Inv X pins σ H s) (hf:∀ b∈fp,FpOk X pins H b) (ho:∀ b∈fp,∃ o,s.heap.get? b=some o∧∀ v,o.data≠.cell v):Inv X (pins++zyf fp s.heap) σ H s :=
 I.pins_of fun p hp=>(qv.mp hp).elim (fun z=>I.pin p (qo _ z)) fun z=>by
  obtain ⟨hb,e⟩:=zagx z
  obtain ⟨f0,f1,f2,_⟩:=hf p.1 hb
  obtain ⟨o,e',d⟩:=ho p.1 hb
  rw [e] at e';cases e'
  exact ⟨e,f0,f1,f2,d⟩
theorem Inv.unpinned {pins pl:List (Addr×Obj)} {σ:St} {H:Hp} {s:Shared} (I:Inv X (pins++pl) σ H s):Inv X pins σ H s:=I.pins_of fun p hp=>I.pin p (qo _ (qAD _ hp))
theorem zagy {iter:Expr} {body:List Stmt} {wi:TI} {g:TG} {tb:TS} {pos:Pos} (hp:PassesOwn (model X.prog X.w) X.A X.env X.xe) (hc:X.calm=true) (hi:PI X tg iter wi) (hg:PG X tg g) (hb:PSs X body tb)
  (hs:∀ x,foldedSetIterable iter X.env x=pure x:=by intro _;rfl):PS X (.For tg iter body [] pos) (tFor wi g tb):=by
 intro pins s σ H D I h
 refine wpAny_For (thn (hi pins s σ H _ I h) fun v s1 h1=>thn h1 fun itv s2 h2=>?_) hs
 obtain ⟨it,fp,tn,J,H2,e,I2,T,st2,f2,W,⟨m0,w0⟩,turn⟩:=h2
 subst e
 have stat:∀ {H':Hp},(∀ b∈fp,H' b=none)→∀ b∈fp,FpOk X pins H' b:=fun hn b hb=>⟨hn b hb,(f2 b hb).2⟩
 refine codeAny_forLoop_any (fun n s'=>∃ i σ' H',Inv X pins σ' H' s'∧tn i s'.heap∧(∀ b∈fp,H' b=none)∧W i n σ' H') ?_ m0 ⟨0,σ,H2,I2,st2,fun b hb=>(f2 b hb).1,w0⟩
 rintro n s3 ⟨i,σ3,H3,I3,st3,fr3,w3⟩
 rcases turn i n σ3 H3 w3 with ⟨stop,qn⟩|⟨go,N,hN,step⟩
 ·refine qBg hp (thn (T.done X rfl rfl rfl hc i pins s3 σ3 H3 X.xe I3 (stat fr3) st3 stop) fun r s4 ⟨hr,I4⟩=>?_)
  subst hr
  exact qCj ⟨σ3,H3,I4,qn⟩
 ·refine qBg hp (thn (T.item X rfl rfl rfl hc i pins s3 σ3 H3 X.xe I3 (stat fr3) st3 go) fun r s4 ⟨u,hr,h4⟩=>?_)
  subst hr
  refine qBg hp (thn h4 fun _ s5 ⟨x,H5,I5,r5,y5,st5,fr5⟩=>?_)
  have I5':=I5.pinned (stat fr5) (T.obj _ _ st5)
  refine qBg hp (thn (hg _ s5 σ3 H5 x u _ I5' r5 (step x H5 y5)) fun _ s6 ⟨σ6,H6,I6,q6⟩=>?_)
  refine qBg hp (thn (hb _ s6 σ6 H6 _ I6 q6) fun f s7 q7=>?_)
  have again:∀ {σ7:St} {H7:Hp},Inv X (pins++zyf fp s5.heap) σ7 H7 s7→N σ7 H7→∃ m,m<n∧∃ i σ' H',Inv X pins σ' H' s7∧tn i s7.heap∧(∀ b∈fp,H' b=none)∧W i m σ' H':=fun {σ7 H7} I7 n7=>by
   obtain ⟨m',hm,w7⟩:=hN σ7 H7 n7
   refine ⟨m',hm,i+1,σ7,H7,I7.unpinned,T.keep _ _ _ st5 fun b hb o e=>(I7.pin (b,o) (qo _ (qo _ (zmz hb e)))).1,fun b hb=>?_,w7⟩
   obtain ⟨o,e,d⟩:=T.obj _ _ st5 b hb
   exact (I7.pin (b,o) (qo _ (qo _ (zmz hb e)))).2.1
  cases f with
  | next=>obtain ⟨σ7,H7,I7,n7⟩:=q7;exact again I7 n7
  | cont=>obtain ⟨σ7,H7,I7,n7⟩:=q7;exact again I7 n7
  | brk=>obtain ⟨σ7,H7,I7,q7⟩:=q7;exact ⟨σ7,H7,I7.unpinned,q7⟩
  | ret v=>obtain ⟨x7,σ7,H7,I7,r7,q7⟩:=q7;exact ⟨x7,σ7,H7,I7.unpinned,r7,q7⟩
end
theorem for_list {K:qB} {a:Addr} {xs:List V} {g:TG} {tb:TS} {D:Ends} {σ:St} {H:Hp} (Pv:Nat→St→Hp→Prop) (h0:Pv 0 σ H) (hl:∀ i σ H,i≤xs.length→Pv i σ H→SqL K H a xs)
  (hs:∀ i x σ H,xs[i]?=some x→Pv i σ H→g x σ H fun σ2 H2=>tb {D with nx:=Pv (i+1),ct:=Pv (i+1),bk:=D.nx} σ2 H2) (hd:∀ σ H,Pv xs.length σ H→D.nx σ H) :
  ∃ W:Nat→Nat→St→Hp→Prop,(∃ m,W 0 m σ H)∧∀ i m σ H,W i m σ H →
   ((Itl K a).stop i H∧D.nx σ H)∨((Itl K a).go i H∧∃ N:St→Hp→Prop,(∀ σ' H',N σ' H'→∃ m',m'<m∧W (i+1) m' σ' H')∧∀ x H',(Itl K a).yld i H x H'→g x σ H' fun σ2 H2=>tb {D with nx:=N,ct:=N,bk:=D.nx} σ2 H2):=by
 refine ⟨fun i m σ H=>m=xs.length - i∧i≤xs.length∧Pv i σ H,⟨xs.length,by simp,qAf _,h0⟩,?_⟩
 rintro i m σ H ⟨rfl,hi,p⟩
 have q:=hl i σ H hi p
 by_cases hlt:i<xs.length
 ·refine .inr ⟨⟨xs,xs[i],q,by simp [hlt]⟩,Pv (i+1),fun σ' H' p'=>⟨xs.length - (i+1),by omega,rfl,hlt,p'⟩,fun x H' y=>?_⟩
  obtain ⟨e,y⟩:=y
  subst e
  exact hs i x σ _ (y xs q) p
 ·have e:i=xs.length:=by omega
  subst e
  exact .inl ⟨⟨xs,q,qM _⟩,hd σ H p⟩
theorem for_range {lo:Int} {n:Nat} {g:TG} {tb:TS} {D:Ends} {σ:St} {H:Hp} (Pv:Nat→St→Hp→Prop) (h0:Pv 0 σ H)
  (hs:∀ i σ H,i<n→Pv i σ H→g (.int (lo+i)) σ H fun σ2 H2=>tb {D with nx:=Pv (i+1),ct:=Pv (i+1),bk:=D.nx} σ2 H2) (hd:∀ σ H,Pv n σ H→D.nx σ H) :
  ∃ W:Nat→Nat→St→Hp→Prop,(∃ m,W 0 m σ H)∧∀ i m σ H,W i m σ H →
   ((Itr lo n).stop i H∧D.nx σ H)∨((Itr lo n).go i H∧∃ N:St→Hp→Prop,(∀ σ' H',N σ' H'→∃ m',m'<m∧W (i+1) m' σ' H')∧∀ x H',(Itr lo n).yld i H x H'→g x σ H' fun σ2 H2=>tb {D with nx:=N,ct:=N,bk:=D.nx} σ2 H2):=by
 refine ⟨fun i m σ H=>m=n - i∧i≤n∧Pv i σ H,⟨n,by simp,qAf _,h0⟩,?_⟩
 rintro i m σ H ⟨rfl,hi,p⟩
 by_cases hlt:i<n
 ·refine .inr ⟨hlt,Pv (i+1),fun σ' H' p'=>⟨n - (i+1),by omega,rfl,hlt,p'⟩,fun x H' y=>?_⟩
  obtain ⟨e,y⟩:=y
  subst e y
  exact hs i σ _ hlt p
 ·have e:i=n:=by omega
  subst e
  exact .inl ⟨qM _,hd σ H p⟩
abbrev R2:=V→V→Hp→VK→Prop
noncomputable def OpR (X:Cx) (f:Value→Value→Sem Value) (r:R2):Prop :=
 ∀ (pins:List (Addr×Obj)) (s:Shared) (σ:St) (H:Hp) (x y:V) (v u:Value) (Q:VK),Inv X pins σ H s→RelV x v→RelV y u→r x y H Q →
  wpAny (model X.prog X.w) X.A (f v u) (EP X pins σ Q) X.xe s
noncomputable def UnR (X:Cx) (f:Value→Sem Value) (r:V→Hp→VK→Prop):Prop :=
 ∀ (pins:List (Addr×Obj)) (s:Shared) (σ:St) (H:Hp) (x:V) (v:Value) (Q:VK),Inv X pins σ H s→RelV x v→r x H Q →
  wpAny (model X.prog X.w) X.A (f v) (EP X pins σ Q) X.xe s
noncomputable def CallR (X:Cx) (f:Value) (r:List V→Hp→VK→Prop):Prop :=
 ∀ (pins:List (Addr×Obj)) (s:Shared) (σ:St) (H:Hp) (xs:List V) (us:List Value) (Q:VK),Inv X pins σ H s→Vals xs us→r xs H Q →
  wpAny (model X.prog X.w) X.A (call f us) (EP X pins σ Q) X.xe s
noncomputable def TruR (X:Cx) (r:V→Hp→(Bool→Hp→Prop)→Prop):Prop :=
 ∀ (pins:List (Addr×Obj)) (s:Shared) (σ:St) (H:Hp) (x:V) (v:Value) (Q:Bool→Hp→Prop),Inv X pins σ H s→RelV x v→r x H Q →
  wpAny (model X.prog X.w) X.A (truthy v) (TP X pins σ Q) X.xe s
def tOp (r:R2) (ta tb:TE):TE:=fun σ H Q=>ta σ H fun x H1=>tb σ H1 fun y H2=>r x y H2 Q
def tUn (r:V→Hp→VK→Prop) (ta:TE):TE:=fun σ H Q=>ta σ H fun x H1=>r x H1 Q
def rI (C:Int→Int→Prop) (g:Int→Int→V):R2:=fun x y H Q=>∃ i j,x=.int i∧y=.int j∧C i j∧Q (g i j) H
def rI0 (g:Int→Int→V):R2:=fun x y H Q=>∃ i j,x=.int i∧y=.int j∧Q (g i j) H
def rU (g:Int→V):V→Hp→VK→Prop:=fun x H Q=>∃ i,x=.int i∧Q (g i) H
section
variable {X:Cx} {a b c:Expr} {ta tb tc:TE} {pos:Pos}
theorem binT (ha:PE X a ta) (hb:PE X b tb) {pins:List (Addr×Obj)} {s:Shared} {σ:St} {H:Hp} {R:V→V→Hp→Prop} (I:Inv X pins σ H s)
  (h:ta σ H fun x H1=>tb σ H1 fun y H2=>R x y H2) {Q:Value→Shared→Prop} {f:Value→Value→Sem Value}
  (hf:∀ v u s2 x y H2,Inv X pins σ H2 s2→RelV x v→RelV y u→R x y H2→wpAny (model X.prog X.w) X.A (f v u) Q X.xe s2) :
  wpAny (model X.prog X.w) X.A (eval a X.env) (fun v s₁=>wpAny (model X.prog X.w) X.A (eval b X.env) (fun u s₂=>wpAny (model X.prog X.w) X.A (f v u) Q X.xe s₂) X.xe s₁) X.xe s:=by
 refine thn (ha pins s σ H _ I h) fun v s1 ⟨x,H1,I1,r1,q1⟩=>?_
 refine thn (hb pins s1 σ H1 _ I1 q1) fun u s2 ⟨y,H2,I2,r2,q2⟩=>?_
 exact hf v u s2 x y H2 I2 r1 r2 q2
theorem znn {op:Operator} {r:R2} (ho:OpR X (binaryOp op) r) (ha:PE X a ta) (hb:PE X b tb):PE X (.BinOp a op b pos) (tOp r ta tb):=by
 intro pins s σ H Q I h
 exact wpAny_BinOp (binT ha hb I h fun v u s2 x y H2 I2 rx ry q=>ho pins s2 σ H2 x y v u Q I2 rx ry q)
theorem zaus {op:UnaryOp} {r:V→Hp→VK→Prop} (ho:UnR X (unaryOp op) r) (ha:PE X a ta):PE X (.UnaryOp op a pos) (tUn r ta):=by
 intro pins s σ H Q I h
 exact UnaryOp_ (thn (ha pins s σ H _ I h) fun v s1 ⟨x,H1,I1,r1,q1⟩=>ho pins s1 σ H1 x v Q I1 r1 q1)
theorem opI {f:Value→Value→Sem Value} {C:Int→Int→Prop} {g:Int→Int→Int}
  (rule:∀ (i j:Int) (t u:Tok) (s:Shared) (Q:Value→Shared→Prop) (E:Value→Shared→Prop),C i j→Q (.int (g i j) s.toks) {s with toks:=s.toks+1}→wpAny (model X.prog X.w) X.A (f (.int i t) (.int j u)) Q E s) :
  OpR X f (rI C fun i j=>.int (g i j)):=by
 intro pins s σ H x y v u Q I rx ry h
 obtain ⟨i,j,rfl,rfl,hc,q⟩:=h
 obtain ⟨t,rfl⟩:=rx
 obtain ⟨t',rfl⟩:=ry
 exact rule i j t t' s _ _ hc ⟨.int (g i j),H,I.tok _,⟨_,rfl⟩,q⟩
theorem opI0 {f:Value→Value→Sem Value} {g:Int→Int→Int}
  (rule:∀ (i j:Int) (t u:Tok) (s:Shared) (Q:Value→Shared→Prop) (E:Value→Shared→Prop),Q (.int (g i j) s.toks) {s with toks:=s.toks+1}→wpAny (model X.prog X.w) X.A (f (.int i t) (.int j u)) Q E s) :
  OpR X f (rI0 fun i j=>.int (g i j)):=by
 intro pins s σ H x y v u Q I rx ry h
 obtain ⟨i,j,rfl,rfl,q⟩:=h
 obtain ⟨t,rfl⟩:=rx
 obtain ⟨t',rfl⟩:=ry
 exact rule i j t t' s _ _ ⟨.int (g i j),H,I.tok _,⟨_,rfl⟩,q⟩
theorem opB0 {f:Value→Value→Sem Value} {g:Int→Int→Bool}
  (rule:∀ (i j:Int) (t u:Tok) (s:Shared) (Q:Value→Shared→Prop) (E:Value→Shared→Prop),Q (.bool (g i j)) s→wpAny (model X.prog X.w) X.A (f (.int i t) (.int j u)) Q E s) :
  OpR X f (rI0 fun i j=>.bl (g i j)):=by
 intro pins s σ H x y v u Q I rx ry h
 obtain ⟨i,j,rfl,rfl,q⟩:=h
 obtain ⟨t,rfl⟩:=rx
 obtain ⟨t',rfl⟩:=ry
 exact rule i j t t' s _ _ ⟨.bl (g i j),H,I,rfl,q⟩
def CDiv (i j:Int):Prop:=0<j∧j<1073741824
def CPow (i j:Int):Prop:=0≤j∧j≤1000000∧i.natAbs<2 ^ 64
def CMul (i j:Int):Prop:=(-(2 ^ 64)<i∧i<2 ^ 64)∨(-(2 ^ 64)<j∧j<2 ^ 64)
theorem CMul.ok {i j:Int} (h:CMul i j):IntMulOk i j:=by
 rcases h with ⟨h1,h2⟩|⟨h1,h2⟩
 ·exact .of_left (intBits_le_64 h1 h2)
 ·exact .of_right (intBits_le_64 h1 h2)
theorem zasm:OpR X (binaryOp .Add) (rI0 fun i j=>.int (i+j)):=opI0 fun _ _ _ _ _ _ _ q=>add_int q
theorem zqs:OpR X (binaryOp .Sub) (rI0 fun i j=>.int (i - j)):=opI0 fun _ _ _ _ _ _ _ q=>sub_int q
theorem zasn:OpR X (binaryOp .Mult) (rI CMul fun i j=>.int (i * j)):=opI fun _ _ _ _ _ _ _ hc q=>mul_int q hc.ok
theorem zdy:OpR X (binaryOp .FloorDiv) (rI CDiv fun i j=>.int (i / j)):=opI fun i j _ _ _ _ _ hc q=>by
 have h1:(0:Int)<j:=hc.1
 have h2:j<1073741824:=hc.2
 exact floordiv_int (by omega) (by rw [Int.fdiv_eq_ediv_of_nonneg i (by omega)];exact q) (.inl (PyProof.noPylong_small (by omega)))
theorem zcn:OpR X (binaryOp .Mod) (rI (fun _ j=>0<j) fun i j=>.int (i % j)):=opI fun i j _ _ _ _ _ hc q=>by
 have h1:(0:Int)<j:=hc
 exact mod_int' (by omega) (by rw [Int.fmod_eq_emod_of_nonneg i (by omega)];exact q)
theorem zaoi:OpR X (binaryOp .Pow) (rI CPow fun i j=>.int (i ^ j.toNat)):=opI fun _ _ _ _ _ _ _ hc q=>pow_int_small hc.1 hc.2.1 hc.2.2 q
theorem unI {f:Value→Sem Value} {g:Int→Int}
  (rule:∀ (i:Int) (t:Tok) (s:Shared) (Q:Value→Shared→Prop) (E:Value→Shared→Prop),Q (.int (g i) s.toks) {s with toks:=s.toks+1}→wpAny (model X.prog X.w) X.A (f (.int i t)) Q E s) :
  UnR X f (rU fun i=>.int (g i)):=by
 intro pins s σ H x v Q I rx h
 obtain ⟨i,rfl,q⟩:=h
 obtain ⟨t,rfl⟩:=rx
 exact rule i t s _ _ ⟨.int (g i),H,I.tok _,⟨_,rfl⟩,q⟩
theorem zaoj:UnR X (unaryOp .USub) (rU fun i=>.int (-i)):=unI fun _ _ _ _ _ q=>neg_int q
end
noncomputable def scal:V→V→Bool
 | .non,.non=>true|.non,.int _=>true|.int _,.non=>true|.non,.bl _=>true|.bl _,.non=>true|.non,.str _=>true|.str _,.non=>true
 | .int _,.int _=>true|.bl _,.bl _=>true|.str _,.str _=>true|.byt _,.byt _=>true
 | .int _,.str _=>true|.str _,.int _=>true|.bl _,.str _=>true|.str _,.bl _=>true
 | _,_=>false
def rEq:R2:=fun x y H Q=>scal x y=true∧Q (.bl (decide (x=y))) H
def rNe:R2:=fun x y H Q=>scal x y=true∧Q (.bl (!decide (x=y))) H
theorem zabq {i j:Int}:decide (V.int i=V.int j)=(i==j):=by
 rw [qAC]
 simp
theorem zadp {i j:Bool}:decide (V.bl i=V.bl j)=(i==j):=by
 rw [qAC]
 simp
theorem zsf {i j:Str}:decide (V.str i=V.str j)=(i==j):=by
 rw [qAC]
 simp
theorem zagz {i j:Array UInt8}:decide (V.byt i=V.byt j)=(i.toList==j.toList):=by
 rw [qAC]
 cases i
 cases j
 simp
section
variable {X:Cx} {a b c:Expr} {ta tb tc:TE} {pos:Pos}
theorem zen {pins:List (Addr×Obj)} {σ:St} {H:Hp} {s:Shared} {Q:VK} {k k':Bool} (I:Inv X pins σ H s) (q:Q (.bl k) H) (e:k=k'):EP X pins σ Q (.bool k') s:=by
 subst e
 exact ⟨.bl k,H,I,rfl,q⟩
theorem zaso:OpR X (compareOp .Eq) rEq:=by
 intro pins s σ H x y v u Q I rx ry h
 obtain ⟨hs,q⟩:=h
 cases x with
 | non =>
  cases rx
  cases y with
  | non=>cases ry;exact PySem.EqNone.eq_none_none (zen I q (by simp))
  | bl j=>cases ry;exact PySem.EqNone.eq_none_bool (zen I q (by simp))
  | int j=>obtain ⟨t',rfl⟩:=ry;exact PySem.EqNone.eq_none_int (zen I q (by simp))
  | str j=>obtain ⟨t',rfl⟩:=ry;exact PySem.EqNone.eq_none_str (zen I q (by simp))
  | _=>exact absurd (show false=true from hs) qO
 | bl i =>
  cases rx
  cases y with
  | non=>cases ry;exact PySem.EqNone.eq_bool_none (zen I q (by simp))
  | bl j=>cases ry;exact eq_bool (zen I q zadp)
  | str j=>obtain ⟨t',rfl⟩:=ry;exact PySem.EqMixed.eq_bool_str (zen I q (by simp))
  | _=>exact absurd (show false=true from hs) qO
 | int i =>
  obtain ⟨t,rfl⟩:=rx
  cases y with
  | non=>cases ry;exact PySem.EqNone.eq_int_none (zen I q (by simp))
  | int j=>obtain ⟨t',rfl⟩:=ry;exact eq_int (zen I q zabq)
  | str j=>obtain ⟨t',rfl⟩:=ry;exact PySem.EqMixed.eq_int_str (zen I q (by simp))
  | _=>exact absurd (show false=true from hs) qO
 | str i =>
  obtain ⟨t,rfl⟩:=rx
  cases y with
  | non=>cases ry;exact PySem.EqNone.eq_str_none (zen I q (by simp))
  | bl j=>cases ry;exact PySem.EqMixed.eq_str_bool (zen I q (by simp))
  | int j=>obtain ⟨t',rfl⟩:=ry;exact PySem.EqMixed.eq_str_int (zen I q (by simp))
  | str j=>obtain ⟨t',rfl⟩:=ry;exact eq_str (zen I q zsf)
  | _=>exact absurd (show false=true from hs) qO
 | byt i =>
  obtain ⟨t,rfl⟩:=rx
  cases y with
  | byt j=>obtain ⟨t',rfl⟩:=ry;exact PySem.W.eq_bytes (zen I q zagz)
  | _=>exact absurd (show false=true from hs) qO
 | _=>cases y<;>exact absurd (show false=true from hs) qO
theorem zaut:OpR X (compareOp .NotEq) rNe:=by
 intro pins s σ H x y v u Q I rx ry h
 obtain ⟨hs,q⟩:=h
 cases x with
 | non =>
  cases rx
  cases y with
  | non=>cases ry;exact PySem.EqNone.ne_none_none (zen I q (by simp))
  | bl j=>cases ry;exact PySem.EqNone.ne_none_bool (zen I q (by simp))
  | int j=>obtain ⟨t',rfl⟩:=ry;exact PySem.EqNone.ne_none_int (zen I q (by simp))
  | str j=>obtain ⟨t',rfl⟩:=ry;exact PySem.EqNone.ne_none_str (zen I q (by simp))
  | _=>exact absurd (show false=true from hs) qO
 | bl i =>
  cases rx
  cases y with
  | non=>cases ry;exact PySem.EqNone.ne_bool_none (zen I q (by simp))
  | bl j=>cases ry;exact ne_bool (zen I q (congrArg not zadp))
  | str j=>obtain ⟨t',rfl⟩:=ry;exact PySem.EqMixed.ne_bool_str (zen I q (by simp))
  | _=>exact absurd (show false=true from hs) qO
 | int i =>
  obtain ⟨t,rfl⟩:=rx
  cases y with
  | non=>cases ry;exact PySem.EqNone.ne_int_none (zen I q (by simp))
  | int j=>obtain ⟨t',rfl⟩:=ry;exact ne_int (zen I q (congrArg not zabq))
  | str j=>obtain ⟨t',rfl⟩:=ry;exact PySem.EqMixed.ne_int_str (zen I q (by simp))
  | _=>exact absurd (show false=true from hs) qO
 | str i =>
  obtain ⟨t,rfl⟩:=rx
  cases y with
  | non=>cases ry;exact PySem.EqNone.ne_str_none (zen I q (by simp))
  | bl j=>cases ry;exact PySem.EqMixed.ne_str_bool (zen I q (by simp))
  | int j=>obtain ⟨t',rfl⟩:=ry;exact PySem.EqMixed.ne_str_int (zen I q (by simp))
  | str j=>obtain ⟨t',rfl⟩:=ry;exact ne_str (zen I q (congrArg not zsf))
  | _=>exact absurd (show false=true from hs) qO
 | byt i =>
  obtain ⟨t,rfl⟩:=rx
  cases y with
  | byt j=>obtain ⟨t',rfl⟩:=ry;exact PySem.W.ne_bytes (zen I q (congrArg not zagz))
  | _=>exact absurd (show false=true from hs) qO
 | _=>cases y<;>exact absurd (show false=true from hs) qO
theorem zalm:OpR X (compareOp .Lt) (rI0 fun i j=>.bl (decide (i<j))):=opB0 fun _ _ _ _ _ _ _ q=>lt_int q
theorem zasp:OpR X (compareOp .LtE) (rI0 fun i j=>.bl (decide (i≤j))):=opB0 fun _ _ _ _ _ _ _ q=>le_int q
theorem zyg:OpR X (compareOp .Gt) (rI0 fun i j=>.bl (decide (j<i))):=opB0 fun _ _ _ _ _ _ _ q=>gt_int q
theorem OpR.or {f:Value→Value→Sem Value} {r r':R2} (h:OpR X f r) (h':OpR X f r'):OpR X f (fun x y H Q=>r x y H Q∨r' x y H Q):=by
 intro pins s σ H x y v u Q I rx ry q
 rcases q with q|q
 ·exact h pins s σ H x y v u Q I rx ry q
 ·exact h' pins s σ H x y v u Q I rx ry q
theorem zcd (b:Expr) {op:CmpOp} (h:op≠.In:=by decide) (h2:op≠.NotIn:=by decide):behindInMarks op b=false:=by
 have e1:(op==CmpOp.In)=false:=by cases op<;>first|rfl|exact absurd rfl h
 have e2:(op==CmpOp.NotIn)=false:=by cases op<;>first|rfl|exact absurd rfl h2
 cases b<;>simp [behindInMarks,e1,e2]
theorem zapu {op:CmpOp} {r:R2} (ho:OpR X (compareOp op) r) (ha:PE X a ta) (hb:PE X b tb) (hm:behindInMarks op b=false):PE X (.Compare a [op] [b] pos) (tOp r ta tb):=by
 intro pins s σ H Q I h
 exact wpAny_Compare1 (binT ha hb I h fun v u s2 x y H2 I2 rx ry q=>ho pins s2 σ H2 x y v u Q I2 rx ry q) hm
def tTest (t:TE):TT:=fun σ H Q=>t σ H fun x H'=>∃ k,x=.bl k∧Q k H'
theorem zaha {op:CmpOp} {r:R2} (ho:OpR X (compareOp op) r) (ha:PE X a ta) (hb:PE X b tb) (hm:behindInMarks op b=false):PT X (.Compare a [op] [b] pos) (tTest (tOp r ta tb)):=by
 intro pins s σ H Q I h
 refine wpAny_isTrue_Compare1 (thn (ha pins s σ H _ I h) fun v s1 ⟨x,H1,I1,r1,q1⟩=>thn (hb pins s1 σ H1 _ I1 q1) fun u s2 ⟨y,H2,I2,r2,q2⟩ =>
  thn (ho pins s2 σ H2 x y v u _ I2 r1 r2 q2) fun c s3 ⟨z,H3,I3,r3,k,e,q3⟩=>?_) hm
 subst e
 cases r3
 exact qAu ⟨H3,I3,q3⟩
noncomputable def tChain (r r':R2) (ta tb tc:TE):TE:=fun σ H Q=>ta σ H fun x H1=>tb σ H1 fun y H2=>r x y H2 fun z H3=>∃ k,z=.bl k ∧
 (if k=true then tc σ H3 fun w' H4=>r' y w' H4 Q else Q (.bl false) H3)
theorem zaln {op op':CmpOp} {r r':R2} (ho:OpR X (compareOp op) r) (ho':OpR X (compareOp op') r') (ha:PE X a ta) (hb:PE X b tb) (hc:PE X c tc)
  (hm:lastMarks [op,op'] [b,c]=false:=by with_unfolding_all rfl):PT X (.Compare a [op,op'] [b,c] pos) (tTest (tChain r r' ta tb tc)):=by
 intro pins s σ H Q I h
 refine isTrue_chain (thn (ha pins s σ H _ I h) fun v s1 ⟨x,H1,I1,r1,q1⟩=>test_link (thn (hb pins s1 σ H1 _ I1 q1) fun u s2 ⟨y,H2,I2,r2,q2⟩ =>
  thn (ho pins s2 σ H2 x y v u _ I2 r1 r2 q2) fun d s3 ⟨z,H3,I3,r3,k,e,q3⟩=>?_)) hm
 subst e
 cases r3
 refine qAu ?_
 cases k with
 | false =>
  obtain ⟨k',e',q'⟩:=q3
  cases e'
  exact ite_ff ⟨H3,I3,q'⟩
 | true =>
  refine ite_tt (test_last (thn (hc pins s3 σ H3 _ I3 q3) fun w' s4 ⟨z',H4,I4,r4,q4⟩=>thn (ho' pins s4 σ H4 y z' u w' _ I4 r2 r4 q4) fun d' s5 ⟨z2,H5,I5,r5,k2,e2,q5⟩=>?_))
  subst e2
  cases r5
  exact qAu ⟨H5,I5,q5⟩
noncomputable def TruV (K:qB) (x:V) (H:Hp) (k:Bool):Prop :=
 match x with
 | .non=>k=false
 | .bl b=>k=b
 | .int i=>k=(i != 0)
 | .str y=>y.length≤qk∧k=((y.length:Int) != 0)
 | .byt y=>y.size≤qk∧k=((y.size:Int) != 0)
 | .ref p=>(∃ xs,SqL K H p xs∧k=!xs.isEmpty)∨(∃ xs,SqT K H p xs∧k=!xs.isEmpty)∨∃ kvs,H p=some (.dK kvs)∧k=!kvs.isEmpty
 | _=>False
theorem zafi {κ:Type} {kvs:List (κ×V)} {vs:List (κ×Value)} (r:KV kvs vs):(!vs.isEmpty)=!kvs.isEmpty:=by
 cases r<;>rfl
theorem zva {xs:List V} {its:List Value} (r:Vals xs its):(!its.toArray.isEmpty)=!xs.isEmpty:=by
 cases r<;>simp
theorem zvb:(qk:Nat)<2 ^ 63:=by rw [qCk];decide
theorem zasq:TruR X (fun x H Q=>∃ k,TruV X.K x H k∧Q k H):=by
 intro pins s σ H x v Q I rx h
 obtain ⟨k,e,q⟩:=h
 have hl:=zvb
 have hs:qk=16777216:=qCk
 cases x with
 | non =>
  cases rx
  have e':k=false:=e
  subst e'
  exact truthy_none ⟨H,I,q⟩
 | bl b =>
  cases rx
  have e':k=b:=e
  subst e'
  exact qAu ⟨H,I,q⟩
 | int i =>
  obtain ⟨t,rfl⟩:=rx
  have e':k=(i != 0):=e
  subst e'
  exact PySem.P.truthy_int ⟨H,I,q⟩
 | str y =>
  obtain ⟨t,rfl⟩:=rx
  obtain ⟨hy,e'⟩:y.length≤qk∧k=((y.length:Int) != 0):=e
  subst e'
  exact PySem.P.truthy_str (by omega) ⟨H,I.tok _,q⟩
 | byt y =>
  obtain ⟨t,rfl⟩:=rx
  obtain ⟨hy,e'⟩:y.size≤qk∧k=((y.size:Int) != 0):=e
  subst e'
  exact PySem.W.truthy_bytes (by omega) ⟨H,I.tok _,q⟩
 | ref p =>
  cases rx
  have e':(∃ xs,SqL X.K H p xs∧k=!xs.isEmpty)∨(∃ xs,SqT X.K H p xs∧k=!xs.isEmpty)∨∃ kvs,H p=some (.dK kvs)∧k=!kvs.isEmpty:=e
  rcases e' with ⟨xs,hx,e'⟩|⟨xs,hx,e'⟩|⟨kvs,hx,e'⟩
  ·subst e'
   obtain ⟨its,r,pl,hz⟩:=I.list hx
   have hlen:=r.length
   exact wpAny_truthy_list pl.isList (by simp only [qS];omega) ⟨H,I.tok _,by rw [zva r];exact q⟩
  ·subst e'
   obtain ⟨its,r,pl,hz⟩:=I.tuple hx
   have hlen:=r.length
   exact truthy_tuple pl (by simp only [qS];omega) ⟨H,I.tok _,by rw [zva r];exact q⟩
  ·subst e'
   obtain ⟨hz,hS,vs,r,m⟩:kvs.length≤qk∧(p==sysModules)=false∧∃ vs,KV kvs vs∧s.heap.DictOf (zfx X.prog X.w) p vs:=I.hok p _ hx
   have hlen:kvs.length=vs.length:=qBz r
   exact wpAny_truthy_dict hS m (by omega) ⟨H,I.tok _,by rw [zafi r];exact q⟩
 | _=>exact (show False from e).elim
theorem zalo (ha:PE X a ta) (he:∀ whole,isTrue a X.env whole=(do let v ← whole;standAt a.pos;holding [v] (truthy v))) :
  PT X a (fun σ H Q=>ta σ H fun x H'=>∃ k,TruV X.K x H' k∧Q k H'):=by
 intro pins s σ H Q I h
 exact isTrue_plain (thn (ha pins s σ H _ I h) fun v s1 ⟨x,H1,I1,r1,q1⟩=>zasq pins s1 σ H1 x v Q I1 r1 q1) (he _)
theorem zafj:OpR X (binaryOp .Add) (fun x y H Q=>∃ i j,x=.str i∧y=.str j∧i.length+j.length≤qk∧Q (.str (i++j)) H):=by
 intro pins s σ H x y v u Q I rx ry h
 obtain ⟨i,j,rfl,rfl,hz,q⟩:=h
 obtain ⟨t,rfl⟩:=rx
 obtain ⟨t',rfl⟩:=ry
 exact add_str (fun t' tk=>⟨.str (i++j),H,I.tok _,⟨_,rfl⟩,q⟩) hz
theorem zafk {x:V} {us:List Value} (r:Vals [x] us):∃ u,us=[u]∧RelV x u:=by
 cases r with
 | cons r1 r2=>cases r2;exact ⟨_,rfl,r1⟩
theorem zapv {x y:V} {us:List Value} (r:Vals [x,y] us):∃ u w',us=[u,w']∧RelV x u∧RelV y w':=by
 cases r with
 | cons r1 r2 =>
  cases r2 with
  | cons r3 r4=>cases r4;exact ⟨_,_,rfl,r1,r3⟩
theorem zahb (hc:X.calm=true):CallR X (.builtin "min") (fun xs H Q=>∃ i j,xs=[.int i,.int j]∧Q (.int (if j<i then j else i)) H):=by
 intro pins s σ H xs us Q I r h
 obtain ⟨i,j,rfl,q⟩:=h
 obtain ⟨u,w',rfl,⟨t,rfl⟩,⟨t',rfl⟩⟩:=zapv r
 refine min_two_ints (I.ok.hd hc) fun h' tk k=>⟨_,H,I.kept k,?_,q⟩
 by_cases hj:j<i
 ·rw [if_pos hj,if_pos hj];exact ⟨_,rfl⟩
 ·rw [if_neg hj,if_neg hj];exact ⟨_,rfl⟩
noncomputable def LenV (K:qB) (x:V) (H:Hp) (n:Nat):Prop :=
 match x with
 | .str y=>y.length≤qk∧n=y.length
 | .byt y=>y.size≤qk∧n=y.size
 | .ref p=>(∃ xs,SqL K H p xs∧n=xs.length)∨∃ xs,SqT K H p xs∧n=xs.length
 | _=>False
theorem zalp:CallR X (.builtin "len") (fun xs H Q=>∃ x n,xs=[x]∧LenV X.K x H n∧Q (.int n) H):=by
 intro pins s σ H xs us Q I r h
 obtain ⟨x,n,rfl,e,q⟩:=h
 obtain ⟨u,rfl,rx⟩:=zafk r
 have hl:=zvb
 have hs:qk=16777216:=qCk
 cases x with
 | str y =>
  obtain ⟨t,rfl⟩:=rx
  obtain ⟨hy,e'⟩:y.length≤qk∧n=y.length:=e
  subst e'
  exact len_str (by omega) ⟨.int _,H,I.tok _,⟨_,rfl⟩,q⟩
 | byt y =>
  obtain ⟨t,rfl⟩:=rx
  obtain ⟨hy,e'⟩:y.size≤qk∧n=y.size:=e
  subst e'
  exact PySem.W.len_bytes (by omega) ⟨.int _,H,I.tok _,⟨_,rfl⟩,q⟩
 | ref p =>
  cases rx
  have e':(∃ xs,SqL X.K H p xs∧n=xs.length)∨∃ xs,SqT X.K H p xs∧n=xs.length:=e
  rcases e' with ⟨xs,hx,e'⟩|⟨xs,hx,e'⟩
  ·subst e'
   obtain ⟨its,r',pl,hz⟩:=I.list hx
   have hlen:=r'.length
   exact Calls.call_len_list pl.isList (by simp only [qS];omega) ⟨.int xs.length,H,I.tok _,⟨_,by simp only [qS];rw [hlen]⟩,q⟩
  ·subst e'
   obtain ⟨its,r',pl,hz⟩:=I.tuple hx
   have hlen:=r'.length
   exact len_tuple pl (by simp only [qS];omega) ⟨.int xs.length,H,I.tok _,⟨_,by simp only [qS];rw [hlen]⟩,q⟩
 | _=>exact (show False from e).elim
end
set_option genInjectivity false in
structure ObjM (h:Heap) (x dx C:Addr) (mA:Str→Option Value):Prop where
 obj:h.get? x=some (PySem.W.instObj C dx)
 ns:h.Ns1 dx mA
 ne:dx≠x
theorem zahc {h:Heap} {dx:Addr} {mA:Str→Option Value} (n:h.Ns1 dx mA):∃ od,h.get? dx=some od∧∀ name,PySem.W.lookIn name od=some (mA name):=by
 obtain ⟨o,es,ep,ho,hd,hk,_,hm⟩:=n
 refine ⟨o,ho,fun name=>?_⟩
 have e:=hm name
 unfold nsFind findBy at e
 rw [← Array.find?_toList] at e
 unfold PySem.W.lookIn
 rw [hd]
 dsimp only
 split
 ·rename_i y q
  rw [q] at e
  exact congrArg some e
 ·rename_i q
  rw [q] at e
  have a:es.toList.any (·.refKey)=false:=by
   rw [qBC]
   intro y hy
   obtain ⟨z,t,hkey⟩:=hk y (Array.mem_toList_iff.mp hy)
   simp [DictEntry.refKey,hkey]
  have a':¬ es.toList.any (·.refKey)=true:=by rw [a];exact qO
  rw [if_neg a']
  exact congrArg some e
theorem ObjM.look {h:Heap} {x dx C:Addr} {mA:Str→Option Value} (I:ObjM h x dx C mA):∃ od,PySem.W.InstAt h x (PySem.W.instObj C dx) C (some od)∧∀ name,PySem.W.lookIn name od=some (mA name) :=
 let ⟨od,ho,hl⟩:=zahc I.ns
 ⟨od,⟨I.obj,rfl,rfl,ho⟩,hl⟩
section
variable {prog:Program} {w:World} {A:Around} {E:Value→Shared→Prop} {s:Shared} {K:qB} {x dx C f:Addr} {mA:Str→Option Value} {name:Str} {v:Value}
end
theorem RelO.some_of {v:V} {o:Option Value} (r:RelO (some v) o):∃ u,o=some u∧RelV v u:=by
 cases o with
 | none=>exact (show False from r).elim
 | some u=>exact ⟨u,rfl,r⟩
section
variable {P:Program} {w:World} {H H':Hp} {h h':Heap} {a C dx:Addr} {fs fs':List (Str×V)}
theorem zapw (hok:HOk P w H h) (e:H a=some (.ins C dx fs)):∃ mA,ObjM h a dx C mA∧(∀ f,RelO (fs.lookup f) (mA f))∧PySem.Within mA (fs.map (·.1))∧fs.length≤1000∧H dx=some (.own a):=by
 obtain ⟨d,z,ne,ob,mA,n,r,q⟩:=(show zhk P w H h a (.ins C dx fs) from hok a _ e)
 exact ⟨mA,⟨ob,n,ne⟩,r,q,z,d⟩
end
set_option genInjectivity false in
structure Cls (K:qB) (C:Addr):Prop where
 pg:PySem.W.plainGet K C Str.empty=true
 hd:PySem.W.hasDictIn K C=true
 po:PySem.W.plainOver K C=true
 sa:PySem.W.findIn K (.ref C) "__setattr__" = some (some (.builtin "object.__setattr__"))
theorem Cls.get {K:qB} {C:Addr} (c:Cls K C) (f:Str):PySem.W.plainGet K C f=true:=c.pg
set_option genInjectivity false in
set_option genInjectivity false in
section
variable {X:Cx} {pins:List (Addr×Obj)} {σ:St} {H:Hp} {s:Shared} {a C dx:Addr} {fs:List (Str×V)} {f:Str} {v:V} {A:Around} {E:Value→Shared→Prop}
end
section
variable {X:Cx} {o e value:Expr} {f:Str} {pos pos' tpos:Pos} {ta tv:TE}
end
section
variable {X:Cx} {pins:List (Addr×Obj)} {σ:St} {H:Hp} {s:Shared} {A:Around} {E:Value→Shared→Prop} {Q:Value→Shared→Prop} {c:Value} {b:Bool}
inductive TyOf (K:qB) (H:Hp):V→Value→Prop where
 | non:TyOf K H .non (.type "NoneType")
 | bl (x:Bool):TyOf K H (.bl x) (.type "bool")
 | int (i:Int):TyOf K H (.int i) (.type "int")
 | str (x:Str):TyOf K H (.str x) (.type "str")
 | flt (x:UInt64):TyOf K H (.flt x) (.type "float")
 | lst {a:Addr} {xs:List V} (e:H a=some (.lst xs)):TyOf K H (.ref a) (.type "list")
 | frz {a:Addr} {o:Obj} {xs:List V} (e:H a=some (.frz o (.lst xs))):TyOf K H (.ref a) (.type "list")
 | tup {a:Addr} {xs:List V} (e:H a=some (.tup xs)):TyOf K H (.ref a) (.type "tuple")
 | dK {a:Addr} {kvs:List (Key×V)} (e:H a=some (.dK kvs)):TyOf K H (.ref a) (.type "dict")
 | dT {a:Addr} {kvs:List (List Key×V)} (e:H a=some (.dT kvs)):TyOf K H (.ref a) (.type "dict")
 | ins {a C dx:Addr} {fs:List (Str×V)} (e:H a=some (.ins C dx fs)) (cl:Cls K C) (ha:PySem.W.findIn K (.ref C) "__class__" = some (some (.builtin "object.__class__")))
   (hn:PySem.W.specialIn K (.builtin "object.__class__") "__get__" = some (some (.builtin "getset_descriptor.__get__"))) (htk:PySem.W.takesIn K (.builtin "object.__class__")=some true)
   (hm:PySem.W.mroIn K C (.type "object")=some true):TyOf K H (.ref a) (.ref C)
theorem zahd {x:V} {u t:Value} (I:Inv X pins σ H s) (rx:RelV x u) (ty:TyOf X.K H x t) (e:PySem.W.kitOne X.K t c=some b) (h:∀ tk,Q (.bool b) {s with toks:=tk}) :
  wpAny (model X.prog X.w) A (call (.builtin "isinstance") [u,c]) Q E s:=by
 cases ty with
 | non=>cases (show u=Value.none from rx);exact qAm PySem.W.kitx_none I.kIn True.intro e (fun z=>nomatch z) h
 | bl y=>cases (show u=Value.bool y from rx);exact qAm PySem.W.kitx_bool I.kIn True.intro e (fun z=>nomatch z) h
 | int i=>obtain ⟨t,q⟩:=(show ∃ t,u=Value.int i t from rx);cases q;exact qAm PySem.W.kitx_int I.kIn True.intro e (fun z=>nomatch z) h
 | str y=>obtain ⟨t,q⟩:=(show ∃ t,u=Value.str y t from rx);cases q;exact qAm PySem.W.kitx_str I.kIn True.intro e (fun z=>nomatch z) h
 | flt y=>obtain ⟨t,q⟩:=(show ∃ t,u=Value.float y t from rx);cases q;exact qAm PySem.W.kitx_float I.kIn True.intro e (fun z=>nomatch z) h
 | @lst a xs ea =>
  cases (show u=Value.ref a from rx)
  obtain ⟨_,_,n,_,h1⟩:=(show zhk X.prog X.w H s.heap a (.lst xs) from I.hok a _ ea)
  exact qAm qCw I.kIn ⟨_,h1,rfl⟩ e (fun z=>nomatch z) h
 | @frz a ob xs ea =>
  cases (show u=Value.ref a from rx)
  obtain ⟨_,_,_,n,_,h1⟩:=(show zhk X.prog X.w H s.heap a (.frz ob (.lst xs)) from I.hok a _ ea)
  exact qAm qCw I.kIn ⟨_,h1,rfl⟩ e (fun z=>nomatch z) h
 | @tup a xs ea =>
  cases (show u=Value.ref a from rx)
  obtain ⟨_,_,_,p⟩:=(show zhk X.prog X.w H s.heap a (.tup xs) from I.hok a _ ea)
  obtain ⟨o,h1,h2,_⟩:=p
  exact qAm PySem.W.kitx_tuple I.kIn ⟨o,h1,h2⟩ e (fun z=>nomatch z) h
 | @dK a kvs ea =>
  cases (show u=Value.ref a from rx)
  obtain ⟨_,_,vs,_,p⟩:=(show zhk X.prog X.w H s.heap a (.dK kvs) from I.hok a _ ea)
  obtain ⟨o,es,ep,h1,h2,_⟩:=p
  exact qAm qCx I.kIn ⟨o,h1,h2.1⟩ e (fun z=>nomatch z) h
 | @dT a kvs ea =>
  cases (show u=Value.ref a from rx)
  obtain ⟨_,_,xs,_,o,es,ep,h1,h2,_⟩:=(show zhk X.prog X.w H s.heap a (.dT kvs) from I.hok a _ ea)
  exact qAm qCx I.kIn ⟨o,h1,h2.1⟩ e (fun z=>nomatch z) h
 | @ins a C dx fs ea cl ha hn htk hm =>
  cases (show u=Value.ref a from rx)
  obtain ⟨mA,O,_⟩:=zapw I.hok ea
  obtain ⟨od,J,_⟩:=O.look
  exact qAm (PySem.W.kitx_own (cl.get _) cl.hd ha hn htk hm) I.kIn J e (fun z=>nomatch z) h
end
set_option genInjectivity false in
structure Room (k:Nat) (A:Around):Prop where
 hd:A.handled=none
 dp:A.depth+3 * k+5<recursionLimit
 un:A.units+16 * k+200<cLine
theorem Room.mono {j k:Nat} {A:Around} (r:Room k A) (h:j≤k):Room j A:=⟨r.hd,by have:=r.dp;omega,by have:=r.un;omega⟩
theorem Room.deeper {k:Nat} {A:Around} (r:Room (k+1) A) (env:Env):Room k (A.deeper env) :=
 ⟨r.hd,by have:=r.dp;show A.depth+1+3 * k+5<_;omega,by have:=r.un;show A.units+3+16 * k+200<_;omega⟩
theorem Room.depth {k:Nat} {A:Around} (r:Room k A):A.depth<recursionLimit:=by have:=r.dp;omega
theorem Room.units {k:Nat} {A:Around} (r:Room k A):A.units+64<cLine:=by have:=r.un;omega
def tNil:TA:=fun _ H Q=>Q [] H
def tCons (ta:TE) (tr:TA):TA:=fun σ H Q=>ta σ H fun x H1=>tr σ H1 fun xs H2=>Q (x::xs) H2
section
variable {X:Cx} {e:Expr} {es:List Expr} {te:TE} {t:TA} {pos:Pos}
theorem zvc:PA X [] tNil:=fun _ _ _ _ H Q I h=>Calls.spliced_nil ⟨[],H,I,.nil,h⟩
theorem zsg (ha:PE X e te) (hr:PA X es t) (hs:starEach (e::es) X.env=(false,eval e X.env)::starEach es X.env:=by rfl):PA X (e::es) (tCons te t):=by
 intro pos pins s σ H Q I h
 rw [hs]
 show wpAny _ _ (spliced ((false,eval e X.env)::backTo pos (starEach es X.env))) _ _ s
 refine Calls.spliced_cons (thn (ha pins s σ H _ I h) fun u s1 ⟨x,H1,I1,r1,q1⟩=>?_)
 exact thn (hr pos pins s1 σ H1 _ I1 q1) fun us s2 ⟨xs,H2,I2,r2,q2⟩=>⟨x::xs,H2,I2,.cons r1 r2,q2⟩
def tTup (t:TA):TE:=fun σ H Q=>t σ H fun xs H1=>xs.length≤qk∧∀ p,H1 p=none→Q (.ref p) (upd H1 p (.tup xs))
def tLst (t:TA):TE:=fun σ H Q=>t σ H fun xs H1=>xs.length≤qk∧∀ p,H1 p=none→Q (.ref p) (upd H1 p (.lst xs))
theorem zasr {x1} (h:PA X es t):PE X (.Tuple es x1 pos) (tTup t):=by
 intro pins s σ H Q I hq
 refine wpAny_Tuple_spliced (thn (h pos pins s σ H _ I hq) fun us s1 ⟨xs,H1,I1,r,z,q⟩=>⟨by rw [← r.length];exact z,?_⟩)
 have hf:H1 s1.heap.objs.size=none:=I1.hok.fresh (qM _)
 refine ⟨.ref s1.heap.objs.size,upd H1 s1.heap.objs.size (.tup xs),I1.laid (t':=s1.toks) (fun b u e=>qG _ e) (qM _) ?_,rfl,q _ hf⟩
 exact ⟨z,us,r,⟨_,qq _ rfl,rfl,_,rfl⟩⟩
theorem zaok (h:PA X es t):PE X (.List es pos) (tLst t):=by
 intro pins s σ H Q I hq
 refine wpAny_List_spliced (thn (h pos pins s σ H _ I hq) fun us s1 ⟨xs,H1,I1,r,z,q⟩=>⟨by rw [← r.length];exact z,?_⟩)
 have hf:H1 s1.heap.objs.size=none:=I1.hok.fresh (qM _)
 refine ⟨.ref s1.heap.objs.size,upd H1 s1.heap.objs.size (.lst xs),I1.laid (t':=s1.toks) (fun b u e=>qG _ e) (qM _) ?_,rfl,q _ hf⟩
 exact ⟨z,us,0,r,qq _ rfl⟩
end
abbrev Sp:=List V→Hp→VK→XK→Prop
abbrev CXT:=List Env→Hp→Shared→XK→Value→Shared→Prop
set_option genInjectivity false in
structure Env0 (P:Program) (w:World) (K:qB) (mg:Str→Option Value) (base:Heap) (A:Around) (outer:List Env) (s:Shared) (H:Hp):Prop where
 frames:A.frames=some outer
 mod:Mod K mg base
 bs:∀ b o,base.get? b=some o→s.heap.get? b=some o∧H b=none
 bsz:base.objs.size≤s.heap.objs.size
 funs:s.heap.FunFrames base outer
 frf:∀ b∈frs outer,H b=none
 hok:HOk P w H s.heap
 bare:AllBare s.gens
noncomputable def CE (outer:List Env) (P:Program) (w:World) (H:Hp) (s:Shared) (Q:VK) (u:Value) (s':Shared):Prop :=
 ∃ v H',s'.os=s.os∧AllBare s'.gens∧Un (frs outer) [] H H' s.heap s'.heap∧HOk P w H' s'.heap∧RelV v u∧Q v H'
noncomputable def CR (CX:CXT) (outer:List Env) (P:Program) (w:World) (H:Hp) (s:Shared) (Q:VK) (E:XK) (r:Result) (s':Shared):Prop :=
 match r with
 | .ok (.ret u)=>CE outer P w H s Q u s'
 | .ok _=>False
 | .error e=>CX outer H s E e s'
set_option genInjectivity false in
structure FnOk (P:Program) (w:World) (K:qB) (mg:Str→Option Value) (base:Heap) (CX:CXT) (k:Nat) (f:Addr) (fd:qAB) (ps:List Str) (sp:Sp):Prop where
 len:∀ vs H Q E,sp vs H Q E→vs.length=ps.length
 run:∀ (A:Around) (outer:List Env) (s:Shared) (H:Hp) (args:Args) (us:List Value) (vs:List V) (Q:VK) (E:XK),Room k A→Env0 P w K mg base A outer s H→BindsTo s fd args (ps.zip us)→Vals vs us→sp vs H Q E →
  codeAny (model P w) A (.call (.ref f) args) (CR CX outer P w H s Q E) s
section
variable {X:Cx} {pins:List (Addr×Obj)} {σ:St} {H:Hp} {s s':Shared}
theorem Inv.env0 (I:Inv X pins σ H s):Env0 X.prog X.w X.K X.mg X.base X.A X.stack s H :=
 ⟨I.ok.frames,I.ok.mod,I.bs,qAX I.ok.bsz I.sz,I.stack,I.stkFree,I.hok,I.bare⟩
theorem Inv.after {Q:VK} {u:Value} (I:Inv X pins σ H s) (h:CE X.stack X.prog X.w H s Q u s'):EP X pins σ Q u s':=by
 obtain ⟨v,H',os,bare,un,hok,r,q⟩:=h
 obtain ⟨hh,g,d,t,os'⟩:=s'
 obtain rfl:os'=s.os:=os
 exact ⟨v,H',I.call (h':=hh) (g':=g) (d':=d) (t':=t) (ch:=[]) un hok bare (fun b z=>absurd z (by simp)),r,q⟩
end
def tCall (sp:Sp) (dvs:List V) (E:XK) (t:TA):TE:=fun σ H Q=>t σ H fun vs H1=>sp (vs++dvs) H1 Q E
noncomputable def zafl (K:qB) (fd:qAB) (ps:List Str) (ds:List Value):Prop :=
 ∀ (s:Shared) (us:List Value),K.In s.heap→(us++ds).length=ps.length→BindsTo s fd ⟨us,[]⟩ (ps.zip (us++ds))
theorem zafl.all {K:qB} {fd:qAB} {ps:List Str} (h:∀ us:List Value,us.length=ps.length→bindArgs fd ⟨us,[]⟩=pure (ps.zip us)):zafl K fd ps []:=fun s us _ hl=>by
 rw [qAh] at hl ⊢
 exact .of_eq (h us hl)
noncomputable def zahe (CX:CXT) (X:Cx) (E:XK):Prop:=∀ (pins:List (Addr×Obj)) (σ:St) (H:Hp) (s:Shared) (e:Value) (s':Shared),Inv X pins σ H s→CX X.stack H s E e s'→X.xe e s'
section
variable {X:Cx} {CX:CXT} {k:Nat} {f C:Addr} {fd:qAB} {ps:List Str} {sp:Sp} {dvs:List V} {ds:List Value} {E:XK} {x m:Str} {p pos apos:Pos} {e o:Expr} {es:List Expr} {ta:TE} {t:TA}
theorem zass {pins:List (Addr×Obj)} {σ:St} {H:Hp} {s:Shared} {Q:VK} {us:List Value} {vs:List V} (F:FnOk X.prog X.w X.K X.mg X.base CX k f fd ps sp) (hr:Room k X.A) (hb:zafl X.K fd ps ds) (hd:Vals dvs ds) (hx:zahe CX X E)
  (I:Inv X pins σ H s) (r:Vals vs us) (h:sp (vs++dvs) H Q E):wpAny (model X.prog X.w) X.A (call (.ref f) us) (EP X pins σ Q) X.xe s:=by
 have r2:Vals (vs++dvs) (us++ds):=r.append hd
 have hl:(us++ds).length=ps.length:=by rw [← r2.length];exact F.len _ _ _ _ h
 refine wpAny_call (qB4 (F.run X.A X.stack s H ⟨us,[]⟩ (us++ds) (vs++dvs) Q E hr I.env0 (hb s us I.kIn hl) r2 h) fun r s' hq=>?_)
 cases r with
 | error e=>exact hx pins σ H s e s' I hq
 | ok fl =>
  cases fl with
  | ret u=>exact I.after hq
  | next=>exact False.elim hq
  | brk=>exact False.elim hq
  | cont=>exact False.elim hq
theorem zapx (F:FnOk X.prog X.w X.K X.mg X.base CX k f fd ps sp) (hr:Room k X.A) (hg:Gl X x) (hm:X.mg x=some (.ref f)) (hk:qT X.K (.ref f)=true) (hb:zafl X.K fd ps ds) (hd:Vals dvs ds) (hx:zahe CX X E)
  (ha:PA X (e::es) t) (hdb:(x==("__debug__":Str))=false:=by decide) (he:starEach (e::es) X.env=(false,eval e X.env)::starEach es X.env:=by rfl) (hpl:(backTo pos (starEach es X.env)).any (·.1)=false:=by rfl) :
  PE X (.Call (.Name x p) (e::es) [] pos) (tCall sp dvs E t):=by
 intro pins s σ H Q I h
 refine qCH (zapn I hg hm ?_ hdb)
 refine PySem.W.callWith_K (h₀:=X.base) I.ok.mod.kin hk (thn (ha pos pins s σ H _ I h) fun us s1 ⟨vs,H1,I1,r,q⟩=>⟨I1.kIn,?_⟩) he hpl
 exact zass F hr hb hd hx I1 r q
set_option genInjectivity false in
end
section
variable {X:Cx} {CX:CXT} {k:Nat} {f C:Addr} {fd:qAB} {ps ks:List Str} {sp:Sp} {E:XK} {x m:Str} {p pos apos kpos:Pos} {e o:Expr} {es:List Expr} {kws:List Keyword} {te ta:TE} {t tk:TA} {nm:Option Str}
set_option genInjectivity false in
variable {g:List Value→List Value→List Value} {gV:List V→List V→List V}
end
set_option genInjectivity false in
structure FnScope (N P:List Str) (sc:Scope):Prop where
 kind:sc.kind=.function
 co:sc.isCoroutine=false
 gen:sc.isGenerator=false
 nd:N.Nodup
 pre:N.take P.length=P
 par:∀ x∈P,sc.names.lookup x=some .local∨sc.names.lookup x=some .cell
 nofree:∀ y∈sc.names,y.2≠.free
theorem zyh {kindOf:Str→Option NameKind} {x:Str}:∀ {binds:List (Str×Value)} {m:Str→Option Value},(∀ v,(x,v)∉binds)→bindL kindOf binds m x=m x
 | [],_,_=>rfl
 | (n,v)::r,m,h=>by
  unfold bindL
  rw [zyh fun w hw=>h w (qJ _ hw)]
  split
  ·have:x≠n:=by rintro rfl;exact h v qX
   simp [this]
  ·rfl
theorem zyi {kindOf:Str→Option NameKind} {x:Str}:∀ {binds:List (Str×Value)} {m:Str→Option Value},(∀ v,(x,v)∉binds)→bindC kindOf binds m x=m x
 | [],_,_=>rfl
 | (n,v)::r,m,h=>by
  unfold bindC
  rw [zyi fun w hw=>h w (qJ _ hw)]
  split
  ·rfl
  ·have:x≠n:=by rintro rfl;exact h v qX
   simp [this]
theorem zyj {kindOf:Str→Option NameKind} {x:Str} {v:Value}:∀ {P:List Str} {vs:List Value} {i:Nat} {m:Str→Option Value},P.Nodup→P[i]?=some x→vs[i]?=some v→kindOf x=some .local →
  bindL kindOf (P.zip vs) m x=some v
 | [],_,_,_,_,h,_,_=>by simp at h
 | _::_,[],_,_,_,_,h,_=>by simp at h
 | p::P,w::vs,0,m,nd,h1,h2,hk=>by
  simp at h1 h2;subst h1;subst h2
  show bindL kindOf ((p,w)::P.zip vs) m p=_
  unfold bindL
  rw [zyh fun v hv=>(qA3.mp nd).1 (qAP hv).1,if_pos hk]
  simp
 | p::P,w::vs,i+1,m,nd,h1,h2,hk=>by
  show bindL kindOf ((p,w)::P.zip vs) m x=_
  unfold bindL
  exact zyj (i:=i) (qA3.mp nd).2 (by simpa using h1) (by simpa using h2) hk
theorem zyk {kindOf:Str→Option NameKind} {x:Str} {v:Value}:∀ {P:List Str} {vs:List Value} {i:Nat} {m:Str→Option Value},P.Nodup→P[i]?=some x→vs[i]?=some v→kindOf x≠some .local →
  bindC kindOf (P.zip vs) m x=some v
 | [],_,_,_,_,h,_,_=>by simp at h
 | _::_,[],_,_,_,_,h,_=>by simp at h
 | p::P,w::vs,0,m,nd,h1,h2,hk=>by
  simp at h1 h2;subst h1;subst h2
  show bindC kindOf ((p,w)::P.zip vs) m p=_
  unfold bindC
  rw [zyi fun v hv=>(qA3.mp nd).1 (qAP hv).1,if_neg hk]
  simp
 | p::P,w::vs,i+1,m,nd,h1,h2,hk=>by
  show bindC kindOf ((p,w)::P.zip vs) m x=_
  unfold bindC
  exact zyk (i:=i) (qA3.mp nd).2 (by simpa using h1) (by simpa using h2) hk
def zko (N:List Str) (vs:List V):St:=vs.map some++List.replicate (N.length - vs.length) none
noncomputable def cxOf (CX:CXT) (P:Program) (w:World) (K:qB) (mg:Str→Option Value) (base:Heap) (N:List Str) (qual:Str) (scope:Scope) (f:Addr) (cd:Value) (A:Around) (outer:List Env) (s:Shared) (H:Hp) (E:XK):Cx where
 prog:=P
 w:=w
 K:=K
 mg:=mg
 base:=base
 A:=A.deeper (envOfC qual scope s.heap.objs.size f cd)
 N:=N
 s₀:=s
 H₀:=H
 env:=envOfC qual scope s.heap.objs.size f cd
 outer:=outer
 stack:=envOfC qual scope s.heap.objs.size f cd::outer
 ex:=[]
 calm:=true
 fn:=fun _=>true
 pn:=[]
 xe:=fun e s'=>wpAny (model P w) (A.deeper (envOfC qual scope s.heap.objs.size f cd)) (leaving (envOfC qual scope s.heap.objs.size f cd) e) (fun _ s''=>CX outer H s E e s'') (fun e' s''=>CX outer H s E e' s'') s'
theorem zwg {sc:Scope} {n:Nat} {x:Str} (h:sc.names.lookup x=some .cell):∃ c,(cellsFrom n sc.names []).lookup x=some c:=by
 have q:=qCW sc.names n [] (.inl h)
 exact Option.isSome_iff_exists.mp q
theorem zahf {CX:CXT} {P:Program} {w:World} {K:qB} {mg:Str→Option Value} {base:Heap} {N ps:List Str} {qual:Str} {scope:Scope} {f:Addr} {cd:Value} {A:Around} {outer:List Env} {s s1:Shared} {H:Hp} {E:XK} {us:List Value} {vs:List V}
  (S:FnScope N ps scope) (hd:A.handled=none) (e0:Env0 P w K mg base A outer s H) (hl:vs.length=ps.length) (r:Vals vs us)
  (x:InCallC s s.heap.objs.size (bindL (envOfC qual scope s.heap.objs.size f cd).kindOf (ps.zip us) fun _=>none) (cellsFrom (s.heap.objs.size+1) scope.names []) (bindC (envOfC qual scope s.heap.objs.size f cd).kindOf (ps.zip us) fun _=>none) s1) :
  Inv (cxOf CX P w K mg base N qual scope f cd A outer s H E) [] (zko N vs) H s1:=by
 have hpl:ps.length≤N.length:=by have:=congrArg List.length S.pre;rw [qAj] at this;omega
 obtain ⟨h1,tk,rfl,hk⟩:=x.done
 have noA:∀ b:Addr,b∉(cxOf CX P w K mg base N qual scope f cd A outer s H E).ex:=fun b z=>absurd (show b∈([]:List Addr) from z) (by simp)
 refine ⟨⟨e0.mod,S.kind,rfl,rfl,qM _,fun y z c h1 h2=>?_,fun y hy=>?_,fun y c _ h=>?_,fun _=>hd,Around.frames_deeper e0.frames,.inr ⟨rfl,rfl⟩,fun b z=>absurd z (noA b),e0.bs,e0.bsz,fun b _ _=>noA b,fun b z=>absurd z (noA b),e0.funs,e0.frf⟩,
  rfl,e0.bare,Un.kept hk,⟨_,x.toInCall.ns,fun i y v h1 h2 h3=>?_⟩,fun y c h=>⟨_,x.cell y c h⟩,e0.hok.fresh (qM _),fun y c h=>?_,fun p hp=>absurd (show p∈([]:List (Addr×Obj)) from hp) (by simp),e0.hok.kept hk,?_⟩
 ·exact name_of_addr x.apart (qAT h1) (qAT h2)
 ·have hy:scope.names.lookup y=some .cell∨scope.names.lookup y=some .free:=hy
  rcases hy with hy|hy
  ·exact zwg hy
  ·exact absurd rfl (S.nofree _ (qAT hy))
 ·exact qC0 (x.above y c (qAT h))
 ·have hi:i<vs.length:=by
   unfold zko at h2
   by_cases hi:i<vs.length
   ·exact hi
   ·rw [qAW (by simpa using hi)] at h2
    rw [qBK] at h2
    split at h2<;>cases h2
  have ha:vs[i]?=some v:=by
   unfold zko at h2
   rw [qAH (by simpa using hi),qL] at h2
   cases e:vs[i]? with
   | none=>rw [e] at h2;cases h2
   | some a=>rw [e] at h2;cases h2;rfl
  obtain ⟨u,hu,rv⟩:=r.get ha
  have hp:ps[i]?=some y:=by
   rw [← S.pre,List.getElem?_take_of_lt (by omega)];exact h1
  have ndP:ps.Nodup:=by rw [← S.pre];exact S.nd.sublist (qB8 _ _)
  refine ⟨u,rv,?_⟩
  rcases S.par y (qAs hp) with k|k
  ·exact .inl ⟨k,zyj ndP hp hu k⟩
  ·obtain ⟨c,e⟩:=zwg (n:=s.heap.objs.size+1) k
   refine .inr ⟨.inl k,c,e,?_⟩
   have q:=x.cell y c e
   rw [zyk ndP hp hu (by show scope.names.lookup y≠_;rw [k];decide)] at q
   exact q
 ·exact e0.hok.fresh (qC0 (x.above y c (qAT h)))
 ·unfold zko
  show _=N.length
  rw [qb,qC,qAl]
  omega
theorem zauu {CX:CXT} {P:Program} {w:World} {K:qB} {mg:Str→Option Value} {base:Heap} {k:Nat} {f:Addr} {name qual:Str} {params:Arguments} {body:List Stmt} {scope:Scope} {dV kV doc pm cdv ct oc:Value} {an od:Option Addr}
  {osl:Array (Option Value)} {N ps:List Str} {sp:Sp} (lk:K.lookup f=some ⟨oc,od,.func (qd name qual params body scope dV kV doc pm an cdv ct),osl⟩) (hcd:qV K cdv qual=true) (S:FnScope N ps scope)
  (len:∀ vs H Q E,sp vs H Q E→vs.length=ps.length)
  (hbody:∀ (A:Around) (outer:List Env) (s:Shared) (H:Hp) (vs:List V) (Q:VK) (E:XK),Room k (A.deeper (envOfC qual scope s.heap.objs.size f cdv))→sp vs H Q E →
   ∃ t,PSs (cxOf CX P w K mg base N qual scope f cdv A outer s H E) body t∧t {nx:=fun _ H'=>Q .non H',rt:=Q} (zko N vs) H) :
  FnOk P w K mg base CX (k+1) f (qd name qual params body scope dV kV doc pm an cdv ct) ps sp:=by
 refine ⟨len,fun A outer s H args us vs Q E hr e0 hb r hsp=>?_⟩
 have hl:=len _ _ _ _ hsp
 have KX:K.In s.heap:=e0.mod.kin.keeps fun b o e=>(e0.bs b o e).1
 have lim:s.heap.NoLimit:=e0.mod.nolimit.keeps fun b o e=>(e0.bs b o e).1
 have hkind:∀ y∈ps.zip us,scope.names.lookup y.1=some .local∨(scope.names.lookup y.1=some .cell∧((cellsFrom (s.heap.objs.size+1) scope.names []).lookup y.1).isSome=true):=fun ⟨n,v⟩ hy=>by
  rcases S.par n (qAP hy).1 with q|q
  ·exact .inl q
  ·exact .inr ⟨q,qCW _ _ _ (.inl q)⟩
 refine codeAny_call_function hr.depth (KX _ _ lk) rfl S.co S.gen rfl (PySem.W.codeRec_of KX hcd) (hb _ _ _ _ ?_)
 refine wpAny_newFunctionEnv_cells S.kind hkind fun env he s1 x=>?_
 subst he
 refine ⟨lim.keeps x.toInCall.keep,codeAny_func ?_⟩
 obtain ⟨t,ht,hq⟩:=hbody A outer s H vs Q E (hr.deeper _) hsp
 have I:Inv (cxOf CX P w K mg base N qual scope f cdv A outer s H E) [] (zko N vs) H s1:=zahf S hr.hd e0 hl r x
 refine qBq (ht [] s1 (zko N vs) H _ I hq) (fun fl s' hs=>?_) fun e s' hs=>hs
 have fin:∀ {σ':St} {H':Hp} {v:V} {u:Value},Inv (cxOf CX P w K mg base N qual scope f cdv A outer s H E) [] σ' H' s'→RelV v u→Q v H'→CE outer P w H s Q u s' :=
  fun {σ' H' v u} J rv q=>⟨v,H',J.os,J.bare,J.base,J.hok,rv,q⟩
 cases fl with
 | ret u =>
  obtain ⟨v,σ',H',J,rv,q⟩:=hs
  exact fin J rv q
 | next =>
  obtain ⟨σ',H',J,q⟩:=hs
  exact fin (v:=V.non) (u:=Value.none) J rfl q
 | brk =>
  obtain ⟨_,_,_,q⟩:=hs
  exact False.elim q
 | cont =>
  obtain ⟨_,_,_,q⟩:=hs
  exact False.elim q
section
variable {X:Cx} {x:Str} {p pos:Pos} {e:Expr} {es:List Expr} {t:TA} {id T:String} {r:List V→Hp→VK→Prop}
def tCB (r:List V→Hp→VK→Prop) (t:TA):TE:=fun σ H Q=>t σ H fun vs H1=>r vs H1 Q
theorem zadq (hc:CallR X (.builtin id) r) (hg:Gl X x) (hm:X.mg x=none) (hv:bootBuiltins x=some (.builtin id)) (ha:PA X (e::es) t) (hn:x ≠ "__name__":=by decide) (hdb:(x==("__debug__":Str))=false:=by decide)
  (he:starEach (e::es) X.env=(false,eval e X.env)::starEach es X.env:=by rfl) (hpl:(backTo pos (starEach es X.env)).any (·.1)=false:=by rfl):PE X (.Call (.Name x p) (e::es) [] pos) (tCB r t):=by
 intro pins s σ H Q I h
 refine qCH (zuz I hg hm hv ?_ hn hdb)
 exact PyProof.Rows.callWith_builtin1 (thn (ha pos pins s σ H _ I h) fun us s1 ⟨vs,H1,I1,r1,q1⟩=>hc pins s1 σ H1 vs us Q I1 r1 q1) he hpl
theorem zahg (hc:CallR X (.type T) r) (hg:Gl X x) (hm:X.mg x=none) (hv:bootBuiltins x=some (.type T)) (ha:PA X (e::es) t) (hn:x ≠ "__name__":=by decide) (hdb:(x==("__debug__":Str))=false:=by decide)
  (he:starEach (e::es) X.env=(false,eval e X.env)::starEach es X.env:=by rfl) (hpl:(backTo pos (starEach es X.env)).any (·.1)=false:=by rfl):PE X (.Call (.Name x p) (e::es) [] pos) (tCB r t):=by
 intro pins s σ H Q I h
 refine qCH (zuz I hg hm hv ?_ hn hdb)
 exact qBM (thn (ha pos pins s σ H _ I h) fun us s1 ⟨vs,H1,I1,r1,q1⟩=>hc pins s1 σ H1 vs us Q I1 r1 q1) he hpl
end
end L2
namespace HT
open PySem PyProof.Rows
section
open PySem.SeqAt
open PySem.AutoSeq1 (wpAny_loadPart')
open PySem.MeetsSeq PySem.MeetsSeq2 PySem.MeetsSeq3
end
section
variable {prog:Program} {w:World} {A:Around} {E:Value→Shared→Prop} {s:Shared}
theorem cat_tup {t b:Addr} {vs ws:List Value} {Q:Value→Shared→Prop} (ht:IsTup s.heap t vs.toArray) (hb:IsTup s.heap b ws.toArray) (hv:vs≠[])
  (h1:ws=[]→Q (.ref t) s) (h2:ws≠[]→Q (.ref s.heap.objs.size) {s with heap:=s.heap.push {cls:=.type "tuple",data:=.seq (vs++ws).toArray}})
  (hsz:vs.length+ws.length≤qk):wpAny (model prog w) A (binaryOp .Add (.ref t) (.ref b)) Q E s:=by
 obtain ⟨⟨cls,dd,data,sl⟩,ho,hc,n,hd⟩:=id ht
 obtain ⟨⟨cls2,dd2,data2,sl2⟩,ho2,hc2,n2,hd2⟩:=id hb
 simp only at hc hd hc2 hd2
 subst hc hd hc2 hd2
 have e:vs.toArray++ws.toArray=(vs++ws).toArray:=by simp
 by_cases hw:ws=[]
 ·exact concat_meets ⟨_,ho,rfl⟩ ⟨_,ho2,rfl⟩ noFill_tuple_add seq_tuple_add qCX qCU (qCM _ _)
   (tuple_addW1 t b vs.toArray ws.toArray n n2 dd dd2 sl sl2 (by simpa using hv) (by simp [hw])) ⟨ho,ho2,h1 hw⟩
 ·refine concat_meets ⟨_,ho,rfl⟩ ⟨_,ho2,rfl⟩ noFill_tuple_add seq_tuple_add qCX qCU (qCM _ _)
   (tuple_addW2 t b vs.toArray ws.toArray n n2 dd dd2 sl sl2 (by simpa using hv) (by simpa using hw) (by rw [qS,qS];exact hsz)) ⟨ho,ho2,?_⟩
  rw [e]
  exact h2 hw
def sIx (n d:Nat):Option Int→Nat
 | none=>d
 | some v=>if v<0 then (v+(n:Int)).toNat else min v.toNat n
theorem sIx_nat (n d k:Nat):sIx n d (some (k:Int))=min k n:=by
 show (if (k:Int)<0 then ((k:Int)+(n:Int)).toNat else min (k:Int).toNat n)=min k n
 rw [if_neg (by omega),qBE]
theorem zast (n d:Nat) (hd:d≤n) (o:Option Int):sIx n d o≤n:=by
 cases o with
 | none=>exact hd
 | some v =>
  show (if v<0 then (v+(n:Int)).toNat else min v.toNat n)≤n
  by_cases hv:v<0
  ·rw [if_pos hv];omega
  ·rw [if_neg hv];exact Nat.min_le_right _ _
theorem zahh (v:Int) (n d:Nat):(if v<0 then max (v+(n:Int)) 0 else min v (n:Int))=((sIx n d (some v):Nat):Int):=by
 show (if v<0 then max (v+(n:Int)) 0 else min v (n:Int))=(((if v<0 then (v+(n:Int)).toNat else min v.toNat n):Nat):Int)
 by_cases hv:v<0
 ·simp only [if_pos hv];omega
 ·simp only [if_neg hv];omega
theorem zafm (lo hi:Option Int) (n:Nat):Builtin.Slice.sliceAdjust lo hi 1 (n:Int)=(((sIx n 0 lo:Nat):Int),((sIx n n hi:Nat):Int)):=by
 have h1:¬ ((1:Int)<0):=by omega
 unfold Builtin.Slice.sliceAdjust
 simp only [h1,if_false]
 refine Prod.ext ?_ ?_
 ·cases lo with
  | none=>rfl
  | some v=>exact zahh v n 0
 ·cases hi with
  | none=>rfl
  | some v=>exact zahh v n n
theorem zafn (i j:Nat):Builtin.Slice.slicePlaces (i:Int) (j:Int) 1=j - i:=by
 unfold Builtin.Slice.slicePlaces
 have h1:(1:Int) > 0:=by omega
 simp only [h1,if_true,Int.ediv_one]
 split<;>omega
theorem zvd {v:Value} {o:Option Int} {Q:Option Int→Shared→Prop} (p:IsPart v o) (h:Q o s):wpAny (model prog w) A (Builtin.Slice.slicePartIndex v) Q E s:=by
 cases p with
 | none=>exact slicePart_none h
 | int i t=>exact slicePart_int h
theorem zlm {sl:Addr} {vl vu:Value} {lo hi:Option Int} {n:Nat} {Q:Int×Int×Nat→Shared→Prop} (hs:s.heap.IsSliceOf sl vl vu .none) (pl:IsPart vl lo) (pu:IsPart vu hi)
  (h:Q (((sIx n 0 lo:Nat):Int),1,sIx n n hi - sIx n 0 lo) s):wpAny (model prog w) A (Builtin.Slice.sliceApplied (.ref sl) (pure (n:Int))) Q E s:=by
 obtain ⟨os,hos,hcs,hds⟩:=id hs
 unfold Builtin.Slice.sliceApplied Builtin.Slice.sliceFields
 refine qD (qD (qAn hos hds (x:=vl) rfl (qD (qAn hos hds (x:=vu) rfl (qD (qAn hos hds (x:=.none) rfl (qQ ?_)))))))
 refine qD (slicePart_none ?_)
 show wpAny _ _ (if ((1:Int)==0)=true then _ else _) _ _ s
 rw [if_neg (by decide)]
 refine qD (zvd pl (qD (zvd pu (qD (qQ ?_)))))
 show wpAny _ _ (match Builtin.Slice.sliceAdjust lo hi 1 (n:Int) with|(lo,hi)=>pure (lo,(1:Int),Builtin.Slice.slicePlaces lo hi 1)) _ _ s
 rw [zafm lo hi n]
 show wpAny _ _ (pure (((sIx n 0 lo:Nat):Int),(1:Int),Builtin.Slice.slicePlaces ((sIx n 0 lo:Nat):Int) ((sIx n n hi:Nat):Int) 1)) _ _ s
 rw [zafn]
 exact qQ h
theorem zalq (xs:Array Value) (i k:Nat):((List.range k).filterMap fun (m:Nat)=>xs[((i:Int)+(m:Int) * 1).toNat]?).toArray=((xs.toList.drop i).take k).toArray:=by
 have e:(fun (m:Nat)=>xs[((i:Int)+(m:Int) * 1).toNat]?)=fun m=>xs[i+m]?:=by
  funext m
  have:((i:Int)+(m:Int) * 1).toNat=i+m:=by omega
  rw [this]
 rw [e]
 have:=pick_run xs i k
 rw [List.filterMap_map] at this
 have e2:((fun x=>xs[x]?) ∘ fun x=>i+x)=fun m=>xs[i+m]?:=rfl
 rw [e2] at this
 rw [this]
theorem getItem_tuple_cut {t sl:Addr} {items:Array Value} {vl vu:Value} {lo hi:Option Int} {Q:Value→Shared→Prop} (ht:IsTup s.heap t items) (hs:s.heap.IsSliceOf sl vl vu .none) (pl:IsPart vl lo) (pu:IsPart vu hi)
  (hw:¬ (sIx items.size 0 lo=0∧sIx items.size items.size hi=items.size))
  (h:Q (.ref s.heap.objs.size) {s with heap:=s.heap.push {cls:=.type "tuple",data:=.seq ((items.toList.drop (sIx items.size 0 lo)).take (sIx items.size items.size hi - sIx items.size 0 lo)).toArray}})
  (hsz:items.size≤qk):wpAny (model prog w) A (getItem (.ref t) (.ref sl)) Q E s:=by
 have htake:sizeOk (.seq ((items.toList.drop (sIx items.size 0 lo)).take (sIx items.size items.size hi - sIx items.size 0 lo)).toArray):=by
  show ((items.toList.drop (sIx items.size 0 lo)).take (sIx items.size items.size hi - sIx items.size 0 lo)).toArray.size≤qk
  rw [qS,qAj,qAc,qBy]
  omega
 have hj:sIx items.size items.size hi≤items.size:=zast _ _ (qM _) hi
 obtain ⟨os,hos,hcs,hds⟩:=id hs
 have hTs:s.TypeIs (.ref sl) "slice":=⟨os,hos,hcs⟩
 unfold getItem
 try with_reducible refine qBZ ?_
 first|refine qD (qQ ?_)|skip
 refine qD (wpAny_sequenceKey ht.typeIs (by decide) ?_)
 refine qD (qAo (name:=Str.ofString "__getitem__") ht.typeIs qAZ
  (qA7 qAZ ht.typeIs entry_tuple_getitem ?_ (args_tuple_getitem _ _)))
 show wpAny _ _ (Builtin.Tuple.tupleItemsOf (.ref t) >>= _) _ _ s
 refine qD (tupleItemsOf_ ht ?_)
 refine qD (wpAny_typeOf hTs ?_)
 rw [if_pos (by decide)]
 refine qD (zlm hs pl pu ?_)
 have hno:¬ ((((sIx items.size 0 lo:Nat):Int)==0&&(1:Int)==1&&(sIx items.size items.size hi - sIx items.size 0 lo)==items.size)=true):=by
  intro q
  rw [qY,qY] at q
  have q1:((sIx items.size 0 lo:Nat):Int)=0:=eq_of_beq q.1.1
  have q2:sIx items.size items.size hi - sIx items.size 0 lo=items.size:=eq_of_beq q.2
  exact hw ⟨by omega,by omega⟩
 show wpAny _ _ (if (((sIx items.size 0 lo:Nat):Int)==0&&(1:Int)==1&&(sIx items.size items.size hi - sIx items.size 0 lo)==items.size)=true then _ else _) _ _ s
 rw [if_neg hno,zalq]
 first
  | exact qD (m:=Builtin.Tuple.tupleExact _) (qA5 (qQ ⟨_,rfl,qQ h⟩) htake)
  | exact qD (m:=Builtin.Tuple.tupleExact _) (qA5 (qD (qQ (qQ ⟨_,rfl,qQ h⟩))) htake)
  | exact qD (qD (m:=Builtin.Tuple.tupleExact _) (qA5 (qQ (qQ ⟨_,rfl,qQ h⟩)) htake))
  | exact qD (qD (m:=Builtin.Tuple.tupleExact _) (qA5 (qQ ⟨_,rfl,qQ h⟩) htake))
end
end HT
namespace L2
open PySem PySem.Spec PyProof.Rows
abbrev TO:=St→Hp→(Option Int→Hp→Prop)→Prop
noncomputable def PO (X:Cx) (e:Option Expr) (t:TO):Prop :=
 ∀ (pins:List (Addr×Obj)) (s:Shared) (σ:St) (H:Hp) (Q:Option Int→Hp→Prop),Inv X pins σ H s→t σ H Q →
  wpAny (model X.prog X.w) X.A (evalPart e X.env) (fun u s'=>∃ o H',Inv X pins σ H' s'∧IsPart u o∧Q o H') X.xe s
def tNoPart:TO:=fun _ H Q=>Q none H
def tPart (t:TE):TO:=fun σ H Q=>t σ H fun x H1=>∃ i,x=.int i∧Q (some i) H1
section
variable {X:Cx} {e:Expr} {te:TE} {lo hi:Option Expr} {tl th:TO} {pos p2:Pos}
theorem zahi:PO X none tNoPart:=by
 intro pins s σ H Q I h
 rw [evalPart_none]
 exact qQ ⟨none,H,I,.none,h⟩
theorem zahj (h:PE X e te):PO X (some e) (tPart te):=by
 intro pins s σ H Q I hw
 rw [evalPart_some]
 refine thn (h pins s σ H _ I hw) fun u s1 ⟨x,H1,I1,r1,q1⟩=>?_
 obtain ⟨i,rfl,q⟩:=q1
 obtain ⟨t,rfl⟩:=r1
 exact ⟨some i,H1,I1,.int i t,q⟩
noncomputable def SlR (X:Cx) (r:V→Option Int→Option Int→Hp→VK→Prop):Prop :=
 ∀ (pins:List (Addr×Obj)) (s:Shared) (σ:St) (H:Hp) (x:V) (v vl vu:Value) (lo hi:Option Int) (sl:Addr) (Q:VK),Inv X pins σ H s→RelV x v→s.heap.IsSliceOf sl vl vu .none→IsPart vl lo→IsPart vu hi→r x lo hi H Q →
  ∃ T id,typeLookup (.type T) "__getitem__" = pure (some (.builtin id))∧s.TypeIs v T∧wpAny (model X.prog X.w) X.A (getItem v (.ref sl)) (EP X pins σ Q) X.xe s
noncomputable def tSl (r:V→Option Int→Option Int→Hp→VK→Prop) (te:TE) (tl th:TO):TE:=fun σ H Q=>te σ H fun x H1=>tl σ H1 fun l H2=>th σ H2 fun u H3=>r x l u H3 Q
theorem zadr {r:V→Option Int→Option Int→Hp→VK→Prop} (hr:SlR X r) (he:PE X e te) (hl:PO X lo tl) (hu:PO X hi th):PE X (.Subscript e (.Slice lo hi none p2) pos) (tSl r te tl th):=by
 intro pins s σ H Q I h
 refine qC4 (thn (he pins s σ H _ I h) fun v s1 ⟨x,H1,I1,r1,q1⟩=>?_)
 refine wpAny_Slice (thn (hl pins s1 σ H1 _ I1 q1) fun vl s2 ⟨l,H2,I2,pl,q2⟩=>thn (hu pins s2 σ H2 _ I2 q2) fun vu s3 ⟨u,H3,I3,pu,q3⟩=>?_)
 rw [evalPart_none]
 refine qQ ?_
 have I4:Inv X pins σ H3 {s3 with heap:=s3.heap.push {cls:=.type "slice",data:=.fields #[vl,vu,.none]}}:=I3.kept (t':=s3.toks) fun b ob q=>qG _ q
 obtain ⟨T,id,hT,ht,hg⟩:=hr pins {s3 with heap:=s3.heap.push {cls:=.type "slice",data:=.fields #[vl,vu,.none]}} σ H3 x v vl vu l u s3.heap.objs.size Q I4 r1 (qCI ..) pl pu q3
 show wpAny (model X.prog X.w) X.A (subscriptTail e (.Slice lo hi none p2) v (.ref s3.heap.objs.size)) (EP X pins σ Q) X.xe {s3 with heap:=s3.heap.push {cls:=.type "slice",data:=.fields #[vl,vu,.none]}}
 exact tail_any (ops:=[.ref s3.heap.objs.size,v]) ht hT hg (by with_unfolding_all rfl)
noncomputable def cutV (xs:List V) (lo hi:Option Int):List V:=(xs.drop (HT.sIx xs.length 0 lo)).take (HT.sIx xs.length xs.length hi - HT.sIx xs.length 0 lo)
theorem zsh (xs:List V) (lo hi:Option Int):(cutV xs lo hi).length≤xs.length:=by
 unfold cutV
 rw [qAj,qAc]
 omega
noncomputable def rSlT (K:qB):V→Option Int→Option Int→Hp→VK→Prop:=fun x lo hi H Q=>∃ a xs,x=.ref a∧SqT K H a xs ∧
 ¬ (HT.sIx xs.length 0 lo=0∧HT.sIx xs.length xs.length hi=xs.length)∧∀ p,H p=none→Q (.ref p) (upd H p (.tup (cutV xs lo hi)))
theorem zasu:SlR X (rSlT X.K):=by
 intro pins s σ H x v vl vu lo hi sl Q I rx hs pl pu h
 obtain ⟨a,xs,rfl,hx,hw,q⟩:=h
 cases rx
 obtain ⟨its,r,ht,hz⟩:=I.tuple hx
 have hlen:its.toArray.size=xs.length:=by rw [qS];exact r.length.symm
 refine ⟨"tuple",_,qAZ.lookup,ht.typeIs,?_⟩
 refine HT.getItem_tuple_cut ht hs pl pu (by rw [hlen];exact hw) ?_ (by rw [hlen];exact hz)
 rw [hlen]
 refine ⟨.ref s.heap.objs.size,_,I.laid (t':=s.toks) (o:=.tup (cutV xs lo hi)) (fun b ob q=>qG _ q) (qM _) ?_,rfl,q _ (I.hok.fresh (qM _))⟩
 exact ⟨qAX (zsh xs lo hi) hz,_,(r.drop (HT.sIx xs.length 0 lo)).take (HT.sIx xs.length xs.length hi - HT.sIx xs.length 0 lo),IsTup.new _ _⟩
noncomputable def zasv (K:qB):R2:=fun x y H Q=>∃ a b xs ys,x=.ref a∧y=.ref b∧SqT K H a xs∧SqT K H b ys∧xs≠[]∧xs.length+ys.length≤qk ∧
 (ys=[]→Q (.ref a) H)∧(ys≠[]→∀ p,H p=none→Q (.ref p) (upd H p (.tup (xs++ys))))
theorem Vals.nil_iff {xs:List V} {us:List Value} (r:Vals xs us):us=[]↔xs=[]:=by
 cases r with
 | nil=>simp
 | cons _ _=>simp
theorem zapy:OpR X (binaryOp .Add) (zasv X.K):=by
 intro pins s σ H x y v u Q I rx ry h
 obtain ⟨a,b,xs,ys,rfl,rfl,ha,hb,hx,hz,q1,q2⟩:=h
 cases rx
 cases ry
 obtain ⟨its,r1,p1,_⟩:=I.tuple ha
 obtain ⟨its2,r2,p2,_⟩:=I.tuple hb
 refine HT.cat_tup p1 p2 (fun z=>hx (r1.nil_iff.mp z)) (fun z=>⟨.ref a,H,I,rfl,q1 (r2.nil_iff.mp z)⟩) (fun z=>?_) (by rw [← r1.length,← r2.length];exact hz)
 refine ⟨.ref s.heap.objs.size,_,I.laid (t':=s.toks) (o:=.tup (xs++ys)) (fun b ob q=>qG _ q) (qM _) ?_,rfl,q2 (fun w=>z (r2.nil_iff.mpr w)) _ (I.hok.fresh (qM _))⟩
 exact ⟨by rw [qb];exact hz,_,r1.append r2,IsTup.new _ _⟩
end
def ixN (n:Nat) (i:Int):Option Nat:=if 0≤i then (if i<n then some i.toNat else none) else if -(n:Int)≤i then some (i+n).toNat else none
def atI {α:Type} (xs:List α) (i:Int):Option α:=(ixN xs.length i).bind fun j=>xs[j]?
theorem zahk {n:Nat} {i:Int} {j:Nat} (h:ixN n i=some j):seqIndex? i n=some j∧j<n∧-(n:Int)≤i∧i<n:=by
 unfold ixN at h
 by_cases h0:0≤i
 ·rw [if_pos h0] at h
  by_cases h1:i<n
  ·rw [if_pos h1] at h
   have e:i.toNat=j:=qr h
   exact ⟨by rw [qCl h0 h1,e],by omega,by omega,h1⟩
  ·rw [if_neg h1] at h;cases h
 ·rw [if_neg h0] at h
  by_cases h1:-(n:Int)≤i
  ·rw [if_pos h1] at h
   have e:(i+n).toNat=j:=qr h
   exact ⟨by rw [seqIndex_neg (by omega) h1,e],by omega,h1,by omega⟩
  ·rw [if_neg h1] at h;cases h
theorem zabr {α:Type} {xs:List α} {i:Int} {v:α} (h:atI xs i=some v):∃ j,seqIndex? i xs.length=some j∧xs[j]?=some v∧j<xs.length∧-(xs.length:Int)≤i∧i<xs.length:=by
 unfold atI at h
 cases e:ixN xs.length i with
 | none=>rw [e] at h;cases h
 | some j =>
  rw [e] at h
  obtain ⟨h1,h2,h3,h4⟩:=zahk e
  exact ⟨j,h1,h,h2,h3,h4⟩
theorem znz {α:Type} {xs:List α} {j:Nat} {v:α} (h:xs[j]?=some v):atI xs (j:Int)=some v:=by
 have hj:j<xs.length:=(qZ.mp h).1
 have e:ixN xs.length (j:Int)=some j:=by
  unfold ixN
  rw [if_pos (by omega),if_pos (by omega)];simp
 unfold atI;rw [e];exact h
def PlainIx (b:Expr):Prop:=∀ o i,subscripted b false o i=operate [o,i] (getItem o i)
noncomputable def IxR (X:Cx) (r:R2):Prop :=
 ∀ (value slice:Expr) (pins:List (Addr×Obj)) (s:Shared) (σ:St) (H:Hp) (x y:V) (v u:Value) (Q:VK),Inv X pins σ H s→RelV x v→RelV y u→r x y H Q →
  subscripted slice false v u=operate [v,u] (getItem v u)→wpAny (model X.prog X.w) X.A (subscriptTail value slice v u) (EP X pins σ Q) X.xe s
noncomputable def MtR (X:Cx) (id:String) (r:V→List V→Hp→VK→Prop):Prop :=
 ∀ (pins:List (Addr×Obj)) (s:Shared) (σ:St) (H:Hp) (x:V) (xs:List V) (v:Value) (us:List Value) (Q:VK),Inv X pins σ H s→RelV x v→Vals xs us→r x xs H Q →
  wpAny (model X.prog X.w) X.A (call (.builtin id) (v::us)) (EP X pins σ Q) X.xe s
section
variable {X:Cx} {a b:Expr} {ta tb:TE} {pos:Pos}
theorem zasw {r:R2} (hr:IxR X r) (ha:PE X a ta) (hb:PE X b tb) (hs:PlainIx b):PE X (.Subscript a b pos) (tOp r ta tb):=by
 intro pins s σ H Q I h
 exact qC4 (binT ha hb I h fun v u s2 x y H2 I2 rx ry q=>hr a b pins s2 σ H2 x y v u Q I2 rx ry q (hs _ _))
def rIxL (K:qB):R2:=fun x y H Q=>∃ p xs i v,x=.ref p∧y=.int i∧SqL K H p xs∧atI xs i=some v∧Q v H
def rIxT (K:qB):R2:=fun x y H Q=>∃ p xs i v,x=.ref p∧y=.int i∧SqT K H p xs∧atI xs i=some v∧Q v H
def rIxS:R2:=fun x y H Q=>∃ z i c,x=.str z∧y=.int i∧z.length≤qk∧atI z.cps.toList i=some c∧Q (.str ⟨#[c]⟩) H
theorem zapz:IxR X (rIxL X.K):=by
 intro value slice pins s σ H x y v u Q I rx ry h hs
 obtain ⟨p,xs,i,z,rfl,rfl,hq,he,q⟩:=h
 cases rx
 obtain ⟨t,rfl⟩:=ry
 obtain ⟨its,r,pl,hz⟩:=I.list hq
 obtain ⟨j,h1,h2,h3,h4,h5⟩:=zabr he
 obtain ⟨w,ew,rw'⟩:=r.get h2
 have hl:=r.length
 have hn:=zvb
 have fin:EP X pins σ Q w s:=⟨z,H,I,rw',q⟩
 by_cases h0:0≤i
 ·have hj:i.toNat=j:=by
   rw [qCl h0 h5] at h1
   exact qr h1
  exact item_listR pl.isList h0 (by omega) (by rw [hj];simpa using ew) fin hs
 ·have hj:(i+(its.toArray.size:Int)).toNat=j:=by
   rw [seqIndex_neg (by omega) h4] at h1
   rw [qS,← hl]
   exact qr h1
  exact subscriptTail_builtinR (x:=w) pl.isList.typeIs qCS.lookup
   (wpAny_getItem_list_neg (Q:=fun r s'=>r=w∧EP X pins σ Q r s') pl.isList (by omega) (by rw [qS]<;>omega) (by omega) (by rw [hj];simpa using ew) ⟨rfl,fin⟩) hs
theorem zasx:IxR X (rIxT X.K):=by
 intro value slice pins s σ H x y v u Q I rx ry h hs
 obtain ⟨p,xs,i,z,rfl,rfl,hq,he,q⟩:=h
 cases rx
 obtain ⟨t,rfl⟩:=ry
 obtain ⟨its,r,pl,hz⟩:=I.tuple hq
 obtain ⟨j,h1,h2,h3,h4,h5⟩:=zabr he
 obtain ⟨w,ew,rw'⟩:=r.get h2
 have hl:=r.length
 have hn:=zvb
 have fin:EP X pins σ Q w s:=⟨z,H,I,rw',q⟩
 exact subscriptTail_builtinR (x:=w) pl.typeIs slot_tuple_getitem.lookup
  (getItem_tuple (j:=j) (Q:=fun r s'=>r=w∧EP X pins σ Q r s') pl (by omega) (by omega) (by rw [qS,← hl];exact h1) (by simpa using ew) ⟨rfl,fin⟩) hs
theorem zasy:IxR X rIxS:=by
 intro value slice pins s σ H x y v u Q I rx ry h hs
 obtain ⟨z,i,c,rfl,rfl,hz,he,q⟩:=h
 obtain ⟨t,rfl⟩:=rx
 obtain ⟨t',rfl⟩:=ry
 obtain ⟨j,h1,h2,h3,h4,h5⟩:=zabr he
 have hl:z.cps.toList.length=z.length:=by simp [Str.length]
 rw [hl] at h1 h4 h5
 have hn:=zvb
 exact tail_any (qBr s z t) slot_str_getitem.lookup (getItem_str (c:=c) (by
  have e1:decide (i < -(2 ^ 63:Int))=false:=decide_eq_false (by omega)
  have e2:decide (i≥2 ^ 63)=false:=decide_eq_false (by omega)
  rw [e1,e2,Bool.or_false]) (by rw [h1];simpa using h2) ⟨.str ⟨#[c]⟩,H,I.tok _,⟨_,rfl⟩,q⟩) hs
theorem zafo (its:List Value) (n j:Nat) (u:Value):Obj.mapSeq (·.setIfInBounds j u) {cls:=.type "list",data:=.seq its.toArray n}={cls:=.type "list",data:=.seq (its.set j u).toArray n}:=by
 simp [Obj.mapSeq]
theorem Inv.lst {pins:List (Addr×Obj)} {σ:St} {H:Hp} {s:Shared} {p:Addr} {xs:List V} (I:Inv X pins σ H s) (h:H p=some (.lst xs)) :
  ∃ (its:List Value) (n:Nat),Vals xs its∧s.heap.get? p=some {cls:=.type "list",data:=.seq its.toArray n}∧xs.length≤qk:=by
 obtain ⟨z,its,n,r,e⟩:=I.hok p _ h
 exact ⟨its,n,r,e,z⟩
theorem Inv.lstUpd {pins:List (Addr×Obj)} {σ:St} {H:Hp} {s:Shared} {p:Addr} {xs ys:List V} {its its':List Value} {n n':Nat} {f:Obj→Obj} (I:Inv X pins σ H s) (h:H p=some (.lst xs))
  (ho:s.heap.get? p=some {cls:=.type "list",data:=.seq its.toArray n}) (hf:f {cls:=.type "list",data:=.seq its.toArray n}={cls:=.type "list",data:=.seq its'.toArray n'}) (r:Vals ys its') (hz:ys.length≤qk) (t:Nat) :
  Inv X pins σ (upd H p (.lst ys)) {s with heap:=s.heap.update p f,toks:=t}:=by
 have e:(s.heap.update p f).get? p=some {cls:=.type "list",data:=.seq its'.toArray n'}:=by
  rw [qCv f ho (by rw [hf]<;>rfl),hf]
 refine I.write (x:=p) (e:=p) (by rw [h];trivial) (.inl rfl) (fun b u hb q=>(qCq _ _ (qAx hb)).trans q) ⟨_,e⟩ ?_
 exact ⟨hz,its',n',r,e⟩
noncomputable def zaqa:V→V→V→Hp→(Hp→Prop)→Prop:=fun o i v H Q=>∃ p xs k j,o=.ref p∧i=.int k∧H p=some (.lst xs)∧ixN xs.length k=some j∧Q (upd H p (.lst (xs.set j v)))
theorem zalr:PSet X zaqa:=by
 intro pins s σ H o i v ov iv u Q I ro ri rv h
 obtain ⟨p,xs,k,j,rfl,rfl,hp,hj,q⟩:=h
 cases ro
 obtain ⟨t,rfl⟩:=ri
 obtain ⟨its,n,r,ho,hz⟩:=I.lst hp
 obtain ⟨h1,h2,h3,h4⟩:=zahk hj
 have hl:=r.length
 have hn:=zvb
 have I':Inv X pins σ (upd H p (.lst (xs.set j v))) {s with heap:=s.heap.update p (Obj.mapSeq (·.setIfInBounds j u))} :=
  I.lstUpd hp ho (zafo its n j u) (r.set rv j) (by rw [qAR];exact hz) s.toks
 by_cases h0:0≤k
 ·have hk:k.toNat=j:=by
   rw [qCl h0 h4] at h1
   exact qr h1
  exact PySem.W.ki_setAt ho h0 (by omega) (by rw [qS,← hl];exact h4) (by rw [hk];exact ⟨_,I',q⟩)
 ·have hk:(k+(its.toArray.size:Int)).toNat=j:=by
   rw [seqIndex_neg (by omega) h3] at h1
   rw [qS,← hl]
   exact qr h1
  exact PySem.W.ki_setBack ho (by omega) (by rw [qS,← hl];exact h3) (by omega) (by rw [hk];exact ⟨_,I',q⟩)
theorem zyl (lo hi:Option Int) (n:Nat):(sliceBounds lo hi none n).1=((HT.sIx n 0 lo:Nat):Int)∧(sliceBounds lo hi none n).2.1=((HT.sIx n n hi:Nat):Int)∧(sliceBounds lo hi none n).2.2=1:=by
 refine ⟨?_,?_,rfl⟩
 ·cases lo with
  | none=>simp [sliceBounds,HT.sIx]
  | some i =>
   simp only [sliceBounds,HT.sIx,Option.getD_none,show (1:Int) > 0 by decide,if_true]
   by_cases h:i<0
   ·simp only [h,if_true]<;>omega
   ·simp only [h,if_false]<;>omega
 ·cases hi with
  | none=>simp [sliceBounds,HT.sIx]
  | some i =>
   simp only [sliceBounds,HT.sIx,Option.getD_none,show (1:Int) > 0 by decide,if_true]
   by_cases h:i<0
   ·simp only [h,if_true]<;>omega
   ·simp only [h,if_false]<;>omega
theorem zwh (its:List Value) (lo hi:Option Int):slicePick its.toArray lo hi none=((its.drop (HT.sIx its.length 0 lo)).take (HT.sIx its.length its.length hi - HT.sIx its.length 0 lo)).toArray:=by
 obtain ⟨h1,h2,h3⟩:=zyl lo hi its.toArray.size
 unfold slicePick
 rw [h1,h2,h3]
 simp only [sliceRange_one,pick_run,qS]<;>rfl
noncomputable def rSlL (K:qB):V→Option Int→Option Int→Hp→VK→Prop:=fun x lo hi H Q=>∃ a xs,x=.ref a∧SqL K H a xs∧∀ p,H p=none→Q (.ref p) (upd H p (.lst (cutV xs lo hi)))
theorem zaqb:SlR X (rSlL X.K):=by
 intro pins s σ H x v vl vu lo hi sl Q I rx hs pl pu h
 obtain ⟨a,xs,rfl,hx,q⟩:=h
 cases rx
 obtain ⟨its,r,ht,hz⟩:=I.list hx
 have hlen:=r.length
 refine ⟨"list",_,qCS.lookup,ht.isList.typeIs,?_⟩
 refine qC2 ht.isList hs pl pu .none (by simp) ?_ (by rw [qS]<;>omega)
 rw [zwh,← hlen]
 refine ⟨.ref s.heap.objs.size,_,I.laid (t':=s.toks) (o:=.lst (cutV xs lo hi)) (fun b ob q=>qG _ q) (qM _) ?_,rfl,q _ (I.hok.fresh (qM _))⟩
 exact ⟨qAX (zsh xs lo hi) hz,_,0,(r.drop (HT.sIx xs.length 0 lo)).take (HT.sIx xs.length xs.length hi - HT.sIx xs.length 0 lo),qq _ rfl⟩
def zoa:V→Bool
 | .non=>true
 | .bl _=>true
 | .int _=>true
 | .str _=>true
 | _=>false
noncomputable def eqV:V→V→Bool
 | .non,.non=>true
 | .bl a,.bl b=>a==b
 | .bl a,.int b=>(if a then 1 else 0)==b
 | .int a,.bl b=>a==(if b then 1 else 0)
 | .int a,.int b=>a==b
 | .str a,.str b=>a==b
 | _,_=>false
theorem zasz {A:Around} {s:Shared} {y x:V} {u v:Value} (ry:RelV y u) (rx:RelV x v) (fy:zoa y=true) (fx:zoa x=true):SeqAt.EqAt A s u v (eqV y x):=by
 cases y with
 | non =>
  cases ry
  cases x with
  | non=>cases rx;exact SeqAt.EqAt.same _
  | bl b=>cases rx;exact SeqAt.EqAt.none_bool b
  | int b=>obtain ⟨t,rfl⟩:=rx;exact SeqAt.EqAt.none_int b t
  | str b=>obtain ⟨t,rfl⟩:=rx;exact SeqAt.EqAt.none_str b t
  | _=>exact absurd (show false=true from fx) qO
 | bl a =>
  cases ry
  cases x with
  | non=>cases rx;exact SeqAt.EqAt.bool_none a
  | bl b=>cases rx;exact SeqAt.EqAt.bool_bool a b
  | int b=>obtain ⟨t,rfl⟩:=rx;exact SeqAt.EqAt.bool_int a b t
  | str b=>obtain ⟨t,rfl⟩:=rx;exact SeqAt.EqAt.bool_str a b t
  | _=>exact absurd (show false=true from fx) qO
 | int a =>
  obtain ⟨t',rfl⟩:=ry
  cases x with
  | non=>cases rx;exact SeqAt.EqAt.int_none a t'
  | bl b=>cases rx;exact SeqAt.EqAt.int_bool a t' b
  | int b=>obtain ⟨t,rfl⟩:=rx;exact SeqAt.EqAt.int_int a t' b t
  | str b=>obtain ⟨t,rfl⟩:=rx;exact qCe a t' b t
  | _=>exact absurd (show false=true from fx) qO
 | str a =>
  obtain ⟨t',rfl⟩:=ry
  cases x with
  | non=>cases rx;exact SeqAt.EqAt.str_none a t'
  | bl b=>cases rx;exact SeqAt.EqAt.str_bool a t' b
  | int b=>obtain ⟨t,rfl⟩:=rx;exact qCd a t' b t
  | str b=>obtain ⟨t,rfl⟩:=rx;exact qCc a t' b t
  | _=>exact absurd (show false=true from fx) qO
 | _=>exact absurd (show false=true from fy) qO
noncomputable def eqU (x:V) (u:Value):Bool:=match u with
 | .none=>eqV .non x
 | .bool b=>eqV (.bl b) x
 | .int i _=>eqV (.int i) x
 | .str z _=>eqV (.str z) x
 | _=>false
theorem zaol {x y:V} {u:Value} (r:RelV y u) (f:zoa y=true):eqU x u=eqV y x:=by
 cases y with
 | non=>cases r;rfl
 | bl b=>cases r;rfl
 | int i=>obtain ⟨t,rfl⟩:=r;rfl
 | str z=>obtain ⟨t,rfl⟩:=r;rfl
 | _=>exact absurd (show false=true from f) qO
theorem zsi {x:V}:∀ {xs:List V} {us:List Value},Vals xs us→xs.all zoa=true→us.any (eqU x)=xs.any fun y=>eqV y x
 | _,_,.nil,_=>rfl
 | y::xs,u::us,.cons r t,f=>by
  rw [qAk,qY] at f
  rw [qA4,qA4,zaol r f.1,zsi t f.2]
theorem zop {A:Around} {s:Shared} {x:V} {v:Value} (rx:RelV x v) (fx:zoa x=true):∀ {xs:List V} {us:List Value},Vals xs us→xs.all zoa=true→∀ u∈us,SeqAt.EqAt A s u v (eqU x u)
 | _,_,.nil,_=>fun u hu=>by cases hu
 | y::xs,u::us,.cons r t,f=>fun u' hu=>by
  rw [qAk,qY] at f
  rcases qg.mp hu with rfl|hu
  ·rw [zaol r f.1];exact zasz r rx f.1 fx
  ·exact zop rx fx t f.2 u' hu
def inV (x:V) (xs:List V):Bool:=xs.any fun y=>eqV y x
noncomputable def rIn (K:qB) (neg:Bool):R2:=fun x y H Q=>∃ p xs,y=.ref p∧(SqL K H p xs∨SqT K H p xs)∧zoa x=true∧xs.all zoa=true∧Q (.bl (if neg then !inV x xs else inV x xs)) H
theorem zahl:OpR X (compareOp .In) (rIn X.K false):=by
 intro pins s σ H x y v u Q I rx ry h
 obtain ⟨p,xs,rfl,hq,fx,fs,q⟩:=h
 cases ry
 rcases hq with hq|hq
 ·obtain ⟨its,r,pl,hz⟩:=I.list hq
  refine SeqAt.in_listAt (eqU x) pl.isList (fun w hw=>zop rx fx r fs w (by simpa using hw)) ⟨.bl _,H,I,rfl,?_⟩
  rw [show its.toArray.any (eqU x)=its.any (eqU x) by simp,zsi r fs]
  exact q
 ·obtain ⟨its,r,pl,hz⟩:=I.tuple hq
  refine SeqAt.in_tupleAt (eqU x) pl (fun w hw=>zop rx fx r fs w (by simpa using hw)) ⟨.bl _,H,I,rfl,?_⟩
  rw [show its.toArray.any (eqU x)=its.any (eqU x) by simp,zsi r fs]
  exact q
theorem zym:OpR X (compareOp .NotIn) (rIn X.K true):=by
 intro pins s σ H x y v u Q I rx ry h
 obtain ⟨p,xs,rfl,hq,fx,fs,q⟩:=h
 cases ry
 rcases hq with hq|hq
 ·obtain ⟨its,r,pl,hz⟩:=I.list hq
  refine SeqAt.notIn_listAt (eqU x) pl.isList (fun w hw=>zop rx fx r fs w (by simpa using hw)) ⟨.bl _,H,I,rfl,?_⟩
  rw [show its.toArray.any (eqU x)=its.any (eqU x) by simp,zsi r fs]
  exact q
 ·obtain ⟨its,r,pl,hz⟩:=I.tuple hq
  refine SeqAt.notIn_tupleAt (eqU x) pl (fun w hw=>zop rx fx r fs w (by simpa using hw)) ⟨.bl _,H,I,rfl,?_⟩
  rw [show its.toArray.any (eqU x)=its.any (eqU x) by simp,zsi r fs]
  exact q
theorem zyn:CallR X (.type "list") (fun xs H Q=>∃ p ys,xs=[.ref p]∧(SqL X.K H p ys∨SqT X.K H p ys)∧∀ l,H l=none→Q (.ref l) (upd H l (.lst ys))):=by
 intro pins s σ H xs us Q I r h
 obtain ⟨p,ys,rfl,hq,q⟩:=h
 obtain ⟨u,rfl,rx⟩:=zafk r
 cases rx
 have fin:∀ (its:List Value),Vals ys its→ys.length≤qk→∀ (h':Heap) (c':Nat),(∀ b o',s.heap.get? b=some o'→h'.get? b=some o') →
   h'.get? s.heap.objs.size=some {cls:=.type "list",dict:=none,data:=.seq its.toArray c',slots:=#[]}→EP X pins σ Q (.ref s.heap.objs.size) {s with heap:=h'}:=fun its r' hz h' c' kp e =>
  ⟨.ref s.heap.objs.size,_,I.laid (t':=s.toks) kp (qM _) (show zhk X.prog X.w _ h' _ (.lst ys) from ⟨hz,its,c',r',e⟩),rfl,q _ (I.hok.fresh (qM _))⟩
 rcases hq with hq|hq
 ·obtain ⟨its,r',pl,hz⟩:=I.list hq
  have hlen:=r'.length
  obtain ⟨o,ho,hc,n,hd⟩:=pl.isList
  exact call_list_seq p (.inl rfl) ho hc hd (fun h' c' kp e=>fin its r' hz h' c' kp e) (by simp only [qS]<;>omega)
 ·obtain ⟨its,r',pl,hz⟩:=I.tuple hq
  have hlen:=r'.length
  obtain ⟨o,ho,hc,n,hd⟩:=pl
  exact call_list_seq p (.inr rfl) ho hc hd (fun h' c' kp e=>fin its r' hz h' c' kp e) (by simp only [qS]<;>omega)
theorem zwi:CallR X (.type "tuple") (fun xs H Q=>∃ p ys,xs=[.ref p]∧((SqL X.K H p ys∧∀ l,H l=none→Q (.ref l) (upd H l (.tup ys)))∨(SqT X.K H p ys∧Q (.ref p) H))):=by
 intro pins s σ H xs us Q I r h
 obtain ⟨p,ys,rfl,h⟩:=h
 obtain ⟨u,rfl,rx⟩:=zafk r
 cases rx
 rcases h with ⟨hq,q⟩|⟨hq,q⟩
 ·obtain ⟨its,r',pl,hz⟩:=I.list hq
  have hlen:=r'.length
  refine call_tuple_list pl.isList (fun h' kp=>?_) (by simp only [qS]<;>omega)
  have I1:Inv X pins σ H {s with heap:=h'}:=I.kept (t':=s.toks) kp
  have I2:Inv X pins σ (upd H h'.objs.size (.tup ys)) {s with heap:=h'.push {cls:=.type "tuple",data:=.seq its.toArray}} :=
   I1.laid (t':=s.toks) (fun b o e=>qG _ e) (qM _) (show zhk X.prog X.w _ _ _ (.tup ys) from ⟨hz,its,r',IsTup.new _ _⟩)
  exact ⟨.ref h'.objs.size,_,I2,rfl,q _ (I1.hok.fresh (qM _))⟩
 ·obtain ⟨its,r',pl,hz⟩:=I.tuple hq
  exact call_tuple_same pl ⟨.ref p,H,I,rfl,q⟩
noncomputable def tyV (K:qB) (T:String) (x:V) (H:Hp):Prop:=match x with
 | .str _=>T = "str"
 | .int _=>T = "int"
 | .ref p=>(T = "list" ∧ ∃ xs,SqL K H p xs)∨(T = "tuple" ∧ ∃ o,K.lookup p=some o∧o.cls=.type "tuple" ∧ o.dict=none) ∨
   (T = "dict" ∧ ((∃ kvs,H p=some (.dK kvs))∨∃ kvs,H p=some (.dT kvs)))∨(T = "set" ∧ ∃ S n,H p=some (.set S n))
 | _=>False
theorem zata {pins:List (Addr×Obj)} {σ:St} {H:Hp} {s:Shared} {T:String} {x:V} {v:Value} (I:Inv X pins σ H s) (r:RelV x v) (ty:tyV X.K T x H) :
  s.TypeIs v T∧∀ a,v=.ref a→∃ ob,s.heap.get? a=some ob∧ob.dict=none:=by
 cases x with
 | str z =>
  obtain ⟨t,rfl⟩:=r
  cases (show T = "str" from ty)
  exact ⟨qBr s z t,fun _ e=>nomatch e⟩
 | int i =>
  obtain ⟨t,rfl⟩:=r
  cases (show T = "int" from ty)
  exact ⟨typeIs_int s i t,fun _ e=>nomatch e⟩
 | ref p =>
  cases r
  rcases ty with ⟨rfl,xs,hq⟩|⟨rfl,o,hk,hc,hd⟩|⟨rfl,hk⟩|⟨rfl,S,n,hk⟩
  ·obtain ⟨its,_,pl,_⟩:=I.list hq
   refine ⟨pl.isList.typeIs,fun a e=>?_⟩
   cases e
   obtain ⟨o,n,e,c,hd,_⟩:=pl
   exact ⟨o,e,hd⟩
  ·refine ⟨⟨o,I.kIn p o hk,hc⟩,fun a e=>?_⟩
   cases e
   exact ⟨o,I.kIn _ o hk,hd⟩
  ·have z:∃ o,s.heap.get? p=some o∧o.ExactDict:=by
    rcases hk with ⟨kvs,hk⟩|⟨kvs,hk⟩
    ·obtain ⟨_,_,_,_,o,_,_,e,ex,_⟩:=I.hok p _ hk
     exact ⟨o,e,ex⟩
    ·obtain ⟨_,_,_,_,o,_,_,e,ex,_⟩:=I.hok p _ hk
     exact ⟨o,e,ex⟩
   obtain ⟨o,e,ex⟩:=z
   refine ⟨⟨o,e,ex.1⟩,fun a e2=>?_⟩
   cases e2
   exact ⟨o,e,ex.2.1⟩
  ·obtain ⟨o,_,_,_,e,ex,_⟩:=I.hok p _ hk
   refine ⟨⟨o,e,ex.1⟩,fun a e2=>?_⟩
   cases e2
   exact ⟨o,e,ex.2.1⟩
 | _=>exact False.elim ty
def tBM (K:qB) (T:String) (r:V→List V→Hp→VK→Prop) (to:TE) (t:TA):TE:=fun σ H Q=>to σ H fun x H1=>tyV K T x H1∧t σ H1 fun xs H2=>r x xs H2 Q
variable {o e:Expr} {es:List Expr} {to:TE} {t:TA} {name:Str} {apos cpos:Pos} {T id:String} {r:V→List V→Hp→VK→Prop}
theorem zauv (pa:PlainAttrs T) (slot:Slot T name id) (hty:typeOf (.builtin id)=pure (.type "method_descriptor")) (hm:MtR X id r) (ho:PE X o to) (ha:PA X (e::es) t)
  (hbase:attributeBase o name X.env (eval o X.env)=eval o X.env:=by rfl)
  (hfew:((backTo cpos (starEach (e::es) X.env)).all (fun x=>!x.1)&&(backToKw cpos (keywordEach [] X.env)).all (fun x=>x.1.isSome)
   && decide ((e::es).length+([]:List Keyword).length+(if ([]:List Keyword).isEmpty then 0 else 1)<30))=true:=by rfl)
  (hline:(apos.endLine==cpos.line)=true:=by rfl) (hs:starEach (e::es) X.env=(false,eval e X.env)::starEach es X.env:=by rfl) (hplain:(backTo cpos (starEach es X.env)).any (·.1)=false:=by rfl) :
  PE X (.Call (.Attribute o name apos) (e::es) [] cpos) (tBM X.K T r to t):=by
 intro pins s σ H Q I h
 refine wpAny_Call_method_late hbase hfew hline rfl (thn (ho pins s σ H _ I h) fun v s1 ⟨x,H1,I1,r1,ty,q1⟩=>?_)
 obtain ⟨h1,h2⟩:=zata I1 r1 ty
 refine ⟨T,id,pa,slot,hty,h1,h2,?_⟩
 have hA:=ha cpos pins s1 σ H1 _ I1 q1
 rw [hs] at hA ⊢
 refine Calls.callWith_builtin (by show (false||(backTo cpos (starEach es X.env)).any (·.1))=false;rw [hplain]<;>rfl) (Calls.evalArgs_plain ?_)
 exact thn hA fun us s2 ⟨vs,H2,I2,r2,q2⟩=>hm pins s2 σ H2 x vs v us Q I2 r1 r2 q2
end
noncomputable def MtM (X:Cx) (id:String) (r:V→List V→Hp→VK→Prop):Prop :=
 ∀ (pins:List (Addr×Obj)) (s:Shared) (σ:St) (H:Hp) (x:V) (xs:List V) (v:Value) (us:List Value) (Q:VK),Inv X pins σ H s→RelV x v→Vals xs us→r x xs H Q →
  wpAny (model X.prog X.w) X.A (call (.builtin id) (v::us)) (EP X pins σ Q) X.xe s
theorem Vals.one:∀ {x:V} {us:List Value},Vals [x] us→∃ u,us=[u]∧RelV x u
 | _,_,.cons r .nil=>⟨_,rfl,r⟩
theorem Vals.eraseIdx:∀ {xs:List V} {us:List Value} (i:Nat),Vals xs us→Vals (xs.eraseIdx i) (us.eraseIdx i)
 | _,_,_,.nil=>.nil
 | _,_,0,.cons _ t=>t
 | _,_,i+1,.cons r t=>.cons r (Vals.eraseIdx i t)
theorem zyo {α:Type}:∀ (l:List α) (i:Nat),(l.eraseIdx i).length≤l.length
 | [],_=>qM _
 | _::_,0=>Nat.le_succ _
 | _::r,i+1=>Nat.succ_le_succ (zyo r i)
section
variable {X:Cx} {pins:List (Addr×Obj)} {σ:St} {H:Hp} {s:Shared} {l b:Addr} {xs ys zs:List V}
theorem Inv.lset {its its':List Value} {n:Nat} {f:Array Value→Array Value} {t':Nat} (I:Inv X pins σ H s) (hH:H l=some (.lst xs))
  (e:s.heap.get? l=some {cls:=.type "list",data:=.seq its.toArray n}) (hf:f its.toArray=its'.toArray) (hv:Vals ys its') (hz:ys.length≤qk) :
  Inv X pins σ (upd H l (.lst ys)) {s with heap:=s.heap.update l (Obj.mapSeq f),toks:=t'}:=by
 have q:=PySem.IsL.update e f
 rw [hf] at q
 refine I.write (x:=l) (e:=l) (by rw [hH];exact trivial) (.inl rfl) (fun b' u hb hu=>(qCq s.heap (Obj.mapSeq f) (qAx hb)).trans hu) ⟨_,q⟩ ?_
 exact ⟨hz,its',_,hv,q⟩
theorem Inv.lnew {its:List Value} {t':Nat} (I:Inv X pins σ H s) (hv:Vals ys its) (hz:ys.length≤qk) :
  Inv X pins σ (upd H s.heap.objs.size (.lst ys)) {s with heap:=s.heap.push {cls:=.type "list",data:=.seq its.toArray},toks:=t'} :=
 I.laid (fun _ _ q=>qG _ q) (qM _) ⟨hz,its,0,hv,qq _ rfl⟩
theorem Inv.fresh (I:Inv X pins σ H s):H s.heap.objs.size=none:=I.hok.fresh (qM _)
theorem Inv.lstM (I:Inv X pins σ H s) (hH:H l=some (.lst xs)):xs.length≤qk∧∃ (its:List Value) (n:Nat),Vals xs its∧xs.length=its.length∧s.heap.get? l=some {cls:=.type "list",data:=.seq its.toArray n}:=by
 obtain ⟨z,its,n,r,e⟩:=I.hok l _ hH
 exact ⟨z,its,n,r,r.length,e⟩
theorem zals {n:Nat} (h:n≤qk):Builtin.List.listTooLong n=false:=by
 unfold Builtin.List.listTooLong
 exact decide_eq_false (by omega)
end
section
variable {X:Cx}
def zabs:V→List V→Hp→VK→Prop:=fun x vs H Q=>∃ l xs y,x=.ref l∧vs=[y]∧H l=some (.lst xs)∧xs.length<qk∧Q .non (upd H l (.lst (xs++[y])))
theorem zdj:MtM X "list.append" zabs:=by
 intro pins s σ H x vs v us Q I rx rv h
 obtain ⟨l,xs,y,rfl,rfl,hH,hz,q⟩:=h
 cases rx
 obtain ⟨u,rfl,ru⟩:=rv.one
 obtain ⟨z,its,n,r,hl,e⟩:=I.lstM hH
 refine qBs F.slot_list_append ⟨_,e,rfl⟩ F.entry_list_append (F.args_list_append_2 _ _) (PySem.list_append l its.toArray n u (by rw [qS];omega)) ⟨e,?_⟩
 refine ⟨.non,_,I.lset (its':=its++[u]) hH e (by simp) (r.append (.cons ru .nil)) ?_,rfl,q⟩
 rw [qb,List.length_singleton]
 omega
noncomputable def zaqc:V→List V→Hp→VK→Prop:=fun x vs H Q=>∃ l b xs zs,x=.ref l∧vs=[.ref b]∧H l=some (.lst xs)∧H b=some (.lst zs)∧xs.length+zs.length≤qk∧Q .non (upd H l (.lst (xs++zs)))
theorem zatb:MtM X "list.extend" zaqc:=by
 intro pins s σ H x vs v us Q I rx rv h
 obtain ⟨l,b,xs,zs,rfl,rfl,hH,hB,hz,q⟩:=h
 cases rx
 obtain ⟨u,rfl,ru⟩:=rv.one
 cases ru
 obtain ⟨z,its,n,r,hl,e⟩:=I.lstM hH
 obtain ⟨z2,its2,n2,r2,hl2,e2⟩:=I.lstM hB
 have hsz:its.toArray.size+its2.toArray.size≤qk:=by rw [qS,qS];omega
 have hlong:¬ (!its.toArray.isEmpty&&Builtin.List.listTooLong (its.toArray.size+its2.toArray.size))=true:=by
  rw [zals hsz,qBH]
  exact qO
 refine qBs F.slot_list_extend ⟨_,e,rfl⟩ F.entry_list_extend (F.args_list_extend_2 _ _)
  (AutoSeq1.list_extend_list_list_0 l its.toArray n b its2.toArray n2 hlong (by rw [qS];omega) (by omega)) ⟨e,e2,?_⟩
 refine ⟨.non,_,I.lset (its':=its++its2) hH e (by simp) (r.append r2) ?_,rfl,q⟩
 rw [qb]
 omega
noncomputable def zaom:V→List V→Hp→VK→Prop:=fun x vs H Q=>∃ l xs i k y,x=.ref l∧vs=[.int i]∧H l=some (.lst xs)∧-(2 ^ 63)≤i∧i<2 ^ 63∧seqIndex? i xs.length=some k∧xs[k]?=some y∧Q y (upd H l (.lst (xs.eraseIdx k)))
theorem zalt:MtM X "list.pop" zaom:=by
 intro pins s σ H x vs v us Q I rx rv h
 obtain ⟨l,xs,i,k,y,rfl,rfl,hH,h1,h2,hk,hy,q⟩:=h
 cases rx
 obtain ⟨u,rfl,ru⟩:=rv.one
 obtain ⟨t,rfl⟩:=ru
 obtain ⟨z,its,n,r,hl,e⟩:=I.lstM hH
 obtain ⟨w,hw,rw'⟩:=r.get hy
 refine qBs F.slot_list_pop ⟨_,e,rfl⟩ F.entry_list_pop (F.args_list_pop_2 _ _)
  (MeetsSeq.list_pop_at l its.toArray n i t k w (fitsIndex_both h1 h2) (by rw [qS,← hl];exact hk) (by rw [← Array.getElem?_toList];exact hw) (by rw [qS];omega)) ⟨e,?_⟩
 refine ⟨y,_,I.lset (its':=its.eraseIdx k) hH e ?_ (r.eraseIdx k) ?_,rw',q⟩
 ·show its.toArray.eraseIdxIfInBounds k=(its.eraseIdx k).toArray
  rw [List.eraseIdxIfInBounds_toArray]
 ·have:=zyo xs k
  omega
noncomputable def rCat:R2:=fun x y H Q=>∃ l b xs zs,x=.ref l∧y=.ref b∧H l=some (.lst xs)∧H b=some (.lst zs)∧xs.length+zs.length≤qk∧∀ p,H p=none→Q (.ref p) (upd H p (.lst (xs++zs)))
theorem zatc:OpR X (binaryOp .Add) rCat:=by
 intro pins s σ H x y v u Q I rx ry h
 obtain ⟨l,b,xs,zs,rfl,rfl,hH,hB,hz,q⟩:=h
 cases rx
 cases ry
 obtain ⟨z,its,n,r,hl,e⟩:=I.lstM hH
 obtain ⟨z2,its2,n2,r2,hl2,e2⟩:=I.lstM hB
 refine PySem.P.add_list e e2 ?_ (by rw [qS,qS];omega)
 have ea:its.toArray++its2.toArray=(its++its2).toArray:=by simp
 rw [ea]
 exact ⟨.ref _,_,I.lnew (t':=s.toks) (r.append r2) (by rw [qb];omega),rfl,q _ I.fresh⟩
end
section
variable {prog:Program} {w:World} {A:Around} {E:Value→Shared→Prop} {s:Shared}
set_option maxRecDepth 100000 in
end
section
variable {X:Cx}
end
section
variable {κ:Type} [DecidableEq κ]
def valV (kvs:List (κ×V)) (k:κ):Option V:=(kvs.find? fun kv=>decide (kv.1=k)).map (·.2)
noncomputable def putK (kvs:List (κ×V)) (k:κ) (v:V):List (κ×V) :=
 if (kvs.any fun kv=>decide (kv.1=k))=true then kvs.map (fun kv=>if kv.1=k then (kv.1,v) else kv) else kvs++[(k,v)]
theorem zsb {p:κ×V} {r:List (κ×V)} {k:κ} (e:p.1=k):valV (p::r) k=some p.2:=by simp [valV,qBL,e]
theorem zsc {p:κ×V} {r:List (κ×V)} {k:κ} (e:¬ p.1=k):valV (p::r) k=valV r k:=by simp [valV,qBL,e]
theorem zads (k:κ):∀ kvs:List (κ×V),(kvs.any fun kv=>decide (kv.1=k))=(valV kvs k).isSome
 | []=>rfl
 | p::r=>by
  rw [qA4]
  by_cases e:p.1=k
  ·simp only [zsb e,decide_eq_true e,Bool.true_or,qCy]
  ·rw [zsc e,decide_eq_false e,qCi];exact zads k r
theorem zob (kvs:List (κ×V)) (k:κ) (v:V):(putK kvs k v).length≤kvs.length+1:=by
 unfold putK
 split
 ·rw [qC];omega
 ·rw [qb,qAI,qCN];omega
theorem RelO.isSome_eq {o:Option V} {u:Option Value} (r:RelO o u):o.isSome=u.isSome:=by
 cases o with
 | none=>cases u with
  | none=>rfl
  | some _=>exact (show False from r).elim
 | some _=>cases u with
  | none=>exact (show False from r).elim
  | some _=>rfl
theorem KV.val {kvs:List (κ×V)} {vs:List (κ×Value)} (r:KV kvs vs) (k:κ):RelO (valV kvs k) (valueAt vs k):=by
 unfold KV at r
 induction r with
 | nil=>exact True.intro
 | @cons p q ps qs h t ih =>
  obtain ⟨h1,h2⟩:=h
  by_cases e:p.1=k
  ·have e':q.1=k:=h1.symm.trans e
   have b:valueAt (q::qs) k=some q.2:=by simp [valueAt,qBL,e']
   rw [zsb e,b];exact h2
  ·have e':¬ q.1=k:=fun z=>e (h1.trans z)
   have b:valueAt (q::qs) k=valueAt qs k:=by simp [valueAt,qBL,e']
   rw [zsc e,b];exact ih
theorem KV.any {kvs:List (κ×V)} {vs:List (κ×Value)} (r:KV kvs vs) (k:κ):(kvs.any fun kv=>decide (kv.1=k))=vs.any fun kv=>decide (kv.1=k):=by
 unfold KV at r
 induction r with
 | nil=>rfl
 | cons h t ih=>rw [qA4,qA4,ih,h.1]
theorem KV.repl {kvs:List (κ×V)} {vs:List (κ×Value)} (r:KV kvs vs) (k:κ) {y:V} {u:Value} (ry:RelV y u) :
  KV (kvs.map fun kv=>if kv.1=k then (kv.1,y) else kv) (vs.map fun kv=>if kv.1=k then (kv.1,u) else kv):=by
 unfold KV at r ⊢
 induction r with
 | nil=>exact .nil
 | @cons p q ps qs h t ih =>
  rw [qa,qa]
  refine .cons ?_ ih
  obtain ⟨h1,h2⟩:=h
  by_cases e:p.1=k
  ·rw [if_pos e,if_pos (h1.symm.trans e)];exact ⟨h1,ry⟩
  ·rw [if_neg e,if_neg (fun z=>e (h1.trans z))];exact ⟨h1,h2⟩
theorem KV.put {kvs:List (κ×V)} {vs:List (κ×Value)} (r:KV kvs vs) (k:κ) {y:V} {u:Value} (ry:RelV y u):KV (putK kvs k y) (stored vs k u):=by
 unfold putK stored
 rw [r.any k]
 by_cases e:(vs.any fun kv=>decide (kv.1=k))=true
 ·rw [if_pos e,if_pos e];exact r.repl k ry
 ·rw [if_neg e,if_neg e];exact Paired.snoc r ⟨rfl,ry⟩
theorem KV.length {kvs:List (κ×V)} {vs:List (κ×Value)} (r:KV kvs vs):kvs.length=vs.length:=qBz r
end
theorem zafp {P:Program} {w:World} {k:Key} {u:Value} (r:RelV (kV k) u):(zfx P w).is k u=true:=by
 cases k with
 | inl i=>obtain ⟨t,e⟩:=(show ∃ t,u=Value.int i t from r);subst e;exact zabm P w i t
 | inr x=>obtain ⟨t,e⟩:=(show ∃ t,u=Value.str x t from r);subst e;exact zabn P w x t
theorem zyp {P:Program} {w:World}:∀ {ks:List Key} {us:List Value},Vals (ks.map kV) us→ItemsAre (zfx P w) ks us
 | [],_,r=>by rw [qBd] at r;cases r;exact .nil
 | k::ks,_,r=>by
  rw [qa] at r
  cases r with
  | cons h t=>exact .cons (zafp h) (zyp t)
abbrev KT (H:Hp):List (List Key×V)→List (List Key×Addr×Value)→Prop:=Paired fun p q=>p.1=q.1∧H q.2.1=some (.tup (p.1.map kV))∧RelV p.2 q.2.2
theorem KT.val {H:Hp} {kvs:List (List Key×V)} {xs:List (List Key×Addr×Value)} (r:KT H kvs xs) (k:List Key):RelO (valV kvs k) ((atKey xs k).map (·.2)):=by
 induction r with
 | nil=>exact True.intro
 | @cons p q ps qs h t ih =>
  obtain ⟨h1,_,h2⟩:=h
  by_cases e:p.1=k
  ·have e':q.1=k:=h1.symm.trans e
   have b:atKey (q::qs) k=some q.2:=by simp [atKey,qBL,e']
   rw [zsb e,b];exact h2
  ·have e':¬ q.1=k:=fun z=>e (h1.trans z)
   have b:atKey (q::qs) k=atKey qs k:=by simp [atKey,qBL,e']
   rw [zsc e,b];exact ih
theorem KT.repl {H:Hp} {kvs:List (List Key×V)} {xs:List (List Key×Addr×Value)} (r:KT H kvs xs) (k:List Key) {y:V} {u:Value} (ry:RelV y u) :
  KT H (kvs.map fun kv=>if kv.1=k then (kv.1,y) else kv) (xs.map (putAt k u)):=by
 induction r with
 | nil=>exact .nil
 | @cons p q ps qs h t ih =>
  rw [qa,qa]
  refine .cons ?_ ih
  obtain ⟨h1,h2,h3⟩:=h
  unfold putAt
  by_cases e:p.1=k
  ·rw [if_pos e,if_pos (h1.symm.trans e)];exact ⟨h1,h2,ry⟩
  ·rw [if_neg e,if_neg (fun z=>e (h1.trans z))];exact ⟨h1,h2,h3⟩
theorem KT.put {H:Hp} {kvs:List (List Key×V)} {xs:List (List Key×Addr×Value)} (r:KT H kvs xs) (k:List Key) {b:Addr} {y:V} {u:Value} (hb:H b=some (.tup (k.map kV))) (ry:RelV y u) :
  KT H (putK kvs k y) (storedH xs k b u):=by
 have e:(kvs.any fun kv=>decide (kv.1=k))=(atKey xs k).isSome:=by
  rw [zads,(r.val k).isSome_eq,qB5]
 unfold putK storedH
 rw [e]
 by_cases q:(atKey xs k).isSome=true
 ·rw [if_pos q,if_pos q];exact r.repl k ry
 ·rw [if_neg q,if_neg q];exact Paired.snoc r ⟨rfl,hb,ry⟩
theorem KT.keeps {H H':Hp} {kvs:List (List Key×V)} {xs:List (List Key×Addr×Value)} (r:KT H kvs xs) (ht:∀ b ys,H b=some (.tup ys)→H' b=some (.tup ys)):KT H' kvs xs :=
 Paired.mapP r fun _ _ z=>⟨z.1,ht _ _ z.2.1,z.2.2⟩
section
variable {P:Program} {w:World} {H:Hp} {h:Heap} {a:Addr}
theorem zatd {u:HO} (ok:HOk P w H h) (e:Rd H a u):zhk P w H h a u:=e.ok ok
theorem zahm {kvs:List (Key×V)} (ok:HOk P w H h) (e:Rd H a (.dK kvs)):kvs.length≤qk∧(a==sysModules)=false∧∃ vs,KV kvs vs∧h.DictOf (zfx P w) a vs :=
 show zhk P w H h a (.dK kvs) from zatd ok e
theorem zalu {kvs:List (Key×V)} (ok:HOk P w H h) (e:H a=some (.dK kvs)):kvs.length≤qk∧(a==sysModules)=false∧∃ vs,KV kvs vs∧h.DictOf (zfx P w) a vs:=zahm ok (.inl e)
theorem zyq {ks:List Key} (ok:HOk P w H h) (e:H a=some (.tup (ks.map kV))):(tupleKind (zfx P w)).is h ks a:=by
 obtain ⟨_,its,r,o,h1,h2,n,h3⟩:=(show zhk P w H h a (.tup (ks.map kV)) from ok a _ e)
 exact ⟨o,its.toArray,n,h1,h2,h3,by simpa using zyp r⟩
theorem zahn {kvs:List (List Key×V)} (ok:HOk P w H h) (e:Rd H a (.dT kvs)):kvs.length≤qk∧(a==sysModules)=false ∧
  ∃ xs,KT H kvs xs∧h.DictOfH (tupleKind (zfx P w)) a xs:=by
 obtain ⟨z,y,xs,r,o,es,ep,h1,h2,h3,h4,h5⟩:=(show zhk P w H h a (.dT kvs) from zatd ok e)
 refine ⟨z,y,xs,r,o,es,ep,h1,h2,h3,h4,fun x hx=>?_,h5⟩
 have all:∀ {l:List (List Key×V)} {m:List (List Key×Addr×Value)},KT H l m→∀ x∈m,(tupleKind (zfx P w)).is h x.1 x.2.1:=by
  intro l m q
  induction q with
  | nil=>intro x hx;exact nomatch hx
  | @cons p q ps qs hq t ih =>
   intro x hx
   rcases qg.mp hx with e|hx
   ·subst e
    exact zyq ok (by rw [← hq.1];exact hq.2.1)
   ·exact ih x hx
 exact all r x hx
theorem zauw {kvs:List (List Key×V)} (ok:HOk P w H h) (e:H a=some (.dT kvs)):kvs.length≤qk∧(a==sysModules)=false ∧
  ∃ xs,KT H kvs xs∧h.DictOfH (tupleKind (zfx P w)) a xs:=zahn ok (.inl e)
end
noncomputable def DGet (H:Hp) (a:Addr) (y:V) (r:Option V):Prop :=
 (∃ kvs k,Rd H a (.dK kvs)∧y=kV k∧r=valV kvs k)∨∃ kvs k b,Rd H a (.dT kvs)∧y=.ref b∧H b=some (.tup (k.map kV))∧r=valV kvs k
noncomputable def DPut (H:Hp) (a:Addr) (y v:V) (H':Hp):Prop :=
 (∃ kvs k,H a=some (.dK kvs)∧y=kV k∧kvs.length<qk∧H'=upd H a (.dK (putK kvs k v))) ∨
 ∃ kvs k b,H a=some (.dT kvs)∧y=.ref b∧H b=some (.tup (k.map kV))∧kvs.length<qk∧H'=upd H a (.dT (putK kvs k v))
theorem DGet.k {H:Hp} {a:Addr} {kvs:List (Key×V)} {k:Key} (e:H a=some (.dK kvs)):DGet H a (kV k) (valV kvs k):=.inl ⟨kvs,k,.inl e,rfl,rfl⟩
theorem DPut.k {H:Hp} {a:Addr} {kvs:List (Key×V)} {k:Key} {v:V} (e:H a=some (.dK kvs)) (hl:kvs.length<qk):DPut H a (kV k) v (upd H a (.dK (putK kvs k v))):=.inl ⟨kvs,k,e,rfl,hl,rfl⟩
section
variable {X:Cx} {pins:List (Addr×Obj)} {σ:St} {H:Hp} {s:Shared} {a:Addr} {y v:V} {u r:Value} {o:Option V} {A:Around} {E:Value→Shared→Prop}
theorem Inv.big (I:Inv X pins σ H s):sysModules<s.heap.objs.size:=by
 have h:qP<s.heap.objs.size:=(I.mod.glob.keeps I.bk).lt
 exact qCz (by decide) h
theorem zaho {Q:Value→Shared→Prop} (hu:A.units+1<cLine) (I:Inv X pins σ H s) (g:DGet H a y (some v)) (ry:RelV y u) (h:∀ w' s',Inv X pins σ H s'→RelV v w'→Q w' s') :
  wpAny (model X.prog X.w) A (getItem (.ref a) u) Q E s:=by
 rcases g with ⟨kvs,k,e,ey,l⟩|⟨kvs,k,b,e,ey,eb,l⟩
 ·subst ey
  obtain ⟨z,hd,vs,rel,dd⟩:=zahm I.hok e
  obtain ⟨w',hw,rw'⟩:=RelO.some_of (v:=v) (o:=valueAt vs k) (by rw [l];exact rel.val k)
  exact wpAny_getItem_of (zafp ry) dd.mapOf hw (h w' _ (I.tok _) rw')
 ·subst ey
  cases (show u=Value.ref b from ry)
  obtain ⟨z,hd,xs,rel,dd⟩:=zahn I.hok e
  obtain ⟨w',hw,rw'⟩:=RelO.some_of (v:=v) (o:=(atKey xs k).map (·.2)) (by rw [l];exact rel.val k)
  obtain ⟨p,hp,hp2⟩:=qK.mp hw
  refine wpAny_getItem_heap (qBk hu) (zyq I.hok eb) dd hp ?_
  rw [hp2]
  exact h w' _ (I.tok _) rw'
theorem d_in {Q:Value→Shared→Prop} (hu:A.units+1<cLine) (I:Inv X pins σ H s) (g:DGet H a y o) (ry:RelV y u) (h:∀ s',Inv X pins σ H s'→Q (.bool o.isSome) s') :
  wpAny (model X.prog X.w) A (compareOp .In u (.ref a)) Q E s:=by
 rcases g with ⟨kvs,k,e,ey,l⟩|⟨kvs,k,b,e,ey,eb,l⟩
 ·subst ey
  obtain ⟨z,hd,vs,rel,dd⟩:=zahm I.hok e
  refine wpAny_in_of (zafp ry) hd dd.mapOf ?_
  rw [← (rel.val k).isSome_eq,← l]
  exact h _ (I.tok _)
 ·subst ey
  cases (show u=Value.ref b from ry)
  obtain ⟨z,hd,xs,rel,dd⟩:=zahn I.hok e
  refine wpAny_in_heap (qBk hu) (zyq I.hok eb) hd dd ?_
  have q:=(rel.val k).isSome_eq
  rw [qB5] at q
  rw [← q,← l]
  exact h _ (I.tok _)
theorem zaqd {Q:Value→Shared→Prop} (hu:A.units+1<cLine) (I:Inv X pins σ H s) (g:DGet H a y o) (ry:RelV y u) (h:∀ s',Inv X pins σ H s'→Q (.bool (!o.isSome)) s') :
  wpAny (model X.prog X.w) A (compareOp .NotIn u (.ref a)) Q E s:=by
 rcases g with ⟨kvs,k,e,ey,l⟩|⟨kvs,k,b,e,ey,eb,l⟩
 ·subst ey
  obtain ⟨z,hd,vs,rel,dd⟩:=zahm I.hok e
  refine wpAny_notIn_of (zafp ry) hd dd.mapOf ?_
  rw [← (rel.val k).isSome_eq,← l]
  exact h _ (I.tok _)
 ·subst ey
  cases (show u=Value.ref b from ry)
  obtain ⟨z,hd,xs,rel,dd⟩:=zahn I.hok e
  refine wpAny_notIn_heap (qBk hu) (zyq I.hok eb) hd dd ?_
  have q:=(rel.val k).isSome_eq
  rw [qB5] at q
  rw [← q,← l]
  exact h _ (I.tok _)
theorem zwj {h':Heap} {t':Nat} {ob:HO} (I:Inv X pins σ H s) (mu:Mut (H a)) (hs:Heap.SameBut a s.heap h') (he:∃ q,h'.get? a=some q) (new:zhk X.prog X.w (upd H a ob) h' a ob) :
  Inv X pins σ (upd H a ob) {s with heap:=h',toks:=t'} :=
 I.write (x:=a) (e:=a) mu (.inl rfl) (fun b q hb z=>(hs.2 b hb).trans z) he new
theorem zahp {P:Program} {w:World} {H':Hp} {h':Heap} {kvs:List (Key×V)} {vs:List (Key×Value)} (z:kvs.length≤qk) (hd:(a==sysModules)=false) (rel:KV kvs vs) (dd:h'.DictOf (zfx P w) a vs) :
  zhk P w H' h' a (.dK kvs):=⟨z,hd,vs,rel,dd⟩
theorem zahq {H':Hp} {Q:Unit→Shared→Prop} (hu:A.units+1<cLine) (I:Inv X pins σ H s) (g:DPut H a y v H') (ry:RelV y u) (rv:RelV v r) (h:∀ s',Inv X pins σ H' s'→Q () s') :
  wpAny (model X.prog X.w) A (setItem (.ref a) u r) Q E s:=by
 rcases g with ⟨kvs,k,e,ey,l,eH⟩|⟨kvs,k,b,e,ey,eb,l,eH⟩
 ·subst ey eH
  obtain ⟨z,hd,vs,rel,dd⟩:=zalu I.hok e
  have hz:vs.length≤qk:=by rw [← rel.length];exact z
  have hl:(putK kvs k v).length≤qk:=by have:=zob kvs k v;omega
  refine wpAny_setItem_pairs (hsz:=hz) (zafp ry) dd fun h' dd' hs=>h _ ?_
  have he:∃ q,h'.get? a=some q:=let ⟨q,_,_,hq,_⟩:=dd';⟨q,hq⟩
  exact zwj I (by rw [e];exact True.intro) hs he (zahp hl hd (rel.put k rv) dd')
 ·subst ey eH
  cases (show u=Value.ref b from ry)
  obtain ⟨z,hd,xs,rel,dd⟩:=zauw I.hok e
  have hz:xs.length≤qk:=by rw [← qBz rel];exact z
  have hl:(putK kvs k v).length≤qk:=by have:=zob kvs k v;omega
  refine wpAny_setItem_heap (hsz:=hz) (qBk hu) (zyq I.hok eb) dd fun h' dd' hs=>h _ ?_
  obtain ⟨q,es,ep,hq,h2,h3,h4,_,h5⟩:=dd'
  refine zwj I (by rw [e];exact True.intro) hs ⟨q,hq⟩ ⟨hl,hd,_,(rel.put k eb rv).keeps fun c ys ec=>?_,q,es,ep,hq,h2,h3,h4,h5⟩
  rw [zcp (zaup ec e (fun z=>nomatch z))]
  exact ec
end
section
variable {X:Cx} {pins:List (Addr×Obj)} {σ:St} {H:Hp} {s:Shared} {a:Addr} {kvs:List (Key×V)} {k:Key} {u:Value} {A:Around} {E:Value→Shared→Prop}
end
def NoSl (i:Expr):Prop:=∀ ov iv,subscripted i false ov iv=operate [ov,iv] (getItem ov iv)
theorem zaqe {prog:Program} {w:World} {A:Around} {E:Value→Shared→Prop} {s:Shared} {env:Env} {value slice:Expr} {pos:Pos} {T id:String} {Q:Value→Shared→Prop}
  (hl:typeLookup (.type T) "__getitem__" = pure (some (.builtin id))) (hs:NoSl slice)
  (h:wpAny (model prog w) A (eval value env) (fun o s₁=>wpAny (model prog w) A (eval slice env) (fun i s₂=>s₂.TypeIs o T∧wpAny (model prog w) A (getItem o i) Q E s₂) E s₁) E s) :
  wpAny (model prog w) A (eval (.Subscript value slice pos) env) Q E s:=by
 refine qC4 (qBq h (fun o s₁ h₁=>qBq h₁ (fun i s₂ h₂=>?_) fun _ _ x=>x) fun _ _ x=>x)
 obtain ⟨hT,h₂⟩:=h₂
 unfold subscriptTail
 refine qD ?_
 rw [getitemInPython_of_ne hT.not_modules]
 refine qD (wpAny_specialOf hT hl ?_)
 have fin:wpAny (model prog w) A (subscripted slice false o i) (fun r s₃=>wpAny (model prog w) A (letTemporaryGo value o r >>= fun _=>pure r) Q E s₃) E s₂:=by
  rw [hs o i]
  exact wpAny_operating (qBq h₂ (fun r s₃ h₃=>qD (wpAny_letTemporaryGo (qQ h₃))) fun _ _ x=>x)
 first
  | exact qQ (qD fin)
  | exact qD (qQ (qD fin))
  | exact qD fin
theorem zabt {X:Cx} {pins:List (Addr×Obj)} {σ:St} {H:Hp} {s:Shared} {a:Addr} {y:V} {o:Option V} (I:Inv X pins σ H s) (g:DGet H a y o):s.TypeIs (.ref a) "dict":=by
 rcases g with ⟨kvs,k,e,_,_⟩|⟨kvs,k,b,e,_,_,_⟩
 ·obtain ⟨_,_,vs,_,dd⟩:=zahm I.hok e
  exact dd.typeIs
 ·obtain ⟨_,_,xs,_,dd⟩:=zahn I.hok e
  exact dd.typeIs
def tDGet (td ty:TE):TE:=fun σ H Q=>td σ H fun x H1=>ty σ H1 fun y H2=>∃ a v,x=.ref a∧DGet H2 a y (some v)∧Q v H2
def tDIn (ty td:TE):TE:=fun σ H Q=>ty σ H fun y H1=>td σ H1 fun x H2=>∃ a o,x=.ref a∧DGet H2 a y o∧Q (.bl o.isSome) H2
def tDNotIn (ty td:TE):TE:=fun σ H Q=>ty σ H fun y H1=>td σ H1 fun x H2=>∃ a o,x=.ref a∧DGet H2 a y o∧Q (.bl (!o.isSome)) H2
def sDPut (td ty tv:TE):TS:=fun D σ H=>tv σ H fun v H1=>td σ H1 fun x H2=>ty σ H2 fun y H3=>∃ a H4,x=.ref a∧DPut H3 a y v H4∧D.nx σ H4
section
variable {X:Cx} {o i e value:Expr} {pos pos' tpos:Pos} {td ty tv:TE}
theorem zaqf (hu:X.A.units+1<cLine) (ho:PE X o td) (hi:PE X i ty) (hs:NoSl i):PE X (.Subscript o i pos) (tDGet td ty):=by
 intro pins s σ H Q I h
 refine zaqe PySem.F.slot_dict_getitem.lookup hs (thn (ho pins s σ H _ I h) fun u s1 ⟨x,H1,I1,rx,q1⟩=>thn (hi pins s1 σ H1 _ I1 q1) fun iv s2 ⟨y,H2,I2,ry,a,v,ex,g,q2⟩=>?_)
 subst ex
 obtain rfl:u=Value.ref a:=rx
 exact ⟨zabt I2 g,zaho hu I2 g ry fun w' s3 I3 rw'=>⟨v,H2,I3,rw',q2⟩⟩
theorem zate (hu:X.A.units+1<cLine) (hi:PE X i ty) (ho:PE X o td):PC X .In i o (tDIn ty td):=by
 intro pins s σ H Q I h
 refine thn (hi pins s σ H _ I h) fun iv s1 ⟨y,H1,I1,ry,q1⟩=>thn (ho pins s1 σ H1 _ I1 q1) fun u s2 ⟨x,H2,I2,rx,a,ov,ex,g,q2⟩=>?_
 subst ex
 obtain rfl:u=Value.ref a:=rx
 exact d_in hu I2 g ry fun s3 I3=>⟨.bl ov.isSome,H2,I3,rfl,q2⟩
theorem zahr (hu:X.A.units+1<cLine) (hi:PE X i ty) (ho:PE X o td):PC X .NotIn i o (tDNotIn ty td):=by
 intro pins s σ H Q I h
 refine thn (hi pins s σ H _ I h) fun iv s1 ⟨y,H1,I1,ry,q1⟩=>thn (ho pins s1 σ H1 _ I1 q1) fun u s2 ⟨x,H2,I2,rx,a,ov,ex,g,q2⟩=>?_
 subst ex
 obtain rfl:u=Value.ref a:=rx
 exact zaqd hu I2 g ry fun s3 I3=>⟨.bl (!ov.isSome),H2,I3,rfl,q2⟩
theorem zaqg (hu:X.A.units+1<cLine) (ho:PE X o td) (hi:PE X i ty) (hv:PE X value tv) (hs:swapsWith value (some (.Subscript o i pos')) pos.line X.env=pure false) :
  PS X (.Assign [.Subscript o i pos'] value pos) (sDPut td ty tv):=by
 intro pins s σ H D I h
 refine wpAny_Assign_Subscript (thn (hv pins s σ H _ I h) fun r s1 ⟨v,H1,I1,rv,q1⟩=>thn (ho pins s1 σ H1 _ I1 q1) fun u s2 ⟨x,H2,I2,rx,q2⟩=>thn (hi pins s2 σ H2 _ I2 q2) fun iv s3 ⟨y,H3,I3,ry,a,H4,ex,g,q3⟩=>?_) hs
 subst ex
 obtain rfl:u=Value.ref a:=rx
 exact zahq hu I3 g ry rv fun s4 I4=>⟨σ,H4,I4,q3⟩
end
theorem zadt {P:Program} {w:World} {H:Hp} (h:Heap) (hb:sysModules<h.objs.size):zhk P w H (h.push {cls:=.type "dict",data:=.dict #[]}) h.objs.size (.dK []) :=
 ⟨qAf _,beq_eq_false_iff_ne.mpr (qAx (q9 hb)),[],.nil,Heap.DictOf.new h⟩
def tDNewK:TE:=fun _ H Q=>∀ p,H p=none→Q (.ref p) (upd H p (.dK []))
section
variable {X:Cx} {pos:Pos}
theorem zalv:PE X (.Dict [] [] pos) tDNewK:=fun pins s σ H Q I h =>
 wpAny_Dict_empty ⟨.ref s.heap.objs.size,_,I.laid (a:=s.heap.objs.size) (o:=.dK []) (t':=s.toks) (fun _ _ q=>qG _ q) (qM _) (zadt s.heap I.big),rfl,h _ (I.hok.fresh (qM _))⟩
end
noncomputable def zahs:List (TE×TE)→St→Hp→(List (V×V)→Hp→Prop)→Prop
 | [],_,H,Q=>Q [] H
 | (tk,tv)::r,σ,H,Q=>tk σ H fun x H1=>tv σ H1 fun y H2=>zahs r σ H2 fun ps H3=>Q ((x,y)::ps) H3
abbrev VV:List (V×V)→List (Value×Value)→Prop:=Paired fun p q=>RelV p.1 q.1∧RelV p.2 q.2
noncomputable def PPs (X:Cx) (pos:Pos) (keys:List (Option Expr)) (values:List Expr) (trs:List (TE×TE)):Prop :=
 ∀ (pins:List (Addr×Obj)) (s:Shared) (σ:St) (H:Hp) (Q:List (V×V)→Hp→Prop),Inv X pins σ H s→zahs trs σ H Q →
  wpAny (model X.prog X.w) X.A (evalPairs (pairTrees keys values X.env pos)) (fun vs s'=>∃ ps H',Inv X pins σ H' s'∧VV ps vs∧Q ps H') X.xe s
theorem zaqh {X:Cx} {pos:Pos}:PPs X pos [] [] []:=fun pins s σ H Q I h=>pairTrees_nil_walk ⟨[],H,I,.nil,h⟩
theorem zalw {X:Cx} {pos:Pos} {k v:Expr} {ks:List (Option Expr)} {vs:List Expr} {tk tv:TE} {trs:List (TE×TE)} (hk:PE X k tk) (hv:PE X v tv) (hr:PPs X pos ks vs trs) :
  PPs X pos (some k::ks) (v::vs) ((tk,tv)::trs):=fun pins s σ H Q I h =>
 pairTrees_cons_walk (thn (hk pins s σ H _ I h) fun u s1 ⟨x,H1,I1,rx,q1⟩=>thn (hv pins s1 σ H1 _ I1 q1) fun w2 s2 ⟨y,H2,I2,ry,q2⟩ =>
  thn (hr pins s2 σ H2 _ I2 q2) fun ws s3 ⟨ps,H3,I3,rel,q3⟩=>⟨(x,y)::ps,H3,I3,.cons ⟨rx,ry⟩ rel,q3⟩)
def zoq (kvs more:List (Key×V)):List (Key×V):=more.foldl (fun acc kv=>putK acc kv.1 kv.2) kvs
theorem KV.merge:∀ {more:List (Key×V)} {rs:List (Key×Value)} {kvs:List (Key×V)} {vs:List (Key×Value)},KV more rs→KV kvs vs→KV (zoq kvs more) (merged vs rs):=by
 intro more rs kvs vs r
 unfold KV at r
 induction r generalizing kvs vs with
 | nil=>intro q;exact q
 | @cons p q ps qs h t ih =>
  intro r0
  have e:KV (putK kvs p.1 p.2) (stored vs q.1 q.2):=by
   have:=r0.put p.1 h.2
   rw [← h.1];exact this
  exact ih e
theorem zla:∀ (more kvs:List (Key×V)),(zoq kvs more).length≤kvs.length+more.length
 | [],kvs=>by show kvs.length≤kvs.length+0;omega
 | p::r,kvs=>by
  have h1:=zla r (putK kvs p.1 p.2)
  have h2:=zob kvs p.1 p.2
  show (zoq (putK kvs p.1 p.2) r).length≤_
  rw [qAI];omega
theorem zve {P:Program} {w:World}:∀ {kvs:List (Key×V)} {ws:List (Value×Value)},VV (kvs.map fun kv=>(kV kv.1,kv.2)) ws→∃ rs,Carries (zfx P w) ws rs∧KV kvs rs
 | [],_,r=>by rw [qBd] at r;cases r;exact ⟨[],True.intro,.nil⟩
 | p::kvs,_,r=>by
  rw [qa] at r
  cases r with
  | @cons a b as bs h t =>
   obtain ⟨rs,c,q⟩:=zve (P:=P) (w:=w) t
   obtain ⟨b1,b2⟩:=b
   exact ⟨(p.1,b2)::rs,⟨zafp h.1,rfl,c⟩,.cons ⟨rfl,h.2⟩ q⟩
noncomputable def tDisp (trs:List (TE×TE)):TE:=fun σ H Q=>∀ p,H p=none→zahs trs σ (upd H p (.dK [])) fun ps H2=>H2 p=some (.dK [])∧∃ kvs:List (Key×V),ps=kvs.map (fun kv=>(kV kv.1,kv.2))∧kvs.length≤15∧Q (.ref p) (upd H2 p (.dK (zoq [] kvs)))
theorem zaqi {X:Cx} {pos:Pos} {keys:List (Option Expr)} {values:List Expr} {trs:List (TE×TE)} (h:PPs X pos keys values trs) (hall:keys.all (·.isSome)=true) (hl:keys.length=values.length) (h0:keys≠[])
  (h15:keys.length≤15):PE X (.Dict keys values pos) (tDisp trs):=by
 intro pins s σ H Q I q
 have hn:=I.hok.fresh (qM s.heap.objs.size)
 have I1:=I.laid (a:=s.heap.objs.size) (o:=.dK []) (h':=s.heap.push {cls:=.type "dict",data:=.dict #[]}) (t':=s.toks) (fun _ _ q=>qG _ q) (qM _) (zadt s.heap I.big)
 refine wpAny_Dict_walk (knd:=zfx X.prog X.w) hall hl h0 h15 (thn (h pins _ σ _ _ I1 (q _ hn)) fun ws s2 ⟨ps,H2,I2,rel,e,kvs,ep,lk,q2⟩=>?_)
 subst ep
 obtain ⟨rs,c,rk⟩:=zve (P:=X.prog) (w:=X.w) rel
 obtain ⟨z,hd,vs0,r0,dd⟩:=zalu I2.hok e
 cases r0
 refine ⟨rs,c,dd,fun h' dd' hs=>⟨.ref s.heap.objs.size,_,?_,rfl,q2⟩⟩
 have hz:(zoq [] kvs).length≤qk:=by
  have h1:=zla kvs []
  rw [qCN] at h1
  rw [qCk];omega
 have he:∃ q,h'.get? s.heap.objs.size=some q:=let ⟨q,_,_,hq,_⟩:=dd';⟨q,hq⟩
 exact zwj I2 (by rw [e];exact True.intro) hs he (zahp hz hd (rk.merge .nil) dd')
set_option genInjectivity false in
set_option genInjectivity false in
section
variable {X:Cx} {pins:List (Addr×Obj)} {σ:St} {H:Hp} {s:Shared} {a:Addr} {y d:V} {u r:Value} {o:Option V} {A:Around} {E:Value→Shared→Prop}
end
section
variable {X:Cx} {o e f:Expr} {apos cpos:Pos} {td ty tx:TE}
end
section
variable {X:Cx} {pins:List (Addr×Obj)} {σ:St} {H:Hp} {s:Shared} {a:Addr} {kvs:List (Key×V)} {A:Around} {E:Value→Shared→Prop}
end
section
variable {X:Cx} {pins:List (Addr×Obj)} {σ:St} {H:Hp} {s:Shared} {a:Addr} {y:V} {u:Value} {A:Around} {E:Value→Shared→Prop}
end
end L2
namespace Att
open PySem PySem.W PySem.Calls PyProof.Rows
theorem zsj {P:Params} {h:Heap}:∀ (ns:List Int) (vs:List Value),WellAll P h vs (ns.map WData.int)→IntsAre vs ns:=by
 intro ns
 induction ns with
 | nil =>
  intro vs w
  rw [qBd] at w
  cases w
  exact .nil
 | cons n ns ih =>
  intro vs w
  rw [qa] at w
  cases w with
  | cons a b =>
   cases a
   exact .cons _ _ (ih _ b)
theorem zaht {l:OpenLaw} {n:Nat} (hn:l.most=some n) {P:Params} {h:Heap} {args:List WData} {vals:List Value}
  (hpre:l.row.toRowW.claim.pre args=true) (hwl:WellAll P h vals args) :
  ∃ a vs ns,vals=[Value.ref a]∧args=[WData.list (ns.map WData.int)]∧h.get? a=some {cls:=.type "list",data:=.seq vs.toArray}∧IntsAre vs ns∧ns.length≤n:=by
 have hsh:WShape.hasAll [] args [.list .int]=true:=(pre_splitW hpre).1
 have hc:l.pre.holds [] {args:=args}=true:=(pre_splitW hpre).2
 obtain ⟨d,r,rfl,h1,h2⟩:=hasAllW_cons hsh
 obtain rfl:=hasAllW_nil h2
 obtain ⟨xs,rfl,h3⟩:=hasW_list h1
 obtain ⟨ns,rfl⟩:=items_int h3
 have hlen:ns.length≤n:=by
  unfold OpenLaw.pre at hc
  have h4:(WTm.not (.lt (.lit (.int (n:Int))) (.len (.arg 0)))).holds [] {args:=[.list (ns.map .int)]}=true:=by
   have h4:=(holds_andW hc).1
   rw [hn] at h4
   exact h4
  have h5:=condW_of h4 (w_not (w_lt w_lit (w_len_list (w_arg rfl))))
  rw [qC] at h5
  refine Nat.le_of_not_lt fun q=>?_
  have q':(n:Int)<((ns.length:Nat):Int):=by omega
  first
   | (rw [decide_eq_true q'] at h5;exact absurd h5 (by decide))
   | (simp at h5;omega)
 cases hwl with
 | cons w1 w2 =>
  cases w2
  cases w1 with
  | list ho hall=>exact ⟨_,_,ns,rfl,rfl,ho,zsj ns _ hall,hlen⟩
theorem zahu (l:OpenLaw) (args:List WData):l.row.toRowW.claim.post args (.bool true) args=true :=
 postW_of (r:=l.row.toRowW) (X:=(true==true))
  (show WShape.has [] (.bool true) .bool=true by first|rfl|decide|simp [WShape.has,WShape.arms,WShape.armsAll])
  (show (WTm.eq .res (.lit (.bool true))).value [] {args:=args,res:=some (.bool true),after:=args}=some (.bool (true==true)) from w_eq_bool (w_res rfl) w_lit) rfl
theorem attach_call {l:OpenLaw} {n:Nat} {q:Program} {loose:List Str} {XP:(Str→Option Value)→Heap→Prop} {YP:World→Heap→Prop} {d:DefRec}
  (hn:l.most=some n) (hdf:d.params.defaults=[])
  (call:∀ (w:World) (s₀ s₁:Shared) (mg mb:Str→Option Value) (fa:Addr) (o:Obj) (pm cd doc:Value) (a:Addr) (vs:List Value) (ns:List Int),
   Ground q loose [] XP w s₀ mg mb s₁.heap→YP w s₁.heap →
   s₁.heap.get? fa=some o→o.data=.func (docDef d.name d.params d.body d.scope pm cd doc)→s₁.heap.CodeRec cd d.name→mg d.name=some (.ref fa) →
   s₁.heap.get? a=some {cls:=.type "list",data:=.seq vs.toArray}→IntsAre vs ns→ns.length≤n→s₁.gens=#[] →
   codeAny (model l.prog w) callerA (.call (.ref fa) ⟨[.ref a],[]⟩) (fun r s'=>r=.ok (.ret (.bool true))∧OldK s₁.heap s'.heap∧s'.os=s₁.os∧AllBare s'.gens) s₁) :
  WalkO q loose XP YP l.row.toRowW d [] (fun f vs=>PySem.call f vs):=by
 intro w s₀ s₁ mg mb G Y fa o pm cd doc dV kV ho hd hcd hD hmg hg args vals as hpre hlay hrd hwl hlo
 obtain rfl:dV=.none:=Dflts.none hD hdf
 obtain rfl:kV=.none:=Dflts.noKw hD
 obtain ⟨a,vs,ns,rfl,rfl,hobj,hints,hlen⟩:=zaht hn hpre hwl
 refine enter_call (qB4 (call w s₀ s₁ mg mb fa o pm cd doc a vs ns G Y ho (fd_plain hd) hcd hmg hobj hints hlen hg) fun r s' hq=>?_)
 obtain ⟨rfl,h2,h3,h4⟩:=hq
 exact ⟨.inl ⟨.bool true,.bool true,[],rfl,fun _=>rfl,.bool true,zahu l _,fun _=>⟨List.Pairwise.nil,fun _ hm=>(nomatch hm)⟩⟩,h2,h3,h4⟩
section
variable {prog:Program} {w:World} {A:Around} {E:Value→Shared→Prop} {s:Shared} {K:Frag}
end
end Att
namespace L2
open PySem PySem.Spec PyProof.Rows
theorem zyr:∀ {vs:List Value} {ns:List Int},IntsAre vs ns→Vals (ns.map V.int) vs
 | _,_,.nil=>.nil
 | _,_,.cons n t h=>.cons ⟨t,rfl⟩ (zyr h)
def Only (H:Hp):Prop:=∀ b,H b=none∨∃ o xs,H b=some (.frz o (.lst xs))
theorem zalx {P:Program} {w:World} {K:qB} {mg mb:Str→Option Value} {CX:CXT} {k:Nat} {fa a:Addr} {fd:qAB} {x:Str} {sp:Sp} {s₁:Shared} {vs:List Value} {ns:List Int}
  (KX:K.In s₁.heap) (hns:s₁.heap.Ns qP mg) (hb:s₁.heap.Ns builtinsNs mb) (hbb:∀ x:Str,x ≠ "__name__" → mb x=bootBuiltins x) (hlim:s₁.heap.NoLimit) (hg:s₁.gens=#[])
  (ha:s₁.heap.get? a=some {cls:=.type "list",data:=.seq vs.toArray}) (hi:IntsAre vs ns) (hl:ns.length≤qk) (hr:Room k callerA)
  (F:∀ base:Heap,K.In base→base.Ns qP mg→FnOk P w K mg base CX k fa fd [x] sp) (hbind:∀ (s:Shared) (u:Value),BindsTo s fd ⟨[u],[]⟩ [(x,u)])
  (hsp:∀ H:Hp,Only H→SqL K H a (ns.map V.int)→sp [.ref a] H (fun v _=>v=.bl true) fun _ _ _=>False)
  (hCX:∀ H e s',CX [] H s₁ (fun _ _ _=>False) e s'→False) :
  codeAny (model P w) callerA (.call (.ref fa) ⟨[.ref a],[]⟩) (fun r s'=>r=.ok (.ret (.bool true))∧OldK s₁.heap s'.heap∧s'.os=s₁.os∧AllBare s'.gens) s₁:=by
 have rv:=zyr hi
 have lenV:=hi.length
 have core:∀ H:Hp,Only H→SqL K H a (ns.map V.int)→HOk P w H s₁.heap→(∀ b,H b≠none→b=a)→(H a≠none→K.lookup a=none) →
   codeAny (model P w) callerA (.call (.ref fa) ⟨[.ref a],[]⟩) (fun r s'=>r=.ok (.ret (.bool true))∧OldK s₁.heap s'.heap∧s'.os=s₁.os∧AllBare s'.gens) s₁:=by
  intro H hO hS hok hA hK
  have base_of:∀ {b:Addr} {o:Obj},s₁.heap.get? b=some o→H b=none→(hidT s₁.heap H).get? b=some o:=fun e n=>zali e n
  have noA:∀ {b:Addr} {o:Obj} {es:Array DictEntry} {ep:Nat},s₁.heap.get? b=some o→o.data=.dict es ep→H b=none:=fun {b o es ep} e d=>by
   cases q:H b with
   | none=>rfl
   | some u =>
    have e':b=a:=hA b (by rw [q];simp)
    subst e'
    rw [ha] at e;cases e
    have d':Data.seq vs.toArray _=Data.dict es ep:=d
    cases d'
  have nsK:∀ {b:Addr} {m:Str→Option Value},s₁.heap.Ns b m→(hidT s₁.heap H).Ns b m:=fun {b m} ⟨o,es,ep,e,d,r⟩=>⟨o,es,ep,base_of e (noA e d),d,r⟩
  have hKb:K.In (hidT s₁.heap H):=fun b o e=>base_of (KX b o e) (by
   cases q:H b with
   | none=>rfl
   | some u =>
    have e':b=a:=hA b (by rw [q];simp)
    subst e'
    rw [hK (by rw [q];simp)] at e;cases e)
  have hM:Mod K mg (hidT s₁.heap H):=⟨hKb,nsK hns,⟨mb,nsK hb,hbb⟩,let ⟨mc,h1,h2⟩:=hlim;⟨mc,nsK h1,h2⟩⟩
  have e0:Env0 P w K mg (hidT s₁.heap H) callerA [] s₁ H:=⟨rfl,hM,fun b o e=>zapm e,Nat.le_of_eq (zagw _ _),trivial,fun b hb=>absurd (show b∈([]:List Addr) from hb) (by simp),hok,.of_eq hg⟩
  refine qB4 ((F _ hKb (nsK hns)).run callerA [] s₁ H ⟨[.ref a],[]⟩ [.ref a] [.ref a] _ _ hr e0 (hbind s₁ (.ref a)) (.cons rfl .nil) (hsp H hO hS)) fun r s' h=>?_
  cases r with
  | error e=>exact (hCX H e s' h).elim
  | ok fl =>
   cases fl with
   | next=>exact False.elim h
   | brk=>exact False.elim h
   | cont=>exact False.elim h
   | ret u =>
    obtain ⟨v,H',os,bare,un,hok',r',q⟩:=h
    have q':v=.bl true:=q
    subst q'
    obtain rfl:u=Value.bool true:=r'
    refine ⟨rfl,OldK.of_keep fun b o e=>?_,os,bare⟩
    cases q:H b with
    | none=>exact un.keep b o e q (by intro z;exact absurd (show b∈([]:List Addr) from z) (by simp)) (by simp)
    | some u =>
     rcases hO b with z|⟨ob,xs,z⟩
     ·rw [q] at z;cases z
     ·have z2:=un.frzs b ob _ z
      obtain ⟨e1,_⟩:=hok b _ z
      obtain ⟨e2,_⟩:=hok' b _ z2
      rw [e] at e1;cases e1
      exact e2
 cases hk:K.lookup a with
 | some o =>
  have e:=KX a o hk
  rw [ha] at e
  cases e
  refine core (fun _=>none) (fun _=>.inl rfl) (.inr ⟨_,vs.toArray,_,hk,rfl,rfl,rfl,by rw [qS,lenV];exact hl,by simpa using rv⟩) (fun b u z=>by have z':(none:Option HO)=some u:=z;cases z') (fun b z=>absurd rfl z) fun z=>absurd rfl z
 | none =>
  refine core (fun b=>if b=a then some (.frz {cls:=.type "list",data:=.seq vs.toArray} (.lst (ns.map V.int))) else none) (fun b=>?_) (.inl (.inr ⟨{cls:=.type "list",data:=.seq vs.toArray},if_pos rfl⟩)) (fun b u z=>?_) (fun b z=>?_) fun _=>hk
  ·by_cases hb:b=a
   ·exact .inr ⟨_,_,if_pos hb⟩
   ·exact .inl (if_neg hb)
  ·by_cases hb:b=a
   ·have z':=(if_pos hb).symm.trans z
    cases z'
    subst hb
    exact ⟨ha,by rw [qC];exact hl,vs,_,rv,ha⟩
   ·have z':=(if_neg hb).symm.trans z
    cases z'
  ·by_cases hb:b=a
   ·exact hb
   ·exact absurd (if_neg hb) z
theorem walk_of {l:PySem.W.OpenLaw} {n k:Nat} {q:Program} {loose:List Str} {XP:(Str→Option Value)→Heap→Prop} {YP:World→Heap→Prop} {d:DefRec} {K:Params→qB} {CX:World→CXT} {sp:World→Sp} {x:Str}
  (hn:l.most=some n) (hn2:n≤qk) (hdf:d.params.defaults=[]) (hr:Room k callerA)
  (hY:∀ (w:World) (h:Heap),YP w h→(K w.params).In h)
  (F:∀ (w:World) (mg:Str→Option Value) (fa:Addr) (h:Heap),(K w.params).In h→h.Ns qP mg→mg d.name=some (.ref fa) →
   ∃ fd:qAB,(∀ (s:Shared) (u:Value),BindsTo s fd ⟨[u],[]⟩ [(x,u)]) ∧
    ∀ base:Heap,(K w.params).In base→base.Ns qP mg→FnOk l.prog w (K w.params) mg base (CX w) k fa fd [x] (sp w))
  (hsp:∀ (w:World) (H:Hp) (a:Addr) (ns:List Int),ns.length≤n→Only H→SqL (K w.params) H a (ns.map V.int)→sp w [.ref a] H (fun v _=>v=.bl true) fun _ _ _=>False)
  (hCX:∀ (w:World) (H:Hp) (s:Shared) (e:Value) (s':Shared),CX w [] H s (fun _ _ _=>False) e s'→False) :
  PySem.W.WalkO q loose XP YP l.row.toRowW d [] (fun f vs=>PySem.call f vs):=by
 refine Att.attach_call hn hdf fun w s₀ s₁ mg mb fa o pm cd doc a vs ns G Y ho hd hcd hmg hobj hints hlen hg=>?_
 have KX:=hY w _ Y
 obtain ⟨fd,hb,hF⟩:=F w mg fa _ KX G.T.g hmg
 exact zalx KX G.T.g G.T.b G.T.builtins G.T.nolimit hg hobj hints (qAX hlen hn2) hr hF hb (fun H hO hS=>hsp w H a ns hlen hO hS) fun H e s'=>hCX w H s₁ e s'
end L2
namespace L2
open PySem PySem.Spec PyProof.Rows
noncomputable def zcb (s:Stmt):Arguments:=match s with
 | .FunctionDef _ a _ _ _ _ _ _ _ _=>a
 | _=>{posonlyargs:=[],args:=[],vararg:=none,kwonlyargs:=[],kw_defaults:=[],kwarg:=none,defaults:=[]}
def zca (s:Stmt):List Stmt:=match s with
 | .FunctionDef _ _ b _ _ _ _ _ _ _=>b
 | _=>[]
noncomputable def zar (s:Stmt):Scope:=match s with
 | .FunctionDef _ _ _ _ _ _ sc _ _ _=>sc
 | _=>{kind:=.function,names:=[],isGenerator:=false,isCoroutine:=false}
abbrev CX0:CXT:=fun _ _ _ _ _ _=>False
abbrev E0:XK:=fun _ _ _=>False
theorem zaux {X:Cx}:zahe CX0 X E0:=fun _ _ _ _ _ _ _ h=>h.elim
set_option genInjectivity false in
structure Fun (K:qB) (x qual:Str) (st:Stmt) (f:Addr) (fd:qAB):Prop where
 ex:∃ (oc:Value) (od:Option Addr) (kV doc pm:Value) (an:Option Addr) (cdv ct:Value) (osl:Array (Option Value)),
  fd=qd x qual (zcb st) (zca st) (zar st) .none kV doc pm an cdv ct∧K.lookup f=some ⟨oc,od,.func fd,osl⟩∧qV K cdv qual=true
 kp:qT K (.ref f)=true
section
variable {P:Program} {w:World} {K:qB} {mg:Str→Option Value} {base:Heap}
theorem Fun.ok {x qual:Str} {st:Stmt} {f:Addr} {fd:qAB} {N ps:List Str} {k:Nat} {sp:Sp} (F:Fun K x qual st f fd) (S:FnScope N ps (zar st)) (len:∀ vs H Q E,sp vs H Q E→vs.length=ps.length)
  (hbody:∀ (cdv:Value) (A:Around) (outer:List Env) (s:Shared) (H:Hp) (vs:List V) (Q:VK) (E:XK),Room k (A.deeper (envOfC qual (zar st) s.heap.objs.size f cdv))→sp vs H Q E →
   ∃ t,PSs (cxOf CX0 P w K mg base N qual (zar st) f cdv A outer s H E).nox (zca st) t∧t {nx:=fun _ H'=>Q .non H',rt:=Q} (zko N vs) H):FnOk P w K mg base CX0 (k+1) f fd ps sp:=by
 obtain ⟨oc,od,kV,doc,pm,an,cdv,ct,osl,rfl,lk,hcd⟩:=F.ex
 refine zauu lk hcd S len fun A outer s H vs Q E hr hsp=>?_
 obtain ⟨t,h,q⟩:=hbody cdv A outer s H vs Q E hr hsp
 exact ⟨t,h.nox,q⟩
theorem Fun.binds {x qual:Str} {st:Stmt} {f:Addr} {fd:qAB} {ps:List Str} (F:Fun K x qual st f fd)
  (h:∀ (kV doc pm:Value) (an:Option Addr) (cdv ct:Value) (us:List Value),us.length=ps.length→bindArgs (qd x qual (zcb st) (zca st) (zar st) .none kV doc pm an cdv ct) ⟨us,[]⟩=pure (ps.zip us)):zafl K fd ps []:=by
 obtain ⟨oc,od,kV,doc,pm,an,cdv,ct,osl,rfl,lk,hcd⟩:=F.ex
 exact .all (h kV doc pm an cdv ct)
theorem zdp {x qual:Str} {st:Stmt} {f:Addr} {oc:Value} {od an:Option Addr} {osl:Array (Option Value)} {kV doc pm cdv ct:Value} (l:K.lookup f=some ⟨oc,od,.func (qd x qual (zcb st) (zca st) (zar st) .none kV doc pm an cdv ct),osl⟩)
  (c:qV K cdv qual=true) (k:qT K (.ref f)=true):Fun K x qual st f (qd x qual (zcb st) (zca st) (zar st) .none kV doc pm an cdv ct):=⟨⟨oc,od,kV,doc,pm,an,cdv,ct,osl,rfl,l,c⟩,k⟩
end
theorem zfy {A:Around} {k:Nat} (hr:Room k A):A.units+1<cLine:=qA0 (Nat.add_le_add_left (by decide:1≤64) _) hr.units
section
variable {X:Cx}
theorem pv (i:Nat) {x:Str} {pos:Pos} (hN:X.N[i]?=some x:=by rfl) (hv:visB X.env.scope x=true:=by rfl) (hd:(x==("__debug__":Str))=false:=by decide)
  (hcd:(x==("__classdict__":Str))=false:=by decide):PE X (.Name x pos) (tVar i):=zaof hN (visB.of hv) hd hcd
end
theorem iteF {A B:Prop} (h:B):if false=true then A else B:=by
 rw [if_neg qO]
 exact h
theorem iteT {A B:Prop} (h:A):if true=true then A else B:=by
 rw [if_pos rfl]
 exact h
theorem ite2 {c A B:Prop} [Decidable c] (h1:c→A) (h2:¬ c→B):if c then A else B:=by
 by_cases h:c
 ·rw [if_pos h]
  exact h1 h
 ·rw [if_neg h]
  exact h2 h
def Same (H H':Hp):Prop:=∀ b o,H b=some o→H' b=some o
theorem Same.refl (H:Hp):Same H H:=fun _ _ h=>h
theorem Same.trans {H H1 H2:Hp} (a:Same H H1) (b:Same H1 H2):Same H H2:=fun c o h=>b c o (a c o h)
theorem Same.free {H H':Hp} (e:Same H H') {l:Addr} (h:H' l=Option.none):H l=Option.none:=by
 cases q:H l with
 | none=>rfl
 | some o =>
  rw [e l o q] at h
  cases h
theorem Same.seq {K:qB} {H H':Hp} {a:Addr} {xs:List V} (e:Same H H') (h:SqL K H a xs):SqL K H' a xs:=by
 rcases h with (h|⟨o,h⟩)|h
 ·exact .inl (.inl (e _ _ h))
 ·exact .inl (.inr ⟨o,e _ _ h⟩)
 ·exact .inr h
section
variable {κ:Type} [DecidableEq κ]
theorem zabu:∀ {l:List κ} {k:κ},l.Nodup→¬ k∈l→(l++[k]).Nodup
 | [],k,_,_=>by simp
 | a::r,k,h,hk=>by
  obtain ⟨h1,h2⟩:=qA3.mp h
  show (a::(r++[k])).Nodup
  refine qA3.mpr ⟨fun m=>?_,zabu h2 fun m=>hk (qg.mpr (Or.inr m))⟩
  rcases qv.mp m with q|q
  ·exact h1 q
  ·exact hk (qg.mpr (Or.inl (qAV.mp q).symm))
end
end L2
set_option maxHeartbeats 4000000
namespace L2
open PySem PySem.Spec PyProof.Rows
noncomputable def clos (cells:List (Str×Addr)):List (Str×NameKind)→List (Str×Addr)→List (Str×Addr)
 | [],acc=>acc
 | (n,k)::r,acc=>if k==.free then clos cells r ((n,(cells.lookup n).getD 0)::acc) else clos cells r acc
theorem zwk {cells:List (Str×Addr)}:∀ {names:List (Str×NameKind)} {acc:List (Str×Addr)},(∀ y∈names,y.2=.free→∃ c,cells.lookup y.1=some c)→∀ p∈clos cells names acc,p∈acc∨((p.1,NameKind.free)∈names∧cells.lookup p.1=some p.2)
 | [],acc,_,p,hp=>.inl hp
 | (n,k)::r,acc,h,p,hp=>by
  unfold clos at hp
  have hr:∀ y∈r,y.2=.free→∃ c,cells.lookup y.1=some c:=fun y hy=>h y (qJ _ hy)
  split at hp
  ·rename_i hk
   rcases zwk hr p hp with q|q
   ·rcases qg.mp q with q|q
    ·subst q
     have hk':k=.free:=by simpa using hk
     subst hk'
     obtain ⟨c,hc⟩:=h (n,.free) qX rfl
     exact .inr ⟨qX,by show cells.lookup n=some ((cells.lookup n).getD 0);rw [hc];rfl⟩
    ·exact .inl q
   ·exact .inr ⟨qJ _ q.1,q.2⟩
  ·rcases zwk hr p hp with q|q
   ·exact .inl q
   ·exact .inr ⟨qJ _ q.1,q.2⟩
theorem zwl {cells:List (Str×Addr)}:∀ {names:List (Str×NameKind)} {acc:List (Str×Addr)},∀ p∈acc,p∈clos cells names acc
 | [],acc,p,hp=>hp
 | (n,k)::r,acc,p,hp=>by
  unfold clos
  split
  ·exact zwl p (qJ _ hp)
  ·exact zwl p hp
theorem zwm {cells:List (Str×Addr)} {x:Str}:∀ {names:List (Str×NameKind)} {acc:List (Str×Addr)},(x,NameKind.free)∈names→∃ c,(x,c)∈clos cells names acc
 | [],_,h=>by simp at h
 | (n,k)::r,acc,h=>by
  unfold clos
  rcases qg.mp h with e|h
  ·cases e
   rw [if_pos (show (NameKind.free==NameKind.free)=true by decide)]
   exact ⟨_,zwl _ qX⟩
  ·split
   ·exact zwm h
   ·exact zwm h
theorem zor {α:Type} {x:Str} {c:α}:∀ {l:List (Str×α)},(x,c)∈l→∃ c',l.lookup x=some c'
 | [],h=>by simp at h
 | (k,v)::r,h=>by
  rw [qAM]
  cases hb:x==k with
  | true=>exact ⟨v,rfl⟩
  | false =>
   rcases qg.mp h with e|h
   ·cases e;simp at hb
   ·exact zor h
theorem zos {scope:Scope} {env:Env} (h:∀ y∈scope.names,y.2=.free→∃ c,env.cells.lookup y.1=some c):closureFor scope env=pure (clos env.cells scope.names []):=by
 unfold closureFor
 have key:∀ (names:List (Str×NameKind)) (acc:List (Str×Addr)),(∀ y∈names,y.2=.free→∃ c,env.cells.lookup y.1=some c) →
   (forIn names acc (fun (x:Str×NameKind) (r:List (Str×Addr))=>(if (x.2==.free)=true then (do let a ← cellOf env x.1;pure (ForInStep.yield ((x.1,a)::r))) else pure (ForInStep.yield r):Sem (ForInStep (List (Str×Addr))))))=pure (clos env.cells names acc):=by
  intro names
  induction names with
  | nil=>intro acc _;rfl
  | cons y r ih =>
   intro acc hy
   obtain ⟨n,k⟩:=y
   have hr:=fun y (hm:y∈r)=>hy y (qJ _ hm)
   rw [qCO]
   unfold clos
   cases hk:(k==NameKind.free) with
   | true =>
    have hk':k=.free:=by simpa using hk
    subst hk'
    obtain ⟨c,hc⟩:=hy (n,.free) qX rfl
    have e1:cellOf env n=pure c:=by unfold cellOf;rw [hc]
    simp only [if_true]
    have hc':env.cells.lookup n=some c:=hc
    rw [e1,hc']
    simp only [pure_bind,Option.getD_some]
    exact ih _ hr
   | false =>
    simp only [qB6,if_false,pure_bind]
    exact ih _ hr
 simpa using key scope.names [] h
theorem zit:∀ (names:List (Str×NameKind)) (n:Nat) (acc:List (Str×Addr)),cellsFrom n names acc=cellsFrom n names []++acc
 | [],_,_=>rfl
 | (name,kind)::r,n,acc=>by
  unfold cellsFrom
  split
  ·rw [zit r (n+1) ((name,n)::acc),zit r (n+1) [(name,n)],qBO];rfl
  ·exact zit r n acc
theorem ziu {x:Str} {c:Addr}:∀ (names:List (Str×NameKind)) (n:Nat) (acc:List (Str×Addr)),(x,c)∈cellsFrom n names acc→(x,c)∈acc∨(x,NameKind.cell)∈names
 | [],_,_,h=>.inl h
 | (name,kind)::r,n,acc,h=>by
  unfold cellsFrom at h
  split at h
  ·rename_i hk
   have hk':kind=.cell:=by simpa using hk
   subst hk'
   rcases ziu r _ _ h with q|q
   ·rcases qg.mp q with q|q
    ·cases q;exact .inr qX
    ·exact .inl q
   ·exact .inr (qJ _ q)
  ·rcases ziu r _ _ h with q|q
   ·exact .inl q
   ·exact .inr (qJ _ q)
theorem zna {α:Type} {x:Str}:∀ {l r:List (Str×α)},(l++r).lookup x=(l.lookup x).or (r.lookup x)
 | [],_=>by simp
 | (k,v)::l,r=>by
  rw [List.cons_append,qAM,qAM]
  cases x==k with
  | true=>rfl
  | false=>exact zna
theorem zic {env:Env} {x:Str} {k':NameKind}:∀ {names:List (Str×NameKind)},
  (names.map fun (n,k)=>if (k==NameKind.free&&env.scope.kind==.function&&env.kindOf n==some .cell) then (n,NameKind.cell) else (n,k)).lookup x=some k' →
  ∃ k,names.lookup x=some k∧(k'=k∨(k=.free∧k'=.cell))
 | [],h=>by simp at h
 | (n,k)::r,h=>by
  rw [qa] at h
  by_cases hc:(k==NameKind.free&&env.scope.kind==.function&&env.kindOf n==some .cell)=true
  ·simp only [hc,if_true] at h
   rw [qAM] at h ⊢
   cases hx:x==n with
   | true =>
    rw [hx] at h
    have hk:k=.free:=by simp at hc;exact hc.1.1
    exact ⟨k,rfl,.inr ⟨hk,(qr h).symm⟩⟩
   | false=>rw [hx] at h;exact zic h
  ·simp only [hc,qB6,if_false] at h
   rw [qAM] at h ⊢
   cases hx:x==n with
   | true=>rw [hx] at h;exact ⟨k,rfl,.inl (qr h).symm⟩
   | false=>rw [hx] at h;exact zic h
theorem zlz {env:Env} {x:Str}:∀ {names:List (Str×NameKind)},names.lookup x=some .free →
  ((names.map fun (n,k)=>if (k==NameKind.free&&env.scope.kind==.function&&env.kindOf n==some .cell) then (n,NameKind.cell) else (n,k)).lookup x=some .free ∨
   (names.map fun (n,k)=>if (k==NameKind.free&&env.scope.kind==.function&&env.kindOf n==some .cell) then (n,NameKind.cell) else (n,k)).lookup x=some .cell)
 | [],h=>by simp at h
 | (n,k)::r,h=>by
  rw [qa]
  rw [qAM] at h
  by_cases hc:(k==NameKind.free&&env.scope.kind==.function&&env.kindOf n==some .cell)=true
  ·simp only [hc,if_true]
   rw [qAM]
   cases hx:x==n with
   | true=>exact .inr rfl
   | false=>rw [hx] at h;exact zlz h
  ·simp only [hc,qB6,if_false]
   rw [qAM]
   cases hx:x==n with
   | true=>rw [hx] at h;exact .inl h
   | false=>rw [hx] at h;exact zlz h
theorem zafq {M:Model} {A:Around} {E:Value→Shared→Prop} {s:Shared} {scope:Scope} {globals:Addr} {cl:List (Str×Addr)} {qual:Str} {env:Env} {Q:Env→Shared→Prop}
  (hQ:∀ h',(∀ b o,s.heap.get? b=some o→h'.get? b=some o)→h'.Ns s.heap.objs.size (fun _=>none)→(∀ n c,(n,c)∈cellsFrom (s.heap.objs.size+1) scope.names []→h'.IsCell c none∧s.heap.objs.size+1≤c) →
   ((cellsFrom (s.heap.objs.size+1) scope.names []).Pairwise fun x y=>x.2≠y.2) →
   Q {scope:=scope,locals:=s.heap.objs.size,globals:=globals,cells:=cellsFrom (s.heap.objs.size+1) scope.names []++cl,qual:=qual,func:=none,code:=env.code,frame:=env.frame,builtins:=env.builtins} {s with heap:=h'}) :
  wpAny M A (newFunctionEnv scope globals cl [] qual none .none (some env)) Q E s:=by
 simp only [newFunctionEnv,qCy,if_true]
 refine qD (wpAny_alloc ?_)
 refine qD (wpAny_layCells _ (fun name kind cells=>by cases hkc:kind==NameKind.cell<;>simp [hkc]) _ _ _ _ ?_)
 have ok:=cellsFrom_ok scope.names (s.heap.push {cls:=.type "dict",data:=.dict #[]}) (s.heap.objs.size+1) [] ⟨fun _ _ hm=>(nomatch hm),List.Pairwise.nil⟩ (by rw [qA1];exact qM _)
 rw [qA1] at ok
 rw [show ({s with heap:=s.heap.push {cls:=.type "dict",data:=.dict #[]}}:Shared).heap.objs.size=s.heap.objs.size+1 from qA1 ..]
 rw [zit]
 refine qD ?_
 refine qQ (qQ ?_)
 exact hQ _ (fun b o e=>pushCells_keeps _ _ b o (qG _ e)) ((Heap.Ns.new s.heap (.type "dict")).keeps (pushCells_keeps _ _)) ok.empty ok.apart
noncomputable def cxComp (X:Cx) (scope:Scope) (N' own:List Str) (cl:List (Str×Addr)) (C:Addr) (s:Shared) (H:Hp) (fp:List Addr):Cx :=
 {X with N:=N',s₀:=s,H₀:=H,env:=compEnvC scope cl C X.env,outer:=X.stack,stack:=X.stack,ex:=fp,fn:=fun x=>own.contains x,pn:=[],xe:=fun _ _=>False}
structure CompOk (X:Cx) (scope:Scope) (N' own:List Str) (fr:List Nat):Prop where
 kind:scope.kind=.function
 names:∀ y∈scope.names,scope.names.lookup y.1=some y.2
 up:∀ y∈scope.names,y.2=.free→(X.env.kindOf y.1=some .cell∨X.env.kindOf y.1=some .free)
 nm:N'=own++fr.map (fun j=>X.N.getD j Str.empty)
 fr:∀ j∈fr,j<X.N.length∧scope.names.lookup (X.N.getD j Str.empty)=some .free
 own:∀ x∈own,scope.names.lookup x=some .local∨scope.names.lookup x=some .cell
def tau (own:List Str) (fr:List Nat) (σ:St):St:=own.map (fun _=>none)++fr.map (fun j=>σ.getD j none)
section
variable {X:Cx} {pins:List (Addr×Obj)} {σ:St} {H:Hp} {s:Shared} {scope:Scope} {N' own:List Str} {fr:List Nat}
theorem zpu (c:CompOk X scope N' own fr) (ok:X.Ok):∀ y∈scope.names,y.2=.free→∃ a,X.env.cells.lookup y.1=some a:=fun y hy e=>ok.has y.1 (c.up y hy e)
theorem zaly {fp:List Addr} {h':Heap} (c:CompOk X scope N' own fr) (I:Inv X pins σ H s)
  (hf:∀ b∈fp,FpOk X pins H b) (ho:∀ b∈fp,∃ o,s.heap.get? b=some o∧∀ v,o.data≠.cell v)
  (keep:∀ b o,s.heap.get? b=some o→h'.get? b=some o) (ns:h'.Ns s.heap.objs.size (fun _=>none))
  (cells:∀ n c,(n,c)∈cellsFrom (s.heap.objs.size+1) scope.names []→h'.IsCell c none∧s.heap.objs.size+1≤c)
  (apart:(cellsFrom (s.heap.objs.size+1) scope.names []).Pairwise fun x y=>x.2≠y.2) :
  Inv (cxComp X scope N' own (cellsFrom (s.heap.objs.size+1) scope.names []++clos X.env.cells scope.names []) s.heap.objs.size s H fp) [] (tau own fr σ) H {s with heap:=h'}:=by
 have found:=zpu c I.ok
 have clm:∀ x a,(x,a)∈clos X.env.cells scope.names []→(x,NameKind.free)∈scope.names∧X.env.cells.lookup x=some a:=fun x a hm=>by
  rcases zwk found (x,a) hm with q|q
  ·simp at q
  ·exact q
 have look:∀ x a,(cellsFrom (s.heap.objs.size+1) scope.names []++clos X.env.cells scope.names []).lookup x=some a →
   ((x,a)∈cellsFrom (s.heap.objs.size+1) scope.names []∧(x,NameKind.cell)∈scope.names)∨((x,NameKind.free)∈scope.names∧X.env.cells.lookup x=some a):=fun x a e=>by
  rw [zna] at e
  cases q:(cellsFrom (s.heap.objs.size+1) scope.names []).lookup x with
  | some b =>
   rw [q] at e
   cases e
   have hm:=qAT q
   rcases ziu _ _ _ hm with z|z
   ·simp at z
   ·exact .inl ⟨hm,z⟩
  | none =>
   rw [q] at e
   exact .inr (clm x a (qAT e))
 have lookF:∀ x a,(x,NameKind.free)∈scope.names→X.env.cells.lookup x=some a→(cellsFrom (s.heap.objs.size+1) scope.names []++clos X.env.cells scope.names []).lookup x=some a:=fun x a hx e=>by
  rw [zna]
  have q:(cellsFrom (s.heap.objs.size+1) scope.names []).lookup x=none:=by
   cases q:(cellsFrom (s.heap.objs.size+1) scope.names []).lookup x with
   | none=>rfl
   | some b =>
    rcases ziu _ _ _ (qAT q) with z|z
    ·simp at z
    ·have h1:=c.names _ hx
     have h2:=c.names _ z
     rw [h1] at h2
     cases h2
  rw [q]
  obtain ⟨d,hd⟩:=zwm (cells:=X.env.cells) (acc:=[]) hx
  obtain ⟨d',hd'⟩:=zor hd
  have:=(clm x d' (qAT hd')).2
  rw [e] at this
  cases this
  exact hd'
 have below:∀ b o,s.heap.get? b=some o→b<s.heap.objs.size:=fun b o e=>qW e
 have cold:∀ x a,X.env.cells.lookup x=some a→a<s.heap.objs.size:=fun x a e=>let ⟨v,q⟩:=I.cell x a e;q.lt
 refine ⟨⟨I.ok.mod,c.kind,I.ok.glob,I.ok.blt,qM _,?inj,?has,?cab,I.ok.hd,I.ok.frames,.inl rfl,?exf,I.bs,qAX I.ok.bsz I.sz,?noex,?exfs,I.stack,I.stkFree⟩,
  rfl,I.bare,Un.kept keep,⟨_,ns,?loc⟩,?cell,I.hok.fresh (qM _),?freeC,?pin,I.hok.kept keep,?len⟩
 case inj =>
  intro x y a h1 h2
  rcases look x a h1 with ⟨m1,k1⟩|⟨k1,e1⟩<;>rcases look y a h2 with ⟨m2,k2⟩|⟨k2,e2⟩
  ·exact name_of_addr apart m1 m2
  ·exact absurd (qt (cold y a e2) (qCB (cells x a m1).2)) (qA6 _)
  ·exact absurd (qt (cold x a e1) (qCB (cells y a m2).2)) (qA6 _)
  ·exact I.ok.inj x y a e1 e2
 case has =>
  intro x hx
  have hx':(∃ k,scope.names.lookup x=some k∧(k=.cell∨k=.free)):=by
   rcases hx with hx|hx
   ·obtain ⟨k,e,q⟩:=zic (env:=X.env) (names:=scope.names) hx
    rcases q with q|⟨q,_⟩
    ·exact ⟨k,e,.inl q.symm⟩
    ·exact ⟨k,e,.inr q⟩
   ·obtain ⟨k,e,q⟩:=zic (env:=X.env) (names:=scope.names) hx
    rcases q with q|⟨q,_⟩
    ·exact ⟨k,e,.inr q.symm⟩
    ·exact ⟨k,e,.inr q⟩
  obtain ⟨k,e,q⟩:=hx'
  show ∃ a,(cellsFrom (s.heap.objs.size+1) scope.names []++clos X.env.cells scope.names []).lookup x=some a
  rcases q with rfl|rfl
  ·obtain ⟨a,ha⟩:=zwg (n:=s.heap.objs.size+1) e
   exact ⟨a,by rw [zna,ha];rfl⟩
  ·obtain ⟨a,ha⟩:=found _ (qAT e) rfl
   exact ⟨a,lookF x a (qAT e) ha⟩
 case cab =>
  intro x a hx e
  have hx:own.contains x=true:=hx
  have hx':x∈own:=by simpa using hx
  rcases look x a e with ⟨m1,_⟩|⟨k1,_⟩
  ·have:=(cells x a m1).2
   show s.heap.objs.size≤a
   omega
  ·have h1:=c.names _ k1
   rcases c.own x hx' with h2|h2
   ·rw [h1] at h2;cases h2
   ·rw [h1] at h2;cases h2
 case exf =>
  intro b hb
  obtain ⟨o,e,d⟩:=ho b hb
  refine ⟨q9 (below b o e),fun x a q z=>?_⟩
  subst z
  rcases look x a q with ⟨m1,_⟩|⟨k1,e1⟩
  ·exact absurd (qt (below a o e) (qCB (cells x a m1).2)) (qA6 _)
  ·obtain ⟨v,o',e',d'⟩:=I.cell x a e1
   rw [e] at e'
   cases e'
   exact d v d'
 case noex =>
  intro b o e hb
  rcases (hf b hb).2.2.2.1 with z|z
  ·exact I.ok.noex b o e z
  ·exact absurd (qt (qt (qW e) I.ok.bsz) z) (qA6 _)
 case exfs =>
  intro b hb z
  rcases qg.mp (I.stkSub b z) with q|q
  ·exact (hf b hb).2.1 q
  ·exact (hf b hb).2.2.1 q
 case loc =>
  intro i x v h1 h2 h3
  have h1:N'[i]?=some x:=h1
  rw [c.nm] at h1
  unfold tau at h2
  by_cases hi:i<own.length
  ·rw [qAH (by simpa using hi),qL] at h2
   cases q:own[i]? with
   | none=>rw [q] at h2;cases h2
   | some z=>rw [q] at h2;cases h2
  ·rw [qAW (by simpa using hi),qL,qC] at h2
   rw [qAW (by simpa using hi),qL] at h1
   cases q:fr[i - own.length]? with
   | none=>rw [q] at h2;cases h2
   | some j =>
    rw [q] at h1 h2
    have e1:X.N.getD j Str.empty=x:=qr h1
    have e2:σ.getD j none=some v:=qr h2
    obtain ⟨hj,hfree⟩:=c.fr j (qAs q)
    rw [e1] at hfree
    have hNj:X.N[j]?=some x:=by
     rw [← e1,qAF,qE hj];rfl
    have hσj:σ[j]?=some (some v):=by
     rw [qAF] at e2
     cases z:σ[j]? with
     | none=>rw [z] at e2;cases e2
     | some w=>rw [z] at e2;rw [show w=some v from e2]
    have hmem:(x,NameKind.free)∈scope.names:=qAT hfree
    have hup:=c.up _ hmem rfl
    obtain ⟨m,hn,hl⟩:=I.loc
    obtain ⟨u,ru,lk⟩:=hl j x v hNj hσj (by rcases hup with z|z;exact .inr (.inl z);exact .inr (.inr z))
    refine ⟨u,ru,.inr ⟨?_,?_⟩⟩
    ·rcases zlz (env:=X.env) (names:=scope.names) hfree with z|z
     ·exact .inr z
     ·exact .inl z
    ·rcases lk with ⟨k1,_⟩|⟨_,a,ha,hc⟩
     ·rcases hup with z|z
      ·rw [show X.env.kindOf x=some .cell from z] at k1;cases k1
      ·rw [show X.env.kindOf x=some .free from z] at k1;cases k1
     ·exact ⟨a,lookF x a hmem ha,hc.keeps keep⟩
 case cell =>
  intro x a e
  rcases look x a e with ⟨m1,_⟩|⟨k1,e1⟩
  ·exact ⟨_,(cells x a m1).1⟩
  ·obtain ⟨v,q⟩:=I.cell x a e1
   exact ⟨v,q.keeps keep⟩
 case freeC =>
  intro x a e
  rcases look x a e with ⟨m1,_⟩|⟨k1,e1⟩
  ·exact I.hok.fresh (by have:=(cells x a m1).2;omega)
  ·exact I.freeC x a e1
 case pin=>intro p hp;exact absurd (show p∈([]:List (Addr×Obj)) from hp) (by simp)
 case len =>
  show (tau own fr σ).length=N'.length
  rw [c.nm];unfold tau;simp
end
abbrev TM:=St→Hp→(St→Hp→Prop)→Prop
noncomputable def PM (X:Cx) (act:Sem Unit) (t:TM):Prop :=
 ∀ (pins:List (Addr×Obj)) (s:Shared) (σ:St) (H:Hp) (Q:St→Hp→Prop),Inv X pins σ H s→t σ H Q→wpAny (model X.prog X.w) X.A act (fun _ s'=>∃ σ' H',Inv X pins σ' H' s'∧Q σ' H') X.xe s
noncomputable def PF (X:Cx) (ifs:List Expr) (t:TT):Prop :=
 ∀ (pins:List (Addr×Obj)) (s:Shared) (σ:St) (H:Hp) (Q:Bool→Hp→Prop),Inv X pins σ H s→t σ H Q →
  wpAny (model X.prog X.w) X.A (forIn ifs true fun c r=>if r=true then do let ok ← isTrue c X.env (eval c X.env);pure (ForInStep.yield ok) else pure (ForInStep.yield r)) (TP X pins σ Q) X.xe s
def tAll:TT:=fun _ H Q=>Q true H
section
variable {X:Cx}
theorem zatf:PF X [] tAll:=fun _ s σ H Q I h=>wpAny_tests_nil ⟨H,I,h⟩
theorem zatg {c:Expr} {t:TT} (h:PT X c t):PF X [c] t:=fun pins s σ H Q I q=>wpAny_tests_one (h pins s σ H Q I q)
def zafr (p:Addr) (te:TE):TM:=fun σ H Q=>te σ H fun v H1=>∃ ys,H1 p=some (.lst ys)∧ys.length<qk∧Q σ (upd H1 p (.lst (ys++[v])))
theorem zabv {elt:Expr} {te:TE} {p:Addr} (h:PE X elt te):PM X (do let _ ← call (.builtin "list.append") [.ref p,← eval elt X.env]) (zafr p te):=by
 intro pins s σ H Q I q
 refine qD (thn (h pins s σ H _ I q) fun u s1 ⟨v,H1,I1,r,ys,hp,hz,q1⟩=>?_)
 refine qD (thn (zdj pins s1 σ H1 (.ref p) [v] (.ref p) [u] (fun _ H2=>Q σ H2) I1 rfl (.cons r .nil) ⟨p,ys,v,rfl,rfl,hp,hz,q1⟩) fun _ s2 ⟨_,H2,I2,_,q2⟩=>?_)
 exact qQ ⟨σ,H2,I2,q2⟩
noncomputable def zalz (J:It) (g:TG) (tt:TT) (tm:TM):TM:=fun σ H Q=>∃ W:Nat→Nat→St→Hp→Prop,(∃ m,W 0 m σ H)∧∀ i m σ H,W i m σ H →
 (J.stop i H∧Q σ H)∨(J.go i H∧∃ N:St→Hp→Prop,(∀ σ' H',N σ' H'→∃ m',m'<m∧W (i+1) m' σ' H')∧∀ x H',J.yld i H x H'→g x σ H' fun σ2 H2=>tt σ2 H2 fun b H3=>if b=true then tm σ2 H3 N else N σ2 H3)
theorem zsk {elt0:Expr} {gens:List Comprehension} {scope:Scope} {cpos:Pos} {depth:Nat} {target:Expr} {ifs:List Expr} {emit:Sem Unit} {acc:Value} {ip:Pos} {it:Addr} {fp:List Addr} {tn:Nat→Heap→Prop} {J:It} {g:TG} {tt:TT} {tm:TM} {pins:List (Addr×Obj)} {σ:St} {H:Hp} {s:Shared} {Q:St→Hp→Prop}
  (hx:X.xe=fun _ _=>False) (hc:X.calm=true)
  (eq:compTurn (.ListComp elt0 gens scope cpos) depth (.ref it) acc X.env=(do
   standAt ip
   match ← pyNext (.ref it) with
   | none=>pure (.done .next)
   | some v =>
    letOwnedTupleGo target (.ref it) v
    assign target X.env v
    let mut ok:=true
    for c in ifs do
     if ok then ok ← isTrue c X.env (eval c X.env)
    if ok then emit
    again (.compLoop (.ListComp elt0 gens scope cpos) depth (.ref it) acc X.env)))
  (T:Turn X.prog X.w X.K target J fp it tn) (hg:PG X target g) (ht:PF X ifs tt) (hm:PM X emit tm)
  (I:Inv X pins σ H s) (st:tn 0 s.heap) (hf:∀ b∈fp,FpOk X pins H b) (h:zalz J g tt tm σ H Q) :
  codeAny (model X.prog X.w) X.A (.compLoop (.ListComp elt0 gens scope cpos) depth (.ref it) acc X.env) (fun r s'=>r=.ok .next∧∃ σ' H',Inv X pins σ' H' s'∧Q σ' H') s:=by
 obtain ⟨W,⟨m0,w0⟩,turn⟩:=h
 have stat:∀ {H':Hp},(∀ b∈fp,H' b=none)→∀ b∈fp,FpOk X pins H' b:=fun hn b hb=>⟨hn b hb,(hf b hb).2⟩
 have xe:∀ {α:Type} {m:Sem α} {Q':α→Shared→Prop} {E:Value→Shared→Prop} {s:Shared},wpAny (model X.prog X.w) X.A m Q' X.xe s→wpAny (model X.prog X.w) X.A m Q' E s:=fun q=>qBq q (fun _ _ z=>z) fun _ _ z=>by rw [hx] at z;exact z.elim
 refine codeAny_loop rfl (fun n s'=>∃ i σ' H',Inv X pins σ' H' s'∧tn i s'.heap∧(∀ b∈fp,H' b=none)∧W i n σ' H') ?_ m0 ⟨0,σ,H,I,st,fun b hb=>(hf b hb).1,w0⟩
 rintro n s3 ⟨i,σ3,H3,I3,st3,fr3,w3⟩
 show wpAny _ X.A ((compTurn (.ListComp elt0 gens scope cpos) depth (.ref it) acc X.env).onRaise (fun x=>do noteFrame x X.env;theTreesLotGoes x)) _ _ s3
 refine wpAny_noted ?_
 rw [eq]
 refine qD (qBY (qD ?_))
 rcases turn i n σ3 H3 w3 with ⟨stop,qn⟩|⟨go,N,hN,step⟩
 ·refine thn (T.done X rfl rfl rfl hc i pins s3 σ3 H3 _ I3 (stat fr3) st3 stop) fun r s4 ⟨hr,I4⟩=>?_
  subst hr
  exact qQ ⟨rfl,σ3,H3,I4,qn⟩
 ·refine thn (T.item X rfl rfl rfl hc i pins s3 σ3 H3 _ I3 (stat fr3) st3 go) fun r s4 ⟨u,hr,h4⟩=>?_
  subst hr
  refine qD (thn h4 fun _ s5 ⟨x,H5,I5,r5,y5,st5,fr5⟩=>?_)
  have I5':=I5.pinned (stat fr5) (T.obj _ _ st5)
  refine qD (xe (thn (hg _ s5 σ3 H5 x u _ I5' r5 (step x H5 y5)) fun _ s6 ⟨σ6,H6,I6,q6⟩=>?_))
  have again:∀ {σ7:St} {H7:Hp} {s7:Shared},Inv X (pins++zyf fp s5.heap) σ7 H7 s7→N σ7 H7→∃ m,m<n∧∃ i σ' H',Inv X pins σ' H' s7∧tn i s7.heap∧(∀ b∈fp,H' b=none)∧W i m σ' H':=fun {σ7 H7 s7} I7 n7=>by
   obtain ⟨m',hm,w7⟩:=hN σ7 H7 n7
   refine ⟨m',hm,i+1,σ7,H7,I7.unpinned,T.keep _ _ _ st5 fun b hb o e=>(I7.pin (b,o) (qo _ (qo _ (zmz hb e)))).1,fun b hb=>?_,w7⟩
   obtain ⟨o,e,d⟩:=T.obj _ _ st5 b hb
   exact (I7.pin (b,o) (qo _ (qo _ (zmz hb e)))).2.1
  refine qD (xe (thn (ht _ s6 σ6 H6 _ I6 q6) fun ok s7 ⟨H7,I7,q7⟩=>?_))
  cases ok with
  | false =>
   rw [if_neg (by decide)] at q7
   exact qQ ⟨rfl,again I7 q7⟩
  | true =>
   rw [if_pos rfl] at q7
   refine qD (xe (thn (hm _ s7 σ6 H7 _ I7 q7) fun _ s8 ⟨σ8,H8,I8,q8⟩=>?_))
   exact qQ ⟨rfl,again I8 q8⟩
end
section
variable {X:Cx} {pins:List (Addr×Obj)} {σ:St} {H:Hp} {s:Shared} {scope:Scope} {N' own:List Str} {fr:List Nat}
theorem zvf {elt0 target iter:Expr} {ifs:List Expr} {rest:List Comprehension} {cpos:Pos} {g:TG} {tt:TT} {tm:Addr→TM} {emit:Value→Env→Sem Unit} {it:Addr} {fp:List Addr} {tn:Nat→Heap→Prop} {J:It} {Q:VK} {E:Value→Shared→Prop} {RR:Value→Addr→Result→Shared→Prop}
  (c:CompOk X scope N' own fr) (hc:X.calm=true)
  (eq:∀ it acc env,compTurn (.ListComp elt0 (⟨target,iter,ifs,0⟩::rest) scope cpos) 0 it acc env=(do
   standAt iter.pos
   match ← pyNext it with
   | none=>pure (.done .next)
   | some v =>
    letOwnedTupleGo target it v
    assign target env v
    let mut ok:=true
    for c in ifs do
     if ok then ok ← isTrue c env (eval c env)
    if ok then emit acc env
    again (.compLoop (.ListComp elt0 (⟨target,iter,ifs,0⟩::rest) scope cpos) 0 it acc env)))
  (T:Turn X.prog X.w X.K target J fp it tn)
  (hb:∀ (cl:List (Str×Addr)) (C:Addr) (s:Shared) (H:Hp) (fp:List Addr) (p:Addr),PG (cxComp X scope N' own cl C s H fp) target g∧PF (cxComp X scope N' own cl C s H fp) ifs tt∧PM (cxComp X scope N' own cl C s H fp) (emit (.ref p) (compEnvC scope cl C X.env)) (tm p))
  (I:Inv X pins σ H s) (st:tn 0 s.heap) (hf:∀ b∈fp,FpOk X pins H b)
  (h:∀ p,H p=none→zalz J g tt (tm p) (tau own fr σ) (upd H p (.lst [])) (fun _ H'=>Q (.ref p) H'))
  (hRR:∀ (p C:Addr) (m:Str→Option Value) (H':Hp) (s':Shared),Inv X pins σ H' s'→s'.heap.Ns C m→FpOk X pins H' C→Q (.ref p) H'→RR (.ref p) C (.ok .next) s') :
  wpAny (model X.prog X.w) X.A (newList []) (fun acc s₃=>wpAny (model X.prog X.w) X.A (newFunctionEnv scope X.env.globals (clos X.env.cells scope.names []) [] X.env.qual none .none (some X.env)) (fun cenv s₄ =>
   codeAny (model X.prog X.w) X.A (.compStart (.ListComp elt0 (⟨target,iter,ifs,0⟩::rest) scope cpos) 0 (.ref it) acc {cenv with scope:=relabel scope X.env}) (RR acc cenv.locals) s₄) E s₃) E s:=by
 refine qA5 ?_
 have I3:Inv X pins σ (upd H s.heap.objs.size (.lst [])) {s with heap:=s.heap.push {cls:=.type "list",dict:=none,data:=.seq ([]:List Value).toArray}}:=I.lnew (t':=s.toks) .nil (qAf _)
 have hn0:H s.heap.objs.size=none:=I.hok.fresh (qM _)
 generalize e3:({s with heap:=s.heap.push {cls:=.type "list",dict:=none,data:=.seq ([]:List Value).toArray}}:Shared)=s3 at I3 ⊢
 have k3:∀ b o,s.heap.get? b=some o→s3.heap.get? b=some o:=fun b o e=>by rw [← e3];exact qG _ e
 have hne:∀ b∈fp,b≠s.heap.objs.size:=fun b hb=>by
  obtain ⟨o,e,_⟩:=T.obj _ _ st b hb
  exact q9 (qW e)
 have hf3:∀ b∈fp,FpOk X pins (upd H s.heap.objs.size (.lst [])) b:=fun b hb=>⟨by rw [zcp (hne b hb)];exact (hf b hb).1,(hf b hb).2⟩
 have st3:tn 0 s3.heap:=T.keep _ _ _ st fun b _ o e=>k3 b o e
 refine zafq fun h' keep ns cells apart=>?_
 have I4:=zaly c I3 hf3 (T.obj _ _ st3) keep ns cells apart
 have st4:tn 0 h':=T.keep _ _ _ st3 fun b _ o e=>keep b o e
 obtain ⟨hg,ht,hm⟩:=hb (cellsFrom (s3.heap.objs.size+1) scope.names []++clos X.env.cells scope.names []) s3.heap.objs.size s3 (upd H s.heap.objs.size (.lst [])) fp s.heap.objs.size
 have hf4:∀ b∈fp,FpOk (cxComp X scope N' own (cellsFrom (s3.heap.objs.size+1) scope.names []++clos X.env.cells scope.names []) s3.heap.objs.size s3 (upd H s.heap.objs.size (.lst [])) fp) [] (upd H s.heap.objs.size (.lst [])) b:=fun b hb =>
  ⟨(hf3 b hb).1,(I4.ok.exf b hb).1,I4.ok.exfs b hb,.inl hb,(I4.ok.exf b hb).2,fun p hp=>absurd (show p∈([]:List (Addr×Obj)) from hp) (by simp)⟩
 have loop:codeAny (model X.prog X.w) X.A (.compLoop (.ListComp elt0 (⟨target,iter,ifs,0⟩::rest) scope cpos) 0 (.ref it) (.ref s.heap.objs.size) (compEnvC scope (cellsFrom (s3.heap.objs.size+1) scope.names []++clos X.env.cells scope.names []) s3.heap.objs.size X.env)) (RR (.ref s.heap.objs.size) s3.heap.objs.size) {s3 with heap:=h'}:=by
  refine qB4 (zsk (X:=cxComp X scope N' own (cellsFrom (s3.heap.objs.size+1) scope.names []++clos X.env.cells scope.names []) s3.heap.objs.size s3 (upd H s.heap.objs.size (.lst [])) fp) (pins:=[]) rfl hc (eq _ _ _) T hg ht hm I4 st4 hf4 (h _ hn0)) fun r s5 hr=>?_
  obtain ⟨rfl,σ5,H5,I5,q5⟩:=hr
  obtain ⟨m,hn,_⟩:=id I5.loc
  have u5:Un (frs X.stack) fp (upd H s.heap.objs.size (.lst [])) H5 s3.heap s5.heap:=I5.base
  have hok5:HOk X.prog X.w H5 s5.heap:=I5.hok
  have os5:s5.os=s3.os:=I5.os
  have bare5:=I5.bare
  have free5:H5 s3.heap.objs.size=none:=I5.free
  have hn:s5.heap.Ns s3.heap.objs.size m:=hn
  clear I5
  obtain ⟨hh,gg,dd,tk,os'⟩:=s5
  obtain rfl:os'=s3.os:=os5
  have I6:Inv X pins σ H5 {s3 with heap:=hh,gens:=gg,drawn:=dd,toks:=tk}:=I3.call (ch:=fp) u5 hok5 bare5 fun b hb=>⟨(hf3 b hb).2.2.2.1,(hf3 b hb).2.1,(hf3 b hb).2.2.2.2.1,(hf3 b hb).2.2.2.2.2⟩
  exact hRR _ _ m H5 _ I6 hn (I3.fpOk (qM _) free5) q5
 exact codeAny_compStart_list loop (T.self _ 0 _ _ _ st4 loop)
noncomputable def zama (wi:TI) (g:TG) (tt:TT) (tm:Addr→TM) (own:List Str) (fr:List Nat):TE:=fun σ H Q=>wi σ H fun J H1=>∀ p,H1 p=none→zalz J g tt (tm p) (tau own fr σ) (upd H1 p (.lst [])) (fun _ H'=>Q (.ref p) H')
theorem zadu {elt0 target iter:Expr} {ifs:List Expr} {rest:List Comprehension} {cpos:Pos} {wi:TI} {g:TG} {tt:TT} {tm:Addr→TM} {emit:Value→Env→Sem Unit} (c:CompOk X scope N' own fr) (hc:X.calm=true)
  (eq:∀ it acc env,compTurn (.ListComp elt0 (⟨target,iter,ifs,0⟩::rest) scope cpos) 0 it acc env=(do
   standAt iter.pos
   match ← pyNext it with
   | none=>pure (.done .next)
   | some v =>
    letOwnedTupleGo target it v
    assign target env v
    let mut ok:=true
    for c in ifs do
     if ok then ok ← isTrue c env (eval c env)
    if ok then emit acc env
    again (.compLoop (.ListComp elt0 (⟨target,iter,ifs,0⟩::rest) scope cpos) 0 it acc env)))
  (hi:PI X target iter wi)
  (hb:∀ (cl:List (Str×Addr)) (C:Addr) (s:Shared) (H:Hp) (fp:List Addr) (p:Addr),PG (cxComp X scope N' own cl C s H fp) target g∧PF (cxComp X scope N' own cl C s H fp) ifs tt∧PM (cxComp X scope N' own cl C s H fp) (emit (.ref p) (compEnvC scope cl C X.env)) (tm p))
  (hs:∀ x,foldedSetIterable iter X.env x=pure x:=by intro _;rfl) :
  PE X (.ListComp elt0 (⟨target,iter,ifs,0⟩::rest) scope cpos) (zama wi g tt tm own fr):=by
 intro pins s σ H Q I h
 rw [eval_ListComp]
 refine qC3 (use:=none) rfl hs (zos (zpu c I.ok)) c.kind (fun y hy e=>(c.names y hy).trans (by rw [e])) ?_
 refine thn (hi pins s σ H _ I h) fun v s1 h1=>thn h1 fun itv s2 h2=>?_
 obtain ⟨it,fp,tn,J,H2,e,I2,T,st2,f2,q⟩:=h2
 subst e
 refine zvf (Q:=Q) c hc eq T hb I2 st2 f2 q fun p C m H' s' I' hn hC q'=>?_
 exact ⟨m,hn,fun h' sb=>⟨.ref p,H',I'.turned (t':=s'.toks) (fun b o hb e=>(sb.2 b hb).trans e) hC.1 hC.2.1 hC.2.2.2.1 hC.2.2.2.2.1 hC.2.2.2.2.2,rfl,q'⟩⟩
noncomputable def zath (wi:TI) (g:TG) (tt:TT) (tm:Addr→TM) (own:List Str) (fr:List Nat) (i:Nat):TS:=fun D σ H=>zama wi g tt tm own fr σ H fun v H'=>D.nx (σ.set i (some v)) H'
theorem zamb {elt0 target iter:Expr} {ifs:List Expr} {rest:List Comprehension} {cpos spos py:Pos} {wi:TI} {g:TG} {tt:TT} {tm:Addr→TM} {emit:Value→Env→Sem Unit} {i:Nat} {y:Str} (c:CompOk X scope N' own fr) (hc:X.calm=true)
  (eq:∀ it acc env,compTurn (.ListComp elt0 (⟨target,iter,ifs,0⟩::rest) scope cpos) 0 it acc env=(do
   standAt iter.pos
   match ← pyNext it with
   | none=>pure (.done .next)
   | some v =>
    letOwnedTupleGo target it v
    assign target env v
    let mut ok:=true
    for c in ifs do
     if ok then ok ← isTrue c env (eval c env)
    if ok then emit acc env
    again (.compLoop (.ListComp elt0 (⟨target,iter,ifs,0⟩::rest) scope cpos) 0 it acc env)))
  (hi:PI X target iter wi)
  (hb:∀ (cl:List (Str×Addr)) (C:Addr) (s:Shared) (H:Hp) (fp:List Addr) (p:Addr),PG (cxComp X scope N' own cl C s H fp) target g∧PF (cxComp X scope N' own cl C s H fp) ifs tt∧PM (cxComp X scope N' own cl C s H fp) (emit (.ref p) (compEnvC scope cl C X.env)) (tm p))
  (hsw:swapsWith (.ListComp elt0 (⟨target,iter,ifs,0⟩::rest) scope cpos) (some (.Name y py)) spos.line X.env=pure true)
  (hN:X.N.Nodup) (hy:X.N[i]?=some y) (hl:X.env.scope.names.lookup y=some .local)
  (hs:∀ x,foldedSetIterable iter X.env x=pure x:=by intro _;rfl) :
  PS X (.Assign [.Name y py] (.ListComp elt0 (⟨target,iter,ifs,0⟩::rest) scope cpos) spos) (zath wi g tt tm own fr i):=by
 intro pins s σ H D I h
 rw [exec_Assign_Name_used _ _ _ _ hsw]
 refine qD (qBY (qD ?_))
 show wpAny _ X.A (do let _ ← comprehension (.ListComp elt0 (⟨target,iter,ifs,0⟩::rest) scope cpos) scope X.env _ (newList []) false (eval iter X.env) (some (assign (.Name y py) X.env))) _ _ s
 refine qD (thn (qC3 (use:=some (assign (.Name y py) X.env)) (Q:=fun _ s'=>SP X pins D .next s') rfl hs (zos (zpu c I.ok)) c.kind (fun y hy e=>(c.names y hy).trans (by rw [e])) ?_) fun _ s' q=>qQ (qQ q))
 refine thn (hi pins s σ H _ I h) fun v s1 h1=>thn h1 fun itv s2 h2=>?_
 obtain ⟨it,fp,tn,J,H2,e,I2,T,st2,f2,q⟩:=h2
 subst e
 refine zvf (Q:=fun v H'=>D.nx (σ.set i (some v)) H') c hc eq T hb I2 st2 f2 q fun p C m H' s' I' hn hC q'=>?_
 show wpAny _ X.A (assign (.Name y py) X.env (.ref p)) _ _ _
 refine wpAny_assign_Name (zyc I' hN hy (.inl hl) (v:=.ref p) rfl (fun s'' I'' ⟨a,sb,ha⟩=>?_) (.inr hl))
 have hCa:C≠a:=by
  rcases ha with rfl|ha
  ·exact hC.2.1
  ·exact qAx (hC.2.2.2.2.1 y a ha)
 refine ⟨m,hn.sameBut sb hCa,fun h' sb'=>⟨σ.set i (some (.ref p)),H',I''.turned (t':=s''.toks) (fun b o hb e=>(sb'.2 b hb).trans e) hC.1 hC.2.1 hC.2.2.2.1 hC.2.2.2.2.1 hC.2.2.2.2.2,q'⟩⟩
end
section
variable {X:Cx}
section
variable {scope:Scope} {N' own:List Str} {fr:List Nat} {elt target iter:Expr} {ifs:List Expr} {cpos:Pos} {wi:TI} {g:TG} {tt:TT} {te:TE}
def tComp1 (wi:TI) (g:TG) (tt:TT) (te:TE) (own:List Str) (fr:List Nat):TE:=zama wi g tt (fun p=>zafr p te) own fr
theorem zamc (c:CompOk X scope N' own fr) (hc:X.calm=true) (hi:PI X target iter wi)
  (hb:∀ (cl:List (Str×Addr)) (C:Addr) (s:Shared) (H:Hp) (fp:List Addr),PG (cxComp X scope N' own cl C s H fp) target g∧PF (cxComp X scope N' own cl C s H fp) ifs tt∧PE (cxComp X scope N' own cl C s H fp) elt te)
  (hs:∀ x,foldedSetIterable iter X.env x=pure x:=by intro _;rfl):PE X (.ListComp elt [⟨target,iter,ifs,0⟩] scope cpos) (tComp1 wi g tt te own fr) :=
 zadu (emit:=fun acc env=>do let _ ← call (.builtin "list.append") [acc,← eval elt env]) c hc (fun _ _ _=>rfl) hi
  (fun cl C s H fp p=>⟨(hb cl C s H fp).1,(hb cl C s H fp).2.1,zabv (hb cl C s H fp).2.2⟩) hs
def tAsgC1 (wi:TI) (g:TG) (tt:TT) (te:TE) (own:List Str) (fr:List Nat) (i:Nat):TS:=zath wi g tt (fun p=>zafr p te) own fr i
theorem zamd {spos py:Pos} {i:Nat} {y:Str} (c:CompOk X scope N' own fr) (hc:X.calm=true) (hi:PI X target iter wi)
  (hb:∀ (cl:List (Str×Addr)) (C:Addr) (s:Shared) (H:Hp) (fp:List Addr),PG (cxComp X scope N' own cl C s H fp) target g∧PF (cxComp X scope N' own cl C s H fp) ifs tt∧PE (cxComp X scope N' own cl C s H fp) elt te)
  (hsw:swapsWith (.ListComp elt [⟨target,iter,ifs,0⟩] scope cpos) (some (.Name y py)) spos.line X.env=pure true)
  (hN:X.N.Nodup) (hy:X.N[i]?=some y) (hl:X.env.scope.names.lookup y=some .local)
  (hs:∀ x,foldedSetIterable iter X.env x=pure x:=by intro _;rfl):PS X (.Assign [.Name y py] (.ListComp elt [⟨target,iter,ifs,0⟩] scope cpos) spos) (tAsgC1 wi g tt te own fr i) :=
 zamb (emit:=fun acc env=>do let _ ← call (.builtin "list.append") [acc,← eval elt env]) c hc (fun _ _ _=>rfl) hi
  (fun cl C s H fp p=>⟨(hb cl C s H fp).1,(hb cl C s H fp).2.1,zabv (hb cl C s H fp).2.2⟩) hsw hN hy hl hs
end
def zauy:R2:=fun x y H Q=>∃ z n,x=.str z∧y=.int n∧z.length≤1000∧-1000≤n∧n≤1000∧Q (.str (Txt.mul z n)) H
theorem zaqj:OpR X (binaryOp .Mult) zauy:=by
 intro pins s σ H x y v u Q I rx ry h
 obtain ⟨z,n,rfl,rfl,h1,h2,h3,q⟩:=h
 obtain ⟨t,rfl⟩:=rx
 obtain ⟨t',rfl⟩:=ry
 exact SB.mul (mulOk_of 1000 1000 h1 (by omega) (by omega) (by decide) (by decide)) fun t' k=>⟨.str (Txt.mul z n),H,I.tok _,⟨_,rfl⟩,q⟩
def rSlS:V→Option Int→Option Int→Hp→VK→Prop:=fun x lo hi H Q=>∃ z,x=.str z∧z.length≤qk∧Q (.str (Txt.slice z lo hi)) H
theorem zati:SlR X rSlS:=by
 intro pins s σ H x v vl vu lo hi sl Q I rx hs pl pu h
 obtain ⟨z,rfl,hz,q⟩:=h
 obtain ⟨t,rfl⟩:=rx
 refine ⟨"str",_,F.slot_str_getitem.lookup,qBr _ _ _,?_⟩
 have fin:∀ t' k,EP X pins σ Q (.str (Txt.slice z lo hi) t') {s with toks:=k}:=fun t' k=>⟨.str (Txt.slice z lo hi),H,I.tok _,⟨_,rfl⟩,q⟩
 have fz:(Txt.slice z lo hi).length≤qk:=qAX (Txt.slice_le z _ _) hz
 cases pl with
 | none=>cases pu with
  | none=>exact qBQ (l:=none) (u:=none) (st:=none) hs rfl (qB3 ⟨fz,fin⟩)
  | int j tj=>exact qBQ (l:=none) (u:=some (j,tj)) (st:=none) hs rfl (qB3 ⟨fz,fin⟩)
 | int i ti=>cases pu with
  | none=>exact qBQ (l:=some (i,ti)) (u:=none) (st:=none) hs rfl (qB3 ⟨fz,fin⟩)
  | int j tj=>exact qBQ (l:=some (i,ti)) (u:=some (j,tj)) (st:=none) hs rfl (qB3 ⟨fz,fin⟩)
noncomputable def zahv:V→List V→Hp→VK→Prop:=fun x vs H Q=>∃ d o kvs more,x=.ref d∧vs=[.ref o]∧d≠o∧H d=some (.dK kvs)∧H o=some (.dK more)∧kvs.length+more.length≤qk∧Q .non (upd H d (.dK (zoq kvs more)))
theorem zys:MtM X "dict.update" zahv:=by
 intro pins s σ H x vs v us Q I rx rv h
 obtain ⟨d,o,kvs,more,rfl,rfl,hne,hd,ho,hz,q⟩:=h
 cases rx
 obtain ⟨u,rfl,ru⟩:=rv.one
 cases ru
 obtain ⟨z1,s1,vs1,rel1,dd1⟩:=zalu I.hok hd
 obtain ⟨z2,s2,vs2,rel2,dd2⟩:=zalu I.hok ho
 refine call_meetsIn F.slot_dict_update dd1.typeIs F.entry_dict_update (F.args_dict_update_2 _ _) (meets_dict_update (zfx X.prog X.w) d o hne s2) ⟨vs1,vs2,dd1,dd2,?_,fun h' h1 h2 sb=>?_⟩
 ·rw [← rel1.length,← rel2.length];exact hz
 ·have he:∃ q,h'.get? d=some q:=by obtain ⟨ob,_,_,e,_⟩:=h1;exact ⟨ob,e⟩
  refine ⟨.non,_,zwj (t':=s.toks) I (by rw [hd];trivial) sb he (zahp (qAX (zla more kvs) hz) s1 (rel2.merge rel1) h1),rfl,q⟩
theorem zame {id:String} (hid:id = "isinstance"):CallR X (.builtin id) (fun xs H Q=>∃ x n t b,xs=[x,.ty n]∧TyOf X.K H x t∧PySem.W.kitOne X.K t (.type n)=some b∧Q (.bl b) H):=by
 subst hid
 intro pins s σ H xs us Q I r h
 obtain ⟨x,n,t,b,rfl,ty,e,q⟩:=h
 obtain ⟨u,w',rfl,rx,ry⟩:=zapv r
 cases ry
 exact zahd I rx ty e fun tk=>⟨.bl b,H,I.tok _,rfl,q⟩
end
section
variable {X:Cx}
end
mutual
def Rep (K:qB) (H:Hp):PyData→V→Prop
 | .none,v=>v=.non
 | .bool b,v=>v=.bl b
 | .int i,v=>v=.int i
 | .str x,v=>v=.str x
 | .list ds,v=>∃ a xs,v=.ref a∧SqL K H a xs∧Reps K H ds xs
 | .tuple ds,v=>∃ a xs,v=.ref a∧SqT K H a xs∧Reps K H ds xs
 | .dict _,_=>False
def Reps (K:qB) (H:Hp):List PyData→List V→Prop
 | [],xs=>xs=[]
 | d::ds,xs=>∃ v vs,xs=v::vs∧Rep K H d v∧Reps K H ds vs
end
mutual
theorem zhc {X:Cx} {pins:List (Addr×Obj)} {σ:St} {H:Hp} {s:Shared} (I:Inv X pins σ H s):∀ (d:PyData) {v:V} {u:Value},Rep X.K H d v→RelV v u→∃ as,Reads s.heap u d as
 | .none,v,u,h,r=>by unfold Rep at h;subst h;cases r;exact ⟨_,.none⟩
 | .bool b,v,u,h,r=>by unfold Rep at h;subst h;cases r;exact ⟨_,.bool b⟩
 | .int i,v,u,h,r=>by unfold Rep at h;subst h;obtain ⟨t,rfl⟩:=r;exact ⟨_,.int i t⟩
 | .str x,v,u,h,r=>by unfold Rep at h;subst h;obtain ⟨t,rfl⟩:=r;exact ⟨_,.str x t⟩
 | .list ds,v,u,h,r=>by
  unfold Rep at h
  obtain ⟨a,xs,rfl,hq,hr⟩:=h
  cases r
  obtain ⟨its,rv,p,hz⟩:=I.list hq
  obtain ⟨as,q⟩:=zpv I ds hr rv
  obtain ⟨o,h1,h2,n,h3⟩:=p.isList
  exact ⟨_,reads_list_at h1 h2 h3 (by simpa using q)⟩
 | .tuple ds,v,u,h,r=>by
  unfold Rep at h
  obtain ⟨a,xs,rfl,hq,hr⟩:=h
  cases r
  obtain ⟨its,rv,p,hz⟩:=I.tuple hq
  obtain ⟨as,q⟩:=zpv I ds hr rv
  obtain ⟨o,h1,h2,n,h3⟩:=p
  exact ⟨_,reads_tuple_at h1 h2 h3 (by simpa using q)⟩
 | .dict _,_,_,h,_=>by unfold Rep at h;exact h.elim
theorem zpv {X:Cx} {pins:List (Addr×Obj)} {σ:St} {H:Hp} {s:Shared} (I:Inv X pins σ H s):∀ (ds:List PyData) {vs:List V} {us:List Value},Reps X.K H ds vs→Vals vs us→∃ as,ReadsAll s.heap us ds as
 | [],vs,us,h,r=>by unfold Reps at h;subst h;cases r;exact ⟨_,.nil⟩
 | d::ds,vs,us,h,r=>by
  unfold Reps at h
  obtain ⟨v,vs',rfl,h1,h2⟩:=h
  cases r with
  | cons r rr =>
   obtain ⟨as,q1⟩:=zhc I d h1 r
   obtain ⟨bs,q2⟩:=zpv I ds h2 rr
   exact ⟨_,.cons q1 q2⟩
end
theorem SqT.same {K:qB} {H H':Hp} {a:Addr} {xs:List V} (h:Same H H') (q:SqT K H a xs):SqT K H' a xs:=by
 rcases q with (q|⟨o,q⟩)|q
 ·exact .inl (.inl (h _ _ q))
 ·exact .inl (.inr ⟨o,h _ _ q⟩)
 ·exact .inr q
section
variable {X:Cx}
noncomputable def rEqD (K:qB) (neg:Bool):R2:=fun x y H Q=>∃ d e,Rep K H d x∧Rep K H e y∧qI d=true∧qI e=true∧Q (.bl (if neg then !PyData.eqv d e else qH d e)) H
theorem zatj (hu:X.A.units+64<cLine):OpR X (compareOp .Eq) (rEqD X.K false):=by
 intro pins s σ H x y v u Q I rx ry h
 obtain ⟨d,e,hd,he,sd,se,q⟩:=h
 obtain ⟨as,r1⟩:=zhc I d hd rx
 obtain ⟨bs,r2⟩:=zhc I e he ry
 exact eq_dataH r1 r2 sd se hu ⟨.bl (qH d e),H,I,rfl,q⟩
theorem zatk (hu:X.A.units+64<cLine):OpR X (compareOp .NotEq) (rEqD X.K true):=by
 intro pins s σ H x y v u Q I rx ry h
 obtain ⟨d,e,hd,he,sd,se,q⟩:=h
 obtain ⟨as,r1⟩:=zhc I d hd rx
 obtain ⟨bs,r2⟩:=zhc I e he ry
 exact ne_dataH r1 r2 sd se hu ⟨.bl (!PyData.eqv d e),H,I,rfl,q⟩
theorem zahw {bs:List Bool}:∀ {its:List Value},Vals (bs.map V.bl) its→its=bs.map Value.bool:=by
 induction bs with
 | nil=>intro its r;cases r;rfl
 | cons b bs ih =>
  intro its r
  cases r with
  | cons r rr=>cases r;rw [ih rr];rfl
theorem zahx (bs:List Bool):(List.range bs.length).any (fun i=>bs.getD i false)=bs.any id:=by
 rw [qAC,qAN,qAN]
 constructor
 ·rintro ⟨i,hi,h⟩
  have hi:=qAb.mp hi
  rw [qAF,qE hi] at h
  exact ⟨_,qy hi,h⟩
 ·rintro ⟨b,hb,h⟩
  obtain ⟨i,hi,e⟩:=qBW hb
  exact ⟨i,qAb.mpr hi,by rw [qAF,qE hi,e];exact h⟩
theorem zahy (bs:List Bool):(List.range bs.length).all (fun i=>bs.getD i false)=bs.all id:=by
 rw [qAC,qAO,qAO]
 constructor
 ·intro h b hb
  obtain ⟨i,hi,e⟩:=qBW hb
  have q:=h i (qAb.mpr hi)
  rw [qAF,qE hi,e] at q
  exact q
 ·intro h i hi
  have hi:=qAb.mp hi
  have q:=h _ (qy hi)
  rw [qAF,qE hi]
  exact q
def rAny (K:qB) (f:List Bool→Bool):List V→Hp→VK→Prop:=fun xs H Q=>∃ p bs,xs=[.ref p]∧SqL K H p (bs.map V.bl)∧Q (.bl (f bs)) H
theorem zamf (hc:X.calm=true):CallR X (.builtin "any") (rAny X.K fun bs=>bs.any id):=by
 intro pins s σ H xs us Q I r h
 obtain ⟨p,bs,rfl,hq,q⟩:=h
 obtain ⟨u,rfl,ru⟩:=zafk r
 cases ru
 obtain ⟨its,rv,pl,hz⟩:=I.list hq
 cases zahw rv
 have hne:p≠s.heap.objs.size:=by obtain ⟨o,e,_⟩:=pl.isList;exact q9 (qW e)
 refine call_any_walk (qAv pl.isList ⟨s.heap.objs.size,_,_,_,_,_,fun i=>bs.getD i false,rfl,Walks.list (A:=X.A.in1) (show X.A.in1.handled=none from I.ok.hd hc) _ p hne (bs.map Value.bool).toArray,⟨⟨_,qq _ rfl,rfl,rfl⟩,?_⟩,?_,?_⟩)
 ·obtain ⟨o,e,z⟩:=pl.isList
  exact ⟨o,qG _ e,z⟩
 ·intro i v s' Q' E' hv hQ
  have hv:(bs.map Value.bool)[i]?=some v:=by simpa using hv
  rw [qL] at hv
  cases e:bs[i]? with
  | none=>rw [e] at hv;cases hv
  | some b =>
   rw [e] at hv
   cases hv
   have z:bs.getD i false=b:=by rw [qAF,e];rfl
   have hQ:Q' (bs.getD i false) s':=hQ
   rw [z] at hQ
   exact qAu hQ
 ·intro h' tk hk
  refine ⟨.bl (bs.any id),H,?_,by rw [← zahx bs];simp;rfl,q⟩
  exact I.kept (t':=tk) fun b o e=>hk b o (by have:=qW e;simp;exact q9 this) (qG _ e)
theorem zamg (hc:X.calm=true):CallR X (.builtin "all") (rAny X.K fun bs=>bs.all id):=by
 intro pins s σ H xs us Q I r h
 obtain ⟨p,bs,rfl,hq,q⟩:=h
 obtain ⟨u,rfl,ru⟩:=zafk r
 cases ru
 obtain ⟨its,rv,pl,hz⟩:=I.list hq
 cases zahw rv
 have hne:p≠s.heap.objs.size:=by obtain ⟨o,e,_⟩:=pl.isList;exact q9 (qW e)
 refine call_all_walk (qAv pl.isList ⟨s.heap.objs.size,_,_,_,_,_,fun i=>bs.getD i false,rfl,Walks.list (A:=X.A.in1) (show X.A.in1.handled=none from I.ok.hd hc) _ p hne (bs.map Value.bool).toArray,⟨⟨_,qq _ rfl,rfl,rfl⟩,?_⟩,?_,?_⟩)
 ·obtain ⟨o,e,z⟩:=pl.isList
  exact ⟨o,qG _ e,z⟩
 ·intro i v s' Q' E' hv hQ
  have hv:(bs.map Value.bool)[i]?=some v:=by simpa using hv
  rw [qL] at hv
  cases e:bs[i]? with
  | none=>rw [e] at hv;cases hv
  | some b =>
   rw [e] at hv
   cases hv
   have z:bs.getD i false=b:=by rw [qAF,e];rfl
   have hQ:Q' (bs.getD i false) s':=hQ
   rw [z] at hQ
   exact qAu hQ
 ·intro h' tk hk
  refine ⟨.bl (bs.all id),H,?_,by rw [← zahy bs];simp;rfl,q⟩
  exact I.kept (t':=tk) fun b o e=>hk b o (by have:=qW e;simp;exact q9 this) (qG _ e)
end
def zahz (o:Option NameKind):Bool:=o==some .cell||o==some .free
noncomputable def zaia (sc:Scope) (N:List Str) (scope:Scope) (N' own:List Str) (fr:List Nat):Bool :=
 (scope.kind==.function)&&(scope.names.all fun y=>scope.names.lookup y.1==some y.2)&&(scope.names.all fun y=>!(y.2==.free)||zahz (sc.names.lookup y.1)) &&
 (N'==own++fr.map fun j=>N.getD j Str.empty)&&(fr.all fun j=>decide (j<N.length)&&(scope.names.lookup (N.getD j Str.empty)==some .free)) &&
 (own.all fun x=>scope.names.lookup x==some .local||scope.names.lookup x==some .cell)
section
variable {X:Cx}
theorem zcc {scope:Scope} {N' own:List Str} {fr:List Nat} (h:zaia X.env.scope X.N scope N' own fr=true):CompOk X scope N' own fr:=by
 unfold zaia at h
 simp only [qY] at h
 obtain ⟨⟨⟨⟨⟨h1,h2⟩,h3⟩,h4⟩,h5⟩,h6⟩:=h
 refine ⟨eq_of_beq h1,fun y hy=>eq_of_beq (qAO.mp h2 y hy),fun y hy e=>?_,eq_of_beq h4,fun j hj=>?_,fun x hx=>?_⟩
 ·have q:=qAO.mp h3 y hy
  rw [e] at q
  have q:zahz (X.env.scope.names.lookup y.1)=true:=by simpa using q
  unfold zahz at q
  rcases qB2.mp q with z|z
  ·exact .inl (eq_of_beq z)
  ·exact .inr (eq_of_beq z)
 ·have q:=qAO.mp h5 j hj
  rw [qY] at q
  exact ⟨of_decide_eq_true q.1,eq_of_beq q.2⟩
 ·have q:=qAO.mp h6 x hx
  rcases qB2.mp q with z|z
  ·exact .inl (eq_of_beq z)
  ·exact .inr (eq_of_beq z)
noncomputable def zaqk (K:qB):R2:=fun x y H Q=>match x,y with
 | .int i,.int j=>Q (.int (i+j)) H
 | .str a,.str b=>a.length+b.length≤qk∧Q (.str (a++b)) H
 | .ref _,.ref _=>rCat x y H Q∨zasv K x y H Q
 | _,_=>False
theorem zaql:OpR X (binaryOp .Add) (zaqk X.K):=by
 intro pins s σ H x y v u Q I rx ry h
 cases x<;>cases y<;>first
  | exact h.elim
  | exact zasm pins s σ H _ _ v u Q I rx ry ⟨_,_,rfl,rfl,h⟩
  | exact zafj pins s σ H _ _ v u Q I rx ry ⟨_,_,rfl,rfl,h.1,h.2⟩
  | exact (zatc.or zapy) pins s σ H _ _ v u Q I rx ry h
noncomputable def zatl:R2:=fun x y H Q=>match x,y with
 | .int i,.int j=>CMul i j∧Q (.int (i * j)) H
 | .str z,.int n=>z.length≤1000∧-1000≤n∧n≤1000∧Q (.str (Txt.mul z n)) H
 | _,_=>False
theorem zkj:OpR X (binaryOp .Mult) zatl:=by
 intro pins s σ H x y v u Q I rx ry h
 cases x<;>cases y<;>first
  | exact h.elim
  | exact zasn pins s σ H _ _ v u Q I rx ry ⟨_,_,rfl,rfl,h.1,h.2⟩
  | exact zaqj pins s σ H _ _ v u Q I rx ry ⟨_,_,rfl,rfl,h.1,h.2.1,h.2.2.1,h.2.2.2⟩
noncomputable def rIxU (K:qB):R2:=fun x y H Q=>match x,y with
 | .str z,.int i=>z.length≤qk∧∃ c,atI z.cps.toList i=some c∧Q (.str ⟨#[c]⟩) H
 | .ref p,.int i=>∃ xs v,(SqL K H p xs∨SqT K H p xs)∧atI xs i=some v∧Q v H
 | _,_=>False
theorem ix_U:IxR X (rIxU X.K):=by
 intro value slice pins s σ H x y v u Q I rx ry h hs
 cases x<;>cases y<;>first
  | exact h.elim
  | (obtain ⟨h1,c,h2,h3⟩:=h;exact zasy value slice pins s σ H _ _ v u Q I rx ry ⟨_,_,c,rfl,rfl,h1,h2,h3⟩ hs)
  | (obtain ⟨xs,w,h1,h2,h3⟩:=h
     rcases h1 with h1|h1
     ·exact zapz value slice pins s σ H _ _ v u Q I rx ry ⟨_,xs,_,w,rfl,rfl,h1,h2,h3⟩ hs
     ·exact zasx value slice pins s σ H _ _ v u Q I rx ry ⟨_,xs,_,w,rfl,rfl,h1,h2,h3⟩ hs)
noncomputable def rSlU (K:qB):V→Option Int→Option Int→Hp→VK→Prop:=fun x lo hi H Q=>match x with
 | .str z=>z.length≤qk∧Q (.str (Txt.slice z lo hi)) H
 | .ref _=>rSlL K x lo hi H Q
 | _=>False
theorem sl_U:SlR X (rSlU X.K):=by
 intro pins s σ H x v vl vu lo hi sl Q I rx hs pl pu h
 cases x<;>first
  | exact h.elim
  | exact zati pins s σ H _ v vl vu lo hi sl Q I rx hs pl pu ⟨_,rfl,h.1,h.2⟩
  | exact zaqb pins s σ H _ v vl vu lo hi sl Q I rx hs pl pu h
noncomputable def Dn (P:Program) (w:World) (K:qB) (mg:Str→Option Value) (base:Heap) (x:Str) (ps:List Str) (k:Nat) (sp:Sp):Prop :=
 ∃ f fd,FnOk P w K mg base CX0 k f fd ps sp∧mg x=some (.ref f)∧qT K (.ref f)=true∧zafl K fd ps []
theorem zauz {x:Str} {p pos:Pos} {e:Expr} {es:List Expr} {t:TA} {ps:List Str} {k:Nat} {sp:Sp} (D:Dn X.prog X.w X.K X.mg X.base x ps k sp) (hr:Room k X.A) (hg:Gl X x) (ha:PA X (e::es) t)
  (hdb:(x==("__debug__":Str))=false:=by decide) (he:starEach (e::es) X.env=(false,eval e X.env)::starEach es X.env:=by rfl) (hpl:(backTo pos (starEach es X.env)).any (·.1)=false:=by rfl) :
  PE X (.Call (.Name x p) (e::es) [] pos) (tCall sp [] E0 t):=by
 obtain ⟨f,fd,F,hm,hk,hb⟩:=D
 exact zapx F hr hg hm hk hb .nil zaux ha hdb he hpl
end
theorem Same.upd {H H':Hp} {p:Addr} {o:HO} (h:Same H H') (hp:H p=none):Same H (upd H' p o):=fun b u e=>by rw [zcp (zcr e hp)];exact h b u e
theorem Same.new {H:Hp} {p:Addr} {o:HO} (hp:H p=none):Same H (L2.upd H p o):=(Same.refl H).upd hp
end L2
namespace Bc
open PySem L2
abbrev Web:=List (Str×List Str)
def nm (W:Web):List Str:=W.map (·.1)
structure WebOk (W:Web):Prop where
 nd:(nm W).Nodup
 el:∀ i n es,W[i]?=some (n,es)→∀ e∈es,e∈nm (W.take i)
 few:∀ p∈W,p.2.length≤4
 len:W.length≤12
theorem zma {α:Type} [DecidableEq α]:∀ (l m:List α),l.Nodup→(∀ x∈l,x∈m)→l.length≤m.length
 | [],_,_,_=>qAf _
 | a::l,m,h,s=>by
  obtain ⟨h1,h2⟩:=qA3.mp h
  have ha:=s a qX
  have q:=zma l (m.erase a) h2 fun x hx=>(List.mem_erase_of_ne (fun (z:x=a)=>h1 (by rw [← z];exact hx))).mpr (s x (qJ _ hx))
  rw [List.length_erase_of_mem ha] at q
  have:=qCo ha
  rw [qAI]
  omega
section
variable {κ:Type} [DecidableEq κ]
end
theorem zsl {W:Web} (h:WebOk W):(nm W).length≤12:=by unfold nm;rw [qC];exact h.len
end Bc
namespace L2
open PySem PySem.Spec PyProof.Rows
section
variable {X:Cx} {K:qB} (hK:X.K=K)
include hK
theorem zaqm {es:List Expr} {k:Nat} {t:TGs} {n:Nat} {pos:Pos} (hc:X.calm=true) (h:PGs X es t)
  (hn:(assignEach es X.env).length=n:=by rfl) (hst:(assignEach es X.env).findIdx? (·.1)=none:=by rfl):PG X (.Tuple es k pos) (gTup K n t):=by subst hK;exact zasj hc h hn hst
theorem zcf:IxR X (rIxU K):=by subst hK;exact ix_U
theorem zlw:SlR X (rSlU K):=by subst hK;exact sl_U
theorem zci:OpR X (binaryOp .Add) (zaqk K):=by subst hK;exact zaql
theorem zaon:OpR X (compareOp .In) (rIn K false):=by subst hK;exact zahl
theorem zsm:OpR X (compareOp .NotIn) (rIn K true):=by subst hK;exact zym
theorem zbo:CallR X (.builtin "len") (fun xs H Q=>∃ x n,xs=[x]∧LenV K x H n∧Q (.int n) H):=by subst hK;exact zalp
theorem zmb (hc:X.calm=true):CallR X (.builtin "any") (rAny K fun bs=>bs.any id):=by subst hK;exact zamf hc
theorem zsn (hc:X.calm=true):CallR X (.builtin "all") (rAny K fun bs=>bs.all id):=by subst hK;exact zamg hc
theorem zfn:CallR X (.builtin "isinstance") (fun xs H Q=>∃ x n t b,xs=[x,.ty n]∧TyOf K H x t∧PySem.W.kitOne K t (.type n)=some b∧Q (.bl b) H):=by subst hK;exact zame rfl
theorem zjb:CallR X (.type "list") (fun xs H Q=>∃ p ys,xs=[.ref p]∧(SqL K H p ys∨SqT K H p ys)∧∀ l,H l=none→Q (.ref l) (upd H l (.lst ys))):=by subst hK;exact zyn
theorem zamh {tg l:Expr} {tl:TE} (hl:PE X l tl):PI X tg l (zasl K tl):=by subst hK;exact zapt hl
theorem zaib {T:String} {name:Str} {id:String} {r:V→List V→Hp→VK→Prop} {o e:Expr} {es:List Expr} {to:TE} {t:TA} {apos cpos:Pos} (pa:PlainAttrs T) (slot:Slot T name id) (hty:typeOf (.builtin id)=pure (.type "method_descriptor")) (hm:MtR X id r) (ho:PE X o to) (ha:PA X (e::es) t)
  (hbase:attributeBase o name X.env (eval o X.env)=eval o X.env:=by rfl)
  (hfew:((backTo cpos (starEach (e::es) X.env)).all (fun x=>!x.1)&&(backToKw cpos (keywordEach [] X.env)).all (fun x=>x.1.isSome)
   && decide ((e::es).length+([]:List Keyword).length+(if ([]:List Keyword).isEmpty then 0 else 1)<30))=true:=by rfl)
  (hline:(apos.endLine==cpos.line)=true:=by rfl) (hs:starEach (e::es) X.env=(false,eval e X.env)::starEach es X.env:=by rfl) (hplain:(backTo cpos (starEach es X.env)).any (·.1)=false:=by rfl) :
  PE X (.Call (.Attribute o name apos) (e::es) [] cpos) (tBM K T r to t):=by subst hK;exact zauv pa slot hty hm ho ha hbase hfew hline hs hplain
end
def keyD:PyData→Option Key
 | .int i=>some (Sum.inl i)
 | .str s=>some (Sum.inr s)
 | _=>none
mutual
def Rp (H:Hp):PyData→V→Prop
 | .none,v=>v=.non
 | .bool b,v=>v=.bl b
 | .int i,v=>v=.int i
 | .str x,v=>v=.str x
 | .list ds,v=>∃ a xs,v=.ref a∧H a=some (.lst xs)∧Rps H ds xs
 | .tuple ds,v=>∃ a xs,v=.ref a∧H a=some (.tup xs)∧Rps H ds xs
 | .dict kvs,v=>∃ a ps,v=.ref a∧H a=some (.dK ps)∧Rpd H kvs ps
def Rps (H:Hp):List PyData→List V→Prop
 | [],xs=>xs=[]
 | d::ds,xs=>∃ v vs,xs=v::vs∧Rp H d v∧Rps H ds vs
def Rpd (H:Hp):List (PyData×PyData)→List (Key×V)→Prop
 | [],ps=>ps=[]
 | (k,d)::r,ps=>∃ k' v vs,ps=(k',v)::vs∧keyD k=some k'∧Rp H d v∧Rpd H r vs
end
mutual
theorem Rp.same {H H':Hp} (h:Same H H'):∀ (d:PyData) {v:V},Rp H d v→Rp H' d v
 | .none,v,q=>by unfold Rp at q ⊢;exact q
 | .bool b,v,q=>by unfold Rp at q ⊢;exact q
 | .int i,v,q=>by unfold Rp at q ⊢;exact q
 | .str x,v,q=>by unfold Rp at q ⊢;exact q
 | .list ds,v,q=>by
  unfold Rp at q ⊢
  obtain ⟨a,xs,e,hq,hr⟩:=q
  exact ⟨a,xs,e,h _ _ hq,Rps.same h ds hr⟩
 | .tuple ds,v,q=>by
  unfold Rp at q ⊢
  obtain ⟨a,xs,e,hq,hr⟩:=q
  exact ⟨a,xs,e,h _ _ hq,Rps.same h ds hr⟩
 | .dict kvs,v,q=>by
  unfold Rp at q ⊢
  obtain ⟨a,xs,e,hq,hr⟩:=q
  exact ⟨a,xs,e,h _ _ hq,Rpd.same h kvs hr⟩
theorem Rps.same {H H':Hp} (h:Same H H'):∀ (ds:List PyData) {vs:List V},Rps H ds vs→Rps H' ds vs
 | [],vs,q=>by unfold Rps at q ⊢;exact q
 | d::ds,vs,q=>by
  unfold Rps at q ⊢
  obtain ⟨v,vs',e,h1,h2⟩:=q
  exact ⟨v,vs',e,Rp.same h d h1,Rps.same h ds h2⟩
theorem Rpd.same {H H':Hp} (h:Same H H'):∀ (ds:List (PyData×PyData)) {vs:List (Key×V)},Rpd H ds vs→Rpd H' ds vs
 | [],vs,q=>by unfold Rpd at q ⊢;exact q
 | (k,d)::ds,vs,q=>by
  unfold Rpd at q ⊢
  obtain ⟨k',v,vs',e,h0,h1,h2⟩:=q
  exact ⟨k',v,vs',e,h0,Rp.same h d h1,Rpd.same h ds h2⟩
end
theorem zex {H:Hp}:∀ {ds:List PyData} {xs:List V},Rps H ds xs↔Paired (Rp H) ds xs
 | [],xs=>by
  constructor
  ·intro h;unfold Rps at h;subst h;exact .nil
  ·intro h;cases h;unfold Rps;rfl
 | d::ds,xs=>by
  constructor
  ·intro h
   unfold Rps at h
   obtain ⟨v,vs,rfl,h1,h2⟩:=h
   exact .cons h1 (zex.mp h2)
  ·intro h
   cases h with
   | cons h1 h2=>unfold Rps;exact ⟨_,_,rfl,h1,zex.mpr h2⟩
theorem Rps.length {H:Hp} {ds:List PyData} {xs:List V} (h:Rps H ds xs):ds.length=xs.length:=(zex.mp h).length
theorem zfz {H:Hp} {ds:List PyData} {v:V} (h:Rp H (.list ds) v):∃ a xs,v=.ref a∧H a=some (.lst xs)∧Rps H ds xs:=by unfold Rp at h;exact h
theorem zel {H:Hp} {ds:List PyData} {v:V} (h:Rp H (.tuple ds) v):∃ a xs,v=.ref a∧H a=some (.tup xs)∧Rps H ds xs:=by unfold Rp at h;exact h
theorem zlb {H:Hp} {ds:List (PyData×PyData)} {v:V} (h:Rp H (.dict ds) v):∃ a xs,v=.ref a∧H a=some (.dK xs)∧Rpd H ds xs:=by unfold Rp at h;exact h
theorem zfv {H:Hp} {i:Int} {v:V} (h:Rp H (.int i) v):v=.int i:=by unfold Rp at h;exact h
theorem zkc {H:Hp} {i:Str} {v:V} (h:Rp H (.str i) v):v=.str i:=by unfold Rp at h;exact h
theorem zkk {H:Hp} {i:Bool} {v:V} (h:Rp H (.bool i) v):v=.bl i:=by unfold Rp at h;exact h
theorem zwn {H:Hp} {v:V} (h:Rp H .none v):v=.non:=by unfold Rp at h;exact h
theorem zaf {H:Hp} {i:Int}:Rp H (.int i) (.int i):=by unfold Rp;rfl
theorem zay {H:Hp} {i:Str}:Rp H (.str i) (.str i):=by unfold Rp;rfl
theorem zbf {H:Hp} {i:Bool}:Rp H (.bool i) (.bl i):=by unfold Rp;rfl
theorem znb {H:Hp}:Rp H .none .non:=by unfold Rp;rfl
theorem zkp {H:Hp} {ds:List PyData} {a:Addr} {xs:List V} (h:H a=some (.lst xs)) (r:Rps H ds xs):Rp H (.list ds) (.ref a):=by unfold Rp;exact ⟨a,xs,rfl,h,r⟩
theorem zabw {H:Hp} {ds:List PyData} {a:Addr} {xs:List V} (h:H a=some (.tup xs)) (r:Rps H ds xs):Rp H (.tuple ds) (.ref a):=by unfold Rp;exact ⟨a,xs,rfl,h,r⟩
theorem zpw {H:Hp} {ds:List (PyData×PyData)} {a:Addr} {xs:List (Key×V)} (h:H a=some (.dK xs)) (r:Rpd H ds xs):Rp H (.dict ds) (.ref a):=by unfold Rp;exact ⟨a,xs,rfl,h,r⟩
theorem zey {H:Hp}:Rps H [] []:=by unfold Rps;rfl
theorem zpx {H:Hp}:Rpd H [] []:=by unfold Rpd;rfl
theorem zew {H:Hp} {d:PyData} {ds:List PyData} {v:V} {vs:List V} (h:Rp H d v) (r:Rps H ds vs):Rps H (d::ds) (v::vs):=by
 show Rps H (d::ds) _
 unfold Rps;exact ⟨v,vs,rfl,h,r⟩
theorem Rps.append {H:Hp} {ds es:List PyData} {vs ws:List V} (h:Rps H ds vs) (r:Rps H es ws):Rps H (ds++es) (vs++ws):=by
 replace h:=zex.mp h
 refine zex.mpr ?_
 induction h with
 | nil=>exact zex.mp r
 | cons h _ ih=>exact .cons h ih
theorem Rps.get2 {H:Hp} {ds:List PyData} {vs:List V} (h:Rps H ds vs) {i:Nat} {d:PyData} (e:ds[i]?=some d):∃ v,vs[i]?=some v∧Rp H d v:=by
 replace h:=zex.mp h
 induction h generalizing i with
 | nil=>simp at e
 | cons h _ ih =>
  cases i with
  | zero=>simp at e;subst e;exact ⟨_,rfl,h⟩
  | succ i=>simpa using ih (by simpa using e)
open Classical in
def Offs (A:Addr→Prop) (H:Hp):Hp:=fun b=>if A b then none else H b
theorem Offs.get {A:Addr→Prop} {H:Hp} {b:Addr} (h:¬ A b):Offs A H b=H b:=if_neg h
theorem Offs.out {A:Addr→Prop} {H:Hp} {b:Addr} (h:A b):Offs A H b=none:=if_pos h
theorem Offs.of {A:Addr→Prop} {H:Hp} {b:Addr} {o:HO} (h:Offs A H b=some o):¬ A b∧H b=some o:=by
 by_cases hb:A b
 ·rw [Offs.out hb] at h;cases h
 ·rw [Offs.get hb] at h;exact ⟨hb,h⟩
theorem Offs.mono {A B:Addr→Prop} {H H':Hp} (s:Same H H') (h:∀ b o,H b=some o→¬ A b→¬ B b):Same (Offs A H) (Offs B H'):=fun b o e=>by
 obtain ⟨h1,h2⟩:=Offs.of e
 rw [Offs.get (h b o h2 h1)]
 exact s b o h2
theorem Offs.same (A:Addr→Prop) (H:Hp):Same (Offs A H) H:=fun b o e=>(Offs.of e).2
theorem Offs.sub {A B:Addr→Prop} {H:Hp} (h:∀ b,B b→A b):Same (Offs A H) (Offs B H):=Offs.mono (Same.refl _) fun b _ _ n z=>n (h b z)
theorem Offs.grow {A:Addr→Prop} {H H':Hp} (s:Same H H'):Same (Offs A H) (Offs A H'):=Offs.mono s fun _ _ _ z=>z
theorem Offs.upd {A:Addr→Prop} {H:Hp} {a:Addr} {o:HO} (h:A a):Offs A (upd H a o)=Offs A H:=by
 funext b
 by_cases hb:A b
 ·rw [Offs.out hb,Offs.out hb]
 ·rw [Offs.get hb,Offs.get hb,zcp (fun e=>hb (by rw [e];exact h))]
inductive Sl where
 | no
  | pl (d:PyData)
  | ac (d:PyData)
abbrev DEnv:=List Sl
def own (env:DEnv) (σ:St) (a:Addr):Prop:=∃ (i:Nat) (d:PyData),env[i]?=some (.ac d)∧σ[i]?=some (some (.ref a))
noncomputable def ziv (Ho H:Hp) (a:Addr):PyData→Prop
 | .list ds=>∃ xs,H a=some (.lst xs)∧Rps Ho ds xs
 | .dict kvs=>∃ ps,H a=some (.dK ps)∧Rpd Ho kvs ps
 | _=>False
theorem ziv.rp {Ho H H':Hp} {a:Addr} {d:PyData} (h:ziv Ho H a d) (s:Same Ho H') (e:∀ o,H a=some o→H' a=some o):Rp H' d (.ref a):=by
 cases d with
 | list ds =>
  obtain ⟨xs,h1,h2⟩:=h
  exact zkp (e _ h1) (Rps.same s _ h2)
 | dict ds =>
  obtain ⟨xs,h1,h2⟩:=h
  exact zpw (e _ h1) (Rpd.same s _ h2)
 | _=>exact h.elim
theorem ziv.same {Ho H Ho' H':Hp} {a:Addr} {d:PyData} (h:ziv Ho H a d) (s:Same Ho Ho') (e:∀ o,H a=some o→H' a=some o):ziv Ho' H' a d:=by
 cases d with
 | list ds =>
  obtain ⟨xs,h1,h2⟩:=h
  exact ⟨xs,e _ h1,Rps.same s _ h2⟩
 | dict ds =>
  obtain ⟨xs,h1,h2⟩:=h
  exact ⟨xs,e _ h1,Rpd.same s _ h2⟩
 | _=>exact h.elim
theorem ziv.ex {Ho H:Hp} {a:Addr} {d:PyData} (h:ziv Ho H a d):∃ o,H a=some o:=by
 cases d with
 | list ds=>obtain ⟨xs,h1,h2⟩:=h;exact ⟨_,h1⟩
 | dict ds=>obtain ⟨xs,h1,h2⟩:=h;exact ⟨_,h1⟩
 | _=>exact h.elim
structure EnvOk (fx:Addr→Prop) (H0:Hp) (env:DEnv) (σ:St) (H:Hp):Prop where
 len:env.length=σ.length
 pl:∀ (i:Nat) (d:PyData),env[i]?=some (.pl d)→∃ v,σ[i]?=some (some v)∧Rp (Offs (fun a=>fx a∨own env σ a) H) d v
 ac:∀ (i:Nat) (d:PyData),env[i]?=some (.ac d)→∃ a,σ[i]?=some (some (.ref a))∧H0 a=none∧¬ fx a∧ziv (Offs (fun a=>fx a∨own env σ a) H) H a d
 inj:∀ (i j:Nat) (d e:PyData) (a:Addr),env[i]?=some (.ac d)→env[j]?=some (.ac e)→σ[i]?=some (some (.ref a))→σ[j]?=some (some (.ref a))→i=j
 base:Same H0 H
 fxs:∀ b,fx b→∃ o,H b=some o
theorem EnvOk.grow {fx fx':Addr→Prop} {H0:Hp} {env:DEnv} {σ:St} {H H':Hp} (h:EnvOk fx H0 env σ H) (s:Same H H') (f:∀ b o,H b=some o→¬ fx b→¬ fx' b) (g:∀ b,fx' b→∃ o,H' b=some o):EnvOk fx' H0 env σ H':=by
 have so:Same (Offs (fun a=>fx a∨own env σ a) H) (Offs (fun a=>fx' a∨own env σ a) H'):=Offs.mono s fun b o e n=>fun z=>z.elim (f b o e fun y=>n (.inl y)) fun y=>n (.inr y)
 refine ⟨h.len,fun i d e=>?_,fun i d e=>?_,h.inj,h.base.trans s,g⟩
 ·obtain ⟨v,h1,h2⟩:=h.pl i d e
  exact ⟨v,h1,Rp.same so d h2⟩
 ·obtain ⟨a,h1,h2,h3,h4⟩:=h.ac i d e
  obtain ⟨o,ho⟩:=h4.ex
  exact ⟨a,h1,h2,f a o ho h3,h4.same so fun o=>s a o⟩
theorem EnvOk.up {fx:Addr→Prop} {H0:Hp} {env:DEnv} {σ:St} {H H':Hp} (h:EnvOk fx H0 env σ H) (s:Same H H'):EnvOk fx H0 env σ H' :=
 h.grow s (fun _ _ _ z=>z) fun b z=>let ⟨o,e⟩:=h.fxs b z;⟨o,s b o e⟩
structure Val where
 d:PyData
 fr:Bool
 bs:List Nat
noncomputable def lim (fx:Addr→Prop) (env:DEnv) (σ:St) (bs:List Nat) (a:Addr):Prop:=fx a∨∃ (i:Nat) (d:PyData),i∉bs∧env[i]?=some (.ac d)∧σ[i]?=some (some (.ref a))
structure ValOk (A:Addr→Prop) (H H':Hp) (r:Val) (v:V):Prop where
 rp:Rp (Offs A H') r.d v
 fr:r.fr=true→∃ a,v=.ref a∧H a=none∧ziv (Offs (fun b=>A b∨b=a) H') H' a r.d
theorem zkl {fx:Addr→Prop} {env:DEnv} {σ:St} {bs cs:List Nat} (h:∀ i∈bs,i∈cs):∀ a,lim fx env σ cs a→lim fx env σ bs a:=by
 rintro a (z|⟨i,d,h1,h2,h3⟩)
 ·exact .inl z
 ·exact .inr ⟨i,d,fun q=>h1 (h i q),h2,h3⟩
theorem zpy {fx:Addr→Prop} {env:DEnv} {σ:St} {bs:List Nat}:∀ a,lim fx env σ bs a→fx a∨own env σ a:=by
 rintro a (z|⟨i,d,h1,h2,h3⟩)
 ·exact .inl z
 ·exact .inr ⟨i,d,h2,h3⟩
theorem zaqn {fx:Addr→Prop} {env:DEnv} {σ:St}:∀ a,fx a∨own env σ a→lim fx env σ [] a:=by
 rintro a (z|⟨i,d,h2,h3⟩)
 ·exact .inl z
 ·exact .inr ⟨i,d,by simp,h2,h3⟩
theorem EnvOk.lims {fx:Addr→Prop} {H0:Hp} {env:DEnv} {σ:St} {H:Hp} (h:EnvOk fx H0 env σ H) (bs:List Nat):∀ b,lim fx env σ bs b→∃ o,H b=some o:=by
 rintro b (z|⟨i,d,h1,h2,h3⟩)
 ·exact h.fxs b z
 ·obtain ⟨a,g1,g2,g3,g4⟩:=h.ac i d h2
  rw [h3] at g1
  cases g1
  exact g4.ex
theorem ValOk.later {A B:Addr→Prop} {H0 H H' H'':Hp} {r:Val} {v:V} (h:ValOk A H H' r v) (s0:Same H0 H) (s:Same H' H'') (hB:∀ b,B b→A b):ValOk B H0 H'' r v:=by
 refine ⟨Rp.same (Offs.mono s fun b _ _ n z=>n (hB b z)) _ h.rp,fun e=>?_⟩
 obtain ⟨a,h1,h2,h3⟩:=h.fr e
 exact ⟨a,h1,s0.free h2,h3.same (Offs.mono s fun b _ _ n z=>n (z.elim (fun y=>.inl (hB b y)) .inr)) fun o=>s a o⟩
def zhl:PyData→Bool
 | .list _=>false
 | .tuple _=>false
 | .dict _=>false
 | _=>true
theorem zabx {H H':Hp} {d:PyData} {v:V} (f:zhl d=true) (h:Rp H d v):Rp H' d v:=by
 cases d<;>first
  | (unfold Rp at h ⊢;exact h)
  | cases f
def bsOf (d:PyData) (bs:List Nat):List Nat:=if zhl d=true then [] else bs
theorem zaby {fx:Addr→Prop} {env:DEnv} {σ:St} {bs:List Nat} {H:Hp} {d:PyData} {v:V} (h:Rp (Offs (lim fx env σ bs) H) d v):Rp (Offs (lim fx env σ (bsOf d bs)) H) d v:=by
 unfold bsOf
 split
 ·rename_i e;exact zabx e h
 ·exact h
abbrev EF:=DEnv→Option Val
noncomputable def SE (te:TE) (f:EF):Prop:=∀ (fx:Addr→Prop) (H0:Hp) (env:DEnv) (σ:St) (H:Hp),EnvOk fx H0 env σ H→∀ r,f env=some r→∀ Q:VK,(∀ v H',Same H H'→ValOk (lim fx env σ r.bs) H H' r v→Q v H')→te σ H Q
abbrev TF:=DEnv→Option Bool
noncomputable def ST (tt:TT) (f:TF):Prop:=∀ (fx:Addr→Prop) (H0:Hp) (env:DEnv) (σ:St) (H:Hp),EnvOk fx H0 env σ H→∀ b,f env=some b→∀ Q:Bool→Hp→Prop,(∀ H',Same H H'→Q b H')→tt σ H Q
abbrev AF:=DEnv→Option (List Val)
noncomputable def SA (ta:TA) (f:AF):Prop:=∀ (fx:Addr→Prop) (H0:Hp) (env:DEnv) (σ:St) (H:Hp),EnvOk fx H0 env σ H→∀ rs,f env=some rs→∀ Q:List V→Hp→Prop,
 (∀ vs H',Same H H'→Paired (fun r v=>ValOk (lim fx env σ r.bs) H H' r v) rs vs→Q vs H')→ta σ H Q
section
variable {X:Cx}
def eVar (i:Nat):EF:=fun env=>match env[i]? with
 | some (.pl d)=>some ⟨d,false,[]⟩
 | some (.ac d)=>some ⟨d,false,[i]⟩
 | _=>none
theorem zad (i:Nat):SE (tVar i) (eVar i):=by
 intro fx H0 env σ H h r hr Q q
 unfold eVar at hr
 cases e:env[i]? with
 | none=>rw [e] at hr;cases hr
 | some sl =>
  rw [e] at hr
  cases sl with
  | no=>cases hr
  | pl d =>
   cases hr
   obtain ⟨v,h1,h2⟩:=h.pl i d e
   exact ⟨v,h1,q v H (Same.refl _) ⟨Rp.same (Offs.sub zpy) _ h2,fun z=>by cases z⟩⟩
  | ac d =>
   cases hr
   obtain ⟨a,h1,h2,h3,h4⟩:=h.ac i d e
   have hna:¬ lim fx env σ [i] a:=by
    rintro (z|⟨j,d',g1,g2,g3⟩)
    ·exact h3 z
    ·exact g1 (qAV.mpr (h.inj j i d' d a g2 e g3 h1))
   exact ⟨_,h1,q _ H (Same.refl _) ⟨h4.rp (Offs.sub zpy) fun o z=>by rw [Offs.get hna];exact z,fun z=>by cases z⟩⟩
def eC (d:PyData):EF:=fun _=>some ⟨d,false,[]⟩
theorem se_c {d:PyData} {v:V} (h:∀ H,Rp H d v):SE (tC v) (eC d):=by
 intro fx H0 env σ H _ r hr Q q
 cases hr
 exact q v H (Same.refl _) ⟨h _,fun z=>by cases z⟩
abbrev OF:=PyData→PyData→Option (PyData×Bool)
noncomputable def SO (r:R2) (f:OF):Prop:=∀ (A:Addr→Prop) (H:Hp) (x y:V) (dx dy:PyData),(∀ b,A b→∃ o,H b=some o)→Rp (Offs A H) dx x→Rp (Offs A H) dy y→∀ d fr,f dx dy=some (d,fr)→∀ Q:VK,
 (∀ v H',Same H H'→Rp (Offs A H') d v→(fr=true→∃ a,v=.ref a∧H a=none∧ziv (Offs (fun b=>A b∨b=a) H') H' a d)→Q v H')→r x y H Q
def eOp (f:OF) (a b:EF):EF:=fun env=>(a env).bind fun x=>(b env).bind fun y=>(f x.d y.d).bind fun z=>some ⟨z.1,z.2,bsOf z.1 (x.bs++y.bs)⟩
theorem zav {r:R2} {f:OF} {ta tb:TE} {fa fb:EF} (ho:SO r f) (ha:SE ta fa) (hb:SE tb fb):SE (tOp r ta tb) (eOp f fa fb):=by
 intro fx H0 env σ H h rr hr Q q
 unfold eOp at hr
 obtain ⟨x,ex,hr⟩:=qA.mp hr
 obtain ⟨y,ey,hr⟩:=qA.mp hr
 obtain ⟨⟨d,fr⟩,ez,hr⟩:=qA.mp hr
 cases hr
 refine ha fx H0 env σ H h x ex _ fun v H1 s1 v1=>hb fx H0 env σ H1 (h.up s1) y ey _ fun u H2 s2 v2=>?_
 have l1:∀ b,lim fx env σ (x.bs++y.bs) b→lim fx env σ x.bs b:=zkl fun i hi=>qAD _ hi
 have l2:∀ b,lim fx env σ (x.bs++y.bs) b→lim fx env σ y.bs b:=zkl fun i hi=>qo _ hi
 refine ho (lim fx env σ (x.bs++y.bs)) H2 v u x.d y.d ((h.up (s1.trans s2)).lims _) (v1.later (Same.refl _) s2 l1).rp (v2.later (Same.refl _) (Same.refl _) l2).rp d fr ez _ fun w H3 s3 rp fr3=>q w H3 ((s1.trans s2).trans s3) ⟨zaby rp,fun e=>?_⟩
 obtain ⟨a,g1,g2,g3⟩:=fr3 e
 refine ⟨a,g1,(s1.trans s2).free g2,?_⟩
 have nf:zhl d=false:=by cases d<;>first|rfl|exact g3.elim
 show ziv (Offs (fun b=>lim fx env σ (bsOf d (x.bs++y.bs)) b∨b=a) H3) H3 a d
 rw [show bsOf d (x.bs++y.bs)=x.bs++y.bs by unfold bsOf;rw [if_neg (by rw [nf];decide)]]
 exact g3
end
theorem zkm {n:Nat} (h:n≤100000):n≤qk:=qAX h (by decide)
theorem zso {n:Nat} (h:n<100000):n<qk:=qCz h (by decide)
theorem zgr {A:Addr→Prop} {H:Hp} (hA:∀ b,A b→∃ o,H b=some o) {p:Addr} (hp:H p=none):¬ A p:=fun z=>by
 obtain ⟨o,e⟩:=hA p z
 rw [hp] at e;cases e
theorem zsp {A:Addr→Prop} {H:Hp} {p:Addr} {ds:List PyData} {xs:List V} (hp:H p=none) (r:Rps (Offs A H) ds xs):ziv (Offs (fun b=>A b∨b=p) (upd H p (.lst xs))) (upd H p (.lst xs)) p (.list ds):=by
 refine ⟨xs,zbx,Rps.same (Offs.mono (Same.new hp) fun b o e n z=>?_) _ r⟩
 rcases z with z|z
 ·exact n z
 ·rw [z,hp] at e;cases e
theorem zyt {A:Addr→Prop} {H:Hp} {p:Addr} {ds:List PyData} {xs:List V} (hp:H p=none) (hA:¬ A p) (r:Rps (Offs A H) ds xs):Rp (Offs A (upd H p (.lst xs))) (.list ds) (.ref p) :=
 zkp (by rw [Offs.get hA];exact zbx) (Rps.same (Offs.grow (Same.new hp)) _ r)
theorem zpz {A:Addr→Prop} {H:Hp} {p:Addr} {ds:List PyData} {xs:List V} (hp:H p=none) (hA:¬ A p) (r:Rps (Offs A H) ds xs):Rp (Offs A (upd H p (.tup xs))) (.tuple ds) (.ref p) :=
 zabw (by rw [Offs.get hA];exact zbx) (Rps.same (Offs.grow (Same.new hp)) _ r)
theorem zez {A:Addr→Prop} {H:Hp} {a:Addr} {o:HO} (h:Offs A H a=some o):H a=some o:=(Offs.of h).2
noncomputable def addD:OF
 | .int i,.int j=>some (.int (i+j),false)
 | .str a,.str b=>if a.length+b.length≤100000 then some (.str (a++b),false) else none
 | .list a,.list b=>if a.length+b.length≤100000 then some (.list (a++b),true) else none
 | .tuple a,.tuple b=>if a.isEmpty=false∧a.length+b.length≤100000 then some (.tuple (a++b),false) else none
 | _,_=>none
theorem zfa {K:qB}:SO (zaqk K) addD:=by
 intro A H x y dx dy hA rx ry d fr e Q q
 unfold addD at e
 split at e
 ·cases e
  cases zfv rx;cases zfv ry
  exact q _ H (Same.refl _) zaf (fun z=>by cases z)
 ·split at e
  ·rename_i hl
   cases e
   cases zkc rx;cases zkc ry
   exact ⟨zkm hl,q _ H (Same.refl _) zay (fun z=>by cases z)⟩
  ·cases e
 ·split at e
  ·rename_i hl
   cases e
   obtain ⟨p,xs,rfl,hp,r1⟩:=zfz rx
   obtain ⟨p',ys,rfl,hp',r2⟩:=zfz ry
   refine .inl ⟨p,p',xs,ys,rfl,rfl,zez hp,zez hp',zkm (by rw [← r1.length,← r2.length];exact hl),fun b hb=>?_⟩
   exact q _ _ (Same.new hb) (zyt hb (zgr hA hb) (r1.append r2)) fun _=>⟨b,rfl,hb,zsp hb (r1.append r2)⟩
  ·cases e
 ·split at e
  ·rename_i hl
   cases e
   obtain ⟨p,xs,rfl,hp,r1⟩:=zel rx
   obtain ⟨p',ys,rfl,hp',r2⟩:=zel ry
   refine .inr ⟨p,p',xs,ys,rfl,rfl,SqT.of (zez hp),SqT.of (zez hp'),fun z=>?_,zkm (by rw [← r1.length,← r2.length];exact hl.2),fun z=>?_,fun _ b hb=>?_⟩
   ·have h1:=r1.length
    have h0:=hl.1
    rw [z] at h1
    rw [List.isEmpty_eq_false_iff] at h0
    exact h0 (qBJ.mp h1)
   ·have h2:=r2.length
    rw [z] at h2
    have:=qBJ.mp h2
    subst this
    rw [qAh] at q
    exact q _ H (Same.refl _) rx (fun z=>by cases z)
   ·exact q _ _ (Same.new hb) (zpz hb (zgr hA hb) (r1.append r2)) (fun z=>by cases z)
  ·cases e
 ·cases e
def intD (c:Int→Int→Bool) (f:Int→Int→PyData):OF
 | .int i,.int j=>if c i j=true then some (f i j,false) else none
 | _,_=>none
theorem zaoo {C:Int→Int→Prop} {g:Int→Int→V} {c:Int→Int→Bool} {f:Int→Int→PyData} (hc:∀ i j,c i j=true→C i j) (hf:∀ H i j,Rp H (f i j) (g i j)):SO (rI C g) (intD c f):=by
 intro A H x y dx dy hA rx ry d fr e Q q
 unfold intD at e
 split at e
 ·split at e
  ·rename_i h
   cases e
   cases zfv rx;cases zfv ry
   exact ⟨_,_,rfl,rfl,hc _ _ h,q _ H (Same.refl _) (hf _ _ _) (fun z=>by cases z)⟩
  ·cases e
 ·cases e
theorem zwo {g:Int→Int→V} {f:Int→Int→PyData} (hf:∀ H i j,Rp H (f i j) (g i j)):SO (rI0 g) (intD (fun _ _=>true) f):=by
 intro A H x y dx dy hA rx ry d fr e Q q
 unfold intD at e
 split at e
 ·split at e
  ·cases e
   cases zfv rx;cases zfv ry
   exact ⟨_,_,rfl,rfl,q _ H (Same.refl _) (hf _ _ _) (fun z=>by cases z)⟩
  ·cases e
 ·cases e
def subD:OF:=intD (fun _ _=>true) fun i j=>.int (i - j)
theorem zqt:SO (rI0 fun i j=>.int (i - j)) subD:=zwo fun _ _ _=>zaf
def ltD:OF:=intD (fun _ _=>true) fun i j=>.bool (decide (i<j))
theorem zaqo:SO (rI0 fun i j=>.bl (decide (i<j))) ltD:=zwo fun _ _ _=>zbf
def leD:OF:=intD (fun _ _=>true) fun i j=>.bool (decide (i≤j))
theorem zatm:SO (rI0 fun i j=>.bl (decide (i≤j))) leD:=zwo fun _ _ _=>zbf
def gtD:OF:=intD (fun _ _=>true) fun i j=>.bool (decide (j<i))
theorem zyu:SO (rI0 fun i j=>.bl (decide (j<i))) gtD:=zwo fun _ _ _=>zbf
def modD:OF:=intD (fun _ j=>decide (0<j)) fun i j=>.int (i % j)
theorem zcu:SO (rI (fun _ j=>0<j) fun i j=>.int (i % j)) modD:=zaoo (fun _ _ h=>of_decide_eq_true h) fun _ _ _=>zaf
def zcv:OF:=intD (fun _ j=>decide (0<j∧j<1073741824)) fun i j=>.int (i / j)
theorem zee:SO (rI CDiv fun i j=>.int (i / j)) zcv:=zaoo (fun i j h=>(of_decide_eq_true h:0<j∧j<1073741824)) fun _ _ _=>zaf
noncomputable def mulD:OF
 | .int i,.int j=>if (-(2 ^ 64)<i∧i<2 ^ 64)∨(-(2 ^ 64)<j∧j<2 ^ 64) then some (.int (i * j),false) else none
 | .str z,.int n=>if z.length≤1000∧-1000≤n∧n≤1000 then some (.str (Txt.mul z n),false) else none
 | _,_=>none
theorem zvg:SO zatl mulD:=by
 intro A H x y dx dy hA rx ry d fr e Q q
 unfold mulD at e
 split at e
 ·split at e
  ·rename_i h
   cases e
   cases zfv rx;cases zfv ry
   exact ⟨h,q _ H (Same.refl _) zaf (fun z=>by cases z)⟩
  ·cases e
 ·split at e
  ·rename_i h
   cases e
   cases zkc rx;cases zfv ry
   exact ⟨h.1,h.2.1,h.2.2,q _ H (Same.refl _) zay (fun z=>by cases z)⟩
  ·cases e
 ·cases e
mutual
theorem zsq {K:qB} {H:Hp}:∀ {d:PyData} {v:V},d.canLay0=true→Rp H d v→Rep K H d v
 | .none,v,_,h=>by unfold Rp at h;unfold Rep;exact h
 | .bool b,v,_,h=>by unfold Rp at h;unfold Rep;exact h
 | .int i,v,_,h=>by unfold Rp at h;unfold Rep;exact h
 | .str x,v,_,h=>by unfold Rp at h;unfold Rep;exact h
 | .list ds,v,c,h=>by
  obtain ⟨a,xs,e,h1,h2⟩:=zfz h
  unfold Rep
  exact ⟨a,xs,e,SqL.of h1,zwp (by simpa [PyData.canLay0] using c) h2⟩
 | .tuple ds,v,c,h=>by
  obtain ⟨a,xs,e,h1,h2⟩:=zel h
  unfold Rep
  exact ⟨a,xs,e,SqT.of h1,zwp (by simpa [PyData.canLay0] using c) h2⟩
 | .dict _,v,c,h=>by simp [PyData.canLay0] at c
theorem zwp {K:qB} {H:Hp}:∀ {ds:List PyData} {vs:List V},qu ds=true→Rps H ds vs→Reps K H ds vs
 | [],vs,_,h=>by unfold Rps at h;unfold Reps;exact h
 | d::ds,vs,c,h=>by
  unfold Rps at h
  obtain ⟨v,ws,e,h1,h2⟩:=h
  have c:d.canLay0=true∧qu ds=true:=by simpa [qu] using c
  unfold Reps
  exact ⟨v,ws,e,zsq c.1 h1,zwp c.2 h2⟩
end
noncomputable def zami:PyData→PyData→Bool
 | .none,.none=>true|.none,.int _=>true|.int _,.none=>true|.none,.bool _=>true|.bool _,.none=>true|.none,.str _=>true|.str _,.none=>true
 | .int _,.int _=>true|.bool _,.bool _=>true|.str _,.str _=>true
 | .int _,.str _=>true|.str _,.int _=>true|.bool _,.str _=>true|.str _,.bool _=>true
 | _,_=>false
def eqOk (dx dy:PyData):Bool:=zami dx dy||(qI dx&&qI dy)
def eqD:OF:=fun dx dy=>if eqOk dx dy=true then some (.bool (qH dx dy),false) else none
def neD:OF:=fun dx dy=>if eqOk dx dy=true then some (.bool (!PyData.eqv dx dy),false) else none
theorem zaic {H:Hp} {dx dy:PyData} {x y:V} (s:zami dx dy=true) (rx:Rp H dx x) (ry:Rp H dy y):scal x y=true∧decide (x=y)=qH dx dy:=by
 cases dx<;>cases dy<;>first
  | (exact absurd (show false=true from s) qO)
  | (unfold Rp at rx ry;subst rx;subst ry;refine ⟨rfl,?_⟩;first|rfl|exact zabq|exact zadp|exact zsf|simp [qH])
theorem zgk {K:qB}:SO (fun x y H Q=>rEq x y H Q∨rEqD K false x y H Q) eqD:=by
 intro A H x y dx dy hA rx ry d fr e Q q
 unfold eqD at e
 split at e
 ·rename_i h
  cases e
  cases hs:zami dx dy with
  | true =>
   obtain ⟨h1,h2⟩:=zaic hs rx ry
   exact .inl ⟨h1,by rw [h2];exact q _ H (Same.refl _) zbf (fun z=>by cases z)⟩
  | false =>
   unfold eqOk at h
   rw [hs,qCi,qY] at h
   have rx:=Rp.same (Offs.same A H) _ rx
   have ry:=Rp.same (Offs.same A H) _ ry
   exact .inr ⟨dx,dy,zsq (qAg h.1) rx,zsq (qAg h.2) ry,h.1,h.2,q _ H (Same.refl _) zbf (fun z=>by cases z)⟩
 ·cases e
theorem zyv {K:qB}:SO (fun x y H Q=>rNe x y H Q∨rEqD K true x y H Q) neD:=by
 intro A H x y dx dy hA rx ry d fr e Q q
 unfold neD at e
 split at e
 ·rename_i h
  cases e
  cases hs:zami dx dy with
  | true =>
   obtain ⟨h1,h2⟩:=zaic hs rx ry
   exact .inl ⟨h1,by rw [h2];exact q _ H (Same.refl _) zbf (fun z=>by cases z)⟩
  | false =>
   unfold eqOk at h
   rw [hs,qCi,qY] at h
   have rx:=Rp.same (Offs.same A H) _ rx
   have ry:=Rp.same (Offs.same A H) _ ry
   exact .inr ⟨dx,dy,zsq (qAg h.1) rx,zsq (qAg h.2) ry,h.1,h.2,q _ H (Same.refl _) zbf (fun z=>by cases z)⟩
 ·cases e
def zgj (ds:List PyData):Bool:=ds.all zhl
theorem zaop {H:Hp} {d:PyData} {v:V} (f:zhl d=true) (h:Rp H d v):zoa v=true:=by
 cases d<;>first
  | (unfold Rp at h;subst h;rfl)
  | cases f
theorem zaqp {H:Hp} {ds:List PyData} {vs:List V} (f:zgj ds=true) (h:Rps H ds vs):vs.all zoa=true:=by
 replace h:=zex.mp h
 induction h with
 | nil=>rfl
 | cons h _ ih =>
  unfold zgj at f
  rw [qAk,qY] at f
  rw [qAk,zaop f.1 h,ih f.2];rfl
theorem zaqq {H:Hp} {d e:PyData} {v u:V} (f:zhl d=true) (g:zhl e=true) (h:Rp H d v) (k:Rp H e u):eqV v u=qH d e:=by
 cases d<;>cases e<;>first
  | (unfold Rp at h k;subst h;subst k;rfl)
  | exact absurd (show false=true from f) qO
  | exact absurd (show false=true from g) qO
theorem zaqr {H:Hp} {d:PyData} {v:V} (f:zhl d=true) (h:Rp H d v) {ds:List PyData} {vs:List V} (g:zgj ds=true) (r:Rps H ds vs):inV v vs=ds.any fun e=>qH e d:=by
 replace r:=zex.mp r
 unfold inV
 induction r with
 | nil=>rfl
 | cons r _ ih =>
  unfold zgj at g
  rw [qAk,qY] at g
  rw [qA4,qA4,zaqq g.1 f r h,ih g.2]
def zig:PyData→Option (List PyData)
 | .list ds=>some ds
 | .tuple ds=>some ds
 | _=>none
noncomputable def inD (neg:Bool):OF:=fun d c=>match zig c with
 | some ds=>if zhl d=true∧zgj ds=true then some (.bool (if neg then !(ds.any fun e=>qH e d) else ds.any fun e=>qH e d),false) else none
 | none=>none
theorem zadv {K:qB} {H:Hp} {c:PyData} {v:V} {ds:List PyData} (h:Rp H c v) (e:zig c=some ds):∃ p xs,v=.ref p∧(SqL K H p xs∨SqT K H p xs)∧Rps H ds xs:=by
 cases c<;>first
  | cases e
  | skip
 ·obtain ⟨a,xs,e,h1,h2⟩:=zfz h;exact ⟨a,xs,e,.inl (SqL.of h1),h2⟩
 ·obtain ⟨a,xs,e,h1,h2⟩:=zel h;exact ⟨a,xs,e,.inr (SqT.of h1),h2⟩
theorem zaid {K:qB} {neg:Bool}:SO (rIn K neg) (inD neg):=by
 intro A H x y dx dy hA rx ry d fr e Q q
 unfold inD at e
 split at e
 ·rename_i ds hi
  split at e
  ·rename_i h
   cases e
   have rx:=Rp.same (Offs.same A H) _ rx
   obtain ⟨p,xs,rfl,hq,r⟩:=zadv (K:=K) (Rp.same (Offs.same A H) _ ry) hi
   refine ⟨p,xs,rfl,hq,zaop h.1 rx,zaqp h.2 r,?_⟩
   rw [zaqr h.1 rx h.2 r]
   refine q _ H (Same.refl _) ?_ (fun z=>by cases z)
   cases neg<;>exact zbf
  ·cases e
 ·cases e
noncomputable def ixD:OF
 | .str z,.int i=>if z.length≤100000 then (atI z.cps.toList i).map fun c=>(.str ⟨#[c]⟩,false) else none
 | .list ds,.int i=>(atI ds i).map fun d=>(d,false)
 | .tuple ds,.int i=>(atI ds i).map fun d=>(d,false)
 | _,_=>none
theorem Rps.atI {H:Hp} {ds:List PyData} {vs:List V} (h:Rps H ds vs) {i:Int} {d:PyData} (e:atI ds i=some d):∃ v,L2.atI vs i=some v∧Rp H d v:=by
 unfold L2.atI at e ⊢
 rw [← h.length]
 cases g:ixN ds.length i with
 | none=>rw [g] at e;cases e
 | some j =>
  rw [g] at e
  exact h.get2 e
theorem zaie {K:qB}:SO (rIxU K) ixD:=by
 intro A H x y dx dy hA rx ry d fr e Q q
 unfold ixD at e
 split at e
 ·split at e
  ·rename_i z i hl
   obtain ⟨c,hc,e⟩:=qK.mp e
   cases e
   cases zkc rx;cases zfv ry
   exact ⟨zkm hl,c,hc,q _ H (Same.refl _) zay (fun z=>by cases z)⟩
  ·cases e
 ·obtain ⟨c,hc,e⟩:=qK.mp e
  cases e
  obtain ⟨p,xs,rfl,hp,r⟩:=zfz rx
  cases zfv ry
  obtain ⟨v,hv,rv⟩:=r.atI hc
  exact ⟨xs,v,.inl (SqL.of (zez hp)),hv,q _ H (Same.refl _) rv (fun z=>by cases z)⟩
 ·obtain ⟨c,hc,e⟩:=qK.mp e
  cases e
  obtain ⟨p,xs,rfl,hp,r⟩:=zel rx
  cases zfv ry
  obtain ⟨v,hv,rv⟩:=r.atI hc
  exact ⟨xs,v,.inr (SqT.of (zez hp)),hv,q _ H (Same.refl _) rv (fun z=>by cases z)⟩
 ·cases e
def zot:List (PyData×PyData)→Key→Option PyData
 | [],_=>none
 | (k,d)::r,j=>if keyD k=some j then some d else zot r j
def zabz (kvs:List (PyData×PyData)) (j:Key):Bool:=(zot kvs j).isSome
noncomputable def zup (kvs:List (PyData×PyData)) (k:PyData) (d:PyData):List (PyData×PyData) :=
 if (kvs.any fun kv=>decide (keyD kv.1=keyD k))=true then kvs.map (fun kv=>if keyD kv.1=keyD k then (kv.1,d) else kv) else kvs++[(k,d)]
def zoc (kvs more:List (PyData×PyData)):List (PyData×PyData):=more.foldl (fun acc kv=>zup acc kv.1 kv.2) kvs
theorem znc {H:Hp} {k d:PyData} {r:List (PyData×PyData)} {k':Key} {v:V} {vs:List (Key×V)} (hk:keyD k=some k') (h:Rp H d v) (q:Rpd H r vs):Rpd H ((k,d)::r) ((k',v)::vs):=by
 show Rpd H ((k,d)::r) _
 unfold Rpd;exact ⟨k',v,vs,rfl,hk,h,q⟩
theorem zjc {H:Hp} {k d:PyData} {r:List (PyData×PyData)} {ps:List (Key×V)} (h:Rpd H ((k,d)::r) ps):∃ k' v vs,ps=(k',v)::vs∧keyD k=some k'∧Rp H d v∧Rpd H r vs:=by
 unfold Rpd at h;exact h
theorem Rpd.length {H:Hp}:∀ {kvs:List (PyData×PyData)} {ps:List (Key×V)},Rpd H kvs ps→kvs.length=ps.length
 | [],ps,h=>by unfold Rpd at h;subst h;rfl
 | (k,d)::r,ps,h=>by
  obtain ⟨k',v,vs,rfl,_,_,h3⟩:=zjc h
  rw [qAI,qAI,h3.length]
theorem Rpd.get {H:Hp} {j:Key}:∀ {kvs:List (PyData×PyData)} {ps:List (Key×V)},Rpd H kvs ps→match zot kvs j with
  | some d=>∃ v,valV ps j=some v∧Rp H d v
  | none=>valV ps j=none
 | [],ps,h=>by unfold Rpd at h;subst h;rfl
 | (k,d)::r,ps,h=>by
  obtain ⟨k',v,vs,rfl,hk,h2,h3⟩:=zjc h
  have ih:=Rpd.get (j:=j) h3
  unfold zot
  by_cases e:k'=j
  ·rw [if_pos (by rw [hk,e])]
   exact ⟨v,zsb e,h2⟩
  ·rw [if_neg (fun z=>e (by rw [hk] at z;exact qr z)),zsc e]
   exact ih
theorem Rpd.any {H:Hp} {j:Key}:∀ {kvs:List (PyData×PyData)} {ps:List (Key×V)},Rpd H kvs ps→(kvs.any fun kv=>decide (keyD kv.1=some j))=ps.any fun kv=>decide (kv.1=j)
 | [],ps,h=>by unfold Rpd at h;subst h;rfl
 | (k,d)::r,ps,h=>by
  obtain ⟨k',v,vs,rfl,hk,h2,h3⟩:=zjc h
  rw [qA4,qA4,h3.any,hk]
  congr 1
  simp
theorem Rpd.map {H:Hp} {j:Key} {d':PyData} {v':V} (h':Rp H d' v'):∀ {kvs:List (PyData×PyData)} {ps:List (Key×V)},Rpd H kvs ps→Rpd H (kvs.map fun kv=>if keyD kv.1=some j then (kv.1,d') else kv) (ps.map fun kv=>if kv.1=j then (kv.1,v') else kv)
 | [],ps,h=>by unfold Rpd at h;subst h;exact zpx
 | (k,d)::r,ps,h=>by
  obtain ⟨k',v,vs,rfl,hk,h2,h3⟩:=zjc h
  rw [qa,qa]
  by_cases e:k'=j
  ·rw [if_pos (show keyD (k,d).1=some j by rw [hk,e]),if_pos (show ((k',v):Key×V).1=j from e)]
   exact znc hk h' (Rpd.map h' h3)
  ·rw [if_neg (show ¬ keyD (k,d).1=some j from fun z=>e (by rw [hk] at z;exact qr z)),if_neg (show ¬ ((k',v):Key×V).1=j from e)]
   exact znc hk h2 (Rpd.map h' h3)
theorem Rpd.snoc {H:Hp} {k d:PyData} {k':Key} {v:V} (hk:keyD k=some k') (h':Rp H d v):∀ {kvs:List (PyData×PyData)} {ps:List (Key×V)},Rpd H kvs ps→Rpd H (kvs++[(k,d)]) (ps++[(k',v)])
 | [],ps,h=>by unfold Rpd at h;subst h;exact znc hk h' zpx
 | (k0,d0)::r,ps,h=>by
  obtain ⟨k1,v1,vs,rfl,hk1,h2,h3⟩:=zjc h
  exact znc hk1 h2 (Rpd.snoc hk h' h3)
theorem Rpd.put {H:Hp} {k d:PyData} {j:Key} {v:V} {kvs:List (PyData×PyData)} {ps:List (Key×V)} (h:Rpd H kvs ps) (hk:keyD k=some j) (h':Rp H d v):Rpd H (zup kvs k d) (putK ps j v):=by
 unfold zup putK
 rw [hk,h.any]
 split
 ·exact h.map h'
 ·exact h.snoc hk h'
theorem Rpd.merge {H:Hp}:∀ {more:List (PyData×PyData)} {ps:List (Key×V)} {kvs:List (PyData×PyData)} {qs:List (Key×V)},Rpd H kvs qs→Rpd H more ps→Rpd H (zoc kvs more) (zoq qs ps)
 | [],ps,kvs,qs,h,g=>by unfold Rpd at g;subst g;exact h
 | (k,d)::r,ps,kvs,qs,h,g=>by
  obtain ⟨k',v,vs,rfl,hk,h2,h3⟩:=zjc g
  show Rpd H (zoc (zup kvs k d) r) (zoq (putK qs k' v) vs)
  exact Rpd.merge (h.put hk h2) h3
theorem zaif {H:Hp} {d:PyData} {v:V} {k:Key} (h:Rp H d v) (e:keyD d=some k):v=kV k:=by
 cases d<;>first
  | (cases e;unfold Rp at h;exact h)
  | cases e
noncomputable def zavm (a b:EF):EF:=fun env=>(a env).bind fun x=>(b env).bind fun y=>match x.d with
 | .dict kvs=>(keyD y.d).bind fun k=>(zot kvs k).bind fun d=>some ⟨d,false,bsOf d x.bs⟩
 | _=>none
noncomputable def eDIn (neg:Bool) (a b:EF):EF:=fun env=>(a env).bind fun x=>(b env).bind fun y=>match y.d with
 | .dict kvs=>(keyD x.d).bind fun k=>some ⟨.bool (if neg then !zabz kvs k else zabz kvs k),false,[]⟩
 | _=>none
theorem zaig {H:Hp} {kvs:List (PyData×PyData)} {ps:List (Key×V)} (r:Rpd H kvs ps) (k:Key):(valV ps k).isSome=zabz kvs k:=by
 have g:=r.get (j:=k)
 unfold zabz
 cases e:zot kvs k with
 | none=>rw [e] at g;rw [show valV ps k=none from g];rfl
 | some d=>rw [e] at g;obtain ⟨w,e1,_⟩:=g;rw [e1];rfl
theorem zaoq {td ty:TE} {fa fb:EF} (ha:SE ty fa) (hb:SE td fb):SE (tDIn ty td) (eDIn false fa fb):=by
 intro fx H0 env σ H h rr hr Q q
 unfold eDIn at hr
 obtain ⟨⟨dx,frx,bx⟩,ex,hr⟩:=qA.mp hr
 obtain ⟨⟨dy,fry,by'⟩,ey,hr⟩:=qA.mp hr
 cases dy with
 | dict kvs =>
  obtain ⟨k,ek,hr⟩:=qA.mp hr
  cases hr
  refine ha fx H0 env σ H h _ ex _ fun v H1 s1 v1=>hb fx H0 env σ H1 (h.up s1) _ ey _ fun u H2 s2 v2=>?_
  obtain ⟨a,ps,rfl,hp,r⟩:=zlb v2.rp
  rw [zaif v1.rp ek]
  exact ⟨a,_,rfl,DGet.k (zez hp),by rw [zaig r k];exact q _ H2 (s1.trans s2) ⟨zbf,fun z=>by cases z⟩⟩
 | _=>cases hr
theorem zaih {td ty:TE} {fa fb:EF} (ha:SE ty fa) (hb:SE td fb):SE (tDNotIn ty td) (eDIn true fa fb):=by
 intro fx H0 env σ H h rr hr Q q
 unfold eDIn at hr
 obtain ⟨⟨dx,frx,bx⟩,ex,hr⟩:=qA.mp hr
 obtain ⟨⟨dy,fry,by'⟩,ey,hr⟩:=qA.mp hr
 cases dy with
 | dict kvs =>
  obtain ⟨k,ek,hr⟩:=qA.mp hr
  cases hr
  refine ha fx H0 env σ H h _ ex _ fun v H1 s1 v1=>hb fx H0 env σ H1 (h.up s1) _ ey _ fun u H2 s2 v2=>?_
  obtain ⟨a,ps,rfl,hp,r⟩:=zlb v2.rp
  rw [zaif v1.rp ek]
  exact ⟨a,_,rfl,DGet.k (zez hp),by rw [zaig r k];exact q _ H2 (s1.trans s2) ⟨zbf,fun z=>by cases z⟩⟩
 | _=>cases hr
def zbe (f:EF):TF:=fun env=>(f env).bind fun r=>match r.d with|.bool b=>some b|_=>none
theorem st_b {te:TE} {f:EF} (h:SE te f):ST (tB te) (zbe f):=by
 intro fx H0 env σ H hE b hb Q q
 unfold zbe at hb
 obtain ⟨⟨d,fr,bs⟩,e,hb⟩:=qA.mp hb
 cases d with
 | bool c =>
  have hb:some c=some b:=hb
  cases hb
  exact h fx H0 env σ H hE _ e _ fun v H' s v1=>⟨_,zkk v1.rp,q H' s⟩
 | _=>cases hb
theorem st_t {te:TE} {f:EF} (h:SE te f):ST (tTest te) (zbe f):=st_b h
noncomputable def truD:PyData→Option Bool
 | .none=>some false
 | .bool b=>some b
 | .int i=>some (i != 0)
 | .str x=>if x.length≤100000 then some ((x.length:Int) != 0) else none
 | .list ds=>some (!ds.isEmpty)
 | .tuple ds=>some (!ds.isEmpty)
 | .dict ds=>some (!ds.isEmpty)
def tTru (f:EF):TF:=fun env=>(f env).bind fun r=>truD r.d
theorem zjn {α β:Type} {xs:List α} {ys:List β} (h:xs.length=ys.length):xs.isEmpty=ys.isEmpty:=by
 cases xs<;>cases ys<;>simp at h<;>rfl
theorem zava {K:qB} {H:Hp} {d:PyData} {v:V} {b:Bool} (h:Rp H d v) (e:truD d=some b):TruV K v H b:=by
 cases d with
 | none=>cases e;cases zwn h;rfl
 | bool c=>cases e;cases zkk h;rfl
 | int i=>cases e;cases zfv h;rfl
 | str x =>
  have e:(if x.length≤100000 then some ((x.length:Int) != 0) else none)=some b:=e
  split at e
  ·rename_i hl;cases e;cases zkc h;exact ⟨zkm hl,rfl⟩
  ·cases e
 | list ds=>cases e;obtain ⟨a,xs,rfl,h1,h2⟩:=zfz h;exact .inl ⟨xs,SqL.of h1,by rw [zjn h2.length]⟩
 | tuple ds=>cases e;obtain ⟨a,xs,rfl,h1,h2⟩:=zel h;exact .inr (.inl ⟨xs,SqT.of h1,by rw [zjn h2.length]⟩)
 | dict ds=>cases e;obtain ⟨a,xs,rfl,h1,h2⟩:=zlb h;exact .inr (.inr ⟨xs,h1,by rw [zjn h2.length]⟩)
theorem zfw {K:qB} {te:TE} {f:EF} (h:SE te f):ST (fun σ H Q=>te σ H fun x H1=>∃ k,TruV K x H1 k∧Q k H1) (tTru f):=by
 intro fx H0 env σ H hE b hb Q q
 unfold tTru at hb
 obtain ⟨r,e,hb⟩:=qA.mp hb
 exact h fx H0 env σ H hE _ e _ fun v H' s v1=>⟨b,zava (Rp.same (Offs.same _ _) _ v1.rp) hb,q H' s⟩
def zhb (f g:TF):TF:=fun env=>(f env).bind fun b=>if b=true then g env else some false
def tOrF (f g:TF):TF:=fun env=>(f env).bind fun b=>if b=true then some true else g env
def zef (f:TF):TF:=fun env=>(f env).map fun b=>!b
theorem zou {t u:TT} {f g:TF} (h:ST t f) (k:ST u g):ST (tAnd t u) (zhb f g):=by
 intro fx H0 env σ H hE b hb Q q
 unfold zhb at hb
 obtain ⟨c,e,hb⟩:=qA.mp hb
 refine h fx H0 env σ H hE c e _ fun H' s=>?_
 cases c with
 | true=>exact iteT (k fx H0 env σ H' (hE.up s) b hb _ fun H'' s'=>q H'' (s.trans s'))
 | false=>cases hb;exact iteF (q H' s)
theorem zyw {t u:TT} {f g:TF} (h:ST t f) (k:ST u g):ST (tOr t u) (tOrF f g):=by
 intro fx H0 env σ H hE b hb Q q
 unfold tOrF at hb
 obtain ⟨c,e,hb⟩:=qA.mp hb
 refine h fx H0 env σ H hE c e _ fun H' s=>?_
 cases c with
 | false=>exact iteF (k fx H0 env σ H' (hE.up s) b hb _ fun H'' s'=>q H'' (s.trans s'))
 | true=>cases hb;exact iteT (q H' s)
theorem ziq {t:TT} {f:TF} (h:ST t f):ST (tNot t) (zef f):=by
 intro fx H0 env σ H hE b hb Q q
 unfold zef at hb
 obtain ⟨c,e,rfl⟩:=qK.mp hb
 exact h fx H0 env σ H hE c e _ fun H' s=>q H' s
def asB:PyData→Option Bool|.bool b=>some b|_=>none
def eAnd (a b:EF):EF:=fun env=>(a env).bind fun x=>(asB x.d).bind fun c=>if c=true then b env else some ⟨.bool false,false,[]⟩
def eNot (a:EF):EF:=fun env=>(a env).bind fun x=>(asB x.d).map fun c=>⟨.bool (!c),false,[]⟩
theorem as_b {H:Hp} {d:PyData} {v:V} {c:Bool} (h:Rp H d v) (e:asB d=some c):v=.bl c:=by
 cases d<;>first
  | (cases e;exact zkk h)
  | cases e
theorem zvh {ta tb:TE} {fa fb:EF} (ha:SE ta fa) (hb:SE tb fb):SE (tAndV ta tb) (eAnd fa fb):=by
 intro fx H0 env σ H h rr hr Q q
 unfold eAnd at hr
 obtain ⟨x,ex,hr⟩:=qA.mp hr
 obtain ⟨c,ec,hr⟩:=qA.mp hr
 refine ha fx H0 env σ H h _ ex _ fun v H1 s1 v1=>⟨c,as_b v1.rp ec,?_⟩
 cases c with
 | true=>exact iteT (hb fx H0 env σ H1 (h.up s1) _ hr _ fun u H2 s2 v2=>q u H2 (s1.trans s2) (v2.later s1 (Same.refl _) fun _ z=>z))
 | false=>cases hr;exact iteF (q _ H1 s1 ⟨zbf,fun z=>by cases z⟩)
theorem zaor {ta:TE} {fa:EF} (ha:SE ta fa):SE (tNotV ta) (eNot fa):=by
 intro fx H0 env σ H h rr hr Q q
 unfold eNot at hr
 obtain ⟨x,ex,hr⟩:=qA.mp hr
 obtain ⟨c,ec,rfl⟩:=qK.mp hr
 exact ha fx H0 env σ H h _ ex _ fun v H1 s1 v1=>⟨c,as_b v1.rp ec,q _ H1 s1 ⟨zbf,fun z=>by cases z⟩⟩
def aNil:AF:=fun _=>some []
def zab (a:EF) (r:AF):AF:=fun env=>(a env).bind fun x=>(r env).map fun xs=>x::xs
theorem zal:SA tNil aNil:=by
 intro fx H0 env σ H h rs hr Q q
 cases hr
 exact q [] H (Same.refl _) .nil
theorem zac {te:TE} {ta:TA} {f:EF} {g:AF} (h1:SE te f) (h2:SA ta g):SA (tCons te ta) (zab f g):=by
 intro fx H0 env σ H h rs hr Q q
 unfold zab at hr
 obtain ⟨x,ex,hr⟩:=qA.mp hr
 obtain ⟨xs,exs,rfl⟩:=qK.mp hr
 exact h1 fx H0 env σ H h x ex _ fun v H1 s1 v1=>h2 fx H0 env σ H1 (h.up s1) xs exs _ fun vs H2 s2 vs2=>q (v::vs) H2 (s1.trans s2)
  (.cons (v1.later (Same.refl _) s2 fun _ z=>z) (Paired.mapP vs2 fun _ _ z=>z.later s1 (Same.refl _) fun _ y=>y))
def zlc (rs:List Val):List PyData:=rs.map (·.d)
def bss (rs:List Val):List Nat:=rs.flatMap (·.bs)
theorem znd {fx:Addr→Prop} {env:DEnv} {σ:St} {H H':Hp}:∀ {rs:List Val} {vs:List V} {cs:List Nat},(∀ i∈bss rs,i∈cs)→Paired (fun r v=>ValOk (lim fx env σ r.bs) H H' r v) rs vs→Rps (Offs (lim fx env σ cs) H') (zlc rs) vs
 | _,_,_,_,.nil=>zey
 | r::rs,v::vs,cs,hc,.cons h t=>zew (Rp.same (Offs.sub (zkl fun i hi=>hc i (qBn.mpr ⟨r,qX,hi⟩))) _ h.rp)
   (znd (fun i hi=>hc i (by obtain ⟨x,h1,h2⟩:=qBn.mp hi;exact qBn.mpr ⟨x,qJ _ h1,h2⟩)) t)
def eTup (f:AF):EF:=fun env=>(f env).bind fun rs=>if rs.length≤100000 then some ⟨.tuple (zlc rs),false,bss rs⟩ else none
def eLst (f:AF):EF:=fun env=>(f env).bind fun rs=>if rs.length≤100000 then some ⟨.list (zlc rs),true,bss rs⟩ else none
theorem zov (rs:List Val):(zlc rs).length=rs.length:=by unfold zlc;rw [qC]
theorem zck {ta:TA} {f:AF} (ha:SA ta f):SE (tTup ta) (eTup f):=by
 intro fx H0 env σ H h rr hr Q q
 unfold eTup at hr
 obtain ⟨rs,er,hr⟩:=qA.mp hr
 split at hr
 ·rename_i hl
  cases hr
  refine ha fx H0 env σ H h rs er _ fun vs H1 s1 v1=>?_
  have r:=znd (fun i hi=>hi) v1
  have hA:=(h.up s1).lims (bss rs)
  refine ⟨zkm (by rw [← r.length,zov];exact hl),fun p hp=>q _ _ (s1.trans (Same.new hp)) ⟨zpz hp (zgr hA hp) r,fun z=>by cases z⟩⟩
 ·cases hr
theorem zfb {ta:TA} {f:AF} (ha:SA ta f):SE (tLst ta) (eLst f):=by
 intro fx H0 env σ H h rr hr Q q
 unfold eLst at hr
 obtain ⟨rs,er,hr⟩:=qA.mp hr
 split at hr
 ·rename_i hl
  cases hr
  refine ha fx H0 env σ H h rs er _ fun vs H1 s1 v1=>?_
  have r:=znd (fun i hi=>hi) v1
  have hA:=(h.up s1).lims (bss rs)
  refine ⟨zkm (by rw [← r.length,zov];exact hl),fun p hp=>q _ _ (s1.trans (Same.new hp)) ⟨zyt hp (zgr hA hp) r,fun _=>⟨p,rfl,s1.free hp,zsp hp r⟩⟩⟩
 ·cases hr
def zaca:EF:=fun _=>some ⟨.dict [],true,[]⟩
theorem zwq:SE tDNewK zaca:=by
 intro fx H0 env σ H h rr hr Q q
 cases hr
 intro p hp
 have hA:=h.lims []
 exact q _ _ (Same.new hp) ⟨zpw (by rw [Offs.get (zgr hA hp)];exact zbx) zpx,fun _=>⟨p,rfl,hp,⟨[],zbx,zpx⟩⟩⟩
def eD1 (k v:EF):EF:=fun env=>(k env).bind fun x=>(v env).bind fun y=>(keyD x.d).bind fun _=>some ⟨.dict [(x.d,y.d)],true,y.bs⟩
theorem zatn {tk tv:TE} {f g:EF} (h1:SE tk f) (h2:SE tv g):SE (tDisp [(tk,tv)]) (eD1 f g):=by
 intro fx H0 env σ H h rr hr Q q
 unfold eD1 at hr
 obtain ⟨x,ex,hr⟩:=qA.mp hr
 obtain ⟨y,ey,hr⟩:=qA.mp hr
 obtain ⟨k,ek,hr⟩:=qA.mp hr
 cases hr
 intro p hp
 have hp0:Same H (upd H p (.dK [])):=Same.new hp
 have npf:¬ fx p:=zgr h.fxs hp
 have hE:EnvOk (fun b=>fx b∨b=p) H0 env σ (upd H p (.dK [])):=h.grow hp0 (fun b o e n z=>z.elim n fun y=>by rw [y,hp] at e;cases e) fun b z=>by
  rcases z with z|z
  ·obtain ⟨o,e⟩:=h.fxs b z;exact ⟨o,hp0 b o e⟩
  ·rw [z];exact ⟨_,zbx⟩
 refine h1 _ H0 env σ _ hE x ex _ fun v H1 s1 v1=>h2 _ H0 env σ H1 (hE.up s1) y ey _ fun u H2 s2 v2=>?_
 have ep:H2 p=some (.dK []):=(s1.trans s2) _ _ zbx
 refine ⟨ep,[(k,u)],by rw [zaif v1.rp ek];rfl,(by show 1≤15;decide),?_⟩
 have em:zoq [] [(k,u)]=[(k,u)]:=rfl
 rw [em]
 have rp2:Rp (Offs (fun b=>lim fx env σ y.bs b∨b=p) (upd H2 p (.dK [(k,u)]))) y.d u:=by
  rw [Offs.upd (.inr rfl)]
  exact Rp.same (Offs.sub fun b z=>by
   rcases z with (z|z)|z
   ·exact .inl (.inl z)
   ·exact .inr z
   ·exact .inl (.inr z)) _ v2.rp
 have hs:Same H (upd H2 p (.dK [(k,u)])):=fun b o e=>by
  rw [zcp (zcr e hp)]
  exact s2 _ _ (s1 _ _ (hp0 _ _ e))
 have hnp:¬ lim fx env σ y.bs p:=zgr (h.lims y.bs) hp
 refine q _ _ hs ⟨zpw (by rw [Offs.get hnp];exact zbx) (znc ek (Rp.same (Offs.sub fun b z=>.inl z) _ rp2) zpx),fun _=>⟨p,rfl,hp,⟨_,zbx,znc ek rp2 zpx⟩⟩⟩
abbrev GF:=List PyData→Option (PyData×Bool)
noncomputable def SC (r:List V→Hp→VK→Prop) (g:GF):Prop:=∀ (A:Addr→Prop) (H:Hp) (vs:List V) (ds:List PyData),(∀ b,A b→∃ o,H b=some o)→Rps (Offs A H) ds vs→∀ d fr,g ds=some (d,fr)→∀ Q:VK,
 (∀ v H',Same H H'→Rp (Offs A H') d v→(fr=true→∃ a,v=.ref a∧H a=none∧ziv (Offs (fun b=>A b∨b=a) H') H' a d)→Q v H')→r vs H Q
def eCB (g:GF) (f:AF):EF:=fun env=>(f env).bind fun rs=>(g (zlc rs)).bind fun z=>some ⟨z.1,z.2,bsOf z.1 (bss rs)⟩
theorem zdb {r:List V→Hp→VK→Prop} {g:GF} {ta:TA} {f:AF} (hc:SC r g) (ha:SA ta f):SE (tCB r ta) (eCB g f):=by
 intro fx H0 env σ H h rr hr Q q
 unfold eCB at hr
 obtain ⟨rs,er,hr⟩:=qA.mp hr
 obtain ⟨⟨d,fr⟩,ez,hr⟩:=qA.mp hr
 cases hr
 refine ha fx H0 env σ H h rs er _ fun vs H1 s1 v1=>hc (lim fx env σ (bss rs)) H1 vs (zlc rs) ((h.up s1).lims _) (znd (fun i hi=>hi) v1) d fr ez _ fun w H3 s3 rp fr3=>q w H3 (s1.trans s3) ⟨zaby rp,fun e=>?_⟩
 obtain ⟨a,g1,g2,g3⟩:=fr3 e
 refine ⟨a,g1,s1.free g2,?_⟩
 have nf:zhl d=false:=by cases d<;>first|rfl|exact g3.elim
 show ziv (Offs (fun b=>lim fx env σ (bsOf d (bss rs)) b∨b=a) H3) H3 a d
 rw [show bsOf d (bss rs)=bss rs by unfold bsOf;rw [if_neg (by rw [nf];decide)]]
 exact g3
theorem rps1 {H:Hp} {d:PyData} {vs:List V} (h:Rps H [d] vs):∃ v,vs=[v]∧Rp H d v:=by
 unfold Rps at h
 obtain ⟨v,ws,rfl,h1,h2⟩:=h
 unfold Rps at h2
 subst h2
 exact ⟨v,rfl,h1⟩
theorem rps2 {H:Hp} {d e:PyData} {vs:List V} (h:Rps H [d,e] vs):∃ v u,vs=[v,u]∧Rp H d v∧Rp H e u:=by
 unfold Rps at h
 obtain ⟨v,ws,rfl,h1,h2⟩:=h
 obtain ⟨u,rfl,h3⟩:=rps1 h2
 exact ⟨v,u,rfl,h1,h3⟩
noncomputable def lenD:GF
 | [.str x]=>if x.length≤100000 then some (.int x.length,false) else none
 | [.list ds]=>some (.int ds.length,false)
 | [.tuple ds]=>some (.int ds.length,false)
 | _=>none
theorem zdr {K:qB}:SC (fun xs H Q=>∃ x n,xs=[x]∧LenV K x H n∧Q (.int n) H) lenD:=by
 intro A H vs ds hA rv d fr e Q q
 unfold lenD at e
 split at e
 ·split at e
  ·rename_i hl
   cases e
   obtain ⟨v,rfl,r⟩:=rps1 rv
   cases zkc r
   exact ⟨_,_,rfl,⟨zkm hl,rfl⟩,q _ H (Same.refl _) zaf (fun z=>by cases z)⟩
  ·cases e
 ·cases e
  obtain ⟨v,rfl,r⟩:=rps1 rv
  obtain ⟨a,xs,rfl,h1,h2⟩:=zfz r
  exact ⟨_,_,rfl,.inl ⟨xs,SqL.of (zez h1),rfl⟩,by rw [← h2.length];exact q _ H (Same.refl _) zaf (fun z=>by cases z)⟩
 ·cases e
  obtain ⟨v,rfl,r⟩:=rps1 rv
  obtain ⟨a,xs,rfl,h1,h2⟩:=zel r
  exact ⟨_,_,rfl,.inr ⟨xs,SqT.of (zez h1),rfl⟩,by rw [← h2.length];exact q _ H (Same.refl _) zaf (fun z=>by cases z)⟩
 ·cases e
def minD:GF
 | [.int i,.int j]=>some (.int (if j<i then j else i),false)
 | _=>none
theorem zato:SC (fun xs H Q=>∃ i j,xs=[.int i,.int j]∧Q (.int (if j<i then j else i)) H) minD:=by
 intro A H vs ds hA rv d fr e Q q
 unfold minD at e
 split at e
 ·cases e
  obtain ⟨v,u,rfl,r1,r2⟩:=rps2 rv
  cases zfv r1;cases zfv r2
  exact ⟨_,_,rfl,q _ H (Same.refl _) zaf (fun z=>by cases z)⟩
 ·cases e
def zqa:GF
 | [c]=>(zig c).map fun ds=>(.list ds,true)
 | _=>none
theorem zqb {K:qB}:SC (fun xs H Q=>∃ p ys,xs=[.ref p]∧(SqL K H p ys∨SqT K H p ys)∧∀ l,H l=none→Q (.ref l) (upd H l (.lst ys))) zqa:=by
 intro A H vs ds hA rv d fr e Q q
 unfold zqa at e
 split at e
 ·obtain ⟨es,he,e⟩:=qK.mp e
  cases e
  obtain ⟨v,rfl,r1⟩:=rps1 rv
  obtain ⟨p,xs,rfl,hq,r⟩:=zadv (K:=K) r1 he
  refine ⟨p,xs,rfl,hq.imp (Offs.same A H).seq (SqT.same (Offs.same A H)),fun l hl=>?_⟩
  exact q _ _ (Same.new hl) (zyt hl (zgr hA hl) r) fun _=>⟨l,rfl,hl,zsp hl r⟩
 ·cases e
def zea:GF
 | [c]=>(zig c).map fun ds=>(.tuple ds,false)
 | _=>none
theorem zid {K:qB}:SC (fun xs H Q=>∃ p ys,xs=[.ref p]∧((SqL K H p ys∧∀ l,H l=none→Q (.ref l) (upd H l (.tup ys)))∨(SqT K H p ys∧Q (.ref p) H))) zea:=by
 intro A H vs ds hA rv d fr e Q q
 unfold zea at e
 split at e
 ·obtain ⟨es,he,e⟩:=qK.mp e
  cases e
  obtain ⟨v,rfl,r1⟩:=rps1 rv
  rename_i c
  cases c with
  | list ds =>
   cases he
   obtain ⟨p,xs,rfl,h1,r⟩:=zfz r1
   exact ⟨p,xs,rfl,.inl ⟨SqL.of (zez h1),fun l hl=>q _ _ (Same.new hl) (zpz hl (zgr hA hl) r) (fun z=>by cases z)⟩⟩
  | tuple ds =>
   cases he
   obtain ⟨p,xs,rfl,h1,r⟩:=zel r1
   exact ⟨p,xs,rfl,.inr ⟨SqT.of (zez h1),q _ H (Same.refl _) r1 (fun z=>by cases z)⟩⟩
  | _=>cases he
 ·cases e
def zsr:List PyData→Option (List Bool)
 | []=>some []
 | .bool b::r=>(zsr r).map fun bs=>b::bs
 | _=>none
theorem zyx {H:Hp}:∀ {ds:List PyData} {vs:List V} {bs:List Bool},Rps H ds vs→zsr ds=some bs→vs=bs.map V.bl
 | [],vs,bs,h,e=>by unfold Rps at h;cases e;exact h
 | d::ds,vs,bs,h,e=>by
  unfold Rps at h
  obtain ⟨v,ws,rfl,h1,h2⟩:=h
  cases d with
  | bool b =>
   obtain ⟨cs,ec,rfl⟩:=qK.mp e
   rw [zkk h1,zyx h2 ec];rfl
  | _=>cases e
def anyD (f:List Bool→Bool):GF
 | [.list ds]=>(zsr ds).map fun bs=>(.bool (f bs),false)
 | _=>none
theorem zqu {K:qB} {f:List Bool→Bool}:SC (rAny K f) (anyD f):=by
 intro A H vs ds hA rv d fr e Q q
 unfold anyD at e
 split at e
 ·obtain ⟨bs,he,e⟩:=qK.mp e
  cases e
  obtain ⟨v,rfl,r1⟩:=rps1 rv
  obtain ⟨p,xs,rfl,h1,r⟩:=zfz r1
  cases zyx r he
  exact ⟨p,bs,rfl,SqL.of (zez h1),q _ H (Same.refl _) zbf (fun z=>by cases z)⟩
 ·cases e
noncomputable def zqv:PyData→String
 | .none=>"NoneType" | .bool _=>"bool" | .int _=>"int" | .str _=>"str" | .list _=>"list" | .tuple _=>"tuple" | .dict _=>"dict"
theorem zavb {K:qB} {H:Hp} {d:PyData} {v:V} (h:Rp H d v):TyOf K H v (.type (zqv d)):=by
 cases d with
 | list ds=>obtain ⟨a,xs,rfl,h1,_⟩:=zfz h;exact .lst h1
 | tuple ds=>obtain ⟨a,xs,rfl,h1,_⟩:=zel h;exact .tup h1
 | dict ds=>obtain ⟨a,xs,rfl,h1,_⟩:=zlb h;exact .dK h1
 | none=>cases zwn h;exact .non
 | bool b=>cases zkk h;exact .bl _
 | int b=>cases zfv h;exact .int _
 | str b=>cases zkc h;exact .str _
def isiB (n:String) (d:PyData):Bool:=zqv d==n||(zqv d == "bool" && n == "int")
def eIsi (n:String) (a:EF):EF:=fun env=>(a env).map fun x=>⟨.bool (isiB n x.d),false,[]⟩
theorem zln {K:qB} {n:String} {te:TE} {f:EF} (h1:SE te f) (hk:∀ d,PySem.W.kitOne K (.type (zqv d)) (.type n)=some (isiB n d)) :
  SE (tCB (fun xs H Q=>∃ x n t b,xs=[x,.ty n]∧TyOf K H x t∧PySem.W.kitOne K t (.type n)=some b∧Q (.bl b) H) (tCons te (tCons (tC (.ty n)) tNil))) (eIsi n f):=by
 intro fx H0 env σ H h rr hr Q q
 unfold eIsi at hr
 obtain ⟨x,ex,rfl⟩:=qK.mp hr
 refine h1 fx H0 env σ H h _ ex _ fun v H1 s1 v1=>?_
 exact ⟨v,n,_,_,rfl,zavb (Rp.same (Offs.same _ _) _ v1.rp),hk _,q _ H1 s1 ⟨zbf,fun z=>by cases z⟩⟩
theorem zwr {K:qB}:∀ d,PySem.W.kitOne K (.type (zqv d)) (.type "list")=some (isiB "list" d):=by intro d;cases d<;>rfl
theorem zow {K:qB}:∀ d,PySem.W.kitOne K (.type (zqv d)) (.type "tuple")=some (isiB "tuple" d):=by intro d;cases d<;>rfl
theorem zaii {K:qB}:∀ d,PySem.W.kitOne K (.type (zqv d)) (.type "int")=some (isiB "int" d):=by intro d;cases d<;>rfl
theorem zws {K:qB}:∀ d,PySem.W.kitOne K (.type (zqv d)) (.type "bool")=some (isiB "bool" d):=by intro d;cases d<;>rfl
abbrev PF':=DEnv→Option (Option Int)
noncomputable def SPt (t:TO) (f:PF'):Prop:=∀ (fx:Addr→Prop) (H0:Hp) (env:DEnv) (σ:St) (H:Hp),EnvOk fx H0 env σ H→∀ r,f env=some r→∀ Q:Option Int→Hp→Prop,(∀ H',Same H H'→Q r H')→t σ H Q
def zfk:PF':=fun _=>some none
def zcm (a:EF):PF':=fun env=>(a env).bind fun x=>match x.d with|.int i=>some (some i)|_=>none
theorem zgs:SPt tNoPart zfk:=by
 intro fx H0 env σ H h r hr Q q
 cases hr
 exact q H (Same.refl _)
theorem zeh {te:TE} {f:EF} (h1:SE te f):SPt (tPart te) (zcm f):=by
 intro fx H0 env σ H h r hr Q q
 unfold zcm at hr
 obtain ⟨⟨d,fr,bs⟩,ex,hr⟩:=qA.mp hr
 cases d with
 | int i =>
  cases hr
  exact h1 fx H0 env σ H h _ ex _ fun v H1 s1 v1=>⟨i,zfv v1.rp,q H1 s1⟩
 | _=>cases hr
noncomputable def cutD (xs:List PyData) (lo hi:Option Int):List PyData:=(xs.drop (HT.sIx xs.length 0 lo)).take (HT.sIx xs.length xs.length hi - HT.sIx xs.length 0 lo)
theorem Rps.drop {H:Hp} {ds:List PyData} {vs:List V} (h:Rps H ds vs) (n:Nat):Rps H (ds.drop n) (vs.drop n):=by
 induction n generalizing ds vs with
 | zero=>exact h
 | succ n ih =>
  cases ds with
  | nil=>unfold Rps at h;subst h;exact zey
  | cons d ds=>unfold Rps at h;obtain ⟨v,ws,rfl,h1,h2⟩:=h;exact ih h2
theorem Rps.take {H:Hp} {ds:List PyData} {vs:List V} (h:Rps H ds vs) (n:Nat):Rps H (ds.take n) (vs.take n):=by
 induction n generalizing ds vs with
 | zero=>exact zey
 | succ n ih =>
  cases ds with
  | nil=>unfold Rps at h;subst h;exact zey
  | cons d ds=>unfold Rps at h;obtain ⟨v,ws,rfl,h1,h2⟩:=h;exact zew h1 (ih h2)
theorem Rps.cut {H:Hp} {ds:List PyData} {vs:List V} (h:Rps H ds vs) (lo hi:Option Int):Rps H (cutD ds lo hi) (cutV vs lo hi):=by
 unfold cutD cutV
 rw [← h.length]
 exact (h.drop _).take _
noncomputable def slD (d:PyData) (lo hi:Option Int):Option (PyData×Bool):=match d with
 | .str z=>if z.length≤100000 then some (.str (Txt.slice z lo hi),false) else none
 | .list ds=>some (.list (cutD ds lo hi),true)
 | _=>none
noncomputable def eSl (a:EF) (l h:PF'):EF:=fun env=>(a env).bind fun x=>(l env).bind fun lo=>(h env).bind fun hi=>(slD x.d lo hi).bind fun z=>some ⟨z.1,z.2,bsOf z.1 x.bs⟩
theorem zmc {K:qB} {te:TE} {tl th:TO} {f:EF} {fl fh:PF'} (h1:SE te f) (h2:SPt tl fl) (h3:SPt th fh):SE (tSl (rSlU K) te tl th) (eSl f fl fh):=by
 intro fx H0 env σ H h rr hr Q q
 unfold eSl at hr
 obtain ⟨⟨d,frd,bs⟩,ex,hr⟩:=qA.mp hr
 obtain ⟨lo,el,hr⟩:=qA.mp hr
 obtain ⟨hi,eh,hr⟩:=qA.mp hr
 obtain ⟨⟨d',fr'⟩,ez,hr⟩:=qA.mp hr
 cases hr
 refine h1 fx H0 env σ H h _ ex _ fun v H1 s1 v1=>h2 fx H0 env σ H1 (h.up s1) _ el _ fun H2 s2=>h3 fx H0 env σ H2 (h.up (s1.trans s2)) _ eh _ fun H3 s3=>?_
 have v3:=(v1.later (Same.refl _) (s2.trans s3) fun _ z=>z).rp
 have t3:=(s1.trans s2).trans s3
 cases d with
 | str z =>
  have ez:(if z.length≤100000 then some (PyData.str (Txt.slice z lo hi),false) else none)=some (d',fr'):=ez
  split at ez
  ·rename_i hl
   cases ez
   cases zkc v3
   exact ⟨zkm hl,q _ H3 t3 ⟨zay,fun z=>by cases z⟩⟩
  ·cases ez
 | list ds =>
  cases ez
  obtain ⟨p,xs,rfl,hp,r⟩:=zfz v3
  refine ⟨p,xs,rfl,SqL.of (zez hp),fun l hl=>q _ _ (t3.trans (Same.new hl)) ?_⟩
  have hA:=(h.up t3).lims bs
  exact ⟨zyt hl (zgr hA hl) (r.cut lo hi),fun _=>⟨l,rfl,t3.free hl,zsp hl (r.cut lo hi)⟩⟩
 | _=>cases ez
noncomputable def zafs (fx:Addr→Prop) (H0:Hp) (d:PyData) (fr:Bool) (v:V) (H:Hp):Prop:=Rp (Offs fx H) d v∧(fr=true→∃ a,v=.ref a∧H0 a=none∧ziv (Offs (fun b=>fx b∨b=a) H) H a d)
noncomputable def spD (n:Nat) (g:GF):Sp:=fun vs H Q _=>∃ (fx:Addr→Prop) (ds:List PyData) (d:PyData) (fr:Bool),ds.length=n∧(∀ b,fx b→∃ o,H b=some o)∧Rps (Offs fx H) ds vs∧g ds=some (d,fr)∧∀ v H',Same H H'→zafs fx H d fr v H'→Q v H'
noncomputable def zbm (n:Nat) (g:GF) (f:AF):EF:=fun env=>(f env).bind fun rs=>if rs.length=n then (g (zlc rs)).bind fun z=>some ⟨z.1,z.2,bsOf z.1 (bss rs)⟩ else none
theorem zbu {n:Nat} {g:GF} {ta:TA} {f:AF} (ha:SA ta f):SE (tCall (spD n g) [] E0 ta) (zbm n g f):=by
 intro fx H0 env σ H h rr hr Q q
 unfold zbm at hr
 obtain ⟨rs,er,hr⟩:=qA.mp hr
 split at hr
 ·rename_i hn
  obtain ⟨⟨d,fr⟩,ez,hr⟩:=qA.mp hr
  cases hr
  refine ha fx H0 env σ H h rs er _ fun vs H1 s1 v1=>?_
  rw [qAh]
  refine ⟨lim fx env σ (bss rs),zlc rs,d,fr,by rw [zov];exact hn,(h.up s1).lims _,znd (fun i hi=>hi) v1,ez,fun w H3 s3 ⟨rp,fr3⟩=>q w H3 (s1.trans s3) ⟨zaby rp,fun e=>?_⟩⟩
  obtain ⟨a,g1,g2,g3⟩:=fr3 e
  refine ⟨a,g1,s1.free g2,?_⟩
  have nf:zhl d=false:=by cases d<;>first|rfl|exact g3.elim
  show ziv (Offs (fun b=>lim fx env σ (bsOf d (bss rs)) b∨b=a) H3) H3 a d
  rw [show bsOf d (bss rs)=bss rs by unfold bsOf;rw [if_neg (by rw [nf];decide)]]
  exact g3
 ·cases hr
inductive Out where
 | nx (env:DEnv)
 | bk (env:DEnv)
 | ct (env:DEnv)
 | rt (d:PyData) (fr:Bool)
noncomputable def Sat (fx:Addr→Prop) (H0:Hp) (D:Ends):Out→Prop
 | .nx env=>∀ σ H,EnvOk fx H0 env σ H→D.nx σ H
 | .bk env=>∀ σ H,EnvOk fx H0 env σ H→D.bk σ H
 | .ct env=>∀ σ H,EnvOk fx H0 env σ H→D.ct σ H
 | .rt d fr=>∀ v H,Same H0 H→zafs fx H0 d fr v H→D.rt v H
abbrev SF:=DEnv→Option Out
noncomputable def SS (ts:TS) (F:SF):Prop:=∀ (fx:Addr→Prop) (H0:Hp) (env:DEnv) (σ:St) (H:Hp) (D:Ends),EnvOk fx H0 env σ H→∀ o,F env=some o→Sat fx H0 D o→ts D σ H
def frz1 (env:DEnv) (i:Nat):DEnv:=match env[i]? with
 | some (.ac d)=>env.set i (.pl d)
 | _=>env
def frzs (env:DEnv) (bs:List Nat):DEnv:=bs.foldl frz1 env
theorem zamj (env:DEnv) (i:Nat):(frz1 env i).length=env.length:=by
 unfold frz1;split
 ·rw [qAR]
 ·rfl
theorem zfs {α:Type} {l:List α} {i j:Nat} {x y:α} (h:(l.set i x)[j]?=some y):(j=i∧y=x)∨(j≠i∧l[j]?=some y):=by
 rw [List.getElem?_set] at h
 by_cases e:i=j
 ·subst e
  rw [if_pos rfl] at h
  split at h
  ·exact .inl ⟨rfl,(qr h).symm⟩
  ·cases h
 ·rw [if_neg e] at h
  exact .inr ⟨fun z=>e z.symm,h⟩
theorem zqc {env:DEnv} {i j:Nat} {d:PyData} (h:(frz1 env i)[j]?=some (.ac d)):env[j]?=some (.ac d)∧j≠i:=by
 unfold frz1 at h
 split at h
 ·rcases zfs h with ⟨_,e⟩|⟨e,h⟩
  ·cases e
  ·exact ⟨h,e⟩
 ·rename_i hn
  refine ⟨h,fun e=>?_⟩
  subst e
  exact hn d h
theorem zaqs {env:DEnv} {i j:Nat} {d:PyData} (h:(frz1 env i)[j]?=some (.pl d)):env[j]?=some (.pl d)∨(j=i∧env[i]?=some (.ac d)):=by
 unfold frz1 at h
 split at h
 ·rename_i d' hd
  rcases zfs h with ⟨e1,e⟩|⟨e,h⟩
  ·cases e;exact .inr ⟨e1,hd⟩
  ·exact .inl h
 ·exact .inl h
theorem zamk {env:DEnv} {σ:St} {i:Nat}:∀ a,own (frz1 env i) σ a→own env σ a:=by
 rintro a ⟨j,d,h1,h2⟩
 exact ⟨j,d,(zqc h1).1,h2⟩
theorem EnvOk.frz1 {fx:Addr→Prop} {H0:Hp} {env:DEnv} {σ:St} {H:Hp} (h:EnvOk fx H0 env σ H) (i:Nat):EnvOk fx H0 (frz1 env i) σ H:=by
 have so:Same (Offs (fun a=>fx a∨own env σ a) H) (Offs (fun a=>fx a∨own (L2.frz1 env i) σ a) H):=Offs.sub fun b z=>z.imp (fun y=>y) (zamk b)
 refine ⟨by rw [zamj];exact h.len,fun j d e=>?_,fun j d e=>?_,fun j k d d' a h1 h2 h3 h4=>h.inj j k d d' a (zqc h1).1 (zqc h2).1 h3 h4,h.base,h.fxs⟩
 ·rcases zaqs e with e|⟨rfl,e⟩
  ·obtain ⟨v,h1,h2⟩:=h.pl j d e
   exact ⟨v,h1,Rp.same so _ h2⟩
  ·obtain ⟨a,h1,h2,h3,h4⟩:=h.ac j d e
   refine ⟨_,h1,h4.rp so fun o eo=>?_⟩
   rw [Offs.get]
   ·exact eo
   ·rintro (z|⟨k,d',z1,z2⟩)
    ·exact h3 z
    ·obtain ⟨z1,z3⟩:=zqc z1
     exact z3 (h.inj k j d' d a z1 e z2 h1)
 ·obtain ⟨a,h1,h2,h3,h4⟩:=h.ac j d (zqc e).1
  exact ⟨a,h1,h2,h3,h4.same so fun o z=>z⟩
theorem EnvOk.frzs {fx:Addr→Prop} {H0:Hp} {σ:St} {H:Hp}:∀ (bs:List Nat) {env:DEnv},EnvOk fx H0 env σ H→EnvOk fx H0 (frzs env bs) σ H
 | [],_,h=>h
 | i::bs,_,h=>EnvOk.frzs bs (h.frz1 i)
theorem zacb:∀ {bs:List Nat} {env:DEnv} {j:Nat} {d:PyData},(frzs env bs)[j]?=some (.ac d)→env[j]?=some (.ac d)∧j∉bs
 | [],_,_,_,h=>⟨h,by simp⟩
 | i::bs,env,j,d,h=>by
  obtain ⟨h1,h2⟩:=zacb (bs:=bs) h
  obtain ⟨h3,h4⟩:=zqc h1
  exact ⟨h3,by simp [h4,h2]⟩
theorem zhd {fx:Addr→Prop} {env:DEnv} {σ:St} {bs:List Nat}:∀ a,fx a∨own (frzs env bs) σ a→lim fx env σ bs a:=by
 rintro a (z|⟨i,d,h1,h2⟩)
 ·exact .inl z
 ·obtain ⟨h3,h4⟩:=zacb h1
  exact .inr ⟨i,d,h4,h3,h2⟩
theorem zaij {env:DEnv} {σ:St} {i:Nat} {d:PyData} {v:V}:∀ a,own (env.set i (.pl d)) (σ.set i (some v)) a→own env σ a:=by
 rintro a ⟨j,e,h1,h2⟩
 rcases zfs h1 with ⟨_,z⟩|⟨ne,h1⟩
 ·cases z
 ·rcases zfs h2 with ⟨z,_⟩|⟨_,h2⟩
  ·exact absurd z ne
  ·exact ⟨j,e,h1,h2⟩
theorem EnvOk.setPl {fx:Addr→Prop} {H0:Hp} {env:DEnv} {σ:St} {H:Hp} (h:EnvOk fx H0 env σ H) (i:Nat) {d:PyData} {v:V} (r:Rp (Offs (fun a=>fx a∨own env σ a) H) d v):EnvOk fx H0 (env.set i (.pl d)) (σ.set i (some v)) H:=by
 have so:Same (Offs (fun a=>fx a∨own env σ a) H) (Offs (fun a=>fx a∨own (env.set i (.pl d)) (σ.set i (some v)) a) H):=Offs.sub fun b z=>z.imp (fun y=>y) (zaij b)
 have kept:∀ {j:Nat},j≠i→(σ.set i (some v))[j]?=σ[j]?:=fun {j} n=>qAL fun z=>n z.symm
 refine ⟨by rw [qAR,qAR];exact h.len,fun j e hj=>?_,fun j e hj=>?_,fun j k d1 d2 a h1 h2 h3 h4=>?_,h.base,h.fxs⟩
 ·rcases zfs hj with ⟨rfl,z⟩|⟨ne,hj'⟩
  ·cases z
   have hl:j<env.length:=by have:=(qZ.mp hj).1;rwa [qAR] at this
   exact ⟨v,by rw [qAY (by rw [← h.len];exact hl)],Rp.same so _ r⟩
  ·obtain ⟨u,h1,h2⟩:=h.pl j e hj'
   exact ⟨u,by rw [kept ne];exact h1,Rp.same so _ h2⟩
 ·rcases zfs hj with ⟨_,z⟩|⟨ne,hj'⟩
  ·cases z
  ·obtain ⟨a,h1,h2,h3,h4⟩:=h.ac j e hj'
   exact ⟨a,by rw [kept ne];exact h1,h2,h3,h4.same so fun o z=>z⟩
 ·rcases zfs h1 with ⟨_,z⟩|⟨n1,h1⟩
  ·cases z
  rcases zfs h2 with ⟨_,z⟩|⟨n2,h2⟩
  ·cases z
  rw [kept n1] at h3
  rw [kept n2] at h4
  exact h.inj j k d1 d2 a h1 h2 h3 h4
theorem EnvOk.setAc {fx:Addr→Prop} {H0:Hp} {env:DEnv} {σ:St} {H:Hp} {a:Addr} (h:EnvOk (fun b=>fx b∨b=a) H0 env σ H) (i:Nat) {d:PyData} (r:ziv (Offs (fun b=>(fx b∨own env σ b)∨b=a) H) H a d) (h0:H0 a=none) (hf:¬ fx a) :
  EnvOk fx H0 (env.set i (.ac d)) (σ.set i (some (.ref a))) H:=by
 have kept:∀ {j:Nat},j≠i→(σ.set i (some (V.ref a)))[j]?=σ[j]?:=fun {j} n=>qAL fun z=>n z.symm
 have sub:∀ b,fx b∨own (env.set i (.ac d)) (σ.set i (some (.ref a))) b→(fx b∨b=a)∨own env σ b:=by
  rintro b (z|⟨j,e,h1,h2⟩)
  ·exact .inl (.inl z)
  ·rcases zfs h1 with ⟨rfl,z⟩|⟨ne,h1⟩
   ·have hl:j<env.length:=by have:=(qZ.mp ‹(env.set j (.ac d))[j]?=_›).1;rwa [qAR] at this
    rw [qAY (by rw [← h.len];exact hl)] at h2
    cases h2
    exact .inl (.inr rfl)
   ·rw [kept ne] at h2
    exact .inr ⟨j,e,h1,h2⟩
 have so:Same (Offs (fun b=>(fx b∨b=a)∨own env σ b) H) (Offs (fun b=>fx b∨own (env.set i (.ac d)) (σ.set i (some (.ref a))) b) H):=Offs.sub sub
 have so2:Same (Offs (fun b=>(fx b∨own env σ b)∨b=a) H) (Offs (fun b=>fx b∨own (env.set i (.ac d)) (σ.set i (some (.ref a))) b) H):=Offs.sub fun b z=>by
  rcases sub b z with (y|y)|y
  ·exact .inl (.inl y)
  ·exact .inr y
  ·exact .inl (.inr y)
 refine ⟨by rw [qAR,qAR];exact h.len,fun j e hj=>?_,fun j e hj=>?_,fun j k d1 d2 b h1 h2 h3 h4=>?_,h.base,fun b z=>h.fxs b (.inl z)⟩
 ·rcases zfs hj with ⟨_,z⟩|⟨ne,hj'⟩
  ·cases z
  ·obtain ⟨u,h1,h2⟩:=h.pl j e hj'
   exact ⟨u,by rw [kept ne];exact h1,Rp.same so _ h2⟩
 ·rcases zfs hj with ⟨rfl,z⟩|⟨ne,hj'⟩
  ·cases z
   have hl:j<env.length:=by have:=(qZ.mp hj).1;rwa [qAR] at this
   exact ⟨a,by rw [qAY (by rw [← h.len];exact hl)],h0,hf,r.same so2 fun o z=>z⟩
  ·obtain ⟨b,h1,h2,h3,h4⟩:=h.ac j e hj'
   exact ⟨b,by rw [kept ne];exact h1,h2,fun z=>h3 (.inl z),h4.same so fun o z=>z⟩
 ·rcases zfs h1 with ⟨e1,z1⟩|⟨n1,h1'⟩<;>rcases zfs h2 with ⟨e2,z2⟩|⟨n2,h2'⟩
  ·rw [e1,e2]
  ·subst e1
   have hl:j<env.length:=by have:=(qZ.mp h1).1;rwa [qAR] at this
   rw [qAY (by rw [← h.len];exact hl)] at h3
   rw [kept n2] at h4
   cases h3
   obtain ⟨b,g1,g2,g3,g4⟩:=h.ac k d2 h2'
   rw [h4] at g1
   cases g1
   exact absurd (.inr rfl) g3
  ·subst e2
   have hl:k<env.length:=by have:=(qZ.mp h2).1;rwa [qAR] at this
   rw [qAY (by rw [← h.len];exact hl)] at h4
   rw [kept n1] at h3
   cases h4
   obtain ⟨b,g1,g2,g3,g4⟩:=h.ac j d1 h1'
   rw [h3] at g1
   cases g1
   exact absurd (.inr rfl) g3
  ·rw [kept n1] at h3
   rw [kept n2] at h4
   exact h.inj j k d1 d2 b h1' h2' h3 h4
def slOf (r:Val):Sl:=if r.fr=true then .ac r.d else .pl r.d
def putV (env:DEnv) (i:Nat) (r:Val):DEnv:=(frzs env r.bs).set i (slOf r)
theorem EnvOk.put {fx:Addr→Prop} {H0:Hp} {env:DEnv} {σ:St} {H H':Hp} (h:EnvOk fx H0 env σ H) (s:Same H H') {r:Val} {v:V} (hv:ValOk (lim fx env σ r.bs) H H' r v) (i:Nat):EnvOk fx H0 (putV env i r) (σ.set i (some v)) H':=by
 unfold putV slOf
 cases e:r.fr with
 | false =>
  rw [if_neg qO]
  exact ((h.up s).frzs r.bs).setPl i (Rp.same (Offs.sub zhd) _ hv.rp)
 | true =>
  rw [if_pos rfl]
  obtain ⟨a,rfl,ha,hacc⟩:=hv.fr e
  have nfx:¬ fx a:=zgr h.fxs ha
  have g:EnvOk (fun b=>fx b∨b=a) H0 env σ H':=h.grow s (fun b o eo n z=>z.elim n fun y=>by rw [y,ha] at eo;cases eo) fun b z=>by
   rcases z with z|z
   ·obtain ⟨o,eo⟩:=h.fxs b z;exact ⟨o,s b o eo⟩
   ·rw [z];exact hacc.ex
  refine (g.frzs r.bs).setAc i (hacc.same (Offs.sub fun b z=>?_) fun o z=>z) (h.base.free ha) nfx
  rcases z with z|z
  ·exact .inl (zhd b z)
  ·exact .inr z
def sNil:SF:=fun env=>some (.nx env)
def sSeq (f g:SF):SF:=fun env=>(f env).bind fun o=>match o with
 | .nx env'=>g env'
 | o=>some o
theorem zda:SS tNext sNil:=by
 intro fx H0 env σ H D h o e q
 cases e
 exact q σ H h
theorem zat {t u:TS} {f g:SF} (h1:SS t f) (h2:SS u g):SS (tSeq t u) (sSeq f g):=by
 intro fx H0 env σ H D h o e q
 unfold sSeq at e
 obtain ⟨o1,e1,e⟩:=qA.mp e
 refine h1 fx H0 env σ H _ h o1 e1 ?_
 cases o1 with
 | nx env'=>exact fun σ' H' h'=>h2 fx H0 env' σ' H' D h' o e q
 | bk env'=>cases e;exact q
 | ct env'=>cases e;exact q
 | rt d fr=>cases e;exact q
def zadw:SF:=fun _=>none
theorem zadx:SS tNever zadw:=by
 intro fx H0 env σ H D h o e q
 cases e
def zaft (f:EF):SF:=fun env=>(f env).map fun _=>.nx env
theorem zaik {te:TE} {f:EF} (h1:SE te f):SS (tDrop te) (zaft f):=by
 intro fx H0 env σ H D h o e q
 unfold zaft at e
 obtain ⟨r,er,rfl⟩:=qK.mp e
 exact h1 fx H0 env σ H h r er _ fun v H' s _=>q σ H' (h.up s)
def sRet (f:EF):SF:=fun env=>(f env).map fun r=>.rt r.d r.fr
theorem zce {te:TE} {f:EF} (h1:SE te f):SS (tRet te) (sRet f):=by
 intro fx H0 env σ H D h o e q
 unfold sRet at e
 obtain ⟨r,er,rfl⟩:=qK.mp e
 refine h1 fx H0 env σ H h r er _ fun v H' s hv=>q v H' (h.base.trans s) ⟨Rp.same (Offs.sub fun b z=>.inl z) _ hv.rp,fun z=>?_⟩
 obtain ⟨a,g1,g2,g3⟩:=hv.fr z
 exact ⟨a,g1,h.base.free g2,g3.same (Offs.sub fun b y=>y.imp .inl id) fun o z=>z⟩
def zss (i:Nat):SF:=fun env=>match env[i]? with
 | some (.pl d)=>some (.rt d false)
 | some (.ac d)=>some (.rt d true)
 | _=>none
theorem zmd {i:Nat}:SS (tRet (tVar i)) (zss i):=by
 intro fx H0 env σ H D h o e q
 unfold zss at e
 cases ei:env[i]? with
 | none=>rw [ei] at e;cases e
 | some sl =>
  rw [ei] at e
  cases sl with
  | no=>cases e
  | pl d =>
   cases e
   obtain ⟨v,h1,h2⟩:=h.pl i d ei
   exact ⟨v,h1,q v H h.base ⟨Rp.same (Offs.sub fun b z=>.inl z) _ h2,fun z=>by cases z⟩⟩
  | ac d =>
   cases e
   obtain ⟨a,h1,h2,h3,h4⟩:=h.ac i d ei
   refine ⟨_,h1,q _ H h.base ⟨h4.rp (Offs.sub fun b z=>.inl z) fun o eo=>by rw [Offs.get h3];exact eo,fun _=>⟨a,rfl,h2,h4.same (Offs.sub fun b z=>?_) fun o z=>z⟩⟩⟩
   rcases z with z|z
   ·exact .inl z
   ·rw [z];exact .inr ⟨i,d,ei,h1⟩
def sIf (c:TF) (f g:SF):SF:=fun env=>(c env).bind fun b=>if b=true then f env else g env
theorem zem {tc:TT} {t u:TS} {c:TF} {f g:SF} (hc:ST tc c) (h1:SS t f) (h2:SS u g):SS (tIfS tc t u) (sIf c f g):=by
 intro fx H0 env σ H D h o e q
 unfold sIf at e
 obtain ⟨b,eb,e⟩:=qA.mp e
 refine hc fx H0 env σ H h b eb _ fun H' s=>?_
 cases b with
 | true=>exact iteT (h1 fx H0 env σ H' D (h.up s) o e q)
 | false=>exact iteF (h2 fx H0 env σ H' D (h.up s) o e q)
def sSet (i:Nat) (f:EF):SF:=fun env=>(f env).map fun r=>.nx (putV env i r)
theorem zbp {te:TE} {f:EF} {i:Nat} (h1:SE te f):SS (tAsg te (gName i)) (sSet i f):=by
 intro fx H0 env σ H D h o e q
 unfold sSet at e
 obtain ⟨r,er,rfl⟩:=qK.mp e
 exact h1 fx H0 env σ H h r er _ fun v H' s hv=>q _ H' (h.put s hv i)
abbrev GT:=PyData→DEnv→Option DEnv
noncomputable def SG (g:TG) (f:GT):Prop:=∀ (fx:Addr→Prop) (H0:Hp) (env:DEnv) (σ:St) (H:Hp) (d:PyData) (v:V),EnvOk fx H0 env σ H→Rp (Offs (fun a=>fx a∨own env σ a) H) d v→∀ env',f d env=some env'→∀ Q:St→Hp→Prop,
 (∀ σ',EnvOk fx H0 env' σ' H→Q σ' H)→g v σ H Q
abbrev GTs:=List PyData→DEnv→Option DEnv
noncomputable def SGs (g:TGs) (f:GTs):Prop:=∀ (fx:Addr→Prop) (H0:Hp) (env:DEnv) (σ:St) (H:Hp) (ds:List PyData) (vs:List V),EnvOk fx H0 env σ H→Rps (Offs (fun a=>fx a∨own env σ a) H) ds vs→∀ env',f ds env=some env'→∀ Q:St→Hp→Prop,
 (∀ σ',EnvOk fx H0 env' σ' H→Q σ' H)→g vs σ H Q
def gN (i:Nat):GT:=fun d env=>some (env.set i (.pl d))
theorem zeq {i:Nat}:SG (gName i) (gN i):=by
 intro fx H0 env σ H d v h r env' e Q q
 cases e
 exact q _ (h.setPl i r)
def zco:GTs:=fun ds env=>match ds with|[]=>some env|_=>none
def zap (i:Nat) (g:GTs):GTs:=fun ds env=>match ds with|d::r=>g r (env.set i (.pl d))|[]=>none
theorem zdn:SGs gNil zco:=by
 intro fx H0 env σ H ds vs h r env' e Q q
 cases ds with
 | nil=>cases e;unfold Rps at r;exact ⟨r,q _ h⟩
 | cons _ _=>cases e
theorem zbb {i:Nat} {t:TGs} {g:GTs} (h1:SGs t g):SGs (gCons (gName i) t) (zap i g):=by
 intro fx H0 env σ H ds vs h r env' e Q q
 cases ds with
 | nil=>cases e
 | cons d ds =>
  unfold Rps at r
  obtain ⟨v,ws,rfl,r1,r2⟩:=r
  refine ⟨v,ws,rfl,h1 fx H0 (env.set i (.pl d)) _ H ds ws (h.setPl i r1) (Rps.same (Offs.sub fun b z=>z.imp (fun y=>y) (zaij b)) _ r2) env' e Q q⟩
def gT (n:Nat) (g:GTs):GT:=fun d env=>match d with|.tuple ds=>if ds.length=n then g ds env else none|_=>none
theorem zfc {K:qB} {n:Nat} {t:TGs} {g:GTs} (h1:SGs t g):SG (gTup K n t) (gT n g):=by
 intro fx H0 env σ H d v h r env' e Q q
 unfold gT at e
 cases d with
 | tuple ds =>
  have e:(if ds.length=n then g ds env else none)=some env':=e
  split at e
  ·rename_i hn
   obtain ⟨a,xs,rfl,ha,rs⟩:=zel r
   exact ⟨a,xs,rfl,SqT.of (zez ha),by rw [← rs.length];exact hn,h1 fx H0 env σ H ds xs h rs env' e Q q⟩
  ·cases e
 | _=>cases e
def sAsg (f:EF) (g:GT):SF:=fun env=>(f env).bind fun r=>(g r.d (frzs env r.bs)).map .nx
theorem zaos {te:TE} {f:EF} {g:TG} {gf:GT} (h1:SE te f) (h2:SG g gf):SS (tAsg te g) (sAsg f gf):=by
 intro fx H0 env σ H D h o e q
 unfold sAsg at e
 obtain ⟨r,er,e⟩:=qA.mp e
 obtain ⟨env',e',rfl⟩:=qK.mp e
 exact h1 fx H0 env σ H h r er _ fun v H' s hv=>h2 fx H0 _ σ H' r.d v ((h.up s).frzs r.bs) (Rp.same (Offs.sub zhd) _ hv.rp) env' e' _ fun σ' h'=>q σ' H' h'
theorem EnvOk.mut {fx:Addr→Prop} {H0:Hp} {env:DEnv} {σ:St} {H:Hp} (h:EnvOk fx H0 env σ H) {i:Nat} {d d':PyData} {a:Addr} {o:HO} (e:env[i]?=some (.ac d)) (ea:σ[i]?=some (some (.ref a)))
  (r:ziv (Offs (fun b=>fx b∨own env σ b) H) (upd H a o) a d'):EnvOk fx H0 (env.set i (.ac d')) σ (upd H a o):=by
 have hl:i<env.length:=(qZ.mp e).1
 have oa:own env σ a:=⟨i,d,e,ea⟩
 have ow:∀ b,own (env.set i (.ac d')) σ b↔own env σ b:=by
  intro b
  constructor
  ·rintro ⟨j,d1,h1,h2⟩
   rcases zfs h1 with ⟨rfl,z⟩|⟨ne,h1⟩
   ·exact ⟨j,d,e,h2⟩
   ·exact ⟨j,d1,h1,h2⟩
  ·rintro ⟨j,d1,h1,h2⟩
   by_cases hj:j=i
   ·subst hj;exact ⟨j,d',by rw [qAY hl],h2⟩
   ·exact ⟨j,d1,by rw [qAL fun z=>hj z.symm];exact h1,h2⟩
 have so:Same (Offs (fun b=>fx b∨own env σ b) H) (Offs (fun b=>fx b∨own (env.set i (.ac d')) σ b) (upd H a o)):=by
  have:Same (Offs (fun b=>fx b∨own env σ b) (upd H a o)) (Offs (fun b=>fx b∨own (env.set i (.ac d')) σ b) (upd H a o)):=Offs.sub fun b z=>z.imp (fun y=>y) (ow b).mp
  rw [Offs.upd (.inr oa)] at this
  exact this
 obtain ⟨a',g1,g2,g3,g4⟩:=h.ac i d e
 rw [ea] at g1
 cases g1
 refine ⟨by rw [qAR];exact h.len,fun j d1 hj=>?_,fun j d1 hj=>?_,fun j k d1 d2 b h1 h2 h3 h4=>?_,fun b u eb=>by rw [zcp (zcr eb g2)];exact h.base b u eb,fun b z=>?_⟩
 ·rcases zfs hj with ⟨_,z⟩|⟨ne,hj'⟩
  ·cases z
  ·obtain ⟨u,h1,h2⟩:=h.pl j d1 hj'
   exact ⟨u,h1,Rp.same so _ h2⟩
 ·rcases zfs hj with ⟨rfl,z⟩|⟨ne,hj'⟩
  ·cases z
   exact ⟨a,ea,g2,g3,r.same so fun o z=>z⟩
  ·obtain ⟨b,h1,h2,h3,h4⟩:=h.ac j d1 hj'
   refine ⟨b,h1,h2,h3,h4.same so fun o' z=>?_⟩
   rw [zcp fun y=>ne (h.inj j i d1 d a hj' e (by rw [← y];exact h1) ea)]
   exact z
 ·have f:∀ {j:Nat} {d1:PyData},(env.set i (.ac d'))[j]?=some (.ac d1)→∃ d2,env[j]?=some (.ac d2):=fun {j d1} hj=>by
   rcases zfs hj with ⟨rfl,z⟩|⟨ne,hj'⟩
   ·exact ⟨d,e⟩
   ·exact ⟨d1,hj'⟩
  obtain ⟨e1,h1⟩:=f h1
  obtain ⟨e2,h2⟩:=f h2
  exact h.inj j k e1 e2 b h1 h2 h3 h4
 ·obtain ⟨u,eu⟩:=h.fxs b z
  exact ⟨u,by rw [zcp fun y=>g3 (by rw [← y];exact z)];exact eu⟩
noncomputable def sApp (i:Nat) (f:EF):SF:=fun env=>match env[i]? with
 | some (.ac (.list ds))=>(f env).bind fun r=>if ds.length<100000∧i∉r.bs then some (.nx ((frzs env r.bs).set i (.ac (.list (ds++[r.d]))))) else none
 | _=>none
theorem zld {env:DEnv} {i:Nat} {d:PyData}:∀ {bs:List Nat},i∉bs→env[i]?=some (.ac d)→(frzs env bs)[i]?=some (.ac d):=by
 intro bs
 induction bs generalizing env with
 | nil=>intro _ e;exact e
 | cons j bs ih =>
  intro hn e
  have hj:i≠j:=fun z=>hn (by simp [z])
  refine ih (fun z=>hn (qJ _ z)) ?_
  unfold frz1
  split
  ·rw [qAL fun z=>hj z.symm];exact e
  ·exact e
theorem zkd {K:qB} {i:Nat} {te:TE} {f:EF} (h1:SE te f):SS (tDrop (tBM K "list" zabs (tVar i) (tCons te tNil))) (sApp i f):=by
 intro fx H0 env σ H D h o e q
 unfold sApp at e
 split at e
 ·rename_i ds ei
  obtain ⟨r,er,e⟩:=qA.mp e
  split at e
  ·rename_i hl
   cases e
   obtain ⟨a,g1,g2,g3,g4⟩:=h.ac i _ ei
   obtain ⟨xs,hx,rx⟩:=g4
   refine ⟨_,g1,.inl ⟨rfl,_,SqL.of hx⟩,h1 fx H0 env σ H h r er _ fun v H' s hv=>?_⟩
   have h':=(h.up s).frzs r.bs
   have ei':=zld hl.2 ei
   have hx':=s _ _ hx
   have rx':Rps (Offs (fun b=>fx b∨own (frzs env r.bs) σ b) H') ds xs:=by
    obtain ⟨a',z1,_,_,z4⟩:=h'.ac i _ ei'
    rw [g1] at z1
    cases z1
    obtain ⟨ys,y1,y2⟩:=z4
    rw [hx'] at y1
    cases y1
    exact y2
   refine ⟨a,xs,v,rfl,rfl,hx',zso (by rw [← rx.length];exact hl.1),?_⟩
   refine q σ _ (h'.mut ei' g1 ⟨_,zbx,rx'.append (zew (Rp.same (Offs.sub zhd) _ hv.rp) zey)⟩)
  ·cases e
 ·cases e
noncomputable def sPut (i:Nat) (fk fv:EF):SF:=fun env=>match env[i]? with
 | some (.ac (.dict kvs))=>(fv env).bind fun r=>(fk env).bind fun k=>(keyD k.d).bind fun _=>if kvs.length<100000∧i∉r.bs then some (.nx ((frzs env r.bs).set i (.ac (.dict (zup kvs k.d r.d))))) else none
 | _=>none
theorem zaot {i:Nat} {tk tv:TE} {fk fv:EF} (h1:SE tk fk) (h2:SE tv fv):SS (sDPut (tVar i) tk tv) (sPut i fk fv):=by
 intro fx H0 env σ H D h o e q
 unfold sPut at e
 split at e
 ·rename_i kvs ei
  obtain ⟨r,er,e⟩:=qA.mp e
  obtain ⟨k,ek,e⟩:=qA.mp e
  obtain ⟨kk,ekk,e⟩:=qA.mp e
  split at e
  ·rename_i hl
   cases e
   obtain ⟨a,g1,g2,g3,g4⟩:=h.ac i _ ei
   obtain ⟨ps,hx,rx⟩:=g4
   refine h2 fx H0 env σ H h r er _ fun v H' s hv=>⟨_,g1,h1 fx H0 env σ H' (h.up s) k ek _ fun u H2 s2 hk=>?_⟩
   have t2:=s.trans s2
   have h':=(h.up t2).frzs r.bs
   have ei':=zld hl.2 ei
   have hx':=t2 _ _ hx
   have rx':Rpd (Offs (fun b=>fx b∨own (frzs env r.bs) σ b) H2) kvs ps:=by
    obtain ⟨a',z1,_,_,z4⟩:=h'.ac i _ ei'
    rw [g1] at z1
    cases z1
    obtain ⟨ys,y1,y2⟩:=z4
    rw [hx'] at y1
    cases y1
    exact y2
   rw [zaif hk.rp ekk]
   refine ⟨a,_,rfl,DPut.k hx' (zso (by rw [← rx.length];exact hl.1)),?_⟩
   refine q σ _ (h'.mut ei' g1 ⟨_,zbx,rx'.put ekk (Rp.same (Offs.sub zhd) _ (hv.later (Same.refl _) s2 fun _ z=>z).rp)⟩)
  ·cases e
 ·cases e
noncomputable def sUpd (i:Nat) (f:EF):SF:=fun env=>match env[i]? with
 | some (.ac (.dict kvs))=>(f env).bind fun r=>match r.d with
  | .dict more=>if kvs.length+more.length≤100000∧i∉r.bs then some (.nx ((frzs env r.bs).set i (.ac (.dict (zoc kvs more))))) else none
  | _=>none
 | _=>none
theorem zaou {K:qB} {i:Nat} {te:TE} {f:EF} (h1:SE te f):SS (tDrop (tBM K "dict" zahv (tVar i) (tCons te tNil))) (sUpd i f):=by
 intro fx H0 env σ H D h o e q
 unfold sUpd at e
 split at e
 ·rename_i kvs ei
  obtain ⟨⟨rd,rfr,rbs⟩,er,e⟩:=qA.mp e
  cases rd with
  | dict more =>
   have e:(if kvs.length+more.length≤100000∧i∉rbs then some (Out.nx ((frzs env rbs).set i (.ac (.dict (zoc kvs more))))) else none)=some o:=e
   split at e
   ·rename_i hl
    cases e
    obtain ⟨a,g1,g2,g3,g4⟩:=h.ac i _ ei
    obtain ⟨ps,hx,rx⟩:=g4
    refine ⟨_,g1,.inr (.inr (.inl ⟨rfl,.inl ⟨_,hx⟩⟩)),h1 fx H0 env σ H h _ er _ fun v H' s hv=>?_⟩
    have h':=(h.up s).frzs rbs
    have ei':=zld hl.2 ei
    have hx':=s _ _ hx
    have rx':Rpd (Offs (fun b=>fx b∨own (frzs env rbs) σ b) H') kvs ps:=by
     obtain ⟨a',z1,_,_,z4⟩:=h'.ac i _ ei'
     rw [g1] at z1
     cases z1
     obtain ⟨ys,y1,y2⟩:=z4
     rw [hx'] at y1
     cases y1
     exact y2
    obtain ⟨b,qs,rfl,hb,rb⟩:=zlb (Rp.same (Offs.sub zhd) _ hv.rp)
    have hab:a≠b:=fun z=>by
     subst z
     exact (Offs.of hb).1 (.inr ⟨i,_,ei',g1⟩)
    refine ⟨a,b,ps,qs,rfl,rfl,hab,hx',zez hb,zkm (by rw [← rx.length,← rb.length];exact hl.1),?_⟩
    exact q σ _ (h'.mut ei' g1 ⟨_,zbx,rx'.merge rb⟩)
   ·cases e
  | _=>cases e
 ·cases e
theorem EnvOk.rebase {fx:Addr→Prop} {H0:Hp} {env:DEnv} {σ:St} {H:Hp} (h:EnvOk fx H0 env σ H):EnvOk fx (Offs (own env σ) H) env σ H:=by
 refine ⟨h.len,h.pl,fun i d e=>?_,h.inj,Offs.same _ _,h.fxs⟩
 obtain ⟨a,h1,h2,h3,h4⟩:=h.ac i d e
 exact ⟨a,h1,Offs.out ⟨i,d,e,h1⟩,h3,h4⟩
theorem EnvOk.floor {fx:Addr→Prop} {H0:Hp} {env:DEnv} {σ:St} {H:Hp} (h:EnvOk fx H0 env σ H):Same H0 (Offs (own env σ) H):=fun b o e=>by
 rw [Offs.get]
 ·exact h.base b o e
 ·rintro ⟨i,d,h1,h2⟩
  obtain ⟨a,g1,g2,_⟩:=h.ac i d h1
  rw [h2] at g1
  cases g1
  rw [g2] at e
  cases e
theorem EnvOk.unbase {fx:Addr→Prop} {H0 F:Hp} {env:DEnv} {σ:St} {H:Hp} (h:EnvOk fx F env σ H) (s:Same H0 F):EnvOk fx H0 env σ H:=by
 refine ⟨h.len,h.pl,fun i d e=>?_,h.inj,s.trans h.base,h.fxs⟩
 obtain ⟨a,h1,h2,h3,h4⟩:=h.ac i d e
 exact ⟨a,h1,s.free h2,h3,h4⟩
theorem zafs.unbase {fx:Addr→Prop} {H0 F:Hp} {d:PyData} {fr:Bool} {v:V} {H:Hp} (h:zafs fx F d fr v H) (s:Same H0 F):zafs fx H0 d fr v H :=
 ⟨h.1,fun e=>let ⟨a,h1,h2,h3⟩:=h.2 e;⟨a,h1,s.free h2,h3⟩⟩
theorem EnvOk.seen {fx:Addr→Prop} {env env':DEnv} {σ σ':St} {H H':Hp} (h:EnvOk fx (Offs (own env σ) H) env' σ' H'):Same (Offs (fun b=>fx b∨own env σ b) H) (Offs (fun b=>fx b∨own env' σ' b) H'):=fun b o e=>by
 obtain ⟨h1,h2⟩:=Offs.of e
 have hF:Offs (own env σ) H b=some o:=by rw [Offs.get fun z=>h1 (.inr z)];exact h2
 rw [Offs.get]
 ·exact h.base b o hF
 ·rintro (z|⟨i,d,g1,g2⟩)
  ·exact h1 (.inl z)
  ·obtain ⟨a,k1,k2,_⟩:=h.ac i d g1
   rw [g2] at k1
   cases k1
   rw [k2] at hF
   cases hF
theorem EnvOk.all {fx:Addr→Prop} {H0:Hp} {env:DEnv} {σ:St} {H:Hp} (h:EnvOk fx H0 env σ H):∀ b,fx b∨own env σ b→∃ o,H b=some o:=fun b z=>h.lims [] b (zaqn b z)
noncomputable def Yl (A0:Addr→Prop) (H1:Hp) (J:It) (ds:List PyData):Prop:=∀ (A:Addr→Prop) (H':Hp),(∀ b,A b→∃ o,H' b=some o)→Same (Offs A0 H1) (Offs A H') →
 (∀ i d,ds[i]?=some d→J.go i H'∧∀ x H'',J.yld i H' x H''→Same H' H''∧Rp (Offs A H'') d x)∧J.stop ds.length H'
abbrev IF':=DEnv→Option (List PyData×List Nat)
noncomputable def SI (wi:TI) (f:IF'):Prop:=∀ (fx:Addr→Prop) (H0:Hp) (env:DEnv) (σ:St) (H:Hp),EnvOk fx H0 env σ H→∀ ds bs,f env=some (ds,bs)→∀ R:It→Hp→Prop,
 (∀ J H1,Same H H1→Yl (fun b=>fx b∨own (frzs env bs) σ b) H1 J ds→R J H1)→wi σ H R
noncomputable def iSeq (K:qB) (te:TE):TI:=fun σ H R=>te σ H fun x H1=>∃ a,x=.ref a∧((∃ xs,SqL K H1 a xs)∧R (Itl K a) H1∨(∃ xs,SqT K H1 a xs)∧R (Itt K a) H1)
theorem zatp {X:Cx} {tg l:Expr} {tl:TE} (hl:PE X l tl):PI X tg l (iSeq X.K tl):=by
 intro pins s σ H R I h
 refine thn (hl pins s σ H _ I h) fun v s1 ⟨x,H1,I1,r1,q1⟩=>?_
 obtain ⟨a,e,q⟩:=q1
 subst e
 cases r1
 rcases q with ⟨⟨xs,hq⟩,q⟩|⟨⟨xs,hq⟩,q⟩
 ·obtain ⟨its,rv,p,hz⟩:=I1.list hq
  refine qAv p.isList ?_
  refine ⟨s1.heap.objs.size,[s1.heap.objs.size],_,_,H1,rfl,I1.kept (t':=s1.toks) fun b o e=>qG _ e,zyd a _,⟨_,qq _ rfl,rfl,rfl⟩,fun b hb=>?_,q⟩
  have e:b=s1.heap.objs.size:=by simpa using hb
  subst e
  exact I1.fpOk (qM _) (I1.hok.fresh (qM _))
 ·obtain ⟨its,rv,p,hz⟩:=I1.tuple hq
  refine qAt (show s1.heap.IsTuple a its.toArray from p) ?_
  refine ⟨s1.heap.objs.size,[s1.heap.objs.size],_,_,H1,rfl,I1.kept (t':=s1.toks) fun b o e=>qG _ e,zafg a _,⟨_,qq _ rfl,rfl,rfl⟩,fun b hb=>?_,q⟩
  have e:b=s1.heap.objs.size:=by simpa using hb
  subst e
  exact I1.fpOk (qM _) (I1.hok.fresh (qM _))
theorem zaqt {X:Cx} {K:qB} (hK:X.K=K) {tg l:Expr} {tl:TE} (hl:PE X l tl):PI X tg l (iSeq K tl):=by subst hK;exact zatp hl
def zbg (f:EF):IF':=fun env=>(f env).bind fun r=>(zig r.d).map fun ds=>(ds,r.bs)
theorem zaqu {K:qB} {A0:Addr→Prop} {H1:Hp} {a:Addr} {ds:List PyData} {xs:List V} (h:Offs A0 H1 a=some (.lst xs)) (r:Rps (Offs A0 H1) ds xs):Yl A0 H1 (Itl K a) ds:=by
 intro A H' hA s
 have ha:=zez (s _ _ h)
 have r':=Rps.same s _ r
 refine ⟨fun i d e=>?_,⟨xs,SqL.of ha,by rw [r.length];exact qM _⟩⟩
 obtain ⟨v,hv,rv⟩:=r'.get2 e
 refine ⟨⟨xs,v,SqL.of ha,hv⟩,fun x H'' y=>?_⟩
 obtain ⟨rfl,y⟩:=y
 have:=y xs (SqL.of ha)
 rw [hv] at this
 cases this
 exact ⟨Same.refl _,rv⟩
theorem zatq {K:qB} {A0:Addr→Prop} {H1:Hp} {a:Addr} {ds:List PyData} {xs:List V} (h:Offs A0 H1 a=some (.tup xs)) (r:Rps (Offs A0 H1) ds xs):Yl A0 H1 (Itt K a) ds:=by
 intro A H' hA s
 have ha:=zez (s _ _ h)
 have r':=Rps.same s _ r
 refine ⟨fun i d e=>?_,⟨xs,SqT.of ha,by rw [r.length];exact qM _⟩⟩
 obtain ⟨v,hv,rv⟩:=r'.get2 e
 refine ⟨⟨xs,v,SqT.of ha,hv⟩,fun x H'' y=>?_⟩
 obtain ⟨rfl,y⟩:=y
 have:=y xs (SqT.of ha)
 rw [hv] at this
 cases this
 exact ⟨Same.refl _,rv⟩
theorem zei {K:qB} {te:TE} {f:EF} (h1:SE te f):SI (iSeq K te) (zbg f):=by
 intro fx H0 env σ H h ds bs e R q
 unfold zbg at e
 obtain ⟨⟨d,fr,bs'⟩,er,e⟩:=qA.mp e
 obtain ⟨es,he,e⟩:=qK.mp e
 cases e
 refine h1 fx H0 env σ H h _ er _ fun v H1 s hv=>?_
 have rp:=Rp.same (Offs.sub (zhd (bs:=bs'))) _ hv.rp
 cases d with
 | list ds =>
  cases he
  obtain ⟨a,xs,rfl,ha,r⟩:=zfz rp
  exact ⟨a,rfl,.inl ⟨⟨xs,SqL.of (zez ha)⟩,q _ H1 s (zaqu ha r)⟩⟩
 | tuple ds =>
  cases he
  obtain ⟨a,xs,rfl,ha,r⟩:=zel rp
  exact ⟨a,rfl,.inr ⟨⟨xs,SqT.of (zez ha)⟩,q _ H1 s (zatq ha r)⟩⟩
 | _=>cases he
def zrq (ds:List PyData):List PyData:=ds.zipIdx.map fun p=>.tuple [.int p.2,p.1]
noncomputable def zqw (f:AF):IF':=fun env=>(f env).bind fun rs=>match rs with
 | [r]=>match r.d with
  | .list ds=>some (zrq ds,r.bs)
  | _=>none
 | _=>none
def zqx (lo:Int) (n:Nat):List PyData:=(List.range n).map fun (k:Nat)=>.int (lo+(k:Int))
theorem zaml {A0:Addr→Prop} {H1:Hp} {lo:Int} {n:Nat}:Yl A0 H1 (Itr lo n) (zqx lo n):=by
 intro A H' hA s
 have hl:(zqx lo n).length=n:=by unfold zqx;simp
 refine ⟨fun i d e=>?_,by rw [hl];exact qM _⟩
 unfold zqx at e
 rw [qL] at e
 by_cases hi:i<n
 ·rw [List.getElem?_range hi] at e
  cases e
  exact ⟨hi,fun x H'' ⟨e1,e2⟩=>by subst e1;subst e2;exact ⟨Same.refl _,zaf⟩⟩
 ·rw [qCt (by simpa using hi)] at e
  cases e
noncomputable def zer (f:AF):IF':=fun env=>(f env).bind fun rs=>match rs with
 | [⟨.int j,_,_⟩]=>if -(2 ^ 62)≤j∧j<2 ^ 62 then some (zqx 0 j.toNat,[]) else none
 | _=>none
theorem zme {ta:TA} {f:AF} (h1:SA ta f):SI (iRng1 ta) (zer f):=by
 intro fx H0 env σ H h ds bs e R q
 unfold zer at e
 obtain ⟨rs,er,e⟩:=qA.mp e
 split at e
 ·split at e
  ·rename_i hj
   cases e
   refine h1 fx H0 env σ H h _ er _ fun vs H1 s hv=>?_
   cases hv with
   | cons hv t =>
    cases t
    cases zfv hv.rp
    exact ⟨_,rfl,hj.1,hj.2,q _ H1 s zaml⟩
  ·cases e
 ·cases e
noncomputable def forL (g:GT) (body:SF):List PyData→DEnv→Option Out
 | [],env=>some (.nx env)
 | d::ds,env=>(g d env).bind fun e1=>(body e1).bind fun o=>match o with
  | .nx e2=>forL g body ds e2
  | .ct e2=>forL g body ds e2
  | .bk e2=>some (.nx e2)
  | .rt d fr=>some (.rt d fr)
def sFor (f:IF') (g:GT) (body:SF):SF:=fun env=>(f env).bind fun z=>forL g body z.1 (frzs env z.2)
theorem zhn {wi:TI} {g:TG} {tb:TS} {f:IF'} {gf:GT} {body:SF} (h1:SI wi f) (h2:SG g gf) (h3:SS tb body):SS (tFor wi g tb) (sFor f gf body):=by
 intro fx H0 env σ H D h o e q
 unfold sFor at e
 obtain ⟨⟨ds,bs⟩,er,e⟩:=qA.mp e
 refine h1 fx H0 env σ H h ds bs er _ fun J H1 s yl=>?_
 have hE:=(h.up s).frzs bs
 have fl:=hE.floor
 refine ⟨fun i m σ' H'=>m=ds.length - i∧i≤ds.length∧∃ env',forL gf body (ds.drop i) env'=some o∧EnvOk fx (Offs (own (frzs env bs) σ) H1) env' σ' H',⟨ds.length,rfl,qAf _,_,e,hE.rebase⟩,?_⟩
 rintro i m σ' H' ⟨rfl,hi,env',e',h'⟩
 obtain ⟨yi,ys⟩:=yl _ H' h'.all h'.seen
 by_cases hlt:i<ds.length
 ·obtain ⟨yg,yy⟩:=yi i ds[i] (qE hlt)
  refine .inr ⟨yg,fun σ'' H''=>i+1≤ds.length∧∃ env'',forL gf body (ds.drop (i+1)) env''=some o∧EnvOk fx (Offs (own (frzs env bs) σ) H1) env'' σ'' H'',?_,?_⟩
  ·rintro σ'' H'' ⟨hle,env'',e'',h''⟩
   exact ⟨ds.length - (i+1),by omega,rfl,hle,env'',e'',h''⟩
  ·intro x H'' hy
   obtain ⟨sy,ry⟩:=yy x H'' hy
   rw [qBF hlt] at e'
   obtain ⟨e1,ee1,e'⟩:=qA.mp e'
   obtain ⟨o1,eo1,e'⟩:=qA.mp e'
   refine h2 fx _ env' σ' H'' _ x (h'.up sy) ry e1 ee1 _ fun σ2 h2'=>h3 fx _ e1 σ2 H'' _ h2' o1 eo1 ?_
   cases o1 with
   | nx e2=>exact fun σ3 H3 hh=>⟨hlt,e2,e',hh⟩
   | ct e2=>exact fun σ3 H3 hh=>⟨hlt,e2,e',hh⟩
   | bk e2=>cases e';exact fun σ3 H3 hh=>q σ3 H3 (hh.unbase fl)
   | rt d fr=>cases e';exact fun v H3 sh rt=>q v H3 (fl.trans sh) (rt.unbase fl)
 ·have hi':i=ds.length:=by omega
  subst hi'
  rw [qBR] at e'
  cases e'
  exact .inl ⟨ys,q σ' H' (h'.unbase fl)⟩
def zho (n:Nat) (ds:List PyData):DEnv:=ds.map .pl++List.replicate (n - ds.length) .no
def fnD (n:Nat) (f:SF):GF:=fun ds=>match f (zho n ds) with
 | some (.rt d fr)=>some (d,fr)
 | some (.nx _)=>some (.none,false)
 | _=>none
theorem zox {ds:List PyData} {n i:Nat} {sl:Sl} (e:(zho n ds)[i]?=some sl):(∃ d,ds[i]?=some d∧sl=.pl d)∨sl=.no:=by
 unfold zho at e
 by_cases hi:i<ds.length
 ·rw [qAH (by simpa using hi),qL,qE hi] at e
  cases e
  exact .inl ⟨_,qE hi,rfl⟩
 ·rw [qAW (by simpa using hi),qBK] at e
  split at e
  ·cases e;exact .inr rfl
  ·cases e
theorem zyy {fx:Addr→Prop} {H:Hp} {N:List Str} {ds:List PyData} {vs:List V} (hf:∀ b,fx b→∃ o,H b=some o) (r:Rps (Offs fx H) ds vs):EnvOk fx H (zho N.length ds) (zko N vs) H:=by
 have no:∀ (i:Nat) (d:PyData),(zho N.length ds)[i]?≠some (Sl.ac d):=fun i d e=>by
  rcases zox e with ⟨d',_,z⟩|z<;>cases z
 refine ⟨?_,fun i d e=>?_,fun i d e=>absurd e (no i d),fun i j d e a h1=>absurd h1 (no i d),Same.refl _,hf⟩
 ·unfold zho zko
  rw [qb,qb,qC,qC,qAl,qAl,r.length]
 ·rcases zox e with ⟨d',hd,z⟩|z
  ·cases z
   obtain ⟨v,hv,rv⟩:=r.get2 hd
   refine ⟨v,?_,Rp.same (Offs.sub fun b z=>?_) _ rv⟩
   ·unfold zko
    have hi:i<vs.length:=(qZ.mp hv).1
    rw [qAH (by simpa using hi),qL,hv];rfl
   ·rcases z with z|⟨j,d',z,_⟩
    ·exact z
    ·exact absurd z (no j d')
  ·cases z
theorem fn_d {N:List Str} {n:Nat} {f:SF} {t:TS} (hs:SS t f) {vs:List V} {H:Hp} {Q:VK} {E:XK} (h:spD n (fnD N.length f) vs H Q E):t {nx:=fun _ H'=>Q .non H',rt:=Q} (zko N vs) H:=by
 obtain ⟨fx,ds,d,fr,hn,hf,r,g,k⟩:=h
 unfold fnD at g
 split at g
 ·rename_i d' fr' eo
  cases g
  exact hs fx H _ _ H _ (zyy hf r) _ eo fun v H' s rt=>k v H' s rt
 ·rename_i e' eo
  cases g
  exact hs fx H _ _ H _ (zyy hf r) _ eo fun σ H' hE=>k .non H' hE.base ⟨znb,fun z=>by cases z⟩
 ·cases g
theorem zcw {n:Nat} {g:GF} {vs:List V} {H:Hp} {Q:VK} {E:XK} (h:spD n g vs H Q E):vs.length=n:=by
 obtain ⟨fx,ds,d,fr,hn,hf,r,_⟩:=h
 rw [← r.length];exact hn
def zaqv:Sl→Sl
 | .ac d=>.pl d
 | s=>s
def envB (own:List Str) (fr:List Nat) (env:DEnv):DEnv:=own.map (fun _=>Sl.no)++fr.map (fun j=>zaqv (env.getD j .no))
def isAc:Option Sl→Bool
 | some (.ac _)=>true
 | _=>false
def capA (fr:List Nat) (env:DEnv):List Nat:=fr.filter fun j=>isAc env[j]?
theorem zwt {own:List Str} {fr:List Nat} {env:DEnv} {i:Nat} {d:PyData} (e:(envB own fr env)[i]?=some (.pl d)):∃ j k,i=own.length+k∧fr[k]?=some j∧(env[j]?=some (.pl d)∨env[j]?=some (.ac d)):=by
 unfold envB at e
 by_cases hi:i<own.length
 ·rw [qAH (by simpa using hi),qL,qE hi] at e
  cases e
 ·rw [qAW (by simpa using hi),qC,qL] at e
  cases ej:fr[i - own.length]? with
  | none=>rw [ej] at e;cases e
  | some j =>
   rw [ej] at e
   refine ⟨j,i - own.length,by omega,ej,?_⟩
   have e:zaqv (env.getD j .no)=.pl d:=qr e
   rw [qAF] at e
   cases ev:env[j]? with
   | none=>rw [ev] at e;cases e
   | some s =>
    rw [ev] at e
    cases s with
    | no=>cases e
    | pl d'=>cases e;exact .inl rfl
    | ac d'=>cases e;exact .inr rfl
theorem zle {own:List Str} {fr:List Nat} {env:DEnv} {i:Nat} {d:PyData}:(envB own fr env)[i]?≠some (.ac d):=by
 intro e
 unfold envB at e
 by_cases hi:i<own.length
 ·rw [qAH (by simpa using hi),qL,qE hi] at e
  cases e
 ·rw [qAW (by simpa using hi),qC,qL] at e
  cases ej:fr[i - own.length]? with
  | none=>rw [ej] at e;cases e
  | some j =>
   rw [ej] at e
   have e:zaqv (env.getD j .no)=.ac d:=qr e
   cases ev:env.getD j .no with
   | no=>rw [ev] at e;cases e
   | pl d'=>rw [ev] at e;cases e
   | ac d'=>rw [ev] at e;cases e
theorem zail {own:List Str} {fr:List Nat} {σ:St} {k j:Nat} {v:V} (hk:fr[k]?=some j) (hv:σ[j]?=some (some v)):(tau own fr σ)[own.length+k]?=some (some v):=by
 unfold tau
 rw [qAW (by simp),qC,Nat.add_sub_cancel_left,qL,hk]
 show some (σ.getD j none)=_
 rw [qAF,hv];rfl
theorem zyz {fx:Addr→Prop} {H0:Hp} {env:DEnv} {σ:St} {H H1:Hp} {p:Addr} (h:EnvOk fx H0 env σ H) (s:Same H H1) (hp:H1 p=none) (own:List Str) (fr:List Nat) (bs:List Nat) :
  EnvOk (fun b=>lim fx env σ (bs++capA fr env) b∨b=p) H1 (envB own fr env) (tau own fr σ) (upd H1 p (.lst [])):=by
 have h1:=h.up s
 have sp:Same H1 (upd H1 p (.lst [])):=Same.new hp
 have so:Same (Offs (fun b=>fx b∨L2.own env σ b) H1) (Offs (fun b=>(lim fx env σ (bs++capA fr env) b∨b=p)∨L2.own (envB own fr env) (tau own fr σ) b) (upd H1 p (.lst []))):=Offs.mono sp fun b o e n z=>by
  rcases z with (z|z)|⟨i,d,z,_⟩
  ·exact n (zpy b z)
  ·rw [z,hp] at e;cases e
  ·exact absurd z zle
 refine ⟨?_,fun i d e=>?_,fun i d e=>absurd e zle,fun i j d e a z=>absurd z zle,sp,fun b z=>?_⟩
 ·unfold envB tau;simp
 ·obtain ⟨j,k,rfl,hk,hj⟩:=zwt e
  rcases hj with hj|hj
  ·obtain ⟨v,h2,h3⟩:=h1.pl j d hj
   exact ⟨v,zail hk h2,Rp.same so _ h3⟩
  ·obtain ⟨a,h2,h3,h4,h5⟩:=h1.ac j d hj
   refine ⟨_,zail hk h2,h5.rp so fun o eo=>?_⟩
   rw [Offs.get]
   ·exact sp _ _ eo
   ·rintro ((z|⟨i',d',z1,z2,z3⟩)|⟨i',d',z,_⟩)
    ·rcases z with z|⟨i',d',z1,z2,z3⟩
     ·exact h4 z
     ·have e2:=h1.inj i' j d' d a z2 hj z3 h2
      subst e2
      refine z1 (qo _ (qc.mpr ⟨qAs hk,?_⟩))
      rw [hj];rfl
    ·rw [hp] at eo;cases eo
    ·exact absurd z zle
 ·rcases z with z|z
  ·obtain ⟨o,e⟩:=h1.lims _ b z;exact ⟨o,sp b o e⟩
  ·rw [z];exact ⟨_,zbx⟩
theorem EnvOk.weaken {fx:Addr→Prop} {H0:Hp} {env e1:DEnv} {σ:St} {H:Hp} (h:EnvOk fx H0 e1 σ H) (hl:env.length=e1.length) (hp:∀ (i:Nat) (d:PyData),env[i]?=some (.pl d)→e1[i]?=some (.pl d)) (ha:∀ (i:Nat) (d:PyData),env[i]?≠some (.ac d)):EnvOk fx H0 env σ H:=by
 refine ⟨hl.trans h.len,fun i d e=>?_,fun i d e=>absurd e (ha i d),fun i j d e a z=>absurd z (ha i d),h.base,h.fxs⟩
 obtain ⟨v,h1,h2⟩:=h.pl i d (hp i d e)
 exact ⟨v,h1,Rp.same (Offs.sub fun b z=>z.imp (fun y=>y) fun ⟨j,d',z,_⟩=>absurd z (ha j d')) _ h2⟩
theorem EnvOk.updFx {fx:Addr→Prop} {H0:Hp} {env:DEnv} {σ:St} {H:Hp} {p:Addr} {o:HO} (h:EnvOk fx H0 env σ H) (hp:fx p) (h0:H0 p=none):EnvOk fx H0 env σ (upd H p o):=by
 have so:Offs (fun b=>fx b∨own env σ b) (upd H p o)=Offs (fun b=>fx b∨own env σ b) H:=Offs.upd (.inl hp)
 refine ⟨h.len,fun i d e=>?_,fun i d e=>?_,h.inj,fun b u e=>by rw [zcp (zcr e h0)];exact h.base b u e,fun b z=>?_⟩
 ·rw [so];exact h.pl i d e
 ·obtain ⟨a,h1,h2,h3,h4⟩:=h.ac i d e
  rw [so]
  exact ⟨a,h1,h2,h3,h4.same (Same.refl _) fun u z=>by rw [zcp fun y=>h3 (by rw [y];exact hp)];exact z⟩
 ·by_cases e:b=p
  ·rw [e];exact ⟨_,zbx⟩
  ·obtain ⟨u,hu⟩:=h.fxs b z
   exact ⟨u,by rw [zcp e];exact hu⟩
def GX (n:Nat) (g:GT):Prop:=∀ d env e1,g d env=some e1→e1.length=env.length∧∀ i,n≤i→e1[i]?=env[i]?
def GXs (n:Nat) (g:GTs):Prop:=∀ ds env e1,g ds env=some e1→e1.length=env.length∧∀ i,n≤i→e1[i]?=env[i]?
theorem zlf {n i:Nat} (h:i<n):GX n (gN i):=by
 intro d env e1 e
 cases e
 exact ⟨qAR,fun j hj=>qAL (by omega)⟩
theorem zga {n:Nat}:GXs n zco:=by
 intro ds env e1 e
 cases ds with
 | nil=>cases e;exact ⟨rfl,fun _ _=>rfl⟩
 | cons _ _=>cases e
theorem zby {n i:Nat} {g:GTs} (h:i<n) (hg:GXs n g):GXs n (zap i g):=by
 intro ds env e1 e
 cases ds with
 | nil=>cases e
 | cons d ds =>
  obtain ⟨h1,h2⟩:=hg ds _ e1 e
  rw [qAR] at h1
  exact ⟨h1,fun j hj=>(h2 j hj).trans (qAL (by omega))⟩
theorem zih {n m:Nat} {g:GTs} (hg:GXs n g):GX n (gT m g):=by
 intro d env e1 e
 unfold gT at e
 cases d with
 | tuple ds =>
  have e:(if ds.length=m then g ds env else none)=some e1:=e
  split at e
  ·exact hg ds env e1 e
  ·cases e
 | _=>cases e
noncomputable def zej (g:GT) (t:TF) (e:EF) (env:DEnv):List PyData→Option (List PyData)
 | []=>some []
 | d::ds=>(g d env).bind fun e1=>(t e1).bind fun b=>if b=true then (e e1).bind fun r=>(zej g t e env ds).map fun rs=>r.d::rs else zej g t e env ds
noncomputable def zdg (own:List Str) (fr:List Nat) (fi:IF') (g:GT) (t:TF) (e:EF):EF:=fun env=>(fi env).bind fun z=>if z.1.length<100000 then
 (zej g t e (envB own fr env) z.1).map fun rs=>⟨.list rs,true,if zgj rs=true then [] else z.2++capA fr env⟩ else none
theorem zoy {H H':Hp} {ds:List PyData} {vs:List V} (f:zgj ds=true) (h:Rps H ds vs):Rps H' ds vs:=by
 replace h:=zex.mp h
 induction h with
 | nil=>exact zey
 | cons h _ ih =>
  unfold zgj at f
  rw [qAk,qY] at f
  exact zew (zabx f.1 h) (ih f.2)
theorem zds {own:List Str} {fr:List Nat} {wi:TI} {g:TG} {tt:TT} {te:TE} {fi:IF'} {gf:GT} {t:TF} {e:EF} (h1:SI wi fi) (h2:SG g gf) (hx:GX own.length gf) (h3:ST tt t) (h4:SE te e) :
  SE (tComp1 wi g tt te own fr) (zdg own fr fi gf t e):=by
 intro fx H0 env σ H h rr hr Q q
 unfold zdg at hr
 obtain ⟨⟨ds,bs⟩,ei,hr⟩:=qA.mp hr
 split at hr
 ·rename_i hlen
  have hlen:ds.length<100000:=hlen
  obtain ⟨rs,ers,rfl⟩:=qK.mp hr
  refine h1 fx H0 env σ H h ds bs ei _ fun J H1 s yl=>fun p hp=>?_
  have hB:=zyz h s hp own fr bs
  generalize hA:(fun b=>lim fx env σ (bs++capA fr env) b)=A
  have hA':∀ b,lim fx env σ (bs++capA fr env) b↔A b:=fun b=>by rw [← hA]
  have eA:(fun b=>lim fx env σ (bs++capA fr env) b∨b=p)=fun b=>A b∨b=p:=by rw [← hA]
  rw [eA] at hB
  have nA:¬ A p:=fun z=>by
   obtain ⟨o,eo⟩:=(h.up s).lims _ p ((hA' p).mpr z)
   rw [hp] at eo;cases eo
  have seen:∀ {σ':St} {H':Hp},EnvOk (fun b=>A b∨b=p) H1 (envB own fr env) σ' H'→Same (Offs (fun b=>fx b∨L2.own (frzs env bs) σ b) H1) (Offs (fun b=>A b∨b=p) H'):=fun {σ' H'} hE=>Offs.mono hE.base fun b o eo n z=>by
   rcases z with z|z
   ·rcases (hA' b).mpr z with z|⟨i,d,z1,z2,z3⟩
    ·exact n (.inl z)
    ·exact n (.inr ⟨i,d,zld (fun y=>z1 (qAD _ y)) z2,z3⟩)
   ·rw [z,hp] at eo;cases eo
  refine ⟨fun i m σ' H'=>m=ds.length - i∧i≤ds.length∧∃ vs done rest,H' p=some (.lst vs)∧Rps (Offs (fun b=>A b∨b=p) H') done vs∧done.length≤i∧zej gf t e (envB own fr env) (ds.drop i)=some rest∧done++rest=rs∧EnvOk (fun b=>A b∨b=p) H1 (envB own fr env) σ' H',
   ⟨ds.length,rfl,qAf _,[],[],rs,zbx,zey,qAf _,ers,rfl,hB⟩,?_⟩
  rintro i m σ' H' ⟨rfl,hi,vs,done,rest,ep,rd,dl,ec,edr,hE⟩
  obtain ⟨yi,ys⟩:=yl _ H' hE.fxs (seen hE)
  by_cases hlt:i<ds.length
  ·obtain ⟨yg,yy⟩:=yi i ds[i] (qE hlt)
   refine .inr ⟨yg,fun σ'' H''=>i+1≤ds.length∧∃ vs done rest,H'' p=some (.lst vs)∧Rps (Offs (fun b=>A b∨b=p) H'') done vs∧done.length≤i+1∧zej gf t e (envB own fr env) (ds.drop (i+1))=some rest∧done++rest=rs∧EnvOk (fun b=>A b∨b=p) H1 (envB own fr env) σ'' H'',?_,?_⟩
   ·rintro σ'' H'' ⟨hle,hh⟩
    exact ⟨ds.length - (i+1),by omega,rfl,hle,hh⟩
   ·intro x H'' hy
    obtain ⟨sy,ry⟩:=yy x H'' hy
    rw [qBF hlt] at ec
    obtain ⟨e1,ee1,ec⟩:=qA.mp ec
    obtain ⟨b,eb,ec⟩:=qA.mp ec
    have ry':Rp (Offs (fun a=>(A a∨a=p)∨L2.own (envB own fr env) σ' a) H'') ds[i] x:=Rp.same (Offs.sub fun b z=>z.elim (fun y=>y) fun ⟨j,d',z,_⟩=>absurd z zle) _ ry
    refine h2 _ H1 (envB own fr env) σ' H'' _ x (hE.up sy) ry' e1 ee1 _ fun σ2 hE2=>?_
    refine h3 _ H1 e1 σ2 H'' hE2 b eb _ fun H3 s3=>?_
    have hE3:=hE2.up s3
    obtain ⟨gl,gk⟩:=hx _ _ _ ee1
    have back:∀ {H4:Hp},EnvOk (fun b=>A b∨b=p) H1 e1 σ2 H4→EnvOk (fun b=>A b∨b=p) H1 (envB own fr env) σ2 H4:=fun {H4} hh=>hh.weaken gl.symm (fun j d' ej=>by
     by_cases hj:own.length≤j
     ·rw [gk j hj];exact ej
     ·obtain ⟨_,k,rfl,_⟩:=zwt ej;omega) fun j d'=>zle
    cases b with
    | false =>
     have ec:zej gf t e (envB own fr env) (ds.drop (i+1))=some rest:=ec
     exact iteF ⟨hlt,vs,done,rest,s3 _ _ (sy _ _ ep),Rps.same (Offs.grow (sy.trans s3)) _ rd,Nat.le_succ_of_le dl,ec,edr,back hE3⟩
    | true =>
     have ec:((e e1).bind fun r=>(zej gf t e (envB own fr env) (ds.drop (i+1))).map fun rs=>r.d::rs)=some rest:=ec
     obtain ⟨r,er,ec⟩:=qA.mp ec
     obtain ⟨rest',er',rfl⟩:=qK.mp ec
     refine iteT (h4 _ H1 e1 σ2 H3 hE3 r er _ fun v H4 s4 hv=>?_)
     have t4:=(sy.trans s3).trans s4
     refine ⟨vs,t4 _ _ ep,zso (by rw [← rd.length];omega),hlt,vs++[v],done++[r.d],rest',zbx,?_,by rw [qb];simp;omega,er',by rw [← edr];simp,(back (hE3.up s4)).updFx (.inr rfl) hp⟩
     rw [Offs.upd (.inr rfl)]
     exact (Rps.same (Offs.grow t4) _ rd).append (zew (Rp.same (Offs.sub fun b z=>.inl z) _ hv.rp) zey)
  ·have hi':i=ds.length:=by omega
   subst hi'
   rw [qBR] at ec
   cases ec
   rw [qAh] at edr
   subst edr
   refine .inl ⟨ys,q _ H' (s.trans hE.base) ⟨?_,fun _=>⟨p,rfl,s.free hp,?_⟩⟩⟩
   ·show Rp (Offs (lim fx env σ (if zgj done=true then [] else bs++capA fr env)) H') (.list done) (.ref p)
    have nl:∀ cs,¬ lim fx env σ cs p:=fun cs z=>by
     obtain ⟨o,eo⟩:=(h.up s).lims _ p z
     rw [hp] at eo;cases eo
    refine zkp (by rw [Offs.get (nl _)];exact ep) ?_
    split
    ·rename_i f;exact zoy f rd
    ·exact Rps.same (Offs.sub fun b z=>.inl ((hA' b).mp z)) _ rd
   ·show ziv (Offs (fun b=>lim fx env σ (if zgj done=true then [] else bs++capA fr env) b∨b=p) H') H' p (.list done)
    refine ⟨vs,ep,?_⟩
    split
    ·rename_i f;exact zoy f rd
    ·exact Rps.same (Offs.sub fun b z=>z.imp (hA' b).mp id) _ rd
 ·cases hr
section
variable {X:Cx} {K:qB}
theorem zaim (hK:X.K=K) {a:Expr} {ta:TE} (ha:PE X a ta) (he:∀ whole,isTrue a X.env whole=(do let v ← whole;standAt a.pos;holding [v] (truthy v))) :
  PT X a (fun σ H Q=>ta σ H fun x H'=>∃ k,TruV K x H' k∧Q k H'):=by subst hK;exact zalo ha he
theorem zes (hK:X.K=K):CallR X (.type "tuple") (fun xs H Q=>∃ p ys,xs=[.ref p]∧((SqL K H p ys∧∀ l,H l=none→Q (.ref l) (upd H l (.tup ys)))∨(SqT K H p ys∧Q (.ref p) H))):=by subst hK;exact zwi
theorem zeb (hK:X.K=K) (hu:X.A.units+64<cLine):OpR X (compareOp .Eq) (fun x y H Q=>rEq x y H Q∨rEqD K false x y H Q):=by subst hK;exact zaso.or (zatj hu)
theorem zqy (hK:X.K=K) (hu:X.A.units+64<cLine):OpR X (compareOp .NotEq) (fun x y H Q=>rNe x y H Q∨rEqD K true x y H Q):=by subst hK;exact zaut.or (zatk hu)
def zdw:TF:=fun _=>some true
theorem zii:ST tAll zdw:=by
 intro fx H0 env σ H hE b hb Q q
 cases hb
 exact q H (Same.refl _)
def rIsC (neg:Bool):R2:=fun x y H Q=>∃ b,y=.bl b∧Q (.bl (if neg then !decide (x=y) else decide (x=y))) H
theorem zain {x:V} {v:Value} {b:Bool} (r:RelV x v):(v==Value.bool b)=decide (x=.bl b):=by
 cases x with
 | non=>cases r;rfl
 | bl c=>cases r;cases b<;>cases c<;>rfl
 | int _=>obtain ⟨t,rfl⟩:=r;rfl
 | str _=>obtain ⟨t,rfl⟩:=r;rfl
 | byt _=>obtain ⟨t,rfl⟩:=r;rfl
 | flt _=>obtain ⟨t,rfl⟩:=r;rfl
 | ref _=>cases r;rfl
 | ty _=>cases r;rfl
theorem zafu {x:V} {v:Value} {b:Bool} (r:RelV x v):plainIs v (.bool b)=true:=by
 cases x with
 | non=>cases r;rfl
 | bl c=>cases r;rfl
 | int _=>obtain ⟨t,rfl⟩:=r;rfl
 | str _=>obtain ⟨t,rfl⟩:=r;rfl
 | byt _=>obtain ⟨t,rfl⟩:=r;rfl
 | flt _=>obtain ⟨t,rfl⟩:=r;rfl
 | ref _=>cases r;rfl
 | ty _=>cases r;rfl
theorem zaio:OpR X (compareOp .IsNot) (rIsC true):=by
 intro pins s σ H x y v u Q I rx ry h
 obtain ⟨b,rfl,q⟩:=h
 cases ry
 exact wpAny_isNot_plain (zafu rx) ⟨.bl _,H,I,by rw [zain rx];rfl,q⟩
def isB:PyData→Bool→Bool
 | .bool c,b=>c==b
 | _,_=>false
def isCD (neg:Bool):OF:=fun d e=>match e with
 | .bool b=>some (.bool (if neg then !isB d b else isB d b),false)
 | _=>none
theorem zavc {H:Hp} {d:PyData} {v:V} {b:Bool} (h:Rp H d v):decide (v=.bl b)=isB d b:=by
 cases d with
 | list ds=>obtain ⟨a,xs,rfl,_⟩:=zfz h;rfl
 | tuple ds=>obtain ⟨a,xs,rfl,_⟩:=zel h;rfl
 | dict ds=>obtain ⟨a,xs,rfl,_⟩:=zlb h;rfl
 | bool c=>cases zkk h;exact zadp
 | _=>unfold Rp at h;subst h;rfl
theorem zavd {neg:Bool}:SO (rIsC neg) (isCD neg):=by
 intro A H x y dx dy hA rx ry d fr e Q q
 unfold isCD at e
 split at e
 ·cases e
  cases zkk ry
  refine ⟨_,rfl,?_⟩
  rw [zavc rx]
  exact q _ H (Same.refl _) zbf (fun z=>by cases z)
 ·cases e
def eNeg (a:EF):EF:=fun env=>(a env).bind fun x=>match x.d with|.int i=>some ⟨.int (-i),false,[]⟩|_=>none
theorem zaov {te:TE} {f:EF} (h1:SE te f):SE (tUn (rU fun i=>.int (-i)) te) (eNeg f):=by
 intro fx H0 env σ H h rr hr Q q
 unfold eNeg at hr
 obtain ⟨⟨d,fr,bs⟩,ex,hr⟩:=qA.mp hr
 cases d with
 | int i =>
  cases hr
  exact h1 fx H0 env σ H h _ ex _ fun v H1 s1 v1=>⟨i,zfv v1.rp,q _ H1 s1 ⟨zaf,fun z=>by cases z⟩⟩
 | _=>cases hr
noncomputable def zmf (f g:OF) (a b c:EF):EF:=fun env=>(a env).bind fun x=>(b env).bind fun y=>(f x.d y.d).bind fun z=>(asB z.1).bind fun k=>if k=true then (c env).bind fun w=>(g y.d w.d).bind fun u=>if zhl u.1=true then some ⟨u.1,false,[]⟩ else none else some ⟨.bool false,false,[]⟩
theorem zady {r r':R2} {f g:OF} {ta tb tc:TE} {fa fb fc:EF} (ho:SO r f) (ho':SO r' g) (ha:SE ta fa) (hb:SE tb fb) (hc:SE tc fc):SE (tChain r r' ta tb tc) (zmf f g fa fb fc):=by
 intro fx H0 env σ H h rr hr Q q
 unfold zmf at hr
 obtain ⟨x,ex,hr⟩:=qA.mp hr
 obtain ⟨y,ey,hr⟩:=qA.mp hr
 obtain ⟨⟨d,fr⟩,ez,hr⟩:=qA.mp hr
 obtain ⟨k,ek,hr⟩:=qA.mp hr
 refine ha fx H0 env σ H h x ex _ fun v H1 s1 v1=>hb fx H0 env σ H1 (h.up s1) y ey _ fun u H2 s2 v2=>?_
 have l1:∀ b,lim fx env σ (x.bs++y.bs) b→lim fx env σ x.bs b:=zkl fun i hi=>qAD _ hi
 have l2:∀ b,lim fx env σ (x.bs++y.bs) b→lim fx env σ y.bs b:=zkl fun i hi=>qo _ hi
 refine ho (lim fx env σ (x.bs++y.bs)) H2 v u x.d y.d ((h.up (s1.trans s2)).lims _) (v1.later (Same.refl _) s2 l1).rp (v2.later (Same.refl _) (Same.refl _) l2).rp d fr ez _ fun w H3 s3 rp _=>⟨k,as_b rp ek,?_⟩
 have t3:=(s1.trans s2).trans s3
 cases k with
 | false=>cases hr;exact iteF (q _ H3 t3 ⟨zbf,fun z=>by cases z⟩)
 | true =>
  have hr:((fc env).bind fun w=>(g y.d w.d).bind fun u=>if zhl u.1=true then some (⟨u.1,false,[]⟩:Val) else none)=some rr:=hr
  obtain ⟨w',ew,hr⟩:=qA.mp hr
  obtain ⟨⟨d',fr'⟩,ez',hr⟩:=qA.mp hr
  split at hr
  ·rename_i hf
   cases hr
   refine iteT (hc fx H0 env σ H3 (h.up t3) w' ew _ fun v' H4 s4 v4=>?_)
   have l3:∀ b,lim fx env σ (y.bs++w'.bs) b→lim fx env σ y.bs b:=zkl fun i hi=>qAD _ hi
   have l4:∀ b,lim fx env σ (y.bs++w'.bs) b→lim fx env σ w'.bs b:=zkl fun i hi=>qo _ hi
   exact ho' (lim fx env σ (y.bs++w'.bs)) H4 u v' y.d w'.d ((h.up (t3.trans s4)).lims _) (v2.later (Same.refl _) (s3.trans s4) l3).rp (v4.later (Same.refl _) (Same.refl _) l4).rp d' fr' ez' _ fun w2 H5 s5 rp5 _ =>
    q w2 H5 ((t3.trans s4).trans s5) ⟨zabx hf rp5,fun z=>by cases z⟩
  ·cases hr
end
end L2
namespace PySem
open Sem (wp)
end PySem
namespace L2
open PySem PySem.Spec PyProof.Rows
noncomputable def zaow:List PyData→Option (List (PyData×PyData))
 | []=>some []
 | .tuple [k,v]::r=>(keyD k).bind fun _=>(zaow r).map fun ps=>(k,v)::ps
 | _=>none
def zavn:GF
 | [.list rows]=>(zaow rows).map fun ps=>(.dict (zoc [] ps),true)
 | _=>none
noncomputable def zod (i j:Nat) (f:EF):SF:=fun env=>match env[i]?,env[j]? with
 | some (.ac (.list ds)),some (.ac (.list es))=>(f env).bind fun r=>match r.d with
  | .int k=>if 0≤k∧k<100000∧ds.length<100000∧i≠j then (es[k.toNat]?).bind fun d=>some (.nx ((env.set j (.ac (.list (es.eraseIdx k.toNat)))).set i (.ac (.list (ds++[d]))))) else none
  | _=>none
 | _,_=>none
theorem Rps.erase {H:Hp} {ds:List PyData} {vs:List V} (h:Rps H ds vs) (n:Nat):Rps H (ds.eraseIdx n) (vs.eraseIdx n):=by
 induction n generalizing ds vs with
 | zero =>
  cases ds with
  | nil=>unfold Rps at h;subst h;exact zey
  | cons d ds=>unfold Rps at h;obtain ⟨v,ws,rfl,h1,h2⟩:=h;exact h2
 | succ n ih =>
  cases ds with
  | nil=>unfold Rps at h;subst h;exact zey
  | cons d ds=>unfold Rps at h;obtain ⟨v,ws,rfl,h1,h2⟩:=h;exact zew h1 (ih h2)
theorem zaip {K:qB} {i j:Nat} {te:TE} {f:EF} (h1:SE te f):SS (tDrop (tBM K "list" zabs (tVar i) (tCons (tBM K "list" zaom (tVar j) (tCons te tNil)) tNil))) (zod i j f):=by
 intro fx H0 env σ H D h o e q
 unfold zod at e
 split at e
 ·rename_i ds es ei ej
  obtain ⟨⟨rd,rfr,rbs⟩,er,e⟩:=qA.mp e
  cases rd with
  | int k =>
   have e:(if 0≤k∧k<100000∧ds.length<100000∧i≠j then (es[k.toNat]?).bind fun d=>some (Out.nx ((env.set j (.ac (.list (es.eraseIdx k.toNat)))).set i (.ac (.list (ds++[d]))))) else none)=some o:=e
   split at e
   ·rename_i hl
    obtain ⟨d,ed,e⟩:=qA.mp e
    cases e
    obtain ⟨a,g1,g2,g3,g4⟩:=h.ac i _ ei
    obtain ⟨xs,hx,rx⟩:=g4
    obtain ⟨b,k1,k2,k3,k4⟩:=h.ac j _ ej
    obtain ⟨ys,hy,ry⟩:=k4
    have hab:a≠b:=fun z=>hl.2.2.2 (h.inj i j _ _ a ei ej g1 (by rw [z];exact k1))
    refine ⟨_,g1,.inl ⟨rfl,_,SqL.of hx⟩,_,k1,.inl ⟨rfl,_,SqL.of hy⟩,h1 fx H0 env σ H h _ er _ fun v H' s hv=>?_⟩
    cases zfv hv.rp
    have h':=h.up s
    have hy':=s _ _ hy
    have hx':=s _ _ hx
    have ry':Rps (Offs (fun b=>fx b∨own env σ b) H') es ys:=Rps.same (Offs.grow s) _ ry
    have rx':Rps (Offs (fun b=>fx b∨own env σ b) H') ds xs:=Rps.same (Offs.grow s) _ rx
    obtain ⟨u,hu,ru⟩:=ry'.get2 ed
    have hlt:k.toNat<ys.length:=(qZ.mp hu).1
    have hsq:seqIndex? k ys.length=some k.toNat:=qCl hl.1 (by omega)
    refine ⟨b,ys,k,k.toNat,u,rfl,rfl,hy',by omega,by omega,hsq,hu,?_⟩
    have h2:=h'.mut ej k1 (d':=.list (es.eraseIdx k.toNat)) (o:=.lst (ys.eraseIdx k.toNat)) ⟨_,zbx,ry'.erase _⟩
    have ei2:(env.set j (.ac (.list (es.eraseIdx k.toNat))))[i]?=some (.ac (.list ds)):=by rw [qAL (qAx hl.2.2.2)];exact ei
    have hx2:(upd H' b (.lst (ys.eraseIdx k.toNat))) a=some (.lst xs):=by rw [zcp hab];exact hx'
    obtain ⟨a',z1,_,_,z4⟩:=h2.ac i _ ei2
    rw [g1] at z1
    cases z1
    obtain ⟨zs,y1,y2⟩:=z4
    rw [hx2] at y1
    cases y1
    have ow:Same (Offs (fun b=>fx b∨own env σ b) H') (Offs (fun c=>fx c∨own (env.set j (.ac (.list (es.eraseIdx k.toNat)))) σ c) (upd H' b (.lst (ys.eraseIdx k.toNat)))):=by
     have t:Same (Offs (fun b=>fx b∨own env σ b) (upd H' b (.lst (ys.eraseIdx k.toNat)))) (Offs (fun c=>fx c∨own (env.set j (.ac (.list (es.eraseIdx k.toNat)))) σ c) (upd H' b (.lst (ys.eraseIdx k.toNat)))):=Offs.sub fun c z=>z.imp (fun y=>y) fun ⟨m,d1,w1,w2⟩=>by
      rcases zfs w1 with ⟨rfl,_⟩|⟨_,w1⟩
      ·exact ⟨m,_,ej,w2⟩
      ·exact ⟨m,d1,w1,w2⟩
     rw [Offs.upd (.inr ⟨j,_,ej,k1⟩)] at t
     exact t
    refine ⟨a,xs,u,rfl,rfl,hx2,zso (by rw [← rx.length];exact hl.2.2.1),?_⟩
    exact q σ _ (h2.mut ei2 g1 ⟨_,zbx,y2.append (zew (Rp.same ow _ ru) zey)⟩)
   ·cases e
  | _=>cases e
 ·cases e
noncomputable def zfd (i:Nat) (b:EF):EF:=fun env=>match env[i]? with
 | some (.pl (.dict kvs))=>(b env).bind fun y=>(keyD y.d).bind fun k=>(zot kvs k).bind fun d=>some ⟨d,false,[]⟩
 | some (.ac (.dict kvs))=>(b env).bind fun y=>(keyD y.d).bind fun k=>(zot kvs k).bind fun d=>some ⟨d,false,[]⟩
 | _=>none
theorem zne {i:Nat} {ty:TE} {fb:EF} (hb:SE ty fb):SE (tDGet (tVar i) ty) (zfd i fb):=by
 intro fx H0 env σ H h rr hr Q q
 unfold zfd at hr
 have key:∀ (a:Addr) (ps:List (Key×V)) (kvs:List (PyData×PyData)),σ[i]?=some (some (.ref a))→H a=some (.dK ps)→Rpd (Offs (fun b=>fx b∨own env σ b) H) kvs ps→((fb env).bind fun y=>(keyD y.d).bind fun k=>(zot kvs k).bind fun d=>some (⟨d,false,[]⟩:Val))=some rr→tDGet (tVar i) ty σ H Q:=by
  intro a ps kvs hs ha r hr
  obtain ⟨y,ey,hr⟩:=qA.mp hr
  obtain ⟨k,ek,hr⟩:=qA.mp hr
  obtain ⟨d,ed,hr⟩:=qA.mp hr
  cases hr
  refine ⟨_,hs,hb fx H0 env σ H h _ ey _ fun u H2 s2 v2=>?_⟩
  have g:=(Rpd.same (Offs.grow s2) _ r).get (j:=k)
  rw [ed] at g
  obtain ⟨w,e1,e2⟩:=g
  rw [zaif v2.rp ek]
  have dg:=DGet.k (k:=k) (s2 _ _ ha)
  rw [e1] at dg
  exact ⟨a,w,rfl,dg,q w H2 s2 ⟨Rp.same (Offs.sub zpy) _ e2,fun z=>by cases z⟩⟩
 split at hr
 ·rename_i kvs ei
  obtain ⟨v,h1,h2⟩:=h.pl i _ ei
  obtain ⟨a,ps,rfl,ha,r⟩:=zlb h2
  exact key a ps kvs h1 (zez ha) r hr
 ·rename_i kvs ei
  obtain ⟨a,h1,h2,h3,ps,ha,r⟩:=h.ac i _ ei
  exact key a ps kvs h1 ha r hr
 ·cases hr
noncomputable def eIxV (i:Nat) (b:EF):EF:=fun env=>match env[i]? with
 | some (.ac (.list ds))=>(b env).bind fun y=>match y.d with
  | .int k=>(atI ds k).map fun d=>⟨d,false,[]⟩
  | _=>none
 | _=>eOp ixD (eVar i) b env
theorem zbn {K:qB} {i:Nat} {tb:TE} {fb:EF} (hb:SE tb fb):SE (tOp (rIxU K) (tVar i) tb) (eIxV i fb):=by
 intro fx H0 env σ H h rr hr Q q
 unfold eIxV at hr
 split at hr
 ·rename_i ds ei
  obtain ⟨⟨dy,fy,bys⟩,ey,hr⟩:=qA.mp hr
  cases dy with
  | int k =>
   obtain ⟨d,ed,rfl⟩:=qK.mp hr
   obtain ⟨a,h1,h2,h3,xs,ha,r⟩:=h.ac i _ ei
   refine ⟨_,h1,hb fx H0 env σ H h _ ey _ fun u H2 s2 v2=>?_⟩
   cases zfv v2.rp
   obtain ⟨v,hv,rv⟩:=(Rps.same (Offs.grow s2) _ r).atI ed
   exact ⟨xs,v,.inl (SqL.of (s2 _ _ ha)),hv,q _ H2 s2 ⟨Rp.same (Offs.sub zpy) _ rv,fun z=>by cases z⟩⟩
  | _=>cases hr
 ·exact zav zaie (zad i) hb fx H0 env σ H h rr hr Q q
end L2
namespace Bc
open PySem L2
def zkq:SF:=(sRet (zdg ["name", "elders"] [] (zbg (eVar 0)) (gT 2 (zap 0 (zap 1 zco))) zdw (eVar 0)))
def znf:GF:=fnD 1 zkq
noncomputable def zhe:SF:=(sSeq (sSet 2 (zbm 1 znf (zab (eVar 0) aNil)))
  (sFor (zbg (eVar 1)) (gN 3)
  (sIf (zbe (eOp (inD true) (eVar 3) (eVar 2))) zadw sNil)))
def zhf:GF:=fnD 4 zhe
noncomputable def zvi:SF:=(sSeq (sSet 1 zaca)
  (sSeq (sFor (zbg (eVar 0)) (gT 2 (zap 2 (zap 3 zco)))
  (sSeq (sSet 4 (eD1 (eVar 2) (eC (.bool true))))
  (sSeq (sFor (zbg (eVar 3)) (gN 5)
  (sUpd 4 (zfd 1 (eVar 5))))
  (sPut 1 (eVar 2) (eVar 4)))))
  (zss 1)))
def zhp:GF:=fnD 6 zvi
noncomputable def zza:SF:=(sSeq (sSet 2 (eLst aNil))
  (sSeq (sFor (zqw (zab (eVar 1) aNil)) (gT 2 (zap 3 (zap 4 zco)))
  (sSeq (sSet 5 (eSl (eVar 1) zfk (zcm (eVar 3))))
  (sSeq (sSet 6 (eOp zcv (eIxV 0 (eVar 3)) (eC (.int 5))))
  (sSeq (sSet 7 (eLst aNil))
  (sSeq (sFor (zer (zab (eCB minD (zab (eOp modD (eIxV 0 (eVar 3)) (eC (.int 5))) (zab (eVar 3) aNil))) aNil)) (gN 8)
  (sSeq (sSet 9 (eOp modD (eVar 6) (eCB lenD (zab (eVar 5) aNil))))
  (sSeq (sSet 6 (eOp zcv (eVar 6) (eCB lenD (zab (eVar 5) aNil))))
  (zod 7 5 (eVar 9)))))
  (sApp 2 (eTup (zab (eVar 4) (zab (eVar 7) aNil)))))))))
  (zss 2)))
def zmg:GF:=fnD 10 zza
noncomputable def zadz:SF:=(sSeq (sSet 1 zaca)
  (sSeq (sFor (zbg (eVar 0)) (gT 2 (zap 2 (zap 3 zco)))
  (sSeq (sSet 4 (eLst (zab (eVar 2) aNil)))
  (sSeq (sFor (zbg (eVar 3)) (gN 5)
  (sFor (zbg (zfd 1 (eVar 5))) (gN 6)
  (sIf (zbe (eOp (inD true) (eVar 6) (eVar 4))) (sApp 4 (eVar 6)) sNil)))
  (sPut 1 (eVar 2) (eVar 4)))))
  (zss 1)))
def zoz:GF:=fnD 7 zadz
theorem zcy {α:Type} {enc out:α→PyData} {g:GT} {t:TF} {e:EF} {env:DEnv} (p:α→Bool):∀ {l:List α},(∀ x∈l,∃ e1,g (enc x) env=some e1∧t e1=some (p x)∧(p x=true→∃ r,e e1=some r∧r.d=out x)) →
  zej g t e env (l.map enc)=some ((l.filter p).map out)
 | [],_=>rfl
 | x::l,h=>by
  obtain ⟨e1,h1,h2,h3⟩:=h x qX
  have ih:=zcy (l:=l) p fun y hy=>h y (qJ _ hy)
  rw [qa]
  unfold zej
  rw [h1,qF,h2,qF]
  cases hp:p x with
  | false =>
   rw [if_neg qO,ih,qAw,hp];rfl
  | true =>
   obtain ⟨r,h4,h5⟩:=h3 hp
   rw [if_pos rfl,h4,qF,ih,qAw,hp]
   simp [h5]
theorem zec {α:Type} {enc out:α→PyData} {g:GT} {t:TF} {e:EF} {env:DEnv} {l:List α} (h:∀ x∈l,∃ e1,g (enc x) env=some e1∧t e1=some true∧∃ r,e e1=some r∧r.d=out x):zej g t e env (l.map enc)=some (l.map out):=by
 have q:=zcy (enc:=enc) (out:=out) (g:=g) (t:=t) (e:=e) (env:=env) (fun _=>true) (l:=l) fun x hx=>let ⟨e1,h1,h2,h3⟩:=h x hx;⟨e1,h1,h2,fun _=>h3⟩
 rw [q]
 congr 2
 exact qB0.mpr fun _ _=>rfl
theorem zaea {α:Type} {enc:α→PyData} {g:GT} {body:SF} (I:List α→DEnv→Prop) (all:List α):∀ (l pre:List α) (env:DEnv),pre++l=all→I pre env →
  (∀ pre x post env,pre++x::post=all→I pre env→∃ e1 e2,g (enc x) env=some e1∧(body e1=some (.nx e2)∨body e1=some (.ct e2))∧I (pre++[x]) e2)→∃ env',forL g body (l.map enc) env=some (.nx env')∧I all env'
 | [],pre,env,hall,h0,hs=>by
  rw [qAh] at hall
  subst hall
  exact ⟨env,rfl,h0⟩
 | x::l,pre,env,hall,h0,hs=>by
  obtain ⟨e1,e2,h1,h2,h3⟩:=hs pre x l env hall h0
  obtain ⟨env',h4,h5⟩:=zaea I all l (pre++[x]) e2 (by rw [← hall];simp) h3 hs
  refine ⟨env',?_,h5⟩
  rw [qa]
  unfold forL
  rw [h1,qF]
  rcases h2 with h2|h2<;>rw [h2,qF]<;>exact h4
theorem zgm {α:Type} {enc:α→PyData} {g:GT} {body:SF} {l:List α} {env:DEnv} (I:List α→DEnv→Prop) (h0:I [] env) (hs:∀ pre x post env,pre++x::post=l→I pre env→∃ e1 e2,g (enc x) env=some e1∧(body e1=some (.nx e2)∨body e1=some (.ct e2))∧I (pre++[x]) e2) :
  ∃ env',forL g body (l.map enc) env=some (.nx env')∧I l env':=zaea I l l [] env rfl h0 hs
theorem zst {α:Type} {enc:α→PyData} {g:GT} {body:SF} (p:α→Bool) (d:PyData) (fr:Bool) (I:DEnv→Prop):∀ (l:List α) (env:DEnv),I env →
  (∀ x∈l,∀ env,I env→∃ e1,g (enc x) env=some e1∧(p x=true→∃ e2,body e1=some (.nx e2)∧I e2)∧(p x=false→body e1=some (.rt d fr))) →
  (l.all p=true→∃ env',forL g body (l.map enc) env=some (.nx env')∧I env')∧(l.all p=false→forL g body (l.map enc) env=some (.rt d fr))
 | [],env,h0,hs=>⟨fun _=>⟨env,rfl,h0⟩,fun h=>by simp at h⟩
 | x::l,env,h0,hs=>by
  obtain ⟨e1,h1,h2,h3⟩:=hs x qX env h0
  rw [qa,qAk]
  unfold forL
  rw [h1,qF]
  cases hp:p x with
  | false =>
   rw [h3 hp,qF]
   exact ⟨fun h=>by simp at h,fun _=>rfl⟩
  | true =>
   obtain ⟨e2,h4,h5⟩:=h2 hp
   rw [h4,qF]
   exact zst p d fr I l e2 h5 fun y hy=>hs y (qJ _ hy)
theorem zaqw {t:TS} {F:SF} (hs:SS t F) {env:DEnv} {σ:St} {H1:Hp} {Q:VK} {nx:St→Hp→Prop} (hE:EnvOk (fun _=>False) H1 env σ H1) (e:F env=some (.rt (.bool true) false)) (k:∀ H',Q (.bl true) H'):t {nx:=nx,rt:=Q} σ H1:=by
 refine hs _ H1 env σ H1 _ hE _ e fun v H s rt=>?_
 rw [show v=.bl true from zkk rt.1]
 exact k H
def zbh (cs:List Int):PyData:=.list (cs.map .int)
theorem zaeb {H:Hp}:∀ (cs:List Int),Rps H (cs.map .int) (cs.map .int)
 | []=>zey
 | c::cs=>zew zaf (zaeb cs)
def envL (n:Nat) (cs:List Int):DEnv:=.no::.pl (zbh cs)::List.replicate n .no
theorem zaqx {H1:Hp} {a pc:Addr} {cs:List Int} {n:Nat} (e:H1 pc=some (.lst (cs.map .int))):EnvOk (fun _=>False) H1 (envL n cs) (some (.ref a)::some (.ref pc)::List.replicate n none) H1:=by
 have no:∀ (i:Nat) (d:PyData),(envL n cs)[i]?≠some (Sl.ac d):=fun i d=>by
  unfold envL
  cases i with
  | zero=>simp
  | succ i=>cases i with
   | zero=>simp
   | succ i=>simp [qBK]
 refine ⟨by unfold envL;simp,fun i d h=>?_,fun i d h=>absurd h (no i d),fun i j d e a h=>absurd h (no i d),Same.refl _,fun b z=>z.elim⟩
 unfold envL at h
 cases i with
 | zero=>simp at h
 | succ i=>cases i with
  | zero =>
   simp at h
   subst h
   refine ⟨.ref pc,rfl,zkp ?_ (zaeb cs)⟩
   rw [Offs.get]
   ·exact e
   ·rintro (z|⟨j,d',z,_⟩)
    ·exact z
    ·exact no j d' z
  | succ i=>simp [qBK] at h
theorem zao {f g:SF} {env e1:DEnv} {o:Option Out} (h:f env=some (.nx e1)) (k:g e1=o):sSeq f g env=o:=by unfold sSeq;rw [h];exact k
theorem zdt {f g:SF} {env:DEnv} {d:PyData} {fr:Bool} (h:f env=some (.rt d fr)):sSeq f g env=some (.rt d fr):=by unfold sSeq;rw [h];rfl
theorem for_list {f:EF} {g:GT} {b:SF} {env:DEnv} {ds:List PyData} {fr:Bool} {bs:List Nat} {o:Option Out} (h:f env=some ⟨.list ds,fr,bs⟩) (k:forL g b ds (frzs env bs)=o):sFor (zbg f) g b env=o:=by
 unfold sFor zbg;rw [h];exact k
theorem zjo {f:IF'} {g:GT} {b:SF} {env:DEnv} {ds:List PyData} {bs:List Nat} {o:Option Out} (h:f env=some (ds,bs)) (k:forL g b ds (frzs env bs)=o):sFor f g b env=o:=by
 unfold sFor;rw [h];exact k
theorem if_t {c:TF} {f g:SF} {env:DEnv} {o:Option Out} (h:c env=some true) (k:f env=o):sIf c f g env=o:=by unfold sIf;rw [h];exact k
theorem if_f {c:TF} {f g:SF} {env:DEnv} {o:Option Out} (h:c env=some false) (k:g env=o):sIf c f g env=o:=by unfold sIf;rw [h];exact k
theorem zcg {i:Nat} {f:EF} {env:DEnv} {r:Val} (h:f env=some r):sSet i f env=some (.nx (putV env i r)):=by unfold sSet;rw [h];rfl
theorem zaiq {f:EF} {env:DEnv} {r:Val} (h:f env=some r):zaft f env=some (.nx env):=by unfold zaft;rw [h];rfl
theorem zfi {f:EF} {env:DEnv} {d:PyData} {fr:Bool} {bs:List Nat} (h:f env=some ⟨d,fr,bs⟩):sRet f env=some (.rt d fr):=by unfold sRet;rw [h];rfl
theorem zbv {n:Nat} {g:GF} {f:AF} {env:DEnv} {rs:List Val} {d:PyData} {fr:Bool} (h:f env=some rs) (hn:rs.length=n) (k:g (zlc rs)=some (d,fr)):zbm n g f env=some ⟨d,fr,bsOf d (bss rs)⟩:=by
 unfold zbm;rw [h,qF,if_pos hn,k];rfl
theorem zdz {own:List Str} {fr:List Nat} {fi:IF'} {g:GT} {t:TF} {e:EF} {env:DEnv} {ds:List PyData} {bs:List Nat} {rs:List PyData} (h:fi env=some (ds,bs)) (hl:ds.length<100000) (k:zej g t e (envB own fr env) ds=some rs) :
  zdg own fr fi g t e env=some ⟨.list rs,true,if zgj rs=true then [] else bs++capA fr env⟩:=by
 unfold zdg;rw [h,qF,if_pos hl,k];rfl
theorem zed {n:Nat} {f:SF} {ds:List PyData} {env:DEnv} {d:PyData} {fr:Bool} (h:zho n ds=env) (e:f env=some (.rt d fr)):fnD n f ds=some (d,fr):=by
 unfold fnD;rw [h,e]
theorem zave {n:Nat} {f:SF} {ds:List PyData} {env env':DEnv} (h:zho n ds=env) (e:f env=some (.nx env')):fnD n f ds=some (.none,false):=by
 unfold fnD;rw [h,e]
theorem zair (n:Int):neD (.int n) (.int n)=some (.bool false,false):=by
 have e:qH (.int n) (.int n)=true:=by unfold qH;exact beq_self_eq_true n
 show some (PyData.bool (!PyData.eqv (.int n) (.int n)),false)=_
 rw [e];rfl
def zae (xs:List Str):PyData:=.list (xs.map .str)
def rowD (p:Str×List Str):PyData:=.tuple [.str p.1,zae p.2]
def webD (W:Web):PyData:=.list (W.map rowD)
theorem zgt (xs:List Str):zgj (xs.map .str)=true:=by
 unfold zgj
 rw [qCu]
 exact qAO.mpr fun _ _=>rfl
theorem zaec (xs:List Str) (x:Str):((xs.map PyData.str).any fun e=>qH e (.str x))=decide (x∈xs):=by
 rw [qBe,qAC,qAN,decide_eq_true_iff]
 constructor
 ·rintro ⟨y,hy,h⟩
  have:y=x:=by simpa [qH] using h
  rw [← this];exact hy
 ·exact fun h=>⟨x,h,by simp [qH]⟩
theorem zwu (b:Bool) (xs:List Str) (x:Str):inD b (.str x) (zae xs)=some (.bool (if b then !decide (x∈xs) else decide (x∈xs)),false):=by
 unfold inD zae
 simp only [zig]
 rw [if_pos ⟨rfl,zgt xs⟩,zaec]
theorem zafv {W:Web} (hl:W.length<100000):znf [webD W]=some (zae (nm W),true):=by
 have c:zej (gT 2 (zap 0 (zap 1 zco))) zdw (eVar 0) [.no,.no] (W.map rowD)=some (W.map fun p=>PyData.str p.1):=zec fun p _=>⟨[.pl (.str p.1),.pl (zae p.2)],rfl,rfl,⟨.str p.1,false,[]⟩,rfl,rfl⟩
 have e:zkq [.pl (webD W)]=some (.rt (zae (nm W)) true):=by
  unfold zkq sRet zdg zbg
  simp only [eVar,qAS,qF,webD,zig,qA2,qC]
  rw [if_pos hl]
  show Option.map _ (Option.map _ (zej _ _ _ [.no,.no] _))=_
  rw [c]
  unfold zae nm
  simp
 show (match zkq [.pl (webD W)] with|some (.rt d fr)=>some (d,fr)|some (.nx _)=>some (.none,false)|_=>none)=_
 rw [e]
theorem zwv {W:Web} (hl:W.length<100000) {ns:List Str} (h:∀ n∈ns,n∈nm W):zhf [webD W,zae ns]=some (.none,false):=by
 have l:∃ env',forL (gN 3) (sIf (zbe (eOp (inD true) (eVar 3) (eVar 2))) zadw sNil) (ns.map .str) [.pl (webD W),.pl (zae ns),.ac (zae (nm W)),.no]=some (.nx env')∧True:=by
  refine zgm (fun _ env=>∃ s,env=[.pl (webD W),.pl (zae ns),.ac (zae (nm W)),s]) ⟨_,rfl⟩ ?_ |>.imp fun _ q=>⟨q.1,trivial⟩
  rintro pre x post env hx ⟨s,rfl⟩
  have hm:=h x (by rw [← hx];simp)
  refine ⟨_,[.pl (webD W),.pl (zae ns),.ac (zae (nm W)),.pl (.str x)],rfl,.inl ?_,_,rfl⟩
  simp [sIf,zbe,eOp,eVar,sNil,zwu,hm,bsOf,zhl]
 obtain ⟨env',l,_⟩:=l
 have e:zhe [.pl (webD W),.pl (zae ns),.no,.no]=some (.nx env'):=by
  unfold zhe sSeq sSet zbm sFor zbg
  simp only [zab,aNil,eVar,qAS,qAG,qF,qA2,zlc,qa,qBd,qAI,qCN,zafv hl,if_true]
  simp [putV,frzs,bsOf,zae,zhl,bss,slOf,zig]
  exact l
 show (match zhe [.pl (webD W),.pl (zae ns),.no,.no] with|some (.rt d fr)=>some (d,fr)|some (.nx _)=>some (.none,false)|_=>none)=_
 rw [e]
def insS (ks:List Str) (k:Str):List Str:=if k∈ks then ks else ks++[k]
def upL (acc:List (Str×List Str)) (e:Str):List Str:=(acc.lookup e).getD []
def zlg (acc:List (Str×List Str)) (p:Str×List Str):List (Str×List Str):=acc++[(p.1,p.2.foldl (fun ks e=>(upL acc e).foldl insS ks) [p.1])]
def ups (W:Web):List (Str×List Str):=W.foldl zlg []
def up (W:Web) (n:Str):List Str:=upL (ups W) n
theorem zlh (W:Web) (p:Str×List Str):ups (W++[p])=zlg (ups W) p:=by unfold ups;rw [qBi];rfl
theorem zamm {ks:List Str} {k x:Str}:x∈insS ks k↔x∈ks∨x=k:=by
 unfold insS
 split
 ·rename_i h
  exact ⟨.inl,fun z=>z.elim id fun e=>e▸h⟩
 ·simp
theorem zpa {x:Str}:∀ {ms ks:List Str},x∈ms.foldl insS ks↔x∈ks∨x∈ms
 | [],ks=>by simp
 | m::ms,ks=>by
  rw [qBX,zpa,zamm]
  simp [or_assoc]
theorem zaqy {ks:List Str} {k:Str} (h:ks.Nodup):(insS ks k).Nodup:=by
 unfold insS
 split
 ·exact h
 ·rename_i hk;exact zabu h hk
theorem zww:∀ {ms ks:List Str},ks.Nodup→(ms.foldl insS ks).Nodup
 | [],_,h=>h
 | _::ms,_,h=>zww (ms:=ms) (zaqy h)
theorem zsu {acc:List (Str×List Str)} {x:Str}:∀ {es ks:List Str},x∈es.foldl (fun ks e=>(upL acc e).foldl insS ks) ks↔x∈ks∨∃ e∈es,x∈upL acc e
 | [],ks=>by simp
 | e::es,ks=>by
  rw [qBX,zsu,zpa]
  simp [or_assoc]
theorem zaed {acc:List (Str×List Str)}:∀ {es ks:List Str},ks.Nodup→(es.foldl (fun ks e=>(upL acc e).foldl insS ks) ks).Nodup
 | [],_,h=>h
 | _::es,_,h=>zaed (es:=es) (zww h)
theorem ziw {l:List (Str×List Str)} {n:Str} {p:Str×List Str}:(l++[p]).lookup n=(l.lookup n).or (if n==p.1 then some p.2 else none):=by
 induction l with
 | nil =>
  obtain ⟨a,b⟩:=p
  show List.lookup n [(a,b)]=_
  rw [qAM]
  cases n==a<;>rfl
 | cons q l ih =>
  obtain ⟨a,b⟩:=q
  rw [List.cons_append,qAM,qAM]
  cases n==a with
  | true=>rfl
  | false=>exact ih
theorem zsv {α:Type} {P:List α→Prop} (h0:P []) (hs:∀ l x,P l→P (l++[x])):∀ l,P l:=by
 intro l
 have:∀ n (l:List α),l.length=n→P l:=by
  intro n
  induction n with
  | zero=>intro l e;rw [qBJ.mp e];exact h0
  | succ n ih =>
   intro l e
   have hne:l≠[]:=fun z=>by rw [z] at e;cases e
   rw [← List.dropLast_concat_getLast hne]
   exact hs _ _ (ih _ (by rw [List.length_dropLast,e];rfl))
 exact this _ l rfl
theorem zie:∀ (W:Web),(ups W).map (·.1)=nm W:=by
 refine zsv rfl fun W p ih=>?_
 rw [zlh]
 unfold zlg nm
 rw [qAQ,qAQ,ih]
 rfl
theorem zoe (W:Web) (p:Str×List Str):nm (W++[p])=nm W++[p.1]:=by unfold nm;rw [qAQ];rfl
theorem zhq {W:Web} {p:Str×List Str} (h:WebOk (W++[p])):WebOk W∧p.1∉nm W∧(∀ e∈p.2,e∈nm W)∧p.2.length≤4:=by
 have hp:(W++[p])[W.length]?=some p:=by simp
 refine ⟨⟨?_,fun i n es e=>?_,fun q hq=>h.few q (qAD _ hq),?_⟩,?_,fun e he=>?_,h.few p (by simp)⟩
 ·have:=h.nd;rw [zoe] at this;exact (qBN.mp this).1
 ·have hi:i<W.length:=(qZ.mp e).1
  have q:=h.el i n es (by rw [qAH hi];exact e)
  rw [qAr (by omega)] at q
  exact q
 ·have:=h.len;simp at this;omega
 ·have:=h.nd
  rw [zoe] at this
  intro hm
  exact (qBN.mp this).2.2 p.1 hm p.1 (by simp) rfl
 ·have q:=h.el W.length p.1 p.2 hp e he
  rw [qAr (qM _),qCE] at q
  exact q
theorem zjp {l:List (Str×List Str)} {n:Str} (h:n∈l.map (·.1)):∃ ks,l.lookup n=some ks∧(n,ks)∈l:=by
 induction l with
 | nil=>simp at h
 | cons q l ih =>
  obtain ⟨a,b⟩:=q
  rw [qAM]
  cases e:n==a with
  | true=>rw [eq_of_beq e];exact ⟨b,rfl,qX⟩
  | false =>
   have hn:n≠a:=beq_eq_false_iff_ne.mp e
   rcases qg.mp h with z|z
   ·exact absurd z hn
   ·obtain ⟨ks,h1,h2⟩:=ih z
    exact ⟨ks,h1,qJ _ h2⟩
theorem zqd {W:Web} {p:Str×List Str} {m:Str} (h:m∈nm W):up (W++[p]) m=up W m:=by
 unfold up upL
 rw [zlh]
 unfold zlg
 obtain ⟨ks,e,_⟩:=zjp (l:=ups W) (n:=m) (by rw [zie];exact h)
 rw [ziw,e]
 rfl
theorem zsw {l:List (Str×List Str)} {n:Str} (h:n∉l.map (·.1)):l.lookup n=none:=by
 induction l with
 | nil=>rfl
 | cons q l ih =>
  obtain ⟨a,b⟩:=q
  rw [qAM]
  have h1:n≠a:=fun z=>h (by simp [z])
  rw [beq_eq_false_iff_ne.mpr h1]
  exact ih fun z=>h (qJ _ z)
theorem zaox {W:Web} {p:Str×List Str} (h:p.1∉nm W):up (W++[p]) p.1=p.2.foldl (fun ks e=>(upL (ups W) e).foldl insS ks) [p.1]:=by
 unfold up upL
 rw [zlh]
 unfold zlg
 rw [ziw,zsw (by rw [zie];exact h)]
 simp [upL]
theorem zatr {W:Web} {n:Str} {es:List Str} (h:(n,es)∈W):n∈nm W:=qAJ.mpr ⟨_,h,rfl⟩
theorem zwx {W:Web} (h:WebOk W) {n:Str} {es:List Str} (hm:(n,es)∈W):∀ e∈es,e∈nm W:=fun e he=>by
 obtain ⟨i,hi,e'⟩:=qBW hm
 have q:=h.el i n es (by rw [qE hi,e']) e he
 obtain ⟨p,h1,h2⟩:=qAJ.mp q
 exact qAJ.mpr ⟨p,qAd h1,h2⟩
theorem zaoy {x:Str}:∀ {W:Web},WebOk W→∀ {n:Str} {es:List Str},(n,es)∈W→(x∈up W n↔x=n∨∃ e∈es,x∈up W e):=by
 intro W
 refine zsv (P:=fun W=>WebOk W→∀ {n:Str} {es:List Str},(n,es)∈W→(x∈up W n↔x=n∨∃ e∈es,x∈up W e)) (fun _ n es h=>nomatch h) (fun W p ih h n es hm=>?_) W
 obtain ⟨hW,hp,hel,_⟩:=zhq h
 rcases qv.mp hm with hm|hm
 ·rw [zqd (zatr hm),ih hW hm]
  have:(∃ e∈es,x∈up W e)↔∃ e∈es,x∈up (W++[p]) e:=by
   constructor
   ·rintro ⟨e,he,hx⟩;exact ⟨e,he,by rw [zqd (zwx hW hm e he)];exact hx⟩
   ·rintro ⟨e,he,hx⟩;exact ⟨e,he,by rw [zqd (zwx hW hm e he)] at hx;exact hx⟩
  rw [this]
 ·have e:(n,es)=p:=by simpa using hm
  subst e
  rw [zaox hp,zsu]
  have:(∃ e∈es,x∈upL (ups W) e)↔∃ e∈es,x∈up (W++[(n,es)]) e:=by
   constructor
   ·rintro ⟨e,he,hx⟩;exact ⟨e,he,by rw [zqd (hel e he)];exact hx⟩
   ·rintro ⟨e,he,hx⟩;exact ⟨e,he,by rw [zqd (hel e he)] at hx;exact hx⟩
  rw [this]
  simp
theorem zaqz {W:Web} (h:WebOk W) {n:Str} (hn:n∈nm W):n∈up W n:=by
 obtain ⟨⟨m,es⟩,h1,h2⟩:=qAJ.mp hn
 cases h2
 exact (zaoy h h1).mpr (.inl rfl)
theorem zaee:∀ {W:Web},WebOk W→∀ {n x:Str},x∈up W n→x∈nm W:=by
 intro W
 refine zsv (P:=fun W=>WebOk W→∀ {n x:Str},x∈up W n→x∈nm W) (fun _ n x h=>by simp [up,ups,upL] at h) (fun W p ih h n x hx=>?_) W
 obtain ⟨hW,hp,hel,_⟩:=zhq h
 rw [zoe]
 by_cases hn:n∈nm W
 ·rw [zqd hn] at hx
  exact qAD _ (ih hW hx)
 ·by_cases e:n=p.1
  ·rw [e,zaox hp,zsu] at hx
   rcases hx with hx|⟨e',_,hx⟩
   ·exact qo _ (by simpa using hx)
   ·exact qAD _ (ih hW hx)
  ·unfold up upL at hx
   rw [zlh] at hx
   unfold zlg at hx
   rw [ziw,zsw (by rw [zie];exact hn),beq_eq_false_iff_ne.mpr e] at hx
   simp at hx
theorem zavf:∀ {W:Web} {n:Str},(up W n).Nodup:=by
 intro W
 refine zsv (P:=fun W=>∀ {n:Str},(up W n).Nodup) (fun {n}=>by simp [up,ups,upL]) (fun W p ih n=>?_) W
 unfold up upL
 rw [zlh]
 unfold zlg
 rw [ziw]
 cases e:(ups W).lookup n with
 | some ks =>
  have q:=ih (n:=n)
  unfold up upL at q
  rw [e] at q
  exact q
 | none =>
  show ((if n==p.1 then some _ else none).getD []).Nodup
  split
  ·exact zaed (by simp)
  ·exact qBv
theorem zais {W:Web} (h:WebOk W) (n:Str):(up W n).length≤12:=by
 have:=zma _ (nm W) (zavf (W:=W) (n:=n)) fun x hx=>zaee h hx
 have:=zsl h
 omega
def dS (f:List Str→PyData) (l:List (Str×List Str)):List (PyData×PyData):=l.map fun p=>(.str p.1,f p.2)
theorem zof (f:List Str→PyData) (n:Str):∀ l:List (Str×List Str),zot (dS f l) (Sum.inr n)=(l.lookup n).map f
 | []=>rfl
 | (a,b)::l=>by
  have ih:=zof f n l
  show (if keyD (.str a)=some (Sum.inr n) then some (f b) else zot (dS f l) (Sum.inr n))=_
  rw [qAM]
  by_cases e:a=n
  ·subst e;rw [if_pos (show keyD (.str a)=some (Sum.inr a) from rfl),beq_self_eq_true];rfl
  ·rw [if_neg (show ¬ keyD (.str a)=some (Sum.inr n) from fun z=>e (qBt (qr z))),beq_eq_false_iff_ne.mpr (qAx e)]
   exact ih
theorem zait (f:List Str→PyData) {l:List (Str×List Str)} {n:Str} {ks:List Str} (h:n∉l.map (·.1)):zup (dS f l) (.str n) (f ks)=dS f (l++[(n,ks)]):=by
 unfold zup dS
 rw [if_neg,qAQ]
 ·rfl
 ·intro z
  rw [qBe,qAN] at z
  obtain ⟨p,hp,e⟩:=z
  have e:=of_decide_eq_true e
  exact h (qAJ.mpr ⟨p,hp,qBt (qr e)⟩)
def zka (ks:List Str):List (PyData×PyData):=ks.map fun k=>(.str k,.bool true)
def zba (ks:List Str):PyData:=.dict (zka ks)
theorem zzb (x:Str):∀ ks:List Str,zabz (zka ks) (Sum.inr x)=decide (x∈ks)
 | []=>by simp [zka,zabz,zot]
 | k::ks=>by
  have ih:=zzb x ks
  unfold zabz at ih ⊢
  show (if keyD (.str k)=some (Sum.inr x) then some (PyData.bool true) else zot (zka ks) (Sum.inr x)).isSome=_
  by_cases e:k=x
  ·subst e;rw [if_pos (show keyD (.str k)=some (Sum.inr k) from rfl)];simp
  ·rw [if_neg (show ¬ keyD (.str k)=some (Sum.inr x) from fun z=>e (qBt (qr z))),ih]
   have:¬ x=k:=fun z=>e z.symm
   simp [this]
theorem zaiu (ks:List Str) (k:Str):zup (zka ks) (.str k) (.bool true)=zka (insS ks k):=by
 have ha:((zka ks).any fun kv=>decide (keyD kv.1=keyD (.str k)))=decide (k∈ks):=by
  unfold zka
  rw [qBe,qAC,qAN,decide_eq_true_iff]
  constructor
  ·rintro ⟨y,hy,h⟩
   have h:=of_decide_eq_true h
   have:y=k:=qBt (qr h)
   rw [← this];exact hy
  ·exact fun h=>⟨k,h,decide_eq_true rfl⟩
 unfold zup insS
 rw [ha]
 by_cases hk:k∈ks
 ·rw [if_pos (decide_eq_true hk),if_pos hk]
  unfold zka
  rw [qAa]
  refine qBU fun y _=>?_
  show (if keyD (PyData.str y)=keyD (.str k) then (PyData.str y,PyData.bool true) else (PyData.str y,PyData.bool true))=_
  split<;>rfl
 ·rw [if_neg (by simpa using hk),if_neg hk]
  unfold zka
  rw [qAQ];rfl
theorem zog:∀ (ms ks:List Str),zoc (zka ks) (zka ms)=zka (ms.foldl insS ks)
 | [],_=>rfl
 | m::ms,ks=>by
  show zoc (zup (zka ks) (.str m) (.bool true)) (zka ms)=_
  rw [zaiu,zog ms];rfl
theorem zaef {α:Type} {pre post:List α} {x:α} {l:List α} (h:pre++x::post=l):l=(pre++[x])++post:=by rw [← h];simp
theorem zzc:∀ {post W:Web},WebOk (W++post)→WebOk W:=by
 intro post
 refine zsv (P:=fun post=>∀ {W:Web},WebOk (W++post)→WebOk W) (fun {W} h=>by rwa [qAh] at h) (fun post p ih W h=>?_) post
 rw [← qBO] at h
 exact ih (zhq h).1
theorem zvj {W:Web} (h:WebOk W):zhp [webD W]=some (.dict (dS zba (ups W)),true):=by
 have inner:∀ (V:Web) (p:Str×List Str) (es pre:List Str) (s5:Sl),WebOk (V++[p])→pre++es=p.2 →
   ∃ s5',forL (gN 5) (sUpd 4 (zfd 1 (eVar 5))) (es.map .str) [.pl (webD W),.ac (.dict (dS zba (ups V))),.pl (.str p.1),.pl (zae p.2),.ac (zba (pre.foldl (fun ks e=>(upL (ups V) e).foldl insS ks) [p.1])),s5] =
    some (.nx [.pl (webD W),.ac (.dict (dS zba (ups V))),.pl (.str p.1),.pl (zae p.2),.ac (zba (p.2.foldl (fun ks e=>(upL (ups V) e).foldl insS ks) [p.1])),s5']):=by
  intro V p es
  induction es with
  | nil=>intro pre s5 _ e;rw [qAh] at e;subst e;exact ⟨s5,rfl⟩
  | cons e es ih =>
   intro pre s5 hV hp
   obtain ⟨hV',hn,hel,hfew⟩:=zhq hV
   have he:e∈nm V:=hel e (by rw [← hp];simp)
   obtain ⟨ks,lk,_⟩:=zjp (l:=ups V) (n:=e) (by rw [zie];exact he)
   have eup:upL (ups V) e=ks:=by unfold upL;rw [lk];rfl
   have l1:ks.length≤12:=by rw [← eup];exact zais hV' e
   have sub:∀ x∈pre.foldl (fun ks e=>(upL (ups V) e).foldl insS ks) [p.1],x∈nm (V++[p]):=fun x hx=>by
    rw [zoe]
    rcases zsu.mp hx with z|⟨e',_,z⟩
    ·exact qo _ (by simpa using z)
    ·exact qAD _ (zaee hV' z)
   have l2:(pre.foldl (fun ks e=>(upL (ups V) e).foldl insS ks) [p.1]).length≤12:=by
    have:=zma _ _ (zaed (acc:=ups V) (es:=pre) (ks:=[p.1]) (by simp)) sub
    have:=zsl hV
    omega
   obtain ⟨s5',q⟩:=ih (pre++[e]) (.pl (.str e)) hV (by rw [← hp];simp)
   refine ⟨s5',?_⟩
   rw [qa]
   unfold forL
   simp only [gN,qF,qBb,qBa]
   have b:sUpd 4 (zfd 1 (eVar 5)) [.pl (webD W),.ac (.dict (dS zba (ups V))),.pl (.str p.1),.pl (zae p.2),.ac (zba (pre.foldl (fun ks e=>(upL (ups V) e).foldl insS ks) [p.1])),.pl (.str e)] =
     some (.nx [.pl (webD W),.ac (.dict (dS zba (ups V))),.pl (.str p.1),.pl (zae p.2),.ac (zba ((pre++[e]).foldl (fun ks e=>(upL (ups V) e).foldl insS ks) [p.1])),.pl (.str e)]):=by
    have lz:(zka (pre.foldl (fun ks e=>(upL (ups V) e).foldl insS ks) [p.1])).length+(zka ks).length≤100000:=by unfold zka;rw [qC,qC];omega
    simp only [sUpd,zba,zfd,eVar,qAG,qAS,qF,keyD,zof,lk,qA2]
    rw [if_pos ⟨lz,by simp⟩,zog]
    simp [frzs,qBi,eup]
   rw [b,qF]
   exact q
 have outer:∃ env',forL (gT 2 (zap 2 (zap 3 zco))) (sSeq (sSet 4 (eD1 (eVar 2) (eC (.bool true)))) (sSeq (sFor (zbg (eVar 3)) (gN 5) (sUpd 4 (zfd 1 (eVar 5)))) (sPut 1 (eVar 2) (eVar 4)))) (W.map rowD) [.pl (webD W),.ac (.dict []),.no,.no,.no,.no]=some (.nx env') ∧
   ∃ s2 s3 s4 s5,env'=[.pl (webD W),.ac (.dict (dS zba (ups W))),s2,s3,s4,s5]:=by
  refine zgm (fun pre env=>∃ s2 s3 s4 s5,env=[.pl (webD W),.ac (.dict (dS zba (ups pre))),s2,s3,s4,s5]) ⟨_,_,_,_,rfl⟩ ?_
  rintro pre p post env hp ⟨s2,s3,s4,s5,rfl⟩
  have hV:WebOk (pre++[p]):=zzc (post:=post) (by rw [← zaef hp];exact h)
  obtain ⟨hV',hn,hel,hfew⟩:=zhq hV
  obtain ⟨s5',q⟩:=inner pre p p.2 [] s5 hV rfl
  refine ⟨[.pl (webD W),.ac (.dict (dS zba (ups pre))),.pl (.str p.1),.pl (zae p.2),s4,s5],[.pl (webD W),.ac (.dict (dS zba (ups (pre++[p])))),.pl (.str p.1),.pl (zae p.2),.pl (zba (p.2.foldl (fun ks e=>(upL (ups pre) e).foldl insS ks) [p.1])),s5'],rfl,.inl ?_,_,_,_,_,rfl⟩
  have lz:(dS zba (ups pre)).length<100000:=by
   unfold dS
   rw [qC,← qC (f:=(·.1)),zie]
   have:=zsl hV'
   omega
  have st:sSet 4 (eD1 (eVar 2) (eC (.bool true))) [.pl (webD W),.ac (.dict (dS zba (ups pre))),.pl (.str p.1),.pl (zae p.2),s4,s5]=some (.nx [.pl (webD W),.ac (.dict (dS zba (ups pre))),.pl (.str p.1),.pl (zae p.2),.ac (zba [p.1]),s5]):=by
   simp [sSet,eD1,eVar,eC,keyD,putV,frzs,slOf,zba,zka]
  have pt:sPut 1 (eVar 2) (eVar 4) [.pl (webD W),.ac (.dict (dS zba (ups pre))),.pl (.str p.1),.pl (zae p.2),.ac (zba (p.2.foldl (fun ks e=>(upL (ups pre) e).foldl insS ks) [p.1])),s5'] =
    some (.nx [.pl (webD W),.ac (.dict (dS zba (ups (pre++[p])))),.pl (.str p.1),.pl (zae p.2),.pl (zba (p.2.foldl (fun ks e=>(upL (ups pre) e).foldl insS ks) [p.1])),s5']):=by
   simp only [sPut,eVar,qAG,qAS,qF,keyD]
   rw [if_pos ⟨lz,by simp⟩,zait zba (by rw [zie];exact hn),zlh]
   simp [frzs,frz1,zlg]
  exact zao st (zao (for_list rfl q) pt)
 obtain ⟨env',hl,s2,s3,s4,s5,rfl⟩:=outer
 exact zed (env:=[.pl (webD W),.no,.no,.no,.no,.no]) rfl (zao rfl (zao (for_list rfl hl) rfl))
theorem zaiv {W:Web} {A B C:Sl} {D E:Sl}:∀ (ms ks:List Str) (s6:Sl),ks.length+ms.length<100000→∃ s6',forL (gN 6) (sIf (zbe (eOp (inD true) (eVar 6) (eVar 4))) (sApp 4 (eVar 6)) sNil) (ms.map .str) [A,B,C,D,.ac (zae ks),E,s6]=some (.nx [A,B,C,D,.ac (zae (ms.foldl insS ks)),E,s6'])
 | [],ks,s6,_=>⟨s6,rfl⟩
 | m::ms,ks,s6,hl=>by
  have step:sIf (zbe (eOp (inD true) (eVar 6) (eVar 4))) (sApp 4 (eVar 6)) sNil [A,B,C,D,.ac (zae ks),E,.pl (.str m)]=some (.nx [A,B,C,D,.ac (zae (insS ks m)),E,.pl (.str m)]):=by
   by_cases hm:m∈ks
   ·refine if_f ?_ ?_
    ·simp [zbe,eOp,eVar,zwu,hm]
    ·rw [show insS ks m=ks from if_pos hm];rfl
   ·refine if_t ?_ ?_
    ·simp [zbe,eOp,eVar,zwu,hm]
    ·have lz:(ks.map PyData.str).length<100000:=by rw [qC];simp at hl;omega
     simp only [sApp,zae,eVar,qAG,qAS,qF]
     rw [if_pos ⟨lz,by simp⟩]
     simp [frzs,insS,hm]
  have hl2:(insS ks m).length+ms.length<100000:=by
   have:(insS ks m).length≤ks.length+1:=by unfold insS;split<;>simp
   simp at hl;omega
  obtain ⟨s6',q⟩:=zaiv (W:=W) ms (insS ks m) (.pl (.str m)) hl2
  refine ⟨s6',?_⟩
  rw [qa]
  unfold forL
  simp only [gN,qF,qBb,qBa]
  rw [step,qF]
  exact q
theorem zamn {W:Web} (h:WebOk W):zoz [webD W]=some (.dict (dS zae (ups W)),true):=by
 have inner:∀ (V:Web) (p:Str×List Str) (es pre:List Str) (s5 s6:Sl),WebOk (V++[p])→pre++es=p.2 →
   ∃ s5' s6',forL (gN 5) (sFor (zbg (zfd 1 (eVar 5))) (gN 6) (sIf (zbe (eOp (inD true) (eVar 6) (eVar 4))) (sApp 4 (eVar 6)) sNil)) (es.map .str) [.pl (webD W),.ac (.dict (dS zae (ups V))),.pl (.str p.1),.pl (zae p.2),.ac (zae (pre.foldl (fun ks e=>(upL (ups V) e).foldl insS ks) [p.1])),s5,s6] =
    some (.nx [.pl (webD W),.ac (.dict (dS zae (ups V))),.pl (.str p.1),.pl (zae p.2),.ac (zae (p.2.foldl (fun ks e=>(upL (ups V) e).foldl insS ks) [p.1])),s5',s6']):=by
  intro V p es
  induction es with
  | nil=>intro pre s5 s6 _ e;rw [qAh] at e;subst e;exact ⟨s5,s6,rfl⟩
  | cons e es ih =>
   intro pre s5 s6 hV hp
   obtain ⟨hV',hn,hel,hfew⟩:=zhq hV
   have he:e∈nm V:=hel e (by rw [← hp];simp)
   obtain ⟨ks,lk,_⟩:=zjp (l:=ups V) (n:=e) (by rw [zie];exact he)
   have eup:upL (ups V) e=ks:=by unfold upL;rw [lk];rfl
   have l1:ks.length≤12:=by rw [← eup];exact zais hV' e
   have sub:∀ x∈pre.foldl (fun ks e=>(upL (ups V) e).foldl insS ks) [p.1],x∈nm (V++[p]):=fun x hx=>by
    rw [zoe]
    rcases zsu.mp hx with z|⟨e',_,z⟩
    ·exact qo _ (by simpa using z)
    ·exact qAD _ (zaee hV' z)
   have l2:(pre.foldl (fun ks e=>(upL (ups V) e).foldl insS ks) [p.1]).length≤12:=by
    have:=zma _ _ (zaed (acc:=ups V) (es:=pre) (ks:=[p.1]) (by simp)) sub
    have:=zsl hV
    omega
   obtain ⟨s6',q1⟩:=zaiv (W:=W) (A:=.pl (webD W)) (B:=.ac (.dict (dS zae (ups V)))) (C:=.pl (.str p.1)) (D:=.pl (zae p.2)) (E:=.pl (.str e)) ks (pre.foldl (fun ks e=>(upL (ups V) e).foldl insS ks) [p.1]) s6 (by omega)
   obtain ⟨s5',s6'',q⟩:=ih (pre++[e]) (.pl (.str e)) s6' hV (by rw [← hp];simp)
   refine ⟨s5',s6'',?_⟩
   rw [qa]
   unfold forL
   simp only [gN,qF,qBb,qBa]
   have gd:zfd 1 (eVar 5) [.pl (webD W),.ac (.dict (dS zae (ups V))),.pl (.str p.1),.pl (zae p.2),.ac (zae (pre.foldl (fun ks e=>(upL (ups V) e).foldl insS ks) [p.1])),.pl (.str e),s6]=some ⟨zae ks,false,[]⟩:=by
    simp [zfd,eVar,keyD,zof,lk]
   rw [for_list gd q1,qF]
   rw [qBi,qBX,List.foldl_nil,eup] at q
   exact q
 have outer:∃ env',forL (gT 2 (zap 2 (zap 3 zco))) (sSeq (sSet 4 (eLst (zab (eVar 2) aNil))) (sSeq (sFor (zbg (eVar 3)) (gN 5) (sFor (zbg (zfd 1 (eVar 5))) (gN 6) (sIf (zbe (eOp (inD true) (eVar 6) (eVar 4))) (sApp 4 (eVar 6)) sNil))) (sPut 1 (eVar 2) (eVar 4)))) (W.map rowD) [.pl (webD W),.ac (.dict []),.no,.no,.no,.no,.no]=some (.nx env') ∧
   ∃ s2 s3 s4 s5 s6,env'=[.pl (webD W),.ac (.dict (dS zae (ups W))),s2,s3,s4,s5,s6]:=by
  refine zgm (fun pre env=>∃ s2 s3 s4 s5 s6,env=[.pl (webD W),.ac (.dict (dS zae (ups pre))),s2,s3,s4,s5,s6]) ⟨_,_,_,_,_,rfl⟩ ?_
  rintro pre p post env hp ⟨s2,s3,s4,s5,s6,rfl⟩
  have hV:WebOk (pre++[p]):=zzc (post:=post) (by rw [← zaef hp];exact h)
  obtain ⟨hV',hn,hel,hfew⟩:=zhq hV
  obtain ⟨s5',s6',q⟩:=inner pre p p.2 [] s5 s6 hV rfl
  refine ⟨[.pl (webD W),.ac (.dict (dS zae (ups pre))),.pl (.str p.1),.pl (zae p.2),s4,s5,s6],[.pl (webD W),.ac (.dict (dS zae (ups (pre++[p])))),.pl (.str p.1),.pl (zae p.2),.pl (zae (p.2.foldl (fun ks e=>(upL (ups pre) e).foldl insS ks) [p.1])),s5',s6'],rfl,.inl ?_,_,_,_,_,_,rfl⟩
  have lz:(dS zae (ups pre)).length<100000:=by
   unfold dS
   rw [qC,← qC (f:=(·.1)),zie]
   have:=zsl hV'
   omega
  have pt:sPut 1 (eVar 2) (eVar 4) [.pl (webD W),.ac (.dict (dS zae (ups pre))),.pl (.str p.1),.pl (zae p.2),.ac (zae (p.2.foldl (fun ks e=>(upL (ups pre) e).foldl insS ks) [p.1])),s5',s6'] =
    some (.nx [.pl (webD W),.ac (.dict (dS zae (ups (pre++[p])))),.pl (.str p.1),.pl (zae p.2),.pl (zae (p.2.foldl (fun ks e=>(upL (ups pre) e).foldl insS ks) [p.1])),s5',s6']):=by
   simp only [sPut,eVar,qAG,qAS,qF,keyD]
   rw [if_pos ⟨lz,by simp⟩,zait zae (by rw [zie];exact hn),zlh]
   simp [frzs,frz1,zlg]
  exact zao rfl (zao (for_list rfl q) pt)
 obtain ⟨env',hl,s2,s3,s4,s5,s6,rfl⟩:=outer
 exact zed (env:=[.pl (webD W),.no,.no,.no,.no,.no,.no]) rfl (zao rfl (zao (for_list rfl hl) rfl))
def ltr (i:Int):Str:=⟨#[97+i.toNat]⟩
def Low (x:Str):Prop:=∀ c∈x.cps.toList,c<128
theorem zpb {x:Str} (h:Low x):qN x=true:=by
 unfold qN
 rw [← Array.all_toList,qAO]
 intro c hc
 have:=h c hc
 exact decide_eq_true (by omega)
theorem zli (a b:Str):(a++b).cps.toList=a.cps.toList++b.cps.toList:=by
 show (a.cps++b.cps).toList=_
 simp
theorem Low.app {a b:Str} (h1:Low a) (h2:Low b):Low (a++b):=fun c hc=>by
 rw [zli] at hc
 exact (qv.mp hc).elim (h1 c) (h2 c)
theorem Low.slice {x:Str} (h:Low x) (l u:Option Int):Low (Txt.slice x l u):=fun c hc=>by
 unfold Txt.slice at hc
 split at hc
 ·exact h c hc
 ·have hc:c∈(List.filterMap (x.cps[·]?) (Builtin.Str.strSliceIndices l u 1 x.length)):=by simpa using hc
  obtain ⟨i,_,e⟩:=qBc.mp hc
  exact h c (by
   have:=qCr e
   simpa using this)
theorem Low.ltr {i:Int} (h0:0≤i) (h1:i<26):Low (ltr i):=fun c hc=>by
 have:c=97+i.toNat:=by simpa [Bc.ltr] using hc
 omega
theorem zzd (c:Nat):∀ (n:Nat) (acc:Array Nat),((List.replicate n #[c]).foldl (·++·) acc).toList=acc.toList++List.replicate n c
 | 0,acc=>by simp
 | n+1,acc=>by
  rw [qBT,qBX,zzd c n,qBT]
  simp
theorem zpc {c:Nat} {n:Int} (h:0≤n):(Txt.mul ⟨#[c]⟩ n).cps.toList=List.replicate n.toNat c:=by
 unfold Txt.mul
 split
 ·have:n.toNat=0:=by omega
  rw [this];rfl
 ·split
  ·rename_i h1 h2
   have:n=1:=by
    rcases qB2.mp h2 with z|z
    ·exact eq_of_beq z
    ·exact absurd z (by simp [Str.length])
   subst this
   rfl
  ·rw [zzd];rfl
theorem Low.mul {c:Nat} (hc:c<128) {n:Int} (h:0≤n):Low (Txt.mul ⟨#[c]⟩ n):=fun d hd=>by
 rw [zpc h] at hd
 rw [qBj hd];exact hc
theorem zara {c:Nat} {n:Int} (h:0≤n):(Txt.mul ⟨#[c]⟩ n).length=n.toNat:=by
 have:=congrArg List.length (zpc (c:=c) h)
 rw [qAl] at this
 simpa [Str.length] using this
noncomputable def zlx (md o st:Int) (stem:Str) (at_:Int) (k:Nat):Str :=
 if md=0 then Txt.slice stem none (some at_)++ltr ((o+st * k) % 26)++Txt.slice stem (some at_) none
 else if md=1 then Txt.slice stem none (some (k * st % (stem.length+1)))++ltr ((o+st * k) % 26)
 else Txt.mul (ltr ((o+k / 8) % 26)) (1+k * st % 8)
theorem zaiw {i j:Int} (h0:0≤i) (h1:0≤j) (h:ltr i=ltr j):i=j:=by
 unfold ltr at h
 have:#[97+i.toNat]=#[97+j.toNat]:=by injection h
 have:97+i.toNat=97+j.toNat:=by simpa using this
 omega
theorem zze:∀ st∈([1,3,5,7,9,11,15,17]:List Nat),∀ a<16,∀ b<16,st * a % 26=st * b % 26→a=b:=by decide +kernel
theorem zaeg {o st:Int} (hs:st∈([1,3,5,7,9,11,15,17]:List Int)) {a b:Nat} (ha:a<16) (hb:b<16) (h:(o+st * a) % 26=(o+st * b) % 26):a=b:=by
 have h2:=Int.emod_add_cancel_left.mp h
 simp only [qg,qBm,or_false] at hs
 rcases hs with rfl|rfl|rfl|rfl|rfl|rfl|rfl|rfl
 ·exact zze 1 (by decide) a ha b hb (by exact_mod_cast h2)
 ·exact zze 3 (by decide) a ha b hb (by exact_mod_cast h2)
 ·exact zze 5 (by decide) a ha b hb (by exact_mod_cast h2)
 ·exact zze 7 (by decide) a ha b hb (by exact_mod_cast h2)
 ·exact zze 9 (by decide) a ha b hb (by exact_mod_cast h2)
 ·exact zze 11 (by decide) a ha b hb (by exact_mod_cast h2)
 ·exact zze 15 (by decide) a ha b hb (by exact_mod_cast h2)
 ·exact zze 17 (by decide) a ha b hb (by exact_mod_cast h2)
theorem zarb {x y:Int} (hx:0≤x) (hy:0≤y) (h:97+x.toNat=97+y.toNat):x=y:=by omega
theorem zats {x y:Int} (hx:0≤x) (hy:0≤y) (h:(1+x).toNat=(1+y).toNat):x=y:=by omega
theorem zaix {x:Int} (hx:0≤x):(1+x).toNat=x.toNat+1:=by omega
theorem tab8:∀ st∈([1,3,5,7,9,11,15,17]:List Nat),∀ a<16,∀ b<16,a / 8=b / 8→a * st % 8=b * st % 8→a=b:=by decide +kernel
theorem zaiy {o st:Int} (hs:st∈([1,3,5,7,9,11,15,17]:List Int)) {a b:Nat} (ha:a<16) (hb:b<16) (h:(o+(a:Int) / 8) % 26=(o+(b:Int) / 8) % 26) (h2:(a:Int) * st % 8=b * st % 8):a=b:=by
 have q1:a / 8=b / 8:=by omega
 simp only [qg,qBm,or_false] at hs
 rcases hs with rfl|rfl|rfl|rfl|rfl|rfl|rfl|rfl
 ·exact tab8 1 (by decide) a ha b hb q1 (by exact_mod_cast h2)
 ·exact tab8 3 (by decide) a ha b hb q1 (by exact_mod_cast h2)
 ·exact tab8 5 (by decide) a ha b hb q1 (by exact_mod_cast h2)
 ·exact tab8 7 (by decide) a ha b hb q1 (by exact_mod_cast h2)
 ·exact tab8 9 (by decide) a ha b hb q1 (by exact_mod_cast h2)
 ·exact tab8 11 (by decide) a ha b hb q1 (by exact_mod_cast h2)
 ·exact tab8 15 (by decide) a ha b hb q1 (by exact_mod_cast h2)
 ·exact tab8 17 (by decide) a ha b hb q1 (by exact_mod_cast h2)
theorem zaiz {md o st at_:Int} {stem:Str} (hs:st∈([1,3,5,7,9,11,15,17]:List Int)) (ho:0≤o) {a b:Nat} (ha:a<16) (hb:b<16) (h:zlx md o st stem at_ a=zlx md o st stem at_ b):a=b:=by
 have st0:0≤st:=by
  simp only [qg,qBm,or_false] at hs
  rcases hs with rfl|rfl|rfl|rfl|rfl|rfl|rfl|rfl<;>decide
 have n26:∀ z:Int,0≤z % 26:=fun z=>qw z (by decide)
 unfold zlx at h
 by_cases h0:md=0
 ·rw [if_pos h0,if_pos h0] at h
  have q:=congrArg (fun x:Str=>x.cps.toList) h
  simp only [zli] at q
  have q2:=List.append_cancel_right q
  have q3:=List.append_cancel_left q2
  have q4:ltr ((o+st * a) % 26)=ltr ((o+st * b) % 26):=by
   unfold ltr at q3 ⊢
   congr 1
   exact Array.toList_inj.mp q3
  exact zaeg hs ha hb (zaiw (n26 _) (n26 _) q4)
 ·rw [if_neg h0,if_neg h0] at h
  by_cases h1:md=1
  ·rw [if_pos h1,if_pos h1] at h
   have q:=congrArg (fun x:Str=>x.cps.toList) h
   simp only [zli] at q
   have q3:=(List.append_inj' q (by simp [ltr])).2
   have q4:ltr ((o+st * a) % 26)=ltr ((o+st * b) % 26):=by
    unfold ltr at q3 ⊢
    congr 1
    exact Array.toList_inj.mp q3
   exact zaeg hs ha hb (zaiw (n26 _) (n26 _) q4)
  ·rw [if_neg h1,if_neg h1] at h
   have m8:∀ z:Int,0≤z % 8:=fun z=>qw z (by decide)
   have q:(Txt.mul (ltr ((o+(a:Int) / 8) % 26)) (1+a * st % 8)).cps.toList=(Txt.mul (ltr ((o+(b:Int) / 8) % 26)) (1+b * st % 8)).cps.toList:=by rw [h]
   have ea:∀ k:Nat,(Txt.mul (ltr ((o+(k:Int) / 8) % 26)) (1+k * st % 8)).cps.toList=List.replicate (1+(k:Int) * st % 8).toNat (97+((o+(k:Int) / 8) % 26).toNat):=fun k=>zpc (by have:=m8 (k * st);omega)
   rw [ea a,ea b] at q
   have ql:=congrArg List.length q
   rw [qAl,qAl] at ql
   have w1:=m8 (a * st)
   have w2:=m8 (b * st)
   have hh:(97+((o+(a:Int) / 8) % 26).toNat)=(97+((o+(b:Int) / 8) % 26).toNat):=by
    have c1:(1+(a:Int) * st % 8).toNat=((a:Int) * st % 8).toNat+1:=zaix w1
    have c2:(1+(b:Int) * st % 8).toNat=((b:Int) * st % 8).toNat+1:=zaix w2
    rw [c1,c2,qBT,qBT] at q
    exact (List.cons.inj q).1
   have z1:=n26 (o+(a:Int) / 8)
   have z2:=n26 (o+(b:Int) / 8)
   exact zaiy (o:=o) hs ha hb (zarb z1 z2 hh) (zats w1 w2 ql)
theorem zsx {α:Type} {f:Nat→α} {n:Nat} (h:∀ a b,a<n→b<n→f a=f b→a=b):((List.range n).map f).Nodup:=by
 rw [List.nodup_iff_pairwise_ne,List.pairwise_map]
 refine List.Pairwise.imp_of_mem ?_ (List.pairwise_lt_range (n:=n))
 intro a b ha hb hab e
 have:=h a b (qAb.mp ha) (qAb.mp hb) e
 omega
theorem zaja {md o st at_:Int} {stem:Str} (hl:Low stem) (ho:0≤o) (hst:0≤st) (k:Nat):Low (zlx md o st stem at_ k):=by
 have n26:∀ z:Int,0≤z % 26∧z % 26<26:=fun z=>⟨qw z (by decide),qx z (by decide)⟩
 unfold zlx
 split
 ·exact ((hl.slice _ _).app (Low.ltr (n26 _).1 (n26 _).2)).app (hl.slice _ _)
 ·split
  ·exact (hl.slice _ _).app (Low.ltr (n26 _).1 (n26 _).2)
  ·have:=qw ((k:Int) * st) (show (8:Int)≠0 by decide)
   exact Low.mul (by have:=n26 (o+(k:Int) / 8);omega) (by omega)
abbrev vi (i:Int):Val:=⟨.int i,false,[]⟩
abbrev vs (x:Str):Val:=⟨.str x,false,[]⟩
abbrev vb (b:Bool):Val:=⟨.bool b,false,[]⟩
section
variable {a b:EF} {env:DEnv} {i j:Int}
theorem zgg (ha:a env=some (vi i)) (hb:b env=some (vi j)) (h:0<j):eOp modD a b env=some (vi (i % j)):=by
 unfold eOp;rw [ha,hb];simp [modD,intD,h,bsOf,zhl]
theorem zij (ha:a env=some (vi i)) (hb:b env=some (vi j)) (h:0<j) (h2:j<1073741824):eOp zcv a b env=some (vi (i / j)):=by
 unfold eOp;rw [ha,hb];simp [zcv,intD,h,h2,bsOf,zhl]
theorem zsy (ha:a env=some (vi i)) (hb:b env=some (vi j)):eOp addD a b env=some (vi (i+j)):=by
 unfold eOp;rw [ha,hb];simp [addD,bsOf,zhl]
theorem zamo (ha:a env=some (vi i)) (hb:b env=some (vi j)):eOp subD a b env=some (vi (i - j)):=by
 unfold eOp;rw [ha,hb];simp [subD,intD,bsOf,zhl]
theorem zamp (ha:a env=some (vi i)) (hb:b env=some (vi j)) (h:(-(2 ^ 64)<i∧i<2 ^ 64)∨(-(2 ^ 64)<j∧j<2 ^ 64)):eOp mulD a b env=some (vi (i * j)):=by
 unfold eOp;rw [ha,hb]
 simp only [qF,mulD]
 rw [if_pos h];simp [bsOf,zhl]
theorem zrr (ha:a env=some (vi i)) (hb:b env=some (vi j)):eOp eqD a b env=some (vb (i==j)):=by
 unfold eOp;rw [ha,hb];rfl
theorem zajb {x y:Str} (ha:a env=some (vs x)) (hb:b env=some (vs y)) (h:x.length+y.length≤100000):eOp addD a b env=some (vs (x++y)):=by
 unfold eOp;rw [ha,hb]
 simp only [qF,addD]
 rw [if_pos h];simp [bsOf,zhl]
theorem zaoz {x:Str} (ha:a env=some (vs x)) (hb:b env=some (vi j)) (h:x.length≤1000∧-1000≤j∧j≤1000):eOp mulD a b env=some (vs (Txt.mul x j)):=by
 unfold eOp;rw [ha,hb]
 simp only [qF,mulD]
 rw [if_pos h];simp [bsOf,zhl]
theorem zarc {x:Str} {l h:PF'} {lo hi:Option Int} (ha:a env=some (vs x)) (hl:l env=some lo) (hh:h env=some hi) (hz:x.length≤100000):eSl a l h env=some (vs (Txt.slice x lo hi)):=by
 unfold eSl;rw [ha,hl,hh]
 simp only [qF,slD]
 rw [if_pos hz];simp [bsOf,zhl]
theorem zlo (ha:a env=some (vi i)):zcm a env=some (some i):=by unfold zcm;rw [ha];rfl
theorem zdk {c:Bool} (ha:a env=some (vb c)):zbe a env=some c:=by unfold zbe;rw [ha];rfl
theorem zdi {r:Val} (ha:a env=some r):zab a aNil env=some [r]:=by unfold zab aNil;rw [ha];rfl
theorem zapa {x:Str} (ha:a env=some (vs x)) (hz:x.length≤100000):eCB lenD (zab a aNil) env=some (vi x.length):=by
 unfold eCB
 rw [zdi ha]
 simp [zlc,lenD,hz,bsOf,zhl]
theorem zir {ds:List PyData} {fr:Bool} {bs:List Nat} (ha:a env=some ⟨.list ds,fr,bs⟩):eCB lenD (zab a aNil) env=some (vi ds.length):=by
 unfold eCB
 rw [zdi ha]
 simp [zlc,lenD,bsOf,zhl]
theorem zqe {k n:Nat} {b:EF} {ds:List PyData} {d:PyData} (he:env[k]?=some (.pl (.list ds))) (hb:b env=some (vi (n:Int))) (hd:ds[n]?=some d):eIxV k b env=some ⟨d,false,[]⟩:=by
 unfold eIxV
 rw [he]
 unfold eOp eVar
 rw [he,hb]
 simp only [qF,ixD]
 rw [znz hd]
 simp [bsOf]
theorem zafw {k n:Nat} {b:EF} {ds:List PyData} {d:PyData} (he:env[k]?=some (.ac (.list ds))) (hb:b env=some (vi (n:Int))) (hd:ds[n]?=some d):eIxV k b env=some ⟨d,false,[]⟩:=by
 unfold eIxV
 rw [he]
 simp only
 rw [hb]
 simp only [qF]
 rw [znz hd];rfl
end
def abc:Str:="abcdefghijklmnopqrstuvwxyz"
theorem zard:(List.range 26).all (fun i=>abc.cps.toList[i]?==some (97+i))=true:=by decide +kernel
theorem zare:abc.length=26:=by decide +kernel
theorem zatt {i:Int} (h0:0≤i) (h1:i<26):atI abc.cps.toList i=some (97+i.toNat):=by
 have q:=qAO.mp zard i.toNat (qAb.mpr (by omega))
 have e:((i.toNat:Nat):Int)=i:=by omega
 rw [← e]
 have z:=znz (eq_of_beq q)
 rw [e] at z ⊢
 exact z
theorem zarf {k:Nat} {b:EF} {env:DEnv} {i:Int} (he:env[k]?=some (.pl (.str abc))) (hb:b env=some (vi i)) (h0:0≤i) (h1:i<26):eIxV k b env=some (vs (ltr i)):=by
 unfold eIxV
 rw [he]
 unfold eOp eVar
 rw [he,hb]
 simp only [qF,ixD]
 rw [if_pos (by rw [zare];decide),zatt h0 h1]
 simp [bsOf,zhl,ltr]
theorem zarg {i:Int} (h0:0≤i) (h1:i<8):∃ st:Int,atI [PyData.int 1,.int 3,.int 5,.int 7,.int 9,.int 11,.int 15,.int 17] i=some (.int st)∧st∈([1,3,5,7,9,11,15,17]:List Int):=by
 rcases (show i=0∨i=1∨i=2∨i=3∨i=4∨i=5∨i=6∨i=7 by omega) with rfl|rfl|rfl|rfl|rfl|rfl|rfl|rfl
 all_goals exact ⟨_,rfl,by decide⟩
theorem znp {i:Nat} {f:EF} {env:DEnv} {ds:List PyData} {d:PyData} {fr:Bool} (he:env[i]?=some (.ac (.list ds))) (hf:f env=some ⟨d,fr,[]⟩) (hl:ds.length<100000):sApp i f env=some (.nx (env.set i (.ac (.list (ds++[d]))))):=by
 unfold sApp
 rw [he]
 simp only
 rw [hf]
 simp only [qF]
 rw [if_pos ⟨hl,by simp⟩];rfl
theorem zmh (n:Nat):zqx 0 n=(List.range n).map (fun (k:Nat)=>PyData.int (k:Int)):=by
 unfold zqx
 refine qBU fun k _=>?_
 show PyData.int (0+(k:Int))=_
 rw [Int.zero_add]
theorem zarh (a b:Str):(a++b).length=a.length+b.length:=by
 have:=congrArg List.length (zli a b)
 rw [qb] at this
 simpa [Str.length] using this
theorem zajc:WebOk []:=⟨qBv,fun i n es e=>by simp at e,fun p hp=>by simp at hp,by simp⟩
theorem zajd {W:Web} {p:Str×List Str} (h:WebOk W) (hn:p.1∉nm W) (he:∀ e∈p.2,e∈nm W) (hf:p.2.length≤4) (hl:W.length<12):WebOk (W++[p]):=by
 refine ⟨by rw [zoe];exact zabu h.nd hn,fun i n es e=>?_,fun q hq=>?_,by simp;omega⟩
 ·by_cases hi:i<W.length
  ·rw [qAH hi] at e
   rw [qAr (by omega)]
   exact h.el i n es e
  ·rw [qAW (by omega)] at e
   have hi2:i - W.length=0:=by
    have:=(qZ.mp e).1
    simp at this;omega
   rw [hi2] at e
   cases e
   have:i=W.length:=by omega
   subst this
   rw [qAr (qM _),qCE]
   exact he
 ·rcases qv.mp hq with hq|hq
  ·exact h.few q hq
  ·rw [qAV.mp hq];exact hf
theorem zacc (ds:List PyData) (k:Nat) (h:k≤ds.length):cutD ds none (some (k:Int))=ds.take k:=by
 unfold cutD
 have e1:HT.sIx ds.length 0 none=0:=rfl
 rw [e1,HT.sIx_nat]
 simp
theorem zaeh {α:Type} (enc:α→PyData) (l:List α):zrq (l.map enc)=(l.zipIdx).map fun (p:α×Nat)=>PyData.tuple [.int (p.2:Int),enc p.1]:=by
 unfold zrq
 rw [List.zipIdx_map,qAa];rfl
theorem zatu {α:Type} {l:List α} (nd:l.Nodup) {i j:Nat} {hi:i<l.length} {hj:j<l.length} (e:l[i]=l[j]):i=j:=by
 rcases Nat.lt_trichotomy i j with h|h|h
 ·exact absurd e (qCY.mp nd i j hi hj h)
 ·exact h
 ·exact absurd e.symm (qCY.mp nd j i hj hi h)
theorem zvk {α:Type}:∀ (l:List α) (i:Nat) (h:i<l.length),(l[i]::l.eraseIdx i).Perm l
 | [],_,h=>by simp at h
 | a::l,0,_=>qC6 _
 | a::l,i+1,h=>by
  have hi:i<l.length:=by simpa using h
  have ih:=zvk l i hi
  show (l[i]::a::l.eraseIdx i).Perm (a::l)
  exact (List.Perm.swap a l[i] _).trans (List.Perm.cons a ih)
theorem zzf {α β:Type} (f:α→β):∀ (l:List α) (i:Nat),(l.map f).eraseIdx i=(l.eraseIdx i).map f
 | [],_=>rfl
 | _::_,0=>rfl
 | a::l,i+1=>by
  show f a::(l.map f).eraseIdx i=f a::(l.eraseIdx i).map f
  rw [zzf f l i]
theorem zzg {A B C:Sl} {kk:Nat} {nn:Sl} {xs:List Str} (hx:xs.length≤12):∀ (t:Nat) (ls es:List Str) (rs:Int) (s8 s9:Sl),(es++ls).Perm xs→t+es.length≤4→t≤ls.length →
  ∃ es' s5 s6 s8' s9',forL (gN 8) (sSeq (sSet 9 (eOp modD (eVar 6) (eCB lenD (zab (eVar 5) aNil)))) (sSeq (sSet 6 (eOp zcv (eVar 6) (eCB lenD (zab (eVar 5) aNil)))) (zod 7 5 (eVar 9)))) ((List.range' es.length t).map fun (k:Nat)=>PyData.int (k:Int)) [A,B,C,.pl (.int (kk:Int)),nn,.ac (zae ls),.pl (.int rs),.ac (zae es),s8,s9] =
   some (.nx [A,B,C,.pl (.int (kk:Int)),nn,s5,s6,.ac (zae es'),s8',s9'])∧es'.Nodup=es'.Nodup∧(∃ ls',(es'++ls').Perm xs)∧es'.length=t+es.length
 | 0,ls,es,rs,s8,s9,pm,_,_=>⟨es,_,_,s8,s9,rfl,rfl,⟨ls,pm⟩,by simp⟩
 | t+1,ls,es,rs,s8,s9,pm,h4,hl=>by
  have hls:0<ls.length:=by omega
  have pl:=pm.length_eq
  rw [qb] at pl
  have a0:=qw rs (show ((ls.length:Nat):Int)≠0 by omega)
  have a1:=qx rs (show (0:Int)<((ls.length:Nat):Int) by omega)
  have hk:(rs % ((ls.length:Nat):Int)).toNat<ls.length:=by omega
  have e9:((rs % ((ls.length:Nat):Int)).toNat:Int)=rs % ((ls.length:Nat):Int):=by omega
  generalize eA:(rs % ((ls.length:Nat):Int)).toNat=at_ at hk e9
  have pm2:((es++[ls[at_]])++ls.eraseIdx at_).Perm xs:=by
   refine List.Perm.trans ?_ pm
   rw [qBO]
   exact List.Perm.append_left es (zvk ls at_ hk)
  obtain ⟨es',s5,s6,s8',s9',q,_,hp,hlen⟩:=zzg (A:=A) (B:=B) (C:=C) (kk:=kk) (nn:=nn) hx t (ls.eraseIdx at_) (es++[ls[at_]]) (rs / ((ls.length:Nat):Int)) (.pl (.int (es.length:Int))) (.pl (.int (at_:Int))) pm2 (by simp;omega) (by rw [List.length_eraseIdx_of_lt hk];omega)
  refine ⟨es',s5,s6,s8',s9',?_,rfl,hp,by rw [hlen];simp;omega⟩
  rw [List.range'_succ,qa]
  unfold forL
  simp only [gN,qF,qBb,qBa]
  have st1:sSet 9 (eOp modD (eVar 6) (eCB lenD (zab (eVar 5) aNil))) [A,B,C,.pl (.int (kk:Int)),nn,.ac (zae ls),.pl (.int rs),.ac (zae es),.pl (.int (es.length:Int)),s9]=some (.nx [A,B,C,.pl (.int (kk:Int)),nn,.ac (zae ls),.pl (.int rs),.ac (zae es),.pl (.int (es.length:Int)),.pl (.int (at_:Int))]):=by
   have:=zcg (i:=9) (zgg (a:=eVar 6) (env:=[A,B,C,.pl (.int (kk:Int)),nn,.ac (zae ls),.pl (.int rs),.ac (zae es),.pl (.int (es.length:Int)),s9]) rfl (zir (a:=eVar 5) rfl) (by rw [qC];omega))
   rw [this,qC,← e9];rfl
  have st2:sSet 6 (eOp zcv (eVar 6) (eCB lenD (zab (eVar 5) aNil))) [A,B,C,.pl (.int (kk:Int)),nn,.ac (zae ls),.pl (.int rs),.ac (zae es),.pl (.int (es.length:Int)),.pl (.int (at_:Int))]=some (.nx [A,B,C,.pl (.int (kk:Int)),nn,.ac (zae ls),.pl (.int (rs / ((ls.length:Nat):Int))),.ac (zae es),.pl (.int (es.length:Int)),.pl (.int (at_:Int))]):=by
   have:=zcg (i:=6) (zij (a:=eVar 6) (env:=[A,B,C,.pl (.int (kk:Int)),nn,.ac (zae ls),.pl (.int rs),.ac (zae es),.pl (.int (es.length:Int)),.pl (.int (at_:Int))]) rfl (zir (a:=eVar 5) rfl) (by rw [qC];omega) (by rw [qC];omega))
   rw [this,qC];rfl
  have st3:zod 7 5 (eVar 9) [A,B,C,.pl (.int (kk:Int)),nn,.ac (zae ls),.pl (.int (rs / ((ls.length:Nat):Int))),.ac (zae es),.pl (.int (es.length:Int)),.pl (.int (at_:Int))]=some (.nx [A,B,C,.pl (.int (kk:Int)),nn,.ac (zae (ls.eraseIdx at_)),.pl (.int (rs / ((ls.length:Nat):Int))),.ac (zae (es++[ls[at_]])),.pl (.int (es.length:Int)),.pl (.int (at_:Int))]):=by
   simp only [zod,zae,eVar,qAG,qAS,qF]
   rw [if_pos ⟨by omega,by omega,by rw [qC];omega,by decide⟩,qBE,qL,qE hk]
   simp [zzf]
  rw [zao st1 (zao st2 st3),qF]
  rw [show (es++[ls[at_]]).length=es.length+1 by simp] at q
  exact q
theorem zaje {cs:List Int} {xs:List Str} (hle:xs.length≤cs.length) (h12:xs.length≤12) (nd:xs.Nodup):∃ W,zmg [zbh cs,zae xs]=some (webD W,true)∧nm W=xs∧WebOk W:=by
 have loop:∃ env',forL (gT 2 (zap 3 (zap 4 zco))) (sSeq (sSet 5 (eSl (eVar 1) zfk (zcm (eVar 3))))
  (sSeq (sSet 6 (eOp zcv (eIxV 0 (eVar 3)) (eC (.int 5))))
  (sSeq (sSet 7 (eLst aNil))
  (sSeq (sFor (zer (zab (eCB minD (zab (eOp modD (eIxV 0 (eVar 3)) (eC (.int 5))) (zab (eVar 3) aNil))) aNil)) (gN 8)
  (sSeq (sSet 9 (eOp modD (eVar 6) (eCB lenD (zab (eVar 5) aNil))))
  (sSeq (sSet 6 (eOp zcv (eVar 6) (eCB lenD (zab (eVar 5) aNil))))
  (zod 7 5 (eVar 9)))))
  (sApp 2 (eTup (zab (eVar 4) (zab (eVar 7) aNil)))))))) ((xs.zipIdx).map fun (p:Str×Nat)=>PyData.tuple [.int (p.2:Int),.str p.1]) [.pl (zbh cs),.pl (zae xs),.ac (webD []),.no,.no,.no,.no,.no,.no,.no]=some (.nx env') ∧
   ∃ W s3 s4 s5 s6 s7 s8 s9,env'=[.pl (zbh cs),.pl (zae xs),.ac (webD W),s3,s4,s5,s6,s7,s8,s9]∧nm W=(xs.zipIdx).map (fun p:Str×Nat=>p.1)∧WebOk W:=by
  refine zgm (fun pre env=>∃ W s3 s4 s5 s6 s7 s8 s9,env=[.pl (zbh cs),.pl (zae xs),.ac (webD W),s3,s4,s5,s6,s7,s8,s9]∧nm W=pre.map (fun p:Str×Nat=>p.1)∧WebOk W) ⟨[],_,_,_,_,_,_,_,rfl,rfl,zajc⟩ ?_
  rintro pre ⟨n,i⟩ post env hp ⟨W,s3,s4,s5,s6,s7,s8,s9,rfl,hnm,ok⟩
  have hz:(xs.zipIdx)[pre.length]?=some (n,i):=by rw [← hp];simp
  rw [qC1] at hz
  have hi:i=pre.length∧xs[pre.length]?=some n:=by
   cases e:xs[pre.length]? with
   | none=>rw [e] at hz;cases hz
   | some y=>rw [e] at hz;simp at hz;exact ⟨by omega,by rw [hz.1]⟩
  obtain ⟨rfl,hn⟩:=hi
  have hix:pre.length<xs.length:=(qZ.mp hn).1
  have hic:pre.length<cs.length:=by omega
  have hpre:pre.map (fun p:Str×Nat=>p.1)=xs.take pre.length:=by
   have e1:(xs.zipIdx).map (fun p:Str×Nat=>p.1)=xs:=qBS 0 xs
   have e2:=congrArg (fun l:List (Str×Nat)=>(l.map (fun p:Str×Nat=>p.1)).take pre.length) hp
   simp only [e1] at e2
   rw [← e2,qAQ,qAr (by simp),← qBI,qCE]
  have hWl:W.length=pre.length:=by
   have:=congrArg List.length hnm
   unfold nm at this
   simpa using this
  have gc:∀ {env:DEnv},env[0]?=some (.pl (zbh cs))→env[3]?=some (.pl (.int (pre.length:Int)))→eIxV 0 (eVar 3) env=some (vi cs[pre.length]):=fun {env} h0 h3 =>
   zqe (ds:=cs.map .int) h0 (by unfold eVar;rw [h3]) (by rw [qL,qE hic];rfl)
  have m5:=qw cs[pre.length] (show (5:Int)≠0 by decide)
  have m5':=qx cs[pre.length] (show (0:Int)<5 by decide)
  generalize eN:(if ((pre.length:Nat):Int)<cs[pre.length] % 5 then ((pre.length:Nat):Int) else cs[pre.length] % 5)=N
  have hN:0≤N∧N≤pre.length∧N≤4:=by rw [← eN];split<;>omega
  have tl:(xs.take pre.length).length=pre.length:=by rw [qAj];omega
  obtain ⟨es,s5',s6',s8',s9',q,_,⟨ls,pm⟩,hes⟩:=zzg (A:=.pl (zbh cs)) (B:=.pl (zae xs)) (C:=.ac (webD W)) (kk:=pre.length) (nn:=.pl (.str n)) (xs:=xs.take pre.length) (by omega) N.toNat (xs.take pre.length) [] (cs[pre.length] / 5) s8 s9 (qC6 _) (by simp;omega) (by omega)
  have ndT:(xs.take pre.length).Nodup:=nd.sublist (qB8 _ _)
  have ndE:es.Nodup:=(qBN.mp (pm.nodup_iff.mpr ndT)).1
  have subE:∀ e∈es,e∈nm W:=fun e he=>by rw [hnm,hpre];exact pm.mem_iff.mp (qAD _ he)
  have nW:n∉nm W:=by
   rw [hnm,hpre]
   intro hm
   obtain ⟨j,hj,ej⟩:=qBW hm
   rw [List.getElem_take] at ej
   obtain ⟨hh,en⟩:=qZ.mp hn
   have:=zatu nd (ej.trans en.symm)
   rw [tl] at hj
   omega
  refine ⟨_,[.pl (zbh cs),.pl (zae xs),.ac (webD (W++[(n,es)])),.pl (.int (pre.length:Int)),.pl (.str n),s5',s6',.pl (zae es),s8',s9'],rfl,.inl ?_,W++[(n,es)],_,_,_,_,_,_,_,rfl,by rw [zoe,hnm];simp,zajd ok nW subE (by rw [hes];simp;omega) (by omega)⟩
  have st5:sSet 5 (eSl (eVar 1) zfk (zcm (eVar 3))) [.pl (zbh cs),.pl (zae xs),.ac (webD W),.pl (.int (pre.length:Int)),.pl (.str n),s5,s6,s7,s8,s9]=some (.nx [.pl (zbh cs),.pl (zae xs),.ac (webD W),.pl (.int (pre.length:Int)),.pl (.str n),.ac (zae (xs.take pre.length)),s6,s7,s8,s9]):=by
   have:eSl (eVar 1) zfk (zcm (eVar 3)) [.pl (zbh cs),.pl (zae xs),.ac (webD W),.pl (.int (pre.length:Int)),.pl (.str n),s5,s6,s7,s8,s9]=some ⟨zae (xs.take pre.length),true,[]⟩:=by
    simp only [eSl,eVar,zfk,zcm,qAG,qAS,qF,zae,slD]
    rw [zacc _ _ (by rw [qC];omega),← qBI]
    simp [bsOf,zhl]
   exact zcg this
  refine zao st5 (zao (zcg (r:=vi _) (zij (gc rfl rfl) rfl (by decide) (by decide))) (zao rfl (zao (zjo (ds:=(List.range' ([]:List Str).length N.toNat).map fun (k:Nat)=>PyData.int (k:Int)) (bs:=[]) ?_ q) ?_)))
  ·have:eCB minD (zab (eOp modD (eIxV 0 (eVar 3)) (eC (.int 5))) (zab (eVar 3) aNil)) [.pl (zbh cs),.pl (zae xs),.ac (webD W),.pl (.int (pre.length:Int)),.pl (.str n),.ac (zae (xs.take pre.length)),.pl (.int (cs[pre.length] / 5)),.ac (.list []),s8,s9]=some (vi N):=by
    unfold eCB zab
    rw [zgg (gc rfl rfl) (j:=5) rfl (by decide)]
    show ((minD [.int (cs[pre.length] % 5),.int ((pre.length:Nat):Int)]).bind fun z=>some (⟨z.1,z.2,bsOf z.1 _⟩:Val))=_
    unfold minD
    simp only [qF]
    rw [eN];rfl
   show zer _ [.pl (zbh cs),.pl (zae xs),.ac (webD W),.pl (.int (pre.length:Int)),.pl (.str n),.ac (zae (xs.take pre.length)),.pl (.int (cs[pre.length] / 5)),.ac (.list []),s8,s9]=_
   unfold zer
   rw [zdi this]
   simp only [qF]
   rw [if_pos ⟨by omega,by omega⟩,zmh,List.range_eq_range']
   rfl
  ·have lz:(W.map rowD).length<100000:=by rw [qC];omega
   simp only [sApp,webD,eTup,zab,aNil,eVar,qAG,qAS,qF,qA2,zlc,bss]
   rw [if_pos (by simp)]
   simp only [qF]
   rw [if_pos ⟨lz,by simp⟩]
   simp [frzs,frz1,rowD,zae]
 obtain ⟨env',hl,W,s3,s4,s5,s6,s7,s8,s9,rfl,hnm,ok⟩:=loop
 refine ⟨W,zed (env:=[.pl (zbh cs),.pl (zae xs),.no,.no,.no,.no,.no,.no,.no,.no]) rfl (zao rfl (zao (zjo (ds:=(xs.zipIdx).map fun (p:Str×Nat)=>PyData.tuple [.int (p.2:Int),.str p.1]) (bs:=[]) ?_ hl) rfl)),hnm.trans (qBS 0 xs),ok⟩
 unfold zqw
 rw [zdi (r:=⟨zae xs,false,[]⟩) rfl]
 simp only [qF,zae]
 rw [zaeh]
section
variable {a b:EF} {env:DEnv} {x y:Str}
theorem e_in {neg:Bool} {xs:List Str} {fr:Bool} {bs:List Nat} (ha:a env=some (vs x)) (hb:b env=some ⟨zae xs,fr,bs⟩):eOp (inD neg) a b env=some (vb (if neg then !decide (x∈xs) else decide (x∈xs))):=by
 unfold eOp;rw [ha,hb];simp [zwu,bsOf,zhl]
theorem zajf {k:Nat} {kvs:List (PyData×PyData)} {d:PyData} (he:env[k]?=some (.pl (.dict kvs))∨env[k]?=some (.ac (.dict kvs))) (hb:b env=some (vs y)) (hd:zot kvs (Sum.inr y)=some d):zfd k b env=some ⟨d,false,[]⟩:=by
 unfold zfd
 rcases he with he|he<;>rw [he]<;>simp only<;>rw [hb]<;>simp [keyD,hd]
theorem zajg {neg:Bool} {ks:List Str} {fr:Bool} {bs:List Nat} (ha:a env=some (vs x)) (hb:b env=some ⟨zba ks,fr,bs⟩):eDIn neg a b env=some (vb (if neg then !decide (x∈ks) else decide (x∈ks))):=by
 unfold eDIn;rw [ha,hb];simp [zba,keyD,zzb]
end
theorem zzh {n:Str} {es:List Str}:∀ {W:Web},W.lookup n=some es→W[(nm W).idxOf n]?=some (n,es)
 | [],h=>by cases h
 | (a,b)::W,h=>by
  rw [qAM] at h
  show ((a,b)::W)[(a::nm W).idxOf n]?=_
  rw [List.idxOf_cons]
  cases e:n==a with
  | true =>
   rw [e] at h
   cases h
   rw [← eq_of_beq e]
   simp
  | false =>
   rw [e] at h
   have hne:(a==n)=false:=by
    have:=beq_eq_false_iff_ne.mp e
    exact beq_eq_false_iff_ne.mpr (qAx this)
   rw [hne]
   simpa using zzh (W:=W) h
theorem zamq {l:List Str} {n:Nat} {x:Str} (h:x∈l.take n):l.idxOf x<n:=by
 have:l.idxOf x=(l.take n).idxOf x:=by
  conv=>lhs;rw [← qCs n l]
  rw [List.idxOf_append,if_pos h]
 rw [this]
 have h2:=List.idxOf_lt_length_of_mem h
 rw [qAj] at h2
 omega
theorem zapb {W:Web} (h:WebOk W) {n e:Str} (he:e∈upL W n):e∈nm W∧(nm W).idxOf e<(nm W).idxOf n:=by
 unfold upL at he
 cases hl:W.lookup n with
 | none=>rw [hl] at he;simp at he
 | some es =>
  rw [hl] at he
  have hi:=zzh hl
  have q:=h.el _ _ _ hi e he
  have:nm (W.take ((nm W).idxOf n))=(nm W).take ((nm W).idxOf n):=by unfold nm;rw [qBI]
  rw [this] at q
  exact ⟨qAd q,zamq q⟩
theorem zajh {W:Web} {n:Str} (h:n∈nm W):∃ es,W.lookup n=some es∧(n,es)∈W:=zjp (l:=W) (n:=n) h
theorem zaji {W:Web} (h:WebOk W) {n x:Str} (hn:n∈nm W):x∈up W n↔x=n∨∃ e∈upL W n,x∈up W e:=by
 obtain ⟨es,hl,hm⟩:=zajh hn
 rw [zaoy h hm]
 unfold upL
 rw [hl];rfl
theorem zng {W:Web} {n:Str} (h:n∈nm W):(ups W).lookup n=some (up W n):=by
 obtain ⟨ks,e,_⟩:=zjp (l:=ups W) (n:=n) (by rw [zie];exact h)
 unfold up upL
 rw [e];rfl
theorem c3 {n:Nat} (h:n<100000):-(2 ^ 62)≤(n:Int):=by omega
theorem c4 {n:Nat} (h:n<100000):(n:Int)<2 ^ 62:=by omega
theorem zaq {a:EF} {f:AF} {env:DEnv} {r:Val} {rs:List Val} (ha:a env=some r) (hf:f env=some rs):zab a f env=some (r::rs):=by unfold zab;rw [ha,hf];rfl
theorem zpd {f:EF} {env:DEnv} {c:Bool} (h:f env=some (vb c)):zef (tTru f) env=some (!c):=by unfold zef tTru;rw [h];rfl
theorem zwy (cs:List Int) (a b:Nat) (h:b≤cs.length) (hab:a≤b):cutD (cs.map .int) (some (a:Int)) (some (b:Int))=((cs.drop a).take (b - a)).map .int:=by
 unfold cutD
 have e1:min a cs.length=a:=by omega
 have e2:min b cs.length=b:=by omega
 rw [HT.sIx_nat,HT.sIx_nat,qC,e1,e2,← qBl,← qBI]
theorem zpe {env:DEnv} {cs:List Int} {b:EF} {n:Nat} (h1:env[1]?=some (.pl (zbh cs))) (hb:b env=some (vi (n:Int))) (hn:n<cs.length):eIxV 1 b env=some (vi (cs[n]'hn)) :=
 zqe (ds:=cs.map .int) h1 hb (by rw [qL,qE hn];rfl)
theorem zamr {W:Web}:zej (gT 2 (zap 0 (zap 1 zco))) zdw (eTup (zab (eVar 0) (zab (eCB zqa (zab (eVar 1) aNil)) aNil))) [.no,.no] (W.map rowD)=some (W.map rowD) :=
 zec fun p _=>⟨[.pl (.str p.1),.pl (zae p.2)],rfl,rfl,⟨rowD p,false,[]⟩,rfl,rfl⟩
theorem zke:∀ (xs:List Str),(∀ x∈xs,qN x=true)→qu (xs.map .str)=true∧qf (xs.map .str)=0
 | [],_=>⟨rfl,rfl⟩
 | x::xs,h=>by
  obtain ⟨h1,h2⟩:=zke xs fun y hy=>h y (qJ _ hy)
  rw [qa]
  refine ⟨?_,?_⟩
  ·show (qN x&&qu (xs.map .str))=true
   rw [h x qX,h1];rfl
  ·show max 0 (qf (xs.map .str))=0
   rw [h2];rfl
theorem zaei:∀ (W:Web),(∀ p∈W,qN p.1=true∧∀ e∈p.2,qN e=true)→qu (W.map rowD)=true∧qf (W.map rowD)≤2
 | [],_=>⟨rfl,qAf _⟩
 | p::r,h=>by
  obtain ⟨h1,h2⟩:=zaei r fun q hq=>h q (qJ _ hq)
  obtain ⟨g1,g2⟩:=h p qX
  obtain ⟨l1,l2⟩:=zke p.2 g2
  rw [qa]
  constructor
  ·show ((qN p.1&&(qu (p.2.map .str)&&true))&&qu (r.map rowD))=true
   rw [g1,l1,h1];rfl
  ·show max (max 0 (max (qf (p.2.map .str)+1) 0)+1) (qf (r.map rowD))≤2
   rw [l2]
   omega
theorem zari {W:Web} (h:WebOk W) (hl:∀ x∈nm W,Low x):∀ p∈W,qN p.1=true∧∀ e∈p.2,qN e=true:=fun p hp =>
 ⟨zpb (hl _ (qAJ.mpr ⟨p,hp,rfl⟩)),fun e he=>zpb (hl e (zwx h (n:=p.1) (es:=p.2) hp e he))⟩
end Bc
namespace L2
open PySem PySem.Spec PyProof.Rows
def zajj (wi:TI) (g:TG) (tt:TT) (tm:TM):TM:=fun σ H Q=>wi σ H fun J H1=>zalz J g tt tm σ H1 Q
section
variable {X:Cx}
theorem zacd {M:Model} {P:Program} {w:World} {A:Around} {R:Result→Shared→Prop} {s:Shared} {elt:Expr} {g0:Comprehension} {target iter:Expr} {ifs:List Expr} {rest:List Comprehension} {scope:Scope} {cpos:Pos} {it acc:Value} {env:Env}
  (l:codeAny (model P w) A (.compLoop (.ListComp elt (g0::⟨target,iter,ifs,0⟩::rest) scope cpos) 1 it acc env) R s)
  (t:∀ (A:Around) (E:Value→Shared→Prop),wpAny (model P w) A (pyIter it) (fun u s'=>u=it∧s'=s) E s) :
  codeAny (model P w) A (.compStart (.ListComp elt (g0::⟨target,iter,ifs,0⟩::rest) scope cpos) 1 it acc env) R s:=by
 refine codeAny_of_tree ?_
 show wpAny _ _ ((compStart (.ListComp elt (g0::⟨target,iter,ifs,0⟩::rest) scope cpos) 1 it acc env).onRaise (fun x=>do noteFrame x env;standAt theWindowsPlace)) _ _ s
 refine wpAny_notedAt ?_
 unfold compStart
 show wpAny _ _ (ask >>= _) _ _ s
 refine qD (wpAny_askSetting (wpAny_ite ?_))
 split
 ·first
   | exact qD (qQ (qQ (And.intro rfl l)))
   | exact qQ (And.intro rfl l)
 ·refine qD (qCR ?_)
  first
   | exact qD (qBY (qD (thn (t _ _) fun u s' z=>by obtain ⟨e1,e2⟩:=z;subst e1;subst e2;exact qQ (And.intro rfl l))))
   | (show wpAny _ _ (standAt iter.pos >>= _) _ _ s;exact qD (qBY (qD (thn (t _ _) fun u s' z=>by obtain ⟨e1,e2⟩:=z;subst e1;subst e2;exact qQ (And.intro rfl l)))))
theorem zams {elt0:Expr} {g0:Comprehension} {scope:Scope} {cpos:Pos} {target iter:Expr} {ifs:List Expr} {wi:TI} {g:TG} {tt:TT} {te:TE} {p:Addr}
  (hx:X.xe=fun _ _=>False) (hc:X.calm=true) (hi:PI X target iter wi) (hg:PG X target g) (ht:PF X ifs tt) (he:PE X elt0 te)
  (hs:∀ x,foldedSetIterable iter X.env x=pure x) :
  PM X (do
   let x ← eval iter X.env
   standAt iter.pos
   let x ← foldedSetIterable iter X.env x
   let _ ← runOwn (.compStart (.ListComp elt0 [g0,⟨target,iter,ifs,0⟩] scope cpos) 1 (← holding [x] (pyIter x)) (.ref p) X.env) X.env) (zajj wi g tt (zafr p te)):=by
 intro pins s σ H Q I h
 refine qD (thn (hi pins s σ H _ I h) fun v s1 h1=>?_)
 refine qD (qBY ?_)
 rw [hs]
 refine qD (qQ (qD (qBZ (thn h1 fun itv s2 h2=>?_))))
 obtain ⟨it,fp,tn,J,H2,e,I2,T,st2,f2,q⟩:=h2
 subst e
 refine qD (thn (wpAny_runOwn (h:=none) (Q:=fun _ s'=>∃ σ' H',Inv X pins σ' H' s'∧Q σ' H') ?_) fun _ _ z=>qQ z)
 refine zacd (M:=model X.prog X.w) ?_ fun A E=>T.self A 0 s2 _ E st2 ⟨rfl,rfl⟩
 refine qB4 (zsk (X:=X) (pins:=pins) hx hc (elt0:=elt0) (gens:=[g0,⟨target,iter,ifs,0⟩]) (depth:=1) (ip:=iter.pos) (emit:=(do let _ ← call (.builtin "list.append") [.ref p,← eval elt0 X.env])) rfl T hg ht (zabv he) I2 st2 f2 q) fun r s5 hr=>?_
 obtain ⟨rfl,z⟩:=hr
 exact z
theorem zavg (elt target iter target2 iter2:Expr) (ifs ifs2:List Expr) (scope:Scope) (cpos:Pos) (it acc:Value) (env:Env) :
  compTurn (.ListComp elt [⟨target,iter,ifs,0⟩,⟨target2,iter2,ifs2,0⟩] scope cpos) 0 it acc env=(do
   standAt iter.pos
   match ← pyNext it with
   | none=>pure (.done .next)
   | some v =>
    letOwnedTupleGo target it v
    assign target env v
    let mut ok:=true
    for c in ifs do
     if ok then ok ← isTrue c env (eval c env)
    if ok then do
     let x ← eval iter2 env
     standAt iter2.pos
     let x ← foldedSetIterable iter2 env x
     let i ← holding [x] (pyIter x)
     let _ ← runOwn (.compStart (.ListComp elt [⟨target,iter,ifs,0⟩,⟨target2,iter2,ifs2,0⟩] scope cpos) 1 i acc env) env
     again (.compLoop (.ListComp elt [⟨target,iter,ifs,0⟩,⟨target2,iter2,ifs2,0⟩] scope cpos) 0 it acc env)
    else again (.compLoop (.ListComp elt [⟨target,iter,ifs,0⟩,⟨target2,iter2,ifs2,0⟩] scope cpos) 0 it acc env)):=rfl
noncomputable def tComp2 (wi:TI) (g:TG) (tt:TT) (wi2:TI) (g2:TG) (tt2:TT) (te:TE) (own:List Str) (fr:List Nat):TE:=zama wi g tt (fun p=>zajj wi2 g2 tt2 (zafr p te)) own fr
theorem zamt {scope:Scope} {N' own:List Str} {fr:List Nat} {elt target iter target2 iter2:Expr} {ifs ifs2:List Expr} {cpos:Pos} {wi wi2:TI} {g g2:TG} {tt tt2:TT} {te:TE} (c:CompOk X scope N' own fr) (hc:X.calm=true) (hi:PI X target iter wi)
  (hb:∀ (cl:List (Str×Addr)) (C:Addr) (s:Shared) (H:Hp) (fp:List Addr),PG (cxComp X scope N' own cl C s H fp) target g∧PF (cxComp X scope N' own cl C s H fp) ifs tt∧PI (cxComp X scope N' own cl C s H fp) target2 iter2 wi2∧PG (cxComp X scope N' own cl C s H fp) target2 g2∧PF (cxComp X scope N' own cl C s H fp) ifs2 tt2∧PE (cxComp X scope N' own cl C s H fp) elt te)
  (hs:∀ x,foldedSetIterable iter X.env x=pure x:=by intro _;rfl) (hs2:∀ env x,foldedSetIterable iter2 env x=pure x:=by intro _ _;rfl) :
  PE X (.ListComp elt [⟨target,iter,ifs,0⟩,⟨target2,iter2,ifs2,0⟩] scope cpos) (tComp2 wi g tt wi2 g2 tt2 te own fr) :=
 zadu (emit:=fun acc env=>do
   let x ← eval iter2 env
   standAt iter2.pos
   let x ← foldedSetIterable iter2 env x
   let _ ← runOwn (.compStart (.ListComp elt [⟨target,iter,ifs,0⟩,⟨target2,iter2,ifs2,0⟩] scope cpos) 1 (← holding [x] (pyIter x)) acc env) env) c hc (fun it acc env=>by
   rw [zavg]
   refine bind_congr fun _=>bind_congr fun r=>?_
   cases r with
   | none=>rfl
   | some v =>
    refine bind_congr fun _=>bind_congr fun _=>bind_congr fun ok=>?_
    cases ok with
    | false=>rfl
    | true=>simp only [if_true,bind_assoc,pure_bind]) hi
  (fun cl C s H fp p=>let ⟨h1,h2,h3,h4,h5,h6⟩:=hb cl C s H fp;⟨h1,h2,zams (X:=cxComp X scope N' own cl C s H fp) rfl hc h3 h4 h5 h6 (fun x=>hs2 _ x)⟩) hs
end
def NoAc (env:DEnv):Prop:=∀ (i:Nat) (d:PyData),env[i]?≠some (.ac d)
def GZ (lo hi:Nat) (g:GT):Prop:=∀ d env e1,g d env=some e1→e1.length=env.length∧(∀ i,(i<lo∨hi≤i)→e1[i]?=env[i]?)∧(NoAc env→NoAc e1)
theorem zamu {env:DEnv} {i:Nat} {d:PyData} (h:NoAc env):NoAc (env.set i (.pl d)):=by
 intro j d' e
 by_cases q:i=j
 ·subst q
  by_cases l:i<env.length
  ·rw [qAY l] at e;cases e
  ·rw [qCt (by simp;omega)] at e;cases e
 ·rw [qAL q] at e;exact h j d' e
theorem zajk {lo hi i:Nat} (h:lo≤i) (h':i<hi):GZ lo hi (gN i):=by
 intro d env e1 e
 cases e
 exact ⟨qAR,fun j hj=>qAL (by omega),zamu⟩
theorem zsz {g:GT} {t:TF} {e:EF} {env:DEnv}:∀ {ds rs:List PyData},zej g t e env ds=some rs→rs.length≤ds.length
 | [],rs,h=>by cases h;exact qM _
 | d::ds,rs,h=>by
  unfold zej at h
  obtain ⟨e1,_,h⟩:=qA.mp h
  obtain ⟨b,_,h⟩:=qA.mp h
  split at h
  ·obtain ⟨r,_,h⟩:=qA.mp h
   obtain ⟨rs',h',rfl⟩:=qK.mp h
   have:=zsz h'
   simp;omega
  ·have:=zsz h
   simp;omega
noncomputable def innL (f2:IF') (g2:GT) (t2:TF) (e:EF) (e1:DEnv):Option (List PyData):=(f2 e1).bind fun z=>if z.1.length<300 then zej g2 t2 e e1 z.1 else none
noncomputable def zmi (g:GT) (t:TF) (f2:IF') (g2:GT) (t2:TF) (e:EF) (env:DEnv):List PyData→Option (List PyData)
 | []=>some []
 | d::ds=>(g d env).bind fun e1=>(t e1).bind fun b=>if b=true then (innL f2 g2 t2 e e1).bind fun r1=>(zmi g t f2 g2 t2 e env ds).map fun rs=>r1++rs else zmi g t f2 g2 t2 e env ds
noncomputable def zzi (own:List Str) (fr:List Nat) (fi:IF') (g:GT) (t:TF) (f2:IF') (g2:GT) (t2:TF) (e:EF):EF:=fun env=>(fi env).bind fun z=>if z.1.length<300 then
 (zmi g t f2 g2 t2 e (envB own fr env) z.1).map fun rs=>⟨.list rs,true,if zgj rs=true then [] else z.2++capA fr env⟩ else none
theorem zamv {wi2:TI} {g2:TG} {tt2:TT} {te:TE} {f2:IF'} {gf2:GT} {t2:TF} {e:EF} {B:Addr→Prop} {H1:Hp} {e1:DEnv} {σ:St} {H:Hp} {p:Addr} {vs:List V} {done rest ds:List PyData} {bs:List Nat} {Q:St→Hp→Prop} {k n:Nat}
  (h5:SI wi2 f2) (h6:SG g2 gf2) (hy:GZ k n gf2) (h7:ST tt2 t2) (h4:SE te e) (na:NoAc e1) (no:∀ (i:Nat) (d:PyData),k≤i→i<n→e1[i]?≠some (.pl d))
  (hB:B p) (hp:H1 p=none) (hE:EnvOk B H1 e1 σ H) (ep:H p=some (.lst vs)) (rd:Rps (Offs B H) done vs) (ei:f2 e1=some (ds,bs)) (dl:done.length+ds.length<100000) (ec:zej gf2 t2 e e1 ds=some rest)
  (q:∀ σ' H' vs',H' p=some (.lst vs')→Rps (Offs B H') (done++rest) vs'→EnvOk B H1 e1 σ' H'→Q σ' H'):zajj wi2 g2 tt2 (zafr p te) σ H Q:=by
 refine h5 B H1 e1 σ H hE ds bs ei _ fun J H4 s4 yl=>?_
 have hE4:=hE.up s4
 have n4:Offs (fun b=>b=p) H4 p=none:=Offs.out rfl
 refine ⟨fun i m σ' H'=>m=ds.length - i∧i≤ds.length∧∃ vs done' rest',H' p=some (.lst vs)∧Rps (Offs B H') done' vs∧done'.length≤done.length+i∧zej gf2 t2 e e1 (ds.drop i)=some rest'∧done'++rest'=done++rest∧EnvOk B (Offs (fun b=>b=p) H4) e1 σ' H',
  ⟨ds.length,rfl,qAf _,vs,done,rest,s4 _ _ ep,Rps.same (Offs.grow s4) _ rd,qM _,ec,rfl,⟨hE4.len,hE4.pl,fun i d z=>absurd z (na i d),hE4.inj,Offs.same _ _,hE4.fxs⟩⟩,?_⟩
 rintro i m σ' H' ⟨rfl,hi,vs,done',rest',ep',rd',dl',ec',edr,hE'⟩
 obtain ⟨yi,ys⟩:=yl B H' hE'.fxs fun b o z=>by
  obtain ⟨z1,z2⟩:=Offs.of z
  have hb:¬ B b:=fun y=>z1 (.inl y)
  rw [Offs.get hb]
  exact hE'.base b o (by rw [Offs.get fun y=>hb (by rw [y];exact hB)];exact z2)
 by_cases hlt:i<ds.length
 ·obtain ⟨yg,yy⟩:=yi i ds[i] (qE hlt)
  refine .inr ⟨yg,fun σ'' H''=>i+1≤ds.length∧∃ vs done' rest',H'' p=some (.lst vs)∧Rps (Offs B H'') done' vs∧done'.length≤done.length+(i+1)∧zej gf2 t2 e e1 (ds.drop (i+1))=some rest'∧done'++rest'=done++rest∧EnvOk B (Offs (fun b=>b=p) H4) e1 σ'' H'',?_,?_⟩
  ·rintro σ'' H'' ⟨hle,hh⟩
   exact ⟨ds.length - (i+1),by omega,rfl,hle,hh⟩
  ·intro x H'' hyx
   obtain ⟨sy,ry⟩:=yy x H'' hyx
   rw [qBF hlt] at ec'
   obtain ⟨e2,ee2,ec'⟩:=qA.mp ec'
   obtain ⟨b,eb,ec'⟩:=qA.mp ec'
   have ry':Rp (Offs (fun a=>B a∨L2.own e1 σ' a) H'') ds[i] x:=Rp.same (Offs.sub fun b z=>z.elim (fun y=>y) fun ⟨j,d',z,_⟩=>absurd z (na _ _)) _ ry
   refine h6 _ _ e1 σ' H'' _ x (hE'.up sy) ry' e2 ee2 _ fun σ2 hE2=>?_
   refine h7 _ _ e2 σ2 H'' hE2 b eb _ fun H3 s3=>?_
   have hE3:=hE2.up s3
   obtain ⟨gl,gk,_⟩:=hy _ _ _ ee2
   have back:∀ {H4':Hp},EnvOk B (Offs (fun b=>b=p) H4) e2 σ2 H4'→EnvOk B (Offs (fun b=>b=p) H4) e1 σ2 H4':=fun {H4'} hh=>hh.weaken gl.symm (fun j d' ej=>by
    by_cases hj:j<k∨n≤j
    ·rw [gk j hj];exact ej
    ·exact absurd ej (no j d' (by omega) (by omega))) na
   cases b with
   | false =>
    have ec':zej gf2 t2 e e1 (ds.drop (i+1))=some rest':=ec'
    exact iteF ⟨hlt,vs,done',rest',s3 _ _ (sy _ _ ep'),Rps.same (Offs.grow (sy.trans s3)) _ rd',Nat.le_succ_of_le dl',ec',edr,back hE3⟩
   | true =>
    have ec':((e e2).bind fun r=>(zej gf2 t2 e e1 (ds.drop (i+1))).map fun rs=>r.d::rs)=some rest':=ec'
    obtain ⟨r,er,ec'⟩:=qA.mp ec'
    obtain ⟨rest2,er',rfl⟩:=qK.mp ec'
    refine iteT (h4 _ _ e2 σ2 H3 hE3 r er _ fun v H5 s5 hv=>?_)
    have t5:=(sy.trans s3).trans s5
    refine ⟨vs,t5 _ _ ep',zso (by rw [← rd'.length];omega),hlt,vs++[v],done'++[r.d],rest2,zbx,?_,by rw [qb];simp;omega,er',by rw [← edr];simp,(back (hE3.up s5)).updFx hB n4⟩
    rw [Offs.upd hB]
    refine (Rps.same (Offs.grow t5) _ rd').append (zew (Rp.same (Offs.sub fun b z=>.inl z) _ hv.rp) zey)
 ·have hi':i=ds.length:=by omega
  subst hi'
  rw [qBR] at ec'
  cases ec'
  rw [qAh] at edr
  subst edr
  exact .inl ⟨ys,q σ' H' vs ep' rd' ⟨hE'.len,hE'.pl,fun i d z=>absurd z (na i d),hE'.inj,fun b o z=>hE'.base b o (by rw [Offs.get fun y=>by rw [y,hp] at z;cases z];exact s4 b o (hE.base b o z)),hE'.fxs⟩⟩
theorem zamw {own:List Str} {fr:List Nat} {env:DEnv} {i:Nat} (h:i<own.length):(envB own fr env)[i]?=some .no:=by
 unfold envB
 rw [qAH (by simpa using h),qL,qE h];rfl
theorem zamx {own:List Str} {fr:List Nat} {wi wi2:TI} {g g2:TG} {tt tt2:TT} {te:TE} {fi f2:IF'} {gf gf2:GT} {t t2:TF} {e:EF} {k:Nat} (h1:SI wi fi) (h2:SG g gf) (hx:GZ 0 k gf) (hk:k≤own.length) (h3:ST tt t)
  (h5:SI wi2 f2) (h6:SG g2 gf2) (hy:GZ k own.length gf2) (h7:ST tt2 t2) (h4:SE te e) :
  SE (tComp2 wi g tt wi2 g2 tt2 te own fr) (zzi own fr fi gf t f2 gf2 t2 e):=by
 intro fx H0 env σ H h rr hr Q q
 unfold zzi at hr
 obtain ⟨⟨ds,bs⟩,ei,hr⟩:=qA.mp hr
 split at hr
 ·rename_i hlen
  have hlen:ds.length<300:=hlen
  obtain ⟨rs,ers,rfl⟩:=qK.mp hr
  refine h1 fx H0 env σ H h ds bs ei _ fun J H1 s yl=>fun p hp=>?_
  have hB:=zyz h s hp own fr bs
  generalize hA:(fun b=>lim fx env σ (bs++capA fr env) b)=A
  have hA':∀ b,lim fx env σ (bs++capA fr env) b↔A b:=fun b=>by rw [← hA]
  have eA:(fun b=>lim fx env σ (bs++capA fr env) b∨b=p)=fun b=>A b∨b=p:=by rw [← hA]
  rw [eA] at hB
  have seen:∀ {σ':St} {H':Hp},EnvOk (fun b=>A b∨b=p) H1 (envB own fr env) σ' H'→Same (Offs (fun b=>fx b∨L2.own (frzs env bs) σ b) H1) (Offs (fun b=>A b∨b=p) H'):=fun {σ' H'} hE=>Offs.mono hE.base fun b o eo n z=>by
   rcases z with z|z
   ·rcases (hA' b).mpr z with z|⟨i,d,z1,z2,z3⟩
    ·exact n (.inl z)
    ·exact n (.inr ⟨i,d,zld (fun y=>z1 (qAD _ y)) z2,z3⟩)
   ·rw [z,hp] at eo;cases eo
  refine ⟨fun i m σ' H'=>m=ds.length - i∧i≤ds.length∧∃ vs done rest,H' p=some (.lst vs)∧Rps (Offs (fun b=>A b∨b=p) H') done vs∧done.length≤i * 300∧zmi gf t f2 gf2 t2 e (envB own fr env) (ds.drop i)=some rest∧done++rest=rs∧EnvOk (fun b=>A b∨b=p) H1 (envB own fr env) σ' H',
   ⟨ds.length,rfl,qAf _,[],[],rs,zbx,zey,qAf _,ers,rfl,hB⟩,?_⟩
  rintro i m σ' H' ⟨rfl,hi,vs,done,rest,ep,rd,dl,ec,edr,hE⟩
  obtain ⟨yi,ys⟩:=yl _ H' hE.fxs (seen hE)
  by_cases hlt:i<ds.length
  ·obtain ⟨yg,yy⟩:=yi i ds[i] (qE hlt)
   refine .inr ⟨yg,fun σ'' H''=>i+1≤ds.length∧∃ vs done rest,H'' p=some (.lst vs)∧Rps (Offs (fun b=>A b∨b=p) H'') done vs∧done.length≤(i+1) * 300∧zmi gf t f2 gf2 t2 e (envB own fr env) (ds.drop (i+1))=some rest∧done++rest=rs∧EnvOk (fun b=>A b∨b=p) H1 (envB own fr env) σ'' H'',?_,?_⟩
   ·rintro σ'' H'' ⟨hle,hh⟩
    exact ⟨ds.length - (i+1),by omega,rfl,hle,hh⟩
   ·intro x H'' hyx
    obtain ⟨sy,ry⟩:=yy x H'' hyx
    rw [qBF hlt] at ec
    obtain ⟨e1,ee1,ec⟩:=qA.mp ec
    obtain ⟨b,eb,ec⟩:=qA.mp ec
    have ry':Rp (Offs (fun a=>(A a∨a=p)∨L2.own (envB own fr env) σ' a) H'') ds[i] x:=Rp.same (Offs.sub fun b z=>z.elim (fun y=>y) fun ⟨j,d',z,_⟩=>absurd z zle) _ ry
    refine h2 _ H1 (envB own fr env) σ' H'' _ x (hE.up sy) ry' e1 ee1 _ fun σ2 hE2=>?_
    refine h3 _ H1 e1 σ2 H'' hE2 b eb _ fun H3 s3=>?_
    have hE3:=hE2.up s3
    obtain ⟨gl,gk,gn⟩:=hx _ _ _ ee1
    have na:NoAc e1:=gn fun _ _=>zle
    have back:∀ {σ4:St} {H4:Hp},EnvOk (fun b=>A b∨b=p) H1 e1 σ4 H4→EnvOk (fun b=>A b∨b=p) H1 (envB own fr env) σ4 H4:=fun {σ4 H4} hh=>hh.weaken gl.symm (fun j d' ej=>by
     by_cases hj:own.length≤j
     ·rw [gk j (.inr (by omega))];exact ej
     ·obtain ⟨_,k,rfl,_⟩:=zwt ej;omega) fun j d'=>zle
    cases b with
    | false =>
     have ec:zmi gf t f2 gf2 t2 e (envB own fr env) (ds.drop (i+1))=some rest:=ec
     exact iteF ⟨hlt,vs,done,rest,s3 _ _ (sy _ _ ep),Rps.same (Offs.grow (sy.trans s3)) _ rd,by omega,ec,edr,back hE3⟩
    | true =>
     have ec:((innL f2 gf2 t2 e e1).bind fun r1=>(zmi gf t f2 gf2 t2 e (envB own fr env) (ds.drop (i+1))).map fun rs=>r1++rs)=some rest:=ec
     obtain ⟨r1,er,ec⟩:=qA.mp ec
     obtain ⟨rest',er',rfl⟩:=qK.mp ec
     obtain ⟨⟨ds2,bs2⟩,e2,er⟩:=qA.mp er
     split at er
     ·rename_i hl2
      have hl2:ds2.length<300:=hl2
      have l2:=zsz er
      refine iteT (zamv (B:=fun b=>A b∨b=p) (p:=p) (vs:=vs) (done:=done) h5 h6 hy h7 h4 na (fun j d' h8 h9 ej=>?_) (.inr rfl) hp hE3 (s3 _ _ (sy _ _ ep)) (Rps.same (Offs.grow (sy.trans s3)) _ rd) e2 (by omega) er fun σ5 H5 vs5 ep5 rd5 hE5=>?_)
      ·rw [gk j (.inr h8),zamw h9] at ej;cases ej
      ·have l2':r1.length≤ds2.length:=l2
       exact ⟨hlt,vs5,done++r1,rest',ep5,rd5,by rw [qb];omega,er',by rw [← edr,qBO],back hE5⟩
     ·cases er
  ·have hi':i=ds.length:=by omega
   subst hi'
   rw [qBR] at ec
   cases ec
   rw [qAh] at edr
   subst edr
   refine .inl ⟨ys,q _ H' (s.trans hE.base) ⟨?_,fun _=>⟨p,rfl,s.free hp,?_⟩⟩⟩
   ·show Rp (Offs (lim fx env σ (if zgj done=true then [] else bs++capA fr env)) H') (.list done) (.ref p)
    have nl:∀ cs,¬ lim fx env σ cs p:=fun cs z=>by
     obtain ⟨o,eo⟩:=(h.up s).lims _ p z
     rw [hp] at eo;cases eo
    refine zkp (by rw [Offs.get (nl _)];exact ep) ?_
    split
    ·rename_i f;exact zoy f rd
    ·exact Rps.same (Offs.sub fun b z=>.inl ((hA' b).mp z)) _ rd
   ·show ziv (Offs (fun b=>lim fx env σ (if zgj done=true then [] else bs++capA fr env) b∨b=p) H') H' p (.list done)
    refine ⟨vs,ep,?_⟩
    split
    ·rename_i f;exact zoy f rd
    ·exact Rps.same (Offs.sub fun b z=>z.imp (hA' b).mp id) _ rd
 ·cases hr
end L2
namespace PySem
open Sem (wp)
end PySem
namespace L2
open PySem PySem.Spec PyProof.Rows
instance memKey (k:Key) (l:List Key):Decidable (k∈l):=decidable_of_iff (∃ x,x∈l∧x=k) ⟨fun ⟨x,h,e⟩=>e▸h,fun h=>⟨k,h,rfl⟩⟩
end L2
namespace Bc
open PySem L2
def zqf:SF:=(sSeq (sIf (tTru (eIsi "tuple" (eVar 0))) (sRet (eCB zqa (zab (eVar 0) aNil))) sNil)
  (sRet (eLst (zab (eVar 0) aNil))))
def zcz:GF:=fnD 1 zqf
def zzj:SF:=(sSeq (sSet 2 zaca)
  (sSeq (sFor (zbg (zbm 1 zcz (zab (eVar 1) aNil))) (gN 3)
  (sUpd 2 (zfd 0 (eVar 3))))
  (zss 2)))
def zmj:GF:=fnD 4 zzj
theorem zaej {W:Web} (h:WebOk W):∀ (m:Nat) {k n e:Str},(nm W).idxOf k<m→k∈nm W→n∈up W k→e∈up W n→e∈up W k
 | 0,_,_,_,hm,_,_,_=>absurd hm (qCV _)
 | m+1,k,n,e,hm,hk,hn,he=>by
  rcases (zaji h hk).mp hn with rfl|⟨e',he',hn'⟩
  ·exact he
  ·obtain ⟨g1,g2⟩:=zapb h he'
   exact (zaji h hk).mpr (.inr ⟨e',he',zaej h m (by omega) g1 hn' he⟩)
theorem zta {α:Type} (f:α→Bool):∀ (l:List α),zsr (l.map fun x=>.bool (f x))=some (l.map f)
 | []=>rfl
 | x::l=>by
  show (zsr (l.map fun x=>.bool (f x))).map _=_
  rw [zta f l];rfl
theorem zarj {α:Type} {f:α→Bool} {l:List α} {a:EF} {env:DEnv} {fr:Bool} {bs:List Nat} (ha:a env=some ⟨.list (l.map fun x=>.bool (f x)),fr,bs⟩):eCB (anyD fun bs=>bs.all id) (zab a aNil) env=some (vb (l.all f)):=by
 unfold eCB
 rw [zdi ha,qF]
 show ((zsr (l.map fun x=>.bool (f x))).map _).bind _=_
 rw [zta]
 simp only [qA2,qF,qCu]
 rfl
theorem ztb {α:Type} {enc:α→PyData} {out:α→List PyData} {g:GT} {t:TF} {f2:IF'} {g2:GT} {t2:TF} {e:EF} {env:DEnv}:∀ {l:List α},(∀ x∈l,∃ e1,g (enc x) env=some e1∧t e1=some true∧innL f2 g2 t2 e e1=some (out x)) →
  zmi g t f2 g2 t2 e env (l.map enc)=some (l.flatMap out)
 | [],_=>rfl
 | x::l,h=>by
  obtain ⟨e1,h1,h2,h3⟩:=h x qX
  have ih:=ztb (l:=l) fun y hy=>h y (qJ _ hy)
  rw [qa]
  unfold zmi
  rw [h1,qF,h2,qF,if_pos rfl,h3,qF,ih,List.flatMap_cons]
  rfl
theorem zamy {own:List Str} {fr:List Nat} {fi:IF'} {g:GT} {t:TF} {f2:IF'} {g2:GT} {t2:TF} {e:EF} {env:DEnv} {ds:List PyData} {bs:List Nat} {rs:List PyData} (h:fi env=some (ds,bs)) (hl:ds.length<300) (k:zmi g t f2 g2 t2 e (envB own fr env) ds=some rs) :
  zzi own fr fi g t f2 g2 t2 e env=some ⟨.list rs,true,if zgj rs=true then [] else bs++capA fr env⟩:=by
 unfold zzi;rw [h,qF,if_pos hl,k];rfl
end Bc
namespace PySem
open Sem (wp)
def SqIt (b:Bool) (h:Heap) (it l:Addr) (i:Nat):Prop:=match b with
 | true=>h.IsListIter it l i
 | false=>h.IsTupleIter it l i
def zhm (b:Bool) (h:Heap) (l:Addr) (xs:Array Value):Prop:=match b with
 | true=>h.IsList l xs
 | false=>h.IsTuple l xs
theorem SqIt.moved {b:Bool} {h h':Heap} {it l:Addr} {i:Nat} (x:SqIt b h it l i) (e:∀ o,h.get? it=some o→h'.get? it=some o):SqIt b h' it l i:=by
 cases b with
 | true=>obtain ⟨o,q,r⟩:=x;exact ⟨o,e o q,r⟩
 | false=>obtain ⟨o,q,r⟩:=x;exact ⟨o,e o q,r⟩
theorem zhm.moved {b:Bool} {h h':Heap} {l:Addr} {xs:Array Value} (x:zhm b h l xs) (e:∀ o,h.get? l=some o→h'.get? l=some o):zhm b h' l xs:=by
 cases b with
 | true=>obtain ⟨o,q,r⟩:=x;exact ⟨o,e o q,r⟩
 | false=>obtain ⟨o,q,r⟩:=x;exact ⟨o,e o q,r⟩
theorem SqIt.at {b:Bool} {h h':Heap} {it l:Addr} {i:Nat} (x:SqIt b h it l i) (e:∀ o,h.get? it=some o→h'.get? it=some o):SqIt b h' it l i:=x.moved e
theorem SqIt.extBut {b:Bool} {h h':Heap} {it l c:Addr} {i:Nat} (x:SqIt b h it l i) (s:Heap.ExtBut c h h') (n:it≠c):SqIt b h' it l i:=x.moved fun o e=>s _ o n e
theorem zhm.extBut {b:Bool} {h h':Heap} {l c:Addr} {xs:Array Value} (x:zhm b h l xs) (s:Heap.ExtBut c h h') (n:l≠c):zhm b h' l xs:=x.moved fun o e=>s _ o n e
theorem SqIt.obj {b:Bool} {h:Heap} {it l:Addr} {i:Nat} (x:SqIt b h it l i):∃ o,h.get? it=some o∧∀ v,o.data≠.cell v:=by
 cases b with
 | true=>obtain ⟨o,q,_,r⟩:=x;exact ⟨o,q,fun v z=>by rw [r] at z;cases z⟩
 | false=>obtain ⟨o,q,_,r⟩:=x;exact ⟨o,q,fun v z=>by rw [r] at z;cases z⟩
section
variable {prog:Program} {w:World} {A:Around} {E:Value→Shared→Prop} {s:Shared}
theorem zwz {it l:Addr} {i:Nat} {items} {x:Value} {Q:Value→Shared→Prop} (hit:s.heap.IsTupleIter it l i)
  (hl:s.heap.IsTuple l items) (hx:items[i]?=some x)
  (hQ:∀ h',h'.IsTupleIter it l (i+1)→Heap.SameBut it s.heap h'→Q x {s with heap:=h'}) :
  wpAny (model prog w) A (qAE (.ref it)) Q E s:=by
 obtain ⟨o,ho,hc,hd⟩:=id hit
 obtain ⟨ol,hol,_,nl,hdl⟩:=hl
 unfold qAE
 refine qD (qAo (name:=Str.ofString "__next__") hit.typeIs qBG
  (qA7 qBG hit.typeIs qCg ?_ (qCb _)))
 show wpAny _ _ (field (.ref it) 0 >>= _) _ _ s
 refine qD (qAn ho hd (x:=.ref l) rfl ?_)
 show wpAny _ _ (if (Value.ref l==Value.none)=true then _ else _) _ _ s
 rw [if_neg (show ¬ ((Value.ref l==Value.none)=true) from qO)]
 show wpAny _ _ (field (.ref it) 1 >>= _) _ _ s
 refine qD (qAn ho hd (x:=.int i 0) rfl ?_)
 show wpAny _ _ (seqItems? (.ref l) >>= _) _ _ s
 refine qD (qA8 hol hdl ?_)
 simp only [qBE,hx]
 refine qD (wpAny_setField ho hd (by simp) (qQ ⟨x,rfl,qQ (hQ _ ?_ (qCP ..))⟩))
 exact ⟨_,qCv _ ho (Obj.isFreed_of_fields (Obj.data_mapFields hd _)),(Obj.cls_mapFields ..).trans hc,by
  rw [Obj.data_mapFields hd];simp [rawInt]⟩
theorem zzk {it l:Addr} {i:Nat} {items} {Q:Value→Shared→Prop} (hh:A.handled=none)
  (hit:s.heap.IsTupleIter it l i) (hl:s.heap.IsTuple l items) (hx:items[i]?=none)
  (hE:∀ h' e,Heap.ExtBut it s.heap h'→(∃ o,h'.get? e=some o∧o.cls=.type "StopIteration")→E (.ref e) {s with heap:=h'}) :
  wpAny (model prog w) A (qAE (.ref it)) Q E s:=by
 obtain ⟨o,ho,hc,hd⟩:=id hit
 obtain ⟨ol,hol,_,nl,hdl⟩:=hl
 unfold qAE
 refine qD (qAo (name:=Str.ofString "__next__") hit.typeIs qBG
  (qA7 qBG hit.typeIs qCg ?_ (qCb _)))
 show wpAny _ _ (field (.ref it) 0 >>= _) _ _ s
 refine qD (qAn ho hd (x:=.ref l) rfl ?_)
 show wpAny _ _ (if (Value.ref l==Value.none)=true then _ else _) _ _ s
 rw [if_neg (show ¬ ((Value.ref l==Value.none)=true) from qO)]
 show wpAny _ _ (field (.ref it) 1 >>= _) _ _ s
 refine qD (qAn ho hd (x:=.int i 0) rfl ?_)
 show wpAny _ _ (seqItems? (.ref l) >>= _) _ _ s
 refine qD (qA8 hol hdl ?_)
 simp only [qBE,hx]
 refine qD (qCR (qD (wpAny_setField ho hd (by simp) ?_)))
 show wpAny _ _ (newExc (.type "StopIteration") [] >>= _) _ _ _
 refine qD ?_
 simp only [newExc,newTuple]
 refine qD (qA5 ?_ (by size_fits))
 refine qD (m:=firstArgMember _ _) (wpAny_of_eq (a:=Value.none) (by first|rfl|(simp only [firstArgMember];rfl)) ?_)
 refine qA5 ?_ (by size_fits)
 simp only [raiseNew]
 refine qD (wpAny_handled ?_)
 first|rw [show A.in1.handled=none from hh]|rw [hh]
 refine qD (qQ (wpAny_throw ?_))
 exact hE _ _ (((qCP ..).extBut.push _).push _) ⟨_,qq _ rfl,rfl⟩
theorem zxa {b:Bool} {it l:Addr} {i:Nat} {xs:Array Value} {x:Value} {Q:Value→Shared→Prop} (hit:SqIt b s.heap it l i) (hl:zhm b s.heap l xs) (hx:xs[i]?=some x)
  (hQ:∀ h',SqIt b h' it l (i+1)→Heap.SameBut it s.heap h'→Q x {s with heap:=h'}):wpAny (model prog w) A (qAE (.ref it)) Q E s:=by
 cases b with
 | true=>exact wpAny_nextOf_list_item hit hl hx hQ
 | false=>exact zwz hit hl hx hQ
theorem zaek {b:Bool} {it l:Addr} {i:Nat} {xs:Array Value} {Q:Value→Shared→Prop} (hh:A.handled=none) (hit:SqIt b s.heap it l i) (hl:zhm b s.heap l xs) (hx:xs[i]?=none)
  (hE:∀ h' e,Heap.ExtBut it s.heap h'→(∃ o,h'.get? e=some o∧o.cls=.type "StopIteration")→E (.ref e) {s with heap:=h'}):wpAny (model prog w) A (qAE (.ref it)) Q E s:=by
 cases b with
 | true=>exact wpAny_nextOf_list_end hh hit hl hx hE
 | false=>exact zzk hh hit hl hx hE
theorem zafx {b1 b2:Bool} {z TI TO i1 i2 l1 l2:Addr} {k1 k2:Nat} {xs ys:Array Value} {x y a b:Value} {Q:Value→Shared→Prop} (D:ZipApart z TI TO i1 i2 l1 l2)
  (hz:IsZip s.heap z TI TO .none) (hTI:IsPair s.heap TI (.ref i1) (.ref i2)) (hTO:IsPair s.heap TO a b)
  (h1:SqIt b1 s.heap i1 l1 k1) (h2:SqIt b2 s.heap i2 l2 k2) (hl1:zhm b1 s.heap l1 xs) (hl2:zhm b2 s.heap l2 ys) (hx:xs[k1]?=some x) (hy:ys[k2]?=some y)
  (hQ:∀ h',IsZip h' z TI TO (rawInt s.heap.objs.size)→IsPair h' TO x y→SqIt b1 h' i1 l1 (k1+1)→SqIt b2 h' i2 l2 (k2+1)→IsPair h' s.heap.objs.size x y→h'.objs.size=s.heap.objs.size+1 →
   (∀ c o,c≠z→c≠TO→c≠i1→c≠i2→s.heap.get? c=some o→h'.get? c=some o)→Q (.ref s.heap.objs.size) {s with heap:=h'}) :
  wpAny (model prog w) A (Builtin.«zip.__next__» ⟨[.ref z],[]⟩) (fun fin s'=>∃ v,fin=.done (.ret v)∧Q v s') E s:=by
 show wpAny _ _ (field (.ref z) 2 >>= _) _ _ _
 refine qD (qAn hz rfl (x:=.bool false) rfl ?_)
 show wpAny _ _ (field (.ref z) 3 >>= _) _ _ _
 refine qD (qAn hz rfl (x:=.ref TI) rfl ?_)
 refine qD (qA8 hTI rfl ?_)
 show wpAny _ _ (Builtin.SmallTypes.ownedTupleIsFree (.ref z) >>= _) _ _ _
 refine qD ?_
 unfold Builtin.SmallTypes.ownedTupleIsFree
 refine qD (qAn hz rfl (x:=.none) rfl (qQ ?_))
 simp only [if_true]
 refine qD (qCR ?_)
 refine qD (qAn hz rfl (x:=.ref TO) rfl ?_)
 refine qD (qBB hz (by simp) fun h₁ hz₁ hs₁=>?_)
 replace hz₁:IsZip h₁ z TI TO .ellipsis:=hz₁
 refine qD ?_
 simp only [qCD,List.zipIdx_nil,qCO,List.forIn_nil]
 refine qD (qD (qCG ?_))
 show wpAny _ _ (qAE (.ref i1) >>= _) _ _ _
 refine qD (zxa (h1.extBut hs₁.extBut D.i1z) (hl1.extBut hs₁.extBut D.l1z) hx fun h₂ h1₂ hs₂=>qQ ?_)
 have hTO₂:IsPair h₂ TO a b:=hs₂.extBut _ _ D.TOi1 (hs₁.extBut _ _ D.TOz hTO)
 refine qD (qA8 hTO₂ rfl ?_)
 refine qD (qB7 hTO₂ fun h₃ hTO₃ hs₃=>?_)
 replace hTO₃:IsPair h₃ TO x b:=hTO₃
 refine qD (wpAny_letGo (qQ ?_))
 refine qD (qD (qCG ?_))
 show wpAny _ _ (qAE (.ref i2) >>= _) _ _ _
 refine qD (zxa (((h2.extBut hs₁.extBut D.i2z).extBut hs₂.extBut D.i12.symm).extBut hs₃.extBut D.TOi2.symm)
  (((hl2.extBut hs₁.extBut D.l2z).extBut hs₂.extBut D.l2i1).extBut hs₃.extBut D.l2TO) hy fun h₄ h2₄ hs₄=>qQ ?_)
 have hTO₄:IsPair h₄ TO x b:=hs₄.extBut _ _ D.TOi2 hTO₃
 refine qD (qA8 hTO₄ rfl ?_)
 refine qD (qB7 hTO₄ fun h₅ hTO₅ hs₅=>?_)
 replace hTO₅:IsPair h₅ TO x y:=hTO₅
 refine qD (wpAny_letGo (qQ (qQ ?_)))
 refine qD (qA8 hTO₅ rfl ?_)
 refine qD (wpAny_newTuple ?_)
 have hsz:h₅.objs.size=s.heap.objs.size:=by rw [hs₅.1,hs₄.1,hs₃.1,hs₂.1,hs₁.1]
 have hz₅:IsZip h₅ z TI TO .ellipsis:=hs₅.extBut _ _ D.TOz.symm (hs₄.extBut _ _ D.i2z.symm (hs₃.extBut _ _ D.TOz.symm (hs₂.extBut _ _ D.i1z.symm hz₁)))
 have hk₅:∀ c o,c≠z→c≠TO→c≠i1→c≠i2→s.heap.get? c=some o→h₅.get? c=some o:=fun c o c1 c2 c3 c4 e =>
  hs₅.extBut _ _ c2 (hs₄.extBut _ _ c4 (hs₃.extBut _ _ c2 (hs₂.extBut _ _ c3 (hs₁.extBut _ _ c1 e))))
 have h1₅:SqIt b1 h₅ i1 l1 (k1+1):=((h1₂.extBut hs₃.extBut D.TOi1.symm).extBut hs₄.extBut D.i12).extBut hs₅.extBut D.TOi1.symm
 have h2₅:SqIt b2 h₅ i2 l2 (k2+1):=h2₄.extBut hs₅.extBut D.TOi2.symm
 have hzlt:z<h₅.objs.size:=qW hz₅
 have hTOlt:TO<h₅.objs.size:=qW hTO₅
 have hi1lt:i1<h₅.objs.size:=by obtain ⟨_,e,_⟩:=h1₅.obj;exact qW e
 have hi2lt:i2<h₅.objs.size:=by obtain ⟨_,e,_⟩:=h2₅.obj;exact qW e
 show wpAny _ _ (Builtin.SmallTypes.ownedTupleHandOut (.ref z) (.ref h₅.objs.size) >>= _) _ _ _
 refine qD ?_
 unfold Builtin.SmallTypes.ownedTupleHandOut
 have hz₆:IsZip (h₅.push {cls:=.type "tuple",data:=.seq #[x,y]}) z TI TO .ellipsis:=qG _ hz₅
 refine qD (qBB hz₆ (by simp) fun h₇ hz₇ hs₇=>?_)
 replace hz₇:IsZip h₇ z TI TO (rawInt h₅.objs.size):=hz₇
 refine qBB hz₇ (by simp) fun h₈ hz₈ hs₈=>?_
 replace hz₈:IsZip h₈ z TI TO (rawInt h₅.objs.size):=hz₈
 have up:∀ c o,c≠z→h₅.get? c=some o→h₈.get? c=some o:=fun c o c1 e=>hs₈.extBut _ _ c1 (hs₇.extBut _ _ c1 (qG _ e))
 have hT₈:IsPair h₈ h₅.objs.size x y:=hs₈.extBut _ _ (qBu hzlt) (hs₇.extBut _ _ (qBu hzlt) (qq _ rfl))
 have hz8:h₈.objs.size=h₅.objs.size+1:=by rw [hs₈.1,hs₇.1,qA1]
 rw [hsz] at hz₈ hT₈ hz8
 refine qQ ⟨_,rfl,?_⟩
 show Q (.ref h₅.objs.size) _
 rw [hsz]
 exact hQ h₈ hz₈ (up _ _ D.TOz hTO₅) (h1₅.at fun o e=>up _ o D.i1z e) (h2₅.at fun o e=>up _ o D.i2z e) hT₈ hz8 fun c o c1 c2 c3 c4 e=>up c o c1 (hk₅ c o c1 c2 c3 c4 e)
theorem zajl {b1 b2:Bool} {z TI TO i1 i2 l1 l2:Addr} {k1 k2:Nat} {xs ys:Array Value} {a b:Value} {Q:Fin→Shared→Prop} (hh:A.handled=none) (D:ZipApart z TI TO i1 i2 l1 l2)
  (hz:IsZip s.heap z TI TO .none) (hTI:IsPair s.heap TI (.ref i1) (.ref i2)) (hTO:IsPair s.heap TO a b)
  (h1:SqIt b1 s.heap i1 l1 k1) (h2:SqIt b2 s.heap i2 l2 k2) (hl1:zhm b1 s.heap l1 xs) (hl2:zhm b2 s.heap l2 ys) (hend:xs[k1]?=none∨ys[k2]?=none)
  (hE:∀ h' e,(∀ c o,c≠z→c≠TO→c≠i1→c≠i2→s.heap.get? c=some o→h'.get? c=some o)→(∃ o,h'.get? e=some o∧o.cls=.type "StopIteration")→E (.ref e) {s with heap:=h'}) :
  wpAny (model prog w) A (Builtin.«zip.__next__» ⟨[.ref z],[]⟩) Q E s:=by
 show wpAny _ _ (field (.ref z) 2 >>= _) _ _ _
 refine qD (qAn hz rfl (x:=.bool false) rfl ?_)
 show wpAny _ _ (field (.ref z) 3 >>= _) _ _ _
 refine qD (qAn hz rfl (x:=.ref TI) rfl ?_)
 refine qD (qA8 hTI rfl ?_)
 show wpAny _ _ (Builtin.SmallTypes.ownedTupleIsFree (.ref z) >>= _) _ _ _
 refine qD ?_
 unfold Builtin.SmallTypes.ownedTupleIsFree
 refine qD (qAn hz rfl (x:=.none) rfl (qQ ?_))
 simp only [if_true]
 refine qD (qCR ?_)
 refine qD (qAn hz rfl (x:=.ref TO) rfl ?_)
 refine qD (qBB hz (by simp) fun h₁ hz₁ hs₁=>?_)
 replace hz₁:IsZip h₁ z TI TO .ellipsis:=hz₁
 refine qD ?_
 simp only [qCD,List.zipIdx_nil,qCO,List.forIn_nil]
 refine qD (qD (qCG ?_))
 show wpAny _ _ (qAE (.ref i1) >>= _) _ _ _
 cases hx:xs[k1]? with
 | none =>
  refine qD (zaek hh (h1.extBut hs₁.extBut D.i1z) (hl1.extBut hs₁.extBut D.l1z) hx fun h₂ e hs₂ he=>?_)
  obtain ⟨oe,hoe,hce⟩:=he
  have hz₂:IsZip h₂ z TI TO .ellipsis:=hs₂ _ _ D.i1z.symm hz₁
  have hez:e≠z:=fun x=>by subst x;rw [hz₂] at hoe;cases hoe;simp at hce
  refine qBB hz₂ (by simp) fun h₃ _ hs₃=>hE h₃ e (fun c o c1 _ c3 _ x=>hs₃.extBut _ _ c1 (hs₂ _ _ c3 (hs₁.extBut _ _ c1 x))) ⟨oe,hs₃.extBut _ _ hez hoe,hce⟩
 | some x =>
  have hy:ys[k2]?=none:=by rcases hend with h|h;rw [hx] at h;cases h;exact h
  refine qD (zxa (h1.extBut hs₁.extBut D.i1z) (hl1.extBut hs₁.extBut D.l1z) hx fun h₂ h1₂ hs₂=>qQ ?_)
  have hTO₂:IsPair h₂ TO a b:=hs₂.extBut _ _ D.TOi1 (hs₁.extBut _ _ D.TOz hTO)
  refine qD (qA8 hTO₂ rfl ?_)
  refine qD (qB7 hTO₂ fun h₃ hTO₃ hs₃=>?_)
  refine qD (wpAny_letGo (qQ ?_))
  refine qD (qD (qCG ?_))
  show wpAny _ _ (qAE (.ref i2) >>= _) _ _ _
  refine qD (zaek hh (((h2.extBut hs₁.extBut D.i2z).extBut hs₂.extBut D.i12.symm).extBut hs₃.extBut D.TOi2.symm)
   (((hl2.extBut hs₁.extBut D.l2z).extBut hs₂.extBut D.l2i1).extBut hs₃.extBut D.l2TO) hy fun h₄ e hs₄ he=>?_)
  obtain ⟨oe,hoe,hce⟩:=he
  have hz₄:IsZip h₄ z TI TO .ellipsis:=hs₄ _ _ D.i2z.symm (hs₃.extBut _ _ D.TOz.symm (hs₂.extBut _ _ D.i1z.symm hz₁))
  have hez:e≠z:=fun x=>by subst x;rw [hz₄] at hoe;cases hoe;simp at hce
  refine qBB hz₄ (by simp) fun h₅ _ hs₅=>hE h₅ e (fun c o c1 c2 c3 c4 x=>hs₅.extBut _ _ c1 (hs₄ _ _ c4 (hs₃.extBut _ _ c2 (hs₂.extBut _ _ c3 (hs₁.extBut _ _ c1 x))))) ⟨oe,hs₅.extBut _ _ hez hoe,hce⟩
structure ZipAt (b1 b2:Bool) (h:Heap) (z TI TO i1 i2 l1 l2:Addr) (f0:Value) (k:Nat):Prop where
 z:IsZip h z TI TO f0
 ti:IsPair h TI (.ref i1) (.ref i2)
 to:∃ a b,IsPair h TO a b
 i1:SqIt b1 h i1 l1 k
 i2:SqIt b2 h i2 l2 k
theorem zajm {b1 b2:Bool} {z TI TO i1 i2 l1 l2:Addr} {k:Nat} {xs ys:Array Value} {x y:Value} {Q:Value→Shared→Prop} (D:ZipApart z TI TO i1 i2 l1 l2)
  (hz:ZipAt b1 b2 s.heap z TI TO i1 i2 l1 l2 .none k) (hl1:zhm b1 s.heap l1 xs) (hl2:zhm b2 s.heap l2 ys) (hx:xs[k]?=some x) (hy:ys[k]?=some y)
  (hQ:∀ h',ZipAt b1 b2 h' z TI TO i1 i2 l1 l2 (rawInt s.heap.objs.size) (k+1)→IsPair h' s.heap.objs.size x y →
   (∀ c o,c≠z→c≠TO→c≠i1→c≠i2→s.heap.get? c=some o→h'.get? c=some o)→Q (.ref s.heap.objs.size) {s with heap:=h'}) :
  wpAny (model prog w) A (Builtin.«zip.__next__» ⟨[.ref z],[]⟩) (fun fin s'=>∃ v,fin=.done (.ret v)∧Q v s') E s:=by
 obtain ⟨p1,p2,⟨a,b,p3⟩,p4,p5⟩:=hz
 exact zafx D p1 p2 p3 p4 p5 hl1 hl2 hx hy fun h' q1 q2 q3 q4 q5 _ q7=>hQ h' ⟨q1,q7 _ _ D.TIz D.TITO D.TIi1 D.TIi2 p2,⟨x,y,q2⟩,q3,q4⟩ q5 q7
theorem zamz {b1 b2:Bool} {z TI TO i1 i2 l1 l2:Addr} {k:Nat} {xs ys:Array Value} {Q:Fin→Shared→Prop} (hh:A.handled=none) (D:ZipApart z TI TO i1 i2 l1 l2)
  (hz:ZipAt b1 b2 s.heap z TI TO i1 i2 l1 l2 .none k) (hl1:zhm b1 s.heap l1 xs) (hl2:zhm b2 s.heap l2 ys) (hend:xs[k]?=none∨ys[k]?=none)
  (hE:∀ h' e,(∀ c o,c≠z→c≠TO→c≠i1→c≠i2→s.heap.get? c=some o→h'.get? c=some o)→(∃ o,h'.get? e=some o∧o.cls=.type "StopIteration")→E (.ref e) {s with heap:=h'}) :
  wpAny (model prog w) A (Builtin.«zip.__next__» ⟨[.ref z],[]⟩) Q E s:=by
 obtain ⟨p1,p2,⟨a,b,p3⟩,p4,p5⟩:=hz
 exact zajl hh D p1 p2 p3 p4 p5 hl1 hl2 hend hE
end
end PySem
namespace L2
open PySem PySem.Spec PyProof.Rows
def SqX (b:Bool) (K:qB) (H:Hp) (a:Addr) (xs:List V):Prop:=match b with
 | true=>SqL K H a xs
 | false=>SqT K H a xs
section
variable {X:Cx} {pins:List (Addr×Obj)} {σ:St} {H:Hp} {s:Shared}
theorem Inv.sq {b:Bool} {a:Addr} {xs:List V} (I:Inv X pins σ H s) (h:SqX b X.K H a xs):∃ its:List Value,Vals xs its∧zhm b s.heap a its.toArray∧xs.length≤qk:=by
 cases b with
 | true=>obtain ⟨its,r,p,z⟩:=I.list h;exact ⟨its,r,p.isList,z⟩
 | false=>obtain ⟨its,r,p,z⟩:=I.tuple h;exact ⟨its,r,(show s.heap.IsTuple a its.toArray from p),z⟩
theorem Inv.sq_inj {b:Bool} {a:Addr} {xs ys:List V} (I:Inv X pins σ H s) (h:SqX b X.K H a xs) (h':SqX b X.K H a ys):xs=ys:=by
 cases b with
 | true=>exact I.list_inj h h'
 | false=>exact I.tuple_inj h h'
end
noncomputable def Itz (K:qB) (b1:Bool) (a1:Addr) (b2:Bool) (a2:Addr):It :=
 ⟨fun i H=>∃ xs ys x y,SqX b1 K H a1 xs∧SqX b2 K H a2 ys∧xs[i]?=some x∧ys[i]?=some y,
  fun i H v H'=>∃ p x y,v=.ref p∧H p=none∧H'=upd H p (.tup [x,y])∧(∀ xs,SqX b1 K H a1 xs→xs[i]?=some x)∧∀ ys,SqX b2 K H a2 ys→ys[i]?=some y,
  fun i H=>∃ xs ys,SqX b1 K H a1 xs∧SqX b2 K H a2 ys∧(xs.length≤i∨ys.length≤i)⟩
theorem zana {P:Program} {w:World} {K:qB} {elts:List Expr} {x1} {tpos:Pos} {b1 b2:Bool} {z TI TO i1 i2 l1 l2:Addr} (D:ZipApart z TI TO i1 i2 l1 l2) :
  Turn P w K (.Tuple elts x1 tpos) (Itz K b1 l1 b2 l2) [z,TI,TO,i1,i2] z (fun i h=>ZipAt b1 b2 h z TI TO i1 i2 l1 l2 .none i) where
 mem:=by simp
 obj:=fun i h st b hb=>by
  obtain ⟨a,c,hto⟩:=st.to
  simp only [qg,qAi,or_false] at hb
  rcases hb with rfl|rfl|rfl|rfl|rfl
  ·exact ⟨_,st.z,fun v q=>by simp at q⟩
  ·exact ⟨_,st.ti,fun v q=>by simp at q⟩
  ·exact ⟨_,hto,fun v q=>by simp at q⟩
  ·exact st.i1.obj
  ·exact st.i2.obj
 keep:=fun i h h' st k=>by
  obtain ⟨a,c,hto⟩:=st.to
  exact ⟨k z (by simp) _ st.z,k TI (by simp) _ st.ti,⟨a,c,k TO (by simp) _ hto⟩,st.i1.moved fun o q=>k i1 (by simp) o q,st.i2.moved fun o q=>k i2 (by simp) o q⟩
 item:=by
  intro X hP hw hK hc i pins s σ H E I hf st hg
  subst hP hw hK
  obtain ⟨xs,ys,x,y,q1,q2,hx,hy⟩:=hg
  obtain ⟨its1,rv1,p1,_⟩:=I.sq q1
  obtain ⟨its2,rv2,p2,_⟩:=I.sq q2
  obtain ⟨u1,hu1,ru1⟩:=rv1.get hx
  obtain ⟨u2,hu2,ru2⟩:=rv2.get hy
  have hT:s.TypeIs (.ref z) "zip":=⟨_,st.z,rfl⟩
  unfold pyNext
  refine qD (wpAny_attempt (qAo (name:=Str.ofString "__next__") hT qBw (qA7 qBw hT F.entry_zip_next
   (zajm D st p1 p2 (x:=u1) (y:=u2) (by simpa using hu1) (by simpa using hu2) fun h1 zt tp kp=>qQ ?_) (F.args_zip_next_1 _))))
  refine ⟨_,rfl,wpAny_letOwnedTupleGo_zip (s:={s with heap:=h1}) zt.z fun h2 z2 sb2=>?_⟩
  have hp:H s.heap.objs.size=none:=I.hok.fresh (qM _)
  have fz:=hf z (by simp)
  have fO:=hf TO (by simp)
  have f1:=hf i1 (by simp)
  have f2:=hf i2 (by simp)
  have lt:∀ b∈[z,TI,TO,i1,i2],b≠s.heap.objs.size:=fun b hb=>by
   obtain ⟨a,c,hto⟩:=st.to
   simp only [qg,qAi,or_false] at hb
   rcases hb with rfl|rfl|rfl|rfl|rfl
   ·exact q9 (qW st.z)
   ·exact q9 (qW st.ti)
   ·exact q9 (qW hto)
   ·obtain ⟨o,q,_⟩:=st.i1.obj;exact q9 (qW q)
   ·obtain ⟨o,q,_⟩:=st.i2.obj;exact q9 (qW q)
  have k2:∀ b o,b≠z→b≠TO→b≠i1→b≠i2→s.heap.get? b=some o→h2.get? b=some o:=fun b o e1 e2 e3 e4 q=>(sb2.2 b e1).trans (kp b o e1 e2 e3 e4 q)
  have t2:IsPair h2 s.heap.objs.size u1 u2:=(sb2.2 _ (qAx (lt z (by simp)))).trans tp
  have nch:∀ b,b∉[z,TO,i1,i2]→b≠z∧b≠TO∧b≠i1∧b≠i2:=fun b hb=>⟨fun q=>hb (by simp [q]),fun q=>hb (by simp [q]),fun q=>hb (by simp [q]),fun q=>hb (by simp [q])⟩
  have k3:∀ b o,b∉[z,TO,i1,i2]→s.heap.get? b=some o→h2.get? b=some o:=fun b o hb q=>let ⟨e1,e2,e3,e4⟩:=nch b hb;k2 b o e1 e2 e3 e4 q
  have nH:∀ c v,H c=some v→c∉[z,TO,i1,i2]:=fun c v q hc=>by
   have:H c=none:=by
    simp only [qg,qAi,or_false] at hc
    rcases hc with rfl|rfl|rfl|rfl
    ·exact fz.1
    ·exact fO.1
    ·exact f1.1
    ·exact f2.1
   rw [this] at q;cases q
  refine ⟨.ref s.heap.objs.size,upd H s.heap.objs.size (.tup [x,y]),?_,rfl,⟨_,x,y,rfl,hp,rfl,fun zs q=>by rw [I.sq_inj q q1];exact hx,fun zs q=>by rw [I.sq_inj q q2];exact hy⟩,?_,fun b hb=>by rw [zcp (lt b hb)];exact (hf b hb).1⟩
  ·refine Inv.step (s:=s) (h':=h2) (g':=s.gens) (d':=s.drawn) (t':=s.toks) (ch:=[z,TO,i1,i2]) I (fun b hb=>?_) (fun b o _ _ hc q _=>k3 b o hc q) (fun b o _ _ hc q _=>⟨o.slots,k3 b o hc q⟩)
    (fun b o _ q n=>by rw [zcp (q9 (qW q))];exact n) (fun b o hc q=>⟨o,k3 b o hc q⟩)
    (fun b xs q=>by rw [zcp (zcr q hp)];exact q) (fun b o v q=>by rw [zcp (zcr q hp)];exact q) (fun b ps q=>⟨#[],by rw [zcp (zcr q hp),q];simp⟩) (fun m hm=>?_) (fun b v q=>?_) I.bare
   ·have:=hf b (by
     simp only [qg,qAi,or_false] at hb ⊢
     rcases hb with rfl|rfl|rfl|rfl<;>simp)
    exact ⟨this.2.2.2.1,this.2.1,this.2.2.2.2.1,this.2.2.2.2.2⟩
   ·obtain ⟨o,es,ep,ho,r⟩:=hm
    exact ⟨o,es,ep,k2 _ o (qAx fz.2.1) (qAx fO.2.1) (qAx f1.2.1) (qAx f2.2.1) ho,r⟩
   ·by_cases hb:b=s.heap.objs.size
    ·subst hb
     rw [zbx] at q
     cases q
     exact ⟨by show 2≤qk;decide,[u1,u2],.cons ru1 (.cons ru2 .nil),_,t2,rfl,_,rfl⟩
    ·rw [zcp hb] at q
     refine (I.hok b v q).stay (fun c w' hc r=>?_) (fun c r=>by rw [zcp (zcr r hp)];exact r) fun c ys r=>by rw [zcp (zcr r hp)];exact r
     rcases hc with rfl|hc
     ·exact k3 c w' (nH c v q) r
     ·exact k3 c w' (nH c _ hc) r
  ·obtain ⟨a,c,hto⟩:=zt.to
   exact ⟨z2,(sb2.2 _ D.TIz).trans zt.ti,⟨a,c,(sb2.2 _ D.TOz).trans hto⟩,zt.i1.moved fun o q=>(sb2.2 _ D.i1z).trans q,zt.i2.moved fun o q=>(sb2.2 _ D.i2z).trans q⟩
 done:=by
  intro X hP hw hK hc i pins s σ H E I hf st hg
  subst hP hw hK
  obtain ⟨xs,ys,q1,q2,hle⟩:=hg
  obtain ⟨its1,rv1,p1,_⟩:=I.sq q1
  obtain ⟨its2,rv2,p2,_⟩:=I.sq q2
  have l1':=rv1.length
  have l2':=rv2.length
  have hT:s.TypeIs (.ref z) "zip":=⟨_,st.z,rfl⟩
  unfold pyNext
  refine qD (wpAny_attempt (qAo (name:=Str.ofString "__next__") hT qBw (qA7 qBw hT F.entry_zip_next
   (zamz (by exact I.ok.hd hc) D st p1 p2 (by rcases hle with q|q;exact .inl (by simp;omega);exact .inr (by simp;omega)) fun h' e kp he=>?_) (F.args_zip_next_1 _))))
  obtain ⟨o,ho,hcl⟩:=he
  refine qD (wpAny_isInstance (T:="StopIteration") (b:=true) ⟨o,ho,hcl⟩ isSubtype_stop (qQ ⟨rfl,?_⟩))
  have fz:=hf z (by simp)
  have fO:=hf TO (by simp)
  have f1:=hf i1 (by simp)
  have f2:=hf i2 (by simp)
  have nch:∀ b,b∉[z,TO,i1,i2]→b≠z∧b≠TO∧b≠i1∧b≠i2:=fun b hb=>⟨fun q=>hb (by simp [q]),fun q=>hb (by simp [q]),fun q=>hb (by simp [q]),fun q=>hb (by simp [q])⟩
  have k3:∀ b o,b∉[z,TO,i1,i2]→s.heap.get? b=some o→h'.get? b=some o:=fun b o hb q=>let ⟨e1,e2,e3,e4⟩:=nch b hb;kp b o e1 e2 e3 e4 q
  have nH:∀ c v,H c=some v→c∉[z,TO,i1,i2]:=fun c v q hc=>by
   have:H c=none:=by
    simp only [qg,qAi,or_false] at hc
    rcases hc with rfl|rfl|rfl|rfl
    ·exact fz.1
    ·exact fO.1
    ·exact f1.1
    ·exact f2.1
   rw [this] at q;cases q
  refine Inv.step (s:=s) (h':=h') (g':=s.gens) (d':=s.drawn) (t':=s.toks) (ch:=[z,TO,i1,i2]) I (fun b hb=>?_) (fun b o _ _ hc q _=>k3 b o hc q) (fun b o _ _ hc q _=>⟨o.slots,k3 b o hc q⟩)
    (fun b o _ q n=>n) (fun b o hc q=>⟨o,k3 b o hc q⟩) (fun b xs q=>q) (fun b o v q=>q) (fun b ps q=>⟨#[],by rw [q];simp⟩) (fun m hm=>?_) (fun b v q=>?_) I.bare
  ·have:=hf b (by
     simp only [qg,qAi,or_false] at hb ⊢
     rcases hb with rfl|rfl|rfl|rfl<;>simp)
   exact ⟨this.2.2.2.1,this.2.1,this.2.2.2.2.1,this.2.2.2.2.2⟩
  ·obtain ⟨o,es,ep,ho,r⟩:=hm
   exact ⟨o,es,ep,kp _ o (qAx fz.2.1) (qAx fO.2.1) (qAx f1.2.1) (qAx f2.2.1) ho,r⟩
  ·refine (I.hok b v q).stay (fun c w' hc r=>?_) (fun c r=>r) fun c ys r=>r
   rcases hc with rfl|hc
   ·exact k3 c w' (nH c v q) r
   ·exact k3 c w' (nH c _ hc) r
 self:=fun _ _ _ _ _ st h=>wpAny_pyIter_zip st.z h
end L2
namespace PySem
open Sem (wp)
noncomputable def itO (b:Bool) (l:Addr):Obj:=match b with
 | true=>{cls:=.type "list_iterator",data:=.fields #[.ref l,.int 0 0]}
 | false=>{cls:=.type "tuple_iterator",data:=.fields #[.ref l,.int 0 0]}
def zx1 (b1:Bool) (h:Heap) (l1:Addr):Heap:=h.push (itO b1 l1)
def zx2 (b1 b2:Bool) (h:Heap) (l1 l2:Addr):Heap:=(zx1 b1 h l1).push (itO b2 l2)
noncomputable def zx3 (b1 b2:Bool) (h:Heap) (l1 l2:Addr):Heap:=(zx2 b1 b2 h l1 l2).push {cls:=.type "tuple",data:=.seq #[.ref h.objs.size,.ref (zx1 b1 h l1).objs.size]}
def zx4 (b1 b2:Bool) (h:Heap) (l1 l2:Addr):Heap:=(zx3 b1 b2 h l1 l2).push {cls:=.type "tuple",data:=.seq #[.none,.none]}
noncomputable def zx5 (b1 b2:Bool) (h:Heap) (l1 l2:Addr):Heap:=(zx4 b1 b2 h l1 l2).push {cls:=.type "zip",data:=.fields #[.none,.bool false,.bool false,.ref (zx2 b1 b2 h l1 l2).objs.size,.ref (zx3 b1 b2 h l1 l2).objs.size]}
theorem zafy (b1 b2:Bool) (l1 l2:Addr) (xs ys:Array Value) :
  Meets (Builtin.«zip.__new__» ⟨[.type "zip",.ref l1,.ref l2],[]⟩) (fun _ R s=>zhm b1 s.heap l1 xs∧zhm b2 s.heap l2 ys∧R (.ok (.ret (.ref (zx4 b1 b2 s.heap l1 l2).objs.size))) {s with heap:=zx5 b1 b2 s.heap l1 l2}) :=
 .of_wp fun prog w A R s h=>by
  obtain ⟨hp,g,d,tk,os⟩:=s;obtain ⟨h1,h2,h⟩:=h
  have hsub:=sub_zip
  cases b1 with
  | true =>
   have e1:Heap.IsList (Shared.heap ⟨hp,g,d,tk,os⟩) l1 xs:=h1
   cases b2 with
   | true =>
    have e2:Heap.IsList (Shared.heap ⟨hp.push {cls:=.type "list_iterator",data:=.fields #[.ref l1,.int 0 0]},g,d,tk,os⟩) l2 ys:=qCh h2 _
    wp_walk using qAv e1,qAv e2
    exact ⟨_,rfl,h⟩
   | false =>
    have e2:Heap.IsTuple (Shared.heap ⟨hp.push {cls:=.type "list_iterator",data:=.fields #[.ref l1,.int 0 0]},g,d,tk,os⟩) l2 ys:=qCa h2 _
    wp_walk using qAv e1,qAt e2
    exact ⟨_,rfl,h⟩
  | false =>
   have e1:Heap.IsTuple (Shared.heap ⟨hp,g,d,tk,os⟩) l1 xs:=h1
   cases b2 with
   | true =>
    have e2:Heap.IsList (Shared.heap ⟨hp.push {cls:=.type "tuple_iterator",data:=.fields #[.ref l1,.int 0 0]},g,d,tk,os⟩) l2 ys:=qCh h2 _
    wp_walk using qAt e1,qAv e2
    exact ⟨_,rfl,h⟩
   | false =>
    have e2:Heap.IsTuple (Shared.heap ⟨hp.push {cls:=.type "tuple_iterator",data:=.fields #[.ref l1,.int 0 0]},g,d,tk,os⟩) l2 ys:=qCa h2 _
    wp_walk using qAt e1,qAt e2
    exact ⟨_,rfl,h⟩
theorem zxb {b:Bool} {h:Heap} {a l:Addr} (e:h.get? a=some (itO b l)):SqIt b h a l 0:=by
 cases b with
 | true=>exact ⟨_,e,rfl,rfl⟩
 | false=>exact ⟨_,e,rfl,rfl⟩
theorem zajn {prog:Program} {w:World} {A:Around} {E:Value→Shared→Prop} {s:Shared} {b1 b2:Bool} {l1 l2:Addr} {xs ys:Array Value} {Q:Value→Shared→Prop} (h1:zhm b1 s.heap l1 xs) (h2:zhm b2 s.heap l2 ys)
  (h:∀ h',ZipAt b1 b2 h' (s.heap.objs.size+4) (s.heap.objs.size+2) (s.heap.objs.size+3) s.heap.objs.size (s.heap.objs.size+1) l1 l2 .none 0→(∀ c o,s.heap.get? c=some o→h'.get? c=some o)→Q (.ref (s.heap.objs.size+4)) {s with heap:=h'}) :
  wpAny (model prog w) A (call (.type "zip") [.ref l1,.ref l2]) Q E s:=by
 refine callType_new F.called_zip (by decide) (F.typeCall_zip_2 _ _) (F.newCall_zip_2 _ _) (fun obj=>F.args_object_init_3 obj _ _) F.entry_zip_new (zafy b1 b2 l1 l2 xs ys) ⟨h1,h2,?_⟩
 have z1:(zx1 b1 s.heap l1).objs.size=s.heap.objs.size+1:=qA1 ..
 have z2:(zx2 b1 b2 s.heap l1 l2).objs.size=s.heap.objs.size+2:=by unfold zx2;rw [qA1,z1]
 have z3:(zx3 b1 b2 s.heap l1 l2).objs.size=s.heap.objs.size+3:=by unfold zx3;rw [qA1,z2]
 have z4:(zx4 b1 b2 s.heap l1 l2).objs.size=s.heap.objs.size+4:=by unfold zx4;rw [qA1,z3]
 have fr:∀ o:Obj,(zx5 b1 b2 s.heap l1 l2).get? (zx4 b1 b2 s.heap l1 l2).objs.size=some {cls:=.type "zip",dict:=none,data:=.fields #[.none,.bool false,.bool false,.ref (zx2 b1 b2 s.heap l1 l2).objs.size,.ref (zx3 b1 b2 s.heap l1 l2).objs.size],slots:=#[]}:=fun _=>qq _ rfl
 have g5:=fr {cls:=.none,data:=.seq #[]}
 have g4:(zx5 b1 b2 s.heap l1 l2).get? (zx3 b1 b2 s.heap l1 l2).objs.size=some {cls:=.type "tuple",data:=.seq #[.none,.none]}:=qG _ (qq _ rfl)
 have g3:(zx5 b1 b2 s.heap l1 l2).get? (zx2 b1 b2 s.heap l1 l2).objs.size=some {cls:=.type "tuple",data:=.seq #[.ref s.heap.objs.size,.ref (zx1 b1 s.heap l1).objs.size]}:=qG _ (qG _ (qq _ rfl))
 have g2:(zx5 b1 b2 s.heap l1 l2).get? (zx1 b1 s.heap l1).objs.size=some (itO b2 l2):=qG _ (qG _ (qG _ (qq _ (by cases b2<;>rfl))))
 have g1:(zx5 b1 b2 s.heap l1 l2).get? s.heap.objs.size=some (itO b1 l1):=qG _ (qG _ (qG _ (qG _ (qq _ (by cases b1<;>rfl)))))
 show _∧_
 rw [z2,z3,z4] at g5
 rw [z1,z2] at g3
 rw [z3] at g4
 rw [z1] at g2
 rw [z4]
 exact ⟨⟨_,g5,rfl⟩,h _ ⟨g5,g3,⟨_,_,g4⟩,zxb g1,zxb g2⟩ fun c o q=>qG _ (qG _ (qG _ (qG _ (qG _ q))))⟩
end PySem
namespace L2
open PySem PySem.Spec PyProof.Rows
theorem zatv:bootBuiltins "zip" = some (.type "zip"):=by decide +kernel
noncomputable def iZip (K:qB) (ta:TA):TI:=fun σ H R=>ta σ H fun vs H1=>∃ b1 b2 a1 a2,vs=[.ref a1,.ref a2]∧(∃ xs,SqX b1 K H1 a1 xs)∧(∃ ys,SqX b2 K H1 a2 ys)∧R (Itz K b1 a1 b2 a2) H1
theorem zhm.there {b:Bool} {h:Heap} {l:Addr} {xs:Array Value} (x:zhm b h l xs):l<h.objs.size:=by
 cases b with
 | true=>obtain ⟨o,q,_⟩:=x;exact qW q
 | false=>obtain ⟨o,q,_⟩:=x;exact qW q
theorem zajo {n l1 l2:Nat} (h1:l1<n) (h2:l2<n):ZipApart (n+4) (n+2) (n+3) n (n+1) l1 l2:=by
 constructor<;>first|exact q9 (by omega)|exact qBu (by omega)
theorem zatw {X:Cx} {K:qB} (hK:X.K=K) {a b:Expr} {ta:TA} {p pos:Pos} {elts:List Expr} {x1} {tpos:Pos} (hg:Gl X "zip") (hm:X.mg "zip" = none) (ha:PA X [a,b] ta) (hs:starEach [a,b] X.env=(false,eval a X.env)::starEach [b] X.env:=by rfl) (hs2:(backTo pos (starEach [b] X.env)).any (·.1)=false:=by rfl) :
  PI X (.Tuple elts x1 tpos) (.Call (.Name "zip" p) [a,b] [] pos) (iZip K ta):=by
 subst hK
 intro pins s σ H R I h
 refine Call_ (zuz I hg hm zatv (callWith_type1 (thn (ha pos pins s σ H _ I h) fun us s1 ⟨vs,H1,I1,r1,q1⟩=>?_) hs hs2))
 obtain ⟨b1,b2,l1,l2,rfl,⟨xs,e1⟩,⟨ys,e2⟩,q⟩:=q1
 obtain ⟨u1,u2,rfl,ru1,ru2⟩:=zapv r1
 cases ru1
 cases ru2
 obtain ⟨its1,rv1,p1,_⟩:=I1.sq e1
 obtain ⟨its2,rv2,p2,_⟩:=I1.sq e2
 have t1:=zhm.there p1
 have t2:=zhm.there p2
 refine zajn p1 p2 fun h' zt hk=>wpAny_pyIter_zip zt.z ?_
 have I2:Inv X pins σ H1 {s1 with heap:=h'}:=I1.kept (t':=s1.toks) hk
 have D:=zajo t1 t2
 refine ⟨s1.heap.objs.size+4,[s1.heap.objs.size+4,s1.heap.objs.size+2,s1.heap.objs.size+3,s1.heap.objs.size,s1.heap.objs.size+1],_,_,H1,rfl,I2,zana D,zt,fun c hc=>?_,q⟩
 have hge:s1.heap.objs.size≤c:=by
  simp only [qg,qAi,or_false] at hc
  rcases hc with rfl|rfl|rfl|rfl|rfl
  ·exact qBp _ _
  ·exact qBp _ _
  ·exact qBp _ _
  ·exact qM _
  ·exact qBp _ _
 exact I1.fpOk hge (I1.hok.fresh hge)
noncomputable def zmk (f:AF):IF':=fun env=>(f env).bind fun rs=>match rs with
 | [r,t]=>(zig r.d).bind fun ds=>(zig t.d).map fun es=>(List.zipWith (fun d e=>.tuple [d,e]) ds es,r.bs++t.bs)
 | _=>none
theorem zajp {K:qB} {A:Addr→Prop} {H:Hp} {d:PyData} {ds:List PyData} {v:V} (h:Rp (Offs A H) d v) (e:zig d=some ds):∃ (b:Bool) (a:Addr) (xs:List V),v=.ref a∧Rps (Offs A H) ds xs∧∀ (B:Addr→Prop) (H':Hp),Same (Offs A H) (Offs B H')→SqX b K H' a xs:=by
 cases d with
 | list es =>
  cases e
  obtain ⟨a,xs,rfl,ha,r⟩:=zfz h
  exact ⟨true,a,xs,rfl,r,fun B H' s=>SqL.of (zez (s _ _ ha))⟩
 | tuple es =>
  cases e
  obtain ⟨a,xs,rfl,ha,r⟩:=zel h
  exact ⟨false,a,xs,rfl,r,fun B H' s=>SqT.of (zez (s _ _ ha))⟩
 | _=>cases e
theorem zanb {ds es:List PyData} {i:Nat} {d:PyData} (h:(List.zipWith (fun d e=>PyData.tuple [d,e]) ds es)[i]?=some d):∃ a b,ds[i]?=some a∧es[i]?=some b∧d=.tuple [a,b]:=by
 rw [List.getElem?_zipWith] at h
 cases e1:ds[i]? with
 | none=>rw [e1] at h;cases h
 | some a =>
  cases e2:es[i]? with
  | none=>rw [e1,e2] at h;cases h
  | some b=>rw [e1,e2] at h;cases h;exact ⟨a,b,rfl,rfl,rfl⟩
theorem zvl {K:qB} {ta:TA} {f:AF} (h1:SA ta f):SI (iZip K ta) (zmk f):=by
 intro fx H0 env σ H h ds bs e R q
 unfold zmk at e
 obtain ⟨rs,er,e⟩:=qA.mp e
 split at e
 ·rename_i r t
  obtain ⟨d1,ed1,e⟩:=qA.mp e
  obtain ⟨d2,ed2,e⟩:=qK.mp e
  cases e
  refine h1 fx H0 env σ H h _ er _ fun vs H1 s hv=>?_
  cases hv with
  | cons hv1 hv' =>
   cases hv' with
   | cons hv2 hv'' =>
    cases hv''
    have sub1:∀ b,(fx b∨own (frzs env (r.bs++t.bs)) σ b)→lim fx env σ r.bs b:=fun b z=>zkl (fun i hi=>qAD _ hi) b (zhd b z)
    have sub2:∀ b,(fx b∨own (frzs env (r.bs++t.bs)) σ b)→lim fx env σ t.bs b:=fun b z=>zkl (fun i hi=>qo _ hi) b (zhd b z)
    obtain ⟨b1,a1,xs,rfl,r1,e1⟩:=zajp (K:=K) (Rp.same (Offs.sub sub1) _ hv1.rp) ed1
    obtain ⟨b2,a2,ys,rfl,r2,e2⟩:=zajp (K:=K) (Rp.same (Offs.sub sub2) _ hv2.rp) ed2
    refine ⟨b1,b2,a1,a2,rfl,⟨xs,e1 _ H1 (Same.refl _)⟩,⟨ys,e2 _ H1 (Same.refl _)⟩,q _ H1 s ?_⟩
    intro A H' hA ss
    have q1:=e1 A H' ss
    have q2:=e2 A H' ss
    have r1':=Rps.same ss _ r1
    have r2':=Rps.same ss _ r2
    refine ⟨fun i d e=>?_,⟨xs,ys,q1,q2,?_⟩⟩
    ·obtain ⟨c1,c2,ec1,ec2,rfl⟩:=zanb e
     obtain ⟨v1,g1,rv1⟩:=r1'.get2 ec1
     obtain ⟨v2,g2,rv2⟩:=r2'.get2 ec2
     refine ⟨⟨xs,ys,v1,v2,q1,q2,g1,g2⟩,fun x H'' y=>?_⟩
     obtain ⟨p,x',y',rfl,hp,rfl,y1,y2⟩:=y
     have z1:=y1 xs q1
     rw [g1] at z1
     cases z1
     have z2:=y2 ys q2
     rw [g2] at z2
     cases z2
     exact ⟨Same.new hp,zpz hp (zgr hA hp) (zew rv1 (zew rv2 zey))⟩
    ·rw [List.length_zipWith,r1.length,r2.length]
     rcases Nat.le_total xs.length ys.length with z|z
     ·exact .inl (by rw [Nat.min_eq_left z];exact qM _)
     ·exact .inr (by rw [Nat.min_eq_right z];exact qM _)
 ·cases e
noncomputable def rInS (K:qB) (neg:Bool):R2:=fun x y H Q=>∃ d c ds,Rep K H d x∧Rep K H c y∧zig c=some ds∧qI d=true∧qI c=true∧Q (.bl (if neg then !(ds.any fun e=>qH e d) else ds.any fun e=>qH e d)) H
section
variable {X:Cx}
theorem shp {d:PyData} (h:qI d=true):d.canLay0=true∧d.depth≤64:=by
 unfold qI at h
 rw [qY] at h
 exact ⟨h.1,of_decide_eq_true h.2⟩
theorem zavl {K:qB} (hK:X.K=K) (hu:X.A.units+64<cLine):OpR X (compareOp .In) (rInS K false):=by
 subst hK
 intro pins s σ H x y v u Q I rx ry h
 obtain ⟨d,c,ds,hd,hc,hi,sd,sc,q⟩:=h
 obtain ⟨as,r1⟩:=zhc I d hd rx
 obtain ⟨bs,r2⟩:=zhc I c hc ry
 obtain ⟨l1,p1⟩:=shp sd
 obtain ⟨l2,p2⟩:=shp sc
 have q:EP X pins σ Q (.bool (ds.any fun e=>qH e d)) s:=⟨.bl (ds.any fun e=>qH e d),H,I,rfl,q⟩
 cases c with
 | list es =>
  cases hi
  have p2:qf ds+1≤64:=p2
  exact SeqAt.in_list_reads r2 r1 l2 l1 (by have:=qAp (qf ds) d.depth;omega) q
 | tuple es =>
  cases hi
  have p2:qf ds+1≤64:=p2
  exact SeqAt.in_tuple_reads r2 r1 l2 l1 (by have:=qAp (qf ds) d.depth;omega) q
 | _=>cases hi
theorem zzl {K:qB} (hK:X.K=K) (hu:X.A.units+64<cLine):OpR X (compareOp .NotIn) (rInS K true):=by
 subst hK
 intro pins s σ H x y v u Q I rx ry h
 obtain ⟨d,c,ds,hd,hc,hi,sd,sc,q⟩:=h
 obtain ⟨as,r1⟩:=zhc I d hd rx
 obtain ⟨bs,r2⟩:=zhc I c hc ry
 obtain ⟨l1,p1⟩:=shp sd
 obtain ⟨l2,p2⟩:=shp sc
 have q:EP X pins σ Q (.bool (!(ds.any fun e=>qH e d))) s:=⟨.bl (!(ds.any fun e=>qH e d)),H,I,rfl,q⟩
 cases c with
 | list es =>
  cases hi
  have p2:qf ds+1≤64:=p2
  exact SeqAt.notIn_list_reads r2 r1 l2 l1 (by have:=qAp (qf ds) d.depth;omega) q
 | tuple es =>
  cases hi
  have p2:qf ds+1≤64:=p2
  exact SeqAt.notIn_tuple_reads r2 r1 l2 l1 (by have:=qAp (qf ds) d.depth;omega) q
 | _=>cases hi
end
noncomputable def inS (neg:Bool):OF:=fun d c=>match zig c with
 | some ds=>if qI d=true∧qI c=true then some (.bool (if neg then !(ds.any fun e=>qH e d) else ds.any fun e=>qH e d),false) else none
 | none=>none
theorem zapc {K:qB} {neg:Bool}:SO (rInS K neg) (inS neg):=by
 intro A H x y dx dy hA rx ry d fr e Q q
 unfold inS at e
 split at e
 ·rename_i ds hi
  split at e
  ·rename_i h
   cases e
   refine ⟨dx,dy,ds,zsq (qAg h.1) (Rp.same (Offs.same A H) _ rx),zsq (qAg h.2) (Rp.same (Offs.same A H) _ ry),hi,h.1,h.2,q _ H (Same.refl _) ?_ (fun z=>by cases z)⟩
   cases neg<;>exact zbf
  ·cases e
 ·cases e
end L2
namespace PySem
open Sem (wp)
open AutoSeq1 (wpAny_loadPart')
theorem zanc {prog:Program} {w:World} {A:Around} (hh:A.handled=none) (b:Bool) (it l:Addr) (hne:l≠it) (items:Array Value) :
  Draws prog w A it [it,l] items.size (fun i v=>items[i]?=some v) (fun i h=>SqIt b h it l i∧zhm b h l items) where
 live:=fun _ _ st=>let ⟨o,ho,_⟩:=st.1.obj;⟨o,ho⟩
 frame:=fun _ _ _ st hk=>⟨st.1.moved fun o e=>hk it (by simp) o e,st.2.moved fun o e=>hk l (by simp) o e⟩
 item:=fun i s Q E hi st hQ=>by
  refine zxa st.1 st.2 (x:=items[i]) (by simp [hi]) fun h' hit' hs'=>?_
  exact hQ _ h' s.toks (by simp [hi]) ⟨hit',st.2.moved fun o e=>hs'.extBut _ o hne e⟩ hs'
 done:=fun s Q E st hE=>zaek hh st.1 st.2 (by simp) hE
theorem zrs (l:Addr) (items:Array Value) (n:Nat) (dct:Option Addr) (sl:Array (Option Value)) :
  Meets (Builtin.«enumerate.__new__» ⟨[.type "enumerate",.ref l],[]⟩) (fun _ R s=>s.heap.get? l=some {cls:=.type "tuple",dict:=dct,data:=.seq items n,slots:=sl} ∧
   R (.ok (.ret (.ref (s.heap.push (itO false l)).objs.size))) {s with heap:=(s.heap.push (itO false l)).push {cls:=.type "enumerate",data:=.fields #[.none,.bool false,.ref s.heap.objs.size,rawInt 0,.none,.none]}}) :=
 .of_wp fun prog w A R s h=>by
  obtain ⟨hp,g,d,tk,os⟩:=s;obtain ⟨hl,h⟩:=h
  have hsub:=sub_enumerate
  have e1:Heap.IsTuple (Shared.heap ⟨hp,g,d,tk,os⟩) l items:=⟨_,hl,rfl,n,rfl⟩
  wp_walk using qBP hl
  refine wpAny_stack_any fun st=>qQ ?_
  split
  ·rename_i c _ _ _ _ _
   cases (c==Value.type "enumerate")
   ·wp_walk using qBP hl,qAt e1
    exact ⟨_,rfl,h⟩
   ·wp_walk using qBP hl,qAt e1
    exact ⟨_,rfl,h⟩
  ·wp_walk using qBP hl,qAt e1
   exact ⟨_,rfl,h⟩
theorem zzm {prog:Program} {w:World} {A:Around} {E:Value→Shared→Prop} {s:Shared} {b:Bool} {l:Addr} {items:Array Value} {Q:Value→Shared→Prop} (hL:zhm b s.heap l items)
  (h:∀ h',IsEnum h' (s.heap.objs.size+1) s.heap.objs.size 0 .none→SqIt b h' s.heap.objs.size l 0→(∀ c o,s.heap.get? c=some o→h'.get? c=some o)→Q (.ref (s.heap.objs.size+1)) {s with heap:=h'}) :
  wpAny (model prog w) A (call (.type "enumerate") [.ref l]) Q E s:=by
 cases b with
 | true=>exact call_enumerate_list hL fun h' e i _ k=>h h' e i k
 | false =>
  obtain ⟨⟨c,dct,dt,sl⟩,hl,hc,n,hd⟩:=hL
  replace hc:c=.type "tuple":=hc
  replace hd:dt=.seq items n:=hd
  subst hc hd
  refine callType_new F.called_enumerate (by decide) (F.typeCall_enumerate_1 _) (F.newCall_enumerate_1 _) (fun obj=>F.args_object_init_2 obj _) F.entry_enumerate_new (zrs l items n dct sl) ⟨hl,?_⟩
  have hz:(s.heap.push (itO false l)).objs.size=s.heap.objs.size+1:=qA1 ..
  have he:=qq (s.heap.push (itO false l)) (o:={cls:=.type "enumerate",data:=.fields #[.none,.bool false,.ref s.heap.objs.size,rawInt 0,.none,.none]}) rfl
  show _∧_
  rw [hz] at he ⊢
  exact ⟨⟨_,he,rfl⟩,h _ he (zxb (b:=false) (qG _ (qq _ rfl))) fun c o x=>qG _ (qG _ x)⟩
end PySem
namespace L2
open PySem PySem.Spec PyProof.Rows
noncomputable def Itx (K:qB) (b:Bool) (a:Addr):It :=
 ⟨fun i H=>∃ xs x,SqX b K H a xs∧xs[i]?=some x,fun i H x H'=>∃ p y,x=.ref p∧H p=none∧H'=upd H p (.tup [.int i,y])∧∀ xs,SqX b K H a xs→xs[i]?=some y,fun i H=>∃ xs,SqX b K H a xs∧xs.length≤i⟩
theorem zafz {P:Program} {w:World} {K:qB} {elts:List Expr} {x1} {tpos:Pos} {b:Bool} (a e it:Addr) (hne:e≠it) (hea:e≠a) (hai:a≠it) :
  Turn P w K (.Tuple elts x1 tpos) (Itx K b a) [e,it] e (fun i h=>SqIt b h it a i∧∃ old,IsEnum h e it (i:Int) old) where
 mem:=by simp
 obj:=fun i h st c hc=>by
  obtain ⟨h1,old,h4⟩:=st
  rcases qg.mp hc with rfl|hc
  ·exact ⟨_,h4,fun v z=>by simp at z⟩
  ·have q:c=it:=by simpa using hc
   subst q
   exact h1.obj
 keep:=fun i h h' st k=>⟨st.1.moved fun o q=>k it (by simp) o q,let ⟨old,q⟩:=st.2;⟨old,k e (by simp) _ q⟩⟩
 item:=by
  intro X hP hw hK hc i pins s σ H E I hf st hg
  subst hP hw hK
  obtain ⟨xs,x,hq,hx⟩:=hg
  obtain ⟨its,rv,p,hz⟩:=I.sq hq
  obtain ⟨u,hu,ru⟩:=rv.get hx
  obtain ⟨hit,old,he⟩:=st
  have fe:=hf e (by simp)
  have fi:=hf it (by simp)
  have hlt:i<its.toArray.size:=by
   obtain ⟨hh,_⟩:=qZ.mp hu
   simpa using hh
  refine wpAny_pyNext_enum_itemD (zanc (by exact I.ok.hd hc) b it a hai its.toArray) he ⟨hit,p⟩ hlt hne (by simp [hne,hea]) fun u' h1 tk pu e1 i1 t1 z1 k1=>?_
  have hu':u'=u:=by
   have pu:its.toArray[i]?=some u':=pu
   rw [List.getElem?_toArray,hu] at pu
   exact (qr pu).symm
  subst hu'
  refine ⟨_,rfl,wpAny_letOwnedTupleGo_enum (s:={s with heap:=h1,toks:=tk+1}) e1 fun h2 e2 sb2=>?_⟩
  have hp:H s.heap.objs.size=none:=I.hok.fresh (qM _)
  have hes:e≠s.heap.objs.size:=q9 (qW he)
  have k2:∀ c o,c≠e→c≠it→s.heap.get? c=some o→h2.get? c=some o:=fun c o q1 q2 q=>(sb2.2 c q1).trans (k1 c o q1 q2 q)
  have t2:h2.get? s.heap.objs.size=some {cls:=.type "tuple",data:=.seq #[.int i tk,u']}:=(sb2.2 _ (qAx hes)).trans t1
  have nch:∀ c,c∉[e,it]→c≠e∧c≠it:=fun c hb=>⟨fun z=>hb (by simp [z]),fun z=>hb (by simp [z])⟩
  refine ⟨.ref s.heap.objs.size,upd H s.heap.objs.size (.tup [.int i,x]),?_,rfl,⟨_,x,rfl,hp,rfl,fun ys hy=>by rw [I.sq_inj hy hq];exact hx⟩,⟨?_,u',e2⟩,fun c hb=>?_⟩
  ·refine Inv.step (s:=s) (h':=h2) (g':=s.gens) (d':=s.drawn) (t':=tk+1) (ch:=[e,it]) I (fun c hb=>?_) (fun c o _ _ hc q _=>k2 c o (nch c hc).1 (nch c hc).2 q) (fun c o _ _ hc q _=>⟨o.slots,k2 c o (nch c hc).1 (nch c hc).2 q⟩)
    (fun c o _ q n=>by rw [zcp (q9 (qW q))];exact n) (fun c o hc q=>⟨o,k2 c o (nch c hc).1 (nch c hc).2 q⟩)
    (fun c xs q=>by rw [zcp (zcr q hp)];exact q) (fun c o v q=>by rw [zcp (zcr q hp)];exact q) (fun c ps q=>⟨#[],by rw [zcp (zcr q hp),q];simp⟩) (fun m hm=>?_) (fun c v q=>?_) I.bare
   ·rcases qg.mp hb with rfl|hb
    ·exact ⟨fe.2.2.2.1,fe.2.1,fe.2.2.2.2.1,fe.2.2.2.2.2⟩
    ·have z:c=it:=by simpa using hb
     subst z
     exact ⟨fi.2.2.2.1,fi.2.1,fi.2.2.2.2.1,fi.2.2.2.2.2⟩
   ·obtain ⟨o,es,ep,ho,r⟩:=hm
    exact ⟨o,es,ep,k2 _ o (qAx fe.2.1) (qAx fi.2.1) ho,r⟩
   ·by_cases hb:c=s.heap.objs.size
    ·subst hb
     rw [zbx] at q
     cases q
     exact ⟨by show 2≤qk;decide,[.int i tk,u'],.cons ⟨_,rfl⟩ (.cons ru .nil),_,t2,rfl,_,rfl⟩
    ·rw [zcp hb] at q
     have nt:∀ c w',H c=some w'→c≠e∧c≠it:=fun c w' z=>⟨(fun y=>by rw [y,fe.1] at z;cases z),(fun y=>by rw [y,fi.1] at z;cases z)⟩
     refine (I.hok c v q).stay (fun c w' hc r=>?_) (fun c r=>by rw [zcp (zcr r hp)];exact r) fun c ys r=>by rw [zcp (zcr r hp)];exact r
     rcases hc with rfl|hc
     ·exact k2 c w' (nt c v q).1 (nt c v q).2 r
     ·exact k2 c w' (nt c _ hc).1 (nt c _ hc).2 r
  ·exact i1.1.moved fun o q=>(sb2.2 _ (qAx hne)).trans q
  ·rcases qg.mp hb with rfl|hb
   ·rw [zcp hes];exact fe.1
   ·have z:c=it:=by simpa using hb
    subst z
    obtain ⟨o,q1,_⟩:=hit.obj
    rw [zcp (q9 (qW q1))]
    exact fi.1
 done:=by
  intro X hP hw hK hc i pins s σ H E I hf st hg
  subst hP hw hK
  obtain ⟨xs,hq,hx⟩:=hg
  obtain ⟨its,rv,p,hz⟩:=I.sq hq
  obtain ⟨hit,old,he⟩:=st
  obtain ⟨f0,f1,f2,f3,f4,f5⟩:=hf it (by simp)
  have hl:=rv.length
  have hT:s.TypeIs (.ref e) "enumerate":=⟨_,he,rfl⟩
  unfold pyNext
  refine qD (wpAny_attempt (qAo (name:=Str.ofString "__next__") hT F.slot_enumerate_next (qA7 F.slot_enumerate_next hT F.entry_enumerate_next ?_ (F.args_enumerate_next_1 _))))
  show wpAny _ _ (field (.ref e) 2 >>= _) _ _ _
  refine qD (qAn he rfl (x:=.ref it) rfl ?_)
  refine qD (zaek (by exact I.ok.hd hc) hit p (by simp;omega) fun h' x he' hx'=>?_)
  obtain ⟨o,ho,hcl⟩:=hx'
  refine qD (wpAny_isInstance (T:="StopIteration") (b:=true) ⟨o,ho,hcl⟩ isSubtype_stop (qQ ⟨rfl,?_⟩))
  exact I.turned (t':=s.toks) (fun c o hb q=>he' c o hb q) f0 f1 f3 f4 f5
 self:=fun _ _ _ _ _ st h=>let ⟨_,q⟩:=st.2;wpAny_pyIter_enum q h
def iEnumX (K:qB) (ta:TA):TI:=fun σ H R=>ta σ H fun vs H1=>∃ b a,vs=[.ref a]∧(∃ xs,SqX b K H1 a xs)∧R (Itx K b a) H1
theorem zand {X:Cx} {K:qB} (hK:X.K=K) {a:Expr} {ta:TA} {p pos:Pos} {elts:List Expr} {x1} {tpos:Pos} (hg:Gl X "enumerate") (hm:X.mg "enumerate" = none) (ha:PA X [a] ta) (hs:starEach [a] X.env=[(false,eval a X.env)]:=by rfl) :
  PI X (.Tuple elts x1 tpos) (.Call (.Name "enumerate" p) [a] [] pos) (iEnumX K ta):=by
 subst hK
 intro pins s σ H R I h
 refine Call_ (zuz I hg hm boot_enumerate (qBM (thn (ha pos pins s σ H _ I h) fun us s1 ⟨vs,H1,I1,r1,q1⟩=>?_) hs rfl))
 obtain ⟨b,l,rfl,⟨xs,hq⟩,q⟩:=q1
 obtain ⟨u,rfl,ru⟩:=zafk r1
 cases ru
 obtain ⟨its,rv,pl,hz⟩:=I1.sq hq
 have lt:=zhm.there pl
 refine zzm pl fun h' he hit hk=>wpAny_pyIter_enum he ?_
 have I2:Inv X pins σ H1 {s1 with heap:=h'}:=I1.kept (t':=s1.toks) hk
 refine ⟨s1.heap.objs.size+1,[s1.heap.objs.size+1,s1.heap.objs.size],_,_,H1,rfl,I2,zafz l _ _ (Nat.succ_ne_self _) (qBu (Nat.lt_succ_of_lt lt)) (q9 lt),⟨hit,_,he⟩,fun c hb=>?_,q⟩
 rcases qg.mp hb with rfl|hb
 ·exact I1.fpOk (Nat.le_succ _) (I1.hok.fresh (Nat.le_succ _))
 ·have e:c=s1.heap.objs.size:=by simpa using hb
  subst e
  exact I1.fpOk (qM _) (I1.hok.fresh (qM _))
def zzn (f:AF):IF':=fun env=>(f env).bind fun rs=>match rs with
 | [r]=>(zig r.d).map fun ds=>(zrq ds,r.bs)
 | _=>none
theorem zael {K:qB} {ta:TA} {f:AF} (h1:SA ta f):SI (iEnumX K ta) (zzn f):=by
 intro fx H0 env σ H h ds bs e R q
 unfold zzn at e
 obtain ⟨rs,er,e⟩:=qA.mp e
 split at e
 ·rename_i r
  obtain ⟨d1,ed1,e⟩:=qK.mp e
  cases e
  refine h1 fx H0 env σ H h _ er _ fun vs H1 s hv=>?_
  cases hv with
  | cons hv t =>
   cases t
   obtain ⟨b,a,xs,rfl,r1,e1⟩:=zajp (K:=K) (Rp.same (Offs.sub (zhd (bs:=r.bs))) _ hv.rp) ed1
   refine ⟨b,a,rfl,⟨xs,e1 _ H1 (Same.refl _)⟩,q _ H1 s ?_⟩
   intro A H' hA ss
   have q1:=e1 A H' ss
   have r1':=Rps.same ss _ r1
   have hl:(zrq d1).length=d1.length:=by unfold zrq;simp
   refine ⟨fun i d e=>?_,⟨xs,q1,by rw [hl,r1.length];exact qM _⟩⟩
   unfold zrq at e
   rw [qL,qC1] at e
   cases e0:d1[i]? with
   | none=>rw [e0] at e;cases e
   | some d0 =>
    rw [e0] at e
    obtain ⟨v,hv,rv⟩:=r1'.get2 e0
    have e:PyData.tuple [.int ((0+i:Nat):Int),d0]=d:=qr e
    rw [qCC] at e
    subst e
    refine ⟨⟨xs,v,q1,hv⟩,fun x H'' y=>?_⟩
    obtain ⟨p,y',rfl,hp,rfl,y⟩:=y
    have:=y xs q1
    rw [hv] at this
    cases this
    exact ⟨Same.new hp,zpz hp (zgr hA hp) (zew zaf (zew rv zey))⟩
 ·cases e
theorem ztc {K:qB} {ta:TA} {f:AF} (h1:SA ta f):SI (iEnumX K ta) (zqw f):=fun fx H0 env σ H h ds bs e R q =>
 zael h1 fx H0 env σ H h ds bs (by
  unfold zqw at e
  unfold zzn
  obtain ⟨rs,er,e⟩:=qA.mp e
  rw [er]
  cases rs with
  | nil=>cases e
  | cons r t =>
   cases t with
   | nil =>
    obtain ⟨d,fr,b⟩:=r
    cases d<;>first|exact e|cases e
   | cons _ _=>cases e) R q
def isStar:Expr→Bool
 | .Starred ..=>true
 | _=>false
theorem zai {e:Expr} {es:List Expr} {env:Env} (h:isStar e=false):starEach (e::es) env=(false,eval e env)::starEach es env:=by
 cases e<;>first
  | rfl
  | cases h
theorem zane {X:Cx} {e:Expr} {es:List Expr} {te:TE} {t:TA} (ha:PE X e te) (hr:PA X es t) (hs:isStar e=false:=by rfl):PA X (e::es) (tCons te t):=zsg ha hr (zai hs)
noncomputable def tRev (K:qB) (te:TE) (tk:TO):TE:=fun σ H Q=>te σ H fun x H1=>tk σ H1 fun st H2=>st=some (-1)∧∃ a xs,x=.ref a∧SqL K H2 a xs∧∀ p,H2 p=none→Q (.ref p) (upd H2 p (.lst xs.reverse))
theorem zanf {xs:List V} {us:List Value} (r:Vals xs us):Vals xs.reverse us.reverse:=by
 induction r with
 | nil=>exact .nil
 | cons h _ ih =>
  rw [qBh,qBh]
  exact ih.append (.cons h .nil)
theorem zatx {X:Cx} {K:qB} (hK:X.K=K) {e k:Expr} {te:TE} {tk:TO} {pos p2:Pos} (he:PE X e te) (hk:PO X (some k) tk):PE X (.Subscript e (.Slice none none (some k) p2) pos) (tRev K te tk):=by
 subst hK
 intro pins s σ H Q I h
 refine qC4 (thn (he pins s σ H _ I h) fun v s1 ⟨x,H1,I1,r1,q1⟩=>?_)
 refine wpAny_Slice ?_
 rw [evalPart_none]
 refine qQ (qQ ?_)
 refine thn (hk pins s1 σ H1 _ I1 q1) fun vk s2 ⟨st,H2,I2,pk,est,a,xs,ex,hx,q⟩=>?_
 subst est ex
 cases r1
 have I4:Inv X pins σ H2 {s2 with heap:=s2.heap.push {cls:=.type "slice",data:=.fields #[.none,.none,vk]}}:=I2.kept (t':=s2.toks) fun b ob q=>qG _ q
 obtain ⟨its,r,ht,hz⟩:=I4.list hx
 have hlen:=r.length
 refine tail_any (T:="list") (ops:=[.ref a,.ref s2.heap.objs.size]) ht.isList.typeIs qCS.lookup ?_ (by with_unfolding_all rfl)
 refine qC2 ht.isList (qCI ..) .none .none pk (by decide) ?_ (by rw [qS]<;>omega)
 rw [PySem.W.krv_pick]
 refine ⟨.ref _,_,I4.laid (t':=s2.toks) (o:=.lst xs.reverse) (fun b ob q=>qG _ q) (qM _) ?_,rfl,q _ (I4.hok.fresh (qM _))⟩
 exact ⟨by rw [qC5];exact hz,_,0,zanf r,qq _ rfl⟩
theorem Rps.rev {H:Hp} {ds:List PyData} {vs:List V} (h:Rps H ds vs):Rps H ds.reverse vs.reverse:=by
 replace h:=zex.mp h
 induction h with
 | nil=>exact zey
 | cons h _ ih =>
  rw [qBh,qBh]
  exact ih.append (zew h zey)
noncomputable def eRev (f:EF) (g:PF'):EF:=fun env=>(f env).bind fun x=>(g env).bind fun st=>match x.d with
 | .list ds=>if st=some (-1) then some ⟨.list ds.reverse,true,x.bs⟩ else none
 | _=>none
theorem zapd {K:qB} {te:TE} {tk:TO} {f:EF} {g:PF'} (h1:SE te f) (h2:SPt tk g):SE (tRev K te tk) (eRev f g):=by
 intro fx H0 env σ H h rr hr Q q
 unfold eRev at hr
 obtain ⟨⟨d,frd,bs⟩,ex,hr⟩:=qA.mp hr
 obtain ⟨st,el,hr⟩:=qA.mp hr
 cases d with
 | list ds =>
  have hr:(if st=some (-1) then some (⟨.list ds.reverse,true,bs⟩:Val) else none)=some rr:=hr
  split at hr
  ·rename_i hs
   cases hr
   refine h1 fx H0 env σ H h _ ex _ fun v H1 s1 v1=>h2 fx H0 env σ H1 (h.up s1) _ el _ fun H2 s2=>?_
   have v3:=(v1.later (Same.refl _) s2 fun _ z=>z).rp
   have t3:=s1.trans s2
   obtain ⟨p,xs,rfl,hp,r⟩:=zfz v3
   refine ⟨hs,p,xs,rfl,SqL.of (zez hp),fun l hl=>q _ _ (t3.trans (Same.new hl)) ?_⟩
   have hA:=(h.up t3).lims bs
   exact ⟨zyt hl (zgr hA hl) r.rev,fun _=>⟨l,rfl,t3.free hl,zsp hl r.rev⟩⟩
  ·cases hr
 | _=>cases hr
end L2
namespace PySem.SeqAt
open AutoSeq1 (wpAny_loadPart')
open MeetsSeq PyProof.Rows
section
variable {A:Around} {s:Shared}
theorem znq (l:Addr) (es:Array DictEntry) (n:Nat) (dd:Option Addr) (sl:Array (Option Value)) (b:Str) (u:Tok) :
  Meets (Builtin.«dict.__eq__» ⟨[.ref l,.str b u],[]⟩) (fun _ R s=>s.heap.get? l=some {cls:=.type "dict",dict:=dd,data:=.dict es n,slots:=sl}∧R (.ok (.ret .notImplemented)) s) :=
 .of_wp fun prog w A R s h=>by
  obtain ⟨hp,g,d,tk,os⟩:=s
  obtain ⟨hl,h⟩:=h
  have f1:=F.sub_str_dict
  wp_walk using qBP hl
  exact ⟨_,rfl,h⟩
theorem znr (b:Str) (u:Tok) (l:Addr) (c:Value) (es:Array DictEntry) (n:Nat) (dd:Option Addr) (sl:Array (Option Value)) :
  Meets (Builtin.«str.__eq__» ⟨[.str b u,.ref l],[]⟩) (fun _ R s=>s.heap.get? l=some {cls:=c,dict:=dd,data:=.dict es n,slots:=sl}∧R (.ok (.ret .notImplemented)) s) :=
 .of_wp fun prog w A R s h=>by
  obtain ⟨hp,g,d,tk,os⟩:=s
  obtain ⟨hl,h⟩:=h
  wp_walk using qBP hl,wpAny_load hl
  exact ⟨_,rfl,h⟩
theorem rc_dict_str {l:Addr} {o:Obj} {es:Array DictEntry} {n:Nat} (b:Str) (u:Tok) (ho:s.heap.get? l=some o) (hc:o.cls=.type "dict") (hd:o.data=.dict es n) (hu:A.units<cLine):RcAt A s (.ref l) (.str b u) false:=fun prog w E Q h=>by
 obtain ⟨cls,dd,data,sl⟩:=o
 simp only at hc hd
 subst hc hd
 refine rc_eq_decline_or (k:=false) (Ta:="dict") (Tb:="str") ⟨_,ho,rfl⟩ (qBr s b u) (by decide) F.sub_str_dict F.slot_dict_eq F.slot_str_eq_refl (fun _ hq=>?_) (fun _ hq=>?_) (fun _ hq=>wpAny_of_eq (rfl:isSame (.ref l) (.str b u)=pure false) hq) (.inr hu) h
 ·exact qBs F.slot_dict_eq ⟨_,ho,rfl⟩ F.entry_dict_eq (F.args_dict_eq_2 _ _) (znq l es n dd sl b u) ⟨ho,hq⟩
 ·exact qBs F.slot_str_eq_refl (qBr s b u) F.entry_str_eq (F.args_str_eq_2 _ _) (znr b u l (.type "dict") es n dd sl) ⟨ho,hq⟩
theorem rc_str_dict {l:Addr} {o:Obj} {es:Array DictEntry} {n:Nat} (b:Str) (u:Tok) (ho:s.heap.get? l=some o) (hc:o.cls=.type "dict") (hd:o.data=.dict es n) (hu:A.units<cLine):RcAt A s (.str b u) (.ref l) false:=fun prog w E Q h=>by
 obtain ⟨cls,dd,data,sl⟩:=o
 simp only at hc hd
 subst hc hd
 refine rc_eq_decline_or (k:=false) (Ta:="str") (Tb:="dict") (qBr s b u) ⟨_,ho,rfl⟩ (by decide) F.sub_dict_str F.slot_str_eq F.slot_dict_eq_refl (fun _ hq=>?_) (fun _ hq=>?_) (fun _ hq=>wpAny_of_eq (rfl:isSame (.str b u) (.ref l)=pure false) hq) (.inr hu) h
 ·exact qBs F.slot_str_eq (qBr s b u) F.entry_str_eq (F.args_str_eq_2 _ _) (znr b u l (.type "dict") es n dd sl) ⟨ho,hq⟩
 ·exact qBs F.slot_dict_eq_refl ⟨_,ho,rfl⟩ F.entry_dict_eq (F.args_dict_eq_2 _ _) (znq l es n dd sl b u) ⟨ho,hq⟩
end
end PySem.SeqAt
namespace L2
open PySem PySem.Spec PyProof.Rows
def zajq:PyData→Bool|.str _=>true|_=>false
def Odd (K:qB) (H:Hp) (v:V):Prop:=zoa v=true∨∃ a,v=.ref a∧((∃ xs,SqL K H a xs)∨(∃ xs,SqT K H a xs)∨∃ ps,H a=some (.dK ps))
theorem zape {K:qB} {H:Hp} {d:PyData} {v:V} (h:Rp H d v):Odd K H v:=by
 cases d with
 | none=>rw [zwn h];exact .inl rfl
 | bool b=>rw [zkk h];exact .inl rfl
 | int i=>rw [zfv h];exact .inl rfl
 | str x=>rw [zkc h];exact .inl rfl
 | list ds=>obtain ⟨a,xs,rfl,ha,_⟩:=zfz h;exact .inr ⟨a,rfl,.inl ⟨xs,SqL.of ha⟩⟩
 | tuple ds=>obtain ⟨a,xs,rfl,ha,_⟩:=zel h;exact .inr ⟨a,rfl,.inr (.inl ⟨xs,SqT.of ha⟩)⟩
 | dict ds=>obtain ⟨a,xs,rfl,ha,_⟩:=zlb h;exact .inr ⟨a,rfl,.inr (.inr ⟨xs,ha⟩)⟩
section
variable {X:Cx}
theorem zajr {pins:List (Addr×Obj)} {s:Shared} {σ:St} {H:Hp} (I:Inv X pins σ H s) {a:Addr} {ps:List (Key×V)} (h:H a=some (.dK ps)):∃ o es n,s.heap.get? a=some o∧o.cls=.type "dict" ∧ o.data=.dict es n:=by
 obtain ⟨_,_,vs,_,p⟩:=(show zhk X.prog X.w H s.heap a (.dK ps) from I.hok a _ h)
 obtain ⟨o,es,ep,h1,h2,h3,_⟩:=p
 exact ⟨o,es,ep,h1,h2.1,h3⟩
def rEqT (K:qB) (neg:Bool):R2:=fun x y H Q=>(∃ z,x=.str z∧Odd K H y∨y=.str z∧Odd K H x)∧Q (.bl (if neg then !eqV x y else eqV x y)) H
theorem zang {K:qB} {x y:V} {H:Hp} {Q:VK} (fx:zoa x=true) (fy:zoa y=true) (z:Str) (hz:x=.str z∨y=.str z):scal x y=true∧decide (x=y)=eqV x y:=by
 rcases hz with rfl|rfl
 ·cases y<;>first|exact ⟨rfl,zsf⟩|exact ⟨rfl,rfl⟩|exact ⟨rfl,by simp [eqV]⟩|exact absurd (show false=true from fy) qO
 ·cases x<;>first|exact ⟨rfl,zsf⟩|exact ⟨rfl,rfl⟩|exact ⟨rfl,by simp [eqV]⟩|exact absurd (show false=true from fx) qO
theorem zapf {K:qB} (hK:X.K=K) (hu:X.A.units+64<cLine):OpR X (compareOp .Eq) (rEqT K false):=by
 subst hK
 intro pins s σ H x y v u Q I rx ry h
 obtain ⟨⟨z,h⟩,q⟩:=h
 have hu0:X.A.units<cLine:=by omega
 have q':EP X pins σ Q (.bool (eqV x y)) s:=⟨.bl _,H,I,rfl,q⟩
 have flat:zoa x=true→zoa y=true→(x=.str z∨y=.str z)→wpAny (model X.prog X.w) X.A (compareOp .Eq v u) (EP X pins σ Q) X.xe s:=fun fx fy hz=>by
  obtain ⟨h1,h2⟩:=zang (K:=X.K) (H:=H) (Q:=Q) fx fy z hz
  exact zaso pins s σ H x y v u Q I rx ry ⟨h1,by rw [h2];exact q⟩
 rcases h with ⟨rfl,o⟩|⟨rfl,o⟩
 ·rcases id o with fy|⟨a,rfl,oa⟩
  ·exact flat rfl fy (.inl rfl)
  ·cases ry
   obtain ⟨t,rfl⟩:=rx
   rcases oa with ⟨xs,h⟩|⟨xs,h⟩|⟨ps,h⟩
   ·obtain ⟨its,rv,p,hz⟩:=I.list h
    exact SeqAt.RcAt.str_list z t p.isList hu0 _ _ _ _ q'
   ·obtain ⟨its,rv,p,hz⟩:=I.tuple h
    exact SeqAt.RcAt.str_tuple z t p hu0 _ _ _ _ q'
   ·obtain ⟨ob,es,n,h1,h2,h3⟩:=zajr I h
    exact SeqAt.rc_str_dict z t h1 h2 h3 hu0 _ _ _ _ q'
 ·rcases id o with fy|⟨a,rfl,oa⟩
  ·exact flat fy rfl (.inr rfl)
  ·cases rx
   obtain ⟨t,rfl⟩:=ry
   rcases oa with ⟨xs,h⟩|⟨xs,h⟩|⟨ps,h⟩
   ·obtain ⟨its,rv,p,hz⟩:=I.list h
    exact SeqAt.RcAt.list_str z t p.isList hu0 _ _ _ _ q'
   ·obtain ⟨its,rv,p,hz⟩:=I.tuple h
    exact SeqAt.RcAt.tuple_str z t p hu0 _ _ _ _ q'
   ·obtain ⟨ob,es,n,h1,h2,h3⟩:=zajr I h
    exact SeqAt.rc_dict_str z t h1 h2 h3 hu0 _ _ _ _ q'
end
theorem zaem {d:PyData} (h:zajq d=true):∃ z,d=.str z:=by
 cases d<;>first
  | exact ⟨_,rfl⟩
  | exact absurd (show false=true from h) qO
theorem zajs {H:Hp} {d:PyData} {v:V} (h:Rp H d v) (z:Str):eqV v (.str z)=qH d (.str z)∧eqV (.str z) v=qH (.str z) d:=by
 cases d with
 | none=>rw [zwn h];exact ⟨by simp [eqV,qH],by simp [eqV,qH]⟩
 | bool b=>rw [zkk h];exact ⟨by simp [eqV,qH],by simp [eqV,qH]⟩
 | int i=>rw [zfv h];exact ⟨by simp [eqV,qH],by simp [eqV,qH]⟩
 | str x=>rw [zkc h];exact ⟨by simp [eqV,qH],by simp [eqV,qH]⟩
 | list ds=>obtain ⟨a,xs,rfl,ha,_⟩:=zfz h;exact ⟨by simp [eqV,qH],by simp [eqV,qH]⟩
 | tuple ds=>obtain ⟨a,xs,rfl,ha,_⟩:=zel h;exact ⟨by simp [eqV,qH],by simp [eqV,qH]⟩
 | dict ds=>obtain ⟨a,xs,rfl,ha,_⟩:=zlb h;exact ⟨by simp [eqV,qH],by simp [eqV,qH]⟩
noncomputable def eqTD (neg:Bool):OF:=fun dx dy=>if zajq dx=true∨zajq dy=true then some (.bool (if neg then !PyData.eqv dx dy else qH dx dy),false) else none
theorem zapg {K:qB} {neg:Bool}:SO (rEqT K neg) (eqTD neg):=by
 intro A H x y dx dy hA rx ry d fr e Q q
 unfold eqTD at e
 split at e
 ·rename_i h
  cases e
  have rx:=Rp.same (Offs.same A H) _ rx
  have ry:=Rp.same (Offs.same A H) _ ry
  have fin:∀ b:Bool,eqV x y=b→b=qH dx dy→Q (.bl (if neg then !eqV x y else eqV x y)) H:=fun b h1 h2=>by
   rw [h1,h2]
   refine q _ H (Same.refl _) ?_ (fun z=>by cases z)
   cases neg<;>exact zbf
  rcases h with h|h
  ·obtain ⟨z,rfl⟩:=zaem h
   have:=zkc rx
   subst this
   exact ⟨⟨z,.inl ⟨rfl,zape ry⟩⟩,fin _ (zajs ry z).2 rfl⟩
  ·obtain ⟨z,rfl⟩:=zaem h
   have:=zkc ry
   subst this
   exact ⟨⟨z,.inr ⟨rfl,zape rx⟩⟩,fin _ (zajs rx z).1 rfl⟩
 ·cases e
theorem Rps.setAt {H:Hp} {ds:List PyData} {vs:List V} (h:Rps H ds vs) {d:PyData} {v:V} (hv:Rp H d v) (n:Nat):Rps H (ds.set n d) (vs.set n v):=by
 induction n generalizing ds vs with
 | zero =>
  cases ds with
  | nil=>unfold Rps at h;subst h;exact zey
  | cons e ds=>unfold Rps at h;obtain ⟨w,ws,rfl,h1,h2⟩:=h;exact zew hv h2
 | succ n ih =>
  cases ds with
  | nil=>unfold Rps at h;subst h;exact zey
  | cons e ds=>unfold Rps at h;obtain ⟨w,ws,rfl,h1,h2⟩:=h;exact zew h1 (ih h2)
noncomputable def zanh (i:Nat) (fk fv:EF):SF:=fun env=>match env[i]? with
 | some (.ac (.list ds))=>(fv env).bind fun r=>(fk env).bind fun k=>match k.d with
  | .int z=>(ixN ds.length z).bind fun j=>if i∉r.bs then some (.nx ((frzs env r.bs).set i (.ac (.list (ds.set j r.d))))) else none
  | _=>none
 | _=>none
structure Bx (p:Prop):Prop where
 out:p
theorem Bx.pt {X:Cx} {e:Expr} {t:TT} (h:Bx (PW X e t)):Bx (PT X e t):=⟨h.out.pt⟩
theorem zak:∀ {X:L2.Cx} {i:Int} {j:Nat} {pos:qm},L2.Bx (L2.PE X (qR.Constant (PySem.Const.int i) j pos) (L2.tC (L2.V.int i))):=by
 intro X i j pos
 exact ⟨@zkb X i j pos⟩
theorem zag:∀ {X:L2.Cx},L2.Bx (L2.PA X [] L2.tNil):=by
 intro X
 exact ⟨@zvc X⟩
theorem zaa:∀ {X:L2.Cx} {e:qR} {es:List qR} {te:L2.TE} {t:L2.TA},L2.Bx (L2.PE X e te)→L2.Bx (L2.PA X es t)→L2.isStar e=Bool.false→L2.Bx (L2.PA X (e::es) (L2.tCons te t)):=by
 intro X e es te t ha hr hs
 exact ⟨@zane X e es te t ha.out hr.out hs⟩
theorem zaz:∀ {X:L2.Cx} {a b:qR} {ta tb:L2.TE} {pos:qm} {op:PySem.Operator} {r:L2.R2},L2.OpR X (PySem.binaryOp op) r→L2.Bx (L2.PE X a ta)→L2.Bx (L2.PE X b tb)→L2.Bx (L2.PE X (a.BinOp op b pos) (L2.tOp r ta tb)):=by
 intro X a b ta tb pos op r ho ha hb
 exact ⟨@znn X a b ta tb pos op r ho ha.out hb.out⟩
theorem zan:∀ {X:L2.Cx} {st:PySem.Stmt} {t:L2.TS},L2.Bx (L2.PS X st t)→L2.Bx (L2.PSs X [st] t):=by
 intro X st t h1
 exact ⟨@zpt X st t h1.out⟩
theorem zaj:∀ {X:L2.Cx} {st:PySem.Stmt} {rest:List PySem.Stmt} {t u:L2.TS},L2.Bx (L2.PS X st t)→L2.Bx (L2.PSs X rest u)→L2.Bx (L2.PSs X (st::rest) (L2.tSeq t u)):=by
 intro X st rest t u h1 h2
 exact ⟨@zoo X st rest t u h1.out h2.out⟩
theorem zch:∀ {X:L2.Cx} {x:PySem.Str} {p pos:qm} {e:qR} {es:List qR} {t:L2.TA} {ps:List PySem.Str} {k:Nat} {sp:L2.Sp},L2.Dn X.prog X.w X.K X.mg X.base x ps k sp→L2.Room k X.A→L2.Gl X x→L2.Bx (L2.PA X (e::es) t)→(x==qAA "__debug__")=Bool.false→qAK (e::es) X.env=(Bool.false,PySem.eval e X.env)::qAK es X.env→((PySem.backTo pos (qAK es X.env)).any fun (x:Bool×PySem.Sem PySem.Value)=>x.fst)=Bool.false→L2.Bx (L2.PE X ((qR.Name x p).Call (e::es) [] pos) (L2.tCall sp [] L2.E0 t)):=by
 intro X x p pos e es t ps k sp D hr hg ha hdb he hpl
 exact ⟨@zauz X x p pos e es t ps k sp D hr hg ha.out hdb he hpl⟩
theorem zbi:∀ {X:L2.Cx} {e:qR} {te:L2.TE} {pos:qm},L2.Bx (L2.PE X e te)→L2.Bx (L2.PS X (PySem.Stmt.Return (Option.some e) pos) (L2.tRet te)):=by
 intro X e te pos he
 exact ⟨@zaog X e te pos he.out⟩
theorem zbc:∀ {X:L2.Cx} {pos:qm} {i:Nat} {x:PySem.Str} {e:qR} {te:L2.TE} {pos':qm},X.N.Nodup→X.N[i]?=Option.some x→L2.Loc X.env.scope x→L2.Bx (L2.PE X e te)→PySem.swapsWith e (Option.some (qR.Name x pos')) pos.line X.env=Pure.pure Bool.false→X.fn x=Bool.true∨List.lookup x X.env.scope.names=Option.some PySem.NameKind.local→L2.Bx (L2.PS X (PySem.Stmt.Assign [qR.Name x pos'] e pos) (L2.tAsg te (L2.gName i))):=by
 intro X pos i x e te pos' hN hi hx he hs hf
 exact ⟨@zado X pos i x e te pos' hN hi hx he.out hs hf⟩
theorem zaw:∀ {X:L2.Cx} {x:PySem.Str} {p pos:qm} {e:qR} {es:List qR} {t:L2.TA} {id:String} {r:List L2.V→L2.Hp→L2.VK→Prop},L2.CallR X (PySem.Value.builtin id) r→L2.Gl X x→X.mg x=Option.none→PySem.bootBuiltins x=Option.some (PySem.Value.builtin id)→L2.Bx (L2.PA X (e::es) t)→x≠qAA "__name__" → (x==qAA "__debug__")=Bool.false→qAK (e::es) X.env=(Bool.false,PySem.eval e X.env)::qAK es X.env→((PySem.backTo pos (qAK es X.env)).any fun (x:Bool×PySem.Sem PySem.Value)=>x.fst)=Bool.false→L2.Bx (L2.PE X ((qR.Name x p).Call (e::es) [] pos) (L2.tCB r t)):=by
 intro X x p pos e es t id r hc hg hm hv ha hn hdb he hpl
 exact ⟨@zadq X x p pos e es t id r hc hg hm hv ha.out hn hdb he hpl⟩
theorem zhg:∀ {X:L2.Cx} {b:Bool} {j:Nat} {pos:qm},L2.Bx (L2.PE X (qR.Constant (PySem.Const.bool b) j pos) (L2.tC (L2.V.bl b))):=by
 intro X b j pos
 exact ⟨@zauq X b j pos⟩
theorem zbk:∀ {X:L2.Cx} {a b:qR} {ta tb:L2.TE} {pos:qm} {r:L2.R2},L2.IxR X r→L2.Bx (L2.PE X a ta)→L2.Bx (L2.PE X b tb)→L2.PlainIx b→L2.Bx (L2.PE X (a.Subscript b pos) (L2.tOp r ta tb)):=by
 intro X a b ta tb pos r hr ha hb hs
 exact ⟨@zasw X a b ta tb pos r hr ha.out hb.out hs⟩
theorem zcq:∀ {X:L2.Cx} {t u:L2.TS} {pos:qm} {c:qR} {a b:List PySem.Stmt} {tc:L2.TT},L2.Bx (L2.PT X c tc)→L2.Bx (L2.PSs X a t)→L2.Bx (L2.PSs X b u)→L2.Bx (L2.PS X (PySem.Stmt.If c a b pos) (L2.tIfS tc t u)):=by
 intro X t u pos c a b tc hc ha hb
 exact ⟨@zasi X t u pos c a b tc hc.out ha.out hb.out⟩
theorem zbt:∀ {X:L2.Cx},L2.Bx (L2.PSs X [] L2.tNext):=by
 intro X
 exact ⟨@zapq X⟩
theorem zgl:∀ {X:L2.Cx} {a:qR} {pos:qm} {tA:L2.TT},L2.Bx (L2.PT X a tA)→L2.Bx (L2.PT X (qR.UnaryOp PySem.UnaryOp.Not a pos) (L2.tNot tA)):=by
 intro X a pos tA ha
 exact ⟨@zase X a pos tA ha.out⟩
theorem zbz:∀ {X:L2.Cx} {K:qB},
 X.K=K →
  ∀ {a:qR} {ta:L2.TE},
   L2.Bx (L2.PE X a ta) →
    (∀ (whole:PySem.Sem PySem.Value),
      PySem.isTrue a X.env whole=do
       let v ← whole
       PySem.standAt a.pos
       PySem.holding [v] (PySem.truthy v)) →
     L2.Bx (L2.PT X a fun (σ:L2.St) (H:L2.Hp) (Q:Bool→L2.Hp→Prop)=>ta σ H fun (x:L2.V) (H':L2.Hp)=>∃ (k:Bool),L2.TruV K x H' k∧Q k H'):=by
 intro X K hK a ta ha he
 exact ⟨@zaim X K hK a ta ha.out he⟩
theorem zas:∀ {X:L2.Cx} {pos:qm} {i:Nat} {x:PySem.Str},X.N.Nodup→X.N[i]?=Option.some x→L2.Loc X.env.scope x→X.fn x=Bool.true∨List.lookup x X.env.scope.names=Option.some PySem.NameKind.local→L2.Bx (L2.PG X (qR.Name x pos) (L2.gName i)):=by
 intro X pos i x hN hi hx hf
 exact ⟨@zabp X pos i x hN hi hx hf⟩
theorem zdo:∀ {X:L2.Cx} {es:List qR} {t:L2.TA} {pos:qm},L2.Bx (L2.PA X es t)→L2.Bx (L2.PE X (qR.List es pos) (L2.tLst t)):=by
 intro X es t pos h
 exact ⟨@zaok X es t pos h.out⟩
theorem zft:∀ {X:L2.Cx} {tg iter:qR} {body:List PySem.Stmt} {wi:L2.TI} {g:L2.TG} {tb:L2.TS} {pos:qm},PySem.PassesOwn (PySem.model X.prog X.w) X.A X.env X.xe→X.calm=Bool.true→L2.Bx (L2.PI X tg iter wi)→L2.Bx (L2.PG X tg g)→L2.Bx (L2.PSs X body tb)→(∀ (x:PySem.Value),PySem.foldedSetIterable iter X.env x=Pure.pure x)→L2.Bx (L2.PS X (PySem.Stmt.For tg iter body [] pos) (L2.tFor wi g tb)):=by
 intro X tg iter body wi g tb pos hp hc hi hg hb hs
 exact ⟨@zagy X tg iter body wi g tb pos hp hc hi.out hg.out hb.out hs⟩
theorem zbj:∀ {X:L2.Cx} {a b:qR} {ta tb:L2.TE} {pos:qm} {op:PySem.CmpOp} {r:L2.R2},L2.OpR X (PySem.compareOp op) r→L2.Bx (L2.PE X a ta)→L2.Bx (L2.PE X b tb)→PySem.behindInMarks op b=Bool.false→L2.Bx (L2.PT X (a.Compare [op] [b] pos) (L2.tTest (L2.tOp r ta tb))):=by
 intro X a b ta tb pos op r ho ha hb hm
 exact ⟨@zaha X a b ta tb pos op r ho ha.out hb.out hm⟩
theorem zbr:∀ {X:L2.Cx} {x:PySem.Str} {j:Nat} {pos:qm},L2.Bx (L2.PE X (qR.Constant (PySem.Const.str x) j pos) (L2.tC (L2.V.str x))):=by
 intro X x j pos
 exact ⟨@zasa X x j pos⟩
theorem zdq:∀ {X:L2.Cx} {e:qR} {te:L2.TE} {pos:qm},L2.Bx (L2.PE X e te)→PySem.swapsWith e Option.none pos.line X.env=Pure.pure Bool.false→L2.Bx (L2.PS X (PySem.Stmt.Expr e pos) (L2.tDrop te)):=by
 intro X e te pos he hs
 exact ⟨@zabo X e te pos he.out hs⟩
theorem zbs:∀ {X:L2.Cx} {es:List qR} {t:L2.TA} {pos:qm} {x1:Nat},L2.Bx (L2.PA X es t)→L2.Bx (L2.PE X (qR.Tuple es x1 pos) (L2.tTup t)):=by
 intro X es t pos x1 h
 exact ⟨@zasr X es t pos x1 h.out⟩
theorem zqg:∀ {X:L2.Cx} {a:qR} {pos:qm} {op:PySem.BoolOp} {t:L2.TE},L2.Bx (L2.PE X a t)→L2.Bx (L2.PE X (qR.BoolOp op [a] pos) t):=by
 intro X a pos op t h
 exact ⟨@zasf X a pos op t h.out⟩
theorem zgo:∀ {X:L2.Cx} {a b:qR} {ta tb:L2.TE} {pos:qm} {op:PySem.CmpOp} {r:L2.R2},L2.OpR X (PySem.compareOp op) r→L2.Bx (L2.PE X a ta)→L2.Bx (L2.PE X b tb)→PySem.behindInMarks op b=Bool.false→L2.Bx (L2.PE X (a.Compare [op] [b] pos) (L2.tOp r ta tb)):=by
 intro X a b ta tb pos op r ho ha hb hm
 exact ⟨@zapu X a b ta tb pos op r ho ha.out hb.out hm⟩
theorem zdf:∀ {X:L2.Cx} {x:PySem.Str} {p pos:qm} {e:qR} {es:List qR} {t:L2.TA} {T:String} {r:List L2.V→L2.Hp→L2.VK→Prop},L2.CallR X (PySem.Value.type T) r→L2.Gl X x→X.mg x=Option.none→PySem.bootBuiltins x=Option.some (PySem.Value.type T)→L2.Bx (L2.PA X (e::es) t)→x≠qAA "__name__" → (x==qAA "__debug__")=Bool.false→qAK (e::es) X.env=(Bool.false,PySem.eval e X.env)::qAK es X.env→((PySem.backTo pos (qAK es X.env)).any fun (x:Bool×PySem.Sem PySem.Value)=>x.fst)=Bool.false→L2.Bx (L2.PE X ((qR.Name x p).Call (e::es) [] pos) (L2.tCB r t)):=by
 intro X x p pos e es t T r hc hg hm hv ha hn hdb he hpl
 exact ⟨@zahg X x p pos e es t T r hc hg hm hv ha.out hn hdb he hpl⟩
theorem zgp:∀ {X:L2.Cx} {x:PySem.Str} {v:L2.V} {u:PySem.Value} {pos:qm},L2.Gl X x→X.mg x=Option.none→PySem.bootBuiltins x=Option.some u→L2.RelV v u→x≠qAA "__name__" → (x==qAA "__debug__")=Bool.false→L2.Bx (L2.PE X (qR.Name x pos) (L2.tC v)):=by
 intro X x v u pos hg hm hv r hn hd
 exact ⟨@zapo X x v u pos hg hm hv r hn hd⟩
theorem zoh:∀ {X:L2.Cx} {a:qR} {pos:qm} {tA:L2.TT},L2.Bx (L2.PT X a tA)→L2.Bx (L2.PW X (qR.BoolOp PySem.BoolOp.Or [a] pos) tA):=by
 intro X a pos tA ha
 exact ⟨@zasc X a pos tA ha.out⟩
theorem zqz:∀ {X:L2.Cx} {a b:qR} {pos:qm} {tA tB':L2.TT} {rest:List qR},L2.Bx (L2.PT X a tA)→L2.Bx (L2.PW X (qR.BoolOp PySem.BoolOp.Or (b::rest) pos) tB')→L2.Bx (L2.PW X (qR.BoolOp PySem.BoolOp.Or (a::b::rest) pos) (L2.tOr tA tB')):=by
 intro X a b pos tA tB' rest ha hb
 exact ⟨@zaur X a b pos tA tB' rest ha.out hb.out⟩
theorem zdc:∀ {X:L2.Cx} {e:qR} {te:L2.TE},L2.Bx (L2.PE X e te)→L2.Bx (L2.PO X (Option.some e) (L2.tPart te)):=by
 intro X e te h
 exact ⟨@zahj X e te h.out⟩
theorem zfl:∀ {X:L2.Cx},L2.Bx (L2.PO X Option.none L2.tNoPart):=by
 intro X
 exact ⟨@zahi X⟩
theorem zdl:∀ {X:L2.Cx} {e:qR} {te:L2.TE} {lo hi:Option qR} {tl th:L2.TO} {pos p2:qm} {r:L2.V→Option Int→Option Int→L2.Hp→L2.VK→Prop},L2.SlR X r→L2.Bx (L2.PE X e te)→L2.Bx (L2.PO X lo tl)→L2.Bx (L2.PO X hi th)→L2.Bx (L2.PE X (e.Subscript (qR.Slice lo hi Option.none p2) pos) (L2.tSl r te tl th)):=by
 intro X e te lo hi tl th pos p2 r hr he hl hu
 exact ⟨@zadr X e te lo hi tl th pos p2 r hr he.out hl.out hu.out⟩
theorem zajt:∀ {X:L2.Cx} {K:qB},X.K=K→∀ {e k:qR} {te:L2.TE} {tk:L2.TO} {pos p2:qm},L2.Bx (L2.PE X e te)→L2.Bx (L2.PO X (Option.some k) tk)→L2.Bx (L2.PE X (e.Subscript (qR.Slice Option.none Option.none (Option.some k) p2) pos) (L2.tRev K te tk)):=by
 intro X K hK e k te tk pos p2 he hk
 exact ⟨@zatx X K hK e k te tk pos p2 he.out hk.out⟩
theorem zdu:∀ {X:L2.Cx} {scope:PySem.Scope} {N' own:List PySem.Str} {fr:List Nat} {elt target iter:qR} {ifs:List qR} {cpos:qm} {wi:L2.TI} {g:L2.TG} {tt:L2.TT} {te:L2.TE},L2.CompOk X scope N' own fr→X.calm=Bool.true→L2.Bx (L2.PI X target iter wi)→(∀ (cl:List (PySem.Str×PySem.Addr)) (C:PySem.Addr) (s:PySem.Shared) (H:L2.Hp) (fp:List PySem.Addr),L2.PG (L2.cxComp X scope N' own cl C s H fp) target g∧L2.PF (L2.cxComp X scope N' own cl C s H fp) ifs tt∧L2.PE (L2.cxComp X scope N' own cl C s H fp) elt te)→(∀ (x:PySem.Value),PySem.foldedSetIterable iter X.env x=Pure.pure x)→L2.Bx (L2.PE X (elt.ListComp [{target:=target,iter:=iter,ifs:=ifs,is_async:=0}] scope cpos) (L2.tComp1 wi g tt te own fr)):=by
 intro X scope N' own fr elt target iter ifs cpos wi g tt te c hc hi hb hs
 exact ⟨@zamc X scope N' own fr elt target iter ifs cpos wi g tt te c hc hi.out hb hs⟩
theorem zfu:∀ {X:L2.Cx} {K:qB},X.K=K→∀ {T:String} {name:PySem.Str} {id:String} {r:L2.V→List L2.V→L2.Hp→L2.VK→Prop} {o e:qR} {es:List qR} {to:L2.TE} {t:L2.TA} {apos cpos:qm},PySem.PlainAttrs T→PySem.Slot T name id→PySem.typeOf (PySem.Value.builtin id)=Pure.pure (PySem.Value.type "method_descriptor")→L2.MtR X id r→L2.Bx (L2.PE X o to)→L2.Bx (L2.PA X (e::es) t)→PySem.attributeBase o name X.env (PySem.eval o X.env)=PySem.eval o X.env→((((PySem.backTo cpos (qAK (e::es) X.env)).all fun (x:Bool×PySem.Sem PySem.Value)=>!x.fst)&&(PySem.backToKw cpos (PySem.keywordEach [] X.env)).all fun (x:Option PySem.Str×PySem.Sem PySem.Value)=>x.fst.isSome)&&Decidable.decide (((e::es).length+([]:List Keyword).length+if ([]:List Keyword).isEmpty=Bool.true then 0 else 1)<30))=Bool.true→(apos.endLine==cpos.line)=Bool.true→qAK (e::es) X.env=(Bool.false,PySem.eval e X.env)::qAK es X.env→((PySem.backTo cpos (qAK es X.env)).any fun (x:Bool×PySem.Sem PySem.Value)=>x.fst)=Bool.false→L2.Bx (L2.PE X ((o.Attribute name apos).Call (e::es) [] cpos) (L2.tBM K T r to t)):=by
 intro X K hK T name id r o e es to t apos cpos pa slot hty hm ho ha hbase hfew hline hs hplain
 exact ⟨@zaib X K hK T name id r o e es to t apos cpos pa slot hty hm ho.out ha.out hbase hfew hline hs hplain⟩
theorem zqh:∀ {X:L2.Cx} {a b:qR} {ta tb:L2.TE} {pos:qm} {rest:List qR},L2.Bx (L2.PE X a ta)→L2.Bx (L2.PE X (qR.BoolOp PySem.BoolOp.And (b::rest) pos) tb)→L2.Bx (L2.PE X (qR.BoolOp PySem.BoolOp.And (a::b::rest) pos) (L2.tAndV ta tb)):=by
 intro X a b ta tb pos rest ha hb
 exact ⟨@zasg X a b ta tb pos rest ha.out hb.out⟩
theorem zaen:∀ {X:L2.Cx} {pos:qm},L2.Bx (L2.PPs X pos [] [] []):=by
 intro X pos
 exact ⟨@zaqh X pos⟩
theorem zzo:∀ {X:L2.Cx} {pos:qm} {k v:qR} {ks:List (Option qR)} {vs:List qR} {tk tv:L2.TE} {trs:List (L2.TE×L2.TE)},L2.Bx (L2.PE X k tk)→L2.Bx (L2.PE X v tv)→L2.Bx (L2.PPs X pos ks vs trs)→L2.Bx (L2.PPs X pos (Option.some k::ks) (v::vs) ((tk,tv)::trs)):=by
 intro X pos k v ks vs tk tv trs hk hv hr
 exact ⟨@zalw X pos k v ks vs tk tv trs hk.out hv.out hr.out⟩
theorem zcj:∀ {X:L2.Cx} {K:qB},X.K=K→∀ {tg l:qR} {tl:L2.TE},L2.Bx (L2.PE X l tl)→L2.Bx (L2.PI X tg l (L2.iSeq K tl)):=by
 intro X K hK tg l tl hl
 exact ⟨@zaqt X K hK tg l tl hl.out⟩
theorem zkr:∀ {X:L2.Cx} {tg a:qR} {ta:L2.TA} {p pos:qm},L2.Gl X (qAA "range")→X.mg (qAA "range")=Option.none→L2.Bx (L2.PA X [a] ta)→qAK [a] X.env=[(Bool.false,PySem.eval a X.env)]→L2.Bx (L2.PI X tg ((qR.Name (qAA "range") p).Call [a] [] pos) (L2.iRng1 ta)):=by
 intro X tg a ta p pos hg hm ha hs
 exact ⟨@zye X tg a ta p pos hg hm ha.out hs⟩
theorem zgb:∀ {X:L2.Cx},L2.Bx (L2.PF X [] L2.tAll):=by
 intro X
 exact ⟨@zatf X⟩
theorem zace:∀ {X:L2.Cx} {j:Nat} {pos:qm},L2.Bx (L2.PE X (qR.Constant PySem.Const.none j pos) (L2.tC L2.V.non)):=by
 intro X j pos
 exact ⟨@zarz X j pos⟩
theorem zpf:∀ {X:L2.Cx} {pos:qm},L2.Bx (L2.PE X (qR.Dict [] [] pos) L2.tDNewK):=by
 intro X pos
 exact ⟨@zalv X pos⟩
theorem zaeo:∀ {X:L2.Cx} {pos:qm} {keys:List (Option qR)} {values:List qR} {trs:List (L2.TE×L2.TE)},L2.Bx (L2.PPs X pos keys values trs)→(keys.all fun (x:Option qR)=>x.isSome)=Bool.true→keys.length=values.length→keys≠[]→keys.length≤15→L2.Bx (L2.PE X (qR.Dict keys values pos) (L2.tDisp trs)):=by
 intro X pos keys values trs h hall hl h0 h15
 exact ⟨@zaqi X pos keys values trs h.out hall hl h0 h15⟩
theorem zjq:∀ {X:L2.Cx} {c:qR} {t:L2.TT},L2.Bx (L2.PT X c t)→L2.Bx (L2.PF X [c] t):=by
 intro X c t h
 exact ⟨@zatg X c t h.out⟩
theorem zaju:∀ {X:L2.Cx} {a:qR} {ta:L2.TE} {pos:qm},L2.Bx (L2.PE X a ta)→L2.Bx (L2.PE X (qR.UnaryOp PySem.UnaryOp.Not a pos) (L2.tNotV ta)):=by
 intro X a ta pos ha
 exact ⟨@zash X a ta pos ha.out⟩
theorem znh:∀ {X:L2.Cx} {o i:qR} {pos:qm} {td ty:L2.TE},X.A.units+1<PySem.cLine→L2.Bx (L2.PE X o td)→L2.Bx (L2.PE X i ty)→L2.NoSl i→L2.Bx (L2.PE X (o.Subscript i pos) (L2.tDGet td ty)):=by
 intro X o i pos td ty hu ho hi hs
 exact ⟨@zaqf X o i pos td ty hu ho.out hi.out hs⟩
theorem zix:∀ {X:L2.Cx} {a:qR} {pos:qm} {tA:L2.TT},L2.Bx (L2.PT X a tA)→L2.Bx (L2.PW X (qR.BoolOp PySem.BoolOp.And [a] pos) tA):=by
 intro X a pos tA ha
 exact ⟨@zapp X a pos tA ha.out⟩
theorem zlj:∀ {X:L2.Cx} {a b:qR} {pos:qm} {tA tB':L2.TT} {rest:List qR},L2.Bx (L2.PT X a tA)→L2.Bx (L2.PW X (qR.BoolOp PySem.BoolOp.And (b::rest) pos) tB')→L2.Bx (L2.PW X (qR.BoolOp PySem.BoolOp.And (a::b::rest) pos) (L2.tAnd tA tB')):=by
 intro X a b pos tA tB' rest ha hb
 exact ⟨@zasd X a b pos tA tB' rest ha.out hb.out⟩
theorem zzp:∀ {X:L2.Cx} {a b c:qR} {ta tb tc:L2.TE} {pos:qm} {op op':PySem.CmpOp} {r r':L2.R2},L2.OpR X (PySem.compareOp op) r→L2.OpR X (PySem.compareOp op') r'→L2.Bx (L2.PE X a ta)→L2.Bx (L2.PE X b tb)→L2.Bx (L2.PE X c tc)→PySem.lastMarks [op,op'] [b,c]=Bool.false→L2.Bx (L2.PT X (a.Compare [op,op'] [b,c] pos) (L2.tTest (L2.tChain r r' ta tb tc))):=by
 intro X a b c ta tb tc pos op op' r r' ho ho' ha hb hc hm
 exact ⟨@zaln X a b c ta tb tc pos op op' r r' ho ho' ha.out hb.out hc.out hm⟩
theorem zzq:∀ {X:L2.Cx} {st:PySem.Stmt},L2.Bx (L2.PS X st L2.tNever):=by
 intro X st
 exact ⟨@zalj X st⟩
theorem zaep:∀ {X:L2.Cx} {o i value:qR} {pos pos':qm} {td ty tv:L2.TE},X.A.units+1<PySem.cLine→L2.Bx (L2.PE X o td)→L2.Bx (L2.PE X i ty)→L2.Bx (L2.PE X value tv)→PySem.swapsWith value (Option.some (o.Subscript i pos')) pos.line X.env=Pure.pure Bool.false→L2.Bx (L2.PS X (PySem.Stmt.Assign [o.Subscript i pos'] value pos) (L2.sDPut td ty tv)):=by
 intro X o i value pos pos' td ty tv hu ho hi hv hs
 exact ⟨@zaqg X o i value pos pos' td ty tv hu ho.out hi.out hv.out hs⟩
theorem zhh:∀ {X:L2.Cx} {scope:PySem.Scope} {N' own:List PySem.Str} {fr:List Nat} {elt target iter:qR} {ifs:List qR} {cpos:qm} {wi:L2.TI} {g:L2.TG} {tt:L2.TT} {te:L2.TE} {spos py:qm} {i:Nat} {y:PySem.Str},L2.CompOk X scope N' own fr→X.calm=Bool.true→L2.Bx (L2.PI X target iter wi)→(∀ (cl:List (PySem.Str×PySem.Addr)) (C:PySem.Addr) (s:PySem.Shared) (H:L2.Hp) (fp:List PySem.Addr),L2.PG (L2.cxComp X scope N' own cl C s H fp) target g∧L2.PF (L2.cxComp X scope N' own cl C s H fp) ifs tt∧L2.PE (L2.cxComp X scope N' own cl C s H fp) elt te)→PySem.swapsWith (elt.ListComp [{target:=target,iter:=iter,ifs:=ifs,is_async:=0}] scope cpos) (Option.some (qR.Name y py)) spos.line X.env=Pure.pure Bool.true→X.N.Nodup→X.N[i]?=Option.some y→List.lookup y X.env.scope.names=Option.some PySem.NameKind.local→(∀ (x:PySem.Value),PySem.foldedSetIterable iter X.env x=Pure.pure x)→L2.Bx (L2.PS X (PySem.Stmt.Assign [qR.Name y py] (elt.ListComp [{target:=target,iter:=iter,ifs:=ifs,is_async:=0}] scope cpos) spos) (L2.tAsgC1 wi g tt te own fr i)):=by
 intro X scope N' own fr elt target iter ifs cpos wi g tt te spos py i y c hc hi hb hsw hN hy hl hs
 exact ⟨@zamd X scope N' own fr elt target iter ifs cpos wi g tt te spos py i y c hc hi.out hb hsw hN hy hl hs⟩
theorem zajv:∀ {X:L2.Cx} {pos:qm} {tg e:qR} {te:L2.TE} {g:L2.TG},L2.Bx (L2.PE X e te)→L2.Bx (L2.PG X tg g)→PySem.swapsWithSole [tg] e pos.line X.env=Pure.pure Bool.false→PySem.swappedStores [tg] e X.env=Pure.pure Option.none→List.map (fun (x:Bool×(PySem.Value→PySem.Sem Unit))=>x.snd) (PySem.assignEach [tg] X.env)=[PySem.assign tg X.env]→L2.Bx (L2.PS X (PySem.Stmt.Assign [tg] e pos) (L2.tAsg te g)):=by
 intro X pos tg e te g he hg hs hw h1
 exact ⟨@zaoh X pos tg e te g he.out hg.out hs hw h1⟩
theorem zqi:∀ {X:L2.Cx} {K:qB},X.K=K→∀ {a b:qR} {ta:L2.TA} {p pos:qm} {elts:List qR} {x1:Nat} {tpos:qm},L2.Gl X (qAA "zip")→X.mg (qAA "zip")=Option.none→L2.Bx (L2.PA X [a,b] ta)→qAK [a,b] X.env=(Bool.false,PySem.eval a X.env)::qAK [b] X.env→((PySem.backTo pos (qAK [b] X.env)).any fun (x:Bool×PySem.Sem PySem.Value)=>x.fst)=Bool.false→L2.Bx (L2.PI X (qR.Tuple elts x1 tpos) ((qR.Name (qAA "zip") p).Call [a,b] [] pos) (L2.iZip K ta)):=by
 intro X K hK a b ta p pos elts x1 tpos hg hm ha hs hs2
 exact ⟨@zatw X K hK a b ta p pos elts x1 tpos hg hm ha.out hs hs2⟩
theorem zpg:∀ {X:L2.Cx} {K:qB},X.K=K→∀ {a:qR} {ta:L2.TA} {p pos:qm} {elts:List qR} {x1:Nat} {tpos:qm},L2.Gl X (qAA "enumerate")→X.mg (qAA "enumerate")=Option.none→L2.Bx (L2.PA X [a] ta)→qAK [a] X.env=[(Bool.false,PySem.eval a X.env)]→L2.Bx (L2.PI X (qR.Tuple elts x1 tpos) ((qR.Name (qAA "enumerate") p).Call [a] [] pos) (L2.iEnumX K ta)):=by
 intro X K hK a ta p pos elts x1 tpos hg hm ha hs
 exact ⟨@zand X K hK a ta p pos elts x1 tpos hg hm ha.out hs⟩
theorem zcs:∀ {X:L2.Cx},L2.Bx (L2.PGs X [] L2.gNil):=by
 intro X
 exact ⟨@zapr X⟩
theorem zax:∀ {X:L2.Cx} {e:qR} {es:List qR} {t:L2.TG} {u:L2.TGs},L2.Bx (L2.PG X e t)→L2.Bx (L2.PGs X es u)→List.map (fun (x:Bool×(PySem.Value→PySem.Sem Unit))=>x.snd) (PySem.assignEach (e::es) X.env)=PySem.assign e X.env::List.map (fun (x:Bool×(PySem.Value→PySem.Sem Unit))=>x.snd) (PySem.assignEach es X.env)→L2.Bx (L2.PGs X (e::es) (L2.gCons t u)):=by
 intro X e es t u h1 h2 hs
 exact ⟨@zalk X e es t u h1.out h2.out hs⟩
theorem zct:∀ {X:L2.Cx} {K:qB},X.K=K→∀ {es:List qR} {k:Nat} {t:L2.TGs} {n:Nat} {pos:qm},X.calm=Bool.true→L2.Bx (L2.PGs X es t)→(PySem.assignEach es X.env).length=n→List.findIdx? (fun (x:Bool×(PySem.Value→PySem.Sem Unit))=>x.fst) (PySem.assignEach es X.env)=Option.none→L2.Bx (L2.PG X (qR.Tuple es k pos) (L2.gTup K n t)):=by
 intro X K hK es k t n pos hc h hn hst
 exact ⟨@zaqm X K hK es k t n pos hc h.out hn hst⟩
theorem zaph:∀ {X:L2.Cx} {a:qR} {ta:L2.TE} {pos:qm} {op:PySem.UnaryOp} {r:L2.V→L2.Hp→L2.VK→Prop},L2.UnR X (PySem.unaryOp op) r→L2.Bx (L2.PE X a ta)→L2.Bx (L2.PE X (qR.UnaryOp op a pos) (L2.tUn r ta)):=by
 intro X a ta pos op r ho ha
 exact ⟨@zaus X a ta pos op r ho ha.out⟩
theorem zajw:∀ {X:L2.Cx} {scope:PySem.Scope} {N' own:List PySem.Str} {fr:List Nat} {elt target iter target2 iter2:qR} {ifs ifs2:List qR} {cpos:qm} {wi wi2:L2.TI} {g g2:L2.TG} {tt tt2:L2.TT} {te:L2.TE},L2.CompOk X scope N' own fr→X.calm=Bool.true→L2.Bx (L2.PI X target iter wi)→(∀ (cl:List (PySem.Str×PySem.Addr)) (C:PySem.Addr) (s:PySem.Shared) (H:L2.Hp) (fp:List PySem.Addr),L2.PG (L2.cxComp X scope N' own cl C s H fp) target g∧L2.PF (L2.cxComp X scope N' own cl C s H fp) ifs tt∧L2.PI (L2.cxComp X scope N' own cl C s H fp) target2 iter2 wi2∧L2.PG (L2.cxComp X scope N' own cl C s H fp) target2 g2∧L2.PF (L2.cxComp X scope N' own cl C s H fp) ifs2 tt2∧L2.PE (L2.cxComp X scope N' own cl C s H fp) elt te)→(∀ (x:PySem.Value),PySem.foldedSetIterable iter X.env x=Pure.pure x)→(∀ (env:PySem.Env) (x:PySem.Value),PySem.foldedSetIterable iter2 env x=Pure.pure x)→L2.Bx (L2.PE X (elt.ListComp [{target:=target,iter:=iter,ifs:=ifs,is_async:=0},{target:=target2,iter:=iter2,ifs:=ifs2,is_async:=0}] scope cpos) (L2.tComp2 wi g tt wi2 g2 tt2 te own fr)):=by
 intro X scope N' own fr elt target iter target2 iter2 ifs ifs2 cpos wi wi2 g g2 tt tt2 te c hc hi hb hs hs2
 exact ⟨@zamt X scope N' own fr elt target iter target2 iter2 ifs ifs2 cpos wi wi2 g g2 tt tt2 te c hc hi.out hb hs hs2⟩
theorem zaga:∀ {X:L2.Cx} {o i:qR} {td ty:L2.TE},X.A.units+1<PySem.cLine→L2.Bx (L2.PE X i ty)→L2.Bx (L2.PE X o td)→L2.Bx (L2.PC X PySem.CmpOp.NotIn i o (L2.tDNotIn ty td)):=by
 intro X o i td ty hu hi ho
 exact ⟨@zahr X o i td ty hu hi.out ho.out⟩
theorem zajx:∀ {X:L2.Cx} {o i:qR} {td ty:L2.TE},X.A.units+1<PySem.cLine→L2.Bx (L2.PE X i ty)→L2.Bx (L2.PE X o td)→L2.Bx (L2.PC X PySem.CmpOp.In i o (L2.tDIn ty td)):=by
 intro X o i td ty hu hi ho
 exact ⟨@zate X o i td ty hu hi.out ho.out⟩
theorem zacf:∀ {X:L2.Cx} {a b:qR} {pos:qm} {op:PySem.CmpOp} {t:L2.TE},L2.Bx (L2.PC X op a b t)→PySem.behindInMarks op b=Bool.false→L2.Bx (L2.PE X (a.Compare [op] [b] pos) t):=by
 intro X a b pos op t h h1
 exact ⟨@zasb X a b pos op t h.out h1⟩
theorem bv {X:Cx} (i:Nat) {x:Str} {pos:Pos} (hN:X.N[i]?=some x:=by rfl) (hv:visB X.env.scope x=true:=by rfl) (hd:(x==("__debug__":Str))=false:=by decide)
  (hcd:(x==("__classdict__":Str))=false:=by decide):Bx (PE X (.Name x pos) (tVar i)):=⟨zaof hN (visB.of hv) hd hcd⟩
theorem zani {X:Cx} {i:Nat} {o k e:Expr} {tk tv:TE} {pos pos':Pos} (ho:Bx (PE X o (tVar i))) (hk:Bx (PE X k tk)) (hv:Bx (PE X e tv))
  (ha:∀ v,assign (.Subscript o k pos') X.env v=(do
   let ov ← holding [v] (eval o X.env)
   let iv ← holding [v,ov] (eval k X.env)
   standAt pos'
   holding [v,ov,iv] (setItem ov iv v)
   release [v,ov,iv] []))
  (hs:swapsWithSole [.Subscript o k pos'] e pos.line X.env=pure false) (hw:swappedStores [.Subscript o k pos'] e X.env=pure none) (h1:(assignEach [.Subscript o k pos'] X.env).map (·.2)=[assign (.Subscript o k pos') X.env]) :
  Bx (PS X (.Assign [.Subscript o k pos'] e pos) (tAsg tv (gSub (tVar i) tk zaqa))):=⟨zaoh hv.out (zask ho.out hk.out zalr ha) hs hw h1⟩
noncomputable def SatK (fx:Addr→Prop) (H0:Hp) (J:Nat→Prop) (σ0:St) (D:Ends):Out→Prop
 | .nx env=>∀ σ H,EnvOk fx H0 env σ H→(∀ j,J j→σ[j]?=σ0[j]?)→D.nx σ H
 | .bk env=>∀ σ H,EnvOk fx H0 env σ H→(∀ j,J j→σ[j]?=σ0[j]?)→D.bk σ H
 | .ct env=>∀ σ H,EnvOk fx H0 env σ H→(∀ j,J j→σ[j]?=σ0[j]?)→D.ct σ H
 | .rt d fr=>∀ v H,Same H0 H→zafs fx H0 d fr v H→D.rt v H
theorem SatK.move {fx:Addr→Prop} {H0:Hp} {J:Nat→Prop} {σ0 σ1:St} {D:Ends} {o:Out} (h:SatK fx H0 J σ0 D o) (e:∀ j,J j→σ1[j]?=σ0[j]?):SatK fx H0 J σ1 D o:=by
 cases o with
 | nx env=>exact fun σ H hE k=>h σ H hE fun j hj=>(k j hj).trans (e j hj)
 | bk env=>exact fun σ H hE k=>h σ H hE fun j hj=>(k j hj).trans (e j hj)
 | ct env=>exact fun σ H hE k=>h σ H hE fun j hj=>(k j hj).trans (e j hj)
 | rt d fr=>exact h
noncomputable def SSk (J:Nat→Prop) (ts:TS) (F:SF):Prop:=∀ (fx:Addr→Prop) (H0:Hp) (env:DEnv) (σ:St) (H:Hp) (D:Ends),EnvOk fx H0 env σ H→∀ o,F env=some o→SatK fx H0 J σ D o→ts D σ H
section
variable {J:Nat→Prop}
theorem ztd {t u:TS} {f g:SF} (h1:SSk J t f) (h2:SSk J u g):SSk J (tSeq t u) (sSeq f g):=by
 intro fx H0 env σ H D h o e q
 unfold sSeq at e
 obtain ⟨o1,e1,e⟩:=qA.mp e
 refine h1 fx H0 env σ H _ h o1 e1 ?_
 cases o1 with
 | nx env'=>exact fun σ' H' h' k=>h2 fx H0 env' σ' H' D h' o e (q.move k)
 | bk env'=>cases e;exact q
 | ct env'=>cases e;exact q
 | rt d fr=>cases e;exact q
theorem zte {te:TE} {f:EF} {i:Nat} (h1:SE te f) (hJ:¬ J i):SSk J (tAsg te (gName i)) (sSet i f):=by
 intro fx H0 env σ H D h o e q
 unfold sSet at e
 obtain ⟨r,er,rfl⟩:=qK.mp e
 exact h1 fx H0 env σ H h r er _ fun v H' s hv=>q _ H' (h.put s hv i) fun j hj=>qAL fun z=>hJ (by rw [z];exact hj)
theorem zanj {i:Nat} {tk tv:TE} {fk fv:EF} (h1:SE tk fk) (h2:SE tv fv):SSk J (tAsg tv (gSub (tVar i) tk zaqa)) (zanh i fk fv):=by
 intro fx H0 env σ H D h o e q
 unfold zanh at e
 split at e
 ·rename_i ds ei
  obtain ⟨r,er,e⟩:=qA.mp e
  obtain ⟨⟨kd,kfr,kbs⟩,ek,e⟩:=qA.mp e
  cases kd with
  | int z =>
   have e:((ixN ds.length z).bind fun j=>if i∉r.bs then some (Out.nx ((frzs env r.bs).set i (.ac (.list (ds.set j r.d))))) else none)=some o:=e
   obtain ⟨j,ej,e⟩:=qA.mp e
   split at e
   ·rename_i hl
    cases e
    obtain ⟨a,g1,g2,g3,g4⟩:=h.ac i _ ei
    obtain ⟨xs,hx,rx⟩:=g4
    refine h2 fx H0 env σ H h r er _ fun v H' s hv=>⟨_,g1,h1 fx H0 env σ H' (h.up s) _ ek _ fun u H2 s2 hk=>?_⟩
    cases zfv hk.rp
    have t2:=s.trans s2
    have h':=(h.up t2).frzs r.bs
    have ei':=zld hl ei
    have hx':=t2 _ _ hx
    have rx':Rps (Offs (fun b=>fx b∨own (frzs env r.bs) σ b) H2) ds xs:=by
     obtain ⟨a',z1,_,_,z4⟩:=h'.ac i _ ei'
     rw [g1] at z1
     cases z1
     obtain ⟨ys,y1,y2⟩:=z4
     rw [hx'] at y1
     cases y1
     exact y2
    refine ⟨a,xs,z,j,rfl,rfl,hx',by rw [← rx.length];exact ej,?_⟩
    exact q σ _ (h'.mut ei' g1 ⟨_,zbx,rx'.setAt (Rp.same (Offs.sub zhd) _ (hv.later (Same.refl _) s2 fun _ z=>z).rp) j⟩) fun _ _=>rfl
   ·cases e
  | _=>cases e
 ·cases e
end
abbrev GM:=PyData→List PyData→Option PyData
noncomputable def spM (n:Nat) (g:GM):Sp:=fun vs H Q _=>∃ (fx:Addr→Prop) (a:Addr) (vs':List V) (d0 d1:PyData) (ds:List PyData),vs=.ref a::vs'∧ds.length+1=n∧(∀ b,fx b→∃ o,H b=some o)∧¬ fx a ∧
 ziv (Offs (fun b=>fx b∨b=a) H) H a d0∧Rps (Offs (fun b=>fx b∨b=a) H) ds vs'∧g d0 ds=some d1 ∧
 ∀ H',(∀ b o,b≠a→H b=some o→H' b=some o)→ziv (Offs (fun b=>fx b∨b=a) H') H' a d1→Q .non H'
theorem zark {n:Nat} {g:GM} {vs:List V} {H:Hp} {Q:VK} {E:XK} (h:spM n g vs H Q E):vs.length=n:=by
 obtain ⟨fx,a,vs',d0,d1,ds,rfl,hn,_,_,_,r,_⟩:=h
 rw [qAI,← r.length];exact hn
def ztf (n:Nat) (d:PyData) (ds:List PyData):DEnv:=.ac d::zho (n - 1) ds
noncomputable def fnM (n:Nat) (f:SF):GM:=fun d ds=>(f (ztf n d ds)).bind fun o=>match o with
 | .nx env=>match (env[0]?:Option Sl) with
  | some (.ac d1)=>some d1
  | _=>none
 | _=>none
theorem zagb {fx:Addr→Prop} {H:Hp} {N:List Str} {a:Addr} {d:PyData} {ds:List PyData} {vs:List V} (hN:0<N.length) (hf:∀ b,fx b→∃ o,H b=some o) (na:¬ fx a)
  (ac:ziv (Offs (fun b=>fx b∨b=a) H) H a d) (r:Rps (Offs (fun b=>fx b∨b=a) H) ds vs):EnvOk fx (Offs (fun b=>b=a) H) (ztf N.length d ds) (zko N (.ref a::vs)) H:=by
 have no:∀ (i:Nat) (e:PyData),(ztf N.length d ds)[i]?=some (Sl.ac e)→i=0∧e=d:=fun i e h=>by
  cases i with
  | zero=>cases h;exact ⟨rfl,rfl⟩
  | succ i =>
   have h:(zho (N.length - 1) ds)[i]?=some (Sl.ac e):=h
   rcases zox h with ⟨d',_,z⟩|z<;>cases z
 have s0:(zko N (.ref a::vs))[0]?=some (some (.ref a)):=by unfold zko;rfl
 have ow:∀ b,own (ztf N.length d ds) (zko N (.ref a::vs)) b→b=a:=by
  rintro b ⟨i,e,h1,h2⟩
  obtain ⟨rfl,_⟩:=no i e h1
  rw [s0] at h2
  cases h2
  rfl
 have so:Same (Offs (fun b=>fx b∨b=a) H) (Offs (fun b=>fx b∨own (ztf N.length d ds) (zko N (.ref a::vs)) b) H):=Offs.sub fun b z=>z.imp id (ow b)
 refine ⟨?_,fun i e h=>?_,fun i e h=>?_,fun i j e e' b h1 h2 _ _=>?_,Offs.same _ _,hf⟩
 ·unfold ztf zho zko
  rw [qAI,qb,qb,qC,qC,qAl,qAl,r.length,qAI]
  omega
 ·cases i with
  | zero=>cases h
  | succ i =>
   have h:(zho (N.length - 1) ds)[i]?=some (Sl.pl e):=h
   rcases zox h with ⟨d',hd,z⟩|z
   ·cases z
    obtain ⟨v,hv,rv⟩:=r.get2 hd
    refine ⟨v,?_,Rp.same so _ rv⟩
    unfold zko
    have hi:i<vs.length:=(qZ.mp hv).1
    rw [qAH (by simpa using hi),qL,qAG,hv];rfl
   ·cases z
 ·obtain ⟨rfl,rfl⟩:=no i e h
  exact ⟨a,s0,Offs.out rfl,na,ac.same so fun o z=>z⟩
 ·rw [(no i e h1).1,(no j e' h2).1]
theorem fn_m {N:List Str} {n:Nat} {f:SF} {t:TS} (hN:0<N.length) (hs:SSk (fun j=>j=0) t f) {vs:List V} {H:Hp} {Q:VK} {E:XK} (h:spM n (fnM N.length f) vs H Q E):t {nx:=fun _ H'=>Q .non H',rt:=Q} (zko N vs) H:=by
 obtain ⟨fx,a,vs',d0,d1,ds,rfl,hn,hf,na,ac,r,g,k⟩:=h
 unfold fnM at g
 obtain ⟨o,eo,g⟩:=qA.mp g
 cases o with
 | nx env' =>
  refine hs fx _ _ _ H _ (zagb hN hf na ac r) _ eo fun σ' H' hE kp=>?_
  have g:(match (env'[0]?:Option Sl) with|some (.ac d1)=>some d1|_=>none)=some d1:=g
  split at g
  ·rename_i d1' e0
   cases g
   obtain ⟨a',q1,_,_,q4⟩:=hE.ac 0 _ e0
   rw [kp 0 rfl] at q1
   have q1:some (some (V.ref a))=some (some (V.ref a')):=q1
   cases q1
   refine k H' (fun b o nb e=>hE.base b o (by rw [Offs.get (A:=fun b=>b=a) nb];exact e)) (q4.same (Offs.sub fun b z=>z.imp id fun y=>?_) fun o z=>z)
   subst y
   exact ⟨0,_,e0,by rw [kp 0 rfl];rfl⟩
  ·cases g
 | bk _=>cases g
 | ct _=>cases g
 | rt _ _=>cases g
noncomputable def ztg (i n:Nat) (g:GM) (f:AF):SF:=fun env=>match env[i]? with
 | some (.ac d0)=>(f env).bind fun rs=>if rs.length+1=n∧i∉bss rs then (g d0 (zlc rs)).map fun d1=>.nx ((frzs env (bss rs)).set i (.ac d1)) else none
 | _=>none
theorem zaeq {i n:Nat} {g:GM} {ta:TA} {f:AF} (ha:SA ta f):SS (tDrop (tCall (spM n g) [] E0 (tCons (tVar i) ta))) (ztg i n g f):=by
 intro fx H0 env σ H D h o e q
 unfold ztg at e
 split at e
 ·rename_i d0 ei
  obtain ⟨rs,er,e⟩:=qA.mp e
  split at e
  ·rename_i hl
   obtain ⟨d1,eg,rfl⟩:=qK.mp e
   obtain ⟨a,g1,g2,g3,g4⟩:=h.ac i _ ei
   refine ⟨_,g1,ha fx H0 env σ H h rs er _ fun vs H1 s hv=>?_⟩
   have hE:=h.up s
   have la:∀ b,lim fx env σ (i::bss rs) b∨b=a→fx b∨own env σ b:=fun b z=>z.elim (zpy b) fun y=>by subst y;exact .inr ⟨i,_,ei,g1⟩
   refine ⟨lim fx env σ (i::bss rs),a,vs,d0,d1,zlc rs,by simp,by rw [zov];exact hl.1,hE.lims _,?_,?_,?_,eg,fun H' fr ac'=>?_⟩
   ·rintro (z|⟨j,d',z1,z2,z3⟩)
    ·exact g3 z
    ·exact z1 (qg.mpr (.inl (h.inj j i d' d0 a z2 ei z3 g1)))
   ·exact g4.same (Offs.mono s fun b _ _ nb z=>nb (la b z)) fun o=>s a o
   ·refine Rps.same (Offs.sub fun b z=>?_) _ (znd (fun i hi=>hi) hv)
    rcases z with z|z
    ·exact zkl (fun i hi=>qJ _ hi) b z
    ·subst z;exact .inr ⟨i,d0,hl.2,ei,g1⟩
   ·obtain ⟨o0,eo0⟩:=g4.ex
    obtain ⟨o1,eo1⟩:=ac'.ex
    have s2:Same H1 (upd H' a o0):=fun b o eb=>by
     by_cases hb:b=a
     ·subst hb
      rw [zbx,← eb,s _ _ eo0]
     ·rw [zcp hb];exact fr b o hb eb
    have e2:upd (upd H' a o0) a o1=H':=by
     funext b
     by_cases hb:b=a
     ·subst hb;rw [zbx,eo1]
     ·rw [zcp hb,zcp hb]
    have hf:=(hE.up s2).frzs (bss rs)
    have ei':=zld hl.2 ei
    have sl:∀ b,fx b∨own (frzs env (bss rs)) σ b→lim fx env σ (i::bss rs) b∨b=a:=by
     rintro b (z|⟨j,d',z1,z2⟩)
     ·exact .inl (.inl z)
     ·obtain ⟨z3,z4⟩:=zacb z1
      by_cases hj:j=i
      ·subst hj
       rw [g1] at z2
       cases z2
       exact .inr rfl
      ·exact .inl (.inr ⟨j,d',fun hm=>(qg.mp hm).elim hj z4,z3,z2⟩)
    have r:ziv (Offs (fun b=>fx b∨own (frzs env (bss rs)) σ b) (upd H' a o0)) (upd (upd H' a o0) a o1) a d1:=by
     rw [e2,Offs.upd (.inr ⟨i,_,ei',g1⟩)]
     exact ac'.same (Offs.sub sl) fun o z=>z
    have:=hf.mut ei' g1 r
    rw [e2] at this
    exact q σ H' this
  ·cases e
 ·cases e
noncomputable def rEqH (K:qB):R2:=fun x y H Q=>(rEq x y H Q∨rEqD K false x y H Q)∨∃ a b xs z u,x=.ref a∧y=.ref b∧SqT K H a (.str z::xs)∧SqT K H b [.str u]∧Q (.bl ((z==u)&&xs.isEmpty)) H
section
variable {X:Cx}
theorem zaty {K:qB} (hK:X.K=K) (hu:X.A.units+64<cLine):OpR X (compareOp .Eq) (rEqH K):=by
 intro pins s σ H x y v w Q I rx ry h
 rcases h with h|⟨a,b,xs,z,u,rfl,rfl,ha,hb,q⟩
 ·exact zeb hK hu pins s σ H x y v w Q I rx ry h
 ·subst hK
  cases rx
  cases ry
  obtain ⟨its,rv,p,_⟩:=I.tuple ha
  obtain ⟨jts,rw,p2,_⟩:=I.tuple hb
  cases rv with
  | cons r1 rs =>
   cases rw with
   | cons r2 rs2 =>
    cases rs2
    obtain ⟨t1,rfl⟩:=r1
    obtain ⟨t2,rfl⟩:=r2
    rename_i us
    refine SeqAt.eq_tupleAt (e:=fun _=>z==u) (items:=(Value.str z t1::us).toArray) (items2:=[Value.str u t2].toArray) p p2 (by omega) (fun j h1 h2=>?_) ?_
    ·have:j=0:=by simp at h2;exact h2
     subst this
     exact qCc z t1 u t2
    ·refine ⟨.bl ((z==u)&&xs.isEmpty),H,I,?_,q⟩
     have hx:xs.isEmpty=us.isEmpty:=zjn rs.length
     rw [hx]
     show _=Value.bool _
     congr 1
     cases us with
     | nil=>simp [List.range_succ]
     | cons _ _=>simp
end
noncomputable def eqHD:OF:=fun dx dy=>if eqOk dx dy=true then some (.bool (qH dx dy),false) else match dx,dy with
 | .tuple (.str a::r),.tuple [.str b]=>some (.bool ((a==b)&&r.isEmpty),false)
 | _,_=>none
theorem zatz {K:qB}:SO (rEqH K) eqHD:=by
 intro A H x y dx dy hA rx ry d fr e Q q
 unfold eqHD at e
 split at e
 ·rename_i h
  exact .inl (zgk A H x y dx dy hA rx ry d fr (by unfold eqD;rw [if_pos h];exact e) Q q)
 ·split at e
  ·cases e
   obtain ⟨a,xs,rfl,ha,r⟩:=zel rx
   obtain ⟨b,ys,rfl,hb,r2⟩:=zel ry
   unfold Rps at r r2
   obtain ⟨v1,vs1,rfl,h1,h2⟩:=r
   obtain ⟨v2,vs2,rfl,h3,h4⟩:=r2
   unfold Rps at h4
   subst h4
   cases zkc h1
   cases zkc h3
   refine .inr ⟨a,b,vs1,_,_,rfl,rfl,SqT.of (zez ha),SqT.of (zez hb),?_⟩
   rw [← zjn h2.length]
   exact q _ H (Same.refl _) zbf (fun z=>by cases z)
  ·cases e
end L2
namespace HT
open PySem PySem.Spec PyProof.Rows L2
section
variable {prog:Program} {w:World} {A:Around} {E:Value→Shared→Prop} {s:Shared}
theorem getItem_tuple_whole {t sl:Addr} {items:Array Value} {vl vu:Value} {lo hi:Option Int} {Q:Value→Shared→Prop} (ht:IsTup s.heap t items) (hs:s.heap.IsSliceOf sl vl vu .none) (pl:IsPart vl lo) (pu:IsPart vu hi)
  (hw:sIx items.size 0 lo=0∧sIx items.size items.size hi=items.size) (h:Q (.ref t) s):wpAny (model prog w) A (getItem (.ref t) (.ref sl)) Q E s:=by
 obtain ⟨os,hos,hcs,hds⟩:=id hs
 have hTs:s.TypeIs (.ref sl) "slice":=⟨os,hos,hcs⟩
 unfold getItem
 try with_reducible refine qBZ ?_
 first|refine qD (qQ ?_)|skip
 refine qD (wpAny_sequenceKey ht.typeIs (by decide) ?_)
 refine qD (qAo (name:=Str.ofString "__getitem__") ht.typeIs qAZ
  (qA7 qAZ ht.typeIs entry_tuple_getitem ?_ (args_tuple_getitem _ _)))
 show wpAny _ _ (Builtin.Tuple.tupleItemsOf (.ref t) >>= _) _ _ s
 refine qD (tupleItemsOf_ ht ?_)
 refine qD (wpAny_typeOf hTs ?_)
 rw [if_pos (by decide)]
 refine qD (zlm hs pl pu ?_)
 have hyes:(((sIx items.size 0 lo:Nat):Int)==0&&(1:Int)==1&&(sIx items.size items.size hi - sIx items.size 0 lo)==items.size)=true:=by
  rw [hw.1,hw.2];simp
 show wpAny _ _ (if (((sIx items.size 0 lo:Nat):Int)==0&&(1:Int)==1&&(sIx items.size items.size hi - sIx items.size 0 lo)==items.size)=true then _ else _) _ _ s
 rw [if_pos hyes]
 unfold Builtin.Tuple.tupleIsExact
 refine qD (qD (wpAny_typeOf ht.typeIs (qQ ?_)))
 rw [if_pos (by decide)]
 refine qD (qCR ?_)
 first
  | exact qQ ⟨_,rfl,qQ h⟩
  | exact qD (qQ (qQ ⟨_,rfl,qQ h⟩))
  | exact qD (qQ (qD (qQ (qQ ⟨_,rfl,qQ h⟩))))
end
end HT
namespace L2
open PySem PySem.Spec PyProof.Rows
noncomputable def rSlW (K:qB):V→Option Int→Option Int→Hp→VK→Prop:=fun x lo hi H Q=>∃ a xs,x=.ref a∧SqT K H a xs ∧
 ((HT.sIx xs.length 0 lo=0∧HT.sIx xs.length xs.length hi=xs.length)→Q (.ref a) H)∧(¬ (HT.sIx xs.length 0 lo=0∧HT.sIx xs.length xs.length hi=xs.length)→∀ p,H p=none→Q (.ref p) (upd H p (.tup (cutV xs lo hi))))
theorem sl_W {X:Cx} {K:qB} (hK:X.K=K):SlR X (rSlW K):=by
 subst hK
 intro pins s σ H x v vl vu lo hi sl Q I rx hs pl pu h
 obtain ⟨a,xs,rfl,hx,q1,q2⟩:=h
 by_cases hw:HT.sIx xs.length 0 lo=0∧HT.sIx xs.length xs.length hi=xs.length
 ·cases rx
  obtain ⟨its,r,ht,hz⟩:=I.tuple hx
  have hlen:its.toArray.size=xs.length:=by rw [qS];exact r.length.symm
  refine ⟨"tuple",_,qAZ.lookup,ht.typeIs,?_⟩
  exact HT.getItem_tuple_whole ht hs pl pu (by rw [hlen];exact hw) ⟨.ref a,H,I,rfl,q1 hw⟩
 ·exact zasu pins s σ H _ v vl vu lo hi sl Q I rx hs pl pu ⟨a,xs,rfl,hx,hw,q2 hw⟩
noncomputable def eSlT (a:EF) (l h:PF'):EF:=fun env=>(a env).bind fun x=>(l env).bind fun lo=>(h env).bind fun hi=>match x.d with
 | .tuple ds=>some ⟨.tuple (cutD ds lo hi),false,x.bs⟩
 | _=>none
theorem zaua {K:qB} {te:TE} {tl th:TO} {f:EF} {fl fh:PF'} (h1:SE te f) (h2:SPt tl fl) (h3:SPt th fh):SE (tSl (rSlW K) te tl th) (eSlT f fl fh):=by
 intro fx H0 env σ H h rr hr Q q
 unfold eSlT at hr
 obtain ⟨⟨d,frd,bs⟩,ex,hr⟩:=qA.mp hr
 obtain ⟨lo,el,hr⟩:=qA.mp hr
 obtain ⟨hi,eh,hr⟩:=qA.mp hr
 cases d with
 | tuple ds =>
  cases hr
  refine h1 fx H0 env σ H h _ ex _ fun v H1 s1 v1=>h2 fx H0 env σ H1 (h.up s1) _ el _ fun H2 s2=>h3 fx H0 env σ H2 (h.up (s1.trans s2)) _ eh _ fun H3 s3=>?_
  have v3:=(v1.later (Same.refl _) (s2.trans s3) fun _ z=>z).rp
  have t3:=(s1.trans s2).trans s3
  obtain ⟨p,xs,rfl,hp,r⟩:=zel v3
  refine ⟨p,xs,rfl,SqT.of (zez hp),fun hw=>q _ _ t3 ⟨?_,fun z=>by cases z⟩,fun _ l hl=>q _ _ (t3.trans (Same.new hl)) ⟨?_,fun z=>by cases z⟩⟩
  ·have e:cutD ds lo hi=ds:=by
    unfold cutD
    rw [r.length,hw.1,hw.2,List.drop_zero,Nat.sub_zero,qCm (by rw [r.length];exact qM _)]
   show Rp _ (.tuple (cutD ds lo hi)) _
   rw [e]
   exact v3
  ·have hA:=(h.up t3).lims bs
   exact zpz hl (zgr hA hl) (r.cut lo hi)
 | _=>cases hr
end L2
namespace Bc
open PySem L2
def zml:SF:=(sRet (zzi ["arm", "name"] [] (zbg (eVar 0)) (gN 0) zdw (zbg (zbm 1 zcz (zab (eVar 0) aNil))) (gN 1) zdw (eVar 1)))
def zhi:GF:=fnD 1 zml
noncomputable def zra:SF:=(sSeq (sIf (zbe (eOp neD (eCB lenD (zab (eVar 2) aNil)) (eVar 1))) zadw sNil)
  (zaft (zbm 2 zhf (zab (eVar 0) (zab (zbm 1 zhi (zab (eVar 2) aNil)) aNil)))))
def zkf:GF:=fnD 3 zra
def zmm:SF:=(sRet (zdg ["arm"] [0] (zbg (eVar 1)) (gN 0) zdw (zbm 2 zmj (zab (eVar 1) (zab (eVar 0) aNil)))))
def zek:GF:=fnD 2 zmm
noncomputable def zrb:SF:=(sRet (eCB (anyD fun bs=>bs.all id) (zab (zdg ["kind", "roof"] [] (zmk (zab (eVar 0) (zab (eVar 1) aNil))) (gT 2 (zap 0 (zap 1 zco))) zdw (eDIn false (eVar 0) (eVar 1))) aNil)))
def zik:GF:=fnD 2 zrb
noncomputable def zth:SF:=(sRet (eAnd (eOp neD (eVar 1) (eVar 2)) (eCB (anyD fun bs=>bs.all id) (zab (zdg ["low", "high"] [0] (zmk (zab (eVar 1) (zab (eVar 2) aNil))) (gT 2 (zap 0 (zap 1 zco))) zdw (eDIn false (eVar 1) (zfd 2 (eVar 0)))) aNil))))
def zgc:GF:=fnD 3 zth
noncomputable def zlp:SF:=(sSeq (sAsg (eVar 0) (gT 3 (zap 2 (zap 3 (zap 4 zco)))))
  (sSeq (zaft (zbm 3 zkf (zab (eVar 2) (zab (eVar 3) (zab (eVar 1) aNil)))))
  (sSeq (sSet 5 (zbm 2 zek (zab (zbm 1 zhp (zab (eVar 2) aNil)) (zab (eVar 1) aNil))))
  (sRet (zdg ["rule"] [5] (zbg (eVar 4)) (gN 0) (tTru (zbm 2 zik (zab (eIxV 0 (eC (.int 1))) (zab (eVar 1) aNil)))) (eVar 0))))))
def zfo:GF:=fnD 6 zlp
noncomputable def zrc:SF:=(sRet (zdg ["rule"] [0,1] (zbg (eVar 1)) (gN 0) (zef (tTru (eCB (anyD fun bs=>bs.any id) (zab (zdg ["name", "kinds"] [0,1] (zbg (eVar 2)) (gT 2 (zap 0 (zap 1 zco))) zdw (zbm 3 zgc (zab (eVar 3) (zab (eVar 1) (zab (eIxV 2 (eC (.int 1))) aNil))))) aNil)))) (eVar 0)))
def zil:GF:=fnD 2 zrc
def zrd:SF:=(sRet (zdg ["name", "kinds"] [] (zbg (eVar 0)) (gT 2 (zap 0 (zap 1 zco))) zdw (eVar 0)))
def zim:GF:=fnD 1 zrd
noncomputable def zti:SF:=(sSeq (sIf (zef (tTru (eVar 0))) (sRet (eTup (zab (eC (.str "none")) aNil))) sNil)
  (sSeq (sIf (zbe (eOp eqD (eCB lenD (zab (eVar 0) aNil)) (eC (.int 1)))) (sRet (eTup (zab (eC (.str "rule")) (zab (eIxV 0 (eC (.int 0))) aNil)))) sNil)
  (sRet (eTup (zab (eC (.str "quarrel")) (zab (eCB zea (zab (eVar 0) aNil)) aNil))))))
def zjr:GF:=fnD 1 zti
noncomputable def zjs:SF:=(sSeq (sSet 2 (eC (.str "abcdefghijklmnopqrstuvwxyz")))
  (sSeq (sSet 3 (eOp ixD (eTup (zab (eC (.int 1)) (zab (eC (.int 3)) (zab (eC (.int 5)) (zab (eC (.int 7)) (zab (eC (.int 9)) (zab (eC (.int 11)) (zab (eC (.int 15)) (zab (eC (.int 17)) aNil))))))))) (eOp modD (eOp zcv (eVar 1) (eC (.int 3))) (eC (.int 8)))))
  (sSeq (sSet 4 (eOp modD (eOp zcv (eVar 1) (eC (.int 24))) (eC (.int 26))))
  (sSeq (sSet 5 (eOp mulD (eIxV 2 (eOp modD (eOp zcv (eVar 1) (eC (.int 624))) (eC (.int 26)))) (eOp modD (eOp zcv (eVar 1) (eC (.int 16224))) (eC (.int 8)))))
  (sSeq (sSet 6 (eOp modD (eOp zcv (eVar 1) (eC (.int 129792))) (eOp addD (eCB lenD (zab (eVar 5) aNil)) (eC (.int 1)))))
  (sSeq (sSet 7 (eLst aNil))
  (sSeq (sFor (zer (zab (eVar 0) aNil)) (gN 8)
  (sSeq (sSet 9 (eIxV 2 (eOp modD (eOp addD (eVar 4) (eOp mulD (eVar 3) (eVar 8))) (eC (.int 26)))))
  (sIf (zbe (eOp eqD (eOp modD (eVar 1) (eC (.int 3))) (eC (.int 0)))) (sApp 7 (eOp addD (eOp addD (eSl (eVar 5) zfk (zcm (eVar 6))) (eVar 9)) (eSl (eVar 5) (zcm (eVar 6)) zfk))) (sIf (zbe (eOp eqD (eOp modD (eVar 1) (eC (.int 3))) (eC (.int 1)))) (sApp 7 (eOp addD (eSl (eVar 5) zfk (zcm (eOp modD (eOp mulD (eVar 8) (eVar 3)) (eOp addD (eCB lenD (zab (eVar 5) aNil)) (eC (.int 1)))))) (eVar 9))) (sApp 7 (eOp mulD (eIxV 2 (eOp modD (eOp addD (eVar 4) (eOp zcv (eVar 8) (eC (.int 8)))) (eC (.int 26)))) (eOp addD (eC (.int 1)) (eOp modD (eOp mulD (eVar 8) (eVar 3)) (eC (.int 8))))))))))
  (sSeq (sIf (zbe (eOp eqD (eOp modD (eOp zcv (eVar 1) (eC (.int 1038336))) (eC (.int 6))) (eC (.int 5)))) (sSeq (sSet 10 (eLst (zab (eC (.str "none")) (zab (eC (.str "rule")) (zab (eC (.str "quarrel")) (zab (eC (.str "near")) (zab (eC (.str "far")) (zab (eC (.str "out")) aNil))))))))
  (sSeq (sSet 11 (eOp modD (eOp zcv (eVar 1) (eC (.int 6230016))) (eC (.int 6))))
  (sSet 7 (eSl (eOp addD (eOp addD (eSl (eVar 10) (zcm (eVar 11)) zfk) (eSl (eVar 10) zfk (zcm (eVar 11)))) (eSl (eVar 7) (zcm (eC (.int 6))) zfk)) zfk (zcm (eVar 0)))))) sNil)
  (zss 7)))))))))
def zdv:GF:=fnD 12 zjs
noncomputable def zvm:SF:=(sSeq (sSet 3 (eLst aNil))
  (sSeq (sSet 4 (eVar 0))
  (sSeq (sSet 5 (eCB lenD (zab (eVar 1) aNil)))
  (sSeq (sFor (zer (zab (eVar 2) aNil)) (gN 6)
  (sSeq (sSet 7 (eOp modD (eVar 4) (eVar 5)))
  (sSeq (sSet 4 (eOp zcv (eVar 4) (eVar 5)))
  (sSeq (sIf (zbe (eOp eqD (eOp modD (eVar 4) (eC (.int 4))) (eC (.int 2)))) (sApp 3 (eTup (zab (eIxV 1 (eOp subD (eOp subD (eVar 5) (eC (.int 1))) (eVar 7))) aNil))) (sIf (zhb (zbe (eOp eqD (eOp modD (eVar 4) (eC (.int 4))) (eC (.int 3)))) (zbe (eOp gtD (eVar 5) (eC (.int 1))))) (sSeq (sSet 8 (eOp modD (eOp addD (eOp addD (eVar 7) (eC (.int 1))) (eOp modD (eOp zcv (eVar 4) (eC (.int 4))) (eOp subD (eVar 5) (eC (.int 1))))) (eVar 5)))
  (sSeq (sSet 9 (zdg ["_law_name"] [1,7,8] (zbg (eSl (eVar 1) (zcm (eOp subD (eVar 5) (eOp modD (eVar 4) (eC (.int 3))))) zfk)) (gN 0) (zbe (eOp (inD true) (eVar 0) (eTup (zab (eIxV 1 (eVar 2)) (zab (eIxV 1 (eVar 3)) aNil))))) (eVar 0)))
  (sApp 3 (eCB zea (zab (eOp addD (eLst (zab (eIxV 1 (eVar 7)) (zab (eIxV 1 (eVar 8)) aNil))) (eVar 9)) aNil))))) (sApp 3 (eIxV 1 (eOp subD (eOp subD (eVar 5) (eC (.int 1))) (eVar 7))))))
  (sSet 4 (eOp zcv (eVar 4) (eOp mulD (eC (.int 4)) (eVar 5))))))))
  (sRet (eCB zea (zab (eVar 3) aNil)))))))
def zks:GF:=fnD 10 zvm
noncomputable def ztj:SF:=(sSeq (sSet 5 (eLst aNil))
  (sSeq (sFor (zqw (zab (eVar 4) aNil)) (gT 2 (zap 6 (zap 7 zco)))
  (sSeq (sSet 8 (eOp zcv (eIxV 0 (eVar 6)) (eC (.int 4))))
  (sSeq (sSet 9 (eLst aNil))
  (sSeq (sFor (zbg (eVar 3)) (gN 10)
  (sSeq (sSet 11 (eVar 1))
  (sSeq (sIf (zbe (eOp gtD (eOp modD (eIxV 0 (eVar 6)) (eC (.int 4))) (eC (.int 0)))) (sSet 11 (zdg ["_law_name"] [2,10] (zbg (eVar 1)) (gN 0) (tTru (eCB (anyD fun bs=>bs.any id) (zab (zdg ["_law_one"] [0,1] (zbg (zbm 1 zcz (zab (eVar 2) aNil))) (gN 0) zdw (eOp (inD false) (eVar 1) (zfd 2 (eVar 0)))) aNil))) (eVar 0))) sNil)
  (sSeq (sApp 9 (eIxV 11 (eOp modD (eVar 8) (eCB lenD (zab (eVar 11) aNil)))))
  (sSet 8 (eOp zcv (eVar 8) (eCB lenD (zab (eVar 11) aNil))))))))
  (sIf (zbe (eOp (inS true) (eCB zea (zab (eVar 9) aNil)) (zdg ["_law_one", "_law_row"] [] (zbg (eVar 5)) (gT 2 (zap 0 (zap 1 zco))) zdw (eVar 1)))) (sApp 5 (eTup (zab (eVar 7) (zab (eCB zea (zab (eVar 9) aNil)) aNil)))) sNil)))))
  (zss 5)))
def zjt:GF:=fnD 12 ztj
noncomputable def zph:SF:=(sSeq (sIf (zbe (eOp eqD (eCB lenD (zab (eVar 0) aNil)) (eC (.int 0)))) (sRet (eTup (zab (eC (.str "none")) aNil))) sNil)
  (sSeq (sIf (zbe (eOp eqD (eCB lenD (zab (eVar 0) aNil)) (eC (.int 1)))) (sRet (eTup (zab (eC (.str "rule")) (zab (eIxV 0 (eC (.int 0))) aNil)))) sNil)
  (sRet (eTup (zab (eC (.str "quarrel")) (zab (eCB zea (zab (eVar 0) aNil)) aNil))))))
def zdd:GF:=fnD 1 zph
def zvn:SF:=(sRet (eAnd (eIsi "int" (eVar 0)) (eNot (eIsi "bool" (eVar 0)))))
def zhr:GF:=fnD 1 zvn
noncomputable def zaer:SF:=(sSeq (sIf (tOrF (zef (tTru (zbm 1 zhr (zab (eVar 2) aNil)))) (zef (zbe (zmf leD ltD (eC (.int 0)) (eVar 2) (eCB lenD (zab (eVar 0) aNil)))))) (sRet (eC (.bool false))) sNil)
  (sRet (eDIn true (eIxV 0 (eVar 2)) (eIxV 1 (eVar 2)))))
def zsd:GF:=fnD 3 zaer
noncomputable def zre:SF:=(sRet (eCB (anyD fun bs=>bs.any id) (zab (zdg ["name", "others"] [0,2,3] (zbg (eVar 1)) (gT 2 (zap 0 (zap 1 zco))) zdw (eAnd (eOp (eqTD false) (eVar 0) (eVar 4)) (zbm 3 zgc (zab (eVar 2) (zab (eVar 1) (zab (eVar 3) aNil)))))) aNil)))
def zkg:GF:=fnD 4 zre
noncomputable def zzr:SF:=(sSeq (sIf (zef (tTru (eIsi "tuple" (eVar 4)))) (sRet (eC (.bool false))) sNil)
  (sSeq (sSet 5 (eIxV 3 (eC (.int 1))))
  (sSeq (sIf (zhb (zbe (eOp eqD (eCB lenD (zab (eVar 4) aNil)) (eC (.int 2)))) (zbe (eOp eqD (eIxV 4 (eC (.int 0))) (eC (.str "out"))))) (sRet (zbm 3 zsd (zab (eVar 5) (zab (eVar 1) (zab (eIxV 4 (eC (.int 1))) aNil))))) sNil)
  (sSeq (sIf (zbe (eOp (inS true) (eVar 3) (eVar 2))) (sRet (eC (.bool false))) sNil)
  (sSeq (sIf (zhb (zbe (eOp eqD (eCB lenD (zab (eVar 4) aNil)) (eC (.int 2)))) (zbe (eOp eqD (eIxV 4 (eC (.int 0))) (eC (.str "far"))))) (sRet (zbm 4 zkg (zab (eVar 0) (zab (eVar 2) (zab (eVar 5) (zab (eIxV 4 (eC (.int 1))) aNil)))))) sNil)
  (sRet (eOp eqD (eVar 4) (eTup (zab (eC (.str "near")) aNil)))))))))
def zmn:GF:=fnD 6 zzr
noncomputable def zajy:SF:=(sSeq (sSet 4 (zbm 2 zfo (zab (eVar 0) (zab (eVar 1) aNil))))
  (sSeq (sAsg (eVar 0) (gT 3 (zap 5 (zap 6 (zap 7 zco)))))
  (sSeq (sIf (tOrF (zef (tTru (eIsi "list" (eVar 3)))) (zbe (eOp neD (eCB lenD (zab (eVar 3) aNil)) (eCB lenD (zab (eVar 7) aNil))))) (sRet (eC (.bool false))) sNil)
  (sSeq (sSet 8 (zbm 1 zhp (zab (eVar 5) aNil)))
  (sSeq (sSet 9 (zbm 2 zek (zab (eVar 8) (zab (eVar 1) aNil))))
  (sSeq (sIf (zef (tTru (eCB (anyD fun bs=>bs.all id) (zab (zdg ["rule", "line"] [4,8,9] (zmk (zab (eVar 7) (zab (eVar 3) aNil))) (gT 2 (zap 0 (zap 1 zco))) zdw (zbm 5 zmn (zab (eVar 3) (zab (eVar 4) (zab (eVar 2) (zab (eVar 0) (zab (eVar 1) aNil))))))) aNil)))) (sRet (eC (.bool false))) sNil)
  (sSeq (sSet 10 (zdg ["rule", "line"] [] (zmk (zab (eVar 7) (zab (eVar 3) aNil))) (gT 2 (zap 0 (zap 1 zco))) (zbe (eOp eqD (eVar 1) (eTup (zab (eC (.str "near")) aNil)))) (eVar 0)))
  (sRet (eAnd (eOp eqD (zbm 2 zil (zab (eVar 8) (zab (eVar 10) aNil))) (eVar 10)) (eOp eqD (eVar 2) (zbm 1 zjr (zab (zbm 1 zim (zab (eVar 10) aNil)) aNil))))))))))))
def zlk:GF:=fnD 11 zajy
noncomputable def zaes:SF:=(sRet (eCB (anyD fun bs=>bs.any id) (zab (zdg ["_law_name"] [0,2] (zbg (zbm 1 zcz (zab (eVar 1) aNil))) (gN 0) zdw (eOp (inD false) (eVar 2) (zfd 1 (eVar 0)))) aNil)))
def zgq:GF:=fnD 3 zaes
noncomputable def zns:SF:=(sSeq (sFor (zzn (zab (eVar 1) aNil)) (gT 2 (zap 3 (zap 4 zco)))
  (sIf (zef (tTru (zbm 3 zgq (zab (eVar 0) (zab (eIxV 2 (eVar 3)) (zab (eVar 4) aNil)))))) (sRet (eC (.bool false))) sNil))
  (sRet (eC (.bool true))))
def zbl:GF:=fnD 5 zns
noncomputable def zvo:SF:=(sSeq (sSet 4 (eLst aNil))
  (sSeq (sSet 5 (eVar 3))
  (sSeq (sSet 6 (zdg ["_law_rule"] [0,2] (zbg (eVar 1)) (gN 0) (tTru (zbm 3 zbl (zab (eVar 1) (zab (eIxV 0 (eC (.int 1))) (zab (eVar 2) aNil))))) (eVar 0)))
  (sSeq (sFor (zbg (eVar 1)) (gT 2 (zap 7 (zap 8 zco)))
  (sSeq (sSet 9 (zdg ["_law_k"] [0,2,8] (zer (zab (eCB lenD (zab (eVar 8) aNil)) aNil)) (gN 0) (zef (tTru (zbm 3 zgq (zab (eVar 1) (zab (eIxV 2 (eVar 0)) (zab (eIxV 3 (eVar 0)) aNil)))))) (eVar 0)))
  (sSeq (sSet 10 (zdg ["_law_one", "_law_other"] [0,8] (zbg (eVar 6)) (gT 2 (zap 0 (zap 1 zco))) (zhb (zbe (eOp neD (eVar 1) (eVar 3))) (tTru (zbm 3 zbl (zab (eVar 2) (zab (eVar 3) (zab (eVar 1) aNil)))))) (eVar 0)))
  (sSeq (sIf (zbe (eOp gtD (eCB lenD (zab (eVar 9) aNil)) (eC (.int 0)))) (sApp 4 (eTup (zab (eC (.str "out")) (zab (eIxV 9 (eOp modD (eVar 5) (eCB lenD (zab (eVar 9) aNil)))) aNil)))) (sIf (zbe (eOp gtD (eCB lenD (zab (eVar 10) aNil)) (eC (.int 0)))) (sApp 4 (eTup (zab (eC (.str "far")) (zab (eIxV 10 (eOp modD (eVar 5) (eCB lenD (zab (eVar 10) aNil)))) aNil)))) (sApp 4 (eTup (zab (eC (.str "near")) aNil)))))
  (sSet 5 (eOp zcv (eVar 5) (eC (.int 2))))))))
  (zss 4)))))
def zkt:GF:=fnD 11 zvo
noncomputable def znt:SF:=(sSeq (sSet 6 (eOp ixD (eIxV 2 (eOp modD (eVar 5) (eCB lenD (zab (eVar 2) aNil)))) (eC (.int 0))))
  (sSeq (sSet 7 (eLst (zab (eTup (zab (eC (.str "near")) aNil)) (zab (eTup (zab (eC (.str "far")) (zab (eVar 6) aNil))) (zab (eTup (zab (eC (.str "out")) (zab (eOp modD (eVar 5) (eC (.int 4))) aNil))) (zab (eTup (zab (eC (.str "out")) (zab (eOp eqD (eOp modD (eVar 5) (eC (.int 2))) (eC (.int 1))) aNil))) (zab (eTup (zab (eC (.str "out")) (zab (eOp subD (eC (.int 0)) (eC (.int 1))) aNil))) (zab (eTup aNil) aNil))))))))
  (sSeq (sSet 7 (eOp addD (eVar 7) (eLst (zab (eCB zqa (zab (eVar 1) aNil)) (zab (eOp addD (eVar 1) (eTup (zab (eC (.int 0)) aNil))) (zab (eSlT (eVar 1) zfk (zcm (eC (.int 1)))) (zab (eTup (zab (eC (.str "near")) (zab (eVar 6) aNil))) (zab (eC .none) (zab (eTup (zab (eC (.str "out")) (zab (eVar 6) aNil))) (zab (eVar 6) (zab (eTup (zab (eC (.str "far")) (zab (eC (.int 0)) aNil))) aNil)))))))))))
  (sSeq (sSet 7 (eOp addD (eVar 7) (eLst (zab (eTup (zab (eC (.str "far")) (zab (eLst (zab (eVar 6) aNil)) aNil))) (zab (eTup (zab (eC (.str "far")) (zab (eD1 (eVar 6) (eC (.int 0))) aNil))) (zab (eTup (zab (eC (.str "Near")) aNil)) (zab (eTup (zab (eC (.str "none")) aNil)) (zab (eTup (zab (eVar 6) aNil)) (zab (eTup (zab (eC (.int 0)) aNil)) (zab (eTup (zab (eLst (zab (eVar 6) aNil)) aNil)) aNil))))))))))
  (sSeq (sSet 7 (eOp addD (eVar 7) (eLst (zab (eTup (zab (eC (.str "nea")) aNil)) (zab (eTup (zab (eC (.str "nears")) aNil)) aNil)))))
  (zanh 0 (eVar 3) (eIxV 7 (eVar 4))))))))
def zfp:GM:=fnM 8 znt
noncomputable def ztk:SF:=(sSeq (sSet 3 (eCB zqa (zab (eVar 0) aNil)))
  (sSeq (sIf (zhb (zbe (eOp gtD (eOp modD (eIxV 2 (eC (.int 0))) (eC (.int 6))) (eC (.int 0)))) (zbe (eOp gtD (eCB lenD (zab (eVar 3) aNil)) (eC (.int 0))))) (sSeq (sSet 4 (eOp modD (eIxV 2 (eC (.int 1))) (eCB lenD (zab (eVar 3) aNil))))
  (ztg 3 6 zfp (zab (eIxV 0 (eVar 4)) (zab (eVar 1) (zab (eVar 4) (zab (eOp modD (eOp zcv (eIxV 2 (eC (.int 0))) (eC (.int 6))) (eC (.int 23))) (zab (eOp zcv (eIxV 2 (eC (.int 1))) (eC (.int 12))) aNil))))))) sNil)
  (sSeq (sIf (zhb (zbe (eOp gtD (eOp modD (eIxV 2 (eC (.int 0))) (eC (.int 6))) (eC (.int 3)))) (zbe (eOp gtD (eCB lenD (zab (eVar 3) aNil)) (eC (.int 0))))) (sSeq (sSet 4 (eOp modD (eIxV 2 (eC (.int 2))) (eCB lenD (zab (eVar 3) aNil))))
  (ztg 3 6 zfp (zab (eIxV 0 (eVar 4)) (zab (eVar 1) (zab (eVar 4) (zab (eOp modD (eOp zcv (eIxV 2 (eC (.int 0))) (eC (.int 138))) (eC (.int 2))) (zab (eOp zcv (eIxV 2 (eC (.int 2))) (eC (.int 12))) aNil))))))) sNil)
  (sSeq (sSet 5 (eOp modD (eOp zcv (eIxV 2 (eC (.int 2))) (eC (.int 12))) (eOp addD (eCB lenD (zab (eVar 3) aNil)) (eC (.int 1)))))
  (sSeq (sIf (zbe (eOp eqD (eOp modD (eIxV 2 (eC (.int 1))) (eC (.int 11))) (eC (.int 8)))) (sRet (eOp addD (eSl (eVar 3) zfk (zcm (eVar 5))) (eSl (eVar 3) (zcm (eOp addD (eVar 5) (eC (.int 1)))) zfk))) sNil)
  (sSeq (sIf (zbe (eOp eqD (eOp modD (eIxV 2 (eC (.int 1))) (eC (.int 11))) (eC (.int 9)))) (sRet (eOp addD (eOp addD (eSl (eVar 3) zfk (zcm (eVar 5))) (eLst (zab (eTup (zab (eC (.str "near")) aNil)) aNil))) (eSl (eVar 3) (zcm (eVar 5)) zfk))) sNil)
  (sSeq (sIf (zbe (eOp eqD (eOp modD (eIxV 2 (eC (.int 1))) (eC (.int 11))) (eC (.int 10)))) (sRet (eOp ixD (eLst (zab (eCB zea (zab (eVar 3) aNil)) (zab (eC .none) (zab (eRev (eVar 3) (zcm (eNeg (eC (.int 1))))) (zab zaca (zab (eC (.str "near")) aNil)))))) (eOp modD (eOp zcv (eIxV 2 (eC (.int 2))) (eC (.int 5))) (eC (.int 5))))) sNil)
  (zss 3))))))))
def zhs:GF:=fnD 6 ztk
noncomputable def zvp:SF:=(sSeq (sIf (tOrF (zef (tTru (eIsi "tuple" (eVar 4)))) (zbe (eOp eqD (eCB lenD (zab (eVar 4) aNil)) (eC (.int 0))))) (sRet (eC (.bool false))) sNil)
  (sSeq (sIf (zhb (zbe (eOp eqD (eIxV 4 (eC (.int 0))) (eC (.str "out")))) (zbe (eOp eqD (eCB lenD (zab (eVar 4) aNil)) (eC (.int 2))))) (sSeq (sIf (tOrF (zef (tTru (eIsi "int" (eIxV 4 (eC (.int 1)))))) (tOrF (tTru (eIsi "bool" (eIxV 4 (eC (.int 1))))) (zef (zbe (zmf leD ltD (eC (.int 0)) (eIxV 4 (eC (.int 1))) (eCB lenD (zab (eVar 2) aNil))))))) (sRet (eC (.bool false))) sNil)
  (sRet (eNot (zbm 3 zgq (zab (eVar 0) (zab (eIxV 3 (eIxV 4 (eC (.int 1)))) (zab (eIxV 2 (eIxV 4 (eC (.int 1)))) aNil))))))) sNil)
  (sSeq (sIf (zef (tTru (zbm 3 zbl (zab (eVar 0) (zab (eVar 2) (zab (eVar 3) aNil)))))) (sRet (eC (.bool false))) sNil)
  (sSeq (sIf (zhb (zbe (eOp eqD (eIxV 4 (eC (.int 0))) (eC (.str "far")))) (zbe (eOp eqD (eCB lenD (zab (eVar 4) aNil)) (eC (.int 2))))) (sSeq (sSet 5 (zdg ["_law_name", "_law_other"] [4] (zbg (eVar 1)) (gT 2 (zap 0 (zap 1 zco))) (zbe (eOp (eqTD false) (eVar 0) (eIxV 2 (eC (.int 1))))) (eVar 1)))
  (sSeq (sIf (tOrF (zbe (eOp eqD (eCB lenD (zab (eVar 5) aNil)) (eC (.int 0)))) (zbe (eOp eqD (eIxV 5 (eC (.int 0))) (eVar 2)))) (sRet (eC (.bool false))) sNil)
  (sRet (eAnd (zbm 3 zbl (zab (eVar 0) (zab (eIxV 5 (eC (.int 0))) (zab (eVar 3) aNil)))) (zbm 3 zbl (zab (eVar 0) (zab (eVar 2) (zab (eIxV 5 (eC (.int 0))) aNil)))))))) sNil)
  (sRet (eOp eqD (eVar 4) (eTup (zab (eC (.str "near")) aNil))))))))
def zjd:GF:=fnD 6 zvp
noncomputable def zzs:SF:=(sSeq (sIf (tOrF (zef (tTru (eIsi "list" (eVar 4)))) (zbe (eOp neD (eCB lenD (zab (eVar 4) aNil)) (eCB lenD (zab (eVar 1) aNil))))) (sRet (eC (.bool false))) sNil)
  (sSeq (sSet 5 (eLst aNil))
  (sSeq (sFor (zqw (zab (eVar 1) aNil)) (gT 2 (zap 6 (zap 7 zco)))
  (sSeq (sIf (zef (tTru (zbm 5 zjd (zab (eVar 0) (zab (eVar 1) (zab (eIxV 7 (eC (.int 1))) (zab (eVar 2) (zab (eIxV 4 (eVar 6)) aNil)))))))) (sRet (eC (.bool false))) sNil)
  (sIf (zbe (eOp eqD (eIxV 4 (eVar 6)) (eTup (zab (eC (.str "near")) aNil)))) (sApp 5 (eVar 7)) sNil)))
  (sSeq (sFor (zbg (eVar 5)) (gT 2 (zap 8 (zap 9 zco)))
  (sIf (tTru (eCB (anyD fun bs=>bs.any id) (zab (zdg ["_law_one", "_law_other"] [0,9] (zbg (eVar 5)) (gT 2 (zap 0 (zap 1 zco))) zdw (eAnd (eOp neD (eVar 1) (eVar 3)) (zbm 3 zbl (zab (eVar 2) (zab (eVar 3) (zab (eVar 1) aNil)))))) aNil))) (sRet (eC (.bool false))) sNil))
  (sRet (eOp eqD (eVar 3) (zbm 1 zdd (zab (zdg ["_law_name", "_law_kinds"] [] (zbg (eVar 5)) (gT 2 (zap 0 (zap 1 zco))) zdw (eVar 0)) aNil))))))))
def zmo:GF:=fnD 10 zzs
noncomputable def ztl:SF:=(sSeq (sSet 3 (eLst aNil))
  (sSeq (sIf (tTru (eIsi "list" (eVar 1))) (sSet 3 (zdg ["_law_rule", "_law_item_here"] [] (zmk (zab (eVar 0) (zab (eVar 1) aNil))) (gT 2 (zap 0 (zap 1 zco))) (zbe (eOp eqHD (eVar 1) (eTup (zab (eC (.str "near")) aNil)))) (eIxV 0 (eC (.int 0))))) sNil)
  (sSeq (sSet 4 (eOp addD (zdg ["_law_name", "_law_kinds"] [] (zbg (eVar 0)) (gT 2 (zap 0 (zap 1 zco))) zdw (eVar 0)) (eLst (zab (eC (.str "a")) aNil))))
  (sSeq (sSet 5 (eIxV 4 (eOp modD (eOp zcv (eVar 2) (eC (.int 16))) (eCB lenD (zab (eVar 4) aNil)))))
  (sSeq (sSet 6 (eLst (zab (eTup (zab (eC (.str "none")) aNil)) (zab (eTup (zab (eC (.str "rule")) (zab (eVar 5) aNil))) (zab (eTup (zab (eC (.str "quarrel")) (zab (eCB zea (zab (eOp addD (eVar 3) (eLst (zab (eVar 5) aNil))) aNil)) aNil))) (zab (eTup (zab (eC (.str "quarrel")) (zab (eCB zea (zab (eSl (eVar 3) (zcm (eC (.int 1))) zfk) aNil)) aNil))) (zab (eC .none) aNil)))))))
  (sSeq (sSet 6 (eOp addD (eVar 6) (eLst (zab (eLst (zab (eC (.str "rule")) (zab (eVar 5) aNil))) (zab (eTup (zab (eC (.str "quarrel")) (zab (eVar 3) aNil))) (zab (eTup (zab (eC (.str "quarrel")) (zab (eCB zea (zab (eRev (eVar 3) (zcm (eNeg (eC (.int 1))))) aNil)) aNil))) (zab (eTup (zab (eC (.str "rule")) aNil)) (zab (eVar 5) aNil))))))))
  (sSeq (sIf (zbe (eOp ltD (eOp modD (eVar 2) (eC (.int 16))) (eC (.int 10)))) (sRet (eIxV 6 (eOp modD (eVar 2) (eC (.int 16))))) sNil)
  (sRet (zbm 1 zdd (zab (eVar 3) aNil))))))))))
def zju:GF:=fnD 7 ztl
theorem zxc:bootBuiltins "all" = some (.builtin "all"):=by decide +kernel
theorem zpi:bootBuiltins "any" = some (.builtin "any"):=by decide +kernel
theorem ztm:bootBuiltins "bool" = some (.type "bool"):=by decide +kernel
theorem zaet:bootBuiltins "int" = some (.type "int"):=by decide +kernel
theorem zcl:bootBuiltins "isinstance" = some (.builtin "isinstance"):=by decide +kernel
theorem zbw:bootBuiltins "len" = some (.builtin "len"):=by decide +kernel
theorem zhj:bootBuiltins "list" = some (.type "list"):=by decide +kernel
theorem zank:bootBuiltins "min" = some (.builtin "min"):=by decide +kernel
theorem zdx:bootBuiltins "tuple" = some (.type "tuple"):=by decide +kernel
theorem zauo:bootBuiltins "zip" = some (.type "zip"):=by decide +kernel
def top (i:Nat):Stmt:=PySem.Challenge.pw_bestcalls_k17_papers_looked_at.main.body.getD i (.Pass ⟨0,0,0,0⟩)
structure Txt (mg:Str→Option Value):Prop where
 all:mg "all" = none
 any:mg "any" = none
 bool:mg "bool" = none
 enumerate:mg "enumerate" = none
 int:mg "int" = none
 isinstance:mg "isinstance" = none
 len:mg "len" = none
 list:mg "list" = none
 min:mg "min" = none
 range:mg "range" = none
 tuple:mg "tuple" = none
 zip:mg "zip" = none
abbrev zje:Stmt:=top 5
abbrev zvq:List Str:=["thing"]
theorem zacg:zvq.Nodup:=by decide +kernel
theorem zach:FnScope zvq ["thing"] (zar zje):=⟨rfl,rfl,rfl,zacg,rfl,by decide +kernel,by decide +kernel⟩
abbrev zjf:Stmt:=top 6
abbrev zvr:List Str:=["web"]
theorem zaci:zvr.Nodup:=by decide +kernel
theorem zacj:FnScope zvr ["web"] (zar zjf):=⟨rfl,rfl,rfl,zaci,rfl,by decide +kernel,by decide +kernel⟩
abbrev zjg:Stmt:=top 7
abbrev zvs:List Str:=["arm"]
theorem zack:zvs.Nodup:=by decide +kernel
theorem zacl:FnScope zvs ["arm"] (zar zjg):=⟨rfl,rfl,rfl,zack,rfl,by decide +kernel,by decide +kernel⟩
abbrev zgh:Stmt:=top 8
abbrev zpj:List Str:=["web", "names", "known", "name"]
theorem zkn:zpj.Nodup:=by decide +kernel
theorem zuq:FnScope zpj ["web", "names"] (zar zgh):=⟨rfl,rfl,rfl,zkn,rfl,by decide +kernel,by decide +kernel⟩
abbrev zjh:Stmt:=top 9
abbrev zvt:List Str:=["web", "roofs", "name", "elders", "roof", "elder"]
theorem zht:zvt.Nodup:=by decide +kernel
theorem zacm:FnScope zvt ["web"] (zar zjh):=⟨rfl,rfl,rfl,zht,rfl,by decide +kernel,by decide +kernel⟩
abbrev zku:Stmt:=top 10
abbrev zzt:List Str:=["roofs", "arm", "roof", "name"]
theorem zqj:zzt.Nodup:=by decide +kernel
theorem zagc:FnScope zzt ["roofs", "arm"] (zar zku):=⟨rfl,rfl,rfl,zqj,rfl,by decide +kernel,by decide +kernel⟩
abbrev zfe:Stmt:=top 12
abbrev zmp:List Str:=["call"]
theorem zrt:zmp.Nodup:=by decide +kernel
theorem zru:FnScope zmp ["call"] (zar zfe):=⟨rfl,rfl,rfl,zrt,rfl,by decide +kernel,by decide +kernel⟩
abbrev zgu:Stmt:=top 13
abbrev zrf:List Str:=["web", "places", "call"]
theorem zxd:zrf.Nodup:=by decide +kernel
theorem zxe:FnScope zrf ["web", "places", "call"] (zar zgu):=⟨rfl,rfl,rfl,zxd,rfl,by decide +kernel,by decide +kernel⟩
abbrev zff:Stmt:=top 14
abbrev zmq:List Str:=["roofs", "call"]
theorem zrv:zmq.Nodup:=by decide +kernel
theorem zrw:FnScope zmq ["roofs", "call"] (zar zff):=⟨rfl,rfl,rfl,zrv,rfl,by decide +kernel,by decide +kernel⟩
abbrev zgv:Stmt:=top 15
abbrev zrg:List Str:=["kinds", "call_roofs"]
theorem zxf:zrg.Nodup:=by decide +kernel
theorem zxg:FnScope zrg ["kinds", "call_roofs"] (zar zgv):=⟨rfl,rfl,rfl,zxf,rfl,by decide +kernel,by decide +kernel⟩
abbrev zhu:Stmt:=top 16
abbrev ztn:List Str:=["roofs", "one", "other"]
theorem zzu:ztn.Nodup:=by decide +kernel
theorem zzv:FnScope ztn ["roofs", "one", "other"] (zar zhu):=⟨rfl,rfl,rfl,zzu,rfl,by decide +kernel,by decide +kernel⟩
abbrev zeo:Stmt:=top 18
abbrev zlq:List Str:=["book", "call", "web", "places", "rules", "call_roofs"]
theorem zfg:zlq.Nodup:=by decide +kernel
theorem zqk:FnScope zlq ["book", "call"] (zar zeo):=⟨rfl,rfl,rfl,zfg,rfl,by decide +kernel,by decide +kernel⟩
abbrev zgw:Stmt:=top 19
abbrev zrh:List Str:=["roofs", "rules"]
theorem zxh:zrh.Nodup:=by decide +kernel
theorem zxi:FnScope zrh ["roofs", "rules"] (zar zgw):=⟨rfl,rfl,rfl,zxh,rfl,by decide +kernel,by decide +kernel⟩
abbrev zgx:Stmt:=top 20
abbrev zri:List Str:=["rules"]
theorem zxj:zri.Nodup:=by decide +kernel
theorem zxk:FnScope zri ["rules"] (zar zgx):=⟨rfl,rfl,rfl,zxj,rfl,by decide +kernel,by decide +kernel⟩
abbrev zhv:Stmt:=top 21
abbrev zto:List Str:=["names"]
theorem zzw:zto.Nodup:=by decide +kernel
theorem zzx:FnScope zto ["names"] (zar zhv):=⟨rfl,rfl,rfl,zzw,rfl,by decide +kernel,by decide +kernel⟩
abbrev zni:Stmt:=top 23
abbrev zaeu:List Str:=["kinds", "call_roofs", "thing"]
theorem zajz:zaeu.Nodup:=by decide +kernel
theorem zaka:FnScope zaeu ["kinds", "call_roofs", "thing"] (zar zni):=⟨rfl,rfl,rfl,zajz,rfl,by decide +kernel,by decide +kernel⟩
abbrev zgy:Stmt:=top 24
abbrev zrj:List Str:=["roofs", "fit", "kinds", "thing"]
theorem zxl:zrj.Nodup:=by decide +kernel
theorem zxm:FnScope zrj ["roofs", "fit", "kinds", "thing"] (zar zgy):=⟨rfl,rfl,rfl,zxl,rfl,by decide +kernel,by decide +kernel⟩
abbrev zkv:Stmt:=top 25
abbrev zzy:List Str:=["roofs", "call_roofs", "fit", "rule", "thing", "kinds"]
theorem zvu:zzy.Nodup:=by decide +kernel
theorem zagd:FnScope zzy ["roofs", "call_roofs", "fit", "rule", "thing"] (zar zkv):=⟨rfl,rfl,rfl,zvu,rfl,by decide +kernel,by decide +kernel⟩
abbrev zql:Stmt:=top 26
abbrev zakb:List Str:=["book", "call", "answer", "paper", "fit", "web", "places", "rules", "roofs", "call_roofs", "near"]
theorem zkh:zakb.Nodup:=by decide +kernel
theorem zanl:FnScope zakb ["book", "call", "answer", "paper"] (zar zql):=⟨rfl,rfl,rfl,zkh,rfl,by decide +kernel,by decide +kernel⟩
abbrev zhw:Stmt:=top 28
abbrev ztp:List Str:=["_law_script", "_law_many", "_law_seed", "_law_cell", "_law_found", "_law_k"]
theorem zgz:ztp.Nodup:=by decide +kernel
theorem zzz:FnScope ztp ["_law_script", "_law_many"] (zar zhw):=⟨rfl,rfl,rfl,zgz,rfl,by decide +kernel,by decide +kernel⟩
abbrev zhx:Stmt:=top 29
noncomputable abbrev ztq:List Str:=["_law_many", "_law_cell", "_law_letters", "_law_step", "_law_origin", "_law_stem", "_law_at", "_law_names_here", "_law_k", "_law_sign", "_law_own", "_law_turn"]
theorem zdh:ztq.Nodup:=by decide +kernel
theorem zaaa:FnScope ztq ["_law_many", "_law_cell"] (zar zhx):=⟨rfl,rfl,rfl,zdh,rfl,by decide +kernel,by decide +kernel⟩
abbrev zkw:Stmt:=top 30
noncomputable abbrev zaab:List Str:=["_law_cells", "_law_names_here", "_law_web_here", "_law_k", "_law_name", "_law_left", "_law_rest", "_law_elders", "_law_turn", "_law_at"]
theorem zfq:zaab.Nodup:=by decide +kernel
theorem zage:FnScope zaab ["_law_cells", "_law_names_here"] (zar zkw):=⟨rfl,rfl,rfl,zfq,rfl,by decide +kernel,by decide +kernel⟩
abbrev znj:Stmt:=top 31
abbrev zaev:List Str:=["_law_web_here", "_law_up_here", "_law_name", "_law_elders", "_law_own", "_law_elder", "_law_one"]
theorem zjv:zaev.Nodup:=by decide +kernel
theorem zakc:FnScope zaev ["_law_web_here"] (zar znj):=⟨rfl,rfl,rfl,zjv,rfl,by decide +kernel,by decide +kernel⟩
abbrev zhy:Stmt:=top 32
abbrev ztr:List Str:=["_law_arm"]
theorem zaac:ztr.Nodup:=by decide +kernel
theorem zaad:FnScope ztr ["_law_arm"] (zar zhy):=⟨rfl,rfl,rfl,zaac,rfl,by decide +kernel,by decide +kernel⟩
abbrev zji:Stmt:=top 33
noncomputable abbrev zvv:List Str:=["_law_cell", "_law_names_here", "_law_places", "_law_call_here", "_law_rest", "_law_many", "_law_place", "_law_at", "_law_by", "_law_more"]
theorem zet:zvv.Nodup:=by decide +kernel
theorem zacn:FnScope zvv ["_law_cell", "_law_names_here", "_law_places"] (zar zji):=⟨rfl,rfl,rfl,zet,rfl,by decide +kernel,by decide +kernel⟩
abbrev zhz:Stmt:=top 34
noncomputable abbrev zts:List Str:=["_law_cells", "_law_names_here", "_law_up_here", "_law_call_here", "_law_titles", "_law_rules_here", "_law_k", "_law_title", "_law_rest", "_law_kinds", "_law_arm", "_law_pool"]
theorem zeg:zts.Nodup:=by decide +kernel
theorem zaae:FnScope zts ["_law_cells", "_law_names_here", "_law_up_here", "_law_call_here", "_law_titles"] (zar zhz):=⟨rfl,rfl,rfl,zeg,rfl,by decide +kernel,by decide +kernel⟩
abbrev znk:Stmt:=top 35
abbrev zaew:List Str:=["_law_up_here", "_law_arm", "_law_kind"]
theorem zakd:zaew.Nodup:=by decide +kernel
theorem zake:FnScope zaew ["_law_up_here", "_law_arm", "_law_kind"] (zar znk):=⟨rfl,rfl,rfl,zakd,rfl,by decide +kernel,by decide +kernel⟩
abbrev zjj:Stmt:=top 36
abbrev zvw:List Str:=["_law_up_here", "_law_kinds", "_law_call_here", "_law_k", "_law_kind"]
theorem zoi:zvw.Nodup:=by decide +kernel
theorem zaco:FnScope zvw ["_law_up_here", "_law_kinds", "_law_call_here"] (zar zjj):=⟨rfl,rfl,rfl,zoi,rfl,by decide +kernel,by decide +kernel⟩
abbrev zjk:Stmt:=top 37
noncomputable abbrev zvx:List Str:=["_law_up_here", "_law_rules_here", "_law_call_here", "_law_cell", "_law_paper_here", "_law_rest", "_law_fit", "_law_name", "_law_kinds", "_law_outs", "_law_by"]
theorem zfm:zvx.Nodup:=by decide +kernel
theorem zacp:FnScope zvx ["_law_up_here", "_law_rules_here", "_law_call_here", "_law_cell"] (zar zjk):=⟨rfl,rfl,rfl,zfm,rfl,by decide +kernel,by decide +kernel⟩
abbrev zfr:Stmt:=top 38
noncomputable abbrev znu:List Str:=["_law_paper_here", "_law_item_here", "_law_rules_here", "_law_place", "_law_choice", "_law_cell", "_law_name", "_law_some"]
theorem zfh:znu.Nodup:=by decide +kernel
theorem ztt:FnScope znu ["_law_paper_here", "_law_item_here", "_law_rules_here", "_law_place", "_law_choice", "_law_cell"] (zar zfr):=⟨rfl,rfl,rfl,zfh,rfl,by decide +kernel,by decide +kernel⟩
abbrev zia:Stmt:=top 39
abbrev ztu:List Str:=["_law_good_here", "_law_rules_here", "_law_cells", "_law_paper_here", "_law_place", "_law_at"]
theorem zin:ztu.Nodup:=by decide +kernel
theorem zaaf:FnScope ztu ["_law_good_here", "_law_rules_here", "_law_cells"] (zar zia):=⟨rfl,rfl,rfl,zin,rfl,by decide +kernel,by decide +kernel⟩
abbrev zjl:Stmt:=top 40
abbrev zvy:List Str:=["_law_up_here", "_law_rules_here", "_law_kinds", "_law_call_here", "_law_item_here", "_law_others"]
theorem ztv:zvy.Nodup:=by decide +kernel
theorem zacq:FnScope zvy ["_law_up_here", "_law_rules_here", "_law_kinds", "_law_call_here", "_law_item_here"] (zar zjl):=⟨rfl,rfl,rfl,ztv,rfl,by decide +kernel,by decide +kernel⟩
abbrev zgi:Stmt:=top 41
abbrev zpk:List Str:=["_law_names_here"]
theorem zur:zpk.Nodup:=by decide +kernel
theorem zus:FnScope zpk ["_law_names_here"] (zar zgi):=⟨rfl,rfl,rfl,zur,rfl,by decide +kernel,by decide +kernel⟩
abbrev zkx:Stmt:=top 42
noncomputable abbrev zaag:List Str:=["_law_up_here", "_law_rules_here", "_law_call_here", "_law_reply_here", "_law_paper_here", "_law_near", "_law_k", "_law_rule", "_law_name", "_law_kinds"]
theorem zjm:zaag.Nodup:=by decide +kernel
theorem zagf:FnScope zaag ["_law_up_here", "_law_rules_here", "_law_call_here", "_law_reply_here", "_law_paper_here"] (zar zkx):=⟨rfl,rfl,rfl,zjm,rfl,by decide +kernel,by decide +kernel⟩
abbrev zib:Stmt:=top 43
abbrev ztw:List Str:=["_law_rules_here", "_law_paper_here", "_law_cell", "_law_near", "_law_titles", "_law_one", "_law_some"]
theorem zgd:ztw.Nodup:=by decide +kernel
theorem zaah:FnScope ztw ["_law_rules_here", "_law_paper_here", "_law_cell"] (zar zib):=⟨rfl,rfl,rfl,zgd,rfl,by decide +kernel,by decide +kernel⟩
abbrev zxn:Stmt:=top 44
noncomputable abbrev zaub:List Str:=["_law_script", "_law_cells", "_law_places", "_law_names_here", "_law_web_here", "_law_up_here", "_law_call_here", "_law_rules_here", "_law_good_here", "_law_paper_here", "_law_reply_here", "_law_due_here", "_law_near", "_law_handed", "_law_turn", "_law_found"]
theorem zis:zaub.Nodup:=by decide +kernel
theorem zauc:FnScope zaub ["_law_script"] (zar zxn):=⟨rfl,rfl,rfl,zis,rfl,by decide +kernel,by decide +kernel⟩
theorem znv:(["name", "elders"]:List Str).Nodup:=by decide +kernel
theorem zjw:(["arm", "name"]:List Str).Nodup:=by decide +kernel
theorem zoj:(["arm", "roofs"]:List Str).Nodup:=by decide +kernel
theorem zlr:(["kind", "roof"]:List Str).Nodup:=by decide +kernel
theorem zmr:(["low", "high", "roofs"]:List Str).Nodup:=by decide +kernel
theorem zno:(["rule", "call_roofs"]:List Str).Nodup:=by decide +kernel
theorem zrx:(["rule", "roofs", "rules"]:List Str).Nodup:=by decide +kernel
theorem zls:(["name", "kinds", "rule", "roofs"]:List Str).Nodup:=by decide +kernel
theorem zlt:(["name", "kinds"]:List Str).Nodup:=by decide +kernel
theorem zlu:(["name", "others", "roofs", "kinds", "thing"]:List Str).Nodup:=by decide +kernel
theorem ztx:(["rule", "line", "fit", "roofs", "call_roofs"]:List Str).Nodup:=by decide +kernel
theorem zty:(["rule", "line"]:List Str).Nodup:=by decide +kernel
theorem zut:(["_law_name", "_law_names_here", "_law_at", "_law_by"]:List Str).Nodup:=by decide +kernel
theorem ztz:(["_law_name", "_law_up_here", "_law_arm"]:List Str).Nodup:=by decide +kernel
theorem zua:(["_law_one", "_law_name", "_law_up_here"]:List Str).Nodup:=by decide +kernel
theorem zms:(["_law_one", "_law_row"]:List Str).Nodup:=by decide +kernel
theorem zaai:(["_law_name", "_law_up_here", "_law_kind"]:List Str).Nodup:=by decide +kernel
theorem zuu:(["_law_rule", "_law_up_here", "_law_call_here"]:List Str).Nodup:=by decide +kernel
theorem zuv:(["_law_k", "_law_up_here", "_law_call_here", "_law_kinds"]:List Str).Nodup:=by decide +kernel
theorem znw:(["_law_one", "_law_other", "_law_up_here", "_law_kinds"]:List Str).Nodup:=by decide +kernel
theorem znx:(["_law_name", "_law_other", "_law_item_here"]:List Str).Nodup:=by decide +kernel
theorem zpl:(["_law_one", "_law_other", "_law_up_here", "_law_kinds"]:List Str).Nodup:=by decide +kernel
theorem zpm:(["_law_name", "_law_kinds"]:List Str).Nodup:=by decide +kernel
theorem zmt:(["_law_rule", "_law_item_here"]:List Str).Nodup:=by decide +kernel
theorem zmu:(["_law_name", "_law_kinds"]:List Str).Nodup:=by decide +kernel
theorem zaaj:(["_law_rule", "_law_item_here"]:List Str).Nodup:=by decide +kernel
theorem zaak:(["_law_name", "_law_elders"]:List Str).Nodup:=by decide +kernel
abbrev zvz (P:Program) (w:World) (K:qB) (mg:Str→Option Value) (base:Heap):Prop:=Dn P w K mg base "is_whole" ["thing"] 1 (spD 1 zhr)
abbrev zwa (P:Program) (w:World) (K:qB) (mg:Str→Option Value) (base:Heap):Prop:=Dn P w K mg base "names_of" ["web"] 1 (spD 1 znf)
abbrev zqm (P:Program) (w:World) (K:qB) (mg:Str→Option Value) (base:Heap):Prop:=Dn P w K mg base "names_in" ["arm"] 1 (spD 1 zcz)
abbrev zpn (P:Program) (w:World) (K:qB) (mg:Str→Option Value) (base:Heap):Prop:=Dn P w K mg base "check_kinds" ["web", "names"] 2 (spD 2 zhf)
abbrev zqn (P:Program) (w:World) (K:qB) (mg:Str→Option Value) (base:Heap):Prop:=Dn P w K mg base "roofs_of" ["web"] 1 (spD 1 zhp)
abbrev zaal (P:Program) (w:World) (K:qB) (mg:Str→Option Value) (base:Heap):Prop:=Dn P w K mg base "roof_of" ["roofs", "arm"] 2 (spD 2 zmj)
abbrev zmv (P:Program) (w:World) (K:qB) (mg:Str→Option Value) (base:Heap):Prop:=Dn P w K mg base "names_in_call" ["call"] 2 (spD 1 zhi)
noncomputable abbrev zrk (P:Program) (w:World) (K:qB) (mg:Str→Option Value) (base:Heap):Prop:=Dn P w K mg base "check_call" ["web", "places", "call"] 3 (spD 3 zkf)
noncomputable abbrev zjx (P:Program) (w:World) (K:qB) (mg:Str→Option Value) (base:Heap):Prop:=Dn P w K mg base "roofs_in_call" ["roofs", "call"] 3 (spD 2 zek)
noncomputable abbrev zrl (P:Program) (w:World) (K:qB) (mg:Str→Option Value) (base:Heap):Prop:=Dn P w K mg base "fits_under" ["kinds", "call_roofs"] 1 (spD 2 zik)
noncomputable abbrev zok (P:Program) (w:World) (K:qB) (mg:Str→Option Value) (base:Heap):Prop:=Dn P w K mg base "is_nearer" ["roofs", "one", "other"] 1 (spD 3 zgc)
noncomputable abbrev zlv (P:Program) (w:World) (K:qB) (mg:Str→Option Value) (base:Heap):Prop:=Dn P w K mg base "rules_that_fit" ["book", "call"] 4 (spD 2 zfo)
noncomputable abbrev zrm (P:Program) (w:World) (K:qB) (mg:Str→Option Value) (base:Heap):Prop:=Dn P w K mg base "nearest_of" ["roofs", "rules"] 2 (spD 2 zil)
abbrev zrn (P:Program) (w:World) (K:qB) (mg:Str→Option Value) (base:Heap):Prop:=Dn P w K mg base "rule_names" ["rules"] 1 (spD 1 zim)
abbrev zub (P:Program) (w:World) (K:qB) (mg:Str→Option Value) (base:Heap):Prop:=Dn P w K mg base "answer_by" ["names"] 1 (spD 1 zjr)
noncomputable abbrev zaex (P:Program) (w:World) (K:qB) (mg:Str→Option Value) (base:Heap):Prop:=Dn P w K mg base "is_out" ["kinds", "call_roofs", "thing"] 2 (spD 3 zsd)
noncomputable abbrev zro (P:Program) (w:World) (K:qB) (mg:Str→Option Value) (base:Heap):Prop:=Dn P w K mg base "is_farther" ["roofs", "fit", "kinds", "thing"] 2 (spD 4 zkg)
noncomputable abbrev zaam (P:Program) (w:World) (K:qB) (mg:Str→Option Value) (base:Heap):Prop:=Dn P w K mg base "is_line" ["roofs", "call_roofs", "fit", "rule", "thing"] 3 (spD 5 zmn)
noncomputable abbrev zakf (P:Program) (w:World) (K:qB) (mg:Str→Option Value) (base:Heap):Prop:=Dn P w K mg base "shows" ["book", "call", "answer", "paper"] 5 (spD 4 zlk)
noncomputable abbrev zuc (P:Program) (w:World) (K:qB) (mg:Str→Option Value) (base:Heap):Prop:=Dn P w K mg base "_law_names" ["_law_many", "_law_cell"] 1 (spD 2 zdv)
noncomputable abbrev zaan (P:Program) (w:World) (K:qB) (mg:Str→Option Value) (base:Heap):Prop:=Dn P w K mg base "_law_web" ["_law_cells", "_law_names_here"] 1 (spD 2 zmg)
abbrev zaey (P:Program) (w:World) (K:qB) (mg:Str→Option Value) (base:Heap):Prop:=Dn P w K mg base "_law_up" ["_law_web_here"] 1 (spD 1 zoz)
abbrev zol (P:Program) (w:World) (K:qB) (mg:Str→Option Value) (base:Heap):Prop:=Dn P w K mg base "_law_parts" ["_law_arm"] 1 (spD 1 zcz)
noncomputable abbrev zwb (P:Program) (w:World) (K:qB) (mg:Str→Option Value) (base:Heap):Prop:=Dn P w K mg base "_law_call" ["_law_cell", "_law_names_here", "_law_places"] 1 (spD 3 zks)
noncomputable abbrev zud (P:Program) (w:World) (K:qB) (mg:Str→Option Value) (base:Heap):Prop:=Dn P w K mg base "_law_rules" ["_law_cells", "_law_names_here", "_law_up_here", "_law_call_here", "_law_titles"] 2 (spD 5 zjt)
noncomputable abbrev zse (P:Program) (w:World) (K:qB) (mg:Str→Option Value) (base:Heap):Prop:=Dn P w K mg base "_law_on" ["_law_up_here", "_law_arm", "_law_kind"] 2 (spD 3 zgq)
noncomputable abbrev znl (P:Program) (w:World) (K:qB) (mg:Str→Option Value) (base:Heap):Prop:=Dn P w K mg base "_law_fits" ["_law_up_here", "_law_kinds", "_law_call_here"] 3 (spD 3 zbl)
noncomputable abbrev zwc (P:Program) (w:World) (K:qB) (mg:Str→Option Value) (base:Heap):Prop:=Dn P w K mg base "_law_good" ["_law_up_here", "_law_rules_here", "_law_call_here", "_law_cell"] 4 (spD 4 zkt)
noncomputable abbrev zny (P:Program) (w:World) (K:qB) (mg:Str→Option Value) (base:Heap):Prop:=Dn P w K mg base "_law_item_put" ["_law_paper_here", "_law_item_here", "_law_rules_here", "_law_place", "_law_choice", "_law_cell"] 1 (spM 6 zfp)
noncomputable abbrev zue (P:Program) (w:World) (K:qB) (mg:Str→Option Value) (base:Heap):Prop:=Dn P w K mg base "_law_paper" ["_law_good_here", "_law_rules_here", "_law_cells"] 2 (spD 3 zhs)
noncomputable abbrev zwd (P:Program) (w:World) (K:qB) (mg:Str→Option Value) (base:Heap):Prop:=Dn P w K mg base "_law_item" ["_law_up_here", "_law_rules_here", "_law_kinds", "_law_call_here", "_law_item_here"] 4 (spD 5 zjd)
noncomputable abbrev ziy (P:Program) (w:World) (K:qB) (mg:Str→Option Value) (base:Heap):Prop:=Dn P w K mg base "_law_told_of" ["_law_names_here"] 1 (spD 1 zdd)
noncomputable abbrev zaao (P:Program) (w:World) (K:qB) (mg:Str→Option Value) (base:Heap):Prop:=Dn P w K mg base "_law_due" ["_law_up_here", "_law_rules_here", "_law_call_here", "_law_reply_here", "_law_paper_here"] 5 (spD 5 zmo)
noncomputable abbrev zuf (P:Program) (w:World) (K:qB) (mg:Str→Option Value) (base:Heap):Prop:=Dn P w K mg base "_law_reply" ["_law_rules_here", "_law_paper_here", "_law_cell"] 2 (spD 3 zju)
section
variable {P:Program} {w:World} {K:qB} {mg:Str→Option Value} {base:Heap}
theorem zacr {f:Addr} {fd:qAB} (F:Fun K "is_whole" "is_whole" zje f fd) (T:Txt mg)  : FnOk P w K mg base CX0 1 f fd ["thing"] (spD 1 zhr):=by
 refine F.ok zach (fun vs H Q E h=>zcw h) (fun cdv A outer s H vs Q E hr h=>?_)
 have hu:=zfy hr
 apply Exists.intro
 apply And.intro
 ·refine' Bx.out (zan (zbi (zqh (zaw (zfn (K:=K) rfl) (by rfl) T.isinstance zcl (zaa (bv 0) (zaa (zgp (v:=.ty "int") (by rfl) T.int zaet rfl (by decide) (by decide)) zag (by rfl)) (by rfl)) (by decide) (by decide) (zai (by rfl)) (by rfl)) (zqg (zaju (zaw (zfn (K:=K) rfl) (by rfl) T.isinstance zcl (zaa (bv 0) (zaa (zgp (v:=.ty "bool") (by rfl) T.bool ztm rfl (by decide) (by decide)) zag (by rfl)) (by rfl)) (by decide) (by decide) (zai (by rfl)) (by rfl)))))))
 exact fn_d (f:=zvn) ((zce (zvh (zln (zad 0) zaii) (zaor (zln (zad 0) zws))))) h
theorem zacs {f:Addr} {fd:qAB} (F:Fun K "names_of" "names_of" zjf f fd) (T:Txt mg)  : FnOk P w K mg base CX0 1 f fd ["web"] (spD 1 znf):=by
 refine F.ok zacj (fun vs H Q E h=>zcw h) (fun cdv A outer s H vs Q E hr h=>?_)
 have hu:=zfy hr
 apply Exists.intro
 apply And.intro
 ·refine' Bx.out (zan (zbi (zdu (zcc (N':=["name", "elders"]) (own:=["name", "elders"]) (fr:=[]) (by kernel_rfl)) rfl (zcj (K:=K) rfl (bv 0)) ?hb1 (by intro _;rfl))))
  case hb1=>(intro cl C s H fp;refine' ⟨Bx.out (zct (K:=K) (n:=2) rfl rfl (zax (zas (i:=0) znv rfl (Or.inl rfl) (by first|exact .inl rfl|exact .inr rfl|assumption)) (zax (zas (i:=1) znv rfl (Or.inl rfl) (by first|exact .inl rfl|exact .inr rfl|assumption)) zcs (by rfl)) (by rfl)) (by rfl) (by rfl)),Bx.out zgb,Bx.out (bv 0)⟩)
 exact fn_d (f:=zkq) ((zce (zds (zei (zad 0)) (zfc (zbb (zbb zdn))) (zih (zby (by decide) (zby (by decide) zga))) zii (zad 0)))) h
theorem zact {f:Addr} {fd:qAB} (F:Fun K "names_in" "names_in" zjg f fd) (T:Txt mg)  : FnOk P w K mg base CX0 1 f fd ["arm"] (spD 1 zcz):=by
 refine F.ok zacl (fun vs H Q E h=>zcw h) (fun cdv A outer s H vs Q E hr h=>?_)
 have hu:=zfy hr
 apply Exists.intro
 apply And.intro
 ·refine' Bx.out (zaj (zcq (zbz (K:=K) rfl (zaw (zfn (K:=K) rfl) (by rfl) T.isinstance zcl (zaa (bv 0) (zaa (zgp (v:=.ty "tuple") (by rfl) T.tuple zdx rfl (by decide) (by decide)) zag (by rfl)) (by rfl)) (by decide) (by decide) (zai (by rfl)) (by rfl)) (fun _=>rfl)) (zan (zbi (zdf (zjb (K:=K) rfl) (by rfl) T.list zhj (zaa (bv 0) zag (by rfl)) (by decide) (by decide) (zai (by rfl)) (by rfl)))) zbt)
 (zan (zbi (zdo (zaa (bv 0) zag (by rfl))))))
 exact fn_d (f:=zqf) ((zat (zem (zfw (zln (zad 0) zow)) (zce (zdb zqb (zac (zad 0) zal))) zda) (zce (zfb (zac (zad 0) zal))))) h
theorem zuw {f:Addr} {fd:qAB} (F:Fun K "check_kinds" "check_kinds" zgh f fd) (T:Txt mg) (D_names_of:zwa P w K mg base):FnOk P w K mg base CX0 2 f fd ["web", "names"] (spD 2 zhf):=by
 refine F.ok zuq (fun vs H Q E h=>zcw h) (fun cdv A outer s H vs Q E hr h=>?_)
 have hu:=zfy hr
 apply Exists.intro
 apply And.intro
 ·refine' Bx.out (zaj (zbc (i:=2) zkn rfl (Or.inl rfl) (zch D_names_of (hr.mono (by decide)) (by rfl) (zaa (bv 0) zag (by rfl)) (by decide) (zai (by rfl)) (by rfl)) (by rfl) (.inl rfl))
 (zan (zft qz rfl (zcj (K:=K) rfl (bv 1)) (zas (i:=3) zkn rfl (Or.inl rfl) (.inl rfl))
  (zan (zcq (zbj (zsm (K:=K) rfl) (bv 3) (bv 2) (by rfl)) (zan zzq) zbt)) (by intro _;rfl))))
 exact fn_d (f:=zhe) ((zat (zbp (zbu (zac (zad 0) zal))) (zhn (zei (zad 1)) zeq (zem (st_t (zav zaid (zad 3) (zad 2))) zadx zda)))) h
theorem zacu {f:Addr} {fd:qAB} (F:Fun K "roofs_of" "roofs_of" zjh f fd) (T:Txt mg)  : FnOk P w K mg base CX0 1 f fd ["web"] (spD 1 zhp):=by
 refine F.ok zacm (fun vs H Q E h=>zcw h) (fun cdv A outer s H vs Q E hr h=>?_)
 have hu:=zfy hr
 apply Exists.intro
 apply And.intro
 ·refine' Bx.out (zaj (zbc (i:=1) zht rfl (Or.inl rfl) zpf (by rfl) (.inl rfl))
 (zaj (zft qz rfl (zcj (K:=K) rfl (bv 0)) (zct (K:=K) (n:=2) rfl rfl (zax (zas (i:=2) zht rfl (Or.inl rfl) (.inl rfl)) (zax (zas (i:=3) zht rfl (Or.inl rfl) (.inl rfl)) zcs (by rfl)) (by rfl)) (by rfl) (by rfl))
  (zaj (zbc (i:=4) zht rfl (Or.inl rfl) (zaeo (zzo (bv 2) zhg zaen) rfl rfl (by simp) (by decide)) (by rfl) (.inl rfl))
 (zaj (zft qz rfl (zcj (K:=K) rfl (bv 3)) (zas (i:=5) zht rfl (Or.inl rfl) (.inl rfl))
  (zan (zdq (zfu (K:=K) rfl qCT qCL qCK zys (bv 4) (zaa (znh hu (bv 1) (bv 5) (fun _ _=>rfl)) zag (by rfl)) (by rfl) (by rfl) (by rfl) (zai (by rfl)) (by rfl)) (by rfl))) (by intro _;rfl))
 (zan (zaep hu (bv 1) (bv 2) (bv 4) rfl)))) (by intro _;rfl))
 (zan (zbi (bv 1)))))
 exact fn_d (f:=zvi) ((zat (zbp zwq) (zat (zhn (zei (zad 0)) (zfc (zbb (zbb zdn))) (zat (zbp (zatn (zad 2) (se_c fun _=>zbf))) (zat (zhn (zei (zad 3)) zeq (zaou (zne (zad 5)))) (zaot (zad 2) (zad 4))))) zmd))) h
theorem zagg {f:Addr} {fd:qAB} (F:Fun K "roof_of" "roof_of" zku f fd) (T:Txt mg) (D_names_in:zqm P w K mg base):FnOk P w K mg base CX0 2 f fd ["roofs", "arm"] (spD 2 zmj):=by
 refine F.ok zagc (fun vs H Q E h=>zcw h) (fun cdv A outer s H vs Q E hr h=>?_)
 have hu:=zfy hr
 apply Exists.intro
 apply And.intro
 ·refine' Bx.out (zaj (zbc (i:=2) zqj rfl (Or.inl rfl) zpf (by rfl) (.inl rfl))
 (zaj (zft qz rfl (zcj (K:=K) rfl (zch D_names_in (hr.mono (by decide)) (by rfl) (zaa (bv 1) zag (by rfl)) (by decide) (zai (by rfl)) (by rfl))) (zas (i:=3) zqj rfl (Or.inl rfl) (.inl rfl))
  (zan (zdq (zfu (K:=K) rfl qCT qCL qCK zys (bv 2) (zaa (znh hu (bv 0) (bv 3) (fun _ _=>rfl)) zag (by rfl)) (by rfl) (by rfl) (by rfl) (zai (by rfl)) (by rfl)) (by rfl))) (by intro _;rfl))
 (zan (zbi (bv 2)))))
 exact fn_d (f:=zzj) ((zat (zbp zwq) (zat (zhn (zei (zbu (zac (zad 1) zal))) zeq (zaou (zne (zad 3)))) zmd))) h
theorem zry {f:Addr} {fd:qAB} (F:Fun K "names_in_call" "names_in_call" zfe f fd) (T:Txt mg) (D_names_in:zqm P w K mg base):FnOk P w K mg base CX0 2 f fd ["call"] (spD 1 zhi):=by
 refine F.ok zru (fun vs H Q E h=>zcw h) (fun cdv A outer s H vs Q E hr h=>?_)
 have hu:=zfy hr
 apply Exists.intro
 apply And.intro
 ·refine' Bx.out (zan (zbi (zajw (zcc (N':=["arm", "name"]) (own:=["arm", "name"]) (fr:=[]) (by kernel_rfl)) rfl (zcj (K:=K) rfl (bv 0)) ?hb1 (by intro _;rfl) (by intro _ _;rfl))))
  case hb1=>(intro cl C s H fp;refine' ⟨Bx.out (zas (i:=0) zjw rfl (Or.inl rfl) (by first|exact .inl rfl|exact .inr rfl|assumption)),Bx.out zgb,Bx.out (zcj (K:=K) rfl (zch D_names_in (hr.mono (by decide)) (by rfl) (zaa (bv 0) zag (by rfl)) (by decide) (zai (by rfl)) (by rfl))),Bx.out (zas (i:=1) zjw rfl (Or.inl rfl) (by first|exact .inl rfl|exact .inr rfl|assumption)),Bx.out zgb,Bx.out (bv 1)⟩)
 exact fn_d (f:=zml) ((zce (zamx (k:=1) (zei (zad 0)) zeq (zajk (by decide) (by decide)) (by decide) zii (zei (zbu (zac (zad 0) zal))) zeq (zajk (by decide) (by decide)) zii (zad 1)))) h
theorem zxo {f:Addr} {fd:qAB} (F:Fun K "check_call" "check_call" zgu f fd) (T:Txt mg) (D_check_kinds:zpn P w K mg base) (D_names_in_call:zmv P w K mg base):FnOk P w K mg base CX0 3 f fd ["web", "places", "call"] (spD 3 zkf):=by
 refine F.ok zxe (fun vs H Q E h=>zcw h) (fun cdv A outer s H vs Q E hr h=>?_)
 have hu:=zfy hr
 apply Exists.intro
 apply And.intro
 ·refine' Bx.out (zaj (zcq (zbj (zqy (K:=K) rfl hr.units) (zaw (zbo (K:=K) rfl) (by rfl) T.len zbw (zaa (bv 2) zag (by rfl)) (by decide) (by decide) (zai (by rfl)) (by rfl)) (bv 1) (zcd _)) (zan zzq) zbt)
 (zan (zdq (zch D_check_kinds (hr.mono (by decide)) (by rfl) (zaa (bv 0) (zaa (zch D_names_in_call (hr.mono (by decide)) (by rfl) (zaa (bv 2) zag (by rfl)) (by decide) (zai (by rfl)) (by rfl)) zag (by rfl)) (by rfl)) (by decide) (zai (by rfl)) (by rfl)) (by rfl))))
 exact fn_d (f:=zra) ((zat (zem (st_t (zav zyv (zdb zdr (zac (zad 2) zal)) (zad 1))) zadx zda) (zaik (zbu (zac (zad 0) (zac (zbu (zac (zad 2) zal)) zal)))))) h
theorem zrz {f:Addr} {fd:qAB} (F:Fun K "roofs_in_call" "roofs_in_call" zff f fd) (T:Txt mg) (D_roof_of:zaal P w K mg base):FnOk P w K mg base CX0 3 f fd ["roofs", "call"] (spD 2 zek):=by
 refine F.ok zrw (fun vs H Q E h=>zcw h) (fun cdv A outer s H vs Q E hr h=>?_)
 have hu:=zfy hr
 apply Exists.intro
 apply And.intro
 ·refine' Bx.out (zan (zbi (zdu (zcc (N':=["arm", "roofs"]) (own:=["arm"]) (fr:=[0]) (by kernel_rfl)) rfl (zcj (K:=K) rfl (bv 1)) ?hb1 (by intro _;rfl))))
  case hb1=>(intro cl C s H fp;refine' ⟨Bx.out (zas (i:=0) zoj rfl (Or.inl rfl) (by first|exact .inl rfl|exact .inr rfl|assumption)),Bx.out zgb,Bx.out (zch D_roof_of (hr.mono (by decide)) (by rfl) (zaa (bv 1) (zaa (bv 0) zag (by rfl)) (by rfl)) (by decide) (zai (by rfl)) (by rfl))⟩)
 exact fn_d (f:=zmm) ((zce (zds (zei (zad 1)) zeq (zlf (by decide)) zii (zbu (zac (zad 1) (zac (zad 0) zal)))))) h
theorem zxp {f:Addr} {fd:qAB} (F:Fun K "fits_under" "fits_under" zgv f fd) (T:Txt mg)  : FnOk P w K mg base CX0 1 f fd ["kinds", "call_roofs"] (spD 2 zik):=by
 refine F.ok zxg (fun vs H Q E h=>zcw h) (fun cdv A outer s H vs Q E hr h=>?_)
 have hu:=zfy hr
 apply Exists.intro
 apply And.intro
 ·refine' Bx.out (zan (zbi (zaw (zsn (K:=K) rfl rfl) (by rfl) T.all zxc (zaa (zdu (zcc (N':=["kind", "roof"]) (own:=["kind", "roof"]) (fr:=[]) (by kernel_rfl)) rfl (zqi (K:=K) rfl rfl T.zip (zaa (bv 0) (zaa (bv 1) zag (by rfl)) (by rfl)) (by rfl) (by rfl)) ?hb1 (by intro _;rfl)) zag (by rfl)) (by decide) (by decide) (zai (by rfl)) (by rfl))))
  case hb1=>(intro cl C s H fp;refine' ⟨Bx.out (zct (K:=K) (n:=2) rfl rfl (zax (zas (i:=0) zlr rfl (Or.inl rfl) (by first|exact .inl rfl|exact .inr rfl|assumption)) (zax (zas (i:=1) zlr rfl (Or.inl rfl) (by first|exact .inl rfl|exact .inr rfl|assumption)) zcs (by rfl)) (by rfl)) (by rfl) (by rfl)),Bx.out zgb,Bx.out (zacf (zajx hu (bv 0) (bv 1)) (by rfl))⟩)
 exact fn_d (f:=zrb) ((zce (zdb zqu (zac (zds (zvl (zac (zad 0) (zac (zad 1) zal))) (zfc (zbb (zbb zdn))) (zih (zby (by decide) (zby (by decide) zga))) zii (zaoq (zad 0) (zad 1))) zal)))) h
theorem zaap {f:Addr} {fd:qAB} (F:Fun K "is_nearer" "is_nearer" zhu f fd) (T:Txt mg)  : FnOk P w K mg base CX0 1 f fd ["roofs", "one", "other"] (spD 3 zgc):=by
 refine F.ok zzv (fun vs H Q E h=>zcw h) (fun cdv A outer s H vs Q E hr h=>?_)
 have hu:=zfy hr
 apply Exists.intro
 apply And.intro
 ·refine' Bx.out (zan (zbi (zqh (zgo (zqy (K:=K) rfl hr.units) (bv 1) (bv 2) (zcd _)) (zqg (zaw (zsn (K:=K) rfl rfl) (by rfl) T.all zxc (zaa (zdu (zcc (N':=["low", "high", "roofs"]) (own:=["low", "high"]) (fr:=[0]) (by kernel_rfl)) rfl (zqi (K:=K) rfl rfl T.zip (zaa (bv 1) (zaa (bv 2) zag (by rfl)) (by rfl)) (by rfl) (by rfl)) ?hb1 (by intro _;rfl)) zag (by rfl)) (by decide) (by decide) (zai (by rfl)) (by rfl))))))
  case hb1=>(intro cl C s H fp;refine' ⟨Bx.out (zct (K:=K) (n:=2) rfl rfl (zax (zas (i:=0) zmr rfl (Or.inl rfl) (by first|exact .inl rfl|exact .inr rfl|assumption)) (zax (zas (i:=1) zmr rfl (Or.inl rfl) (by first|exact .inl rfl|exact .inr rfl|assumption)) zcs (by rfl)) (by rfl)) (by rfl) (by rfl)),Bx.out zgb,Bx.out (zacf (zajx hu (bv 1) (znh hu (bv 2) (bv 0) (fun _ _=>rfl))) (by rfl))⟩)
 exact fn_d (f:=zth) ((zce (zvh (zav zyv (zad 1) (zad 2)) (zdb zqu (zac (zds (zvl (zac (zad 1) (zac (zad 2) zal))) (zfc (zbb (zbb zdn))) (zih (zby (by decide) (zby (by decide) zga))) zii (zaoq (zad 1) (zne (zad 0)))) zal))))) h
theorem zqo {f:Addr} {fd:qAB} (F:Fun K "rules_that_fit" "rules_that_fit" zeo f fd) (T:Txt mg) (D_check_call:zrk P w K mg base) (D_fits_under:zrl P w K mg base) (D_roofs_in_call:zjx P w K mg base) (D_roofs_of:zqn P w K mg base):FnOk P w K mg base CX0 4 f fd ["book", "call"] (spD 2 zfo):=by
 refine F.ok zqk (fun vs H Q E h=>zcw h) (fun cdv A outer s H vs Q E hr h=>?_)
 have hu:=zfy hr
 apply Exists.intro
 apply And.intro
 ·refine' Bx.out (zaj (zajv (bv 0) (zct (K:=K) (n:=3) rfl rfl (zax (zas (i:=2) zfg rfl (Or.inl rfl) (.inl rfl)) (zax (zas (i:=3) zfg rfl (Or.inl rfl) (.inl rfl)) (zax (zas (i:=4) zfg rfl (Or.inl rfl) (.inl rfl)) zcs (by rfl)) (by rfl)) (by rfl)) (by rfl) (by rfl)) (by rfl) (by rfl) (by rfl))
 (zaj (zdq (zch D_check_call (hr.mono (by decide)) (by rfl) (zaa (bv 2) (zaa (bv 3) (zaa (bv 1) zag (by rfl)) (by rfl)) (by rfl)) (by decide) (zai (by rfl)) (by rfl)) (by rfl))
 (zaj (zbc (i:=5) zfg rfl (Or.inr rfl) (zch D_roofs_in_call (hr.mono (by decide)) (by rfl) (zaa (zch D_roofs_of (hr.mono (by decide)) (by rfl) (zaa (bv 2) zag (by rfl)) (by decide) (zai (by rfl)) (by rfl)) (zaa (bv 1) zag (by rfl)) (by rfl)) (by decide) (zai (by rfl)) (by rfl)) (by rfl) (.inl rfl))
 (zan (zbi (zdu (zcc (N':=["rule", "call_roofs"]) (own:=["rule"]) (fr:=[5]) (by kernel_rfl)) rfl (zcj (K:=K) rfl (bv 4)) ?hb1 (by intro _;rfl)))))))
  case hb1=>(intro cl C s H fp;refine' ⟨Bx.out (zas (i:=0) zno rfl (Or.inl rfl) (by first|exact .inl rfl|exact .inr rfl|assumption)),Bx.out (zjq (zbz (K:=K) rfl (zch D_fits_under (hr.mono (by decide)) (by rfl) (zaa (zbk (zcf (K:=K) rfl) (bv 0) zak (fun _ _=>rfl)) (zaa (bv 1) zag (by rfl)) (by rfl)) (by decide) (zai (by rfl)) (by rfl)) (fun _=>rfl))),Bx.out (bv 0)⟩)
 exact fn_d (f:=zlp) ((zat (zaos (zad 0) (zfc (zbb (zbb (zbb zdn))))) (zat (zaik (zbu (zac (zad 2) (zac (zad 3) (zac (zad 1) zal))))) (zat (zbp (zbu (zac (zbu (zac (zad 2) zal)) (zac (zad 1) zal)))) (zce (zds (zei (zad 4)) zeq (zlf (by decide)) (zfw (zbu (zac (zbn (se_c fun _=>zaf)) (zac (zad 1) zal)))) (zad 0))))))) h
theorem zxq {f:Addr} {fd:qAB} (F:Fun K "nearest_of" "nearest_of" zgw f fd) (T:Txt mg) (D_is_nearer:zok P w K mg base):FnOk P w K mg base CX0 2 f fd ["roofs", "rules"] (spD 2 zil):=by
 refine F.ok zxi (fun vs H Q E h=>zcw h) (fun cdv A outer s H vs Q E hr h=>?_)
 have hu:=zfy hr
 apply Exists.intro
 apply And.intro
 ·refine' Bx.out (zan (zbi (zdu (zcc (N':=["rule", "roofs", "rules"]) (own:=["rule"]) (fr:=[0,1]) (by kernel_rfl)) rfl (zcj (K:=K) rfl (bv 1)) ?hb1 (by intro _;rfl))))
  case hb1=>(intro cl C s H fp;refine' ⟨Bx.out (zas (i:=0) zrx rfl (Or.inr rfl) (by first|exact .inl rfl|exact .inr rfl|assumption)),Bx.out (zjq (zgl (zbz (K:=K) rfl (zaw (zmb (K:=K) rfl rfl) (by rfl) T.any zpi (zaa (zdu (zcc (N':=["name", "kinds", "rule", "roofs"]) (own:=["name", "kinds"]) (fr:=[0,1]) (by kernel_rfl)) rfl (zcj (K:=K) rfl (bv 2)) ?hb2 (by intro _;rfl)) zag (by rfl)) (by decide) (by decide) (zai (by rfl)) (by rfl)) (fun _=>rfl)))),Bx.out (bv 0)⟩;case hb2=>(intro cl C s H fp;refine' ⟨Bx.out (zct (K:=K) (n:=2) rfl rfl (zax (zas (i:=0) zls rfl (Or.inl rfl) (by first|exact .inl rfl|exact .inr rfl|assumption)) (zax (zas (i:=1) zls rfl (Or.inl rfl) (by first|exact .inl rfl|exact .inr rfl|assumption)) zcs (by rfl)) (by rfl)) (by rfl) (by rfl)),Bx.out zgb,Bx.out (zch D_is_nearer (hr.mono (by decide)) (by rfl) (zaa (bv 3) (zaa (bv 1) (zaa (zbk (zcf (K:=K) rfl) (bv 2) zak (fun _ _=>rfl)) zag (by rfl)) (by rfl)) (by rfl)) (by decide) (zai (by rfl)) (by rfl))⟩))
 exact fn_d (f:=zrc) ((zce (zds (zei (zad 1)) zeq (zlf (by decide)) (ziq (zfw (zdb zqu (zac (zds (zei (zad 2)) (zfc (zbb (zbb zdn))) (zih (zby (by decide) (zby (by decide) zga))) zii (zbu (zac (zad 3) (zac (zad 1) (zac (zbn (se_c fun _=>zaf)) zal))))) zal)))) (zad 0)))) h
theorem zxr {f:Addr} {fd:qAB} (F:Fun K "rule_names" "rule_names" zgx f fd) (T:Txt mg)  : FnOk P w K mg base CX0 1 f fd ["rules"] (spD 1 zim):=by
 refine F.ok zxk (fun vs H Q E h=>zcw h) (fun cdv A outer s H vs Q E hr h=>?_)
 have hu:=zfy hr
 apply Exists.intro
 apply And.intro
 ·refine' Bx.out (zan (zbi (zdu (zcc (N':=["name", "kinds"]) (own:=["name", "kinds"]) (fr:=[]) (by kernel_rfl)) rfl (zcj (K:=K) rfl (bv 0)) ?hb1 (by intro _;rfl))))
  case hb1=>(intro cl C s H fp;refine' ⟨Bx.out (zct (K:=K) (n:=2) rfl rfl (zax (zas (i:=0) zlt rfl (Or.inl rfl) (by first|exact .inl rfl|exact .inr rfl|assumption)) (zax (zas (i:=1) zlt rfl (Or.inl rfl) (by first|exact .inl rfl|exact .inr rfl|assumption)) zcs (by rfl)) (by rfl)) (by rfl) (by rfl)),Bx.out zgb,Bx.out (bv 0)⟩)
 exact fn_d (f:=zrd) ((zce (zds (zei (zad 0)) (zfc (zbb (zbb zdn))) (zih (zby (by decide) (zby (by decide) zga))) zii (zad 0)))) h
theorem zaaq {f:Addr} {fd:qAB} (F:Fun K "answer_by" "answer_by" zhv f fd) (T:Txt mg)  : FnOk P w K mg base CX0 1 f fd ["names"] (spD 1 zjr):=by
 refine F.ok zzx (fun vs H Q E h=>zcw h) (fun cdv A outer s H vs Q E hr h=>?_)
 have hu:=zfy hr
 apply Exists.intro
 apply And.intro
 ·refine' Bx.out (zaj (zcq (zgl (zbz (K:=K) rfl (bv 0) (fun _=>rfl))) (zan (zbi (zbs (zaa zbr zag (by rfl))))) zbt)
 (zaj (zcq (zbj (zeb (K:=K) rfl hr.units) (zaw (zbo (K:=K) rfl) (by rfl) T.len zbw (zaa (bv 0) zag (by rfl)) (by decide) (by decide) (zai (by rfl)) (by rfl)) zak (zcd _)) (zan (zbi (zbs (zaa zbr (zaa (zbk (zcf (K:=K) rfl) (bv 0) zak (fun _ _=>rfl)) zag (by rfl)) (by rfl))))) zbt)
 (zan (zbi (zbs (zaa zbr (zaa (zdf (zes (K:=K) rfl) (by rfl) T.tuple zdx (zaa (bv 0) zag (by rfl)) (by decide) (by decide) (zai (by rfl)) (by rfl)) zag (by rfl)) (by rfl)))))))
 exact fn_d (f:=zti) ((zat (zem (ziq (zfw (zad 0))) (zce (zck (zac (se_c fun _=>zay) zal))) zda) (zat (zem (st_t (zav zgk (zdb zdr (zac (zad 0) zal)) (se_c fun _=>zaf))) (zce (zck (zac (se_c fun _=>zay) (zac (zbn (se_c fun _=>zaf)) zal)))) zda) (zce (zck (zac (se_c fun _=>zay) (zac (zdb zid (zac (zad 0) zal)) zal))))))) h
theorem zakg {f:Addr} {fd:qAB} (F:Fun K "is_out" "is_out" zni f fd) (T:Txt mg) (D_is_whole:zvz P w K mg base):FnOk P w K mg base CX0 2 f fd ["kinds", "call_roofs", "thing"] (spD 3 zsd):=by
 refine F.ok zaka (fun vs H Q E h=>zcw h) (fun cdv A outer s H vs Q E hr h=>?_)
 have hu:=zfy hr
 apply Exists.intro
 apply And.intro
 ·refine' Bx.out (zaj (zcq (zqz (zgl (zbz (K:=K) rfl (zch D_is_whole (hr.mono (by decide)) (by rfl) (zaa (bv 2) zag (by rfl)) (by decide) (zai (by rfl)) (by rfl)) (fun _=>rfl))) (zoh (zgl (zzp zasp zalm zak (bv 2) (zaw (zbo (K:=K) rfl) (by rfl) T.len zbw (zaa (bv 0) zag (by rfl)) (by decide) (by decide) (zai (by rfl)) (by rfl)) (by with_unfolding_all rfl))))).pt (zan (zbi zhg)) zbt)
 (zan (zbi (zacf (zaga hu (zbk (zcf (K:=K) rfl) (bv 0) (bv 2) (fun _ _=>rfl)) (zbk (zcf (K:=K) rfl) (bv 1) (bv 2) (fun _ _=>rfl))) (by rfl)))))
 exact fn_d (f:=zaer) ((zat (zem (zyw (ziq (zfw (zbu (zac (zad 2) zal)))) (ziq (st_t (zady zatm zaqo (se_c fun _=>zaf) (zad 2) (zdb zdr (zac (zad 0) zal)))))) (zce (se_c fun _=>zbf)) zda) (zce (zaih (zbn (zad 2)) (zbn (zad 2)))))) h
theorem zxs {f:Addr} {fd:qAB} (F:Fun K "is_farther" "is_farther" zgy f fd) (T:Txt mg) (D_is_nearer:zok P w K mg base):FnOk P w K mg base CX0 2 f fd ["roofs", "fit", "kinds", "thing"] (spD 4 zkg):=by
 refine F.ok zxm (fun vs H Q E h=>zcw h) (fun cdv A outer s H vs Q E hr h=>?_)
 have hu:=zfy hr
 apply Exists.intro
 apply And.intro
 ·refine' Bx.out (zan (zbi (zaw (zmb (K:=K) rfl rfl) (by rfl) T.any zpi (zaa (zdu (zcc (N':=["name", "others", "roofs", "kinds", "thing"]) (own:=["name", "others"]) (fr:=[0,2,3]) (by kernel_rfl)) rfl (zcj (K:=K) rfl (bv 1)) ?hb1 (by intro _;rfl)) zag (by rfl)) (by decide) (by decide) (zai (by rfl)) (by rfl))))
  case hb1=>(intro cl C s H fp;refine' ⟨Bx.out (zct (K:=K) (n:=2) rfl rfl (zax (zas (i:=0) zlu rfl (Or.inl rfl) (by first|exact .inl rfl|exact .inr rfl|assumption)) (zax (zas (i:=1) zlu rfl (Or.inl rfl) (by first|exact .inl rfl|exact .inr rfl|assumption)) zcs (by rfl)) (by rfl)) (by rfl) (by rfl)),Bx.out zgb,Bx.out (zqh (zgo (zapf (K:=K) rfl hr.units) (bv 0) (bv 4) (zcd _)) (zqg (zch D_is_nearer (hr.mono (by decide)) (by rfl) (zaa (bv 2) (zaa (bv 1) (zaa (bv 3) zag (by rfl)) (by rfl)) (by rfl)) (by decide) (zai (by rfl)) (by rfl))))⟩)
 exact fn_d (f:=zre) ((zce (zdb zqu (zac (zds (zei (zad 1)) (zfc (zbb (zbb zdn))) (zih (zby (by decide) (zby (by decide) zga))) zii (zvh (zav zapg (zad 0) (zad 4)) (zbu (zac (zad 2) (zac (zad 1) (zac (zad 3) zal)))))) zal)))) h
theorem zagh {f:Addr} {fd:qAB} (F:Fun K "is_line" "is_line" zkv f fd) (T:Txt mg) (D_is_farther:zro P w K mg base) (D_is_out:zaex P w K mg base):FnOk P w K mg base CX0 3 f fd ["roofs", "call_roofs", "fit", "rule", "thing"] (spD 5 zmn):=by
 refine F.ok zagd (fun vs H Q E h=>zcw h) (fun cdv A outer s H vs Q E hr h=>?_)
 have hu:=zfy hr
 apply Exists.intro
 apply And.intro
 ·refine' Bx.out (zaj (zcq (zgl (zbz (K:=K) rfl (zaw (zfn (K:=K) rfl) (by rfl) T.isinstance zcl (zaa (bv 4) (zaa (zgp (v:=.ty "tuple") (by rfl) T.tuple zdx rfl (by decide) (by decide)) zag (by rfl)) (by rfl)) (by decide) (by decide) (zai (by rfl)) (by rfl)) (fun _=>rfl))) (zan (zbi zhg)) zbt)
 (zaj (zbc (i:=5) zvu rfl (Or.inl rfl) (zbk (zcf (K:=K) rfl) (bv 3) zak (fun _ _=>rfl)) (by rfl) (.inl rfl))
 (zaj (zcq (zlj (zbj (zeb (K:=K) rfl hr.units) (zaw (zbo (K:=K) rfl) (by rfl) T.len zbw (zaa (bv 4) zag (by rfl)) (by decide) (by decide) (zai (by rfl)) (by rfl)) zak (zcd _)) (zix (zbj (zeb (K:=K) rfl hr.units) (zbk (zcf (K:=K) rfl) (bv 4) zak (fun _ _=>rfl)) zbr (zcd _)))).pt (zan (zbi (zch D_is_out (hr.mono (by decide)) (by rfl) (zaa (bv 5) (zaa (bv 1) (zaa (zbk (zcf (K:=K) rfl) (bv 4) zak (fun _ _=>rfl)) zag (by rfl)) (by rfl)) (by rfl)) (by decide) (zai (by rfl)) (by rfl)))) zbt)
 (zaj (zcq (zbj (zzl (K:=K) rfl hr.units) (bv 3) (bv 2) (by rfl)) (zan (zbi zhg)) zbt)
 (zaj (zcq (zlj (zbj (zeb (K:=K) rfl hr.units) (zaw (zbo (K:=K) rfl) (by rfl) T.len zbw (zaa (bv 4) zag (by rfl)) (by decide) (by decide) (zai (by rfl)) (by rfl)) zak (zcd _)) (zix (zbj (zeb (K:=K) rfl hr.units) (zbk (zcf (K:=K) rfl) (bv 4) zak (fun _ _=>rfl)) zbr (zcd _)))).pt (zan (zbi (zch D_is_farther (hr.mono (by decide)) (by rfl) (zaa (bv 0) (zaa (bv 2) (zaa (bv 5) (zaa (zbk (zcf (K:=K) rfl) (bv 4) zak (fun _ _=>rfl)) zag (by rfl)) (by rfl)) (by rfl)) (by rfl)) (by decide) (zai (by rfl)) (by rfl)))) zbt)
 (zan (zbi (zgo (zeb (K:=K) rfl hr.units) (bv 4) (zbs (zaa zbr zag (by rfl))) (zcd _)))))))))
 exact fn_d (f:=zzr) ((zat (zem (ziq (zfw (zln (zad 4) zow))) (zce (se_c fun _=>zbf)) zda) (zat (zbp (zbn (se_c fun _=>zaf))) (zat (zem (zou (st_t (zav zgk (zdb zdr (zac (zad 4) zal)) (se_c fun _=>zaf))) (st_t (zav zgk (zbn (se_c fun _=>zaf)) (se_c fun _=>zay)))) (zce (zbu (zac (zad 5) (zac (zad 1) (zac (zbn (se_c fun _=>zaf)) zal))))) zda) (zat (zem (st_t (zav zapc (zad 3) (zad 2))) (zce (se_c fun _=>zbf)) zda) (zat (zem (zou (st_t (zav zgk (zdb zdr (zac (zad 4) zal)) (se_c fun _=>zaf))) (st_t (zav zgk (zbn (se_c fun _=>zaf)) (se_c fun _=>zay)))) (zce (zbu (zac (zad 0) (zac (zad 2) (zac (zad 5) (zac (zbn (se_c fun _=>zaf)) zal)))))) zda) (zce (zav zgk (zad 4) (zck (zac (se_c fun _=>zay) zal)))))))))) h
theorem zanm {f:Addr} {fd:qAB} (F:Fun K "shows" "shows" zql f fd) (T:Txt mg) (D_answer_by:zub P w K mg base) (D_is_line:zaam P w K mg base) (D_nearest_of:zrm P w K mg base) (D_roofs_in_call:zjx P w K mg base) (D_roofs_of:zqn P w K mg base) (D_rule_names:zrn P w K mg base) (D_rules_that_fit:zlv P w K mg base):FnOk P w K mg base CX0 5 f fd ["book", "call", "answer", "paper"] (spD 4 zlk):=by
 refine F.ok zanl (fun vs H Q E h=>zcw h) (fun cdv A outer s H vs Q E hr h=>?_)
 have hu:=zfy hr
 apply Exists.intro
 apply And.intro
 ·refine' Bx.out (zaj (zbc (i:=4) zkh rfl (Or.inr rfl) (zch D_rules_that_fit (hr.mono (by decide)) (by rfl) (zaa (bv 0) (zaa (bv 1) zag (by rfl)) (by rfl)) (by decide) (zai (by rfl)) (by rfl)) (by rfl) (.inl rfl))
 (zaj (zajv (bv 0) (zct (K:=K) (n:=3) rfl rfl (zax (zas (i:=5) zkh rfl (Or.inl rfl) (.inl rfl)) (zax (zas (i:=6) zkh rfl (Or.inl rfl) (.inl rfl)) (zax (zas (i:=7) zkh rfl (Or.inl rfl) (.inl rfl)) zcs (by rfl)) (by rfl)) (by rfl)) (by rfl) (by rfl)) (by rfl) (by rfl) (by rfl))
 (zaj (zcq (zqz (zgl (zbz (K:=K) rfl (zaw (zfn (K:=K) rfl) (by rfl) T.isinstance zcl (zaa (bv 3) (zaa (zgp (v:=.ty "list") (by rfl) T.list zhj rfl (by decide) (by decide)) zag (by rfl)) (by rfl)) (by decide) (by decide) (zai (by rfl)) (by rfl)) (fun _=>rfl))) (zoh (zbj (zqy (K:=K) rfl hr.units) (zaw (zbo (K:=K) rfl) (by rfl) T.len zbw (zaa (bv 3) zag (by rfl)) (by decide) (by decide) (zai (by rfl)) (by rfl)) (zaw (zbo (K:=K) rfl) (by rfl) T.len zbw (zaa (bv 7) zag (by rfl)) (by decide) (by decide) (zai (by rfl)) (by rfl)) (zcd _)))).pt (zan (zbi zhg)) zbt)
 (zaj (zbc (i:=8) zkh rfl (Or.inr rfl) (zch D_roofs_of (hr.mono (by decide)) (by rfl) (zaa (bv 5) zag (by rfl)) (by decide) (zai (by rfl)) (by rfl)) (by rfl) (.inl rfl))
 (zaj (zbc (i:=9) zkh rfl (Or.inr rfl) (zch D_roofs_in_call (hr.mono (by decide)) (by rfl) (zaa (bv 8) (zaa (bv 1) zag (by rfl)) (by rfl)) (by decide) (zai (by rfl)) (by rfl)) (by rfl) (.inl rfl))
 (zaj (zcq (zgl (zbz (K:=K) rfl (zaw (zsn (K:=K) rfl rfl) (by rfl) T.all zxc (zaa (zdu (zcc (N':=["rule", "line", "fit", "roofs", "call_roofs"]) (own:=["rule", "line"]) (fr:=[4,8,9]) (by kernel_rfl)) rfl (zqi (K:=K) rfl rfl T.zip (zaa (bv 7) (zaa (bv 3) zag (by rfl)) (by rfl)) (by rfl) (by rfl)) ?hb1 (by intro _;rfl)) zag (by rfl)) (by decide) (by decide) (zai (by rfl)) (by rfl)) (fun _=>rfl))) (zan (zbi zhg)) zbt)
 (zaj (zhh (i:=10) (zcc (N':=["rule", "line"]) (own:=["rule", "line"]) (fr:=[]) (by kernel_rfl)) rfl (zqi (K:=K) rfl rfl T.zip (zaa (bv 7) (zaa (bv 3) zag (by rfl)) (by rfl)) (by rfl) (by rfl)) ?hb2 (by rfl) zkh rfl rfl (by intro _;rfl))
 (zan (zbi (zqh (zgo (zeb (K:=K) rfl hr.units) (zch D_nearest_of (hr.mono (by decide)) (by rfl) (zaa (bv 8) (zaa (bv 10) zag (by rfl)) (by rfl)) (by decide) (zai (by rfl)) (by rfl)) (bv 10) (zcd _)) (zqg (zgo (zeb (K:=K) rfl hr.units) (bv 2) (zch D_answer_by (hr.mono (by decide)) (by rfl) (zaa (zch D_rule_names (hr.mono (by decide)) (by rfl) (zaa (bv 10) zag (by rfl)) (by decide) (zai (by rfl)) (by rfl)) zag (by rfl)) (by decide) (zai (by rfl)) (by rfl)) (zcd _)))))))))))))
  case hb1=>(intro cl C s H fp;refine' ⟨Bx.out (zct (K:=K) (n:=2) rfl rfl (zax (zas (i:=0) ztx rfl (Or.inl rfl) (by first|exact .inl rfl|exact .inr rfl|assumption)) (zax (zas (i:=1) ztx rfl (Or.inl rfl) (by first|exact .inl rfl|exact .inr rfl|assumption)) zcs (by rfl)) (by rfl)) (by rfl) (by rfl)),Bx.out zgb,Bx.out (zch D_is_line (hr.mono (by decide)) (by rfl) (zaa (bv 3) (zaa (bv 4) (zaa (bv 2) (zaa (bv 0) (zaa (bv 1) zag (by rfl)) (by rfl)) (by rfl)) (by rfl)) (by rfl)) (by decide) (zai (by rfl)) (by rfl))⟩)
  case hb2=>(intro cl C s H fp;refine' ⟨Bx.out (zct (K:=K) (n:=2) rfl rfl (zax (zas (i:=0) zty rfl (Or.inl rfl) (by first|exact .inl rfl|exact .inr rfl|assumption)) (zax (zas (i:=1) zty rfl (Or.inl rfl) (by first|exact .inl rfl|exact .inr rfl|assumption)) zcs (by rfl)) (by rfl)) (by rfl) (by rfl)),Bx.out (zjq (zbj (zeb (K:=K) rfl hr.units) (bv 1) (zbs (zaa zbr zag (by rfl))) (zcd _))),Bx.out (bv 0)⟩)
 exact fn_d (f:=zajy) ((zat (zbp (zbu (zac (zad 0) (zac (zad 1) zal)))) (zat (zaos (zad 0) (zfc (zbb (zbb (zbb zdn))))) (zat (zem (zyw (ziq (zfw (zln (zad 3) zwr))) (st_t (zav zyv (zdb zdr (zac (zad 3) zal)) (zdb zdr (zac (zad 7) zal))))) (zce (se_c fun _=>zbf)) zda) (zat (zbp (zbu (zac (zad 5) zal))) (zat (zbp (zbu (zac (zad 8) (zac (zad 1) zal)))) (zat (zem (ziq (zfw (zdb zqu (zac (zds (zvl (zac (zad 7) (zac (zad 3) zal))) (zfc (zbb (zbb zdn))) (zih (zby (by decide) (zby (by decide) zga))) zii (zbu (zac (zad 3) (zac (zad 4) (zac (zad 2) (zac (zad 0) (zac (zad 1) zal))))))) zal)))) (zce (se_c fun _=>zbf)) zda) (zat (zbp (zds (zvl (zac (zad 7) (zac (zad 3) zal))) (zfc (zbb (zbb zdn))) (zih (zby (by decide) (zby (by decide) zga))) (st_t (zav zgk (zad 1) (zck (zac (se_c fun _=>zay) zal)))) (zad 0))) (zce (zvh (zav zgk (zbu (zac (zad 8) (zac (zad 10) zal))) (zad 10)) (zav zgk (zad 2) (zbu (zac (zbu (zac (zad 10) zal)) zal))))))))))))) h
theorem zaar {f:Addr} {fd:qAB} (F:Fun K "_law_names" "_law_names" zhx f fd) (T:Txt mg)  : FnOk P w K mg base CX0 1 f fd ["_law_many", "_law_cell"] (spD 2 zdv):=by
 refine F.ok zaaa (fun vs H Q E h=>zcw h) (fun cdv A outer s H vs Q E hr h=>?_)
 have hu:=zfy hr
 apply Exists.intro
 apply And.intro
 ·refine' Bx.out (zaj (zbc (i:=2) zdh rfl (Or.inl rfl) zbr (by rfl) (.inl rfl))
 (zaj (zbc (i:=3) zdh rfl (Or.inl rfl) (zbk (zcf (K:=K) rfl) (zbs (zaa zak (zaa zak (zaa zak (zaa zak (zaa zak (zaa zak (zaa zak (zaa zak zag (by rfl)) (by rfl)) (by rfl)) (by rfl)) (by rfl)) (by rfl)) (by rfl)) (by rfl))) (zaz zcn (zaz zdy (bv 1) zak) zak) (fun _ _=>rfl)) (by rfl) (.inl rfl))
 (zaj (zbc (i:=4) zdh rfl (Or.inl rfl) (zaz zcn (zaz zdy (bv 1) zak) zak) (by rfl) (.inl rfl))
 (zaj (zbc (i:=5) zdh rfl (Or.inl rfl) (zaz zkj (zbk (zcf (K:=K) rfl) (bv 2) (zaz zcn (zaz zdy (bv 1) zak) zak) (fun _ _=>rfl)) (zaz zcn (zaz zdy (bv 1) zak) zak)) (by rfl) (.inl rfl))
 (zaj (zbc (i:=6) zdh rfl (Or.inl rfl) (zaz zcn (zaz zdy (bv 1) zak) (zaz (zci (K:=K) rfl) (zaw (zbo (K:=K) rfl) (by rfl) T.len zbw (zaa (bv 5) zag (by rfl)) (by decide) (by decide) (zai (by rfl)) (by rfl)) zak)) (by rfl) (.inl rfl))
 (zaj (zbc (i:=7) zdh rfl (Or.inl rfl) (zdo zag) (by rfl) (.inl rfl))
 (zaj (zft qz rfl (zkr rfl T.range (zaa (bv 0) zag (by rfl)) (by rfl)) (zas (i:=8) zdh rfl (Or.inl rfl) (.inl rfl))
  (zaj (zbc (i:=9) zdh rfl (Or.inl rfl) (zbk (zcf (K:=K) rfl) (bv 2) (zaz zcn (zaz (zci (K:=K) rfl) (bv 4) (zaz zkj (bv 3) (bv 8))) zak) (fun _ _=>rfl)) (by rfl) (.inl rfl))
 (zan (zcq (zbj (zeb (K:=K) rfl hr.units) (zaz zcn (bv 1) zak) zak (zcd _)) (zan (zdq (zfu (K:=K) rfl qh qj qi zdj (bv 7) (zaa (zaz (zci (K:=K) rfl) (zaz (zci (K:=K) rfl) (zdl (zlw (K:=K) rfl) (bv 5) zfl (zdc (bv 6))) (bv 9)) (zdl (zlw (K:=K) rfl) (bv 5) (zdc (bv 6)) zfl)) zag (by rfl)) (by rfl) (by rfl) (by rfl) (zai (by rfl)) (by rfl)) (by rfl))) (zan (zcq (zbj (zeb (K:=K) rfl hr.units) (zaz zcn (bv 1) zak) zak (zcd _)) (zan (zdq (zfu (K:=K) rfl qh qj qi zdj (bv 7) (zaa (zaz (zci (K:=K) rfl) (zdl (zlw (K:=K) rfl) (bv 5) zfl (zdc (zaz zcn (zaz zkj (bv 8) (bv 3)) (zaz (zci (K:=K) rfl) (zaw (zbo (K:=K) rfl) (by rfl) T.len zbw (zaa (bv 5) zag (by rfl)) (by decide) (by decide) (zai (by rfl)) (by rfl)) zak)))) (bv 9)) zag (by rfl)) (by rfl) (by rfl) (by rfl) (zai (by rfl)) (by rfl)) (by rfl))) (zan (zdq (zfu (K:=K) rfl qh qj qi zdj (bv 7) (zaa (zaz zkj (zbk (zcf (K:=K) rfl) (bv 2) (zaz zcn (zaz (zci (K:=K) rfl) (bv 4) (zaz zdy (bv 8) zak)) zak) (fun _ _=>rfl)) (zaz (zci (K:=K) rfl) zak (zaz zcn (zaz zkj (bv 8) (bv 3)) zak))) zag (by rfl)) (by rfl) (by rfl) (by rfl) (zai (by rfl)) (by rfl)) (by rfl)))))))) (by intro _;rfl))
 (zaj (zcq (zbj (zeb (K:=K) rfl hr.units) (zaz zcn (zaz zdy (bv 1) zak) zak) zak (zcd _)) (zaj (zbc (i:=10) zdh rfl (Or.inl rfl) (zdo (zaa zbr (zaa zbr (zaa zbr (zaa zbr (zaa zbr (zaa zbr zag (by rfl)) (by rfl)) (by rfl)) (by rfl)) (by rfl)) (by rfl))) (by rfl) (.inl rfl))
 (zaj (zbc (i:=11) zdh rfl (Or.inl rfl) (zaz zcn (zaz zdy (bv 1) zak) zak) (by rfl) (.inl rfl))
 (zan (zbc (i:=7) zdh rfl (Or.inl rfl) (zdl (zlw (K:=K) rfl) (zaz (zci (K:=K) rfl) (zaz (zci (K:=K) rfl) (zdl (zlw (K:=K) rfl) (bv 10) (zdc (bv 11)) zfl) (zdl (zlw (K:=K) rfl) (bv 10) zfl (zdc (bv 11)))) (zdl (zlw (K:=K) rfl) (bv 7) (zdc zak) zfl)) zfl (zdc (bv 0))) (by rfl) (.inl rfl))))) zbt)
 (zan (zbi (bv 7)))))))))))
 exact fn_d (f:=zjs) ((zat (zbp (se_c fun _=>zay)) (zat (zbp (zav zaie (zck (zac (se_c fun _=>zaf) (zac (se_c fun _=>zaf) (zac (se_c fun _=>zaf) (zac (se_c fun _=>zaf) (zac (se_c fun _=>zaf) (zac (se_c fun _=>zaf) (zac (se_c fun _=>zaf) (zac (se_c fun _=>zaf) zal))))))))) (zav zcu (zav zee (zad 1) (se_c fun _=>zaf)) (se_c fun _=>zaf)))) (zat (zbp (zav zcu (zav zee (zad 1) (se_c fun _=>zaf)) (se_c fun _=>zaf))) (zat (zbp (zav zvg (zbn (zav zcu (zav zee (zad 1) (se_c fun _=>zaf)) (se_c fun _=>zaf))) (zav zcu (zav zee (zad 1) (se_c fun _=>zaf)) (se_c fun _=>zaf)))) (zat (zbp (zav zcu (zav zee (zad 1) (se_c fun _=>zaf)) (zav zfa (zdb zdr (zac (zad 5) zal)) (se_c fun _=>zaf)))) (zat (zbp (zfb zal)) (zat (zhn (zme (zac (zad 0) zal)) zeq (zat (zbp (zbn (zav zcu (zav zfa (zad 4) (zav zvg (zad 3) (zad 8))) (se_c fun _=>zaf)))) (zem (st_t (zav zgk (zav zcu (zad 1) (se_c fun _=>zaf)) (se_c fun _=>zaf))) (zkd (zav zfa (zav zfa (zmc (zad 5) zgs (zeh (zad 6))) (zad 9)) (zmc (zad 5) (zeh (zad 6)) zgs))) (zem (st_t (zav zgk (zav zcu (zad 1) (se_c fun _=>zaf)) (se_c fun _=>zaf))) (zkd (zav zfa (zmc (zad 5) zgs (zeh (zav zcu (zav zvg (zad 8) (zad 3)) (zav zfa (zdb zdr (zac (zad 5) zal)) (se_c fun _=>zaf))))) (zad 9))) (zkd (zav zvg (zbn (zav zcu (zav zfa (zad 4) (zav zee (zad 8) (se_c fun _=>zaf))) (se_c fun _=>zaf))) (zav zfa (se_c fun _=>zaf) (zav zcu (zav zvg (zad 8) (zad 3)) (se_c fun _=>zaf))))))))) (zat (zem (st_t (zav zgk (zav zcu (zav zee (zad 1) (se_c fun _=>zaf)) (se_c fun _=>zaf)) (se_c fun _=>zaf))) (zat (zbp (zfb (zac (se_c fun _=>zay) (zac (se_c fun _=>zay) (zac (se_c fun _=>zay) (zac (se_c fun _=>zay) (zac (se_c fun _=>zay) (zac (se_c fun _=>zay) zal)))))))) (zat (zbp (zav zcu (zav zee (zad 1) (se_c fun _=>zaf)) (se_c fun _=>zaf))) (zbp (zmc (zav zfa (zav zfa (zmc (zad 10) (zeh (zad 11)) zgs) (zmc (zad 10) zgs (zeh (zad 11)))) (zmc (zad 7) (zeh (se_c fun _=>zaf)) zgs)) zgs (zeh (zad 0)))))) zda) zmd))))))))) h
theorem zagi {f:Addr} {fd:qAB} (F:Fun K "_law_web" "_law_web" zkw f fd) (T:Txt mg)  : FnOk P w K mg base CX0 1 f fd ["_law_cells", "_law_names_here"] (spD 2 zmg):=by
 refine F.ok zage (fun vs H Q E h=>zcw h) (fun cdv A outer s H vs Q E hr h=>?_)
 have hu:=zfy hr
 apply Exists.intro
 apply And.intro
 ·refine' Bx.out (zaj (zbc (i:=2) zfq rfl (Or.inl rfl) (zdo zag) (by rfl) (.inl rfl))
 (zaj (zft qz rfl (zpg (K:=K) rfl rfl T.enumerate (zaa (bv 1) zag (by rfl)) (by rfl)) (zct (K:=K) (n:=2) rfl rfl (zax (zas (i:=3) zfq rfl (Or.inl rfl) (.inl rfl)) (zax (zas (i:=4) zfq rfl (Or.inl rfl) (.inl rfl)) zcs (by rfl)) (by rfl)) (by rfl) (by rfl))
  (zaj (zbc (i:=5) zfq rfl (Or.inl rfl) (zdl (zlw (K:=K) rfl) (bv 1) zfl (zdc (bv 3))) (by rfl) (.inl rfl))
 (zaj (zbc (i:=6) zfq rfl (Or.inl rfl) (zaz zdy (zbk (zcf (K:=K) rfl) (bv 0) (bv 3) (fun _ _=>rfl)) zak) (by rfl) (.inl rfl))
 (zaj (zbc (i:=7) zfq rfl (Or.inl rfl) (zdo zag) (by rfl) (.inl rfl))
 (zaj (zft qz rfl (zkr rfl T.range (zaa (zaw (zahb rfl) (by rfl) T.min zank (zaa (zaz zcn (zbk (zcf (K:=K) rfl) (bv 0) (bv 3) (fun _ _=>rfl)) zak) (zaa (bv 3) zag (by rfl)) (by rfl)) (by decide) (by decide) (zai (by rfl)) (by rfl)) zag (by rfl)) (by rfl)) (zas (i:=8) zfq rfl (Or.inl rfl) (.inl rfl))
  (zaj (zbc (i:=9) zfq rfl (Or.inl rfl) (zaz zcn (bv 6) (zaw (zbo (K:=K) rfl) (by rfl) T.len zbw (zaa (bv 5) zag (by rfl)) (by decide) (by decide) (zai (by rfl)) (by rfl))) (by rfl) (.inl rfl))
 (zaj (zbc (i:=6) zfq rfl (Or.inl rfl) (zaz zdy (bv 6) (zaw (zbo (K:=K) rfl) (by rfl) T.len zbw (zaa (bv 5) zag (by rfl)) (by decide) (by decide) (zai (by rfl)) (by rfl))) (by rfl) (.inl rfl))
 (zan (zdq (zfu (K:=K) rfl qh qj qi zdj (bv 7) (zaa (zfu (K:=K) rfl qh PySem.F.slot_list_pop PySem.F.type_list_pop zalt (bv 5) (zaa (bv 9) zag (by rfl)) (by rfl) (by rfl) (by rfl) (zai (by rfl)) (by rfl)) zag (by rfl)) (by rfl) (by rfl) (by rfl) (zai (by rfl)) (by rfl)) (by rfl))))) (by intro _;rfl))
 (zan (zdq (zfu (K:=K) rfl qh qj qi zdj (bv 2) (zaa (zbs (zaa (bv 4) (zaa (bv 7) zag (by rfl)) (by rfl))) zag (by rfl)) (by rfl) (by rfl) (by rfl) (zai (by rfl)) (by rfl)) (by rfl))))))) (by intro _;rfl))
 (zan (zbi (bv 2)))))
 exact fn_d (f:=zza) ((zat (zbp (zfb zal)) (zat (zhn (ztc (zac (zad 1) zal)) (zfc (zbb (zbb zdn))) (zat (zbp (zmc (zad 1) zgs (zeh (zad 3)))) (zat (zbp (zav zee (zbn (zad 3)) (se_c fun _=>zaf))) (zat (zbp (zfb zal)) (zat (zhn (zme (zac (zdb zato (zac (zav zcu (zbn (zad 3)) (se_c fun _=>zaf)) (zac (zad 3) zal))) zal)) zeq (zat (zbp (zav zcu (zad 6) (zdb zdr (zac (zad 5) zal)))) (zat (zbp (zav zee (zad 6) (zdb zdr (zac (zad 5) zal)))) (zaip (zad 9))))) (zkd (zck (zac (zad 4) (zac (zad 7) zal))))))))) zmd))) h
theorem zakh {f:Addr} {fd:qAB} (F:Fun K "_law_up" "_law_up" znj f fd) (T:Txt mg)  : FnOk P w K mg base CX0 1 f fd ["_law_web_here"] (spD 1 zoz):=by
 refine F.ok zakc (fun vs H Q E h=>zcw h) (fun cdv A outer s H vs Q E hr h=>?_)
 have hu:=zfy hr
 apply Exists.intro
 apply And.intro
 ·refine' Bx.out (zaj (zbc (i:=1) zjv rfl (Or.inl rfl) zpf (by rfl) (.inl rfl))
 (zaj (zft qz rfl (zcj (K:=K) rfl (bv 0)) (zct (K:=K) (n:=2) rfl rfl (zax (zas (i:=2) zjv rfl (Or.inl rfl) (.inl rfl)) (zax (zas (i:=3) zjv rfl (Or.inl rfl) (.inl rfl)) zcs (by rfl)) (by rfl)) (by rfl) (by rfl))
  (zaj (zbc (i:=4) zjv rfl (Or.inl rfl) (zdo (zaa (bv 2) zag (by rfl))) (by rfl) (.inl rfl))
 (zaj (zft qz rfl (zcj (K:=K) rfl (bv 3)) (zas (i:=5) zjv rfl (Or.inl rfl) (.inl rfl))
  (zan (zft qz rfl (zcj (K:=K) rfl (znh hu (bv 1) (bv 5) (fun _ _=>rfl))) (zas (i:=6) zjv rfl (Or.inl rfl) (.inl rfl))
  (zan (zcq (zbj (zsm (K:=K) rfl) (bv 6) (bv 4) (by rfl)) (zan (zdq (zfu (K:=K) rfl qh qj qi zdj (bv 4) (zaa (bv 6) zag (by rfl)) (by rfl) (by rfl) (by rfl) (zai (by rfl)) (by rfl)) (by rfl))) zbt)) (by intro _;rfl))) (by intro _;rfl))
 (zan (zaep hu (bv 1) (bv 2) (bv 4) rfl)))) (by intro _;rfl))
 (zan (zbi (bv 1)))))
 exact fn_d (f:=zadz) ((zat (zbp zwq) (zat (zhn (zei (zad 0)) (zfc (zbb (zbb zdn))) (zat (zbp (zfb (zac (zad 2) zal))) (zat (zhn (zei (zad 3)) zeq (zhn (zei (zne (zad 5))) zeq (zem (st_t (zav zaid (zad 6) (zad 4))) (zkd (zad 6)) zda))) (zaot (zad 2) (zad 4))))) zmd))) h
theorem zaas {f:Addr} {fd:qAB} (F:Fun K "_law_parts" "_law_parts" zhy f fd) (T:Txt mg)  : FnOk P w K mg base CX0 1 f fd ["_law_arm"] (spD 1 zcz):=by
 refine F.ok zaad (fun vs H Q E h=>zcw h) (fun cdv A outer s H vs Q E hr h=>?_)
 have hu:=zfy hr
 apply Exists.intro
 apply And.intro
 ·refine' Bx.out (zaj (zcq (zbz (K:=K) rfl (zaw (zfn (K:=K) rfl) (by rfl) T.isinstance zcl (zaa (bv 0) (zaa (zgp (v:=.ty "tuple") (by rfl) T.tuple zdx rfl (by decide) (by decide)) zag (by rfl)) (by rfl)) (by decide) (by decide) (zai (by rfl)) (by rfl)) (fun _=>rfl)) (zan (zbi (zdf (zjb (K:=K) rfl) (by rfl) T.list zhj (zaa (bv 0) zag (by rfl)) (by decide) (by decide) (zai (by rfl)) (by rfl)))) zbt)
 (zan (zbi (zdo (zaa (bv 0) zag (by rfl))))))
 exact fn_d (f:=zqf) ((zat (zem (zfw (zln (zad 0) zow)) (zce (zdb zqb (zac (zad 0) zal))) zda) (zce (zfb (zac (zad 0) zal))))) h
theorem zacv {f:Addr} {fd:qAB} (F:Fun K "_law_call" "_law_call" zji f fd) (T:Txt mg)  : FnOk P w K mg base CX0 1 f fd ["_law_cell", "_law_names_here", "_law_places"] (spD 3 zks):=by
 refine F.ok zacn (fun vs H Q E h=>zcw h) (fun cdv A outer s H vs Q E hr h=>?_)
 have hu:=zfy hr
 apply Exists.intro
 apply And.intro
 ·refine' Bx.out (zaj (zbc (i:=3) zet rfl (Or.inl rfl) (zdo zag) (by rfl) (.inl rfl))
 (zaj (zbc (i:=4) zet rfl (Or.inl rfl) (bv 0) (by rfl) (.inl rfl))
 (zaj (zbc (i:=5) zet rfl (Or.inl rfl) (zaw (zbo (K:=K) rfl) (by rfl) T.len zbw (zaa (bv 1) zag (by rfl)) (by decide) (by decide) (zai (by rfl)) (by rfl)) (by rfl) (.inl rfl))
 (zaj (zft qz rfl (zkr rfl T.range (zaa (bv 2) zag (by rfl)) (by rfl)) (zas (i:=6) zet rfl (Or.inl rfl) (.inl rfl))
  (zaj (zbc (i:=7) zet rfl (Or.inr rfl) (zaz zcn (bv 4) (bv 5)) (by rfl) (.inl rfl))
 (zaj (zbc (i:=4) zet rfl (Or.inl rfl) (zaz zdy (bv 4) (bv 5)) (by rfl) (.inl rfl))
 (zaj (zcq (zbj (zeb (K:=K) rfl hr.units) (zaz zcn (bv 4) zak) zak (zcd _)) (zan (zdq (zfu (K:=K) rfl qh qj qi zdj (bv 3) (zaa (zbs (zaa (zbk (zcf (K:=K) rfl) (bv 1) (zaz zqs (zaz zqs (bv 5) zak) (bv 7)) (fun _ _=>rfl)) zag (by rfl))) zag (by rfl)) (by rfl) (by rfl) (by rfl) (zai (by rfl)) (by rfl)) (by rfl))) (zan (zcq (zlj (zbj (zeb (K:=K) rfl hr.units) (zaz zcn (bv 4) zak) zak (zcd _)) (zix (zbj zyg (bv 5) zak (zcd _)))).pt (zaj (zbc (i:=8) zet rfl (Or.inr rfl) (zaz zcn (zaz (zci (K:=K) rfl) (zaz (zci (K:=K) rfl) (bv 7) zak) (zaz zcn (zaz zdy (bv 4) zak) (zaz zqs (bv 5) zak))) (bv 5)) (by rfl) (.inl rfl))
 (zaj (zhh (i:=9) (zcc (N':=["_law_name", "_law_names_here", "_law_at", "_law_by"]) (own:=["_law_name"]) (fr:=[1,7,8]) (by kernel_rfl)) rfl (zcj (K:=K) rfl (zdl (zlw (K:=K) rfl) (bv 1) (zdc (zaz zqs (bv 5) (zaz zcn (bv 4) zak))) zfl)) ?hb1 (by rfl) zet rfl rfl (by intro _;rfl))
 (zan (zdq (zfu (K:=K) rfl qh qj qi zdj (bv 3) (zaa (zdf (zes (K:=K) rfl) (by rfl) T.tuple zdx (zaa (zaz (zci (K:=K) rfl) (zdo (zaa (zbk (zcf (K:=K) rfl) (bv 1) (bv 7) (fun _ _=>rfl)) (zaa (zbk (zcf (K:=K) rfl) (bv 1) (bv 8) (fun _ _=>rfl)) zag (by rfl)) (by rfl))) (bv 9)) zag (by rfl)) (by decide) (by decide) (zai (by rfl)) (by rfl)) zag (by rfl)) (by rfl) (by rfl) (by rfl) (zai (by rfl)) (by rfl)) (by rfl))))) (zan (zdq (zfu (K:=K) rfl qh qj qi zdj (bv 3) (zaa (zbk (zcf (K:=K) rfl) (bv 1) (zaz zqs (zaz zqs (bv 5) zak) (bv 7)) (fun _ _=>rfl)) zag (by rfl)) (by rfl) (by rfl) (by rfl) (zai (by rfl)) (by rfl)) (by rfl))))))
 (zan (zbc (i:=4) zet rfl (Or.inl rfl) (zaz zdy (bv 4) (zaz zkj zak (bv 5))) (by rfl) (.inl rfl)))))) (by intro _;rfl))
 (zan (zbi (zdf (zes (K:=K) rfl) (by rfl) T.tuple zdx (zaa (bv 3) zag (by rfl)) (by decide) (by decide) (zai (by rfl)) (by rfl))))))))
  case hb1=>(intro cl C s H fp;refine' ⟨Bx.out (zas (i:=0) zut rfl (Or.inl rfl) (by first|exact .inl rfl|exact .inr rfl|assumption)),Bx.out (zjq (zbj (zsm (K:=K) rfl) (bv 0) (zbs (zaa (zbk (zcf (K:=K) rfl) (bv 1) (bv 2) (fun _ _=>rfl)) (zaa (zbk (zcf (K:=K) rfl) (bv 1) (bv 3) (fun _ _=>rfl)) zag (by rfl)) (by rfl))) (by rfl))),Bx.out (bv 0)⟩)
 exact fn_d (f:=zvm) ((zat (zbp (zfb zal)) (zat (zbp (zad 0)) (zat (zbp (zdb zdr (zac (zad 1) zal))) (zat (zhn (zme (zac (zad 2) zal)) zeq (zat (zbp (zav zcu (zad 4) (zad 5))) (zat (zbp (zav zee (zad 4) (zad 5))) (zat (zem (st_t (zav zgk (zav zcu (zad 4) (se_c fun _=>zaf)) (se_c fun _=>zaf))) (zkd (zck (zac (zbn (zav zqt (zav zqt (zad 5) (se_c fun _=>zaf)) (zad 7))) zal))) (zem (zou (st_t (zav zgk (zav zcu (zad 4) (se_c fun _=>zaf)) (se_c fun _=>zaf))) (st_t (zav zyu (zad 5) (se_c fun _=>zaf)))) (zat (zbp (zav zcu (zav zfa (zav zfa (zad 7) (se_c fun _=>zaf)) (zav zcu (zav zee (zad 4) (se_c fun _=>zaf)) (zav zqt (zad 5) (se_c fun _=>zaf)))) (zad 5))) (zat (zbp (zds (zei (zmc (zad 1) (zeh (zav zqt (zad 5) (zav zcu (zad 4) (se_c fun _=>zaf)))) zgs)) zeq (zlf (by decide)) (st_t (zav zaid (zad 0) (zck (zac (zbn (zad 2)) (zac (zbn (zad 3)) zal))))) (zad 0))) (zkd (zdb zid (zac (zav zfa (zfb (zac (zbn (zad 7)) (zac (zbn (zad 8)) zal))) (zad 9)) zal))))) (zkd (zbn (zav zqt (zav zqt (zad 5) (se_c fun _=>zaf)) (zad 7)))))) (zbp (zav zee (zad 4) (zav zvg (se_c fun _=>zaf) (zad 5)))))))) (zce (zdb zid (zac (zad 3) zal)))))))) h
theorem zaat {f:Addr} {fd:qAB} (F:Fun K "_law_rules" "_law_rules" zhz f fd) (T:Txt mg) (D_law_parts:zol P w K mg base):FnOk P w K mg base CX0 2 f fd ["_law_cells", "_law_names_here", "_law_up_here", "_law_call_here", "_law_titles"] (spD 5 zjt):=by
 refine F.ok zaae (fun vs H Q E h=>zcw h) (fun cdv A outer s H vs Q E hr h=>?_)
 have hu:=zfy hr
 apply Exists.intro
 apply And.intro
 ·refine' Bx.out (zaj (zbc (i:=5) zeg rfl (Or.inl rfl) (zdo zag) (by rfl) (.inl rfl))
 (zaj (zft qz rfl (zpg (K:=K) rfl rfl T.enumerate (zaa (bv 4) zag (by rfl)) (by rfl)) (zct (K:=K) (n:=2) rfl rfl (zax (zas (i:=6) zeg rfl (Or.inl rfl) (.inl rfl)) (zax (zas (i:=7) zeg rfl (Or.inl rfl) (.inl rfl)) zcs (by rfl)) (by rfl)) (by rfl) (by rfl))
  (zaj (zbc (i:=8) zeg rfl (Or.inl rfl) (zaz zdy (zbk (zcf (K:=K) rfl) (bv 0) (bv 6) (fun _ _=>rfl)) zak) (by rfl) (.inl rfl))
 (zaj (zbc (i:=9) zeg rfl (Or.inl rfl) (zdo zag) (by rfl) (.inl rfl))
 (zaj (zft qz rfl (zcj (K:=K) rfl (bv 3)) (zas (i:=10) zeg rfl (Or.inr rfl) (.inl rfl))
  (zaj (zbc (i:=11) zeg rfl (Or.inl rfl) (bv 1) (by rfl) (.inl rfl))
 (zaj (zcq (zbj zyg (zaz zcn (zbk (zcf (K:=K) rfl) (bv 0) (bv 6) (fun _ _=>rfl)) zak) zak (zcd _)) (zan (zhh (i:=11) (zcc (N':=["_law_name", "_law_up_here", "_law_arm"]) (own:=["_law_name"]) (fr:=[2,10]) (by kernel_rfl)) rfl (zcj (K:=K) rfl (bv 1)) ?hb1 (by rfl) zeg rfl rfl (by intro _;rfl))) zbt)
 (zaj (zdq (zfu (K:=K) rfl qh qj qi zdj (bv 9) (zaa (zbk (zcf (K:=K) rfl) (bv 11) (zaz zcn (bv 8) (zaw (zbo (K:=K) rfl) (by rfl) T.len zbw (zaa (bv 11) zag (by rfl)) (by decide) (by decide) (zai (by rfl)) (by rfl))) (fun _ _=>rfl)) zag (by rfl)) (by rfl) (by rfl) (by rfl) (zai (by rfl)) (by rfl)) (by rfl))
 (zan (zbc (i:=8) zeg rfl (Or.inl rfl) (zaz zdy (bv 8) (zaw (zbo (K:=K) rfl) (by rfl) T.len zbw (zaa (bv 11) zag (by rfl)) (by decide) (by decide) (zai (by rfl)) (by rfl))) (by rfl) (.inl rfl)))))) (by intro _;rfl))
 (zan (zcq (zbj (zzl (K:=K) rfl hr.units) (zdf (zes (K:=K) rfl) (by rfl) T.tuple zdx (zaa (bv 9) zag (by rfl)) (by decide) (by decide) (zai (by rfl)) (by rfl)) (zdu (zcc (N':=["_law_one", "_law_row"]) (own:=["_law_one", "_law_row"]) (fr:=[]) (by kernel_rfl)) rfl (zcj (K:=K) rfl (bv 5)) ?hb3 (by intro _;rfl)) (by rfl)) (zan (zdq (zfu (K:=K) rfl qh qj qi zdj (bv 5) (zaa (zbs (zaa (bv 7) (zaa (zdf (zes (K:=K) rfl) (by rfl) T.tuple zdx (zaa (bv 9) zag (by rfl)) (by decide) (by decide) (zai (by rfl)) (by rfl)) zag (by rfl)) (by rfl))) zag (by rfl)) (by rfl) (by rfl) (by rfl) (zai (by rfl)) (by rfl)) (by rfl))) zbt))))) (by intro _;rfl))
 (zan (zbi (bv 5)))))
  case hb1=>(intro cl C s H fp;refine' ⟨Bx.out (zas (i:=0) ztz rfl (Or.inr rfl) (by first|exact .inl rfl|exact .inr rfl|assumption)),Bx.out (zjq (zbz (K:=K) rfl (zaw (zmb (K:=K) rfl rfl) (by rfl) T.any zpi (zaa (zdu (zcc (N':=["_law_one", "_law_name", "_law_up_here"]) (own:=["_law_one"]) (fr:=[0,1]) (by kernel_rfl)) rfl (zcj (K:=K) rfl (zch D_law_parts (hr.mono (by decide)) (by rfl) (zaa (bv 2) zag (by rfl)) (by decide) (zai (by rfl)) (by rfl))) ?hb2 (by intro _;rfl)) zag (by rfl)) (by decide) (by decide) (zai (by rfl)) (by rfl)) (fun _=>rfl))),Bx.out (bv 0)⟩;case hb2=>(intro cl C s H fp;refine' ⟨Bx.out (zas (i:=0) zua rfl (Or.inl rfl) (by first|exact .inl rfl|exact .inr rfl|assumption)),Bx.out zgb,Bx.out (zgo (zaon (K:=K) rfl) (bv 1) (znh hu (bv 2) (bv 0) (fun _ _=>rfl)) (by rfl))⟩))
  case hb3=>(intro cl C s H fp;refine' ⟨Bx.out (zct (K:=K) (n:=2) rfl rfl (zax (zas (i:=0) zms rfl (Or.inl rfl) (by first|exact .inl rfl|exact .inr rfl|assumption)) (zax (zas (i:=1) zms rfl (Or.inl rfl) (by first|exact .inl rfl|exact .inr rfl|assumption)) zcs (by rfl)) (by rfl)) (by rfl) (by rfl)),Bx.out zgb,Bx.out (bv 1)⟩)
 exact fn_d (f:=ztj) ((zat (zbp (zfb zal)) (zat (zhn (ztc (zac (zad 4) zal)) (zfc (zbb (zbb zdn))) (zat (zbp (zav zee (zbn (zad 6)) (se_c fun _=>zaf))) (zat (zbp (zfb zal)) (zat (zhn (zei (zad 3)) zeq (zat (zbp (zad 1)) (zat (zem (st_t (zav zyu (zav zcu (zbn (zad 6)) (se_c fun _=>zaf)) (se_c fun _=>zaf))) (zbp (zds (zei (zad 1)) zeq (zlf (by decide)) (zfw (zdb zqu (zac (zds (zei (zbu (zac (zad 2) zal))) zeq (zlf (by decide)) zii (zav zaid (zad 1) (zne (zad 0)))) zal))) (zad 0))) zda) (zat (zkd (zbn (zav zcu (zad 8) (zdb zdr (zac (zad 11) zal))))) (zbp (zav zee (zad 8) (zdb zdr (zac (zad 11) zal)))))))) (zem (st_t (zav zapc (zdb zid (zac (zad 9) zal)) (zds (zei (zad 5)) (zfc (zbb (zbb zdn))) (zih (zby (by decide) (zby (by decide) zga))) zii (zad 1)))) (zkd (zck (zac (zad 7) (zac (zdb zid (zac (zad 9) zal)) zal)))) zda))))) zmd))) h
theorem zaki {f:Addr} {fd:qAB} (F:Fun K "_law_on" "_law_on" znk f fd) (T:Txt mg) (D_law_parts:zol P w K mg base):FnOk P w K mg base CX0 2 f fd ["_law_up_here", "_law_arm", "_law_kind"] (spD 3 zgq):=by
 refine F.ok zake (fun vs H Q E h=>zcw h) (fun cdv A outer s H vs Q E hr h=>?_)
 have hu:=zfy hr
 apply Exists.intro
 apply And.intro
 ·refine' Bx.out (zan (zbi (zaw (zmb (K:=K) rfl rfl) (by rfl) T.any zpi (zaa (zdu (zcc (N':=["_law_name", "_law_up_here", "_law_kind"]) (own:=["_law_name"]) (fr:=[0,2]) (by kernel_rfl)) rfl (zcj (K:=K) rfl (zch D_law_parts (hr.mono (by decide)) (by rfl) (zaa (bv 1) zag (by rfl)) (by decide) (zai (by rfl)) (by rfl))) ?hb1 (by intro _;rfl)) zag (by rfl)) (by decide) (by decide) (zai (by rfl)) (by rfl))))
  case hb1=>(intro cl C s H fp;refine' ⟨Bx.out (zas (i:=0) zaai rfl (Or.inl rfl) (by first|exact .inl rfl|exact .inr rfl|assumption)),Bx.out zgb,Bx.out (zgo (zaon (K:=K) rfl) (bv 2) (znh hu (bv 1) (bv 0) (fun _ _=>rfl)) (by rfl))⟩)
 exact fn_d (f:=zaes) ((zce (zdb zqu (zac (zds (zei (zbu (zac (zad 1) zal))) zeq (zlf (by decide)) zii (zav zaid (zad 2) (zne (zad 0)))) zal)))) h
theorem zacw {f:Addr} {fd:qAB} (F:Fun K "_law_fits" "_law_fits" zjj f fd) (T:Txt mg) (D_law_on:zse P w K mg base):FnOk P w K mg base CX0 3 f fd ["_law_up_here", "_law_kinds", "_law_call_here"] (spD 3 zbl):=by
 refine F.ok zaco (fun vs H Q E h=>zcw h) (fun cdv A outer s H vs Q E hr h=>?_)
 have hu:=zfy hr
 apply Exists.intro
 apply And.intro
 ·refine' Bx.out (zaj (zft qz rfl (zpg (K:=K) rfl rfl T.enumerate (zaa (bv 1) zag (by rfl)) (by rfl)) (zct (K:=K) (n:=2) rfl rfl (zax (zas (i:=3) zoi rfl (Or.inl rfl) (.inl rfl)) (zax (zas (i:=4) zoi rfl (Or.inl rfl) (.inl rfl)) zcs (by rfl)) (by rfl)) (by rfl) (by rfl))
  (zan (zcq (zgl (zbz (K:=K) rfl (zch D_law_on (hr.mono (by decide)) (by rfl) (zaa (bv 0) (zaa (zbk (zcf (K:=K) rfl) (bv 2) (bv 3) (fun _ _=>rfl)) (zaa (bv 4) zag (by rfl)) (by rfl)) (by rfl)) (by decide) (zai (by rfl)) (by rfl)) (fun _=>rfl))) (zan (zbi zhg)) zbt)) (by intro _;rfl))
 (zan (zbi zhg)))
 exact fn_d (f:=zns) ((zat (zhn (zael (zac (zad 1) zal)) (zfc (zbb (zbb zdn))) (zem (ziq (zfw (zbu (zac (zad 0) (zac (zbn (zad 3)) (zac (zad 4) zal)))))) (zce (se_c fun _=>zbf)) zda)) (zce (se_c fun _=>zbf)))) h
theorem zacx {f:Addr} {fd:qAB} (F:Fun K "_law_good" "_law_good" zjk f fd) (T:Txt mg) (D_law_fits:znl P w K mg base) (D_law_on:zse P w K mg base):FnOk P w K mg base CX0 4 f fd ["_law_up_here", "_law_rules_here", "_law_call_here", "_law_cell"] (spD 4 zkt):=by
 refine F.ok zacp (fun vs H Q E h=>zcw h) (fun cdv A outer s H vs Q E hr h=>?_)
 have hu:=zfy hr
 apply Exists.intro
 apply And.intro
 ·refine' Bx.out (zaj (zbc (i:=4) zfm rfl (Or.inl rfl) (zdo zag) (by rfl) (.inl rfl))
 (zaj (zbc (i:=5) zfm rfl (Or.inl rfl) (bv 3) (by rfl) (.inl rfl))
 (zaj (zhh (i:=6) (zcc (N':=["_law_rule", "_law_up_here", "_law_call_here"]) (own:=["_law_rule"]) (fr:=[0,2]) (by kernel_rfl)) rfl (zcj (K:=K) rfl (bv 1)) ?hb1 (by rfl) zfm rfl rfl (by intro _;rfl))
 (zaj (zft qz rfl (zcj (K:=K) rfl (bv 1)) (zct (K:=K) (n:=2) rfl rfl (zax (zas (i:=7) zfm rfl (Or.inl rfl) (.inl rfl)) (zax (zas (i:=8) zfm rfl (Or.inr rfl) (.inl rfl)) zcs (by rfl)) (by rfl)) (by rfl) (by rfl))
  (zaj (zhh (i:=9) (zcc (N':=["_law_k", "_law_up_here", "_law_call_here", "_law_kinds"]) (own:=["_law_k"]) (fr:=[0,2,8]) (by kernel_rfl)) rfl (zkr rfl T.range (zaa (zaw (zbo (K:=K) rfl) (by rfl) T.len zbw (zaa (bv 8) zag (by rfl)) (by decide) (by decide) (zai (by rfl)) (by rfl)) zag (by rfl)) (by rfl)) ?hb2 (by rfl) zfm rfl rfl (by intro _;rfl))
 (zaj (zhh (i:=10) (zcc (N':=["_law_one", "_law_other", "_law_up_here", "_law_kinds"]) (own:=["_law_one", "_law_other"]) (fr:=[0,8]) (by kernel_rfl)) rfl (zcj (K:=K) rfl (bv 6)) ?hb3 (by rfl) zfm rfl rfl (by intro _;rfl))
 (zaj (zcq (zbj zyg (zaw (zbo (K:=K) rfl) (by rfl) T.len zbw (zaa (bv 9) zag (by rfl)) (by decide) (by decide) (zai (by rfl)) (by rfl)) zak (zcd _)) (zan (zdq (zfu (K:=K) rfl qh qj qi zdj (bv 4) (zaa (zbs (zaa zbr (zaa (zbk (zcf (K:=K) rfl) (bv 9) (zaz zcn (bv 5) (zaw (zbo (K:=K) rfl) (by rfl) T.len zbw (zaa (bv 9) zag (by rfl)) (by decide) (by decide) (zai (by rfl)) (by rfl))) (fun _ _=>rfl)) zag (by rfl)) (by rfl))) zag (by rfl)) (by rfl) (by rfl) (by rfl) (zai (by rfl)) (by rfl)) (by rfl))) (zan (zcq (zbj zyg (zaw (zbo (K:=K) rfl) (by rfl) T.len zbw (zaa (bv 10) zag (by rfl)) (by decide) (by decide) (zai (by rfl)) (by rfl)) zak (zcd _)) (zan (zdq (zfu (K:=K) rfl qh qj qi zdj (bv 4) (zaa (zbs (zaa zbr (zaa (zbk (zcf (K:=K) rfl) (bv 10) (zaz zcn (bv 5) (zaw (zbo (K:=K) rfl) (by rfl) T.len zbw (zaa (bv 10) zag (by rfl)) (by decide) (by decide) (zai (by rfl)) (by rfl))) (fun _ _=>rfl)) zag (by rfl)) (by rfl))) zag (by rfl)) (by rfl) (by rfl) (by rfl) (zai (by rfl)) (by rfl)) (by rfl))) (zan (zdq (zfu (K:=K) rfl qh qj qi zdj (bv 4) (zaa (zbs (zaa zbr zag (by rfl))) zag (by rfl)) (by rfl) (by rfl) (by rfl) (zai (by rfl)) (by rfl)) (by rfl))))))
 (zan (zbc (i:=5) zfm rfl (Or.inl rfl) (zaz zdy (bv 5) zak) (by rfl) (.inl rfl)))))) (by intro _;rfl))
 (zan (zbi (bv 4)))))))
  case hb1=>(intro cl C s H fp;refine' ⟨Bx.out (zas (i:=0) zuu rfl (Or.inl rfl) (by first|exact .inl rfl|exact .inr rfl|assumption)),Bx.out (zjq (zbz (K:=K) rfl (zch D_law_fits (hr.mono (by decide)) (by rfl) (zaa (bv 1) (zaa (zbk (zcf (K:=K) rfl) (bv 0) zak (fun _ _=>rfl)) (zaa (bv 2) zag (by rfl)) (by rfl)) (by rfl)) (by decide) (zai (by rfl)) (by rfl)) (fun _=>rfl))),Bx.out (bv 0)⟩)
  case hb2=>(intro cl C s H fp;refine' ⟨Bx.out (zas (i:=0) zuv rfl (Or.inl rfl) (by first|exact .inl rfl|exact .inr rfl|assumption)),Bx.out (zjq (zgl (zbz (K:=K) rfl (zch D_law_on (hr.mono (by decide)) (by rfl) (zaa (bv 1) (zaa (zbk (zcf (K:=K) rfl) (bv 2) (bv 0) (fun _ _=>rfl)) (zaa (zbk (zcf (K:=K) rfl) (bv 3) (bv 0) (fun _ _=>rfl)) zag (by rfl)) (by rfl)) (by rfl)) (by decide) (zai (by rfl)) (by rfl)) (fun _=>rfl)))),Bx.out (bv 0)⟩)
  case hb3=>(intro cl C s H fp;refine' ⟨Bx.out (zct (K:=K) (n:=2) rfl rfl (zax (zas (i:=0) znw rfl (Or.inl rfl) (by first|exact .inl rfl|exact .inr rfl|assumption)) (zax (zas (i:=1) znw rfl (Or.inl rfl) (by first|exact .inl rfl|exact .inr rfl|assumption)) zcs (by rfl)) (by rfl)) (by rfl) (by rfl)),Bx.out (zjq (zlj (zbj (zqy (K:=K) rfl hr.units) (bv 1) (bv 3) (zcd _)) (zix (zbz (K:=K) rfl (zch D_law_fits (hr.mono (by decide)) (by rfl) (zaa (bv 2) (zaa (bv 3) (zaa (bv 1) zag (by rfl)) (by rfl)) (by rfl)) (by decide) (zai (by rfl)) (by rfl)) (fun _=>rfl)))).pt),Bx.out (bv 0)⟩)
 exact fn_d (f:=zvo) ((zat (zbp (zfb zal)) (zat (zbp (zad 3)) (zat (zbp (zds (zei (zad 1)) zeq (zlf (by decide)) (zfw (zbu (zac (zad 1) (zac (zbn (se_c fun _=>zaf)) (zac (zad 2) zal))))) (zad 0))) (zat (zhn (zei (zad 1)) (zfc (zbb (zbb zdn))) (zat (zbp (zds (zme (zac (zdb zdr (zac (zad 8) zal)) zal)) zeq (zlf (by decide)) (ziq (zfw (zbu (zac (zad 1) (zac (zbn (zad 0)) (zac (zbn (zad 0)) zal)))))) (zad 0))) (zat (zbp (zds (zei (zad 6)) (zfc (zbb (zbb zdn))) (zih (zby (by decide) (zby (by decide) zga))) (zou (st_t (zav zyv (zad 1) (zad 3))) (zfw (zbu (zac (zad 2) (zac (zad 3) (zac (zad 1) zal)))))) (zad 0))) (zat (zem (st_t (zav zyu (zdb zdr (zac (zad 9) zal)) (se_c fun _=>zaf))) (zkd (zck (zac (se_c fun _=>zay) (zac (zbn (zav zcu (zad 5) (zdb zdr (zac (zad 9) zal)))) zal)))) (zem (st_t (zav zyu (zdb zdr (zac (zad 10) zal)) (se_c fun _=>zaf))) (zkd (zck (zac (se_c fun _=>zay) (zac (zbn (zav zcu (zad 5) (zdb zdr (zac (zad 10) zal)))) zal)))) (zkd (zck (zac (se_c fun _=>zay) zal))))) (zbp (zav zee (zad 5) (se_c fun _=>zaf))))))) zmd))))) h
theorem zug {f:Addr} {fd:qAB} (F:Fun K "_law_item_put" "_law_item_put" zfr f fd) (T:Txt mg)  : FnOk P w K mg base CX0 1 f fd ["_law_paper_here", "_law_item_here", "_law_rules_here", "_law_place", "_law_choice", "_law_cell"] (spM 6 zfp):=by
 refine F.ok ztt (fun vs H Q E h=>zark h) (fun cdv A outer s H vs Q E hr h=>?_)
 have hu:=zfy hr
 apply Exists.intro
 apply And.intro
 ·refine' Bx.out (zaj (zbc (i:=6) zfh rfl (Or.inl rfl) (zbk (zcf (K:=K) rfl) (zbk (zcf (K:=K) rfl) (bv 2) (zaz zcn (bv 5) (zaw (zbo (K:=K) rfl) (by rfl) T.len zbw (zaa (bv 2) zag (by rfl)) (by decide) (by decide) (zai (by rfl)) (by rfl))) (fun _ _=>rfl)) zak (fun _ _=>rfl)) (by rfl) (.inl rfl))
 (zaj (zbc (i:=7) zfh rfl (Or.inl rfl) (zdo (zaa (zbs (zaa zbr zag (by rfl))) (zaa (zbs (zaa zbr (zaa (bv 6) zag (by rfl)) (by rfl))) (zaa (zbs (zaa zbr (zaa (zaz zcn (bv 5) zak) zag (by rfl)) (by rfl))) (zaa (zbs (zaa zbr (zaa (zgo (zeb (K:=K) rfl hr.units) (zaz zcn (bv 5) zak) zak (zcd _)) zag (by rfl)) (by rfl))) (zaa (zbs (zaa zbr (zaa (zaz zqs zak zak) zag (by rfl)) (by rfl))) (zaa (zbs zag) zag (by rfl)) (by rfl)) (by rfl)) (by rfl)) (by rfl)) (by rfl))) (by rfl) (.inl rfl))
 (zaj (zbc (i:=7) zfh rfl (Or.inl rfl) (zaz (zci (K:=K) rfl) (bv 7) (zdo (zaa (zdf (zjb (K:=K) rfl) (by rfl) T.list zhj (zaa (bv 1) zag (by rfl)) (by decide) (by decide) (zai (by rfl)) (by rfl)) (zaa (zaz (zci (K:=K) rfl) (bv 1) (zbs (zaa zak zag (by rfl)))) (zaa (zdl (sl_W (K:=K) rfl) (bv 1) zfl (zdc zak)) (zaa (zbs (zaa zbr (zaa (bv 6) zag (by rfl)) (by rfl))) (zaa zace (zaa (zbs (zaa zbr (zaa (bv 6) zag (by rfl)) (by rfl))) (zaa (bv 6) (zaa (zbs (zaa zbr (zaa zak zag (by rfl)) (by rfl))) zag (by rfl)) (by rfl)) (by rfl)) (by rfl)) (by rfl)) (by rfl)) (by rfl)) (by rfl)))) (by rfl) (.inl rfl))
 (zaj (zbc (i:=7) zfh rfl (Or.inl rfl) (zaz (zci (K:=K) rfl) (bv 7) (zdo (zaa (zbs (zaa zbr (zaa (zdo (zaa (bv 6) zag (by rfl))) zag (by rfl)) (by rfl))) (zaa (zbs (zaa zbr (zaa (zaeo (zzo (bv 6) zak zaen) rfl rfl (by simp) (by decide)) zag (by rfl)) (by rfl))) (zaa (zbs (zaa zbr zag (by rfl))) (zaa (zbs (zaa zbr zag (by rfl))) (zaa (zbs (zaa (bv 6) zag (by rfl))) (zaa (zbs (zaa zak zag (by rfl))) (zaa (zbs (zaa (zdo (zaa (bv 6) zag (by rfl))) zag (by rfl))) zag (by rfl)) (by rfl)) (by rfl)) (by rfl)) (by rfl)) (by rfl)) (by rfl)))) (by rfl) (.inl rfl))
 (zaj (zbc (i:=7) zfh rfl (Or.inl rfl) (zaz (zci (K:=K) rfl) (bv 7) (zdo (zaa (zbs (zaa zbr zag (by rfl))) (zaa (zbs (zaa zbr zag (by rfl))) zag (by rfl)) (by rfl)))) (by rfl) (.inl rfl))
 (zan (zani (bv 0) (bv 3) (zbk (zcf (K:=K) rfl) (bv 7) (bv 4) (fun _ _=>rfl)) (by intro _;rfl) (by rfl) (by rfl) (by rfl))))))))
 exact fn_m (by decide) (f:=znt) ((ztd (zte (zav zaie (zbn (zav zcu (zad 5) (zdb zdr (zac (zad 2) zal)))) (se_c fun _=>zaf)) (by decide)) (ztd (zte (zfb (zac (zck (zac (se_c fun _=>zay) zal)) (zac (zck (zac (se_c fun _=>zay) (zac (zad 6) zal))) (zac (zck (zac (se_c fun _=>zay) (zac (zav zcu (zad 5) (se_c fun _=>zaf)) zal))) (zac (zck (zac (se_c fun _=>zay) (zac (zav zgk (zav zcu (zad 5) (se_c fun _=>zaf)) (se_c fun _=>zaf)) zal))) (zac (zck (zac (se_c fun _=>zay) (zac (zav zqt (se_c fun _=>zaf) (se_c fun _=>zaf)) zal))) (zac (zck zal) zal))))))) (by decide)) (ztd (zte (zav zfa (zad 7) (zfb (zac (zdb zqb (zac (zad 1) zal)) (zac (zav zfa (zad 1) (zck (zac (se_c fun _=>zaf) zal))) (zac (zaua (zad 1) zgs (zeh (se_c fun _=>zaf))) (zac (zck (zac (se_c fun _=>zay) (zac (zad 6) zal))) (zac (se_c fun _=>znb) (zac (zck (zac (se_c fun _=>zay) (zac (zad 6) zal))) (zac (zad 6) (zac (zck (zac (se_c fun _=>zay) (zac (se_c fun _=>zaf) zal))) zal)))))))))) (by decide)) (ztd (zte (zav zfa (zad 7) (zfb (zac (zck (zac (se_c fun _=>zay) (zac (zfb (zac (zad 6) zal)) zal))) (zac (zck (zac (se_c fun _=>zay) (zac (zatn (zad 6) (se_c fun _=>zaf)) zal))) (zac (zck (zac (se_c fun _=>zay) zal)) (zac (zck (zac (se_c fun _=>zay) zal)) (zac (zck (zac (zad 6) zal)) (zac (zck (zac (se_c fun _=>zaf) zal)) (zac (zck (zac (zfb (zac (zad 6) zal)) zal)) zal))))))))) (by decide)) (ztd (zte (zav zfa (zad 7) (zfb (zac (zck (zac (se_c fun _=>zay) zal)) (zac (zck (zac (se_c fun _=>zay) zal)) zal)))) (by decide)) (zanj (zad 3) (zbn (zad 4))))))))) h
theorem zaau {f:Addr} {fd:qAB} (F:Fun K "_law_paper" "_law_paper" zia f fd) (T:Txt mg) (D_law_item_put:zny P w K mg base):FnOk P w K mg base CX0 2 f fd ["_law_good_here", "_law_rules_here", "_law_cells"] (spD 3 zhs):=by
 refine F.ok zaaf (fun vs H Q E h=>zcw h) (fun cdv A outer s H vs Q E hr h=>?_)
 have hu:=zfy hr
 apply Exists.intro
 apply And.intro
 ·refine' Bx.out (zaj (zbc (i:=3) zin rfl (Or.inl rfl) (zdf (zjb (K:=K) rfl) (by rfl) T.list zhj (zaa (bv 0) zag (by rfl)) (by decide) (by decide) (zai (by rfl)) (by rfl)) (by rfl) (.inl rfl))
 (zaj (zcq (zlj (zbj zyg (zaz zcn (zbk (zcf (K:=K) rfl) (bv 2) zak (fun _ _=>rfl)) zak) zak (zcd _)) (zix (zbj zyg (zaw (zbo (K:=K) rfl) (by rfl) T.len zbw (zaa (bv 3) zag (by rfl)) (by decide) (by decide) (zai (by rfl)) (by rfl)) zak (zcd _)))).pt (zaj (zbc (i:=4) zin rfl (Or.inl rfl) (zaz zcn (zbk (zcf (K:=K) rfl) (bv 2) zak (fun _ _=>rfl)) (zaw (zbo (K:=K) rfl) (by rfl) T.len zbw (zaa (bv 3) zag (by rfl)) (by decide) (by decide) (zai (by rfl)) (by rfl))) (by rfl) (.inl rfl))
 (zan (zdq (zch D_law_item_put (hr.mono (by decide)) (by rfl) (zaa (bv 3) (zaa (zbk (zcf (K:=K) rfl) (bv 0) (bv 4) (fun _ _=>rfl)) (zaa (bv 1) (zaa (bv 4) (zaa (zaz zcn (zaz zdy (zbk (zcf (K:=K) rfl) (bv 2) zak (fun _ _=>rfl)) zak) zak) (zaa (zaz zdy (zbk (zcf (K:=K) rfl) (bv 2) zak (fun _ _=>rfl)) zak) zag (by rfl)) (by rfl)) (by rfl)) (by rfl)) (by rfl)) (by rfl)) (by decide) (zai (by rfl)) (by rfl)) (by rfl)))) zbt)
 (zaj (zcq (zlj (zbj zyg (zaz zcn (zbk (zcf (K:=K) rfl) (bv 2) zak (fun _ _=>rfl)) zak) zak (zcd _)) (zix (zbj zyg (zaw (zbo (K:=K) rfl) (by rfl) T.len zbw (zaa (bv 3) zag (by rfl)) (by decide) (by decide) (zai (by rfl)) (by rfl)) zak (zcd _)))).pt (zaj (zbc (i:=4) zin rfl (Or.inl rfl) (zaz zcn (zbk (zcf (K:=K) rfl) (bv 2) zak (fun _ _=>rfl)) (zaw (zbo (K:=K) rfl) (by rfl) T.len zbw (zaa (bv 3) zag (by rfl)) (by decide) (by decide) (zai (by rfl)) (by rfl))) (by rfl) (.inl rfl))
 (zan (zdq (zch D_law_item_put (hr.mono (by decide)) (by rfl) (zaa (bv 3) (zaa (zbk (zcf (K:=K) rfl) (bv 0) (bv 4) (fun _ _=>rfl)) (zaa (bv 1) (zaa (bv 4) (zaa (zaz zcn (zaz zdy (zbk (zcf (K:=K) rfl) (bv 2) zak (fun _ _=>rfl)) zak) zak) (zaa (zaz zdy (zbk (zcf (K:=K) rfl) (bv 2) zak (fun _ _=>rfl)) zak) zag (by rfl)) (by rfl)) (by rfl)) (by rfl)) (by rfl)) (by rfl)) (by decide) (zai (by rfl)) (by rfl)) (by rfl)))) zbt)
 (zaj (zbc (i:=5) zin rfl (Or.inl rfl) (zaz zcn (zaz zdy (zbk (zcf (K:=K) rfl) (bv 2) zak (fun _ _=>rfl)) zak) (zaz (zci (K:=K) rfl) (zaw (zbo (K:=K) rfl) (by rfl) T.len zbw (zaa (bv 3) zag (by rfl)) (by decide) (by decide) (zai (by rfl)) (by rfl)) zak)) (by rfl) (.inl rfl))
 (zaj (zcq (zbj (zeb (K:=K) rfl hr.units) (zaz zcn (zbk (zcf (K:=K) rfl) (bv 2) zak (fun _ _=>rfl)) zak) zak (zcd _)) (zan (zbi (zaz (zci (K:=K) rfl) (zdl (zlw (K:=K) rfl) (bv 3) zfl (zdc (bv 5))) (zdl (zlw (K:=K) rfl) (bv 3) (zdc (zaz (zci (K:=K) rfl) (bv 5) zak)) zfl)))) zbt)
 (zaj (zcq (zbj (zeb (K:=K) rfl hr.units) (zaz zcn (zbk (zcf (K:=K) rfl) (bv 2) zak (fun _ _=>rfl)) zak) zak (zcd _)) (zan (zbi (zaz (zci (K:=K) rfl) (zaz (zci (K:=K) rfl) (zdl (zlw (K:=K) rfl) (bv 3) zfl (zdc (bv 5))) (zdo (zaa (zbs (zaa zbr zag (by rfl))) zag (by rfl)))) (zdl (zlw (K:=K) rfl) (bv 3) (zdc (bv 5)) zfl)))) zbt)
 (zaj (zcq (zbj (zeb (K:=K) rfl hr.units) (zaz zcn (zbk (zcf (K:=K) rfl) (bv 2) zak (fun _ _=>rfl)) zak) zak (zcd _)) (zan (zbi (zbk (zcf (K:=K) rfl) (zdo (zaa (zdf (zes (K:=K) rfl) (by rfl) T.tuple zdx (zaa (bv 3) zag (by rfl)) (by decide) (by decide) (zai (by rfl)) (by rfl)) (zaa zace (zaa (zajt (K:=K) rfl (bv 3) (zdc (zaph zaoj zak))) (zaa zpf (zaa zbr zag (by rfl)) (by rfl)) (by rfl)) (by rfl)) (by rfl))) (zaz zcn (zaz zdy (zbk (zcf (K:=K) rfl) (bv 2) zak (fun _ _=>rfl)) zak) zak) (fun _ _=>rfl)))) zbt)
 (zan (zbi (bv 3))))))))))
 exact fn_d (f:=ztk) ((zat (zbp (zdb zqb (zac (zad 0) zal))) (zat (zem (zou (st_t (zav zyu (zav zcu (zbn (se_c fun _=>zaf)) (se_c fun _=>zaf)) (se_c fun _=>zaf))) (st_t (zav zyu (zdb zdr (zac (zad 3) zal)) (se_c fun _=>zaf)))) (zat (zbp (zav zcu (zbn (se_c fun _=>zaf)) (zdb zdr (zac (zad 3) zal)))) (zaeq (zac (zbn (zad 4)) (zac (zad 1) (zac (zad 4) (zac (zav zcu (zav zee (zbn (se_c fun _=>zaf)) (se_c fun _=>zaf)) (se_c fun _=>zaf)) (zac (zav zee (zbn (se_c fun _=>zaf)) (se_c fun _=>zaf)) zal))))))) zda) (zat (zem (zou (st_t (zav zyu (zav zcu (zbn (se_c fun _=>zaf)) (se_c fun _=>zaf)) (se_c fun _=>zaf))) (st_t (zav zyu (zdb zdr (zac (zad 3) zal)) (se_c fun _=>zaf)))) (zat (zbp (zav zcu (zbn (se_c fun _=>zaf)) (zdb zdr (zac (zad 3) zal)))) (zaeq (zac (zbn (zad 4)) (zac (zad 1) (zac (zad 4) (zac (zav zcu (zav zee (zbn (se_c fun _=>zaf)) (se_c fun _=>zaf)) (se_c fun _=>zaf)) (zac (zav zee (zbn (se_c fun _=>zaf)) (se_c fun _=>zaf)) zal))))))) zda) (zat (zbp (zav zcu (zav zee (zbn (se_c fun _=>zaf)) (se_c fun _=>zaf)) (zav zfa (zdb zdr (zac (zad 3) zal)) (se_c fun _=>zaf)))) (zat (zem (st_t (zav zgk (zav zcu (zbn (se_c fun _=>zaf)) (se_c fun _=>zaf)) (se_c fun _=>zaf))) (zce (zav zfa (zmc (zad 3) zgs (zeh (zad 5))) (zmc (zad 3) (zeh (zav zfa (zad 5) (se_c fun _=>zaf))) zgs))) zda) (zat (zem (st_t (zav zgk (zav zcu (zbn (se_c fun _=>zaf)) (se_c fun _=>zaf)) (se_c fun _=>zaf))) (zce (zav zfa (zav zfa (zmc (zad 3) zgs (zeh (zad 5))) (zfb (zac (zck (zac (se_c fun _=>zay) zal)) zal))) (zmc (zad 3) (zeh (zad 5)) zgs))) zda) (zat (zem (st_t (zav zgk (zav zcu (zbn (se_c fun _=>zaf)) (se_c fun _=>zaf)) (se_c fun _=>zaf))) (zce (zav zaie (zfb (zac (zdb zid (zac (zad 3) zal)) (zac (se_c fun _=>znb) (zac (zapd (zad 3) (zeh (zaov (se_c fun _=>zaf)))) (zac zwq (zac (se_c fun _=>zay) zal)))))) (zav zcu (zav zee (zbn (se_c fun _=>zaf)) (se_c fun _=>zaf)) (se_c fun _=>zaf)))) zda) zmd)))))))) h
theorem zacy {f:Addr} {fd:qAB} (F:Fun K "_law_item" "_law_item" zjl f fd) (T:Txt mg) (D_law_fits:znl P w K mg base) (D_law_on:zse P w K mg base):FnOk P w K mg base CX0 4 f fd ["_law_up_here", "_law_rules_here", "_law_kinds", "_law_call_here", "_law_item_here"] (spD 5 zjd):=by
 refine F.ok zacq (fun vs H Q E h=>zcw h) (fun cdv A outer s H vs Q E hr h=>?_)
 have hu:=zfy hr
 apply Exists.intro
 apply And.intro
 ·refine' Bx.out (zaj (zcq (zqz (zgl (zbz (K:=K) rfl (zaw (zfn (K:=K) rfl) (by rfl) T.isinstance zcl (zaa (bv 4) (zaa (zgp (v:=.ty "tuple") (by rfl) T.tuple zdx rfl (by decide) (by decide)) zag (by rfl)) (by rfl)) (by decide) (by decide) (zai (by rfl)) (by rfl)) (fun _=>rfl))) (zoh (zbj (zeb (K:=K) rfl hr.units) (zaw (zbo (K:=K) rfl) (by rfl) T.len zbw (zaa (bv 4) zag (by rfl)) (by decide) (by decide) (zai (by rfl)) (by rfl)) zak (zcd _)))).pt (zan (zbi zhg)) zbt)
 (zaj (zcq (zlj (zbj (zeb (K:=K) rfl hr.units) (zbk (zcf (K:=K) rfl) (bv 4) zak (fun _ _=>rfl)) zbr (zcd _)) (zix (zbj (zeb (K:=K) rfl hr.units) (zaw (zbo (K:=K) rfl) (by rfl) T.len zbw (zaa (bv 4) zag (by rfl)) (by decide) (by decide) (zai (by rfl)) (by rfl)) zak (zcd _)))).pt (zaj (zcq (zqz (zgl (zbz (K:=K) rfl (zaw (zfn (K:=K) rfl) (by rfl) T.isinstance zcl (zaa (zbk (zcf (K:=K) rfl) (bv 4) zak (fun _ _=>rfl)) (zaa (zgp (v:=.ty "int") (by rfl) T.int zaet rfl (by decide) (by decide)) zag (by rfl)) (by rfl)) (by decide) (by decide) (zai (by rfl)) (by rfl)) (fun _=>rfl))) (zqz (zbz (K:=K) rfl (zaw (zfn (K:=K) rfl) (by rfl) T.isinstance zcl (zaa (zbk (zcf (K:=K) rfl) (bv 4) zak (fun _ _=>rfl)) (zaa (zgp (v:=.ty "bool") (by rfl) T.bool ztm rfl (by decide) (by decide)) zag (by rfl)) (by rfl)) (by decide) (by decide) (zai (by rfl)) (by rfl)) (fun _=>rfl)) (zoh (zgl (zzp zasp zalm zak (zbk (zcf (K:=K) rfl) (bv 4) zak (fun _ _=>rfl)) (zaw (zbo (K:=K) rfl) (by rfl) T.len zbw (zaa (bv 2) zag (by rfl)) (by decide) (by decide) (zai (by rfl)) (by rfl)) (by with_unfolding_all rfl)))))).pt (zan (zbi zhg)) zbt)
 (zan (zbi (zaju (zch D_law_on (hr.mono (by decide)) (by rfl) (zaa (bv 0) (zaa (zbk (zcf (K:=K) rfl) (bv 3) (zbk (zcf (K:=K) rfl) (bv 4) zak (fun _ _=>rfl)) (fun _ _=>rfl)) (zaa (zbk (zcf (K:=K) rfl) (bv 2) (zbk (zcf (K:=K) rfl) (bv 4) zak (fun _ _=>rfl)) (fun _ _=>rfl)) zag (by rfl)) (by rfl)) (by rfl)) (by decide) (zai (by rfl)) (by rfl)))))) zbt)
 (zaj (zcq (zgl (zbz (K:=K) rfl (zch D_law_fits (hr.mono (by decide)) (by rfl) (zaa (bv 0) (zaa (bv 2) (zaa (bv 3) zag (by rfl)) (by rfl)) (by rfl)) (by decide) (zai (by rfl)) (by rfl)) (fun _=>rfl))) (zan (zbi zhg)) zbt)
 (zaj (zcq (zlj (zbj (zeb (K:=K) rfl hr.units) (zbk (zcf (K:=K) rfl) (bv 4) zak (fun _ _=>rfl)) zbr (zcd _)) (zix (zbj (zeb (K:=K) rfl hr.units) (zaw (zbo (K:=K) rfl) (by rfl) T.len zbw (zaa (bv 4) zag (by rfl)) (by decide) (by decide) (zai (by rfl)) (by rfl)) zak (zcd _)))).pt (zaj (zhh (i:=5) (zcc (N':=["_law_name", "_law_other", "_law_item_here"]) (own:=["_law_name", "_law_other"]) (fr:=[4]) (by kernel_rfl)) rfl (zcj (K:=K) rfl (bv 1)) ?hb1 (by rfl) ztv rfl rfl (by intro _;rfl))
 (zaj (zcq (zqz (zbj (zeb (K:=K) rfl hr.units) (zaw (zbo (K:=K) rfl) (by rfl) T.len zbw (zaa (bv 5) zag (by rfl)) (by decide) (by decide) (zai (by rfl)) (by rfl)) zak (zcd _)) (zoh (zbj (zeb (K:=K) rfl hr.units) (zbk (zcf (K:=K) rfl) (bv 5) zak (fun _ _=>rfl)) (bv 2) (zcd _)))).pt (zan (zbi zhg)) zbt)
 (zan (zbi (zqh (zch D_law_fits (hr.mono (by decide)) (by rfl) (zaa (bv 0) (zaa (zbk (zcf (K:=K) rfl) (bv 5) zak (fun _ _=>rfl)) (zaa (bv 3) zag (by rfl)) (by rfl)) (by rfl)) (by decide) (zai (by rfl)) (by rfl)) (zqg (zch D_law_fits (hr.mono (by decide)) (by rfl) (zaa (bv 0) (zaa (bv 2) (zaa (zbk (zcf (K:=K) rfl) (bv 5) zak (fun _ _=>rfl)) zag (by rfl)) (by rfl)) (by rfl)) (by decide) (zai (by rfl)) (by rfl)))))))) zbt)
 (zan (zbi (zgo (zeb (K:=K) rfl hr.units) (bv 4) (zbs (zaa zbr zag (by rfl))) (zcd _))))))))
  case hb1=>(intro cl C s H fp;refine' ⟨Bx.out (zct (K:=K) (n:=2) rfl rfl (zax (zas (i:=0) znx rfl (Or.inl rfl) (by first|exact .inl rfl|exact .inr rfl|assumption)) (zax (zas (i:=1) znx rfl (Or.inl rfl) (by first|exact .inl rfl|exact .inr rfl|assumption)) zcs (by rfl)) (by rfl)) (by rfl) (by rfl)),Bx.out (zjq (zbj (zapf (K:=K) rfl hr.units) (bv 0) (zbk (zcf (K:=K) rfl) (bv 2) zak (fun _ _=>rfl)) (zcd _))),Bx.out (bv 1)⟩)
 exact fn_d (f:=zvp) ((zat (zem (zyw (ziq (zfw (zln (zad 4) zow))) (st_t (zav zgk (zdb zdr (zac (zad 4) zal)) (se_c fun _=>zaf)))) (zce (se_c fun _=>zbf)) zda) (zat (zem (zou (st_t (zav zgk (zbn (se_c fun _=>zaf)) (se_c fun _=>zay))) (st_t (zav zgk (zdb zdr (zac (zad 4) zal)) (se_c fun _=>zaf)))) (zat (zem (zyw (ziq (zfw (zln (zbn (se_c fun _=>zaf)) zaii))) (zyw (zfw (zln (zbn (se_c fun _=>zaf)) zws)) (ziq (st_t (zady zatm zaqo (se_c fun _=>zaf) (zbn (se_c fun _=>zaf)) (zdb zdr (zac (zad 2) zal))))))) (zce (se_c fun _=>zbf)) zda) (zce (zaor (zbu (zac (zad 0) (zac (zbn (zbn (se_c fun _=>zaf))) (zac (zbn (zbn (se_c fun _=>zaf))) zal))))))) zda) (zat (zem (ziq (zfw (zbu (zac (zad 0) (zac (zad 2) (zac (zad 3) zal)))))) (zce (se_c fun _=>zbf)) zda) (zat (zem (zou (st_t (zav zgk (zbn (se_c fun _=>zaf)) (se_c fun _=>zay))) (st_t (zav zgk (zdb zdr (zac (zad 4) zal)) (se_c fun _=>zaf)))) (zat (zbp (zds (zei (zad 1)) (zfc (zbb (zbb zdn))) (zih (zby (by decide) (zby (by decide) zga))) (st_t (zav zapg (zad 0) (zbn (se_c fun _=>zaf)))) (zad 1))) (zat (zem (zyw (st_t (zav zgk (zdb zdr (zac (zad 5) zal)) (se_c fun _=>zaf))) (st_t (zav zgk (zbn (se_c fun _=>zaf)) (zad 2)))) (zce (se_c fun _=>zbf)) zda) (zce (zvh (zbu (zac (zad 0) (zac (zbn (se_c fun _=>zaf)) (zac (zad 3) zal)))) (zbu (zac (zad 0) (zac (zad 2) (zac (zbn (se_c fun _=>zaf)) zal)))))))) zda) (zce (zav zgk (zad 4) (zck (zac (se_c fun _=>zay) zal))))))))) h
theorem zux {f:Addr} {fd:qAB} (F:Fun K "_law_told_of" "_law_told_of" zgi f fd) (T:Txt mg)  : FnOk P w K mg base CX0 1 f fd ["_law_names_here"] (spD 1 zdd):=by
 refine F.ok zus (fun vs H Q E h=>zcw h) (fun cdv A outer s H vs Q E hr h=>?_)
 have hu:=zfy hr
 apply Exists.intro
 apply And.intro
 ·refine' Bx.out (zaj (zcq (zbj (zeb (K:=K) rfl hr.units) (zaw (zbo (K:=K) rfl) (by rfl) T.len zbw (zaa (bv 0) zag (by rfl)) (by decide) (by decide) (zai (by rfl)) (by rfl)) zak (zcd _)) (zan (zbi (zbs (zaa zbr zag (by rfl))))) zbt)
 (zaj (zcq (zbj (zeb (K:=K) rfl hr.units) (zaw (zbo (K:=K) rfl) (by rfl) T.len zbw (zaa (bv 0) zag (by rfl)) (by decide) (by decide) (zai (by rfl)) (by rfl)) zak (zcd _)) (zan (zbi (zbs (zaa zbr (zaa (zbk (zcf (K:=K) rfl) (bv 0) zak (fun _ _=>rfl)) zag (by rfl)) (by rfl))))) zbt)
 (zan (zbi (zbs (zaa zbr (zaa (zdf (zes (K:=K) rfl) (by rfl) T.tuple zdx (zaa (bv 0) zag (by rfl)) (by decide) (by decide) (zai (by rfl)) (by rfl)) zag (by rfl)) (by rfl)))))))
 exact fn_d (f:=zph) ((zat (zem (st_t (zav zgk (zdb zdr (zac (zad 0) zal)) (se_c fun _=>zaf))) (zce (zck (zac (se_c fun _=>zay) zal))) zda) (zat (zem (st_t (zav zgk (zdb zdr (zac (zad 0) zal)) (se_c fun _=>zaf))) (zce (zck (zac (se_c fun _=>zay) (zac (zbn (se_c fun _=>zaf)) zal)))) zda) (zce (zck (zac (se_c fun _=>zay) (zac (zdb zid (zac (zad 0) zal)) zal))))))) h
theorem zagj {f:Addr} {fd:qAB} (F:Fun K "_law_due" "_law_due" zkx f fd) (T:Txt mg) (D_law_fits:znl P w K mg base) (D_law_item:zwd P w K mg base) (D_law_told_of:ziy P w K mg base):FnOk P w K mg base CX0 5 f fd ["_law_up_here", "_law_rules_here", "_law_call_here", "_law_reply_here", "_law_paper_here"] (spD 5 zmo):=by
 refine F.ok zagf (fun vs H Q E h=>zcw h) (fun cdv A outer s H vs Q E hr h=>?_)
 have hu:=zfy hr
 apply Exists.intro
 apply And.intro
 ·refine' Bx.out (zaj (zcq (zqz (zgl (zbz (K:=K) rfl (zaw (zfn (K:=K) rfl) (by rfl) T.isinstance zcl (zaa (bv 4) (zaa (zgp (v:=.ty "list") (by rfl) T.list zhj rfl (by decide) (by decide)) zag (by rfl)) (by rfl)) (by decide) (by decide) (zai (by rfl)) (by rfl)) (fun _=>rfl))) (zoh (zbj (zqy (K:=K) rfl hr.units) (zaw (zbo (K:=K) rfl) (by rfl) T.len zbw (zaa (bv 4) zag (by rfl)) (by decide) (by decide) (zai (by rfl)) (by rfl)) (zaw (zbo (K:=K) rfl) (by rfl) T.len zbw (zaa (bv 1) zag (by rfl)) (by decide) (by decide) (zai (by rfl)) (by rfl)) (zcd _)))).pt (zan (zbi zhg)) zbt)
 (zaj (zbc (i:=5) zjm rfl (Or.inl rfl) (zdo zag) (by rfl) (.inl rfl))
 (zaj (zft qz rfl (zpg (K:=K) rfl rfl T.enumerate (zaa (bv 1) zag (by rfl)) (by rfl)) (zct (K:=K) (n:=2) rfl rfl (zax (zas (i:=6) zjm rfl (Or.inl rfl) (.inl rfl)) (zax (zas (i:=7) zjm rfl (Or.inl rfl) (.inl rfl)) zcs (by rfl)) (by rfl)) (by rfl) (by rfl))
  (zaj (zcq (zgl (zbz (K:=K) rfl (zch D_law_item (hr.mono (by decide)) (by rfl) (zaa (bv 0) (zaa (bv 1) (zaa (zbk (zcf (K:=K) rfl) (bv 7) zak (fun _ _=>rfl)) (zaa (bv 2) (zaa (zbk (zcf (K:=K) rfl) (bv 4) (bv 6) (fun _ _=>rfl)) zag (by rfl)) (by rfl)) (by rfl)) (by rfl)) (by rfl)) (by decide) (zai (by rfl)) (by rfl)) (fun _=>rfl))) (zan (zbi zhg)) zbt)
 (zan (zcq (zbj (zeb (K:=K) rfl hr.units) (zbk (zcf (K:=K) rfl) (bv 4) (bv 6) (fun _ _=>rfl)) (zbs (zaa zbr zag (by rfl))) (zcd _)) (zan (zdq (zfu (K:=K) rfl qh qj qi zdj (bv 5) (zaa (bv 7) zag (by rfl)) (by rfl) (by rfl) (by rfl) (zai (by rfl)) (by rfl)) (by rfl))) zbt))) (by intro _;rfl))
 (zaj (zft qz rfl (zcj (K:=K) rfl (bv 5)) (zct (K:=K) (n:=2) rfl rfl (zax (zas (i:=8) zjm rfl (Or.inl rfl) (.inl rfl)) (zax (zas (i:=9) zjm rfl (Or.inr rfl) (.inl rfl)) zcs (by rfl)) (by rfl)) (by rfl) (by rfl))
  (zan (zcq (zbz (K:=K) rfl (zaw (zmb (K:=K) rfl rfl) (by rfl) T.any zpi (zaa (zdu (zcc (N':=["_law_one", "_law_other", "_law_up_here", "_law_kinds"]) (own:=["_law_one", "_law_other"]) (fr:=[0,9]) (by kernel_rfl)) rfl (zcj (K:=K) rfl (bv 5)) ?hb1 (by intro _;rfl)) zag (by rfl)) (by decide) (by decide) (zai (by rfl)) (by rfl)) (fun _=>rfl)) (zan (zbi zhg)) zbt)) (by intro _;rfl))
 (zan (zbi (zgo (zeb (K:=K) rfl hr.units) (bv 3) (zch D_law_told_of (hr.mono (by decide)) (by rfl) (zaa (zdu (zcc (N':=["_law_name", "_law_kinds"]) (own:=["_law_name", "_law_kinds"]) (fr:=[]) (by kernel_rfl)) rfl (zcj (K:=K) rfl (bv 5)) ?hb2 (by intro _;rfl)) zag (by rfl)) (by decide) (zai (by rfl)) (by rfl)) (zcd _))))))))
  case hb1=>(intro cl C s H fp;refine' ⟨Bx.out (zct (K:=K) (n:=2) rfl rfl (zax (zas (i:=0) zpl rfl (Or.inl rfl) (by first|exact .inl rfl|exact .inr rfl|assumption)) (zax (zas (i:=1) zpl rfl (Or.inl rfl) (by first|exact .inl rfl|exact .inr rfl|assumption)) zcs (by rfl)) (by rfl)) (by rfl) (by rfl)),Bx.out zgb,Bx.out (zqh (zgo (zqy (K:=K) rfl hr.units) (bv 1) (bv 3) (zcd _)) (zqg (zch D_law_fits (hr.mono (by decide)) (by rfl) (zaa (bv 2) (zaa (bv 3) (zaa (bv 1) zag (by rfl)) (by rfl)) (by rfl)) (by decide) (zai (by rfl)) (by rfl))))⟩)
  case hb2=>(intro cl C s H fp;refine' ⟨Bx.out (zct (K:=K) (n:=2) rfl rfl (zax (zas (i:=0) zpm rfl (Or.inl rfl) (by first|exact .inl rfl|exact .inr rfl|assumption)) (zax (zas (i:=1) zpm rfl (Or.inl rfl) (by first|exact .inl rfl|exact .inr rfl|assumption)) zcs (by rfl)) (by rfl)) (by rfl) (by rfl)),Bx.out zgb,Bx.out (bv 0)⟩)
 exact fn_d (f:=zzs) ((zat (zem (zyw (ziq (zfw (zln (zad 4) zwr))) (st_t (zav zyv (zdb zdr (zac (zad 4) zal)) (zdb zdr (zac (zad 1) zal))))) (zce (se_c fun _=>zbf)) zda) (zat (zbp (zfb zal)) (zat (zhn (ztc (zac (zad 1) zal)) (zfc (zbb (zbb zdn))) (zat (zem (ziq (zfw (zbu (zac (zad 0) (zac (zad 1) (zac (zbn (se_c fun _=>zaf)) (zac (zad 2) (zac (zbn (zad 6)) zal)))))))) (zce (se_c fun _=>zbf)) zda) (zem (st_t (zav zgk (zbn (zad 6)) (zck (zac (se_c fun _=>zay) zal)))) (zkd (zad 7)) zda))) (zat (zhn (zei (zad 5)) (zfc (zbb (zbb zdn))) (zem (zfw (zdb zqu (zac (zds (zei (zad 5)) (zfc (zbb (zbb zdn))) (zih (zby (by decide) (zby (by decide) zga))) zii (zvh (zav zyv (zad 1) (zad 3)) (zbu (zac (zad 2) (zac (zad 3) (zac (zad 1) zal)))))) zal))) (zce (se_c fun _=>zbf)) zda)) (zce (zav zgk (zad 3) (zbu (zac (zds (zei (zad 5)) (zfc (zbb (zbb zdn))) (zih (zby (by decide) (zby (by decide) zga))) zii (zad 0)) zal))))))))) h
theorem zaav {f:Addr} {fd:qAB} (F:Fun K "_law_reply" "_law_reply" zib f fd) (T:Txt mg) (D_law_told_of:ziy P w K mg base):FnOk P w K mg base CX0 2 f fd ["_law_rules_here", "_law_paper_here", "_law_cell"] (spD 3 zju):=by
 refine F.ok zaah (fun vs H Q E h=>zcw h) (fun cdv A outer s H vs Q E hr h=>?_)
 have hu:=zfy hr
 apply Exists.intro
 apply And.intro
 ·refine' Bx.out (zaj (zbc (i:=3) zgd rfl (Or.inl rfl) (zdo zag) (by rfl) (.inl rfl))
 (zaj (zcq (zbz (K:=K) rfl (zaw (zfn (K:=K) rfl) (by rfl) T.isinstance zcl (zaa (bv 1) (zaa (zgp (v:=.ty "list") (by rfl) T.list zhj rfl (by decide) (by decide)) zag (by rfl)) (by rfl)) (by decide) (by decide) (zai (by rfl)) (by rfl)) (fun _=>rfl)) (zan (zhh (i:=3) (zcc (N':=["_law_rule", "_law_item_here"]) (own:=["_law_rule", "_law_item_here"]) (fr:=[]) (by kernel_rfl)) rfl (zqi (K:=K) rfl rfl T.zip (zaa (bv 0) (zaa (bv 1) zag (by rfl)) (by rfl)) (by rfl) (by rfl)) ?hb1 (by rfl) zgd rfl rfl (by intro _;rfl))) zbt)
 (zaj (zbc (i:=4) zgd rfl (Or.inl rfl) (zaz (zci (K:=K) rfl) (zdu (zcc (N':=["_law_name", "_law_kinds"]) (own:=["_law_name", "_law_kinds"]) (fr:=[]) (by kernel_rfl)) rfl (zcj (K:=K) rfl (bv 0)) ?hb2 (by intro _;rfl)) (zdo (zaa zbr zag (by rfl)))) (by rfl) (.inl rfl))
 (zaj (zbc (i:=5) zgd rfl (Or.inl rfl) (zbk (zcf (K:=K) rfl) (bv 4) (zaz zcn (zaz zdy (bv 2) zak) (zaw (zbo (K:=K) rfl) (by rfl) T.len zbw (zaa (bv 4) zag (by rfl)) (by decide) (by decide) (zai (by rfl)) (by rfl))) (fun _ _=>rfl)) (by rfl) (.inl rfl))
 (zaj (zbc (i:=6) zgd rfl (Or.inl rfl) (zdo (zaa (zbs (zaa zbr zag (by rfl))) (zaa (zbs (zaa zbr (zaa (bv 5) zag (by rfl)) (by rfl))) (zaa (zbs (zaa zbr (zaa (zdf (zes (K:=K) rfl) (by rfl) T.tuple zdx (zaa (zaz (zci (K:=K) rfl) (bv 3) (zdo (zaa (bv 5) zag (by rfl)))) zag (by rfl)) (by decide) (by decide) (zai (by rfl)) (by rfl)) zag (by rfl)) (by rfl))) (zaa (zbs (zaa zbr (zaa (zdf (zes (K:=K) rfl) (by rfl) T.tuple zdx (zaa (zdl (zlw (K:=K) rfl) (bv 3) (zdc zak) zfl) zag (by rfl)) (by decide) (by decide) (zai (by rfl)) (by rfl)) zag (by rfl)) (by rfl))) (zaa zace zag (by rfl)) (by rfl)) (by rfl)) (by rfl)) (by rfl))) (by rfl) (.inl rfl))
 (zaj (zbc (i:=6) zgd rfl (Or.inl rfl) (zaz (zci (K:=K) rfl) (bv 6) (zdo (zaa (zdo (zaa zbr (zaa (bv 5) zag (by rfl)) (by rfl))) (zaa (zbs (zaa zbr (zaa (bv 3) zag (by rfl)) (by rfl))) (zaa (zbs (zaa zbr (zaa (zdf (zes (K:=K) rfl) (by rfl) T.tuple zdx (zaa (zajt (K:=K) rfl (bv 3) (zdc (zaph zaoj zak))) zag (by rfl)) (by decide) (by decide) (zai (by rfl)) (by rfl)) zag (by rfl)) (by rfl))) (zaa (zbs (zaa zbr zag (by rfl))) (zaa (bv 5) zag (by rfl)) (by rfl)) (by rfl)) (by rfl)) (by rfl)))) (by rfl) (.inl rfl))
 (zaj (zcq (zbj zalm (zaz zcn (bv 2) zak) zak (zcd _)) (zan (zbi (zbk (zcf (K:=K) rfl) (bv 6) (zaz zcn (bv 2) zak) (fun _ _=>rfl)))) zbt)
 (zan (zbi (zch D_law_told_of (hr.mono (by decide)) (by rfl) (zaa (bv 3) zag (by rfl)) (by decide) (zai (by rfl)) (by rfl)))))))))))
  case hb1=>(intro cl C s H fp;refine' ⟨Bx.out (zct (K:=K) (n:=2) rfl rfl (zax (zas (i:=0) zmt rfl (Or.inl rfl) (by first|exact .inl rfl|exact .inr rfl|assumption)) (zax (zas (i:=1) zmt rfl (Or.inl rfl) (by first|exact .inl rfl|exact .inr rfl|assumption)) zcs (by rfl)) (by rfl)) (by rfl) (by rfl)),Bx.out (zjq (zbj (zaty (K:=K) rfl hr.units) (bv 1) (zbs (zaa zbr zag (by rfl))) (zcd _))),Bx.out (zbk (zcf (K:=K) rfl) (bv 0) zak (fun _ _=>rfl))⟩)
  case hb2=>(intro cl C s H fp;refine' ⟨Bx.out (zct (K:=K) (n:=2) rfl rfl (zax (zas (i:=0) zmu rfl (Or.inl rfl) (by first|exact .inl rfl|exact .inr rfl|assumption)) (zax (zas (i:=1) zmu rfl (Or.inl rfl) (by first|exact .inl rfl|exact .inr rfl|assumption)) zcs (by rfl)) (by rfl)) (by rfl) (by rfl)),Bx.out zgb,Bx.out (bv 0)⟩)
 exact fn_d (f:=ztl) ((zat (zbp (zfb zal)) (zat (zem (zfw (zln (zad 1) zwr)) (zbp (zds (zvl (zac (zad 0) (zac (zad 1) zal))) (zfc (zbb (zbb zdn))) (zih (zby (by decide) (zby (by decide) zga))) (st_t (zav zatz (zad 1) (zck (zac (se_c fun _=>zay) zal)))) (zbn (se_c fun _=>zaf)))) zda) (zat (zbp (zav zfa (zds (zei (zad 0)) (zfc (zbb (zbb zdn))) (zih (zby (by decide) (zby (by decide) zga))) zii (zad 0)) (zfb (zac (se_c fun _=>zay) zal)))) (zat (zbp (zbn (zav zcu (zav zee (zad 2) (se_c fun _=>zaf)) (zdb zdr (zac (zad 4) zal))))) (zat (zbp (zfb (zac (zck (zac (se_c fun _=>zay) zal)) (zac (zck (zac (se_c fun _=>zay) (zac (zad 5) zal))) (zac (zck (zac (se_c fun _=>zay) (zac (zdb zid (zac (zav zfa (zad 3) (zfb (zac (zad 5) zal))) zal)) zal))) (zac (zck (zac (se_c fun _=>zay) (zac (zdb zid (zac (zmc (zad 3) (zeh (se_c fun _=>zaf)) zgs) zal)) zal))) (zac (se_c fun _=>znb) zal))))))) (zat (zbp (zav zfa (zad 6) (zfb (zac (zfb (zac (se_c fun _=>zay) (zac (zad 5) zal))) (zac (zck (zac (se_c fun _=>zay) (zac (zad 3) zal))) (zac (zck (zac (se_c fun _=>zay) (zac (zdb zid (zac (zapd (zad 3) (zeh (zaov (se_c fun _=>zaf)))) zal)) zal))) (zac (zck (zac (se_c fun _=>zay) zal)) (zac (zad 5) zal)))))))) (zat (zem (st_t (zav zaqo (zav zcu (zad 2) (se_c fun _=>zaf)) (se_c fun _=>zaf))) (zce (zbn (zav zcu (zad 2) (se_c fun _=>zaf)))) zda) (zce (zbu (zac (zad 3) zal))))))))))) h
end
inductive Arm where
 | one (n:Str)
 | many (ns:List Str)
def Arm.parts:Arm→List Str
 | .one n=>[n]
 | .many ns=>ns
def armD:Arm→PyData
 | .one n=>.str n
 | .many ns=>.tuple (ns.map .str)
def zau (c:List Arm):PyData:=.tuple (c.map armD)
def zam (ks:List Str):PyData:=.tuple (ks.map .str)
def zbd (r:Str×List Str):PyData:=.tuple [.str r.1,zam r.2]
def zah (rs:List (Str×List Str)):PyData:=.list (rs.map zbd)
def zev (W:Web) (p:Nat) (rs:List (Str×List Str)):PyData:=.tuple [webD W,.int p,zah rs]
theorem zif (a:Arm):zcz [armD a]=some (zae a.parts,true):=by
 cases a with
 | one n=>rfl
 | many ns=>rfl
theorem zuh {c:List Arm} (hc:c.length<300) (ha:∀ a∈c,a.parts.length<300):zhi [zau c]=some (zae (c.flatMap Arm.parts),true):=by
 have k:zmi (gN 0) zdw (zbg (zbm 1 zcz (zab (eVar 0) aNil))) (gN 1) zdw (eVar 1) [.no,.no] (c.map armD)=some (c.flatMap fun a=>a.parts.map .str):=by
  refine ztb fun a hm=>⟨[.pl (armD a),.no],rfl,rfl,?_⟩
  have e:zbg (zbm 1 zcz (zab (eVar 0) aNil)) [.pl (armD a),.no]=some (a.parts.map .str,[]):=by
   unfold zbg
   rw [zbv (n:=1) (rs:=[⟨armD a,false,[]⟩]) rfl rfl (zif a)]
   rfl
  unfold innL
  rw [e]
  show (if (a.parts.map PyData.str).length<300 then zej (gN 1) zdw (eVar 1) [.pl (armD a),.no] (a.parts.map .str) else none)=_
  rw [if_pos (by rw [qC];exact ha a hm)]
  exact zec fun x _=>⟨[.pl (armD a),.pl (.str x)],rfl,rfl,vs x,rfl,rfl⟩
 have fl:(c.flatMap fun a=>a.parts.map PyData.str)=(c.flatMap Arm.parts).map .str:=by
  rw [List.map_flatMap]
 rw [fl] at k
 exact zed (env:=[.pl (zau c)]) rfl (zfi (zamy (own:=["arm", "name"]) (fr:=[]) (fi:=zbg (eVar 0)) (ds:=c.map armD) (bs:=[]) rfl (by rw [qC];exact hc) k))
theorem zaaw {W:Web} (h:WebOk W) {c:List Arm} (hc:c.length<300) (ha:∀ a∈c,a.parts.length<300) (hk:∀ a∈c,∀ n∈a.parts,n∈nm W):zkf [webD W,.int c.length,zau c]=some (.none,false):=by
 have hW:W.length≤12:=h.len
 have e2:eCB lenD (zab (eVar 2) aNil) [.pl (webD W),.pl (.int c.length),.pl (zau c)]=some (vi (c.map armD).length):=rfl
 have t:zbe (eOp neD (eCB lenD (zab (eVar 2) aNil)) (eVar 1)) [.pl (webD W),.pl (.int c.length),.pl (zau c)]=some false:=by
  refine zdk ?_
  unfold eOp
  rw [e2]
  show ((neD (.int ((c.map armD).length:Nat)) (.int (c.length:Nat))).bind fun z=>some (⟨z.1,z.2,bsOf z.1 ([]++[])⟩:Val))=_
  rw [qC]
  rw [zair];rfl
 have cn:zhf [webD W,zae (c.flatMap Arm.parts)]=some (.none,false):=zwv (by omega) fun n hn=>by
  obtain ⟨a,ha',hn'⟩:=qBn.mp hn
  exact hk a ha' n hn'
 exact zave (env:=[.pl (webD W),.pl (.int c.length),.pl (zau c)]) rfl (zao (if_f t rfl) (zaiq (zbv (n:=2) (rs:=[⟨webD W,false,[]⟩,⟨zae (c.flatMap Arm.parts),true,[]⟩]) (zaq rfl (zdi (zbv (n:=1) (rs:=[⟨zau c,false,[]⟩]) rfl rfl (zuh hc ha)))) rfl cn)))
def upA (W:Web) (a:Arm):List Str:=a.parts.foldl (fun ks n=>(up W n).foldl insS ks) []
theorem zxt {W:Web} {a:Arm} {x:Str}:x∈upA W a↔∃ n∈a.parts,x∈up W n:=by
 unfold upA
 have:∀ (l ks:List Str),x∈l.foldl (fun ks n=>(up W n).foldl insS ks) ks↔x∈ks∨∃ n∈l,x∈up W n:=by
  intro l
  induction l with
  | nil=>intro ks;simp
  | cons n l ih=>intro ks;rw [qBX,ih,zpa];simp [or_assoc]
 rw [this];simp
theorem zagk {W:Web} (h:WebOk W) {a:Arm} (hk:∀ n∈a.parts,n∈nm W):zmj [.dict (dS zba (ups W)),armD a]=some (zba (upA W a),true):=by
 have nd:∀ (l ks:List Str),ks.Nodup→(∀ x∈ks,x∈nm W)→(l.foldl (fun ks n=>(up W n).foldl insS ks) ks).Nodup∧∀ x∈l.foldl (fun ks n=>(up W n).foldl insS ks) ks,x∈nm W:=by
  intro l
  induction l with
  | nil=>intro ks h1 h2;exact ⟨h1,h2⟩
  | cons n l ih =>
   intro ks h1 h2
   refine ih _ (zww h1) fun x hx=>?_
   rcases zpa.mp hx with z|z
   ·exact h2 x z
   ·exact zaee h z
 obtain ⟨env',lp,s3,rfl⟩:=zgm (enc:=PyData.str) (g:=gN 3) (body:=sUpd 2 (zfd 0 (eVar 3))) (l:=a.parts) (env:=[.pl (.dict (dS zba (ups W))),.pl (armD a),.ac (zba []),.no])
  (fun pre env=>∃ s3,env=[.pl (.dict (dS zba (ups W))),.pl (armD a),.ac (zba (pre.foldl (fun ks n=>(up W n).foldl insS ks) [])),s3]) ⟨_,rfl⟩ (by
   rintro pre n post env hp ⟨s3,rfl⟩
   have hn:n∈nm W:=hk n (by rw [← hp];simp)
   refine ⟨[.pl (.dict (dS zba (ups W))),.pl (armD a),.ac (zba (pre.foldl (fun ks n=>(up W n).foldl insS ks) [])),.pl (.str n)],[.pl (.dict (dS zba (ups W))),.pl (armD a),.ac (zba ((pre++[n]).foldl (fun ks n=>(up W n).foldl insS ks) [])),.pl (.str n)],rfl,.inl ?_,_,rfl⟩
   ·have l1:=zais h n
    obtain ⟨n1,n2⟩:=nd pre [] qBv (by simp)
    have l2:=zma _ _ n1 n2
    have l3:=zsl h
    have lz:(zka (pre.foldl (fun ks n=>(up W n).foldl insS ks) [])).length+(zka (up W n)).length≤100000:=by unfold zka;rw [qC,qC];omega
    simp only [sUpd,zba,zfd,eVar,qAG,qAS,qF,keyD,zof,zng hn,qA2]
    rw [if_pos ⟨lz,by simp⟩,zog,qBi]
    simp [frzs])
 exact zed (env:=[.pl (.dict (dS zba (ups W))),.pl (armD a),.no,.no]) rfl (zao rfl (zao (for_list (zbv (n:=1) (rs:=[⟨armD a,false,[]⟩]) rfl rfl (zif a)) lp) rfl))
theorem zmw {W:Web} (h:WebOk W) {c:List Arm} (hc:c.length<300) (hk:∀ a∈c,∀ n∈a.parts,n∈nm W):zek [.dict (dS zba (ups W)),zau c]=some (.list (c.map fun a=>zba (upA W a)),true):=by
 have k:zej (gN 0) zdw (zbm 2 zmj (zab (eVar 1) (zab (eVar 0) aNil))) [.no,.pl (.dict (dS zba (ups W)))] (c.map armD)=some (c.map fun a=>zba (upA W a)) :=
  zec fun a hm=>⟨[.pl (armD a),.pl (.dict (dS zba (ups W)))],rfl,rfl,_,zbv (n:=2) (rs:=[⟨.dict (dS zba (ups W)),false,[]⟩,⟨armD a,false,[]⟩]) rfl rfl (zagk h (hk a hm)),rfl⟩
 exact zed (env:=[.pl (.dict (dS zba (ups W))),.pl (zau c)]) rfl (zfi (zdz (own:=["arm"]) (fr:=[0]) (fi:=zbg (eVar 1)) (ds:=c.map armD) (bs:=[]) rfl (by rw [qC];omega) k))
theorem zxu {α β:Type} (f:α→PyData) (g:β→PyData) (l:List α) (r:List β):List.zipWith (fun d e=>PyData.tuple [d,e]) (l.map f) (r.map g)=(l.zip r).map fun z=>PyData.tuple [f z.1,g z.2]:=by
 induction l generalizing r with
 | nil=>rfl
 | cons a l ih=>cases r with
  | nil=>rfl
  | cons b r=>rw [qa,qa,List.zipWith_cons_cons,ih,qAq,qa]
def fitB (W:Web) (ks:List Str) (c:List Arm):Bool:=(ks.zip c).all fun z=>decide (z.1∈upA W z.2)
theorem zaax {W:Web} {ks:List Str} {c:List Arm} (hc:c.length<300):zik [zam ks,.list (c.map fun a=>zba (upA W a))]=some (.bool (fitB W ks c),false):=by
 have it:zmk (zab (eVar 0) (zab (eVar 1) aNil)) [.pl (zam ks),.pl (.list (c.map fun a=>zba (upA W a)))]=some ((ks.zip c).map fun z=>PyData.tuple [.str z.1,zba (upA W z.2)],[]):=by
  show some (List.zipWith (fun d e=>PyData.tuple [d,e]) (ks.map .str) (c.map fun a=>zba (upA W a)),[]++[])=_
  rw [zxu];rfl
 have k:zej (gT 2 (zap 0 (zap 1 zco))) zdw (eDIn false (eVar 0) (eVar 1)) [.no,.no] ((ks.zip c).map fun z=>PyData.tuple [.str z.1,zba (upA W z.2)])=some ((ks.zip c).map fun z=>.bool (decide (z.1∈upA W z.2))) :=
  zec fun z _=>⟨[.pl (.str z.1),.pl (zba (upA W z.2))],rfl,rfl,vb (decide (z.1∈upA W z.2)),zajg (neg:=false) (fr:=false) (bs:=[]) rfl rfl,rfl⟩
 have lz:(ks.zip c).length≤c.length:=by rw [qA9];exact Nat.min_le_right _ _
 exact zed (env:=[.pl (zam ks),.pl (.list (c.map fun a=>zba (upA W a)))]) rfl (zfi (bs:=[]) (zarj (zdz (own:=["kind", "roof"]) (fr:=[]) it (by rw [qC];omega) k)))
def zep (W:Web) (ks ls:List Str):Bool:=!(ks==ls)&&(ks.zip ls).all fun z=>decide (z.2∈up W z.1)
theorem zpo:∀ (a b:List Str),PyData.eqvAll (a.map .str) (b.map .str)=(a==b)
 | [],[]=>rfl
 | [],_::_=>rfl
 | _::_,[]=>rfl
 | x::a,y::b=>by
  show (qH (.str x) (.str y)&&PyData.eqvAll (a.map .str) (b.map .str))=_
  rw [zpo a b]
  show ((x==y)&&(a==b))=_
  rfl
def LowS (ks:List Str):Prop:=∀ k∈ks,qN k=true
theorem zio {ks:List Str} (h:LowS ks):qI (zam ks)=true:=by
 obtain ⟨h1,h2⟩:=zke ks h
 unfold qI zam
 rw [qY]
 refine ⟨h1,decide_eq_true ?_⟩
 show qf (ks.map .str)+1≤64
 omega
theorem zxv {ks ls:List Str} (h1:LowS ks) (h2:LowS ls):neD (zam ks) (zam ls)=some (.bool (!(ks==ls)),false):=by
 unfold neD eqOk
 rw [zio h1,zio h2,Bool.and_self,Bool.or_true,if_pos rfl]
 show some (PyData.bool (!PyData.eqvAll (ks.map .str) (ls.map .str)),false)=_
 rw [zpo]
theorem zui {W:Web} (h:WebOk W) {ks ls:List Str} (h1:LowS ks) (h2:LowS ls) (hk:∀ k∈ks,k∈nm W) (hl:ks.length<300):zgc [.dict (dS zba (ups W)),zam ks,zam ls]=some (.bool (zep W ks ls),false):=by
 have it:zmk (zab (eVar 1) (zab (eVar 2) aNil)) [.pl (.dict (dS zba (ups W))),.pl (zam ks),.pl (zam ls)]=some ((ks.zip ls).map fun z=>PyData.tuple [.str z.1,.str z.2],[]):=by
  show some (List.zipWith (fun d e=>PyData.tuple [d,e]) (ks.map .str) (ls.map .str),[]++[])=_
  rw [zxu];rfl
 have k:zej (gT 2 (zap 0 (zap 1 zco))) zdw (eDIn false (eVar 1) (zfd 2 (eVar 0))) [.no,.no,.pl (.dict (dS zba (ups W)))] ((ks.zip ls).map fun z=>PyData.tuple [.str z.1,.str z.2])=some ((ks.zip ls).map fun z=>.bool (decide (z.2∈up W z.1))) :=
  zec fun z hz=>⟨[.pl (.str z.1),.pl (.str z.2),.pl (.dict (dS zba (ups W)))],rfl,rfl,vb (decide (z.2∈up W z.1)),zajg (neg:=false) (fr:=false) (bs:=[]) rfl (zajf (d:=zba (up W z.1)) (.inl rfl) rfl (by rw [zof,zng (hk z.1 (qAP hz).1)];rfl)),rfl⟩
 have lz:(ks.zip ls).length≤ks.length:=by rw [qA9];exact qAp _ _
 have e1:eOp neD (eVar 1) (eVar 2) [.pl (.dict (dS zba (ups W))),.pl (zam ks),.pl (zam ls)]=some (vb (!(ks==ls))):=by
  show ((neD (zam ks) (zam ls)).bind fun z=>some (⟨z.1,z.2,bsOf z.1 ([]++[])⟩:Val))=_
  rw [zxv h1 h2];rfl
 have e2:=zarj (f:=fun z:Str×Str=>decide (z.2∈up W z.1)) (zdz (own:=["low", "high"]) (fr:=[0]) it (by rw [qC];omega) k)
 refine zed (env:=[.pl (.dict (dS zba (ups W))),.pl (zam ks),.pl (zam ls)]) rfl (zfi (bs:=[]) ?_)
 unfold eAnd
 rw [e1,qF]
 unfold zep
 cases ks==ls with
 | true=>rfl
 | false=>exact e2
structure RulesOk (W:Web) (rs:List (Str×List Str)):Prop where
 low:∀ r∈rs,LowS r.2
 kinds:∀ r∈rs,∀ k∈r.2,k∈nm W
 few:∀ r∈rs,r.2.length<300
 len:rs.length<300
theorem RulesOk.filter {W:Web} {rs:List (Str×List Str)} (h:RulesOk W rs) (p:Str×List Str→Bool):RulesOk W (rs.filter p) :=
 ⟨fun r hr=>h.low r (qc.mp hr).1,fun r hr=>h.kinds r (qc.mp hr).1,fun r hr=>h.few r (qc.mp hr).1,qA0 (qAy _ _) h.len⟩
structure CallOk (W:Web) (c:List Arm):Prop where
 len:c.length<300
 few:∀ a∈c,a.parts.length<300
 kinds:∀ a∈c,∀ n∈a.parts,n∈nm W
def fitL (W:Web) (rs:List (Str×List Str)) (c:List Arm):List (Str×List Str):=rs.filter fun r=>fitB W r.2 c
def zde (W:Web) (rs:List (Str×List Str)):List (Str×List Str):=rs.filter fun r=>!(rs.any fun q=>zep W q.2 r.2)
theorem zxw {n:Nat} {g:GF} {f:AF} {env:DEnv} {rs:List Val} {b:Bool} (h:f env=some rs) (hn:rs.length=n) (k:g (zlc rs)=some (.bool b,false)):tTru (zbm n g f) env=some b:=by
 unfold tTru;rw [zbv h hn k];rfl
theorem zakj {α:Type} {f:α→Bool} {l:List α} {a:EF} {env:DEnv} {fr:Bool} {bs:List Nat} (ha:a env=some ⟨.list (l.map fun x=>.bool (f x)),fr,bs⟩):eCB (anyD fun bs=>bs.any id) (zab a aNil) env=some (vb (l.any f)):=by
 unfold eCB
 rw [zdi ha,qF]
 show ((zsr (l.map fun x=>.bool (f x))).map _).bind _=_
 rw [zta]
 simp only [qA2,qF,qBe]
 rfl
theorem zaay {W:Web} (h:WebOk W) {rs:List (Str×List Str)} (hr:RulesOk W rs):zil [.dict (dS zba (ups W)),zah rs]=some (zah (zde W rs),true):=by
 have hlen:=hr.len
 have k:zej (gN 0) (zef (tTru (eCB (anyD fun bs=>bs.any id) (zab (zdg ["name", "kinds"] [0,1] (zbg (eVar 2)) (gT 2 (zap 0 (zap 1 zco))) zdw (zbm 3 zgc (zab (eVar 3) (zab (eVar 1) (zab (eIxV 2 (eC (.int 1))) aNil))))) aNil)))) (eVar 0) [.no,.pl (.dict (dS zba (ups W))),.pl (zah rs)] (rs.map zbd)=some ((zde W rs).map zbd):=by
  refine zcy (enc:=zbd) (out:=zbd) (e:=eVar 0) (fun r=>!(rs.any fun q=>zep W q.2 r.2)) fun r hm=>⟨[.pl (zbd r),.pl (.dict (dS zba (ups W))),.pl (zah rs)],rfl,?_,fun _=>⟨⟨zbd r,false,[]⟩,rfl,rfl⟩⟩
  have k2:zej (gT 2 (zap 0 (zap 1 zco))) zdw (zbm 3 zgc (zab (eVar 3) (zab (eVar 1) (zab (eIxV 2 (eC (.int 1))) aNil)))) [.no,.no,.pl (zbd r),.pl (.dict (dS zba (ups W)))] (rs.map zbd)=some (rs.map fun q=>.bool (zep W q.2 r.2)) :=
   zec fun q hq=>⟨[.pl (.str q.1),.pl (zam q.2),.pl (zbd r),.pl (.dict (dS zba (ups W)))],rfl,rfl,_,zbv (n:=3) (rs:=[⟨.dict (dS zba (ups W)),false,[]⟩,⟨zam q.2,false,[]⟩,⟨zam r.2,false,[]⟩]) rfl rfl (zui h (hr.low q hq) (hr.low r hm) (hr.kinds q hq) (hr.few q hq)),rfl⟩
  exact zpd (zakj (f:=fun q:Str×List Str=>zep W q.2 r.2) (zdz (own:=["name", "kinds"]) (fr:=[0,1]) (fi:=zbg (eVar 2)) (env:=[.pl (zbd r),.pl (.dict (dS zba (ups W))),.pl (zah rs)]) (ds:=rs.map zbd) (bs:=[]) rfl (by rw [qC];omega) k2))
 exact zed (env:=[.pl (.dict (dS zba (ups W))),.pl (zah rs)]) rfl (zfi (zdz (own:=["rule"]) (fr:=[0,1]) (fi:=zbg (eVar 1)) (ds:=rs.map zbd) (bs:=[]) rfl (by rw [qC];omega) k))
theorem zaaz {rs:List (Str×List Str)} (hl:rs.length<300):zim [zah rs]=some (zae (rs.map (·.1)),true):=by
 have k:zej (gT 2 (zap 0 (zap 1 zco))) zdw (eVar 0) [.no,.no] (rs.map zbd)=some (rs.map fun r=>.str r.1):=zec fun r _=>⟨[.pl (.str r.1),.pl (zam r.2)],rfl,rfl,vs r.1,rfl,rfl⟩
 have e:(rs.map fun r=>PyData.str r.1)=(rs.map (·.1)).map .str:=by rw [qAa];rfl
 rw [e] at k
 exact zed (env:=[.pl (zah rs)]) rfl (zfi (zdz (own:=["name", "kinds"]) (fr:=[]) (fi:=zbg (eVar 0)) (ds:=rs.map zbd) (bs:=[]) rfl (by rw [qC];omega) k))
def zeu:List Str→PyData
 | []=>.tuple [.str "none"]
 | [x]=>.tuple [.str "rule",.str x]
 | xs=>.tuple [.str "quarrel",zam xs]
theorem zacz:∀ (xs:List Str),zjr [zae xs]=some (zeu xs,false)
 | []=>rfl
 | [x]=>rfl
 | x::y::xs=>by
  have t:zbe (eOp eqD (eCB lenD (zab (eVar 0) aNil)) (eC (.int 1))) [.pl (zae (x::y::xs))]=some false:=by
   rw [zdk (zrr (i:=((x::y::xs).map PyData.str).length) (j:=1) (zir rfl) rfl)]
   congr 1
  exact zed (env:=[.pl (zae (x::y::xs))]) rfl (zao (if_f rfl rfl) (zao (if_f t rfl) rfl))
theorem zsa {W:Web} (h:WebOk W) {rs:List (Str×List Str)} {c:List Arm} (hr:RulesOk W rs) (hc:CallOk W c):zfo [zev W c.length rs,zau c]=some (zah (fitL W rs c),true):=by
 have hl:=hr.len
 have e5:sSet 5 (zbm 2 zek (zab (zbm 1 zhp (zab (eVar 2) aNil)) (zab (eVar 1) aNil))) [.pl (zev W c.length rs),.pl (zau c),.pl (webD W),.pl (.int c.length),.pl (zah rs),.no]=some (.nx [.pl (zev W c.length rs),.pl (zau c),.pl (webD W),.pl (.int c.length),.pl (zah rs),.ac (.list (c.map fun a=>zba (upA W a)))]) :=
  zcg (r:=⟨.list (c.map fun a=>zba (upA W a)),true,[]⟩) (zbv (n:=2) (rs:=[⟨.dict (dS zba (ups W)),true,[]⟩,⟨zau c,false,[]⟩]) (zaq (zbv (n:=1) (rs:=[⟨webD W,false,[]⟩]) rfl rfl (zvj h)) (zdi rfl)) rfl (zmw h hc.len hc.kinds))
 have k:zej (gN 0) (tTru (zbm 2 zik (zab (eIxV 0 (eC (.int 1))) (zab (eVar 1) aNil)))) (eVar 0) [.no,.pl (.list (c.map fun a=>zba (upA W a)))] (rs.map zbd)=some ((fitL W rs c).map zbd) :=
  zcy (enc:=zbd) (out:=zbd) (e:=eVar 0) (fun r=>fitB W r.2 c) fun r hm=>⟨[.pl (zbd r),.pl (.list (c.map fun a=>zba (upA W a)))],rfl,zxw (n:=2) (rs:=[⟨zam r.2,false,[]⟩,⟨.list (c.map fun a=>zba (upA W a)),false,[]⟩]) rfl rfl (zaax hc.len),fun _=>⟨⟨zbd r,false,[]⟩,rfl,rfl⟩⟩
 exact zed (env:=[.pl (zev W c.length rs),.pl (zau c),.no,.no,.no,.no]) rfl (zao rfl (zao (zaiq (zbv (n:=3) (rs:=[⟨webD W,false,[]⟩,vi c.length,⟨zau c,false,[]⟩]) rfl rfl (zaaw h hc.len hc.few hc.kinds))) (zao e5 (zfi (zdz (own:=["rule"]) (fr:=[5]) (fi:=zbg (eVar 4)) (ds:=rs.map zbd) (bs:=[]) rfl (by rw [qC];omega) k)))))
def Two (x:Str):Prop:=∃ a b,∀ c∈x.cps.toList,c=a∨c=b
theorem zuj {x:Str} {l u:Option Int} {c:Nat} (h:c∈(Txt.slice x l u).cps.toList):c∈x.cps.toList:=by
 unfold Txt.slice at h
 split at h
 ·exact h
 ·have h:c∈(List.filterMap (x.cps[·]?) (Builtin.Str.strSliceIndices l u 1 x.length)):=by simpa using h
  obtain ⟨i,_,e⟩:=qBc.mp h
  have:=qCr e
  simpa using this
theorem zaba {a b:EF} {env:DEnv} {x y:List Str} {f1 f2:Bool} {b1 b2:List Nat} (ha:a env=some ⟨zae x,f1,b1⟩) (hb:b env=some ⟨zae y,f2,b2⟩) (h:x.length+y.length≤100000):eOp addD a b env=some ⟨zae (x++y),true,b1++b2⟩:=by
 unfold eOp
 rw [ha,hb]
 show ((if (x.map PyData.str).length+(y.map PyData.str).length≤100000 then some (PyData.list (x.map .str++y.map .str),true) else none).bind fun z=>some (⟨z.1,z.2,bsOf z.1 (b1++b2)⟩:Val))=_
 rw [if_pos (by rw [qC,qC];exact h),← qAQ]
 rfl
theorem zakk {a:EF} {l h:PF'} {env:DEnv} {x y:List Str} {f:Bool} {bs:List Nat} {lo hi:Option Int} (ha:a env=some ⟨zae x,f,bs⟩) (hl:l env=some lo) (hh:h env=some hi) (e:cutD (x.map .str) lo hi=y.map .str):eSl a l h env=some ⟨zae y,true,bs⟩:=by
 unfold eSl
 rw [ha,hl,hh]
 show (some (PyData.list (cutD (x.map .str) lo hi),true)).bind (fun z=>some (⟨z.1,z.2,bsOf z.1 bs⟩:Val))=_
 rw [e]
 rfl
theorem zakl {md o st at_:Int} {stem:Str} (h:∃ a,∀ x∈stem.cps.toList,x=a) (hst:0≤st) (k:Nat):Two (zlx md o st stem at_ k):=by
 obtain ⟨a,ha⟩:=h
 have l1:∀ (z:Int) (x:Nat),x∈(ltr z).cps.toList→x=97+z.toNat:=fun z x hx=>by unfold ltr at hx;simpa using hx
 unfold zlx
 split
 ·refine ⟨a,97+((o+st * k) % 26).toNat,fun x hx=>?_⟩
  rw [zli,zli] at hx
  rcases qv.mp hx with hx|hx
  ·rcases qv.mp hx with hx|hx
   ·exact .inl (ha x (zuj hx))
   ·exact .inr (l1 _ x hx)
  ·exact .inl (ha x (zuj hx))
 ·split
  ·refine ⟨a,97+((o+st * k) % 26).toNat,fun x hx=>?_⟩
   rw [zli] at hx
   rcases qv.mp hx with hx|hx
   ·exact .inl (ha x (zuj hx))
   ·exact .inr (l1 _ x hx)
  ·refine ⟨97+((o+(k:Int) / 8) % 26).toNat,0,fun x hx=>.inl ?_⟩
   unfold ltr at hx
   have:=qw ((k:Int) * st) (show (8:Int)≠0 by decide)
   rw [zpc (by omega)] at hx
   exact qBj hx
def zge:List Str:=["none", "rule", "quarrel", "near", "far", "out"]
theorem zqp {x:Str} {a b c:Nat} (h1:a∈x.cps.toList) (h2:b∈x.cps.toList) (h3:c∈x.cps.toList) (n1:a≠b) (n2:a≠c) (n3:b≠c):¬ Two x:=by
 rintro ⟨p,q,h⟩
 have:=h a h1
 have:=h b h2
 have:=h c h3
 omega
theorem zagl:∀ x∈zge,¬ Two x:=by
 intro x hx
 unfold zge at hx
 simp only [qg,qAi,or_false] at hx
 rcases hx with rfl|rfl|rfl|rfl|rfl|rfl
 ·exact zqp (a:=110) (b:=111) (c:=101) (by decide +kernel) (by decide +kernel) (by decide +kernel) (by decide) (by decide) (by decide)
 ·exact zqp (a:=114) (b:=117) (c:=108) (by decide +kernel) (by decide +kernel) (by decide +kernel) (by decide) (by decide) (by decide)
 ·exact zqp (a:=113) (b:=117) (c:=97) (by decide +kernel) (by decide +kernel) (by decide +kernel) (by decide) (by decide) (by decide)
 ·exact zqp (a:=110) (b:=101) (c:=97) (by decide +kernel) (by decide +kernel) (by decide +kernel) (by decide) (by decide) (by decide)
 ·exact zqp (a:=102) (b:=97) (c:=114) (by decide +kernel) (by decide +kernel) (by decide +kernel) (by decide) (by decide) (by decide)
 ·exact zqp (a:=111) (b:=117) (c:=116) (by decide +kernel) (by decide +kernel) (by decide +kernel) (by decide) (by decide) (by decide)
theorem zann:zge.Nodup:=by decide +kernel
theorem zakm:∀ x∈zge,Low x:=by
 intro x hx
 unfold zge at hx
 simp only [qg,qAi,or_false] at hx
 unfold Low
 rcases hx with rfl|rfl|rfl|rfl|rfl|rfl<;>decide +kernel
theorem zada (ds:List PyData) (k:Nat):cutD ds (some (k:Int)) none=ds.drop k:=by
 unfold cutD
 have e1:HT.sIx ds.length ds.length none=ds.length:=rfl
 rw [e1,HT.sIx_nat]
 rcases Nat.le_total k ds.length with h|h
 ·rw [Nat.min_eq_left h,qCm (by rw [qAc];exact qM _)]
 ·rw [Nat.min_eq_right h,qBR,List.drop_of_length_le h,List.take_nil]
theorem zrp {m c:Int} (m0:0≤m) (m16:m≤16) (c0:0≤c):∃ xs:List Str,zdv [.int m,.int c]=some (zae xs,true)∧xs.length=m.toNat∧xs.Nodup∧∀ x∈xs,Low x:=by
 have md:∀ (z j:Int),0<j→0≤z % j∧z % j<j:=fun z j hj=>⟨qw z (by omega),qx z hj⟩
 have i8:=md (c / 3) 8 (by decide)
 obtain ⟨st,hst,hmem⟩:=zarg i8.1 i8.2
 have st0:0≤st∧st<100:=by
  simp only [qg,qBm,or_false] at hmem
  rcases hmem with rfl|rfl|rfl|rfl|rfl|rfl|rfl|rfl<;>decide
 have o26:=md (c / 24) 26 (by decide)
 have j26:=md (c / 624) 26 (by decide)
 have n8:=md (c / 16224) 8 (by decide)
 have lowS:Low (Txt.mul (ltr (c / 624 % 26)) (c / 16224 % 8)):=Low.mul (by omega) n8.1
 have lenS:(Txt.mul (ltr (c / 624 % 26)) (c / 16224 % 8)).length≤7:=by unfold ltr;rw [zara n8.1];omega
 have s3:sSet 3 (eOp ixD (eTup (zab (eC (.int 1)) (zab (eC (.int 3)) (zab (eC (.int 5)) (zab (eC (.int 7)) (zab (eC (.int 9)) (zab (eC (.int 11)) (zab (eC (.int 15)) (zab (eC (.int 17)) aNil))))))))) (eOp modD (eOp zcv (eVar 1) (eC (.int 3))) (eC (.int 8)))) [.pl (.int m),.pl (.int c),.pl (.str abc),.no,.no,.no,.no,.no,.no,.no,.no,.no]=some (.nx [.pl (.int m),.pl (.int c),.pl (.str abc),.pl (.int st),.no,.no,.no,.no,.no,.no,.no,.no]):=by
  refine zcg (r:=vi st) ?_
  unfold eOp
  show ((some (⟨.tuple [PyData.int 1,.int 3,.int 5,.int 7,.int 9,.int 11,.int 15,.int 17],false,[]⟩:Val)).bind fun x=>((some (vi (c / 3 % 8))).bind fun y=>(ixD x.d y.d).bind fun z=>some (⟨z.1,z.2,bsOf z.1 (x.bs++y.bs)⟩:Val)))=_
  simp only [qF,ixD]
  rw [hst];rfl
 have s5:sSet 5 (eOp mulD (eIxV 2 (eOp modD (eOp zcv (eVar 1) (eC (.int 624))) (eC (.int 26)))) (eOp modD (eOp zcv (eVar 1) (eC (.int 16224))) (eC (.int 8)))) [.pl (.int m),.pl (.int c),.pl (.str abc),.pl (.int st),.pl (.int (c / 24 % 26)),.no,.no,.no,.no,.no,.no,.no] =
   some (.nx [.pl (.int m),.pl (.int c),.pl (.str abc),.pl (.int st),.pl (.int (c / 24 % 26)),.pl (.str (Txt.mul (ltr (c / 624 % 26)) (c / 16224 % 8))),.no,.no,.no,.no,.no,.no]) :=
  zcg (r:=vs _) (zaoz (zarf rfl rfl j26.1 j26.2) rfl ⟨by show 1≤1000;decide,by omega,by omega⟩)
 have oneS:∃ a,∀ x∈(Txt.mul (ltr (c / 624 % 26)) (c / 16224 % 8)).cps.toList,x=a:=⟨_,fun x hx=>by
  unfold ltr at hx
  rw [zpc n8.1] at hx
  exact qBj hx⟩
 generalize hO:c / 24 % 26=o at o26 s5
 generalize Txt.mul (ltr (c / 624 % 26)) (c / 16224 % 8)=stem at lowS lenS s5 oneS
 clear j26 n8 i8
 have s6:∃ at_:Int,sSet 6 (eOp modD (eOp zcv (eVar 1) (eC (.int 129792))) (eOp addD (eCB lenD (zab (eVar 5) aNil)) (eC (.int 1)))) [.pl (.int m),.pl (.int c),.pl (.str abc),.pl (.int st),.pl (.int o),.pl (.str stem),.no,.no,.no,.no,.no,.no]=some (.nx [.pl (.int m),.pl (.int c),.pl (.str abc),.pl (.int st),.pl (.int o),.pl (.str stem),.pl (.int at_),.no,.no,.no,.no,.no]) :=
  ⟨_,zcg (r:=vi _) (zgg rfl (zsy (zapa rfl (by omega)) rfl) (by omega))⟩
 obtain ⟨at_,s6⟩:=s6
 have loop:∃ env',forL (gN 8) (sSeq (sSet 9 (eIxV 2 (eOp modD (eOp addD (eVar 4) (eOp mulD (eVar 3) (eVar 8))) (eC (.int 26)))))
  (sIf (zbe (eOp eqD (eOp modD (eVar 1) (eC (.int 3))) (eC (.int 0)))) (sApp 7 (eOp addD (eOp addD (eSl (eVar 5) zfk (zcm (eVar 6))) (eVar 9)) (eSl (eVar 5) (zcm (eVar 6)) zfk))) (sIf (zbe (eOp eqD (eOp modD (eVar 1) (eC (.int 3))) (eC (.int 1)))) (sApp 7 (eOp addD (eSl (eVar 5) zfk (zcm (eOp modD (eOp mulD (eVar 8) (eVar 3)) (eOp addD (eCB lenD (zab (eVar 5) aNil)) (eC (.int 1)))))) (eVar 9))) (sApp 7 (eOp mulD (eIxV 2 (eOp modD (eOp addD (eVar 4) (eOp zcv (eVar 8) (eC (.int 8)))) (eC (.int 26)))) (eOp addD (eC (.int 1)) (eOp modD (eOp mulD (eVar 8) (eVar 3)) (eC (.int 8)))))))))
   ((List.range m.toNat).map fun (k:Nat)=>PyData.int (k:Int)) [.pl (.int m),.pl (.int c),.pl (.str abc),.pl (.int st),.pl (.int o),.pl (.str stem),.pl (.int at_),.ac (.list []),.no,.no,.no,.no]=some (.nx env') ∧
   ∃ s8 s9,env'=[.pl (.int m),.pl (.int c),.pl (.str abc),.pl (.int st),.pl (.int o),.pl (.str stem),.pl (.int at_),.ac (zae ((List.range m.toNat).map (zlx (c % 3) o st stem at_))),s8,s9,.no,.no]:=by
  refine zgm (fun pre env=>∃ s8 s9,env=[.pl (.int m),.pl (.int c),.pl (.str abc),.pl (.int st),.pl (.int o),.pl (.str stem),.pl (.int at_),.ac (zae (pre.map (zlx (c % 3) o st stem at_))),s8,s9,.no,.no]) ⟨_,_,rfl⟩ ?_
  rintro pre k post env hk ⟨s8,s9,rfl⟩
  have hkm:k<m.toNat:=qAb.mp (by rw [← hk];simp)
  have hpl:pre.length<100:=by
   have:=congrArg List.length hk
   simp at this
   omega
  have b1:0≤st * (k:Int):=qCf st0.1 (Int.natCast_nonneg _)
  have s26:=md (o+st * (k:Int)) 26 (by decide)
  have sl:∀ a b,(Txt.slice stem a b).length≤7:=fun a b=>qAX (Txt.slice_le stem a b) lenS
  have lz:stem.length≤100000:=qAX lenS (by decide)
  have l1:(ltr ((o+st * (k:Int)) % 26)).length=1:=rfl
  refine ⟨_,[.pl (.int m),.pl (.int c),.pl (.str abc),.pl (.int st),.pl (.int o),.pl (.str stem),.pl (.int at_),.ac (zae ((pre++[k]).map (zlx (c % 3) o st stem at_))),.pl (.int (k:Int)),.pl (.str (ltr ((o+st * (k:Int)) % 26))),.no,.no],rfl,.inl ?_,_,_,rfl⟩
  refine zao (zcg (r:=vs _) (zarf rfl (zgg (zsy rfl (zamp rfl rfl (.inl ⟨by omega,by omega⟩))) rfl (by decide)) s26.1 s26.2)) ?_
  have fin:∀ x:Str,x=zlx (c % 3) o st stem at_ k→(PyData.list ((pre.map (zlx (c % 3) o st stem at_)).map PyData.str++[.str x]))=zae ((pre++[k]).map (zlx (c % 3) o st stem at_)):=fun x e=>by
   unfold zae
   rw [qAQ,qAQ,e];rfl
  have lp:((pre.map (zlx (c % 3) o st stem at_)).map PyData.str).length<100000:=by rw [qC,qC];exact qCz hpl (by decide)
  by_cases h0:c % 3=0
  ·refine if_t (zdk (by rw [zrr (zgg rfl rfl (by decide)) rfl];rw [h0];rfl)) ?_
   have z1:=sl none (some at_)
   have z2:=sl (some at_) none
   refine (znp rfl (zajb (zajb (zarc rfl rfl (zlo rfl) lz) rfl (by omega)) (zarc rfl (zlo rfl) rfl lz) (by rw [zarh];omega)) lp).trans ?_
   rw [fin _ (by unfold zlx;rw [if_pos h0])];rfl
  ·refine if_f (zdk (by rw [zrr (zgg rfl rfl (by decide)) rfl];rw [beq_eq_false_iff_ne.mpr h0])) ?_
   by_cases h1:c % 3=1
   ·refine if_t (zdk (by rw [zrr (zgg rfl rfl (by decide)) rfl];rw [h1];rfl)) ?_
    have z1:=sl none (some ((k:Int) * st % ((stem.length:Int)+1)))
    refine (znp rfl (zajb (zarc rfl rfl (zlo (zgg (zamp rfl rfl (.inr ⟨by omega,by omega⟩)) (zsy (zapa rfl lz) rfl) (by omega))) lz) rfl (by omega)) lp).trans ?_
    rw [fin _ (by unfold zlx;rw [if_neg h0,if_pos h1])];rfl
   ·refine if_f (zdk (by rw [zrr (zgg rfl rfl (by decide)) rfl];rw [beq_eq_false_iff_ne.mpr h1])) ?_
    have t26:=md (o+(k:Int) / 8) 26 (by decide)
    have u8:=md ((k:Int) * st) 8 (by decide)
    refine (znp rfl (zaoz (zarf rfl (zgg (zsy rfl (zij rfl rfl (by decide) (by decide))) rfl (by decide)) t26.1 t26.2) (zsy rfl (zgg (zamp rfl rfl (.inr ⟨by omega,by omega⟩)) rfl (by decide))) ⟨by show 1≤1000;decide,by omega,by omega⟩) lp).trans ?_
    rw [fin _ (by unfold zlx;rw [if_neg h0,if_neg h1])];rfl
 obtain ⟨env',hl,s8,s9,rfl⟩:=loop
 generalize hN:(List.range m.toNat).map (zlx (c % 3) o st stem at_)=xs at hl
 have lx:xs.length=m.toNat:=by rw [← hN];simp
 have nx:xs.Nodup:=by rw [← hN];exact zsx fun a b ha hb e=>zaiz hmem o26.1 (by omega) (by omega) e
 have lo:∀ x∈xs,Low x:=fun x hx=>by
  rw [← hN] at hx
  obtain ⟨j,_,rfl⟩:=qAJ.mp hx
  exact zaja lowS o26.1 st0.1 j
 have tw:∀ x∈xs,Two x:=fun x hx=>by
  rw [← hN] at hx
  obtain ⟨j,_,rfl⟩:=qAJ.mp hx
  exact zakl oneS st0.1 j
 have it:zer (zab (eVar 0) aNil) [.pl (.int m),.pl (.int c),.pl (.str abc),.pl (.int st),.pl (.int o),.pl (.str stem),.pl (.int at_),.ac (.list []),.no,.no,.no,.no]=some ((List.range m.toNat).map fun (k:Nat)=>PyData.int (k:Int),[]):=by
  unfold zer
  rw [zdi (r:=vi m) rfl]
  simp only [qF]
  rw [if_pos ⟨by omega,by omega⟩,zmh]
 have run:∀ o',(sSeq (sIf (zbe (eOp eqD (eOp modD (eOp zcv (eVar 1) (eC (.int 1038336))) (eC (.int 6))) (eC (.int 5)))) (sSeq (sSet 10 (eLst (zab (eC (.str "none")) (zab (eC (.str "rule")) (zab (eC (.str "quarrel")) (zab (eC (.str "near")) (zab (eC (.str "far")) (zab (eC (.str "out")) aNil))))))))
  (sSeq (sSet 11 (eOp modD (eOp zcv (eVar 1) (eC (.int 6230016))) (eC (.int 6))))
  (sSet 7 (eSl (eOp addD (eOp addD (eSl (eVar 10) (zcm (eVar 11)) zfk) (eSl (eVar 10) zfk (zcm (eVar 11)))) (eSl (eVar 7) (zcm (eC (.int 6))) zfk)) zfk (zcm (eVar 0)))))) sNil)
  (zss 7)) [.pl (.int m),.pl (.int c),.pl (.str abc),.pl (.int st),.pl (.int o),.pl (.str stem),.pl (.int at_),.ac (zae xs),s8,s9,.no,.no]=o'→(zjs [.pl (.int m),.pl (.int c),.no,.no,.no,.no,.no,.no,.no,.no,.no,.no]=o'):=fun o' e =>
  zao rfl (zao s3 (zao (e1:=[.pl (.int m),.pl (.int c),.pl (.str abc),.pl (.int st),.pl (.int o),.no,.no,.no,.no,.no,.no,.no]) (by rw [← hO];rfl) (zao s5 (zao s6 (zao rfl (zao (zjo it hl) e))))))
 have t1:zbe (eOp eqD (eOp modD (eOp zcv (eVar 1) (eC (.int 1038336))) (eC (.int 6))) (eC (.int 5))) [.pl (.int m),.pl (.int c),.pl (.str abc),.pl (.int st),.pl (.int o),.pl (.str stem),.pl (.int at_),.ac (zae xs),s8,s9,.no,.no]=some (c / 1038336 % 6==5):=zdk (zrr (zgg (zij rfl rfl (by decide) (by decide)) rfl (by decide)) rfl)
 cases hb:(c / 1038336 % 6==5) with
 | false =>
  rw [hb] at t1
  exact ⟨xs,zed (env:=[.pl (.int m),.pl (.int c),.no,.no,.no,.no,.no,.no,.no,.no,.no,.no]) rfl (run _ (zao (if_f t1 rfl) rfl)),lx,nx,lo⟩
 | true =>
  rw [hb] at t1
  have m6:=md (c / 6230016) 6 (by decide)
  obtain ⟨q,hq,q6⟩:∃ q:Nat,c / 6230016 % 6=(q:Int)∧q≤6:=⟨(c / 6230016 % 6).toNat,by omega,by omega⟩
  have e11:sSet 11 (eOp modD (eOp zcv (eVar 1) (eC (.int 6230016))) (eC (.int 6))) [.pl (.int m),.pl (.int c),.pl (.str abc),.pl (.int st),.pl (.int o),.pl (.str stem),.pl (.int at_),.ac (zae xs),s8,s9,.ac (zae zge),.no]=some (.nx [.pl (.int m),.pl (.int c),.pl (.str abc),.pl (.int st),.pl (.int o),.pl (.str stem),.pl (.int at_),.ac (zae xs),s8,s9,.ac (zae zge),.pl (.int (q:Int))]):=by
   rw [← hq]
   exact zcg (r:=vi _) (zgg (zij rfl rfl (by decide) (by decide)) rfl (by decide))
  have cutW1:cutD (zge.map .str) (some (q:Int)) none=(zge.drop q).map .str:=by rw [zada,qBl]
  have cutW2:cutD (zge.map .str) none (some (q:Int))=(zge.take q).map .str:=by rw [zacc _ _ (by simpa [zge] using q6),qBI]
  have cutX:cutD (xs.map .str) (some ((6:Nat):Int)) none=(xs.drop 6).map .str:=by rw [zada,qBl]
  have lW:(zge.drop q++zge.take q).length=6:=by rw [qb,qAc,qAj];show 6 - q+min q 6=6;omega
  have lR:((zge.drop q++zge.take q)++xs.drop 6).length≥m.toNat:=by rw [qb,lW,qAc,lx];omega
  have cutM:cutD (((zge.drop q++zge.take q)++xs.drop 6).map .str) none (some (m.toNat:Int))=(((zge.drop q++zge.take q)++xs.drop 6).take m.toNat).map .str:=by rw [zacc _ _ (by rw [qC];exact lR),qBI]
  have hm:(m.toNat:Int)=m:=by omega
  rw [hm] at cutM
  have wl:(zge.drop q).length+(zge.take q).length≤100000:=by rw [← qb,lW];decide
  have a12:eOp addD (eSl (eVar 10) (zcm (eVar 11)) zfk) (eSl (eVar 10) zfk (zcm (eVar 11))) [.pl (.int m),.pl (.int c),.pl (.str abc),.pl (.int st),.pl (.int o),.pl (.str stem),.pl (.int at_),.ac (zae xs),s8,s9,.ac (zae zge),.pl (.int (q:Int))]=some ⟨zae (zge.drop q++zge.take q),true,[10]++[10]⟩ :=
   zaba (zakk (x:=zge) (f:=false) (bs:=[10]) rfl (zlo (i:=(q:Int)) rfl) rfl cutW1) (zakk (x:=zge) (f:=false) (bs:=[10]) rfl rfl (zlo (i:=(q:Int)) rfl) cutW2) wl
  have a3:eSl (eVar 7) (zcm (eC (.int 6))) zfk [.pl (.int m),.pl (.int c),.pl (.str abc),.pl (.int st),.pl (.int o),.pl (.str stem),.pl (.int at_),.ac (zae xs),s8,s9,.ac (zae zge),.pl (.int (q:Int))]=some ⟨zae (xs.drop 6),true,[7]⟩:=zakk (x:=xs) (f:=false) (bs:=[7]) rfl (zlo (i:=((6:Nat):Int)) rfl) rfl cutX
  have a4:=zakk (l:=zfk) (h:=zcm (eVar 0)) (zaba a12 a3 (by rw [lW,qAc,lx];omega)) rfl (zlo (i:=m) rfl) cutM
  refine ⟨((zge.drop q++zge.take q)++xs.drop 6).take m.toNat,zed (env:=[.pl (.int m),.pl (.int c),.no,.no,.no,.no,.no,.no,.no,.no,.no,.no]) rfl (run _ (zao (if_t t1 (zao rfl (zao e11 (zcg a4)))) rfl)),by rw [qAj];omega,?_,fun x hx=>?_⟩
  ·refine List.Nodup.sublist (qB8 _ _) ?_
   have pw:(zge.drop q++zge.take q).Perm zge:=by
    have:=List.perm_append_comm (l₁:=zge.drop q) (l₂:=zge.take q)
    rwa [qCs] at this
   refine qBN.mpr ⟨pw.nodup_iff.mpr zann,nx.sublist (List.drop_sublist _ _),fun a ha b hb e=>?_⟩
   subst e
   exact zagl a (pw.mem_iff.mp ha) (tw a (qAe hb))
  ·rcases qv.mp (qAd hx) with z|z
   ·refine zakm x ?_
    rcases qv.mp z with z|z
    ·exact qAe z
    ·exact qAd z
   ·exact lo x (qAe z)
theorem zabb {α:Type} (enc:α→PyData) (l:List α):zrq (l.map enc)=((List.range l.length).zip l).map fun z=>PyData.tuple [.int (z.1:Nat),enc z.2]:=by
 rw [zaeh]
 have:∀ (l:List α) (k:Nat),(l.zipIdx k).map (fun (p:α×Nat)=>PyData.tuple [.int (p.2:Int),enc p.1])=(((List.range l.length).map (·+k)).zip l).map fun z=>PyData.tuple [.int (z.1:Nat),enc z.2]:=by
  intro l
  induction l with
  | nil=>intro k;rfl
  | cons x l ih =>
   intro k
   rw [qCD,qa,ih,qAI,qCn,qa,qAq,qa,qCC]
   congr 3
   rw [qAa]
   refine qBU fun j _=>?_
   show j+(k+1)=j+1+k
   omega
 rw [this l 0]
 simp
theorem zakn {i:Nat} {f:EF} {env:DEnv} {ds:List PyData} {d:PyData} {fr:Bool} {bs:List Nat} (he:env[i]?=some (.ac (.list ds))) (hf:f env=some ⟨d,fr,bs⟩) (hl:ds.length<100000) (hi:i∉bs):sApp i f env=some (.nx ((frzs env bs).set i (.ac (.list (ds++[d]))))):=by
 unfold sApp
 rw [he,hf]
 show (if ds.length<100000∧i∉bs then _ else _)=_
 rw [if_pos ⟨hl,hi⟩]
theorem zako {a b:EF} {env:DEnv} {i j:Int} (ha:a env=some (vi i)) (hb:b env=some (vi j)):eOp gtD a b env=some (vb (decide (j<i))):=by
 unfold eOp;rw [ha,hb];rfl
theorem zarl (neg:Bool) (x a b:Str):inD neg (.str x) (.tuple [.str a,.str b])=some (.bool (if neg then !decide (x∈[a,b]) else decide (x∈[a,b])),false):=by
 unfold inD
 simp only [zig]
 rw [if_pos ⟨rfl,zgt [a,b]⟩]
 have:=zaec [a,b] x
 rw [qa,qa,qBd] at this
 rw [this]
theorem b64:-(2 ^ 64)<(4:Int)∧(4:Int)<2 ^ 64:=by omega
structure CallIn (xs:List Str) (c:List Arm):Prop where
 kinds:∀ a∈c,∀ n∈a.parts,n∈xs
 few:∀ a∈c,a.parts.length≤4
 some:∀ a∈c,a.parts≠[]
theorem CallIn.snoc {xs:List Str} {c:List Arm} {a:Arm} (h:CallIn xs c) (h1:∀ n∈a.parts,n∈xs) (h2:a.parts.length≤4) (h3:a.parts≠[]):CallIn xs (c++[a]):=by
 refine ⟨fun b hb=>?_,fun b hb=>?_,fun b hb=>?_⟩<;>rcases qv.mp hb with z|z
 ·exact h.kinds b z
 ·rw [qAV.mp z];exact h1
 ·exact h.few b z
 ·rw [qAV.mp z];exact h2
 ·exact h.some b z
 ·rw [qAV.mp z];exact h3
section
variable {A0 A2 A6 s8 s9:Sl} {ds:List PyData} {xs:List Str} {r:Int} {n at_:Nat}
theorem zakp {env:DEnv} {b:EF} {j:Nat} {i:Int} (h1:env[1]?=some (.pl (zae xs))) (hb:b env=some (vi i)) (hi:i=(j:Int)) (hj:j<xs.length):eIxV 1 b env=some (vs xs[j]):=by
 subst hi
 exact zqe (ds:=xs.map .str) h1 hb (by rw [qL,qE hj];rfl)
theorem zaez (hn:n=xs.length) (ha:at_<n):∃ hj:n - 1 - at_<xs.length,eIxV 1 (eOp subD (eOp subD (eVar 5) (eC (.int 1))) (eVar 7)) [A0,.pl (zae xs),A2,.ac (.list ds),.pl (.int r),.pl (.int (n:Int)),A6,.pl (.int (at_:Int)),s8,s9]=some (vs (xs[n - 1 - at_]'hj)):=by
 have hj:n - 1 - at_<xs.length:=by omega
 have e:(n:Int) - 1 - (at_:Int)=((n - 1 - at_:Nat):Int):=by omega
 exact ⟨hj,zakp rfl (zamo (i:=(n:Int) - 1) (j:=(at_:Int)) (zamo (i:=(n:Int)) (j:=1) rfl rfl) rfl) e hj⟩
theorem zarm (hn:n=xs.length) (ha:at_<n) (hl:ds.length<100000):∃ a:Arm,(∀ m∈a.parts,m∈xs)∧a.parts.length≤4∧a.parts≠[]∧sApp 3 (eTup (zab (eIxV 1 (eOp subD (eOp subD (eVar 5) (eC (.int 1))) (eVar 7))) aNil)) [A0,.pl (zae xs),A2,.ac (.list ds),.pl (.int r),.pl (.int (n:Int)),A6,.pl (.int (at_:Int)),s8,s9]=some (.nx [A0,.pl (zae xs),A2,.ac (.list (ds++[armD a])),.pl (.int r),.pl (.int (n:Int)),A6,.pl (.int (at_:Int)),s8,s9]):=by
 obtain ⟨hj,e⟩:=zaez (A0:=A0) (A2:=A2) (A6:=A6) (s8:=s8) (s9:=s9) (ds:=ds) (r:=r) hn ha
 refine ⟨.many [xs[n - 1 - at_]'hj],fun m hm=>by rw [qAV.mp hm];exact qy _,by show 1≤4;decide,by simp [Arm.parts],?_⟩
 refine znp (i:=3) (ds:=ds) (d:=armD (.many [xs[n - 1 - at_]'hj])) (fr:=false) rfl ?_ hl
 unfold eTup
 rw [zdi e]
 rfl
theorem zano (hn:n=xs.length) (ha:at_<n) (hl:ds.length<100000):∃ a:Arm,(∀ m∈a.parts,m∈xs)∧a.parts.length≤4∧a.parts≠[]∧sApp 3 (eIxV 1 (eOp subD (eOp subD (eVar 5) (eC (.int 1))) (eVar 7))) [A0,.pl (zae xs),A2,.ac (.list ds),.pl (.int r),.pl (.int (n:Int)),A6,.pl (.int (at_:Int)),s8,s9]=some (.nx [A0,.pl (zae xs),A2,.ac (.list (ds++[armD a])),.pl (.int r),.pl (.int (n:Int)),A6,.pl (.int (at_:Int)),s8,s9]):=by
 obtain ⟨hj,e⟩:=zaez (A0:=A0) (A2:=A2) (A6:=A6) (s8:=s8) (s9:=s9) (ds:=ds) (r:=r) hn ha
 refine ⟨.one (xs[n - 1 - at_]'hj),fun m hm=>by rw [qAV.mp hm];exact qy _,by show 1≤4;decide,by simp [Arm.parts],?_⟩
 exact znp (i:=3) (ds:=ds) (d:=armD (.one (xs[n - 1 - at_]'hj))) (fr:=false) rfl e hl
end
def Hd (d:PyData) (s:Sl):Prop:=s=.pl d∨s=.ac d
theorem e_hd {env:DEnv} {i:Nat} {d:PyData} {s:Sl} (h:env[i]?=some s) (hs:Hd d s):∃ bs,eVar i env=some ⟨d,false,bs⟩:=by
 unfold eVar
 rw [h]
 rcases hs with rfl|rfl
 ·exact ⟨_,rfl⟩
 ·exact ⟨_,rfl⟩
theorem zakq {d:PyData} {fr:Bool} {bs:List Nat}:Hd d (slOf ⟨d,fr,bs⟩):=by
 cases fr
 ·exact .inl rfl
 ·exact .inr rfl
section
variable {A0 A2 A6 s8 s9:Sl} {ds:List PyData} {xs:List Str} {r:Int} {n at_:Nat}
theorem zanp (hn:n=xs.length) (ha:at_<n) (h1:1<n) (r0:0≤r) (hl:ds.length<100000) (hx:xs.length≤16):∃ (a:Arm) (s8' s9':Sl),(∀ m∈a.parts,m∈xs)∧a.parts.length≤4∧a.parts≠[] ∧
  (sSeq (sSet 8 (eOp modD (eOp addD (eOp addD (eVar 7) (eC (.int 1))) (eOp modD (eOp zcv (eVar 4) (eC (.int 4))) (eOp subD (eVar 5) (eC (.int 1))))) (eVar 5)))
  (sSeq (sSet 9 (zdg ["_law_name"] [1,7,8] (zbg (eSl (eVar 1) (zcm (eOp subD (eVar 5) (eOp modD (eVar 4) (eC (.int 3))))) zfk)) (gN 0) (zbe (eOp (inD true) (eVar 0) (eTup (zab (eIxV 1 (eVar 2)) (zab (eIxV 1 (eVar 3)) aNil))))) (eVar 0)))
  (sApp 3 (eCB zea (zab (eOp addD (eLst (zab (eIxV 1 (eVar 7)) (zab (eIxV 1 (eVar 8)) aNil))) (eVar 9)) aNil))))) [A0,.pl (zae xs),A2,.ac (.list ds),.pl (.int r),.pl (.int (n:Int)),A6,.pl (.int (at_:Int)),s8,s9]=some (.nx [A0,.pl (zae xs),A2,.ac (.list (ds++[armD a])),.pl (.int r),.pl (.int (n:Int)),A6,.pl (.int (at_:Int)),s8',s9']):=by
 have m0:∀ (z j:Int),0<j→0≤z % j∧z % j<j:=fun z j hj=>⟨qw z (by omega),qx z hj⟩
 have q:=m0 ((at_:Int)+1+r / 4 % ((n:Int) - 1)) (n:Int) (by omega)
 generalize hby:((at_:Int)+1+r / 4 % ((n:Int) - 1)) % (n:Int)=byz at q
 obtain ⟨by_,hb⟩:∃ b:Nat,byz=(b:Int):=⟨byz.toNat,by omega⟩
 subst hb
 have hbn:by_<n:=by omega
 have e8:sSet 8 (eOp modD (eOp addD (eOp addD (eVar 7) (eC (.int 1))) (eOp modD (eOp zcv (eVar 4) (eC (.int 4))) (eOp subD (eVar 5) (eC (.int 1))))) (eVar 5)) [A0,.pl (zae xs),A2,.ac (.list ds),.pl (.int r),.pl (.int (n:Int)),A6,.pl (.int (at_:Int)),s8,s9]=some (.nx [A0,.pl (zae xs),A2,.ac (.list ds),.pl (.int r),.pl (.int (n:Int)),A6,.pl (.int (at_:Int)),.pl (.int (by_:Int)),s9]):=by
  rw [zcg (zgg (zsy (zsy (i:=(at_:Int)) (j:=1) rfl rfl) (zgg (zij (i:=r) (j:=4) rfl rfl (by decide) (by decide)) (zamo (i:=(n:Int)) (j:=1) rfl rfl) (by omega))) (j:=(n:Int)) rfl (by omega)),hby]
  rfl
 have r3:=m0 r 3 (by decide)
 obtain ⟨k,hk⟩:∃ k:Nat,(n:Int) - r % 3=(k:Int):=⟨((n:Int) - r % 3).toNat,by omega⟩
 have ha':at_<xs.length:=by omega
 have hb':by_<xs.length:=by omega
 have sl:zbg (eSl (eVar 1) (zcm (eOp subD (eVar 5) (eOp modD (eVar 4) (eC (.int 3))))) zfk) [A0,.pl (zae xs),A2,.ac (.list ds),.pl (.int r),.pl (.int (n:Int)),A6,.pl (.int (at_:Int)),.pl (.int (by_:Int)),s9]=some ((xs.drop k).map .str,[]):=by
  unfold zbg
  have lo:zcm (eOp subD (eVar 5) (eOp modD (eVar 4) (eC (.int 3)))) [A0,.pl (zae xs),A2,.ac (.list ds),.pl (.int r),.pl (.int (n:Int)),A6,.pl (.int (at_:Int)),.pl (.int (by_:Int)),s9]=some (some (k:Int)):=by
   rw [zlo (zamo (i:=(n:Int)) rfl (zgg (i:=r) (j:=3) rfl rfl (by decide))),hk]
  rw [zakk (x:=xs) (y:=xs.drop k) (f:=false) (bs:=[]) rfl lo rfl (by rw [zada,qBl])]
  rfl
 let p:Str→Bool:=fun x=>!decide (x∈[xs[at_],xs[by_]])
 have c:zej (gN 0) (zbe (eOp (inD true) (eVar 0) (eTup (zab (eIxV 1 (eVar 2)) (zab (eIxV 1 (eVar 3)) aNil))))) (eVar 0) [.no,.pl (zae xs),.pl (.int (at_:Int)),.pl (.int (by_:Int))] ((xs.drop k).map .str)=some (((xs.drop k).filter p).map .str):=by
  refine zcy p fun x hx=>⟨[.pl (.str x),.pl (zae xs),.pl (.int (at_:Int)),.pl (.int (by_:Int))],rfl,zdk ?_,fun _=>⟨vs x,rfl,rfl⟩⟩
  have i1:eIxV 1 (eVar 2) [.pl (.str x),.pl (zae xs),.pl (.int (at_:Int)),.pl (.int (by_:Int))]=some (vs xs[at_]):=zakp rfl rfl rfl ha'
  have i2:eIxV 1 (eVar 3) [.pl (.str x),.pl (zae xs),.pl (.int (at_:Int)),.pl (.int (by_:Int))]=some (vs xs[by_]):=zakp rfl rfl rfl hb'
  have tp:eTup (zab (eIxV 1 (eVar 2)) (zab (eIxV 1 (eVar 3)) aNil)) [.pl (.str x),.pl (zae xs),.pl (.int (at_:Int)),.pl (.int (by_:Int))]=some ⟨.tuple [.str xs[at_],.str xs[by_]],false,[]⟩:=by
   unfold eTup
   rw [zaq i1 (zdi i2)]
   rfl
  have st:eOp (inD true) (eVar 0) (eTup (zab (eIxV 1 (eVar 2)) (zab (eIxV 1 (eVar 3)) aNil))) [.pl (.str x),.pl (zae xs),.pl (.int (at_:Int)),.pl (.int (by_:Int))]=((inD true (.str x) (.tuple [.str xs[at_],.str xs[by_]])).bind fun z=>some (⟨z.1,z.2,bsOf z.1 []⟩:Val)):=by
   unfold eOp
   rw [tp]
   rfl
  rw [st,zarl]
  rfl
 have e9:sSet 9 (zdg ["_law_name"] [1,7,8] (zbg (eSl (eVar 1) (zcm (eOp subD (eVar 5) (eOp modD (eVar 4) (eC (.int 3))))) zfk)) (gN 0) (zbe (eOp (inD true) (eVar 0) (eTup (zab (eIxV 1 (eVar 2)) (zab (eIxV 1 (eVar 3)) aNil))))) (eVar 0)) [A0,.pl (zae xs),A2,.ac (.list ds),.pl (.int r),.pl (.int (n:Int)),A6,.pl (.int (at_:Int)),.pl (.int (by_:Int)),s9]=some (.nx [A0,.pl (zae xs),A2,.ac (.list ds),.pl (.int r),.pl (.int (n:Int)),A6,.pl (.int (at_:Int)),.pl (.int (by_:Int)),.ac (zae ((xs.drop k).filter p))]):=by
  refine zcg (r:=⟨zae ((xs.drop k).filter p),true,[]⟩) ?_
  rw [zdz (own:=["_law_name"]) (fr:=[1,7,8]) (ds:=(xs.drop k).map .str) (bs:=[]) sl (by rw [qC,qAc];omega) c,zgt]
  rfl
 have hfl:((xs.drop k).filter p).length≤2:=qAX (qAy _ _) (by rw [qAc];omega)
 generalize hmo:(xs.drop k).filter p=more at e9 hfl
 refine ⟨.many (xs[at_]::xs[by_]::more),.pl (.int (by_:Int)),.pl (zae more),fun m hm=>?_,(by show (xs[at_]::xs[by_]::more).length≤4;rw [qAI,qAI];omega),(by simp [Arm.parts]),zao e8 (zao e9 ?_)⟩
 ·rcases qg.mp hm with rfl|hm
  ·exact qy _
  ·rcases qg.mp hm with rfl|hm
   ·exact qy _
   ·rw [← hmo] at hm
    exact qAe (qc.mp hm).1
 ·have i1:eIxV 1 (eVar 7) [A0,.pl (zae xs),A2,.ac (.list ds),.pl (.int r),.pl (.int (n:Int)),A6,.pl (.int (at_:Int)),.pl (.int (by_:Int)),.ac (zae more)]=some (vs xs[at_]):=zakp rfl rfl rfl ha'
  have i2:eIxV 1 (eVar 8) [A0,.pl (zae xs),A2,.ac (.list ds),.pl (.int r),.pl (.int (n:Int)),A6,.pl (.int (at_:Int)),.pl (.int (by_:Int)),.ac (zae more)]=some (vs xs[by_]):=zakp rfl rfl rfl hb'
  have l2:eLst (zab (eIxV 1 (eVar 7)) (zab (eIxV 1 (eVar 8)) aNil)) [A0,.pl (zae xs),A2,.ac (.list ds),.pl (.int r),.pl (.int (n:Int)),A6,.pl (.int (at_:Int)),.pl (.int (by_:Int)),.ac (zae more)]=some ⟨zae [xs[at_],xs[by_]],true,[]⟩:=by
   unfold eLst
   rw [zaq i1 (zdi i2)]
   rfl
  have ad:=zaba (x:=[xs[at_],xs[by_]]) (y:=more) (b:=eVar 9) (f2:=false) (b2:=[9]) l2 rfl (by show 2+more.length≤100000;omega)
  have tu:eCB zea (zab (eOp addD (eLst (zab (eIxV 1 (eVar 7)) (zab (eIxV 1 (eVar 8)) aNil))) (eVar 9)) aNil) [A0,.pl (zae xs),A2,.ac (.list ds),.pl (.int r),.pl (.int (n:Int)),A6,.pl (.int (at_:Int)),.pl (.int (by_:Int)),.ac (zae more)]=some ⟨armD (.many (xs[at_]::xs[by_]::more)),false,[9]⟩:=by
   unfold eCB
   rw [zdi ad]
   rfl
  exact zakn (i:=3) (ds:=ds) rfl tu hl (by decide)
end
theorem zagm {xs:List Str} {c:Int} {p:Nat} (hx:1≤xs.length∧xs.length≤16) (c0:0≤c) (hp:p≤3):∃ cl:List Arm,zks [.int c,zae xs,.int p]=some (zau cl,false)∧cl.length=p∧CallIn xs cl:=by
 have m0:∀ (z j:Int),0<j→0≤z % j∧z % j<j:=fun z j hj=>⟨qw z (by omega),qx z hj⟩
 have lp:=zgm (enc:=fun (k:Nat)=>PyData.int (k:Int)) (g:=gN 6) (l:=List.range p) (env:=[.pl (.int c),.pl (zae xs),.pl (.int p),.ac (.list []),.pl (.int c),.pl (.int (xs.length:Int)),.no,.no,.no,.no])
  (body:=(sSeq (sSet 7 (eOp modD (eVar 4) (eVar 5)))
  (sSeq (sSet 4 (eOp zcv (eVar 4) (eVar 5)))
  (sSeq (sIf (zbe (eOp eqD (eOp modD (eVar 4) (eC (.int 4))) (eC (.int 2)))) (sApp 3 (eTup (zab (eIxV 1 (eOp subD (eOp subD (eVar 5) (eC (.int 1))) (eVar 7))) aNil))) (sIf (zhb (zbe (eOp eqD (eOp modD (eVar 4) (eC (.int 4))) (eC (.int 3)))) (zbe (eOp gtD (eVar 5) (eC (.int 1))))) (sSeq (sSet 8 (eOp modD (eOp addD (eOp addD (eVar 7) (eC (.int 1))) (eOp modD (eOp zcv (eVar 4) (eC (.int 4))) (eOp subD (eVar 5) (eC (.int 1))))) (eVar 5)))
  (sSeq (sSet 9 (zdg ["_law_name"] [1,7,8] (zbg (eSl (eVar 1) (zcm (eOp subD (eVar 5) (eOp modD (eVar 4) (eC (.int 3))))) zfk)) (gN 0) (zbe (eOp (inD true) (eVar 0) (eTup (zab (eIxV 1 (eVar 2)) (zab (eIxV 1 (eVar 3)) aNil))))) (eVar 0)))
  (sApp 3 (eCB zea (zab (eOp addD (eLst (zab (eIxV 1 (eVar 7)) (zab (eIxV 1 (eVar 8)) aNil))) (eVar 9)) aNil))))) (sApp 3 (eIxV 1 (eOp subD (eOp subD (eVar 5) (eC (.int 1))) (eVar 7))))))
  (sSet 4 (eOp zcv (eVar 4) (eOp mulD (eC (.int 4)) (eVar 5)))))))) (fun pre env=>∃ (cl:List Arm) (r:Int) (s6 s7 s8 s9:Sl),env=[.pl (.int c),.pl (zae xs),.pl (.int p),.ac (.list (cl.map armD)),.pl (.int r),.pl (.int (xs.length:Int)),s6,s7,s8,s9]∧0≤r∧cl.length=pre.length∧CallIn xs cl)
  ⟨[],c,_,_,_,_,rfl,c0,rfl,⟨fun a h=>(nomatch h),fun a h=>(nomatch h),fun a h=>(nomatch h)⟩⟩ (by
   rintro pre k post env hk ⟨cl,r,s6,s7,s8,s9,rfl,r0,hcl,ok⟩
   have hpl:pre.length<4:=by
    have:=congrArg List.length hk
    simp at this;omega
   have q:=m0 r (xs.length:Int) (by omega)
   obtain ⟨at_,hat⟩:∃ a:Nat,r % (xs.length:Int)=(a:Int):=⟨(r % (xs.length:Int)).toNat,by omega⟩
   have ha:at_<xs.length:=by omega
   have e7:sSet 7 (eOp modD (eVar 4) (eVar 5)) [.pl (.int c),.pl (zae xs),.pl (.int p),.ac (.list (cl.map armD)),.pl (.int r),.pl (.int (xs.length:Int)),.pl (.int (k:Int)),s7,s8,s9]=some (.nx [.pl (.int c),.pl (zae xs),.pl (.int p),.ac (.list (cl.map armD)),.pl (.int r),.pl (.int (xs.length:Int)),.pl (.int (k:Int)),.pl (.int (at_:Int)),s8,s9]):=by
    rw [zcg (zgg (i:=r) (j:=(xs.length:Int)) rfl rfl (by omega)),hat];rfl
   have q0:0≤r / (xs.length:Int):=qBA r0 (by omega)
   have e4:sSet 4 (eOp zcv (eVar 4) (eVar 5)) [.pl (.int c),.pl (zae xs),.pl (.int p),.ac (.list (cl.map armD)),.pl (.int r),.pl (.int (xs.length:Int)),.pl (.int (k:Int)),.pl (.int (at_:Int)),s8,s9]=some (.nx [.pl (.int c),.pl (zae xs),.pl (.int p),.ac (.list (cl.map armD)),.pl (.int (r / (xs.length:Int))),.pl (.int (xs.length:Int)),.pl (.int (k:Int)),.pl (.int (at_:Int)),s8,s9]):=zcg (zij (i:=r) (j:=(xs.length:Int)) rfl rfl (by omega) (by omega))
   generalize r / (xs.length:Int)=r' at e4 q0
   have hds:(cl.map armD).length<100000:=by rw [qC];omega
   have t2:zbe (eOp eqD (eOp modD (eVar 4) (eC (.int 4))) (eC (.int 2))) [.pl (.int c),.pl (zae xs),.pl (.int p),.ac (.list (cl.map armD)),.pl (.int r'),.pl (.int (xs.length:Int)),.pl (.int (k:Int)),.pl (.int (at_:Int)),s8,s9]=some (r' % 4==2):=zdk (zrr (zgg rfl rfl (by decide)) rfl)
   have t3:zhb (zbe (eOp eqD (eOp modD (eVar 4) (eC (.int 4))) (eC (.int 3)))) (zbe (eOp gtD (eVar 5) (eC (.int 1)))) [.pl (.int c),.pl (zae xs),.pl (.int p),.ac (.list (cl.map armD)),.pl (.int r'),.pl (.int (xs.length:Int)),.pl (.int (k:Int)),.pl (.int (at_:Int)),s8,s9]=some ((r' % 4==3)&&decide (1<(xs.length:Int))):=by
    have t31:zbe (eOp eqD (eOp modD (eVar 4) (eC (.int 4))) (eC (.int 3))) [.pl (.int c),.pl (zae xs),.pl (.int p),.ac (.list (cl.map armD)),.pl (.int r'),.pl (.int (xs.length:Int)),.pl (.int (k:Int)),.pl (.int (at_:Int)),s8,s9]=some (r' % 4==3):=zdk (zrr (zgg rfl rfl (by decide)) rfl)
    have t32:zbe (eOp gtD (eVar 5) (eC (.int 1))) [.pl (.int c),.pl (zae xs),.pl (.int p),.ac (.list (cl.map armD)),.pl (.int r'),.pl (.int (xs.length:Int)),.pl (.int (k:Int)),.pl (.int (at_:Int)),s8,s9]=some (decide (1<(xs.length:Int))):=zdk (zako rfl rfl)
    unfold zhb
    rw [t31,qF,t32]
    cases (r' % 4==3)<;>rfl
   have fin:∀ (a:Arm) (s8' s9':Sl),sSet 4 (eOp zcv (eVar 4) (eOp mulD (eC (.int 4)) (eVar 5))) [.pl (.int c),.pl (zae xs),.pl (.int p),.ac (.list (cl.map armD++[armD a])),.pl (.int r'),.pl (.int (xs.length:Int)),.pl (.int (k:Int)),.pl (.int (at_:Int)),s8',s9']=some (.nx [.pl (.int c),.pl (zae xs),.pl (.int p),.ac (.list ((cl++[a]).map armD)),.pl (.int (r' / (4 * (xs.length:Int)))),.pl (.int (xs.length:Int)),.pl (.int (k:Int)),.pl (.int (at_:Int)),s8',s9']):=fun a s8' s9'=>by
    rw [qAQ]
    exact zcg (zij (i:=r') rfl (zamp (i:=4) (j:=(xs.length:Int)) rfl rfl (.inl b64)) (by omega) (by omega))
   have go:∀ {G:SF} (a:Arm) (s8' s9':Sl),(∀ m∈a.parts,m∈xs)→a.parts.length≤4→a.parts≠[]→G [.pl (.int c),.pl (zae xs),.pl (.int p),.ac (.list (cl.map armD)),.pl (.int r'),.pl (.int (xs.length:Int)),.pl (.int (k:Int)),.pl (.int (at_:Int)),s8,s9]=some (.nx [.pl (.int c),.pl (zae xs),.pl (.int p),.ac (.list (cl.map armD++[armD a])),.pl (.int r'),.pl (.int (xs.length:Int)),.pl (.int (k:Int)),.pl (.int (at_:Int)),s8',s9']) →
     ∃ e1 e2,gN 6 (.int (k:Int)) [.pl (.int c),.pl (zae xs),.pl (.int p),.ac (.list (cl.map armD)),.pl (.int r),.pl (.int (xs.length:Int)),s6,s7,s8,s9]=some e1∧((sSeq (sSet 7 (eOp modD (eVar 4) (eVar 5))) (sSeq (sSet 4 (eOp zcv (eVar 4) (eVar 5))) (sSeq G (sSet 4 (eOp zcv (eVar 4) (eOp mulD (eC (.int 4)) (eVar 5))))))) e1=some (.nx e2)∨(sSeq (sSet 7 (eOp modD (eVar 4) (eVar 5))) (sSeq (sSet 4 (eOp zcv (eVar 4) (eVar 5))) (sSeq G (sSet 4 (eOp zcv (eVar 4) (eOp mulD (eC (.int 4)) (eVar 5))))))) e1=some (.ct e2)) ∧
      ∃ (cl':List Arm) (r:Int) (s6 s7 s8 s9:Sl),e2=[.pl (.int c),.pl (zae xs),.pl (.int p),.ac (.list (cl'.map armD)),.pl (.int r),.pl (.int (xs.length:Int)),s6,s7,s8,s9]∧0≤r∧cl'.length=(pre++[k]).length∧CallIn xs cl':=fun {G} a s8' s9' h1 h2 h3 hg =>
    ⟨_,_,rfl,.inl (zao e7 (zao e4 (zao hg (fin a s8' s9')))),cl++[a],_,_,_,_,_,rfl,qBA q0 (by omega),by simp [hcl],ok.snoc h1 h2 h3⟩
   cases h2:(r' % 4==2) with
   | true =>
    rw [h2] at t2
    obtain ⟨a,a1,a2,a3,a4⟩:=zarm (A0:=.pl (.int c)) (A2:=.pl (.int p)) (A6:=.pl (.int (k:Int))) (s8:=s8) (s9:=s9) (ds:=cl.map armD) (xs:=xs) (r:=r') (n:=xs.length) (at_:=at_) rfl ha hds
    exact go a _ _ a1 a2 a3 (if_t t2 a4)
   | false =>
    rw [h2] at t2
    cases h3:((r' % 4==3)&&decide (1<(xs.length:Int))) with
    | true =>
     rw [h3] at t3
     have h1:1<xs.length:=by
      have:=of_decide_eq_true (qp.mp h3).2
      omega
     obtain ⟨a,s8',s9',a1,a2,a3,a4⟩:=zanp (A0:=.pl (.int c)) (A2:=.pl (.int p)) (A6:=.pl (.int (k:Int))) (s8:=s8) (s9:=s9) (ds:=cl.map armD) (xs:=xs) (r:=r') (n:=xs.length) (at_:=at_) rfl ha h1 q0 hds hx.2
     exact go a _ _ a1 a2 a3 (if_f t2 (if_t t3 a4))
    | false =>
     rw [h3] at t3
     obtain ⟨a,a1,a2,a3,a4⟩:=zano (A0:=.pl (.int c)) (A2:=.pl (.int p)) (A6:=.pl (.int (k:Int))) (s8:=s8) (s9:=s9) (ds:=cl.map armD) (xs:=xs) (r:=r') (n:=xs.length) (at_:=at_) rfl ha hds
     exact go a _ _ a1 a2 a3 (if_f t2 (if_f t3 a4)))
 obtain ⟨env',lp,cl,r,s6,s7,s8,s9,rfl,_,hcl,ok⟩:=lp
 have el:eCB lenD (zab (eVar 1) aNil) [.pl (.int c),.pl (zae xs),.pl (.int p),.ac (.list []),.pl (.int c),.no,.no,.no,.no,.no]=some (vi (xs.length:Int)):=by
  have:=zir (a:=eVar 1) (env:=[.pl (.int c),.pl (zae xs),.pl (.int p),.ac (.list []),.pl (.int c),.no,.no,.no,.no,.no]) (ds:=xs.map .str) (fr:=false) (bs:=[]) rfl
  rw [qC] at this
  exact this
 have it:zer (zab (eVar 2) aNil) [.pl (.int c),.pl (zae xs),.pl (.int p),.ac (.list []),.pl (.int c),.pl (.int (xs.length:Int)),.no,.no,.no,.no]=some ((List.range p).map (fun (k:Nat)=>PyData.int (k:Int)),[]):=by
  unfold zer
  rw [zdi (r:=vi (p:Int)) rfl,qF]
  simp only
  rw [if_pos (by omega),zmh]
  rfl
 refine ⟨cl,zed rfl (zao rfl (zao (zcg (r:=vi c) rfl) (zao (zcg el) (zao (zjo it lp) (zfi (bs:=[3]) rfl))))),by rw [hcl,qB9],ok⟩
theorem zabc:∀ (l:List (List Str)),(∀ ks∈l,LowS ks)→qu (l.map zam)=true∧qf (l.map zam)≤1
 | [],_=>⟨rfl,by simp [qf]⟩
 | ks::l,h=>by
  obtain ⟨h1,h2⟩:=zabc l fun x hx=>h x (qJ _ hx)
  obtain ⟨g1,g2⟩:=zke ks (h ks qX)
  constructor
  ·rw [qa]
   simp only [qu,zam,PyData.canLay0,qY]
   exact ⟨g1,h1⟩
  ·rw [qa]
   simp only [qf,zam,PyData.depth]
   rw [g2]
   have:qf (l.map fun ks=>PyData.tuple (ks.map .str))≤1:=h2
   omega
theorem zadb {l:List (List Str)} (h:∀ ks∈l,LowS ks):qI (.list (l.map zam))=true:=by
 obtain ⟨h1,h2⟩:=zabc l h
 unfold qI
 rw [qY]
 refine ⟨by simpa [PyData.canLay0] using h1,decide_eq_true ?_⟩
 simp only [PyData.depth]
 omega
theorem zakr (l:List (List Str)) (ks:List Str):((l.map zam).any fun e=>qH e (zam ks))=decide (ks∈l):=by
 rw [qBe,qAC,qAN,decide_eq_true_iff]
 have e:∀ a b:List Str,qH (zam a) (zam b)=(a==b):=fun a b=>by
  unfold zam
  simp only [qH]
  exact zpo a b
 constructor
 ·rintro ⟨y,hy,h⟩
  have h:qH (zam y) (zam ks)=true:=h
  rw [e,beq_iff_eq] at h
  rw [← h];exact hy
 ·intro h
  refine ⟨ks,h,?_⟩
  show qH (zam ks) (zam ks)=true
  rw [e];exact beq_self_eq_true _
theorem zarn {neg:Bool} {l:List (List Str)} {ks:List Str} (h:∀ x∈l,LowS x) (hk:LowS ks):inS neg (zam ks) (.list (l.map zam))=some (.bool (if neg then !decide (ks∈l) else decide (ks∈l)),false):=by
 unfold inS
 simp only [zig]
 rw [if_pos ⟨zio hk,zadb h⟩,zakr]
theorem zadc {W:Web} (lo:∀ x∈nm W,Low x) {ks:List Str} (h:∀ k∈ks,k∈nm W):LowS ks:=fun k hk=>zpb (lo k (h k hk))
theorem zwe {W:Web} (h:WebOk W) {cs:List Int} {i:Nat} (hi:i<cs.length) (hcs:∀ z∈cs,0≤z) {A3 A4 A5 A7:Sl} {c0:List Arm} (hne:0<(nm W).length):∀ (c:List Arm) (ks:List Str) (r:Int) (s10 s11:Sl),CallIn (nm W) c→0≤r→(∀ k∈ks,k∈nm W)→ks.length+c.length<1000 →
  ∃ (ks':List Str) (r':Int) (s10' s11':Sl),forL (gN 10) (sSeq (sSet 11 (eVar 1))
  (sSeq (sIf (zbe (eOp gtD (eOp modD (eIxV 0 (eVar 6)) (eC (.int 4))) (eC (.int 0)))) (sSet 11 (zdg ["_law_name"] [2,10] (zbg (eVar 1)) (gN 0) (tTru (eCB (anyD fun bs=>bs.any id) (zab (zdg ["_law_one"] [0,1] (zbg (zbm 1 zcz (zab (eVar 2) aNil))) (gN 0) zdw (eOp (inD false) (eVar 1) (zfd 2 (eVar 0)))) aNil))) (eVar 0))) sNil)
  (sSeq (sApp 9 (eIxV 11 (eOp modD (eVar 8) (eCB lenD (zab (eVar 11) aNil)))))
  (sSet 8 (eOp zcv (eVar 8) (eCB lenD (zab (eVar 11) aNil))))))) (c.map armD) [.pl (zbh cs),.pl (zae (nm W)),.pl (.dict (dS zae (ups W))),A3,A4,A5,.pl (.int (i:Int)),A7,.pl (.int r),.ac (zae ks),s10,s11]=some (.nx [.pl (zbh cs),.pl (zae (nm W)),.pl (.dict (dS zae (ups W))),A3,A4,A5,.pl (.int (i:Int)),A7,.pl (.int r'),.ac (zae ks'),s10',s11'])∧(∀ k∈ks',k∈nm W)∧ks'.length=ks.length+c.length
 | [],ks,r,s10,s11,_,_,hk,_=>⟨ks,r,s10,s11,rfl,hk,rfl⟩
 | a::c,ks,r,s10,s11,hc,r0,hk,hl=>by
  have hlW:(nm W).length≤12:=zsl h
  have hap:=hc.kinds a qX
  have e11:sSet 11 (eVar 1) [.pl (zbh cs),.pl (zae (nm W)),.pl (.dict (dS zae (ups W))),A3,A4,A5,.pl (.int (i:Int)),A7,.pl (.int r),.ac (zae ks),.pl (armD a),s11]=some (.nx [.pl (zbh cs),.pl (zae (nm W)),.pl (.dict (dS zae (ups W))),A3,A4,A5,.pl (.int (i:Int)),A7,.pl (.int r),.ac (zae ks),.pl (armD a),.pl (zae (nm W))]):=zcg (r:=⟨zae (nm W),false,[]⟩) rfl
  have pool:∃ (pl:List Str) (s:Sl),Hd (zae pl) s∧0<pl.length∧pl.length≤12∧(∀ x∈pl,x∈nm W)∧sIf (zbe (eOp gtD (eOp modD (eIxV 0 (eVar 6)) (eC (.int 4))) (eC (.int 0)))) (sSet 11 (zdg ["_law_name"] [2,10] (zbg (eVar 1)) (gN 0) (tTru (eCB (anyD fun bs=>bs.any id) (zab (zdg ["_law_one"] [0,1] (zbg (zbm 1 zcz (zab (eVar 2) aNil))) (gN 0) zdw (eOp (inD false) (eVar 1) (zfd 2 (eVar 0)))) aNil))) (eVar 0))) sNil [.pl (zbh cs),.pl (zae (nm W)),.pl (.dict (dS zae (ups W))),A3,A4,A5,.pl (.int (i:Int)),A7,.pl (.int r),.ac (zae ks),.pl (armD a),.pl (zae (nm W))]=some (.nx [.pl (zbh cs),.pl (zae (nm W)),.pl (.dict (dS zae (ups W))),A3,A4,A5,.pl (.int (i:Int)),A7,.pl (.int r),.ac (zae ks),.pl (armD a),s]):=by
   have t:zbe (eOp gtD (eOp modD (eIxV 0 (eVar 6)) (eC (.int 4))) (eC (.int 0))) [.pl (zbh cs),.pl (zae (nm W)),.pl (.dict (dS zae (ups W))),A3,A4,A5,.pl (.int (i:Int)),A7,.pl (.int r),.ac (zae ks),.pl (armD a),.pl (zae (nm W))]=some (decide (0<cs[i] % 4)) :=
    zdk (zako (zgg (i:=cs[i]) (zqe (n:=i) rfl rfl (by rw [qL,qE hi];rfl)) rfl (by decide)) rfl)
   by_cases hz:0<cs[i] % 4
   ·rw [decide_eq_true hz] at t
    have cm:zej (gN 0) (tTru (eCB (anyD fun bs=>bs.any id) (zab (zdg ["_law_one"] [0,1] (zbg (zbm 1 zcz (zab (eVar 2) aNil))) (gN 0) zdw (eOp (inD false) (eVar 1) (zfd 2 (eVar 0)))) aNil))) (eVar 0) [.no,.pl (.dict (dS zae (ups W))),.pl (armD a)] ((nm W).map .str)=some (((nm W).filter fun x=>decide (x∈upA W a)).map .str):=by
     refine zcy (fun x=>decide (x∈upA W a)) fun x hx=>⟨[.pl (.str x),.pl (.dict (dS zae (ups W))),.pl (armD a)],rfl,?_,fun _=>⟨vs x,rfl,rfl⟩⟩
     have itp:zbg (zbm 1 zcz (zab (eVar 2) aNil)) [.pl (.str x),.pl (.dict (dS zae (ups W))),.pl (armD a)]=some (a.parts.map .str,[]):=by
      unfold zbg
      rw [zbv (n:=1) (rs:=[⟨armD a,false,[]⟩]) (zdi rfl) rfl (zif a)]
      rfl
     have k2:zej (gN 0) zdw (eOp (inD false) (eVar 1) (zfd 2 (eVar 0))) [.no,.pl (.str x),.pl (.dict (dS zae (ups W)))] (a.parts.map .str)=some (a.parts.map fun n=>.bool (decide (x∈up W n))) :=
      zec fun n hn=>⟨[.pl (.str n),.pl (.str x),.pl (.dict (dS zae (ups W)))],rfl,rfl,vb (decide (x∈up W n)),e_in (neg:=false) (fr:=false) (bs:=[]) rfl (zajf (k:=2) (d:=zae (up W n)) (.inl rfl) rfl (by rw [zof,zng (hap n hn)];rfl)),rfl⟩
     have an:=zakj (f:=fun n:Str=>decide (x∈up W n)) (zdz (own:=["_law_one"]) (fr:=[0,1]) itp (by rw [qC];have:=hc.few a qX;omega) k2)
     have ev:(a.parts.any fun n=>decide (x∈up W n))=decide (x∈upA W a):=by
      rw [qAC,qAN,decide_eq_true_iff,zxt]
      exact ⟨fun ⟨n,h1,h2⟩=>⟨n,h1,of_decide_eq_true h2⟩,fun ⟨n,h1,h2⟩=>⟨n,h1,decide_eq_true h2⟩⟩
     rw [ev] at an
     unfold tTru
     rw [an]
     rfl
    refine ⟨(nm W).filter fun x=>decide (x∈upA W a),.ac (zae ((nm W).filter fun x=>decide (x∈upA W a))),.inr rfl,?_,qAX (qAy _ _) hlW,fun x hx=>(qc.mp hx).1,if_t t (zcg (r:=⟨zae ((nm W).filter fun x=>decide (x∈upA W a)),true,[]⟩) ?_)⟩
    ·obtain ⟨n,hn⟩:=List.exists_mem_of_ne_nil _ (hc.some a qX)
     exact qCo (qc.mpr ⟨hap n hn,decide_eq_true (zxt.mpr ⟨n,hn,zaqz h (hap n hn)⟩)⟩)
    ·rw [zdz (own:=["_law_name"]) (fr:=[2,10]) (ds:=(nm W).map .str) (bs:=[]) rfl (by rw [qC];omega) cm,zgt]
     rfl
   ·rw [decide_eq_false hz] at t
    exact ⟨nm W,.pl (zae (nm W)),.inl rfl,hne,hlW,fun x hx=>hx,if_f t rfl⟩
  obtain ⟨pl,s,hs,p0,p12,psub,ep⟩:=pool
  have q0:=qw r (show (pl.length:Int)≠0 by omega)
  have q1:=qx r (show (0:Int)<(pl.length:Int) by omega)
  have hj:(r % (pl.length:Int)).toNat<pl.length:=by omega
  have len:∀ (ks:List Str),eCB lenD (zab (eVar 11) aNil) [.pl (zbh cs),.pl (zae (nm W)),.pl (.dict (dS zae (ups W))),A3,A4,A5,.pl (.int (i:Int)),A7,.pl (.int r),.ac (zae ks),.pl (armD a),s]=some (vi (pl.length:Int)):=fun ks=>by
   obtain ⟨bs,hv⟩:=e_hd (env:=[.pl (zbh cs),.pl (zae (nm W)),.pl (.dict (dS zae (ups W))),A3,A4,A5,.pl (.int (i:Int)),A7,.pl (.int r),.ac (zae ks),.pl (armD a),s]) (i:=11) rfl hs
   have:=zir (ds:=pl.map .str) hv
   rw [qC] at this
   exact this
  have ix:eIxV 11 (eOp modD (eVar 8) (eCB lenD (zab (eVar 11) aNil))) [.pl (zbh cs),.pl (zae (nm W)),.pl (.dict (dS zae (ups W))),A3,A4,A5,.pl (.int (i:Int)),A7,.pl (.int r),.ac (zae ks),.pl (armD a),s]=some (vs pl[(r % (pl.length:Int)).toNat]):=by
   have hm:eOp modD (eVar 8) (eCB lenD (zab (eVar 11) aNil)) [.pl (zbh cs),.pl (zae (nm W)),.pl (.dict (dS zae (ups W))),A3,A4,A5,.pl (.int (i:Int)),A7,.pl (.int r),.ac (zae ks),.pl (armD a),s]=some (vi (((r % (pl.length:Int)).toNat:Nat):Int)):=by
    rw [zgg (i:=r) rfl (len ks) (by omega),Int.toNat_of_nonneg q0]
   have hg:(pl.map PyData.str)[(r % (pl.length:Int)).toNat]?=some (.str pl[(r % (pl.length:Int)).toNat]):=by rw [qL,qE hj];rfl
   rcases id hs with e|e
   ·exact zqe (ds:=pl.map .str) (by rw [e];rfl) hm hg
   ·exact zafw (ds:=pl.map .str) (by rw [e];rfl) hm hg
  generalize hx:pl[(r % (pl.length:Int)).toNat]=x at ix
  have hxm:x∈nm W:=psub x (by rw [← hx];exact qy _)
  have ap:sApp 9 (eIxV 11 (eOp modD (eVar 8) (eCB lenD (zab (eVar 11) aNil)))) [.pl (zbh cs),.pl (zae (nm W)),.pl (.dict (dS zae (ups W))),A3,A4,A5,.pl (.int (i:Int)),A7,.pl (.int r),.ac (zae ks),.pl (armD a),s]=some (.nx [.pl (zbh cs),.pl (zae (nm W)),.pl (.dict (dS zae (ups W))),A3,A4,A5,.pl (.int (i:Int)),A7,.pl (.int r),.ac (zae (ks++[x])),.pl (armD a),s]):=by
   rw [znp (ds:=ks.map .str) (d:=.str x) (fr:=false) rfl ix (by rw [qC];omega)]
   congr 2
   unfold zae
   simp
  have e8:sSet 8 (eOp zcv (eVar 8) (eCB lenD (zab (eVar 11) aNil))) [.pl (zbh cs),.pl (zae (nm W)),.pl (.dict (dS zae (ups W))),A3,A4,A5,.pl (.int (i:Int)),A7,.pl (.int r),.ac (zae (ks++[x])),.pl (armD a),s]=some (.nx [.pl (zbh cs),.pl (zae (nm W)),.pl (.dict (dS zae (ups W))),A3,A4,A5,.pl (.int (i:Int)),A7,.pl (.int (r / (pl.length:Int))),.ac (zae (ks++[x])),.pl (armD a),s]):=zcg (zij (i:=r) rfl (len _) (by omega) (by omega))
  obtain ⟨ks',r',s10',s11',lp,hk',hl'⟩:=zwe h hi hcs (A3:=A3) (A4:=A4) (A5:=A5) (A7:=A7) (c0:=c0) hne c (ks++[x]) (r / (pl.length:Int)) (.pl (armD a)) s ⟨fun b hb=>hc.kinds b (qJ _ hb),fun b hb=>hc.few b (qJ _ hb),fun b hb=>hc.some b (qJ _ hb)⟩ (qBA r0 (by omega)) (fun k hk2=>(qv.mp hk2).elim (hk k) fun z=>by rw [qAV.mp z];exact hxm) (by simp at hl ⊢;omega)
  refine ⟨ks',r',s10',s11',?_,hk',by simp at hl' ⊢;omega⟩
  rw [qa]
  unfold forL
  show Option.bind (sSeq _ _ [.pl (zbh cs),.pl (zae (nm W)),.pl (.dict (dS zae (ups W))),A3,A4,A5,.pl (.int (i:Int)),A7,.pl (.int r),.ac (zae ks),.pl (armD a),s11]) _=_
  rw [zao e11 (zao ep (zao ap e8))]
  exact lp
structure MadeOk (W:Web) (p:Nat) (ts:List Str) (rs:List (Str×List Str)):Prop where
 kinds:∀ r∈rs,∀ k∈r.2,k∈nm W
 size:∀ r∈rs,r.2.length=p
 unl:(rs.map (·.2)).Nodup
 sub:(rs.map (·.1)).Sublist ts
theorem zadd {W:Web} (h:WebOk W) (lo:∀ x∈nm W,Low x) (hne:0<(nm W).length) {cs:List Int} {c:List Arm} {ts:List Str} (hcs:∀ z∈cs,0≤z) (hle:ts.length≤cs.length) (hts:ts.length≤16) (hc:CallIn (nm W) c) (hcl:c.length≤3) :
  ∃ rs,zjt [zbh cs,zae (nm W),.dict (dS zae (ups W)),zau c,zae ts]=some (zah rs,true)∧MadeOk W c.length ts rs:=by
 have it:zqw (zab (eVar 4) aNil) [.pl (zbh cs),.pl (zae (nm W)),.pl (.dict (dS zae (ups W))),.pl (zau c),.pl (zae ts),.ac (.list []),.no,.no,.no,.no,.no,.no]=some (((List.range ts.length).zip ts).map fun z=>PyData.tuple [.int (z.1:Nat),.str z.2],[]):=by
  show some (zrq (ts.map .str),[])=_
  rw [zabb]
 obtain ⟨env',lp,rs,s6,s7,s8,s9,s10,s11,rfl,ok⟩:=zgm (enc:=fun z:Nat×Str=>PyData.tuple [.int (z.1:Nat),.str z.2]) (g:=gT 2 (zap 6 (zap 7 zco))) (l:=(List.range ts.length).zip ts) (env:=[.pl (zbh cs),.pl (zae (nm W)),.pl (.dict (dS zae (ups W))),.pl (zau c),.pl (zae ts),.ac (.list []),.no,.no,.no,.no,.no,.no])
  (body:=(sSeq (sSet 8 (eOp zcv (eIxV 0 (eVar 6)) (eC (.int 4))))
  (sSeq (sSet 9 (eLst aNil))
  (sSeq (sFor (zbg (eVar 3)) (gN 10)
  (sSeq (sSet 11 (eVar 1))
  (sSeq (sIf (zbe (eOp gtD (eOp modD (eIxV 0 (eVar 6)) (eC (.int 4))) (eC (.int 0)))) (sSet 11 (zdg ["_law_name"] [2,10] (zbg (eVar 1)) (gN 0) (tTru (eCB (anyD fun bs=>bs.any id) (zab (zdg ["_law_one"] [0,1] (zbg (zbm 1 zcz (zab (eVar 2) aNil))) (gN 0) zdw (eOp (inD false) (eVar 1) (zfd 2 (eVar 0)))) aNil))) (eVar 0))) sNil)
  (sSeq (sApp 9 (eIxV 11 (eOp modD (eVar 8) (eCB lenD (zab (eVar 11) aNil)))))
  (sSet 8 (eOp zcv (eVar 8) (eCB lenD (zab (eVar 11) aNil))))))))
  (sIf (zbe (eOp (inS true) (eCB zea (zab (eVar 9) aNil)) (zdg ["_law_one", "_law_row"] [] (zbg (eVar 5)) (gT 2 (zap 0 (zap 1 zco))) zdw (eVar 1)))) (sApp 5 (eTup (zab (eVar 7) (zab (eCB zea (zab (eVar 9) aNil)) aNil)))) sNil)))))
  (fun pre env=>∃ (rs:List (Str×List Str)) (s6 s7 s8 s9 s10 s11:Sl),env=[.pl (zbh cs),.pl (zae (nm W)),.pl (.dict (dS zae (ups W))),.pl (zau c),.pl (zae ts),.ac (zah rs),s6,s7,s8,s9,s10,s11]∧MadeOk W c.length (pre.map (·.2)) rs)
  ⟨[],_,_,_,_,_,_,rfl,fun r hr=>(nomatch hr),fun r hr=>(nomatch hr),qBv,qCZ _⟩ (by
   rintro pre ⟨i,t⟩ post env hp ⟨rs,s6,s7,s8,s9,s10,s11,rfl,ok⟩
   have hz:(i,t)∈(List.range ts.length).zip ts:=by rw [← hp];simp
   have hi:i<cs.length:=by
    have:=qAb.mp (qAP hz).1
    omega
   have hpl:pre.length≤16:=by
    have:=congrArg List.length hp
    simp at this;omega
   have hrs:rs.length≤16:=by
    have:=ok.sub.length_le
    simp at this;omega
   have e8:sSet 8 (eOp zcv (eIxV 0 (eVar 6)) (eC (.int 4))) [.pl (zbh cs),.pl (zae (nm W)),.pl (.dict (dS zae (ups W))),.pl (zau c),.pl (zae ts),.ac (zah rs),.pl (.int (i:Int)),.pl (.str t),s8,s9,s10,s11]=some (.nx [.pl (zbh cs),.pl (zae (nm W)),.pl (.dict (dS zae (ups W))),.pl (zau c),.pl (zae ts),.ac (zah rs),.pl (.int (i:Int)),.pl (.str t),.pl (.int (cs[i] / 4)),s9,s10,s11]) :=
    zcg (zij (i:=cs[i]) (zqe (n:=i) rfl rfl (by rw [qL,qE hi];rfl)) rfl (by decide) (by decide))
   obtain ⟨ks,r',s10',s11',inn,hk,hkl⟩:=zwe h hi hcs (A3:=.pl (zau c)) (A4:=.pl (zae ts)) (A5:=.ac (zah rs)) (A7:=.pl (.str t)) (c0:=c) hne c [] (cs[i] / 4) s10 s11 hc (qBA (hcs _ (qy _)) (by decide)) (fun k hk=>(nomatch hk)) (by simp;omega)
   have hkl:ks.length=c.length:=by simpa using hkl
   have lk:LowS ks:=zadc lo hk
   have tup:∀ (E:DEnv),E[9]?=some (.ac (zae ks))→eCB zea (zab (eVar 9) aNil) E=some ⟨zam ks,false,[9]⟩:=fun E hE=>by
    unfold eCB
    rw [zdi (r:=⟨zae ks,false,[9]⟩) (by unfold eVar;rw [hE])]
    rfl
   have cm:zej (gT 2 (zap 0 (zap 1 zco))) zdw (eVar 1) [.no,.no] (rs.map zbd)=some (rs.map fun r=>zam r.2):=zec (enc:=zbd) (out:=fun r=>zam r.2) fun r _=>⟨[.pl (.str r.1),.pl (zam r.2)],rfl,rfl,⟨zam r.2,false,[]⟩,rfl,rfl⟩
   have cm2:=zdz (own:=["_law_one", "_law_row"]) (fr:=[]) (fi:=zbg (eVar 5)) (g:=gT 2 (zap 0 (zap 1 zco))) (t:=zdw) (e:=eVar 1) (env:=[.pl (zbh cs),.pl (zae (nm W)),.pl (.dict (dS zae (ups W))),.pl (zau c),.pl (zae ts),.ac (zah rs),.pl (.int (i:Int)),.pl (.str t),.pl (.int r'),.ac (zae ks),s10',s11']) (ds:=rs.map zbd) (bs:=[5]) rfl (by rw [qC];omega) cm
   have em:(rs.map fun r=>zam r.2)=(rs.map (·.2)).map zam:=by rw [qAa];rfl
   rw [em] at cm2
   have tin:zbe (eOp (inS true) (eCB zea (zab (eVar 9) aNil)) (zdg ["_law_one", "_law_row"] [] (zbg (eVar 5)) (gT 2 (zap 0 (zap 1 zco))) zdw (eVar 1))) [.pl (zbh cs),.pl (zae (nm W)),.pl (.dict (dS zae (ups W))),.pl (zau c),.pl (zae ts),.ac (zah rs),.pl (.int (i:Int)),.pl (.str t),.pl (.int r'),.ac (zae ks),s10',s11']=some (!decide (ks∈rs.map (·.2))):=by
    refine zdk ?_
    unfold eOp
    rw [tup _ rfl,cm2]
    simp only [qF]
    rw [zarn (neg:=true) (fun x hx=>by
     obtain ⟨r,hr,rfl⟩:=qAJ.mp hx
     exact zadc lo (ok.kinds r hr)) lk]
    rfl
   have itc:zbg (eVar 3) [.pl (zbh cs),.pl (zae (nm W)),.pl (.dict (dS zae (ups W))),.pl (zau c),.pl (zae ts),.ac (zah rs),.pl (.int (i:Int)),.pl (.str t),.pl (.int (cs[i] / 4)),.ac (zae []),s10,s11]=some (c.map armD,[]):=rfl
   have hpm:(pre++[(i,t)]).map (·.2)=pre.map (·.2)++[t]:=by simp
   by_cases hin:ks∈rs.map (·.2)
   ·rw [decide_eq_true hin] at tin
    exact ⟨_,_,rfl,.inl (zao e8 (zao rfl (zao (zjo itc inn) (if_f tin rfl)))),rs,_,_,_,_,_,_,rfl,ok.kinds,ok.size,ok.unl,by rw [hpm];exact ok.sub.trans (List.sublist_append_left _ _)⟩
   ·rw [decide_eq_false hin] at tin
    have et:eTup (zab (eVar 7) (zab (eCB zea (zab (eVar 9) aNil)) aNil)) [.pl (zbh cs),.pl (zae (nm W)),.pl (.dict (dS zae (ups W))),.pl (zau c),.pl (zae ts),.ac (zah rs),.pl (.int (i:Int)),.pl (.str t),.pl (.int r'),.ac (zae ks),s10',s11']=some ⟨zbd (t,ks),false,[9]⟩:=by
     unfold eTup
     rw [zaq (r:=vs t) rfl (zdi (tup _ rfl))]
     rfl
    have ap:sApp 5 (eTup (zab (eVar 7) (zab (eCB zea (zab (eVar 9) aNil)) aNil))) [.pl (zbh cs),.pl (zae (nm W)),.pl (.dict (dS zae (ups W))),.pl (zau c),.pl (zae ts),.ac (zah rs),.pl (.int (i:Int)),.pl (.str t),.pl (.int r'),.ac (zae ks),s10',s11']=some (.nx [.pl (zbh cs),.pl (zae (nm W)),.pl (.dict (dS zae (ups W))),.pl (zau c),.pl (zae ts),.ac (zah (rs++[(t,ks)])),.pl (.int (i:Int)),.pl (.str t),.pl (.int r'),.pl (zae ks),s10',s11']):=by
     rw [zakn (i:=5) (ds:=rs.map zbd) rfl et (by rw [qC];omega) (by decide)]
     congr 2
     unfold zah
     rw [qAQ]
     rfl
    refine ⟨_,_,rfl,.inl (zao e8 (zao rfl (zao (zjo itc inn) (if_t tin ap)))),rs++[(t,ks)],_,_,_,_,_,_,rfl,fun r hr=>?_,fun r hr=>?_,?_,?_⟩
    ·rcases qv.mp hr with hr|hr
     ·exact ok.kinds r hr
     ·rw [qAV.mp hr];exact hk
    ·rcases qv.mp hr with hr|hr
     ·exact ok.size r hr
     ·rw [qAV.mp hr];exact hkl
    ·rw [qAQ]
     exact qBN.mpr ⟨ok.unl,by simp,fun a ha b hb e=>hin (by
      have:b=ks:=by simpa using hb
      rw [← this,← e];exact ha)⟩
    ·rw [hpm,qAQ]
     exact ok.sub.append (qCZ _))
 have hs:((List.range ts.length).zip ts).map (·.2)=ts:=by
  rw [show (fun z:Nat×Str=>z.2)=Prod.snd from rfl,List.map_snd_zip (by rw [qB9];exact qM _)]
 rw [hs] at ok
 exact ⟨rs,zed rfl (zao rfl (zao (zjo it lp) rfl)),ok⟩
theorem MadeOk.rules {W:Web} {p:Nat} {ts:List Str} {rs:List (Str×List Str)} (m:MadeOk W p ts rs) (lo:∀ x∈nm W,Low x) (hp:p≤3) (hts:ts.length≤16):RulesOk W rs :=
 ⟨fun r hr=>zadc lo (m.kinds r hr),m.kinds,fun r hr=>by rw [m.size r hr];omega,by have:=m.sub.length_le;simp at this;omega⟩
theorem MadeOk.names {W:Web} {p:Nat} {ts:List Str} {rs:List (Str×List Str)} (m:MadeOk W p ts rs) (nd:ts.Nodup):(rs.map (·.1)).Nodup:=m.sub.nodup nd
theorem CallIn.ok {W:Web} {c:List Arm} (h:CallIn (nm W) c) (hl:c.length≤3):CallOk W c:=⟨by omega,fun a ha=>qA0 (h.few a ha) (by decide),h.kinds⟩
theorem zaks {W:Web} (h:WebOk W):∀ (m:Nat) {x y:Str},(nm W).idxOf y<m→y∈nm W→x∈up W y→x=y∨(nm W).idxOf x<(nm W).idxOf y
 | 0,_,_,hm,_,_=>absurd hm (qCV _)
 | m+1,x,y,hm,hy,hx=>by
  rcases (zaji h hy).mp hx with rfl|⟨e,he,hxe⟩
  ·exact .inl rfl
  ·obtain ⟨g1,g2⟩:=zapb h he
   rcases zaks h m (by omega) g1 hxe with rfl|hlt
   ·exact .inr g2
   ·exact .inr (by omega)
theorem zaro {W:Web} (h:WebOk W) {x y:Str} (hx:x∈nm W) (hy:y∈nm W) (h1:x∈up W y) (h2:y∈up W x):x=y:=by
 rcases zaks h _ (qBo _) hy h1 with e|e
 ·exact e
 ·rcases zaks h _ (qBo _) hx h2 with e'|e'
  ·exact e'.symm
  ·omega
def geB (W:Web) (a b:List Str):Bool:=(a.zip b).all fun z=>decide (z.2∈up W z.1)
theorem zpp {W:Web} {a b:List Str}:zep W a b=(!(a==b)&&geB W a b):=rfl
theorem zafa {W:Web} (h:WebOk W):∀ {a b c:List Str},a.length=b.length→b.length=c.length→(∀ k∈a,k∈nm W)→geB W a b=true→geB W b c=true→geB W a c=true
 | [],_,_,_,_,_,_,_=>rfl
 | x::a,[],_,e,_,_,_,_=>by cases e
 | x::a,y::b,[],_,e,_,_,_=>by cases e
 | x::a,y::b,z::c,e1,e2,hk,h1,h2=>by
  unfold geB at h1 h2 ⊢
  simp only [qAq,qAk,qY,decide_eq_true_eq] at h1 h2 ⊢
  exact ⟨zaej h _ (qBo _) (hk x qX) h1.1 h2.1,zafa h (by simpa using e1) (by simpa using e2) (fun k hk'=>hk k (qJ _ hk')) h1.2 h2.2⟩
theorem zakt {W:Web} (h:WebOk W):∀ {a b:List Str},a.length=b.length→(∀ k∈a,k∈nm W)→(∀ k∈b,k∈nm W)→geB W a b=true→geB W b a=true→a=b
 | [],[],_,_,_,_,_=>rfl
 | [],y::b,e,_,_,_,_=>by cases e
 | x::a,[],e,_,_,_,_=>by cases e
 | x::a,y::b,e,ha,hb,h1,h2=>by
  unfold geB at h1 h2
  simp only [qAq,qAk,qY,decide_eq_true_eq] at h1 h2
  rw [zaro h (ha x qX) (hb y qX) h2.1 h1.1,zakt h (by simpa using e) (fun k hk=>ha k (qJ _ hk)) (fun k hk=>hb k (qJ _ hk)) h1.2 h2.2]
abbrev Rule:=Str×List Str
structure OrdOk (W:Web) (p:Nat) (S:List Rule):Prop where
 kinds:∀ r∈S,∀ k∈r.2,k∈nm W
 size:∀ r∈S,r.2.length=p
theorem OrdOk.filter {W:Web} {p:Nat} {S:List Rule} (h:OrdOk W p S) (f:Rule→Bool):OrdOk W p (S.filter f) :=
 ⟨fun r hr=>h.kinds r (qc.mp hr).1,fun r hr=>h.size r (qc.mp hr).1⟩
theorem zanq {W:Web} {a:List Str}:zep W a a=false:=by rw [zpp,beq_self_eq_true];rfl
theorem zade {W:Web} (h:WebOk W) {p:Nat} {S:List Rule} (ok:OrdOk W p S) {a b c:Rule} (ha:a∈S) (hb:b∈S) (hc:c∈S) (h1:zep W a.2 b.2=true) (h2:zep W b.2 c.2=true):zep W a.2 c.2=true:=by
 rw [zpp,qY] at h1 h2 ⊢
 have g:=zafa h ((ok.size a ha).trans (ok.size b hb).symm) ((ok.size b hb).trans (ok.size c hc).symm) (ok.kinds a ha) h1.2 h2.2
 refine ⟨?_,g⟩
 rw [qBD,beq_eq_false_iff_ne]
 intro e
 have g2:=h2.2
 rw [← e] at g2
 have:=zakt h ((ok.size a ha).trans (ok.size b hb).symm) (ok.kinds a ha) (ok.kinds b hb) h1.2 g2
 have n1:=h1.1
 rw [this,beq_self_eq_true] at n1
 cases n1
theorem zabd {α:Type} {p q:α→Bool}:∀ {l:List α},(∀ x∈l,p x=true→q x=true)→(∃ y∈l,q y=true∧p y=false)→(l.filter p).length<(l.filter q).length
 | [],_,⟨y,hy,_⟩=>by cases hy
 | x::l,h,⟨y,hy,h1,h2⟩=>by
  have le:(l.filter p).length≤(l.filter q).length:=by
   have:∀ {l:List α},(∀ x∈l,p x=true→q x=true)→(l.filter p).length≤(l.filter q).length:=by
    intro l
    induction l with
    | nil=>intro _;exact qM _
    | cons x l ih =>
     intro h
     have i:=ih fun z hz=>h z (qJ _ hz)
     rw [qAw,qAw]
     cases hp:p x with
     | true=>rw [h x qX hp];simpa using i
     | false =>
      cases q x
      ·simpa using i
      ·simp;omega
   exact this fun z hz=>h z (qJ _ hz)
  rw [qAw,qAw]
  rcases qg.mp hy with rfl|hy
  ·rw [h1,h2];simp;omega
  ·have i:=zabd (l:=l) (fun z hz=>h z (qJ _ hz)) ⟨y,hy,h1,h2⟩
   cases hp:p x with
   | true=>rw [h x qX hp];simpa using i
   | false =>
    cases q x
    ·simpa using i
    ·simp;omega
theorem zjy {W:Web} {S:List Rule} {r:Rule}:r∈zde W S↔r∈S∧∀ q∈S,zep W q.2 r.2=false:=by
 unfold zde
 rw [qc,qBD,qBC]
 constructor
 ·rintro ⟨h1,h2⟩
  exact ⟨h1,fun q hq=>by simpa using h2 q hq⟩
 ·rintro ⟨h1,h2⟩
  exact ⟨h1,fun q hq=>by simpa using h2 q hq⟩
theorem zwf {W:Web} (h:WebOk W) {p:Nat} {S:List Rule} (ok:OrdOk W p S):∀ (n:Nat) (x:Rule),x∈S→(S.filter fun q=>zep W q.2 x.2).length<n→∃ m∈zde W S,m=x∨zep W m.2 x.2=true
 | 0,_,_,hn=>absurd hn (qCV _)
 | n+1,x,hx,hn=>by
  by_cases hm:∃ y∈S,zep W y.2 x.2=true
  ·obtain ⟨y,hy,hyx⟩:=hm
   have lt:(S.filter fun q=>zep W q.2 y.2).length<(S.filter fun q=>zep W q.2 x.2).length :=
    zabd (fun z hz hzy=>zade h ok hz hy hx hzy hyx) ⟨y,hy,hyx,zanq⟩
   obtain ⟨m,hm,e⟩:=zwf h ok n y hy (by omega)
   refine ⟨m,hm,.inr ?_⟩
   rcases e with rfl|e
   ·exact hyx
   ·exact zade h ok (zjy.mp hm).1 hy hx e hyx
  ·refine ⟨x,zjy.mpr ⟨hx,fun q hq=>?_⟩,.inl rfl⟩
   cases hb:zep W q.2 x.2 with
   | false=>rfl
   | true=>exact absurd ⟨q,hq,hb⟩ hm
theorem zaku {l:List Rule} (nd:(l.map (·.1)).Nodup) (f:Rule→Bool):((l.filter f).map (·.1)).Nodup:=(List.Sublist.map _ List.filter_sublist).nodup nd
abbrev nms (S:List Rule):List Str:=S.map (·.1)
theorem zuk:∀ (l:List Rule),(∀ r∈l,qN r.1=true∧LowS r.2)→qu (l.map zbd)=true∧qf (l.map zbd)≤2
 | [],_=>⟨rfl,qAf _⟩
 | p::r,h=>by
  obtain ⟨h1,h2⟩:=zuk r fun q hq=>h q (qJ _ hq)
  obtain ⟨g1,g2⟩:=h p qX
  obtain ⟨l1,l2⟩:=zke p.2 g2
  rw [qa]
  constructor
  ·show ((qN p.1&&(qu (p.2.map .str)&&true))&&qu (r.map zbd))=true
   rw [g1,l1,h1];rfl
  ·show max (max 0 (max (qf (p.2.map .str)+1) 0)+1) (qf (r.map zbd))≤2
   rw [l2]
   omega
theorem zmx {l:List Rule} (h:∀ r∈l,qN r.1=true∧LowS r.2):qI (zah l)=true:=by
 obtain ⟨h1,h2⟩:=zuk l h
 unfold qI zah
 rw [qY]
 refine ⟨h1,decide_eq_true ?_⟩
 show qf (l.map zbd)+1≤64
 omega
theorem zadf {r:Rule} (h:qN r.1=true∧LowS r.2):qI (zbd r)=true:=by
 obtain ⟨h1,h2⟩:=zke r.2 h.2
 unfold qI zbd zam
 rw [qY]
 refine ⟨?_,decide_eq_true ?_⟩
 ·show (qN r.1&&(qu (r.2.map .str)&&true))=true
  rw [h.1,h1];rfl
 ·show max 0 (max (qf (r.2.map .str)+1) 0)+1≤64
  rw [h2];omega
theorem zxx (a b:Rule):qH (zbd a) (zbd b)=decide (a=b):=by
 unfold zbd zam
 show ((a.1==b.1)&&((PyData.eqvAll (a.2.map .str) (b.2.map .str))&&true))=_
 rw [zpo,Bool.and_true,qAC,qY,beq_iff_eq,beq_iff_eq,decide_eq_true_iff]
 exact ⟨fun ⟨h1,h2⟩=>Prod.ext h1 h2,fun h=>by rw [h];exact ⟨rfl,rfl⟩⟩
theorem zanr {neg:Bool} {l:List Rule} {r:Rule} (h:∀ r∈l,qN r.1=true∧LowS r.2) (hr:qN r.1=true∧LowS r.2):inS neg (zbd r) (zah l)=some (.bool (if neg then !decide (r∈l) else decide (r∈l)),false):=by
 unfold inS
 rw [show zig (zah l)=some (l.map zbd) from rfl]
 simp only
 rw [if_pos ⟨zadf hr,zmx h⟩]
 have:((l.map zbd).any fun e=>qH e (zbd r))=decide (r∈l):=by
  rw [qBe,qAC,qAN,decide_eq_true_iff]
  constructor
  ·rintro ⟨y,hy,e⟩
   have e:qH (zbd y) (zbd r)=true:=e
   rw [zxx,decide_eq_true_iff] at e
   rw [← e];exact hy
  ·intro hm
   refine ⟨r,hm,?_⟩
   show qH (zbd r) (zbd r)=true
   rw [zxx];simp
 rw [this]
theorem zakv (a:List Str):zau (a.map Arm.one)=zam a:=by
 unfold zau zam
 rw [qAa]
 rfl
theorem zafb {W:Web}:∀ (a b:List Str),fitB W b (a.map Arm.one)=geB W a b
 | [],b=>by unfold fitB geB;simp
 | x::a,[]=>by unfold fitB geB;simp
 | x::a,y::b=>by
  have ih:=zafb (W:=W) a b
  unfold fitB geB at ih ⊢
  rw [qa,qAq,qAq,qAk,qAk,ih]
  congr 1
  rw [decide_eq_decide,zxt]
  show (∃ n∈[x],y∈up W n)↔y∈up W x
  simp
theorem ziz {xs:List Str} (h:LowS xs):qI (zeu xs)=true:=by
 have w1:qN "none" = true:=by decide +kernel
 have w2:qN "rule" = true:=by decide +kernel
 have w3:qN "quarrel" = true:=by decide +kernel
 match xs,h with
 | [],_=>decide +kernel
 | [x],h =>
  unfold qI zeu
  rw [qY]
  refine ⟨?_,decide_eq_true (by show max 0 (max 0 0)+1≤64;decide)⟩
  show (qN "rule" && (qN x&&true))=true
  rw [w2,h x qX];rfl
 | x::y::xs,h =>
  obtain ⟨h1,h2⟩:=zke (x::y::xs) h
  unfold qI zeu zam
  rw [qY]
  refine ⟨?_,decide_eq_true ?_⟩
  ·show (qN "quarrel" && (qu ((x::y::xs).map .str)&&true))=true
   rw [w3,h1];rfl
  ·show max 0 (max (qf ((x::y::xs).map .str)+1) 0)+1≤64
   rw [h2];decide
theorem zans {d:PyData} (s:qI d=true):eqD d d=some (.bool true,false):=by
 unfold eqD eqOk
 rw [s,Bool.and_self,Bool.or_true,if_pos rfl,qCJ _ (qAg s)]
theorem zavh {a b:EF} {env:DEnv} {d:PyData} {f1 f2:Bool} {b1 b2:List Nat} (ha:a env=some ⟨d,f1,b1⟩) (hb:b env=some ⟨d,f2,b2⟩) (s:qI d=true):eOp eqD a b env=some (vb true):=by
 unfold eOp;rw [ha,hb]
 simp only [qF]
 rw [zans s];rfl
structure Bk (W:Web) (rs:List Rule) (c:List Arm):Prop where
 web:WebOk W
 rul:RulesOk W rs
 cal:CallOk W c
 ord:OrdOk W c.length rs
 nd:(rs.map (·.1)).Nodup
 low:∀ r∈rs,qN r.1=true
theorem Bk.lows {W:Web} {rs:List Rule} {c:List Arm} (b:Bk W rs c) {S:List Rule} (hs:∀ x∈S,x∈rs):LowS (nms S):=fun k hk=>by
 obtain ⟨r,hr,rfl⟩:=qAJ.mp hk
 exact b.low r (hs r hr)
theorem zaud {f g:TF} {env:DEnv} (h1:f env=some false) (h2:g env=some false):tOrF f g env=some false:=by unfold tOrF;rw [h1];exact h2
theorem zagn (d:PyData):zhr [d]=some (.bool (isiB "int" d&&!isiB "bool" d),false):=by
 refine zed rfl (zfi (bs:=[]) ?_)
 show eAnd (eIsi "int" (eVar 0)) (eNot (eIsi "bool" (eVar 0))) [.pl d]=_
 unfold eAnd
 rw [show eIsi "int" (eVar 0) [.pl d]=some (vb (isiB "int" d)) from rfl]
 simp only [qF,asB]
 cases isiB "int" d<;>rfl
theorem zul {d:PyData} {z:Str}:qH d (.str z)=true↔d=.str z:=by
 cases d<;>simp [qH]
theorem zakw {d:PyData} {z:Str}:qH (.str z) d=qH d (.str z):=by
 cases d<;>simp [qH,Bool.beq_comm]
section
variable {a b:EF} {env:DEnv}
theorem zaue {neg:Bool} {d e:PyData} {f1 f2:Bool} {b1 b2:List Nat} (ha:a env=some ⟨d,f1,b1⟩) (hb:b env=some ⟨e,f2,b2⟩) (h:zajq d=true∨zajq e=true):eOp (eqTD neg) a b env=some (vb (if neg then !PyData.eqv d e else qH d e)):=by
 unfold eOp;rw [ha,hb]
 simp only [qF,eqTD]
 rw [if_pos h];rfl
end
theorem zja:∀ (xs:List Str),zdd [zae xs]=some (zeu xs,false)
 | []=>rfl
 | [x]=>rfl
 | x::y::xs=>by
  have t:∀ j:Int,(j=0∨j=1)→zbe (eOp eqD (eCB lenD (zab (eVar 0) aNil)) (eC (.int j))) [.pl (zae (x::y::xs))]=some false:=fun j hj=>by
   rw [zdk (zrr (i:=((x::y::xs).map PyData.str).length) (j:=j) (zir rfl) rfl)]
   congr 1
   rw [beq_eq_false_iff_ne,qC,qAI,qAI]
   omega
  exact zed (env:=[.pl (zae (x::y::xs))]) rfl (zao (if_f (t 0 (.inl rfl)) rfl) (zao (if_f (t 1 (.inr rfl)) rfl) rfl))
def zly:PyData:=.tuple [.str "near"]
def zdm (d:PyData):Bool:=qH d zly
noncomputable def zpq (W:Web) (ks:List Str) (c:List Arm):PyData→Bool
 | .int k=>(decide (0≤k)&&decide (k<(ks.length:Int)))&&(ks[k.toNat]?).elim false fun x=>(c[k.toNat]?).elim false fun a=>!decide (x∈upA W a)
 | _=>false
def farB (W:Web) (S:List Rule) (ks:List Str) (y:PyData):Bool:=S.any fun q=>qH (.str q.1) y&&zep W q.2 ks
noncomputable def zgn (W:Web) (rs:List Rule) (c:List Arm) (r:Rule) (d:PyData):Bool:=match d with
 | .tuple [x,y]=>if qH x (.str "out")=true then zpq W r.2 c y else fitB W r.2 c&&(qH x (.str "far")&&farB W (fitL W rs c) r.2 y)
 | .tuple ds=>fitB W r.2 c&&zdm (.tuple ds)
 | _=>false
def zky (d:PyData):Prop:=qI d=true∨∃ y,d=.tuple [.str "far",y]
theorem ixT {k n:Nat} {b:EF} {env:DEnv} {ds:List PyData} {d:PyData} (he:env[k]?=some (.pl (.tuple ds))) (hb:b env=some (vi (n:Int))) (hd:ds[n]?=some d):eIxV k b env=some ⟨d,false,[]⟩:=by
 unfold eIxV
 rw [he]
 unfold eOp eVar
 rw [he,hb]
 simp only [qF,ixD]
 rw [znz hd]
 simp [bsOf]
theorem zant (d:PyData):bsOf d []=[]:=by unfold bsOf;split<;>rfl
theorem zanu {W:Web} {ks:List Str} {c:List Arm} (hl:ks.length=c.length) (y:PyData):zsd [zam ks,.list (c.map fun a=>zba (upA W a)),y]=some (.bool (zpq W ks c y),false):=by
 have wh:∀ b,(isiB "int" y&&!isiB "bool" y)=b→zef (tTru (zbm 1 zhr (zab (eVar 2) aNil))) [.pl (zam ks),.pl (.list (c.map fun a=>zba (upA W a))),.pl y]=some (!b):=fun b hb=>by
  refine zpd ?_
  rw [zbv (n:=1) (rs:=[⟨y,false,[]⟩]) (zdi rfl) rfl (zagn y),hb];rfl
 have no:∀ {g:TF},(isiB "int" y&&!isiB "bool" y)=false→tOrF (zef (tTru (zbm 1 zhr (zab (eVar 2) aNil)))) g [.pl (zam ks),.pl (.list (c.map fun a=>zba (upA W a))),.pl y]=some true:=fun hb=>by
  unfold tOrF;rw [wh _ hb];rfl
 cases y with
 | int k =>
  have ch:zef (zbe (zmf leD ltD (eC (.int 0)) (eVar 2) (eCB lenD (zab (eVar 0) aNil)))) [.pl (zam ks),.pl (.list (c.map fun a=>zba (upA W a))),.pl (.int k)]=some (!(decide (0≤k)&&decide (k<(ks.length:Int)))):=by
   unfold zef
   rw [zdk (c:=decide (0≤k)&&decide (k<(ks.length:Int))) ?_]
   ·rfl
   unfold zmf
   show (if decide (0≤k)=true then _ else _)=_
   cases decide (0≤k) with
   | false=>rfl
   | true =>
    rw [if_pos rfl]
    show some (vb (decide (k<((ks.map PyData.str).length:Int))))=_
    rw [qC];rfl
  have tor:tOrF (zef (tTru (zbm 1 zhr (zab (eVar 2) aNil)))) (zef (zbe (zmf leD ltD (eC (.int 0)) (eVar 2) (eCB lenD (zab (eVar 0) aNil))))) [.pl (zam ks),.pl (.list (c.map fun a=>zba (upA W a))),.pl (.int k)]=some (!(decide (0≤k)&&decide (k<(ks.length:Int)))):=by
   unfold tOrF;rw [wh true rfl,ch];rfl
  rw [show zpq W ks c (.int k)=((decide (0≤k)&&decide (k<(ks.length:Int)))&&(ks[k.toNat]?).elim false fun x=>(c[k.toNat]?).elim false fun a=>!decide (x∈upA W a)) from rfl]
  cases hb:(decide (0≤k)&&decide (k<(ks.length:Int))) with
  | false=>exact zed (env:=[.pl (zam ks),.pl (.list (c.map fun a=>zba (upA W a))),.pl (.int k)]) rfl (zdt (if_t (by rw [tor,hb];rfl) rfl))
  | true =>
   obtain ⟨h0,h1⟩:=qp.mp hb
   have h0:=of_decide_eq_true h0
   have h1:=of_decide_eq_true h1
   obtain ⟨n,rfl⟩:=qCp h0
   have hn:n<ks.length:=by omega
   have hn2:n<c.length:=by omega
   refine zed (env:=[.pl (zam ks),.pl (.list (c.map fun a=>zba (upA W a))),.pl (.int (n:Int))]) rfl (zao (if_f (by rw [tor,hb];rfl) rfl) (zfi (bs:=[]) ?_))
   have:=zajg (neg:=true) (a:=eIxV 0 (eVar 2)) (b:=eIxV 1 (eVar 2)) (env:=[.pl (zam ks),.pl (.list (c.map fun a=>zba (upA W a))),.pl (.int (n:Int))]) (x:=ks[n]) (ks:=upA W c[n]) (fr:=false) (bs:=[])
    (ixT (ds:=ks.map .str) rfl rfl (by rw [qL,qE hn];rfl)) (zqe (ds:=c.map fun a=>zba (upA W a)) rfl rfl (by rw [qL,qE hn2];rfl))
   rw [this]
   show _=some (vb (true&&((ks[n]?).elim false fun x=>(c[n]?).elim false fun a=>!decide (x∈upA W a))))
   rw [qE hn,qE hn2]
   rfl
 | none=>exact zed (env:=[.pl (zam ks),.pl (.list (c.map fun a=>zba (upA W a))),.pl .none]) rfl (zdt (if_t (no rfl) rfl))
 | bool b=>exact zed (env:=[.pl (zam ks),.pl (.list (c.map fun a=>zba (upA W a))),.pl (.bool b)]) rfl (zdt (if_t (no rfl) rfl))
 | str b=>exact zed (env:=[.pl (zam ks),.pl (.list (c.map fun a=>zba (upA W a))),.pl (.str b)]) rfl (zdt (if_t (no rfl) rfl))
 | list b=>exact zed (env:=[.pl (zam ks),.pl (.list (c.map fun a=>zba (upA W a))),.pl (.list b)]) rfl (zdt (if_t (no rfl) rfl))
 | tuple b=>exact zed (env:=[.pl (zam ks),.pl (.list (c.map fun a=>zba (upA W a))),.pl (.tuple b)]) rfl (zdt (if_t (no rfl) rfl))
 | dict b=>exact zed (env:=[.pl (zam ks),.pl (.list (c.map fun a=>zba (upA W a))),.pl (.dict b)]) rfl (zdt (if_t (no rfl) rfl))
theorem zabe {W:Web} (h:WebOk W) {S:List Rule} (hr:RulesOk W S) {ks:List Str} (lk:LowS ks) (y:PyData):zkg [.dict (dS zba (ups W)),zah S,zam ks,y]=some (.bool (farB W S ks y),false):=by
 have cm:zej (gT 2 (zap 0 (zap 1 zco))) zdw (eAnd (eOp (eqTD false) (eVar 0) (eVar 4)) (zbm 3 zgc (zab (eVar 2) (zab (eVar 1) (zab (eVar 3) aNil))))) [.no,.no,.pl (.dict (dS zba (ups W))),.pl (zam ks),.pl y] (S.map zbd)=some (S.map fun q=>.bool (qH (.str q.1) y&&zep W q.2 ks)):=by
  refine zec (enc:=zbd) (out:=fun q=>.bool (qH (.str q.1) y&&zep W q.2 ks)) fun q hq=>⟨[.pl (.str q.1),.pl (zam q.2),.pl (.dict (dS zba (ups W))),.pl (zam ks),.pl y],rfl,rfl,vb (qH (.str q.1) y&&zep W q.2 ks),?_,rfl⟩
  unfold eAnd
  rw [zaue (neg:=false) (d:=.str q.1) (e:=y) (f1:=false) (f2:=false) (b1:=[]) (b2:=[]) rfl rfl (.inl rfl),zbv (n:=3) (rs:=[⟨.dict (dS zba (ups W)),false,[]⟩,⟨zam q.2,false,[]⟩,⟨zam ks,false,[]⟩]) rfl rfl (zui h (hr.low q hq) lk (hr.kinds q hq) (hr.few q hq))]
  cases qH (.str q.1) y<;>rfl
 have hfl:=hr.len
 exact zed (env:=[.pl (.dict (dS zba (ups W))),.pl (zah S),.pl (zam ks),.pl y]) rfl (zfi (bs:=[]) (zakj (f:=fun q:Rule=>qH (.str q.1) y&&zep W q.2 ks) (zdz (own:=["name", "others"]) (fr:=[0,2,3]) (fi:=zbg (eVar 1)) (ds:=S.map zbd) (bs:=[]) rfl (by rw [qC];omega) cm)))
theorem znm {z:Str} (h:qN z=true):qI (.str z)=true:=by
 unfold qI
 rw [qY]
 exact ⟨h,rfl⟩
theorem zadg {x:PyData} {t:List PyData} (h:qI (.tuple (x::t))=true):qI x=true:=by
 unfold qI at h ⊢
 obtain ⟨h1,h2⟩:=qp.mp h
 have h1:(PyData.canLay0 x&&qu t)=true:=h1
 have h2:max (PyData.depth x) (qf t)+1≤64:=of_decide_eq_true h2
 rw [qY]
 exact ⟨(qp.mp h1).1,decide_eq_true (by omega)⟩
theorem zauf {d e:PyData} (hd:qI d=true) (he:qI e=true):eqD d e=some (.bool (qH d e),false):=by
 unfold eqD eqOk
 rw [hd,he,if_pos (by simp)]
theorem zaug {d e:PyData} (hd:qI d=true) (he:qI e=true):neD d e=some (.bool (!PyData.eqv d e),false):=by
 unfold neD eqOk
 rw [hd,he,if_pos (by simp)]
theorem zum {a b:EF} {env:DEnv} {d e:PyData} {f1 f2:Bool} {b1 b2:List Nat} (ha:a env=some ⟨d,f1,b1⟩) (hb:b env=some ⟨e,f2,b2⟩) (hd:qI d=true) (he:qI e=true):eOp eqD a b env=some (vb (qH d e)):=by
 unfold eOp
 rw [ha,hb]
 show ((eqD d e).bind fun z=>some (⟨z.1,z.2,bsOf z.1 (b1++b2)⟩:Val))=_
 rw [zauf hd he];rfl
theorem zavi {a b:EF} {env:DEnv} {d e:PyData} {f1 f2:Bool} {b1 b2:List Nat} (ha:a env=some ⟨d,f1,b1⟩) (hb:b env=some ⟨e,f2,b2⟩) (hd:qI d=true) (he:qI e=true):eOp neD a b env=some (vb (!PyData.eqv d e)):=by
 unfold eOp
 rw [ha,hb]
 show ((neD d e).bind fun z=>some (⟨z.1,z.2,bsOf z.1 (b1++b2)⟩:Val))=_
 rw [zaug hd he];rfl
theorem zgf:qI zly=true:=by decide +kernel
theorem zauh (z:String) (h:qN (Str.ofString z)=true:=by decide +kernel):qI (.str (Str.ofString z))=true:=znm h
theorem zky.head {x:PyData} {t:List PyData} (h:zky (.tuple (x::t))):qI x=true:=by
 rcases h with h|⟨y,h⟩
 ·exact zadg h
 ·cases h;exact zauh "far"
theorem zpr {x y:PyData} {t:List PyData}:zdm (.tuple (x::y::t))=false:=by
 show (qH x (.str "near")&&false)=false
 rw [qBH]
theorem zadh {k:Nat} {env:DEnv} {ds:List PyData} (he:env[k]?=some (.pl (.tuple ds))):eCB lenD (zab (eVar k) aNil) env=some (vi ds.length):=by
 unfold eCB
 rw [zdi (r:=⟨.tuple ds,false,[]⟩) (by unfold eVar;rw [he])]
 rfl
theorem len2 {k:Nat} {env:DEnv} {ds:List PyData} (he:env[k]?=some (.pl (.tuple ds))):zbe (eOp eqD (eCB lenD (zab (eVar k) aNil)) (eC (.int 2))) env=some (decide (ds.length=2)):=by
 rw [zdk (zrr (i:=ds.length) (j:=2) (zadh he) rfl)]
 congr 1
 rw [qAC,beq_iff_eq,decide_eq_true_iff]
 omega
theorem zps {W:Web} {rs:List Rule} {c:List Arm} {r:Rule} {d:PyData} (h:∀ ds,d≠.tuple ds):zgn W rs c r d=false:=by
 cases d<;>first|rfl|exact absurd rfl (h _)
theorem zkz {W:Web} {rs:List Rule} {c:List Arm} {r:Rule} {ds:List PyData} (h:ds.length≠2):zgn W rs c r (.tuple ds)=(fitB W r.2 c&&zdm (.tuple ds)):=by
 unfold zgn
 match ds,h with
 | [],_=>rfl
 | [_],_=>rfl
 | [_,_],h=>exact absurd rfl h
 | _::_::_::_,_=>rfl
theorem Bk.low' {W:Web} {rs:List Rule} {c:List Arm} (b:Bk W rs c):∀ r∈rs,qN r.1=true∧LowS r.2:=fun r hr=>⟨b.low r hr,b.rul.low r hr⟩
theorem zmy {W:Web} {rs:List Rule} {c:List Arm}:∀ r∈fitL W rs c,r∈rs:=fun r hr=>(qc.mp hr).1
theorem zakx {W:Web} {rs:List Rule} {c:List Arm} (b:Bk W rs c) {r:Rule} (hr:r∈rs) {d:PyData} (hd:zky d) :
  zmn [.dict (dS zba (ups W)),.list (c.map fun a=>zba (upA W a)),zah (fitL W rs c),zbd r,d]=some (.bool (zgn W rs c r d),false):=by
 have hsz:=b.ord.size r hr
 have hs:zho 6 [.dict (dS zba (ups W)),.list (c.map fun a=>zba (upA W a)),zah (fitL W rs c),zbd r,d]=[.pl (.dict (dS zba (ups W))),.pl (.list (c.map fun a=>zba (upA W a))),.pl (zah (fitL W rs c)),.pl (zbd r),.pl d,.no]:=rfl
 by_cases ht:∃ ds,d=.tuple ds
 ·obtain ⟨ds,rfl⟩:=ht
  have t0:zef (tTru (eIsi "tuple" (eVar 4))) [.pl (.dict (dS zba (ups W))),.pl (.list (c.map fun a=>zba (upA W a))),.pl (zah (fitL W rs c)),.pl (zbd r),.pl (.tuple ds),.no]=some false:=rfl
  have s5:sSet 5 (eIxV 3 (eC (.int 1))) [.pl (.dict (dS zba (ups W))),.pl (.list (c.map fun a=>zba (upA W a))),.pl (zah (fitL W rs c)),.pl (zbd r),.pl (.tuple ds),.no]=some (.nx [.pl (.dict (dS zba (ups W))),.pl (.list (c.map fun a=>zba (upA W a))),.pl (zah (fitL W rs c)),.pl (zbd r),.pl (.tuple ds),.pl (zam r.2)]):=rfl
  have tin:zbe (eOp (inS true) (eVar 3) (eVar 2)) [.pl (.dict (dS zba (ups W))),.pl (.list (c.map fun a=>zba (upA W a))),.pl (zah (fitL W rs c)),.pl (zbd r),.pl (.tuple ds),.pl (zam r.2)]=some (!fitB W r.2 c):=by
   refine zdk ?_
   show ((inS true (zbd r) (zah (fitL W rs c))).bind fun z=>some (⟨z.1,z.2,bsOf z.1 ([]++[])⟩:Val))=_
   rw [zanr (fun q hq=>b.low' q (zmy q hq)) (b.low' r hr)]
   have:decide (r∈fitL W rs c)=fitB W r.2 c:=by
    rw [qAC,decide_eq_true_iff]
    exact ⟨fun h=>(qc.mp h).2,fun h=>qc.mpr ⟨hr,h⟩⟩
   rw [this];rfl
  have lw:∀ (z:Str) (q:PyData) (hz:qN z=true),qI q=true→ds[0]?=some q→zbe (eOp eqD (eIxV 4 (eC (.int 0))) (eC (.str z))) [.pl (.dict (dS zba (ups W))),.pl (.list (c.map fun a=>zba (upA W a))),.pl (zah (fitL W rs c)),.pl (zbd r),.pl (.tuple ds),.pl (zam r.2)]=some (qH q (.str z)):=fun z q hz hq h0 =>
   zdk (zum (f1:=false) (f2:=false) (b1:=[]) (b2:=[]) (ixT (n:=0) rfl rfl h0) rfl hq (znm hz))
  have l2:=len2 (k:=4) (ds:=ds) (env:=[.pl (.dict (dS zba (ups W))),.pl (.list (c.map fun a=>zba (upA W a))),.pl (zah (fitL W rs c)),.pl (zbd r),.pl (.tuple ds),.pl (zam r.2)]) rfl
  have last:qI (.tuple ds)=true→sRet (eOp eqD (eVar 4) (eTup (zab (eC (.str "near")) aNil))) [.pl (.dict (dS zba (ups W))),.pl (.list (c.map fun a=>zba (upA W a))),.pl (zah (fitL W rs c)),.pl (zbd r),.pl (.tuple ds),.pl (zam r.2)]=some (.rt (.bool (zdm (.tuple ds))) false):=fun hsh =>
   zfi (bs:=[]) (zum (f1:=false) (f2:=false) (b1:=[]) (b2:=[]) (d:=.tuple ds) (e:=zly) rfl rfl hsh zgf)
  by_cases h2:ds.length=2
  ·obtain ⟨x,y,rfl⟩:∃ x y,ds=[x,y]:=by
    match ds,h2 with
    | [x,y],_=>exact ⟨x,y,rfl⟩
   have hx:qI x=true:=hd.head
   have lo:=lw "out" x (by decide +kernel) hx rfl
   have lf:=lw "far" x (by decide +kernel) hx rfl
   have aw:∀ {g:TF} {v:Bool},g [.pl (.dict (dS zba (ups W))),.pl (.list (c.map fun a=>zba (upA W a))),.pl (zah (fitL W rs c)),.pl (zbd r),.pl (.tuple [x,y]),.pl (zam r.2)]=some v→zhb (zbe (eOp eqD (eCB lenD (zab (eVar 4) aNil)) (eC (.int 2)))) g [.pl (.dict (dS zba (ups W))),.pl (.list (c.map fun a=>zba (upA W a))),.pl (zah (fitL W rs c)),.pl (zbd r),.pl (.tuple [x,y]),.pl (zam r.2)]=some v:=fun hg=>by
    unfold zhb;rw [l2];exact hg
   refine zed hs (zao (if_f t0 rfl) (zao s5 ?_))
   show _=some (Out.rt (.bool (if qH x (.str "out")=true then zpq W r.2 c y else fitB W r.2 c&&(qH x (.str "far")&&farB W (fitL W rs c) r.2 y))) false)
   cases ho:qH x (.str "out") with
   | true =>
    rw [ho] at lo
    refine zdt (if_t (aw lo) (zfi (bs:=[]) ?_))
    rw [zbv (n:=3) (rs:=[⟨zam r.2,false,[]⟩,⟨.list (c.map fun a=>zba (upA W a)),false,[]⟩,⟨y,false,[]⟩]) (zaq rfl (zaq rfl (zdi (ixT (n:=1) (ds:=[x,y]) rfl rfl rfl)))) rfl (zanu hsz y)]
    rfl
   | false =>
    rw [ho] at lo
    refine zao (if_f (aw lo) rfl) ?_
    rw [if_neg qO]
    cases hf:fitB W r.2 c with
    | false=>exact zdt (if_t (by rw [tin,hf];rfl) rfl)
    | true =>
     refine zao (if_f (by rw [tin,hf];rfl) rfl) ?_
     rw [qAz]
     cases hfa:qH x (.str "far") with
     | true =>
      rw [hfa] at lf
      refine zdt (if_t (aw lf) (zfi (bs:=[]) ?_))
      rw [zbv (n:=4) (rs:=[⟨.dict (dS zba (ups W)),false,[]⟩,⟨zah (fitL W rs c),false,[]⟩,⟨zam r.2,false,[]⟩,⟨y,false,[]⟩]) (zaq rfl (zaq rfl (zaq rfl (zdi (ixT (n:=1) (ds:=[x,y]) rfl rfl rfl))))) rfl (zabe b.web (b.rul.filter _) (b.rul.low r hr) y)]
      rfl
     | false =>
      rw [hfa] at lf
      have hsh:qI (.tuple [x,y])=true:=by
       rcases hd with h|⟨z,h⟩
       ·exact h
       ·cases h
        exact absurd hfa (by rw [zul.mpr rfl];decide)
      refine zao (if_f (aw lf) rfl) ?_
      rw [last hsh,zpr]
      rfl
  ·have hsh:qI (.tuple ds)=true:=by
    rcases hd with h|⟨z,h⟩
    ·exact h
    ·cases h;exact absurd rfl h2
   have af:∀ {g:TF},zhb (zbe (eOp eqD (eCB lenD (zab (eVar 4) aNil)) (eC (.int 2)))) g [.pl (.dict (dS zba (ups W))),.pl (.list (c.map fun a=>zba (upA W a))),.pl (zah (fitL W rs c)),.pl (zbd r),.pl (.tuple ds),.pl (zam r.2)]=some false:=by
    intro g
    unfold zhb;rw [l2,decide_eq_false h2];rfl
   rw [zkz h2]
   refine zed hs (zao (if_f t0 rfl) (zao s5 (zao (if_f af rfl) ?_)))
   cases hf:fitB W r.2 c with
   | false=>exact zdt (if_t (by rw [tin,hf];rfl) rfl)
   | true=>exact zao (if_f (by rw [tin,hf];rfl) rfl) (zao (if_f af rfl) (by rw [last hsh];rfl))
 ·rw [zps fun ds h=>ht ⟨ds,h⟩]
  refine zed hs (zdt (if_t ?_ rfl))
  cases d<;>first|rfl|exact absurd ⟨_,rfl⟩ ht
theorem zxy {W:Web} {a:Arm} {k:Str} (hf:a.parts.length<300) (hk:∀ n∈a.parts,n∈nm W):zgq [.dict (dS zae (ups W)),armD a,.str k]=some (.bool (decide (k∈upA W a)),false):=by
 have itp:zbg (zbm 1 zcz (zab (eVar 1) aNil)) [.pl (.dict (dS zae (ups W))),.pl (armD a),.pl (.str k)]=some (a.parts.map .str,[]):=by
  unfold zbg
  rw [zbv (n:=1) (rs:=[⟨armD a,false,[]⟩]) (zdi rfl) rfl (zif a)]
  rfl
 have k2:zej (gN 0) zdw (eOp (inD false) (eVar 2) (zfd 1 (eVar 0))) [.no,.pl (.dict (dS zae (ups W))),.pl (.str k)] (a.parts.map .str)=some (a.parts.map fun n=>.bool (decide (k∈up W n))) :=
  zec fun n hn=>⟨[.pl (.str n),.pl (.dict (dS zae (ups W))),.pl (.str k)],rfl,rfl,vb (decide (k∈up W n)),e_in (neg:=false) (fr:=false) (bs:=[]) rfl (zajf (d:=zae (up W n)) (.inl rfl) rfl (by rw [zof,zng (hk n hn)];rfl)),rfl⟩
 have ev:(a.parts.any fun n=>decide (k∈up W n))=decide (k∈upA W a):=by
  rw [qAC,qAN,decide_eq_true_iff,zxt]
  exact ⟨fun ⟨n,h1,h2⟩=>⟨n,h1,of_decide_eq_true h2⟩,fun ⟨n,h1,h2⟩=>⟨n,h1,decide_eq_true h2⟩⟩
 rw [← ev]
 exact zed (env:=[.pl (.dict (dS zae (ups W))),.pl (armD a),.pl (.str k)]) rfl (zfi (bs:=[]) (zakj (f:=fun n:Str=>decide (k∈up W n)) (zdz (own:=["_law_name"]) (fr:=[0,2]) itp (by rw [qC];omega) k2)))
theorem zll {W:Web} (h:WebOk W) {ks:List Str} {c:List Arm} (hc:CallOk W c) (hl:ks.length≤c.length):zbl [.dict (dS zae (ups W)),zam ks,zau c]=some (.bool (fitB W ks c),false):=by
 have it:zzn (zab (eVar 1) aNil) [.pl (.dict (dS zae (ups W))),.pl (zam ks),.pl (zau c),.no,.no]=some (((List.range ks.length).zip ks).map fun z=>PyData.tuple [.int (z.1:Nat),.str z.2],[]):=by
  show some (zrq (ks.map .str),[])=_
  rw [zabb]
 have key:=zst (enc:=fun z:Nat×Str=>PyData.tuple [.int (z.1:Nat),.str z.2]) (g:=gT 2 (zap 3 (zap 4 zco))) (body:=sIf (zef (tTru (zbm 3 zgq (zab (eVar 0) (zab (eIxV 2 (eVar 3)) (zab (eVar 4) aNil)))))) (sRet (eC (.bool false))) sNil)
  (fun z=>(c[z.1]?).elim false fun a=>decide (z.2∈upA W a)) (.bool false) false (fun env=>∃ s3 s4,env=[.pl (.dict (dS zae (ups W))),.pl (zam ks),.pl (zau c),s3,s4]) ((List.range ks.length).zip ks) [.pl (.dict (dS zae (ups W))),.pl (zam ks),.pl (zau c),.no,.no] ⟨_,_,rfl⟩ (by
   rintro ⟨i,k⟩ hz env ⟨s3,s4,rfl⟩
   have hi:i<c.length:=by
    have:=qAb.mp (qAP hz).1
    omega
   have ha:c[i]∈c:=qy _
   refine ⟨[.pl (.dict (dS zae (ups W))),.pl (zam ks),.pl (zau c),.pl (.int (i:Nat)),.pl (.str k)],rfl,?_⟩
   have ix:eIxV 2 (eVar 3) [.pl (.dict (dS zae (ups W))),.pl (zam ks),.pl (zau c),.pl (.int (i:Nat)),.pl (.str k)]=some ⟨armD c[i],false,[]⟩:=by
    show ((ixD (.tuple (c.map armD)) (.int (i:Nat))).bind fun z=>some (⟨z.1,z.2,bsOf z.1 ([]++[])⟩:Val))=_
    simp only [ixD]
    rw [znz (v:=armD c[i]) (by rw [qL,qE hi];rfl)]
    simp only [qA2,qF]
    cases c[i]<;>rfl
   have t:zef (tTru (zbm 3 zgq (zab (eVar 0) (zab (eIxV 2 (eVar 3)) (zab (eVar 4) aNil))))) [.pl (.dict (dS zae (ups W))),.pl (zam ks),.pl (zau c),.pl (.int (i:Nat)),.pl (.str k)]=some (!decide (k∈upA W c[i])):=by
    refine zpd ?_
    rw [zbv (n:=3) (rs:=[⟨.dict (dS zae (ups W)),false,[]⟩,⟨armD c[i],false,[]⟩,⟨.str k,false,[]⟩]) (zaq rfl (zaq ix (zdi rfl))) rfl (zxy (hc.few _ ha) (hc.kinds _ ha))]
    rfl
   have pe:((c[i]?).elim false fun a=>decide (k∈upA W a))=decide (k∈upA W c[i]):=by rw [qE hi];rfl
   constructor
   ·intro hp
    have hp:((c[i]?).elim false fun a=>decide (k∈upA W a))=true:=hp
    rw [pe] at hp
    rw [hp] at t
    exact ⟨_,if_f t rfl,_,_,rfl⟩
   ·intro hp
    have hp:((c[i]?).elim false fun a=>decide (k∈upA W a))=false:=hp
    rw [pe] at hp
    rw [hp] at t
    exact if_t t rfl)
 have same:(((List.range ks.length).zip ks).all fun z=>(c[z.1]?).elim false fun a=>decide (z.2∈upA W a))=fitB W ks c:=by
  have gen:∀ (ks:List Str) (c:List Arm) (m:Nat) (cc:List Arm),ks.length≤c.length→(∀ j,cc[m+j]?=c[j]?)→((((List.range ks.length).map (·+m)).zip ks).all fun z=>(cc[z.1]?).elim false fun a=>decide (z.2∈upA W a))=fitB W ks c:=by
   intro ks
   induction ks with
   | nil=>intro c m cc _ _;rfl
   | cons k ks ih =>
    intro c m cc hle hcc
    cases c with
    | nil=>simp at hle
    | cons a c =>
     have h0:=hcc 0
     rw [Nat.add_zero] at h0
     have r:=ih c (m+1) cc (by simpa using hle) fun j=>by
      have:=hcc (j+1)
      rw [qAG] at this
      rw [← this]
      congr 1
      omega
     unfold fitB at r ⊢
     rw [qAI,qCn,qa,qAq,qAk,qAq,qAk,← r,qCC,h0]
     congr 1
     rw [qAa]
     congr 2
     refine qBU fun j _=>?_
     show j+1+m=j+(m+1)
     omega
  have:=gen ks c 0 c hl fun j=>by rw [qCC]
  simpa using this
 rw [same] at key
 cases hb:fitB W ks c with
 | true =>
  obtain ⟨env',lp,s3,s4,rfl⟩:=key.1 hb
  exact zed (env:=[.pl (.dict (dS zae (ups W))),.pl (zam ks),.pl (zau c),.no,.no]) rfl (zao (zjo it lp) rfl)
 | false=>exact zed (env:=[.pl (.dict (dS zae (ups W))),.pl (zam ks),.pl (zau c),.no,.no]) rfl (zdt (zjo it (key.2 hb)))
theorem Bk.ones {W:Web} {rs:List Rule} {c:List Arm} (b:Bk W rs c) {q:Rule} (hq:q∈rs):CallOk W (q.2.map Arm.one) :=
 ⟨by rw [qC];exact b.rul.few q hq,fun z hz=>by obtain ⟨x,_,rfl⟩:=qAJ.mp hz;show 1<300;decide,fun z hz n hn=>by
  obtain ⟨x,hx,rfl⟩:=qAJ.mp hz
  have:n=x:=by simpa [Arm.parts] using hn
  rw [this];exact b.rul.kinds q hq x hx⟩
theorem zom {W:Web} {rs:List Rule} {c:List Arm} (b:Bk W rs c) {q r:Rule} (hq:q∈rs) (hr:r∈rs):zbl [.dict (dS zae (ups W)),zam r.2,zam q.2]=some (.bool (geB W q.2 r.2),false):=by
 have gf:=zll b.web (ks:=r.2) (b.ones hq) (by rw [qC,b.ord.size r hr,b.ord.size q hq];exact qM _)
 rw [zakv,zafb] at gf
 exact gf
theorem zaky (a b:List Str):qH (zam a) (zam b)=(a==b):=zpo a b
theorem zakz {rs:List Rule} (nd:(rs.map (·.1)).Nodup) (y:PyData):(rs.filter fun q=>qH (.str q.1) y)=[]∨∃ q∈rs,qH (.str q.1) y=true∧(rs.filter fun q=>qH (.str q.1) y)=[q]:=by
 have nf:((rs.filter fun q=>qH (.str q.1) y).map (·.1)).Nodup:=zaku nd _
 have al:∀ q∈rs.filter (fun q=>qH (.str q.1) y),y=.str q.1:=fun q hq=>by
  have:=(qc.mp hq).2
  rw [zakw] at this
  exact zul.mp this
 cases e:rs.filter fun q=>qH (.str q.1) y with
 | nil=>exact .inl rfl
 | cons q t =>
  rw [e] at nf al
  have hq:q∈rs.filter fun q=>qH (.str q.1) y:=by rw [e];exact qX
  cases t with
  | nil=>exact .inr ⟨q,(qc.mp hq).1,(qc.mp hq).2,rfl⟩
  | cons p t =>
   have h1:=al q (by simp)
   have h2:=al p (by simp)
   rw [h1] at h2
   have h2:q.1=p.1:=by injection h2
   rw [qa,qa,qA3] at nf
   exact absurd (by rw [h2];simp) nf.1
theorem zanv {W:Web} {rs:List Rule} {c:List Arm} {ks:List Str} {y:PyData} (h:(rs.filter fun q=>qH (.str q.1) y)=[]):farB W (fitL W rs c) ks y=false:=by
 refine qBC.mpr fun q hq hb=>?_
 have:q∈rs.filter fun q=>qH (.str q.1) y:=qc.mpr ⟨zmy q hq,(qp.mp hb).1⟩
 rw [h] at this
 cases this
theorem zarp {W:Web} {rs:List Rule} {c:List Arm} {ks:List Str} {y:PyData} {q:Rule} (hq:q∈rs) (hy:qH (.str q.1) y=true) (h:(rs.filter fun q=>qH (.str q.1) y)=[q]):farB W (fitL W rs c) ks y=(fitB W q.2 c&&zep W q.2 ks):=by
 unfold farB
 rw [qAC,qAN,qY]
 constructor
 ·rintro ⟨p,hp,hb⟩
  obtain ⟨h1,h2⟩:=qp.mp hb
  have:p∈rs.filter fun q=>qH (.str q.1) y:=qc.mpr ⟨zmy p hp,h1⟩
  rw [h] at this
  obtain rfl:p=q:=by simpa using this
  exact ⟨(qc.mp hp).2,h2⟩
 ·rintro ⟨h1,h2⟩
  exact ⟨q,qc.mpr ⟨hq,h1⟩,by rw [hy,h2];rfl⟩
theorem zago {W:Web} {rs:List Rule} {c:List Arm} (b:Bk W rs c) {r:Rule} (hr:r∈rs) {d:PyData} (hd:zky d) :
  zjd [.dict (dS zae (ups W)),zah rs,zam r.2,zau c,d]=some (.bool (zgn W rs c r d),false):=by
 have hsz:=b.ord.size r hr
 have hrl:=b.rul.len
 have hs:zho 6 [.dict (dS zae (ups W)),zah rs,zam r.2,zau c,d]=[.pl (.dict (dS zae (ups W))),.pl (zah rs),.pl (zam r.2),.pl (zau c),.pl d,.no]:=rfl
 by_cases ht:∃ ds,d=.tuple ds
 ·obtain ⟨ds,rfl⟩:=ht
  cases ds with
  | nil =>
   rw [zkz (by decide)]
   have:zdm (.tuple [])=false:=rfl
   rw [this,qBH]
   exact zed hs (zdt (if_t rfl rfl))
  | cons x t =>
   have hx:qI x=true:=hd.head
   have t0:tOrF (zef (tTru (eIsi "tuple" (eVar 4)))) (zbe (eOp eqD (eCB lenD (zab (eVar 4) aNil)) (eC (.int 0)))) [.pl (.dict (dS zae (ups W))),.pl (zah rs),.pl (zam r.2),.pl (zau c),.pl (.tuple (x::t)),.no]=some false:=by
    refine zaud rfl ?_
    rw [zdk (zrr (i:=((x::t).length:Int)) (j:=0) (zadh rfl) rfl)]
    congr 1
   have lw:∀ (z:Str) (hz:qN z=true),zbe (eOp eqD (eIxV 4 (eC (.int 0))) (eC (.str z))) [.pl (.dict (dS zae (ups W))),.pl (zah rs),.pl (zam r.2),.pl (zau c),.pl (.tuple (x::t)),.no]=some (qH x (.str z)):=fun z hz =>
    zdk (zum (f1:=false) (f2:=false) (b1:=[]) (b2:=[]) (ixT (n:=0) (ds:=x::t) rfl rfl rfl) rfl hx (znm hz))
   have lo:=lw "out" (by decide +kernel)
   have lf:=lw "far" (by decide +kernel)
   have l2:=len2 (k:=4) (ds:=x::t) (env:=[.pl (.dict (dS zae (ups W))),.pl (zah rs),.pl (zam r.2),.pl (zau c),.pl (.tuple (x::t)),.no]) rfl
   have aw:∀ {g:TF} {v:Bool},g [.pl (.dict (dS zae (ups W))),.pl (zah rs),.pl (zam r.2),.pl (zau c),.pl (.tuple (x::t)),.no]=some v→zhb g (zbe (eOp eqD (eCB lenD (zab (eVar 4) aNil)) (eC (.int 2)))) [.pl (.dict (dS zae (ups W))),.pl (zah rs),.pl (zam r.2),.pl (zau c),.pl (.tuple (x::t)),.no]=some (v&&decide ((x::t).length=2)):=fun {g v} hg=>by
    unfold zhb;rw [hg,l2];cases v<;>rfl
   have tfit:zef (tTru (zbm 3 zbl (zab (eVar 0) (zab (eVar 2) (zab (eVar 3) aNil))))) [.pl (.dict (dS zae (ups W))),.pl (zah rs),.pl (zam r.2),.pl (zau c),.pl (.tuple (x::t)),.no]=some (!fitB W r.2 c):=by
    refine zpd ?_
    rw [zbv (n:=3) (rs:=[⟨.dict (dS zae (ups W)),false,[]⟩,⟨zam r.2,false,[]⟩,⟨zau c,false,[]⟩]) rfl rfl (zll b.web b.cal (by rw [hsz];exact qM _))]
    rfl
   have last:qI (.tuple (x::t))=true→sRet (eOp eqD (eVar 4) (eTup (zab (eC (.str "near")) aNil))) [.pl (.dict (dS zae (ups W))),.pl (zah rs),.pl (zam r.2),.pl (zau c),.pl (.tuple (x::t)),.no]=some (.rt (.bool (zdm (.tuple (x::t)))) false):=fun hsh =>
    zfi (bs:=[]) (zum (f1:=false) (f2:=false) (b1:=[]) (b2:=[]) (d:=.tuple (x::t)) (e:=zly) rfl rfl hsh zgf)
   by_cases h2:(x::t).length=2
   ·obtain ⟨y,rfl⟩:∃ y,t=[y]:=by
     match t,h2 with
     | [y],_=>exact ⟨y,rfl⟩
    have y1:eIxV 4 (eC (.int 1)) [.pl (.dict (dS zae (ups W))),.pl (zah rs),.pl (zam r.2),.pl (zau c),.pl (.tuple [x,y]),.no]=some ⟨y,false,[]⟩:=ixT (n:=1) (ds:=[x,y]) rfl rfl rfl
    refine zed hs (zao (if_f t0 rfl) ?_)
    show _=some (Out.rt (.bool (if qH x (.str "out")=true then zpq W r.2 c y else fitB W r.2 c&&(qH x (.str "far")&&farB W (fitL W rs c) r.2 y))) false)
    cases ho:qH x (.str "out") with
    | true =>
     rw [ho] at lo
     refine zdt (if_t (aw lo) ?_)
     rw [if_pos rfl]
     have no:∀ (s:PyData),y=s→(isiB "int" s&&!isiB "bool" s)=false→zpq W r.2 c s=false→sSeq (sIf (tOrF (zef (tTru (eIsi "int" (eIxV 4 (eC (.int 1)))))) (tOrF (tTru (eIsi "bool" (eIxV 4 (eC (.int 1))))) (zef (zbe (zmf leD ltD (eC (.int 0)) (eIxV 4 (eC (.int 1))) (eCB lenD (zab (eVar 2) aNil))))))) (sRet (eC (.bool false))) sNil) (sRet (eNot (zbm 3 zgq (zab (eVar 0) (zab (eIxV 3 (eIxV 4 (eC (.int 1)))) (zab (eIxV 2 (eIxV 4 (eC (.int 1)))) aNil)))))) [.pl (.dict (dS zae (ups W))),.pl (zah rs),.pl (zam r.2),.pl (zau c),.pl (.tuple [x,y]),.no]=some (.rt (.bool (zpq W r.2 c y)) false):=fun s es h1 h3=>by
      subst es
      rw [h3]
      refine zdt (if_t ?_ rfl)
      unfold tOrF
      rw [show zef (tTru (eIsi "int" (eIxV 4 (eC (.int 1))))) [.pl (.dict (dS zae (ups W))),.pl (zah rs),.pl (zam r.2),.pl (zau c),.pl (.tuple [x,y]),.no]=some (!isiB "int" y) from zpd (by unfold eIsi;rw [y1];rfl),
       show tTru (eIsi "bool" (eIxV 4 (eC (.int 1)))) [.pl (.dict (dS zae (ups W))),.pl (zah rs),.pl (zam r.2),.pl (zau c),.pl (.tuple [x,y]),.no]=some (isiB "bool" y) from by unfold tTru eIsi;rw [y1];rfl]
      cases h4:isiB "int" y with
      | false=>rfl
      | true =>
       rw [h4] at h1
       cases h5:isiB "bool" y with
       | true=>rfl
       | false=>rw [h5] at h1;cases h1
     cases y with
     | int k =>
      have ch:zef (zbe (zmf leD ltD (eC (.int 0)) (eIxV 4 (eC (.int 1))) (eCB lenD (zab (eVar 2) aNil)))) [.pl (.dict (dS zae (ups W))),.pl (zah rs),.pl (zam r.2),.pl (zau c),.pl (.tuple [x,.int k]),.no]=some (!(decide (0≤k)&&decide (k<(r.2.length:Int)))):=by
       unfold zef
       rw [zdk (c:=decide (0≤k)&&decide (k<(r.2.length:Int))) ?_]
       ·rfl
       unfold zmf
       rw [y1]
       show (if decide (0≤k)=true then _ else _)=_
       cases decide (0≤k) with
       | false=>rfl
       | true =>
        rw [if_pos rfl]
        show some (vb (decide (k<((r.2.map PyData.str).length:Int))))=_
        rw [qC];rfl
      have tor:tOrF (zef (tTru (eIsi "int" (eIxV 4 (eC (.int 1)))))) (tOrF (tTru (eIsi "bool" (eIxV 4 (eC (.int 1))))) (zef (zbe (zmf leD ltD (eC (.int 0)) (eIxV 4 (eC (.int 1))) (eCB lenD (zab (eVar 2) aNil)))))) [.pl (.dict (dS zae (ups W))),.pl (zah rs),.pl (zam r.2),.pl (zau c),.pl (.tuple [x,.int k]),.no]=some (!(decide (0≤k)&&decide (k<(r.2.length:Int)))):=by
       unfold tOrF
       rw [show zef (tTru (eIsi "int" (eIxV 4 (eC (.int 1))))) [.pl (.dict (dS zae (ups W))),.pl (zah rs),.pl (zam r.2),.pl (zau c),.pl (.tuple [x,.int k]),.no]=some false from zpd (c:=true) (by unfold eIsi;rw [y1];rfl),
        show tTru (eIsi "bool" (eIxV 4 (eC (.int 1)))) [.pl (.dict (dS zae (ups W))),.pl (zah rs),.pl (zam r.2),.pl (zau c),.pl (.tuple [x,.int k]),.no]=some false from by unfold tTru eIsi;rw [y1];rfl,ch]
       rfl
      rw [show zpq W r.2 c (.int k)=((decide (0≤k)&&decide (k<(r.2.length:Int)))&&(r.2[k.toNat]?).elim false fun x=>(c[k.toNat]?).elim false fun a=>!decide (x∈upA W a)) from rfl]
      cases hb:(decide (0≤k)&&decide (k<(r.2.length:Int))) with
      | false=>exact zdt (if_t (by rw [tor,hb];rfl) rfl)
      | true =>
       obtain ⟨h0,h1⟩:=qp.mp hb
       have h0:=of_decide_eq_true h0
       have h1:=of_decide_eq_true h1
       obtain ⟨n,rfl⟩:=qCp h0
       have hn:n<r.2.length:=by omega
       have hn2:n<c.length:=by omega
       refine zao (if_f (by rw [tor,hb];rfl) rfl) (zfi (bs:=[]) ?_)
       unfold eNot
       rw [zbv (n:=3) (rs:=[⟨.dict (dS zae (ups W)),false,[]⟩,⟨armD c[n],false,[]⟩,⟨.str r.2[n],false,[]⟩]) (zaq rfl (zaq (ixT (ds:=c.map armD) rfl y1 (by rw [qL,qE hn2];rfl)) (zdi (ixT (ds:=r.2.map .str) rfl y1 (by rw [qL,qE hn];rfl))))) rfl (zxy (b.cal.few _ (qy _)) (b.cal.kinds _ (qy _)))]
       show some (vb (!decide (r.2[n]∈upA W c[n])))=some (vb (true&&((r.2[n]?).elim false fun x=>(c[n]?).elim false fun a=>!decide (x∈upA W a))))
       rw [qE hn,qE hn2]
       rfl
     | none=>exact no _ rfl rfl rfl
     | bool v=>exact no _ rfl rfl rfl
     | str v=>exact no _ rfl rfl rfl
     | list v=>exact no _ rfl rfl rfl
     | tuple v=>exact no _ rfl rfl rfl
     | dict v=>exact no _ rfl rfl rfl
    | false =>
     rw [ho] at lo
     refine zao (if_f (aw lo) rfl) ?_
     rw [if_neg qO]
     cases hf:fitB W r.2 c with
     | false=>exact zdt (if_t (by rw [tfit,hf];rfl) rfl)
     | true =>
      refine zao (if_f (by rw [tfit,hf];rfl) rfl) ?_
      rw [qAz]
      cases hfa:qH x (.str "far") with
      | true =>
       rw [hfa] at lf
       refine zdt (if_t (aw lf) ?_)
       rw [qAz]
       have cm:zej (gT 2 (zap 0 (zap 1 zco))) (zbe (eOp (eqTD false) (eVar 0) (eIxV 2 (eC (.int 1))))) (eVar 1) [.no,.no,.pl (.tuple [x,y])] (rs.map zbd)=some ((rs.filter fun q=>qH (.str q.1) y).map fun q=>zam q.2) :=
        zcy (enc:=zbd) (out:=fun q=>zam q.2) (fun q=>qH (.str q.1) y) fun q hq=>⟨[.pl (.str q.1),.pl (zam q.2),.pl (.tuple [x,y])],rfl,zdk (zaue (neg:=false) (d:=.str q.1) (e:=y) (f1:=false) (f2:=false) (b1:=[]) (b2:=[]) rfl (ixT (n:=1) (ds:=[x,y]) rfl rfl rfl) (.inl rfl)),fun _=>⟨⟨zam q.2,false,[]⟩,rfl,rfl⟩⟩
       have s5:sSet 5 (zdg ["_law_name", "_law_other"] [4] (zbg (eVar 1)) (gT 2 (zap 0 (zap 1 zco))) (zbe (eOp (eqTD false) (eVar 0) (eIxV 2 (eC (.int 1))))) (eVar 1)) [.pl (.dict (dS zae (ups W))),.pl (zah rs),.pl (zam r.2),.pl (zau c),.pl (.tuple [x,y]),.no]=some (.nx [.pl (.dict (dS zae (ups W))),.pl (zah rs),.pl (zam r.2),.pl (zau c),.pl (.tuple [x,y]),.ac (.list ((rs.filter fun q=>qH (.str q.1) y).map fun q=>zam q.2))]):=by
        refine zcg (r:=⟨.list ((rs.filter fun q=>qH (.str q.1) y).map fun q=>zam q.2),true,[]⟩) ?_
        rw [zdz (own:=["_law_name", "_law_other"]) (fr:=[4]) (fi:=zbg (eVar 1)) (ds:=rs.map zbd) (bs:=[]) rfl (by rw [qC];omega) cm]
        have:(if zgj ((rs.filter fun q=>qH (.str q.1) y).map fun q=>zam q.2)=true then ([]:List Nat) else []++capA [4] [.pl (.dict (dS zae (ups W))),.pl (zah rs),.pl (zam r.2),.pl (zau c),.pl (.tuple [x,y]),.no])=[]:=by split<;>rfl
        rw [this]
       refine zao s5 ?_
       rcases zakz b.nd y with e|⟨q,hq,hy,e⟩
       ·rw [e,zanv e]
        exact zdt (if_t rfl rfl)
       ·rw [e,zarp hq hy e,zpp]
        have ix0:eIxV 5 (eC (.int 0)) [.pl (.dict (dS zae (ups W))),.pl (zah rs),.pl (zam r.2),.pl (zau c),.pl (.tuple [x,y]),.ac (.list ([q].map fun q=>zam q.2))]=some ⟨zam q.2,false,[]⟩:=zafw (n:=0) rfl rfl rfl
        have tq:tOrF (zbe (eOp eqD (eCB lenD (zab (eVar 5) aNil)) (eC (.int 0)))) (zbe (eOp eqD (eIxV 5 (eC (.int 0))) (eVar 2))) [.pl (.dict (dS zae (ups W))),.pl (zah rs),.pl (zam r.2),.pl (zau c),.pl (.tuple [x,y]),.ac (.list ([q].map fun q=>zam q.2))]=some (q.2==r.2):=by
         unfold tOrF
         rw [show zbe (eOp eqD (eCB lenD (zab (eVar 5) aNil)) (eC (.int 0))) [.pl (.dict (dS zae (ups W))),.pl (zah rs),.pl (zam r.2),.pl (zau c),.pl (.tuple [x,y]),.ac (.list ([q].map fun q=>zam q.2))]=some false from rfl,
          zdk (zum (f1:=false) (f2:=false) (b1:=[]) (b2:=[]) ix0 rfl (zio (b.rul.low q hq)) (zio (b.rul.low r hr))),zaky]
         rfl
        cases hqr:q.2==r.2 with
        | true =>
         refine zdt (if_t (by rw [tq,hqr]) ?_)
         show _=some (Out.rt (.bool (fitB W q.2 c&&(false&&geB W q.2 r.2))) false)
         rw [qBx,qBH];rfl
        | false =>
         refine zao (if_f (by rw [tq,hqr]) rfl) (zfi (bs:=[]) ?_)
         unfold eAnd
         rw [zbv (n:=3) (rs:=[⟨.dict (dS zae (ups W)),false,[]⟩,⟨zam q.2,false,[]⟩,⟨zau c,false,[]⟩]) (zaq rfl (zaq ix0 (zdi rfl))) rfl (zll b.web b.cal (by rw [b.ord.size q hq];exact qM _)),
          zbv (n:=3) (rs:=[⟨.dict (dS zae (ups W)),false,[]⟩,⟨zam r.2,false,[]⟩,⟨zam q.2,false,[]⟩]) (zaq rfl (zaq rfl (zdi ix0))) rfl (zom b hq hr)]
         cases fitB W q.2 c<;>rfl
      | false =>
       rw [hfa] at lf
       have hsh:qI (.tuple [x,y])=true:=by
        rcases hd with h|⟨z,h⟩
        ·exact h
        ·cases h
         exact absurd hfa (by rw [zul.mpr rfl];decide)
       refine zao (if_f (aw lf) rfl) ?_
       rw [last hsh,zpr]
       rfl
   ·have hsh:qI (.tuple (x::t))=true:=by
     rcases hd with h|⟨z,h⟩
     ·exact h
     ·cases h;exact absurd rfl h2
    have af:∀ {g:TF} {v:Bool},g [.pl (.dict (dS zae (ups W))),.pl (zah rs),.pl (zam r.2),.pl (zau c),.pl (.tuple (x::t)),.no]=some v→zhb g (zbe (eOp eqD (eCB lenD (zab (eVar 4) aNil)) (eC (.int 2)))) [.pl (.dict (dS zae (ups W))),.pl (zah rs),.pl (zam r.2),.pl (zau c),.pl (.tuple (x::t)),.no]=some false:=fun {g v} hg=>by
     rw [aw hg,decide_eq_false h2,qBH]
    rw [zkz h2]
    refine zed hs (zao (if_f t0 rfl) (zao (if_f (af lo) rfl) ?_))
    cases hf:fitB W r.2 c with
    | false=>exact zdt (if_t (by rw [tfit,hf];rfl) rfl)
    | true=>exact zao (if_f (by rw [tfit,hf];rfl) rfl) (zao (if_f (af lf) rfl) (by rw [last hsh];rfl))
 ·rw [zps fun ds h=>ht ⟨ds,h⟩]
  refine zed hs (zdt (if_t ?_ rfl))
  cases d<;>first|rfl|exact absurd ⟨_,rfl⟩ ht
def zbq (rs:List Rule) (ds:List PyData):List Rule:=((rs.zip ds).filter fun z=>zdm z.2).map (·.1)
noncomputable def zcx (W:Web) (rs:List Rule) (c:List Arm) (A:PyData) (P:PyData):Bool:=match P with
 | .list ds=>decide (ds.length=rs.length)&&(((rs.zip ds).all fun z=>zgn W rs c z.1 z.2)&&(decide (zde W (zbq rs ds)=zbq rs ds)&&qH A (zeu (nms (zbq rs ds)))))
 | _=>false
def zon (P:PyData):Prop:=∀ ds,P=.list ds→(∀ d∈ds,zky d)∧ds.length<300
theorem zapi {a b:EF} {env:DEnv} {m n:Nat} (ha:a env=some (vi (m:Int))) (hb:b env=some (vi (n:Int))):zbe (eOp neD a b) env=some (!decide (m=n)):=by
 refine zdk ?_
 unfold eOp
 rw [ha,hb]
 show some (vb (!((m:Int)==(n:Int))))=_
 congr 2
 rw [qAC,qBD,qBD,beq_eq_false_iff_ne,decide_eq_false_iff_not]
 omega
theorem zun {W:Web} {rs:List Rule} {c:List Arm} (b:Bk W rs c) {r:Rule} {d:PyData} (hd:zky d) (h:zgn W rs c r d=true):qI d=true:=by
 rcases hd with hd|⟨y,rfl⟩
 ·exact hd
 ·have h:(if qH (.str "far") (.str "out")=true then zpq W r.2 c y else fitB W r.2 c&&(qH (.str "far") (.str "far")&&farB W (fitL W rs c) r.2 y))=true:=h
  rw [if_neg (by decide +kernel)] at h
  have h:=(qp.mp (qp.mp h).2).2
  obtain ⟨q,hq,hb⟩:=qAN.mp h
  have hy:=(qp.mp hb).1
  rw [zakw] at hy
  obtain rfl:=zul.mp hy
  have hs:qN q.1=true:=b.low q (zmy q hq)
  unfold qI
  rw [qY]
  refine ⟨?_,rfl⟩
  show (qN "far" && (qN q.1&&true))=true
  rw [hs]
  decide +kernel
theorem zabf:∀ (a b:List Rule),PyData.eqvAll (a.map zbd) (b.map zbd)=decide (a=b)
 | [],[]=>rfl
 | [],_::_=>rfl
 | _::_,[]=>rfl
 | x::a,y::b=>by
  show (qH (zbd x) (zbd y)&&PyData.eqvAll (a.map zbd) (b.map zbd))=_
  rw [zabf a b,zxx,qAC,qY,decide_eq_true_iff,decide_eq_true_iff,decide_eq_true_iff,List.cons.injEq]
theorem zki {rs:List Rule} {ds:List PyData}:∀ r∈zbq rs ds,r∈rs:=fun r hr=>by
 obtain ⟨z,hz,rfl⟩:=qAJ.mp hr
 exact (qAP (qc.mp hz).1).1
theorem zanw {rs:List Rule} {ds:List PyData}:(zbq rs ds).length≤rs.length:=by
 unfold zbq
 rw [qC]
 refine qAX (qAy _ _) ?_
 rw [qA9];exact qAp _ _
theorem zabg {W:Web} {rs:List Rule} (h:RulesOk W rs) (ds:List PyData):RulesOk W (zbq rs ds) :=
 ⟨fun r hr=>h.low r (zki r hr),fun r hr=>h.kinds r (zki r hr),fun r hr=>h.few r (zki r hr),qA0 zanw h.len⟩
theorem zqq (rs:List Rule) (ds:List PyData):List.zipWith (fun d e=>PyData.tuple [d,e]) (rs.map zbd) ds=(rs.zip ds).map fun z=>PyData.tuple [zbd z.1,z.2]:=by
 have:=zxu zbd id rs ds
 rw [List.map_id] at this
 exact this
theorem zala {W:Web} {rs:List Rule} {c:List Arm} (b:Bk W rs c) {A P:PyData} (hA:qI A=true) (hP:zon P):zlk [zev W c.length rs,zau c,A,P]=some (.bool (zcx W rs c A P),false):=by
 have hrl:=b.rul.len
 have s4:sSet 4 (zbm 2 zfo (zab (eVar 0) (zab (eVar 1) aNil))) [.pl (zev W c.length rs),.pl (zau c),.pl A,.pl P,.no,.no,.no,.no,.no,.no,.no]=some (.nx [.pl (zev W c.length rs),.pl (zau c),.pl A,.pl P,.ac (zah (fitL W rs c)),.no,.no,.no,.no,.no,.no]) :=
  zcg (r:=⟨zah (fitL W rs c),true,[]⟩) (zbv (n:=2) (rs:=[⟨zev W c.length rs,false,[]⟩,⟨zau c,false,[]⟩]) rfl rfl (zsa b.web b.rul b.cal))
 have s5:sAsg (eVar 0) (gT 3 (zap 5 (zap 6 (zap 7 zco)))) [.pl (zev W c.length rs),.pl (zau c),.pl A,.pl P,.ac (zah (fitL W rs c)),.no,.no,.no,.no,.no,.no]=some (.nx [.pl (zev W c.length rs),.pl (zau c),.pl A,.pl P,.ac (zah (fitL W rs c)),.pl (webD W),.pl (.int c.length),.pl (zah rs),.no,.no,.no]):=rfl
 have hs:zho 11 [zev W c.length rs,zau c,A,P]=[.pl (zev W c.length rs),.pl (zau c),.pl A,.pl P,.no,.no,.no,.no,.no,.no,.no]:=rfl
 by_cases hl:∃ ds,P=.list ds
 ·obtain ⟨ds,rfl⟩:=hl
  obtain ⟨hi,hdl⟩:=hP ds rfl
  have tl:tOrF (zef (tTru (eIsi "list" (eVar 3)))) (zbe (eOp neD (eCB lenD (zab (eVar 3) aNil)) (eCB lenD (zab (eVar 7) aNil)))) [.pl (zev W c.length rs),.pl (zau c),.pl A,.pl (.list ds),.ac (zah (fitL W rs c)),.pl (webD W),.pl (.int c.length),.pl (zah rs),.no,.no,.no]=some (!decide (ds.length=rs.length)):=by
   unfold tOrF
   rw [zapi (m:=ds.length) (n:=(rs.map zbd).length) (zir (fr:=false) (bs:=[]) rfl) (zir (fr:=false) (bs:=[]) rfl),qC]
   rfl
  show _=some (PyData.bool (decide (ds.length=rs.length)&&(((rs.zip ds).all fun z=>zgn W rs c z.1 z.2)&&(decide (zde W (zbq rs ds)=zbq rs ds)&&qH A (zeu (nms (zbq rs ds)))))),false)
  by_cases he:ds.length=rs.length
  ·rw [decide_eq_true he,qAz]
   rw [decide_eq_true he] at tl
   have s8:sSet 8 (zbm 1 zhp (zab (eVar 5) aNil)) [.pl (zev W c.length rs),.pl (zau c),.pl A,.pl (.list ds),.ac (zah (fitL W rs c)),.pl (webD W),.pl (.int c.length),.pl (zah rs),.no,.no,.no]=some (.nx [.pl (zev W c.length rs),.pl (zau c),.pl A,.pl (.list ds),.ac (zah (fitL W rs c)),.pl (webD W),.pl (.int c.length),.pl (zah rs),.ac (.dict (dS zba (ups W))),.no,.no]) :=
    zcg (r:=⟨.dict (dS zba (ups W)),true,[]⟩) (zbv (n:=1) (rs:=[⟨webD W,false,[]⟩]) rfl rfl (zvj b.web))
   have s9:sSet 9 (zbm 2 zek (zab (eVar 8) (zab (eVar 1) aNil))) [.pl (zev W c.length rs),.pl (zau c),.pl A,.pl (.list ds),.ac (zah (fitL W rs c)),.pl (webD W),.pl (.int c.length),.pl (zah rs),.ac (.dict (dS zba (ups W))),.no,.no]=some (.nx [.pl (zev W c.length rs),.pl (zau c),.pl A,.pl (.list ds),.ac (zah (fitL W rs c)),.pl (webD W),.pl (.int c.length),.pl (zah rs),.pl (.dict (dS zba (ups W))),.ac (.list (c.map fun a=>zba (upA W a))),.no]) :=
    zcg (r:=⟨.list (c.map fun a=>zba (upA W a)),true,[8]⟩) (zbv (n:=2) (rs:=[⟨.dict (dS zba (ups W)),false,[8]⟩,⟨zau c,false,[]⟩]) rfl rfl (zmw b.web b.cal.len b.cal.kinds))
   have it:zmk (zab (eVar 7) (zab (eVar 3) aNil)) [.pl (zev W c.length rs),.pl (zau c),.pl A,.pl (.list ds),.ac (zah (fitL W rs c)),.pl (webD W),.pl (.int c.length),.pl (zah rs),.pl (.dict (dS zba (ups W))),.ac (.list (c.map fun a=>zba (upA W a))),.no]=some ((rs.zip ds).map fun z=>PyData.tuple [zbd z.1,z.2],[]):=by
    show some (List.zipWith (fun d e=>PyData.tuple [d,e]) (rs.map zbd) ds,[]++[])=_
    rw [zqq];rfl
   have zl:((rs.zip ds).map fun z=>PyData.tuple [zbd z.1,z.2]).length<100000:=by
    rw [qC,qA9]
    have:=qAp rs.length ds.length
    omega
   have c1:zej (gT 2 (zap 0 (zap 1 zco))) zdw (zbm 5 zmn (zab (eVar 3) (zab (eVar 4) (zab (eVar 2) (zab (eVar 0) (zab (eVar 1) aNil)))))) [.no,.no,.pl (zah (fitL W rs c)),.pl (.dict (dS zba (ups W))),.pl (.list (c.map fun a=>zba (upA W a)))] ((rs.zip ds).map fun z=>PyData.tuple [zbd z.1,z.2])=some ((rs.zip ds).map fun z=>.bool (zgn W rs c z.1 z.2)) :=
    zec fun z hz=>⟨[.pl (zbd z.1),.pl z.2,.pl (zah (fitL W rs c)),.pl (.dict (dS zba (ups W))),.pl (.list (c.map fun a=>zba (upA W a)))],rfl,rfl,vb (zgn W rs c z.1 z.2),zbv (n:=5) (rs:=[⟨.dict (dS zba (ups W)),false,[]⟩,⟨.list (c.map fun a=>zba (upA W a)),false,[]⟩,⟨zah (fitL W rs c),false,[]⟩,⟨zbd z.1,false,[]⟩,⟨z.2,false,[]⟩]) rfl rfl (zakx b (qAP hz).1 (hi z.2 (qAP hz).2)),rfl⟩
   have t6:=zpd (zarj (f:=fun z:Rule×PyData=>zgn W rs c z.1 z.2) (zdz (own:=["rule", "line"]) (fr:=[4,8,9]) it zl c1))
   refine zed hs (zao s4 (zao s5 (zao (if_f tl rfl) (zao s8 (zao s9 ?_)))))
   cases hall:(rs.zip ds).all fun z=>zgn W rs c z.1 z.2 with
   | false =>
    rw [hall] at t6
    exact zdt (if_t t6 rfl)
   | true =>
    rw [hall] at t6
    rw [qAz]
    refine zao (if_f t6 rfl) ?_
    have c2:zej (gT 2 (zap 0 (zap 1 zco))) (zbe (eOp eqD (eVar 1) (eTup (zab (eC (.str "near")) aNil)))) (eVar 0) [.no,.no] ((rs.zip ds).map fun z=>PyData.tuple [zbd z.1,z.2])=some (((rs.zip ds).filter fun z=>zdm z.2).map fun z=>zbd z.1) :=
     zcy (out:=fun z:Rule×PyData=>zbd z.1) (fun z=>zdm z.2) fun z hz=>⟨[.pl (zbd z.1),.pl z.2],rfl,zdk (zum (f1:=false) (f2:=false) (b1:=[]) (b2:=[]) (d:=z.2) (e:=zly) rfl rfl (zun b (hi z.2 (qAP hz).2) (qAO.mp hall z hz)) zgf),fun _=>⟨⟨zbd z.1,false,[]⟩,rfl,rfl⟩⟩
    have en:(((rs.zip ds).filter fun z=>zdm z.2).map fun z=>zbd z.1)=(zbq rs ds).map zbd:=by unfold zbq;rw [qAa];rfl
    rw [en] at c2
    have s10:sSet 10 (zdg ["rule", "line"] [] (zmk (zab (eVar 7) (zab (eVar 3) aNil))) (gT 2 (zap 0 (zap 1 zco))) (zbe (eOp eqD (eVar 1) (eTup (zab (eC (.str "near")) aNil)))) (eVar 0)) [.pl (zev W c.length rs),.pl (zau c),.pl A,.pl (.list ds),.ac (zah (fitL W rs c)),.pl (webD W),.pl (.int c.length),.pl (zah rs),.pl (.dict (dS zba (ups W))),.ac (.list (c.map fun a=>zba (upA W a))),.no]=some (.nx [.pl (zev W c.length rs),.pl (zau c),.pl A,.pl (.list ds),.ac (zah (fitL W rs c)),.pl (webD W),.pl (.int c.length),.pl (zah rs),.pl (.dict (dS zba (ups W))),.ac (.list (c.map fun a=>zba (upA W a))),.ac (zah (zbq rs ds))]):=by
     refine zcg (r:=⟨zah (zbq rs ds),true,[]⟩) ?_
     rw [zdz (own:=["rule", "line"]) (fr:=[]) it zl c2]
     have:(if zgj ((zbq rs ds).map zbd)=true then ([]:List Nat) else []++capA [] [.pl (zev W c.length rs),.pl (zau c),.pl A,.pl (.list ds),.ac (zah (fitL W rs c)),.pl (webD W),.pl (.int c.length),.pl (zah rs),.pl (.dict (dS zba (ups W))),.ac (.list (c.map fun a=>zba (upA W a))),.no])=[]:=by split<;>rfl
     rw [this];rfl
    have ln:∀ r∈zbq rs ds,qN r.1=true∧LowS r.2:=fun r hr=>b.low' r (zki r hr)
    have nok:=zabg b.rul ds
    refine zao s10 (zfi (bs:=[]) ?_)
    unfold eAnd
    have q1:eOp eqD (zbm 2 zil (zab (eVar 8) (zab (eVar 10) aNil))) (eVar 10) [.pl (zev W c.length rs),.pl (zau c),.pl A,.pl (.list ds),.ac (zah (fitL W rs c)),.pl (webD W),.pl (.int c.length),.pl (zah rs),.pl (.dict (dS zba (ups W))),.ac (.list (c.map fun a=>zba (upA W a))),.ac (zah (zbq rs ds))]=some (vb (decide (zde W (zbq rs ds)=zbq rs ds))):=by
     rw [zum (d:=zah (zde W (zbq rs ds))) (e:=zah (zbq rs ds)) (f1:=true) (f2:=false) (b1:=[10]) (b2:=[10]) (zbv (n:=2) (rs:=[⟨.dict (dS zba (ups W)),false,[]⟩,⟨zah (zbq rs ds),false,[10]⟩]) rfl rfl (zaay b.web nok)) rfl (zmx fun r hr=>ln r (qc.mp hr).1) (zmx ln)]
     congr 2
     exact zabf _ _
    have q2:eOp eqD (eVar 2) (zbm 1 zjr (zab (zbm 1 zim (zab (eVar 10) aNil)) aNil)) [.pl (zev W c.length rs),.pl (zau c),.pl A,.pl (.list ds),.ac (zah (fitL W rs c)),.pl (webD W),.pl (.int c.length),.pl (zah rs),.pl (.dict (dS zba (ups W))),.ac (.list (c.map fun a=>zba (upA W a))),.ac (zah (zbq rs ds))]=some (vb (qH A (zeu (nms (zbq rs ds))))) :=
     zum (f1:=false) (f2:=false) (b1:=[]) rfl (zbv (n:=1) (rs:=[⟨zae (nms (zbq rs ds)),true,bsOf (zae (nms (zbq rs ds))) [10]⟩]) (zdi (zbv (n:=1) (rs:=[⟨zah (zbq rs ds),false,[10]⟩]) rfl rfl (zaaz nok.len))) rfl (zacz _)) hA (ziz (b.lows zki))
    rw [q1,q2]
    cases decide (zde W (zbq rs ds)=zbq rs ds)<;>rfl
  ·rw [decide_eq_false he,qBx]
   rw [decide_eq_false he] at tl
   exact zed hs (zao s4 (zao s5 (zdt (if_t tl rfl))))
 ·have:zcx W rs c A P=false:=by
   cases P<;>first|rfl|exact absurd ⟨_,rfl⟩ hl
  rw [this]
  refine zed hs (zao s4 (zao s5 (zdt (if_t ?_ rfl))))
  cases P<;>first|rfl|exact absurd ⟨_,rfl⟩ hl
theorem zabh {α:Type} {enc:α→PyData} {g:GT} {body:SF} (p:α→Bool) (d:PyData) (fr:Bool) (I:List α→DEnv→Prop) (all:List α)
  (hs:∀ pre x post env,pre++x::post=all→I pre env→∃ e1,g (enc x) env=some e1∧(p x=true→∃ e2,body e1=some (.nx e2)∧I (pre++[x]) e2)∧(p x=false→body e1=some (.rt d fr))) :
  ∀ (l pre:List α) (env:DEnv),pre++l=all→I pre env→(l.all p=true→∃ env',forL g body (l.map enc) env=some (.nx env')∧I all env')∧(l.all p=false→forL g body (l.map enc) env=some (.rt d fr))
 | [],pre,env,e,h0=>⟨fun _=>⟨env,rfl,by rw [← e,qAh];exact h0⟩,fun h=>by simp at h⟩
 | x::l,pre,env,e,h0=>by
  obtain ⟨e1,h1,h2,h3⟩:=hs pre x l env e h0
  rw [qa,qAk]
  unfold forL
  rw [h1,qF]
  cases hp:p x with
  | false =>
   rw [h3 hp,qF]
   exact ⟨fun h=>by simp at h,fun _=>rfl⟩
  | true =>
   obtain ⟨e2,h4,h5⟩:=h2 hp
   rw [h4,qF]
   exact zabh p d fr I all hs l (pre++[x]) e2 (by rw [qBO];exact e) h5
theorem zalb {W:Web} {S:List Rule}:decide (zde W S=S)=S.all fun r=>!(S.any fun q=>zep W q.2 r.2):=by
 unfold zde
 rw [qAC,decide_eq_true_iff,qB0,qAO]
theorem zalc {W:Web} {rs:List Rule} {c:List Arm} (b:Bk W rs c) {A P:PyData} (hA:qI A=true) (hP:zon P):zmo [.dict (dS zae (ups W)),zah rs,zau c,A,P]=some (.bool (zcx W rs c A P),false):=by
 have hrl:=b.rul.len
 have hs:zho 10 [.dict (dS zae (ups W)),zah rs,zau c,A,P]=[.pl (.dict (dS zae (ups W))),.pl (zah rs),.pl (zau c),.pl A,.pl P,.no,.no,.no,.no,.no]:=rfl
 by_cases hl:∃ ds,P=.list ds
 ·obtain ⟨ds,rfl⟩:=hl
  obtain ⟨hi,hdl⟩:=hP ds rfl
  have tl:tOrF (zef (tTru (eIsi "list" (eVar 4)))) (zbe (eOp neD (eCB lenD (zab (eVar 4) aNil)) (eCB lenD (zab (eVar 1) aNil)))) [.pl (.dict (dS zae (ups W))),.pl (zah rs),.pl (zau c),.pl A,.pl (.list ds),.no,.no,.no,.no,.no]=some (!decide (ds.length=rs.length)):=by
   unfold tOrF
   rw [zapi (m:=ds.length) (n:=(rs.map zbd).length) (zir (fr:=false) (bs:=[]) rfl) (zir (fr:=false) (bs:=[]) rfl),qC]
   rfl
  show _=some (PyData.bool (decide (ds.length=rs.length)&&(((rs.zip ds).all fun z=>zgn W rs c z.1 z.2)&&(decide (zde W (zbq rs ds)=zbq rs ds)&&qH A (zeu (nms (zbq rs ds)))))),false)
  by_cases he:ds.length=rs.length
  ·rw [decide_eq_true he,qAz]
   rw [decide_eq_true he] at tl
   have e1:rs=(rs.zip ds).map (·.1):=by rw [qCF (by omega)]
   have it:zqw (zab (eVar 1) aNil) [.pl (.dict (dS zae (ups W))),.pl (zah rs),.pl (zau c),.pl A,.pl (.list ds),.ac (zah []),.no,.no,.no,.no]=some ((rs.zip ds).zipIdx.map fun t=>PyData.tuple [.int (t.2:Nat),zbd t.1.1],[]):=by
    show some (zrq (rs.map zbd),[])=_
    congr 2
    rw [e1,qAa]
    unfold zrq
    rw [← List.map_zipIdx,qAa]
    rw [← e1]
    rfl
   have key:=zabh (enc:=fun t:(Rule×PyData)×Nat=>PyData.tuple [.int (t.2:Nat),zbd t.1.1]) (g:=gT 2 (zap 6 (zap 7 zco)))
    (body:=(sSeq (sIf (zef (tTru (zbm 5 zjd (zab (eVar 0) (zab (eVar 1) (zab (eIxV 7 (eC (.int 1))) (zab (eVar 2) (zab (eIxV 4 (eVar 6)) aNil)))))))) (sRet (eC (.bool false))) sNil) (sIf (zbe (eOp eqD (eIxV 4 (eVar 6)) (eTup (zab (eC (.str "near")) aNil)))) (sApp 5 (eVar 7)) sNil)))
    (fun t=>zgn W rs c t.1.1 t.1.2) (.bool false) false
    (fun pre env=>∃ s6 s7,env=[.pl (.dict (dS zae (ups W))),.pl (zah rs),.pl (zau c),.pl A,.pl (.list ds),.ac (zah ((pre.filter fun t=>zdm t.1.2).map fun t=>t.1.1)),s6,s7,.no,.no]) ((rs.zip ds).zipIdx) (by
     rintro pre ⟨⟨r,d⟩,i⟩ post env hp ⟨s6,s7,rfl⟩
     have hm:((r,d),i)∈(rs.zip ds).zipIdx:=by rw [← hp];simp
     have hg:(rs.zip ds)[i]?=some (r,d):=List.mem_zipIdx_iff_getElem?.mp hm
     have hz:(r,d)∈rs.zip ds:=qAs hg
     have hd:ds[i]?=some d:=by
      rw [qBf] at hg
      exact hg.2
     have hr:=(qAP hz).1
     have hid:=hi d (qAP hz).2
     have hpl:pre.length<300:=by
      have:=congrArg List.length hp
      rw [qb,qAI,List.length_zipIdx,qA9] at this
      have:=qAp rs.length ds.length
      omega
     refine ⟨[.pl (.dict (dS zae (ups W))),.pl (zah rs),.pl (zau c),.pl A,.pl (.list ds),.ac (zah ((pre.filter fun t=>zdm t.1.2).map fun t=>t.1.1)),.pl (.int (i:Nat)),.pl (zbd r),.no,.no],rfl,?_,?_⟩
     all_goals
      have ix:eIxV 4 (eVar 6) [.pl (.dict (dS zae (ups W))),.pl (zah rs),.pl (zau c),.pl A,.pl (.list ds),.ac (zah ((pre.filter fun t=>zdm t.1.2).map fun t=>t.1.1)),.pl (.int (i:Nat)),.pl (zbd r),.no,.no]=some ⟨d,false,[]⟩:=zqe rfl rfl hd
      have t1:zef (tTru (zbm 5 zjd (zab (eVar 0) (zab (eVar 1) (zab (eIxV 7 (eC (.int 1))) (zab (eVar 2) (zab (eIxV 4 (eVar 6)) aNil))))))) [.pl (.dict (dS zae (ups W))),.pl (zah rs),.pl (zau c),.pl A,.pl (.list ds),.ac (zah ((pre.filter fun t=>zdm t.1.2).map fun t=>t.1.1)),.pl (.int (i:Nat)),.pl (zbd r),.no,.no]=some (!zgn W rs c r d):=by
       refine zpd ?_
       rw [zbv (n:=5) (rs:=[⟨.dict (dS zae (ups W)),false,[]⟩,⟨zah rs,false,[]⟩,⟨zam r.2,false,[]⟩,⟨zau c,false,[]⟩,⟨d,false,[]⟩]) (zaq rfl (zaq rfl (zaq rfl (zaq rfl (zdi ix))))) rfl (zago b hr hid)]
       rfl
     ·intro hb
      have hb:zgn W rs c r d=true:=hb
      rw [hb] at t1
      have t2:zbe (eOp eqD (eIxV 4 (eVar 6)) (eTup (zab (eC (.str "near")) aNil))) [.pl (.dict (dS zae (ups W))),.pl (zah rs),.pl (zau c),.pl A,.pl (.list ds),.ac (zah ((pre.filter fun t=>zdm t.1.2).map fun t=>t.1.1)),.pl (.int (i:Nat)),.pl (zbd r),.no,.no]=some (zdm d) :=
       zdk (zum (f1:=false) (f2:=false) (b1:=[]) (b2:=[]) (d:=d) (e:=zly) ix rfl (zun b hid hb) zgf)
      rw [List.filter_append,qAQ]
      cases hn:zdm d with
      | false =>
       rw [hn] at t2
       refine ⟨_,zao (if_f t1 rfl) (if_f t2 rfl),.pl (.int (i:Nat)),.pl (zbd r),?_⟩
       rw [show ([((r,d),i)].filter fun t:(Rule×PyData)×Nat=>zdm t.1.2)=[] by rw [qAw];simp [hn],qBd,qAh]
      | true =>
       rw [hn] at t2
       refine ⟨_,zao (if_f t1 rfl) (if_t t2 (znp (ds:=(((pre.filter fun t=>zdm t.1.2).map fun t=>t.1.1)).map zbd) (d:=zbd r) (fr:=false) rfl rfl ?_)),.pl (.int (i:Nat)),.pl (zbd r),?_⟩
       ·rw [qC,qC]
        exact qA0 (qAy _ _) (by omega)
       ·rw [show ([((r,d),i)].filter fun t:(Rule×PyData)×Nat=>zdm t.1.2)=[((r,d),i)] by rw [qAw];simp [hn]]
        show [_,_,_,_,_,_,_,_,_,_]=[_,_,_,_,_,_,_,_,_,_]
        unfold zah
        rw [qAQ]
        rfl
     ·intro hb
      have hb:zgn W rs c r d=false:=hb
      rw [hb] at t1
      exact zdt (if_t t1 rfl)) ((rs.zip ds).zipIdx) [] [.pl (.dict (dS zae (ups W))),.pl (zah rs),.pl (zau c),.pl A,.pl (.list ds),.ac (zah []),.no,.no,.no,.no] rfl ⟨_,_,rfl⟩
   have ea:((rs.zip ds).zipIdx.all fun t=>zgn W rs c t.1.1 t.1.2)=(rs.zip ds).all fun z=>zgn W rs c z.1 z.2:=by
    have:(rs.zip ds).all (fun z=>zgn W rs c z.1 z.2)=((rs.zip ds).zipIdx.map Prod.fst).all fun z=>zgn W rs c z.1 z.2:=by rw [qBS]
    rw [this,qCu];rfl
   have enr:((rs.zip ds).zipIdx.filter fun t=>zdm t.1.2).map (fun t=>t.1.1)=zbq rs ds:=by
    have:zbq rs ds=(((rs.zip ds).zipIdx.map Prod.fst).filter fun z=>zdm z.2).map (·.1):=by rw [qBS];rfl
    rw [this,List.filter_map,qAa];rfl
   rw [ea] at key
   have s5:sSet 5 (eLst aNil) [.pl (.dict (dS zae (ups W))),.pl (zah rs),.pl (zau c),.pl A,.pl (.list ds),.no,.no,.no,.no,.no]=some (.nx [.pl (.dict (dS zae (ups W))),.pl (zah rs),.pl (zau c),.pl A,.pl (.list ds),.ac (zah []),.no,.no,.no,.no]):=rfl
   refine zed hs (zao (if_f tl rfl) (zao s5 ?_))
   cases hall:(rs.zip ds).all fun z=>zgn W rs c z.1 z.2 with
   | false=>exact zdt (zjo it (key.2 hall))
   | true =>
    obtain ⟨env',lp,s6,s7,rfl⟩:=key.1 hall
    rw [enr] at lp
    rw [qAz,zalb]
    refine zao (zjo it lp) ?_
    have nok:=zabg b.rul ds
    have nl:=nok.len
    have key2:=zst (enc:=zbd) (g:=gT 2 (zap 8 (zap 9 zco)))
     (body:=(sIf (tTru (eCB (anyD fun bs=>bs.any id) (zab (zdg ["_law_one", "_law_other"] [0,9] (zbg (eVar 5)) (gT 2 (zap 0 (zap 1 zco))) zdw (eAnd (eOp neD (eVar 1) (eVar 3)) (zbm 3 zbl (zab (eVar 2) (zab (eVar 3) (zab (eVar 1) aNil)))))) aNil))) (sRet (eC (.bool false))) sNil))
     (fun r=>!((zbq rs ds).any fun q=>zep W q.2 r.2)) (.bool false) false
     (fun env=>∃ s8 s9,env=[.pl (.dict (dS zae (ups W))),.pl (zah rs),.pl (zau c),.pl A,.pl (.list ds),.pl (zah (zbq rs ds)),s6,s7,s8,s9]) (zbq rs ds) [.pl (.dict (dS zae (ups W))),.pl (zah rs),.pl (zau c),.pl A,.pl (.list ds),.pl (zah (zbq rs ds)),s6,s7,.no,.no] ⟨_,_,rfl⟩ (by
      rintro r hr env ⟨s8,s9,rfl⟩
      have hrr:=zki r hr
      have cm2:zej (gT 2 (zap 0 (zap 1 zco))) zdw (eAnd (eOp neD (eVar 1) (eVar 3)) (zbm 3 zbl (zab (eVar 2) (zab (eVar 3) (zab (eVar 1) aNil))))) [.no,.no,.pl (.dict (dS zae (ups W))),.pl (zam r.2)] ((zbq rs ds).map zbd)=some ((zbq rs ds).map fun q=>.bool (zep W q.2 r.2)):=by
       refine zec (enc:=zbd) (out:=fun q=>.bool (zep W q.2 r.2)) fun q hq=>⟨[.pl (.str q.1),.pl (zam q.2),.pl (.dict (dS zae (ups W))),.pl (zam r.2)],rfl,rfl,vb (zep W q.2 r.2),?_,rfl⟩
       have hqr:=zki q hq
       have e1:eOp neD (eVar 1) (eVar 3) [.pl (.str q.1),.pl (zam q.2),.pl (.dict (dS zae (ups W))),.pl (zam r.2)]=some (vb (!(q.2==r.2))):=by
        show ((neD (zam q.2) (zam r.2)).bind fun z=>some (⟨z.1,z.2,bsOf z.1 ([]++[])⟩:Val))=_
        rw [zxv (b.rul.low q hqr) (b.rul.low r hrr)];rfl
       have e2:zbm 3 zbl (zab (eVar 2) (zab (eVar 3) (zab (eVar 1) aNil))) [.pl (.str q.1),.pl (zam q.2),.pl (.dict (dS zae (ups W))),.pl (zam r.2)]=some (vb (geB W q.2 r.2)):=zbv (n:=3) (rs:=[⟨.dict (dS zae (ups W)),false,[]⟩,⟨zam r.2,false,[]⟩,⟨zam q.2,false,[]⟩]) rfl rfl (zom b hqr hrr)
       unfold eAnd
       rw [e1,e2,zpp]
       cases q.2==r.2<;>rfl
      refine ⟨[.pl (.dict (dS zae (ups W))),.pl (zah rs),.pl (zau c),.pl A,.pl (.list ds),.pl (zah (zbq rs ds)),s6,s7,.pl (.str r.1),.pl (zam r.2)],rfl,?_⟩
      have an:tTru (eCB (anyD fun bs=>bs.any id) (zab (zdg ["_law_one", "_law_other"] [0,9] (zbg (eVar 5)) (gT 2 (zap 0 (zap 1 zco))) zdw (eAnd (eOp neD (eVar 1) (eVar 3)) (zbm 3 zbl (zab (eVar 2) (zab (eVar 3) (zab (eVar 1) aNil)))))) aNil)) [.pl (.dict (dS zae (ups W))),.pl (zah rs),.pl (zau c),.pl A,.pl (.list ds),.pl (zah (zbq rs ds)),s6,s7,.pl (.str r.1),.pl (zam r.2)]=some ((zbq rs ds).any fun q=>zep W q.2 r.2):=by
       unfold tTru
       rw [zakj (f:=fun q:Rule=>zep W q.2 r.2) (zdz (own:=["_law_one", "_law_other"]) (fr:=[0,9]) (fi:=zbg (eVar 5)) (ds:=(zbq rs ds).map zbd) (bs:=[]) rfl (by rw [qC];omega) cm2)]
       rfl
      constructor
      ·intro hb
       have hb:((zbq rs ds).any fun q=>zep W q.2 r.2)=false:=by simpa using hb
       rw [hb] at an
       exact ⟨_,if_f an rfl,_,_,rfl⟩
      ·intro hb
       have hb:((zbq rs ds).any fun q=>zep W q.2 r.2)=true:=by simpa using hb
       rw [hb] at an
       exact if_t an rfl)
    cases hn:(zbq rs ds).all fun r=>!((zbq rs ds).any fun q=>zep W q.2 r.2) with
    | false=>exact zdt (zjo (ds:=(zbq rs ds).map zbd) (bs:=[5]) rfl (key2.2 hn))
    | true =>
     obtain ⟨env',lp2,s8,s9,rfl⟩:=key2.1 hn
     refine zao (zjo (ds:=(zbq rs ds).map zbd) (bs:=[5]) rfl lp2) ?_
     have cm3:zej (gT 2 (zap 0 (zap 1 zco))) zdw (eVar 0) [.no,.no] ((zbq rs ds).map zbd)=some ((nms (zbq rs ds)).map .str):=by
      have:=zec (enc:=zbd) (out:=fun q:Rule=>.str q.1) (g:=gT 2 (zap 0 (zap 1 zco))) (t:=zdw) (e:=eVar 0) (env:=[.no,.no]) (l:=zbq rs ds) fun q _=>⟨[.pl (.str q.1),.pl (zam q.2)],rfl,rfl,vs q.1,rfl,rfl⟩
      rw [this];unfold nms;rw [qAa];rfl
     have ar:=zdz (own:=["_law_name", "_law_kinds"]) (fr:=[]) (fi:=zbg (eVar 5)) (env:=[.pl (.dict (dS zae (ups W))),.pl (zah rs),.pl (zau c),.pl A,.pl (.list ds),.pl (zah (zbq rs ds)),s6,s7,s8,s9]) (ds:=(zbq rs ds).map zbd) (bs:=[]) rfl (by rw [qC];omega) cm3
     exact zfi (zum (f1:=false) (f2:=false) (b1:=[]) (d:=A) (e:=zeu (nms (zbq rs ds))) rfl (zbv (n:=1) (zdi ar) rfl (zja (nms (zbq rs ds)))) hA (ziz (b.lows zki)))
  ·rw [decide_eq_false he,qBx]
   rw [decide_eq_false he] at tl
   exact zed hs (zdt (if_t tl rfl))
 ·have:zcx W rs c A P=false:=by
   cases P<;>first|rfl|exact absurd ⟨_,rfl⟩ hl
  rw [this]
  refine zed hs (zdt (if_t ?_ rfl))
  cases P<;>first|rfl|exact absurd ⟨_,rfl⟩ hl
def topB (W:Web) (rs:List Rule) (c:List Arm) (r:Rule):Bool:=fitB W r.2 c&&!((fitL W rs c).any fun q=>zep W q.2 r.2)
theorem zanx {W:Web} {rs:List Rule} {c:List Arm}:rs.filter (topB W rs c)=zde W (fitL W rs c):=by
 unfold zde
 conv=>rhs;rw [fitL,List.filter_filter]
 refine qCA fun r _=>?_
 unfold topB fitL
 rw [Bool.and_comm]
theorem zqr {W:Web} {rs:List Rule} {c:List Arm} {ds:List PyData} (hl:ds.length=rs.length) (h:∀ z∈rs.zip ds,zdm z.2=topB W rs c z.1):zbq rs ds=zde W (fitL W rs c):=by
 unfold zbq
 rw [qCA h,← zanx]
 have e1:rs=(rs.zip ds).map (·.1):=by rw [qCF (by omega)]
 conv=>rhs;rw [e1]
 rw [List.filter_map]
 congr 1
 refine qCA fun z _=>?_
 show topB W rs c z.1=topB W ((rs.zip ds).map (·.1)) c z.1
 rw [← e1]
theorem zaui {W:Web} {ks:List Str} {c:List Arm} (h:fitB W ks c=true) {n:Nat} {x:Str} {a:Arm} (hx:ks[n]?=some x) (ha:c[n]?=some a):x∈upA W a:=by
 unfold fitB at h
 have:(x,a)∈ks.zip c:=qAs (i:=n) (by rw [qBf];exact ⟨hx,ha⟩)
 exact of_decide_eq_true (qAO.mp h _ this)
theorem zabi {W:Web} {ks:List Str} {c:List Arm} {y:PyData} (h:zpq W ks c y=true):fitB W ks c=false:=by
 cases hf:fitB W ks c with
 | false=>rfl
 | true =>
  cases y with
  | int k =>
   have h:((decide (0≤k)&&decide (k<(ks.length:Int)))&&(ks[k.toNat]?).elim false fun x=>(c[k.toNat]?).elim false fun a=>!decide (x∈upA W a))=true:=h
   have h:=(qp.mp h).2
   cases hx:ks[k.toNat]? with
   | none=>rw [hx] at h;cases h
   | some x =>
    rw [hx] at h
    cases ha:c[k.toNat]? with
    | none=>rw [ha] at h;cases h
    | some a =>
     rw [ha] at h
     have h:(!decide (x∈upA W a))=true:=h
     rw [decide_eq_true (zaui hf hx ha)] at h
     cases h
  | _=>cases h
theorem zald {W:Web} {rs:List Rule} {c:List Arm} {r:Rule} {d:PyData} (h:zgn W rs c r d=true) (hn:zdm d=true):fitB W r.2 c=true:=by
 by_cases ht:∃ ds,d=.tuple ds
 ·obtain ⟨ds,rfl⟩:=ht
  by_cases h2:ds.length=2
  ·obtain ⟨x,y,rfl⟩:∃ x y,ds=[x,y]:=by
    match ds,h2 with
    | [x,y],_=>exact ⟨x,y,rfl⟩
   rw [zpr] at hn
   cases hn
  ·rw [zkz h2] at h
   exact (qp.mp h).1
 ·rw [zps fun ds h=>ht ⟨ds,h⟩] at h
  cases h
theorem zafc {W:Web} {rs:List Rule} {c:List Arm} {r:Rule} {d:PyData} (h:zgn W rs c r d=true) (hf:fitB W r.2 c=true) (hn:zdm d=false):∃ q∈fitL W rs c,zep W q.2 r.2=true:=by
 by_cases ht:∃ ds,d=.tuple ds
 ·obtain ⟨ds,rfl⟩:=ht
  by_cases h2:ds.length=2
  ·obtain ⟨x,y,rfl⟩:∃ x y,ds=[x,y]:=by
    match ds,h2 with
    | [x,y],_=>exact ⟨x,y,rfl⟩
   have h:(if qH x (.str "out")=true then zpq W r.2 c y else fitB W r.2 c&&(qH x (.str "far")&&farB W (fitL W rs c) r.2 y))=true:=h
   split at h
   ·rw [zabi h] at hf
    cases hf
   ·obtain ⟨q,hq,hb⟩:=qAN.mp (qp.mp (qp.mp h).2).2
    exact ⟨q,hq,(qp.mp hb).2⟩
  ·rw [zkz h2,hn,qBH] at h
   cases h
 ·rw [zps fun ds h=>ht ⟨ds,h⟩] at h
  cases h
theorem zagp {W:Web} {rs:List Rule} {c:List Arm} (b:Bk W rs c) {A:PyData} {ds:List PyData} (h:zcx W rs c A (.list ds)=true):zbq rs ds=zde W (fitL W rs c)∧qH A (zeu (nms (zde W (fitL W rs c))))=true:=by
 have h:(decide (ds.length=rs.length)&&(((rs.zip ds).all fun z=>zgn W rs c z.1 z.2)&&(decide (zde W (zbq rs ds)=zbq rs ds)&&qH A (zeu (nms (zbq rs ds))))))=true:=h
 obtain ⟨h1,h⟩:=qp.mp h
 obtain ⟨h2,h⟩:=qp.mp h
 obtain ⟨h3,h4⟩:=qp.mp h
 have hl:=of_decide_eq_true h1
 have hn:=of_decide_eq_true h3
 have ha:=qAO.mp h2
 have fok:OrdOk W c.length (fitL W rs c):=b.ord.filter _
 have at_:∀ m∈rs,∃ d,(m,d)∈rs.zip ds:=fun m hm=>by
  have e1:rs=(rs.zip ds).map (·.1):=by rw [qCF (by omega)]
  rw [e1] at hm
  obtain ⟨z,hz,rfl⟩:=qAJ.mp hm
  exact ⟨z.2,hz⟩
 have key:∀ z∈rs.zip ds,zdm z.2=topB W rs c z.1:=fun z hz=>by
  obtain ⟨r,d⟩:=z
  have hr:=(qAP hz).1
  have hld:=ha _ hz
  have hld:zgn W rs c r d=true:=hld
  show zdm d=topB W rs c r
  cases hnd:zdm d with
  | true =>
   have hf:=zald hld hnd
   unfold topB
   rw [hf,qAz]
   symm
   rw [qBD]
   refine qBC.mpr fun q hq hqr=>?_
   obtain ⟨m,hm,e⟩:=zwf b.web fok _ q hq (qBo _)
   have hm2:=zjy.mp hm
   have hrf:r∈fitL W rs c:=qc.mpr ⟨hr,hf⟩
   have hmr:zep W m.2 r.2=true:=by
    rcases e with e|e
    ·rw [e];exact hqr
    ·exact zade b.web fok hm2.1 hq hrf e hqr
   obtain ⟨d',hd'⟩:=at_ m (zmy m hm2.1)
   have hlm:zgn W rs c m d'=true:=ha _ hd'
   have hmn:zdm d'=true:=by
    cases hx:zdm d' with
    | true=>rfl
    | false =>
     obtain ⟨q',hq',hb⟩:=zafc hlm (qc.mp hm2.1).2 hx
     rw [hm2.2 q' hq'] at hb
     cases hb
   have m1:m∈zbq rs ds:=qAJ.mpr ⟨(m,d'),qc.mpr ⟨hd',hmn⟩,rfl⟩
   have r1:r∈zbq rs ds:=qAJ.mpr ⟨(r,d),qc.mpr ⟨hz,hnd⟩,rfl⟩
   rw [← hn] at r1
   have:=(zjy.mp r1).2 m m1
   rw [this] at hmr
   cases hmr
  | false =>
   symm
   unfold topB
   cases hf:fitB W r.2 c with
   | false=>rfl
   | true =>
    obtain ⟨q,hq,hb⟩:=zafc hld hf hnd
    rw [qAz,Bool.not_eq_false']
    exact qAN.mpr ⟨q,hq,hb⟩
 have e:=zqr hl key
 rw [e] at h4
 exact ⟨e,h4⟩
def zuy (d:PyData):Prop:=d=zly∨(∃ k:Nat,d=.tuple [.str "out",.int (k:Nat)])∨∃ n:Str,qN n=true∧d=.tuple [.str "far",.str n]
structure GoodP (W:Web) (rs:List Rule) (c:List Arm) (ds:List PyData):Prop where
 len:ds.length=rs.length
 ok:∀ z∈rs.zip ds,zgn W rs c z.1 z.2=true∧zdm z.2=topB W rs c z.1
 item:∀ d∈ds,zuy d
theorem zale {W:Web} {S:List Rule}:zde W (zde W S)=zde W S:=by
 show (zde W S).filter _=_
 rw [qB0]
 intro r hr
 rw [qBD]
 refine qBC.mpr fun q hq hb=>?_
 rw [(zjy.mp hr).2 q (zjy.mp hq).1] at hb
 cases hb
theorem zagq {W:Web} {rs:List Rule} {c:List Arm} {ds:List PyData} (g:GoodP W rs c ds) (he:qH (zeu (nms (zde W (fitL W rs c)))) (zeu (nms (zde W (fitL W rs c))))=true):zcx W rs c (zeu (nms (zde W (fitL W rs c)))) (.list ds)=true:=by
 have e:=zqr g.len fun z hz=>(g.ok z hz).2
 show (decide (ds.length=rs.length)&&(((rs.zip ds).all fun z=>zgn W rs c z.1 z.2)&&(decide (zde W (zbq rs ds)=zbq rs ds)&&qH (zeu (nms (zde W (fitL W rs c)))) (zeu (nms (zbq rs ds))))))=true
 rw [e,he,zale,decide_eq_true g.len,decide_eq_true rfl,qAO.mpr fun z hz=>(g.ok z hz).1]
 rfl
def onAt (W:Web) (ks:List Str) (c:List Arm) (k:Nat):Bool:=(ks[k]?).elim false fun x=>(c[k]?).elim false fun a=>decide (x∈upA W a)
def zuo (W:Web) (ks:List Str) (c:List Arm):List Nat:=(List.range ks.length).filter fun k=>!onAt W ks c k
theorem zany {W:Web} {ks:List Str} {c:List Arm} (hl:ks.length=c.length) (h:zuo W ks c=[]):fitB W ks c=true:=by
 refine qAO.mpr fun z hz=>?_
 obtain ⟨i,hi⟩:=List.mem_iff_getElem?.mp hz
 obtain ⟨x,a⟩:=z
 rw [qBf] at hi
 have hlt:i<ks.length:=(qZ.mp hi.1).1
 have:onAt W ks c i=true:=by
  cases ho:onAt W ks c i with
  | true=>rfl
  | false =>
   have:i∈zuo W ks c:=qc.mpr ⟨qAb.mpr hlt,by rw [ho];rfl⟩
   rw [h] at this
   cases this
 unfold onAt at this
 rw [hi.1,hi.2] at this
 exact this
theorem zanz {W:Web} {ks:List Str} {c:List Arm} (hl:ks.length=c.length) {k:Nat} (h:k∈zuo W ks c):zpq W ks c (.int (k:Nat))=true:=by
 obtain ⟨h1,h2⟩:=qc.mp h
 have hk:=qAb.mp h1
 have h2:onAt W ks c k=false:=by simpa using h2
 unfold onAt at h2
 show ((decide (0≤(k:Int))&&decide ((k:Int)<(ks.length:Int)))&&(ks[k]?).elim false fun x=>(c[k]?).elim false fun a=>!decide (x∈upA W a))=true
 rw [qE hk,qE (by omega:k<c.length)] at h2 ⊢
 have h2:decide (ks[k]∈upA W (c[k]'(by omega)))=false:=h2
 show ((decide (0≤(k:Int))&&decide ((k:Int)<(ks.length:Int)))&&!decide (ks[k]∈upA W (c[k]'(by omega))))=true
 rw [h2,decide_eq_true (by omega),decide_eq_true (by omega)]
 rfl
theorem zjz {a b:PyData} (h1:a.canLay0=true) (h2:a.depth≤60) (h3:b.canLay0=true) (h4:b.depth≤60):qI (.tuple [a,b])=true:=by
 unfold qI
 rw [qY]
 refine ⟨?_,decide_eq_true ?_⟩
 ·show (PyData.canLay0 a&&(PyData.canLay0 b&&true))=true
  rw [h1,h3];rfl
 ·show max (PyData.depth a) (max (PyData.depth b) 0)+1≤64
  omega
theorem zagr (l:List Nat):zgj (l.map fun k=>PyData.int (k:Nat))=true:=by
 induction l with
 | nil=>rfl
 | cons a l ih=>rw [qa];exact ih
theorem it1 {a:EF} {env:DEnv} {j:Int} (ha:a env=some (vi j)) (h:-(2 ^ 62)≤j∧j<2 ^ 62):zer (zab a aNil) env=some (zqx 0 j.toNat,[]):=by
 unfold zer
 rw [zdi ha]
 simp only [qF]
 rw [if_pos h]
theorem zalf {k:Nat} {ds:List PyData} {E:DEnv} (he:E[k]?=some (.pl (.tuple ds))) (h:ds.length<300):zer (zab (eCB lenD (zab (eVar k) aNil)) aNil) E=some ((List.range ds.length).map fun (k:Nat)=>PyData.int (k:Int),[]):=by
 rw [it1 (zadh he) ⟨c3 (by omega),c4 (by omega)⟩,qBE,zmh]
theorem zuy.shaped {d:PyData} (h:zuy d):qI d=true:=by
 rcases h with rfl|⟨k,rfl⟩|⟨n,hn,rfl⟩
 ·exact zgf
 ·exact zjz (by decide +kernel) (by decide) rfl (qAf _)
 ·exact zjz (by decide +kernel) (by decide) hn (qAf _)
noncomputable abbrev zapj:SF:=(sSeq (sSet 9 (zdg ["_law_k"] [0,2,8] (zer (zab (eCB lenD (zab (eVar 8) aNil)) aNil)) (gN 0) (zef (tTru (zbm 3 zgq (zab (eVar 1) (zab (eIxV 2 (eVar 0)) (zab (eIxV 3 (eVar 0)) aNil)))))) (eVar 0)))
  (sSeq (sSet 10 (zdg ["_law_one", "_law_other"] [0,8] (zbg (eVar 6)) (gT 2 (zap 0 (zap 1 zco))) (zhb (zbe (eOp neD (eVar 1) (eVar 3))) (tTru (zbm 3 zbl (zab (eVar 2) (zab (eVar 3) (zab (eVar 1) aNil)))))) (eVar 0)))
  (sSeq (sIf (zbe (eOp gtD (eCB lenD (zab (eVar 9) aNil)) (eC (.int 0)))) (sApp 4 (eTup (zab (eC (.str "out")) (zab (eIxV 9 (eOp modD (eVar 5) (eCB lenD (zab (eVar 9) aNil)))) aNil)))) (sIf (zbe (eOp gtD (eCB lenD (zab (eVar 10) aNil)) (eC (.int 0)))) (sApp 4 (eTup (zab (eC (.str "far")) (zab (eIxV 10 (eOp modD (eVar 5) (eCB lenD (zab (eVar 10) aNil)))) aNil)))) (sApp 4 (eTup (zab (eC (.str "near")) aNil)))))
  (sSet 5 (eOp zcv (eVar 5) (eC (.int 2)))))))
theorem zarq {W:Web} {rs:List Rule} {c:List Arm} (b:Bk W rs c) {N s9 s10:Sl} {acc:List PyData} {z:Int} (z0:0≤z) {r:Rule} (hr:r∈rs) (hal:acc.length<300) :
  ∃ (d:PyData) (t9 t10:Sl),zapj [.pl (.dict (dS zae (ups W))),.pl (zah rs),.pl (zau c),N,.ac (.list acc),.pl (.int z),.ac (zah (fitL W rs c)),.pl (.str r.1),.pl (zam r.2),s9,s10]=some (.nx [.pl (.dict (dS zae (ups W))),.pl (zah rs),.pl (zau c),N,.ac (.list (acc++[d])),.pl (.int (z / 2)),.ac (zah (fitL W rs c)),.pl (.str r.1),.pl (zam r.2),t9,t10]) ∧
   zgn W rs c r d=true∧zdm d=topB W rs c r∧zuy d:=by
 have hsz:=b.ord.size r hr
 have hrl:=b.rul.len
 have hfw:=b.rul.few r hr
 have fok:RulesOk W (fitL W rs c):=b.rul.filter _
 have hfl:=fok.len
 have it1:zer (zab (eCB lenD (zab (eVar 8) aNil)) aNil) [.pl (.dict (dS zae (ups W))),.pl (zah rs),.pl (zau c),N,.ac (.list acc),.pl (.int z),.ac (zah (fitL W rs c)),.pl (.str r.1),.pl (zam r.2),s9,s10]=some ((List.range r.2.length).map fun (k:Nat)=>PyData.int (k:Int),[]):=by
  rw [zalf (k:=8) (ds:=r.2.map .str) rfl (by rw [qC];exact hfw),qC]
 have c1:zej (gN 0) (zef (tTru (zbm 3 zgq (zab (eVar 1) (zab (eIxV 2 (eVar 0)) (zab (eIxV 3 (eVar 0)) aNil)))))) (eVar 0) [.no,.pl (.dict (dS zae (ups W))),.pl (zau c),.pl (zam r.2)] ((List.range r.2.length).map fun (k:Nat)=>PyData.int (k:Int))=some ((zuo W r.2 c).map fun (k:Nat)=>PyData.int (k:Int)) :=
  zcy (enc:=fun (k:Nat)=>PyData.int (k:Int)) (out:=fun (k:Nat)=>PyData.int (k:Int)) (fun k=>!onAt W r.2 c k) fun k hk=>by
   have hk:=qAb.mp hk
   refine ⟨[.pl (.int (k:Nat)),.pl (.dict (dS zae (ups W))),.pl (zau c),.pl (zam r.2)],rfl,?_,fun _=>⟨vi (k:Nat),rfl,rfl⟩⟩
   have e:onAt W r.2 c k=decide (r.2[k]∈upA W (c[k]'(by omega))):=by
    unfold onAt
    rw [qE hk,qE (by omega:k<c.length)];rfl
   rw [e]
   refine zpd ?_
   rw [zbv (n:=3) (rs:=[⟨.dict (dS zae (ups W)),false,[]⟩,⟨armD (c[k]'(by omega)),false,[]⟩,⟨.str r.2[k],false,[]⟩]) (zaq rfl (zaq (ixT (ds:=c.map armD) rfl rfl (by rw [qL,qE (by omega:k<c.length)];rfl)) (zdi (ixT (ds:=r.2.map .str) rfl rfl (by rw [qL,qE hk];rfl))))) rfl (zxy (b.cal.few _ (qy _)) (b.cal.kinds _ (qy _)))]
   rfl
 have s9':sSet 9 (zdg ["_law_k"] [0,2,8] (zer (zab (eCB lenD (zab (eVar 8) aNil)) aNil)) (gN 0) (zef (tTru (zbm 3 zgq (zab (eVar 1) (zab (eIxV 2 (eVar 0)) (zab (eIxV 3 (eVar 0)) aNil)))))) (eVar 0)) [.pl (.dict (dS zae (ups W))),.pl (zah rs),.pl (zau c),N,.ac (.list acc),.pl (.int z),.ac (zah (fitL W rs c)),.pl (.str r.1),.pl (zam r.2),s9,s10]=some (.nx [.pl (.dict (dS zae (ups W))),.pl (zah rs),.pl (zau c),N,.ac (.list acc),.pl (.int z),.ac (zah (fitL W rs c)),.pl (.str r.1),.pl (zam r.2),.ac (.list ((zuo W r.2 c).map fun (k:Nat)=>PyData.int (k:Int))),s10]):=by
  refine zcg (r:=⟨.list ((zuo W r.2 c).map fun (k:Nat)=>PyData.int (k:Int)),true,[]⟩) ?_
  rw [zdz (own:=["_law_k"]) (fr:=[0,2,8]) it1 (by rw [qC,qB9];omega) c1,if_pos (zagr _)]
 have c2:zej (gT 2 (zap 0 (zap 1 zco))) (zhb (zbe (eOp neD (eVar 1) (eVar 3))) (tTru (zbm 3 zbl (zab (eVar 2) (zab (eVar 3) (zab (eVar 1) aNil)))))) (eVar 0) [.no,.no,.pl (.dict (dS zae (ups W))),.pl (zam r.2)] ((fitL W rs c).map zbd)=some (((fitL W rs c).filter fun q=>zep W q.2 r.2).map fun q=>PyData.str q.1) :=
  zcy (enc:=zbd) (out:=fun q:Rule=>PyData.str q.1) (fun q=>zep W q.2 r.2) fun q hq=>by
   have hqr:=zmy q hq
   refine ⟨[.pl (.str q.1),.pl (zam q.2),.pl (.dict (dS zae (ups W))),.pl (zam r.2)],rfl,?_,fun _=>⟨vs q.1,rfl,rfl⟩⟩
   have e1:zbe (eOp neD (eVar 1) (eVar 3)) [.pl (.str q.1),.pl (zam q.2),.pl (.dict (dS zae (ups W))),.pl (zam r.2)]=some (!(q.2==r.2)):=by
    refine zdk ?_
    show ((neD (zam q.2) (zam r.2)).bind fun z=>some (⟨z.1,z.2,bsOf z.1 ([]++[])⟩:Val))=_
    rw [zxv (b.rul.low q hqr) (b.rul.low r hr)];rfl
   have e2:tTru (zbm 3 zbl (zab (eVar 2) (zab (eVar 3) (zab (eVar 1) aNil)))) [.pl (.str q.1),.pl (zam q.2),.pl (.dict (dS zae (ups W))),.pl (zam r.2)]=some (geB W q.2 r.2):=zxw (n:=3) (rs:=[⟨.dict (dS zae (ups W)),false,[]⟩,⟨zam r.2,false,[]⟩,⟨zam q.2,false,[]⟩]) rfl rfl (zom b hqr hr)
   unfold zhb
   rw [e1,e2,zpp]
   cases q.2==r.2<;>rfl
 have eb:(((fitL W rs c).filter fun q=>zep W q.2 r.2).map fun q=>PyData.str q.1)=(nms ((fitL W rs c).filter fun q=>zep W q.2 r.2)).map .str:=by unfold nms;rw [qAa];rfl
 rw [eb] at c2
 generalize hB:nms ((fitL W rs c).filter fun q=>zep W q.2 r.2)=bys at c2
 generalize hO:zuo W r.2 c=outs at s9'
 have s10':sSet 10 (zdg ["_law_one", "_law_other"] [0,8] (zbg (eVar 6)) (gT 2 (zap 0 (zap 1 zco))) (zhb (zbe (eOp neD (eVar 1) (eVar 3))) (tTru (zbm 3 zbl (zab (eVar 2) (zab (eVar 3) (zab (eVar 1) aNil)))))) (eVar 0)) [.pl (.dict (dS zae (ups W))),.pl (zah rs),.pl (zau c),N,.ac (.list acc),.pl (.int z),.ac (zah (fitL W rs c)),.pl (.str r.1),.pl (zam r.2),.ac (.list (outs.map fun (k:Nat)=>PyData.int (k:Int))),s10]=some (.nx [.pl (.dict (dS zae (ups W))),.pl (zah rs),.pl (zau c),N,.ac (.list acc),.pl (.int z),.ac (zah (fitL W rs c)),.pl (.str r.1),.pl (zam r.2),.ac (.list (outs.map fun (k:Nat)=>PyData.int (k:Int))),.ac (zae bys)]):=by
  refine zcg (r:=⟨zae bys,true,[]⟩) ?_
  rw [zdz (own:=["_law_one", "_law_other"]) (fr:=[0,8]) (fi:=zbg (eVar 6)) (ds:=(fitL W rs c).map zbd) (bs:=[6]) rfl (by rw [qC];omega) c2,if_pos (zgt bys)]
  rfl
 have fin:∀ (d:PyData) (e:List Sl),e=[.pl (.dict (dS zae (ups W))),.pl (zah rs),.pl (zau c),N,.ac (.list (acc++[d])),.pl (.int z),.ac (zah (fitL W rs c)),.pl (.str r.1),.pl (zam r.2),.ac (.list (outs.map fun (k:Nat)=>PyData.int (k:Int))),.ac (zae bys)]→sSet 5 (eOp zcv (eVar 5) (eC (.int 2))) e=some (.nx [.pl (.dict (dS zae (ups W))),.pl (zah rs),.pl (zau c),N,.ac (.list (acc++[d])),.pl (.int (z / 2)),.ac (zah (fitL W rs c)),.pl (.str r.1),.pl (zam r.2),.ac (.list (outs.map fun (k:Nat)=>PyData.int (k:Int))),.ac (zae bys)]):=by
  intro d e he
  subst he
  rw [zcg (zij (i:=z) (j:=2) rfl rfl (by decide) (by decide))];rfl
 have gt:∀ {k:Nat} {ds:List PyData} {E:DEnv},E[k]?=some (.ac (.list ds))→zbe (eOp gtD (eCB lenD (zab (eVar k) aNil)) (eC (.int 0))) E=some (decide (0<ds.length)):=by
  intro k ds E he
  rw [zdk (zako (i:=ds.length) (j:=0) (zir (ds:=ds) (fr:=false) (bs:=[k]) (by unfold eVar;rw [he])) rfl)]
  refine congrArg some ?_
  rw [qAC,decide_eq_true_iff,decide_eq_true_iff]
  omega
 have pick:∀ {α:Type} (f:α→PyData) (l:List α) (k:Nat) (E:DEnv),E[k]?=some (.ac (.list (l.map f)))→E[5]?=some (.pl (.int z))→l≠[]→∃ x∈l,eIxV k (eOp modD (eVar 5) (eCB lenD (zab (eVar k) aNil))) E=some ⟨f x,false,[]⟩:=by
  intro α f l k E h1 h2 hne
  have hpos:0<l.length:=qBV.mpr hne
  have hm1:0≤z % (l.length:Int):=qw z (by omega)
  have hm2:z % (l.length:Int)<(l.length:Int):=qx z (by omega)
  have hi:(z % (l.length:Int)).toNat<l.length:=by omega
  refine ⟨l[(z % (l.length:Int)).toNat],qy _,?_⟩
  refine zafw (n:=(z % (l.length:Int)).toNat) h1 ?_ (by rw [qL,qE hi];rfl)
  rw [zgg (i:=z) (j:=(l.map f).length) (by unfold eVar;rw [h2]) (zir (fr:=false) (bs:=[k]) (by unfold eVar;rw [h1])) (by rw [qC];omega),qC]
  exact congrArg (fun x=>some (vi x)) (by omega)
 by_cases ho:outs=[]
 ·have hf:=zany hsz (hO.trans ho)
  by_cases hb:bys=[]
  ·refine ⟨zly,_,_,zao s9' (zao s10' (zao (if_f ((gt rfl).trans (by rw [ho];rfl)) (if_f ((gt (ds:=bys.map .str) rfl).trans (by rw [hb];rfl)) (znp (ds:=acc) (d:=zly) (fr:=false) rfl rfl (by omega)))) (fin _ _ rfl))),?_,?_,.inl rfl⟩
   ·rw [show zgn W rs c r zly=(fitB W r.2 c&&zdm zly) from rfl,hf];decide +kernel
   ·have:((fitL W rs c).any fun q=>zep W q.2 r.2)=false:=by
     refine qBC.mpr fun q hq hn=>?_
     have:q∈(fitL W rs c).filter fun q=>zep W q.2 r.2:=qc.mpr ⟨hq,hn⟩
     have:q.1∈bys:=by rw [← hB];exact qAJ.mpr ⟨q,this,rfl⟩
     rw [hb] at this
     cases this
    unfold topB
    rw [hf,this]
    decide +kernel
  ·obtain ⟨x,hx,ex⟩:=pick PyData.str bys 10 [.pl (.dict (dS zae (ups W))),.pl (zah rs),.pl (zau c),N,.ac (.list acc),.pl (.int z),.ac (zah (fitL W rs c)),.pl (.str r.1),.pl (zam r.2),.ac (.list (outs.map fun (k:Nat)=>PyData.int (k:Int))),.ac (zae bys)] rfl rfl hb
   have hbp:0<(bys.map PyData.str).length:=by rw [qC];exact qBV.mpr hb
   have hx':=hx
   rw [← hB] at hx'
   obtain ⟨q,hq,rfl⟩:=qAJ.mp hx'
   obtain ⟨hq1,hq2⟩:=qc.mp hq
   have lq:qN q.1=true:=b.low q (zmy q hq1)
   refine ⟨.tuple [.str "far",.str q.1],_,_,zao s9' (zao s10' (zao (if_f ((gt rfl).trans (by rw [ho];rfl)) (if_t ((gt (ds:=bys.map .str) rfl).trans (by rw [decide_eq_true hbp])) (znp (ds:=acc) (d:=.tuple [.str "far",.str q.1]) (fr:=false) rfl ?_ (by omega)))) (fin _ _ rfl))),?_,?_,.inr (.inr ⟨_,lq,rfl⟩)⟩
   ·unfold eTup
    rw [zaq (r:=vs "far") rfl (zdi ex)];rfl
   ·show (if qH (.str "far") (.str "out")=true then zpq W r.2 c (.str q.1) else fitB W r.2 c&&(qH (.str "far") (.str "far")&&farB W (fitL W rs c) r.2 (.str q.1)))=true
    rw [if_neg (by decide +kernel),hf,qAz,qY]
    exact ⟨by decide +kernel,qAN.mpr ⟨q,hq1,by rw [hq2,zul.mpr rfl];rfl⟩⟩
   ·rw [zpr]
    symm
    unfold topB
    rw [qAN.mpr ⟨q,hq1,hq2⟩,Bool.not_true,qBH]
 ·obtain ⟨k,hk,ek⟩:=pick (fun (k:Nat)=>PyData.int (k:Int)) outs 9 [.pl (.dict (dS zae (ups W))),.pl (zah rs),.pl (zau c),N,.ac (.list acc),.pl (.int z),.ac (zah (fitL W rs c)),.pl (.str r.1),.pl (zam r.2),.ac (.list (outs.map fun (k:Nat)=>PyData.int (k:Int))),.ac (zae bys)] rfl rfl ho
  have hop:0<(outs.map fun (k:Nat)=>PyData.int (k:Int)).length:=by rw [qC];exact qBV.mpr ho
  have hout:=zanz hsz (hO.symm▸hk)
  refine ⟨.tuple [.str "out",.int (k:Nat)],_,_,zao s9' (zao s10' (zao (if_t ((gt rfl).trans (by rw [decide_eq_true hop])) (znp (ds:=acc) (d:=.tuple [.str "out",.int (k:Nat)]) (fr:=false) rfl ?_ (by omega))) (fin _ _ rfl))),?_,?_,.inr (.inl ⟨k,rfl⟩)⟩
  ·unfold eTup
   rw [zaq (r:=vs "out") rfl (zdi ek)];rfl
  ·show (if qH (.str "out") (.str "out")=true then zpq W r.2 c (.int (k:Nat)) else fitB W r.2 c&&(qH (.str "out") (.str "far")&&farB W (fitL W rs c) r.2 (.int (k:Nat))))=true
   rw [if_pos (by decide +kernel),hout]
  ·rw [zpr]
   symm
   unfold topB
   rw [zabi hout];rfl
theorem zaoa {α β:Type} {l:List α} {m:List β} (h:m.length=l.length) (x:α) (y:β):(l++[x]).zip (m++[y])=l.zip m++[(x,y)]:=by
 rw [List.zip_append h.symm];rfl
theorem zags {W:Web} {rs:List Rule} {c:List Arm} (b:Bk W rs c) {z:Int} (z0:0≤z):∃ ds,zkt [.dict (dS zae (ups W)),zah rs,zau c,.int z]=some (.list ds,true)∧GoodP W rs c ds:=by
 have hrl:=b.rul.len
 have fok:RulesOk W (fitL W rs c):=b.rul.filter _
 have cm:zej (gN 0) (tTru (zbm 3 zbl (zab (eVar 1) (zab (eIxV 0 (eC (.int 1))) (zab (eVar 2) aNil))))) (eVar 0) [.no,.pl (.dict (dS zae (ups W))),.pl (zau c)] (rs.map zbd)=some ((fitL W rs c).map zbd) :=
  zcy (enc:=zbd) (out:=zbd) (fun r=>fitB W r.2 c) fun r hm=>⟨[.pl (zbd r),.pl (.dict (dS zae (ups W))),.pl (zau c)],rfl,zxw (n:=3) (rs:=[⟨.dict (dS zae (ups W)),false,[]⟩,⟨zam r.2,false,[]⟩,⟨zau c,false,[]⟩]) rfl rfl (zll b.web b.cal (by rw [b.ord.size r hm];exact qM _)),fun _=>⟨⟨zbd r,false,[]⟩,rfl,rfl⟩⟩
 have s6:sSet 6 (zdg ["_law_rule"] [0,2] (zbg (eVar 1)) (gN 0) (tTru (zbm 3 zbl (zab (eVar 1) (zab (eIxV 0 (eC (.int 1))) (zab (eVar 2) aNil))))) (eVar 0)) [.pl (.dict (dS zae (ups W))),.pl (zah rs),.pl (zau c),.pl (.int z),.ac (.list []),.pl (.int z),.no,.no,.no,.no,.no]=some (.nx [.pl (.dict (dS zae (ups W))),.pl (zah rs),.pl (zau c),.pl (.int z),.ac (.list []),.pl (.int z),.ac (zah (fitL W rs c)),.no,.no,.no,.no]):=by
  refine zcg (r:=⟨zah (fitL W rs c),true,[]⟩) ?_
  rw [zdz (own:=["_law_rule"]) (fr:=[0,2]) (fi:=zbg (eVar 1)) (ds:=rs.map zbd) (bs:=[]) rfl (by rw [qC];omega) cm]
  have:(if zgj ((fitL W rs c).map zbd)=true then ([]:List Nat) else []++capA [0,2] [.pl (.dict (dS zae (ups W))),.pl (zah rs),.pl (zau c),.pl (.int z),.ac (.list []),.pl (.int z),.no,.no,.no,.no,.no])=[]:=by split<;>rfl
  rw [this]
  rfl
 obtain ⟨env',lp,acc,z',s7,s8,s9,s10,z'0,rfl,hl,ha,hit⟩:=zgm (enc:=zbd) (g:=gT 2 (zap 7 (zap 8 zco))) (body:=zapj) (l:=rs) (env:=[.pl (.dict (dS zae (ups W))),.pl (zah rs),.pl (zau c),.pl (.int z),.ac (.list []),.pl (.int z),.ac (zah (fitL W rs c)),.no,.no,.no,.no])
  (fun pre env=>∃ (acc:List PyData) (z':Int) (s7 s8 s9 s10:Sl),0≤z'∧env=[.pl (.dict (dS zae (ups W))),.pl (zah rs),.pl (zau c),.pl (.int z),.ac (.list acc),.pl (.int z'),.ac (zah (fitL W rs c)),s7,s8,s9,s10]∧acc.length=pre.length∧(∀ w∈pre.zip acc,zgn W rs c w.1 w.2=true∧zdm w.2=topB W rs c w.1)∧∀ d∈acc,zuy d)
  ⟨[],z,_,_,_,_,z0,rfl,rfl,(fun w hw=>by cases hw),(fun d hd=>by cases hd)⟩ (by
   rintro pre r post env hp ⟨acc,z',s7,s8,s9,s10,z'0,rfl,hl,ha,hit⟩
   have hr:r∈rs:=by rw [← hp];simp
   have hpl:pre.length<300:=by
    have:=congrArg List.length hp
    rw [qb] at this
    omega
   obtain ⟨d,t9,t10,e,h1,h2,h3⟩:=zarq b (N:=.pl (.int z)) (s9:=s9) (s10:=s10) (acc:=acc) z'0 hr (by omega)
   refine ⟨_,_,rfl,.inl e,acc++[d],z' / 2,_,_,_,_,qBA z'0 (by decide),rfl,by rw [qb,qb,hl];rfl,?_,?_⟩
   ·intro w hw
    rw [zaoa hl] at hw
    rcases qv.mp hw with hw|hw
    ·exact ha w hw
    ·obtain rfl:w=(r,d):=by simpa using hw
     exact ⟨h1,h2⟩
   ·intro d' hd'
    rcases qv.mp hd' with hd'|hd'
    ·exact hit d' hd'
    ·obtain rfl:d'=d:=by simpa using hd'
     exact h3)
 exact ⟨acc,zed (env:=[.pl (.dict (dS zae (ups W))),.pl (zah rs),.pl (zau c),.pl (.int z),.no,.no,.no,.no,.no,.no,.no]) rfl (zao rfl (zao rfl (zao s6 (zao (zjo (ds:=rs.map zbd) (bs:=[]) rfl lp) rfl)))),hl,ha,hit⟩
noncomputable def putL (n:Str) (ce:Int) (it:List PyData):List PyData:=[.tuple [.str "near"],.tuple [.str "far",.str n],.tuple [.str "out",.int (ce % 4)],.tuple [.str "out",.bool (ce % 2==1)],.tuple [.str "out",.int (0 - 1)],.tuple [],
 .list it,.tuple (it++[.int 0]),.tuple (it.take 1),.tuple [.str "near",.str n],.none,.tuple [.str "out",.str n],.str n,.tuple [.str "far",.int 0],
 .tuple [.str "far",.list [.str n]],.tuple [.str "far",.dict [(.str n,.int 0)]],.tuple [.str "Near"],.tuple [.str "none"],.tuple [.str n],.tuple [.int 0],.tuple [.list [.str n]],.tuple [.str "nea"],.tuple [.str "nears"]]
theorem zarr {d:PyData} (h1:d.canLay0=true) (h2:d.depth≤60):qI d=true:=by
 unfold qI
 rw [qY]
 exact ⟨h1,decide_eq_true (by omega)⟩
theorem zauj {n:Str} {ce:Int} {it:List PyData} (hn:qN n=true) (hi:zuy (.tuple it)):∀ x∈putL n ce it,zky x:=by
 have w1:qN "near" = true:=by decide +kernel
 have w2:qN "far" = true:=by decide +kernel
 have w3:qN "out" = true:=by decide +kernel
 have w4:qN "Near" = true:=by decide +kernel
 have w5:qN "none" = true:=by decide +kernel
 have w6:qN "nea" = true:=by decide +kernel
 have w7:qN "nears" = true:=by decide +kernel
 have hs:∀ (d:PyData),d.canLay0=true→d.depth≤60→zky d:=fun d h1 h2=>.inl (zarr h1 h2)
 intro x hx
 unfold putL at hx
 rcases hi with h|⟨k,h⟩|⟨m,hm,h⟩
 all_goals
  injection h with h
  subst h
  simp only [qg,qAi,or_false] at hx
  rcases hx with rfl|rfl|rfl|rfl|rfl|rfl|rfl|rfl|rfl|rfl|rfl|rfl|rfl|rfl|rfl|rfl|rfl|rfl|rfl|rfl|rfl|rfl|rfl
  all_goals first
   | exact .inr ⟨_,rfl⟩
   | (refine hs _ ?_ (by simp [List.take,PyData.depth,qf]);simp [List.take,PyData.canLay0,qu,w1,w2,w3,w4,w5,w6,w7,hn];done)
   | (refine hs _ ?_ (by simp [List.take,PyData.depth,qf]);simp [List.take,PyData.canLay0,qu,w1,w2,w3,w4,w5,w6,w7,hn,hm];done)
theorem zars {n p:Nat} (h:p<n):ixN n (p:Int)=some p:=by
 unfold ixN
 rw [if_pos (by omega),if_pos (by omega),qBE]
theorem zavj {n:Nat} {f:SF} {d d1:PyData} {ds:List PyData} {env env':DEnv} (h:ztf n d ds=env) (e:f env=some (.nx env')) (e0:env'[0]?=some (.ac d1)):fnM n f d ds=some d1:=by
 unfold fnM
 rw [h,e,qF]
 show (match (env'[0]?:Option Sl) with|some (.ac d1)=>some d1|_=>none)=_
 rw [e0]
theorem zagt {rs:List Rule} {ds it:List PyData} {p n:Nat} {ce:Int} (hr:rs≠[]) (lo:∀ r∈rs,qN r.1=true) (hi:zuy (.tuple it)) (hp:p<ds.length) (hn:n<23) (c0:0≤ce) :
  ∃ x,zky x∧zfp (.list ds) [.tuple it,zah rs,.int (p:Nat),.int (n:Nat),.int ce]=some (.list (ds.set p x)):=by
 have hpos:0<rs.length:=qBV.mpr hr
 have hm1:0≤ce % (rs.length:Int):=qw ce (by omega)
 have hm2:ce % (rs.length:Int)<(rs.length:Int):=qx ce (by omega)
 have hj:(ce % (rs.length:Int)).toNat<rs.length:=by omega
 generalize hq:rs[(ce % (rs.length:Int)).toNat]=q
 have hqm:q∈rs:=by rw [← hq];exact qy _
 have s6:sSet 6 (eOp ixD (eIxV 2 (eOp modD (eVar 5) (eCB lenD (zab (eVar 2) aNil)))) (eC (.int 0))) [.ac (.list ds),.pl (.tuple it),.pl (zah rs),.pl (.int (p:Nat)),.pl (.int (n:Nat)),.pl (.int ce),.no,.no]=some (.nx [.ac (.list ds),.pl (.tuple it),.pl (zah rs),.pl (.int (p:Nat)),.pl (.int (n:Nat)),.pl (.int ce),.pl (.str q.1),.no]):=by
  refine zcg (r:=vs q.1) ?_
  have ix:eIxV 2 (eOp modD (eVar 5) (eCB lenD (zab (eVar 2) aNil))) [.ac (.list ds),.pl (.tuple it),.pl (zah rs),.pl (.int (p:Nat)),.pl (.int (n:Nat)),.pl (.int ce),.no,.no]=some ⟨zbd q,false,[]⟩:=by
   refine zqe (n:=(ce % (rs.length:Int)).toNat) (ds:=rs.map zbd) rfl ?_ (by rw [qL,qE hj,hq];rfl)
   rw [zgg (i:=ce) (j:=(rs.map zbd).length) rfl (zir (fr:=false) (bs:=[]) rfl) (by rw [qC];omega),qC]
   exact congrArg (fun x=>some (vi x)) (by omega)
  show (Option.bind (eIxV 2 (eOp modD (eVar 5) (eCB lenD (zab (eVar 2) aNil))) [.ac (.list ds),.pl (.tuple it),.pl (zah rs),.pl (.int (p:Nat)),.pl (.int (n:Nat)),.pl (.int ce),.no,.no]) fun x=>_)=_
  rw [ix];rfl
 have hx:(putL q.1 ce it)[n]?=some ((putL q.1 ce it)[n]'hn):=qE hn
 generalize hxx:(putL q.1 ce it)[n]'hn=x at hx
 have hxm:x∈putL q.1 ce it:=qAs hx
 refine ⟨x,zauj (lo q hqm) hi x hxm,?_⟩
 have fin:zanh 0 (eVar 3) (eIxV 7 (eVar 4)) [.ac (.list ds),.pl (.tuple it),.pl (zah rs),.pl (.int (p:Nat)),.pl (.int (n:Nat)),.pl (.int ce),.pl (.str q.1),.ac (.list (putL q.1 ce it))]=some (.nx [.ac (.list (ds.set p x)),.pl (.tuple it),.pl (zah rs),.pl (.int (p:Nat)),.pl (.int (n:Nat)),.pl (.int ce),.pl (.str q.1),.ac (.list (putL q.1 ce it))]):=by
  have e1:eIxV 7 (eVar 4) [.ac (.list ds),.pl (.tuple it),.pl (zah rs),.pl (.int (p:Nat)),.pl (.int (n:Nat)),.pl (.int ce),.pl (.str q.1),.ac (.list (putL q.1 ce it))]=some ⟨x,false,[]⟩:=zafw (n:=n) rfl rfl hx
  show (Option.bind (eIxV 7 (eVar 4) [.ac (.list ds),.pl (.tuple it),.pl (zah rs),.pl (.int (p:Nat)),.pl (.int (n:Nat)),.pl (.int ce),.pl (.str q.1),.ac (.list (putL q.1 ce it))]) fun r=>_)=_
  rw [e1,qF]
  show ((ixN ds.length (p:Int)).bind fun j=>if 0∉([]:List Nat) then some (Out.nx [.ac (.list (ds.set j x)),.pl (.tuple it),.pl (zah rs),.pl (.int (p:Nat)),.pl (.int (n:Nat)),.pl (.int ce),.pl (.str q.1),.ac (.list (putL q.1 ce it))]) else none)=_
  rw [show ixN ds.length (p:Int)=some p from zars hp,qF,if_pos (by simp)]
 rcases hi with h|⟨k,h⟩|⟨m,hm,h⟩
 all_goals
  injection h with h
  subst h
  exact zavj (env:=[.ac (.list ds),.pl (.tuple _),.pl (zah rs),.pl (.int (p:Nat)),.pl (.int (n:Nat)),.pl (.int ce),.no,.no]) rfl (zao s6 (zao rfl (zao rfl (zao rfl (zao rfl fin))))) rfl
theorem zauk {i n:Nat} {g:GM} {f:AF} {env:DEnv} {d0 d1:PyData} {rs:List Val} (he:env[i]?=some (.ac d0)) (hf:f env=some rs) (hl:rs.length+1=n) (hb:bss rs=[]) (hg:g d0 (zlc rs)=some d1):ztg i n g f env=some (.nx (env.set i (.ac d1))):=by
 unfold ztg
 rw [he]
 simp only
 rw [hf,qF,if_pos ⟨hl,by rw [hb];simp⟩,hg,hb]
 rfl
theorem zxz {ds:List PyData} {lo hi:Option Int} {x:PyData} (h:x∈cutD ds lo hi):x∈ds:=qAe (qAd h)
theorem zya (ds:List PyData) (lo hi:Option Int):(cutD ds lo hi).length≤ds.length:=by
 unfold cutD
 rw [qAj,qAc]
 omega
noncomputable abbrev zafd (j:Int):TF:=zhb (zbe (eOp gtD (eOp modD (eIxV 2 (eC (.int 0))) (eC (.int 6))) (eC (.int j)))) (zbe (eOp gtD (eCB lenD (zab (eVar 3) aNil)) (eC (.int 0))))
noncomputable abbrev zalg (ci D M:Int):SF:=sSeq (sSet 4 (eOp modD (eIxV 2 (eC (.int ci))) (eCB lenD (zab (eVar 3) aNil))))
  (ztg 3 6 zfp (zab (eIxV 0 (eVar 4)) (zab (eVar 1) (zab (eVar 4) (zab (eOp modD (eOp zcv (eIxV 2 (eC (.int 0))) (eC (.int D))) (eC (.int M))) (zab (eOp zcv (eIxV 2 (eC (.int ci))) (eC (.int 12))) aNil))))))
theorem zafe {rs:List Rule} {g ds:List PyData} {a0 a1 a2 ac:Int} {s4:Sl} (j:Int) (ci:Nat) (D M:Int) (hc:([a0,a1,a2]:List Int)[ci]?=some ac) (h0:0≤a0) (hac:0≤ac) (hD:0<D∧D<1073741824) (hM:0<M∧M≤23)
  (lo:∀ r∈rs,qN r.1=true) (hgl:g.length=rs.length) (hg:∀ d∈g,zuy d) (hl:ds.length=g.length) (hd:∀ d∈ds,zky d) :
  ∃ (ds':List PyData) (s4':Sl),sIf (zafd j) (zalg ci D M) sNil [.pl (.list g),.pl (zah rs),.pl (zbh [a0,a1,a2]),.ac (.list ds),s4,.no]=some (.nx [.pl (.list g),.pl (zah rs),.pl (zbh [a0,a1,a2]),.ac (.list ds'),s4',.no])∧ds'.length=g.length∧∀ d∈ds',zky d:=by
 have ec0:∀ (s:Sl),eIxV 2 (eC (.int 0)) [.pl (.list g),.pl (zah rs),.pl (zbh [a0,a1,a2]),.ac (.list ds),s,.no]=some (vi a0):=fun s=>zqe (n:=0) (ds:=[a0,a1,a2].map .int) rfl rfl rfl
 have ecc:∀ (s:Sl),eIxV 2 (eC (.int (ci:Int))) [.pl (.list g),.pl (zah rs),.pl (zbh [a0,a1,a2]),.ac (.list ds),s,.no]=some (vi ac):=fun s=>zqe (n:=ci) (ds:=[a0,a1,a2].map .int) rfl rfl (by rw [qL,hc];rfl)
 have eln:∀ (s:Sl),eCB lenD (zab (eVar 3) aNil) [.pl (.list g),.pl (zah rs),.pl (zbh [a0,a1,a2]),.ac (.list ds),s,.no]=some (vi (ds.length:Nat)):=fun s=>zir (fr:=false) (bs:=[3]) rfl
 have tt:zafd j [.pl (.list g),.pl (zah rs),.pl (zbh [a0,a1,a2]),.ac (.list ds),s4,.no]=some (decide (j<a0 % 6)&&decide ((0:Int)<(ds.length:Nat))):=by
  show zhb _ _ _=_
  unfold zhb
  rw [zdk (zako (zgg (ec0 s4) rfl (by decide)) rfl),zdk (zako (eln s4) rfl)]
  cases decide (j<a0 % 6)<;>rfl
 cases hb:(decide (j<a0 % 6)&&decide ((0:Int)<(ds.length:Nat))) with
 | false=>exact ⟨ds,s4,if_f (by rw [tt,hb]) rfl,hl,hd⟩
 | true =>
  have hpos:=of_decide_eq_true (qp.mp hb).2
  have m1:0≤ac % (ds.length:Int):=qw ac (by omega)
  have m2:ac % (ds.length:Int)<(ds.length:Int):=qx ac (by omega)
  obtain ⟨p,hp⟩:∃ p:Nat,ac % (ds.length:Int)=(p:Int):=⟨(ac % (ds.length:Int)).toNat,by omega⟩
  have n1:0≤a0 / D % M:=qw _ (by omega)
  have n2:a0 / D % M<M:=qx _ hM.1
  obtain ⟨n,hn⟩:∃ n:Nat,a0 / D % M=(n:Int):=⟨(a0 / D % M).toNat,by omega⟩
  have hpl:p<ds.length:=by omega
  have hpg:p<g.length:=by omega
  have gi:zuy g[p]:=hg _ (qy _)
  obtain ⟨it,hit⟩:∃ it,g[p]=.tuple it:=by
   rcases gi with h|⟨k,h⟩|⟨m,_,h⟩<;>exact ⟨_,h⟩
  have hrs:rs≠[]:=fun z=>by
   have:g.length=0:=by rw [hgl,z];rfl
   omega
  rw [hit] at gi
  obtain ⟨x,hx,ex⟩:=zagt (rs:=rs) (ds:=ds) (it:=it) (p:=p) (n:=n) (ce:=ac / 12) hrs lo gi hpl (by omega) (qBA hac (by decide))
  refine ⟨ds.set p x,.pl (.int (p:Nat)),if_t (by rw [tt,hb]) (zao (e1:=[.pl (.list g),.pl (zah rs),.pl (zbh [a0,a1,a2]),.ac (.list ds),.pl (.int (p:Nat)),.no]) ?_ ?_),by rw [qAR];exact hl,fun d hm=>?_⟩
  ·rw [zcg (zgg (ecc s4) (eln s4) (by omega)),hp];rfl
  ·refine (zauk (i:=3) (n:=6) (d0:=.list ds) (rs:=[⟨.tuple it,false,[]⟩,⟨zah rs,false,[]⟩,vi (p:Nat),vi (n:Nat),vi (ac / 12)]) rfl ?_ rfl rfl ex).trans rfl
   ·refine zaq (zqe (n:=p) (ds:=g) rfl rfl (by rw [qE hpg,hit])) (zaq rfl (zaq rfl (zaq ?_ (zdi (zij (ecc _) rfl (by decide) (by decide))))))
    rw [zgg (zij (ec0 _) rfl hD.1 hD.2) rfl hM.1,hn]
  ·rcases List.mem_or_eq_of_mem_set hm with h|h
   ·exact hd d h
   ·rw [h];exact hx
theorem zyb {a b:EF} {env:DEnv} {x y:List PyData} {f1 f2:Bool} {b1 b2:List Nat} (ha:a env=some ⟨.list x,f1,b1⟩) (hb:b env=some ⟨.list y,f2,b2⟩) (h:x.length+y.length≤100000):eOp addD a b env=some ⟨.list (x++y),true,b1++b2⟩:=by
 unfold eOp
 rw [ha,hb]
 show ((if x.length+y.length≤100000 then some (PyData.list (x++y),true) else none).bind fun z=>some (⟨z.1,z.2,bsOf z.1 (b1++b2)⟩:Val))=_
 rw [if_pos h]
 rfl
theorem zalh {a:EF} {l h:PF'} {env:DEnv} {x:List PyData} {f:Bool} {bs:List Nat} {lo hi:Option Int} (ha:a env=some ⟨.list x,f,bs⟩) (hl:l env=some lo) (hh:h env=some hi):eSl a l h env=some ⟨.list (cutD x lo hi),true,bs⟩:=by
 unfold eSl
 rw [ha,hl,hh]
 rfl
theorem zadi {rs:List Rule} {g:List PyData} {a0 a1 a2:Int} (h0:0≤a0) (h1:0≤a1) (h2:0≤a2) (lo:∀ r∈rs,qN r.1=true) (hgl:g.length=rs.length) (hrl:rs.length≤100) (hg:∀ d∈g,zuy d) :
  ∃ (P:PyData) (fr:Bool),zhs [.list g,zah rs,zbh [a0,a1,a2]]=some (P,fr)∧zon P:=by
 obtain ⟨d1,t1,e1,l1,o1⟩:=zafe (rs:=rs) (g:=g) (ds:=g) (a0:=a0) (a1:=a1) (a2:=a2) (s4:=.no) 0 1 6 23 rfl h0 h1 (by decide) (by decide) lo hgl hg rfl fun d hd=>.inl (hg d hd).shaped
 obtain ⟨d2,t2,e2,l2,o2⟩:=zafe (rs:=rs) (g:=g) (ds:=d1) (a0:=a0) (a1:=a1) (a2:=a2) (s4:=t1) 3 2 138 2 rfl h0 h2 (by decide) (by decide) lo hgl hg l1 o1
 have m1:0≤a2 / 12 % ((d2.length:Int)+1):=qw _ (by omega)
 obtain ⟨at_,hat⟩:∃ n:Nat,a2 / 12 % ((d2.length:Int)+1)=(n:Int):=⟨(a2 / 12 % ((d2.length:Int)+1)).toNat,by omega⟩
 have ec:∀ (k:Nat) (v:Int) (s5:Sl),([a0,a1,a2]:List Int)[k]?=some v→eIxV 2 (eC (.int (k:Int))) [.pl (.list g),.pl (zah rs),.pl (zbh [a0,a1,a2]),.ac (.list d2),t2,s5]=some (vi v):=fun k v s5 hk=>zqe (n:=k) (ds:=[a0,a1,a2].map .int) rfl rfl (by rw [qL,hk];rfl)
 have e5:sSet 5 (eOp modD (eOp zcv (eIxV 2 (eC (.int 2))) (eC (.int 12))) (eOp addD (eCB lenD (zab (eVar 3) aNil)) (eC (.int 1)))) [.pl (.list g),.pl (zah rs),.pl (zbh [a0,a1,a2]),.ac (.list d2),t2,.no]=some (.nx [.pl (.list g),.pl (zah rs),.pl (zbh [a0,a1,a2]),.ac (.list d2),t2,.pl (.int (at_:Nat))]):=by
  have:eOp modD (eOp zcv (eIxV 2 (eC (.int 2))) (eC (.int 12))) (eOp addD (eCB lenD (zab (eVar 3) aNil)) (eC (.int 1))) [.pl (.list g),.pl (zah rs),.pl (zbh [a0,a1,a2]),.ac (.list d2),t2,.no]=some (vi (a2 / 12 % ((d2.length:Int)+1))):=zgg (zij (ec 2 a2 _ rfl) rfl (by decide) (by decide)) (zsy (zir (ds:=d2) (fr:=false) (bs:=[3]) rfl) rfl) (by omega)
  rw [zcg this,hat]
  rfl
 have te:∀ (v:Int),zbe (eOp eqD (eOp modD (eIxV 2 (eC (.int 1))) (eC (.int 11))) (eC (.int v))) [.pl (.list g),.pl (zah rs),.pl (zbh [a0,a1,a2]),.ac (.list d2),t2,.pl (.int (at_:Nat))]=some (a1 % 11==v):=fun v=>zdk (zrr (zgg (ec 1 a1 _ rfl) rfl (by decide)) rfl)
 have ev3:eVar 3 [.pl (.list g),.pl (zah rs),.pl (zbh [a0,a1,a2]),.ac (.list d2),t2,.pl (.int (at_:Nat))]=some ⟨.list d2,false,[3]⟩:=rfl
 have ev5:eVar 5 [.pl (.list g),.pl (zah rs),.pl (zbh [a0,a1,a2]),.ac (.list d2),t2,.pl (.int (at_:Nat))]=some (vi (at_:Nat)):=rfl
 have hstart:zho 6 [.list g,zah rs,zbh [a0,a1,a2]]=[.pl (.list g),.pl (zah rs),.pl (zbh [a0,a1,a2]),.no,.no,.no]:=rfl
 have go:∀ {F:SF} {P:PyData} {fr:Bool},F [.pl (.list g),.pl (zah rs),.pl (zbh [a0,a1,a2]),.ac (.list d2),t2,.pl (.int (at_:Nat))]=some (.rt P fr)→sSeq (sSet 3 (eCB zqa (zab (eVar 0) aNil))) (sSeq (sIf (zafd 0) (zalg 1 6 23) sNil) (sSeq (sIf (zafd 3) (zalg 2 138 2) sNil) (sSeq (sSet 5 (eOp modD (eOp zcv (eIxV 2 (eC (.int 2))) (eC (.int 12))) (eOp addD (eCB lenD (zab (eVar 3) aNil)) (eC (.int 1))))) F))) [.pl (.list g),.pl (zah rs),.pl (zbh [a0,a1,a2]),.no,.no,.no]=some (.rt P fr):=fun hF=>zao rfl (zao e1 (zao e2 (zao e5 hF)))
 have hlen:d2.length≤100:=by omega
 cases h8:a1 % 11==8 with
 | true =>
  have c1:=zya d2 none (some (at_:Int))
  have c2:=zya d2 (some ((at_:Int)+1)) none
  refine ⟨.list (cutD d2 none (some (at_:Int))++cutD d2 (some ((at_:Int)+1)) none),true,zed hstart (go (zdt (if_t ((te 8).trans (by rw [h8])) (zfi (zyb (zalh ev3 rfl (zlo ev5)) (zalh ev3 (zlo (zsy ev5 rfl)) rfl) (by omega)))))),fun ds hds=>?_⟩
  injection hds with hds
  subst hds
  refine ⟨fun d hd=>?_,by rw [qb];omega⟩
  rcases qv.mp hd with h|h
  ·exact o2 d (zxz h)
  ·exact o2 d (zxz h)
 | false =>
  cases h9:a1 % 11==9 with
  | true =>
   have c1:=zya d2 none (some (at_:Int))
   have c2:=zya d2 (some (at_:Int)) none
   have ln:eLst (zab (eTup (zab (eC (.str "near")) aNil)) aNil) [.pl (.list g),.pl (zah rs),.pl (zbh [a0,a1,a2]),.ac (.list d2),t2,.pl (.int (at_:Nat))]=some ⟨.list [zly],true,[]⟩:=rfl
   refine ⟨.list ((cutD d2 none (some (at_:Int))++[zly])++cutD d2 (some (at_:Int)) none),true,zed hstart (go (zao (if_f ((te 8).trans (by rw [h8])) rfl) (zdt (if_t ((te 9).trans (by rw [h9])) (zfi (zyb (zyb (zalh ev3 rfl (zlo ev5)) ln (by show _+1≤_;omega)) (zalh ev3 (zlo ev5) rfl) (by rw [qb];show _+1+_≤_;omega))))))),fun ds hds=>?_⟩
   injection hds with hds
   subst hds
   refine ⟨fun d hd=>?_,by rw [qb,qb];show _+1+_<_;omega⟩
   rcases qv.mp hd with h|h
   ·rcases qv.mp h with h|h
    ·exact o2 d (zxz h)
    ·obtain rfl:d=zly:=by simpa using h
     exact .inl zgf
   ·exact o2 d (zxz h)
  | false =>
   cases h10:a1 % 11==10 with
   | true =>
    have n1:0≤a2 / 5 % 5:=qw _ (by decide)
    have n2:a2 / 5 % 5<5:=qx _ (by decide)
    have idx:eOp modD (eOp zcv (eIxV 2 (eC (.int 2))) (eC (.int 5))) (eC (.int 5)) [.pl (.list g),.pl (zah rs),.pl (zbh [a0,a1,a2]),.ac (.list d2),t2,.pl (.int (at_:Nat))]=some (vi (a2 / 5 % 5)):=zgg (zij (ec 2 a2 _ rfl) rfl (by decide) (by decide)) rfl (by decide)
    have lst:eLst (zab (eCB zea (zab (eVar 3) aNil)) (zab (eC .none) (zab (eRev (eVar 3) (zcm (eNeg (eC (.int 1))))) (zab zaca (zab (eC (.str "near")) aNil))))) [.pl (.list g),.pl (zah rs),.pl (zbh [a0,a1,a2]),.ac (.list d2),t2,.pl (.int (at_:Nat))]=some ⟨.list [.tuple d2,.none,.list d2.reverse,.dict [],.str "near"],true,[3,3]⟩:=rfl
    have pick:∀ (k:Nat) (P:PyData),a2 / 5 % 5=(k:Int)→([.tuple d2,.none,.list d2.reverse,.dict [],.str "near"]:List PyData)[k]?=some P→zon P→∃ (P:PyData) (fr:Bool),zhs [.list g,zah rs,zbh [a0,a1,a2]]=some (P,fr)∧zon P:=fun k P hk hP ok=>by
     refine ⟨P,false,zed hstart (go (zao (if_f ((te 8).trans (by rw [h8])) rfl) (zao (if_f ((te 9).trans (by rw [h9])) rfl) (zdt (if_t ((te 10).trans (by rw [h10])) (zfi (bs:=bsOf P ([3,3]++[])) ?_)))))),ok⟩
     show (Option.bind (eLst (zab (eCB zea (zab (eVar 3) aNil)) (zab (eC .none) (zab (eRev (eVar 3) (zcm (eNeg (eC (.int 1))))) (zab zaca (zab (eC (.str "near")) aNil))))) [.pl (.list g),.pl (zah rs),.pl (zbh [a0,a1,a2]),.ac (.list d2),t2,.pl (.int (at_:Nat))]) fun x=>Option.bind (eOp modD (eOp zcv (eIxV 2 (eC (.int 2))) (eC (.int 5))) (eC (.int 5)) [.pl (.list g),.pl (zah rs),.pl (zbh [a0,a1,a2]),.ac (.list d2),t2,.pl (.int (at_:Nat))]) fun y=>(ixD x.d y.d).bind fun z=>some (⟨z.1,z.2,bsOf z.1 (x.bs++y.bs)⟩:Val))=_
     rw [lst,idx,qF,qF,hk]
     show (((atI ([.tuple d2,.none,.list d2.reverse,.dict [],.str "near"]:List PyData) (k:Int)).map fun d=>(d,false)).bind fun z=>some (⟨z.1,z.2,bsOf z.1 ([3,3]++[])⟩:Val))=_
     rw [znz hP]
     rfl
    have:a2 / 5 % 5=((0:Nat):Int)∨a2 / 5 % 5=((1:Nat):Int)∨a2 / 5 % 5=((2:Nat):Int)∨a2 / 5 % 5=((3:Nat):Int)∨a2 / 5 % 5=((4:Nat):Int):=by omega
    rcases this with h|h|h|h|h
    ·exact pick 0 _ h rfl fun ds hds=>by cases hds
    ·exact pick 1 _ h rfl fun ds hds=>by cases hds
    ·refine pick 2 _ h rfl fun ds hds=>?_
     injection hds with hds
     subst hds
     exact ⟨fun d hd=>o2 d (List.mem_reverse.mp hd),by rw [qC5];omega⟩
    ·exact pick 3 _ h rfl fun ds hds=>by cases hds
    ·exact pick 4 _ h rfl fun ds hds=>by cases hds
   | false =>
    refine ⟨.list d2,true,zed hstart (go (zao (if_f ((te 8).trans (by rw [h8])) rfl) (zao (if_f ((te 9).trans (by rw [h9])) rfl) (zao (if_f ((te 10).trans (by rw [h10])) rfl) rfl)))),fun ds hds=>?_⟩
    injection hds with hds
    subst hds
    exact ⟨o2,by omega⟩
theorem zaul {d:PyData} (h:zky d):∃ b,eqHD d zly=some (.bool b,false):=by
 unfold eqHD
 split
 ·exact ⟨_,rfl⟩
 ·rename_i hn
  rcases h with h|⟨y,rfl⟩
  ·exact absurd (by unfold eqOk;rw [h,zgf];simp) hn
  ·exact ⟨_,rfl⟩
def zabj (d:PyData):Bool:=match eqHD d zly with
 | some (.bool b,_)=>b
 | _=>false
theorem zart {d:PyData} (h:zky d) {env:DEnv} (he:eVar 1 env=some ⟨d,false,[]⟩):zbe (eOp eqHD (eVar 1) (eTup (zab (eC (.str "near")) aNil))) env=some (zabj d):=by
 obtain ⟨b,hb⟩:=zaul h
 refine zdk ?_
 unfold eOp
 rw [he]
 show ((eqHD d zly).bind fun z=>some (⟨z.1,z.2,bsOf z.1 ([]++[])⟩:Val))=_
 unfold zabj
 rw [hb];rfl
theorem zapk {f:AF} {env:DEnv} {rs:List Val} (h:f env=some rs) (hl:rs.length≤100000):eLst f env=some ⟨.list (zlc rs),true,bss rs⟩:=by
 unfold eLst
 rw [h]
 exact if_pos hl
def cut1 (ns:List Str):List Str:=(ns.drop (HT.sIx ns.length 0 (some 1))).take (HT.sIx ns.length ns.length none - HT.sIx ns.length 0 (some 1))
theorem zaru (ns:List Str):cutD (ns.map .str) (some 1) none=(cut1 ns).map .str:=by
 unfold cutD cut1
 rw [qC,← qBl,← qBI]
theorem zaob {ns:List Str} (h:LowS ns):LowS (cut1 ns):=fun k hk=>h k (qAe (qAd hk))
noncomputable def zha (ns:List Str) (o:Str):List PyData:=[.tuple [.str "none"],.tuple [.str "rule",.str o],.tuple [.str "quarrel",zam (ns++[o])],.tuple [.str "quarrel",zam (cut1 ns)],.none,
 .list [.str "rule",.str o],.tuple [.str "quarrel",zae ns],.tuple [.str "quarrel",zam ns.reverse],.tuple [.str "rule"],.str o]
theorem zaoc {ns:List Str} {o:Str} (hn:LowS ns) (ho:qN o=true):∀ x∈zha ns o,qI x=true:=by
 have w1:qN "none" = true:=by decide +kernel
 have w2:qN "rule" = true:=by decide +kernel
 have w3:qN "quarrel" = true:=by decide +kernel
 have ks:∀ l:List Str,LowS l→(zam l).canLay0=true∧(zam l).depth≤60:=fun l hl=>by
  obtain ⟨l1,l2⟩:=zke l hl
  refine ⟨l1,?_⟩
  show qf (l.map .str)+1≤60
  omega
 have hno:LowS (ns++[o]):=fun k hk=>by
  rcases qv.mp hk with h|h
  ·exact hn k h
  ·obtain rfl:k=o:=by simpa using h
   exact ho
 have k1:=ks _ hno
 have k2:=ks _ (zaob hn)
 have k3:=ks _ hn
 have k4:=ks ns.reverse fun k hk=>hn k (List.mem_reverse.mp hk)
 have q:∀ d:PyData,d.canLay0=true∧d.depth≤60→qI (.tuple [.str "quarrel",d])=true:=fun d hd=>zjz w3 (by decide) hd.1 hd.2
 intro x hx
 unfold zha at hx
 simp only [qg,qAi,or_false] at hx
 rcases hx with rfl|rfl|rfl|rfl|rfl|rfl|rfl|rfl|rfl|rfl
 ·exact zarr (by show (qN "none" && true)=true;rw [w1];rfl) (by decide)
 ·exact zjz w2 (by decide) ho (qAf _)
 ·exact q _ k1
 ·exact q _ k2
 ·rfl
 ·exact zjz w2 (by decide) ho (qAf _)
 ·exact q _ k3
 ·exact q _ k4
 ·exact zarr (by show (qN "rule" && true)=true;rw [w2];rfl) (by decide)
 ·exact znm ho
theorem zadj {rs:List Rule} {P:PyData} {z:Int} (z0:0≤z) (hP:zon P) (hl:rs.length<300) (lo:∀ r∈rs,qN r.1=true):∃ (A:PyData) (fr:Bool),zju [zah rs,P,.int z]=some (A,fr)∧qI A=true:=by
 obtain ⟨ns,hns,hnl,e3⟩:∃ ns:List Str,LowS ns∧ns.length<300∧sIf (tTru (eIsi "list" (eVar 1))) (sSet 3 (zdg ["_law_rule", "_law_item_here"] [] (zmk (zab (eVar 0) (zab (eVar 1) aNil))) (gT 2 (zap 0 (zap 1 zco))) (zbe (eOp eqHD (eVar 1) (eTup (zab (eC (.str "near")) aNil)))) (eIxV 0 (eC (.int 0))))) sNil [.pl (zah rs),.pl P,.pl (.int z),.ac (zae []),.no,.no,.no]=some (.nx [.pl (zah rs),.pl P,.pl (.int z),.ac (zae ns),.no,.no,.no]):=by
  by_cases hli:∃ ds,P=.list ds
  ·obtain ⟨ds,rfl⟩:=hli
   obtain ⟨hi,hdl⟩:=hP ds rfl
   have it:zmk (zab (eVar 0) (zab (eVar 1) aNil)) [.pl (zah rs),.pl (.list ds),.pl (.int z),.ac (zae []),.no,.no,.no]=some ((rs.zip ds).map fun z=>PyData.tuple [zbd z.1,z.2],[]):=by
    show some (List.zipWith (fun d e=>PyData.tuple [d,e]) (rs.map zbd) ds,[]++[])=_
    rw [zqq];rfl
   have zl:(rs.zip ds).length≤rs.length:=by rw [qA9];exact qAp _ _
   have cm:zej (gT 2 (zap 0 (zap 1 zco))) (zbe (eOp eqHD (eVar 1) (eTup (zab (eC (.str "near")) aNil)))) (eIxV 0 (eC (.int 0))) [.no,.no] ((rs.zip ds).map fun z=>PyData.tuple [zbd z.1,z.2])=some (((rs.zip ds).filter fun z=>zabj z.2).map fun z=>PyData.str z.1.1) :=
    zcy (out:=fun z:Rule×PyData=>PyData.str z.1.1) (fun z=>zabj z.2) fun w hw=>⟨[.pl (zbd w.1),.pl w.2],rfl,zart (hi w.2 (qAP hw).2) rfl,fun _=>⟨vs w.1.1,rfl,rfl⟩⟩
   have en:(((rs.zip ds).filter fun z=>zabj z.2).map fun z=>PyData.str z.1.1)=(((rs.zip ds).filter fun z=>zabj z.2).map fun z=>z.1.1).map .str:=by rw [qAa];rfl
   rw [en] at cm
   refine ⟨((rs.zip ds).filter fun z=>zabj z.2).map fun z=>z.1.1,fun k hk=>?_,?_,if_t rfl ?_⟩
   ·obtain ⟨w,hw,rfl⟩:=qAJ.mp hk
    exact lo w.1 (qAP (qc.mp hw).1).1
   ·rw [qC]
    exact qA0 (qAX (qAy _ _) zl) hl
   ·refine zcg (r:=⟨zae (((rs.zip ds).filter fun z=>zabj z.2).map fun z=>z.1.1),true,[]⟩) ?_
    rw [zdz (own:=["_law_rule", "_law_item_here"]) (fr:=[]) it (by rw [qC];omega) cm,if_pos (zgt _)]
    rfl
  ·refine ⟨[],(fun k hk=>by cases hk),by decide,if_f ?_ rfl⟩
   cases P<;>first|rfl|exact absurd ⟨_,rfl⟩ hli
 have cm4:zej (gT 2 (zap 0 (zap 1 zco))) zdw (eVar 0) [.no,.no] (rs.map zbd)=some ((nms rs).map .str):=by
  have:=zec (enc:=zbd) (out:=fun q:Rule=>.str q.1) (g:=gT 2 (zap 0 (zap 1 zco))) (t:=zdw) (e:=eVar 0) (env:=[.no,.no]) (l:=rs) fun q _=>⟨[.pl (.str q.1),.pl (zam q.2)],rfl,rfl,vs q.1,rfl,rfl⟩
  rw [this];unfold nms;rw [qAa];rfl
 have hnm:(nms rs).length=rs.length:=by unfold nms;rw [qC]
 have c4:zdg ["_law_name", "_law_kinds"] [] (zbg (eVar 0)) (gT 2 (zap 0 (zap 1 zco))) zdw (eVar 0) [.pl (zah rs),.pl P,.pl (.int z),.ac (zae ns),.no,.no,.no]=some ⟨zae (nms rs),true,[]⟩:=by
  rw [zdz (own:=["_law_name", "_law_kinds"]) (fr:=[]) (fi:=zbg (eVar 0)) (ds:=rs.map zbd) (bs:=[]) rfl (by rw [qC];omega) cm4,if_pos (zgt _)]
  rfl
 have e4:sSet 4 (eOp addD (zdg ["_law_name", "_law_kinds"] [] (zbg (eVar 0)) (gT 2 (zap 0 (zap 1 zco))) zdw (eVar 0)) (eLst (zab (eC (.str "a")) aNil))) [.pl (zah rs),.pl P,.pl (.int z),.ac (zae ns),.no,.no,.no]=some (.nx [.pl (zah rs),.pl P,.pl (.int z),.ac (zae ns),.ac (zae (nms rs++[("a":Str)])),.no,.no]) :=
  zcg (r:=⟨zae (nms rs++[("a":Str)]),true,[]⟩) (zaba (x:=nms rs) (y:=[("a":Str)]) (f1:=true) (f2:=true) (b1:=[]) (b2:=[]) c4 rfl (by rw [hnm];show _+1≤_;omega))
 have lt:LowS (nms rs++[("a":Str)]):=fun k hk=>by
  rcases qv.mp hk with h|h
  ·obtain ⟨r,hr,rfl⟩:=qAJ.mp h
   exact lo r hr
  ·obtain rfl:k = "a":=by simpa using h
   decide +kernel
 generalize hT:nms rs++[("a":Str)]=T at e4 lt
 have hTl:0<T.length:=by rw [← hT,qb];show 0<_+1;omega
 have m1:0≤z / 16 % (T.length:Int):=qw _ (by omega)
 have m2:z / 16 % (T.length:Int)<(T.length:Int):=qx _ (by omega)
 obtain ⟨i,hi⟩:∃ i:Nat,z / 16 % (T.length:Int)=(i:Int):=⟨(z / 16 % (T.length:Int)).toNat,by omega⟩
 have hiT:i<T.length:=by omega
 generalize hO:T[i]=o
 have ho:qN o=true:=by rw [← hO];exact lt _ (qy _)
 have e5:sSet 5 (eIxV 4 (eOp modD (eOp zcv (eVar 2) (eC (.int 16))) (eCB lenD (zab (eVar 4) aNil)))) [.pl (zah rs),.pl P,.pl (.int z),.ac (zae ns),.ac (zae T),.no,.no]=some (.nx [.pl (zah rs),.pl P,.pl (.int z),.ac (zae ns),.ac (zae T),.pl (.str o),.no]):=by
  refine zcg (r:=vs o) (zafw (n:=i) (ds:=T.map .str) rfl ?_ (by rw [qL,qE hiT,hO];rfl))
  rw [zgg (i:=z / 16) (j:=(T.map PyData.str).length) (zij rfl rfl (by decide) (by decide)) (zir (fr:=false) (bs:=[4]) rfl) (by rw [qC];omega),qC,hi]
 have e6:sSet 6 (eLst (zab (eTup (zab (eC (.str "none")) aNil)) (zab (eTup (zab (eC (.str "rule")) (zab (eVar 5) aNil))) (zab (eTup (zab (eC (.str "quarrel")) (zab (eCB zea (zab (eOp addD (eVar 3) (eLst (zab (eVar 5) aNil))) aNil)) aNil))) (zab (eTup (zab (eC (.str "quarrel")) (zab (eCB zea (zab (eSl (eVar 3) (zcm (eC (.int 1))) zfk) aNil)) aNil))) (zab (eC .none) aNil)))))) [.pl (zah rs),.pl P,.pl (.int z),.ac (zae ns),.ac (zae T),.pl (.str o),.no]=some (.nx [.pl (zah rs),.pl P,.pl (.int z),.pl (zae ns),.ac (zae T),.pl (.str o),.ac (.list ((zha ns o).take 5))]):=by
  have a1:eOp addD (eVar 3) (eLst (zab (eVar 5) aNil)) [.pl (zah rs),.pl P,.pl (.int z),.ac (zae ns),.ac (zae T),.pl (.str o),.no]=some ⟨zae (ns++[o]),true,[3]++[]⟩:=zaba (x:=ns) (y:=[o]) (f1:=false) (f2:=true) rfl rfl (by show _+1≤_;omega)
  have a2:eSl (eVar 3) (zcm (eC (.int 1))) zfk [.pl (zah rs),.pl P,.pl (.int z),.ac (zae ns),.ac (zae T),.pl (.str o),.no]=some ⟨zae (cut1 ns),true,[3]⟩:=by
   rw [zalh (x:=ns.map .str) (f:=false) (bs:=[3]) (lo:=some 1) (hi:=none) rfl rfl rfl,zaru];rfl
  have b1:eCB zea (zab (eOp addD (eVar 3) (eLst (zab (eVar 5) aNil))) aNil) [.pl (zah rs),.pl P,.pl (.int z),.ac (zae ns),.ac (zae T),.pl (.str o),.no]=some ⟨zam (ns++[o]),false,[3]⟩:=by
   unfold eCB;rw [zdi a1];rfl
  have b2:eCB zea (zab (eSl (eVar 3) (zcm (eC (.int 1))) zfk) aNil) [.pl (zah rs),.pl P,.pl (.int z),.ac (zae ns),.ac (zae T),.pl (.str o),.no]=some ⟨zam (cut1 ns),false,[3]⟩:=by
   unfold eCB;rw [zdi a2];rfl
  refine zcg (r:=⟨.list ((zha ns o).take 5),true,[3,3]⟩) ?_
  have t1:eTup (zab (eC (.str "quarrel")) (zab (eCB zea (zab (eOp addD (eVar 3) (eLst (zab (eVar 5) aNil))) aNil)) aNil)) [.pl (zah rs),.pl P,.pl (.int z),.ac (zae ns),.ac (zae T),.pl (.str o),.no]=some ⟨.tuple [.str "quarrel",zam (ns++[o])],false,[3]⟩:=by
   unfold eTup;rw [zaq (r:=vs "quarrel") rfl (zdi b1)];rfl
  have t2:eTup (zab (eC (.str "quarrel")) (zab (eCB zea (zab (eSl (eVar 3) (zcm (eC (.int 1))) zfk) aNil)) aNil)) [.pl (zah rs),.pl P,.pl (.int z),.ac (zae ns),.ac (zae T),.pl (.str o),.no]=some ⟨.tuple [.str "quarrel",zam (cut1 ns)],false,[3]⟩:=by
   unfold eTup;rw [zaq (r:=vs "quarrel") rfl (zdi b2)];rfl
  exact (zapk (rs:=[⟨.tuple [.str "none"],false,[]⟩,⟨.tuple [.str "rule",.str o],false,[]⟩,⟨.tuple [.str "quarrel",zam (ns++[o])],false,[3]⟩,⟨.tuple [.str "quarrel",zam (cut1 ns)],false,[3]⟩,⟨.none,false,[]⟩]) (zaq rfl (zaq rfl (zaq t1 (zaq t2 (zdi rfl))))) (by show 5≤100000;decide)).trans rfl
 have e7:sSet 6 (eOp addD (eVar 6) (eLst (zab (eLst (zab (eC (.str "rule")) (zab (eVar 5) aNil))) (zab (eTup (zab (eC (.str "quarrel")) (zab (eVar 3) aNil))) (zab (eTup (zab (eC (.str "quarrel")) (zab (eCB zea (zab (eRev (eVar 3) (zcm (eNeg (eC (.int 1))))) aNil)) aNil))) (zab (eTup (zab (eC (.str "rule")) aNil)) (zab (eVar 5) aNil))))))) [.pl (zah rs),.pl P,.pl (.int z),.pl (zae ns),.ac (zae T),.pl (.str o),.ac (.list ((zha ns o).take 5))]=some (.nx [.pl (zah rs),.pl P,.pl (.int z),.pl (zae ns),.ac (zae T),.pl (.str o),.ac (.list (zha ns o))]):=by
  have r1:eRev (eVar 3) (zcm (eNeg (eC (.int 1)))) [.pl (zah rs),.pl P,.pl (.int z),.pl (zae ns),.ac (zae T),.pl (.str o),.ac (.list ((zha ns o).take 5))]=some ⟨zae ns.reverse,true,[]⟩:=by
   show some (⟨.list (ns.map PyData.str).reverse,true,[]⟩:Val)=_
   rw [← List.map_reverse];rfl
  have b3:eCB zea (zab (eRev (eVar 3) (zcm (eNeg (eC (.int 1))))) aNil) [.pl (zah rs),.pl P,.pl (.int z),.pl (zae ns),.ac (zae T),.pl (.str o),.ac (.list ((zha ns o).take 5))]=some ⟨zam ns.reverse,false,[]⟩:=by
   unfold eCB;rw [zdi r1];rfl
  have t3:eTup (zab (eC (.str "quarrel")) (zab (eCB zea (zab (eRev (eVar 3) (zcm (eNeg (eC (.int 1))))) aNil)) aNil)) [.pl (zah rs),.pl P,.pl (.int z),.pl (zae ns),.ac (zae T),.pl (.str o),.ac (.list ((zha ns o).take 5))]=some ⟨.tuple [.str "quarrel",zam ns.reverse],false,[]⟩:=by
   unfold eTup;rw [zaq (r:=vs "quarrel") rfl (zdi b3)];rfl
  have l3:eLst (zab (eLst (zab (eC (.str "rule")) (zab (eVar 5) aNil))) (zab (eTup (zab (eC (.str "quarrel")) (zab (eVar 3) aNil))) (zab (eTup (zab (eC (.str "quarrel")) (zab (eCB zea (zab (eRev (eVar 3) (zcm (eNeg (eC (.int 1))))) aNil)) aNil))) (zab (eTup (zab (eC (.str "rule")) aNil)) (zab (eVar 5) aNil))))) [.pl (zah rs),.pl P,.pl (.int z),.pl (zae ns),.ac (zae T),.pl (.str o),.ac (.list ((zha ns o).take 5))]=some ⟨.list ((zha ns o).drop 5),true,[]⟩:=by
   exact (zapk (rs:=[⟨.list [.str "rule",.str o],true,[]⟩,⟨.tuple [.str "quarrel",zae ns],false,[]⟩,⟨.tuple [.str "quarrel",zam ns.reverse],false,[]⟩,⟨.tuple [.str "rule"],false,[]⟩,vs o]) (zaq rfl (zaq rfl (zaq t3 (zaq rfl (zdi rfl))))) (by show 5≤100000;decide)).trans rfl
  exact zcg (r:=⟨.list (zha ns o),true,[6]++[]⟩) (zyb (x:=(zha ns o).take 5) (y:=(zha ns o).drop 5) (f1:=false) (f2:=true) (b1:=[6]) (b2:=[]) rfl l3 (by show 5+5≤100000;decide))
 have d1:0≤z % 16:=qw _ (by decide)
 have d2:z % 16<16:=qx _ (by decide)
 obtain ⟨n,hn⟩:∃ n:Nat,z % 16=(n:Int):=⟨(z % 16).toNat,by omega⟩
 have md:eOp modD (eVar 2) (eC (.int 16)) [.pl (zah rs),.pl P,.pl (.int z),.pl (zae ns),.ac (zae T),.pl (.str o),.ac (.list (zha ns o))]=some (vi (n:Nat)):=by
  rw [zgg (i:=z) (j:=16) rfl rfl (by decide),hn]
 have tl:zbe (eOp ltD (eOp modD (eVar 2) (eC (.int 16))) (eC (.int 10))) [.pl (zah rs),.pl P,.pl (.int z),.pl (zae ns),.ac (zae T),.pl (.str o),.ac (.list (zha ns o))]=some (decide ((n:Int)<10)):=by
  refine zdk ?_
  unfold eOp
  show (Option.bind (eOp modD (eVar 2) (eC (.int 16)) [.pl (zah rs),.pl P,.pl (.int z),.pl (zae ns),.ac (zae T),.pl (.str o),.ac (.list (zha ns o))]) fun x=>_)=_
  rw [md];rfl
 have hstart:zho 7 [zah rs,P,.int z]=[.pl (zah rs),.pl P,.pl (.int z),.no,.no,.no,.no]:=rfl
 by_cases h10:n<10
 ·have hx:(zha ns o)[n]?=some ((zha ns o)[n]'h10):=qE h10
  refine ⟨(zha ns o)[n]'h10,false,zed hstart (zao rfl (zao e3 (zao e4 (zao e5 (zao e6 (zao e7 (zdt (if_t (by rw [tl,decide_eq_true (by omega)]) (zfi (zafw (n:=n) rfl md hx)))))))))),zaoc hns ho _ (qy _)⟩
 ·refine ⟨zeu ns,false,zed hstart (zao rfl (zao e3 (zao e4 (zao e5 (zao e6 (zao e7 (zao (if_f (by rw [tl,decide_eq_false (by omega)]) rfl) (zfi (zbv (n:=1) (rs:=[⟨zae ns,false,[]⟩]) rfl rfl (zja ns))))))))))  , ziz hns⟩
theorem zadk {W:Web} {p:Nat} {rs:List Rule} (h:WebOk W) (lo:∀ x∈nm W,Low x) (lr:∀ r∈rs,qN r.1=true∧LowS r.2):qI (zev W p rs)=true:=by
 obtain ⟨w1,w2⟩:=zaei W (zari h lo)
 obtain ⟨r1,r2⟩:=zuk rs lr
 unfold qI zev
 rw [qY]
 refine ⟨?_,decide_eq_true ?_⟩
 ·show (qu (W.map rowD)&&(true&&(qu (rs.map zbd)&&true)))=true
  rw [w1,r1];rfl
 ·show max (qf (W.map rowD)+1) (max 0 (max (qf (rs.map zbd)+1) 0))+1≤64
  omega
noncomputable def zabk:SF:=(sSeq (sSet 2 (eOp addD (eC (.int 1)) (eOp modD (eIxV 1 (eC (.int 0))) (eC (.int 3)))))
  (sSeq (sSet 3 (zbm 2 zdv (zab (eOp addD (eC (.int 1)) (eOp modD (eOp zcv (eIxV 1 (eC (.int 0))) (eC (.int 3))) (eOp ixD (eTup (zab (eC (.int 8)) (zab (eC (.int 8)) (zab (eC (.int 6)) aNil)))) (eOp subD (eVar 2) (eC (.int 1)))))) (zab (eIxV 1 (eC (.int 1))) aNil))))
  (sSeq (sSet 4 (zbm 2 zmg (zab (eSl (eVar 1) (zcm (eC (.int 8))) (zcm (eC (.int 16)))) (zab (eVar 3) aNil))))
  (sSeq (sSet 5 (zbm 1 zoz (zab (eVar 4) aNil)))
  (sSeq (sSet 6 (zbm 3 zks (zab (eIxV 1 (eC (.int 4))) (zab (eVar 3) (zab (eVar 2) aNil)))))
  (sSeq (sSet 7 (zbm 5 zjt (zab (eSl (eVar 1) (zcm (eC (.int 16))) (zcm (eC (.int 28)))) (zab (eVar 3) (zab (eVar 5) (zab (eVar 6) (zab (zbm 2 zdv (zab (eOp modD (eIxV 1 (eC (.int 3))) (eC (.int 13))) (zab (eIxV 1 (eC (.int 2))) aNil))) aNil)))))))
  (sSeq (sSet 8 (zbm 4 zkt (zab (eVar 5) (zab (eVar 7) (zab (eVar 6) (zab (eIxV 1 (eC (.int 5))) aNil))))))
  (sSeq (sSet 9 (zbm 3 zhs (zab (eVar 8) (zab (eVar 7) (zab (eSl (eVar 1) (zcm (eC (.int 28))) (zcm (eC (.int 31)))) aNil)))))
  (sSeq (sSet 10 (zbm 3 zju (zab (eVar 7) (zab (eVar 9) (zab (eIxV 1 (eC (.int 6))) aNil)))))
  (sSeq (sSet 11 (zbm 5 zmo (zab (eVar 5) (zab (eVar 7) (zab (eVar 6) (zab (eVar 10) (zab (eVar 9) aNil)))))))
  (sSeq (sSet 12 (zdg ["_law_rule", "_law_item_here"] [] (zmk (zab (eVar 7) (zab (eVar 8) aNil))) (gT 2 (zap 0 (zap 1 zco))) (zbe (eOp eqD (eVar 1) (eTup (zab (eC (.str "near")) aNil)))) (eIxV 0 (eC (.int 0)))))
  (sSeq (sIf (zhb (tTru (eVar 11)) (zbe (eOp neD (eVar 10) (zbm 1 zdd (zab (eVar 12) aNil))))) (sRet (eC (.bool false))) sNil)
  (sSeq (sSet 13 (eTup (zab (zdg ["_law_name", "_law_elders"] [] (zbg (eVar 4)) (gT 2 (zap 0 (zap 1 zco))) zdw (eTup (zab (eVar 0) (zab (eCB zqa (zab (eVar 1) aNil)) aNil)))) (zab (eVar 2) (zab (eCB zqa (zab (eVar 7) aNil)) aNil)))))
  (sSeq (sFor (zer (zab (eC (.int 2)) aNil)) (gN 14)
  (sSeq (sSet 15 (zbm 4 zlk (zab (eVar 13) (zab (eVar 6) (zab (eVar 10) (zab (eVar 9) aNil))))))
  (sSeq (sIf (tOrF (zef (tTru (eIsi "bool" (eVar 15)))) (zbe (eOp neD (eVar 15) (eVar 11)))) (sRet (eC (.bool false))) sNil)
  (sIf (zbe (eOp (isCD true) (zbm 4 zlk (zab (eVar 13) (zab (eVar 6) (zab (zbm 1 zdd (zab (eVar 12) aNil)) (zab (eVar 8) aNil))))) (eC (.bool true)))) (sRet (eC (.bool false))) sNil))))
  (sRet (eOp eqD (eVar 13) (eTup (zab (eVar 4) (zab (eVar 2) (zab (eVar 7) aNil))))))))))))))))))))
theorem zaum {cs:List Int} (hl:cs.length=33):∃ a0 a1 a2,(cs.drop 28).take 3=[a0,a1,a2]:=by
 have l3:((cs.drop 28).take 3).length=3:=by rw [qAj,qAc];omega
 generalize (cs.drop 28).take 3=l at l3
 match l,l3 with
 | [a,b,c],_=>exact ⟨a,b,c,rfl⟩
theorem zaod {cs:List Int} (hl:cs.length=33) (h0:∀ c∈cs,0≤c):zabk (envL 14 cs)=some (.rt (.bool true) false):=by
 have L:∀ n:Nat,n<33→n<cs.length:=fun n h=>by rw [hl];exact h
 have gc:=fun (n:Nat) (hn:n<cs.length)=>h0 (cs[n]'hn) (qy _)
 have md:∀ (z j:Int),0<j→0≤z % j∧z % j<j:=fun z j hj=>⟨qw z (by omega),qx z hj⟩
 have p3:=md (cs[0]'(L _ (by decide))) 3 (by decide)
 obtain ⟨p,hp⟩:∃ p:Nat,(1:Int)+cs[0]'(L _ (by decide)) % 3=(p:Int):=⟨(1+cs[0]'(L _ (by decide)) % 3).toNat,by omega⟩
 have hpr:1≤p∧p≤3:=by omega
 have e2:(sSet 2 (eOp addD (eC (.int 1)) (eOp modD (eIxV 1 (eC (.int 0))) (eC (.int 3))))) (envL 14 cs)=some (.nx [.no,.pl (zbh cs),.pl (.int p),.no,.no,.no,.no,.no,.no,.no,.no,.no,.no,.no,.no,.no]):=by
  rw [zcg (zsy rfl (zgg (zpe (n:=0) rfl rfl (L _ (by decide))) rfl (by decide))),hp]
  rfl
 have ev:∃ v:Int,0<v∧v≤8∧eOp ixD (eTup (zab (eC (.int 8)) (zab (eC (.int 8)) (zab (eC (.int 6)) aNil)))) (eOp subD (eVar 2) (eC (.int 1))) [.no,.pl (zbh cs),.pl (.int p),.no,.no,.no,.no,.no,.no,.no,.no,.no,.no,.no,.no,.no]=some (vi v):=by
  have:p=1∨p=2∨p=3:=by omega
  rcases this with rfl|rfl|rfl
  ·exact ⟨8,by decide,by decide,rfl⟩
  ·exact ⟨8,by decide,by decide,rfl⟩
  ·exact ⟨6,by decide,by decide,rfl⟩
 obtain ⟨v,v0,v10,ev⟩:=ev
 have mv:=md (cs[0]'(L _ (by decide)) / 3) v v0
 obtain ⟨xs,gx,lx,nx,lo⟩:=zrp (m:=1+cs[0]'(L _ (by decide)) / 3 % v) (c:=cs[1]'(L _ (by decide))) (by omega) (by omega) (gc 1 (L _ (by decide)))
 have hx:1≤xs.length∧xs.length≤8:=by omega
 have e3:(sSet 3 (zbm 2 zdv (zab (eOp addD (eC (.int 1)) (eOp modD (eOp zcv (eIxV 1 (eC (.int 0))) (eC (.int 3))) (eOp ixD (eTup (zab (eC (.int 8)) (zab (eC (.int 8)) (zab (eC (.int 6)) aNil)))) (eOp subD (eVar 2) (eC (.int 1)))))) (zab (eIxV 1 (eC (.int 1))) aNil)))) [.no,.pl (zbh cs),.pl (.int p),.no,.no,.no,.no,.no,.no,.no,.no,.no,.no,.no,.no,.no]=some (.nx [.no,.pl (zbh cs),.pl (.int p),.ac (zae xs),.no,.no,.no,.no,.no,.no,.no,.no,.no,.no,.no,.no]) :=
  zcg (r:=⟨zae xs,true,[]⟩) (zbv (n:=2) (rs:=[vi (1+cs[0]'(L _ (by decide)) / 3 % v),vi (cs[1]'(L _ (by decide)))]) (zaq (zsy rfl (zgg (zij (zpe (n:=0) rfl rfl (L _ (by decide))) rfl (by decide) (by decide)) ev v0)) (zdi (zpe (n:=1) rfl rfl (L _ (by decide))))) rfl gx)
 obtain ⟨W,gw,hnm,ok⟩:=zaje (cs:=(cs.drop 8).take 8) (xs:=xs) (by rw [qAj,qAc];omega) (by omega) nx
 have lo':∀ x∈nm W,Low x:=by rw [hnm];exact lo
 have e4:(sSet 4 (zbm 2 zmg (zab (eSl (eVar 1) (zcm (eC (.int 8))) (zcm (eC (.int 16)))) (zab (eVar 3) aNil)))) [.no,.pl (zbh cs),.pl (.int p),.ac (zae xs),.no,.no,.no,.no,.no,.no,.no,.no,.no,.no,.no,.no]=some (.nx [.no,.pl (zbh cs),.pl (.int p),.pl (zae xs),.ac (webD W),.no,.no,.no,.no,.no,.no,.no,.no,.no,.no,.no]):=by
  have es:eSl (eVar 1) (zcm (eC (.int 8))) (zcm (eC (.int 16))) [.no,.pl (zbh cs),.pl (.int p),.ac (zae xs),.no,.no,.no,.no,.no,.no,.no,.no,.no,.no,.no,.no]=some ⟨zbh ((cs.drop 8).take 8),true,[]⟩:=by
   rw [show eSl (eVar 1) (zcm (eC (.int 8))) (zcm (eC (.int 16))) [.no,.pl (zbh cs),.pl (.int p),.ac (zae xs),.no,.no,.no,.no,.no,.no,.no,.no,.no,.no,.no,.no]=some ⟨.list (cutD (cs.map .int) (some ((8:Nat):Int)) (some ((16:Nat):Int))),true,[]⟩ from rfl,zwy cs 8 16 (by omega) (by omega)]
   rfl
  exact zcg (r:=⟨webD W,true,[3]⟩) (zbv (n:=2) (rs:=[⟨zbh ((cs.drop 8).take 8),true,[]⟩,⟨zae xs,false,[3]⟩]) (zaq es (zdi rfl)) rfl gw)
 have e5:(sSet 5 (zbm 1 zoz (zab (eVar 4) aNil))) [.no,.pl (zbh cs),.pl (.int p),.pl (zae xs),.ac (webD W),.no,.no,.no,.no,.no,.no,.no,.no,.no,.no,.no]=some (.nx [.no,.pl (zbh cs),.pl (.int p),.pl (zae xs),.pl (webD W),.ac (.dict (dS zae (ups W))),.no,.no,.no,.no,.no,.no,.no,.no,.no,.no]) :=
  zcg (r:=⟨.dict (dS zae (ups W)),true,[4]⟩) (zbv (n:=1) (rs:=[⟨webD W,false,[4]⟩]) (zdi rfl) rfl (zamn ok))
 obtain ⟨c,gcall,hcl,hci⟩:=zagm (xs:=xs) (c:=cs[4]'(L _ (by decide))) (p:=p) (by omega) (gc 4 (L _ (by decide))) hpr.2
 have e6:(sSet 6 (zbm 3 zks (zab (eIxV 1 (eC (.int 4))) (zab (eVar 3) (zab (eVar 2) aNil))))) [.no,.pl (zbh cs),.pl (.int p),.pl (zae xs),.pl (webD W),.ac (.dict (dS zae (ups W))),.no,.no,.no,.no,.no,.no,.no,.no,.no,.no]=some (.nx [.no,.pl (zbh cs),.pl (.int p),.pl (zae xs),.pl (webD W),.ac (.dict (dS zae (ups W))),.pl (zau c),.no,.no,.no,.no,.no,.no,.no,.no,.no]) :=
  zcg (r:=⟨zau c,false,[]⟩) (zbv (n:=3) (rs:=[vi (cs[4]'(L _ (by decide))),⟨zae xs,false,[]⟩,vi p]) (zaq (zpe (n:=4) rfl rfl (L _ (by decide))) (zaq rfl (zdi rfl))) rfl gcall)
 have m13:=md (cs[3]'(L _ (by decide))) 13 (by decide)
 obtain ⟨ts,gt,lt,nt,lot⟩:=zrp (m:=cs[3]'(L _ (by decide)) % 13) (c:=cs[2]'(L _ (by decide))) (by omega) (by omega) (gc 2 (L _ (by decide)))
 have ci:CallIn (nm W) c:=by rw [hnm];exact hci
 obtain ⟨rs,gr,mk⟩:=zadd ok lo' (by rw [hnm];omega) (cs:=(cs.drop 16).take 12) (c:=c) (ts:=ts) (fun z hz=>h0 z (qAe (qAd hz))) (by rw [qAj,qAc];omega) (by omega) ci (by rw [hcl];exact hpr.2)
 rw [hnm] at gr
 rw [hcl] at mk
 have e7:(sSet 7 (zbm 5 zjt (zab (eSl (eVar 1) (zcm (eC (.int 16))) (zcm (eC (.int 28)))) (zab (eVar 3) (zab (eVar 5) (zab (eVar 6) (zab (zbm 2 zdv (zab (eOp modD (eIxV 1 (eC (.int 3))) (eC (.int 13))) (zab (eIxV 1 (eC (.int 2))) aNil))) aNil))))))) [.no,.pl (zbh cs),.pl (.int p),.pl (zae xs),.pl (webD W),.ac (.dict (dS zae (ups W))),.pl (zau c),.no,.no,.no,.no,.no,.no,.no,.no,.no]=some (.nx [.no,.pl (zbh cs),.pl (.int p),.pl (zae xs),.pl (webD W),.pl (.dict (dS zae (ups W))),.pl (zau c),.ac (zah rs),.no,.no,.no,.no,.no,.no,.no,.no]):=by
  have es:eSl (eVar 1) (zcm (eC (.int 16))) (zcm (eC (.int 28))) [.no,.pl (zbh cs),.pl (.int p),.pl (zae xs),.pl (webD W),.ac (.dict (dS zae (ups W))),.pl (zau c),.no,.no,.no,.no,.no,.no,.no,.no,.no]=some ⟨zbh ((cs.drop 16).take 12),true,[]⟩:=by
   rw [show eSl (eVar 1) (zcm (eC (.int 16))) (zcm (eC (.int 28))) [.no,.pl (zbh cs),.pl (.int p),.pl (zae xs),.pl (webD W),.ac (.dict (dS zae (ups W))),.pl (zau c),.no,.no,.no,.no,.no,.no,.no,.no,.no]=some ⟨.list (cutD (cs.map .int) (some ((16:Nat):Int)) (some ((28:Nat):Int))),true,[]⟩ from rfl,zwy cs 16 28 (by omega) (by omega)]
   rfl
  have et:zbm 2 zdv (zab (eOp modD (eIxV 1 (eC (.int 3))) (eC (.int 13))) (zab (eIxV 1 (eC (.int 2))) aNil)) [.no,.pl (zbh cs),.pl (.int p),.pl (zae xs),.pl (webD W),.ac (.dict (dS zae (ups W))),.pl (zau c),.no,.no,.no,.no,.no,.no,.no,.no,.no]=some ⟨zae ts,true,[]⟩:=zbv (n:=2) (rs:=[vi (cs[3]'(L _ (by decide)) % 13),vi (cs[2]'(L _ (by decide)))]) (zaq (zgg (zpe (n:=3) rfl rfl (L _ (by decide))) rfl (by decide)) (zdi (zpe (n:=2) rfl rfl (L _ (by decide))))) rfl gt
  exact zcg (r:=⟨zah rs,true,[5]⟩) (zbv (n:=5) (rs:=[⟨zbh ((cs.drop 16).take 12),true,[]⟩,⟨zae xs,false,[]⟩,⟨.dict (dS zae (ups W)),false,[5]⟩,⟨zau c,false,[]⟩,⟨zae ts,true,[]⟩]) (zaq es (zaq rfl (zaq rfl (zaq rfl (zdi et))))) rfl gr)
 have hts:ts.length≤16:=by omega
 have rok:RulesOk W rs:=mk.rules lo' hpr.2 hts
 have rlow:∀ r∈rs,qN r.1=true:=fun r hr=>zpb (lot r.1 (mk.sub.subset (qAJ.mpr ⟨r,hr,rfl⟩)))
 have bk:Bk W rs c:=⟨ok,rok,ci.ok (by rw [hcl];exact hpr.2),⟨mk.kinds,fun r hr=>by rw [hcl];exact mk.size r hr⟩,mk.names nt,rlow⟩
 have hrl:rs.length≤16:=by
  have:=mk.sub.length_le
  rw [qC] at this
  omega
 obtain ⟨gs,gg,gd⟩:=zags bk (z:=cs[5]'(L _ (by decide))) (gc 5 (L _ (by decide)))
 have e8:(sSet 8 (zbm 4 zkt (zab (eVar 5) (zab (eVar 7) (zab (eVar 6) (zab (eIxV 1 (eC (.int 5))) aNil)))))) [.no,.pl (zbh cs),.pl (.int p),.pl (zae xs),.pl (webD W),.pl (.dict (dS zae (ups W))),.pl (zau c),.ac (zah rs),.no,.no,.no,.no,.no,.no,.no,.no]=some (.nx [.no,.pl (zbh cs),.pl (.int p),.pl (zae xs),.pl (webD W),.pl (.dict (dS zae (ups W))),.pl (zau c),.pl (zah rs),.ac (.list gs),.no,.no,.no,.no,.no,.no,.no]) :=
  zcg (r:=⟨.list gs,true,[7]⟩) (zbv (n:=4) (rs:=[⟨.dict (dS zae (ups W)),false,[]⟩,⟨zah rs,false,[7]⟩,⟨zau c,false,[]⟩,vi (cs[5]'(L _ (by decide)))]) (zaq rfl (zaq rfl (zaq rfl (zdi (zpe (n:=5) rfl rfl (L _ (by decide))))))) rfl gg)
 obtain ⟨a0,a1,a2,h3⟩:=zaum hl
 have hn3:∀ a∈[a0,a1,a2],0≤a:=by
  rw [← h3]
  exact fun a ha=>h0 a (qAe (qAd ha))
 obtain ⟨P,fP,gp,okP⟩:=zadi (rs:=rs) (g:=gs) (a0:=a0) (a1:=a1) (a2:=a2) (hn3 a0 (by simp)) (hn3 a1 (by simp)) (hn3 a2 (by simp)) rlow gd.len (by omega) gd.item
 obtain ⟨A,fA,ga,shA⟩:=zadj (rs:=rs) (P:=P) (z:=cs[6]'(L _ (by decide))) (gc 6 (L _ (by decide))) okP (by omega) rlow
 obtain ⟨s8,s9,hs8,hs9,e9⟩:∃ s8 s9,Hd (.list gs) s8∧Hd P s9∧(sSet 9 (zbm 3 zhs (zab (eVar 8) (zab (eVar 7) (zab (eSl (eVar 1) (zcm (eC (.int 28))) (zcm (eC (.int 31)))) aNil))))) [.no,.pl (zbh cs),.pl (.int p),.pl (zae xs),.pl (webD W),.pl (.dict (dS zae (ups W))),.pl (zau c),.pl (zah rs),.ac (.list gs),.no,.no,.no,.no,.no,.no,.no]=some (.nx [.no,.pl (zbh cs),.pl (.int p),.pl (zae xs),.pl (webD W),.pl (.dict (dS zae (ups W))),.pl (zau c),.pl (zah rs),s8,s9,.no,.no,.no,.no,.no,.no]):=by
  have es:eSl (eVar 1) (zcm (eC (.int 28))) (zcm (eC (.int 31))) [.no,.pl (zbh cs),.pl (.int p),.pl (zae xs),.pl (webD W),.pl (.dict (dS zae (ups W))),.pl (zau c),.pl (zah rs),.ac (.list gs),.no,.no,.no,.no,.no,.no,.no]=some ⟨zbh [a0,a1,a2],true,[]⟩:=by
   rw [show eSl (eVar 1) (zcm (eC (.int 28))) (zcm (eC (.int 31))) [.no,.pl (zbh cs),.pl (.int p),.pl (zae xs),.pl (webD W),.pl (.dict (dS zae (ups W))),.pl (zau c),.pl (zah rs),.ac (.list gs),.no,.no,.no,.no,.no,.no,.no]=some ⟨.list (cutD (cs.map .int) (some ((28:Nat):Int)) (some ((31:Nat):Int))),true,[]⟩ from rfl,zwy cs 28 31 (by omega) (by omega),h3]
   rfl
  have e:=zcg (i:=9) (zbv (n:=3) (rs:=[⟨.list gs,false,[8]⟩,⟨zah rs,false,[]⟩,⟨zbh [a0,a1,a2],true,[]⟩]) (zaq (a:=eVar 8) rfl (zaq (a:=eVar 7) rfl (zdi es))) rfl gp)
  have hb:bsOf P (bss [⟨.list gs,false,[8]⟩,⟨zah rs,false,[]⟩,⟨zbh [a0,a1,a2],true,[]⟩])=[]∨bsOf P (bss [⟨.list gs,false,[8]⟩,⟨zah rs,false,[]⟩,⟨zbh [a0,a1,a2],true,[]⟩])=[8]:=by
   unfold bsOf;split
   ·exact .inl rfl
   ·exact .inr rfl
  rcases hb with hb|hb
  ·rw [hb] at e
   exact ⟨_,_,.inr rfl,zakq (bs:=[]),e⟩
  ·rw [hb] at e
   exact ⟨_,_,.inl rfl,zakq (bs:=[8]),e⟩
 obtain ⟨t9,s10,ht9,hs10,e10⟩:∃ t9 s10,Hd P t9∧Hd A s10∧(sSet 10 (zbm 3 zju (zab (eVar 7) (zab (eVar 9) (zab (eIxV 1 (eC (.int 6))) aNil))))) [.no,.pl (zbh cs),.pl (.int p),.pl (zae xs),.pl (webD W),.pl (.dict (dS zae (ups W))),.pl (zau c),.pl (zah rs),s8,s9,.no,.no,.no,.no,.no,.no]=some (.nx [.no,.pl (zbh cs),.pl (.int p),.pl (zae xs),.pl (webD W),.pl (.dict (dS zae (ups W))),.pl (zau c),.pl (zah rs),s8,t9,s10,.no,.no,.no,.no,.no]):=by
  rcases hs9 with rfl|rfl
  ·have e:=zcg (i:=10) (zbv (n:=3) (env:=[.no,.pl (zbh cs),.pl (.int p),.pl (zae xs),.pl (webD W),.pl (.dict (dS zae (ups W))),.pl (zau c),.pl (zah rs),s8,.pl P,.no,.no,.no,.no,.no,.no]) (rs:=[⟨zah rs,false,[]⟩,⟨P,false,[]⟩,vi (cs[6]'(L _ (by decide)))]) (zaq (a:=eVar 7) rfl (zaq (a:=eVar 9) rfl (zdi (zpe (b:=eC (.int 6)) (n:=6) rfl rfl (L _ (by decide)))))) rfl ga)
   have hb:bsOf A (bss [⟨zah rs,false,[]⟩,⟨P,false,[]⟩,vi (cs[6]'(L _ (by decide)))])=[]:=zant A
   rw [hb] at e
   exact ⟨_,_,.inl rfl,zakq (bs:=[]),e⟩
  ·have e:=zcg (i:=10) (zbv (n:=3) (env:=[.no,.pl (zbh cs),.pl (.int p),.pl (zae xs),.pl (webD W),.pl (.dict (dS zae (ups W))),.pl (zau c),.pl (zah rs),s8,.ac P,.no,.no,.no,.no,.no,.no]) (rs:=[⟨zah rs,false,[]⟩,⟨P,false,[9]⟩,vi (cs[6]'(L _ (by decide)))]) (zaq (a:=eVar 7) rfl (zaq (a:=eVar 9) rfl (zdi (zpe (b:=eC (.int 6)) (n:=6) rfl rfl (L _ (by decide)))))) rfl ga)
   have hb:bsOf A (bss [⟨zah rs,false,[]⟩,⟨P,false,[9]⟩,vi (cs[6]'(L _ (by decide)))])=[]∨bsOf A (bss [⟨zah rs,false,[]⟩,⟨P,false,[9]⟩,vi (cs[6]'(L _ (by decide)))])=[9]:=by
    unfold bsOf;split
    ·exact .inl rfl
    ·exact .inr rfl
   rcases hb with hb|hb
   ·rw [hb] at e
    exact ⟨_,_,.inr rfl,zakq (bs:=[]),e⟩
   ·rw [hb] at e
    exact ⟨_,_,.inl rfl,zakq (bs:=[9]),e⟩
 have v8:∀ (E:DEnv),E[8]?=some s8→∃ bs,eVar 8 E=some ⟨.list gs,false,bs⟩:=fun E h=>e_hd h hs8
 have v9:∀ (E:DEnv),E[9]?=some t9→∃ bs,eVar 9 E=some ⟨P,false,bs⟩:=fun E h=>e_hd h ht9
 have v10:∀ (E:DEnv),E[10]?=some s10→∃ bs,eVar 10 E=some ⟨A,false,bs⟩:=fun E h=>e_hd h hs10
 have e11:(sSet 11 (zbm 5 zmo (zab (eVar 5) (zab (eVar 7) (zab (eVar 6) (zab (eVar 10) (zab (eVar 9) aNil))))))) [.no,.pl (zbh cs),.pl (.int p),.pl (zae xs),.pl (webD W),.pl (.dict (dS zae (ups W))),.pl (zau c),.pl (zah rs),s8,t9,s10,.no,.no,.no,.no,.no]=some (.nx [.no,.pl (zbh cs),.pl (.int p),.pl (zae xs),.pl (webD W),.pl (.dict (dS zae (ups W))),.pl (zau c),.pl (zah rs),s8,t9,s10,.pl (.bool (zcx W rs c A P)),.no,.no,.no,.no]):=by
  obtain ⟨b9,w9⟩:=v9 [.no,.pl (zbh cs),.pl (.int p),.pl (zae xs),.pl (webD W),.pl (.dict (dS zae (ups W))),.pl (zau c),.pl (zah rs),s8,t9,s10,.no,.no,.no,.no,.no] rfl
  obtain ⟨b10,w10⟩:=v10 [.no,.pl (zbh cs),.pl (.int p),.pl (zae xs),.pl (webD W),.pl (.dict (dS zae (ups W))),.pl (zau c),.pl (zah rs),s8,t9,s10,.no,.no,.no,.no,.no] rfl
  exact zcg (r:=⟨.bool (zcx W rs c A P),false,[]⟩) (zbv (n:=5) (rs:=[⟨.dict (dS zae (ups W)),false,[]⟩,⟨zah rs,false,[]⟩,⟨zau c,false,[]⟩,⟨A,false,b10⟩,⟨P,false,b9⟩]) (zaq rfl (zaq rfl (zaq rfl (zaq w10 (zdi w9))))) rfl (zalc bk shA okP))
 have nr:zbq rs gs=zde W (fitL W rs c):=zqr gd.len fun z hz=>(gd.ok z hz).2
 have e12:(sSet 12 (zdg ["_law_rule", "_law_item_here"] [] (zmk (zab (eVar 7) (zab (eVar 8) aNil))) (gT 2 (zap 0 (zap 1 zco))) (zbe (eOp eqD (eVar 1) (eTup (zab (eC (.str "near")) aNil)))) (eIxV 0 (eC (.int 0))))) [.no,.pl (zbh cs),.pl (.int p),.pl (zae xs),.pl (webD W),.pl (.dict (dS zae (ups W))),.pl (zau c),.pl (zah rs),s8,t9,s10,.pl (.bool (zcx W rs c A P)),.no,.no,.no,.no]=some (.nx [.no,.pl (zbh cs),.pl (.int p),.pl (zae xs),.pl (webD W),.pl (.dict (dS zae (ups W))),.pl (zau c),.pl (zah rs),s8,t9,s10,.pl (.bool (zcx W rs c A P)),.ac (zae (nms (zde W (fitL W rs c)))),.no,.no,.no]):=by
  obtain ⟨b8,w8⟩:=v8 [.no,.pl (zbh cs),.pl (.int p),.pl (zae xs),.pl (webD W),.pl (.dict (dS zae (ups W))),.pl (zau c),.pl (zah rs),s8,t9,s10,.pl (.bool (zcx W rs c A P)),.no,.no,.no,.no] rfl
  have it:zmk (zab (eVar 7) (zab (eVar 8) aNil)) [.no,.pl (zbh cs),.pl (.int p),.pl (zae xs),.pl (webD W),.pl (.dict (dS zae (ups W))),.pl (zau c),.pl (zah rs),s8,t9,s10,.pl (.bool (zcx W rs c A P)),.no,.no,.no,.no]=some ((rs.zip gs).map fun z=>PyData.tuple [zbd z.1,z.2],[]++b8):=by
   unfold zmk
   rw [zaq (r:=⟨zah rs,false,[]⟩) rfl (zdi w8)]
   show some (List.zipWith (fun d e=>PyData.tuple [d,e]) (rs.map zbd) gs,[]++b8)=_
   rw [zqq]
  have cm:zej (gT 2 (zap 0 (zap 1 zco))) (zbe (eOp eqD (eVar 1) (eTup (zab (eC (.str "near")) aNil)))) (eIxV 0 (eC (.int 0))) [.no,.no] ((rs.zip gs).map fun z=>PyData.tuple [zbd z.1,z.2])=some (((rs.zip gs).filter fun z=>zdm z.2).map fun z=>PyData.str z.1.1) :=
   zcy (out:=fun z:Rule×PyData=>PyData.str z.1.1) (fun z=>zdm z.2) fun w hw=>⟨[.pl (zbd w.1),.pl w.2],rfl,zdk (zum (f1:=false) (f2:=false) (b1:=[]) (b2:=[]) (d:=w.2) (e:=zly) rfl rfl (gd.item w.2 (qAP hw).2).shaped zgf),fun _=>⟨vs w.1.1,rfl,rfl⟩⟩
  have en:(((rs.zip gs).filter fun z=>zdm z.2).map fun z=>PyData.str z.1.1)=(nms (zde W (fitL W rs c))).map .str:=by rw [← nr];unfold nms zbq;rw [qAa,qAa];rfl
  rw [en] at cm
  refine zcg (r:=⟨zae (nms (zde W (fitL W rs c))),true,[]⟩) ?_
  have zl:(rs.zip gs).length≤rs.length:=by rw [qA9];exact qAp _ _
  rw [zdz (own:=["_law_rule", "_law_item_here"]) (fr:=[]) it (by rw [qC];omega) cm,if_pos (zgt _)]
  rfl
 have lw:LowS (nms (zde W (fitL W rs c))):=bk.lows fun x hx=>zmy x (zjy.mp hx).1
 have sha:=ziz lw
 have e13:(sIf (zhb (tTru (eVar 11)) (zbe (eOp neD (eVar 10) (zbm 1 zdd (zab (eVar 12) aNil))))) (sRet (eC (.bool false))) sNil) [.no,.pl (zbh cs),.pl (.int p),.pl (zae xs),.pl (webD W),.pl (.dict (dS zae (ups W))),.pl (zau c),.pl (zah rs),s8,t9,s10,.pl (.bool (zcx W rs c A P)),.ac (zae (nms (zde W (fitL W rs c)))),.no,.no,.no]=some (.nx [.no,.pl (zbh cs),.pl (.int p),.pl (zae xs),.pl (webD W),.pl (.dict (dS zae (ups W))),.pl (zau c),.pl (zah rs),s8,t9,s10,.pl (.bool (zcx W rs c A P)),.ac (zae (nms (zde W (fitL W rs c)))),.no,.no,.no]):=by
  refine if_f ?_ rfl
  obtain ⟨b10,w10⟩:=v10 [.no,.pl (zbh cs),.pl (.int p),.pl (zae xs),.pl (webD W),.pl (.dict (dS zae (ups W))),.pl (zau c),.pl (zah rs),s8,t9,s10,.pl (.bool (zcx W rs c A P)),.ac (zae (nms (zde W (fitL W rs c)))),.no,.no,.no] rfl
  have tn:zbe (eOp neD (eVar 10) (zbm 1 zdd (zab (eVar 12) aNil))) [.no,.pl (zbh cs),.pl (.int p),.pl (zae xs),.pl (webD W),.pl (.dict (dS zae (ups W))),.pl (zau c),.pl (zah rs),s8,t9,s10,.pl (.bool (zcx W rs c A P)),.ac (zae (nms (zde W (fitL W rs c)))),.no,.no,.no]=some (!PyData.eqv A (zeu (nms (zde W (fitL W rs c))))) :=
   zdk (zavi w10 (zbv (n:=1) (rs:=[⟨zae (nms (zde W (fitL W rs c))),false,[12]⟩]) rfl rfl (zja _)) shA sha)
  unfold zhb
  rw [show tTru (eVar 11) [.no,.pl (zbh cs),.pl (.int p),.pl (zae xs),.pl (webD W),.pl (.dict (dS zae (ups W))),.pl (zau c),.pl (zah rs),s8,t9,s10,.pl (.bool (zcx W rs c A P)),.ac (zae (nms (zde W (fitL W rs c)))),.no,.no,.no]=some (zcx W rs c A P) from rfl,tn]
  cases hb:zcx W rs c A P with
  | false=>rfl
  | true =>
   obtain ⟨ds,rfl⟩:∃ ds,P=.list ds:=by
    cases P<;>first|exact ⟨_,rfl⟩|cases hb
   rw [(zagp bk hb).2]
   rfl
 have e14:(sSet 13 (eTup (zab (zdg ["_law_name", "_law_elders"] [] (zbg (eVar 4)) (gT 2 (zap 0 (zap 1 zco))) zdw (eTup (zab (eVar 0) (zab (eCB zqa (zab (eVar 1) aNil)) aNil)))) (zab (eVar 2) (zab (eCB zqa (zab (eVar 7) aNil)) aNil))))) [.no,.pl (zbh cs),.pl (.int p),.pl (zae xs),.pl (webD W),.pl (.dict (dS zae (ups W))),.pl (zau c),.pl (zah rs),s8,t9,s10,.pl (.bool (zcx W rs c A P)),.ac (zae (nms (zde W (fitL W rs c)))),.no,.no,.no]=some (.nx [.no,.pl (zbh cs),.pl (.int p),.pl (zae xs),.pl (webD W),.pl (.dict (dS zae (ups W))),.pl (zau c),.pl (zah rs),s8,t9,s10,.pl (.bool (zcx W rs c A P)),.ac (zae (nms (zde W (fitL W rs c)))),.pl (zev W p rs),.no,.no]):=by
  refine zcg (r:=⟨zev W p rs,false,[]⟩) ?_
  have cw:=zdz (own:=["_law_name", "_law_elders"]) (fr:=[]) (fi:=zbg (eVar 4)) (g:=gT 2 (zap 0 (zap 1 zco))) (t:=zdw) (e:=eTup (zab (eVar 0) (zab (eCB zqa (zab (eVar 1) aNil)) aNil))) (env:=[.no,.pl (zbh cs),.pl (.int p),.pl (zae xs),.pl (webD W),.pl (.dict (dS zae (ups W))),.pl (zau c),.pl (zah rs),s8,t9,s10,.pl (.bool (zcx W rs c A P)),.ac (zae (nms (zde W (fitL W rs c)))),.no,.no,.no]) (ds:=W.map rowD) (bs:=[]) rfl (by rw [qC];have:=ok.len;omega) zamr
  have:(if zgj (W.map rowD)=true then ([]:List Nat) else []++capA [] [.no,.pl (zbh cs),.pl (.int p),.pl (zae xs),.pl (webD W),.pl (.dict (dS zae (ups W))),.pl (zau c),.pl (zah rs),s8,t9,s10,.pl (.bool (zcx W rs c A P)),.ac (zae (nms (zde W (fitL W rs c)))),.no,.no,.no])=[]:=by split<;>rfl
  rw [this] at cw
  unfold eTup
  unfold eTup at cw
  rw [zaq cw (zaq (r:=vi p) rfl (zdi (a:=eCB zqa (zab (eVar 7) aNil)) (r:=⟨zah rs,true,[]⟩) rfl))]
  rfl
 obtain ⟨env',lp,s14,s15,rfl⟩:=zgm (enc:=fun (k:Nat)=>PyData.int (k:Int)) (g:=gN 14) (l:=List.range 2) (env:=[.no,.pl (zbh cs),.pl (.int p),.pl (zae xs),.pl (webD W),.pl (.dict (dS zae (ups W))),.pl (zau c),.pl (zah rs),s8,t9,s10,.pl (.bool (zcx W rs c A P)),.ac (zae (nms (zde W (fitL W rs c)))),.pl (zev W p rs),.no,.no])
  (body:=(sSeq (sSet 15 (zbm 4 zlk (zab (eVar 13) (zab (eVar 6) (zab (eVar 10) (zab (eVar 9) aNil))))))
  (sSeq (sIf (tOrF (zef (tTru (eIsi "bool" (eVar 15)))) (zbe (eOp neD (eVar 15) (eVar 11)))) (sRet (eC (.bool false))) sNil)
  (sIf (zbe (eOp (isCD true) (zbm 4 zlk (zab (eVar 13) (zab (eVar 6) (zab (zbm 1 zdd (zab (eVar 12) aNil)) (zab (eVar 8) aNil))))) (eC (.bool true)))) (sRet (eC (.bool false))) sNil))))
  (fun _ env=>∃ s14 s15,env=[.no,.pl (zbh cs),.pl (.int p),.pl (zae xs),.pl (webD W),.pl (.dict (dS zae (ups W))),.pl (zau c),.pl (zah rs),s8,t9,s10,.pl (.bool (zcx W rs c A P)),.ac (zae (nms (zde W (fitL W rs c)))),.pl (zev W p rs),s14,s15]) ⟨_,_,rfl⟩ (by
   rintro pre k post env hpc ⟨s14,s15,rfl⟩
   have gsh:=zala bk shA okP
   rw [hcl] at gsh
   have okG:zon (.list gs):=fun ds hds=>by
    injection hds with hds
    subst hds
    exact ⟨fun d hd=>.inl (gd.item d hd).shaped,by rw [gd.len];omega⟩
   have gsg:=zala bk sha okG
   rw [hcl,zagq gd (qCJ _ (qAg sha))] at gsg
   have f15:sSet 15 (zbm 4 zlk (zab (eVar 13) (zab (eVar 6) (zab (eVar 10) (zab (eVar 9) aNil))))) [.no,.pl (zbh cs),.pl (.int p),.pl (zae xs),.pl (webD W),.pl (.dict (dS zae (ups W))),.pl (zau c),.pl (zah rs),s8,t9,s10,.pl (.bool (zcx W rs c A P)),.ac (zae (nms (zde W (fitL W rs c)))),.pl (zev W p rs),.pl (.int (k:Nat)),s15]=some (.nx [.no,.pl (zbh cs),.pl (.int p),.pl (zae xs),.pl (webD W),.pl (.dict (dS zae (ups W))),.pl (zau c),.pl (zah rs),s8,t9,s10,.pl (.bool (zcx W rs c A P)),.ac (zae (nms (zde W (fitL W rs c)))),.pl (zev W p rs),.pl (.int (k:Nat)),.pl (.bool (zcx W rs c A P))]):=by
    obtain ⟨b9,w9⟩:=v9 [.no,.pl (zbh cs),.pl (.int p),.pl (zae xs),.pl (webD W),.pl (.dict (dS zae (ups W))),.pl (zau c),.pl (zah rs),s8,t9,s10,.pl (.bool (zcx W rs c A P)),.ac (zae (nms (zde W (fitL W rs c)))),.pl (zev W p rs),.pl (.int (k:Nat)),s15] rfl
    obtain ⟨b10,w10⟩:=v10 [.no,.pl (zbh cs),.pl (.int p),.pl (zae xs),.pl (webD W),.pl (.dict (dS zae (ups W))),.pl (zau c),.pl (zah rs),s8,t9,s10,.pl (.bool (zcx W rs c A P)),.ac (zae (nms (zde W (fitL W rs c)))),.pl (zev W p rs),.pl (.int (k:Nat)),s15] rfl
    exact zcg (r:=⟨.bool (zcx W rs c A P),false,[]⟩) (zbv (n:=4) (rs:=[⟨zev W p rs,false,[]⟩,⟨zau c,false,[]⟩,⟨A,false,b10⟩,⟨P,false,b9⟩]) (zaq rfl (zaq rfl (zaq w10 (zdi w9)))) rfl gsh)
   have f16:tOrF (zef (tTru (eIsi "bool" (eVar 15)))) (zbe (eOp neD (eVar 15) (eVar 11))) [.no,.pl (zbh cs),.pl (.int p),.pl (zae xs),.pl (webD W),.pl (.dict (dS zae (ups W))),.pl (zau c),.pl (zah rs),s8,t9,s10,.pl (.bool (zcx W rs c A P)),.ac (zae (nms (zde W (fitL W rs c)))),.pl (zev W p rs),.pl (.int (k:Nat)),.pl (.bool (zcx W rs c A P))]=some false:=by
    refine zaud rfl (zdk ?_)
    show ((neD (.bool (zcx W rs c A P)) (.bool (zcx W rs c A P))).bind fun z=>some (⟨z.1,z.2,bsOf z.1 ([]++[])⟩:Val))=_
    cases zcx W rs c A P<;>rfl
   have f17:zbe (eOp (isCD true) (zbm 4 zlk (zab (eVar 13) (zab (eVar 6) (zab (zbm 1 zdd (zab (eVar 12) aNil)) (zab (eVar 8) aNil))))) (eC (.bool true))) [.no,.pl (zbh cs),.pl (.int p),.pl (zae xs),.pl (webD W),.pl (.dict (dS zae (ups W))),.pl (zau c),.pl (zah rs),s8,t9,s10,.pl (.bool (zcx W rs c A P)),.ac (zae (nms (zde W (fitL W rs c)))),.pl (zev W p rs),.pl (.int (k:Nat)),.pl (.bool (zcx W rs c A P))]=some false:=by
    obtain ⟨b8,w8⟩:=v8 [.no,.pl (zbh cs),.pl (.int p),.pl (zae xs),.pl (webD W),.pl (.dict (dS zae (ups W))),.pl (zau c),.pl (zah rs),s8,t9,s10,.pl (.bool (zcx W rs c A P)),.ac (zae (nms (zde W (fitL W rs c)))),.pl (zev W p rs),.pl (.int (k:Nat)),.pl (.bool (zcx W rs c A P))] rfl
    refine zdk ?_
    unfold eOp
    rw [zbv (n:=4) (rs:=[⟨zev W p rs,false,[]⟩,⟨zau c,false,[]⟩,⟨zeu (nms (zde W (fitL W rs c))),false,bsOf (zeu (nms (zde W (fitL W rs c)))) [12]⟩,⟨.list gs,false,b8⟩]) (zaq rfl (zaq rfl (zaq (zbv (n:=1) (rs:=[⟨zae (nms (zde W (fitL W rs c))),false,[12]⟩]) rfl rfl (zja _)) (zdi w8)))) rfl gsg]
    rfl
   exact ⟨[.no,.pl (zbh cs),.pl (.int p),.pl (zae xs),.pl (webD W),.pl (.dict (dS zae (ups W))),.pl (zau c),.pl (zah rs),s8,t9,s10,.pl (.bool (zcx W rs c A P)),.ac (zae (nms (zde W (fitL W rs c)))),.pl (zev W p rs),.pl (.int (k:Nat)),s15],[.no,.pl (zbh cs),.pl (.int p),.pl (zae xs),.pl (webD W),.pl (.dict (dS zae (ups W))),.pl (zau c),.pl (zah rs),s8,t9,s10,.pl (.bool (zcx W rs c A P)),.ac (zae (nms (zde W (fitL W rs c)))),.pl (zev W p rs),.pl (.int (k:Nat)),.pl (.bool (zcx W rs c A P))],rfl,.inl (zao f15 (zao (if_f f16 rfl) (if_f f17 rfl))),_,_,rfl⟩)
 have hrg:zer (zab (eC (.int 2)) aNil) [.no,.pl (zbh cs),.pl (.int p),.pl (zae xs),.pl (webD W),.pl (.dict (dS zae (ups W))),.pl (zau c),.pl (zah rs),s8,t9,s10,.pl (.bool (zcx W rs c A P)),.ac (zae (nms (zde W (fitL W rs c)))),.pl (zev W p rs),.no,.no]=some ((List.range 2).map fun (k:Nat)=>PyData.int (k:Int),[]):=by
  rw [it1 (j:=2) rfl ⟨by omega,by omega⟩]
  exact congrArg (fun l=>some (l,([]:List Nat))) (zmh 2)
 refine zao e2 (zao e3 (zao e4 (zao e5 (zao e6 (zao e7 (zao e8 (zao e9 (zao e10 (zao e11 (zao e12 (zao e13 (zao e14 (zao (zjo hrg lp) (zfi (bs:=[]) ?_))))))))))))))
 exact zavh (d:=zev W p rs) (f1:=false) (f2:=false) (b1:=[]) (b2:=[]) rfl rfl (zadk ok lo' fun r hr=>⟨rlow r hr,rok.low r hr⟩)
section
variable {P:Program} {w:World} {K:qB} {mg:Str→Option Value} {base:Heap}
theorem zavk {s k:Int} (h1:0≤s) (h2:s<2147483647) (h3:0≤k) (h4:k≤64):0≤s * (k+2)+7919 * k * k+11∧s * (k+2)+7919 * k * k+11<200000000000:=by
 have a1:0≤s * (k+2):=qCf h1 (by omega)
 have a2:s * (k+2)≤2147483647 * 66:=Int.mul_le_mul (by omega) (by omega) (by omega) (by omega)
 have a3:0≤7919 * k * k:=qCf (by omega) h3
 have a4:7919 * k * k≤7919 * 64 * 64:=Int.mul_le_mul (by omega) h4 h3 (by omega)
 omega
noncomputable def zadl (K:qB):Sp:=fun vs H Q _=>∃ (a:Addr) (ns:List Int) (m:Int),vs=[.ref a,.int m]∧SqL K H a (ns.map .int)∧0≤m∧m≤64 ∧
 ∀ p H' (cs:List Int),H p=none→Same H H'→H' p=some (.lst (cs.map .int))→cs.length=m.toNat→(∀ c∈cs,0≤c∧c<1000000000000)→Q (.ref p) H'
theorem zabl {f:Addr} {fd:qAB} (F:Fun K "_law_draws" "_law_draws" zhw f fd) (T:Txt mg):FnOk P w K mg base CX0 1 f fd ["_law_script", "_law_many"] (zadl K):=by
 refine F.ok zzz (fun vs H Q E h=>?_) (fun cdv A outer s H vs Q E hr h=>?_)
 ·obtain ⟨a,ns,m,rfl,_⟩:=h
  rfl
 ·obtain ⟨a,ns,m,rfl,hS,h0,h64,k⟩:=h
  apply Exists.intro
  apply And.intro
  ·refine' (zoo (zado (i:=2) (hf:=Or.inl rfl) zgz rfl (Or.inl rfl) zkb)
 (zoo (zagy qz rfl (zamh (K:=K) rfl (zadr (zlw (K:=K) rfl) (pv 0) zahi (zahj zkb))) (zabp (i:=3) (hf:=Or.inl rfl) zgz rfl (Or.inl rfl))
  (zpt (zado (i:=2) (hf:=Or.inl rfl) zgz rfl (Or.inl rfl) (znn zcn (znn (zci (K:=K) rfl) (znn zkj (pv 2) zkb) (znn zcn (pv 3) zkb)) zkb))))
 (zoo (zado (i:=4) (hf:=Or.inl rfl) zgz rfl (Or.inl rfl) (zaok zvc))
 (zoo (zagy qz rfl (zye rfl T.range (zsg (pv 1) zvc)) (zabp (i:=5) (hf:=Or.inl rfl) zgz rfl (Or.inl rfl))
  (zpt (zasi (zaha zalm (pv 5) (zadq (zbo (K:=K) rfl) (by rfl) T.len zbw (zsg (pv 0) zvc)) (zcd _)) (zpt (zabo (zaib (K:=K) rfl qh qj qi zdj (pv 4) (zsg (znn zcn (zasw (zcf (K:=K) rfl) (pv 0) (pv 5) (fun _ _=>rfl)) (znn zaoi zkb zkb)) zvc)))) (zpt (zabo (zaib (K:=K) rfl qh qj qi zdj (pv 4) (zsg (znn zdy (znn zcn (znn zaoi (znn (zci (K:=K) rfl) (znn (zci (K:=K) rfl) (znn zkj (pv 2) (znn (zci (K:=K) rfl) (pv 5) zkb)) (znn zkj (znn zkj zkb (pv 5)) (pv 5))) zkb) zkb) zkb) zkb) zvc)))))))
 (zpt (zaog (pv 4)))))))
  refine ⟨_,rfl,_,rfl,a,_,rfl,hS,fun p hp=>⟨p,rfl,⟨_,SqL.of zbx⟩,L2.for_list (xs:=cutV (ns.map V.int) none (some 63)) (fun i σ H1=>∃ (sd:Int) (v3:Option V),σ=[some (.ref a),some (.int m),some (.int sd),v3,none,none]∧H1=upd H p (.lst (cutV (ns.map V.int) none (some 63)))∧0≤sd∧sd<2147483647)
   ⟨7,none,rfl,rfl,by decide,by decide⟩ (fun i σ H1 _ ⟨_,_,_,e,_⟩=>e▸SqL.of zbx) ?_ ?_⟩⟩
  ·rintro i x σ H1 hi ⟨sd,v3,rfl,rfl,b0,b1⟩
   obtain ⟨z,rfl⟩:∃ z,x=V.int z:=by
    have hm:=qAs hi
    unfold cutV at hm
    obtain ⟨z,_,e⟩:=qAJ.mp (qAe (qAd hm))
    exact ⟨z,e.symm⟩
   refine ⟨_,rfl,.inl ⟨by omega,by omega⟩,_,rfl,_,_,rfl,rfl,(by show (0:Int)<2147483629;decide),_,_,rfl,rfl,(by show (0:Int)<2147483647;decide),?_⟩
   exact ⟨_,_,rfl,rfl,qw _ (by decide),qx _ (by decide)⟩
  ·rintro σ H1 ⟨sd,v3,rfl,rfl,b0,b1⟩
   refine ⟨qAf _,fun q hq=>?_⟩
   have hqH:H q=none:=(Same.new hp).free hq
   have sH:∀ o,Same H (upd (upd H p (.lst (cutV (ns.map V.int) none (some 63)))) q o):=fun o=>(Same.new hp).upd hqH
   refine ⟨_,rfl,m,rfl,by omega,by omega,L2.for_range (n:=m.toNat) (fun i σ H2=>∃ (cs:List Int) (v5:Option V),σ=[some (.ref a),some (.int m),some (.int sd),v3,some (.ref q),v5]∧H2=upd (upd H p (.lst (cutV (ns.map V.int) none (some 63)))) q (.lst (cs.map .int))∧cs.length=i∧∀ c∈cs,0≤c∧c<1000000000000)
    ⟨[],none,rfl,rfl,rfl,fun _ h=>nomatch h⟩ ?_ ?_⟩
   ·rintro i σ H2 hi ⟨cs,v5,rfl,rfl,hc,hp0⟩
    have hi64:(i:Int)≤64:=by omega
    refine ⟨_,rfl,_,rfl,_,_,rfl,.inl ⟨_,(sH _).seq hS,rfl⟩,_,_,rfl,rfl,_,rfl,?_⟩
    have lz:(cs.map V.int).length<qk:=by rw [qC,hc];exact qA0 (show i≤64 by omega) (by decide)
    have fin:∀ v:Int,0≤v→v<1000000000000→∃ (cs':List Int) (v5:Option V),[some (.ref a),some (.int m),some (.int sd),v3,some (.ref q),some (.int (0+(i:Int)))]=[some (.ref a),some (.int m),some (.int sd),v3,some (.ref q),v5] ∧
      upd (upd (upd H p (.lst (cutV (ns.map V.int) none (some 63)))) q (.lst (cs.map .int))) q (.lst (cs.map V.int++[.int v]))=upd (upd H p (.lst (cutV (ns.map V.int) none (some 63)))) q (.lst (cs'.map .int))∧cs'.length=i+1∧∀ c∈cs',0≤c∧c<1000000000000:=fun v hv hv2=>by
     refine ⟨cs++[v],_,rfl,?_,by simp [hc],fun c h=>?_⟩
     ·rw [zapl,qAQ];rfl
     ·rcases qv.mp h with h|h
      ·exact hp0 c h
      ·rw [qAV.mp h];exact ⟨hv,hv2⟩
    refine ite2 (fun h=>?_) (fun h=>?_)
    ·have h:(0:Int)+i<((ns.map V.int).length:Nat):=of_decide_eq_true h
     rw [qC] at h
     have hin:i<ns.length:=by omega
     have ga:atI (ns.map V.int) (0+(i:Int))=some (.int ns[i]):=by
      rw [Int.zero_add]
      exact znz (by rw [qL,qE hin];rfl)
     refine ⟨_,rfl,.inl ⟨rfl,_,SqL.of zbx⟩,_,rfl,_,rfl,_,_,.inl ((sH _).seq hS),ga,_,_,rfl,rfl,⟨by decide,by decide,by decide⟩,_,_,rfl,rfl,(by show (0:Int)<10 ^ 12;decide),q,_,_,rfl,rfl,zbx,lz,?_⟩
     exact fin _ (qw _ (by decide)) (qx _ (by decide))
    ·obtain ⟨d1,d2⟩:=zavk (s:=sd) (k:=0+(i:Int)) b0 b1 (by omega) (by omega)
     refine ⟨_,rfl,.inl ⟨rfl,_,SqL.of zbx⟩,_,rfl,_,rfl,.inl ⟨by omega,by omega⟩,_,rfl,.inl ⟨by decide,by decide⟩,_,rfl,.inr ⟨by omega,by omega⟩,?_⟩
     refine ⟨_,_,rfl,rfl,⟨by decide,by decide,?_⟩,_,_,rfl,rfl,(by show (0:Int)<2147483647;decide),_,_,rfl,rfl,⟨by decide,by decide⟩,q,_,_,rfl,rfl,zbx,lz,?_⟩
     ·show (sd * (0+(i:Int)+2)+7919 * (0+(i:Int)) * (0+(i:Int))+11).natAbs<2 ^ 64
      omega
     ·refine fin _ (qBA (qw _ (by decide)) (by decide)) ?_
      have h9:∀ z:Int,z % 2147483647 / 7<1000000000000:=fun z=>by have:=qx z (show (0:Int)<2147483647 by decide);omega
      exact h9 _
   ·rintro σ H2 ⟨cs,v5,rfl,rfl,hc,hp0⟩
    exact ⟨_,rfl,k q _ cs hqH (sH _) zbx hc hp0⟩
end
section
variable {P:Program} {w:World} {K:qB} {mg:Str→Option Value} {base:Heap}
def zaoe (K:qB):Sp:=fun vs H Q _=>∃ (a:Addr) (ns:List Int),vs=[.ref a]∧SqL K H a (ns.map V.int)∧∀ H',Q (.bl true) H'
theorem zaun {f:Addr} {fd:qAB} (F:Fun K "law" "law" zxn f fd) (T:Txt mg) (D_law_call:zwb P w K mg base) (D_law_draws:Dn P w K mg base "_law_draws" ["_law_script", "_law_many"] 1 (zadl K)) (D_law_due:zaao P w K mg base) (D_law_good:zwc P w K mg base) (D_law_names:zuc P w K mg base) (D_law_paper:zue P w K mg base) (D_law_reply:zuf P w K mg base) (D_law_rules:zud P w K mg base) (D_law_told_of:ziy P w K mg base) (D_law_up:zaey P w K mg base) (D_law_web:zaan P w K mg base) (D_shows:zakf P w K mg base):FnOk P w K mg base CX0 6 f fd ["_law_script"] (zaoe K):=by
 refine F.ok zauc (fun vs H Q E h=>?_) (fun cdv A outer s H vs Q E hr h=>?_)
 ·obtain ⟨a,ns,rfl,_⟩:=h
  rfl
 ·obtain ⟨a,ns,rfl,hS,k⟩:=h
  have hu:=zfy hr
  apply Exists.intro
  apply And.intro
  ·refine' Bx.out (zaj (zbc (i:=1) zis rfl (Or.inl rfl) (zch D_law_draws (hr.mono (by decide)) (by rfl) (zaa (bv 0) (zaa zak zag (by rfl)) (by rfl)) (by decide) (zai (by rfl)) (by rfl)) (by rfl) (.inl rfl))
 (zaj (zbc (i:=2) zis rfl (Or.inl rfl) (zaz (zci (K:=K) rfl) zak (zaz zcn (zbk (zcf (K:=K) rfl) (bv 1) zak (fun _ _=>rfl)) zak)) (by rfl) (.inl rfl))
 (zaj (zbc (i:=3) zis rfl (Or.inl rfl) (zch D_law_names (hr.mono (by decide)) (by rfl) (zaa (zaz (zci (K:=K) rfl) zak (zaz zcn (zaz zdy (zbk (zcf (K:=K) rfl) (bv 1) zak (fun _ _=>rfl)) zak) (zbk (zcf (K:=K) rfl) (zbs (zaa zak (zaa zak (zaa zak zag (by rfl)) (by rfl)) (by rfl))) (zaz zqs (bv 2) zak) (fun _ _=>rfl)))) (zaa (zbk (zcf (K:=K) rfl) (bv 1) zak (fun _ _=>rfl)) zag (by rfl)) (by rfl)) (by decide) (zai (by rfl)) (by rfl)) (by rfl) (.inl rfl))
 (zaj (zbc (i:=4) zis rfl (Or.inl rfl) (zch D_law_web (hr.mono (by decide)) (by rfl) (zaa (zdl (zlw (K:=K) rfl) (bv 1) (zdc zak) (zdc zak)) (zaa (bv 3) zag (by rfl)) (by rfl)) (by decide) (zai (by rfl)) (by rfl)) (by rfl) (.inl rfl))
 (zaj (zbc (i:=5) zis rfl (Or.inl rfl) (zch D_law_up (hr.mono (by decide)) (by rfl) (zaa (bv 4) zag (by rfl)) (by decide) (zai (by rfl)) (by rfl)) (by rfl) (.inl rfl))
 (zaj (zbc (i:=6) zis rfl (Or.inl rfl) (zch D_law_call (hr.mono (by decide)) (by rfl) (zaa (zbk (zcf (K:=K) rfl) (bv 1) zak (fun _ _=>rfl)) (zaa (bv 3) (zaa (bv 2) zag (by rfl)) (by rfl)) (by rfl)) (by decide) (zai (by rfl)) (by rfl)) (by rfl) (.inl rfl))
 (zaj (zbc (i:=7) zis rfl (Or.inl rfl) (zch D_law_rules (hr.mono (by decide)) (by rfl) (zaa (zdl (zlw (K:=K) rfl) (bv 1) (zdc zak) (zdc zak)) (zaa (bv 3) (zaa (bv 5) (zaa (bv 6) (zaa (zch D_law_names (hr.mono (by decide)) (by rfl) (zaa (zaz zcn (zbk (zcf (K:=K) rfl) (bv 1) zak (fun _ _=>rfl)) zak) (zaa (zbk (zcf (K:=K) rfl) (bv 1) zak (fun _ _=>rfl)) zag (by rfl)) (by rfl)) (by decide) (zai (by rfl)) (by rfl)) zag (by rfl)) (by rfl)) (by rfl)) (by rfl)) (by rfl)) (by decide) (zai (by rfl)) (by rfl)) (by rfl) (.inl rfl))
 (zaj (zbc (i:=8) zis rfl (Or.inl rfl) (zch D_law_good (hr.mono (by decide)) (by rfl) (zaa (bv 5) (zaa (bv 7) (zaa (bv 6) (zaa (zbk (zcf (K:=K) rfl) (bv 1) zak (fun _ _=>rfl)) zag (by rfl)) (by rfl)) (by rfl)) (by rfl)) (by decide) (zai (by rfl)) (by rfl)) (by rfl) (.inl rfl))
 (zaj (zbc (i:=9) zis rfl (Or.inl rfl) (zch D_law_paper (hr.mono (by decide)) (by rfl) (zaa (bv 8) (zaa (bv 7) (zaa (zdl (zlw (K:=K) rfl) (bv 1) (zdc zak) (zdc zak)) zag (by rfl)) (by rfl)) (by rfl)) (by decide) (zai (by rfl)) (by rfl)) (by rfl) (.inl rfl))
 (zaj (zbc (i:=10) zis rfl (Or.inl rfl) (zch D_law_reply (hr.mono (by decide)) (by rfl) (zaa (bv 7) (zaa (bv 9) (zaa (zbk (zcf (K:=K) rfl) (bv 1) zak (fun _ _=>rfl)) zag (by rfl)) (by rfl)) (by rfl)) (by decide) (zai (by rfl)) (by rfl)) (by rfl) (.inl rfl))
 (zaj (zbc (i:=11) zis rfl (Or.inl rfl) (zch D_law_due (hr.mono (by decide)) (by rfl) (zaa (bv 5) (zaa (bv 7) (zaa (bv 6) (zaa (bv 10) (zaa (bv 9) zag (by rfl)) (by rfl)) (by rfl)) (by rfl)) (by rfl)) (by decide) (zai (by rfl)) (by rfl)) (by rfl) (.inl rfl))
 (zaj (zhh (i:=12) (zcc (N':=["_law_rule", "_law_item_here"]) (own:=["_law_rule", "_law_item_here"]) (fr:=[]) (by kernel_rfl)) rfl (zqi (K:=K) rfl rfl T.zip (zaa (bv 7) (zaa (bv 8) zag (by rfl)) (by rfl)) (by rfl) (by rfl)) ?hb1 (by rfl) zis rfl rfl (by intro _;rfl))
 (zaj (zcq (zlj (zbz (K:=K) rfl (bv 11) (fun _=>rfl)) (zix (zbj (zqy (K:=K) rfl hr.units) (bv 10) (zch D_law_told_of (hr.mono (by decide)) (by rfl) (zaa (bv 12) zag (by rfl)) (by decide) (zai (by rfl)) (by rfl)) (zcd _)))).pt (zan (zbi zhg)) zbt)
 (zaj (zbc (i:=13) zis rfl (Or.inl rfl) (zbs (zaa (zdu (zcc (N':=["_law_name", "_law_elders"]) (own:=["_law_name", "_law_elders"]) (fr:=[]) (by kernel_rfl)) rfl (zcj (K:=K) rfl (bv 4)) ?hb2 (by intro _;rfl)) (zaa (bv 2) (zaa (zdf (zjb (K:=K) rfl) (by rfl) T.list zhj (zaa (bv 7) zag (by rfl)) (by decide) (by decide) (zai (by rfl)) (by rfl)) zag (by rfl)) (by rfl)) (by rfl))) (by rfl) (.inl rfl))
 (zaj (zft qz rfl (zkr rfl T.range (zaa zak zag (by rfl)) (by rfl)) (zas (i:=14) zis rfl (Or.inl rfl) (.inl rfl))
  (zaj (zbc (i:=15) zis rfl (Or.inl rfl) (zch D_shows (hr.mono (by decide)) (by rfl) (zaa (bv 13) (zaa (bv 6) (zaa (bv 10) (zaa (bv 9) zag (by rfl)) (by rfl)) (by rfl)) (by rfl)) (by decide) (zai (by rfl)) (by rfl)) (by rfl) (.inl rfl))
 (zaj (zcq (zqz (zgl (zbz (K:=K) rfl (zaw (zfn (K:=K) rfl) (by rfl) T.isinstance zcl (zaa (bv 15) (zaa (zgp (v:=.ty "bool") (by rfl) T.bool ztm rfl (by decide) (by decide)) zag (by rfl)) (by rfl)) (by decide) (by decide) (zai (by rfl)) (by rfl)) (fun _=>rfl))) (zoh (zbj (zqy (K:=K) rfl hr.units) (bv 15) (bv 11) (zcd _)))).pt (zan (zbi zhg)) zbt)
 (zan (zcq (zbj zaio (zch D_shows (hr.mono (by decide)) (by rfl) (zaa (bv 13) (zaa (bv 6) (zaa (zch D_law_told_of (hr.mono (by decide)) (by rfl) (zaa (bv 12) zag (by rfl)) (by decide) (zai (by rfl)) (by rfl)) (zaa (bv 8) zag (by rfl)) (by rfl)) (by rfl)) (by rfl)) (by decide) (zai (by rfl)) (by rfl)) zhg (zcd _)) (zan (zbi zhg)) zbt)))) (by intro _;rfl))
 (zan (zbi (zgo (zeb (K:=K) rfl hr.units) (bv 13) (zbs (zaa (bv 4) (zaa (bv 2) (zaa (bv 7) zag (by rfl)) (by rfl)) (by rfl))) (zcd _)))))))))))))))))))
   case hb1=>(intro cl C s H fp;refine' ⟨Bx.out (zct (K:=K) (n:=2) rfl rfl (zax (zas (i:=0) zaaj rfl (Or.inl rfl) (by first|exact .inl rfl|exact .inr rfl|assumption)) (zax (zas (i:=1) zaaj rfl (Or.inl rfl) (by first|exact .inl rfl|exact .inr rfl|assumption)) zcs (by rfl)) (by rfl)) (by rfl) (by rfl)),Bx.out (zjq (zbj (zeb (K:=K) rfl hr.units) (bv 1) (zbs (zaa zbr zag (by rfl))) (zcd _))),Bx.out (zbk (zcf (K:=K) rfl) (bv 0) zak (fun _ _=>rfl))⟩)
   case hb2=>(intro cl C s H fp;refine' ⟨Bx.out (zct (K:=K) (n:=2) rfl rfl (zax (zas (i:=0) zaak rfl (Or.inl rfl) (by first|exact .inl rfl|exact .inr rfl|assumption)) (zax (zas (i:=1) zaak rfl (Or.inl rfl) (by first|exact .inl rfl|exact .inr rfl|assumption)) zcs (by rfl)) (by rfl)) (by rfl) (by rfl)),Bx.out zgb,Bx.out (zbs (zaa (bv 0) (zaa (zdf (zjb (K:=K) rfl) (by rfl) T.list zhj (zaa (bv 1) zag (by rfl)) (by decide) (by decide) (zai (by rfl)) (by rfl)) zag (by rfl)) (by rfl)))⟩)
  refine ⟨_,rfl,a,ns,33,rfl,hS,by decide,by decide,fun pc H1 cs hpc s1 e1 lc p1=>?_⟩
  exact zaqw (F:=zabk) ((zat (zbp (zav zfa (se_c fun _=>zaf) (zav zcu (zbn (se_c fun _=>zaf)) (se_c fun _=>zaf)))) (zat (zbp (zbu (zac (zav zfa (se_c fun _=>zaf) (zav zcu (zav zee (zbn (se_c fun _=>zaf)) (se_c fun _=>zaf)) (zav zaie (zck (zac (se_c fun _=>zaf) (zac (se_c fun _=>zaf) (zac (se_c fun _=>zaf) zal)))) (zav zqt (zad 2) (se_c fun _=>zaf))))) (zac (zbn (se_c fun _=>zaf)) zal)))) (zat (zbp (zbu (zac (zmc (zad 1) (zeh (se_c fun _=>zaf)) (zeh (se_c fun _=>zaf))) (zac (zad 3) zal)))) (zat (zbp (zbu (zac (zad 4) zal))) (zat (zbp (zbu (zac (zbn (se_c fun _=>zaf)) (zac (zad 3) (zac (zad 2) zal))))) (zat (zbp (zbu (zac (zmc (zad 1) (zeh (se_c fun _=>zaf)) (zeh (se_c fun _=>zaf))) (zac (zad 3) (zac (zad 5) (zac (zad 6) (zac (zbu (zac (zav zcu (zbn (se_c fun _=>zaf)) (se_c fun _=>zaf)) (zac (zbn (se_c fun _=>zaf)) zal))) zal))))))) (zat (zbp (zbu (zac (zad 5) (zac (zad 7) (zac (zad 6) (zac (zbn (se_c fun _=>zaf)) zal)))))) (zat (zbp (zbu (zac (zad 8) (zac (zad 7) (zac (zmc (zad 1) (zeh (se_c fun _=>zaf)) (zeh (se_c fun _=>zaf))) zal))))) (zat (zbp (zbu (zac (zad 7) (zac (zad 9) (zac (zbn (se_c fun _=>zaf)) zal))))) (zat (zbp (zbu (zac (zad 5) (zac (zad 7) (zac (zad 6) (zac (zad 10) (zac (zad 9) zal))))))) (zat (zbp (zds (zvl (zac (zad 7) (zac (zad 8) zal))) (zfc (zbb (zbb zdn))) (zih (zby (by decide) (zby (by decide) zga))) (st_t (zav zgk (zad 1) (zck (zac (se_c fun _=>zay) zal)))) (zbn (se_c fun _=>zaf)))) (zat (zem (zou (zfw (zad 11)) (st_t (zav zyv (zad 10) (zbu (zac (zad 12) zal))))) (zce (se_c fun _=>zbf)) zda) (zat (zbp (zck (zac (zds (zei (zad 4)) (zfc (zbb (zbb zdn))) (zih (zby (by decide) (zby (by decide) zga))) zii (zck (zac (zad 0) (zac (zdb zqb (zac (zad 1) zal)) zal)))) (zac (zad 2) (zac (zdb zqb (zac (zad 7) zal)) zal))))) (zat (zhn (zme (zac (se_c fun _=>zaf) zal)) zeq (zat (zbp (zbu (zac (zad 13) (zac (zad 6) (zac (zad 10) (zac (zad 9) zal)))))) (zat (zem (zyw (ziq (zfw (zln (zad 15) zws))) (st_t (zav zyv (zad 15) (zad 11)))) (zce (se_c fun _=>zbf)) zda) (zem (st_t (zav zavd (zbu (zac (zad 13) (zac (zad 6) (zac (zbu (zac (zad 12) zal)) (zac (zad 8) zal))))) (se_c fun _=>zbf))) (zce (se_c fun _=>zbf)) zda)))) (zce (zav zgk (zad 13) (zck (zac (zad 4) (zac (zad 2) (zac (zad 7) zal))))))))))))))))))))) (zaqx (n:=14) e1) (zaod lc (fun c h=>(p1 c h).1)) k
end
theorem us_s {us:List Value} {n:Nat} (h:us.length=n+1):∃ a t,us=a::t∧t.length=n:=by
 cases us with
 | nil=>cases h
 | cons a t=>exact ⟨a,t,rfl,Nat.succ.inj h⟩
theorem us_1 {us:List Value} (h:us.length=1):∃ a0,us=[a0]:=by
 obtain ⟨a,t,rfl,h2⟩:=us_s h
 cases qBJ.mp h2
 exact ⟨a,rfl⟩
theorem us_2 {us:List Value} (h:us.length=2):∃ a0 a1,us=[a0,a1]:=by
 obtain ⟨a0,t,rfl,h2⟩:=us_s h
 obtain ⟨a1,rfl⟩:=us_1 h2
 exact ⟨a0,a1,rfl⟩
theorem us_3 {us:List Value} (h:us.length=3):∃ a0 a1 a2,us=[a0,a1,a2]:=by
 obtain ⟨a0,t,rfl,h2⟩:=us_s h
 obtain ⟨a1,a2,rfl⟩:=us_2 h2
 exact ⟨a0,a1,a2,rfl⟩
theorem us_4 {us:List Value} (h:us.length=4):∃ a0 a1 a2 a3,us=[a0,a1,a2,a3]:=by
 obtain ⟨a0,t,rfl,h2⟩:=us_s h
 obtain ⟨a1,a2,a3,rfl⟩:=us_3 h2
 exact ⟨a0,a1,a2,a3,rfl⟩
theorem us_5 {us:List Value} (h:us.length=5):∃ a0 a1 a2 a3 a4,us=[a0,a1,a2,a3,a4]:=by
 obtain ⟨a0,t,rfl,h2⟩:=us_s h
 obtain ⟨a1,a2,a3,a4,rfl⟩:=us_4 h2
 exact ⟨a0,a1,a2,a3,a4,rfl⟩
theorem us_6 {us:List Value} (h:us.length=6):∃ a0 a1 a2 a3 a4 a5,us=[a0,a1,a2,a3,a4,a5]:=by
 obtain ⟨a0,t,rfl,h2⟩:=us_s h
 obtain ⟨a1,a2,a3,a4,a5,rfl⟩:=us_5 h2
 exact ⟨a0,a1,a2,a3,a4,a5,rfl⟩
theorem all_mk {l:PySem.W.OpenLaw} {w:World} {K:qB} {h:Heap} {mg:Str→Option Value} {fa f1 f2 f3 f4 f5 f6 f7 f8 f9 f10 f11 f12 f13 f14 f15 f16 f17 f18 f19 f20 f21 f22 f23 f24 f25 f26 f27 f28 f29 f30 f31 f32 f33 f34 f35 f36:Addr} (X:K.In h) (G:h.Ns qP mg) (hfa:mg "law" = some (.ref fa))
  {od1 an1 od2 an2 od3 an3 od4 an4 od5 an5 od6 an6 od7 an7 od8 an8 od9 an9 od10 an10 od11 an11 od12 an12 od13 an13 od14 an14 od15 an15 od16 an16 od17 an17 od18 an18 od19 an19 od20 an20 od21 an21 od22 an22 od23 an23 od24 an24 od25 an25 od26 an26 od27 an27 od28 an28 od29 an29 od30 an30 od31 an31 od32 an32 od33 an33 od34 an34 od35 an35 od36 an36:Option Addr} {sl1 sl2 sl3 sl4 sl5 sl6 sl7 sl8 sl9 sl10 sl11 sl12 sl13 sl14 sl15 sl16 sl17 sl18 sl19 sl20 sl21 sl22 sl23 sl24 sl25 sl26 sl27 sl28 sl29 sl30 sl31 sl32 sl33 sl34 sl35 sl36:Array (Option Value)} {oc1 kV1 dc1 pm1 cd1 ct1 oc2 kV2 dc2 pm2 cd2 ct2 oc3 kV3 dc3 pm3 cd3 ct3 oc4 kV4 dc4 pm4 cd4 ct4 oc5 kV5 dc5 pm5 cd5 ct5 oc6 kV6 dc6 pm6 cd6 ct6 oc7 kV7 dc7 pm7 cd7 ct7 oc8 kV8 dc8 pm8 cd8 ct8 oc9 kV9 dc9 pm9 cd9 ct9 oc10 kV10 dc10 pm10 cd10 ct10 oc11 kV11 dc11 pm11 cd11 ct11 oc12 kV12 dc12 pm12 cd12 ct12 oc13 kV13 dc13 pm13 cd13 ct13 oc14 kV14 dc14 pm14 cd14 ct14 oc15 kV15 dc15 pm15 cd15 ct15 oc16 kV16 dc16 pm16 cd16 ct16 oc17 kV17 dc17 pm17 cd17 ct17 oc18 kV18 dc18 pm18 cd18 ct18 oc19 kV19 dc19 pm19 cd19 ct19 oc20 kV20 dc20 pm20 cd20 ct20 oc21 kV21 dc21 pm21 cd21 ct21 oc22 kV22 dc22 pm22 cd22 ct22 oc23 kV23 dc23 pm23 cd23 ct23 oc24 kV24 dc24 pm24 cd24 ct24 oc25 kV25 dc25 pm25 cd25 ct25 oc26 kV26 dc26 pm26 cd26 ct26 oc27 kV27 dc27 pm27 cd27 ct27 oc28 kV28 dc28 pm28 cd28 ct28 oc29 kV29 dc29 pm29 cd29 ct29 oc30 kV30 dc30 pm30 cd30 ct30 oc31 kV31 dc31 pm31 cd31 ct31 oc32 kV32 dc32 pm32 cd32 ct32 oc33 kV33 dc33 pm33 cd33 ct33 oc34 kV34 dc34 pm34 cd34 ct34 oc35 kV35 dc35 pm35 cd35 ct35 oc36 kV36 dc36 pm36 cd36 ct36:Value}
  (a1:qU K qP "is_whole" = some (some (.ref f1))) (l1:K.lookup f1=some ⟨oc1,od1,.func (qd "is_whole" "is_whole" (zcb zje) (zca zje) (zar zje) .none kV1 dc1 pm1 an1 cd1 ct1),sl1⟩) (c1:qV K cd1 "is_whole" = true) (k1:qT K (.ref f1)=true)
  (a2:qU K qP "names_of" = some (some (.ref f2))) (l2:K.lookup f2=some ⟨oc2,od2,.func (qd "names_of" "names_of" (zcb zjf) (zca zjf) (zar zjf) .none kV2 dc2 pm2 an2 cd2 ct2),sl2⟩) (c2:qV K cd2 "names_of" = true) (k2:qT K (.ref f2)=true)
  (a3:qU K qP "names_in" = some (some (.ref f3))) (l3:K.lookup f3=some ⟨oc3,od3,.func (qd "names_in" "names_in" (zcb zjg) (zca zjg) (zar zjg) .none kV3 dc3 pm3 an3 cd3 ct3),sl3⟩) (c3:qV K cd3 "names_in" = true) (k3:qT K (.ref f3)=true)
  (a4:qU K qP "check_kinds" = some (some (.ref f4))) (l4:K.lookup f4=some ⟨oc4,od4,.func (qd "check_kinds" "check_kinds" (zcb zgh) (zca zgh) (zar zgh) .none kV4 dc4 pm4 an4 cd4 ct4),sl4⟩) (c4:qV K cd4 "check_kinds" = true) (k4:qT K (.ref f4)=true)
  (a5:qU K qP "roofs_of" = some (some (.ref f5))) (l5:K.lookup f5=some ⟨oc5,od5,.func (qd "roofs_of" "roofs_of" (zcb zjh) (zca zjh) (zar zjh) .none kV5 dc5 pm5 an5 cd5 ct5),sl5⟩) (c5:qV K cd5 "roofs_of" = true) (k5:qT K (.ref f5)=true)
  (a6:qU K qP "roof_of" = some (some (.ref f6))) (l6:K.lookup f6=some ⟨oc6,od6,.func (qd "roof_of" "roof_of" (zcb zku) (zca zku) (zar zku) .none kV6 dc6 pm6 an6 cd6 ct6),sl6⟩) (c6:qV K cd6 "roof_of" = true) (k6:qT K (.ref f6)=true)
  (a7:qU K qP "names_in_call" = some (some (.ref f7))) (l7:K.lookup f7=some ⟨oc7,od7,.func (qd "names_in_call" "names_in_call" (zcb zfe) (zca zfe) (zar zfe) .none kV7 dc7 pm7 an7 cd7 ct7),sl7⟩) (c7:qV K cd7 "names_in_call" = true) (k7:qT K (.ref f7)=true)
  (a8:qU K qP "check_call" = some (some (.ref f8))) (l8:K.lookup f8=some ⟨oc8,od8,.func (qd "check_call" "check_call" (zcb zgu) (zca zgu) (zar zgu) .none kV8 dc8 pm8 an8 cd8 ct8),sl8⟩) (c8:qV K cd8 "check_call" = true) (k8:qT K (.ref f8)=true)
  (a9:qU K qP "roofs_in_call" = some (some (.ref f9))) (l9:K.lookup f9=some ⟨oc9,od9,.func (qd "roofs_in_call" "roofs_in_call" (zcb zff) (zca zff) (zar zff) .none kV9 dc9 pm9 an9 cd9 ct9),sl9⟩) (c9:qV K cd9 "roofs_in_call" = true) (k9:qT K (.ref f9)=true)
  (a10:qU K qP "fits_under" = some (some (.ref f10))) (l10:K.lookup f10=some ⟨oc10,od10,.func (qd "fits_under" "fits_under" (zcb zgv) (zca zgv) (zar zgv) .none kV10 dc10 pm10 an10 cd10 ct10),sl10⟩) (c10:qV K cd10 "fits_under" = true) (k10:qT K (.ref f10)=true)
  (a11:qU K qP "is_nearer" = some (some (.ref f11))) (l11:K.lookup f11=some ⟨oc11,od11,.func (qd "is_nearer" "is_nearer" (zcb zhu) (zca zhu) (zar zhu) .none kV11 dc11 pm11 an11 cd11 ct11),sl11⟩) (c11:qV K cd11 "is_nearer" = true) (k11:qT K (.ref f11)=true)
  (a12:qU K qP "rules_that_fit" = some (some (.ref f12))) (l12:K.lookup f12=some ⟨oc12,od12,.func (qd "rules_that_fit" "rules_that_fit" (zcb zeo) (zca zeo) (zar zeo) .none kV12 dc12 pm12 an12 cd12 ct12),sl12⟩) (c12:qV K cd12 "rules_that_fit" = true) (k12:qT K (.ref f12)=true)
  (a13:qU K qP "nearest_of" = some (some (.ref f13))) (l13:K.lookup f13=some ⟨oc13,od13,.func (qd "nearest_of" "nearest_of" (zcb zgw) (zca zgw) (zar zgw) .none kV13 dc13 pm13 an13 cd13 ct13),sl13⟩) (c13:qV K cd13 "nearest_of" = true) (k13:qT K (.ref f13)=true)
  (a14:qU K qP "rule_names" = some (some (.ref f14))) (l14:K.lookup f14=some ⟨oc14,od14,.func (qd "rule_names" "rule_names" (zcb zgx) (zca zgx) (zar zgx) .none kV14 dc14 pm14 an14 cd14 ct14),sl14⟩) (c14:qV K cd14 "rule_names" = true) (k14:qT K (.ref f14)=true)
  (a15:qU K qP "answer_by" = some (some (.ref f15))) (l15:K.lookup f15=some ⟨oc15,od15,.func (qd "answer_by" "answer_by" (zcb zhv) (zca zhv) (zar zhv) .none kV15 dc15 pm15 an15 cd15 ct15),sl15⟩) (c15:qV K cd15 "answer_by" = true) (k15:qT K (.ref f15)=true)
  (a16:qU K qP "is_out" = some (some (.ref f16))) (l16:K.lookup f16=some ⟨oc16,od16,.func (qd "is_out" "is_out" (zcb zni) (zca zni) (zar zni) .none kV16 dc16 pm16 an16 cd16 ct16),sl16⟩) (c16:qV K cd16 "is_out" = true) (k16:qT K (.ref f16)=true)
  (a17:qU K qP "is_farther" = some (some (.ref f17))) (l17:K.lookup f17=some ⟨oc17,od17,.func (qd "is_farther" "is_farther" (zcb zgy) (zca zgy) (zar zgy) .none kV17 dc17 pm17 an17 cd17 ct17),sl17⟩) (c17:qV K cd17 "is_farther" = true) (k17:qT K (.ref f17)=true)
  (a18:qU K qP "is_line" = some (some (.ref f18))) (l18:K.lookup f18=some ⟨oc18,od18,.func (qd "is_line" "is_line" (zcb zkv) (zca zkv) (zar zkv) .none kV18 dc18 pm18 an18 cd18 ct18),sl18⟩) (c18:qV K cd18 "is_line" = true) (k18:qT K (.ref f18)=true)
  (a19:qU K qP "shows" = some (some (.ref f19))) (l19:K.lookup f19=some ⟨oc19,od19,.func (qd "shows" "shows" (zcb zql) (zca zql) (zar zql) .none kV19 dc19 pm19 an19 cd19 ct19),sl19⟩) (c19:qV K cd19 "shows" = true) (k19:qT K (.ref f19)=true)
  (a20:qU K qP "_law_draws" = some (some (.ref f20))) (l20:K.lookup f20=some ⟨oc20,od20,.func (qd "_law_draws" "_law_draws" (zcb zhw) (zca zhw) (zar zhw) .none kV20 dc20 pm20 an20 cd20 ct20),sl20⟩) (c20:qV K cd20 "_law_draws" = true) (k20:qT K (.ref f20)=true)
  (a21:qU K qP "_law_names" = some (some (.ref f21))) (l21:K.lookup f21=some ⟨oc21,od21,.func (qd "_law_names" "_law_names" (zcb zhx) (zca zhx) (zar zhx) .none kV21 dc21 pm21 an21 cd21 ct21),sl21⟩) (c21:qV K cd21 "_law_names" = true) (k21:qT K (.ref f21)=true)
  (a22:qU K qP "_law_web" = some (some (.ref f22))) (l22:K.lookup f22=some ⟨oc22,od22,.func (qd "_law_web" "_law_web" (zcb zkw) (zca zkw) (zar zkw) .none kV22 dc22 pm22 an22 cd22 ct22),sl22⟩) (c22:qV K cd22 "_law_web" = true) (k22:qT K (.ref f22)=true)
  (a23:qU K qP "_law_up" = some (some (.ref f23))) (l23:K.lookup f23=some ⟨oc23,od23,.func (qd "_law_up" "_law_up" (zcb znj) (zca znj) (zar znj) .none kV23 dc23 pm23 an23 cd23 ct23),sl23⟩) (c23:qV K cd23 "_law_up" = true) (k23:qT K (.ref f23)=true)
  (a24:qU K qP "_law_parts" = some (some (.ref f24))) (l24:K.lookup f24=some ⟨oc24,od24,.func (qd "_law_parts" "_law_parts" (zcb zhy) (zca zhy) (zar zhy) .none kV24 dc24 pm24 an24 cd24 ct24),sl24⟩) (c24:qV K cd24 "_law_parts" = true) (k24:qT K (.ref f24)=true)
  (a25:qU K qP "_law_call" = some (some (.ref f25))) (l25:K.lookup f25=some ⟨oc25,od25,.func (qd "_law_call" "_law_call" (zcb zji) (zca zji) (zar zji) .none kV25 dc25 pm25 an25 cd25 ct25),sl25⟩) (c25:qV K cd25 "_law_call" = true) (k25:qT K (.ref f25)=true)
  (a26:qU K qP "_law_rules" = some (some (.ref f26))) (l26:K.lookup f26=some ⟨oc26,od26,.func (qd "_law_rules" "_law_rules" (zcb zhz) (zca zhz) (zar zhz) .none kV26 dc26 pm26 an26 cd26 ct26),sl26⟩) (c26:qV K cd26 "_law_rules" = true) (k26:qT K (.ref f26)=true)
  (a27:qU K qP "_law_on" = some (some (.ref f27))) (l27:K.lookup f27=some ⟨oc27,od27,.func (qd "_law_on" "_law_on" (zcb znk) (zca znk) (zar znk) .none kV27 dc27 pm27 an27 cd27 ct27),sl27⟩) (c27:qV K cd27 "_law_on" = true) (k27:qT K (.ref f27)=true)
  (a28:qU K qP "_law_fits" = some (some (.ref f28))) (l28:K.lookup f28=some ⟨oc28,od28,.func (qd "_law_fits" "_law_fits" (zcb zjj) (zca zjj) (zar zjj) .none kV28 dc28 pm28 an28 cd28 ct28),sl28⟩) (c28:qV K cd28 "_law_fits" = true) (k28:qT K (.ref f28)=true)
  (a29:qU K qP "_law_good" = some (some (.ref f29))) (l29:K.lookup f29=some ⟨oc29,od29,.func (qd "_law_good" "_law_good" (zcb zjk) (zca zjk) (zar zjk) .none kV29 dc29 pm29 an29 cd29 ct29),sl29⟩) (c29:qV K cd29 "_law_good" = true) (k29:qT K (.ref f29)=true)
  (a30:qU K qP "_law_item_put" = some (some (.ref f30))) (l30:K.lookup f30=some ⟨oc30,od30,.func (qd "_law_item_put" "_law_item_put" (zcb zfr) (zca zfr) (zar zfr) .none kV30 dc30 pm30 an30 cd30 ct30),sl30⟩) (c30:qV K cd30 "_law_item_put" = true) (k30:qT K (.ref f30)=true)
  (a31:qU K qP "_law_paper" = some (some (.ref f31))) (l31:K.lookup f31=some ⟨oc31,od31,.func (qd "_law_paper" "_law_paper" (zcb zia) (zca zia) (zar zia) .none kV31 dc31 pm31 an31 cd31 ct31),sl31⟩) (c31:qV K cd31 "_law_paper" = true) (k31:qT K (.ref f31)=true)
  (a32:qU K qP "_law_item" = some (some (.ref f32))) (l32:K.lookup f32=some ⟨oc32,od32,.func (qd "_law_item" "_law_item" (zcb zjl) (zca zjl) (zar zjl) .none kV32 dc32 pm32 an32 cd32 ct32),sl32⟩) (c32:qV K cd32 "_law_item" = true) (k32:qT K (.ref f32)=true)
  (a33:qU K qP "_law_told_of" = some (some (.ref f33))) (l33:K.lookup f33=some ⟨oc33,od33,.func (qd "_law_told_of" "_law_told_of" (zcb zgi) (zca zgi) (zar zgi) .none kV33 dc33 pm33 an33 cd33 ct33),sl33⟩) (c33:qV K cd33 "_law_told_of" = true) (k33:qT K (.ref f33)=true)
  (a34:qU K qP "_law_due" = some (some (.ref f34))) (l34:K.lookup f34=some ⟨oc34,od34,.func (qd "_law_due" "_law_due" (zcb zkx) (zca zkx) (zar zkx) .none kV34 dc34 pm34 an34 cd34 ct34),sl34⟩) (c34:qV K cd34 "_law_due" = true) (k34:qT K (.ref f34)=true)
  (a35:qU K qP "_law_reply" = some (some (.ref f35))) (l35:K.lookup f35=some ⟨oc35,od35,.func (qd "_law_reply" "_law_reply" (zcb zib) (zca zib) (zar zib) .none kV35 dc35 pm35 an35 cd35 ct35),sl35⟩) (c35:qV K cd35 "_law_reply" = true) (k35:qT K (.ref f35)=true)
  (a36:qU K qP "law" = some (some (.ref f36))) (l36:K.lookup f36=some ⟨oc36,od36,.func (qd "law" "law" (zcb zxn) (zca zxn) (zar zxn) .none kV36 dc36 pm36 an36 cd36 ct36),sl36⟩) (c36:qV K cd36 "law" = true) (k36:qT K (.ref f36)=true)
  (z1:qU K qP "all" = some none) (z2:qU K qP "any" = some none) (z3:qU K qP "bool" = some none) (z4:qU K qP "enumerate" = some none) (z5:qU K qP "int" = some none) (z6:qU K qP "isinstance" = some none) (z7:qU K qP "len" = some none) (z8:qU K qP "list" = some none) (z9:qU K qP "min" = some none) (z10:qU K qP "range" = some none) (z11:qU K qP "tuple" = some none) (z12:qU K qP "zip" = some none) :
  ∃ fd:qAB,(∀ (s:Shared) (v:Value),BindsTo s fd ⟨[v],[]⟩ [("_law_script",v)])∧∀ base:Heap,K.In base→base.Ns qP mg→FnOk l.prog w K mg base CX0 6 fa fd ["_law_script"] (zaoe K):=by
 have e:=hfa.symm.trans (qe X G a36)
 cases e
 have T:Txt mg:=⟨qAU X G z1,qAU X G z2,qAU X G z3,qAU X G z4,qAU X G z5,qAU X G z6,qAU X G z7,qAU X G z8,qAU X G z9,qAU X G z10,qAU X G z11,qAU X G z12⟩
 have F1:=zdp (st:=zje) l1 c1 k1
 have b1:=F1.binds (ps:=["thing"]) fun _ _ _ _ _ _ us hl=>by obtain ⟨_,rfl⟩:=us_1 hl;rfl
 have F2:=zdp (st:=zjf) l2 c2 k2
 have b2:=F2.binds (ps:=["web"]) fun _ _ _ _ _ _ us hl=>by obtain ⟨_,rfl⟩:=us_1 hl;rfl
 have F3:=zdp (st:=zjg) l3 c3 k3
 have b3:=F3.binds (ps:=["arm"]) fun _ _ _ _ _ _ us hl=>by obtain ⟨_,rfl⟩:=us_1 hl;rfl
 have F4:=zdp (st:=zgh) l4 c4 k4
 have b4:=F4.binds (ps:=["web", "names"]) fun _ _ _ _ _ _ us hl=>by obtain ⟨_,_,rfl⟩:=us_2 hl;rfl
 have F5:=zdp (st:=zjh) l5 c5 k5
 have b5:=F5.binds (ps:=["web"]) fun _ _ _ _ _ _ us hl=>by obtain ⟨_,rfl⟩:=us_1 hl;rfl
 have F6:=zdp (st:=zku) l6 c6 k6
 have b6:=F6.binds (ps:=["roofs", "arm"]) fun _ _ _ _ _ _ us hl=>by obtain ⟨_,_,rfl⟩:=us_2 hl;rfl
 have F7:=zdp (st:=zfe) l7 c7 k7
 have b7:=F7.binds (ps:=["call"]) fun _ _ _ _ _ _ us hl=>by obtain ⟨_,rfl⟩:=us_1 hl;rfl
 have F8:=zdp (st:=zgu) l8 c8 k8
 have b8:=F8.binds (ps:=["web", "places", "call"]) fun _ _ _ _ _ _ us hl=>by obtain ⟨_,_,_,rfl⟩:=us_3 hl;rfl
 have F9:=zdp (st:=zff) l9 c9 k9
 have b9:=F9.binds (ps:=["roofs", "call"]) fun _ _ _ _ _ _ us hl=>by obtain ⟨_,_,rfl⟩:=us_2 hl;rfl
 have F10:=zdp (st:=zgv) l10 c10 k10
 have b10:=F10.binds (ps:=["kinds", "call_roofs"]) fun _ _ _ _ _ _ us hl=>by obtain ⟨_,_,rfl⟩:=us_2 hl;rfl
 have F11:=zdp (st:=zhu) l11 c11 k11
 have b11:=F11.binds (ps:=["roofs", "one", "other"]) fun _ _ _ _ _ _ us hl=>by obtain ⟨_,_,_,rfl⟩:=us_3 hl;rfl
 have F12:=zdp (st:=zeo) l12 c12 k12
 have b12:=F12.binds (ps:=["book", "call"]) fun _ _ _ _ _ _ us hl=>by obtain ⟨_,_,rfl⟩:=us_2 hl;rfl
 have F13:=zdp (st:=zgw) l13 c13 k13
 have b13:=F13.binds (ps:=["roofs", "rules"]) fun _ _ _ _ _ _ us hl=>by obtain ⟨_,_,rfl⟩:=us_2 hl;rfl
 have F14:=zdp (st:=zgx) l14 c14 k14
 have b14:=F14.binds (ps:=["rules"]) fun _ _ _ _ _ _ us hl=>by obtain ⟨_,rfl⟩:=us_1 hl;rfl
 have F15:=zdp (st:=zhv) l15 c15 k15
 have b15:=F15.binds (ps:=["names"]) fun _ _ _ _ _ _ us hl=>by obtain ⟨_,rfl⟩:=us_1 hl;rfl
 have F16:=zdp (st:=zni) l16 c16 k16
 have b16:=F16.binds (ps:=["kinds", "call_roofs", "thing"]) fun _ _ _ _ _ _ us hl=>by obtain ⟨_,_,_,rfl⟩:=us_3 hl;rfl
 have F17:=zdp (st:=zgy) l17 c17 k17
 have b17:=F17.binds (ps:=["roofs", "fit", "kinds", "thing"]) fun _ _ _ _ _ _ us hl=>by obtain ⟨_,_,_,_,rfl⟩:=us_4 hl;rfl
 have F18:=zdp (st:=zkv) l18 c18 k18
 have b18:=F18.binds (ps:=["roofs", "call_roofs", "fit", "rule", "thing"]) fun _ _ _ _ _ _ us hl=>by obtain ⟨_,_,_,_,_,rfl⟩:=us_5 hl;rfl
 have F19:=zdp (st:=zql) l19 c19 k19
 have b19:=F19.binds (ps:=["book", "call", "answer", "paper"]) fun _ _ _ _ _ _ us hl=>by obtain ⟨_,_,_,_,rfl⟩:=us_4 hl;rfl
 have F20:=zdp (st:=zhw) l20 c20 k20
 have b20:=F20.binds (ps:=["_law_script", "_law_many"]) fun _ _ _ _ _ _ us hl=>by obtain ⟨_,_,rfl⟩:=us_2 hl;rfl
 have F21:=zdp (st:=zhx) l21 c21 k21
 have b21:=F21.binds (ps:=["_law_many", "_law_cell"]) fun _ _ _ _ _ _ us hl=>by obtain ⟨_,_,rfl⟩:=us_2 hl;rfl
 have F22:=zdp (st:=zkw) l22 c22 k22
 have b22:=F22.binds (ps:=["_law_cells", "_law_names_here"]) fun _ _ _ _ _ _ us hl=>by obtain ⟨_,_,rfl⟩:=us_2 hl;rfl
 have F23:=zdp (st:=znj) l23 c23 k23
 have b23:=F23.binds (ps:=["_law_web_here"]) fun _ _ _ _ _ _ us hl=>by obtain ⟨_,rfl⟩:=us_1 hl;rfl
 have F24:=zdp (st:=zhy) l24 c24 k24
 have b24:=F24.binds (ps:=["_law_arm"]) fun _ _ _ _ _ _ us hl=>by obtain ⟨_,rfl⟩:=us_1 hl;rfl
 have F25:=zdp (st:=zji) l25 c25 k25
 have b25:=F25.binds (ps:=["_law_cell", "_law_names_here", "_law_places"]) fun _ _ _ _ _ _ us hl=>by obtain ⟨_,_,_,rfl⟩:=us_3 hl;rfl
 have F26:=zdp (st:=zhz) l26 c26 k26
 have b26:=F26.binds (ps:=["_law_cells", "_law_names_here", "_law_up_here", "_law_call_here", "_law_titles"]) fun _ _ _ _ _ _ us hl=>by obtain ⟨_,_,_,_,_,rfl⟩:=us_5 hl;rfl
 have F27:=zdp (st:=znk) l27 c27 k27
 have b27:=F27.binds (ps:=["_law_up_here", "_law_arm", "_law_kind"]) fun _ _ _ _ _ _ us hl=>by obtain ⟨_,_,_,rfl⟩:=us_3 hl;rfl
 have F28:=zdp (st:=zjj) l28 c28 k28
 have b28:=F28.binds (ps:=["_law_up_here", "_law_kinds", "_law_call_here"]) fun _ _ _ _ _ _ us hl=>by obtain ⟨_,_,_,rfl⟩:=us_3 hl;rfl
 have F29:=zdp (st:=zjk) l29 c29 k29
 have b29:=F29.binds (ps:=["_law_up_here", "_law_rules_here", "_law_call_here", "_law_cell"]) fun _ _ _ _ _ _ us hl=>by obtain ⟨_,_,_,_,rfl⟩:=us_4 hl;rfl
 have F30:=zdp (st:=zfr) l30 c30 k30
 have b30:=F30.binds (ps:=["_law_paper_here", "_law_item_here", "_law_rules_here", "_law_place", "_law_choice", "_law_cell"]) fun _ _ _ _ _ _ us hl=>by obtain ⟨_,_,_,_,_,_,rfl⟩:=us_6 hl;rfl
 have F31:=zdp (st:=zia) l31 c31 k31
 have b31:=F31.binds (ps:=["_law_good_here", "_law_rules_here", "_law_cells"]) fun _ _ _ _ _ _ us hl=>by obtain ⟨_,_,_,rfl⟩:=us_3 hl;rfl
 have F32:=zdp (st:=zjl) l32 c32 k32
 have b32:=F32.binds (ps:=["_law_up_here", "_law_rules_here", "_law_kinds", "_law_call_here", "_law_item_here"]) fun _ _ _ _ _ _ us hl=>by obtain ⟨_,_,_,_,_,rfl⟩:=us_5 hl;rfl
 have F33:=zdp (st:=zgi) l33 c33 k33
 have b33:=F33.binds (ps:=["_law_names_here"]) fun _ _ _ _ _ _ us hl=>by obtain ⟨_,rfl⟩:=us_1 hl;rfl
 have F34:=zdp (st:=zkx) l34 c34 k34
 have b34:=F34.binds (ps:=["_law_up_here", "_law_rules_here", "_law_call_here", "_law_reply_here", "_law_paper_here"]) fun _ _ _ _ _ _ us hl=>by obtain ⟨_,_,_,_,_,rfl⟩:=us_5 hl;rfl
 have F35:=zdp (st:=zib) l35 c35 k35
 have b35:=F35.binds (ps:=["_law_rules_here", "_law_paper_here", "_law_cell"]) fun _ _ _ _ _ _ us hl=>by obtain ⟨_,_,_,rfl⟩:=us_3 hl;rfl
 have F36:=zdp (st:=zxn) l36 c36 k36
 refine ⟨qd "law" "law" (zcb zxn) (zca zxn) (zar zxn) .none kV36 dc36 pm36 an36 cd36 ct36,fun s v=>.of_eq rfl,fun base _ _=>?_⟩
 have D_is_whole:zvz l.prog w K mg base:=⟨f1,_,zacr F1 T , qe X G a1,k1,b1⟩
 have D_names_of:zwa l.prog w K mg base:=⟨f2,_,zacs F2 T , qe X G a2,k2,b2⟩
 have D_names_in:zqm l.prog w K mg base:=⟨f3,_,zact F3 T , qe X G a3,k3,b3⟩
 have D_check_kinds:zpn l.prog w K mg base:=⟨f4,_,zuw F4 T D_names_of,qe X G a4,k4,b4⟩
 have D_roofs_of:zqn l.prog w K mg base:=⟨f5,_,zacu F5 T , qe X G a5,k5,b5⟩
 have D_roof_of:zaal l.prog w K mg base:=⟨f6,_,zagg F6 T D_names_in,qe X G a6,k6,b6⟩
 have D_names_in_call:zmv l.prog w K mg base:=⟨f7,_,zry F7 T D_names_in,qe X G a7,k7,b7⟩
 have D_check_call:zrk l.prog w K mg base:=⟨f8,_,zxo F8 T D_check_kinds D_names_in_call,qe X G a8,k8,b8⟩
 have D_roofs_in_call:zjx l.prog w K mg base:=⟨f9,_,zrz F9 T D_roof_of,qe X G a9,k9,b9⟩
 have D_fits_under:zrl l.prog w K mg base:=⟨f10,_,zxp F10 T , qe X G a10,k10,b10⟩
 have D_is_nearer:zok l.prog w K mg base:=⟨f11,_,zaap F11 T , qe X G a11,k11,b11⟩
 have D_rules_that_fit:zlv l.prog w K mg base:=⟨f12,_,zqo F12 T D_check_call D_fits_under D_roofs_in_call D_roofs_of,qe X G a12,k12,b12⟩
 have D_nearest_of:zrm l.prog w K mg base:=⟨f13,_,zxq F13 T D_is_nearer,qe X G a13,k13,b13⟩
 have D_rule_names:zrn l.prog w K mg base:=⟨f14,_,zxr F14 T , qe X G a14,k14,b14⟩
 have D_answer_by:zub l.prog w K mg base:=⟨f15,_,zaaq F15 T , qe X G a15,k15,b15⟩
 have D_is_out:zaex l.prog w K mg base:=⟨f16,_,zakg F16 T D_is_whole,qe X G a16,k16,b16⟩
 have D_is_farther:zro l.prog w K mg base:=⟨f17,_,zxs F17 T D_is_nearer,qe X G a17,k17,b17⟩
 have D_is_line:zaam l.prog w K mg base:=⟨f18,_,zagh F18 T D_is_farther D_is_out,qe X G a18,k18,b18⟩
 have D_shows:zakf l.prog w K mg base:=⟨f19,_,zanm F19 T D_answer_by D_is_line D_nearest_of D_roofs_in_call D_roofs_of D_rule_names D_rules_that_fit,qe X G a19,k19,b19⟩
 have D_law_draws:Dn l.prog w K mg base "_law_draws" ["_law_script", "_law_many"] 1 (zadl K):=⟨f20,_,zabl F20 T , qe X G a20,k20,b20⟩
 have D_law_names:zuc l.prog w K mg base:=⟨f21,_,zaar F21 T , qe X G a21,k21,b21⟩
 have D_law_web:zaan l.prog w K mg base:=⟨f22,_,zagi F22 T , qe X G a22,k22,b22⟩
 have D_law_up:zaey l.prog w K mg base:=⟨f23,_,zakh F23 T , qe X G a23,k23,b23⟩
 have D_law_parts:zol l.prog w K mg base:=⟨f24,_,zaas F24 T , qe X G a24,k24,b24⟩
 have D_law_call:zwb l.prog w K mg base:=⟨f25,_,zacv F25 T , qe X G a25,k25,b25⟩
 have D_law_rules:zud l.prog w K mg base:=⟨f26,_,zaat F26 T D_law_parts,qe X G a26,k26,b26⟩
 have D_law_on:zse l.prog w K mg base:=⟨f27,_,zaki F27 T D_law_parts,qe X G a27,k27,b27⟩
 have D_law_fits:znl l.prog w K mg base:=⟨f28,_,zacw F28 T D_law_on,qe X G a28,k28,b28⟩
 have D_law_good:zwc l.prog w K mg base:=⟨f29,_,zacx F29 T D_law_fits D_law_on,qe X G a29,k29,b29⟩
 have D_law_item_put:zny l.prog w K mg base:=⟨f30,_,zug F30 T , qe X G a30,k30,b30⟩
 have D_law_paper:zue l.prog w K mg base:=⟨f31,_,zaau F31 T D_law_item_put,qe X G a31,k31,b31⟩
 have D_law_item:zwd l.prog w K mg base:=⟨f32,_,zacy F32 T D_law_fits D_law_on,qe X G a32,k32,b32⟩
 have D_law_told_of:ziy l.prog w K mg base:=⟨f33,_,zux F33 T , qe X G a33,k33,b33⟩
 have D_law_due:zaao l.prog w K mg base:=⟨f34,_,zagj F34 T D_law_fits D_law_item D_law_told_of,qe X G a34,k34,b34⟩
 have D_law_reply:zuf l.prog w K mg base:=⟨f35,_,zaav F35 T D_law_told_of,qe X G a35,k35,b35⟩
 exact zaun F36 T D_law_call D_law_draws D_law_due D_law_good D_law_names D_law_paper D_law_reply D_law_rules D_law_told_of D_law_up D_law_web D_shows
theorem walk {l:PySem.W.OpenLaw} {q:Program} {loose:List Str} {XP:(Str→Option Value)→Heap→Prop} {YP:World→Heap→Prop} {d:DefRec} {K:Params→qB} (hn:l.most=some 63) (hdf:d.params.defaults=[])
  (hY:∀ (w:World) (h:Heap),YP w h→(K w.params).In h)
  (F:∀ (w:World) (mg:Str→Option Value) (fa:Addr) (h:Heap),(K w.params).In h→h.Ns qP mg→mg d.name=some (.ref fa) →
   ∃ fd:qAB,(∀ (s:Shared) (u:Value),BindsTo s fd ⟨[u],[]⟩ [("_law_script",u)])∧∀ base:Heap,(K w.params).In base→base.Ns qP mg→FnOk l.prog w (K w.params) mg base CX0 6 fa fd ["_law_script"] (zaoe (K w.params))) :
  PySem.W.WalkO q loose XP YP l.row.toRowW d [] (fun f vs=>PySem.call f vs) :=
 L2.walk_of (n:=63) (k:=6) (x:="_law_script") (CX:=fun _=>CX0) (sp:=fun w=>zaoe (K w.params)) hn (by decide) hdf ⟨rfl,by decide,by decide⟩ hY F (fun _ _ a ns hl _ hS=>⟨a,ns,rfl,hS,fun _=>rfl⟩) fun _ _ _ _ _ z=>z
end Bc
def PySem.W.Fast.tw6392794860340830313:PySem.Program:=PySem.Challenge.pw_bestcalls_k17_papers_looked_at
theorem PySem.W.Fast.te6392794860340830313:PySem.Challenge.pw_bestcalls_k17_papers_looked_at=PySem.W.Fast.tw6392794860340830313:=rfl
theorem PySem.W.Fast.te17809713134061944557:True:=trivial
open PySem PySem.W PyProof.Rows
set_option maxRecDepth 100000 in
set_option maxHeartbeats 0 in
theorem PySem.Challenge.cw_bestcalls_k17_papers_looked_at_holds : PySem.Challenge.rw_bestcalls_k17_papers_looked_at.Holds := by
 w_on;o_law;k_head;(case hw=>w_witness2)
 k_fill
 refine Bc.walk (l:=PySem.Challenge.rw_bestcalls_k17_papers_looked_at) rfl rfl (fun w h Y=>PySem.W.kIn_of Y) ?F
 case F =>
  intro w mg fa h KX G hmg
  refine' Bc.all_mk KX G hmg ?a1 ?l1 ?c1 ?k1 ?a2 ?l2 ?c2 ?k2 ?a3 ?l3 ?c3 ?k3 ?a4 ?l4 ?c4 ?k4 ?a5 ?l5 ?c5 ?k5 ?a6 ?l6 ?c6 ?k6 ?a7 ?l7 ?c7 ?k7 ?a8 ?l8 ?c8 ?k8 ?a9 ?l9 ?c9 ?k9 ?a10 ?l10 ?c10 ?k10 ?a11 ?l11 ?c11 ?k11 ?a12 ?l12 ?c12 ?k12 ?a13 ?l13 ?c13 ?k13 ?a14 ?l14 ?c14 ?k14 ?a15 ?l15 ?c15 ?k15 ?a16 ?l16 ?c16 ?k16 ?a17 ?l17 ?c17 ?k17 ?a18 ?l18 ?c18 ?k18 ?a19 ?l19 ?c19 ?k19 ?a20 ?l20 ?c20 ?k20 ?a21 ?l21 ?c21 ?k21 ?a22 ?l22 ?c22 ?k22 ?a23 ?l23 ?c23 ?k23 ?a24 ?l24 ?c24 ?k24 ?a25 ?l25 ?c25 ?k25 ?a26 ?l26 ?c26 ?k26 ?a27 ?l27 ?c27 ?k27 ?a28 ?l28 ?c28 ?k28 ?a29 ?l29 ?c29 ?k29 ?a30 ?l30 ?c30 ?k30 ?a31 ?l31 ?c31 ?k31 ?a32 ?l32 ?c32 ?k32 ?a33 ?l33 ?c33 ?k33 ?a34 ?l34 ?c34 ?k34 ?a35 ?l35 ?c35 ?k35 ?a36 ?l36 ?c36 ?k36 ?z1 ?z2 ?z3 ?z4 ?z5 ?z6 ?z7 ?z8 ?z9 ?z10 ?z11 ?z12
  (case a1=>k_is)
  (case l1=>k_is)
  (case c1=>k_is)
  (case k1=>k_is)
  (case a2=>k_is)
  (case l2=>k_is)
  (case c2=>k_is)
  (case k2=>k_is)
  (case a3=>k_is)
  (case l3=>k_is)
  (case c3=>k_is)
  (case k3=>k_is)
  (case a4=>k_is)
  (case l4=>k_is)
  (case c4=>k_is)
  (case k4=>k_is)
  (case a5=>k_is)
  (case l5=>k_is)
  (case c5=>k_is)
  (case k5=>k_is)
  (case a6=>k_is)
  (case l6=>k_is)
  (case c6=>k_is)
  (case k6=>k_is)
  (case a7=>k_is)
  (case l7=>k_is)
  (case c7=>k_is)
  (case k7=>k_is)
  (case a8=>k_is)
  (case l8=>k_is)
  (case c8=>k_is)
  (case k8=>k_is)
  (case a9=>k_is)
  (case l9=>k_is)
  (case c9=>k_is)
  (case k9=>k_is)
  (case a10=>k_is)
  (case l10=>k_is)
  (case c10=>k_is)
  (case k10=>k_is)
  (case a11=>k_is)
  (case l11=>k_is)
  (case c11=>k_is)
  (case k11=>k_is)
  (case a12=>k_is)
  (case l12=>k_is)
  (case c12=>k_is)
  (case k12=>k_is)
  (case a13=>k_is)
  (case l13=>k_is)
  (case c13=>k_is)
  (case k13=>k_is)
  (case a14=>k_is)
  (case l14=>k_is)
  (case c14=>k_is)
  (case k14=>k_is)
  (case a15=>k_is)
  (case l15=>k_is)
  (case c15=>k_is)
  (case k15=>k_is)
  (case a16=>k_is)
  (case l16=>k_is)
  (case c16=>k_is)
  (case k16=>k_is)
  (case a17=>k_is)
  (case l17=>k_is)
  (case c17=>k_is)
  (case k17=>k_is)
  (case a18=>k_is)
  (case l18=>k_is)
  (case c18=>k_is)
  (case k18=>k_is)
  (case a19=>k_is)
  (case l19=>k_is)
  (case c19=>k_is)
  (case k19=>k_is)
  (case a20=>k_is)
  (case l20=>k_is)
  (case c20=>k_is)
  (case k20=>k_is)
  (case a21=>k_is)
  (case l21=>k_is)
  (case c21=>k_is)
  (case k21=>k_is)
  (case a22=>k_is)
  (case l22=>k_is)
  (case c22=>k_is)
  (case k22=>k_is)
  (case a23=>k_is)
  (case l23=>k_is)
  (case c23=>k_is)
  (case k23=>k_is)
  (case a24=>k_is)
  (case l24=>k_is)
  (case c24=>k_is)
  (case k24=>k_is)
  (case a25=>k_is)
  (case l25=>k_is)
  (case c25=>k_is)
  (case k25=>k_is)
  (case a26=>k_is)
  (case l26=>k_is)
  (case c26=>k_is)
  (case k26=>k_is)
  (case a27=>k_is)
  (case l27=>k_is)
  (case c27=>k_is)
  (case k27=>k_is)
  (case a28=>k_is)
  (case l28=>k_is)
  (case c28=>k_is)
  (case k28=>k_is)
  (case a29=>k_is)
  (case l29=>k_is)
  (case c29=>k_is)
  (case k29=>k_is)
  (case a30=>k_is)
  (case l30=>k_is)
  (case c30=>k_is)
  (case k30=>k_is)
  (case a31=>k_is)
  (case l31=>k_is)
  (case c31=>k_is)
  (case k31=>k_is)
  (case a32=>k_is)
  (case l32=>k_is)
  (case c32=>k_is)
  (case k32=>k_is)
  (case a33=>k_is)
  (case l33=>k_is)
  (case c33=>k_is)
  (case k33=>k_is)
  (case a34=>k_is)
  (case l34=>k_is)
  (case c34=>k_is)
  (case k34=>k_is)
  (case a35=>k_is)
  (case l35=>k_is)
  (case c35=>k_is)
  (case k35=>k_is)
  (case a36=>k_is)
  (case l36=>k_is)
  (case c36=>k_is)
  (case k36=>k_is)
  (case z1=>k_is)
  (case z2=>k_is)
  (case z3=>k_is)
  (case z4=>k_is)
  (case z5=>k_is)
  (case z6=>k_is)
  (case z7=>k_is)
  (case z8=>k_is)
  (case z9=>k_is)
  (case z10=>k_is)
  (case z11=>k_is)
  (case z12=>k_is)
