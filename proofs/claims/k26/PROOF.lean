import PyProof.Rows.All
import Wide.All
import OpenK.AllK
import Wide.FinOn
import Lean
import PyProof.EqAt
import PyProof.EqKinds
import PyProof.TupleCall
import KE.KRevSl
import PySem.Challenge.RW_bestcalls_k26_quarrels_stay_in_lesser_ca
set_option genSizeOf false
set_option Elab.async false
set_option linter.all false
set_option maxRecDepth 100000
noncomputable section
open Option renaming bind_eq_some_iff→qA,bind_some→qG,map_eq_some_iff→qH,map_some→qAx,isSome_some→qCO,isSome_map→qCS
open PySem.W renaming Frag→qB,keepIn→qV,nsIn→qX,codeIn→qZ,fnOf→qf,mg_of→qh,mg_none_of→qAJ,kia_one→qAR,cellsFrom_some→qB5,kitx_list→qCM,kitx_dict→qCN
open PySem.Heap renaming get?_push_of_some→qC,lt_size→qL,get?_push_size→qU,size_push→qAL,get?_update_self→qBW,get?_update_other→qCK
open PySem renaming wpAny_bind→qD,Expr→qM,mainGlobals→qO,wpAny_pure→qc,sizeLine→qd,Pos→qp,FuncData→qAC,starEach→qAE,mem_of_lookup→qAF,wpAny_setField_rec→qAM,wpAny_seqItems→qAO,wpAny_field→qAU,wpAny_pyIter_tuple→qAb,wpAny_callSpecial?_slot→qAf,wpAny_pyIter_list→qAo,wpAny_call_entry→qAy,wpAny_onRaise→qA1,wpAny_getItem_str_slice→qA2,wpAny_truthy_bool→qA7,wpAny_passesOwn→qBG,wpAny_mono→qBQ,wpAny_standAt→qBY,wpAny_letGo→qBZ,wpAny_pyIter_zip→qBb,post_val_or_str→qBg,codeAny_mono→qBh,wpAny_updateSeq_pair→qBk,wpAny_holding→qBq,wpAny_attempt→qBr,wpAny_Call_Name_kw→qBs,tupleKind_room_in1→qBt,wpAny_rule→qB1,wpAny_newObj_type→qB2,noFill_tuple_add→qCB,wpAny_execs_nil→qCH,sizeLine_eq→qCI,wpAny_letOwnedTupleGo_zip→qCL
open List renaming length_map→qE,getElem?_eq_getElem→qF,mem_cons_of_mem→qI,length_append→qJ,mem_cons→qN,size_toArray→qP,getElem?_eq_some_iff→qR,getElem?_set_ne→qS,mem_append_right→qW,getElem?_map→qY,length_cons→qa,getD_eq_getElem?_getD→qb,map_cons→qe,mem_cons_self→qg,getElem?_set_self→ql,getElem?_append_left→qm,getElem?_append_right→qq,length_set→qr,mem_singleton→qu,mem_append_left→qv,not_mem_nil→qw,mem_filter→qx,map_append→qy,lookup_cons→qz,mem_append→qAB,drop_eq_getElem_cons→qAH,nodup_cons→qAI,all_eq_true→qAN,append_nil→qAS,getElem_mem→qAZ,length_eq_zero_iff→qAc,length_range→qAd,drop_length→qAg,mem_map→qAj,getElem?_cons_zero→qAl,getElem?_cons_succ→qAm,any_cons→qAn,take_append_of_le_length→qAq,length_replicate→qAr,mem_range→qAt,any_eq_true→qAv,of_mem_zip→qAz,find?_cons→qA0,length_filter_le→qA4,mem_flatMap→qA6,mem_of_getElem?→qA8,all_cons→qA9,map_congr_left→qBA,length_zip→qBB,filterMap_cons→qBC,pairwise_iff_getElem→qBF,nodup_append→qBI,append_assoc→qBJ,getElem?_replicate→qBL,length_take→qBN,map_nil→qBR,map_map→qBS,getElem?_eq_none→qBT,forIn_cons→qBU,any_map→qBV,nodup_nil→qBc,getElem_of_mem→qBf,mem_filterMap→qBi,foldl_append→qBm,zipIdx_cons→qBo,take_length→qBp,zipIdx_nil→qBx,length_nil→qBy,foldl_cons→qBz,mem_take_iff_getElem→qB6,mem_or_eq_of_mem_set→qB7,forIn_nil→qB8,mem_of_mem_take→qCQ,getElem?_range→qCT,filter_sublist→qCU
open Bool renaming false_ne_true→qK,and_eq_true→qt,eq_iff_iff→qAe,false_eq_true→qBj,false_or→qCG,or_eq_true_iff→qCV
open Nat renaming le_refl→qQ,ne_of_lt→qj,lt_of_lt_of_le→qk,zero_le→qAP,le_trans→qAQ,le_add_right→qAT,lt_irrefl→qAp,ne_of_gt→qA5,min_le_left→qBD,lt_of_le_of_lt→qBl,le_of_succ_le→qBn,succ_le_succ→qBu,add_sub_cancel_left→qCJ,le_of_lt→qCP
open Option.some renaming inj→qT
open PySem.Builtin.SmallTypes renaming nextOf→qi
open PySem.PassesOwn renaming never→qo
open PySem.PyData renaming eqv→qAA,depthAll→qAG,canLayAll0→qAi,strOk→qBP
open PySem.Str renaming ofString→qAD
open PySem.SeqAt renaming shaped→qAK,canLay_of_shaped→qAV
open Ne renaming symm→qAW
open PySem.F renaming type_list_append→qAX,slot_list_append→qAY,plainAttrs_list→qAa,slot_zip_next→qAk,slot_tuple_iterator_next→qAu,args_tuple_add_2→qBE,entry_tuple_add→qBH,slot_tuple_add→qBK,args_zip_next_1→qBO,entry_zip_next→qBX,type_dict_update→qBv,slot_dict_update→qBw,plainAttrs_dict→qB3,args_tuple_iterator_next_1→qCA,entry_tuple_iterator_next→qCE
open Int renaming emod_lt_of_pos→qAh,emod_nonneg→qAs,toNat_natCast→qA3
open PySem.Heap.IsTuple renaming push→qAw
open PySem.Heap.SameBut renaming update→qBM
open Sum.inr renaming inj→qBa
open PyProof.Rows renaming callWith_type1→qBd
open PySem.Paired renaming length→qBe
open PySem.Calls renaming Name_function_global→qB0
open Array renaming getElem?_eq_getElem→qB4,length_toList→qCR
open List.Sublist renaming refl→qB9
open PySem.SeqAt.EqAt renaming str_int→qCC,int_str→qCD
open PySem.Heap.IsList renaming push→qCF
namespace L2
open PySem PySem.Spec PyProof.Rows
noncomputable abbrev Key:=Sum Int Str
noncomputable def zaal:Key→Value→Bool
 | .inl k,v=>Value.isInt k v
 | .inr x,v=>Value.isStrOf x v
noncomputable def keyH (w:World):Key→Int
 | .inl k=>hashInt k
 | .inr x=>hashStr w x
theorem zdk:∀ {k:Key} {v:Value},zaal k v=true→(∃ i t,k=Sum.inl i∧v=Value.int i t)∨(∃ x t,k=Sum.inr x∧v=Value.str x t)
 | .inl i,v,h=>by
  obtain ⟨t,e⟩:=Value.isInt_shape (k:=i) (v:=v) h
  exact .inl ⟨i,t,rfl,e⟩
 | .inr x,v,h=>by
  obtain ⟨t,e⟩:=Value.isStrOf_shape (x:=x) (v:=v) h
  exact .inr ⟨x,t,rfl,e⟩
theorem zacb (i:Int) (t:Tok):zaal (.inl i) (.int i t)=true:=by simp [zaal,Value.isInt]
theorem zacc (x:Str) (t:Tok):zaal (.inr x) (.str x t)=true:=by simp [zaal,Value.isStrOf]
theorem zamg (a b:Int):decide ((Sum.inl a:Key)=Sum.inl b)=(a==b):=by
 by_cases e:a=b
 ·subst e;simp
 ·have h:¬ (Sum.inl a:Key)=Sum.inl b:=fun q=>e (Sum.inl.inj q)
  rw [decide_eq_false h]
  exact (beq_eq_false_iff_ne.mpr e).symm
theorem zamh (a b:Str):decide ((Sum.inr a:Key)=Sum.inr b)=decide (a=b):=by
 by_cases e:a=b
 ·subst e;simp
 ·have h:¬ (Sum.inr a:Key)=Sum.inr b:=fun q=>e (qBa q)
  rw [decide_eq_false h,decide_eq_false e]
theorem zami (a:Int) (b:Str):decide ((Sum.inl a:Key)=Sum.inr b)=false:=decide_eq_false (fun q=>nomatch q)
theorem zamj (a:Str) (b:Int):decide ((Sum.inr a:Key)=Sum.inl b)=false:=decide_eq_false (fun q=>nomatch q)
noncomputable def zdw (prog:Program) (w:World):PySem.KeyKind prog w Key where
 is:=zaal
 hash:=keyH w
 inj:=fun v a b ha hb=>by
  rcases zdk ha with ⟨i,t,rfl,rfl⟩|⟨x,t,rfl,rfl⟩
  ·rcases zdk hb with ⟨j,u,rfl,e⟩|⟨y,u,rfl,e⟩
   ·injection e with e1 _;rw [e1]
   ·exact nomatch e
  ·rcases zdk hb with ⟨j,u,rfl,e⟩|⟨y,u,rfl,e⟩
   ·exact nomatch e
   ·injection e with e1 _;rw [e1]
 byValue:=fun k v h=>by
  rcases zdk h with ⟨i,t,rfl,rfl⟩|⟨x,t,rfl,rfl⟩<;>rfl
 pyHash:=fun hv h=>by
  rcases zdk hv with ⟨i,t,rfl,rfl⟩|⟨x,t,rfl,rfl⟩
  ·exact wpAny_pyHash_int h
  ·exact wpAny_pyHash_str h
 eqBool:=fun hu hv h=>by
  rcases zdk hu with ⟨i,t,rfl,rfl⟩|⟨x,t,rfl,rfl⟩
  ·rcases zdk hv with ⟨j,u,rfl,rfl⟩|⟨y,u,rfl,rfl⟩
   ·rw [zamg] at h;exact wpAny_eqBool_int h
   ·rw [zami] at h;exact qCD i t y u _ _ _ _ h
  ·rcases zdk hv with ⟨j,u,rfl,rfl⟩|⟨y,u,rfl,rfl⟩
   ·rw [zamj] at h;exact qCC x t j u _ _ _ _ h
   ·rw [zamh] at h;exact wpAny_eqBool_str h
 «strs»:=fun k x t v h=>by
  rcases zdk h with ⟨i,u,rfl,e⟩|⟨y,u,rfl,e⟩
  ·exact nomatch e
  ·injection e with e1 _
   subst e1
   cases v<;>rfl
theorem zxj (prog:Program) (w:World) (i:Int) (t:Tok):(zdw prog w).is (.inl i) (.int i t)=true:=zacb i t
theorem zxk (prog:Program) (w:World) (x:Str) (t:Tok):(zdw prog w).is (.inr x) (.str x t)=true:=zacc x t
inductive V where
 | non|bl (b:Bool)|int (i:Int)|str (x:Str)|byt (b:Array UInt8)|flt (b:UInt64)|ref (a:Addr)|ty (n:String)
 deriving DecidableEq
noncomputable def RelV:V→Value→Prop
 | .non,u=>u=Value.none
 | .bl b,u=>u=Value.bool b
 | .int i,u=>∃ t,u=Value.int i t
 | .str x,u=>∃ t,u=Value.str x t
 | .byt b,u=>∃ t,u=Value.bytes b t
 | .flt b,u=>∃ t,u=Value.float b t
 | .ref a,u=>u=Value.ref a
 | .ty n,u=>u=Value.type n
noncomputable abbrev Vals:List V→List Value→Prop:=Paired RelV
theorem Vals.length {xs:List V} {us:List Value} (r:Vals xs us):xs.length=us.length:=qBe r
theorem Vals.get:∀ {xs:List V} {us:List Value} {i:Nat} {x:V},Vals xs us→xs[i]?=some x→∃ u,us[i]?=some u∧RelV x u
 | _,_,_,_,.nil,e=>by simp at e
 | _,_,0,_,.cons r _,e=>by simp at e;subst e;exact ⟨_,rfl,r⟩
 | _,_,i+1,x,.cons _ t,e=>by
  obtain ⟨u,h1,h2⟩:=Vals.get (i:=i) (x:=x) t (by simpa using e)
  exact ⟨u,by simpa using h1,h2⟩
theorem Vals.set {x:V} {u:Value} (r:RelV x u):∀ {xs:List V} {us:List Value} (i:Nat),Vals xs us→Vals (xs.set i x) (us.set i u)
 | _,_,_,.nil=>.nil
 | _,_,0,.cons _ t=>.cons r t
 | _,_,i+1,.cons q t=>.cons q (Vals.set r i t)
theorem Vals.append:∀ {xs ys:List V} {us ws:List Value},Vals xs us→Vals ys ws→Vals (xs++ys) (us++ws)
 | _,_,_,_,.nil,s=>s
 | _,_,_,_,.cons r t,s=>.cons r (Vals.append t s)
theorem Vals.take:∀ {xs:List V} {us:List Value} (n:Nat),Vals xs us→Vals (xs.take n) (us.take n)
 | _,_,0,_=>.nil
 | _,_,_+1,.nil=>.nil
 | _,_,n+1,.cons r t=>.cons r (Vals.take n t)
theorem Vals.drop:∀ {xs:List V} {us:List Value} (n:Nat),Vals xs us→Vals (xs.drop n) (us.drop n)
 | _,_,0,r=>r
 | _,_,_+1,.nil=>.nil
 | _,_,n+1,.cons _ t=>Vals.drop n t
noncomputable def RelO:Option V→Option Value→Prop
 | some v,some u=>RelV v u
 | none,none=>True
 | _,_=>False
noncomputable def KV {κ:Type}:List (κ×V)→List (κ×Value)→Prop:=Paired fun (p:κ×V) (q:κ×Value)=>p.1=q.1∧RelV p.2 q.2
noncomputable def kV:Key→V
 | .inl i=>.int i
 | .inr x=>.str x
inductive HO where
  | lst (xs:List V)
  | tup (xs:List V)
  | dK (kvs:List (Key×V))|dT (kvs:List (List Key×V))
  | set (S:Int→Bool) (n:Nat)
  | ins (C dx:Addr) (fs:List (Str×V))
  | own (x:Addr)
  | xd (fs:List (Str×V))
  | met (f x:Addr)
  | rng (lo hi:Int)
  | frz (o:Obj) (u:HO)
  | tbl (ps:Array Value)
  | ext (φ:Heap→Prop)
noncomputable abbrev Hp:=Addr→Option HO
noncomputable def upd (H:Hp) (a:Addr) (o:HO):Hp:=fun b=>if b=a then some o else H b
theorem zbe {H:Hp} {a:Addr} {o:HO}:upd H a o a=some o:=by unfold upd;rw [if_pos rfl]
theorem zbk {H:Hp} {a b:Addr} {o:HO} (h:b≠a):upd H a o b=H b:=by unfold upd;rw [if_neg h]
theorem zapf {H:Hp} {a b:Addr} {o u:HO} (h:H a=some o) (h':H b=some u) (d:o≠u):a≠b:=by
 intro e;subst e;rw [h] at h';exact d (qT h')
theorem zbs {H:Hp} {a b:Addr} {o:HO} (h:H a=some o) (h':H b=none):a≠b:=by
 intro e;subst e;rw [h] at h';cases h'
section
variable (P:Program) (w:World)
noncomputable def zfw (H:Hp) (h:Heap) (a:Addr):HO→Prop
 | .lst xs=>xs.length≤qd∧∃ (its:List Value) (n:Nat),Vals xs its∧h.get? a=some {cls:=.type "list",data:=.seq its.toArray n}
 | .tup xs=>xs.length≤qd∧∃ its:List Value,Vals xs its∧IsTup h a its.toArray
 | .dK kvs=>kvs.length≤qd∧(a==sysModules)=false∧∃ vs,KV kvs vs∧h.DictOf (zdw P w) a vs
 | .dT kvs=>kvs.length≤qd∧(a==sysModules)=false∧∃ xs:List (List Key×Addr×Value),
   Paired (fun (p:List Key×V) (q:List Key×Addr×Value)=>p.1=q.1∧H q.2.1=some (.tup (p.1.map kV))∧RelV p.2 q.2.2) kvs xs ∧
   ∃ o es ep,h.get? a=some o∧o.ExactDict∧o.data=.dict es ep∧es.toList=xs.map (entryOfKey (tupleKind (zdw P w)))∧(xs.map (·.1)).Nodup
 | .set S n=>h.SetOf (intKind P w) a S n
 | .ins C dx fs=>H dx=some (.own a)∧fs.length≤1000∧dx≠a∧h.get? a=some (PySem.W.instObj C dx) ∧
   ∃ mA,h.Ns1 dx mA∧(∀ f,RelO (fs.lookup f) (mA f))∧PySem.Within mA (fs.map (·.1))
 | .own _=>∃ o,h.get? a=some o
 | .xd fs=>∃ mA,h.Ns1 a mA∧∀ f,RelO (fs.lookup f) (mA f)
 | .rng lo hi=>∃ t u v,h.get? a=some {cls:=.type "range",data:=.fields #[.int lo t,.int hi u,.int 1 v]}
 | .frz o u=>h.get? a=some o∧zfw H h a u
 | .tbl ps=>h.get? a=some {cls:=.none,data:=.fields ps}
 | .met f x=>h.get? a=some (PySem.W.methodObj (.ref f) (.ref x))
 | .ext φ=>φ h∧(∃ o,h.get? a=some o)∧∀ h1 h2:Heap,φ h1→(∀ o,h1.get? a=some o→h2.get? a=some o)→φ h2
noncomputable def HOk (H:Hp) (h:Heap):Prop:=∀ a o,H a=some o→zfw P w H h a o
end
section
variable {P:Program} {w:World} {H H':Hp} {h h':Heap} {a:Addr} {o:HO}
theorem zfw.lt (x:zfw P w H h a o):a<h.objs.size:=by
 cases o with
 | lst xs=>obtain ⟨_,_,_,_,e⟩:=x;exact qL e
 | tup xs=>obtain ⟨_,_,_,p⟩:=x;exact p.lt
 | dK kvs=>obtain ⟨_,_,_,_,o,_,_,e,_⟩:=x;exact qL e
 | dT kvs=>obtain ⟨_,_,_,_,o,_,_,e,_⟩:=x;exact qL e
 | set S n=>obtain ⟨o,_,_,_,e,_⟩:=x;exact qL e
 | ins C dx fs=>obtain ⟨_,_,_,e,_⟩:=x;exact qL e
 | own y=>obtain ⟨_,e⟩:=x;exact qL e
 | xd fs=>obtain ⟨_,⟨_,_,_,e,_⟩,_⟩:=x;exact qL e
 | rng lo hi=>obtain ⟨_,_,_,e⟩:=x;exact qL e
 | frz ob u=>obtain ⟨e,_⟩:=x;exact qL e
 | tbl ps=>exact qL (show h.get? a=some _ from x)
 | met f y=>exact qL (show h.get? a=some _ from x)
 | ext φ=>obtain ⟨_,⟨_,e⟩,_⟩:=x;exact qL e
theorem Paired.mapP {α β:Type} {F G:α→β→Prop}:∀ {l₁:List α} {l₂:List β},Paired F l₁ l₂→(∀ a b,F a b→G a b)→Paired G l₁ l₂
 | _,_,.nil,_=>.nil
 | _,_,.cons r t,f=>.cons (f _ _ r) (Paired.mapP t f)
theorem zfw.stay (x:zfw P w H h a o) (k:∀ b u,(b=a∨H b=some (.own a))→h.get? b=some u→h'.get? b=some u)
  (ho:∀ b,H b=some (.own a)→H' b=some (.own a)) (ht:∀ b xs,H b=some (.tup xs)→H' b=some (.tup xs)):zfw P w H' h' a o:=by
 induction o with
 | lst xs=>obtain ⟨z,its,n,r,e⟩:=x;exact ⟨z,its,n,r,k _ _ (.inl rfl) e⟩
 | tup xs=>obtain ⟨z,its,r,ob,e,c⟩:=x;exact ⟨z,its,r,ob,k _ _ (.inl rfl) e,c⟩
 | dK kvs=>obtain ⟨z,y,vs,r,ob,es,ep,e,c⟩:=x;exact ⟨z,y,vs,r,ob,es,ep,k _ _ (.inl rfl) e,c⟩
 | dT kvs =>
  obtain ⟨z,y,xs,r,ob,es,ep,e,c⟩:=x
  exact ⟨z,y,xs,Paired.mapP r fun p q z=>⟨z.1,ht _ _ z.2.1,z.2.2⟩,ob,es,ep,k _ _ (.inl rfl) e,c⟩
 | set S n=>obtain ⟨ob,es,ep,t,e,c⟩:=x;exact ⟨ob,es,ep,t,k _ _ (.inl rfl) e,c⟩
 | ins C dx fs =>
  obtain ⟨d,z,ne,e,mA,⟨od,es,ep,e2,c⟩,r⟩:=x
  exact ⟨ho _ d,z,ne,k _ _ (.inl rfl) e,mA,⟨od,es,ep,k _ _ (.inr d) e2,c⟩,r⟩
 | own y=>obtain ⟨ob,e⟩:=x;exact ⟨ob,k _ _ (.inl rfl) e⟩
 | xd fs=>obtain ⟨mA,⟨od,es,ep,e,c⟩,r⟩:=x;exact ⟨mA,⟨od,es,ep,k _ _ (.inl rfl) e,c⟩,r⟩
 | rng lo hi=>obtain ⟨t,u,v,e⟩:=x;exact ⟨t,u,v,k _ _ (.inl rfl) e⟩
 | frz ob u ih=>obtain ⟨e,q⟩:=x;exact ⟨k _ _ (.inl rfl) e,ih q⟩
 | tbl ps =>
  have e:h.get? a=some {cls:=.none,data:=.fields ps}:=x
  show h'.get? a=some {cls:=.none,data:=.fields ps}
  exact k a _ (.inl rfl) e
 | met f y =>
  have e:h.get? a=some (PySem.W.methodObj (.ref f) (.ref y)):=x
  show h'.get? a=some (PySem.W.methodObj (.ref f) (.ref y))
  exact k a _ (.inl rfl) e
 | ext φ=>obtain ⟨p,⟨o,e⟩,st⟩:=x;exact ⟨st _ _ p fun o q=>k _ _ (.inl rfl) q,⟨o,k _ _ (.inl rfl) e⟩,st⟩
theorem HOk.lt (x:HOk P w H h) (e:H a=some o):a<h.objs.size:=(x a o e).lt
theorem HOk.fresh (x:HOk P w H h) (e:h.objs.size≤a):H a=none:=by
 cases q:H a with
 | none=>rfl
 | some u=>exact absurd (qk (x.lt q) e) (qAp _)
theorem HOk.kept (x:HOk P w H h) (k:∀ b u,h.get? b=some u→h'.get? b=some u):HOk P w H h':=fun a o e =>
 (x a o e).stay (fun b u _ q=>k b u q) (fun _ q=>q) fun _ _ q=>q
theorem HOk.laid (x:HOk P w H h) (k:∀ b u,h.get? b=some u→h'.get? b=some u) (hp:h.objs.size≤a) (new:zfw P w (upd H a o) h' a o):HOk P w (upd H a o) h':=fun b u e=>by
 have hn:=x.fresh hp
 by_cases hb:b=a
 ·subst hb;rw [zbe] at e;cases e;exact new
 ·rw [zbk hb] at e
  exact (x b u e).stay (fun c v _ q=>k c v q) (fun c q=>by rw [zbk (zbs q hn)];exact q) fun c xs q=>by rw [zbk (zbs q hn)];exact q
end
noncomputable def Rd (H:Hp) (a:Addr) (u:HO):Prop:=H a=some u∨∃ o,H a=some (.frz o u)
theorem Rd.ok {P:Program} {w:World} {H:Hp} {h:Heap} {a:Addr} {u:HO} (r:Rd H a u) (x:HOk P w H h):zfw P w H h a u:=by
 rcases r with r|⟨o,r⟩
 ·exact x a u r
 ·obtain ⟨_,q⟩:=x a _ r
  exact q
noncomputable def Mut:Option HO→Prop
 | some (.lst _)=>True
 | some (.dK _)=>True
 | some (.dT _)=>True
 | some (.set _ _)=>True
 | some (.ins _ _ _)=>True
 | some (.ext _)=>True
 | _=>False
section
variable {P:Program} {w:World} {H:Hp} {h h':Heap} {x e:Addr} {o':HO}
theorem HOk.write (ok:HOk P w H h) (mu:Mut (H x)) (he:e=x∨H e=some (.own x)) (k:∀ b u,b≠e→h.get? b=some u→h'.get? b=some u) (heo:∃ u,h'.get? e=some u)
  (new:zfw P w (upd H x o') h' x o'):HOk P w (upd H x o') h':=fun b u q=>by
 have nown:∀ c y,H c=some (.own y)→c≠x:=fun c y r z=>by subst z;rw [r] at mu;exact mu
 have ntup:∀ c xs,H c=some (.tup xs)→c≠x:=fun c xs r z=>by subst z;rw [r] at mu;exact mu
 by_cases hb:b=x
 ·subst hb;rw [zbe] at q;cases q;exact new
 ·rw [zbk hb] at q
  by_cases hbe:b=e
  ·have q':H b=some (.own x):=by
    rcases he with z|z
    ·exact absurd (hbe.trans z) hb
    ·rw [hbe];exact z
   rw [q] at q';cases q'
   obtain ⟨v,hv⟩:=heo
   exact ⟨v,by rw [hbe];exact hv⟩
  ·refine (ok b u q).stay (fun c v hc r=>k c v ?_ r) (fun c r=>by rw [zbk (nown c b r)];exact r) fun c xs r=>by rw [zbk (ntup c xs r)];exact r
   rcases hc with rfl|hc
   ·exact hbe
   ·rintro rfl
    rcases he with z|z
    ·exact nown c b hc z
    ·rw [hc] at z;cases z;exact hb rfl
end
set_option genInjectivity false in
structure Un (fs ex:List Addr) (H H':Hp) (h h':Heap):Prop where
 keep:∀ b o,h.get? b=some o→H b=none→b∉fs→b∉ex→h'.get? b=some o
 slot:∀ b o,h.get? b=some o→H b=none→b∈fs→b∉ex→∃ sl,h'.get? b=some {o with slots:=sl}
 free:∀ b o,h.get? b=some o→H b=none→b∉ex→H' b=none
 there:∀ b o,h.get? b=some o→b∉ex→∃ o',h'.get? b=some o'
 tups:∀ b xs,H b=some (.tup xs)→H' b=some (.tup xs)
 frzs:∀ b o u,H b=some (.frz o u)→H' b=some (.frz o u)
 tbls:∀ b ps,H b=some (.tbl ps)→∃ more,H' b=some (.tbl (ps++more))
section
variable {fs fs' ex ex':List Addr} {H H1 H2:Hp} {h h1 h2 h':Heap} {a x e:Addr} {o:HO}
theorem Un.any (u:Un fs ex H H1 h h1) {b:Addr} {ob:Obj} (q:h.get? b=some ob) (n:H b=none) (hx:b∉ex):∃ sl,h1.get? b=some {ob with slots:=sl}:=by
 by_cases hb:b∈fs
 ·exact u.slot b ob q n hb hx
 ·exact ⟨ob.slots,u.keep b ob q n hb hx⟩
theorem Un.kept (k:∀ b u,h.get? b=some u→h'.get? b=some u):Un fs ex H H h h' :=
 ⟨fun b ob q _ _ _=>k b ob q,fun b ob q _ _ _=>⟨ob.slots,k b ob q⟩,fun _ _ _ n _=>n,fun b ob q _=>⟨ob,k b ob q⟩,fun _ _ q=>q,fun _ _ _ q=>q,fun _ ps q=>⟨#[],by rw [q];simp⟩⟩
theorem Un.refl:Un fs ex H H h h:=Un.kept fun _ _ q=>q
theorem Un.laid (k:∀ b u,h.get? b=some u→h'.get? b=some u) (hp:h.objs.size≤a) (hn:H a=none):Un fs ex H (upd H a o) h h' where
 keep:=fun b u q _ _ _=>k b u q
 slot:=fun b u q _ _ _=>⟨u.slots,k b u q⟩
 free:=fun b u q n _=>by rw [zbk (qj (qk (qL q) hp))];exact n
 there:=fun b u q _=>⟨u,k b u q⟩
 tups:=fun b xs q=>by rw [zbk (zbs q hn)];exact q
 frzs:=fun b u xs q=>by rw [zbk (zbs q hn)];exact q
 tbls:=fun b ps q=>⟨#[],by rw [zbk (zbs q hn),q];simp⟩
theorem Un.write (mu:Mut (H x)) (he:e=x∨H e=some (.own x)) (k:∀ b u,b≠e→h.get? b=some u→h'.get? b=some u) (heo:∃ u,h'.get? e=some u):Un fs ex H (upd H x o) h h':=by
 have hx:∀ b,H b=none→b≠x:=fun b n z=>by subst z;rw [n] at mu;exact mu
 have hb:∀ b,H b=none→b≠e:=fun b n z=>by
  subst z
  rcases he with r|r
  ·exact hx b n r
  ·rw [n] at r;cases r
 have hm:∀ b u,H b=some u→¬ Mut (some u)→b≠x:=fun b u q nm z=>by subst z;rw [q] at mu;exact nm mu
 refine ⟨fun b u q n _ _=>k b u (hb b n) q,fun b u q n _ _=>⟨u.slots,k b u (hb b n) q⟩,fun b u q n _=>by rw [zbk (hx b n)];exact n,fun b u q _=>?_,
  fun b xs q=>by rw [zbk (hm b _ q fun z=>z)];exact q,fun b u xs q=>by rw [zbk (hm b _ q fun z=>z)];exact q,fun b ps q=>⟨#[],by rw [zbk (hm b _ q fun z=>z),q];simp⟩⟩
 by_cases hbe:b=e
 ·subst hbe;exact heo
 ·exact ⟨u,k b u hbe q⟩
end
noncomputable def trk (h:Heap) (H:Hp):List Addr:=(List.range h.objs.size).filter fun a=>(H a).isSome
noncomputable def hidT (h:Heap) (H:Hp):Heap:=PySem.W.hideAll h (trk h H)
theorem zacd (h:Heap) (H:Hp):(hidT h H).objs.size=h.objs.size:=PySem.W.hideAll_size _ _
theorem zafv {h:Heap} {H:Hp} {b:Addr} {o:Obj} (e:h.get? b=some o) (n:H b=none):(hidT h H).get? b=some o :=
 PySem.W.hideAll_get _ e fun hm=>by
  have q:(H b).isSome=true:=(qx.mp hm).2
  rw [n] at q;simp at q
theorem zajq {h:Heap} {H:Hp} {b:Addr} {o:Obj} (e:(hidT h H).get? b=some o):h.get? b=some o∧H b=none:=by
 have e':h.get? b=some o:=PySem.W.of_hideAll (trk h H) e
 refine ⟨e',?_⟩
 cases q:H b with
 | none=>rfl
 | some x =>
  have hm:b∈trk h H:=qx.mpr ⟨qAt.mpr (qL e'),by simp [q]⟩
  have z:(hidT h H).get? b=none:=PySem.W.hideAll_none (trk h H) hm
  rw [z] at e;cases e
set_option genInjectivity false in
structure Mod (K:qB) (mg:Str→Option Value) (base:Heap):Prop where
 kin:K.In base
 glob:base.Ns qO mg
 blt:∃ mb,base.Ns builtinsNs mb∧∀ x:Str,x ≠ "__name__" → mb x=bootBuiltins x
 nolimit:base.NoLimit
set_option genInjectivity false in
structure Cx where
 prog:Program
 w:World
 K:qB
 mg:Str→Option Value
 base:Heap
 A:Around
 N:List Str
 s₀:Shared
 H₀:Hp
 env:Env
 outer:List Env
 stack:List Env
 ex:List Addr
 fn:Str→Bool
 calm:Bool
 pn:List (Addr×Obj)
 xe:Value→Shared→Prop
noncomputable def frs (l:List Env):List Addr:=l.filterMap (·.frame)
noncomputable abbrev Cx.fs (X:Cx):List Addr:=frs X.outer
noncomputable def Vis (sc:Scope) (x:Str):Prop:=sc.names.lookup x=some .local∨sc.names.lookup x=some .cell∨sc.names.lookup x=some .free
noncomputable def visB (sc:Scope) (x:Str):Bool:=match sc.names.lookup x with
 | some .local=>true
 | some .cell=>true
 | some .free=>true
 | _=>false
theorem visB.of {sc:Scope} {x:Str} (h:visB sc x=true):Vis sc x:=by
 unfold visB at h
 cases e:sc.names.lookup x with
 | none=>rw [e] at h;cases h
 | some k=>rw [e] at h;cases k<;>first|exact .inl e|exact .inr (.inl e)|exact .inr (.inr e)|cases h
noncomputable def Loc (sc:Scope) (x:Str):Prop:=sc.names.lookup x=some .local∨sc.names.lookup x=some .cell
noncomputable def Look (env:Env) (h:Heap) (m:Str→Option Value) (x:Str) (u:Value):Prop :=
 (env.kindOf x=some .local∧m x=some u)∨((env.kindOf x=some .cell∨env.kindOf x=some .free)∧∃ c,env.cells.lookup x=some c∧h.IsCell c (some u))
set_option genInjectivity false in
structure Cx.Ok (X:Cx):Prop where
 mod:Mod X.K X.mg X.base
 kind:X.env.scope.kind=.function
 glob:X.env.globals=qO
 blt:X.env.builtins=builtinsNs
 above:X.s₀.heap.objs.size≤X.env.locals
 inj:∀ x y c,X.env.cells.lookup x=some c→X.env.cells.lookup y=some c→x=y
 has:∀ x,(X.env.kindOf x=some .cell∨X.env.kindOf x=some .free)→∃ c,X.env.cells.lookup x=some c
 cab:∀ x c,X.fn x=true→X.env.cells.lookup x=some c→X.s₀.heap.objs.size≤c
 hd:X.calm=true→X.A.handled=none
 frames:X.A.frames=some X.stack
 stk:X.stack=X.outer∨(X.stack=X.env::X.outer∧X.env.frame=some X.env.locals)
 exf:∀ b∈X.ex,b≠X.env.locals∧∀ x c,X.env.cells.lookup x=some c→c≠b
 bs:∀ b o,X.base.get? b=some o→X.s₀.heap.get? b=some o∧X.H₀ b=none
 bsz:X.base.objs.size≤X.s₀.heap.objs.size
 noex:∀ b o,X.base.get? b=some o→b∉X.ex
 exfs:∀ b∈X.ex,b∉X.fs
 funs:X.s₀.heap.FunFrames X.base X.outer
 frf:∀ b∈X.fs,X.H₀ b=none
set_option genInjectivity false in
structure Inv (X:Cx) (pins:List (Addr×Obj)) (σ:List (Option V)) (H:Hp) (s:Shared):Prop where
 ok:X.Ok
 os:s.os=X.s₀.os
 bare:AllBare s.gens
 base:Un X.fs X.ex X.H₀ H X.s₀.heap s.heap
 loc:∃ m,s.heap.Ns X.env.locals m∧∀ (i:Nat) (x:Str) (v:V),X.N[i]?=some x→σ[i]?=some (some v)→Vis X.env.scope x→∃ u,RelV v u∧Look X.env s.heap m x u
 cell:∀ x c,X.env.cells.lookup x=some c→∃ v,s.heap.IsCell c v
 free:H X.env.locals=none
 freeC:∀ x c,X.env.cells.lookup x=some c→H c=none
 pin:∀ p∈X.pn++pins,s.heap.get? p.1=some p.2∧H p.1=none∧p.1≠X.env.locals∧p.1∉X.fs∧∀ v,p.2.data≠.cell v
 hok:HOk X.prog X.w H s.heap
 len:σ.length=X.N.length
section
variable {X:Cx} {pins:List (Addr×Obj)} {σ:List (Option V)} {H H':Hp} {s:Shared} {h':Heap}
theorem Cx.Ok.nofr (ok:X.Ok) {b:Addr} {o:Obj} (e:X.base.get? b=some o):b∉X.fs:=fun hb=>by
 have:=(ok.funs.mem hb).1
 rw [e] at this;cases this
theorem Inv.bs (I:Inv X pins σ H s):∀ b o,X.base.get? b=some o→s.heap.get? b=some o∧H b=none:=fun b o e =>
 ⟨I.base.keep b o (I.ok.bs b o e).1 (I.ok.bs b o e).2 (I.ok.nofr e) (I.ok.noex b o e),I.base.free b o (I.ok.bs b o e).1 (I.ok.bs b o e).2 (I.ok.noex b o e)⟩
theorem Inv.bk (I:Inv X pins σ H s):∀ b o,X.base.get? b=some o→s.heap.get? b=some o:=fun b o e=>(I.bs b o e).1
theorem Inv.mod (I:Inv X pins σ H s):Mod X.K X.mg X.base:=I.ok.mod
theorem Inv.kIn (I:Inv X pins σ H s):X.K.In s.heap:=I.ok.mod.kin.keeps I.bk
theorem Inv.lt (I:Inv X pins σ H s):X.env.locals<s.heap.objs.size:=let ⟨_,hn,_⟩:=I.loc;hn.lt
theorem Inv.sz (I:Inv X pins σ H s):X.s₀.heap.objs.size≤s.heap.objs.size:=qAQ I.ok.above (qCP I.lt)
theorem Inv.nofs (I:Inv X pins σ H s) {a:Addr} (h:s.heap.objs.size≤a):a∉X.fs:=fun hb=>by
 obtain ⟨_,o,ho,_⟩:=I.ok.funs.mem hb
 exact absurd (qk (qL ho) (qAQ I.sz h)) (qAp _)
theorem Inv.cne (I:Inv X pins σ H s):∀ x c,X.env.cells.lookup x=some c→c≠X.env.locals:=fun x c e z=>by
 obtain ⟨v,o,ho,hd⟩:=I.cell x c e
 obtain ⟨m,⟨o',es,ep,ho',hd',_⟩,_⟩:=I.loc
 rw [z,ho'] at ho;cases ho;rw [hd'] at hd;cases hd
theorem Inv.funs (I:Inv X pins σ H s):s.heap.FunFrames X.base X.outer:=by
 have all:∀ (l:List Env),(∀ b∈frs l,b∈X.fs)→X.s₀.heap.FunFrames X.base l→s.heap.FunFrames X.base l:=by
  intro l
  induction l with
  | nil=>intro _ _;trivial
  | cons env r ih =>
   intro hs hl
   obtain ⟨hk,⟨L,o,hf,hn,ho,hd⟩,hr⟩:=hl
   have hL:L∈X.fs:=hs L (by unfold frs;rw [qBC,hf];exact qg)
   obtain ⟨sl,e⟩:=I.base.slot L o ho (I.ok.frf L hL) hL fun z=>I.ok.exfs L z hL
   exact ⟨hk,⟨L,_,hf,hn,e,hd⟩,ih (fun b hb=>hs b (by unfold frs;rw [qBC,hf];exact qI _ hb)) hr⟩
 exact all X.outer (fun _ hb=>hb) I.ok.funs
theorem Inv.stack (I:Inv X pins σ H s):s.heap.FunFrames X.base X.stack:=by
 rcases I.ok.stk with e|⟨e,hf⟩
 ·rw [e];exact I.funs
 ·rw [e]
  obtain ⟨m,hn,_⟩:=I.loc
  refine .cons (by rw [I.ok.kind];decide) hf hn ?_ I.funs
  exact Heap.get?_none_of_le (qAQ I.ok.bsz I.ok.above)
theorem Inv.stkSub (I:Inv X pins σ H s):∀ b∈frs X.stack,b∈X.env.locals::X.fs:=fun b hb=>by
 rcases I.ok.stk with e|⟨e,hf⟩
 ·rw [e] at hb;exact qI _ hb
 ·rw [e] at hb
  unfold frs at hb
  rw [qBC,hf] at hb
  exact hb
theorem Inv.stkFree (I:Inv X pins σ H s):∀ b∈frs X.stack,H b=none:=fun b hb=>by
 rcases qN.mp (I.stkSub b hb) with e|hb
 ·rw [e];exact I.free
 ·obtain ⟨_,o,ho,_⟩:=I.ok.funs.mem hb
  exact I.base.free b o ho (I.ok.frf b hb) fun z=>I.ok.exfs b z hb
theorem Inv.step {g':Array GenState} {t':Nat} {d':Drawn} {ch:List Addr} (I:Inv X pins σ H s)
  (hch:∀ b∈ch,(b∈X.ex∨X.s₀.heap.objs.size≤b)∧b≠X.env.locals∧(∀ x c,X.env.cells.lookup x=some c→c≠b)∧∀ p∈X.pn++pins,p.1≠b)
  (keep:∀ b o,b≠X.env.locals→b∉X.fs→b∉ch→s.heap.get? b=some o→H b=none→h'.get? b=some o)
  (slot:∀ b o,b≠X.env.locals→b∈X.fs→b∉ch→s.heap.get? b=some o→H b=none→∃ sl,h'.get? b=some {o with slots:=sl}) (free:∀ b o,b∉ch→s.heap.get? b=some o→H b=none→H' b=none)
  (there:∀ b o,b∉ch→s.heap.get? b=some o→∃ o',h'.get? b=some o')
  (tups:∀ b xs,H b=some (.tup xs)→H' b=some (.tup xs)) (frzs:∀ b o u,H b=some (.frz o u)→H' b=some (.frz o u)) (tbls:∀ b ps,H b=some (.tbl ps)→∃ more,H' b=some (.tbl (ps++more)))
  (ns:∀ m,s.heap.Ns X.env.locals m→h'.Ns X.env.locals m) (hok:HOk X.prog X.w H' h') (hg:AllBare g') :
  Inv X pins σ H' {s with heap:=h',gens:=g',drawn:=d',toks:=t'}:=by
 have neL:∀ b o,X.s₀.heap.get? b=some o→b≠X.env.locals:=fun b o e=>qj (qk (qL e) I.ok.above)
 have neC:∀ b o,X.s₀.heap.get? b=some o→b∉X.ex→b∉ch:=fun b o e hx hb=>by
  rcases (hch b hb).1 with z|z
  ·exact hx z
  ·exact absurd (qk (qL e) z) (qAp _)
 have cellK:∀ x c,X.env.cells.lookup x=some c→∀ v,s.heap.IsCell c v→h'.IsCell c v:=fun x c e v ⟨o,ho,hd⟩=>by
  have nch:c∉ch:=fun z=>(hch c z).2.2.1 x c e rfl
  by_cases hc:c∈X.fs
  ·obtain ⟨sl,q⟩:=slot c o (I.cne x c e) hc nch ho (I.freeC x c e)
   exact ⟨_,q,hd⟩
  ·exact ⟨o,keep c o (I.cne x c e) hc nch ho (I.freeC x c e),hd⟩
 refine ⟨I.ok,I.os,hg,⟨fun b o e n hb hx=>?_,fun b o e n hb hx=>?_,fun b o e n hx=>?_,fun b o e hx=>?_,fun b xs e=>tups b xs (I.base.tups b xs e),fun b o xs e=>frzs b o xs (I.base.frzs b o xs e),fun b ps e=>?_⟩,?_,fun x c e=>?_,?_,fun x c e=>?_,fun p hp=>?_,hok,I.len⟩
 ·exact keep b o (neL b o e) hb (neC b o e hx) (I.base.keep b o e n hb hx) (I.base.free b o e n hx)
 ·obtain ⟨sl,e1⟩:=I.base.slot b o e n hb hx
  obtain ⟨sl',e2⟩:=slot b _ (neL b o e) hb (neC b o e hx) e1 (I.base.free b o e n hx)
  exact ⟨sl',e2⟩
 ·obtain ⟨o',e1⟩:=I.base.there b o e hx
  exact free b o' (neC b o e hx) e1 (I.base.free b o e n hx)
 ·obtain ⟨o',e1⟩:=I.base.there b o e hx
  exact there b o' (neC b o e hx) e1
 ·obtain ⟨m1,e1⟩:=I.base.tbls b ps e
  obtain ⟨m2,e2⟩:=tbls b _ e1
  exact ⟨m1++m2,by rw [e2,Array.append_assoc]⟩
 ·obtain ⟨m,hn,hl⟩:=I.loc
  refine ⟨m,ns m hn,fun i x v e1 e2 e3=>?_⟩
  obtain ⟨u,r,l⟩:=hl i x v e1 e2 e3
  refine ⟨u,r,?_⟩
  rcases l with l|⟨k,c,e,z⟩
  ·exact .inl l
  ·exact .inr ⟨k,c,e,cellK x c e _ z⟩
 ·obtain ⟨v,z⟩:=I.cell x c e
  exact ⟨v,cellK x c e v z⟩
 ·obtain ⟨m,⟨o,_,_,ho,_⟩,_⟩:=I.loc
  exact free _ o (fun z=>(hch _ z).2.1 rfl) ho I.free
 ·obtain ⟨v,o,ho,hd⟩:=I.cell x c e
  exact free c o (fun z=>(hch c z).2.2.1 x c e rfl) ho (I.freeC x c e)
 ·obtain ⟨e,n,ne,nf,d⟩:=I.pin p hp
  have nch:p.1∉ch:=fun z=>(hch p.1 z).2.2.2 p hp rfl
  exact ⟨keep p.1 p.2 ne nf nch e n,free p.1 p.2 nch e n,ne,nf,d⟩
theorem Inv.un {t':Nat} (I:Inv X pins σ H s) (u:Un X.fs [] H H' s.heap h') (hok:HOk X.prog X.w H' h'):Inv X pins σ H' {s with heap:=h',toks:=t'}:=by
 obtain ⟨m,⟨o,es,ep,ho,r⟩,_⟩:=id I.loc
 obtain ⟨sl,hL⟩:=u.any ho I.free (by simp)
 exact I.step (g':=s.gens) (d':=s.drawn) (ch:=[]) (fun _ z=>nomatch z) (fun b o _ hb _ e n=>u.keep b o e n hb (by simp)) (fun b o _ hb _ e n=>u.slot b o e n hb (by simp)) (fun b o _ e n=>u.free b o e n (by simp)) (fun b o _ e=>u.there b o e (by simp)) u.tups u.frzs u.tbls (fun m' hm=>by
  obtain ⟨o',es',ep',ho',r'⟩:=hm
  rw [ho] at ho';cases ho'
  exact ⟨_,es',ep',hL,r'⟩) hok I.bare
theorem Inv.call {g':Array GenState} {t':Nat} {d':Drawn} {ch:List Addr} (I:Inv X pins σ H s) (u:Un (frs X.stack) ch H H' s.heap h') (hok:HOk X.prog X.w H' h') (hg:AllBare g')
  (hch:∀ b∈ch,(b∈X.ex∨X.s₀.heap.objs.size≤b)∧b≠X.env.locals∧(∀ x c,X.env.cells.lookup x=some c→c≠b)∧∀ p∈X.pn++pins,p.1≠b) :
  Inv X pins σ H' {s with heap:=h',gens:=g',drawn:=d',toks:=t'}:=by
 obtain ⟨m,⟨o,es,ep,ho,r⟩,_⟩:=id I.loc
 obtain ⟨sl,hL⟩:=u.any ho I.free fun z=>(hch _ z).2.1 rfl
 exact I.step (ch:=ch) hch (fun b o hL hb hc e n=>u.keep b o e n (fun z=>(qN.mp (I.stkSub b z)).elim hL hb) hc) (fun b o _ _ hc e n=>u.any e n hc) (fun b o hc e n=>u.free b o e n hc) (fun b o hc e=>u.there b o e hc) u.tups u.frzs u.tbls (fun m' hm=>by
  obtain ⟨o',es',ep',ho',r'⟩:=hm
  rw [ho] at ho';cases ho'
  exact ⟨_,es',ep',hL,r'⟩) hok hg
theorem Inv.turned {t':Nat} {it:Addr} (I:Inv X pins σ H s) (k:∀ b o,b≠it→s.heap.get? b=some o→h'.get? b=some o) (hn:H it=none) (hL:it≠X.env.locals)
  (h1:it∈X.ex∨X.s₀.heap.objs.size≤it) (h2:∀ x c,X.env.cells.lookup x=some c→c≠it) (h3:∀ p∈X.pn++pins,p.1≠it):Inv X pins σ H {s with heap:=h',toks:=t'}:=by
 have nit:∀ b u,H b=some u→b≠it:=fun b u e z=>by rw [z,hn] at e;cases e
 refine I.step (g':=s.gens) (d':=s.drawn) (ch:=[it]) (fun b hb=>?_) (fun b o _ _ hc e _=>k b o (fun z=>hc (by simp [z])) e) (fun b o _ _ hc e _=>⟨o.slots,k b o (fun z=>hc (by simp [z])) e⟩) (fun _ _ _ _ n=>n)
  (fun b o hc e=>⟨o,k b o (fun z=>hc (by simp [z])) e⟩) (fun _ _ e=>e) (fun _ _ _ e=>e) (fun b ps e=>⟨#[],by rw [e];simp⟩) (fun m hm=>?_) (fun b u e=>?_) I.bare
 ·have e:b=it:=by simpa using hb
  subst e
  exact ⟨h1,hL,h2,h3⟩
 ·obtain ⟨o,es,ep,ho,r⟩:=hm
  exact ⟨o,es,ep,k _ o (qAW hL) ho,r⟩
 ·refine (I.hok b u e).stay (fun c v hc q=>k c v ?_ q) (fun _ q=>q) fun _ _ q=>q
  rcases hc with z|z
  ·rw [z];exact nit b u e
  ·exact nit c _ z
theorem Inv.tok (I:Inv X pins σ H s) (t:Nat):Inv X pins σ H {s with toks:=t}:=I.un (h':=s.heap) (t':=t) Un.refl I.hok
theorem Inv.kept {t':Nat} (I:Inv X pins σ H s) (k:∀ b u,s.heap.get? b=some u→h'.get? b=some u):Inv X pins σ H {s with heap:=h',toks:=t'}:=I.un (Un.kept k) (I.hok.kept k)
theorem Inv.laid {a:Addr} {o:HO} {t':Nat} (I:Inv X pins σ H s) (k:∀ b u,s.heap.get? b=some u→h'.get? b=some u) (hp:s.heap.objs.size≤a) (new:zfw X.prog X.w (upd H a o) h' a o) :
  Inv X pins σ (upd H a o) {s with heap:=h',toks:=t'}:=I.un (Un.laid k hp (I.hok.fresh hp)) (I.hok.laid k hp new)
theorem Inv.write {x e:Addr} {o:HO} {t':Nat} (I:Inv X pins σ H s) (mu:Mut (H x)) (he:e=x∨H e=some (.own x)) (k:∀ b u,b≠e→s.heap.get? b=some u→h'.get? b=some u) (heo:∃ u,h'.get? e=some u)
  (new:zfw X.prog X.w (upd H x o) h' x o):Inv X pins σ (upd H x o) {s with heap:=h',toks:=t'}:=I.un (Un.write mu he k heo) (I.hok.write mu he k heo new)
theorem Inv.pins_of {pins':List (Addr×Obj)} (I:Inv X pins σ H s) (h:∀ p∈pins',s.heap.get? p.1=some p.2∧H p.1=none∧p.1≠X.env.locals∧p.1∉X.fs∧∀ v,p.2.data≠.cell v):Inv X pins' σ H s :=
 ⟨I.ok,I.os,I.bare,I.base,I.loc,I.cell,I.free,I.freeC,fun p hp=>(qAB.mp hp).elim (fun z=>I.pin p (qv _ z)) (h p),I.hok,I.len⟩
theorem zzd {N:List Str} (hN:N.Nodup) {i j:Nat} {x:Str} (a:N[i]?=some x) (b:N[j]?=some x):i=j:=by
 obtain ⟨h1,e1⟩:=qR.mp a
 obtain ⟨h2,e2⟩:=qR.mp b
 exact (List.getElem_inj hN).mp (e1.trans e2.symm)
theorem zace {M:Model} {A:Around} {E:Value→Shared→Prop} {i:Nat} {x:Str} {v:V} {u:Value} {Q:Unit→Shared→Prop} (I:Inv X pins σ H s) (hN:X.N.Nodup) (hi:X.N[i]?=some x) (hx:Loc X.env.scope x) (r:RelV v u)
  (h:∀ s',Inv X pins (σ.set i (some v)) H s'→(∃ a,Heap.SameBut a s.heap s'.heap∧(a=X.env.locals∨X.env.cells.lookup x=some a))→Q () s') (hf:X.fn x=true∨X.env.scope.names.lookup x=some .local:=by assumption):wpAny M A (storeName X.env x u) Q E s:=by
 obtain ⟨m,hn,hl⟩:=id I.loc
 have hcls:(X.env.scope.kind==.class||(X.env.scope.kind==.module&&X.env.locals != X.env.globals))=false:=by rw [I.ok.kind];rfl
 have hiσ:i<σ.length:=by rw [I.len];exact (qR.mp hi).1
 have cne:=I.cne
 have tracked:∀ {a:Addr} {h':Heap},(∃ o,s.heap.get? a=some o∧H a=none)→Heap.SameBut a s.heap h'→HOk X.prog X.w H h':=fun {a h'} ha hs b ob e=>by
  obtain ⟨_,_,hfree⟩:=ha
  refine (I.hok b ob e).stay (fun c w' hc q=>(hs.2 c ?_).trans q) (fun _ q=>q) fun _ _ q=>q
  rintro rfl
  rcases hc with rfl|hc
  ·rw [hfree] at e;cases e
  ·rw [hfree] at hc;cases hc
 rcases hx with hk|hk
 ·refine wpAny_storeName_local hk hn (fun h' hn' hs=>?_) hcls
  obtain ⟨oL,_,_,hoL,_⟩:=id hn
  refine h _ ⟨I.ok,I.os,I.bare,⟨fun b o e n hb hx=>?_,fun b o e n hb hx=>?_,I.base.free,fun b o e hx=>?_,I.base.tups,I.base.frzs,I.base.tbls⟩,⟨_,hn',fun j y v' e1 e2 e3=>?_⟩,fun y c e=>?_,I.free,I.freeC,fun p hp=>?_,tracked ⟨oL,hoL,I.free⟩ hs,by simpa using I.len⟩ ⟨_,hs,.inl rfl⟩
  ·exact (hs.2 b (qj (qk (qL e) I.ok.above))).trans (I.base.keep b o e n hb hx)
  ·obtain ⟨sl,e1⟩:=I.base.slot b o e n hb hx
   exact ⟨sl,(hs.2 b (qj (qk (qL e) I.ok.above))).trans e1⟩
  ·obtain ⟨o',e1⟩:=I.base.there b o e hx
   exact ⟨o',(hs.2 b (qj (qk (qL e) I.ok.above))).trans e1⟩
  ·by_cases hj:j=i
   ·subst hj
    rw [hi] at e1;cases e1
    rw [ql hiσ] at e2
    cases e2
    exact ⟨u,r,.inl ⟨hk,by simp⟩⟩
   ·rw [qS (qAW hj)] at e2
    obtain ⟨u',r',q⟩:=hl j y v' e1 e2 e3
    refine ⟨u',r',?_⟩
    rcases q with ⟨k,e⟩|⟨k,c,e,z⟩
    ·refine .inl ⟨k,?_⟩
     have:y≠x:=fun e=>hj (zzd hN e1 (e▸hi))
     simp [this,e]
    ·exact .inr ⟨k,c,e,z.sameBut hs (cne y c e)⟩
  ·obtain ⟨w',z⟩:=I.cell y c e
   exact ⟨w',z.sameBut hs (cne y c e)⟩
  ·obtain ⟨e,n,ne,nf,d⟩:=I.pin p hp
   exact ⟨(hs.2 p.1 ne).trans e,n,ne,nf,d⟩
 ·have hfn:X.fn x=true:=by
   rcases hf with z|z
   ·exact z
   ·rw [z] at hk;cases hk
  obtain ⟨c,hc⟩:=I.ok.has x (.inl hk)
  obtain ⟨w',z⟩:=I.cell x c hc
  refine wpAny_storeName_cell I.ok.kind hk hc z (fun h' hc' hs=>?_)
  obtain ⟨oc,hoc,hocd⟩:=id z
  refine h {s with heap:=h'} ⟨I.ok,I.os,I.bare,⟨fun b o e n hb hx=>?_,fun b o e n hb hx=>?_,I.base.free,fun b o e hx=>?_,I.base.tups,I.base.frzs,I.base.tbls⟩,⟨m,hn.sameBut hs (qAW (cne x c hc)),fun j y v' e1 e2 e3=>?_⟩,fun y c' e=>?_,I.free,I.freeC,fun p hp=>?_,tracked ⟨oc,hoc,I.freeC x c hc⟩ hs,by simpa using I.len⟩ ⟨c,hs,.inr hc⟩
  ·exact (hs.2 b (qj (qk (qL e) (I.ok.cab x c hfn hc)))).trans (I.base.keep b o e n hb hx)
  ·obtain ⟨sl,e1⟩:=I.base.slot b o e n hb hx
   exact ⟨sl,(hs.2 b (qj (qk (qL e) (I.ok.cab x c hfn hc)))).trans e1⟩
  ·obtain ⟨o',e1⟩:=I.base.there b o e hx
   exact ⟨o',(hs.2 b (qj (qk (qL e) (I.ok.cab x c hfn hc)))).trans e1⟩
  ·by_cases hj:j=i
   ·subst hj
    rw [hi] at e1;cases e1
    rw [ql hiσ] at e2
    cases e2
    exact ⟨u,r,.inr ⟨.inl hk,c,hc,hc'⟩⟩
   ·rw [qS (qAW hj)] at e2
    obtain ⟨u',r',q⟩:=hl j y v' e1 e2 e3
    refine ⟨u',r',?_⟩
    rcases q with q|⟨k,c',e,z'⟩
    ·exact .inl q
    ·refine .inr ⟨k,c',e,z'.sameBut hs ?_⟩
     rintro rfl
     exact hj (zzd hN e1 (I.ok.inj _ _ _ e hc▸hi))
  ·by_cases hcc:c'=c
   ·subst hcc;exact ⟨_,hc'⟩
   ·obtain ⟨w2,z2⟩:=I.cell y c' e
    exact ⟨w2,z2.sameBut hs hcc⟩
  ·obtain ⟨e,n,ne,nf,d⟩:=I.pin p hp
   refine ⟨(hs.2 p.1 ?_).trans e,n,ne,nf,d⟩
   intro q
   rw [q,hoc] at e
   have q':oc=p.2:=qT e
   exact d w' (by rw [← q'];exact hocd)
theorem zze {M:Model} {A:Around} {E:Value→Shared→Prop} {i:Nat} {x:Str} {v:V} {u:Value} {Q:Unit→Shared→Prop} (I:Inv X pins σ H s) (hN:X.N.Nodup) (hi:X.N[i]?=some x) (hx:Loc X.env.scope x) (r:RelV v u)
  (h:∀ s',Inv X pins (σ.set i (some v)) H s'→Q () s') (hf:X.fn x=true∨X.env.scope.names.lookup x=some .local:=by assumption):wpAny M A (storeName X.env x u) Q E s :=
 zace I hN hi hx r (fun s' I' _=>h s' I') hf
end
noncomputable abbrev XK:=Value→Option Addr→Hp→Prop
noncomputable abbrev St:=List (Option V)
noncomputable abbrev VK:=V→Hp→Prop
noncomputable abbrev TE:=St→Hp→VK→Prop
noncomputable abbrev TT:=St→Hp→(Bool→Hp→Prop)→Prop
noncomputable abbrev TA:=St→Hp→(List V→Hp→Prop)→Prop
set_option genInjectivity false in
structure Ends where
 nx:St→Hp→Prop
 rt:VK
 bk:St→Hp→Prop:=fun _ _=>False
 ct:St→Hp→Prop:=fun _ _=>False
noncomputable abbrev TS:=Ends→St→Hp→Prop
noncomputable def EP (X:Cx) (pins:List (Addr×Obj)) (σ:St) (Q:VK) (u:Value) (s':Shared):Prop:=∃ v H',Inv X pins σ H' s'∧RelV v u∧Q v H'
noncomputable def TP (X:Cx) (pins:List (Addr×Obj)) (σ:St) (Q:Bool→Hp→Prop) (b:Bool) (s':Shared):Prop:=∃ H',Inv X pins σ H' s'∧Q b H'
noncomputable def AP (X:Cx) (pins:List (Addr×Obj)) (σ:St) (Q:List V→Hp→Prop) (us:List Value) (s':Shared):Prop:=∃ vs H',Inv X pins σ H' s'∧Vals vs us∧Q vs H'
noncomputable def SP (X:Cx) (pins:List (Addr×Obj)) (D:Ends) (f:Flow) (s':Shared):Prop :=
 match f with
 | .next=>∃ σ' H',Inv X pins σ' H' s'∧D.nx σ' H'
 | .brk=>∃ σ' H',Inv X pins σ' H' s'∧D.bk σ' H'
 | .cont=>∃ σ' H',Inv X pins σ' H' s'∧D.ct σ' H'
 | .ret u=>∃ v σ' H',Inv X pins σ' H' s'∧RelV v u∧D.rt v H'
noncomputable def PE (X:Cx) (e:Expr) (t:TE):Prop :=
 ∀ (pins:List (Addr×Obj)) (s:Shared) (σ:St) (H:Hp) (Q:VK),Inv X pins σ H s→t σ H Q→wpAny (model X.prog X.w) X.A (eval e X.env) (EP X pins σ Q) X.xe s
noncomputable def PT (X:Cx) (e:Expr) (t:TT):Prop :=
 ∀ (pins:List (Addr×Obj)) (s:Shared) (σ:St) (H:Hp) (Q:Bool→Hp→Prop),Inv X pins σ H s→t σ H Q→wpAny (model X.prog X.w) X.A (isTrue e X.env (eval e X.env)) (TP X pins σ Q) X.xe s
noncomputable def PW (X:Cx) (e:Expr) (t:TT):Prop :=
 ∀ (whole:Sem Value) (pins:List (Addr×Obj)) (s:Shared) (σ:St) (H:Hp) (Q:Bool→Hp→Prop),Inv X pins σ H s→t σ H Q→wpAny (model X.prog X.w) X.A (isTrue e X.env whole) (TP X pins σ Q) X.xe s
theorem PW.pt {X:Cx} {e:Expr} {t:TT} (h:PW X e t):PT X e t:=h _
noncomputable def PA (X:Cx) (es:List Expr) (t:TA):Prop :=
 ∀ (pos:Pos) (pins:List (Addr×Obj)) (s:Shared) (σ:St) (H:Hp) (Q:List V→Hp→Prop),Inv X pins σ H s→t σ H Q→wpAny (model X.prog X.w) X.A (spliced (backTo pos (starEach es X.env))) (AP X pins σ Q) X.xe s
noncomputable def PS (X:Cx) (st:Stmt) (t:TS):Prop :=
 ∀ (pins:List (Addr×Obj)) (s:Shared) (σ:St) (H:Hp) (D:Ends),Inv X pins σ H s→t D σ H→wpAny (model X.prog X.w) X.A (exec st X.env) (SP X pins D) X.xe s
noncomputable def PSs (X:Cx) (st:List Stmt) (t:TS):Prop :=
 ∀ (pins:List (Addr×Obj)) (s:Shared) (σ:St) (H:Hp) (D:Ends),Inv X pins σ H s→t D σ H→wpAny (model X.prog X.w) X.A (execs st X.env) (SP X pins D) X.xe s
theorem thn {α:Type} {t:Sem α} {Q Q':α→Shared→Prop} {M:Model} {A:Around} {E:Value→Shared→Prop} {s:Shared} (h:wpAny M A t Q E s) (hQ:∀ a s,Q a s→Q' a s):wpAny M A t Q' E s:=qBQ h hQ fun _ _ x=>x
section
variable {X:Cx}
theorem bin {a b:Expr} {ta tb:TE} (ha:PE X a ta) (hb:PE X b tb) {pins:List (Addr×Obj)} {s:Shared} {σ:St} {H:Hp} {R:V→V→Hp→Prop} (I:Inv X pins σ H s) (h:ta σ H fun x H1=>tb σ H1 fun y H2=>R x y H2)
  {α:Type} {Q:α→Shared→Prop} {f:Value→Value→Sem α}
  (hf:∀ v u s2 x y H2,Inv X pins σ H2 s2→RelV x v→RelV y u→R x y H2→wpAny (model X.prog X.w) X.A (f v u) Q X.xe s2) :
  wpAny (model X.prog X.w) X.A (eval a X.env) (fun v s₁=>wpAny (model X.prog X.w) X.A (eval b X.env) (fun u s₂=>wpAny (model X.prog X.w) X.A (f v u) Q X.xe s₂) X.xe s₁) X.xe s:=by
 refine thn (ha pins s σ H _ I h) fun v s1 ⟨x,H1,I1,r1,q1⟩=>?_
 refine thn (hb pins s1 σ H1 _ I1 q1) fun u s2 ⟨y,H2,I2,r2,q2⟩=>?_
 exact hf v u s2 x y H2 I2 r1 r2 q2
noncomputable def tVar (i:Nat):TE:=fun σ H Q=>∃ v,σ[i]?=some (some v)∧Q v H
noncomputable def tC (v:V):TE:=fun _ H Q=>Q v H
theorem zamk {i:Nat} {x:Str} {pos:Pos} (hN:X.N[i]?=some x) (hv:Vis X.env.scope x) (hd:(x==("__debug__":Str))=false:=by decide) (hcd:(x==("__classdict__":Str))=false:=by decide):PE X (.Name x pos) (tVar i):=by
 intro pins s σ H Q I h
 obtain ⟨v,e,h⟩:=h
 obtain ⟨m,hn,hl⟩:=I.loc
 obtain ⟨u,r,l⟩:=hl i x v hN e hv
 have fin:EP X pins σ Q u s:=⟨v,H,I,r,h⟩
 rcases l with ⟨hk,hm⟩|⟨hk,c,hc,hcell⟩
 ·exact wpAny_Name (wpAny_loadName_local I.ok.kind hk hn hm fin) hd
 ·rcases hk with hk|hk
  ·exact wpAny_Name (wpAny_loadName_cell I.ok.kind hk hc hcell fin) hd
  ·exact wpAny_Name (wpAny_loadName_free I.ok.kind hk hc hcell fin hcd) hd
theorem zaml {i j pos}:PE X (.Constant (.int i) j pos) (tC (.int i)):=fun _ _ _ H _ I h=>wpAny_Constant_int ⟨.int i,H,I.tok _,⟨_,rfl⟩,h⟩
theorem zapg {b j pos}:PE X (.Constant (.bool b) j pos) (tC (.bl b)):=fun _ _ _ H _ I h=>Constant_bool ⟨.bl b,H,I,rfl,h⟩
theorem zamm {x j pos}:PE X (.Constant (.str x) j pos) (tC (.str x)):=fun _ _ _ H _ I h=>Calls.Constant_str ⟨.str x,H,I.tok _,⟨_,rfl⟩,h⟩
noncomputable def Gl (X:Cx) (x:Str):Prop:=X.env.kindOf x=some .globalImplicit
theorem zajr {E:Value→Shared→Prop} {pins:List (Addr×Obj)} {s:Shared} {σ:St} {H:Hp} {x:Str} {u:Value} {pos:Pos} {Q:Value→Shared→Prop} (I:Inv X pins σ H s) (hg:Gl X x) (hm:X.mg x=some u) (h:Q u s)
  (hd:(x==("__debug__":Str))=false:=by decide):wpAny (model X.prog X.w) X.A (eval (.Name x pos) X.env) Q E s :=
 qB0 I.ok.kind hg (Calls.loadGlobal_global (by rw [I.ok.glob];exact I.mod.glob.keeps I.bk) hm h) hd
theorem zrm {E:Value→Shared→Prop} {pins:List (Addr×Obj)} {s:Shared} {σ:St} {H:Hp} {x:Str} {u:Value} {pos:Pos} {Q:Value→Shared→Prop} (I:Inv X pins σ H s) (hg:Gl X x) (hm:X.mg x=none) (hv:bootBuiltins x=some u) (h:Q u s)
  (hn:x ≠ "__name__":=by decide) (hd:(x==("__debug__":Str))=false:=by decide):wpAny (model X.prog X.w) X.A (eval (.Name x pos) X.env) Q E s:=by
 obtain ⟨mb,h1,h2⟩:=I.mod.blt
 exact qB0 I.ok.kind hg (Calls.loadGlobal_builtin (by rw [I.ok.glob];exact I.mod.glob.keeps I.bk) hm (by rw [I.ok.blt];exact h1.keeps I.bk) ((h2 x hn).trans hv) h) hd
theorem zajs {x:Str} {v:V} {u:Value} {pos:Pos} (hg:Gl X x) (hm:X.mg x=none) (hv:bootBuiltins x=some u) (r:RelV v u) (hn:x ≠ "__name__":=by decide) (hd:(x==("__debug__":Str))=false:=by decide):PE X (.Name x pos) (tC v) :=
 fun _ _ _ H _ I h=>zrm I hg hm hv ⟨v,H,I,r,h⟩ hn hd
variable {a b:Expr} {ta tb:TE} {pos:Pos}
noncomputable def PC (X:Cx) (op:CmpOp) (a b:Expr) (t:TE):Prop :=
 ∀ (pins:List (Addr×Obj)) (s:Shared) (σ:St) (H:Hp) (Q:VK),Inv X pins σ H s→t σ H Q →
  wpAny (model X.prog X.w) X.A (eval a X.env) (fun v s₁=>wpAny (model X.prog X.w) X.A (eval b X.env) (fun u s₂=>wpAny (model X.prog X.w) X.A (compareOp op v u) (EP X pins σ Q) X.xe s₂) X.xe s₁) X.xe s
noncomputable def tB (t:TE):TT:=fun σ H Q=>t σ H fun x H1=>∃ c,x=.bl c∧Q c H1
theorem zamn {op:CmpOp} {t:TE} (h:PC X op a b t) (h1:behindInMarks op b=false:=by rfl):PE X (.Compare a [op] [b] pos) t:=fun pins s σ H Q I hw=>wpAny_Compare1 (h pins s σ H Q I hw) h1
variable {tA tB':TT} {rest:List Expr}
noncomputable def tAnd (t u:TT):TT:=fun σ H Q=>t σ H fun c H1=>if c=true then u σ H1 Q else Q false H1
noncomputable def tOr (t u:TT):TT:=fun σ H Q=>t σ H fun c H1=>if c=true then Q true H1 else u σ H1 Q
noncomputable def tNot (t:TT):TT:=fun σ H Q=>t σ H fun c H1=>Q (!c) H1
theorem zajt (ha:PT X a tA):PW X (.BoolOp .And [a] pos) tA:=by
 intro wh pins s σ H Q I h
 refine isTrue_and (thn (ha pins s σ H Q I h) fun c s1 e=>?_)
 cases c with
 | true=>exact isTrue_and_nil e
 | false=>exact e
theorem zamo (ha:PT X a tA):PW X (.BoolOp .Or [a] pos) tA:=by
 intro wh pins s σ H Q I h
 refine isTrue_or (thn (ha pins s σ H Q I h) fun c s1 e=>?_)
 cases c with
 | false=>exact isTrue_or_nil e
 | true=>exact e
theorem zamp (ha:PT X a tA) (hb:PW X (.BoolOp .And (b::rest) pos) tB'):PW X (.BoolOp .And (a::b::rest) pos) (tAnd tA tB'):=by
 intro wh pins s σ H Q I h
 refine isTrue_and (thn (ha pins s σ H _ I h) fun c s1 ⟨H1,I1,q1⟩=>?_)
 cases c with
 | true=>exact hb wh pins s1 σ H1 Q I1 q1
 | false=>exact ⟨H1,I1,q1⟩
theorem zaph (ha:PT X a tA) (hb:PW X (.BoolOp .Or (b::rest) pos) tB'):PW X (.BoolOp .Or (a::b::rest) pos) (tOr tA tB'):=by
 intro wh pins s σ H Q I h
 refine isTrue_or (thn (ha pins s σ H _ I h) fun c s1 ⟨H1,I1,q1⟩=>?_)
 cases c with
 | true=>exact ⟨H1,I1,q1⟩
 | false=>exact hb wh pins s1 σ H1 Q I1 q1
theorem zamq (ha:PT X a tA):PT X (.UnaryOp .Not a pos) (tNot tA):=by
 intro pins s σ H Q I h
 exact isTrue_not (ha pins s σ H (fun c H1=>Q (!c) H1) I h)
noncomputable def tAndV (ta tb:TE):TE:=fun σ H Q=>ta σ H fun x H1=>∃ c,x=.bl c∧if c=true then tb σ H1 Q else Q (.bl false) H1
theorem zamr {op} {t:TE} (h:PE X a t):PE X (.BoolOp op [a] pos) t:=fun pins s σ H Q I hw=>BoolOp_one (h pins s σ H Q I hw)
theorem zams (ha:PE X a ta) (hb:PE X (.BoolOp .And (b::rest) pos) tb):PE X (.BoolOp .And (a::b::rest) pos) (tAndV ta tb):=by
 intro pins s σ H Q I h
 refine BoolOp_and (thn (ha pins s σ H _ I h) fun v s1 ⟨x,H1,I1,r1,q1⟩=>?_)
 obtain ⟨c,rfl,q1⟩:=q1
 cases r1
 refine qA7 ?_
 cases c with
 | true=>exact hb pins s1 σ H1 Q I1 q1
 | false=>exact ⟨.bl false,H1,I1,rfl,q1⟩
end
noncomputable def SqL (K:qB) (H:Hp) (a:Addr) (xs:List V):Prop :=
 Rd H a (.lst xs) ∨
  ∃ (o:Obj) (its:Array Value) (n:Nat),K.lookup a=some o∧o.cls=.type "list" ∧ o.dict=none∧o.data=.seq its n∧its.size≤qd∧Vals xs its.toList
noncomputable def SqT (K:qB) (H:Hp) (a:Addr) (xs:List V):Prop :=
 Rd H a (.tup xs) ∨
  ∃ (o:Obj) (its:Array Value) (n:Nat),K.lookup a=some o∧o.cls=.type "tuple" ∧ o.data=.seq its n∧its.size≤qd∧Vals xs its.toList
noncomputable def absV:Value→Option V
 | .none=>some .non
 | .bool b=>some (.bl b)
 | .int i _=>some (.int i)
 | .str x _=>some (.str x)
 | .bytes b _=>some (.byt b)
 | .float b _=>some (.flt b)
 | .ref a=>some (.ref a)
 | .type n=>some (.ty n)
 | _=>none
theorem RelV.abs {x:V} {u:Value} (r:RelV x u):absV u=some x:=by
 cases x with
 | non=>cases r;rfl
 | bl _=>cases r;rfl
 | int _=>obtain ⟨t,rfl⟩:=r;rfl
 | str _=>obtain ⟨t,rfl⟩:=r;rfl
 | byt _=>obtain ⟨t,rfl⟩:=r;rfl
 | flt _=>obtain ⟨t,rfl⟩:=r;rfl
 | ref _=>cases r;rfl
 | ty _=>cases r;rfl
theorem RelV.inj {x y:V} {u:Value} (r:RelV x u) (q:RelV y u):x=y:=qT (r.abs.symm.trans q.abs)
theorem Vals.inj:∀ {xs ys:List V} {us:List Value},Vals xs us→Vals ys us→xs=ys
 | _,_,_,.nil,.nil=>rfl
 | _,_,_,.cons r t,.cons r' t'=>by rw [r.inj r',Vals.inj t t']
section
variable {X:Cx} {pins:List (Addr×Obj)} {σ:St} {H:Hp} {s:Shared} {a:Addr} {xs ys:List V}
theorem SqL.of {K:qB} (h:H a=some (.lst xs)):SqL K H a xs:=.inl (.inl h)
theorem SqT.of {K:qB} (h:H a=some (.tup xs)):SqT K H a xs:=.inl (.inl h)
theorem Inv.list (I:Inv X pins σ H s) (h:SqL X.K H a xs):∃ its:List Value,Vals xs its∧PlainL s.heap a its.toArray∧xs.length≤qd:=by
 rcases h with h|⟨o,its,n,hk,hc,hd,hs,hz,r⟩
 ·obtain ⟨z,its,n,r,e⟩:=h.ok I.hok
  exact ⟨its,r,⟨_,n,e,rfl,rfl,rfl⟩,z⟩
 ·refine ⟨its.toList,r,⟨o,n,I.kIn a o hk,hc,hd,by simpa using hs⟩,?_⟩
  have e:=r.length
  simp only [qCR] at e
  omega
theorem Inv.tuple (I:Inv X pins σ H s) (h:SqT X.K H a xs):∃ its:List Value,Vals xs its∧IsTup s.heap a its.toArray∧xs.length≤qd:=by
 rcases h with h|⟨o,its,n,hk,hc,hs,hz,r⟩
 ·obtain ⟨z,its,r,p⟩:=h.ok I.hok
  exact ⟨its,r,p,z⟩
 ·refine ⟨its.toList,r,⟨o,I.kIn a o hk,hc,n,by simpa using hs⟩,?_⟩
  have e:=r.length
  simp only [qCR] at e
  omega
theorem Inv.list_inj (I:Inv X pins σ H s) (h:SqL X.K H a xs) (h':SqL X.K H a ys):xs=ys:=by
 obtain ⟨its,r,⟨o,n,e,_,_,d⟩,_⟩:=I.list h
 obtain ⟨its',r',⟨o',n',e',_,_,d'⟩,_⟩:=I.list h'
 rw [e] at e';cases e'
 rw [d] at d'
 injection d' with d1 _
 have:its=its':=by simpa using congrArg Array.toList d1
 subst this
 exact r.inj r'
theorem Inv.tuple_inj (I:Inv X pins σ H s) (h:SqT X.K H a xs) (h':SqT X.K H a ys):xs=ys:=by
 obtain ⟨its,r,⟨o,e,_,n,d⟩,_⟩:=I.tuple h
 obtain ⟨its',r',⟨o',e',_,n',d'⟩,_⟩:=I.tuple h'
 rw [e] at e';cases e'
 rw [d] at d'
 injection d' with d1 _
 have:its=its':=by simpa using congrArg Array.toList d1
 subst this
 exact r.inj r'
end
noncomputable abbrev Cx.wish (X:Cx) (E:Value→Shared→Prop):Cx:={X with xe:=E}
noncomputable abbrev Cx.nox (X:Cx):Cx:=X.wish fun _ _=>False
theorem Cx.Ok.wish {X:Cx} (ok:X.Ok) (E:Value→Shared→Prop):(X.wish E).Ok :=
 ⟨ok.mod,ok.kind,ok.glob,ok.blt,ok.above,ok.inj,ok.has,ok.cab,ok.hd,ok.frames,ok.stk,ok.exf,ok.bs,ok.bsz,ok.noex,ok.exfs,ok.funs,ok.frf⟩
theorem Cx.Ok.unwish {X:Cx} {E:Value→Shared→Prop} (ok:(X.wish E).Ok):X.Ok :=
 ⟨ok.mod,ok.kind,ok.glob,ok.blt,ok.above,ok.inj,ok.has,ok.cab,ok.hd,ok.frames,ok.stk,ok.exf,ok.bs,ok.bsz,ok.noex,ok.exfs,ok.funs,ok.frf⟩
section
variable {X:Cx} {pins:List (Addr×Obj)} {σ:St} {H:Hp} {s:Shared} {E:Value→Shared→Prop}
theorem Inv.wish (I:Inv X pins σ H s) (E:Value→Shared→Prop):Inv (X.wish E) pins σ H s:=⟨I.ok.wish E,I.os,I.bare,I.base,I.loc,I.cell,I.free,I.freeC,I.pin,I.hok,I.len⟩
theorem Inv.unwish (I:Inv (X.wish E) pins σ H s):Inv X pins σ H s:=⟨I.ok.unwish,I.os,I.bare,I.base,I.loc,I.cell,I.free,I.freeC,I.pin,I.hok,I.len⟩
theorem SP.unwish {D:Ends} {f:Flow} {s':Shared} (h:SP (X.wish E) pins D f s'):SP X pins D f s':=by
 cases f with
 | next=>obtain ⟨σ',H',I,q⟩:=h;exact ⟨σ',H',I.unwish,q⟩
 | brk=>obtain ⟨σ',H',I,q⟩:=h;exact ⟨σ',H',I.unwish,q⟩
 | cont=>obtain ⟨σ',H',I,q⟩:=h;exact ⟨σ',H',I.unwish,q⟩
 | ret u=>obtain ⟨v,σ',H',I,r,q⟩:=h;exact ⟨v,σ',H',I.unwish,r,q⟩
theorem PSs.nox {st:List Stmt} {t:TS} (h:PSs X.nox st t):PSs X st t:=fun pins s σ H D I hw =>
 qBQ (h pins s σ H D (I.wish _) hw) (fun _ _ q=>q.unwish) fun _ _ z=>False.elim z
end
section
variable {X:Cx} {st:Stmt} {rest:List Stmt} {t u:TS} {e:Expr} {te:TE} {pos:Pos}
noncomputable def tNext:TS:=fun D σ H=>D.nx σ H
noncomputable def tSeq (t u:TS):TS:=fun D σ H=>t {D with nx:=u D} σ H
theorem zaju:PSs X [] tNext:=fun _ _ σ H _ I h=>qCH ⟨σ,H,I,h⟩
theorem zafw (h1:PS X st t) (h2:PSs X rest u):PSs X (st::rest) (tSeq t u):=by
 intro pins s σ H D I h
 refine wpAny_execs_cons (thn (h1 pins s σ H {D with nx:=u D} I h) fun f s1 q=>?_)
 cases f with
 | next =>
  obtain ⟨σ',H',I',q⟩:=q
  exact h2 pins s1 σ' H' D I' q
 | ret v=>exact q
 | brk=>exact q
 | cont=>exact q
theorem zajv (h1:PS X st t):PSs X [st] t:=by
 intro pins s σ H D I h
 refine wpAny_execs_cons (thn (h1 pins s σ H D I h) fun f s1 q=>?_)
 cases f with
 | next=>exact qCH q
 | ret v=>exact q
 | brk=>exact q
 | cont=>exact q
theorem Inv.quiet {pins:List (Addr×Obj)} {σ:St} {H:Hp} {s:Shared} (I:Inv X pins σ H s):interactive X.env=false:=by simp [interactive,I.ok.kind]
noncomputable def tDrop (te:TE):TS:=fun D σ H=>te σ H fun _ H1=>D.nx σ H1
theorem zajw (he:PE X e te) (hs:swapsWith e none pos.line X.env=pure false:=by rfl):PS X (.Expr e pos) (tDrop te):=by
 intro pins s σ H D I h
 exact wpAny_Expr_any (thn (he pins s σ H _ I h) fun v s1 ⟨x,H1,I1,r1,q1⟩=>⟨σ,H1,I1,q1⟩) I.quiet hs
noncomputable def tRet (te:TE):TS:=fun D σ H=>te σ H D.rt
theorem zamt (he:PE X e te):PS X (.Return (some e) pos) (tRet te):=by
 intro pins s σ H D I h
 exact wpAny_Return_some (thn (he pins s σ H _ I h) fun v s1 ⟨x,H1,I1,r1,q1⟩=>⟨x,σ,H1,I1,r1,q1⟩)
noncomputable def tIfS (c:TT) (t u:TS):TS:=fun D σ H=>c σ H fun b H1=>if b=true then t D σ H1 else u D σ H1
theorem zapi {c:Expr} {a b:List Stmt} {tc:TT} (hc:PT X c tc) (ha:PSs X a t) (hb:PSs X b u):PS X (.If c a b pos) (tIfS tc t u):=by
 intro pins s σ H D I h
 refine wpAny_If (thn (hc pins s σ H _ I h) fun d s1 ⟨H1,I1,q1⟩=>?_)
 cases d with
 | true=>exact ha pins s1 σ H1 D I1 q1
 | false=>exact hb pins s1 σ H1 D I1 q1
noncomputable def tNever:TS:=fun _ _ _=>False
theorem zafx:PS X st tNever:=fun _ _ _ _ _ _ h=>h.elim
end
noncomputable abbrev TG:=V→St→Hp→(St→Hp→Prop)→Prop
noncomputable abbrev TGs:=List V→St→Hp→(St→Hp→Prop)→Prop
noncomputable def PG (X:Cx) (target:Expr) (t:TG):Prop :=
 ∀ (pins:List (Addr×Obj)) (s:Shared) (σ:St) (H:Hp) (v:V) (u:Value) (Q:St→Hp→Prop),Inv X pins σ H s→RelV v u→t v σ H Q →
  wpAny (model X.prog X.w) X.A (assign target X.env u) (fun _ s'=>∃ σ' H',Inv X pins σ' H' s'∧Q σ' H') X.xe s
noncomputable def PGs (X:Cx) (ts:List Expr) (t:TGs):Prop :=
 ∀ (pins:List (Addr×Obj)) (s:Shared) (σ:St) (H:Hp) (vs:List V) (us:List Value) (Q:St→Hp→Prop),Inv X pins σ H s→Vals vs us→t vs σ H Q →
  wpAny (model X.prog X.w) X.A (assignInOrder ((assignEach ts X.env).map (·.2)) us) (fun _ s'=>∃ σ' H',Inv X pins σ' H' s'∧Q σ' H') X.xe s
noncomputable abbrev TSet:=V→V→V→Hp→(Hp→Prop)→Prop
noncomputable def PSet (X:Cx) (t:TSet):Prop :=
 ∀ (pins:List (Addr×Obj)) (s:Shared) (σ:St) (H:Hp) (o i v:V) (ov iv u:Value) (Q:Hp→Prop),Inv X pins σ H s→RelV o ov→RelV i iv→RelV v u→t o i v H Q →
  wpAny (model X.prog X.w) X.A (setItem ov iv u) (fun _ s'=>∃ H',Inv X pins σ H' s'∧Q H') X.xe s
section
variable {X:Cx} {pos:Pos}
noncomputable def gName (i:Nat):TG:=fun v σ H Q=>Q (σ.set i (some v)) H
theorem zajx {i:Nat} {x:Str} (hN:X.N.Nodup) (hi:X.N[i]?=some x) (hx:Loc X.env.scope x) (hf:X.fn x=true∨X.env.scope.names.lookup x=some .local:=by assumption):PG X (.Name x pos) (gName i):=by
 intro pins s σ H v u Q I r h
 exact wpAny_assign_Name (zze I hN hi hx r (fun s' I'=>⟨_,H,I',h⟩) hf)
noncomputable def gNil:TGs:=fun vs σ H Q=>vs=[]∧Q σ H
noncomputable def gCons (t:TG) (u:TGs):TGs:=fun vs σ H Q=>∃ v r,vs=v::r∧t v σ H fun σ' H'=>u r σ' H' Q
theorem zajy:PGs X [] gNil:=by
 intro pins s σ H vs us Q I r h
 obtain ⟨e,h⟩:=h
 subst e
 cases r
 exact assignInOrder_nil ⟨σ,H,I,h⟩
theorem zafy {e:Expr} {es:List Expr} {t:TG} {u:TGs} (h1:PG X e t) (h2:PGs X es u)
  (hs:(assignEach (e::es) X.env).map (·.2)=assign e X.env::(assignEach es X.env).map (·.2):=by rfl):PGs X (e::es) (gCons t u):=by
 intro pins s σ H vs us Q I r h
 obtain ⟨v,vr,e1,h⟩:=h
 subst e1
 cases r with
 | cons r rr =>
  rw [hs]
  refine assignInOrder_cons (thn (h1 pins s σ H _ _ _ I r h) fun _ s1 ⟨σ1,H1,I1,q1⟩=>?_)
  exact h2 pins s1 σ1 H1 _ _ Q I1 rr q1
noncomputable def gTup (K:qB) (n:Nat) (t:TGs):TG:=fun v σ H Q=>∃ a xs,v=.ref a∧SqT K H a xs∧xs.length=n∧t xs σ H Q
theorem zamu {es:List Expr} {k:Nat} {t:TGs} {n:Nat} (hc:X.calm=true) (h:PGs X es t)
  (hn:(assignEach es X.env).length=n:=by rfl) (hst:(assignEach es X.env).findIdx? (·.1)=none:=by rfl):PG X (.Tuple es k pos) (gTup X.K n t):=by
 intro pins s σ H v u Q I r hw
 obtain ⟨a,xs,e1,hq,hl,hw⟩:=hw
 subst e1
 cases r
 obtain ⟨its,rv,ht,hz⟩:=I.tuple hq
 refine assign_Tuple_tuple (I.ok.hd hc) ht (by simp [hn,← hl,rv.length]) hst fun h' hx=>?_
 have I1:Inv X pins σ H {s with heap:=h'}:=I.kept (t':=s.toks) fun b o e=>hx b o (qj (qL e)) e
 exact h pins _ σ H xs _ Q I1 (by simpa using rv) hw
noncomputable def gSub (to ti:TE) (t:TSet):TG:=fun v σ H Q=>to σ H fun o H1=>ti σ H1 fun i H2=>t o i v H2 fun H3=>Q σ H3
theorem zamv {o i:Expr} {to ti:TE} {t:TSet} (ho:PE X o to) (hi:PE X i ti) (hs:PSet X t)
  (ha:∀ v,assign (.Subscript o i pos) X.env v=(do
   let ov ← holding [v] (eval o X.env)
   let iv ← holding [v,ov] (eval i X.env)
   standAt pos
   holding [v,ov,iv] (setItem ov iv v)
   release [v,ov,iv] []):=by intro _;rfl):PG X (.Subscript o i pos) (gSub to ti t):=by
 intro pins s σ H v u Q I r h
 rw [ha]
 refine qD (qBq (thn (ho pins s σ H _ I h) fun ov s1 ⟨x,H1,I1,r1,q1⟩=>?_))
 refine qD (qBq (thn (hi pins s1 σ H1 _ I1 q1) fun iv s2 ⟨y,H2,I2,r2,q2⟩=>?_))
 refine qD (qBY (qD (qBq (thn (hs pins s2 σ H2 x y v ov iv u _ I2 r1 r2 r q2) fun _ s3 ⟨H3,I3,q3⟩=>?_))))
 exact wpAny_release ⟨σ,H3,I3,q3⟩
noncomputable def tAsg (te:TE) (g:TG):TS:=fun D σ H=>te σ H fun x H1=>g x σ H1 D.nx
theorem zaip {tg e:Expr} {te:TE} {g:TG} (he:PE X e te) (hg:PG X tg g) (hs:swapsWithSole [tg] e pos.line X.env=pure false:=by rfl) (hw:swappedStores [tg] e X.env=pure none:=by rfl)
  (h1:(assignEach [tg] X.env).map (·.2)=[assign tg X.env]:=by rfl):PS X (.Assign [tg] e pos) (tAsg te g):=by
 intro pins s σ H D I h
 refine wpAny_Assign_stores (thn (he pins s σ H _ I h) fun v s1 ⟨x,H1,I1,r1,q1⟩=>?_) hs hw
 rw [h1]
 exact thn (hg pins s1 σ H1 x v _ I1 r1 q1) fun _ s2 q=>q
theorem zamw {i:Nat} {x:Str} {e:Expr} {te:TE} {pos':Pos} (hN:X.N.Nodup) (hi:X.N[i]?=some x) (hx:Loc X.env.scope x) (he:PE X e te) (hs:swapsWith e (some (.Name x pos')) pos.line X.env=pure false:=by rfl) (hf:X.fn x=true∨X.env.scope.names.lookup x=some .local:=by assumption) :
  PS X (.Assign [.Name x pos'] e pos) (tAsg te (gName i)):=by
 intro pins s σ H D I h
 refine wpAny_Assign_Name (thn (he pins s σ H _ I h) fun v s1 ⟨y,H1,I1,r1,q1⟩=>?_) hs
 exact zze I1 hN hi hx r1 (fun s2 I2=>⟨_,H1,I2,q1⟩) hf
end
section
variable {X:Cx} {pos:Pos}
end
set_option genInjectivity false in
structure It where
 go:Nat→Hp→Prop
 yld:Nat→Hp→V→Hp→Prop
 stop:Nat→Hp→Prop
noncomputable def FpOk (X:Cx) (pins:List (Addr×Obj)) (H:Hp) (b:Addr):Prop :=
 H b=none∧b≠X.env.locals∧b∉X.fs∧(b∈X.ex∨X.s₀.heap.objs.size≤b)∧(∀ x c,X.env.cells.lookup x=some c→c≠b)∧∀ p∈X.pn++pins,p.1≠b
theorem Inv.fpOk {X:Cx} {pins:List (Addr×Obj)} {σ:St} {H H':Hp} {s:Shared} {b:Addr} (I:Inv X pins σ H s) (hb:s.heap.objs.size≤b) (hn:H' b=none):FpOk X pins H' b:=by
 refine ⟨hn,qA5 (qk I.lt hb),I.nofs hb,.inr (qAQ I.sz hb),fun x c e z=>?_,fun p hp z=>?_⟩
 ·obtain ⟨v,q⟩:=I.cell x c e
  exact absurd (qk q.lt (by rw [z];exact hb)) (qAp _)
 ·exact absurd (qk (qL (I.pin p hp).1) (by rw [z];exact hb)) (qAp _)
set_option genInjectivity false in
structure Turn (P:Program) (w:World) (K:qB) (tg:Expr) (J:It) (fp:List Addr) (it:Addr) (tn:Nat→Heap→Prop):Prop where
 mem:it∈fp
 obj:∀ i h,tn i h→∀ b∈fp,∃ o,h.get? b=some o∧∀ v,o.data≠.cell v
 keep:∀ i h h',tn i h→(∀ b∈fp,∀ o,h.get? b=some o→h'.get? b=some o)→tn i h'
 item:∀ (X:Cx),X.prog=P→X.w=w→X.K=K→X.calm=true→∀ (i:Nat) (pins:List (Addr×Obj)) (s:Shared) (σ:St) (H:Hp) (E:Value→Shared→Prop),Inv X pins σ H s→(∀ b∈fp,FpOk X pins H b)→tn i s.heap→J.go i H →
  wpAny (model P w) X.A (pyNext (.ref it)) (fun r s1=>∃ u,r=some u ∧
   wpAny (model P w) X.A (letOwnedTupleGo tg (.ref it) u) (fun _ s2=>∃ x H',Inv X pins σ H' s2∧RelV x u∧J.yld i H x H'∧tn (i+1) s2.heap∧∀ b∈fp,H' b=none) E s1) E s
 done:∀ (X:Cx),X.prog=P→X.w=w→X.K=K→X.calm=true→∀ (i:Nat) (pins:List (Addr×Obj)) (s:Shared) (σ:St) (H:Hp) (E:Value→Shared→Prop),Inv X pins σ H s→(∀ b∈fp,FpOk X pins H b)→tn i s.heap→J.stop i H →
  wpAny (model P w) X.A (pyNext (.ref it)) (fun r s1=>r=none∧Inv X pins σ H s1) E s
 self:∀ (A:Around) (i:Nat) (s:Shared) (Q:Value→Shared→Prop) (E:Value→Shared→Prop),tn i s.heap→Q (.ref it) s→wpAny (model P w) A (pyIter (.ref it)) Q E s
noncomputable abbrev TI:=St→Hp→(It→Hp→Prop)→Prop
noncomputable def PIE (X:Cx) (pins:List (Addr×Obj)) (σ:St) (tg:Expr) (R:It→Hp→Prop) (itv:Value) (s2:Shared):Prop :=
 ∃ (it:Addr) (fp:List Addr) (tn:Nat→Heap→Prop) (J:It) (H':Hp),itv=.ref it∧Inv X pins σ H' s2∧Turn X.prog X.w X.K tg J fp it tn∧tn 0 s2.heap∧(∀ b∈fp,FpOk X pins H' b)∧R J H'
noncomputable def PI (X:Cx) (tg iter:Expr) (wi:TI):Prop :=
 ∀ (pins:List (Addr×Obj)) (s:Shared) (σ:St) (H:Hp) (R:It→Hp→Prop),Inv X pins σ H s→wi σ H R →
  wpAny (model X.prog X.w) X.A (eval iter X.env) (fun v s1=>wpAny (model X.prog X.w) X.A (pyIter v) (PIE X pins σ tg R) X.xe s1) X.xe s
theorem zajz {M:Model} {A:Around} {E:Value→Shared→Prop} {s:Shared} {tg:Expr} {it:Addr} {u:Value} {o:Obj} {n:String} {vs:Array Value} {Q:Unit→Shared→Prop} (ho:s.heap.get? it=some o) (hc:o.cls=.type n) (hd:o.data=.fields vs)
  (hn:["enumerate", "zip", "dict_itemiterator", "dict_reverseitemiterator", "odict_iterator", "itertools.zip_longest", "itertools.pairwise"].contains n=false) (hQ:Q () s):wpAny M A (letOwnedTupleGo tg (.ref it) u) Q E s:=by
 unfold letOwnedTupleGo
 cases tg<;>first
  | exact qc hQ
  | (cases u<;>first
    | exact qc hQ
    | (refine qD (wpAny_load ho ?_)
       rw [hc,hd]
       show wpAny M A (if (["enumerate", "zip", "dict_itemiterator", "dict_reverseitemiterator", "odict_iterator", "itertools.zip_longest", "itertools.pairwise"].contains n&&vs[0]?==some (rawInt _))=true then _ else _) Q E s
       rw [if_neg (by intro h;rw [hn,Bool.false_and] at h;cases h)]
       exact qc hQ))
noncomputable def Itl (K:qB) (a:Addr):It :=
 ⟨fun i H=>∃ xs x,SqL K H a xs∧xs[i]?=some x,fun i H x H'=>H'=H∧∀ xs,SqL K H a xs→xs[i]?=some x,fun i H=>∃ xs,SqL K H a xs∧xs.length≤i⟩
noncomputable def Itt (K:qB) (a:Addr):It :=
 ⟨fun i H=>∃ xs x,SqT K H a xs∧xs[i]?=some x,fun i H x H'=>H'=H∧∀ xs,SqT K H a xs→xs[i]?=some x,fun i H=>∃ xs,SqT K H a xs∧xs.length≤i⟩
noncomputable def Itr (lo:Int) (n:Nat):It:=⟨fun i _=>i<n,fun i H x H'=>H'=H∧x=.int (lo+i),fun i _=>n≤i⟩
theorem zacf {P:Program} {w:World} {K:qB} {tg:Expr} (a it:Addr):Turn P w K tg (Itl K a) [it] it (fun i h=>h.IsListIter it a i) where
 mem:=by simp
 obj:=fun i h st b hb=>by
  have e:b=it:=by simpa using hb
  subst e
  obtain ⟨o,e,c,d⟩:=st
  exact ⟨o,e,fun v z=>by rw [d] at z;cases z⟩
 keep:=fun i h h' st k=>st.at fun o e=>k it (by simp) o e
 item:=by
  intro X hP hw hK hc i pins s σ H E I hf st hg
  subst hP hw hK
  obtain ⟨xs,x,hq,hx⟩:=hg
  obtain ⟨its,rv,p,hz⟩:=I.list hq
  obtain ⟨u,hu,ru⟩:=rv.get hx
  obtain ⟨f0,f1,f2,f3,f4,f5⟩:=hf it (by simp)
  refine wpAny_pyNext_list_item st p.isList (x:=u) (by simpa using hu) fun h' st' sb=>?_
  have I1:Inv X pins σ H {s with heap:=h'}:=I.turned (t':=s.toks) (fun b o hb e=>(sb.2 b hb).trans e) f0 f1 f3 f4 f5
  obtain ⟨o,e,c,d⟩:=id st'
  exact ⟨u,rfl,zajz (s:={s with heap:=h'}) e c d (by decide) ⟨x,H,I1,ru,⟨rfl,fun ys hy=>by rw [I.list_inj hy hq];exact hx⟩,st',fun b hb=>(hf b hb).1⟩⟩
 done:=by
  intro X hP hw hK hc i pins s σ H E I hf st hg
  subst hP hw hK
  obtain ⟨xs,hq,hx⟩:=hg
  obtain ⟨its,rv,p,hz⟩:=I.list hq
  obtain ⟨f0,f1,f2,f3,f4,f5⟩:=hf it (by simp)
  have hl:=rv.length
  exact wpAny_pyNext_list_end (I.ok.hd hc) st p.isList (by simp;omega) fun h' eb=>⟨rfl,I.turned (t':=s.toks) (fun b o hb e=>eb b o hb e) f0 f1 f3 f4 f5⟩
 self:=fun _ _ _ _ _ st h=>wpAny_pyIter_listiter st h
theorem zaam {P:Program} {w:World} {K:qB} {tg:Expr} (a it:Addr):Turn P w K tg (Itt K a) [it] it (fun i h=>h.IsTupleIter it a i) where
 mem:=by simp
 obj:=fun i h st b hb=>by
  have e:b=it:=by simpa using hb
  subst e
  obtain ⟨o,e,c,d⟩:=st
  exact ⟨o,e,fun v z=>by rw [d] at z;cases z⟩
 keep:=fun i h h' st k=>st.at fun o e=>k it (by simp) o e
 item:=by
  intro X hP hw hK hc i pins s σ H E I hf st hg
  subst hP hw hK
  obtain ⟨xs,x,hq,hx⟩:=hg
  obtain ⟨its,rv,p,hz⟩:=I.tuple hq
  obtain ⟨u,hu,ru⟩:=rv.get hx
  obtain ⟨f0,f1,f2,f3,f4,f5⟩:=hf it (by simp)
  refine wpAny_pyNext_tuple_item st (show s.heap.IsTuple a its.toArray from p) (x:=u) (by simpa using hu) fun h' st' sb=>?_
  have I1:Inv X pins σ H {s with heap:=h'}:=I.turned (t':=s.toks) (fun b o hb e=>(sb.2 b hb).trans e) f0 f1 f3 f4 f5
  obtain ⟨o,e,c,d⟩:=id st'
  exact ⟨u,rfl,zajz (s:={s with heap:=h'}) e c d (by decide) ⟨x,H,I1,ru,⟨rfl,fun ys hy=>by rw [I.tuple_inj hy hq];exact hx⟩,st',fun b hb=>(hf b hb).1⟩⟩
 done:=by
  intro X hP hw hK hc i pins s σ H E I hf st hg
  subst hP hw hK
  obtain ⟨xs,hq,hx⟩:=hg
  obtain ⟨its,rv,p,hz⟩:=I.tuple hq
  obtain ⟨f0,f1,f2,f3,f4,f5⟩:=hf it (by simp)
  have hl:=rv.length
  exact wpAny_pyNext_tuple_end (I.ok.hd hc) st (show s.heap.IsTuple a its.toArray from p) (by simp;omega) fun h' eb=>⟨rfl,I.turned (t':=s.toks) (fun b o hb e=>eb b o hb e) f0 f1 f3 f4 f5⟩
 self:=fun _ _ _ _ _ st h=>wpAny_pyIter_tupleiter st h
theorem zaan {P:Program} {w:World} {K:qB} {tg:Expr} (it:Addr) (lo:Int) (n:Nat):Turn P w K tg (Itr lo n) [it] it (fun i h=>IsRangeIter h it (lo+(i:Nat) * 1) ((n:Int) - (i:Nat)) 1) where
 mem:=by simp
 obj:=fun i h st b hb=>by
  have e:b=it:=by simpa using hb
  subst e
  exact ⟨_,st,fun v z=>by
   have z':Data.fields _=Data.cell v:=z
   cases z'⟩
 keep:=fun i h h' st k=>k it (by simp) _ st
 item:=by
  intro X hP hw hK hc i pins s σ H E I hf st hg
  subst hP hw hK
  obtain ⟨f0,f1,f2,f3,f4,f5⟩:=hf it (by simp)
  have W:=Walks.range (prog:=X.prog) (w:=X.w) (I.ok.hd hc) it lo 1 n
  refine W.item i s _ _ hg st fun v h' tk hv st' kk=>?_
  obtain ⟨t,rfl⟩:=hv
  have I1:Inv X pins σ H {s with heap:=h',toks:=tk}:=I.turned (fun b o hb e=>kk b o (by simpa using hb) e) f0 f1 f3 f4 f5
  refine ⟨_,rfl,zajz (s:={s with heap:=h',toks:=tk}) (n:="range_iterator") st' rfl rfl (by decide) ⟨.int (lo+i),H,I1,⟨t,?_⟩,⟨rfl,rfl⟩,st',fun b hb=>(hf b hb).1⟩⟩
  rw [Int.mul_one]
 done:=by
  intro X hP hw hK hc i pins s σ H E I hf st hg
  subst hP hw hK
  obtain ⟨f0,f1,f2,f3,f4,f5⟩:=hf it (by simp)
  exact wpAny_pyNext_range_end (I.ok.hd hc) st (by have:n≤i:=hg;omega) fun h' eb=>⟨rfl,I.turned (t':=s.toks) (fun b o hb e=>eb b o hb e) f0 f1 f3 f4 f5⟩
 self:=fun _ _ _ _ _ st h=>wpAny_pyIter_rangeiter st h
section
variable {X:Cx} {tg:Expr}
theorem zafz {pins:List (Addr×Obj)} {σ:St} {H:Hp} {s:Shared} {R:It→Hp→Prop} {E:Value→Shared→Prop} {lo hi:Int} {t u v:Tok} {tk:Nat} (I:Inv X pins σ H s) (h1:-(2 ^ 62)≤lo) (h2:lo<2 ^ 62) (h3:-(2 ^ 62)≤hi) (h4:hi<2 ^ 62)
  (q:R (Itr lo (hi - lo).toNat) H):wpAny (model X.prog X.w) X.A (pyIter (.ref s.heap.objs.size)) (PIE X pins σ tg R) E {s with heap:=s.heap.push {cls:=.type "range",data:=.fields #[.int lo t,.int hi u,.int 1 v]},toks:=tk}:=by
 refine wpAny_pyIter_range (IsRange.new ..) (small_one h1 h2 h3 h4) ?_
 have I1:Inv X pins σ H {s with heap:=s.heap.push {cls:=.type "range",data:=.fields #[.int lo t,.int hi u,.int 1 v]},toks:=tk}:=I.kept fun b o e=>qC _ e
 refine ⟨(s.heap.push {cls:=.type "range",data:=.fields #[.int lo t,.int hi u,.int 1 v]}).objs.size,[(s.heap.push {cls:=.type "range",data:=.fields #[.int lo t,.int hi u,.int 1 v]}).objs.size],_,_,H,rfl,
  I1.kept (t':=tk) fun b o e=>qC _ e,zaan _ lo (hi - lo).toNat,?_,fun b hb=>?_,q⟩
 ·have e1:lo+((0:Nat):Int) * 1=lo:=by simp
  have e2:(((hi - lo).toNat:Nat):Int) - ((0:Nat):Int)=Builtin.Range.rangeSize lo hi 1:=by rw [rangeSize_one];split<;>omega
  show IsRangeIter _ _ (lo+((0:Nat):Int) * 1) ((((hi - lo).toNat:Nat):Int) - ((0:Nat):Int)) 1
  rw [e1,e2]
  exact qU _ rfl
 ·have e:b=(s.heap.push {cls:=.type "range",data:=.fields #[.int lo t,.int hi u,.int 1 v]}).objs.size:=by simpa using hb
  subst e
  exact I1.fpOk (qQ _) (I1.hok.fresh (qQ _))
noncomputable def iRng1 (ta:TA):TI:=fun σ H R=>ta σ H fun vs H1=>∃ j:Int,vs=[.int j]∧-(2 ^ 62)≤j∧j<2 ^ 62∧R (Itr 0 j.toNat) H1
theorem zacg {a:Expr} {ta:TA} {p pos:Pos} (hg:Gl X "range") (hm:X.mg "range" = none) (ha:PA X [a] ta) (hs:starEach [a] X.env=[(false,eval a X.env)]:=by rfl):PI X tg (.Call (.Name "range" p) [a] [] pos) (iRng1 ta):=by
 intro pins s σ H R I h
 refine Call_ (zrm I hg hm boot_range (qBd (thn (ha pos pins s σ H _ I h) fun us s1 ⟨vs,H1,I1,r1,q1⟩=>?_) hs rfl))
 obtain ⟨j,e,q1,q2,q⟩:=q1
 subst e
 cases r1 with
 | cons r rr =>
  cases rr
  obtain ⟨t,rfl⟩:=r
  exact call_range_1 (zafz I1 (by omega) (by omega) q1 q2 (by simpa using q))
noncomputable def tFor (wi:TI) (g:TG) (tb:TS):TS:=fun D σ H=>wi σ H fun J H1=>∃ W:Nat→Nat→St→Hp→Prop,(∃ m,W 0 m σ H1)∧∀ i m σ H,W i m σ H →
 (J.stop i H∧D.nx σ H)∨(J.go i H∧∃ N:St→Hp→Prop,(∀ σ' H',N σ' H'→∃ m',m'<m∧W (i+1) m' σ' H')∧∀ x H',J.yld i H x H'→g x σ H' fun σ2 H2=>tb {D with nx:=N,ct:=N,bk:=D.nx} σ2 H2)
noncomputable def zus (fp:List Addr) (h:Heap):List (Addr×Obj):=fp.filterMap fun b=>(h.get? b).map fun o=>(b,o)
theorem zkv {fp:List Addr} {h:Heap} {b:Addr} {o:Obj} (hb:b∈fp) (e:h.get? b=some o):(b,o)∈zus fp h:=qBi.mpr ⟨b,hb,by rw [e];rfl⟩
theorem zach {fp:List Addr} {h:Heap} {p:Addr×Obj} (hp:p∈zus fp h):p.1∈fp∧h.get? p.1=some p.2:=by
 obtain ⟨b,hb,e⟩:=qBi.mp hp
 cases q:h.get? b with
 | none=>rw [q] at e;cases e
 | some o =>
  rw [q] at e
  have e':(b,o)=p:=qT e
  subst e'
  exact ⟨hb,q⟩
theorem Inv.pinned {pins:List (Addr×Obj)} {σ:St} {H:Hp} {s:Shared} {fp:List Addr} (I:Inv X pins σ H s) (hf:∀ b∈fp,FpOk X pins H b) (ho:∀ b∈fp,∃ o,s.heap.get? b=some o∧∀ v,o.data≠.cell v):Inv X (pins++zus fp s.heap) σ H s :=
 I.pins_of fun p hp=>(qAB.mp hp).elim (fun z=>I.pin p (qW _ z)) fun z=>by
  obtain ⟨hb,e⟩:=zach z
  obtain ⟨f0,f1,f2,_⟩:=hf p.1 hb
  obtain ⟨o,e',d⟩:=ho p.1 hb
  rw [e] at e';cases e'
  exact ⟨e,f0,f1,f2,d⟩
theorem Inv.unpinned {pins pl:List (Addr×Obj)} {σ:St} {H:Hp} {s:Shared} (I:Inv X (pins++pl) σ H s):Inv X pins σ H s:=I.pins_of fun p hp=>I.pin p (qW _ (qv _ hp))
theorem zamx {iter:Expr} {body:List Stmt} {wi:TI} {g:TG} {tb:TS} {pos:Pos} (hp:PassesOwn (model X.prog X.w) X.A X.env X.xe) (hc:X.calm=true) (hi:PI X tg iter wi) (hg:PG X tg g) (hb:PSs X body tb)
  (hs:∀ x,foldedSetIterable iter X.env x=pure x:=by intro _;rfl):PS X (.For tg iter body [] pos) (tFor wi g tb):=by
 intro pins s σ H D I h
 refine wpAny_For (thn (hi pins s σ H _ I h) fun v s1 h1=>thn h1 fun itv s2 h2=>?_) hs
 obtain ⟨it,fp,tn,J,H2,e,I2,T,st2,f2,W,⟨m0,w0⟩,turn⟩:=h2
 subst e
 have stat:∀ {H':Hp},(∀ b∈fp,H' b=none)→∀ b∈fp,FpOk X pins H' b:=fun hn b hb=>⟨hn b hb,(f2 b hb).2⟩
 refine codeAny_forLoop_any (fun n s'=>∃ i σ' H',Inv X pins σ' H' s'∧tn i s'.heap∧(∀ b∈fp,H' b=none)∧W i n σ' H') ?_ m0 ⟨0,σ,H2,I2,st2,fun b hb=>(f2 b hb).1,w0⟩
 rintro n s3 ⟨i,σ3,H3,I3,st3,fr3,w3⟩
 rcases turn i n σ3 H3 w3 with ⟨stop,qn⟩|⟨go,N,hN,step⟩
 ·refine qBG hp (thn (T.done X rfl rfl rfl hc i pins s3 σ3 H3 X.xe I3 (stat fr3) st3 stop) fun r s4 ⟨hr,I4⟩=>?_)
  subst hr
  exact qCH ⟨σ3,H3,I4,qn⟩
 ·refine qBG hp (thn (T.item X rfl rfl rfl hc i pins s3 σ3 H3 X.xe I3 (stat fr3) st3 go) fun r s4 ⟨u,hr,h4⟩=>?_)
  subst hr
  refine qBG hp (thn h4 fun _ s5 ⟨x,H5,I5,r5,y5,st5,fr5⟩=>?_)
  have I5':=I5.pinned (stat fr5) (T.obj _ _ st5)
  refine qBG hp (thn (hg _ s5 σ3 H5 x u _ I5' r5 (step x H5 y5)) fun _ s6 ⟨σ6,H6,I6,q6⟩=>?_)
  refine qBG hp (thn (hb _ s6 σ6 H6 _ I6 q6) fun f s7 q7=>?_)
  have again:∀ {σ7:St} {H7:Hp},Inv X (pins++zus fp s5.heap) σ7 H7 s7→N σ7 H7→∃ m,m<n∧∃ i σ' H',Inv X pins σ' H' s7∧tn i s7.heap∧(∀ b∈fp,H' b=none)∧W i m σ' H':=fun {σ7 H7} I7 n7=>by
   obtain ⟨m',hm,w7⟩:=hN σ7 H7 n7
   refine ⟨m',hm,i+1,σ7,H7,I7.unpinned,T.keep _ _ _ st5 fun b hb o e=>(I7.pin (b,o) (qW _ (qW _ (zkv hb e)))).1,fun b hb=>?_,w7⟩
   obtain ⟨o,e,d⟩:=T.obj _ _ st5 b hb
   exact (I7.pin (b,o) (qW _ (qW _ (zkv hb e)))).2.1
  cases f with
  | next=>obtain ⟨σ7,H7,I7,n7⟩:=q7;exact again I7 n7
  | cont=>obtain ⟨σ7,H7,I7,n7⟩:=q7;exact again I7 n7
  | brk=>obtain ⟨σ7,H7,I7,q7⟩:=q7;exact ⟨σ7,H7,I7.unpinned,q7⟩
  | ret v=>obtain ⟨x7,σ7,H7,I7,r7,q7⟩:=q7;exact ⟨x7,σ7,H7,I7.unpinned,r7,q7⟩
end
noncomputable abbrev R2:=V→V→Hp→VK→Prop
noncomputable def OpR (X:Cx) (f:Value→Value→Sem Value) (r:R2):Prop :=
 ∀ (pins:List (Addr×Obj)) (s:Shared) (σ:St) (H:Hp) (x y:V) (v u:Value) (Q:VK),Inv X pins σ H s→RelV x v→RelV y u→r x y H Q →
  wpAny (model X.prog X.w) X.A (f v u) (EP X pins σ Q) X.xe s
noncomputable def CallR (X:Cx) (f:Value) (r:List V→Hp→VK→Prop):Prop :=
 ∀ (pins:List (Addr×Obj)) (s:Shared) (σ:St) (H:Hp) (xs:List V) (us:List Value) (Q:VK),Inv X pins σ H s→Vals xs us→r xs H Q →
  wpAny (model X.prog X.w) X.A (call f us) (EP X pins σ Q) X.xe s
noncomputable def TruR (X:Cx) (r:V→Hp→(Bool→Hp→Prop)→Prop):Prop :=
 ∀ (pins:List (Addr×Obj)) (s:Shared) (σ:St) (H:Hp) (x:V) (v:Value) (Q:Bool→Hp→Prop),Inv X pins σ H s→RelV x v→r x H Q →
  wpAny (model X.prog X.w) X.A (truthy v) (TP X pins σ Q) X.xe s
noncomputable def tOp (r:R2) (ta tb:TE):TE:=fun σ H Q=>ta σ H fun x H1=>tb σ H1 fun y H2=>r x y H2 Q
noncomputable def rI (C:Int→Int→Prop) (g:Int→Int→V):R2:=fun x y H Q=>∃ i j,x=.int i∧y=.int j∧C i j∧Q (g i j) H
noncomputable def rI0 (g:Int→Int→V):R2:=fun x y H Q=>∃ i j,x=.int i∧y=.int j∧Q (g i j) H
section
variable {X:Cx} {a b c:Expr} {ta tb tc:TE} {pos:Pos}
theorem binT (ha:PE X a ta) (hb:PE X b tb) {pins:List (Addr×Obj)} {s:Shared} {σ:St} {H:Hp} {R:V→V→Hp→Prop} (I:Inv X pins σ H s)
  (h:ta σ H fun x H1=>tb σ H1 fun y H2=>R x y H2) {Q:Value→Shared→Prop} {f:Value→Value→Sem Value}
  (hf:∀ v u s2 x y H2,Inv X pins σ H2 s2→RelV x v→RelV y u→R x y H2→wpAny (model X.prog X.w) X.A (f v u) Q X.xe s2) :
  wpAny (model X.prog X.w) X.A (eval a X.env) (fun v s₁=>wpAny (model X.prog X.w) X.A (eval b X.env) (fun u s₂=>wpAny (model X.prog X.w) X.A (f v u) Q X.xe s₂) X.xe s₁) X.xe s:=by
 refine thn (ha pins s σ H _ I h) fun v s1 ⟨x,H1,I1,r1,q1⟩=>?_
 refine thn (hb pins s1 σ H1 _ I1 q1) fun u s2 ⟨y,H2,I2,r2,q2⟩=>?_
 exact hf v u s2 x y H2 I2 r1 r2 q2
theorem zapj {op:Operator} {r:R2} (ho:OpR X (binaryOp op) r) (ha:PE X a ta) (hb:PE X b tb):PE X (.BinOp a op b pos) (tOp r ta tb):=by
 intro pins s σ H Q I h
 exact wpAny_BinOp (binT ha hb I h fun v u s2 x y H2 I2 rx ry q=>ho pins s2 σ H2 x y v u Q I2 rx ry q)
theorem opI {f:Value→Value→Sem Value} {C:Int→Int→Prop} {g:Int→Int→Int}
  (rule:∀ (i j:Int) (t u:Tok) (s:Shared) (Q:Value→Shared→Prop) (E:Value→Shared→Prop),C i j→Q (.int (g i j) s.toks) {s with toks:=s.toks+1}→wpAny (model X.prog X.w) X.A (f (.int i t) (.int j u)) Q E s) :
  OpR X f (rI C fun i j=>.int (g i j)):=by
 intro pins s σ H x y v u Q I rx ry h
 obtain ⟨i,j,rfl,rfl,hc,q⟩:=h
 obtain ⟨t,rfl⟩:=rx
 obtain ⟨t',rfl⟩:=ry
 exact rule i j t t' s _ _ hc ⟨.int (g i j),H,I.tok _,⟨_,rfl⟩,q⟩
theorem opI0 {f:Value→Value→Sem Value} {g:Int→Int→Int}
  (rule:∀ (i j:Int) (t u:Tok) (s:Shared) (Q:Value→Shared→Prop) (E:Value→Shared→Prop),Q (.int (g i j) s.toks) {s with toks:=s.toks+1}→wpAny (model X.prog X.w) X.A (f (.int i t) (.int j u)) Q E s) :
  OpR X f (rI0 fun i j=>.int (g i j)):=by
 intro pins s σ H x y v u Q I rx ry h
 obtain ⟨i,j,rfl,rfl,q⟩:=h
 obtain ⟨t,rfl⟩:=rx
 obtain ⟨t',rfl⟩:=ry
 exact rule i j t t' s _ _ ⟨.int (g i j),H,I.tok _,⟨_,rfl⟩,q⟩
theorem opB0 {f:Value→Value→Sem Value} {g:Int→Int→Bool}
  (rule:∀ (i j:Int) (t u:Tok) (s:Shared) (Q:Value→Shared→Prop) (E:Value→Shared→Prop),Q (.bool (g i j)) s→wpAny (model X.prog X.w) X.A (f (.int i t) (.int j u)) Q E s) :
  OpR X f (rI0 fun i j=>.bl (g i j)):=by
 intro pins s σ H x y v u Q I rx ry h
 obtain ⟨i,j,rfl,rfl,q⟩:=h
 obtain ⟨t,rfl⟩:=rx
 obtain ⟨t',rfl⟩:=ry
 exact rule i j t t' s _ _ ⟨.bl (g i j),H,I,rfl,q⟩
noncomputable def CDiv (i j:Int):Prop:=0<j∧j<1073741824
noncomputable def CPow (i j:Int):Prop:=0≤j∧j≤1000000∧i.natAbs<2 ^ 64
noncomputable def CMul (i j:Int):Prop:=(-(2 ^ 64)<i∧i<2 ^ 64)∨(-(2 ^ 64)<j∧j<2 ^ 64)
theorem CMul.ok {i j:Int} (h:CMul i j):IntMulOk i j:=by
 rcases h with ⟨h1,h2⟩|⟨h1,h2⟩
 ·exact .of_left (intBits_le_64 h1 h2)
 ·exact .of_right (intBits_le_64 h1 h2)
theorem zamy:OpR X (binaryOp .Add) (rI0 fun i j=>.int (i+j)):=opI0 fun _ _ _ _ _ _ _ q=>add_int q
theorem zaci:OpR X (binaryOp .Sub) (rI0 fun i j=>.int (i - j)):=opI0 fun _ _ _ _ _ _ _ q=>sub_int q
theorem zamz:OpR X (binaryOp .Mult) (rI CMul fun i j=>.int (i * j)):=opI fun _ _ _ _ _ _ _ hc q=>mul_int q hc.ok
theorem zacj:OpR X (binaryOp .FloorDiv) (rI CDiv fun i j=>.int (i / j)):=opI fun i j _ _ _ _ _ hc q=>by
 have h1:(0:Int)<j:=hc.1
 have h2:j<1073741824:=hc.2
 exact floordiv_int (by omega) (by rw [Int.fdiv_eq_ediv_of_nonneg i (by omega)];exact q) (.inl (PyProof.noPylong_small (by omega)))
theorem znx:OpR X (binaryOp .Mod) (rI (fun _ j=>0<j) fun i j=>.int (i % j)):=opI fun i j _ _ _ _ _ hc q=>by
 have h1:(0:Int)<j:=hc
 exact mod_int' (by omega) (by rw [Int.fmod_eq_emod_of_nonneg i (by omega)];exact q)
theorem zana:OpR X (binaryOp .Pow) (rI CPow fun i j=>.int (i ^ j.toNat)):=opI fun _ _ _ _ _ _ _ hc q=>pow_int_small hc.1 hc.2.1 hc.2.2 q
end
noncomputable def scal:V→V→Bool
 | .non,.non=>true|.non,.int _=>true|.int _,.non=>true|.non,.bl _=>true|.bl _,.non=>true|.non,.str _=>true|.str _,.non=>true
 | .int _,.int _=>true|.bl _,.bl _=>true|.str _,.str _=>true|.byt _,.byt _=>true
 | .int _,.str _=>true|.str _,.int _=>true|.bl _,.str _=>true|.str _,.bl _=>true
 | _,_=>false
noncomputable def rEq:R2:=fun x y H Q=>scal x y=true∧Q (.bl (decide (x=y))) H
noncomputable def rNe:R2:=fun x y H Q=>scal x y=true∧Q (.bl (!decide (x=y))) H
theorem zxl {i j:Int}:decide (V.int i=V.int j)=(i==j):=by
 rw [qAe]
 simp
theorem zack {i j:Bool}:decide (V.bl i=V.bl j)=(i==j):=by
 rw [qAe]
 simp
theorem zxm {i j:Str}:decide (V.str i=V.str j)=(i==j):=by
 rw [qAe]
 simp
theorem zacl {i j:Array UInt8}:decide (V.byt i=V.byt j)=(i.toList==j.toList):=by
 rw [qAe]
 cases i
 cases j
 simp
section
variable {X:Cx} {a b c:Expr} {ta tb tc:TE} {pos:Pos}
theorem zct {pins:List (Addr×Obj)} {σ:St} {H:Hp} {s:Shared} {Q:VK} {k k':Bool} (I:Inv X pins σ H s) (q:Q (.bl k) H) (e:k=k'):EP X pins σ Q (.bool k') s:=by
 subst e
 exact ⟨.bl k,H,I,rfl,q⟩
theorem zapk:OpR X (compareOp .Eq) rEq:=by
 intro pins s σ H x y v u Q I rx ry h
 obtain ⟨hs,q⟩:=h
 cases x with
 | non =>
  cases rx
  cases y with
  | non=>cases ry;exact PySem.EqNone.eq_none_none (zct I q (by simp))
  | bl j=>cases ry;exact PySem.EqNone.eq_none_bool (zct I q (by simp))
  | int j=>obtain ⟨t',rfl⟩:=ry;exact PySem.EqNone.eq_none_int (zct I q (by simp))
  | str j=>obtain ⟨t',rfl⟩:=ry;exact PySem.EqNone.eq_none_str (zct I q (by simp))
  | _=>exact absurd (show false=true from hs) qK
 | bl i =>
  cases rx
  cases y with
  | non=>cases ry;exact PySem.EqNone.eq_bool_none (zct I q (by simp))
  | bl j=>cases ry;exact eq_bool (zct I q zack)
  | str j=>obtain ⟨t',rfl⟩:=ry;exact PySem.EqMixed.eq_bool_str (zct I q (by simp))
  | _=>exact absurd (show false=true from hs) qK
 | int i =>
  obtain ⟨t,rfl⟩:=rx
  cases y with
  | non=>cases ry;exact PySem.EqNone.eq_int_none (zct I q (by simp))
  | int j=>obtain ⟨t',rfl⟩:=ry;exact eq_int (zct I q zxl)
  | str j=>obtain ⟨t',rfl⟩:=ry;exact PySem.EqMixed.eq_int_str (zct I q (by simp))
  | _=>exact absurd (show false=true from hs) qK
 | str i =>
  obtain ⟨t,rfl⟩:=rx
  cases y with
  | non=>cases ry;exact PySem.EqNone.eq_str_none (zct I q (by simp))
  | bl j=>cases ry;exact PySem.EqMixed.eq_str_bool (zct I q (by simp))
  | int j=>obtain ⟨t',rfl⟩:=ry;exact PySem.EqMixed.eq_str_int (zct I q (by simp))
  | str j=>obtain ⟨t',rfl⟩:=ry;exact eq_str (zct I q zxm)
  | _=>exact absurd (show false=true from hs) qK
 | byt i =>
  obtain ⟨t,rfl⟩:=rx
  cases y with
  | byt j=>obtain ⟨t',rfl⟩:=ry;exact PySem.W.eq_bytes (zct I q zacl)
  | _=>exact absurd (show false=true from hs) qK
 | _=>cases y<;>exact absurd (show false=true from hs) qK
theorem zapl:OpR X (compareOp .NotEq) rNe:=by
 intro pins s σ H x y v u Q I rx ry h
 obtain ⟨hs,q⟩:=h
 cases x with
 | non =>
  cases rx
  cases y with
  | non=>cases ry;exact PySem.EqNone.ne_none_none (zct I q (by simp))
  | bl j=>cases ry;exact PySem.EqNone.ne_none_bool (zct I q (by simp))
  | int j=>obtain ⟨t',rfl⟩:=ry;exact PySem.EqNone.ne_none_int (zct I q (by simp))
  | str j=>obtain ⟨t',rfl⟩:=ry;exact PySem.EqNone.ne_none_str (zct I q (by simp))
  | _=>exact absurd (show false=true from hs) qK
 | bl i =>
  cases rx
  cases y with
  | non=>cases ry;exact PySem.EqNone.ne_bool_none (zct I q (by simp))
  | bl j=>cases ry;exact ne_bool (zct I q (congrArg not zack))
  | str j=>obtain ⟨t',rfl⟩:=ry;exact PySem.EqMixed.ne_bool_str (zct I q (by simp))
  | _=>exact absurd (show false=true from hs) qK
 | int i =>
  obtain ⟨t,rfl⟩:=rx
  cases y with
  | non=>cases ry;exact PySem.EqNone.ne_int_none (zct I q (by simp))
  | int j=>obtain ⟨t',rfl⟩:=ry;exact ne_int (zct I q (congrArg not zxl))
  | str j=>obtain ⟨t',rfl⟩:=ry;exact PySem.EqMixed.ne_int_str (zct I q (by simp))
  | _=>exact absurd (show false=true from hs) qK
 | str i =>
  obtain ⟨t,rfl⟩:=rx
  cases y with
  | non=>cases ry;exact PySem.EqNone.ne_str_none (zct I q (by simp))
  | bl j=>cases ry;exact PySem.EqMixed.ne_str_bool (zct I q (by simp))
  | int j=>obtain ⟨t',rfl⟩:=ry;exact PySem.EqMixed.ne_str_int (zct I q (by simp))
  | str j=>obtain ⟨t',rfl⟩:=ry;exact ne_str (zct I q (congrArg not zxm))
  | _=>exact absurd (show false=true from hs) qK
 | byt i =>
  obtain ⟨t,rfl⟩:=rx
  cases y with
  | byt j=>obtain ⟨t',rfl⟩:=ry;exact PySem.W.ne_bytes (zct I q (congrArg not zacl))
  | _=>exact absurd (show false=true from hs) qK
 | _=>cases y<;>exact absurd (show false=true from hs) qK
theorem zanb:OpR X (compareOp .Lt) (rI0 fun i j=>.bl (decide (i<j))):=opB0 fun _ _ _ _ _ _ _ q=>lt_int q
theorem zapm:OpR X (compareOp .Gt) (rI0 fun i j=>.bl (decide (j<i))):=opB0 fun _ _ _ _ _ _ _ q=>gt_int q
theorem OpR.or {f:Value→Value→Sem Value} {r r':R2} (h:OpR X f r) (h':OpR X f r'):OpR X f (fun x y H Q=>r x y H Q∨r' x y H Q):=by
 intro pins s σ H x y v u Q I rx ry q
 rcases q with q|q
 ·exact h pins s σ H x y v u Q I rx ry q
 ·exact h' pins s σ H x y v u Q I rx ry q
theorem ziv (b:Expr) {op:CmpOp} (h:op≠.In:=by decide) (h2:op≠.NotIn:=by decide):behindInMarks op b=false:=by
 have e1:(op==CmpOp.In)=false:=by cases op<;>first|rfl|exact absurd rfl h
 have e2:(op==CmpOp.NotIn)=false:=by cases op<;>first|rfl|exact absurd rfl h2
 cases b<;>simp [behindInMarks,e1,e2]
theorem zaka {op:CmpOp} {r:R2} (ho:OpR X (compareOp op) r) (ha:PE X a ta) (hb:PE X b tb) (hm:behindInMarks op b=false):PE X (.Compare a [op] [b] pos) (tOp r ta tb):=by
 intro pins s σ H Q I h
 exact wpAny_Compare1 (binT ha hb I h fun v u s2 x y H2 I2 rx ry q=>ho pins s2 σ H2 x y v u Q I2 rx ry q) hm
noncomputable def tTest (t:TE):TT:=fun σ H Q=>t σ H fun x H'=>∃ k,x=.bl k∧Q k H'
theorem zakb {op:CmpOp} {r:R2} (ho:OpR X (compareOp op) r) (ha:PE X a ta) (hb:PE X b tb) (hm:behindInMarks op b=false):PT X (.Compare a [op] [b] pos) (tTest (tOp r ta tb)):=by
 intro pins s σ H Q I h
 refine wpAny_isTrue_Compare1 (thn (ha pins s σ H _ I h) fun v s1 ⟨x,H1,I1,r1,q1⟩=>thn (hb pins s1 σ H1 _ I1 q1) fun u s2 ⟨y,H2,I2,r2,q2⟩ =>
  thn (ho pins s2 σ H2 x y v u _ I2 r1 r2 q2) fun c s3 ⟨z,H3,I3,r3,k,e,q3⟩=>?_) hm
 subst e
 cases r3
 exact qA7 ⟨H3,I3,q3⟩
noncomputable def TruV (K:qB) (x:V) (H:Hp) (k:Bool):Prop :=
 match x with
 | .non=>k=false
 | .bl b=>k=b
 | .int i=>k=(i != 0)
 | .str y=>y.length≤qd∧k=((y.length:Int) != 0)
 | .byt y=>y.size≤qd∧k=((y.size:Int) != 0)
 | .ref p=>(∃ xs,SqL K H p xs∧k=!xs.isEmpty)∨(∃ xs,SqT K H p xs∧k=!xs.isEmpty)∨∃ kvs,H p=some (.dK kvs)∧k=!kvs.isEmpty
 | _=>False
theorem zaao {κ:Type} {kvs:List (κ×V)} {vs:List (κ×Value)} (r:KV kvs vs):(!vs.isEmpty)=!kvs.isEmpty:=by
 cases r<;>rfl
theorem zrn {xs:List V} {its:List Value} (r:Vals xs its):(!its.toArray.isEmpty)=!xs.isEmpty:=by
 cases r<;>simp
theorem zro:(qd:Nat)<2 ^ 63:=by rw [qCI];decide
theorem zanc:TruR X (fun x H Q=>∃ k,TruV X.K x H k∧Q k H):=by
 intro pins s σ H x v Q I rx h
 obtain ⟨k,e,q⟩:=h
 have hl:=zro
 have hs:qd=16777216:=qCI
 cases x with
 | non =>
  cases rx
  have e':k=false:=e
  subst e'
  exact truthy_none ⟨H,I,q⟩
 | bl b =>
  cases rx
  have e':k=b:=e
  subst e'
  exact qA7 ⟨H,I,q⟩
 | int i =>
  obtain ⟨t,rfl⟩:=rx
  have e':k=(i != 0):=e
  subst e'
  exact PySem.P.truthy_int ⟨H,I,q⟩
 | str y =>
  obtain ⟨t,rfl⟩:=rx
  obtain ⟨hy,e'⟩:y.length≤qd∧k=((y.length:Int) != 0):=e
  subst e'
  exact PySem.P.truthy_str (by omega) ⟨H,I.tok _,q⟩
 | byt y =>
  obtain ⟨t,rfl⟩:=rx
  obtain ⟨hy,e'⟩:y.size≤qd∧k=((y.size:Int) != 0):=e
  subst e'
  exact PySem.W.truthy_bytes (by omega) ⟨H,I.tok _,q⟩
 | ref p =>
  cases rx
  have e':(∃ xs,SqL X.K H p xs∧k=!xs.isEmpty)∨(∃ xs,SqT X.K H p xs∧k=!xs.isEmpty)∨∃ kvs,H p=some (.dK kvs)∧k=!kvs.isEmpty:=e
  rcases e' with ⟨xs,hx,e'⟩|⟨xs,hx,e'⟩|⟨kvs,hx,e'⟩
  ·subst e'
   obtain ⟨its,r,pl,hz⟩:=I.list hx
   have hlen:=r.length
   exact wpAny_truthy_list pl.isList (by simp only [qP];omega) ⟨H,I.tok _,by rw [zrn r];exact q⟩
  ·subst e'
   obtain ⟨its,r,pl,hz⟩:=I.tuple hx
   have hlen:=r.length
   exact truthy_tuple pl (by simp only [qP];omega) ⟨H,I.tok _,by rw [zrn r];exact q⟩
  ·subst e'
   obtain ⟨hz,hS,vs,r,m⟩:kvs.length≤qd∧(p==sysModules)=false∧∃ vs,KV kvs vs∧s.heap.DictOf (zdw X.prog X.w) p vs:=I.hok p _ hx
   have hlen:kvs.length=vs.length:=qBe r
   exact wpAny_truthy_dict hS m (by omega) ⟨H,I.tok _,by rw [zaao r];exact q⟩
 | _=>exact (show False from e).elim
theorem zaga (ha:PE X a ta) (he:∀ whole,isTrue a X.env whole=(do let v ← whole;standAt a.pos;holding [v] (truthy v))) :
  PT X a (fun σ H Q=>ta σ H fun x H'=>∃ k,TruV X.K x H' k∧Q k H'):=by
 intro pins s σ H Q I h
 exact isTrue_plain (thn (ha pins s σ H _ I h) fun v s1 ⟨x,H1,I1,r1,q1⟩=>zanc pins s1 σ H1 x v Q I1 r1 q1) (he _)
theorem zaap:OpR X (binaryOp .Add) (fun x y H Q=>∃ i j,x=.str i∧y=.str j∧i.length+j.length≤qd∧Q (.str (i++j)) H):=by
 intro pins s σ H x y v u Q I rx ry h
 obtain ⟨i,j,rfl,rfl,hz,q⟩:=h
 obtain ⟨t,rfl⟩:=rx
 obtain ⟨t',rfl⟩:=ry
 exact add_str (fun t' tk=>⟨.str (i++j),H,I.tok _,⟨_,rfl⟩,q⟩) hz
theorem zaaq {x:V} {us:List Value} (r:Vals [x] us):∃ u,us=[u]∧RelV x u:=by
 cases r with
 | cons r1 r2=>cases r2;exact ⟨_,rfl,r1⟩
theorem zakc {x y:V} {us:List Value} (r:Vals [x,y] us):∃ u w',us=[u,w']∧RelV x u∧RelV y w':=by
 cases r with
 | cons r1 r2 =>
  cases r2 with
  | cons r3 r4=>cases r4;exact ⟨_,_,rfl,r1,r3⟩
theorem zagb:CallR X (.builtin "abs") (fun xs H Q=>∃ i,xs=[.int i]∧Q (.int (if i<0 then -i else i)) H):=by
 intro pins s σ H xs us Q I r h
 obtain ⟨i,rfl,q⟩:=h
 obtain ⟨u,rfl,t,rfl⟩:=zaaq r
 exact call_abs_int fun u tk=>⟨.int (if i<0 then -i else i),H,I.tok _,⟨_,rfl⟩,q⟩
theorem zut (hc:X.calm=true):CallR X (.builtin "min") (fun xs H Q=>∃ i j,xs=[.int i,.int j]∧Q (.int (if j<i then j else i)) H):=by
 intro pins s σ H xs us Q I r h
 obtain ⟨i,j,rfl,q⟩:=h
 obtain ⟨u,w',rfl,⟨t,rfl⟩,⟨t',rfl⟩⟩:=zakc r
 refine min_two_ints (I.ok.hd hc) fun h' tk k=>⟨_,H,I.kept k,?_,q⟩
 by_cases hj:j<i
 ·rw [if_pos hj,if_pos hj];exact ⟨_,rfl⟩
 ·rw [if_neg hj,if_neg hj];exact ⟨_,rfl⟩
noncomputable def LenV (K:qB) (x:V) (H:Hp) (n:Nat):Prop :=
 match x with
 | .str y=>y.length≤qd∧n=y.length
 | .byt y=>y.size≤qd∧n=y.size
 | .ref p=>(∃ xs,SqL K H p xs∧n=xs.length)∨∃ xs,SqT K H p xs∧n=xs.length
 | _=>False
theorem zagc:CallR X (.builtin "len") (fun xs H Q=>∃ x n,xs=[x]∧LenV X.K x H n∧Q (.int n) H):=by
 intro pins s σ H xs us Q I r h
 obtain ⟨x,n,rfl,e,q⟩:=h
 obtain ⟨u,rfl,rx⟩:=zaaq r
 have hl:=zro
 have hs:qd=16777216:=qCI
 cases x with
 | str y =>
  obtain ⟨t,rfl⟩:=rx
  obtain ⟨hy,e'⟩:y.length≤qd∧n=y.length:=e
  subst e'
  exact len_str (by omega) ⟨.int _,H,I.tok _,⟨_,rfl⟩,q⟩
 | byt y =>
  obtain ⟨t,rfl⟩:=rx
  obtain ⟨hy,e'⟩:y.size≤qd∧n=y.size:=e
  subst e'
  exact PySem.W.len_bytes (by omega) ⟨.int _,H,I.tok _,⟨_,rfl⟩,q⟩
 | ref p =>
  cases rx
  have e':(∃ xs,SqL X.K H p xs∧n=xs.length)∨∃ xs,SqT X.K H p xs∧n=xs.length:=e
  rcases e' with ⟨xs,hx,e'⟩|⟨xs,hx,e'⟩
  ·subst e'
   obtain ⟨its,r',pl,hz⟩:=I.list hx
   have hlen:=r'.length
   exact Calls.call_len_list pl.isList (by simp only [qP];omega) ⟨.int xs.length,H,I.tok _,⟨_,by simp only [qP];rw [hlen]⟩,q⟩
  ·subst e'
   obtain ⟨its,r',pl,hz⟩:=I.tuple hx
   have hlen:=r'.length
   exact len_tuple pl (by simp only [qP];omega) ⟨.int xs.length,H,I.tok _,⟨_,by simp only [qP];rw [hlen]⟩,q⟩
 | _=>exact (show False from e).elim
end
set_option genInjectivity false in
structure ObjM (h:Heap) (x dx C:Addr) (mA:Str→Option Value):Prop where
 obj:h.get? x=some (PySem.W.instObj C dx)
 ns:h.Ns1 dx mA
 ne:dx≠x
theorem zacm {h:Heap} {dx:Addr} {mA:Str→Option Value} (n:h.Ns1 dx mA):∃ od,h.get? dx=some od∧∀ name,PySem.W.lookIn name od=some (mA name):=by
 obtain ⟨o,es,ep,ho,hd,hk,_,hm⟩:=n
 refine ⟨o,ho,fun name=>?_⟩
 have e:=hm name
 unfold nsFind findBy at e
 rw [← Array.find?_toList] at e
 unfold PySem.W.lookIn
 rw [hd]
 dsimp only
 split
 ·rename_i y q
  rw [q] at e
  exact congrArg some e
 ·rename_i q
  rw [q] at e
  have a:es.toList.any (·.refKey)=false:=by
   rw [List.any_eq_false]
   intro y hy
   obtain ⟨z,t,hkey⟩:=hk y (Array.mem_toList_iff.mp hy)
   simp [DictEntry.refKey,hkey]
  have a':¬ es.toList.any (·.refKey)=true:=by rw [a];exact qK
  rw [if_neg a']
  exact congrArg some e
theorem ObjM.look {h:Heap} {x dx C:Addr} {mA:Str→Option Value} (I:ObjM h x dx C mA):∃ od,PySem.W.InstAt h x (PySem.W.instObj C dx) C (some od)∧∀ name,PySem.W.lookIn name od=some (mA name) :=
 let ⟨od,ho,hl⟩:=zacm I.ns
 ⟨od,⟨I.obj,rfl,rfl,ho⟩,hl⟩
section
variable {prog:Program} {w:World} {A:Around} {E:Value→Shared→Prop} {s:Shared} {K:qB} {x dx C f:Addr} {mA:Str→Option Value} {name:Str} {v:Value}
end
theorem RelO.some_of {v:V} {o:Option Value} (r:RelO (some v) o):∃ u,o=some u∧RelV v u:=by
 cases o with
 | none=>exact (show False from r).elim
 | some u=>exact ⟨u,rfl,r⟩
section
variable {P:Program} {w:World} {H H':Hp} {h h':Heap} {a C dx:Addr} {fs fs':List (Str×V)}
theorem zakd (hok:HOk P w H h) (e:H a=some (.ins C dx fs)):∃ mA,ObjM h a dx C mA∧(∀ f,RelO (fs.lookup f) (mA f))∧PySem.Within mA (fs.map (·.1))∧fs.length≤1000∧H dx=some (.own a):=by
 obtain ⟨d,z,ne,ob,mA,n,r,q⟩:=(show zfw P w H h a (.ins C dx fs) from hok a _ e)
 exact ⟨mA,⟨ob,n,ne⟩,r,q,z,d⟩
end
set_option genInjectivity false in
structure Cls (K:qB) (C:Addr):Prop where
 pg:PySem.W.plainGet K C Str.empty=true
 hd:PySem.W.hasDictIn K C=true
 po:PySem.W.plainOver K C=true
 sa:PySem.W.findIn K (.ref C) "__setattr__" = some (some (.builtin "object.__setattr__"))
theorem Cls.get {K:qB} {C:Addr} (c:Cls K C) (f:Str):PySem.W.plainGet K C f=true:=c.pg
set_option genInjectivity false in
set_option genInjectivity false in
section
variable {X:Cx} {pins:List (Addr×Obj)} {σ:St} {H:Hp} {s:Shared} {a C dx:Addr} {fs:List (Str×V)} {f:Str} {v:V} {A:Around} {E:Value→Shared→Prop}
end
section
variable {X:Cx} {o e value:Expr} {f:Str} {pos pos' tpos:Pos} {ta tv:TE}
end
section
variable {X:Cx} {pins:List (Addr×Obj)} {σ:St} {H:Hp} {s:Shared} {A:Around} {E:Value→Shared→Prop} {Q:Value→Shared→Prop} {c:Value} {b:Bool}
inductive TyOf (K:qB) (H:Hp):V→Value→Prop where
 | non:TyOf K H .non (.type "NoneType")
 | bl (x:Bool):TyOf K H (.bl x) (.type "bool")
 | int (i:Int):TyOf K H (.int i) (.type "int")
 | str (x:Str):TyOf K H (.str x) (.type "str")
 | flt (x:UInt64):TyOf K H (.flt x) (.type "float")
 | lst {a:Addr} {xs:List V} (e:H a=some (.lst xs)):TyOf K H (.ref a) (.type "list")
 | frz {a:Addr} {o:Obj} {xs:List V} (e:H a=some (.frz o (.lst xs))):TyOf K H (.ref a) (.type "list")
 | tup {a:Addr} {xs:List V} (e:H a=some (.tup xs)):TyOf K H (.ref a) (.type "tuple")
 | dK {a:Addr} {kvs:List (Key×V)} (e:H a=some (.dK kvs)):TyOf K H (.ref a) (.type "dict")
 | dT {a:Addr} {kvs:List (List Key×V)} (e:H a=some (.dT kvs)):TyOf K H (.ref a) (.type "dict")
 | ins {a C dx:Addr} {fs:List (Str×V)} (e:H a=some (.ins C dx fs)) (cl:Cls K C) (ha:PySem.W.findIn K (.ref C) "__class__" = some (some (.builtin "object.__class__")))
   (hn:PySem.W.specialIn K (.builtin "object.__class__") "__get__" = some (some (.builtin "getset_descriptor.__get__"))) (htk:PySem.W.takesIn K (.builtin "object.__class__")=some true)
   (hm:PySem.W.mroIn K C (.type "object")=some true):TyOf K H (.ref a) (.ref C)
theorem zacn {x:V} {u t:Value} (I:Inv X pins σ H s) (rx:RelV x u) (ty:TyOf X.K H x t) (e:PySem.W.kitOne X.K t c=some b) (h:∀ tk,Q (.bool b) {s with toks:=tk}) :
  wpAny (model X.prog X.w) A (call (.builtin "isinstance") [u,c]) Q E s:=by
 cases ty with
 | non=>cases (show u=Value.none from rx);exact qAR PySem.W.kitx_none I.kIn True.intro e (fun z=>nomatch z) h
 | bl y=>cases (show u=Value.bool y from rx);exact qAR PySem.W.kitx_bool I.kIn True.intro e (fun z=>nomatch z) h
 | int i=>obtain ⟨t,q⟩:=(show ∃ t,u=Value.int i t from rx);cases q;exact qAR PySem.W.kitx_int I.kIn True.intro e (fun z=>nomatch z) h
 | str y=>obtain ⟨t,q⟩:=(show ∃ t,u=Value.str y t from rx);cases q;exact qAR PySem.W.kitx_str I.kIn True.intro e (fun z=>nomatch z) h
 | flt y=>obtain ⟨t,q⟩:=(show ∃ t,u=Value.float y t from rx);cases q;exact qAR PySem.W.kitx_float I.kIn True.intro e (fun z=>nomatch z) h
 | @lst a xs ea =>
  cases (show u=Value.ref a from rx)
  obtain ⟨_,_,n,_,h1⟩:=(show zfw X.prog X.w H s.heap a (.lst xs) from I.hok a _ ea)
  exact qAR qCM I.kIn ⟨_,h1,rfl⟩ e (fun z=>nomatch z) h
 | @frz a ob xs ea =>
  cases (show u=Value.ref a from rx)
  obtain ⟨_,_,_,n,_,h1⟩:=(show zfw X.prog X.w H s.heap a (.frz ob (.lst xs)) from I.hok a _ ea)
  exact qAR qCM I.kIn ⟨_,h1,rfl⟩ e (fun z=>nomatch z) h
 | @tup a xs ea =>
  cases (show u=Value.ref a from rx)
  obtain ⟨_,_,_,p⟩:=(show zfw X.prog X.w H s.heap a (.tup xs) from I.hok a _ ea)
  obtain ⟨o,h1,h2,_⟩:=p
  exact qAR PySem.W.kitx_tuple I.kIn ⟨o,h1,h2⟩ e (fun z=>nomatch z) h
 | @dK a kvs ea =>
  cases (show u=Value.ref a from rx)
  obtain ⟨_,_,vs,_,p⟩:=(show zfw X.prog X.w H s.heap a (.dK kvs) from I.hok a _ ea)
  obtain ⟨o,es,ep,h1,h2,_⟩:=p
  exact qAR qCN I.kIn ⟨o,h1,h2.1⟩ e (fun z=>nomatch z) h
 | @dT a kvs ea =>
  cases (show u=Value.ref a from rx)
  obtain ⟨_,_,xs,_,o,es,ep,h1,h2,_⟩:=(show zfw X.prog X.w H s.heap a (.dT kvs) from I.hok a _ ea)
  exact qAR qCN I.kIn ⟨o,h1,h2.1⟩ e (fun z=>nomatch z) h
 | @ins a C dx fs ea cl ha hn htk hm =>
  cases (show u=Value.ref a from rx)
  obtain ⟨mA,O,_⟩:=zakd I.hok ea
  obtain ⟨od,J,_⟩:=O.look
  exact qAR (PySem.W.kitx_own (cl.get _) cl.hd ha hn htk hm) I.kIn J e (fun z=>nomatch z) h
end
set_option genInjectivity false in
structure Room (k:Nat) (A:Around):Prop where
 hd:A.handled=none
 dp:A.depth+3 * k+5<recursionLimit
 un:A.units+16 * k+200<cLine
theorem Room.mono {j k:Nat} {A:Around} (r:Room k A) (h:j≤k):Room j A:=⟨r.hd,by have:=r.dp;omega,by have:=r.un;omega⟩
theorem Room.deeper {k:Nat} {A:Around} (r:Room (k+1) A) (env:Env):Room k (A.deeper env) :=
 ⟨r.hd,by have:=r.dp;show A.depth+1+3 * k+5<_;omega,by have:=r.un;show A.units+3+16 * k+200<_;omega⟩
theorem Room.depth {k:Nat} {A:Around} (r:Room k A):A.depth<recursionLimit:=by have:=r.dp;omega
theorem Room.units {k:Nat} {A:Around} (r:Room k A):A.units+64<cLine:=by have:=r.un;omega
noncomputable def tNil:TA:=fun _ H Q=>Q [] H
noncomputable def tCons (ta:TE) (tr:TA):TA:=fun σ H Q=>ta σ H fun x H1=>tr σ H1 fun xs H2=>Q (x::xs) H2
section
variable {X:Cx} {e:Expr} {es:List Expr} {te:TE} {t:TA} {pos:Pos}
theorem zand:PA X [] tNil:=fun _ _ _ _ H Q I h=>Calls.spliced_nil ⟨[],H,I,.nil,h⟩
theorem zake (ha:PE X e te) (hr:PA X es t) (hs:starEach (e::es) X.env=(false,eval e X.env)::starEach es X.env:=by rfl):PA X (e::es) (tCons te t):=by
 intro pos pins s σ H Q I h
 rw [hs]
 show wpAny _ _ (spliced ((false,eval e X.env)::backTo pos (starEach es X.env))) _ _ s
 refine Calls.spliced_cons (thn (ha pins s σ H _ I h) fun u s1 ⟨x,H1,I1,r1,q1⟩=>?_)
 exact thn (hr pos pins s1 σ H1 _ I1 q1) fun us s2 ⟨xs,H2,I2,r2,q2⟩=>⟨x::xs,H2,I2,.cons r1 r2,q2⟩
noncomputable def tTup (t:TA):TE:=fun σ H Q=>t σ H fun xs H1=>xs.length≤qd∧∀ p,H1 p=none→Q (.ref p) (upd H1 p (.tup xs))
noncomputable def tLst (t:TA):TE:=fun σ H Q=>t σ H fun xs H1=>xs.length≤qd∧∀ p,H1 p=none→Q (.ref p) (upd H1 p (.lst xs))
theorem zane {x1} (h:PA X es t):PE X (.Tuple es x1 pos) (tTup t):=by
 intro pins s σ H Q I hq
 refine wpAny_Tuple_spliced (thn (h pos pins s σ H _ I hq) fun us s1 ⟨xs,H1,I1,r,z,q⟩=>⟨by rw [← r.length];exact z,?_⟩)
 have hf:H1 s1.heap.objs.size=none:=I1.hok.fresh (qQ _)
 refine ⟨.ref s1.heap.objs.size,upd H1 s1.heap.objs.size (.tup xs),I1.laid (t':=s1.toks) (fun b u e=>qC _ e) (qQ _) ?_,rfl,q _ hf⟩
 exact ⟨z,us,r,⟨_,qU _ rfl,rfl,_,rfl⟩⟩
theorem zanf (h:PA X es t):PE X (.List es pos) (tLst t):=by
 intro pins s σ H Q I hq
 refine wpAny_List_spliced (thn (h pos pins s σ H _ I hq) fun us s1 ⟨xs,H1,I1,r,z,q⟩=>⟨by rw [← r.length];exact z,?_⟩)
 have hf:H1 s1.heap.objs.size=none:=I1.hok.fresh (qQ _)
 refine ⟨.ref s1.heap.objs.size,upd H1 s1.heap.objs.size (.lst xs),I1.laid (t':=s1.toks) (fun b u e=>qC _ e) (qQ _) ?_,rfl,q _ hf⟩
 exact ⟨z,us,0,r,qU _ rfl⟩
end
noncomputable abbrev Sp:=List V→Hp→VK→XK→Prop
noncomputable abbrev CXT:=List Env→Hp→Shared→XK→Value→Shared→Prop
set_option genInjectivity false in
structure Env0 (P:Program) (w:World) (K:qB) (mg:Str→Option Value) (base:Heap) (A:Around) (outer:List Env) (s:Shared) (H:Hp):Prop where
 frames:A.frames=some outer
 mod:Mod K mg base
 bs:∀ b o,base.get? b=some o→s.heap.get? b=some o∧H b=none
 bsz:base.objs.size≤s.heap.objs.size
 funs:s.heap.FunFrames base outer
 frf:∀ b∈frs outer,H b=none
 hok:HOk P w H s.heap
 bare:AllBare s.gens
noncomputable def CE (outer:List Env) (P:Program) (w:World) (H:Hp) (s:Shared) (Q:VK) (u:Value) (s':Shared):Prop :=
 ∃ v H',s'.os=s.os∧AllBare s'.gens∧Un (frs outer) [] H H' s.heap s'.heap∧HOk P w H' s'.heap∧RelV v u∧Q v H'
noncomputable def CR (CX:CXT) (outer:List Env) (P:Program) (w:World) (H:Hp) (s:Shared) (Q:VK) (E:XK) (r:Result) (s':Shared):Prop :=
 match r with
 | .ok (.ret u)=>CE outer P w H s Q u s'
 | .ok _=>False
 | .error e=>CX outer H s E e s'
set_option genInjectivity false in
structure FnOk (P:Program) (w:World) (K:qB) (mg:Str→Option Value) (base:Heap) (CX:CXT) (k:Nat) (f:Addr) (fd:qAC) (ps:List Str) (sp:Sp):Prop where
 len:∀ vs H Q E,sp vs H Q E→vs.length=ps.length
 run:∀ (A:Around) (outer:List Env) (s:Shared) (H:Hp) (args:Args) (us:List Value) (vs:List V) (Q:VK) (E:XK),Room k A→Env0 P w K mg base A outer s H→BindsTo s fd args (ps.zip us)→Vals vs us→sp vs H Q E →
  codeAny (model P w) A (.call (.ref f) args) (CR CX outer P w H s Q E) s
section
variable {X:Cx} {pins:List (Addr×Obj)} {σ:St} {H:Hp} {s s':Shared}
theorem Inv.env0 (I:Inv X pins σ H s):Env0 X.prog X.w X.K X.mg X.base X.A X.stack s H :=
 ⟨I.ok.frames,I.ok.mod,I.bs,qAQ I.ok.bsz I.sz,I.stack,I.stkFree,I.hok,I.bare⟩
theorem Inv.after {Q:VK} {u:Value} (I:Inv X pins σ H s) (h:CE X.stack X.prog X.w H s Q u s'):EP X pins σ Q u s':=by
 obtain ⟨v,H',os,bare,un,hok,r,q⟩:=h
 obtain ⟨hh,g,d,t,os'⟩:=s'
 obtain rfl:os'=s.os:=os
 exact ⟨v,H',I.call (h':=hh) (g':=g) (d':=d) (t':=t) (ch:=[]) un hok bare (fun b z=>absurd z (by simp)),r,q⟩
end
noncomputable def tCall (sp:Sp) (dvs:List V) (E:XK) (t:TA):TE:=fun σ H Q=>t σ H fun vs H1=>sp (vs++dvs) H1 Q E
noncomputable def zaar (K:qB) (fd:qAC) (ps:List Str) (ds:List Value):Prop :=
 ∀ (s:Shared) (us:List Value),K.In s.heap→(us++ds).length=ps.length→BindsTo s fd ⟨us,[]⟩ (ps.zip (us++ds))
theorem zaar.all {K:qB} {fd:qAC} {ps:List Str} (h:∀ us:List Value,us.length=ps.length→bindArgs fd ⟨us,[]⟩=pure (ps.zip us)):zaar K fd ps []:=fun s us _ hl=>by
 rw [qAS] at hl ⊢
 exact .of_eq (h us hl)
noncomputable def zaco (CX:CXT) (X:Cx) (E:XK):Prop:=∀ (pins:List (Addr×Obj)) (σ:St) (H:Hp) (s:Shared) (e:Value) (s':Shared),Inv X pins σ H s→CX X.stack H s E e s'→X.xe e s'
section
variable {X:Cx} {CX:CXT} {k:Nat} {f C:Addr} {fd:qAC} {ps:List Str} {sp:Sp} {dvs:List V} {ds:List Value} {E:XK} {x m:Str} {p pos apos:Pos} {e o:Expr} {es:List Expr} {ta:TE} {t:TA}
theorem zang {pins:List (Addr×Obj)} {σ:St} {H:Hp} {s:Shared} {Q:VK} {us:List Value} {vs:List V} (F:FnOk X.prog X.w X.K X.mg X.base CX k f fd ps sp) (hr:Room k X.A) (hb:zaar X.K fd ps ds) (hd:Vals dvs ds) (hx:zaco CX X E)
  (I:Inv X pins σ H s) (r:Vals vs us) (h:sp (vs++dvs) H Q E):wpAny (model X.prog X.w) X.A (call (.ref f) us) (EP X pins σ Q) X.xe s:=by
 have r2:Vals (vs++dvs) (us++ds):=r.append hd
 have hl:(us++ds).length=ps.length:=by rw [← r2.length];exact F.len _ _ _ _ h
 refine wpAny_call (qBh (F.run X.A X.stack s H ⟨us,[]⟩ (us++ds) (vs++dvs) Q E hr I.env0 (hb s us I.kIn hl) r2 h) fun r s' hq=>?_)
 cases r with
 | error e=>exact hx pins σ H s e s' I hq
 | ok fl =>
  cases fl with
  | ret u=>exact I.after hq
  | next=>exact False.elim hq
  | brk=>exact False.elim hq
  | cont=>exact False.elim hq
theorem zakf (F:FnOk X.prog X.w X.K X.mg X.base CX k f fd ps sp) (hr:Room k X.A) (hg:Gl X x) (hm:X.mg x=some (.ref f)) (hk:qV X.K (.ref f)=true) (hb:zaar X.K fd ps ds) (hd:Vals dvs ds) (hx:zaco CX X E)
  (ha:PA X (e::es) t) (hdb:(x==("__debug__":Str))=false:=by decide) (he:starEach (e::es) X.env=(false,eval e X.env)::starEach es X.env:=by rfl) (hpl:(backTo pos (starEach es X.env)).any (·.1)=false:=by rfl) :
  PE X (.Call (.Name x p) (e::es) [] pos) (tCall sp dvs E t):=by
 intro pins s σ H Q I h
 refine qBs (zajr I hg hm ?_ hdb)
 refine PySem.W.callWith_K (h₀:=X.base) I.ok.mod.kin hk (thn (ha pos pins s σ H _ I h) fun us s1 ⟨vs,H1,I1,r,q⟩=>⟨I1.kIn,?_⟩) he hpl
 exact zang F hr hb hd hx I1 r q
set_option genInjectivity false in
end
section
variable {X:Cx} {CX:CXT} {k:Nat} {f C:Addr} {fd:qAC} {ps ks:List Str} {sp:Sp} {E:XK} {x m:Str} {p pos apos kpos:Pos} {e o:Expr} {es:List Expr} {kws:List Keyword} {te ta:TE} {t tk:TA} {nm:Option Str}
set_option genInjectivity false in
variable {g:List Value→List Value→List Value} {gV:List V→List V→List V}
end
set_option genInjectivity false in
structure FnScope (N P:List Str) (sc:Scope):Prop where
 kind:sc.kind=.function
 co:sc.isCoroutine=false
 gen:sc.isGenerator=false
 nd:N.Nodup
 pre:N.take P.length=P
 par:∀ x∈P,sc.names.lookup x=some .local∨sc.names.lookup x=some .cell
 nofree:∀ y∈sc.names,y.2≠.free
theorem zuu {kindOf:Str→Option NameKind} {x:Str}:∀ {binds:List (Str×Value)} {m:Str→Option Value},(∀ v,(x,v)∉binds)→bindL kindOf binds m x=m x
 | [],_,_=>rfl
 | (n,v)::r,m,h=>by
  unfold bindL
  rw [zuu fun w hw=>h w (qI _ hw)]
  split
  ·have:x≠n:=by rintro rfl;exact h v qg
   simp [this]
  ·rfl
theorem zuv {kindOf:Str→Option NameKind} {x:Str}:∀ {binds:List (Str×Value)} {m:Str→Option Value},(∀ v,(x,v)∉binds)→bindC kindOf binds m x=m x
 | [],_,_=>rfl
 | (n,v)::r,m,h=>by
  unfold bindC
  rw [zuv fun w hw=>h w (qI _ hw)]
  split
  ·rfl
  ·have:x≠n:=by rintro rfl;exact h v qg
   simp [this]
theorem zuw {kindOf:Str→Option NameKind} {x:Str} {v:Value}:∀ {P:List Str} {vs:List Value} {i:Nat} {m:Str→Option Value},P.Nodup→P[i]?=some x→vs[i]?=some v→kindOf x=some .local →
  bindL kindOf (P.zip vs) m x=some v
 | [],_,_,_,_,h,_,_=>by simp at h
 | _::_,[],_,_,_,_,h,_=>by simp at h
 | p::P,w::vs,0,m,nd,h1,h2,hk=>by
  simp at h1 h2;subst h1;subst h2
  show bindL kindOf ((p,w)::P.zip vs) m p=_
  unfold bindL
  rw [zuu fun v hv=>(qAI.mp nd).1 (qAz hv).1,if_pos hk]
  simp
 | p::P,w::vs,i+1,m,nd,h1,h2,hk=>by
  show bindL kindOf ((p,w)::P.zip vs) m x=_
  unfold bindL
  exact zuw (i:=i) (qAI.mp nd).2 (by simpa using h1) (by simpa using h2) hk
theorem zux {kindOf:Str→Option NameKind} {x:Str} {v:Value}:∀ {P:List Str} {vs:List Value} {i:Nat} {m:Str→Option Value},P.Nodup→P[i]?=some x→vs[i]?=some v→kindOf x≠some .local →
  bindC kindOf (P.zip vs) m x=some v
 | [],_,_,_,_,h,_,_=>by simp at h
 | _::_,[],_,_,_,_,h,_=>by simp at h
 | p::P,w::vs,0,m,nd,h1,h2,hk=>by
  simp at h1 h2;subst h1;subst h2
  show bindC kindOf ((p,w)::P.zip vs) m p=_
  unfold bindC
  rw [zuv fun v hv=>(qAI.mp nd).1 (qAz hv).1,if_neg hk]
  simp
 | p::P,w::vs,i+1,m,nd,h1,h2,hk=>by
  show bindC kindOf ((p,w)::P.zip vs) m x=_
  unfold bindC
  exact zux (i:=i) (qAI.mp nd).2 (by simpa using h1) (by simpa using h2) hk
noncomputable def zhv (N:List Str) (vs:List V):St:=vs.map some++List.replicate (N.length - vs.length) none
noncomputable def cxOf (CX:CXT) (P:Program) (w:World) (K:qB) (mg:Str→Option Value) (base:Heap) (N:List Str) (qual:Str) (scope:Scope) (f:Addr) (cd:Value) (A:Around) (outer:List Env) (s:Shared) (H:Hp) (E:XK):Cx where
 prog:=P
 w:=w
 K:=K
 mg:=mg
 base:=base
 A:=A.deeper (envOfC qual scope s.heap.objs.size f cd)
 N:=N
 s₀:=s
 H₀:=H
 env:=envOfC qual scope s.heap.objs.size f cd
 outer:=outer
 stack:=envOfC qual scope s.heap.objs.size f cd::outer
 ex:=[]
 calm:=true
 fn:=fun _=>true
 pn:=[]
 xe:=fun e s'=>wpAny (model P w) (A.deeper (envOfC qual scope s.heap.objs.size f cd)) (leaving (envOfC qual scope s.heap.objs.size f cd) e) (fun _ s''=>CX outer H s E e s'') (fun e' s''=>CX outer H s E e' s'') s'
theorem zsm {sc:Scope} {n:Nat} {x:Str} (h:sc.names.lookup x=some .cell):∃ c,(cellsFrom n sc.names []).lookup x=some c:=by
 have q:=qB5 sc.names n [] (.inl h)
 exact Option.isSome_iff_exists.mp q
theorem zacp {CX:CXT} {P:Program} {w:World} {K:qB} {mg:Str→Option Value} {base:Heap} {N ps:List Str} {qual:Str} {scope:Scope} {f:Addr} {cd:Value} {A:Around} {outer:List Env} {s s1:Shared} {H:Hp} {E:XK} {us:List Value} {vs:List V}
  (S:FnScope N ps scope) (hd:A.handled=none) (e0:Env0 P w K mg base A outer s H) (hl:vs.length=ps.length) (r:Vals vs us)
  (x:InCallC s s.heap.objs.size (bindL (envOfC qual scope s.heap.objs.size f cd).kindOf (ps.zip us) fun _=>none) (cellsFrom (s.heap.objs.size+1) scope.names []) (bindC (envOfC qual scope s.heap.objs.size f cd).kindOf (ps.zip us) fun _=>none) s1) :
  Inv (cxOf CX P w K mg base N qual scope f cd A outer s H E) [] (zhv N vs) H s1:=by
 have hpl:ps.length≤N.length:=by have:=congrArg List.length S.pre;rw [qBN] at this;omega
 obtain ⟨h1,tk,rfl,hk⟩:=x.done
 have noA:∀ b:Addr,b∉(cxOf CX P w K mg base N qual scope f cd A outer s H E).ex:=fun b z=>absurd (show b∈([]:List Addr) from z) (by simp)
 refine ⟨⟨e0.mod,S.kind,rfl,rfl,qQ _,fun y z c h1 h2=>?_,fun y hy=>?_,fun y c _ h=>?_,fun _=>hd,Around.frames_deeper e0.frames,.inr ⟨rfl,rfl⟩,fun b z=>absurd z (noA b),e0.bs,e0.bsz,fun b _ _=>noA b,fun b z=>absurd z (noA b),e0.funs,e0.frf⟩,
  rfl,e0.bare,Un.kept hk,⟨_,x.toInCall.ns,fun i y v h1 h2 h3=>?_⟩,fun y c h=>⟨_,x.cell y c h⟩,e0.hok.fresh (qQ _),fun y c h=>?_,fun p hp=>absurd (show p∈([]:List (Addr×Obj)) from hp) (by simp),e0.hok.kept hk,?_⟩
 ·exact name_of_addr x.apart (qAF h1) (qAF h2)
 ·have hy:scope.names.lookup y=some .cell∨scope.names.lookup y=some .free:=hy
  rcases hy with hy|hy
  ·exact zsm hy
  ·exact absurd rfl (S.nofree _ (qAF hy))
 ·exact qCP (x.above y c (qAF h))
 ·have hi:i<vs.length:=by
   unfold zhv at h2
   by_cases hi:i<vs.length
   ·exact hi
   ·rw [qq (by simpa using hi)] at h2
    rw [qBL] at h2
    split at h2<;>cases h2
  have ha:vs[i]?=some v:=by
   unfold zhv at h2
   rw [qm (by simpa using hi),qY] at h2
   cases e:vs[i]? with
   | none=>rw [e] at h2;cases h2
   | some a=>rw [e] at h2;cases h2;rfl
  obtain ⟨u,hu,rv⟩:=r.get ha
  have hp:ps[i]?=some y:=by
   rw [← S.pre,List.getElem?_take_of_lt (by omega)];exact h1
  have ndP:ps.Nodup:=by rw [← S.pre];exact S.nd.sublist (List.take_sublist _ _)
  refine ⟨u,rv,?_⟩
  rcases S.par y (qA8 hp) with k|k
  ·exact .inl ⟨k,zuw ndP hp hu k⟩
  ·obtain ⟨c,e⟩:=zsm (n:=s.heap.objs.size+1) k
   refine .inr ⟨.inl k,c,e,?_⟩
   have q:=x.cell y c e
   rw [zux ndP hp hu (by show scope.names.lookup y≠_;rw [k];decide)] at q
   exact q
 ·exact e0.hok.fresh (qCP (x.above y c (qAF h)))
 ·unfold zhv
  show _=N.length
  rw [qJ,qE,qAr]
  omega
theorem zapn {CX:CXT} {P:Program} {w:World} {K:qB} {mg:Str→Option Value} {base:Heap} {k:Nat} {f:Addr} {name qual:Str} {params:Arguments} {body:List Stmt} {scope:Scope} {dV kV doc pm cdv ct oc:Value} {an od:Option Addr}
  {osl:Array (Option Value)} {N ps:List Str} {sp:Sp} (lk:K.lookup f=some ⟨oc,od,.func (qf name qual params body scope dV kV doc pm an cdv ct),osl⟩) (hcd:qZ K cdv qual=true) (S:FnScope N ps scope)
  (len:∀ vs H Q E,sp vs H Q E→vs.length=ps.length)
  (hbody:∀ (A:Around) (outer:List Env) (s:Shared) (H:Hp) (vs:List V) (Q:VK) (E:XK),Room k (A.deeper (envOfC qual scope s.heap.objs.size f cdv))→sp vs H Q E →
   ∃ t,PSs (cxOf CX P w K mg base N qual scope f cdv A outer s H E) body t∧t {nx:=fun _ H'=>Q .non H',rt:=Q} (zhv N vs) H) :
  FnOk P w K mg base CX (k+1) f (qf name qual params body scope dV kV doc pm an cdv ct) ps sp:=by
 refine ⟨len,fun A outer s H args us vs Q E hr e0 hb r hsp=>?_⟩
 have hl:=len _ _ _ _ hsp
 have KX:K.In s.heap:=e0.mod.kin.keeps fun b o e=>(e0.bs b o e).1
 have lim:s.heap.NoLimit:=e0.mod.nolimit.keeps fun b o e=>(e0.bs b o e).1
 have hkind:∀ y∈ps.zip us,scope.names.lookup y.1=some .local∨(scope.names.lookup y.1=some .cell∧((cellsFrom (s.heap.objs.size+1) scope.names []).lookup y.1).isSome=true):=fun ⟨n,v⟩ hy=>by
  rcases S.par n (qAz hy).1 with q|q
  ·exact .inl q
  ·exact .inr ⟨q,qB5 _ _ _ (.inl q)⟩
 refine codeAny_call_function hr.depth (KX _ _ lk) rfl S.co S.gen rfl (PySem.W.codeRec_of KX hcd) (hb _ _ _ _ ?_)
 refine wpAny_newFunctionEnv_cells S.kind hkind fun env he s1 x=>?_
 subst he
 refine ⟨lim.keeps x.toInCall.keep,codeAny_func ?_⟩
 obtain ⟨t,ht,hq⟩:=hbody A outer s H vs Q E (hr.deeper _) hsp
 have I:Inv (cxOf CX P w K mg base N qual scope f cdv A outer s H E) [] (zhv N vs) H s1:=zacp S hr.hd e0 hl r x
 refine qBQ (ht [] s1 (zhv N vs) H _ I hq) (fun fl s' hs=>?_) fun e s' hs=>hs
 have fin:∀ {σ':St} {H':Hp} {v:V} {u:Value},Inv (cxOf CX P w K mg base N qual scope f cdv A outer s H E) [] σ' H' s'→RelV v u→Q v H'→CE outer P w H s Q u s' :=
  fun {σ' H' v u} J rv q=>⟨v,H',J.os,J.bare,J.base,J.hok,rv,q⟩
 cases fl with
 | ret u =>
  obtain ⟨v,σ',H',J,rv,q⟩:=hs
  exact fin J rv q
 | next =>
  obtain ⟨σ',H',J,q⟩:=hs
  exact fin (v:=V.non) (u:=Value.none) J rfl q
 | brk =>
  obtain ⟨_,_,_,q⟩:=hs
  exact False.elim q
 | cont =>
  obtain ⟨_,_,_,q⟩:=hs
  exact False.elim q
section
variable {X:Cx} {x:Str} {p pos:Pos} {e:Expr} {es:List Expr} {t:TA} {id T:String} {r:List V→Hp→VK→Prop}
noncomputable def tCB (r:List V→Hp→VK→Prop) (t:TA):TE:=fun σ H Q=>t σ H fun vs H1=>r vs H1 Q
theorem zagd (hc:CallR X (.builtin id) r) (hg:Gl X x) (hm:X.mg x=none) (hv:bootBuiltins x=some (.builtin id)) (ha:PA X (e::es) t) (hn:x ≠ "__name__":=by decide) (hdb:(x==("__debug__":Str))=false:=by decide)
  (he:starEach (e::es) X.env=(false,eval e X.env)::starEach es X.env:=by rfl) (hpl:(backTo pos (starEach es X.env)).any (·.1)=false:=by rfl):PE X (.Call (.Name x p) (e::es) [] pos) (tCB r t):=by
 intro pins s σ H Q I h
 refine qBs (zrm I hg hm hv ?_ hn hdb)
 exact PyProof.Rows.callWith_builtin1 (thn (ha pos pins s σ H _ I h) fun us s1 ⟨vs,H1,I1,r1,q1⟩=>hc pins s1 σ H1 vs us Q I1 r1 q1) he hpl
theorem zacq (hc:CallR X (.type T) r) (hg:Gl X x) (hm:X.mg x=none) (hv:bootBuiltins x=some (.type T)) (ha:PA X (e::es) t) (hn:x ≠ "__name__":=by decide) (hdb:(x==("__debug__":Str))=false:=by decide)
  (he:starEach (e::es) X.env=(false,eval e X.env)::starEach es X.env:=by rfl) (hpl:(backTo pos (starEach es X.env)).any (·.1)=false:=by rfl):PE X (.Call (.Name x p) (e::es) [] pos) (tCB r t):=by
 intro pins s σ H Q I h
 refine qBs (zrm I hg hm hv ?_ hn hdb)
 exact qBd (thn (ha pos pins s σ H _ I h) fun us s1 ⟨vs,H1,I1,r1,q1⟩=>hc pins s1 σ H1 vs us Q I1 r1 q1) he hpl
end
end L2
namespace HT
open PySem PyProof.Rows
section
open PySem.SeqAt
open PySem.AutoSeq1 (wpAny_loadPart')
open PySem.MeetsSeq PySem.MeetsSeq2 PySem.MeetsSeq3
end
section
variable {prog:Program} {w:World} {A:Around} {E:Value→Shared→Prop} {s:Shared}
theorem cat_tup {t b:Addr} {vs ws:List Value} {Q:Value→Shared→Prop} (ht:IsTup s.heap t vs.toArray) (hb:IsTup s.heap b ws.toArray) (hv:vs≠[])
  (h1:ws=[]→Q (.ref t) s) (h2:ws≠[]→Q (.ref s.heap.objs.size) {s with heap:=s.heap.push {cls:=.type "tuple",data:=.seq (vs++ws).toArray}})
  (hsz:vs.length+ws.length≤qd):wpAny (model prog w) A (binaryOp .Add (.ref t) (.ref b)) Q E s:=by
 obtain ⟨⟨cls,dd,data,sl⟩,ho,hc,n,hd⟩:=id ht
 obtain ⟨⟨cls2,dd2,data2,sl2⟩,ho2,hc2,n2,hd2⟩:=id hb
 simp only at hc hd hc2 hd2
 subst hc hd hc2 hd2
 have e:vs.toArray++ws.toArray=(vs++ws).toArray:=by simp
 by_cases hw:ws=[]
 ·exact concat_meets ⟨_,ho,rfl⟩ ⟨_,ho2,rfl⟩ qCB seq_tuple_add qBK qBH (qBE _ _)
   (tuple_addW1 t b vs.toArray ws.toArray n n2 dd dd2 sl sl2 (by simpa using hv) (by simp [hw])) ⟨ho,ho2,h1 hw⟩
 ·refine concat_meets ⟨_,ho,rfl⟩ ⟨_,ho2,rfl⟩ qCB seq_tuple_add qBK qBH (qBE _ _)
   (tuple_addW2 t b vs.toArray ws.toArray n n2 dd dd2 sl sl2 (by simpa using hv) (by simpa using hw) (by rw [qP,qP];exact hsz)) ⟨ho,ho2,?_⟩
  rw [e]
  exact h2 hw
noncomputable def sIx (n d:Nat):Option Int→Nat
 | none=>d
 | some v=>if v<0 then (v+(n:Int)).toNat else min v.toNat n
end
end HT
namespace L2
open PySem PySem.Spec PyProof.Rows
noncomputable abbrev TO:=St→Hp→(Option Int→Hp→Prop)→Prop
noncomputable def PO (X:Cx) (e:Option Expr) (t:TO):Prop :=
 ∀ (pins:List (Addr×Obj)) (s:Shared) (σ:St) (H:Hp) (Q:Option Int→Hp→Prop),Inv X pins σ H s→t σ H Q →
  wpAny (model X.prog X.w) X.A (evalPart e X.env) (fun u s'=>∃ o H',Inv X pins σ H' s'∧IsPart u o∧Q o H') X.xe s
noncomputable def tNoPart:TO:=fun _ H Q=>Q none H
noncomputable def tPart (t:TE):TO:=fun σ H Q=>t σ H fun x H1=>∃ i,x=.int i∧Q (some i) H1
section
variable {X:Cx} {e:Expr} {te:TE} {lo hi:Option Expr} {tl th:TO} {pos p2:Pos}
theorem zakg:PO X none tNoPart:=by
 intro pins s σ H Q I h
 rw [evalPart_none]
 exact qc ⟨none,H,I,.none,h⟩
theorem zakh (h:PE X e te):PO X (some e) (tPart te):=by
 intro pins s σ H Q I hw
 rw [evalPart_some]
 refine thn (h pins s σ H _ I hw) fun u s1 ⟨x,H1,I1,r1,q1⟩=>?_
 obtain ⟨i,rfl,q⟩:=q1
 obtain ⟨t,rfl⟩:=r1
 exact ⟨some i,H1,I1,.int i t,q⟩
noncomputable def SlR (X:Cx) (r:V→Option Int→Option Int→Hp→VK→Prop):Prop :=
 ∀ (pins:List (Addr×Obj)) (s:Shared) (σ:St) (H:Hp) (x:V) (v vl vu:Value) (lo hi:Option Int) (sl:Addr) (Q:VK),Inv X pins σ H s→RelV x v→s.heap.IsSliceOf sl vl vu .none→IsPart vl lo→IsPart vu hi→r x lo hi H Q →
  ∃ T id,typeLookup (.type T) "__getitem__" = pure (some (.builtin id))∧s.TypeIs v T∧wpAny (model X.prog X.w) X.A (getItem v (.ref sl)) (EP X pins σ Q) X.xe s
noncomputable def tSl (r:V→Option Int→Option Int→Hp→VK→Prop) (te:TE) (tl th:TO):TE:=fun σ H Q=>te σ H fun x H1=>tl σ H1 fun l H2=>th σ H2 fun u H3=>r x l u H3 Q
theorem zage {r:V→Option Int→Option Int→Hp→VK→Prop} (hr:SlR X r) (he:PE X e te) (hl:PO X lo tl) (hu:PO X hi th):PE X (.Subscript e (.Slice lo hi none p2) pos) (tSl r te tl th):=by
 intro pins s σ H Q I h
 refine Subscript_ (thn (he pins s σ H _ I h) fun v s1 ⟨x,H1,I1,r1,q1⟩=>?_)
 refine wpAny_Slice (thn (hl pins s1 σ H1 _ I1 q1) fun vl s2 ⟨l,H2,I2,pl,q2⟩=>thn (hu pins s2 σ H2 _ I2 q2) fun vu s3 ⟨u,H3,I3,pu,q3⟩=>?_)
 rw [evalPart_none]
 refine qc ?_
 have I4:Inv X pins σ H3 {s3 with heap:=s3.heap.push {cls:=.type "slice",data:=.fields #[vl,vu,.none]}}:=I3.kept (t':=s3.toks) fun b ob q=>qC _ q
 obtain ⟨T,id,hT,ht,hg⟩:=hr pins {s3 with heap:=s3.heap.push {cls:=.type "slice",data:=.fields #[vl,vu,.none]}} σ H3 x v vl vu l u s3.heap.objs.size Q I4 r1 (Heap.IsSliceOf.new ..) pl pu q3
 show wpAny (model X.prog X.w) X.A (subscriptTail e (.Slice lo hi none p2) v (.ref s3.heap.objs.size)) (EP X pins σ Q) X.xe {s3 with heap:=s3.heap.push {cls:=.type "slice",data:=.fields #[vl,vu,.none]}}
 exact tail_any (ops:=[.ref s3.heap.objs.size,v]) ht hT hg (by with_unfolding_all rfl)
noncomputable def cutV (xs:List V) (lo hi:Option Int):List V:=(xs.drop (HT.sIx xs.length 0 lo)).take (HT.sIx xs.length xs.length hi - HT.sIx xs.length 0 lo)
theorem zxn (xs:List V) (lo hi:Option Int):(cutV xs lo hi).length≤xs.length:=by
 unfold cutV
 rw [qBN,List.length_drop]
 omega
noncomputable def zanh (K:qB):R2:=fun x y H Q=>∃ a b xs ys,x=.ref a∧y=.ref b∧SqT K H a xs∧SqT K H b ys∧xs≠[]∧xs.length+ys.length≤qd ∧
 (ys=[]→Q (.ref a) H)∧(ys≠[]→∀ p,H p=none→Q (.ref p) (upd H p (.tup (xs++ys))))
theorem Vals.nil_iff {xs:List V} {us:List Value} (r:Vals xs us):us=[]↔xs=[]:=by
 cases r with
 | nil=>simp
 | cons _ _=>simp
theorem zaki:OpR X (binaryOp .Add) (zanh X.K):=by
 intro pins s σ H x y v u Q I rx ry h
 obtain ⟨a,b,xs,ys,rfl,rfl,ha,hb,hx,hz,q1,q2⟩:=h
 cases rx
 cases ry
 obtain ⟨its,r1,p1,_⟩:=I.tuple ha
 obtain ⟨its2,r2,p2,_⟩:=I.tuple hb
 refine HT.cat_tup p1 p2 (fun z=>hx (r1.nil_iff.mp z)) (fun z=>⟨.ref a,H,I,rfl,q1 (r2.nil_iff.mp z)⟩) (fun z=>?_) (by rw [← r1.length,← r2.length];exact hz)
 refine ⟨.ref s.heap.objs.size,_,I.laid (t':=s.toks) (o:=.tup (xs++ys)) (fun b ob q=>qC _ q) (qQ _) ?_,rfl,q2 (fun w=>z (r2.nil_iff.mpr w)) _ (I.hok.fresh (qQ _))⟩
 exact ⟨by rw [qJ];exact hz,_,r1.append r2,IsTup.new _ _⟩
end
noncomputable def ixN (n:Nat) (i:Int):Option Nat:=if 0≤i then (if i<n then some i.toNat else none) else if -(n:Int)≤i then some (i+n).toNat else none
noncomputable def atI {α:Type} (xs:List α) (i:Int):Option α:=(ixN xs.length i).bind fun j=>xs[j]?
theorem zacr {n:Nat} {i:Int} {j:Nat} (h:ixN n i=some j):seqIndex? i n=some j∧j<n∧-(n:Int)≤i∧i<n:=by
 unfold ixN at h
 by_cases h0:0≤i
 ·rw [if_pos h0] at h
  by_cases h1:i<n
  ·rw [if_pos h1] at h
   have e:i.toNat=j:=qT h
   exact ⟨by rw [seqIndex_of h0 h1,e],by omega,by omega,h1⟩
  ·rw [if_neg h1] at h;cases h
 ·rw [if_neg h0] at h
  by_cases h1:-(n:Int)≤i
  ·rw [if_pos h1] at h
   have e:(i+n).toNat=j:=qT h
   exact ⟨by rw [seqIndex_neg (by omega) h1,e],by omega,h1,by omega⟩
  ·rw [if_neg h1] at h;cases h
theorem zxo {α:Type} {xs:List α} {i:Int} {v:α} (h:atI xs i=some v):∃ j,seqIndex? i xs.length=some j∧xs[j]?=some v∧j<xs.length∧-(xs.length:Int)≤i∧i<xs.length:=by
 unfold atI at h
 cases e:ixN xs.length i with
 | none=>rw [e] at h;cases h
 | some j =>
  rw [e] at h
  obtain ⟨h1,h2,h3,h4⟩:=zacr e
  exact ⟨j,h1,h,h2,h3,h4⟩
theorem zsn {α:Type} {xs:List α} {j:Nat} {v:α} (h:xs[j]?=some v):atI xs (j:Int)=some v:=by
 have hj:j<xs.length:=(qR.mp h).1
 have e:ixN xs.length (j:Int)=some j:=by
  unfold ixN
  rw [if_pos (by omega),if_pos (by omega)];simp
 unfold atI;rw [e];exact h
noncomputable def PlainIx (b:Expr):Prop:=∀ o i,subscripted b false o i=operate [o,i] (getItem o i)
noncomputable def IxR (X:Cx) (r:R2):Prop :=
 ∀ (value slice:Expr) (pins:List (Addr×Obj)) (s:Shared) (σ:St) (H:Hp) (x y:V) (v u:Value) (Q:VK),Inv X pins σ H s→RelV x v→RelV y u→r x y H Q →
  subscripted slice false v u=operate [v,u] (getItem v u)→wpAny (model X.prog X.w) X.A (subscriptTail value slice v u) (EP X pins σ Q) X.xe s
noncomputable def MtR (X:Cx) (id:String) (r:V→List V→Hp→VK→Prop):Prop :=
 ∀ (pins:List (Addr×Obj)) (s:Shared) (σ:St) (H:Hp) (x:V) (xs:List V) (v:Value) (us:List Value) (Q:VK),Inv X pins σ H s→RelV x v→Vals xs us→r x xs H Q →
  wpAny (model X.prog X.w) X.A (call (.builtin id) (v::us)) (EP X pins σ Q) X.xe s
section
variable {X:Cx} {a b:Expr} {ta tb:TE} {pos:Pos}
theorem zapo {r:R2} (hr:IxR X r) (ha:PE X a ta) (hb:PE X b tb) (hs:PlainIx b):PE X (.Subscript a b pos) (tOp r ta tb):=by
 intro pins s σ H Q I h
 exact Subscript_ (binT ha hb I h fun v u s2 x y H2 I2 rx ry q=>hr a b pins s2 σ H2 x y v u Q I2 rx ry q (hs _ _))
noncomputable def rIxL (K:qB):R2:=fun x y H Q=>∃ p xs i v,x=.ref p∧y=.int i∧SqL K H p xs∧atI xs i=some v∧Q v H
noncomputable def rIxT (K:qB):R2:=fun x y H Q=>∃ p xs i v,x=.ref p∧y=.int i∧SqT K H p xs∧atI xs i=some v∧Q v H
noncomputable def rIxS:R2:=fun x y H Q=>∃ z i c,x=.str z∧y=.int i∧z.length≤qd∧atI z.cps.toList i=some c∧Q (.str ⟨#[c]⟩) H
theorem zakj:IxR X (rIxL X.K):=by
 intro value slice pins s σ H x y v u Q I rx ry h hs
 obtain ⟨p,xs,i,z,rfl,rfl,hq,he,q⟩:=h
 cases rx
 obtain ⟨t,rfl⟩:=ry
 obtain ⟨its,r,pl,hz⟩:=I.list hq
 obtain ⟨j,h1,h2,h3,h4,h5⟩:=zxo he
 obtain ⟨w,ew,rw'⟩:=r.get h2
 have hl:=r.length
 have hn:=zro
 have fin:EP X pins σ Q w s:=⟨z,H,I,rw',q⟩
 by_cases h0:0≤i
 ·have hj:i.toNat=j:=by
   rw [seqIndex_of h0 h5] at h1
   exact qT h1
  exact item_listR pl.isList h0 (by omega) (by rw [hj];simpa using ew) fin hs
 ·have hj:(i+(its.toArray.size:Int)).toNat=j:=by
   rw [seqIndex_neg (by omega) h4] at h1
   rw [qP,← hl]
   exact qT h1
  exact subscriptTail_builtinR (x:=w) pl.isList.typeIs slot_list_getitem.lookup
   (wpAny_getItem_list_neg (Q:=fun r s'=>r=w∧EP X pins σ Q r s') pl.isList (by omega) (by rw [qP]<;>omega) (by omega) (by rw [hj];simpa using ew) ⟨rfl,fin⟩) hs
theorem zani:IxR X (rIxT X.K):=by
 intro value slice pins s σ H x y v u Q I rx ry h hs
 obtain ⟨p,xs,i,z,rfl,rfl,hq,he,q⟩:=h
 cases rx
 obtain ⟨t,rfl⟩:=ry
 obtain ⟨its,r,pl,hz⟩:=I.tuple hq
 obtain ⟨j,h1,h2,h3,h4,h5⟩:=zxo he
 obtain ⟨w,ew,rw'⟩:=r.get h2
 have hl:=r.length
 have hn:=zro
 have fin:EP X pins σ Q w s:=⟨z,H,I,rw',q⟩
 exact subscriptTail_builtinR (x:=w) pl.typeIs slot_tuple_getitem.lookup
  (getItem_tuple (j:=j) (Q:=fun r s'=>r=w∧EP X pins σ Q r s') pl (by omega) (by omega) (by rw [qP,← hl];exact h1) (by simpa using ew) ⟨rfl,fin⟩) hs
theorem zanj:IxR X rIxS:=by
 intro value slice pins s σ H x y v u Q I rx ry h hs
 obtain ⟨z,i,c,rfl,rfl,hz,he,q⟩:=h
 obtain ⟨t,rfl⟩:=rx
 obtain ⟨t',rfl⟩:=ry
 obtain ⟨j,h1,h2,h3,h4,h5⟩:=zxo he
 have hl:z.cps.toList.length=z.length:=by simp [Str.length]
 rw [hl] at h1 h4 h5
 have hn:=zro
 exact tail_any (typeIs_str s z t) slot_str_getitem.lookup (getItem_str (c:=c) (by
  have e1:decide (i < -(2 ^ 63:Int))=false:=decide_eq_false (by omega)
  have e2:decide (i≥2 ^ 63)=false:=decide_eq_false (by omega)
  rw [e1,e2,Bool.or_false]) (by rw [h1];simpa using h2) ⟨.str ⟨#[c]⟩,H,I.tok _,⟨_,rfl⟩,q⟩) hs
theorem zaas (its:List Value) (n j:Nat) (u:Value):Obj.mapSeq (·.setIfInBounds j u) {cls:=.type "list",data:=.seq its.toArray n}={cls:=.type "list",data:=.seq (its.set j u).toArray n}:=by
 simp [Obj.mapSeq]
theorem Inv.lst {pins:List (Addr×Obj)} {σ:St} {H:Hp} {s:Shared} {p:Addr} {xs:List V} (I:Inv X pins σ H s) (h:H p=some (.lst xs)) :
  ∃ (its:List Value) (n:Nat),Vals xs its∧s.heap.get? p=some {cls:=.type "list",data:=.seq its.toArray n}∧xs.length≤qd:=by
 obtain ⟨z,its,n,r,e⟩:=I.hok p _ h
 exact ⟨its,n,r,e,z⟩
theorem Inv.lstUpd {pins:List (Addr×Obj)} {σ:St} {H:Hp} {s:Shared} {p:Addr} {xs ys:List V} {its its':List Value} {n n':Nat} {f:Obj→Obj} (I:Inv X pins σ H s) (h:H p=some (.lst xs))
  (ho:s.heap.get? p=some {cls:=.type "list",data:=.seq its.toArray n}) (hf:f {cls:=.type "list",data:=.seq its.toArray n}={cls:=.type "list",data:=.seq its'.toArray n'}) (r:Vals ys its') (hz:ys.length≤qd) (t:Nat) :
  Inv X pins σ (upd H p (.lst ys)) {s with heap:=s.heap.update p f,toks:=t}:=by
 have e:(s.heap.update p f).get? p=some {cls:=.type "list",data:=.seq its'.toArray n'}:=by
  rw [qBW f ho (by rw [hf]<;>rfl),hf]
 refine I.write (x:=p) (e:=p) (by rw [h];trivial) (.inl rfl) (fun b u hb q=>(qCK _ _ (qAW hb)).trans q) ⟨_,e⟩ ?_
 exact ⟨hz,its',n',r,e⟩
noncomputable def zakk:V→V→V→Hp→(Hp→Prop)→Prop:=fun o i v H Q=>∃ p xs k j,o=.ref p∧i=.int k∧H p=some (.lst xs)∧ixN xs.length k=some j∧Q (upd H p (.lst (xs.set j v)))
theorem zagf:PSet X zakk:=by
 intro pins s σ H o i v ov iv u Q I ro ri rv h
 obtain ⟨p,xs,k,j,rfl,rfl,hp,hj,q⟩:=h
 cases ro
 obtain ⟨t,rfl⟩:=ri
 obtain ⟨its,n,r,ho,hz⟩:=I.lst hp
 obtain ⟨h1,h2,h3,h4⟩:=zacr hj
 have hl:=r.length
 have hn:=zro
 have I':Inv X pins σ (upd H p (.lst (xs.set j v))) {s with heap:=s.heap.update p (Obj.mapSeq (·.setIfInBounds j u))} :=
  I.lstUpd hp ho (zaas its n j u) (r.set rv j) (by rw [qr];exact hz) s.toks
 by_cases h0:0≤k
 ·have hk:k.toNat=j:=by
   rw [seqIndex_of h0 h4] at h1
   exact qT h1
  exact PySem.W.ki_setAt ho h0 (by omega) (by rw [qP,← hl];exact h4) (by rw [hk];exact ⟨_,I',q⟩)
 ·have hk:(k+(its.toArray.size:Int)).toNat=j:=by
   rw [seqIndex_neg (by omega) h3] at h1
   rw [qP,← hl]
   exact qT h1
  exact PySem.W.ki_setBack ho (by omega) (by rw [qP,← hl];exact h3) (by omega) (by rw [hk];exact ⟨_,I',q⟩)
theorem zuy (lo hi:Option Int) (n:Nat):(sliceBounds lo hi none n).1=((HT.sIx n 0 lo:Nat):Int)∧(sliceBounds lo hi none n).2.1=((HT.sIx n n hi:Nat):Int)∧(sliceBounds lo hi none n).2.2=1:=by
 refine ⟨?_,?_,rfl⟩
 ·cases lo with
  | none=>simp [sliceBounds,HT.sIx]
  | some i =>
   simp only [sliceBounds,HT.sIx,Option.getD_none,show (1:Int) > 0 by decide,if_true]
   by_cases h:i<0
   ·simp only [h,if_true]<;>omega
   ·simp only [h,if_false]<;>omega
 ·cases hi with
  | none=>simp [sliceBounds,HT.sIx]
  | some i =>
   simp only [sliceBounds,HT.sIx,Option.getD_none,show (1:Int) > 0 by decide,if_true]
   by_cases h:i<0
   ·simp only [h,if_true]<;>omega
   ·simp only [h,if_false]<;>omega
theorem zso (its:List Value) (lo hi:Option Int):slicePick its.toArray lo hi none=((its.drop (HT.sIx its.length 0 lo)).take (HT.sIx its.length its.length hi - HT.sIx its.length 0 lo)).toArray:=by
 obtain ⟨h1,h2,h3⟩:=zuy lo hi its.toArray.size
 unfold slicePick
 rw [h1,h2,h3]
 simp only [sliceRange_one,pick_run,qP]<;>rfl
noncomputable def rSlL (K:qB):V→Option Int→Option Int→Hp→VK→Prop:=fun x lo hi H Q=>∃ a xs,x=.ref a∧SqL K H a xs∧∀ p,H p=none→Q (.ref p) (upd H p (.lst (cutV xs lo hi)))
theorem zakl:SlR X (rSlL X.K):=by
 intro pins s σ H x v vl vu lo hi sl Q I rx hs pl pu h
 obtain ⟨a,xs,rfl,hx,q⟩:=h
 cases rx
 obtain ⟨its,r,ht,hz⟩:=I.list hx
 have hlen:=r.length
 refine ⟨"list",_,slot_list_getitem.lookup,ht.isList.typeIs,?_⟩
 refine wpAny_getItem_list_slice ht.isList hs pl pu .none (by simp) ?_ (by rw [qP]<;>omega)
 rw [zso,← hlen]
 refine ⟨.ref s.heap.objs.size,_,I.laid (t':=s.toks) (o:=.lst (cutV xs lo hi)) (fun b ob q=>qC _ q) (qQ _) ?_,rfl,q _ (I.hok.fresh (qQ _))⟩
 exact ⟨qAQ (zxn xs lo hi) hz,_,0,(r.drop (HT.sIx xs.length 0 lo)).take (HT.sIx xs.length xs.length hi - HT.sIx xs.length 0 lo),qU _ rfl⟩
noncomputable def zrd:V→Bool
 | .non=>true
 | .bl _=>true
 | .int _=>true
 | .str _=>true
 | _=>false
noncomputable def eqV:V→V→Bool
 | .non,.non=>true
 | .bl a,.bl b=>a==b
 | .bl a,.int b=>(if a then 1 else 0)==b
 | .int a,.bl b=>a==(if b then 1 else 0)
 | .int a,.int b=>a==b
 | .str a,.str b=>a==b
 | _,_=>false
theorem zank {A:Around} {s:Shared} {y x:V} {u v:Value} (ry:RelV y u) (rx:RelV x v) (fy:zrd y=true) (fx:zrd x=true):SeqAt.EqAt A s u v (eqV y x):=by
 cases y with
 | non =>
  cases ry
  cases x with
  | non=>cases rx;exact SeqAt.EqAt.same _
  | bl b=>cases rx;exact SeqAt.EqAt.none_bool b
  | int b=>obtain ⟨t,rfl⟩:=rx;exact SeqAt.EqAt.none_int b t
  | str b=>obtain ⟨t,rfl⟩:=rx;exact SeqAt.EqAt.none_str b t
  | _=>exact absurd (show false=true from fx) qK
 | bl a =>
  cases ry
  cases x with
  | non=>cases rx;exact SeqAt.EqAt.bool_none a
  | bl b=>cases rx;exact SeqAt.EqAt.bool_bool a b
  | int b=>obtain ⟨t,rfl⟩:=rx;exact SeqAt.EqAt.bool_int a b t
  | str b=>obtain ⟨t,rfl⟩:=rx;exact SeqAt.EqAt.bool_str a b t
  | _=>exact absurd (show false=true from fx) qK
 | int a =>
  obtain ⟨t',rfl⟩:=ry
  cases x with
  | non=>cases rx;exact SeqAt.EqAt.int_none a t'
  | bl b=>cases rx;exact SeqAt.EqAt.int_bool a t' b
  | int b=>obtain ⟨t,rfl⟩:=rx;exact SeqAt.EqAt.int_int a t' b t
  | str b=>obtain ⟨t,rfl⟩:=rx;exact qCD a t' b t
  | _=>exact absurd (show false=true from fx) qK
 | str a =>
  obtain ⟨t',rfl⟩:=ry
  cases x with
  | non=>cases rx;exact SeqAt.EqAt.str_none a t'
  | bl b=>cases rx;exact SeqAt.EqAt.str_bool a t' b
  | int b=>obtain ⟨t,rfl⟩:=rx;exact qCC a t' b t
  | str b=>obtain ⟨t,rfl⟩:=rx;exact SeqAt.EqAt.str_str a t' b t
  | _=>exact absurd (show false=true from fx) qK
 | _=>exact absurd (show false=true from fy) qK
noncomputable def eqU (x:V) (u:Value):Bool:=match u with
 | .none=>eqV .non x
 | .bool b=>eqV (.bl b) x
 | .int i _=>eqV (.int i) x
 | .str z _=>eqV (.str z) x
 | _=>false
theorem zaiq {x y:V} {u:Value} (r:RelV y u) (f:zrd y=true):eqU x u=eqV y x:=by
 cases y with
 | non=>cases r;rfl
 | bl b=>cases r;rfl
 | int i=>obtain ⟨t,rfl⟩:=r;rfl
 | str z=>obtain ⟨t,rfl⟩:=r;rfl
 | _=>exact absurd (show false=true from f) qK
theorem zpf {x:V}:∀ {xs:List V} {us:List Value},Vals xs us→xs.all zrd=true→us.any (eqU x)=xs.any fun y=>eqV y x
 | _,_,.nil,_=>rfl
 | y::xs,u::us,.cons r t,f=>by
  rw [qA9,qt] at f
  rw [qAn,qAn,zaiq r f.1,zpf t f.2]
theorem zmb {A:Around} {s:Shared} {x:V} {v:Value} (rx:RelV x v) (fx:zrd x=true):∀ {xs:List V} {us:List Value},Vals xs us→xs.all zrd=true→∀ u∈us,SeqAt.EqAt A s u v (eqU x u)
 | _,_,.nil,_=>fun u hu=>by cases hu
 | y::xs,u::us,.cons r t,f=>fun u' hu=>by
  rw [qA9,qt] at f
  rcases qN.mp hu with rfl|hu
  ·rw [zaiq r f.1];exact zank r rx f.1 fx
  ·exact zmb rx fx t f.2 u' hu
noncomputable def inV (x:V) (xs:List V):Bool:=xs.any fun y=>eqV y x
noncomputable def rIn (K:qB) (neg:Bool):R2:=fun x y H Q=>∃ p xs,y=.ref p∧(SqL K H p xs∨SqT K H p xs)∧zrd x=true∧xs.all zrd=true∧Q (.bl (if neg then !inV x xs else inV x xs)) H
theorem zacs:OpR X (compareOp .In) (rIn X.K false):=by
 intro pins s σ H x y v u Q I rx ry h
 obtain ⟨p,xs,rfl,hq,fx,fs,q⟩:=h
 cases ry
 rcases hq with hq|hq
 ·obtain ⟨its,r,pl,hz⟩:=I.list hq
  refine SeqAt.in_listAt (eqU x) pl.isList (fun w hw=>zmb rx fx r fs w (by simpa using hw)) ⟨.bl _,H,I,rfl,?_⟩
  rw [show its.toArray.any (eqU x)=its.any (eqU x) by simp,zpf r fs]
  exact q
 ·obtain ⟨its,r,pl,hz⟩:=I.tuple hq
  refine SeqAt.in_tupleAt (eqU x) pl (fun w hw=>zmb rx fx r fs w (by simpa using hw)) ⟨.bl _,H,I,rfl,?_⟩
  rw [show its.toArray.any (eqU x)=its.any (eqU x) by simp,zpf r fs]
  exact q
theorem zuz:OpR X (compareOp .NotIn) (rIn X.K true):=by
 intro pins s σ H x y v u Q I rx ry h
 obtain ⟨p,xs,rfl,hq,fx,fs,q⟩:=h
 cases ry
 rcases hq with hq|hq
 ·obtain ⟨its,r,pl,hz⟩:=I.list hq
  refine SeqAt.notIn_listAt (eqU x) pl.isList (fun w hw=>zmb rx fx r fs w (by simpa using hw)) ⟨.bl _,H,I,rfl,?_⟩
  rw [show its.toArray.any (eqU x)=its.any (eqU x) by simp,zpf r fs]
  exact q
 ·obtain ⟨its,r,pl,hz⟩:=I.tuple hq
  refine SeqAt.notIn_tupleAt (eqU x) pl (fun w hw=>zmb rx fx r fs w (by simpa using hw)) ⟨.bl _,H,I,rfl,?_⟩
  rw [show its.toArray.any (eqU x)=its.any (eqU x) by simp,zpf r fs]
  exact q
theorem zva:CallR X (.type "list") (fun xs H Q=>∃ p ys,xs=[.ref p]∧(SqL X.K H p ys∨SqT X.K H p ys)∧∀ l,H l=none→Q (.ref l) (upd H l (.lst ys))):=by
 intro pins s σ H xs us Q I r h
 obtain ⟨p,ys,rfl,hq,q⟩:=h
 obtain ⟨u,rfl,rx⟩:=zaaq r
 cases rx
 have fin:∀ (its:List Value),Vals ys its→ys.length≤qd→∀ (h':Heap) (c':Nat),(∀ b o',s.heap.get? b=some o'→h'.get? b=some o') →
   h'.get? s.heap.objs.size=some {cls:=.type "list",dict:=none,data:=.seq its.toArray c',slots:=#[]}→EP X pins σ Q (.ref s.heap.objs.size) {s with heap:=h'}:=fun its r' hz h' c' kp e =>
  ⟨.ref s.heap.objs.size,_,I.laid (t':=s.toks) kp (qQ _) (show zfw X.prog X.w _ h' _ (.lst ys) from ⟨hz,its,c',r',e⟩),rfl,q _ (I.hok.fresh (qQ _))⟩
 rcases hq with hq|hq
 ·obtain ⟨its,r',pl,hz⟩:=I.list hq
  have hlen:=r'.length
  obtain ⟨o,ho,hc,n,hd⟩:=pl.isList
  exact call_list_seq p (.inl rfl) ho hc hd (fun h' c' kp e=>fin its r' hz h' c' kp e) (by simp only [qP]<;>omega)
 ·obtain ⟨its,r',pl,hz⟩:=I.tuple hq
  have hlen:=r'.length
  obtain ⟨o,ho,hc,n,hd⟩:=pl
  exact call_list_seq p (.inr rfl) ho hc hd (fun h' c' kp e=>fin its r' hz h' c' kp e) (by simp only [qP]<;>omega)
theorem zsp:CallR X (.type "tuple") (fun xs H Q=>∃ p ys,xs=[.ref p]∧((SqL X.K H p ys∧∀ l,H l=none→Q (.ref l) (upd H l (.tup ys)))∨(SqT X.K H p ys∧Q (.ref p) H))):=by
 intro pins s σ H xs us Q I r h
 obtain ⟨p,ys,rfl,h⟩:=h
 obtain ⟨u,rfl,rx⟩:=zaaq r
 cases rx
 rcases h with ⟨hq,q⟩|⟨hq,q⟩
 ·obtain ⟨its,r',pl,hz⟩:=I.list hq
  have hlen:=r'.length
  refine call_tuple_list pl.isList (fun h' kp=>?_) (by simp only [qP]<;>omega)
  have I1:Inv X pins σ H {s with heap:=h'}:=I.kept (t':=s.toks) kp
  have I2:Inv X pins σ (upd H h'.objs.size (.tup ys)) {s with heap:=h'.push {cls:=.type "tuple",data:=.seq its.toArray}} :=
   I1.laid (t':=s.toks) (fun b o e=>qC _ e) (qQ _) (show zfw X.prog X.w _ _ _ (.tup ys) from ⟨hz,its,r',IsTup.new _ _⟩)
  exact ⟨.ref h'.objs.size,_,I2,rfl,q _ (I1.hok.fresh (qQ _))⟩
 ·obtain ⟨its,r',pl,hz⟩:=I.tuple hq
  exact call_tuple_same pl ⟨.ref p,H,I,rfl,q⟩
noncomputable def tyV (K:qB) (T:String) (x:V) (H:Hp):Prop:=match x with
 | .str _=>T = "str"
 | .int _=>T = "int"
 | .ref p=>(T = "list" ∧ ∃ xs,SqL K H p xs)∨(T = "tuple" ∧ ∃ o,K.lookup p=some o∧o.cls=.type "tuple" ∧ o.dict=none) ∨
   (T = "dict" ∧ ((∃ kvs,H p=some (.dK kvs))∨∃ kvs,H p=some (.dT kvs)))∨(T = "set" ∧ ∃ S n,H p=some (.set S n))
 | _=>False
theorem zanl {pins:List (Addr×Obj)} {σ:St} {H:Hp} {s:Shared} {T:String} {x:V} {v:Value} (I:Inv X pins σ H s) (r:RelV x v) (ty:tyV X.K T x H) :
  s.TypeIs v T∧∀ a,v=.ref a→∃ ob,s.heap.get? a=some ob∧ob.dict=none:=by
 cases x with
 | str z =>
  obtain ⟨t,rfl⟩:=r
  cases (show T = "str" from ty)
  exact ⟨typeIs_str s z t,fun _ e=>nomatch e⟩
 | int i =>
  obtain ⟨t,rfl⟩:=r
  cases (show T = "int" from ty)
  exact ⟨typeIs_int s i t,fun _ e=>nomatch e⟩
 | ref p =>
  cases r
  rcases ty with ⟨rfl,xs,hq⟩|⟨rfl,o,hk,hc,hd⟩|⟨rfl,hk⟩|⟨rfl,S,n,hk⟩
  ·obtain ⟨its,_,pl,_⟩:=I.list hq
   refine ⟨pl.isList.typeIs,fun a e=>?_⟩
   cases e
   obtain ⟨o,n,e,c,hd,_⟩:=pl
   exact ⟨o,e,hd⟩
  ·refine ⟨⟨o,I.kIn p o hk,hc⟩,fun a e=>?_⟩
   cases e
   exact ⟨o,I.kIn _ o hk,hd⟩
  ·have z:∃ o,s.heap.get? p=some o∧o.ExactDict:=by
    rcases hk with ⟨kvs,hk⟩|⟨kvs,hk⟩
    ·obtain ⟨_,_,_,_,o,_,_,e,ex,_⟩:=I.hok p _ hk
     exact ⟨o,e,ex⟩
    ·obtain ⟨_,_,_,_,o,_,_,e,ex,_⟩:=I.hok p _ hk
     exact ⟨o,e,ex⟩
   obtain ⟨o,e,ex⟩:=z
   refine ⟨⟨o,e,ex.1⟩,fun a e2=>?_⟩
   cases e2
   exact ⟨o,e,ex.2.1⟩
  ·obtain ⟨o,_,_,_,e,ex,_⟩:=I.hok p _ hk
   refine ⟨⟨o,e,ex.1⟩,fun a e2=>?_⟩
   cases e2
   exact ⟨o,e,ex.2.1⟩
 | _=>exact False.elim ty
noncomputable def tBM (K:qB) (T:String) (r:V→List V→Hp→VK→Prop) (to:TE) (t:TA):TE:=fun σ H Q=>to σ H fun x H1=>tyV K T x H1∧t σ H1 fun xs H2=>r x xs H2 Q
variable {o e:Expr} {es:List Expr} {to:TE} {t:TA} {name:Str} {apos cpos:Pos} {T id:String} {r:V→List V→Hp→VK→Prop}
theorem zapp (pa:PlainAttrs T) (slot:Slot T name id) (hty:typeOf (.builtin id)=pure (.type "method_descriptor")) (hm:MtR X id r) (ho:PE X o to) (ha:PA X (e::es) t)
  (hbase:attributeBase o name X.env (eval o X.env)=eval o X.env:=by rfl)
  (hfew:((backTo cpos (starEach (e::es) X.env)).all (fun x=>!x.1)&&(backToKw cpos (keywordEach [] X.env)).all (fun x=>x.1.isSome)
   && decide ((e::es).length+([]:List Keyword).length+(if ([]:List Keyword).isEmpty then 0 else 1)<30))=true:=by rfl)
  (hline:(apos.endLine==cpos.line)=true:=by rfl) (hs:starEach (e::es) X.env=(false,eval e X.env)::starEach es X.env:=by rfl) (hplain:(backTo cpos (starEach es X.env)).any (·.1)=false:=by rfl) :
  PE X (.Call (.Attribute o name apos) (e::es) [] cpos) (tBM X.K T r to t):=by
 intro pins s σ H Q I h
 refine wpAny_Call_method_late hbase hfew hline rfl (thn (ho pins s σ H _ I h) fun v s1 ⟨x,H1,I1,r1,ty,q1⟩=>?_)
 obtain ⟨h1,h2⟩:=zanl I1 r1 ty
 refine ⟨T,id,pa,slot,hty,h1,h2,?_⟩
 have hA:=ha cpos pins s1 σ H1 _ I1 q1
 rw [hs] at hA ⊢
 refine Calls.callWith_builtin (by show (false||(backTo cpos (starEach es X.env)).any (·.1))=false;rw [hplain]<;>rfl) (Calls.evalArgs_plain ?_)
 exact thn hA fun us s2 ⟨vs,H2,I2,r2,q2⟩=>hm pins s2 σ H2 x vs v us Q I2 r1 r2 q2
end
noncomputable def MtM (X:Cx) (id:String) (r:V→List V→Hp→VK→Prop):Prop :=
 ∀ (pins:List (Addr×Obj)) (s:Shared) (σ:St) (H:Hp) (x:V) (xs:List V) (v:Value) (us:List Value) (Q:VK),Inv X pins σ H s→RelV x v→Vals xs us→r x xs H Q →
  wpAny (model X.prog X.w) X.A (call (.builtin id) (v::us)) (EP X pins σ Q) X.xe s
theorem Vals.one:∀ {x:V} {us:List Value},Vals [x] us→∃ u,us=[u]∧RelV x u
 | _,_,.cons r .nil=>⟨_,rfl,r⟩
section
variable {X:Cx} {pins:List (Addr×Obj)} {σ:St} {H:Hp} {s:Shared} {l b:Addr} {xs ys zs:List V}
theorem Inv.lset {its its':List Value} {n:Nat} {f:Array Value→Array Value} {t':Nat} (I:Inv X pins σ H s) (hH:H l=some (.lst xs))
  (e:s.heap.get? l=some {cls:=.type "list",data:=.seq its.toArray n}) (hf:f its.toArray=its'.toArray) (hv:Vals ys its') (hz:ys.length≤qd) :
  Inv X pins σ (upd H l (.lst ys)) {s with heap:=s.heap.update l (Obj.mapSeq f),toks:=t'}:=by
 have q:=PySem.IsL.update e f
 rw [hf] at q
 refine I.write (x:=l) (e:=l) (by rw [hH];exact trivial) (.inl rfl) (fun b' u hb hu=>(qCK s.heap (Obj.mapSeq f) (qAW hb)).trans hu) ⟨_,q⟩ ?_
 exact ⟨hz,its',_,hv,q⟩
theorem Inv.lnew {its:List Value} {t':Nat} (I:Inv X pins σ H s) (hv:Vals ys its) (hz:ys.length≤qd) :
  Inv X pins σ (upd H s.heap.objs.size (.lst ys)) {s with heap:=s.heap.push {cls:=.type "list",data:=.seq its.toArray},toks:=t'} :=
 I.laid (fun _ _ q=>qC _ q) (qQ _) ⟨hz,its,0,hv,qU _ rfl⟩
theorem Inv.fresh (I:Inv X pins σ H s):H s.heap.objs.size=none:=I.hok.fresh (qQ _)
theorem Inv.lstM (I:Inv X pins σ H s) (hH:H l=some (.lst xs)):xs.length≤qd∧∃ (its:List Value) (n:Nat),Vals xs its∧xs.length=its.length∧s.heap.get? l=some {cls:=.type "list",data:=.seq its.toArray n}:=by
 obtain ⟨z,its,n,r,e⟩:=I.hok l _ hH
 exact ⟨z,its,n,r,r.length,e⟩
theorem zagg {n:Nat} (h:n≤qd):Builtin.List.listTooLong n=false:=by
 unfold Builtin.List.listTooLong
 exact decide_eq_false (by omega)
end
section
variable {X:Cx}
noncomputable def zact:V→List V→Hp→VK→Prop:=fun x vs H Q=>∃ l xs y,x=.ref l∧vs=[y]∧H l=some (.lst xs)∧xs.length<qd∧Q .non (upd H l (.lst (xs++[y])))
theorem zhw:MtM X "list.append" zact:=by
 intro pins s σ H x vs v us Q I rx rv h
 obtain ⟨l,xs,y,rfl,rfl,hH,hz,q⟩:=h
 cases rx
 obtain ⟨u,rfl,ru⟩:=rv.one
 obtain ⟨z,its,n,r,hl,e⟩:=I.lstM hH
 refine call_meets F.slot_list_append ⟨_,e,rfl⟩ F.entry_list_append (F.args_list_append_2 _ _) (PySem.list_append l its.toArray n u (by rw [qP];omega)) ⟨e,?_⟩
 refine ⟨.non,_,I.lset (its':=its++[u]) hH e (by simp) (r.append (.cons ru .nil)) ?_,rfl,q⟩
 rw [qJ,List.length_singleton]
 omega
noncomputable def zakm:V→List V→Hp→VK→Prop:=fun x vs H Q=>∃ l b xs zs,x=.ref l∧vs=[.ref b]∧H l=some (.lst xs)∧H b=some (.lst zs)∧xs.length+zs.length≤qd∧Q .non (upd H l (.lst (xs++zs)))
theorem zanm:MtM X "list.extend" zakm:=by
 intro pins s σ H x vs v us Q I rx rv h
 obtain ⟨l,b,xs,zs,rfl,rfl,hH,hB,hz,q⟩:=h
 cases rx
 obtain ⟨u,rfl,ru⟩:=rv.one
 cases ru
 obtain ⟨z,its,n,r,hl,e⟩:=I.lstM hH
 obtain ⟨z2,its2,n2,r2,hl2,e2⟩:=I.lstM hB
 have hsz:its.toArray.size+its2.toArray.size≤qd:=by rw [qP,qP];omega
 have hlong:¬ (!its.toArray.isEmpty&&Builtin.List.listTooLong (its.toArray.size+its2.toArray.size))=true:=by
  rw [zagg hsz,Bool.and_false]
  exact qK
 refine call_meets F.slot_list_extend ⟨_,e,rfl⟩ F.entry_list_extend (F.args_list_extend_2 _ _)
  (AutoSeq1.list_extend_list_list_0 l its.toArray n b its2.toArray n2 hlong (by rw [qP];omega) (by omega)) ⟨e,e2,?_⟩
 refine ⟨.non,_,I.lset (its':=its++its2) hH e (by simp) (r.append r2) ?_,rfl,q⟩
 rw [qJ]
 omega
noncomputable def rCat:R2:=fun x y H Q=>∃ l b xs zs,x=.ref l∧y=.ref b∧H l=some (.lst xs)∧H b=some (.lst zs)∧xs.length+zs.length≤qd∧∀ p,H p=none→Q (.ref p) (upd H p (.lst (xs++zs)))
theorem zann:OpR X (binaryOp .Add) rCat:=by
 intro pins s σ H x y v u Q I rx ry h
 obtain ⟨l,b,xs,zs,rfl,rfl,hH,hB,hz,q⟩:=h
 cases rx
 cases ry
 obtain ⟨z,its,n,r,hl,e⟩:=I.lstM hH
 obtain ⟨z2,its2,n2,r2,hl2,e2⟩:=I.lstM hB
 refine PySem.P.add_list e e2 ?_ (by rw [qP,qP];omega)
 have ea:its.toArray++its2.toArray=(its++its2).toArray:=by simp
 rw [ea]
 exact ⟨.ref _,_,I.lnew (t':=s.toks) (r.append r2) (by rw [qJ];omega),rfl,q _ I.fresh⟩
end
section
variable {prog:Program} {w:World} {A:Around} {E:Value→Shared→Prop} {s:Shared}
set_option maxRecDepth 100000 in
end
section
variable {X:Cx}
end
section
variable {κ:Type} [DecidableEq κ]
noncomputable def valV (kvs:List (κ×V)) (k:κ):Option V:=(kvs.find? fun kv=>decide (kv.1=k)).map (·.2)
noncomputable def putK (kvs:List (κ×V)) (k:κ) (v:V):List (κ×V) :=
 if (kvs.any fun kv=>decide (kv.1=k))=true then kvs.map (fun kv=>if kv.1=k then (kv.1,v) else kv) else kvs++[(k,v)]
theorem zpd {p:κ×V} {r:List (κ×V)} {k:κ} (e:p.1=k):valV (p::r) k=some p.2:=by simp [valV,qA0,e]
theorem zpe {p:κ×V} {r:List (κ×V)} {k:κ} (e:¬ p.1=k):valV (p::r) k=valV r k:=by simp [valV,qA0,e]
theorem zzf (k:κ):∀ kvs:List (κ×V),(kvs.any fun kv=>decide (kv.1=k))=(valV kvs k).isSome
 | []=>rfl
 | p::r=>by
  rw [qAn]
  by_cases e:p.1=k
  ·simp only [zpd e,decide_eq_true e,Bool.true_or,qCO]
  ·rw [zpe e,decide_eq_false e,qCG];exact zzf k r
theorem zlo (kvs:List (κ×V)) (k:κ) (v:V):(putK kvs k v).length≤kvs.length+1:=by
 unfold putK
 split
 ·rw [qE];omega
 ·rw [qJ,qa,qBy];omega
theorem RelO.isSome_eq {o:Option V} {u:Option Value} (r:RelO o u):o.isSome=u.isSome:=by
 cases o with
 | none=>cases u with
  | none=>rfl
  | some _=>exact (show False from r).elim
 | some _=>cases u with
  | none=>exact (show False from r).elim
  | some _=>rfl
theorem KV.val {kvs:List (κ×V)} {vs:List (κ×Value)} (r:KV kvs vs) (k:κ):RelO (valV kvs k) (valueAt vs k):=by
 unfold KV at r
 induction r with
 | nil=>exact True.intro
 | @cons p q ps qs h t ih =>
  obtain ⟨h1,h2⟩:=h
  by_cases e:p.1=k
  ·have e':q.1=k:=h1.symm.trans e
   have b:valueAt (q::qs) k=some q.2:=by simp [valueAt,qA0,e']
   rw [zpd e,b];exact h2
  ·have e':¬ q.1=k:=fun z=>e (h1.trans z)
   have b:valueAt (q::qs) k=valueAt qs k:=by simp [valueAt,qA0,e']
   rw [zpe e,b];exact ih
theorem KV.any {kvs:List (κ×V)} {vs:List (κ×Value)} (r:KV kvs vs) (k:κ):(kvs.any fun kv=>decide (kv.1=k))=vs.any fun kv=>decide (kv.1=k):=by
 unfold KV at r
 induction r with
 | nil=>rfl
 | cons h t ih=>rw [qAn,qAn,ih,h.1]
theorem KV.repl {kvs:List (κ×V)} {vs:List (κ×Value)} (r:KV kvs vs) (k:κ) {y:V} {u:Value} (ry:RelV y u) :
  KV (kvs.map fun kv=>if kv.1=k then (kv.1,y) else kv) (vs.map fun kv=>if kv.1=k then (kv.1,u) else kv):=by
 unfold KV at r ⊢
 induction r with
 | nil=>exact .nil
 | @cons p q ps qs h t ih =>
  rw [qe,qe]
  refine .cons ?_ ih
  obtain ⟨h1,h2⟩:=h
  by_cases e:p.1=k
  ·rw [if_pos e,if_pos (h1.symm.trans e)];exact ⟨h1,ry⟩
  ·rw [if_neg e,if_neg (fun z=>e (h1.trans z))];exact ⟨h1,h2⟩
theorem KV.put {kvs:List (κ×V)} {vs:List (κ×Value)} (r:KV kvs vs) (k:κ) {y:V} {u:Value} (ry:RelV y u):KV (putK kvs k y) (stored vs k u):=by
 unfold putK stored
 rw [r.any k]
 by_cases e:(vs.any fun kv=>decide (kv.1=k))=true
 ·rw [if_pos e,if_pos e];exact r.repl k ry
 ·rw [if_neg e,if_neg e];exact Paired.snoc r ⟨rfl,ry⟩
theorem KV.length {kvs:List (κ×V)} {vs:List (κ×Value)} (r:KV kvs vs):kvs.length=vs.length:=qBe r
end
theorem zacu {P:Program} {w:World} {k:Key} {u:Value} (r:RelV (kV k) u):(zdw P w).is k u=true:=by
 cases k with
 | inl i=>obtain ⟨t,e⟩:=(show ∃ t,u=Value.int i t from r);subst e;exact zxj P w i t
 | inr x=>obtain ⟨t,e⟩:=(show ∃ t,u=Value.str x t from r);subst e;exact zxk P w x t
theorem zvb {P:Program} {w:World}:∀ {ks:List Key} {us:List Value},Vals (ks.map kV) us→ItemsAre (zdw P w) ks us
 | [],_,r=>by rw [qBR] at r;cases r;exact .nil
 | k::ks,_,r=>by
  rw [qe] at r
  cases r with
  | cons h t=>exact .cons (zacu h) (zvb t)
noncomputable abbrev KT (H:Hp):List (List Key×V)→List (List Key×Addr×Value)→Prop:=Paired fun p q=>p.1=q.1∧H q.2.1=some (.tup (p.1.map kV))∧RelV p.2 q.2.2
theorem KT.val {H:Hp} {kvs:List (List Key×V)} {xs:List (List Key×Addr×Value)} (r:KT H kvs xs) (k:List Key):RelO (valV kvs k) ((atKey xs k).map (·.2)):=by
 induction r with
 | nil=>exact True.intro
 | @cons p q ps qs h t ih =>
  obtain ⟨h1,_,h2⟩:=h
  by_cases e:p.1=k
  ·have e':q.1=k:=h1.symm.trans e
   have b:atKey (q::qs) k=some q.2:=by simp [atKey,qA0,e']
   rw [zpd e,b];exact h2
  ·have e':¬ q.1=k:=fun z=>e (h1.trans z)
   have b:atKey (q::qs) k=atKey qs k:=by simp [atKey,qA0,e']
   rw [zpe e,b];exact ih
theorem KT.repl {H:Hp} {kvs:List (List Key×V)} {xs:List (List Key×Addr×Value)} (r:KT H kvs xs) (k:List Key) {y:V} {u:Value} (ry:RelV y u) :
  KT H (kvs.map fun kv=>if kv.1=k then (kv.1,y) else kv) (xs.map (putAt k u)):=by
 induction r with
 | nil=>exact .nil
 | @cons p q ps qs h t ih =>
  rw [qe,qe]
  refine .cons ?_ ih
  obtain ⟨h1,h2,h3⟩:=h
  unfold putAt
  by_cases e:p.1=k
  ·rw [if_pos e,if_pos (h1.symm.trans e)];exact ⟨h1,h2,ry⟩
  ·rw [if_neg e,if_neg (fun z=>e (h1.trans z))];exact ⟨h1,h2,h3⟩
theorem KT.put {H:Hp} {kvs:List (List Key×V)} {xs:List (List Key×Addr×Value)} (r:KT H kvs xs) (k:List Key) {b:Addr} {y:V} {u:Value} (hb:H b=some (.tup (k.map kV))) (ry:RelV y u) :
  KT H (putK kvs k y) (storedH xs k b u):=by
 have e:(kvs.any fun kv=>decide (kv.1=k))=(atKey xs k).isSome:=by
  rw [zzf,(r.val k).isSome_eq,qCS]
 unfold putK storedH
 rw [e]
 by_cases q:(atKey xs k).isSome=true
 ·rw [if_pos q,if_pos q];exact r.repl k ry
 ·rw [if_neg q,if_neg q];exact Paired.snoc r ⟨rfl,hb,ry⟩
theorem KT.keeps {H H':Hp} {kvs:List (List Key×V)} {xs:List (List Key×Addr×Value)} (r:KT H kvs xs) (ht:∀ b ys,H b=some (.tup ys)→H' b=some (.tup ys)):KT H' kvs xs :=
 Paired.mapP r fun _ _ z=>⟨z.1,ht _ _ z.2.1,z.2.2⟩
section
variable {P:Program} {w:World} {H:Hp} {h:Heap} {a:Addr}
theorem zano {u:HO} (ok:HOk P w H h) (e:Rd H a u):zfw P w H h a u:=e.ok ok
theorem zagh {kvs:List (Key×V)} (ok:HOk P w H h) (e:Rd H a (.dK kvs)):kvs.length≤qd∧(a==sysModules)=false∧∃ vs,KV kvs vs∧h.DictOf (zdw P w) a vs :=
 show zfw P w H h a (.dK kvs) from zano ok e
theorem zagi {kvs:List (Key×V)} (ok:HOk P w H h) (e:H a=some (.dK kvs)):kvs.length≤qd∧(a==sysModules)=false∧∃ vs,KV kvs vs∧h.DictOf (zdw P w) a vs:=zagh ok (.inl e)
theorem zzg {ks:List Key} (ok:HOk P w H h) (e:H a=some (.tup (ks.map kV))):(tupleKind (zdw P w)).is h ks a:=by
 obtain ⟨_,its,r,o,h1,h2,n,h3⟩:=(show zfw P w H h a (.tup (ks.map kV)) from ok a _ e)
 exact ⟨o,its.toArray,n,h1,h2,h3,by simpa using zvb r⟩
theorem zagj {kvs:List (List Key×V)} (ok:HOk P w H h) (e:Rd H a (.dT kvs)):kvs.length≤qd∧(a==sysModules)=false ∧
  ∃ xs,KT H kvs xs∧h.DictOfH (tupleKind (zdw P w)) a xs:=by
 obtain ⟨z,y,xs,r,o,es,ep,h1,h2,h3,h4,h5⟩:=(show zfw P w H h a (.dT kvs) from zano ok e)
 refine ⟨z,y,xs,r,o,es,ep,h1,h2,h3,h4,fun x hx=>?_,h5⟩
 have all:∀ {l:List (List Key×V)} {m:List (List Key×Addr×Value)},KT H l m→∀ x∈m,(tupleKind (zdw P w)).is h x.1 x.2.1:=by
  intro l m q
  induction q with
  | nil=>intro x hx;exact nomatch hx
  | @cons p q ps qs hq t ih =>
   intro x hx
   rcases qN.mp hx with e|hx
   ·subst e
    exact zzg ok (by rw [← hq.1];exact hq.2.1)
   ·exact ih x hx
 exact all r x hx
theorem zapq {kvs:List (List Key×V)} (ok:HOk P w H h) (e:H a=some (.dT kvs)):kvs.length≤qd∧(a==sysModules)=false ∧
  ∃ xs,KT H kvs xs∧h.DictOfH (tupleKind (zdw P w)) a xs:=zagj ok (.inl e)
end
noncomputable def DGet (H:Hp) (a:Addr) (y:V) (r:Option V):Prop :=
 (∃ kvs k,Rd H a (.dK kvs)∧y=kV k∧r=valV kvs k)∨∃ kvs k b,Rd H a (.dT kvs)∧y=.ref b∧H b=some (.tup (k.map kV))∧r=valV kvs k
noncomputable def DPut (H:Hp) (a:Addr) (y v:V) (H':Hp):Prop :=
 (∃ kvs k,H a=some (.dK kvs)∧y=kV k∧kvs.length<qd∧H'=upd H a (.dK (putK kvs k v))) ∨
 ∃ kvs k b,H a=some (.dT kvs)∧y=.ref b∧H b=some (.tup (k.map kV))∧kvs.length<qd∧H'=upd H a (.dT (putK kvs k v))
theorem DGet.k {H:Hp} {a:Addr} {kvs:List (Key×V)} {k:Key} (e:H a=some (.dK kvs)):DGet H a (kV k) (valV kvs k):=.inl ⟨kvs,k,.inl e,rfl,rfl⟩
theorem DPut.k {H:Hp} {a:Addr} {kvs:List (Key×V)} {k:Key} {v:V} (e:H a=some (.dK kvs)) (hl:kvs.length<qd):DPut H a (kV k) v (upd H a (.dK (putK kvs k v))):=.inl ⟨kvs,k,e,rfl,hl,rfl⟩
section
variable {X:Cx} {pins:List (Addr×Obj)} {σ:St} {H:Hp} {s:Shared} {a:Addr} {y v:V} {u r:Value} {o:Option V} {A:Around} {E:Value→Shared→Prop}
theorem Inv.big (I:Inv X pins σ H s):sysModules<s.heap.objs.size:=by
 have h:qO<s.heap.objs.size:=(I.mod.glob.keeps I.bk).lt
 exact Nat.lt_trans (by decide) h
theorem zacv {Q:Value→Shared→Prop} (hu:A.units+1<cLine) (I:Inv X pins σ H s) (g:DGet H a y (some v)) (ry:RelV y u) (h:∀ w' s',Inv X pins σ H s'→RelV v w'→Q w' s') :
  wpAny (model X.prog X.w) A (getItem (.ref a) u) Q E s:=by
 rcases g with ⟨kvs,k,e,ey,l⟩|⟨kvs,k,b,e,ey,eb,l⟩
 ·subst ey
  obtain ⟨z,hd,vs,rel,dd⟩:=zagh I.hok e
  obtain ⟨w',hw,rw'⟩:=RelO.some_of (v:=v) (o:=valueAt vs k) (by rw [l];exact rel.val k)
  exact wpAny_getItem_of (zacu ry) dd.mapOf hw (h w' _ (I.tok _) rw')
 ·subst ey
  cases (show u=Value.ref b from ry)
  obtain ⟨z,hd,xs,rel,dd⟩:=zagj I.hok e
  obtain ⟨w',hw,rw'⟩:=RelO.some_of (v:=v) (o:=(atKey xs k).map (·.2)) (by rw [l];exact rel.val k)
  obtain ⟨p,hp,hp2⟩:=qH.mp hw
  refine wpAny_getItem_heap (qBt hu) (zzg I.hok eb) dd hp ?_
  rw [hp2]
  exact h w' _ (I.tok _) rw'
theorem d_in {Q:Value→Shared→Prop} (hu:A.units+1<cLine) (I:Inv X pins σ H s) (g:DGet H a y o) (ry:RelV y u) (h:∀ s',Inv X pins σ H s'→Q (.bool o.isSome) s') :
  wpAny (model X.prog X.w) A (compareOp .In u (.ref a)) Q E s:=by
 rcases g with ⟨kvs,k,e,ey,l⟩|⟨kvs,k,b,e,ey,eb,l⟩
 ·subst ey
  obtain ⟨z,hd,vs,rel,dd⟩:=zagh I.hok e
  refine wpAny_in_of (zacu ry) hd dd.mapOf ?_
  rw [← (rel.val k).isSome_eq,← l]
  exact h _ (I.tok _)
 ·subst ey
  cases (show u=Value.ref b from ry)
  obtain ⟨z,hd,xs,rel,dd⟩:=zagj I.hok e
  refine wpAny_in_heap (qBt hu) (zzg I.hok eb) hd dd ?_
  have q:=(rel.val k).isSome_eq
  rw [qCS] at q
  rw [← q,← l]
  exact h _ (I.tok _)
theorem zsq {h':Heap} {t':Nat} {ob:HO} (I:Inv X pins σ H s) (mu:Mut (H a)) (hs:Heap.SameBut a s.heap h') (he:∃ q,h'.get? a=some q) (new:zfw X.prog X.w (upd H a ob) h' a ob) :
  Inv X pins σ (upd H a ob) {s with heap:=h',toks:=t'} :=
 I.write (x:=a) (e:=a) mu (.inl rfl) (fun b q hb z=>(hs.2 b hb).trans z) he new
theorem zacw {P:Program} {w:World} {H':Hp} {h':Heap} {kvs:List (Key×V)} {vs:List (Key×Value)} (z:kvs.length≤qd) (hd:(a==sysModules)=false) (rel:KV kvs vs) (dd:h'.DictOf (zdw P w) a vs) :
  zfw P w H' h' a (.dK kvs):=⟨z,hd,vs,rel,dd⟩
theorem zacx {H':Hp} {Q:Unit→Shared→Prop} (hu:A.units+1<cLine) (I:Inv X pins σ H s) (g:DPut H a y v H') (ry:RelV y u) (rv:RelV v r) (h:∀ s',Inv X pins σ H' s'→Q () s') :
  wpAny (model X.prog X.w) A (setItem (.ref a) u r) Q E s:=by
 rcases g with ⟨kvs,k,e,ey,l,eH⟩|⟨kvs,k,b,e,ey,eb,l,eH⟩
 ·subst ey eH
  obtain ⟨z,hd,vs,rel,dd⟩:=zagi I.hok e
  have hz:vs.length≤qd:=by rw [← rel.length];exact z
  have hl:(putK kvs k v).length≤qd:=by have:=zlo kvs k v;omega
  refine wpAny_setItem_pairs (hsz:=hz) (zacu ry) dd fun h' dd' hs=>h _ ?_
  have he:∃ q,h'.get? a=some q:=let ⟨q,_,_,hq,_⟩:=dd';⟨q,hq⟩
  exact zsq I (by rw [e];exact True.intro) hs he (zacw hl hd (rel.put k rv) dd')
 ·subst ey eH
  cases (show u=Value.ref b from ry)
  obtain ⟨z,hd,xs,rel,dd⟩:=zapq I.hok e
  have hz:xs.length≤qd:=by rw [← qBe rel];exact z
  have hl:(putK kvs k v).length≤qd:=by have:=zlo kvs k v;omega
  refine wpAny_setItem_heap (hsz:=hz) (qBt hu) (zzg I.hok eb) dd fun h' dd' hs=>h _ ?_
  obtain ⟨q,es,ep,hq,h2,h3,h4,_,h5⟩:=dd'
  refine zsq I (by rw [e];exact True.intro) hs ⟨q,hq⟩ ⟨hl,hd,_,(rel.put k eb rv).keeps fun c ys ec=>?_,q,es,ep,hq,h2,h3,h4,h5⟩
  rw [zbk (zapf ec e (fun z=>nomatch z))]
  exact ec
end
section
variable {X:Cx} {pins:List (Addr×Obj)} {σ:St} {H:Hp} {s:Shared} {a:Addr} {kvs:List (Key×V)} {k:Key} {u:Value} {A:Around} {E:Value→Shared→Prop}
end
noncomputable def NoSl (i:Expr):Prop:=∀ ov iv,subscripted i false ov iv=operate [ov,iv] (getItem ov iv)
theorem zakn {prog:Program} {w:World} {A:Around} {E:Value→Shared→Prop} {s:Shared} {env:Env} {value slice:Expr} {pos:Pos} {T id:String} {Q:Value→Shared→Prop}
  (hl:typeLookup (.type T) "__getitem__" = pure (some (.builtin id))) (hs:NoSl slice)
  (h:wpAny (model prog w) A (eval value env) (fun o s₁=>wpAny (model prog w) A (eval slice env) (fun i s₂=>s₂.TypeIs o T∧wpAny (model prog w) A (getItem o i) Q E s₂) E s₁) E s) :
  wpAny (model prog w) A (eval (.Subscript value slice pos) env) Q E s:=by
 refine Subscript_ (qBQ h (fun o s₁ h₁=>qBQ h₁ (fun i s₂ h₂=>?_) fun _ _ x=>x) fun _ _ x=>x)
 obtain ⟨hT,h₂⟩:=h₂
 unfold subscriptTail
 refine qD ?_
 rw [getitemInPython_of_ne hT.not_modules]
 refine qD (wpAny_specialOf hT hl ?_)
 have fin:wpAny (model prog w) A (subscripted slice false o i) (fun r s₃=>wpAny (model prog w) A (letTemporaryGo value o r >>= fun _=>pure r) Q E s₃) E s₂:=by
  rw [hs o i]
  exact wpAny_operating (qBQ h₂ (fun r s₃ h₃=>qD (wpAny_letTemporaryGo (qc h₃))) fun _ _ x=>x)
 first
  | exact qc (qD fin)
  | exact qD (qc (qD fin))
  | exact qD fin
theorem zxp {X:Cx} {pins:List (Addr×Obj)} {σ:St} {H:Hp} {s:Shared} {a:Addr} {y:V} {o:Option V} (I:Inv X pins σ H s) (g:DGet H a y o):s.TypeIs (.ref a) "dict":=by
 rcases g with ⟨kvs,k,e,_,_⟩|⟨kvs,k,b,e,_,_,_⟩
 ·obtain ⟨_,_,vs,_,dd⟩:=zagh I.hok e
  exact dd.typeIs
 ·obtain ⟨_,_,xs,_,dd⟩:=zagj I.hok e
  exact dd.typeIs
noncomputable def tDGet (td ty:TE):TE:=fun σ H Q=>td σ H fun x H1=>ty σ H1 fun y H2=>∃ a v,x=.ref a∧DGet H2 a y (some v)∧Q v H2
noncomputable def tDIn (ty td:TE):TE:=fun σ H Q=>ty σ H fun y H1=>td σ H1 fun x H2=>∃ a o,x=.ref a∧DGet H2 a y o∧Q (.bl o.isSome) H2
noncomputable def sDPut (td ty tv:TE):TS:=fun D σ H=>tv σ H fun v H1=>td σ H1 fun x H2=>ty σ H2 fun y H3=>∃ a H4,x=.ref a∧DPut H3 a y v H4∧D.nx σ H4
section
variable {X:Cx} {o i e value:Expr} {pos pos' tpos:Pos} {td ty tv:TE}
theorem zako (hu:X.A.units+1<cLine) (ho:PE X o td) (hi:PE X i ty) (hs:NoSl i):PE X (.Subscript o i pos) (tDGet td ty):=by
 intro pins s σ H Q I h
 refine zakn PySem.F.slot_dict_getitem.lookup hs (thn (ho pins s σ H _ I h) fun u s1 ⟨x,H1,I1,rx,q1⟩=>thn (hi pins s1 σ H1 _ I1 q1) fun iv s2 ⟨y,H2,I2,ry,a,v,ex,g,q2⟩=>?_)
 subst ex
 obtain rfl:u=Value.ref a:=rx
 exact ⟨zxp I2 g,zacv hu I2 g ry fun w' s3 I3 rw'=>⟨v,H2,I3,rw',q2⟩⟩
theorem zanp (hu:X.A.units+1<cLine) (hi:PE X i ty) (ho:PE X o td):PC X .In i o (tDIn ty td):=by
 intro pins s σ H Q I h
 refine thn (hi pins s σ H _ I h) fun iv s1 ⟨y,H1,I1,ry,q1⟩=>thn (ho pins s1 σ H1 _ I1 q1) fun u s2 ⟨x,H2,I2,rx,a,ov,ex,g,q2⟩=>?_
 subst ex
 obtain rfl:u=Value.ref a:=rx
 exact d_in hu I2 g ry fun s3 I3=>⟨.bl ov.isSome,H2,I3,rfl,q2⟩
theorem zakp (hu:X.A.units+1<cLine) (ho:PE X o td) (hi:PE X i ty) (hv:PE X value tv) (hs:swapsWith value (some (.Subscript o i pos')) pos.line X.env=pure false) :
  PS X (.Assign [.Subscript o i pos'] value pos) (sDPut td ty tv):=by
 intro pins s σ H D I h
 refine wpAny_Assign_Subscript (thn (hv pins s σ H _ I h) fun r s1 ⟨v,H1,I1,rv,q1⟩=>thn (ho pins s1 σ H1 _ I1 q1) fun u s2 ⟨x,H2,I2,rx,q2⟩=>thn (hi pins s2 σ H2 _ I2 q2) fun iv s3 ⟨y,H3,I3,ry,a,H4,ex,g,q3⟩=>?_) hs
 subst ex
 obtain rfl:u=Value.ref a:=rx
 exact zacx hu I3 g ry rv fun s4 I4=>⟨σ,H4,I4,q3⟩
end
theorem zzh {P:Program} {w:World} {H:Hp} (h:Heap) (hb:sysModules<h.objs.size):zfw P w H (h.push {cls:=.type "dict",data:=.dict #[]}) h.objs.size (.dK []) :=
 ⟨qAP _,beq_eq_false_iff_ne.mpr (qAW (qj hb)),[],.nil,Heap.DictOf.new h⟩
noncomputable def tDNewK:TE:=fun _ H Q=>∀ p,H p=none→Q (.ref p) (upd H p (.dK []))
section
variable {X:Cx} {pos:Pos}
theorem zagk:PE X (.Dict [] [] pos) tDNewK:=fun pins s σ H Q I h =>
 wpAny_Dict_empty ⟨.ref s.heap.objs.size,_,I.laid (a:=s.heap.objs.size) (o:=.dK []) (t':=s.toks) (fun _ _ q=>qC _ q) (qQ _) (zzh s.heap I.big),rfl,h _ (I.hok.fresh (qQ _))⟩
end
noncomputable def zacy:List (TE×TE)→St→Hp→(List (V×V)→Hp→Prop)→Prop
 | [],_,H,Q=>Q [] H
 | (tk,tv)::r,σ,H,Q=>tk σ H fun x H1=>tv σ H1 fun y H2=>zacy r σ H2 fun ps H3=>Q ((x,y)::ps) H3
noncomputable abbrev VV:List (V×V)→List (Value×Value)→Prop:=Paired fun p q=>RelV p.1 q.1∧RelV p.2 q.2
noncomputable def PPs (X:Cx) (pos:Pos) (keys:List (Option Expr)) (values:List Expr) (trs:List (TE×TE)):Prop :=
 ∀ (pins:List (Addr×Obj)) (s:Shared) (σ:St) (H:Hp) (Q:List (V×V)→Hp→Prop),Inv X pins σ H s→zacy trs σ H Q →
  wpAny (model X.prog X.w) X.A (evalPairs (pairTrees keys values X.env pos)) (fun vs s'=>∃ ps H',Inv X pins σ H' s'∧VV ps vs∧Q ps H') X.xe s
theorem zakq {X:Cx} {pos:Pos}:PPs X pos [] [] []:=fun pins s σ H Q I h=>pairTrees_nil_walk ⟨[],H,I,.nil,h⟩
theorem zagl {X:Cx} {pos:Pos} {k v:Expr} {ks:List (Option Expr)} {vs:List Expr} {tk tv:TE} {trs:List (TE×TE)} (hk:PE X k tk) (hv:PE X v tv) (hr:PPs X pos ks vs trs) :
  PPs X pos (some k::ks) (v::vs) ((tk,tv)::trs):=fun pins s σ H Q I h =>
 pairTrees_cons_walk (thn (hk pins s σ H _ I h) fun u s1 ⟨x,H1,I1,rx,q1⟩=>thn (hv pins s1 σ H1 _ I1 q1) fun w2 s2 ⟨y,H2,I2,ry,q2⟩ =>
  thn (hr pins s2 σ H2 _ I2 q2) fun ws s3 ⟨ps,H3,I3,rel,q3⟩=>⟨(x,y)::ps,H3,I3,.cons ⟨rx,ry⟩ rel,q3⟩)
noncomputable def zmc (kvs more:List (Key×V)):List (Key×V):=more.foldl (fun acc kv=>putK acc kv.1 kv.2) kvs
theorem KV.merge:∀ {more:List (Key×V)} {rs:List (Key×Value)} {kvs:List (Key×V)} {vs:List (Key×Value)},KV more rs→KV kvs vs→KV (zmc kvs more) (merged vs rs):=by
 intro more rs kvs vs r
 unfold KV at r
 induction r generalizing kvs vs with
 | nil=>intro q;exact q
 | @cons p q ps qs h t ih =>
  intro r0
  have e:KV (putK kvs p.1 p.2) (stored vs q.1 q.2):=by
   have:=r0.put p.1 h.2
   rw [← h.1];exact this
  exact ih e
theorem zjg:∀ (more kvs:List (Key×V)),(zmc kvs more).length≤kvs.length+more.length
 | [],kvs=>by show kvs.length≤kvs.length+0;omega
 | p::r,kvs=>by
  have h1:=zjg r (putK kvs p.1 p.2)
  have h2:=zlo kvs p.1 p.2
  show (zmc (putK kvs p.1 p.2) r).length≤_
  rw [qa];omega
theorem zrp {P:Program} {w:World}:∀ {kvs:List (Key×V)} {ws:List (Value×Value)},VV (kvs.map fun kv=>(kV kv.1,kv.2)) ws→∃ rs,Carries (zdw P w) ws rs∧KV kvs rs
 | [],_,r=>by rw [qBR] at r;cases r;exact ⟨[],True.intro,.nil⟩
 | p::kvs,_,r=>by
  rw [qe] at r
  cases r with
  | @cons a b as bs h t =>
   obtain ⟨rs,c,q⟩:=zrp (P:=P) (w:=w) t
   obtain ⟨b1,b2⟩:=b
   exact ⟨(p.1,b2)::rs,⟨zacu h.1,rfl,c⟩,.cons ⟨rfl,h.2⟩ q⟩
noncomputable def tDisp (trs:List (TE×TE)):TE:=fun σ H Q=>∀ p,H p=none→zacy trs σ (upd H p (.dK [])) fun ps H2=>H2 p=some (.dK [])∧∃ kvs:List (Key×V),ps=kvs.map (fun kv=>(kV kv.1,kv.2))∧kvs.length≤15∧Q (.ref p) (upd H2 p (.dK (zmc [] kvs)))
theorem zakr {X:Cx} {pos:Pos} {keys:List (Option Expr)} {values:List Expr} {trs:List (TE×TE)} (h:PPs X pos keys values trs) (hall:keys.all (·.isSome)=true) (hl:keys.length=values.length) (h0:keys≠[])
  (h15:keys.length≤15):PE X (.Dict keys values pos) (tDisp trs):=by
 intro pins s σ H Q I q
 have hn:=I.hok.fresh (qQ s.heap.objs.size)
 have I1:=I.laid (a:=s.heap.objs.size) (o:=.dK []) (h':=s.heap.push {cls:=.type "dict",data:=.dict #[]}) (t':=s.toks) (fun _ _ q=>qC _ q) (qQ _) (zzh s.heap I.big)
 refine wpAny_Dict_walk (knd:=zdw X.prog X.w) hall hl h0 h15 (thn (h pins _ σ _ _ I1 (q _ hn)) fun ws s2 ⟨ps,H2,I2,rel,e,kvs,ep,lk,q2⟩=>?_)
 subst ep
 obtain ⟨rs,c,rk⟩:=zrp (P:=X.prog) (w:=X.w) rel
 obtain ⟨z,hd,vs0,r0,dd⟩:=zagi I2.hok e
 cases r0
 refine ⟨rs,c,dd,fun h' dd' hs=>⟨.ref s.heap.objs.size,_,?_,rfl,q2⟩⟩
 have hz:(zmc [] kvs).length≤qd:=by
  have h1:=zjg kvs []
  rw [qBy] at h1
  rw [qCI];omega
 have he:∃ q,h'.get? s.heap.objs.size=some q:=let ⟨q,_,_,hq,_⟩:=dd';⟨q,hq⟩
 exact zsq I2 (by rw [e];exact True.intro) hs he (zacw hz hd (rk.merge .nil) dd')
set_option genInjectivity false in
set_option genInjectivity false in
section
variable {X:Cx} {pins:List (Addr×Obj)} {σ:St} {H:Hp} {s:Shared} {a:Addr} {y d:V} {u r:Value} {o:Option V} {A:Around} {E:Value→Shared→Prop}
end
section
variable {X:Cx} {o e f:Expr} {apos cpos:Pos} {td ty tx:TE}
end
section
variable {X:Cx} {pins:List (Addr×Obj)} {σ:St} {H:Hp} {s:Shared} {a:Addr} {kvs:List (Key×V)} {A:Around} {E:Value→Shared→Prop}
end
section
variable {X:Cx} {pins:List (Addr×Obj)} {σ:St} {H:Hp} {s:Shared} {a:Addr} {y:V} {u:Value} {A:Around} {E:Value→Shared→Prop}
end
end L2
namespace Att
open PySem PySem.W PySem.Calls PyProof.Rows
theorem zpg {P:Params} {h:Heap}:∀ (ns:List Int) (vs:List Value),WellAll P h vs (ns.map WData.int)→IntsAre vs ns:=by
 intro ns
 induction ns with
 | nil =>
  intro vs w
  rw [qBR] at w
  cases w
  exact .nil
 | cons n ns ih =>
  intro vs w
  rw [qe] at w
  cases w with
  | cons a b =>
   cases a
   exact .cons _ _ (ih _ b)
theorem zacz {l:OpenLaw} {n:Nat} (hn:l.most=some n) {P:Params} {h:Heap} {args:List WData} {vals:List Value}
  (hpre:l.row.toRowW.claim.pre args=true) (hwl:WellAll P h vals args) :
  ∃ a vs ns,vals=[Value.ref a]∧args=[WData.list (ns.map WData.int)]∧h.get? a=some {cls:=.type "list",data:=.seq vs.toArray}∧IntsAre vs ns∧ns.length≤n:=by
 have hsh:WShape.hasAll [] args [.list .int]=true:=(pre_splitW hpre).1
 have hc:l.pre.holds [] {args:=args}=true:=(pre_splitW hpre).2
 obtain ⟨d,r,rfl,h1,h2⟩:=hasAllW_cons hsh
 obtain rfl:=hasAllW_nil h2
 obtain ⟨xs,rfl,h3⟩:=hasW_list h1
 obtain ⟨ns,rfl⟩:=items_int h3
 have hlen:ns.length≤n:=by
  unfold OpenLaw.pre at hc
  have h4:(WTm.not (.lt (.lit (.int (n:Int))) (.len (.arg 0)))).holds [] {args:=[.list (ns.map .int)]}=true:=by
   have h4:=(holds_andW hc).1
   rw [hn] at h4
   exact h4
  have h5:=condW_of h4 (w_not (w_lt w_lit (w_len_list (w_arg rfl))))
  rw [qE] at h5
  refine Nat.le_of_not_lt fun q=>?_
  have q':(n:Int)<((ns.length:Nat):Int):=by omega
  first
   | (rw [decide_eq_true q'] at h5;exact absurd h5 (by decide))
   | (simp at h5;omega)
 cases hwl with
 | cons w1 w2 =>
  cases w2
  cases w1 with
  | list ho hall=>exact ⟨_,_,ns,rfl,rfl,ho,zpg ns _ hall,hlen⟩
theorem zada (l:OpenLaw) (args:List WData):l.row.toRowW.claim.post args (.bool true) args=true :=
 postW_of (r:=l.row.toRowW) (X:=(true==true))
  (show WShape.has [] (.bool true) .bool=true by first|rfl|decide|simp [WShape.has,WShape.arms,WShape.armsAll])
  (show (WTm.eq .res (.lit (.bool true))).value [] {args:=args,res:=some (.bool true),after:=args}=some (.bool (true==true)) from w_eq_bool (w_res rfl) w_lit) rfl
theorem attach_call {l:OpenLaw} {n:Nat} {q:Program} {loose:List Str} {XP:(Str→Option Value)→Heap→Prop} {YP:World→Heap→Prop} {d:DefRec}
  (hn:l.most=some n) (hdf:d.params.defaults=[])
  (call:∀ (w:World) (s₀ s₁:Shared) (mg mb:Str→Option Value) (fa:Addr) (o:Obj) (pm cd doc:Value) (a:Addr) (vs:List Value) (ns:List Int),
   Ground q loose [] XP w s₀ mg mb s₁.heap→YP w s₁.heap →
   s₁.heap.get? fa=some o→o.data=.func (docDef d.name d.params d.body d.scope pm cd doc)→s₁.heap.CodeRec cd d.name→mg d.name=some (.ref fa) →
   s₁.heap.get? a=some {cls:=.type "list",data:=.seq vs.toArray}→IntsAre vs ns→ns.length≤n→s₁.gens=#[] →
   codeAny (model l.prog w) callerA (.call (.ref fa) ⟨[.ref a],[]⟩) (fun r s'=>r=.ok (.ret (.bool true))∧OldK s₁.heap s'.heap∧s'.os=s₁.os∧AllBare s'.gens) s₁) :
  WalkO q loose XP YP l.row.toRowW d [] (fun f vs=>PySem.call f vs):=by
 intro w s₀ s₁ mg mb G Y fa o pm cd doc dV kV ho hd hcd hD hmg hg args vals as hpre hlay hrd hwl hlo
 obtain rfl:dV=.none:=Dflts.none hD hdf
 obtain rfl:kV=.none:=Dflts.noKw hD
 obtain ⟨a,vs,ns,rfl,rfl,hobj,hints,hlen⟩:=zacz hn hpre hwl
 refine enter_call (qBh (call w s₀ s₁ mg mb fa o pm cd doc a vs ns G Y ho (fd_plain hd) hcd hmg hobj hints hlen hg) fun r s' hq=>?_)
 obtain ⟨rfl,h2,h3,h4⟩:=hq
 exact ⟨.inl ⟨.bool true,.bool true,[],rfl,fun _=>rfl,.bool true,zada l _,fun _=>⟨List.Pairwise.nil,fun _ hm=>(nomatch hm)⟩⟩,h2,h3,h4⟩
section
variable {prog:Program} {w:World} {A:Around} {E:Value→Shared→Prop} {s:Shared} {K:Frag}
end
end Att
namespace L2
open PySem PySem.Spec PyProof.Rows
theorem zvc:∀ {vs:List Value} {ns:List Int},IntsAre vs ns→Vals (ns.map V.int) vs
 | _,_,.nil=>.nil
 | _,_,.cons n t h=>.cons ⟨t,rfl⟩ (zvc h)
noncomputable def Only (H:Hp):Prop:=∀ b,H b=none∨∃ o xs,H b=some (.frz o (.lst xs))
theorem zagm {P:Program} {w:World} {K:qB} {mg mb:Str→Option Value} {CX:CXT} {k:Nat} {fa a:Addr} {fd:qAC} {x:Str} {sp:Sp} {s₁:Shared} {vs:List Value} {ns:List Int}
  (KX:K.In s₁.heap) (hns:s₁.heap.Ns qO mg) (hb:s₁.heap.Ns builtinsNs mb) (hbb:∀ x:Str,x ≠ "__name__" → mb x=bootBuiltins x) (hlim:s₁.heap.NoLimit) (hg:s₁.gens=#[])
  (ha:s₁.heap.get? a=some {cls:=.type "list",data:=.seq vs.toArray}) (hi:IntsAre vs ns) (hl:ns.length≤qd) (hr:Room k callerA)
  (F:∀ base:Heap,K.In base→base.Ns qO mg→FnOk P w K mg base CX k fa fd [x] sp) (hbind:∀ (s:Shared) (u:Value),BindsTo s fd ⟨[u],[]⟩ [(x,u)])
  (hsp:∀ H:Hp,Only H→SqL K H a (ns.map V.int)→sp [.ref a] H (fun v _=>v=.bl true) fun _ _ _=>False)
  (hCX:∀ H e s',CX [] H s₁ (fun _ _ _=>False) e s'→False) :
  codeAny (model P w) callerA (.call (.ref fa) ⟨[.ref a],[]⟩) (fun r s'=>r=.ok (.ret (.bool true))∧OldK s₁.heap s'.heap∧s'.os=s₁.os∧AllBare s'.gens) s₁:=by
 have rv:=zvc hi
 have lenV:=hi.length
 have core:∀ H:Hp,Only H→SqL K H a (ns.map V.int)→HOk P w H s₁.heap→(∀ b,H b≠none→b=a)→(H a≠none→K.lookup a=none) →
   codeAny (model P w) callerA (.call (.ref fa) ⟨[.ref a],[]⟩) (fun r s'=>r=.ok (.ret (.bool true))∧OldK s₁.heap s'.heap∧s'.os=s₁.os∧AllBare s'.gens) s₁:=by
  intro H hO hS hok hA hK
  have base_of:∀ {b:Addr} {o:Obj},s₁.heap.get? b=some o→H b=none→(hidT s₁.heap H).get? b=some o:=fun e n=>zafv e n
  have noA:∀ {b:Addr} {o:Obj} {es:Array DictEntry} {ep:Nat},s₁.heap.get? b=some o→o.data=.dict es ep→H b=none:=fun {b o es ep} e d=>by
   cases q:H b with
   | none=>rfl
   | some u =>
    have e':b=a:=hA b (by rw [q];simp)
    subst e'
    rw [ha] at e;cases e
    have d':Data.seq vs.toArray _=Data.dict es ep:=d
    cases d'
  have nsK:∀ {b:Addr} {m:Str→Option Value},s₁.heap.Ns b m→(hidT s₁.heap H).Ns b m:=fun {b m} ⟨o,es,ep,e,d,r⟩=>⟨o,es,ep,base_of e (noA e d),d,r⟩
  have hKb:K.In (hidT s₁.heap H):=fun b o e=>base_of (KX b o e) (by
   cases q:H b with
   | none=>rfl
   | some u =>
    have e':b=a:=hA b (by rw [q];simp)
    subst e'
    rw [hK (by rw [q];simp)] at e;cases e)
  have hM:Mod K mg (hidT s₁.heap H):=⟨hKb,nsK hns,⟨mb,nsK hb,hbb⟩,let ⟨mc,h1,h2⟩:=hlim;⟨mc,nsK h1,h2⟩⟩
  have e0:Env0 P w K mg (hidT s₁.heap H) callerA [] s₁ H:=⟨rfl,hM,fun b o e=>zajq e,Nat.le_of_eq (zacd _ _),trivial,fun b hb=>absurd (show b∈([]:List Addr) from hb) (by simp),hok,.of_eq hg⟩
  refine qBh ((F _ hKb (nsK hns)).run callerA [] s₁ H ⟨[.ref a],[]⟩ [.ref a] [.ref a] _ _ hr e0 (hbind s₁ (.ref a)) (.cons rfl .nil) (hsp H hO hS)) fun r s' h=>?_
  cases r with
  | error e=>exact (hCX H e s' h).elim
  | ok fl =>
   cases fl with
   | next=>exact False.elim h
   | brk=>exact False.elim h
   | cont=>exact False.elim h
   | ret u =>
    obtain ⟨v,H',os,bare,un,hok',r',q⟩:=h
    have q':v=.bl true:=q
    subst q'
    obtain rfl:u=Value.bool true:=r'
    refine ⟨rfl,OldK.of_keep fun b o e=>?_,os,bare⟩
    cases q:H b with
    | none=>exact un.keep b o e q (by intro z;exact absurd (show b∈([]:List Addr) from z) (by simp)) (by simp)
    | some u =>
     rcases hO b with z|⟨ob,xs,z⟩
     ·rw [q] at z;cases z
     ·have z2:=un.frzs b ob _ z
      obtain ⟨e1,_⟩:=hok b _ z
      obtain ⟨e2,_⟩:=hok' b _ z2
      rw [e] at e1;cases e1
      exact e2
 cases hk:K.lookup a with
 | some o =>
  have e:=KX a o hk
  rw [ha] at e
  cases e
  refine core (fun _=>none) (fun _=>.inl rfl) (.inr ⟨_,vs.toArray,_,hk,rfl,rfl,rfl,by rw [qP,lenV];exact hl,by simpa using rv⟩) (fun b u z=>by have z':(none:Option HO)=some u:=z;cases z') (fun b z=>absurd rfl z) fun z=>absurd rfl z
 | none =>
  refine core (fun b=>if b=a then some (.frz {cls:=.type "list",data:=.seq vs.toArray} (.lst (ns.map V.int))) else none) (fun b=>?_) (.inl (.inr ⟨{cls:=.type "list",data:=.seq vs.toArray},if_pos rfl⟩)) (fun b u z=>?_) (fun b z=>?_) fun _=>hk
  ·by_cases hb:b=a
   ·exact .inr ⟨_,_,if_pos hb⟩
   ·exact .inl (if_neg hb)
  ·by_cases hb:b=a
   ·have z':=(if_pos hb).symm.trans z
    cases z'
    subst hb
    exact ⟨ha,by rw [qE];exact hl,vs,_,rv,ha⟩
   ·have z':=(if_neg hb).symm.trans z
    cases z'
  ·by_cases hb:b=a
   ·exact hb
   ·exact absurd (if_neg hb) z
theorem walk_of {l:PySem.W.OpenLaw} {n k:Nat} {q:Program} {loose:List Str} {XP:(Str→Option Value)→Heap→Prop} {YP:World→Heap→Prop} {d:DefRec} {K:Params→qB} {CX:World→CXT} {sp:World→Sp} {x:Str}
  (hn:l.most=some n) (hn2:n≤qd) (hdf:d.params.defaults=[]) (hr:Room k callerA)
  (hY:∀ (w:World) (h:Heap),YP w h→(K w.params).In h)
  (F:∀ (w:World) (mg:Str→Option Value) (fa:Addr) (h:Heap),(K w.params).In h→h.Ns qO mg→mg d.name=some (.ref fa) →
   ∃ fd:qAC,(∀ (s:Shared) (u:Value),BindsTo s fd ⟨[u],[]⟩ [(x,u)]) ∧
    ∀ base:Heap,(K w.params).In base→base.Ns qO mg→FnOk l.prog w (K w.params) mg base (CX w) k fa fd [x] (sp w))
  (hsp:∀ (w:World) (H:Hp) (a:Addr) (ns:List Int),ns.length≤n→Only H→SqL (K w.params) H a (ns.map V.int)→sp w [.ref a] H (fun v _=>v=.bl true) fun _ _ _=>False)
  (hCX:∀ (w:World) (H:Hp) (s:Shared) (e:Value) (s':Shared),CX w [] H s (fun _ _ _=>False) e s'→False) :
  PySem.W.WalkO q loose XP YP l.row.toRowW d [] (fun f vs=>PySem.call f vs):=by
 refine Att.attach_call hn hdf fun w s₀ s₁ mg mb fa o pm cd doc a vs ns G Y ho hd hcd hmg hobj hints hlen hg=>?_
 have KX:=hY w _ Y
 obtain ⟨fd,hb,hF⟩:=F w mg fa _ KX G.T.g hmg
 exact zagm KX G.T.g G.T.b G.T.builtins G.T.nolimit hg hobj hints (qAQ hlen hn2) hr hF hb (fun H hO hS=>hsp w H a ns hlen hO hS) fun H e s'=>hCX w H s₁ e s'
end L2
namespace L2
open PySem PySem.Spec PyProof.Rows
noncomputable def zbv (s:Stmt):Arguments:=match s with
 | .FunctionDef _ a _ _ _ _ _ _ _ _=>a
 | _=>{posonlyargs:=[],args:=[],vararg:=none,kwonlyargs:=[],kw_defaults:=[],kwarg:=none,defaults:=[]}
noncomputable def zbt (s:Stmt):List Stmt:=match s with
 | .FunctionDef _ _ b _ _ _ _ _ _ _=>b
 | _=>[]
noncomputable def zaq (s:Stmt):Scope:=match s with
 | .FunctionDef _ _ _ _ _ _ sc _ _ _=>sc
 | _=>{kind:=.function,names:=[],isGenerator:=false,isCoroutine:=false}
noncomputable abbrev CX0:CXT:=fun _ _ _ _ _ _=>False
noncomputable abbrev E0:XK:=fun _ _ _=>False
theorem zapr {X:Cx}:zaco CX0 X E0:=fun _ _ _ _ _ _ _ h=>h.elim
set_option genInjectivity false in
structure Fun (K:qB) (x qual:Str) (st:Stmt) (f:Addr) (fd:qAC):Prop where
 ex:∃ (oc:Value) (od:Option Addr) (kV doc pm:Value) (an:Option Addr) (cdv ct:Value) (osl:Array (Option Value)),
  fd=qf x qual (zbv st) (zbt st) (zaq st) .none kV doc pm an cdv ct∧K.lookup f=some ⟨oc,od,.func fd,osl⟩∧qZ K cdv qual=true
 kp:qV K (.ref f)=true
section
variable {P:Program} {w:World} {K:qB} {mg:Str→Option Value} {base:Heap}
theorem Fun.ok {x qual:Str} {st:Stmt} {f:Addr} {fd:qAC} {N ps:List Str} {k:Nat} {sp:Sp} (F:Fun K x qual st f fd) (S:FnScope N ps (zaq st)) (len:∀ vs H Q E,sp vs H Q E→vs.length=ps.length)
  (hbody:∀ (cdv:Value) (A:Around) (outer:List Env) (s:Shared) (H:Hp) (vs:List V) (Q:VK) (E:XK),Room k (A.deeper (envOfC qual (zaq st) s.heap.objs.size f cdv))→sp vs H Q E →
   ∃ t,PSs (cxOf CX0 P w K mg base N qual (zaq st) f cdv A outer s H E).nox (zbt st) t∧t {nx:=fun _ H'=>Q .non H',rt:=Q} (zhv N vs) H):FnOk P w K mg base CX0 (k+1) f fd ps sp:=by
 obtain ⟨oc,od,kV,doc,pm,an,cdv,ct,osl,rfl,lk,hcd⟩:=F.ex
 refine zapn lk hcd S len fun A outer s H vs Q E hr hsp=>?_
 obtain ⟨t,h,q⟩:=hbody cdv A outer s H vs Q E hr hsp
 exact ⟨t,h.nox,q⟩
theorem Fun.binds {x qual:Str} {st:Stmt} {f:Addr} {fd:qAC} {ps:List Str} (F:Fun K x qual st f fd)
  (h:∀ (kV doc pm:Value) (an:Option Addr) (cdv ct:Value) (us:List Value),us.length=ps.length→bindArgs (qf x qual (zbv st) (zbt st) (zaq st) .none kV doc pm an cdv ct) ⟨us,[]⟩=pure (ps.zip us)):zaar K fd ps []:=by
 obtain ⟨oc,od,kV,doc,pm,an,cdv,ct,osl,rfl,lk,hcd⟩:=F.ex
 exact .all (h kV doc pm an cdv ct)
theorem zdb {x qual:Str} {st:Stmt} {f:Addr} {oc:Value} {od an:Option Addr} {osl:Array (Option Value)} {kV doc pm cdv ct:Value} (l:K.lookup f=some ⟨oc,od,.func (qf x qual (zbv st) (zbt st) (zaq st) .none kV doc pm an cdv ct),osl⟩)
  (c:qZ K cdv qual=true) (k:qV K (.ref f)=true):Fun K x qual st f (qf x qual (zbv st) (zbt st) (zaq st) .none kV doc pm an cdv ct):=⟨⟨oc,od,kV,doc,pm,an,cdv,ct,osl,rfl,l,c⟩,k⟩
end
theorem zfv {A:Around} {k:Nat} (hr:Room k A):A.units+1<cLine:=qBl (Nat.add_le_add_left (by decide:1≤64) _) hr.units
section
variable {X:Cx}
end
theorem iteF {A B:Prop} (h:B):if false=true then A else B:=by
 rw [if_neg qK]
 exact h
theorem iteT {A B:Prop} (h:A):if true=true then A else B:=by
 rw [if_pos rfl]
 exact h
noncomputable def Same (H H':Hp):Prop:=∀ b o,H b=some o→H' b=some o
theorem Same.refl (H:Hp):Same H H:=fun _ _ h=>h
theorem Same.trans {H H1 H2:Hp} (a:Same H H1) (b:Same H1 H2):Same H H2:=fun c o h=>b c o (a c o h)
theorem Same.free {H H':Hp} (e:Same H H') {l:Addr} (h:H' l=Option.none):H l=Option.none:=by
 cases q:H l with
 | none=>rfl
 | some o =>
  rw [e l o q] at h
  cases h
theorem Same.seq {K:qB} {H H':Hp} {a:Addr} {xs:List V} (e:Same H H') (h:SqL K H a xs):SqL K H' a xs:=by
 rcases h with (h|⟨o,h⟩)|h
 ·exact .inl (.inl (e _ _ h))
 ·exact .inl (.inr ⟨o,e _ _ h⟩)
 ·exact .inr h
section
variable {κ:Type} [DecidableEq κ]
theorem zxq:∀ {l:List κ} {k:κ},l.Nodup→¬ k∈l→(l++[k]).Nodup
 | [],k,_,_=>by simp
 | a::r,k,h,hk=>by
  obtain ⟨h1,h2⟩:=qAI.mp h
  show (a::(r++[k])).Nodup
  refine qAI.mpr ⟨fun m=>?_,zxq h2 fun m=>hk (qN.mpr (Or.inr m))⟩
  rcases qAB.mp m with q|q
  ·exact h1 q
  ·exact hk (qN.mpr (Or.inl (qu.mp q).symm))
end
end L2
set_option maxHeartbeats 4000000
namespace L2
open PySem PySem.Spec PyProof.Rows
noncomputable def clos (cells:List (Str×Addr)):List (Str×NameKind)→List (Str×Addr)→List (Str×Addr)
 | [],acc=>acc
 | (n,k)::r,acc=>if k==.free then clos cells r ((n,(cells.lookup n).getD 0)::acc) else clos cells r acc
theorem zsr {cells:List (Str×Addr)}:∀ {names:List (Str×NameKind)} {acc:List (Str×Addr)},(∀ y∈names,y.2=.free→∃ c,cells.lookup y.1=some c)→∀ p∈clos cells names acc,p∈acc∨((p.1,NameKind.free)∈names∧cells.lookup p.1=some p.2)
 | [],acc,_,p,hp=>.inl hp
 | (n,k)::r,acc,h,p,hp=>by
  unfold clos at hp
  have hr:∀ y∈r,y.2=.free→∃ c,cells.lookup y.1=some c:=fun y hy=>h y (qI _ hy)
  split at hp
  ·rename_i hk
   rcases zsr hr p hp with q|q
   ·rcases qN.mp q with q|q
    ·subst q
     have hk':k=.free:=by simpa using hk
     subst hk'
     obtain ⟨c,hc⟩:=h (n,.free) qg rfl
     exact .inr ⟨qg,by show cells.lookup n=some ((cells.lookup n).getD 0);rw [hc];rfl⟩
    ·exact .inl q
   ·exact .inr ⟨qI _ q.1,q.2⟩
  ·rcases zsr hr p hp with q|q
   ·exact .inl q
   ·exact .inr ⟨qI _ q.1,q.2⟩
theorem zss {cells:List (Str×Addr)}:∀ {names:List (Str×NameKind)} {acc:List (Str×Addr)},∀ p∈acc,p∈clos cells names acc
 | [],acc,p,hp=>hp
 | (n,k)::r,acc,p,hp=>by
  unfold clos
  split
  ·exact zss p (qI _ hp)
  ·exact zss p hp
theorem zst {cells:List (Str×Addr)} {x:Str}:∀ {names:List (Str×NameKind)} {acc:List (Str×Addr)},(x,NameKind.free)∈names→∃ c,(x,c)∈clos cells names acc
 | [],_,h=>by simp at h
 | (n,k)::r,acc,h=>by
  unfold clos
  rcases qN.mp h with e|h
  ·cases e
   rw [if_pos (show (NameKind.free==NameKind.free)=true by decide)]
   exact ⟨_,zss _ qg⟩
  ·split
   ·exact zst h
   ·exact zst h
theorem zmd {α:Type} {x:Str} {c:α}:∀ {l:List (Str×α)},(x,c)∈l→∃ c',l.lookup x=some c'
 | [],h=>by simp at h
 | (k,v)::r,h=>by
  rw [qz]
  cases hb:x==k with
  | true=>exact ⟨v,rfl⟩
  | false =>
   rcases qN.mp h with e|h
   ·cases e;simp at hb
   ·exact zmd h
theorem zsu {scope:Scope} {env:Env} (h:∀ y∈scope.names,y.2=.free→∃ c,env.cells.lookup y.1=some c):closureFor scope env=pure (clos env.cells scope.names []):=by
 unfold closureFor
 have key:∀ (names:List (Str×NameKind)) (acc:List (Str×Addr)),(∀ y∈names,y.2=.free→∃ c,env.cells.lookup y.1=some c) →
   (forIn names acc (fun (x:Str×NameKind) (r:List (Str×Addr))=>(if (x.2==.free)=true then (do let a ← cellOf env x.1;pure (ForInStep.yield ((x.1,a)::r))) else pure (ForInStep.yield r):Sem (ForInStep (List (Str×Addr))))))=pure (clos env.cells names acc):=by
  intro names
  induction names with
  | nil=>intro acc _;rfl
  | cons y r ih =>
   intro acc hy
   obtain ⟨n,k⟩:=y
   have hr:=fun y (hm:y∈r)=>hy y (qI _ hm)
   rw [qBU]
   unfold clos
   cases hk:(k==NameKind.free) with
   | true =>
    have hk':k=.free:=by simpa using hk
    subst hk'
    obtain ⟨c,hc⟩:=hy (n,.free) qg rfl
    have e1:cellOf env n=pure c:=by unfold cellOf;rw [hc]
    simp only [if_true]
    have hc':env.cells.lookup n=some c:=hc
    rw [e1,hc']
    simp only [pure_bind,Option.getD_some]
    exact ih _ hr
   | false =>
    simp only [qBj,if_false,pure_bind]
    exact ih _ hr
 simpa using key scope.names [] h
theorem zhi:∀ (names:List (Str×NameKind)) (n:Nat) (acc:List (Str×Addr)),cellsFrom n names acc=cellsFrom n names []++acc
 | [],_,_=>rfl
 | (name,kind)::r,n,acc=>by
  unfold cellsFrom
  split
  ·rw [zhi r (n+1) ((name,n)::acc),zhi r (n+1) [(name,n)],qBJ];rfl
  ·exact zhi r n acc
theorem zhj {x:Str} {c:Addr}:∀ (names:List (Str×NameKind)) (n:Nat) (acc:List (Str×Addr)),(x,c)∈cellsFrom n names acc→(x,c)∈acc∨(x,NameKind.cell)∈names
 | [],_,_,h=>.inl h
 | (name,kind)::r,n,acc,h=>by
  unfold cellsFrom at h
  split at h
  ·rename_i hk
   have hk':kind=.cell:=by simpa using hk
   subst hk'
   rcases zhj r _ _ h with q|q
   ·rcases qN.mp q with q|q
    ·cases q;exact .inr qg
    ·exact .inl q
   ·exact .inr (qI _ q)
  ·rcases zhj r _ _ h with q|q
   ·exact .inl q
   ·exact .inr (qI _ q)
theorem zkw {α:Type} {x:Str}:∀ {l r:List (Str×α)},(l++r).lookup x=(l.lookup x).or (r.lookup x)
 | [],_=>by simp
 | (k,v)::l,r=>by
  rw [List.cons_append,qz,qz]
  cases x==k with
  | true=>rfl
  | false=>exact zkw
theorem zgn {env:Env} {x:Str} {k':NameKind}:∀ {names:List (Str×NameKind)},
  (names.map fun (n,k)=>if (k==NameKind.free&&env.scope.kind==.function&&env.kindOf n==some .cell) then (n,NameKind.cell) else (n,k)).lookup x=some k' →
  ∃ k,names.lookup x=some k∧(k'=k∨(k=.free∧k'=.cell))
 | [],h=>by simp at h
 | (n,k)::r,h=>by
  rw [qe] at h
  by_cases hc:(k==NameKind.free&&env.scope.kind==.function&&env.kindOf n==some .cell)=true
  ·simp only [hc,if_true] at h
   rw [qz] at h ⊢
   cases hx:x==n with
   | true =>
    rw [hx] at h
    have hk:k=.free:=by simp at hc;exact hc.1.1
    exact ⟨k,rfl,.inr ⟨hk,(qT h).symm⟩⟩
   | false=>rw [hx] at h;exact zgn h
  ·simp only [hc,qBj,if_false] at h
   rw [qz] at h ⊢
   cases hx:x==n with
   | true=>rw [hx] at h;exact ⟨k,rfl,.inl (qT h).symm⟩
   | false=>rw [hx] at h;exact zgn h
theorem zjy {env:Env} {x:Str}:∀ {names:List (Str×NameKind)},names.lookup x=some .free →
  ((names.map fun (n,k)=>if (k==NameKind.free&&env.scope.kind==.function&&env.kindOf n==some .cell) then (n,NameKind.cell) else (n,k)).lookup x=some .free ∨
   (names.map fun (n,k)=>if (k==NameKind.free&&env.scope.kind==.function&&env.kindOf n==some .cell) then (n,NameKind.cell) else (n,k)).lookup x=some .cell)
 | [],h=>by simp at h
 | (n,k)::r,h=>by
  rw [qe]
  rw [qz] at h
  by_cases hc:(k==NameKind.free&&env.scope.kind==.function&&env.kindOf n==some .cell)=true
  ·simp only [hc,if_true]
   rw [qz]
   cases hx:x==n with
   | true=>exact .inr rfl
   | false=>rw [hx] at h;exact zjy h
  ·simp only [hc,qBj,if_false]
   rw [qz]
   cases hx:x==n with
   | true=>rw [hx] at h;exact .inl h
   | false=>rw [hx] at h;exact zjy h
theorem zaat {M:Model} {A:Around} {E:Value→Shared→Prop} {s:Shared} {scope:Scope} {globals:Addr} {cl:List (Str×Addr)} {qual:Str} {env:Env} {Q:Env→Shared→Prop}
  (hQ:∀ h',(∀ b o,s.heap.get? b=some o→h'.get? b=some o)→h'.Ns s.heap.objs.size (fun _=>none)→(∀ n c,(n,c)∈cellsFrom (s.heap.objs.size+1) scope.names []→h'.IsCell c none∧s.heap.objs.size+1≤c) →
   ((cellsFrom (s.heap.objs.size+1) scope.names []).Pairwise fun x y=>x.2≠y.2) →
   Q {scope:=scope,locals:=s.heap.objs.size,globals:=globals,cells:=cellsFrom (s.heap.objs.size+1) scope.names []++cl,qual:=qual,func:=none,code:=env.code,frame:=env.frame,builtins:=env.builtins} {s with heap:=h'}) :
  wpAny M A (newFunctionEnv scope globals cl [] qual none .none (some env)) Q E s:=by
 simp only [newFunctionEnv,qCO,if_true]
 refine qD (wpAny_alloc ?_)
 refine qD (wpAny_layCells _ (fun name kind cells=>by cases hkc:kind==NameKind.cell<;>simp [hkc]) _ _ _ _ ?_)
 have ok:=cellsFrom_ok scope.names (s.heap.push {cls:=.type "dict",data:=.dict #[]}) (s.heap.objs.size+1) [] ⟨fun _ _ hm=>(nomatch hm),List.Pairwise.nil⟩ (by rw [qAL];exact qQ _)
 rw [qAL] at ok
 rw [show ({s with heap:=s.heap.push {cls:=.type "dict",data:=.dict #[]}}:Shared).heap.objs.size=s.heap.objs.size+1 from qAL ..]
 rw [zhi]
 refine qD ?_
 refine qc (qc ?_)
 exact hQ _ (fun b o e=>pushCells_keeps _ _ b o (qC _ e)) ((Heap.Ns.new s.heap (.type "dict")).keeps (pushCells_keeps _ _)) ok.empty ok.apart
noncomputable def cxComp (X:Cx) (scope:Scope) (N' own:List Str) (cl:List (Str×Addr)) (C:Addr) (s:Shared) (H:Hp) (fp:List Addr):Cx :=
 {X with N:=N',s₀:=s,H₀:=H,env:=compEnvC scope cl C X.env,outer:=X.stack,stack:=X.stack,ex:=fp,fn:=fun x=>own.contains x,pn:=[],xe:=fun _ _=>False}
structure CompOk (X:Cx) (scope:Scope) (N' own:List Str) (fr:List Nat):Prop where
 kind:scope.kind=.function
 names:∀ y∈scope.names,scope.names.lookup y.1=some y.2
 up:∀ y∈scope.names,y.2=.free→(X.env.kindOf y.1=some .cell∨X.env.kindOf y.1=some .free)
 nm:N'=own++fr.map (fun j=>X.N.getD j Str.empty)
 fr:∀ j∈fr,j<X.N.length∧scope.names.lookup (X.N.getD j Str.empty)=some .free
 own:∀ x∈own,scope.names.lookup x=some .local∨scope.names.lookup x=some .cell
noncomputable def tau (own:List Str) (fr:List Nat) (σ:St):St:=own.map (fun _=>none)++fr.map (fun j=>σ.getD j none)
section
variable {X:Cx} {pins:List (Addr×Obj)} {σ:St} {H:Hp} {s:Shared} {scope:Scope} {N' own:List Str} {fr:List Nat}
theorem zrq (c:CompOk X scope N' own fr) (ok:X.Ok):∀ y∈scope.names,y.2=.free→∃ a,X.env.cells.lookup y.1=some a:=fun y hy e=>ok.has y.1 (c.up y hy e)
theorem zagn {fp:List Addr} {h':Heap} (c:CompOk X scope N' own fr) (I:Inv X pins σ H s)
  (hf:∀ b∈fp,FpOk X pins H b) (ho:∀ b∈fp,∃ o,s.heap.get? b=some o∧∀ v,o.data≠.cell v)
  (keep:∀ b o,s.heap.get? b=some o→h'.get? b=some o) (ns:h'.Ns s.heap.objs.size (fun _=>none))
  (cells:∀ n c,(n,c)∈cellsFrom (s.heap.objs.size+1) scope.names []→h'.IsCell c none∧s.heap.objs.size+1≤c)
  (apart:(cellsFrom (s.heap.objs.size+1) scope.names []).Pairwise fun x y=>x.2≠y.2) :
  Inv (cxComp X scope N' own (cellsFrom (s.heap.objs.size+1) scope.names []++clos X.env.cells scope.names []) s.heap.objs.size s H fp) [] (tau own fr σ) H {s with heap:=h'}:=by
 have found:=zrq c I.ok
 have clm:∀ x a,(x,a)∈clos X.env.cells scope.names []→(x,NameKind.free)∈scope.names∧X.env.cells.lookup x=some a:=fun x a hm=>by
  rcases zsr found (x,a) hm with q|q
  ·simp at q
  ·exact q
 have look:∀ x a,(cellsFrom (s.heap.objs.size+1) scope.names []++clos X.env.cells scope.names []).lookup x=some a →
   ((x,a)∈cellsFrom (s.heap.objs.size+1) scope.names []∧(x,NameKind.cell)∈scope.names)∨((x,NameKind.free)∈scope.names∧X.env.cells.lookup x=some a):=fun x a e=>by
  rw [zkw] at e
  cases q:(cellsFrom (s.heap.objs.size+1) scope.names []).lookup x with
  | some b =>
   rw [q] at e
   cases e
   have hm:=qAF q
   rcases zhj _ _ _ hm with z|z
   ·simp at z
   ·exact .inl ⟨hm,z⟩
  | none =>
   rw [q] at e
   exact .inr (clm x a (qAF e))
 have lookF:∀ x a,(x,NameKind.free)∈scope.names→X.env.cells.lookup x=some a→(cellsFrom (s.heap.objs.size+1) scope.names []++clos X.env.cells scope.names []).lookup x=some a:=fun x a hx e=>by
  rw [zkw]
  have q:(cellsFrom (s.heap.objs.size+1) scope.names []).lookup x=none:=by
   cases q:(cellsFrom (s.heap.objs.size+1) scope.names []).lookup x with
   | none=>rfl
   | some b =>
    rcases zhj _ _ _ (qAF q) with z|z
    ·simp at z
    ·have h1:=c.names _ hx
     have h2:=c.names _ z
     rw [h1] at h2
     cases h2
  rw [q]
  obtain ⟨d,hd⟩:=zst (cells:=X.env.cells) (acc:=[]) hx
  obtain ⟨d',hd'⟩:=zmd hd
  have:=(clm x d' (qAF hd')).2
  rw [e] at this
  cases this
  exact hd'
 have below:∀ b o,s.heap.get? b=some o→b<s.heap.objs.size:=fun b o e=>qL e
 have cold:∀ x a,X.env.cells.lookup x=some a→a<s.heap.objs.size:=fun x a e=>let ⟨v,q⟩:=I.cell x a e;q.lt
 refine ⟨⟨I.ok.mod,c.kind,I.ok.glob,I.ok.blt,qQ _,?inj,?has,?cab,I.ok.hd,I.ok.frames,.inl rfl,?exf,I.bs,qAQ I.ok.bsz I.sz,?noex,?exfs,I.stack,I.stkFree⟩,
  rfl,I.bare,Un.kept keep,⟨_,ns,?loc⟩,?cell,I.hok.fresh (qQ _),?freeC,?pin,I.hok.kept keep,?len⟩
 case inj =>
  intro x y a h1 h2
  rcases look x a h1 with ⟨m1,k1⟩|⟨k1,e1⟩<;>rcases look y a h2 with ⟨m2,k2⟩|⟨k2,e2⟩
  ·exact name_of_addr apart m1 m2
  ·exact absurd (qk (cold y a e2) (qBn (cells x a m1).2)) (qAp _)
  ·exact absurd (qk (cold x a e1) (qBn (cells y a m2).2)) (qAp _)
  ·exact I.ok.inj x y a e1 e2
 case has =>
  intro x hx
  have hx':(∃ k,scope.names.lookup x=some k∧(k=.cell∨k=.free)):=by
   rcases hx with hx|hx
   ·obtain ⟨k,e,q⟩:=zgn (env:=X.env) (names:=scope.names) hx
    rcases q with q|⟨q,_⟩
    ·exact ⟨k,e,.inl q.symm⟩
    ·exact ⟨k,e,.inr q⟩
   ·obtain ⟨k,e,q⟩:=zgn (env:=X.env) (names:=scope.names) hx
    rcases q with q|⟨q,_⟩
    ·exact ⟨k,e,.inr q.symm⟩
    ·exact ⟨k,e,.inr q⟩
  obtain ⟨k,e,q⟩:=hx'
  show ∃ a,(cellsFrom (s.heap.objs.size+1) scope.names []++clos X.env.cells scope.names []).lookup x=some a
  rcases q with rfl|rfl
  ·obtain ⟨a,ha⟩:=zsm (n:=s.heap.objs.size+1) e
   exact ⟨a,by rw [zkw,ha];rfl⟩
  ·obtain ⟨a,ha⟩:=found _ (qAF e) rfl
   exact ⟨a,lookF x a (qAF e) ha⟩
 case cab =>
  intro x a hx e
  have hx:own.contains x=true:=hx
  have hx':x∈own:=by simpa using hx
  rcases look x a e with ⟨m1,_⟩|⟨k1,_⟩
  ·have:=(cells x a m1).2
   show s.heap.objs.size≤a
   omega
  ·have h1:=c.names _ k1
   rcases c.own x hx' with h2|h2
   ·rw [h1] at h2;cases h2
   ·rw [h1] at h2;cases h2
 case exf =>
  intro b hb
  obtain ⟨o,e,d⟩:=ho b hb
  refine ⟨qj (below b o e),fun x a q z=>?_⟩
  subst z
  rcases look x a q with ⟨m1,_⟩|⟨k1,e1⟩
  ·exact absurd (qk (below a o e) (qBn (cells x a m1).2)) (qAp _)
  ·obtain ⟨v,o',e',d'⟩:=I.cell x a e1
   rw [e] at e'
   cases e'
   exact d v d'
 case noex =>
  intro b o e hb
  rcases (hf b hb).2.2.2.1 with z|z
  ·exact I.ok.noex b o e z
  ·exact absurd (qk (qk (qL e) I.ok.bsz) z) (qAp _)
 case exfs =>
  intro b hb z
  rcases qN.mp (I.stkSub b z) with q|q
  ·exact (hf b hb).2.1 q
  ·exact (hf b hb).2.2.1 q
 case loc =>
  intro i x v h1 h2 h3
  have h1:N'[i]?=some x:=h1
  rw [c.nm] at h1
  unfold tau at h2
  by_cases hi:i<own.length
  ·rw [qm (by simpa using hi),qY] at h2
   cases q:own[i]? with
   | none=>rw [q] at h2;cases h2
   | some z=>rw [q] at h2;cases h2
  ·rw [qq (by simpa using hi),qY,qE] at h2
   rw [qq (by simpa using hi),qY] at h1
   cases q:fr[i - own.length]? with
   | none=>rw [q] at h2;cases h2
   | some j =>
    rw [q] at h1 h2
    have e1:X.N.getD j Str.empty=x:=qT h1
    have e2:σ.getD j none=some v:=qT h2
    obtain ⟨hj,hfree⟩:=c.fr j (qA8 q)
    rw [e1] at hfree
    have hNj:X.N[j]?=some x:=by
     rw [← e1,qb,qF hj];rfl
    have hσj:σ[j]?=some (some v):=by
     rw [qb] at e2
     cases z:σ[j]? with
     | none=>rw [z] at e2;cases e2
     | some w=>rw [z] at e2;rw [show w=some v from e2]
    have hmem:(x,NameKind.free)∈scope.names:=qAF hfree
    have hup:=c.up _ hmem rfl
    obtain ⟨m,hn,hl⟩:=I.loc
    obtain ⟨u,ru,lk⟩:=hl j x v hNj hσj (by rcases hup with z|z;exact .inr (.inl z);exact .inr (.inr z))
    refine ⟨u,ru,.inr ⟨?_,?_⟩⟩
    ·rcases zjy (env:=X.env) (names:=scope.names) hfree with z|z
     ·exact .inr z
     ·exact .inl z
    ·rcases lk with ⟨k1,_⟩|⟨_,a,ha,hc⟩
     ·rcases hup with z|z
      ·rw [show X.env.kindOf x=some .cell from z] at k1;cases k1
      ·rw [show X.env.kindOf x=some .free from z] at k1;cases k1
     ·exact ⟨a,lookF x a hmem ha,hc.keeps keep⟩
 case cell =>
  intro x a e
  rcases look x a e with ⟨m1,_⟩|⟨k1,e1⟩
  ·exact ⟨_,(cells x a m1).1⟩
  ·obtain ⟨v,q⟩:=I.cell x a e1
   exact ⟨v,q.keeps keep⟩
 case freeC =>
  intro x a e
  rcases look x a e with ⟨m1,_⟩|⟨k1,e1⟩
  ·exact I.hok.fresh (by have:=(cells x a m1).2;omega)
  ·exact I.freeC x a e1
 case pin=>intro p hp;exact absurd (show p∈([]:List (Addr×Obj)) from hp) (by simp)
 case len =>
  show (tau own fr σ).length=N'.length
  rw [c.nm];unfold tau;simp
end
noncomputable abbrev TM:=St→Hp→(St→Hp→Prop)→Prop
noncomputable def PM (X:Cx) (act:Sem Unit) (t:TM):Prop :=
 ∀ (pins:List (Addr×Obj)) (s:Shared) (σ:St) (H:Hp) (Q:St→Hp→Prop),Inv X pins σ H s→t σ H Q→wpAny (model X.prog X.w) X.A act (fun _ s'=>∃ σ' H',Inv X pins σ' H' s'∧Q σ' H') X.xe s
noncomputable def PF (X:Cx) (ifs:List Expr) (t:TT):Prop :=
 ∀ (pins:List (Addr×Obj)) (s:Shared) (σ:St) (H:Hp) (Q:Bool→Hp→Prop),Inv X pins σ H s→t σ H Q →
  wpAny (model X.prog X.w) X.A (forIn ifs true fun c r=>if r=true then do let ok ← isTrue c X.env (eval c X.env);pure (ForInStep.yield ok) else pure (ForInStep.yield r)) (TP X pins σ Q) X.xe s
noncomputable def tAll:TT:=fun _ H Q=>Q true H
section
variable {X:Cx}
theorem zanq:PF X [] tAll:=fun _ s σ H Q I h=>wpAny_tests_nil ⟨H,I,h⟩
theorem zanr {c:Expr} {t:TT} (h:PT X c t):PF X [c] t:=fun pins s σ H Q I q=>wpAny_tests_one (h pins s σ H Q I q)
noncomputable def zadb (p:Addr) (te:TE):TM:=fun σ H Q=>te σ H fun v H1=>∃ ys,H1 p=some (.lst ys)∧ys.length<qd∧Q σ (upd H1 p (.lst (ys++[v])))
theorem zadc {elt:Expr} {te:TE} {p:Addr} (h:PE X elt te):PM X (do let _ ← call (.builtin "list.append") [.ref p,← eval elt X.env]) (zadb p te):=by
 intro pins s σ H Q I q
 refine qD (thn (h pins s σ H _ I q) fun u s1 ⟨v,H1,I1,r,ys,hp,hz,q1⟩=>?_)
 refine qD (thn (zhw pins s1 σ H1 (.ref p) [v] (.ref p) [u] (fun _ H2=>Q σ H2) I1 rfl (.cons r .nil) ⟨p,ys,v,rfl,rfl,hp,hz,q1⟩) fun _ s2 ⟨_,H2,I2,_,q2⟩=>?_)
 exact qc ⟨σ,H2,I2,q2⟩
noncomputable def zago (J:It) (g:TG) (tt:TT) (tm:TM):TM:=fun σ H Q=>∃ W:Nat→Nat→St→Hp→Prop,(∃ m,W 0 m σ H)∧∀ i m σ H,W i m σ H →
 (J.stop i H∧Q σ H)∨(J.go i H∧∃ N:St→Hp→Prop,(∀ σ' H',N σ' H'→∃ m',m'<m∧W (i+1) m' σ' H')∧∀ x H',J.yld i H x H'→g x σ H' fun σ2 H2=>tt σ2 H2 fun b H3=>if b=true then tm σ2 H3 N else N σ2 H3)
theorem zph {elt0:Expr} {gens:List Comprehension} {scope:Scope} {cpos:Pos} {depth:Nat} {target:Expr} {ifs:List Expr} {emit:Sem Unit} {acc:Value} {ip:Pos} {it:Addr} {fp:List Addr} {tn:Nat→Heap→Prop} {J:It} {g:TG} {tt:TT} {tm:TM} {pins:List (Addr×Obj)} {σ:St} {H:Hp} {s:Shared} {Q:St→Hp→Prop}
  (hx:X.xe=fun _ _=>False) (hc:X.calm=true)
  (eq:compTurn (.ListComp elt0 gens scope cpos) depth (.ref it) acc X.env=(do
   standAt ip
   match ← pyNext (.ref it) with
   | none=>pure (.done .next)
   | some v =>
    letOwnedTupleGo target (.ref it) v
    assign target X.env v
    let mut ok:=true
    for c in ifs do
     if ok then ok ← isTrue c X.env (eval c X.env)
    if ok then emit
    again (.compLoop (.ListComp elt0 gens scope cpos) depth (.ref it) acc X.env)))
  (T:Turn X.prog X.w X.K target J fp it tn) (hg:PG X target g) (ht:PF X ifs tt) (hm:PM X emit tm)
  (I:Inv X pins σ H s) (st:tn 0 s.heap) (hf:∀ b∈fp,FpOk X pins H b) (h:zago J g tt tm σ H Q) :
  codeAny (model X.prog X.w) X.A (.compLoop (.ListComp elt0 gens scope cpos) depth (.ref it) acc X.env) (fun r s'=>r=.ok .next∧∃ σ' H',Inv X pins σ' H' s'∧Q σ' H') s:=by
 obtain ⟨W,⟨m0,w0⟩,turn⟩:=h
 have stat:∀ {H':Hp},(∀ b∈fp,H' b=none)→∀ b∈fp,FpOk X pins H' b:=fun hn b hb=>⟨hn b hb,(hf b hb).2⟩
 have xe:∀ {α:Type} {m:Sem α} {Q':α→Shared→Prop} {E:Value→Shared→Prop} {s:Shared},wpAny (model X.prog X.w) X.A m Q' X.xe s→wpAny (model X.prog X.w) X.A m Q' E s:=fun q=>qBQ q (fun _ _ z=>z) fun _ _ z=>by rw [hx] at z;exact z.elim
 refine codeAny_loop rfl (fun n s'=>∃ i σ' H',Inv X pins σ' H' s'∧tn i s'.heap∧(∀ b∈fp,H' b=none)∧W i n σ' H') ?_ m0 ⟨0,σ,H,I,st,fun b hb=>(hf b hb).1,w0⟩
 rintro n s3 ⟨i,σ3,H3,I3,st3,fr3,w3⟩
 show wpAny _ X.A ((compTurn (.ListComp elt0 gens scope cpos) depth (.ref it) acc X.env).onRaise (fun x=>do noteFrame x X.env;theTreesLotGoes x)) _ _ s3
 refine wpAny_noted ?_
 rw [eq]
 refine qD (qBY (qD ?_))
 rcases turn i n σ3 H3 w3 with ⟨stop,qn⟩|⟨go,N,hN,step⟩
 ·refine thn (T.done X rfl rfl rfl hc i pins s3 σ3 H3 _ I3 (stat fr3) st3 stop) fun r s4 ⟨hr,I4⟩=>?_
  subst hr
  exact qc ⟨rfl,σ3,H3,I4,qn⟩
 ·refine thn (T.item X rfl rfl rfl hc i pins s3 σ3 H3 _ I3 (stat fr3) st3 go) fun r s4 ⟨u,hr,h4⟩=>?_
  subst hr
  refine qD (thn h4 fun _ s5 ⟨x,H5,I5,r5,y5,st5,fr5⟩=>?_)
  have I5':=I5.pinned (stat fr5) (T.obj _ _ st5)
  refine qD (xe (thn (hg _ s5 σ3 H5 x u _ I5' r5 (step x H5 y5)) fun _ s6 ⟨σ6,H6,I6,q6⟩=>?_))
  have again:∀ {σ7:St} {H7:Hp} {s7:Shared},Inv X (pins++zus fp s5.heap) σ7 H7 s7→N σ7 H7→∃ m,m<n∧∃ i σ' H',Inv X pins σ' H' s7∧tn i s7.heap∧(∀ b∈fp,H' b=none)∧W i m σ' H':=fun {σ7 H7 s7} I7 n7=>by
   obtain ⟨m',hm,w7⟩:=hN σ7 H7 n7
   refine ⟨m',hm,i+1,σ7,H7,I7.unpinned,T.keep _ _ _ st5 fun b hb o e=>(I7.pin (b,o) (qW _ (qW _ (zkv hb e)))).1,fun b hb=>?_,w7⟩
   obtain ⟨o,e,d⟩:=T.obj _ _ st5 b hb
   exact (I7.pin (b,o) (qW _ (qW _ (zkv hb e)))).2.1
  refine qD (xe (thn (ht _ s6 σ6 H6 _ I6 q6) fun ok s7 ⟨H7,I7,q7⟩=>?_))
  cases ok with
  | false =>
   rw [if_neg (by decide)] at q7
   exact qc ⟨rfl,again I7 q7⟩
  | true =>
   rw [if_pos rfl] at q7
   refine qD (xe (thn (hm _ s7 σ6 H7 _ I7 q7) fun _ s8 ⟨σ8,H8,I8,q8⟩=>?_))
   exact qc ⟨rfl,again I8 q8⟩
end
section
variable {X:Cx} {pins:List (Addr×Obj)} {σ:St} {H:Hp} {s:Shared} {scope:Scope} {N' own:List Str} {fr:List Nat}
theorem zaau {elt0 target iter:Expr} {ifs:List Expr} {rest:List Comprehension} {cpos:Pos} {g:TG} {tt:TT} {tm:Addr→TM} {emit:Value→Env→Sem Unit} {it:Addr} {fp:List Addr} {tn:Nat→Heap→Prop} {J:It} {Q:VK} {E:Value→Shared→Prop} {RR:Value→Addr→Result→Shared→Prop}
  (c:CompOk X scope N' own fr) (hc:X.calm=true)
  (eq:∀ it acc env,compTurn (.ListComp elt0 (⟨target,iter,ifs,0⟩::rest) scope cpos) 0 it acc env=(do
   standAt iter.pos
   match ← pyNext it with
   | none=>pure (.done .next)
   | some v =>
    letOwnedTupleGo target it v
    assign target env v
    let mut ok:=true
    for c in ifs do
     if ok then ok ← isTrue c env (eval c env)
    if ok then emit acc env
    again (.compLoop (.ListComp elt0 (⟨target,iter,ifs,0⟩::rest) scope cpos) 0 it acc env)))
  (T:Turn X.prog X.w X.K target J fp it tn)
  (hb:∀ (cl:List (Str×Addr)) (C:Addr) (s:Shared) (H:Hp) (fp:List Addr) (p:Addr),PG (cxComp X scope N' own cl C s H fp) target g∧PF (cxComp X scope N' own cl C s H fp) ifs tt∧PM (cxComp X scope N' own cl C s H fp) (emit (.ref p) (compEnvC scope cl C X.env)) (tm p))
  (I:Inv X pins σ H s) (st:tn 0 s.heap) (hf:∀ b∈fp,FpOk X pins H b)
  (h:∀ p,H p=none→zago J g tt (tm p) (tau own fr σ) (upd H p (.lst [])) (fun _ H'=>Q (.ref p) H'))
  (hRR:∀ (p C:Addr) (m:Str→Option Value) (H':Hp) (s':Shared),Inv X pins σ H' s'→s'.heap.Ns C m→FpOk X pins H' C→Q (.ref p) H'→RR (.ref p) C (.ok .next) s') :
  wpAny (model X.prog X.w) X.A (newList []) (fun acc s₃=>wpAny (model X.prog X.w) X.A (newFunctionEnv scope X.env.globals (clos X.env.cells scope.names []) [] X.env.qual none .none (some X.env)) (fun cenv s₄ =>
   codeAny (model X.prog X.w) X.A (.compStart (.ListComp elt0 (⟨target,iter,ifs,0⟩::rest) scope cpos) 0 (.ref it) acc {cenv with scope:=relabel scope X.env}) (RR acc cenv.locals) s₄) E s₃) E s:=by
 refine qB2 ?_
 have I3:Inv X pins σ (upd H s.heap.objs.size (.lst [])) {s with heap:=s.heap.push {cls:=.type "list",dict:=none,data:=.seq ([]:List Value).toArray}}:=I.lnew (t':=s.toks) .nil (qAP _)
 have hn0:H s.heap.objs.size=none:=I.hok.fresh (qQ _)
 generalize e3:({s with heap:=s.heap.push {cls:=.type "list",dict:=none,data:=.seq ([]:List Value).toArray}}:Shared)=s3 at I3 ⊢
 have k3:∀ b o,s.heap.get? b=some o→s3.heap.get? b=some o:=fun b o e=>by rw [← e3];exact qC _ e
 have hne:∀ b∈fp,b≠s.heap.objs.size:=fun b hb=>by
  obtain ⟨o,e,_⟩:=T.obj _ _ st b hb
  exact qj (qL e)
 have hf3:∀ b∈fp,FpOk X pins (upd H s.heap.objs.size (.lst [])) b:=fun b hb=>⟨by rw [zbk (hne b hb)];exact (hf b hb).1,(hf b hb).2⟩
 have st3:tn 0 s3.heap:=T.keep _ _ _ st fun b _ o e=>k3 b o e
 refine zaat fun h' keep ns cells apart=>?_
 have I4:=zagn c I3 hf3 (T.obj _ _ st3) keep ns cells apart
 have st4:tn 0 h':=T.keep _ _ _ st3 fun b _ o e=>keep b o e
 obtain ⟨hg,ht,hm⟩:=hb (cellsFrom (s3.heap.objs.size+1) scope.names []++clos X.env.cells scope.names []) s3.heap.objs.size s3 (upd H s.heap.objs.size (.lst [])) fp s.heap.objs.size
 have hf4:∀ b∈fp,FpOk (cxComp X scope N' own (cellsFrom (s3.heap.objs.size+1) scope.names []++clos X.env.cells scope.names []) s3.heap.objs.size s3 (upd H s.heap.objs.size (.lst [])) fp) [] (upd H s.heap.objs.size (.lst [])) b:=fun b hb =>
  ⟨(hf3 b hb).1,(I4.ok.exf b hb).1,I4.ok.exfs b hb,.inl hb,(I4.ok.exf b hb).2,fun p hp=>absurd (show p∈([]:List (Addr×Obj)) from hp) (by simp)⟩
 have loop:codeAny (model X.prog X.w) X.A (.compLoop (.ListComp elt0 (⟨target,iter,ifs,0⟩::rest) scope cpos) 0 (.ref it) (.ref s.heap.objs.size) (compEnvC scope (cellsFrom (s3.heap.objs.size+1) scope.names []++clos X.env.cells scope.names []) s3.heap.objs.size X.env)) (RR (.ref s.heap.objs.size) s3.heap.objs.size) {s3 with heap:=h'}:=by
  refine qBh (zph (X:=cxComp X scope N' own (cellsFrom (s3.heap.objs.size+1) scope.names []++clos X.env.cells scope.names []) s3.heap.objs.size s3 (upd H s.heap.objs.size (.lst [])) fp) (pins:=[]) rfl hc (eq _ _ _) T hg ht hm I4 st4 hf4 (h _ hn0)) fun r s5 hr=>?_
  obtain ⟨rfl,σ5,H5,I5,q5⟩:=hr
  obtain ⟨m,hn,_⟩:=id I5.loc
  have u5:Un (frs X.stack) fp (upd H s.heap.objs.size (.lst [])) H5 s3.heap s5.heap:=I5.base
  have hok5:HOk X.prog X.w H5 s5.heap:=I5.hok
  have os5:s5.os=s3.os:=I5.os
  have bare5:=I5.bare
  have free5:H5 s3.heap.objs.size=none:=I5.free
  have hn:s5.heap.Ns s3.heap.objs.size m:=hn
  clear I5
  obtain ⟨hh,gg,dd,tk,os'⟩:=s5
  obtain rfl:os'=s3.os:=os5
  have I6:Inv X pins σ H5 {s3 with heap:=hh,gens:=gg,drawn:=dd,toks:=tk}:=I3.call (ch:=fp) u5 hok5 bare5 fun b hb=>⟨(hf3 b hb).2.2.2.1,(hf3 b hb).2.1,(hf3 b hb).2.2.2.2.1,(hf3 b hb).2.2.2.2.2⟩
  exact hRR _ _ m H5 _ I6 hn (I3.fpOk (qQ _) free5) q5
 exact codeAny_compStart_list loop (T.self _ 0 _ _ _ st4 loop)
noncomputable def zaks (wi:TI) (g:TG) (tt:TT) (tm:Addr→TM) (own:List Str) (fr:List Nat):TE:=fun σ H Q=>wi σ H fun J H1=>∀ p,H1 p=none→zago J g tt (tm p) (tau own fr σ) (upd H1 p (.lst [])) (fun _ H'=>Q (.ref p) H')
theorem zzi {elt0 target iter:Expr} {ifs:List Expr} {rest:List Comprehension} {cpos:Pos} {wi:TI} {g:TG} {tt:TT} {tm:Addr→TM} {emit:Value→Env→Sem Unit} (c:CompOk X scope N' own fr) (hc:X.calm=true)
  (eq:∀ it acc env,compTurn (.ListComp elt0 (⟨target,iter,ifs,0⟩::rest) scope cpos) 0 it acc env=(do
   standAt iter.pos
   match ← pyNext it with
   | none=>pure (.done .next)
   | some v =>
    letOwnedTupleGo target it v
    assign target env v
    let mut ok:=true
    for c in ifs do
     if ok then ok ← isTrue c env (eval c env)
    if ok then emit acc env
    again (.compLoop (.ListComp elt0 (⟨target,iter,ifs,0⟩::rest) scope cpos) 0 it acc env)))
  (hi:PI X target iter wi)
  (hb:∀ (cl:List (Str×Addr)) (C:Addr) (s:Shared) (H:Hp) (fp:List Addr) (p:Addr),PG (cxComp X scope N' own cl C s H fp) target g∧PF (cxComp X scope N' own cl C s H fp) ifs tt∧PM (cxComp X scope N' own cl C s H fp) (emit (.ref p) (compEnvC scope cl C X.env)) (tm p))
  (hs:∀ x,foldedSetIterable iter X.env x=pure x:=by intro _;rfl) :
  PE X (.ListComp elt0 (⟨target,iter,ifs,0⟩::rest) scope cpos) (zaks wi g tt tm own fr):=by
 intro pins s σ H Q I h
 rw [eval_ListComp]
 refine wpAny_comprehension_free (use:=none) rfl hs (zsu (zrq c I.ok)) c.kind (fun y hy e=>(c.names y hy).trans (by rw [e])) ?_
 refine thn (hi pins s σ H _ I h) fun v s1 h1=>thn h1 fun itv s2 h2=>?_
 obtain ⟨it,fp,tn,J,H2,e,I2,T,st2,f2,q⟩:=h2
 subst e
 refine zaau (Q:=Q) c hc eq T hb I2 st2 f2 q fun p C m H' s' I' hn hC q'=>?_
 exact ⟨m,hn,fun h' sb=>⟨.ref p,H',I'.turned (t':=s'.toks) (fun b o hb e=>(sb.2 b hb).trans e) hC.1 hC.2.1 hC.2.2.2.1 hC.2.2.2.2.1 hC.2.2.2.2.2,rfl,q'⟩⟩
end
section
variable {X:Cx}
section
variable {scope:Scope} {N' own:List Str} {fr:List Nat} {elt target iter:Expr} {ifs:List Expr} {cpos:Pos} {wi:TI} {g:TG} {tt:TT} {te:TE}
noncomputable def tComp1 (wi:TI) (g:TG) (tt:TT) (te:TE) (own:List Str) (fr:List Nat):TE:=zaks wi g tt (fun p=>zadb p te) own fr
theorem zagp (c:CompOk X scope N' own fr) (hc:X.calm=true) (hi:PI X target iter wi)
  (hb:∀ (cl:List (Str×Addr)) (C:Addr) (s:Shared) (H:Hp) (fp:List Addr),PG (cxComp X scope N' own cl C s H fp) target g∧PF (cxComp X scope N' own cl C s H fp) ifs tt∧PE (cxComp X scope N' own cl C s H fp) elt te)
  (hs:∀ x,foldedSetIterable iter X.env x=pure x:=by intro _;rfl):PE X (.ListComp elt [⟨target,iter,ifs,0⟩] scope cpos) (tComp1 wi g tt te own fr) :=
 zzi (emit:=fun acc env=>do let _ ← call (.builtin "list.append") [acc,← eval elt env]) c hc (fun _ _ _=>rfl) hi
  (fun cl C s H fp p=>⟨(hb cl C s H fp).1,(hb cl C s H fp).2.1,zadc (hb cl C s H fp).2.2⟩) hs
end
noncomputable def zaps:R2:=fun x y H Q=>∃ z n,x=.str z∧y=.int n∧z.length≤1000∧-1000≤n∧n≤1000∧Q (.str (Txt.mul z n)) H
theorem zakt:OpR X (binaryOp .Mult) zaps:=by
 intro pins s σ H x y v u Q I rx ry h
 obtain ⟨z,n,rfl,rfl,h1,h2,h3,q⟩:=h
 obtain ⟨t,rfl⟩:=rx
 obtain ⟨t',rfl⟩:=ry
 exact SB.mul (mulOk_of 1000 1000 h1 (by omega) (by omega) (by decide) (by decide)) fun t' k=>⟨.str (Txt.mul z n),H,I.tok _,⟨_,rfl⟩,q⟩
noncomputable def rSlS:V→Option Int→Option Int→Hp→VK→Prop:=fun x lo hi H Q=>∃ z,x=.str z∧z.length≤qd∧Q (.str (Txt.slice z lo hi)) H
theorem zans:SlR X rSlS:=by
 intro pins s σ H x v vl vu lo hi sl Q I rx hs pl pu h
 obtain ⟨z,rfl,hz,q⟩:=h
 obtain ⟨t,rfl⟩:=rx
 refine ⟨"str",_,F.slot_str_getitem.lookup,typeIs_str _ _ _,?_⟩
 have fin:∀ t' k,EP X pins σ Q (.str (Txt.slice z lo hi) t') {s with toks:=k}:=fun t' k=>⟨.str (Txt.slice z lo hi),H,I.tok _,⟨_,rfl⟩,q⟩
 have fz:(Txt.slice z lo hi).length≤qd:=qAQ (Txt.slice_le z _ _) hz
 cases pl with
 | none=>cases pu with
  | none=>exact qA2 (l:=none) (u:=none) (st:=none) hs rfl (qBg ⟨fz,fin⟩)
  | int j tj=>exact qA2 (l:=none) (u:=some (j,tj)) (st:=none) hs rfl (qBg ⟨fz,fin⟩)
 | int i ti=>cases pu with
  | none=>exact qA2 (l:=some (i,ti)) (u:=none) (st:=none) hs rfl (qBg ⟨fz,fin⟩)
  | int j tj=>exact qA2 (l:=some (i,ti)) (u:=some (j,tj)) (st:=none) hs rfl (qBg ⟨fz,fin⟩)
noncomputable def zadd:V→List V→Hp→VK→Prop:=fun x vs H Q=>∃ d o kvs more,x=.ref d∧vs=[.ref o]∧d≠o∧H d=some (.dK kvs)∧H o=some (.dK more)∧kvs.length+more.length≤qd∧Q .non (upd H d (.dK (zmc kvs more)))
theorem zvd:MtM X "dict.update" zadd:=by
 intro pins s σ H x vs v us Q I rx rv h
 obtain ⟨d,o,kvs,more,rfl,rfl,hne,hd,ho,hz,q⟩:=h
 cases rx
 obtain ⟨u,rfl,ru⟩:=rv.one
 cases ru
 obtain ⟨z1,s1,vs1,rel1,dd1⟩:=zagi I.hok hd
 obtain ⟨z2,s2,vs2,rel2,dd2⟩:=zagi I.hok ho
 refine call_meetsIn F.slot_dict_update dd1.typeIs F.entry_dict_update (F.args_dict_update_2 _ _) (meets_dict_update (zdw X.prog X.w) d o hne s2) ⟨vs1,vs2,dd1,dd2,?_,fun h' h1 h2 sb=>?_⟩
 ·rw [← rel1.length,← rel2.length];exact hz
 ·have he:∃ q,h'.get? d=some q:=by obtain ⟨ob,_,_,e,_⟩:=h1;exact ⟨ob,e⟩
  refine ⟨.non,_,zsq (t':=s.toks) I (by rw [hd];trivial) sb he (zacw (qAQ (zjg more kvs) hz) s1 (rel2.merge rel1) h1),rfl,q⟩
theorem zagq {id:String} (hid:id = "isinstance"):CallR X (.builtin id) (fun xs H Q=>∃ x n t b,xs=[x,.ty n]∧TyOf X.K H x t∧PySem.W.kitOne X.K t (.type n)=some b∧Q (.bl b) H):=by
 subst hid
 intro pins s σ H xs us Q I r h
 obtain ⟨x,n,t,b,rfl,ty,e,q⟩:=h
 obtain ⟨u,w',rfl,rx,ry⟩:=zakc r
 cases ry
 exact zacn I rx ty e fun tk=>⟨.bl b,H,I.tok _,rfl,q⟩
end
section
variable {X:Cx}
end
mutual
def Rep (K:qB) (H:Hp):PyData→V→Prop
 | .none,v=>v=.non
 | .bool b,v=>v=.bl b
 | .int i,v=>v=.int i
 | .str x,v=>v=.str x
 | .list ds,v=>∃ a xs,v=.ref a∧SqL K H a xs∧Reps K H ds xs
 | .tuple ds,v=>∃ a xs,v=.ref a∧SqT K H a xs∧Reps K H ds xs
 | .dict _,_=>False
def Reps (K:qB) (H:Hp):List PyData→List V→Prop
 | [],xs=>xs=[]
 | d::ds,xs=>∃ v vs,xs=v::vs∧Rep K H d v∧Reps K H ds vs
end
mutual
theorem zfj {X:Cx} {pins:List (Addr×Obj)} {σ:St} {H:Hp} {s:Shared} (I:Inv X pins σ H s):∀ (d:PyData) {v:V} {u:Value},Rep X.K H d v→RelV v u→∃ as,Reads s.heap u d as
 | .none,v,u,h,r=>by unfold Rep at h;subst h;cases r;exact ⟨_,.none⟩
 | .bool b,v,u,h,r=>by unfold Rep at h;subst h;cases r;exact ⟨_,.bool b⟩
 | .int i,v,u,h,r=>by unfold Rep at h;subst h;obtain ⟨t,rfl⟩:=r;exact ⟨_,.int i t⟩
 | .str x,v,u,h,r=>by unfold Rep at h;subst h;obtain ⟨t,rfl⟩:=r;exact ⟨_,.str x t⟩
 | .list ds,v,u,h,r=>by
  unfold Rep at h
  obtain ⟨a,xs,rfl,hq,hr⟩:=h
  cases r
  obtain ⟨its,rv,p,hz⟩:=I.list hq
  obtain ⟨as,q⟩:=zmx I ds hr rv
  obtain ⟨o,h1,h2,n,h3⟩:=p.isList
  exact ⟨_,reads_list_at h1 h2 h3 (by simpa using q)⟩
 | .tuple ds,v,u,h,r=>by
  unfold Rep at h
  obtain ⟨a,xs,rfl,hq,hr⟩:=h
  cases r
  obtain ⟨its,rv,p,hz⟩:=I.tuple hq
  obtain ⟨as,q⟩:=zmx I ds hr rv
  obtain ⟨o,h1,h2,n,h3⟩:=p
  exact ⟨_,reads_tuple_at h1 h2 h3 (by simpa using q)⟩
 | .dict _,_,_,h,_=>by unfold Rep at h;exact h.elim
theorem zmx {X:Cx} {pins:List (Addr×Obj)} {σ:St} {H:Hp} {s:Shared} (I:Inv X pins σ H s):∀ (ds:List PyData) {vs:List V} {us:List Value},Reps X.K H ds vs→Vals vs us→∃ as,ReadsAll s.heap us ds as
 | [],vs,us,h,r=>by unfold Reps at h;subst h;cases r;exact ⟨_,.nil⟩
 | d::ds,vs,us,h,r=>by
  unfold Reps at h
  obtain ⟨v,vs',rfl,h1,h2⟩:=h
  cases r with
  | cons r rr =>
   obtain ⟨as,q1⟩:=zfj I d h1 r
   obtain ⟨bs,q2⟩:=zmx I ds h2 rr
   exact ⟨_,.cons q1 q2⟩
end
theorem SqT.same {K:qB} {H H':Hp} {a:Addr} {xs:List V} (h:Same H H') (q:SqT K H a xs):SqT K H' a xs:=by
 rcases q with (q|⟨o,q⟩)|q
 ·exact .inl (.inl (h _ _ q))
 ·exact .inl (.inr ⟨o,h _ _ q⟩)
 ·exact .inr q
section
variable {X:Cx}
noncomputable def rEqD (K:qB) (neg:Bool):R2:=fun x y H Q=>∃ d e,Rep K H d x∧Rep K H e y∧qAK d=true∧qAK e=true∧Q (.bl (if neg then !PyData.eqv d e else qAA d e)) H
theorem zant (hu:X.A.units+64<cLine):OpR X (compareOp .Eq) (rEqD X.K false):=by
 intro pins s σ H x y v u Q I rx ry h
 obtain ⟨d,e,hd,he,sd,se,q⟩:=h
 obtain ⟨as,r1⟩:=zfj I d hd rx
 obtain ⟨bs,r2⟩:=zfj I e he ry
 exact eq_dataH r1 r2 sd se hu ⟨.bl (qAA d e),H,I,rfl,q⟩
theorem zanu (hu:X.A.units+64<cLine):OpR X (compareOp .NotEq) (rEqD X.K true):=by
 intro pins s σ H x y v u Q I rx ry h
 obtain ⟨d,e,hd,he,sd,se,q⟩:=h
 obtain ⟨as,r1⟩:=zfj I d hd rx
 obtain ⟨bs,r2⟩:=zfj I e he ry
 exact ne_dataH r1 r2 sd se hu ⟨.bl (!PyData.eqv d e),H,I,rfl,q⟩
theorem zade {bs:List Bool}:∀ {its:List Value},Vals (bs.map V.bl) its→its=bs.map Value.bool:=by
 induction bs with
 | nil=>intro its r;cases r;rfl
 | cons b bs ih =>
  intro its r
  cases r with
  | cons r rr=>cases r;rw [ih rr];rfl
theorem zadf (bs:List Bool):(List.range bs.length).any (fun i=>bs.getD i false)=bs.any id:=by
 rw [qAe,qAv,qAv]
 constructor
 ·rintro ⟨i,hi,h⟩
  have hi:=qAt.mp hi
  rw [qb,qF hi] at h
  exact ⟨_,qAZ hi,h⟩
 ·rintro ⟨b,hb,h⟩
  obtain ⟨i,hi,e⟩:=qBf hb
  exact ⟨i,qAt.mpr hi,by rw [qb,qF hi,e];exact h⟩
theorem zadg (bs:List Bool):(List.range bs.length).all (fun i=>bs.getD i false)=bs.all id:=by
 rw [qAe,qAN,qAN]
 constructor
 ·intro h b hb
  obtain ⟨i,hi,e⟩:=qBf hb
  have q:=h i (qAt.mpr hi)
  rw [qb,qF hi,e] at q
  exact q
 ·intro h i hi
  have hi:=qAt.mp hi
  have q:=h _ (qAZ hi)
  rw [qb,qF hi]
  exact q
noncomputable def rAny (K:qB) (f:List Bool→Bool):List V→Hp→VK→Prop:=fun xs H Q=>∃ p bs,xs=[.ref p]∧SqL K H p (bs.map V.bl)∧Q (.bl (f bs)) H
theorem zagr (hc:X.calm=true):CallR X (.builtin "any") (rAny X.K fun bs=>bs.any id):=by
 intro pins s σ H xs us Q I r h
 obtain ⟨p,bs,rfl,hq,q⟩:=h
 obtain ⟨u,rfl,ru⟩:=zaaq r
 cases ru
 obtain ⟨its,rv,pl,hz⟩:=I.list hq
 cases zade rv
 have hne:p≠s.heap.objs.size:=by obtain ⟨o,e,_⟩:=pl.isList;exact qj (qL e)
 refine call_any_walk (qAo pl.isList ⟨s.heap.objs.size,_,_,_,_,_,fun i=>bs.getD i false,rfl,Walks.list (A:=X.A.in1) (show X.A.in1.handled=none from I.ok.hd hc) _ p hne (bs.map Value.bool).toArray,⟨⟨_,qU _ rfl,rfl,rfl⟩,?_⟩,?_,?_⟩)
 ·obtain ⟨o,e,z⟩:=pl.isList
  exact ⟨o,qC _ e,z⟩
 ·intro i v s' Q' E' hv hQ
  have hv:(bs.map Value.bool)[i]?=some v:=by simpa using hv
  rw [qY] at hv
  cases e:bs[i]? with
  | none=>rw [e] at hv;cases hv
  | some b =>
   rw [e] at hv
   cases hv
   have z:bs.getD i false=b:=by rw [qb,e];rfl
   have hQ:Q' (bs.getD i false) s':=hQ
   rw [z] at hQ
   exact qA7 hQ
 ·intro h' tk hk
  refine ⟨.bl (bs.any id),H,?_,by rw [← zadf bs];simp;rfl,q⟩
  exact I.kept (t':=tk) fun b o e=>hk b o (by have:=qL e;simp;exact qj this) (qC _ e)
theorem zags (hc:X.calm=true):CallR X (.builtin "all") (rAny X.K fun bs=>bs.all id):=by
 intro pins s σ H xs us Q I r h
 obtain ⟨p,bs,rfl,hq,q⟩:=h
 obtain ⟨u,rfl,ru⟩:=zaaq r
 cases ru
 obtain ⟨its,rv,pl,hz⟩:=I.list hq
 cases zade rv
 have hne:p≠s.heap.objs.size:=by obtain ⟨o,e,_⟩:=pl.isList;exact qj (qL e)
 refine call_all_walk (qAo pl.isList ⟨s.heap.objs.size,_,_,_,_,_,fun i=>bs.getD i false,rfl,Walks.list (A:=X.A.in1) (show X.A.in1.handled=none from I.ok.hd hc) _ p hne (bs.map Value.bool).toArray,⟨⟨_,qU _ rfl,rfl,rfl⟩,?_⟩,?_,?_⟩)
 ·obtain ⟨o,e,z⟩:=pl.isList
  exact ⟨o,qC _ e,z⟩
 ·intro i v s' Q' E' hv hQ
  have hv:(bs.map Value.bool)[i]?=some v:=by simpa using hv
  rw [qY] at hv
  cases e:bs[i]? with
  | none=>rw [e] at hv;cases hv
  | some b =>
   rw [e] at hv
   cases hv
   have z:bs.getD i false=b:=by rw [qb,e];rfl
   have hQ:Q' (bs.getD i false) s':=hQ
   rw [z] at hQ
   exact qA7 hQ
 ·intro h' tk hk
  refine ⟨.bl (bs.all id),H,?_,by rw [← zadg bs];simp;rfl,q⟩
  exact I.kept (t':=tk) fun b o e=>hk b o (by have:=qL e;simp;exact qj this) (qC _ e)
end
noncomputable def zadh (o:Option NameKind):Bool:=o==some .cell||o==some .free
noncomputable def zadi (sc:Scope) (N:List Str) (scope:Scope) (N' own:List Str) (fr:List Nat):Bool :=
 (scope.kind==.function)&&(scope.names.all fun y=>scope.names.lookup y.1==some y.2)&&(scope.names.all fun y=>!(y.2==.free)||zadh (sc.names.lookup y.1)) &&
 (N'==own++fr.map fun j=>N.getD j Str.empty)&&(fr.all fun j=>decide (j<N.length)&&(scope.names.lookup (N.getD j Str.empty)==some .free)) &&
 (own.all fun x=>scope.names.lookup x==some .local||scope.names.lookup x==some .cell)
section
variable {X:Cx}
theorem zdl {scope:Scope} {N' own:List Str} {fr:List Nat} (h:zadi X.env.scope X.N scope N' own fr=true):CompOk X scope N' own fr:=by
 unfold zadi at h
 simp only [qt] at h
 obtain ⟨⟨⟨⟨⟨h1,h2⟩,h3⟩,h4⟩,h5⟩,h6⟩:=h
 refine ⟨eq_of_beq h1,fun y hy=>eq_of_beq (qAN.mp h2 y hy),fun y hy e=>?_,eq_of_beq h4,fun j hj=>?_,fun x hx=>?_⟩
 ·have q:=qAN.mp h3 y hy
  rw [e] at q
  have q:zadh (X.env.scope.names.lookup y.1)=true:=by simpa using q
  unfold zadh at q
  rcases qCV.mp q with z|z
  ·exact .inl (eq_of_beq z)
  ·exact .inr (eq_of_beq z)
 ·have q:=qAN.mp h5 j hj
  rw [qt] at q
  exact ⟨of_decide_eq_true q.1,eq_of_beq q.2⟩
 ·have q:=qAN.mp h6 x hx
  rcases qCV.mp q with z|z
  ·exact .inl (eq_of_beq z)
  ·exact .inr (eq_of_beq z)
noncomputable def zagt (K:qB):R2:=fun x y H Q=>match x,y with
 | .int i,.int j=>Q (.int (i+j)) H
 | .str a,.str b=>a.length+b.length≤qd∧Q (.str (a++b)) H
 | .ref _,.ref _=>rCat x y H Q∨zanh K x y H Q
 | _,_=>False
theorem zadj:OpR X (binaryOp .Add) (zagt X.K):=by
 intro pins s σ H x y v u Q I rx ry h
 cases x<;>cases y<;>first
  | exact h.elim
  | exact zamy pins s σ H _ _ v u Q I rx ry ⟨_,_,rfl,rfl,h⟩
  | exact zaap pins s σ H _ _ v u Q I rx ry ⟨_,_,rfl,rfl,h.1,h.2⟩
  | exact (zann.or zaki) pins s σ H _ _ v u Q I rx ry h
noncomputable def zanv:R2:=fun x y H Q=>match x,y with
 | .int i,.int j=>CMul i j∧Q (.int (i * j)) H
 | .str z,.int n=>z.length≤1000∧-1000≤n∧n≤1000∧Q (.str (Txt.mul z n)) H
 | _,_=>False
theorem zir:OpR X (binaryOp .Mult) zanv:=by
 intro pins s σ H x y v u Q I rx ry h
 cases x<;>cases y<;>first
  | exact h.elim
  | exact zamz pins s σ H _ _ v u Q I rx ry ⟨_,_,rfl,rfl,h.1,h.2⟩
  | exact zakt pins s σ H _ _ v u Q I rx ry ⟨_,_,rfl,rfl,h.1,h.2.1,h.2.2.1,h.2.2.2⟩
noncomputable def rIxU (K:qB):R2:=fun x y H Q=>match x,y with
 | .str z,.int i=>z.length≤qd∧∃ c,atI z.cps.toList i=some c∧Q (.str ⟨#[c]⟩) H
 | .ref p,.int i=>∃ xs v,(SqL K H p xs∨SqT K H p xs)∧atI xs i=some v∧Q v H
 | _,_=>False
theorem ix_U:IxR X (rIxU X.K):=by
 intro value slice pins s σ H x y v u Q I rx ry h hs
 cases x<;>cases y<;>first
  | exact h.elim
  | (obtain ⟨h1,c,h2,h3⟩:=h;exact zanj value slice pins s σ H _ _ v u Q I rx ry ⟨_,_,c,rfl,rfl,h1,h2,h3⟩ hs)
  | (obtain ⟨xs,w,h1,h2,h3⟩:=h
     rcases h1 with h1|h1
     ·exact zakj value slice pins s σ H _ _ v u Q I rx ry ⟨_,xs,_,w,rfl,rfl,h1,h2,h3⟩ hs
     ·exact zani value slice pins s σ H _ _ v u Q I rx ry ⟨_,xs,_,w,rfl,rfl,h1,h2,h3⟩ hs)
noncomputable def rSlU (K:qB):V→Option Int→Option Int→Hp→VK→Prop:=fun x lo hi H Q=>match x with
 | .str z=>z.length≤qd∧Q (.str (Txt.slice z lo hi)) H
 | .ref _=>rSlL K x lo hi H Q
 | _=>False
theorem sl_U:SlR X (rSlU X.K):=by
 intro pins s σ H x v vl vu lo hi sl Q I rx hs pl pu h
 cases x<;>first
  | exact h.elim
  | exact zans pins s σ H _ v vl vu lo hi sl Q I rx hs pl pu ⟨_,rfl,h.1,h.2⟩
  | exact zakl pins s σ H _ v vl vu lo hi sl Q I rx hs pl pu h
noncomputable def Dn (P:Program) (w:World) (K:qB) (mg:Str→Option Value) (base:Heap) (x:Str) (ps:List Str) (k:Nat) (sp:Sp):Prop :=
 ∃ f fd,FnOk P w K mg base CX0 k f fd ps sp∧mg x=some (.ref f)∧qV K (.ref f)=true∧zaar K fd ps []
theorem zapt {x:Str} {p pos:Pos} {e:Expr} {es:List Expr} {t:TA} {ps:List Str} {k:Nat} {sp:Sp} (D:Dn X.prog X.w X.K X.mg X.base x ps k sp) (hr:Room k X.A) (hg:Gl X x) (ha:PA X (e::es) t)
  (hdb:(x==("__debug__":Str))=false:=by decide) (he:starEach (e::es) X.env=(false,eval e X.env)::starEach es X.env:=by rfl) (hpl:(backTo pos (starEach es X.env)).any (·.1)=false:=by rfl) :
  PE X (.Call (.Name x p) (e::es) [] pos) (tCall sp [] E0 t):=by
 obtain ⟨f,fd,F,hm,hk,hb⟩:=D
 exact zakf F hr hg hm hk hb .nil zapr ha hdb he hpl
end
theorem Same.upd {H H':Hp} {p:Addr} {o:HO} (h:Same H H') (hp:H p=none):Same H (upd H' p o):=fun b u e=>by rw [zbk (zbs e hp)];exact h b u e
theorem Same.new {H:Hp} {p:Addr} {o:HO} (hp:H p=none):Same H (L2.upd H p o):=(Same.refl H).upd hp
end L2
namespace Bc
open PySem L2
noncomputable abbrev Web:=List (Str×List Str)
noncomputable def nm (W:Web):List Str:=W.map (·.1)
structure WebOk (W:Web):Prop where
 nd:(nm W).Nodup
 el:∀ i n es,W[i]?=some (n,es)→∀ e∈es,e∈nm (W.take i)
 few:∀ p∈W,p.2.length≤4
 len:W.length≤12
theorem zme {α:Type} [DecidableEq α]:∀ (l m:List α),l.Nodup→(∀ x∈l,x∈m)→l.length≤m.length
 | [],_,_,_=>qAP _
 | a::l,m,h,s=>by
  obtain ⟨h1,h2⟩:=qAI.mp h
  have ha:=s a qg
  have q:=zme l (m.erase a) h2 fun x hx=>(List.mem_erase_of_ne (fun (z:x=a)=>h1 (by rw [← z];exact hx))).mpr (s x (qI _ hx))
  rw [List.length_erase_of_mem ha] at q
  have:=List.length_pos_of_mem ha
  rw [qa]
  omega
section
variable {κ:Type} [DecidableEq κ]
end
theorem zpi {W:Web} (h:WebOk W):(nm W).length≤12:=by unfold nm;rw [qE];exact h.len
end Bc
namespace L2
open PySem PySem.Spec PyProof.Rows
section
variable {X:Cx} {K:qB} (hK:X.K=K)
include hK
theorem zaku {es:List Expr} {k:Nat} {t:TGs} {n:Nat} {pos:Pos} (hc:X.calm=true) (h:PGs X es t)
  (hn:(assignEach es X.env).length=n:=by rfl) (hst:(assignEach es X.env).findIdx? (·.1)=none:=by rfl):PG X (.Tuple es k pos) (gTup K n t):=by subst hK;exact zamu hc h hn hst
theorem zeg:IxR X (rIxU K):=by subst hK;exact ix_U
theorem zanw:SlR X (rSlU K):=by subst hK;exact sl_U
theorem zbz:OpR X (binaryOp .Add) (zagt K):=by subst hK;exact zadj
theorem zadk:OpR X (compareOp .In) (rIn K false):=by subst hK;exact zacs
theorem zhx:OpR X (compareOp .NotIn) (rIn K true):=by subst hK;exact zuz
theorem zdx:CallR X (.builtin "len") (fun xs H Q=>∃ x n,xs=[x]∧LenV K x H n∧Q (.int n) H):=by subst hK;exact zagc
theorem zadl (hc:X.calm=true):CallR X (.builtin "any") (rAny K fun bs=>bs.any id):=by subst hK;exact zagr hc
theorem zve (hc:X.calm=true):CallR X (.builtin "all") (rAny K fun bs=>bs.all id):=by subst hK;exact zags hc
theorem zpj:CallR X (.builtin "isinstance") (fun xs H Q=>∃ x n t b,xs=[x,.ty n]∧TyOf K H x t∧PySem.W.kitOne K t (.type n)=some b∧Q (.bl b) H):=by subst hK;exact zagq rfl
theorem zaav:CallR X (.type "list") (fun xs H Q=>∃ p ys,xs=[.ref p]∧(SqL K H p ys∨SqT K H p ys)∧∀ l,H l=none→Q (.ref l) (upd H l (.lst ys))):=by subst hK;exact zva
theorem zanx {T:String} {name:Str} {id:String} {r:V→List V→Hp→VK→Prop} {o e:Expr} {es:List Expr} {to:TE} {t:TA} {apos cpos:Pos} (pa:PlainAttrs T) (slot:Slot T name id) (hty:typeOf (.builtin id)=pure (.type "method_descriptor")) (hm:MtR X id r) (ho:PE X o to) (ha:PA X (e::es) t)
  (hbase:attributeBase o name X.env (eval o X.env)=eval o X.env:=by rfl)
  (hfew:((backTo cpos (starEach (e::es) X.env)).all (fun x=>!x.1)&&(backToKw cpos (keywordEach [] X.env)).all (fun x=>x.1.isSome)
   && decide ((e::es).length+([]:List Keyword).length+(if ([]:List Keyword).isEmpty then 0 else 1)<30))=true:=by rfl)
  (hline:(apos.endLine==cpos.line)=true:=by rfl) (hs:starEach (e::es) X.env=(false,eval e X.env)::starEach es X.env:=by rfl) (hplain:(backTo cpos (starEach es X.env)).any (·.1)=false:=by rfl) :
  PE X (.Call (.Attribute o name apos) (e::es) [] cpos) (tBM K T r to t):=by subst hK;exact zapp pa slot hty hm ho ha hbase hfew hline hs hplain
end
noncomputable def keyD:PyData→Option Key
 | .int i=>some (Sum.inl i)
 | .str s=>some (Sum.inr s)
 | _=>none
mutual
def Rp (H:Hp):PyData→V→Prop
 | .none,v=>v=.non
 | .bool b,v=>v=.bl b
 | .int i,v=>v=.int i
 | .str x,v=>v=.str x
 | .list ds,v=>∃ a xs,v=.ref a∧H a=some (.lst xs)∧Rps H ds xs
 | .tuple ds,v=>∃ a xs,v=.ref a∧H a=some (.tup xs)∧Rps H ds xs
 | .dict kvs,v=>∃ a ps,v=.ref a∧H a=some (.dK ps)∧Rpd H kvs ps
def Rps (H:Hp):List PyData→List V→Prop
 | [],xs=>xs=[]
 | d::ds,xs=>∃ v vs,xs=v::vs∧Rp H d v∧Rps H ds vs
def Rpd (H:Hp):List (PyData×PyData)→List (Key×V)→Prop
 | [],ps=>ps=[]
 | (k,d)::r,ps=>∃ k' v vs,ps=(k',v)::vs∧keyD k=some k'∧Rp H d v∧Rpd H r vs
end
mutual
theorem Rp.same {H H':Hp} (h:Same H H'):∀ (d:PyData) {v:V},Rp H d v→Rp H' d v
 | .none,v,q=>by unfold Rp at q ⊢;exact q
 | .bool b,v,q=>by unfold Rp at q ⊢;exact q
 | .int i,v,q=>by unfold Rp at q ⊢;exact q
 | .str x,v,q=>by unfold Rp at q ⊢;exact q
 | .list ds,v,q=>by
  unfold Rp at q ⊢
  obtain ⟨a,xs,e,hq,hr⟩:=q
  exact ⟨a,xs,e,h _ _ hq,Rps.same h ds hr⟩
 | .tuple ds,v,q=>by
  unfold Rp at q ⊢
  obtain ⟨a,xs,e,hq,hr⟩:=q
  exact ⟨a,xs,e,h _ _ hq,Rps.same h ds hr⟩
 | .dict kvs,v,q=>by
  unfold Rp at q ⊢
  obtain ⟨a,xs,e,hq,hr⟩:=q
  exact ⟨a,xs,e,h _ _ hq,Rpd.same h kvs hr⟩
theorem Rps.same {H H':Hp} (h:Same H H'):∀ (ds:List PyData) {vs:List V},Rps H ds vs→Rps H' ds vs
 | [],vs,q=>by unfold Rps at q ⊢;exact q
 | d::ds,vs,q=>by
  unfold Rps at q ⊢
  obtain ⟨v,vs',e,h1,h2⟩:=q
  exact ⟨v,vs',e,Rp.same h d h1,Rps.same h ds h2⟩
theorem Rpd.same {H H':Hp} (h:Same H H'):∀ (ds:List (PyData×PyData)) {vs:List (Key×V)},Rpd H ds vs→Rpd H' ds vs
 | [],vs,q=>by unfold Rpd at q ⊢;exact q
 | (k,d)::ds,vs,q=>by
  unfold Rpd at q ⊢
  obtain ⟨k',v,vs',e,h0,h1,h2⟩:=q
  exact ⟨k',v,vs',e,h0,Rp.same h d h1,Rpd.same h ds h2⟩
end
theorem zdn {H:Hp}:∀ {ds:List PyData} {xs:List V},Rps H ds xs↔Paired (Rp H) ds xs
 | [],xs=>by
  constructor
  ·intro h;unfold Rps at h;subst h;exact .nil
  ·intro h;cases h;unfold Rps;rfl
 | d::ds,xs=>by
  constructor
  ·intro h
   unfold Rps at h
   obtain ⟨v,vs,rfl,h1,h2⟩:=h
   exact .cons h1 (zdn.mp h2)
  ·intro h
   cases h with
   | cons h1 h2=>unfold Rps;exact ⟨_,_,rfl,h1,zdn.mpr h2⟩
theorem Rps.length {H:Hp} {ds:List PyData} {xs:List V} (h:Rps H ds xs):ds.length=xs.length:=(zdn.mp h).length
theorem zfk {H:Hp} {ds:List PyData} {v:V} (h:Rp H (.list ds) v):∃ a xs,v=.ref a∧H a=some (.lst xs)∧Rps H ds xs:=by unfold Rp at h;exact h
theorem zco {H:Hp} {ds:List PyData} {v:V} (h:Rp H (.tuple ds) v):∃ a xs,v=.ref a∧H a=some (.tup xs)∧Rps H ds xs:=by unfold Rp at h;exact h
theorem zpk {H:Hp} {ds:List (PyData×PyData)} {v:V} (h:Rp H (.dict ds) v):∃ a xs,v=.ref a∧H a=some (.dK xs)∧Rpd H ds xs:=by unfold Rp at h;exact h
theorem zdp {H:Hp} {i:Int} {v:V} (h:Rp H (.int i) v):v=.int i:=by unfold Rp at h;exact h
theorem zny {H:Hp} {i:Str} {v:V} (h:Rp H (.str i) v):v=.str i:=by unfold Rp at h;exact h
theorem zlp {H:Hp} {i:Bool} {v:V} (h:Rp H (.bool i) v):v=.bl i:=by unfold Rp at h;exact h
theorem zadm {H:Hp} {v:V} (h:Rp H .none v):v=.non:=by unfold Rp at h;exact h
theorem zad {H:Hp} {i:Int}:Rp H (.int i) (.int i):=by unfold Rp;rfl
theorem zaz {H:Hp} {i:Str}:Rp H (.str i) (.str i):=by unfold Rp;rfl
theorem zbu {H:Hp} {i:Bool}:Rp H (.bool i) (.bl i):=by unfold Rp;rfl
theorem zaaw {H:Hp}:Rp H .none .non:=by unfold Rp;rfl
theorem ziw {H:Hp} {ds:List PyData} {a:Addr} {xs:List V} (h:H a=some (.lst xs)) (r:Rps H ds xs):Rp H (.list ds) (.ref a):=by unfold Rp;exact ⟨a,xs,rfl,h,r⟩
theorem zxr {H:Hp} {ds:List PyData} {a:Addr} {xs:List V} (h:H a=some (.tup xs)) (r:Rps H ds xs):Rp H (.tuple ds) (.ref a):=by unfold Rp;exact ⟨a,xs,rfl,h,r⟩
theorem zmy {H:Hp} {ds:List (PyData×PyData)} {a:Addr} {xs:List (Key×V)} (h:H a=some (.dK xs)) (r:Rpd H ds xs):Rp H (.dict ds) (.ref a):=by unfold Rp;exact ⟨a,xs,rfl,h,r⟩
theorem zen {H:Hp}:Rps H [] []:=by unfold Rps;rfl
theorem zmz {H:Hp}:Rpd H [] []:=by unfold Rpd;rfl
theorem zdq {H:Hp} {d:PyData} {ds:List PyData} {v:V} {vs:List V} (h:Rp H d v) (r:Rps H ds vs):Rps H (d::ds) (v::vs):=by
 show Rps H (d::ds) _
 unfold Rps;exact ⟨v,vs,rfl,h,r⟩
theorem Rps.append {H:Hp} {ds es:List PyData} {vs ws:List V} (h:Rps H ds vs) (r:Rps H es ws):Rps H (ds++es) (vs++ws):=by
 replace h:=zdn.mp h
 refine zdn.mpr ?_
 induction h with
 | nil=>exact zdn.mp r
 | cons h _ ih=>exact .cons h ih
theorem Rps.get2 {H:Hp} {ds:List PyData} {vs:List V} (h:Rps H ds vs) {i:Nat} {d:PyData} (e:ds[i]?=some d):∃ v,vs[i]?=some v∧Rp H d v:=by
 replace h:=zdn.mp h
 induction h generalizing i with
 | nil=>simp at e
 | cons h _ ih =>
  cases i with
  | zero=>simp at e;subst e;exact ⟨_,rfl,h⟩
  | succ i=>simpa using ih (by simpa using e)
open Classical in
noncomputable def Offs (A:Addr→Prop) (H:Hp):Hp:=fun b=>if A b then none else H b
theorem Offs.get {A:Addr→Prop} {H:Hp} {b:Addr} (h:¬ A b):Offs A H b=H b:=if_neg h
theorem Offs.out {A:Addr→Prop} {H:Hp} {b:Addr} (h:A b):Offs A H b=none:=if_pos h
theorem Offs.of {A:Addr→Prop} {H:Hp} {b:Addr} {o:HO} (h:Offs A H b=some o):¬ A b∧H b=some o:=by
 by_cases hb:A b
 ·rw [Offs.out hb] at h;cases h
 ·rw [Offs.get hb] at h;exact ⟨hb,h⟩
theorem Offs.mono {A B:Addr→Prop} {H H':Hp} (s:Same H H') (h:∀ b o,H b=some o→¬ A b→¬ B b):Same (Offs A H) (Offs B H'):=fun b o e=>by
 obtain ⟨h1,h2⟩:=Offs.of e
 rw [Offs.get (h b o h2 h1)]
 exact s b o h2
theorem Offs.same (A:Addr→Prop) (H:Hp):Same (Offs A H) H:=fun b o e=>(Offs.of e).2
theorem Offs.sub {A B:Addr→Prop} {H:Hp} (h:∀ b,B b→A b):Same (Offs A H) (Offs B H):=Offs.mono (Same.refl _) fun b _ _ n z=>n (h b z)
theorem Offs.grow {A:Addr→Prop} {H H':Hp} (s:Same H H'):Same (Offs A H) (Offs A H'):=Offs.mono s fun _ _ _ z=>z
theorem Offs.upd {A:Addr→Prop} {H:Hp} {a:Addr} {o:HO} (h:A a):Offs A (upd H a o)=Offs A H:=by
 funext b
 by_cases hb:A b
 ·rw [Offs.out hb,Offs.out hb]
 ·rw [Offs.get hb,Offs.get hb,zbk (fun e=>hb (by rw [e];exact h))]
inductive Sl where
 | no
  | pl (d:PyData)
  | ac (d:PyData)
noncomputable abbrev DEnv:=List Sl
noncomputable def own (env:DEnv) (σ:St) (a:Addr):Prop:=∃ (i:Nat) (d:PyData),env[i]?=some (.ac d)∧σ[i]?=some (some (.ref a))
noncomputable def zeo (Ho H:Hp) (a:Addr):PyData→Prop
 | .list ds=>∃ xs,H a=some (.lst xs)∧Rps Ho ds xs
 | .dict kvs=>∃ ps,H a=some (.dK ps)∧Rpd Ho kvs ps
 | _=>False
theorem zeo.rp {Ho H H':Hp} {a:Addr} {d:PyData} (h:zeo Ho H a d) (s:Same Ho H') (e:∀ o,H a=some o→H' a=some o):Rp H' d (.ref a):=by
 cases d with
 | list ds =>
  obtain ⟨xs,h1,h2⟩:=h
  exact ziw (e _ h1) (Rps.same s _ h2)
 | dict ds =>
  obtain ⟨xs,h1,h2⟩:=h
  exact zmy (e _ h1) (Rpd.same s _ h2)
 | _=>exact h.elim
theorem zeo.same {Ho H Ho' H':Hp} {a:Addr} {d:PyData} (h:zeo Ho H a d) (s:Same Ho Ho') (e:∀ o,H a=some o→H' a=some o):zeo Ho' H' a d:=by
 cases d with
 | list ds =>
  obtain ⟨xs,h1,h2⟩:=h
  exact ⟨xs,e _ h1,Rps.same s _ h2⟩
 | dict ds =>
  obtain ⟨xs,h1,h2⟩:=h
  exact ⟨xs,e _ h1,Rpd.same s _ h2⟩
 | _=>exact h.elim
theorem zeo.ex {Ho H:Hp} {a:Addr} {d:PyData} (h:zeo Ho H a d):∃ o,H a=some o:=by
 cases d with
 | list ds=>obtain ⟨xs,h1,h2⟩:=h;exact ⟨_,h1⟩
 | dict ds=>obtain ⟨xs,h1,h2⟩:=h;exact ⟨_,h1⟩
 | _=>exact h.elim
structure EnvOk (fx:Addr→Prop) (H0:Hp) (env:DEnv) (σ:St) (H:Hp):Prop where
 len:env.length=σ.length
 pl:∀ (i:Nat) (d:PyData),env[i]?=some (.pl d)→∃ v,σ[i]?=some (some v)∧Rp (Offs (fun a=>fx a∨own env σ a) H) d v
 ac:∀ (i:Nat) (d:PyData),env[i]?=some (.ac d)→∃ a,σ[i]?=some (some (.ref a))∧H0 a=none∧¬ fx a∧zeo (Offs (fun a=>fx a∨own env σ a) H) H a d
 inj:∀ (i j:Nat) (d e:PyData) (a:Addr),env[i]?=some (.ac d)→env[j]?=some (.ac e)→σ[i]?=some (some (.ref a))→σ[j]?=some (some (.ref a))→i=j
 base:Same H0 H
 fxs:∀ b,fx b→∃ o,H b=some o
theorem EnvOk.grow {fx fx':Addr→Prop} {H0:Hp} {env:DEnv} {σ:St} {H H':Hp} (h:EnvOk fx H0 env σ H) (s:Same H H') (f:∀ b o,H b=some o→¬ fx b→¬ fx' b) (g:∀ b,fx' b→∃ o,H' b=some o):EnvOk fx' H0 env σ H':=by
 have so:Same (Offs (fun a=>fx a∨own env σ a) H) (Offs (fun a=>fx' a∨own env σ a) H'):=Offs.mono s fun b o e n=>fun z=>z.elim (f b o e fun y=>n (.inl y)) fun y=>n (.inr y)
 refine ⟨h.len,fun i d e=>?_,fun i d e=>?_,h.inj,h.base.trans s,g⟩
 ·obtain ⟨v,h1,h2⟩:=h.pl i d e
  exact ⟨v,h1,Rp.same so d h2⟩
 ·obtain ⟨a,h1,h2,h3,h4⟩:=h.ac i d e
  obtain ⟨o,ho⟩:=h4.ex
  exact ⟨a,h1,h2,f a o ho h3,h4.same so fun o=>s a o⟩
theorem EnvOk.up {fx:Addr→Prop} {H0:Hp} {env:DEnv} {σ:St} {H H':Hp} (h:EnvOk fx H0 env σ H) (s:Same H H'):EnvOk fx H0 env σ H' :=
 h.grow s (fun _ _ _ z=>z) fun b z=>let ⟨o,e⟩:=h.fxs b z;⟨o,s b o e⟩
structure Val where
 d:PyData
 fr:Bool
 bs:List Nat
noncomputable def lim (fx:Addr→Prop) (env:DEnv) (σ:St) (bs:List Nat) (a:Addr):Prop:=fx a∨∃ (i:Nat) (d:PyData),i∉bs∧env[i]?=some (.ac d)∧σ[i]?=some (some (.ref a))
structure ValOk (A:Addr→Prop) (H H':Hp) (r:Val) (v:V):Prop where
 rp:Rp (Offs A H') r.d v
 fr:r.fr=true→∃ a,v=.ref a∧H a=none∧zeo (Offs (fun b=>A b∨b=a) H') H' a r.d
theorem zjh {fx:Addr→Prop} {env:DEnv} {σ:St} {bs cs:List Nat} (h:∀ i∈bs,i∈cs):∀ a,lim fx env σ cs a→lim fx env σ bs a:=by
 rintro a (z|⟨i,d,h1,h2,h3⟩)
 ·exact .inl z
 ·exact .inr ⟨i,d,fun q=>h1 (h i q),h2,h3⟩
theorem zlq {fx:Addr→Prop} {env:DEnv} {σ:St} {bs:List Nat}:∀ a,lim fx env σ bs a→fx a∨own env σ a:=by
 rintro a (z|⟨i,d,h1,h2,h3⟩)
 ·exact .inl z
 ·exact .inr ⟨i,d,h2,h3⟩
theorem zakv {fx:Addr→Prop} {env:DEnv} {σ:St}:∀ a,fx a∨own env σ a→lim fx env σ [] a:=by
 rintro a (z|⟨i,d,h2,h3⟩)
 ·exact .inl z
 ·exact .inr ⟨i,d,by simp,h2,h3⟩
theorem EnvOk.lims {fx:Addr→Prop} {H0:Hp} {env:DEnv} {σ:St} {H:Hp} (h:EnvOk fx H0 env σ H) (bs:List Nat):∀ b,lim fx env σ bs b→∃ o,H b=some o:=by
 rintro b (z|⟨i,d,h1,h2,h3⟩)
 ·exact h.fxs b z
 ·obtain ⟨a,g1,g2,g3,g4⟩:=h.ac i d h2
  rw [h3] at g1
  cases g1
  exact g4.ex
theorem ValOk.later {A B:Addr→Prop} {H0 H H' H'':Hp} {r:Val} {v:V} (h:ValOk A H H' r v) (s0:Same H0 H) (s:Same H' H'') (hB:∀ b,B b→A b):ValOk B H0 H'' r v:=by
 refine ⟨Rp.same (Offs.mono s fun b _ _ n z=>n (hB b z)) _ h.rp,fun e=>?_⟩
 obtain ⟨a,h1,h2,h3⟩:=h.fr e
 exact ⟨a,h1,s0.free h2,h3.same (Offs.mono s fun b _ _ n z=>n (z.elim (fun y=>.inl (hB b y)) .inr)) fun o=>s a o⟩
noncomputable def zhb:PyData→Bool
 | .list _=>false
 | .tuple _=>false
 | .dict _=>false
 | _=>true
theorem zadn {H H':Hp} {d:PyData} {v:V} (f:zhb d=true) (h:Rp H d v):Rp H' d v:=by
 cases d<;>first
  | (unfold Rp at h ⊢;exact h)
  | cases f
noncomputable def bsOf (d:PyData) (bs:List Nat):List Nat:=if zhb d=true then [] else bs
theorem zna {fx:Addr→Prop} {env:DEnv} {σ:St} {bs:List Nat} {H:Hp} {d:PyData} {v:V} (h:Rp (Offs (lim fx env σ bs) H) d v):Rp (Offs (lim fx env σ (bsOf d bs)) H) d v:=by
 unfold bsOf
 split
 ·rename_i e;exact zadn e h
 ·exact h
noncomputable abbrev EF:=DEnv→Option Val
noncomputable def SE (te:TE) (f:EF):Prop:=∀ (fx:Addr→Prop) (H0:Hp) (env:DEnv) (σ:St) (H:Hp),EnvOk fx H0 env σ H→∀ r,f env=some r→∀ Q:VK,(∀ v H',Same H H'→ValOk (lim fx env σ r.bs) H H' r v→Q v H')→te σ H Q
noncomputable abbrev TF:=DEnv→Option Bool
noncomputable def ST (tt:TT) (f:TF):Prop:=∀ (fx:Addr→Prop) (H0:Hp) (env:DEnv) (σ:St) (H:Hp),EnvOk fx H0 env σ H→∀ b,f env=some b→∀ Q:Bool→Hp→Prop,(∀ H',Same H H'→Q b H')→tt σ H Q
noncomputable abbrev AF:=DEnv→Option (List Val)
noncomputable def SA (ta:TA) (f:AF):Prop:=∀ (fx:Addr→Prop) (H0:Hp) (env:DEnv) (σ:St) (H:Hp),EnvOk fx H0 env σ H→∀ rs,f env=some rs→∀ Q:List V→Hp→Prop,
 (∀ vs H',Same H H'→Paired (fun r v=>ValOk (lim fx env σ r.bs) H H' r v) rs vs→Q vs H')→ta σ H Q
section
variable {X:Cx}
noncomputable def eVar (i:Nat):EF:=fun env=>match env[i]? with
 | some (.pl d)=>some ⟨d,false,[]⟩
 | some (.ac d)=>some ⟨d,false,[i]⟩
 | _=>none
theorem zaf (i:Nat):SE (tVar i) (eVar i):=by
 intro fx H0 env σ H h r hr Q q
 unfold eVar at hr
 cases e:env[i]? with
 | none=>rw [e] at hr;cases hr
 | some sl =>
  rw [e] at hr
  cases sl with
  | no=>cases hr
  | pl d =>
   cases hr
   obtain ⟨v,h1,h2⟩:=h.pl i d e
   exact ⟨v,h1,q v H (Same.refl _) ⟨Rp.same (Offs.sub zlq) _ h2,fun z=>by cases z⟩⟩
  | ac d =>
   cases hr
   obtain ⟨a,h1,h2,h3,h4⟩:=h.ac i d e
   have hna:¬ lim fx env σ [i] a:=by
    rintro (z|⟨j,d',g1,g2,g3⟩)
    ·exact h3 z
    ·exact g1 (qu.mpr (h.inj j i d' d a g2 e g3 h1))
   exact ⟨_,h1,q _ H (Same.refl _) ⟨h4.rp (Offs.sub zlq) fun o z=>by rw [Offs.get hna];exact z,fun z=>by cases z⟩⟩
noncomputable def eC (d:PyData):EF:=fun _=>some ⟨d,false,[]⟩
theorem se_c {d:PyData} {v:V} (h:∀ H,Rp H d v):SE (tC v) (eC d):=by
 intro fx H0 env σ H _ r hr Q q
 cases hr
 exact q v H (Same.refl _) ⟨h _,fun z=>by cases z⟩
noncomputable abbrev OF:=PyData→PyData→Option (PyData×Bool)
noncomputable def SO (r:R2) (f:OF):Prop:=∀ (A:Addr→Prop) (H:Hp) (x y:V) (dx dy:PyData),(∀ b,A b→∃ o,H b=some o)→Rp (Offs A H) dx x→Rp (Offs A H) dy y→∀ d fr,f dx dy=some (d,fr)→∀ Q:VK,
 (∀ v H',Same H H'→Rp (Offs A H') d v→(fr=true→∃ a,v=.ref a∧H a=none∧zeo (Offs (fun b=>A b∨b=a) H') H' a d)→Q v H')→r x y H Q
noncomputable def eOp (f:OF) (a b:EF):EF:=fun env=>(a env).bind fun x=>(b env).bind fun y=>(f x.d y.d).bind fun z=>some ⟨z.1,z.2,bsOf z.1 (x.bs++y.bs)⟩
theorem zbw {r:R2} {f:OF} {ta tb:TE} {fa fb:EF} (ho:SO r f) (ha:SE ta fa) (hb:SE tb fb):SE (tOp r ta tb) (eOp f fa fb):=by
 intro fx H0 env σ H h rr hr Q q
 unfold eOp at hr
 obtain ⟨x,ex,hr⟩:=qA.mp hr
 obtain ⟨y,ey,hr⟩:=qA.mp hr
 obtain ⟨⟨d,fr⟩,ez,hr⟩:=qA.mp hr
 cases hr
 refine ha fx H0 env σ H h x ex _ fun v H1 s1 v1=>hb fx H0 env σ H1 (h.up s1) y ey _ fun u H2 s2 v2=>?_
 have l1:∀ b,lim fx env σ (x.bs++y.bs) b→lim fx env σ x.bs b:=zjh fun i hi=>qv _ hi
 have l2:∀ b,lim fx env σ (x.bs++y.bs) b→lim fx env σ y.bs b:=zjh fun i hi=>qW _ hi
 refine ho (lim fx env σ (x.bs++y.bs)) H2 v u x.d y.d ((h.up (s1.trans s2)).lims _) (v1.later (Same.refl _) s2 l1).rp (v2.later (Same.refl _) (Same.refl _) l2).rp d fr ez _ fun w H3 s3 rp fr3=>q w H3 ((s1.trans s2).trans s3) ⟨zna rp,fun e=>?_⟩
 obtain ⟨a,g1,g2,g3⟩:=fr3 e
 refine ⟨a,g1,(s1.trans s2).free g2,?_⟩
 have nf:zhb d=false:=by cases d<;>first|rfl|exact g3.elim
 show zeo (Offs (fun b=>lim fx env σ (bsOf d (x.bs++y.bs)) b∨b=a) H3) H3 a d
 rw [show bsOf d (x.bs++y.bs)=x.bs++y.bs by unfold bsOf;rw [if_neg (by rw [nf];decide)]]
 exact g3
end
theorem zhy {n:Nat} (h:n≤100000):n≤qd:=qAQ h (by decide)
theorem znb {n:Nat} (h:n<100000):n<qd:=Nat.lt_trans h (by decide)
theorem zet {A:Addr→Prop} {H:Hp} (hA:∀ b,A b→∃ o,H b=some o) {p:Addr} (hp:H p=none):¬ A p:=fun z=>by
 obtain ⟨o,e⟩:=hA p z
 rw [hp] at e;cases e
theorem zsv {A:Addr→Prop} {H:Hp} {p:Addr} {ds:List PyData} {xs:List V} (hp:H p=none) (r:Rps (Offs A H) ds xs):zeo (Offs (fun b=>A b∨b=p) (upd H p (.lst xs))) (upd H p (.lst xs)) p (.list ds):=by
 refine ⟨xs,zbe,Rps.same (Offs.mono (Same.new hp) fun b o e n z=>?_) _ r⟩
 rcases z with z|z
 ·exact n z
 ·rw [z,hp] at e;cases e
theorem zzj {A:Addr→Prop} {H:Hp} {p:Addr} {ds:List PyData} {xs:List V} (hp:H p=none) (hA:¬ A p) (r:Rps (Offs A H) ds xs):Rp (Offs A (upd H p (.lst xs))) (.list ds) (.ref p) :=
 ziw (by rw [Offs.get hA];exact zbe) (Rps.same (Offs.grow (Same.new hp)) _ r)
theorem znc {A:Addr→Prop} {H:Hp} {p:Addr} {ds:List PyData} {xs:List V} (hp:H p=none) (hA:¬ A p) (r:Rps (Offs A H) ds xs):Rp (Offs A (upd H p (.tup xs))) (.tuple ds) (.ref p) :=
 zxr (by rw [Offs.get hA];exact zbe) (Rps.same (Offs.grow (Same.new hp)) _ r)
theorem zcm {A:Addr→Prop} {H:Hp} {a:Addr} {o:HO} (h:Offs A H a=some o):H a=some o:=(Offs.of h).2
noncomputable def addD:OF
 | .int i,.int j=>some (.int (i+j),false)
 | .str a,.str b=>if a.length+b.length≤100000 then some (.str (a++b),false) else none
 | .list a,.list b=>if a.length+b.length≤100000 then some (.list (a++b),true) else none
 | .tuple a,.tuple b=>if a.isEmpty=false∧a.length+b.length≤100000 then some (.tuple (a++b),false) else none
 | _,_=>none
theorem zdr {K:qB}:SO (zagt K) addD:=by
 intro A H x y dx dy hA rx ry d fr e Q q
 unfold addD at e
 split at e
 ·cases e
  cases zdp rx;cases zdp ry
  exact q _ H (Same.refl _) zad (fun z=>by cases z)
 ·split at e
  ·rename_i hl
   cases e
   cases zny rx;cases zny ry
   exact ⟨zhy hl,q _ H (Same.refl _) zaz (fun z=>by cases z)⟩
  ·cases e
 ·split at e
  ·rename_i hl
   cases e
   obtain ⟨p,xs,rfl,hp,r1⟩:=zfk rx
   obtain ⟨p',ys,rfl,hp',r2⟩:=zfk ry
   refine .inl ⟨p,p',xs,ys,rfl,rfl,zcm hp,zcm hp',zhy (by rw [← r1.length,← r2.length];exact hl),fun b hb=>?_⟩
   exact q _ _ (Same.new hb) (zzj hb (zet hA hb) (r1.append r2)) fun _=>⟨b,rfl,hb,zsv hb (r1.append r2)⟩
  ·cases e
 ·split at e
  ·rename_i hl
   cases e
   obtain ⟨p,xs,rfl,hp,r1⟩:=zco rx
   obtain ⟨p',ys,rfl,hp',r2⟩:=zco ry
   refine .inr ⟨p,p',xs,ys,rfl,rfl,SqT.of (zcm hp),SqT.of (zcm hp'),fun z=>?_,zhy (by rw [← r1.length,← r2.length];exact hl.2),fun z=>?_,fun _ b hb=>?_⟩
   ·have h1:=r1.length
    have h0:=hl.1
    rw [z] at h1
    rw [List.isEmpty_eq_false_iff] at h0
    exact h0 (qAc.mp h1)
   ·have h2:=r2.length
    rw [z] at h2
    have:=qAc.mp h2
    subst this
    rw [qAS] at q
    exact q _ H (Same.refl _) rx (fun z=>by cases z)
   ·exact q _ _ (Same.new hb) (znc hb (zet hA hb) (r1.append r2)) (fun z=>by cases z)
  ·cases e
 ·cases e
noncomputable def intD (c:Int→Int→Bool) (f:Int→Int→PyData):OF
 | .int i,.int j=>if c i j=true then some (f i j,false) else none
 | _,_=>none
theorem zado {C:Int→Int→Prop} {g:Int→Int→V} {c:Int→Int→Bool} {f:Int→Int→PyData} (hc:∀ i j,c i j=true→C i j) (hf:∀ H i j,Rp H (f i j) (g i j)):SO (rI C g) (intD c f):=by
 intro A H x y dx dy hA rx ry d fr e Q q
 unfold intD at e
 split at e
 ·split at e
  ·rename_i h
   cases e
   cases zdp rx;cases zdp ry
   exact ⟨_,_,rfl,rfl,hc _ _ h,q _ H (Same.refl _) (hf _ _ _) (fun z=>by cases z)⟩
  ·cases e
 ·cases e
theorem zxs {g:Int→Int→V} {f:Int→Int→PyData} (hf:∀ H i j,Rp H (f i j) (g i j)):SO (rI0 g) (intD (fun _ _=>true) f):=by
 intro A H x y dx dy hA rx ry d fr e Q q
 unfold intD at e
 split at e
 ·split at e
  ·cases e
   cases zdp rx;cases zdp ry
   exact ⟨_,_,rfl,rfl,q _ H (Same.refl _) (hf _ _ _) (fun z=>by cases z)⟩
  ·cases e
 ·cases e
noncomputable def subD:OF:=intD (fun _ _=>true) fun i j=>.int (i - j)
theorem zadp:SO (rI0 fun i j=>.int (i - j)) subD:=zxs fun _ _ _=>zad
noncomputable def ltD:OF:=intD (fun _ _=>true) fun i j=>.bool (decide (i<j))
theorem zapu:SO (rI0 fun i j=>.bl (decide (i<j))) ltD:=zxs fun _ _ _=>zbu
noncomputable def gtD:OF:=intD (fun _ _=>true) fun i j=>.bool (decide (j<i))
theorem zapv:SO (rI0 fun i j=>.bl (decide (j<i))) gtD:=zxs fun _ _ _=>zbu
noncomputable def modD:OF:=intD (fun _ j=>decide (0<j)) fun i j=>.int (i % j)
theorem znz:SO (rI (fun _ j=>0<j) fun i j=>.int (i % j)) modD:=zado (fun _ _ h=>of_decide_eq_true h) fun _ _ _=>zad
noncomputable def zxt:OF:=intD (fun _ j=>decide (0<j∧j<1073741824)) fun i j=>.int (i / j)
theorem zadq:SO (rI CDiv fun i j=>.int (i / j)) zxt:=zado (fun i j h=>(of_decide_eq_true h:0<j∧j<1073741824)) fun _ _ _=>zad
noncomputable def powD:OF:=intD (fun i j=>decide (0≤j∧j≤1000000∧i.natAbs<2 ^ 64)) fun i j=>.int (i ^ j.toNat)
theorem zany:SO (rI CPow fun i j=>.int (i ^ j.toNat)) powD:=zado (fun i j h=>(of_decide_eq_true h:0≤j∧j≤1000000∧i.natAbs<2 ^ 64)) fun _ _ _=>zad
noncomputable def mulD:OF
 | .int i,.int j=>if (-(2 ^ 64)<i∧i<2 ^ 64)∨(-(2 ^ 64)<j∧j<2 ^ 64) then some (.int (i * j),false) else none
 | .str z,.int n=>if z.length≤1000∧-1000≤n∧n≤1000 then some (.str (Txt.mul z n),false) else none
 | _,_=>none
theorem zli:SO zanv mulD:=by
 intro A H x y dx dy hA rx ry d fr e Q q
 unfold mulD at e
 split at e
 ·split at e
  ·rename_i h
   cases e
   cases zdp rx;cases zdp ry
   exact ⟨h,q _ H (Same.refl _) zad (fun z=>by cases z)⟩
  ·cases e
 ·split at e
  ·rename_i h
   cases e
   cases zny rx;cases zdp ry
   exact ⟨h.1,h.2.1,h.2.2,q _ H (Same.refl _) zaz (fun z=>by cases z)⟩
  ·cases e
 ·cases e
mutual
theorem zpl {K:qB} {H:Hp}:∀ {d:PyData} {v:V},d.canLay0=true→Rp H d v→Rep K H d v
 | .none,v,_,h=>by unfold Rp at h;unfold Rep;exact h
 | .bool b,v,_,h=>by unfold Rp at h;unfold Rep;exact h
 | .int i,v,_,h=>by unfold Rp at h;unfold Rep;exact h
 | .str x,v,_,h=>by unfold Rp at h;unfold Rep;exact h
 | .list ds,v,c,h=>by
  obtain ⟨a,xs,e,h1,h2⟩:=zfk h
  unfold Rep
  exact ⟨a,xs,e,SqL.of h1,zsw (by simpa [PyData.canLay0] using c) h2⟩
 | .tuple ds,v,c,h=>by
  obtain ⟨a,xs,e,h1,h2⟩:=zco h
  unfold Rep
  exact ⟨a,xs,e,SqT.of h1,zsw (by simpa [PyData.canLay0] using c) h2⟩
 | .dict _,v,c,h=>by simp [PyData.canLay0] at c
theorem zsw {K:qB} {H:Hp}:∀ {ds:List PyData} {vs:List V},qAi ds=true→Rps H ds vs→Reps K H ds vs
 | [],vs,_,h=>by unfold Rps at h;unfold Reps;exact h
 | d::ds,vs,c,h=>by
  unfold Rps at h
  obtain ⟨v,ws,e,h1,h2⟩:=h
  have c:d.canLay0=true∧qAi ds=true:=by simpa [qAi] using c
  unfold Reps
  exact ⟨v,ws,e,zpl c.1 h1,zsw c.2 h2⟩
end
noncomputable def zagu:PyData→PyData→Bool
 | .none,.none=>true|.none,.int _=>true|.int _,.none=>true|.none,.bool _=>true|.bool _,.none=>true|.none,.str _=>true|.str _,.none=>true
 | .int _,.int _=>true|.bool _,.bool _=>true|.str _,.str _=>true
 | .int _,.str _=>true|.str _,.int _=>true|.bool _,.str _=>true|.str _,.bool _=>true
 | _,_=>false
noncomputable def eqOk (dx dy:PyData):Bool:=zagu dx dy||(qAK dx&&qAK dy)
noncomputable def eqD:OF:=fun dx dy=>if eqOk dx dy=true then some (.bool (qAA dx dy),false) else none
noncomputable def neD:OF:=fun dx dy=>if eqOk dx dy=true then some (.bool (!PyData.eqv dx dy),false) else none
theorem zadr {H:Hp} {dx dy:PyData} {x y:V} (s:zagu dx dy=true) (rx:Rp H dx x) (ry:Rp H dy y):scal x y=true∧decide (x=y)=qAA dx dy:=by
 cases dx<;>cases dy<;>first
  | (exact absurd (show false=true from s) qK)
  | (unfold Rp at rx ry;subst rx;subst ry;refine ⟨rfl,?_⟩;first|rfl|exact zxl|exact zack|exact zxm|simp [qAA])
theorem zxu {K:qB}:SO (fun x y H Q=>rEq x y H Q∨rEqD K false x y H Q) eqD:=by
 intro A H x y dx dy hA rx ry d fr e Q q
 unfold eqD at e
 split at e
 ·rename_i h
  cases e
  cases hs:zagu dx dy with
  | true =>
   obtain ⟨h1,h2⟩:=zadr hs rx ry
   exact .inl ⟨h1,by rw [h2];exact q _ H (Same.refl _) zbu (fun z=>by cases z)⟩
  | false =>
   unfold eqOk at h
   rw [hs,qCG,qt] at h
   have rx:=Rp.same (Offs.same A H) _ rx
   have ry:=Rp.same (Offs.same A H) _ ry
   exact .inr ⟨dx,dy,zpl (qAV h.1) rx,zpl (qAV h.2) ry,h.1,h.2,q _ H (Same.refl _) zbu (fun z=>by cases z)⟩
 ·cases e
theorem zakw {K:qB}:SO (fun x y H Q=>rNe x y H Q∨rEqD K true x y H Q) neD:=by
 intro A H x y dx dy hA rx ry d fr e Q q
 unfold neD at e
 split at e
 ·rename_i h
  cases e
  cases hs:zagu dx dy with
  | true =>
   obtain ⟨h1,h2⟩:=zadr hs rx ry
   exact .inl ⟨h1,by rw [h2];exact q _ H (Same.refl _) zbu (fun z=>by cases z)⟩
  | false =>
   unfold eqOk at h
   rw [hs,qCG,qt] at h
   have rx:=Rp.same (Offs.same A H) _ rx
   have ry:=Rp.same (Offs.same A H) _ ry
   exact .inr ⟨dx,dy,zpl (qAV h.1) rx,zpl (qAV h.2) ry,h.1,h.2,q _ H (Same.refl _) zbu (fun z=>by cases z)⟩
 ·cases e
noncomputable def zds (ds:List PyData):Bool:=ds.all zhb
theorem zair {H:Hp} {d:PyData} {v:V} (f:zhb d=true) (h:Rp H d v):zrd v=true:=by
 cases d<;>first
  | (unfold Rp at h;subst h;rfl)
  | cases f
theorem zakx {H:Hp} {ds:List PyData} {vs:List V} (f:zds ds=true) (h:Rps H ds vs):vs.all zrd=true:=by
 replace h:=zdn.mp h
 induction h with
 | nil=>rfl
 | cons h _ ih =>
  unfold zds at f
  rw [qA9,qt] at f
  rw [qA9,zair f.1 h,ih f.2];rfl
theorem zaky {H:Hp} {d e:PyData} {v u:V} (f:zhb d=true) (g:zhb e=true) (h:Rp H d v) (k:Rp H e u):eqV v u=qAA d e:=by
 cases d<;>cases e<;>first
  | (unfold Rp at h k;subst h;subst k;rfl)
  | exact absurd (show false=true from f) qK
  | exact absurd (show false=true from g) qK
theorem zakz {H:Hp} {d:PyData} {v:V} (f:zhb d=true) (h:Rp H d v) {ds:List PyData} {vs:List V} (g:zds ds=true) (r:Rps H ds vs):inV v vs=ds.any fun e=>qAA e d:=by
 replace r:=zdn.mp r
 unfold inV
 induction r with
 | nil=>rfl
 | cons r _ ih =>
  unfold zds at g
  rw [qA9,qt] at g
  rw [qAn,qAn,zaky g.1 f r h,ih g.2]
noncomputable def zhz:PyData→Option (List PyData)
 | .list ds=>some ds
 | .tuple ds=>some ds
 | _=>none
noncomputable def inD (neg:Bool):OF:=fun d c=>match zhz c with
 | some ds=>if zhb d=true∧zds ds=true then some (.bool (if neg then !(ds.any fun e=>qAA e d) else ds.any fun e=>qAA e d),false) else none
 | none=>none
theorem zzk {K:qB} {H:Hp} {c:PyData} {v:V} {ds:List PyData} (h:Rp H c v) (e:zhz c=some ds):∃ p xs,v=.ref p∧(SqL K H p xs∨SqT K H p xs)∧Rps H ds xs:=by
 cases c<;>first
  | cases e
  | skip
 ·obtain ⟨a,xs,e,h1,h2⟩:=zfk h;exact ⟨a,xs,e,.inl (SqL.of h1),h2⟩
 ·obtain ⟨a,xs,e,h1,h2⟩:=zco h;exact ⟨a,xs,e,.inr (SqT.of h1),h2⟩
theorem zre {K:qB} {neg:Bool}:SO (rIn K neg) (inD neg):=by
 intro A H x y dx dy hA rx ry d fr e Q q
 unfold inD at e
 split at e
 ·rename_i ds hi
  split at e
  ·rename_i h
   cases e
   have rx:=Rp.same (Offs.same A H) _ rx
   obtain ⟨p,xs,rfl,hq,r⟩:=zzk (K:=K) (Rp.same (Offs.same A H) _ ry) hi
   refine ⟨p,xs,rfl,hq,zair h.1 rx,zakx h.2 r,?_⟩
   rw [zakz h.1 rx h.2 r]
   refine q _ H (Same.refl _) ?_ (fun z=>by cases z)
   cases neg<;>exact zbu
  ·cases e
 ·cases e
noncomputable def ixD:OF
 | .str z,.int i=>if z.length≤100000 then (atI z.cps.toList i).map fun c=>(.str ⟨#[c]⟩,false) else none
 | .list ds,.int i=>(atI ds i).map fun d=>(d,false)
 | .tuple ds,.int i=>(atI ds i).map fun d=>(d,false)
 | _,_=>none
theorem Rps.atI {H:Hp} {ds:List PyData} {vs:List V} (h:Rps H ds vs) {i:Int} {d:PyData} (e:atI ds i=some d):∃ v,L2.atI vs i=some v∧Rp H d v:=by
 unfold L2.atI at e ⊢
 rw [← h.length]
 cases g:ixN ds.length i with
 | none=>rw [g] at e;cases e
 | some j =>
  rw [g] at e
  exact h.get2 e
theorem zpm {K:qB}:SO (rIxU K) ixD:=by
 intro A H x y dx dy hA rx ry d fr e Q q
 unfold ixD at e
 split at e
 ·split at e
  ·rename_i z i hl
   obtain ⟨c,hc,e⟩:=qH.mp e
   cases e
   cases zny rx;cases zdp ry
   exact ⟨zhy hl,c,hc,q _ H (Same.refl _) zaz (fun z=>by cases z)⟩
  ·cases e
 ·obtain ⟨c,hc,e⟩:=qH.mp e
  cases e
  obtain ⟨p,xs,rfl,hp,r⟩:=zfk rx
  cases zdp ry
  obtain ⟨v,hv,rv⟩:=r.atI hc
  exact ⟨xs,v,.inl (SqL.of (zcm hp)),hv,q _ H (Same.refl _) rv (fun z=>by cases z)⟩
 ·obtain ⟨c,hc,e⟩:=qH.mp e
  cases e
  obtain ⟨p,xs,rfl,hp,r⟩:=zco rx
  cases zdp ry
  obtain ⟨v,hv,rv⟩:=r.atI hc
  exact ⟨xs,v,.inr (SqT.of (zcm hp)),hv,q _ H (Same.refl _) rv (fun z=>by cases z)⟩
 ·cases e
noncomputable def zlr:List (PyData×PyData)→Key→Option PyData
 | [],_=>none
 | (k,d)::r,j=>if keyD k=some j then some d else zlr r j
noncomputable def zxv (kvs:List (PyData×PyData)) (j:Key):Bool:=(zlr kvs j).isSome
noncomputable def zor (kvs:List (PyData×PyData)) (k:PyData) (d:PyData):List (PyData×PyData) :=
 if (kvs.any fun kv=>decide (keyD kv.1=keyD k))=true then kvs.map (fun kv=>if keyD kv.1=keyD k then (kv.1,d) else kv) else kvs++[(k,d)]
noncomputable def znd (kvs more:List (PyData×PyData)):List (PyData×PyData):=more.foldl (fun acc kv=>zor acc kv.1 kv.2) kvs
theorem zkx {H:Hp} {k d:PyData} {r:List (PyData×PyData)} {k':Key} {v:V} {vs:List (Key×V)} (hk:keyD k=some k') (h:Rp H d v) (q:Rpd H r vs):Rpd H ((k,d)::r) ((k',v)::vs):=by
 show Rpd H ((k,d)::r) _
 unfold Rpd;exact ⟨k',v,vs,rfl,hk,h,q⟩
theorem zhl {H:Hp} {k d:PyData} {r:List (PyData×PyData)} {ps:List (Key×V)} (h:Rpd H ((k,d)::r) ps):∃ k' v vs,ps=(k',v)::vs∧keyD k=some k'∧Rp H d v∧Rpd H r vs:=by
 unfold Rpd at h;exact h
theorem Rpd.length {H:Hp}:∀ {kvs:List (PyData×PyData)} {ps:List (Key×V)},Rpd H kvs ps→kvs.length=ps.length
 | [],ps,h=>by unfold Rpd at h;subst h;rfl
 | (k,d)::r,ps,h=>by
  obtain ⟨k',v,vs,rfl,_,_,h3⟩:=zhl h
  rw [qa,qa,h3.length]
theorem Rpd.get {H:Hp} {j:Key}:∀ {kvs:List (PyData×PyData)} {ps:List (Key×V)},Rpd H kvs ps→match zlr kvs j with
  | some d=>∃ v,valV ps j=some v∧Rp H d v
  | none=>valV ps j=none
 | [],ps,h=>by unfold Rpd at h;subst h;rfl
 | (k,d)::r,ps,h=>by
  obtain ⟨k',v,vs,rfl,hk,h2,h3⟩:=zhl h
  have ih:=Rpd.get (j:=j) h3
  unfold zlr
  by_cases e:k'=j
  ·rw [if_pos (by rw [hk,e])]
   exact ⟨v,zpd e,h2⟩
  ·rw [if_neg (fun z=>e (by rw [hk] at z;exact qT z)),zpe e]
   exact ih
theorem Rpd.any {H:Hp} {j:Key}:∀ {kvs:List (PyData×PyData)} {ps:List (Key×V)},Rpd H kvs ps→(kvs.any fun kv=>decide (keyD kv.1=some j))=ps.any fun kv=>decide (kv.1=j)
 | [],ps,h=>by unfold Rpd at h;subst h;rfl
 | (k,d)::r,ps,h=>by
  obtain ⟨k',v,vs,rfl,hk,h2,h3⟩:=zhl h
  rw [qAn,qAn,h3.any,hk]
  congr 1
  simp
theorem Rpd.map {H:Hp} {j:Key} {d':PyData} {v':V} (h':Rp H d' v'):∀ {kvs:List (PyData×PyData)} {ps:List (Key×V)},Rpd H kvs ps→Rpd H (kvs.map fun kv=>if keyD kv.1=some j then (kv.1,d') else kv) (ps.map fun kv=>if kv.1=j then (kv.1,v') else kv)
 | [],ps,h=>by unfold Rpd at h;subst h;exact zmz
 | (k,d)::r,ps,h=>by
  obtain ⟨k',v,vs,rfl,hk,h2,h3⟩:=zhl h
  rw [qe,qe]
  by_cases e:k'=j
  ·rw [if_pos (show keyD (k,d).1=some j by rw [hk,e]),if_pos (show ((k',v):Key×V).1=j from e)]
   exact zkx hk h' (Rpd.map h' h3)
  ·rw [if_neg (show ¬ keyD (k,d).1=some j from fun z=>e (by rw [hk] at z;exact qT z)),if_neg (show ¬ ((k',v):Key×V).1=j from e)]
   exact zkx hk h2 (Rpd.map h' h3)
theorem Rpd.snoc {H:Hp} {k d:PyData} {k':Key} {v:V} (hk:keyD k=some k') (h':Rp H d v):∀ {kvs:List (PyData×PyData)} {ps:List (Key×V)},Rpd H kvs ps→Rpd H (kvs++[(k,d)]) (ps++[(k',v)])
 | [],ps,h=>by unfold Rpd at h;subst h;exact zkx hk h' zmz
 | (k0,d0)::r,ps,h=>by
  obtain ⟨k1,v1,vs,rfl,hk1,h2,h3⟩:=zhl h
  exact zkx hk1 h2 (Rpd.snoc hk h' h3)
theorem Rpd.put {H:Hp} {k d:PyData} {j:Key} {v:V} {kvs:List (PyData×PyData)} {ps:List (Key×V)} (h:Rpd H kvs ps) (hk:keyD k=some j) (h':Rp H d v):Rpd H (zor kvs k d) (putK ps j v):=by
 unfold zor putK
 rw [hk,h.any]
 split
 ·exact h.map h'
 ·exact h.snoc hk h'
theorem Rpd.merge {H:Hp}:∀ {more:List (PyData×PyData)} {ps:List (Key×V)} {kvs:List (PyData×PyData)} {qs:List (Key×V)},Rpd H kvs qs→Rpd H more ps→Rpd H (znd kvs more) (zmc qs ps)
 | [],ps,kvs,qs,h,g=>by unfold Rpd at g;subst g;exact h
 | (k,d)::r,ps,kvs,qs,h,g=>by
  obtain ⟨k',v,vs,rfl,hk,h2,h3⟩:=zhl g
  show Rpd H (znd (zor kvs k d) r) (zmc (putK qs k' v) vs)
  exact Rpd.merge (h.put hk h2) h3
theorem zads {H:Hp} {d:PyData} {v:V} {k:Key} (h:Rp H d v) (e:keyD d=some k):v=kV k:=by
 cases d<;>first
  | (cases e;unfold Rp at h;exact h)
  | cases e
noncomputable def zaqk (a b:EF):EF:=fun env=>(a env).bind fun x=>(b env).bind fun y=>match x.d with
 | .dict kvs=>(keyD y.d).bind fun k=>(zlr kvs k).bind fun d=>some ⟨d,false,bsOf d x.bs⟩
 | _=>none
noncomputable def eDIn (neg:Bool) (a b:EF):EF:=fun env=>(a env).bind fun x=>(b env).bind fun y=>match y.d with
 | .dict kvs=>(keyD x.d).bind fun k=>some ⟨.bool (if neg then !zxv kvs k else zxv kvs k),false,[]⟩
 | _=>none
theorem zala {H:Hp} {kvs:List (PyData×PyData)} {ps:List (Key×V)} (r:Rpd H kvs ps) (k:Key):(valV ps k).isSome=zxv kvs k:=by
 have g:=r.get (j:=k)
 unfold zxv
 cases e:zlr kvs k with
 | none=>rw [e] at g;rw [show valV ps k=none from g];rfl
 | some d=>rw [e] at g;obtain ⟨w,e1,_⟩:=g;rw [e1];rfl
theorem zais {td ty:TE} {fa fb:EF} (ha:SE ty fa) (hb:SE td fb):SE (tDIn ty td) (eDIn false fa fb):=by
 intro fx H0 env σ H h rr hr Q q
 unfold eDIn at hr
 obtain ⟨⟨dx,frx,bx⟩,ex,hr⟩:=qA.mp hr
 obtain ⟨⟨dy,fry,by'⟩,ey,hr⟩:=qA.mp hr
 cases dy with
 | dict kvs =>
  obtain ⟨k,ek,hr⟩:=qA.mp hr
  cases hr
  refine ha fx H0 env σ H h _ ex _ fun v H1 s1 v1=>hb fx H0 env σ H1 (h.up s1) _ ey _ fun u H2 s2 v2=>?_
  obtain ⟨a,ps,rfl,hp,r⟩:=zpk v2.rp
  rw [zads v1.rp ek]
  exact ⟨a,_,rfl,DGet.k (zcm hp),by rw [zala r k];exact q _ H2 (s1.trans s2) ⟨zbu,fun z=>by cases z⟩⟩
 | _=>cases hr
noncomputable def zbb (f:EF):TF:=fun env=>(f env).bind fun r=>match r.d with|.bool b=>some b|_=>none
theorem st_b {te:TE} {f:EF} (h:SE te f):ST (tB te) (zbb f):=by
 intro fx H0 env σ H hE b hb Q q
 unfold zbb at hb
 obtain ⟨⟨d,fr,bs⟩,e,hb⟩:=qA.mp hb
 cases d with
 | bool c =>
  have hb:some c=some b:=hb
  cases hb
  exact h fx H0 env σ H hE _ e _ fun v H' s v1=>⟨_,zlp v1.rp,q H' s⟩
 | _=>cases hb
theorem st_t {te:TE} {f:EF} (h:SE te f):ST (tTest te) (zbb f):=st_b h
noncomputable def truD:PyData→Option Bool
 | .none=>some false
 | .bool b=>some b
 | .int i=>some (i != 0)
 | .str x=>if x.length≤100000 then some ((x.length:Int) != 0) else none
 | .list ds=>some (!ds.isEmpty)
 | .tuple ds=>some (!ds.isEmpty)
 | .dict ds=>some (!ds.isEmpty)
noncomputable def tTru (f:EF):TF:=fun env=>(f env).bind fun r=>truD r.d
theorem zls {α β:Type} {xs:List α} {ys:List β} (h:xs.length=ys.length):xs.isEmpty=ys.isEmpty:=by
 cases xs<;>cases ys<;>simp at h<;>rfl
theorem zanz {K:qB} {H:Hp} {d:PyData} {v:V} {b:Bool} (h:Rp H d v) (e:truD d=some b):TruV K v H b:=by
 cases d with
 | none=>cases e;cases zadm h;rfl
 | bool c=>cases e;cases zlp h;rfl
 | int i=>cases e;cases zdp h;rfl
 | str x =>
  have e:(if x.length≤100000 then some ((x.length:Int) != 0) else none)=some b:=e
  split at e
  ·rename_i hl;cases e;cases zny h;exact ⟨zhy hl,rfl⟩
  ·cases e
 | list ds=>cases e;obtain ⟨a,xs,rfl,h1,h2⟩:=zfk h;exact .inl ⟨xs,SqL.of h1,by rw [zls h2.length]⟩
 | tuple ds=>cases e;obtain ⟨a,xs,rfl,h1,h2⟩:=zco h;exact .inr (.inl ⟨xs,SqT.of h1,by rw [zls h2.length]⟩)
 | dict ds=>cases e;obtain ⟨a,xs,rfl,h1,h2⟩:=zpk h;exact .inr (.inr ⟨xs,h1,by rw [zls h2.length]⟩)
theorem zrr {K:qB} {te:TE} {f:EF} (h:SE te f):ST (fun σ H Q=>te σ H fun x H1=>∃ k,TruV K x H1 k∧Q k H1) (tTru f):=by
 intro fx H0 env σ H hE b hb Q q
 unfold tTru at hb
 obtain ⟨r,e,hb⟩:=qA.mp hb
 exact h fx H0 env σ H hE _ e _ fun v H' s v1=>⟨b,zanz (Rp.same (Offs.same _ _) _ v1.rp) hb,q H' s⟩
noncomputable def zxw (f g:TF):TF:=fun env=>(f env).bind fun b=>if b=true then g env else some false
noncomputable def tOrF (f g:TF):TF:=fun env=>(f env).bind fun b=>if b=true then some true else g env
noncomputable def zne (f:TF):TF:=fun env=>(f env).map fun b=>!b
theorem zaoa {t u:TT} {f g:TF} (h:ST t f) (k:ST u g):ST (tAnd t u) (zxw f g):=by
 intro fx H0 env σ H hE b hb Q q
 unfold zxw at hb
 obtain ⟨c,e,hb⟩:=qA.mp hb
 refine h fx H0 env σ H hE c e _ fun H' s=>?_
 cases c with
 | true=>exact iteT (k fx H0 env σ H' (hE.up s) b hb _ fun H'' s'=>q H'' (s.trans s'))
 | false=>cases hb;exact iteF (q H' s)
theorem zaob {t u:TT} {f g:TF} (h:ST t f) (k:ST u g):ST (tOr t u) (tOrF f g):=by
 intro fx H0 env σ H hE b hb Q q
 unfold tOrF at hb
 obtain ⟨c,e,hb⟩:=qA.mp hb
 refine h fx H0 env σ H hE c e _ fun H' s=>?_
 cases c with
 | false=>exact iteF (k fx H0 env σ H' (hE.up s) b hb _ fun H'' s'=>q H'' (s.trans s'))
 | true=>cases hb;exact iteT (q H' s)
theorem zadt {t:TT} {f:TF} (h:ST t f):ST (tNot t) (zne f):=by
 intro fx H0 env σ H hE b hb Q q
 unfold zne at hb
 obtain ⟨c,e,rfl⟩:=qH.mp hb
 exact h fx H0 env σ H hE c e _ fun H' s=>q H' s
noncomputable def asB:PyData→Option Bool|.bool b=>some b|_=>none
noncomputable def eAnd (a b:EF):EF:=fun env=>(a env).bind fun x=>(asB x.d).bind fun c=>if c=true then b env else some ⟨.bool false,false,[]⟩
theorem as_b {H:Hp} {d:PyData} {v:V} {c:Bool} (h:Rp H d v) (e:asB d=some c):v=.bl c:=by
 cases d<;>first
  | (cases e;exact zlp h)
  | cases e
theorem zaoc {ta tb:TE} {fa fb:EF} (ha:SE ta fa) (hb:SE tb fb):SE (tAndV ta tb) (eAnd fa fb):=by
 intro fx H0 env σ H h rr hr Q q
 unfold eAnd at hr
 obtain ⟨x,ex,hr⟩:=qA.mp hr
 obtain ⟨c,ec,hr⟩:=qA.mp hr
 refine ha fx H0 env σ H h _ ex _ fun v H1 s1 v1=>⟨c,as_b v1.rp ec,?_⟩
 cases c with
 | true=>exact iteT (hb fx H0 env σ H1 (h.up s1) _ hr _ fun u H2 s2 v2=>q u H2 (s1.trans s2) (v2.later s1 (Same.refl _) fun _ z=>z))
 | false=>cases hr;exact iteF (q _ H1 s1 ⟨zbu,fun z=>by cases z⟩)
noncomputable def aNil:AF:=fun _=>some []
noncomputable def zac (a:EF) (r:AF):AF:=fun env=>(a env).bind fun x=>(r env).map fun xs=>x::xs
theorem zax:SA tNil aNil:=by
 intro fx H0 env σ H h rs hr Q q
 cases hr
 exact q [] H (Same.refl _) .nil
theorem zaj {te:TE} {ta:TA} {f:EF} {g:AF} (h1:SE te f) (h2:SA ta g):SA (tCons te ta) (zac f g):=by
 intro fx H0 env σ H h rs hr Q q
 unfold zac at hr
 obtain ⟨x,ex,hr⟩:=qA.mp hr
 obtain ⟨xs,exs,rfl⟩:=qH.mp hr
 exact h1 fx H0 env σ H h x ex _ fun v H1 s1 v1=>h2 fx H0 env σ H1 (h.up s1) xs exs _ fun vs H2 s2 vs2=>q (v::vs) H2 (s1.trans s2)
  (.cons (v1.later (Same.refl _) s2 fun _ z=>z) (Paired.mapP vs2 fun _ _ z=>z.later s1 (Same.refl _) fun _ y=>y))
noncomputable def zix (rs:List Val):List PyData:=rs.map (·.d)
noncomputable def bss (rs:List Val):List Nat:=rs.flatMap (·.bs)
theorem zil {fx:Addr→Prop} {env:DEnv} {σ:St} {H H':Hp}:∀ {rs:List Val} {vs:List V} {cs:List Nat},(∀ i∈bss rs,i∈cs)→Paired (fun r v=>ValOk (lim fx env σ r.bs) H H' r v) rs vs→Rps (Offs (lim fx env σ cs) H') (zix rs) vs
 | _,_,_,_,.nil=>zen
 | r::rs,v::vs,cs,hc,.cons h t=>zdq (Rp.same (Offs.sub (zjh fun i hi=>hc i (qA6.mpr ⟨r,qg,hi⟩))) _ h.rp)
   (zil (fun i hi=>hc i (by obtain ⟨x,h1,h2⟩:=qA6.mp hi;exact qA6.mpr ⟨x,qI _ h1,h2⟩)) t)
noncomputable def eTup (f:AF):EF:=fun env=>(f env).bind fun rs=>if rs.length≤100000 then some ⟨.tuple (zix rs),false,bss rs⟩ else none
noncomputable def eLst (f:AF):EF:=fun env=>(f env).bind fun rs=>if rs.length≤100000 then some ⟨.list (zix rs),true,bss rs⟩ else none
theorem zjz (rs:List Val):(zix rs).length=rs.length:=by unfold zix;rw [qE]
theorem zoa {ta:TA} {f:AF} (ha:SA ta f):SE (tTup ta) (eTup f):=by
 intro fx H0 env σ H h rr hr Q q
 unfold eTup at hr
 obtain ⟨rs,er,hr⟩:=qA.mp hr
 split at hr
 ·rename_i hl
  cases hr
  refine ha fx H0 env σ H h rs er _ fun vs H1 s1 v1=>?_
  have r:=zil (fun i hi=>hi) v1
  have hA:=(h.up s1).lims (bss rs)
  refine ⟨zhy (by rw [← r.length,zjz];exact hl),fun p hp=>q _ _ (s1.trans (Same.new hp)) ⟨znc hp (zet hA hp) r,fun z=>by cases z⟩⟩
 ·cases hr
theorem zhf {ta:TA} {f:AF} (ha:SA ta f):SE (tLst ta) (eLst f):=by
 intro fx H0 env σ H h rr hr Q q
 unfold eLst at hr
 obtain ⟨rs,er,hr⟩:=qA.mp hr
 split at hr
 ·rename_i hl
  cases hr
  refine ha fx H0 env σ H h rs er _ fun vs H1 s1 v1=>?_
  have r:=zil (fun i hi=>hi) v1
  have hA:=(h.up s1).lims (bss rs)
  refine ⟨zhy (by rw [← r.length,zjz];exact hl),fun p hp=>q _ _ (s1.trans (Same.new hp)) ⟨zzj hp (zet hA hp) r,fun _=>⟨p,rfl,s1.free hp,zsv hp r⟩⟩⟩
 ·cases hr
noncomputable def zaax:EF:=fun _=>some ⟨.dict [],true,[]⟩
theorem zsx:SE tDNewK zaax:=by
 intro fx H0 env σ H h rr hr Q q
 cases hr
 intro p hp
 have hA:=h.lims []
 exact q _ _ (Same.new hp) ⟨zmy (by rw [Offs.get (zet hA hp)];exact zbe) zmz,fun _=>⟨p,rfl,hp,⟨[],zbe,zmz⟩⟩⟩
noncomputable def eD1 (k v:EF):EF:=fun env=>(k env).bind fun x=>(v env).bind fun y=>(keyD x.d).bind fun _=>some ⟨.dict [(x.d,y.d)],true,y.bs⟩
theorem zapw {tk tv:TE} {f g:EF} (h1:SE tk f) (h2:SE tv g):SE (tDisp [(tk,tv)]) (eD1 f g):=by
 intro fx H0 env σ H h rr hr Q q
 unfold eD1 at hr
 obtain ⟨x,ex,hr⟩:=qA.mp hr
 obtain ⟨y,ey,hr⟩:=qA.mp hr
 obtain ⟨k,ek,hr⟩:=qA.mp hr
 cases hr
 intro p hp
 have hp0:Same H (upd H p (.dK [])):=Same.new hp
 have npf:¬ fx p:=zet h.fxs hp
 have hE:EnvOk (fun b=>fx b∨b=p) H0 env σ (upd H p (.dK [])):=h.grow hp0 (fun b o e n z=>z.elim n fun y=>by rw [y,hp] at e;cases e) fun b z=>by
  rcases z with z|z
  ·obtain ⟨o,e⟩:=h.fxs b z;exact ⟨o,hp0 b o e⟩
  ·rw [z];exact ⟨_,zbe⟩
 refine h1 _ H0 env σ _ hE x ex _ fun v H1 s1 v1=>h2 _ H0 env σ H1 (hE.up s1) y ey _ fun u H2 s2 v2=>?_
 have ep:H2 p=some (.dK []):=(s1.trans s2) _ _ zbe
 refine ⟨ep,[(k,u)],by rw [zads v1.rp ek];rfl,(by show 1≤15;decide),?_⟩
 have em:zmc [] [(k,u)]=[(k,u)]:=rfl
 rw [em]
 have rp2:Rp (Offs (fun b=>lim fx env σ y.bs b∨b=p) (upd H2 p (.dK [(k,u)]))) y.d u:=by
  rw [Offs.upd (.inr rfl)]
  exact Rp.same (Offs.sub fun b z=>by
   rcases z with (z|z)|z
   ·exact .inl (.inl z)
   ·exact .inr z
   ·exact .inl (.inr z)) _ v2.rp
 have hs:Same H (upd H2 p (.dK [(k,u)])):=fun b o e=>by
  rw [zbk (zbs e hp)]
  exact s2 _ _ (s1 _ _ (hp0 _ _ e))
 have hnp:¬ lim fx env σ y.bs p:=zet (h.lims y.bs) hp
 refine q _ _ hs ⟨zmy (by rw [Offs.get hnp];exact zbe) (zkx ek (Rp.same (Offs.sub fun b z=>.inl z) _ rp2) zmz),fun _=>⟨p,rfl,hp,⟨_,zbe,zkx ek rp2 zmz⟩⟩⟩
noncomputable abbrev GF:=List PyData→Option (PyData×Bool)
noncomputable def SC (r:List V→Hp→VK→Prop) (g:GF):Prop:=∀ (A:Addr→Prop) (H:Hp) (vs:List V) (ds:List PyData),(∀ b,A b→∃ o,H b=some o)→Rps (Offs A H) ds vs→∀ d fr,g ds=some (d,fr)→∀ Q:VK,
 (∀ v H',Same H H'→Rp (Offs A H') d v→(fr=true→∃ a,v=.ref a∧H a=none∧zeo (Offs (fun b=>A b∨b=a) H') H' a d)→Q v H')→r vs H Q
noncomputable def eCB (g:GF) (f:AF):EF:=fun env=>(f env).bind fun rs=>(g (zix rs)).bind fun z=>some ⟨z.1,z.2,bsOf z.1 (bss rs)⟩
theorem zlf {r:List V→Hp→VK→Prop} {g:GF} {ta:TA} {f:AF} (hc:SC r g) (ha:SA ta f):SE (tCB r ta) (eCB g f):=by
 intro fx H0 env σ H h rr hr Q q
 unfold eCB at hr
 obtain ⟨rs,er,hr⟩:=qA.mp hr
 obtain ⟨⟨d,fr⟩,ez,hr⟩:=qA.mp hr
 cases hr
 refine ha fx H0 env σ H h rs er _ fun vs H1 s1 v1=>hc (lim fx env σ (bss rs)) H1 vs (zix rs) ((h.up s1).lims _) (zil (fun i hi=>hi) v1) d fr ez _ fun w H3 s3 rp fr3=>q w H3 (s1.trans s3) ⟨zna rp,fun e=>?_⟩
 obtain ⟨a,g1,g2,g3⟩:=fr3 e
 refine ⟨a,g1,s1.free g2,?_⟩
 have nf:zhb d=false:=by cases d<;>first|rfl|exact g3.elim
 show zeo (Offs (fun b=>lim fx env σ (bsOf d (bss rs)) b∨b=a) H3) H3 a d
 rw [show bsOf d (bss rs)=bss rs by unfold bsOf;rw [if_neg (by rw [nf];decide)]]
 exact g3
theorem rps1 {H:Hp} {d:PyData} {vs:List V} (h:Rps H [d] vs):∃ v,vs=[v]∧Rp H d v:=by
 unfold Rps at h
 obtain ⟨v,ws,rfl,h1,h2⟩:=h
 unfold Rps at h2
 subst h2
 exact ⟨v,rfl,h1⟩
theorem rps2 {H:Hp} {d e:PyData} {vs:List V} (h:Rps H [d,e] vs):∃ v u,vs=[v,u]∧Rp H d v∧Rp H e u:=by
 unfold Rps at h
 obtain ⟨v,ws,rfl,h1,h2⟩:=h
 obtain ⟨u,rfl,h3⟩:=rps1 h2
 exact ⟨v,u,rfl,h1,h3⟩
noncomputable def lenD:GF
 | [.str x]=>if x.length≤100000 then some (.int x.length,false) else none
 | [.list ds]=>some (.int ds.length,false)
 | [.tuple ds]=>some (.int ds.length,false)
 | _=>none
theorem zmf {K:qB}:SC (fun xs H Q=>∃ x n,xs=[x]∧LenV K x H n∧Q (.int n) H) lenD:=by
 intro A H vs ds hA rv d fr e Q q
 unfold lenD at e
 split at e
 ·split at e
  ·rename_i hl
   cases e
   obtain ⟨v,rfl,r⟩:=rps1 rv
   cases zny r
   exact ⟨_,_,rfl,⟨zhy hl,rfl⟩,q _ H (Same.refl _) zad (fun z=>by cases z)⟩
  ·cases e
 ·cases e
  obtain ⟨v,rfl,r⟩:=rps1 rv
  obtain ⟨a,xs,rfl,h1,h2⟩:=zfk r
  exact ⟨_,_,rfl,.inl ⟨xs,SqL.of (zcm h1),rfl⟩,by rw [← h2.length];exact q _ H (Same.refl _) zad (fun z=>by cases z)⟩
 ·cases e
  obtain ⟨v,rfl,r⟩:=rps1 rv
  obtain ⟨a,xs,rfl,h1,h2⟩:=zco r
  exact ⟨_,_,rfl,.inr ⟨xs,SqT.of (zcm h1),rfl⟩,by rw [← h2.length];exact q _ H (Same.refl _) zad (fun z=>by cases z)⟩
 ·cases e
noncomputable def minD:GF
 | [.int i,.int j]=>some (.int (if j<i then j else i),false)
 | _=>none
theorem zaod:SC (fun xs H Q=>∃ i j,xs=[.int i,.int j]∧Q (.int (if j<i then j else i)) H) minD:=by
 intro A H vs ds hA rv d fr e Q q
 unfold minD at e
 split at e
 ·cases e
  obtain ⟨v,u,rfl,r1,r2⟩:=rps2 rv
  cases zdp r1;cases zdp r2
  exact ⟨_,_,rfl,q _ H (Same.refl _) zad (fun z=>by cases z)⟩
 ·cases e
noncomputable def absD:GF
 | [.int i]=>some (.int (if i<0 then -i else i),false)
 | _=>none
theorem zaoe:SC (fun xs H Q=>∃ i,xs=[.int i]∧Q (.int (if i<0 then -i else i)) H) absD:=by
 intro A H vs ds hA rv d fr e Q q
 unfold absD at e
 split at e
 ·cases e
  obtain ⟨v,rfl,r1⟩:=rps1 rv
  cases zdp r1
  exact ⟨_,rfl,q _ H (Same.refl _) zad (fun z=>by cases z)⟩
 ·cases e
noncomputable def zalb:GF
 | [c]=>(zhz c).map fun ds=>(.list ds,true)
 | _=>none
theorem zalc {K:qB}:SC (fun xs H Q=>∃ p ys,xs=[.ref p]∧(SqL K H p ys∨SqT K H p ys)∧∀ l,H l=none→Q (.ref l) (upd H l (.lst ys))) zalb:=by
 intro A H vs ds hA rv d fr e Q q
 unfold zalb at e
 split at e
 ·obtain ⟨es,he,e⟩:=qH.mp e
  cases e
  obtain ⟨v,rfl,r1⟩:=rps1 rv
  obtain ⟨p,xs,rfl,hq,r⟩:=zzk (K:=K) r1 he
  refine ⟨p,xs,rfl,hq.imp (Offs.same A H).seq (SqT.same (Offs.same A H)),fun l hl=>?_⟩
  exact q _ _ (Same.new hl) (zzj hl (zet hA hl) r) fun _=>⟨l,rfl,hl,zsv hl r⟩
 ·cases e
noncomputable def zka:GF
 | [c]=>(zhz c).map fun ds=>(.tuple ds,false)
 | _=>none
theorem zsy {K:qB}:SC (fun xs H Q=>∃ p ys,xs=[.ref p]∧((SqL K H p ys∧∀ l,H l=none→Q (.ref l) (upd H l (.tup ys)))∨(SqT K H p ys∧Q (.ref p) H))) zka:=by
 intro A H vs ds hA rv d fr e Q q
 unfold zka at e
 split at e
 ·obtain ⟨es,he,e⟩:=qH.mp e
  cases e
  obtain ⟨v,rfl,r1⟩:=rps1 rv
  rename_i c
  cases c with
  | list ds =>
   cases he
   obtain ⟨p,xs,rfl,h1,r⟩:=zfk r1
   exact ⟨p,xs,rfl,.inl ⟨SqL.of (zcm h1),fun l hl=>q _ _ (Same.new hl) (znc hl (zet hA hl) r) (fun z=>by cases z)⟩⟩
  | tuple ds =>
   cases he
   obtain ⟨p,xs,rfl,h1,r⟩:=zco r1
   exact ⟨p,xs,rfl,.inr ⟨SqT.of (zcm h1),q _ H (Same.refl _) r1 (fun z=>by cases z)⟩⟩
  | _=>cases he
 ·cases e
noncomputable def zpn:List PyData→Option (List Bool)
 | []=>some []
 | .bool b::r=>(zpn r).map fun bs=>b::bs
 | _=>none
theorem zvf {H:Hp}:∀ {ds:List PyData} {vs:List V} {bs:List Bool},Rps H ds vs→zpn ds=some bs→vs=bs.map V.bl
 | [],vs,bs,h,e=>by unfold Rps at h;cases e;exact h
 | d::ds,vs,bs,h,e=>by
  unfold Rps at h
  obtain ⟨v,ws,rfl,h1,h2⟩:=h
  cases d with
  | bool b =>
   obtain ⟨cs,ec,rfl⟩:=qH.mp e
   rw [zlp h1,zvf h2 ec];rfl
  | _=>cases e
noncomputable def anyD (f:List Bool→Bool):GF
 | [.list ds]=>(zpn ds).map fun bs=>(.bool (f bs),false)
 | _=>none
theorem zadu {K:qB} {f:List Bool→Bool}:SC (rAny K f) (anyD f):=by
 intro A H vs ds hA rv d fr e Q q
 unfold anyD at e
 split at e
 ·obtain ⟨bs,he,e⟩:=qH.mp e
  cases e
  obtain ⟨v,rfl,r1⟩:=rps1 rv
  obtain ⟨p,xs,rfl,h1,r⟩:=zfk r1
  cases zvf r he
  exact ⟨p,bs,rfl,SqL.of (zcm h1),q _ H (Same.refl _) zbu (fun z=>by cases z)⟩
 ·cases e
noncomputable def zvg:PyData→String
 | .none=>"NoneType" | .bool _=>"bool" | .int _=>"int" | .str _=>"str" | .list _=>"list" | .tuple _=>"tuple" | .dict _=>"dict"
theorem zapx {K:qB} {H:Hp} {d:PyData} {v:V} (h:Rp H d v):TyOf K H v (.type (zvg d)):=by
 cases d with
 | list ds=>obtain ⟨a,xs,rfl,h1,_⟩:=zfk h;exact .lst h1
 | tuple ds=>obtain ⟨a,xs,rfl,h1,_⟩:=zco h;exact .tup h1
 | dict ds=>obtain ⟨a,xs,rfl,h1,_⟩:=zpk h;exact .dK h1
 | none=>cases zadm h;exact .non
 | bool b=>cases zlp h;exact .bl _
 | int b=>cases zdp h;exact .int _
 | str b=>cases zny h;exact .str _
noncomputable def isiB (n:String) (d:PyData):Bool:=zvg d==n||(zvg d == "bool" && n == "int")
noncomputable def eIsi (n:String) (a:EF):EF:=fun env=>(a env).map fun x=>⟨.bool (isiB n x.d),false,[]⟩
theorem zadv {K:qB} {n:String} {te:TE} {f:EF} (h1:SE te f) (hk:∀ d,PySem.W.kitOne K (.type (zvg d)) (.type n)=some (isiB n d)) :
  SE (tCB (fun xs H Q=>∃ x n t b,xs=[x,.ty n]∧TyOf K H x t∧PySem.W.kitOne K t (.type n)=some b∧Q (.bl b) H) (tCons te (tCons (tC (.ty n)) tNil))) (eIsi n f):=by
 intro fx H0 env σ H h rr hr Q q
 unfold eIsi at hr
 obtain ⟨x,ex,rfl⟩:=qH.mp hr
 refine h1 fx H0 env σ H h _ ex _ fun v H1 s1 v1=>?_
 exact ⟨v,n,_,_,rfl,zapx (Rp.same (Offs.same _ _) _ v1.rp),hk _,q _ H1 s1 ⟨zbu,fun z=>by cases z⟩⟩
theorem zpo {K:qB}:∀ d,PySem.W.kitOne K (.type (zvg d)) (.type "tuple")=some (isiB "tuple" d):=by intro d;cases d<;>rfl
noncomputable abbrev PF':=DEnv→Option (Option Int)
noncomputable def SPt (t:TO) (f:PF'):Prop:=∀ (fx:Addr→Prop) (H0:Hp) (env:DEnv) (σ:St) (H:Hp),EnvOk fx H0 env σ H→∀ r,f env=some r→∀ Q:Option Int→Hp→Prop,(∀ H',Same H H'→Q r H')→t σ H Q
noncomputable def zsz:PF':=fun _=>some none
noncomputable def zos (a:EF):PF':=fun env=>(a env).bind fun x=>match x.d with|.int i=>some (some i)|_=>none
theorem zadw:SPt tNoPart zsz:=by
 intro fx H0 env σ H h r hr Q q
 cases hr
 exact q H (Same.refl _)
theorem zadx {te:TE} {f:EF} (h1:SE te f):SPt (tPart te) (zos f):=by
 intro fx H0 env σ H h r hr Q q
 unfold zos at hr
 obtain ⟨⟨d,fr,bs⟩,ex,hr⟩:=qA.mp hr
 cases d with
 | int i =>
  cases hr
  exact h1 fx H0 env σ H h _ ex _ fun v H1 s1 v1=>⟨i,zdp v1.rp,q H1 s1⟩
 | _=>cases hr
noncomputable def cutD (xs:List PyData) (lo hi:Option Int):List PyData:=(xs.drop (HT.sIx xs.length 0 lo)).take (HT.sIx xs.length xs.length hi - HT.sIx xs.length 0 lo)
theorem Rps.drop {H:Hp} {ds:List PyData} {vs:List V} (h:Rps H ds vs) (n:Nat):Rps H (ds.drop n) (vs.drop n):=by
 induction n generalizing ds vs with
 | zero=>exact h
 | succ n ih =>
  cases ds with
  | nil=>unfold Rps at h;subst h;exact zen
  | cons d ds=>unfold Rps at h;obtain ⟨v,ws,rfl,h1,h2⟩:=h;exact ih h2
theorem Rps.take {H:Hp} {ds:List PyData} {vs:List V} (h:Rps H ds vs) (n:Nat):Rps H (ds.take n) (vs.take n):=by
 induction n generalizing ds vs with
 | zero=>exact zen
 | succ n ih =>
  cases ds with
  | nil=>unfold Rps at h;subst h;exact zen
  | cons d ds=>unfold Rps at h;obtain ⟨v,ws,rfl,h1,h2⟩:=h;exact zdq h1 (ih h2)
theorem Rps.cut {H:Hp} {ds:List PyData} {vs:List V} (h:Rps H ds vs) (lo hi:Option Int):Rps H (cutD ds lo hi) (cutV vs lo hi):=by
 unfold cutD cutV
 rw [← h.length]
 exact (h.drop _).take _
noncomputable def slD (d:PyData) (lo hi:Option Int):Option (PyData×Bool):=match d with
 | .str z=>if z.length≤100000 then some (.str (Txt.slice z lo hi),false) else none
 | .list ds=>some (.list (cutD ds lo hi),true)
 | _=>none
noncomputable def eSl (a:EF) (l h:PF'):EF:=fun env=>(a env).bind fun x=>(l env).bind fun lo=>(h env).bind fun hi=>(slD x.d lo hi).bind fun z=>some ⟨z.1,z.2,bsOf z.1 x.bs⟩
theorem zaof {K:qB} {te:TE} {tl th:TO} {f:EF} {fl fh:PF'} (h1:SE te f) (h2:SPt tl fl) (h3:SPt th fh):SE (tSl (rSlU K) te tl th) (eSl f fl fh):=by
 intro fx H0 env σ H h rr hr Q q
 unfold eSl at hr
 obtain ⟨⟨d,frd,bs⟩,ex,hr⟩:=qA.mp hr
 obtain ⟨lo,el,hr⟩:=qA.mp hr
 obtain ⟨hi,eh,hr⟩:=qA.mp hr
 obtain ⟨⟨d',fr'⟩,ez,hr⟩:=qA.mp hr
 cases hr
 refine h1 fx H0 env σ H h _ ex _ fun v H1 s1 v1=>h2 fx H0 env σ H1 (h.up s1) _ el _ fun H2 s2=>h3 fx H0 env σ H2 (h.up (s1.trans s2)) _ eh _ fun H3 s3=>?_
 have v3:=(v1.later (Same.refl _) (s2.trans s3) fun _ z=>z).rp
 have t3:=(s1.trans s2).trans s3
 cases d with
 | str z =>
  have ez:(if z.length≤100000 then some (PyData.str (Txt.slice z lo hi),false) else none)=some (d',fr'):=ez
  split at ez
  ·rename_i hl
   cases ez
   cases zny v3
   exact ⟨zhy hl,q _ H3 t3 ⟨zaz,fun z=>by cases z⟩⟩
  ·cases ez
 | list ds =>
  cases ez
  obtain ⟨p,xs,rfl,hp,r⟩:=zfk v3
  refine ⟨p,xs,rfl,SqL.of (zcm hp),fun l hl=>q _ _ (t3.trans (Same.new hl)) ?_⟩
  have hA:=(h.up t3).lims bs
  exact ⟨zzj hl (zet hA hl) (r.cut lo hi),fun _=>⟨l,rfl,t3.free hl,zsv hl (r.cut lo hi)⟩⟩
 | _=>cases ez
noncomputable def zxx (fx:Addr→Prop) (H0:Hp) (d:PyData) (fr:Bool) (v:V) (H:Hp):Prop:=Rp (Offs fx H) d v∧(fr=true→∃ a,v=.ref a∧H0 a=none∧zeo (Offs (fun b=>fx b∨b=a) H) H a d)
noncomputable def spD (n:Nat) (g:GF):Sp:=fun vs H Q _=>∃ (fx:Addr→Prop) (ds:List PyData) (d:PyData) (fr:Bool),ds.length=n∧(∀ b,fx b→∃ o,H b=some o)∧Rps (Offs fx H) ds vs∧g ds=some (d,fr)∧∀ v H',Same H H'→zxx fx H d fr v H'→Q v H'
noncomputable def zck (n:Nat) (g:GF) (f:AF):EF:=fun env=>(f env).bind fun rs=>if rs.length=n then (g (zix rs)).bind fun z=>some ⟨z.1,z.2,bsOf z.1 (bss rs)⟩ else none
theorem zda {n:Nat} {g:GF} {ta:TA} {f:AF} (ha:SA ta f):SE (tCall (spD n g) [] E0 ta) (zck n g f):=by
 intro fx H0 env σ H h rr hr Q q
 unfold zck at hr
 obtain ⟨rs,er,hr⟩:=qA.mp hr
 split at hr
 ·rename_i hn
  obtain ⟨⟨d,fr⟩,ez,hr⟩:=qA.mp hr
  cases hr
  refine ha fx H0 env σ H h rs er _ fun vs H1 s1 v1=>?_
  rw [qAS]
  refine ⟨lim fx env σ (bss rs),zix rs,d,fr,by rw [zjz];exact hn,(h.up s1).lims _,zil (fun i hi=>hi) v1,ez,fun w H3 s3 ⟨rp,fr3⟩=>q w H3 (s1.trans s3) ⟨zna rp,fun e=>?_⟩⟩
  obtain ⟨a,g1,g2,g3⟩:=fr3 e
  refine ⟨a,g1,s1.free g2,?_⟩
  have nf:zhb d=false:=by cases d<;>first|rfl|exact g3.elim
  show zeo (Offs (fun b=>lim fx env σ (bsOf d (bss rs)) b∨b=a) H3) H3 a d
  rw [show bsOf d (bss rs)=bss rs by unfold bsOf;rw [if_neg (by rw [nf];decide)]]
  exact g3
 ·cases hr
inductive Out where
 | nx (env:DEnv)
 | bk (env:DEnv)
 | ct (env:DEnv)
 | rt (d:PyData) (fr:Bool)
noncomputable def Sat (fx:Addr→Prop) (H0:Hp) (D:Ends):Out→Prop
 | .nx env=>∀ σ H,EnvOk fx H0 env σ H→D.nx σ H
 | .bk env=>∀ σ H,EnvOk fx H0 env σ H→D.bk σ H
 | .ct env=>∀ σ H,EnvOk fx H0 env σ H→D.ct σ H
 | .rt d fr=>∀ v H,Same H0 H→zxx fx H0 d fr v H→D.rt v H
noncomputable abbrev SF:=DEnv→Option Out
noncomputable def SS (ts:TS) (F:SF):Prop:=∀ (fx:Addr→Prop) (H0:Hp) (env:DEnv) (σ:St) (H:Hp) (D:Ends),EnvOk fx H0 env σ H→∀ o,F env=some o→Sat fx H0 D o→ts D σ H
noncomputable def frz1 (env:DEnv) (i:Nat):DEnv:=match env[i]? with
 | some (.ac d)=>env.set i (.pl d)
 | _=>env
noncomputable def frzs (env:DEnv) (bs:List Nat):DEnv:=bs.foldl frz1 env
theorem zagv (env:DEnv) (i:Nat):(frz1 env i).length=env.length:=by
 unfold frz1;split
 ·rw [qr]
 ·rfl
theorem zbx {α:Type} {l:List α} {i j:Nat} {x y:α} (h:(l.set i x)[j]?=some y):(j=i∧y=x)∨(j≠i∧l[j]?=some y):=by
 rw [List.getElem?_set] at h
 by_cases e:i=j
 ·subst e
  rw [if_pos rfl] at h
  split at h
  ·exact .inl ⟨rfl,(qT h).symm⟩
  ·cases h
 ·rw [if_neg e] at h
  exact .inr ⟨fun z=>e z.symm,h⟩
theorem znf {env:DEnv} {i j:Nat} {d:PyData} (h:(frz1 env i)[j]?=some (.ac d)):env[j]?=some (.ac d)∧j≠i:=by
 unfold frz1 at h
 split at h
 ·rcases zbx h with ⟨_,e⟩|⟨e,h⟩
  ·cases e
  ·exact ⟨h,e⟩
 ·rename_i hn
  refine ⟨h,fun e=>?_⟩
  subst e
  exact hn d h
theorem zald {env:DEnv} {i j:Nat} {d:PyData} (h:(frz1 env i)[j]?=some (.pl d)):env[j]?=some (.pl d)∨(j=i∧env[i]?=some (.ac d)):=by
 unfold frz1 at h
 split at h
 ·rename_i d' hd
  rcases zbx h with ⟨e1,e⟩|⟨e,h⟩
  ·cases e;exact .inr ⟨e1,hd⟩
  ·exact .inl h
 ·exact .inl h
theorem zagw {env:DEnv} {σ:St} {i:Nat}:∀ a,own (frz1 env i) σ a→own env σ a:=by
 rintro a ⟨j,d,h1,h2⟩
 exact ⟨j,d,(znf h1).1,h2⟩
theorem EnvOk.frz1 {fx:Addr→Prop} {H0:Hp} {env:DEnv} {σ:St} {H:Hp} (h:EnvOk fx H0 env σ H) (i:Nat):EnvOk fx H0 (frz1 env i) σ H:=by
 have so:Same (Offs (fun a=>fx a∨own env σ a) H) (Offs (fun a=>fx a∨own (L2.frz1 env i) σ a) H):=Offs.sub fun b z=>z.imp (fun y=>y) (zagw b)
 refine ⟨by rw [zagv];exact h.len,fun j d e=>?_,fun j d e=>?_,fun j k d d' a h1 h2 h3 h4=>h.inj j k d d' a (znf h1).1 (znf h2).1 h3 h4,h.base,h.fxs⟩
 ·rcases zald e with e|⟨rfl,e⟩
  ·obtain ⟨v,h1,h2⟩:=h.pl j d e
   exact ⟨v,h1,Rp.same so _ h2⟩
  ·obtain ⟨a,h1,h2,h3,h4⟩:=h.ac j d e
   refine ⟨_,h1,h4.rp so fun o eo=>?_⟩
   rw [Offs.get]
   ·exact eo
   ·rintro (z|⟨k,d',z1,z2⟩)
    ·exact h3 z
    ·obtain ⟨z1,z3⟩:=znf z1
     exact z3 (h.inj k j d' d a z1 e z2 h1)
 ·obtain ⟨a,h1,h2,h3,h4⟩:=h.ac j d (znf e).1
  exact ⟨a,h1,h2,h3,h4.same so fun o z=>z⟩
theorem EnvOk.frzs {fx:Addr→Prop} {H0:Hp} {σ:St} {H:Hp}:∀ (bs:List Nat) {env:DEnv},EnvOk fx H0 env σ H→EnvOk fx H0 (frzs env bs) σ H
 | [],_,h=>h
 | i::bs,_,h=>EnvOk.frzs bs (h.frz1 i)
theorem zpp:∀ {bs:List Nat} {env:DEnv} {j:Nat} {d:PyData},(frzs env bs)[j]?=some (.ac d)→env[j]?=some (.ac d)∧j∉bs
 | [],_,_,_,h=>⟨h,by simp⟩
 | i::bs,env,j,d,h=>by
  obtain ⟨h1,h2⟩:=zpp (bs:=bs) h
  obtain ⟨h3,h4⟩:=znf h1
  exact ⟨h3,by simp [h4,h2]⟩
theorem zcx {fx:Addr→Prop} {env:DEnv} {σ:St} {bs:List Nat}:∀ a,fx a∨own (frzs env bs) σ a→lim fx env σ bs a:=by
 rintro a (z|⟨i,d,h1,h2⟩)
 ·exact .inl z
 ·obtain ⟨h3,h4⟩:=zpp h1
  exact .inr ⟨i,d,h4,h3,h2⟩
theorem zxy {env:DEnv} {σ:St} {i:Nat} {d:PyData} {v:V}:∀ a,own (env.set i (.pl d)) (σ.set i (some v)) a→own env σ a:=by
 rintro a ⟨j,e,h1,h2⟩
 rcases zbx h1 with ⟨_,z⟩|⟨ne,h1⟩
 ·cases z
 ·rcases zbx h2 with ⟨z,_⟩|⟨_,h2⟩
  ·exact absurd z ne
  ·exact ⟨j,e,h1,h2⟩
theorem EnvOk.setPl {fx:Addr→Prop} {H0:Hp} {env:DEnv} {σ:St} {H:Hp} (h:EnvOk fx H0 env σ H) (i:Nat) {d:PyData} {v:V} (r:Rp (Offs (fun a=>fx a∨own env σ a) H) d v):EnvOk fx H0 (env.set i (.pl d)) (σ.set i (some v)) H:=by
 have so:Same (Offs (fun a=>fx a∨own env σ a) H) (Offs (fun a=>fx a∨own (env.set i (.pl d)) (σ.set i (some v)) a) H):=Offs.sub fun b z=>z.imp (fun y=>y) (zxy b)
 have kept:∀ {j:Nat},j≠i→(σ.set i (some v))[j]?=σ[j]?:=fun {j} n=>qS fun z=>n z.symm
 refine ⟨by rw [qr,qr];exact h.len,fun j e hj=>?_,fun j e hj=>?_,fun j k d1 d2 a h1 h2 h3 h4=>?_,h.base,h.fxs⟩
 ·rcases zbx hj with ⟨rfl,z⟩|⟨ne,hj'⟩
  ·cases z
   have hl:j<env.length:=by have:=(qR.mp hj).1;rwa [qr] at this
   exact ⟨v,by rw [ql (by rw [← h.len];exact hl)],Rp.same so _ r⟩
  ·obtain ⟨u,h1,h2⟩:=h.pl j e hj'
   exact ⟨u,by rw [kept ne];exact h1,Rp.same so _ h2⟩
 ·rcases zbx hj with ⟨_,z⟩|⟨ne,hj'⟩
  ·cases z
  ·obtain ⟨a,h1,h2,h3,h4⟩:=h.ac j e hj'
   exact ⟨a,by rw [kept ne];exact h1,h2,h3,h4.same so fun o z=>z⟩
 ·rcases zbx h1 with ⟨_,z⟩|⟨n1,h1⟩
  ·cases z
  rcases zbx h2 with ⟨_,z⟩|⟨n2,h2⟩
  ·cases z
  rw [kept n1] at h3
  rw [kept n2] at h4
  exact h.inj j k d1 d2 a h1 h2 h3 h4
theorem EnvOk.setAc {fx:Addr→Prop} {H0:Hp} {env:DEnv} {σ:St} {H:Hp} {a:Addr} (h:EnvOk (fun b=>fx b∨b=a) H0 env σ H) (i:Nat) {d:PyData} (r:zeo (Offs (fun b=>(fx b∨own env σ b)∨b=a) H) H a d) (h0:H0 a=none) (hf:¬ fx a) :
  EnvOk fx H0 (env.set i (.ac d)) (σ.set i (some (.ref a))) H:=by
 have kept:∀ {j:Nat},j≠i→(σ.set i (some (V.ref a)))[j]?=σ[j]?:=fun {j} n=>qS fun z=>n z.symm
 have sub:∀ b,fx b∨own (env.set i (.ac d)) (σ.set i (some (.ref a))) b→(fx b∨b=a)∨own env σ b:=by
  rintro b (z|⟨j,e,h1,h2⟩)
  ·exact .inl (.inl z)
  ·rcases zbx h1 with ⟨rfl,z⟩|⟨ne,h1⟩
   ·have hl:j<env.length:=by have:=(qR.mp ‹(env.set j (.ac d))[j]?=_›).1;rwa [qr] at this
    rw [ql (by rw [← h.len];exact hl)] at h2
    cases h2
    exact .inl (.inr rfl)
   ·rw [kept ne] at h2
    exact .inr ⟨j,e,h1,h2⟩
 have so:Same (Offs (fun b=>(fx b∨b=a)∨own env σ b) H) (Offs (fun b=>fx b∨own (env.set i (.ac d)) (σ.set i (some (.ref a))) b) H):=Offs.sub sub
 have so2:Same (Offs (fun b=>(fx b∨own env σ b)∨b=a) H) (Offs (fun b=>fx b∨own (env.set i (.ac d)) (σ.set i (some (.ref a))) b) H):=Offs.sub fun b z=>by
  rcases sub b z with (y|y)|y
  ·exact .inl (.inl y)
  ·exact .inr y
  ·exact .inl (.inr y)
 refine ⟨by rw [qr,qr];exact h.len,fun j e hj=>?_,fun j e hj=>?_,fun j k d1 d2 b h1 h2 h3 h4=>?_,h.base,fun b z=>h.fxs b (.inl z)⟩
 ·rcases zbx hj with ⟨_,z⟩|⟨ne,hj'⟩
  ·cases z
  ·obtain ⟨u,h1,h2⟩:=h.pl j e hj'
   exact ⟨u,by rw [kept ne];exact h1,Rp.same so _ h2⟩
 ·rcases zbx hj with ⟨rfl,z⟩|⟨ne,hj'⟩
  ·cases z
   have hl:j<env.length:=by have:=(qR.mp hj).1;rwa [qr] at this
   exact ⟨a,by rw [ql (by rw [← h.len];exact hl)],h0,hf,r.same so2 fun o z=>z⟩
  ·obtain ⟨b,h1,h2,h3,h4⟩:=h.ac j e hj'
   exact ⟨b,by rw [kept ne];exact h1,h2,fun z=>h3 (.inl z),h4.same so fun o z=>z⟩
 ·rcases zbx h1 with ⟨e1,z1⟩|⟨n1,h1'⟩<;>rcases zbx h2 with ⟨e2,z2⟩|⟨n2,h2'⟩
  ·rw [e1,e2]
  ·subst e1
   have hl:j<env.length:=by have:=(qR.mp h1).1;rwa [qr] at this
   rw [ql (by rw [← h.len];exact hl)] at h3
   rw [kept n2] at h4
   cases h3
   obtain ⟨b,g1,g2,g3,g4⟩:=h.ac k d2 h2'
   rw [h4] at g1
   cases g1
   exact absurd (.inr rfl) g3
  ·subst e2
   have hl:k<env.length:=by have:=(qR.mp h2).1;rwa [qr] at this
   rw [ql (by rw [← h.len];exact hl)] at h4
   rw [kept n1] at h3
   cases h4
   obtain ⟨b,g1,g2,g3,g4⟩:=h.ac j d1 h1'
   rw [h3] at g1
   cases g1
   exact absurd (.inr rfl) g3
  ·rw [kept n1] at h3
   rw [kept n2] at h4
   exact h.inj j k d1 d2 b h1' h2' h3 h4
noncomputable def slOf (r:Val):Sl:=if r.fr=true then .ac r.d else .pl r.d
noncomputable def putV (env:DEnv) (i:Nat) (r:Val):DEnv:=(frzs env r.bs).set i (slOf r)
theorem EnvOk.put {fx:Addr→Prop} {H0:Hp} {env:DEnv} {σ:St} {H H':Hp} (h:EnvOk fx H0 env σ H) (s:Same H H') {r:Val} {v:V} (hv:ValOk (lim fx env σ r.bs) H H' r v) (i:Nat):EnvOk fx H0 (putV env i r) (σ.set i (some v)) H':=by
 unfold putV slOf
 cases e:r.fr with
 | false =>
  rw [if_neg qK]
  exact ((h.up s).frzs r.bs).setPl i (Rp.same (Offs.sub zcx) _ hv.rp)
 | true =>
  rw [if_pos rfl]
  obtain ⟨a,rfl,ha,hacc⟩:=hv.fr e
  have nfx:¬ fx a:=zet h.fxs ha
  have g:EnvOk (fun b=>fx b∨b=a) H0 env σ H':=h.grow s (fun b o eo n z=>z.elim n fun y=>by rw [y,ha] at eo;cases eo) fun b z=>by
   rcases z with z|z
   ·obtain ⟨o,eo⟩:=h.fxs b z;exact ⟨o,s b o eo⟩
   ·rw [z];exact hacc.ex
  refine (g.frzs r.bs).setAc i (hacc.same (Offs.sub fun b z=>?_) fun o z=>z) (h.base.free ha) nfx
  rcases z with z|z
  ·exact .inl (zcx b z)
  ·exact .inr z
noncomputable def sNil:SF:=fun env=>some (.nx env)
noncomputable def sSeq (f g:SF):SF:=fun env=>(f env).bind fun o=>match o with
 | .nx env'=>g env'
 | o=>some o
theorem zrs:SS tNext sNil:=by
 intro fx H0 env σ H D h o e q
 cases e
 exact q σ H h
theorem zel {t u:TS} {f g:SF} (h1:SS t f) (h2:SS u g):SS (tSeq t u) (sSeq f g):=by
 intro fx H0 env σ H D h o e q
 unfold sSeq at e
 obtain ⟨o1,e1,e⟩:=qA.mp e
 refine h1 fx H0 env σ H _ h o1 e1 ?_
 cases o1 with
 | nx env'=>exact fun σ' H' h'=>h2 fx H0 env' σ' H' D h' o e q
 | bk env'=>cases e;exact q
 | ct env'=>cases e;exact q
 | rt d fr=>cases e;exact q
noncomputable def zzl:SF:=fun _=>none
theorem zzm:SS tNever zzl:=by
 intro fx H0 env σ H D h o e q
 cases e
noncomputable def zaay (f:EF):SF:=fun env=>(f env).map fun _=>.nx env
theorem zady {te:TE} {f:EF} (h1:SE te f):SS (tDrop te) (zaay f):=by
 intro fx H0 env σ H D h o e q
 unfold zaay at e
 obtain ⟨r,er,rfl⟩:=qH.mp e
 exact h1 fx H0 env σ H h r er _ fun v H' s _=>q σ H' (h.up s)
noncomputable def sRet (f:EF):SF:=fun env=>(f env).map fun r=>.rt r.d r.fr
theorem zhg {te:TE} {f:EF} (h1:SE te f):SS (tRet te) (sRet f):=by
 intro fx H0 env σ H D h o e q
 unfold sRet at e
 obtain ⟨r,er,rfl⟩:=qH.mp e
 refine h1 fx H0 env σ H h r er _ fun v H' s hv=>q v H' (h.base.trans s) ⟨Rp.same (Offs.sub fun b z=>.inl z) _ hv.rp,fun z=>?_⟩
 obtain ⟨a,g1,g2,g3⟩:=hv.fr z
 exact ⟨a,g1,h.base.free g2,g3.same (Offs.sub fun b y=>y.imp .inl id) fun o z=>z⟩
noncomputable def zaaz (i:Nat):SF:=fun env=>match env[i]? with
 | some (.pl d)=>some (.rt d false)
 | some (.ac d)=>some (.rt d true)
 | _=>none
theorem zta {i:Nat}:SS (tRet (tVar i)) (zaaz i):=by
 intro fx H0 env σ H D h o e q
 unfold zaaz at e
 cases ei:env[i]? with
 | none=>rw [ei] at e;cases e
 | some sl =>
  rw [ei] at e
  cases sl with
  | no=>cases e
  | pl d =>
   cases e
   obtain ⟨v,h1,h2⟩:=h.pl i d ei
   exact ⟨v,h1,q v H h.base ⟨Rp.same (Offs.sub fun b z=>.inl z) _ h2,fun z=>by cases z⟩⟩
  | ac d =>
   cases e
   obtain ⟨a,h1,h2,h3,h4⟩:=h.ac i d ei
   refine ⟨_,h1,q _ H h.base ⟨h4.rp (Offs.sub fun b z=>.inl z) fun o eo=>by rw [Offs.get h3];exact eo,fun _=>⟨a,rfl,h2,h4.same (Offs.sub fun b z=>?_) fun o z=>z⟩⟩⟩
   rcases z with z|z
   ·exact .inl z
   ·rw [z];exact .inr ⟨i,d,ei,h1⟩
noncomputable def sIf (c:TF) (f g:SF):SF:=fun env=>(c env).bind fun b=>if b=true then f env else g env
theorem zaba {tc:TT} {t u:TS} {c:TF} {f g:SF} (hc:ST tc c) (h1:SS t f) (h2:SS u g):SS (tIfS tc t u) (sIf c f g):=by
 intro fx H0 env σ H D h o e q
 unfold sIf at e
 obtain ⟨b,eb,e⟩:=qA.mp e
 refine hc fx H0 env σ H h b eb _ fun H' s=>?_
 cases b with
 | true=>exact iteT (h1 fx H0 env σ H' D (h.up s) o e q)
 | false=>exact iteF (h2 fx H0 env σ H' D (h.up s) o e q)
noncomputable def sSet (i:Nat) (f:EF):SF:=fun env=>(f env).map fun r=>.nx (putV env i r)
theorem zkb {te:TE} {f:EF} {i:Nat} (h1:SE te f):SS (tAsg te (gName i)) (sSet i f):=by
 intro fx H0 env σ H D h o e q
 unfold sSet at e
 obtain ⟨r,er,rfl⟩:=qH.mp e
 exact h1 fx H0 env σ H h r er _ fun v H' s hv=>q _ H' (h.put s hv i)
noncomputable abbrev GT:=PyData→DEnv→Option DEnv
noncomputable def SG (g:TG) (f:GT):Prop:=∀ (fx:Addr→Prop) (H0:Hp) (env:DEnv) (σ:St) (H:Hp) (d:PyData) (v:V),EnvOk fx H0 env σ H→Rp (Offs (fun a=>fx a∨own env σ a) H) d v→∀ env',f d env=some env'→∀ Q:St→Hp→Prop,
 (∀ σ',EnvOk fx H0 env' σ' H→Q σ' H)→g v σ H Q
noncomputable abbrev GTs:=List PyData→DEnv→Option DEnv
noncomputable def SGs (g:TGs) (f:GTs):Prop:=∀ (fx:Addr→Prop) (H0:Hp) (env:DEnv) (σ:St) (H:Hp) (ds:List PyData) (vs:List V),EnvOk fx H0 env σ H→Rps (Offs (fun a=>fx a∨own env σ a) H) ds vs→∀ env',f ds env=some env'→∀ Q:St→Hp→Prop,
 (∀ σ',EnvOk fx H0 env' σ' H→Q σ' H)→g vs σ H Q
noncomputable def gN (i:Nat):GT:=fun d env=>some (env.set i (.pl d))
theorem zia {i:Nat}:SG (gName i) (gN i):=by
 intro fx H0 env σ H d v h r env' e Q q
 cases e
 exact q _ (h.setPl i r)
noncomputable def zfl:GTs:=fun ds env=>match ds with|[]=>some env|_=>none
noncomputable def zbc (i:Nat) (g:GTs):GTs:=fun ds env=>match ds with|d::r=>g r (env.set i (.pl d))|[]=>none
theorem zji:SGs gNil zfl:=by
 intro fx H0 env σ H ds vs h r env' e Q q
 cases ds with
 | nil=>cases e;unfold Rps at r;exact ⟨r,q _ h⟩
 | cons _ _=>cases e
theorem zcp {i:Nat} {t:TGs} {g:GTs} (h1:SGs t g):SGs (gCons (gName i) t) (zbc i g):=by
 intro fx H0 env σ H ds vs h r env' e Q q
 cases ds with
 | nil=>cases e
 | cons d ds =>
  unfold Rps at r
  obtain ⟨v,ws,rfl,r1,r2⟩:=r
  refine ⟨v,ws,rfl,h1 fx H0 (env.set i (.pl d)) _ H ds ws (h.setPl i r1) (Rps.same (Offs.sub fun b z=>z.imp (fun y=>y) (zxy b)) _ r2) env' e Q q⟩
noncomputable def gT (n:Nat) (g:GTs):GT:=fun d env=>match d with|.tuple ds=>if ds.length=n then g ds env else none|_=>none
theorem zmg {K:qB} {n:Nat} {t:TGs} {g:GTs} (h1:SGs t g):SG (gTup K n t) (gT n g):=by
 intro fx H0 env σ H d v h r env' e Q q
 unfold gT at e
 cases d with
 | tuple ds =>
  have e:(if ds.length=n then g ds env else none)=some env':=e
  split at e
  ·rename_i hn
   obtain ⟨a,xs,rfl,ha,rs⟩:=zco r
   exact ⟨a,xs,rfl,SqT.of (zcm ha),by rw [← rs.length];exact hn,h1 fx H0 env σ H ds xs h rs env' e Q q⟩
  ·cases e
 | _=>cases e
noncomputable def sAsg (f:EF) (g:GT):SF:=fun env=>(f env).bind fun r=>(g r.d (frzs env r.bs)).map .nx
theorem zaog {te:TE} {f:EF} {g:TG} {gf:GT} (h1:SE te f) (h2:SG g gf):SS (tAsg te g) (sAsg f gf):=by
 intro fx H0 env σ H D h o e q
 unfold sAsg at e
 obtain ⟨r,er,e⟩:=qA.mp e
 obtain ⟨env',e',rfl⟩:=qH.mp e
 exact h1 fx H0 env σ H h r er _ fun v H' s hv=>h2 fx H0 _ σ H' r.d v ((h.up s).frzs r.bs) (Rp.same (Offs.sub zcx) _ hv.rp) env' e' _ fun σ' h'=>q σ' H' h'
theorem EnvOk.mut {fx:Addr→Prop} {H0:Hp} {env:DEnv} {σ:St} {H:Hp} (h:EnvOk fx H0 env σ H) {i:Nat} {d d':PyData} {a:Addr} {o:HO} (e:env[i]?=some (.ac d)) (ea:σ[i]?=some (some (.ref a)))
  (r:zeo (Offs (fun b=>fx b∨own env σ b) H) (upd H a o) a d'):EnvOk fx H0 (env.set i (.ac d')) σ (upd H a o):=by
 have hl:i<env.length:=(qR.mp e).1
 have oa:own env σ a:=⟨i,d,e,ea⟩
 have ow:∀ b,own (env.set i (.ac d')) σ b↔own env σ b:=by
  intro b
  constructor
  ·rintro ⟨j,d1,h1,h2⟩
   rcases zbx h1 with ⟨rfl,z⟩|⟨ne,h1⟩
   ·exact ⟨j,d,e,h2⟩
   ·exact ⟨j,d1,h1,h2⟩
  ·rintro ⟨j,d1,h1,h2⟩
   by_cases hj:j=i
   ·subst hj;exact ⟨j,d',by rw [ql hl],h2⟩
   ·exact ⟨j,d1,by rw [qS fun z=>hj z.symm];exact h1,h2⟩
 have so:Same (Offs (fun b=>fx b∨own env σ b) H) (Offs (fun b=>fx b∨own (env.set i (.ac d')) σ b) (upd H a o)):=by
  have:Same (Offs (fun b=>fx b∨own env σ b) (upd H a o)) (Offs (fun b=>fx b∨own (env.set i (.ac d')) σ b) (upd H a o)):=Offs.sub fun b z=>z.imp (fun y=>y) (ow b).mp
  rw [Offs.upd (.inr oa)] at this
  exact this
 obtain ⟨a',g1,g2,g3,g4⟩:=h.ac i d e
 rw [ea] at g1
 cases g1
 refine ⟨by rw [qr];exact h.len,fun j d1 hj=>?_,fun j d1 hj=>?_,fun j k d1 d2 b h1 h2 h3 h4=>?_,fun b u eb=>by rw [zbk (zbs eb g2)];exact h.base b u eb,fun b z=>?_⟩
 ·rcases zbx hj with ⟨_,z⟩|⟨ne,hj'⟩
  ·cases z
  ·obtain ⟨u,h1,h2⟩:=h.pl j d1 hj'
   exact ⟨u,h1,Rp.same so _ h2⟩
 ·rcases zbx hj with ⟨rfl,z⟩|⟨ne,hj'⟩
  ·cases z
   exact ⟨a,ea,g2,g3,r.same so fun o z=>z⟩
  ·obtain ⟨b,h1,h2,h3,h4⟩:=h.ac j d1 hj'
   refine ⟨b,h1,h2,h3,h4.same so fun o' z=>?_⟩
   rw [zbk fun y=>ne (h.inj j i d1 d a hj' e (by rw [← y];exact h1) ea)]
   exact z
 ·have f:∀ {j:Nat} {d1:PyData},(env.set i (.ac d'))[j]?=some (.ac d1)→∃ d2,env[j]?=some (.ac d2):=fun {j d1} hj=>by
   rcases zbx hj with ⟨rfl,z⟩|⟨ne,hj'⟩
   ·exact ⟨d,e⟩
   ·exact ⟨d1,hj'⟩
  obtain ⟨e1,h1⟩:=f h1
  obtain ⟨e2,h2⟩:=f h2
  exact h.inj j k e1 e2 b h1 h2 h3 h4
 ·obtain ⟨u,eu⟩:=h.fxs b z
  exact ⟨u,by rw [zbk fun y=>g3 (by rw [← y];exact z)];exact eu⟩
theorem zgo {env:DEnv} {i:Nat} {d:PyData}:∀ {bs:List Nat},i∉bs→env[i]?=some (.ac d)→(frzs env bs)[i]?=some (.ac d):=by
 intro bs
 induction bs generalizing env with
 | nil=>intro _ e;exact e
 | cons j bs ih =>
  intro hn e
  have hj:i≠j:=fun z=>hn (by simp [z])
  refine ih (fun z=>hn (qI _ z)) ?_
  unfold frz1
  split
  ·rw [qS fun z=>hj z.symm];exact e
  ·exact e
noncomputable def sPut (i:Nat) (fk fv:EF):SF:=fun env=>match env[i]? with
 | some (.ac (.dict kvs))=>(fv env).bind fun r=>(fk env).bind fun k=>(keyD k.d).bind fun _=>if kvs.length<100000∧i∉r.bs then some (.nx ((frzs env r.bs).set i (.ac (.dict (zor kvs k.d r.d))))) else none
 | _=>none
theorem zait {i:Nat} {tk tv:TE} {fk fv:EF} (h1:SE tk fk) (h2:SE tv fv):SS (sDPut (tVar i) tk tv) (sPut i fk fv):=by
 intro fx H0 env σ H D h o e q
 unfold sPut at e
 split at e
 ·rename_i kvs ei
  obtain ⟨r,er,e⟩:=qA.mp e
  obtain ⟨k,ek,e⟩:=qA.mp e
  obtain ⟨kk,ekk,e⟩:=qA.mp e
  split at e
  ·rename_i hl
   cases e
   obtain ⟨a,g1,g2,g3,g4⟩:=h.ac i _ ei
   obtain ⟨ps,hx,rx⟩:=g4
   refine h2 fx H0 env σ H h r er _ fun v H' s hv=>⟨_,g1,h1 fx H0 env σ H' (h.up s) k ek _ fun u H2 s2 hk=>?_⟩
   have t2:=s.trans s2
   have h':=(h.up t2).frzs r.bs
   have ei':=zgo hl.2 ei
   have hx':=t2 _ _ hx
   have rx':Rpd (Offs (fun b=>fx b∨own (frzs env r.bs) σ b) H2) kvs ps:=by
    obtain ⟨a',z1,_,_,z4⟩:=h'.ac i _ ei'
    rw [g1] at z1
    cases z1
    obtain ⟨ys,y1,y2⟩:=z4
    rw [hx'] at y1
    cases y1
    exact y2
   rw [zads hk.rp ekk]
   refine ⟨a,_,rfl,DPut.k hx' (znb (by rw [← rx.length];exact hl.1)),?_⟩
   refine q σ _ (h'.mut ei' g1 ⟨_,zbe,rx'.put ekk (Rp.same (Offs.sub zcx) _ (hv.later (Same.refl _) s2 fun _ z=>z).rp)⟩)
  ·cases e
 ·cases e
noncomputable def sUpd (i:Nat) (f:EF):SF:=fun env=>match env[i]? with
 | some (.ac (.dict kvs))=>(f env).bind fun r=>match r.d with
  | .dict more=>if kvs.length+more.length≤100000∧i∉r.bs then some (.nx ((frzs env r.bs).set i (.ac (.dict (znd kvs more))))) else none
  | _=>none
 | _=>none
theorem zaiu {K:qB} {i:Nat} {te:TE} {f:EF} (h1:SE te f):SS (tDrop (tBM K "dict" zadd (tVar i) (tCons te tNil))) (sUpd i f):=by
 intro fx H0 env σ H D h o e q
 unfold sUpd at e
 split at e
 ·rename_i kvs ei
  obtain ⟨⟨rd,rfr,rbs⟩,er,e⟩:=qA.mp e
  cases rd with
  | dict more =>
   have e:(if kvs.length+more.length≤100000∧i∉rbs then some (Out.nx ((frzs env rbs).set i (.ac (.dict (znd kvs more))))) else none)=some o:=e
   split at e
   ·rename_i hl
    cases e
    obtain ⟨a,g1,g2,g3,g4⟩:=h.ac i _ ei
    obtain ⟨ps,hx,rx⟩:=g4
    refine ⟨_,g1,.inr (.inr (.inl ⟨rfl,.inl ⟨_,hx⟩⟩)),h1 fx H0 env σ H h _ er _ fun v H' s hv=>?_⟩
    have h':=(h.up s).frzs rbs
    have ei':=zgo hl.2 ei
    have hx':=s _ _ hx
    have rx':Rpd (Offs (fun b=>fx b∨own (frzs env rbs) σ b) H') kvs ps:=by
     obtain ⟨a',z1,_,_,z4⟩:=h'.ac i _ ei'
     rw [g1] at z1
     cases z1
     obtain ⟨ys,y1,y2⟩:=z4
     rw [hx'] at y1
     cases y1
     exact y2
    obtain ⟨b,qs,rfl,hb,rb⟩:=zpk (Rp.same (Offs.sub zcx) _ hv.rp)
    have hab:a≠b:=fun z=>by
     subst z
     exact (Offs.of hb).1 (.inr ⟨i,_,ei',g1⟩)
    refine ⟨a,b,ps,qs,rfl,rfl,hab,hx',zcm hb,zhy (by rw [← rx.length,← rb.length];exact hl.1),?_⟩
    exact q σ _ (h'.mut ei' g1 ⟨_,zbe,rx'.merge rb⟩)
   ·cases e
  | _=>cases e
 ·cases e
theorem EnvOk.rebase {fx:Addr→Prop} {H0:Hp} {env:DEnv} {σ:St} {H:Hp} (h:EnvOk fx H0 env σ H):EnvOk fx (Offs (own env σ) H) env σ H:=by
 refine ⟨h.len,h.pl,fun i d e=>?_,h.inj,Offs.same _ _,h.fxs⟩
 obtain ⟨a,h1,h2,h3,h4⟩:=h.ac i d e
 exact ⟨a,h1,Offs.out ⟨i,d,e,h1⟩,h3,h4⟩
theorem EnvOk.floor {fx:Addr→Prop} {H0:Hp} {env:DEnv} {σ:St} {H:Hp} (h:EnvOk fx H0 env σ H):Same H0 (Offs (own env σ) H):=fun b o e=>by
 rw [Offs.get]
 ·exact h.base b o e
 ·rintro ⟨i,d,h1,h2⟩
  obtain ⟨a,g1,g2,_⟩:=h.ac i d h1
  rw [h2] at g1
  cases g1
  rw [g2] at e
  cases e
theorem EnvOk.unbase {fx:Addr→Prop} {H0 F:Hp} {env:DEnv} {σ:St} {H:Hp} (h:EnvOk fx F env σ H) (s:Same H0 F):EnvOk fx H0 env σ H:=by
 refine ⟨h.len,h.pl,fun i d e=>?_,h.inj,s.trans h.base,h.fxs⟩
 obtain ⟨a,h1,h2,h3,h4⟩:=h.ac i d e
 exact ⟨a,h1,s.free h2,h3,h4⟩
theorem zxx.unbase {fx:Addr→Prop} {H0 F:Hp} {d:PyData} {fr:Bool} {v:V} {H:Hp} (h:zxx fx F d fr v H) (s:Same H0 F):zxx fx H0 d fr v H :=
 ⟨h.1,fun e=>let ⟨a,h1,h2,h3⟩:=h.2 e;⟨a,h1,s.free h2,h3⟩⟩
theorem EnvOk.seen {fx:Addr→Prop} {env env':DEnv} {σ σ':St} {H H':Hp} (h:EnvOk fx (Offs (own env σ) H) env' σ' H'):Same (Offs (fun b=>fx b∨own env σ b) H) (Offs (fun b=>fx b∨own env' σ' b) H'):=fun b o e=>by
 obtain ⟨h1,h2⟩:=Offs.of e
 have hF:Offs (own env σ) H b=some o:=by rw [Offs.get fun z=>h1 (.inr z)];exact h2
 rw [Offs.get]
 ·exact h.base b o hF
 ·rintro (z|⟨i,d,g1,g2⟩)
  ·exact h1 (.inl z)
  ·obtain ⟨a,k1,k2,_⟩:=h.ac i d g1
   rw [g2] at k1
   cases k1
   rw [k2] at hF
   cases hF
theorem EnvOk.all {fx:Addr→Prop} {H0:Hp} {env:DEnv} {σ:St} {H:Hp} (h:EnvOk fx H0 env σ H):∀ b,fx b∨own env σ b→∃ o,H b=some o:=fun b z=>h.lims [] b (zakv b z)
noncomputable def Yl (A0:Addr→Prop) (H1:Hp) (J:It) (ds:List PyData):Prop:=∀ (A:Addr→Prop) (H':Hp),(∀ b,A b→∃ o,H' b=some o)→Same (Offs A0 H1) (Offs A H') →
 (∀ i d,ds[i]?=some d→J.go i H'∧∀ x H'',J.yld i H' x H''→Same H' H''∧Rp (Offs A H'') d x)∧J.stop ds.length H'
noncomputable abbrev IF':=DEnv→Option (List PyData×List Nat)
noncomputable def SI (wi:TI) (f:IF'):Prop:=∀ (fx:Addr→Prop) (H0:Hp) (env:DEnv) (σ:St) (H:Hp),EnvOk fx H0 env σ H→∀ ds bs,f env=some (ds,bs)→∀ R:It→Hp→Prop,
 (∀ J H1,Same H H1→Yl (fun b=>fx b∨own (frzs env bs) σ b) H1 J ds→R J H1)→wi σ H R
noncomputable def iSeq (K:qB) (te:TE):TI:=fun σ H R=>te σ H fun x H1=>∃ a,x=.ref a∧((∃ xs,SqL K H1 a xs)∧R (Itl K a) H1∨(∃ xs,SqT K H1 a xs)∧R (Itt K a) H1)
theorem zaoh {X:Cx} {tg l:Expr} {tl:TE} (hl:PE X l tl):PI X tg l (iSeq X.K tl):=by
 intro pins s σ H R I h
 refine thn (hl pins s σ H _ I h) fun v s1 ⟨x,H1,I1,r1,q1⟩=>?_
 obtain ⟨a,e,q⟩:=q1
 subst e
 cases r1
 rcases q with ⟨⟨xs,hq⟩,q⟩|⟨⟨xs,hq⟩,q⟩
 ·obtain ⟨its,rv,p,hz⟩:=I1.list hq
  refine qAo p.isList ?_
  refine ⟨s1.heap.objs.size,[s1.heap.objs.size],_,_,H1,rfl,I1.kept (t':=s1.toks) fun b o e=>qC _ e,zacf a _,⟨_,qU _ rfl,rfl,rfl⟩,fun b hb=>?_,q⟩
  have e:b=s1.heap.objs.size:=by simpa using hb
  subst e
  exact I1.fpOk (qQ _) (I1.hok.fresh (qQ _))
 ·obtain ⟨its,rv,p,hz⟩:=I1.tuple hq
  refine qAb (show s1.heap.IsTuple a its.toArray from p) ?_
  refine ⟨s1.heap.objs.size,[s1.heap.objs.size],_,_,H1,rfl,I1.kept (t':=s1.toks) fun b o e=>qC _ e,zaam a _,⟨_,qU _ rfl,rfl,rfl⟩,fun b hb=>?_,q⟩
  have e:b=s1.heap.objs.size:=by simpa using hb
  subst e
  exact I1.fpOk (qQ _) (I1.hok.fresh (qQ _))
theorem zale {X:Cx} {K:qB} (hK:X.K=K) {tg l:Expr} {tl:TE} (hl:PE X l tl):PI X tg l (iSeq K tl):=by subst hK;exact zaoh hl
noncomputable def zbh (f:EF):IF':=fun env=>(f env).bind fun r=>(zhz r.d).map fun ds=>(ds,r.bs)
theorem zadz {K:qB} {A0:Addr→Prop} {H1:Hp} {a:Addr} {ds:List PyData} {xs:List V} (h:Offs A0 H1 a=some (.lst xs)) (r:Rps (Offs A0 H1) ds xs):Yl A0 H1 (Itl K a) ds:=by
 intro A H' hA s
 have ha:=zcm (s _ _ h)
 have r':=Rps.same s _ r
 refine ⟨fun i d e=>?_,⟨xs,SqL.of ha,by rw [r.length];exact qQ _⟩⟩
 obtain ⟨v,hv,rv⟩:=r'.get2 e
 refine ⟨⟨xs,v,SqL.of ha,hv⟩,fun x H'' y=>?_⟩
 obtain ⟨rfl,y⟩:=y
 have:=y xs (SqL.of ha)
 rw [hv] at this
 cases this
 exact ⟨Same.refl _,rv⟩
theorem zaiv {K:qB} {A0:Addr→Prop} {H1:Hp} {a:Addr} {ds:List PyData} {xs:List V} (h:Offs A0 H1 a=some (.tup xs)) (r:Rps (Offs A0 H1) ds xs):Yl A0 H1 (Itt K a) ds:=by
 intro A H' hA s
 have ha:=zcm (s _ _ h)
 have r':=Rps.same s _ r
 refine ⟨fun i d e=>?_,⟨xs,SqT.of ha,by rw [r.length];exact qQ _⟩⟩
 obtain ⟨v,hv,rv⟩:=r'.get2 e
 refine ⟨⟨xs,v,SqT.of ha,hv⟩,fun x H'' y=>?_⟩
 obtain ⟨rfl,y⟩:=y
 have:=y xs (SqT.of ha)
 rw [hv] at this
 cases this
 exact ⟨Same.refl _,rv⟩
theorem zfm {K:qB} {te:TE} {f:EF} (h1:SE te f):SI (iSeq K te) (zbh f):=by
 intro fx H0 env σ H h ds bs e R q
 unfold zbh at e
 obtain ⟨⟨d,fr,bs'⟩,er,e⟩:=qA.mp e
 obtain ⟨es,he,e⟩:=qH.mp e
 cases e
 refine h1 fx H0 env σ H h _ er _ fun v H1 s hv=>?_
 have rp:=Rp.same (Offs.sub (zcx (bs:=bs'))) _ hv.rp
 cases d with
 | list ds =>
  cases he
  obtain ⟨a,xs,rfl,ha,r⟩:=zfk rp
  exact ⟨a,rfl,.inl ⟨⟨xs,SqL.of (zcm ha)⟩,q _ H1 s (zadz ha r)⟩⟩
 | tuple ds =>
  cases he
  obtain ⟨a,xs,rfl,ha,r⟩:=zco rp
  exact ⟨a,rfl,.inr ⟨⟨xs,SqT.of (zcm ha)⟩,q _ H1 s (zaiv ha r)⟩⟩
 | _=>cases he
noncomputable def zapy (ds:List PyData):List PyData:=ds.zipIdx.map fun p=>.tuple [.int p.2,p.1]
noncomputable def zaqi (f:AF):IF':=fun env=>(f env).bind fun rs=>match rs with
 | [r]=>match r.d with
  | .list ds=>some (zapy ds,r.bs)
  | _=>none
 | _=>none
noncomputable def zdt (lo:Int) (n:Nat):List PyData:=(List.range n).map fun (k:Nat)=>.int (lo+(k:Int))
theorem zzn {A0:Addr→Prop} {H1:Hp} {lo:Int} {n:Nat}:Yl A0 H1 (Itr lo n) (zdt lo n):=by
 intro A H' hA s
 have hl:(zdt lo n).length=n:=by unfold zdt;simp
 refine ⟨fun i d e=>?_,by rw [hl];exact qQ _⟩
 unfold zdt at e
 rw [qY] at e
 by_cases hi:i<n
 ·rw [qCT hi] at e
  cases e
  exact ⟨hi,fun x H'' ⟨e1,e2⟩=>by subst e1;subst e2;exact ⟨Same.refl _,zad⟩⟩
 ·rw [qBT (by simpa using hi)] at e
  cases e
noncomputable def zca (f:AF):IF':=fun env=>(f env).bind fun rs=>match rs with
 | [⟨.int j,_,_⟩]=>if -(2 ^ 62)≤j∧j<2 ^ 62 then some (zdt 0 j.toNat,[]) else none
 | _=>none
theorem zer {ta:TA} {f:AF} (h1:SA ta f):SI (iRng1 ta) (zca f):=by
 intro fx H0 env σ H h ds bs e R q
 unfold zca at e
 obtain ⟨rs,er,e⟩:=qA.mp e
 split at e
 ·split at e
  ·rename_i hj
   cases e
   refine h1 fx H0 env σ H h _ er _ fun vs H1 s hv=>?_
   cases hv with
   | cons hv t =>
    cases t
    cases zdp hv.rp
    exact ⟨_,rfl,hj.1,hj.2,q _ H1 s zzn⟩
  ·cases e
 ·cases e
noncomputable def forL (g:GT) (body:SF):List PyData→DEnv→Option Out
 | [],env=>some (.nx env)
 | d::ds,env=>(g d env).bind fun e1=>(body e1).bind fun o=>match o with
  | .nx e2=>forL g body ds e2
  | .ct e2=>forL g body ds e2
  | .bk e2=>some (.nx e2)
  | .rt d fr=>some (.rt d fr)
noncomputable def sFor (f:IF') (g:GT) (body:SF):SF:=fun env=>(f env).bind fun z=>forL g body z.1 (frzs env z.2)
theorem zpq {wi:TI} {g:TG} {tb:TS} {f:IF'} {gf:GT} {body:SF} (h1:SI wi f) (h2:SG g gf) (h3:SS tb body):SS (tFor wi g tb) (sFor f gf body):=by
 intro fx H0 env σ H D h o e q
 unfold sFor at e
 obtain ⟨⟨ds,bs⟩,er,e⟩:=qA.mp e
 refine h1 fx H0 env σ H h ds bs er _ fun J H1 s yl=>?_
 have hE:=(h.up s).frzs bs
 have fl:=hE.floor
 refine ⟨fun i m σ' H'=>m=ds.length - i∧i≤ds.length∧∃ env',forL gf body (ds.drop i) env'=some o∧EnvOk fx (Offs (own (frzs env bs) σ) H1) env' σ' H',⟨ds.length,rfl,qAP _,_,e,hE.rebase⟩,?_⟩
 rintro i m σ' H' ⟨rfl,hi,env',e',h'⟩
 obtain ⟨yi,ys⟩:=yl _ H' h'.all h'.seen
 by_cases hlt:i<ds.length
 ·obtain ⟨yg,yy⟩:=yi i ds[i] (qF hlt)
  refine .inr ⟨yg,fun σ'' H''=>i+1≤ds.length∧∃ env'',forL gf body (ds.drop (i+1)) env''=some o∧EnvOk fx (Offs (own (frzs env bs) σ) H1) env'' σ'' H'',?_,?_⟩
  ·rintro σ'' H'' ⟨hle,env'',e'',h''⟩
   exact ⟨ds.length - (i+1),by omega,rfl,hle,env'',e'',h''⟩
  ·intro x H'' hy
   obtain ⟨sy,ry⟩:=yy x H'' hy
   rw [qAH hlt] at e'
   obtain ⟨e1,ee1,e'⟩:=qA.mp e'
   obtain ⟨o1,eo1,e'⟩:=qA.mp e'
   refine h2 fx _ env' σ' H'' _ x (h'.up sy) ry e1 ee1 _ fun σ2 h2'=>h3 fx _ e1 σ2 H'' _ h2' o1 eo1 ?_
   cases o1 with
   | nx e2=>exact fun σ3 H3 hh=>⟨hlt,e2,e',hh⟩
   | ct e2=>exact fun σ3 H3 hh=>⟨hlt,e2,e',hh⟩
   | bk e2=>cases e';exact fun σ3 H3 hh=>q σ3 H3 (hh.unbase fl)
   | rt d fr=>cases e';exact fun v H3 sh rt=>q v H3 (fl.trans sh) (rt.unbase fl)
 ·have hi':i=ds.length:=by omega
  subst hi'
  rw [qAg] at e'
  cases e'
  exact .inl ⟨ys,q σ' H' (h'.unbase fl)⟩
noncomputable def zjp (n:Nat) (ds:List PyData):DEnv:=ds.map .pl++List.replicate (n - ds.length) .no
noncomputable def fnD (n:Nat) (f:SF):GF:=fun ds=>match f (zjp n ds) with
 | some (.rt d fr)=>some (d,fr)
 | some (.nx _)=>some (.none,false)
 | _=>none
theorem zmh {ds:List PyData} {n i:Nat} {sl:Sl} (e:(zjp n ds)[i]?=some sl):(∃ d,ds[i]?=some d∧sl=.pl d)∨sl=.no:=by
 unfold zjp at e
 by_cases hi:i<ds.length
 ·rw [qm (by simpa using hi),qY,qF hi] at e
  cases e
  exact .inl ⟨_,qF hi,rfl⟩
 ·rw [qq (by simpa using hi),qBL] at e
  split at e
  ·cases e;exact .inr rfl
  ·cases e
theorem zvh {fx:Addr→Prop} {H:Hp} {N:List Str} {ds:List PyData} {vs:List V} (hf:∀ b,fx b→∃ o,H b=some o) (r:Rps (Offs fx H) ds vs):EnvOk fx H (zjp N.length ds) (zhv N vs) H:=by
 have no:∀ (i:Nat) (d:PyData),(zjp N.length ds)[i]?≠some (Sl.ac d):=fun i d e=>by
  rcases zmh e with ⟨d',_,z⟩|z<;>cases z
 refine ⟨?_,fun i d e=>?_,fun i d e=>absurd e (no i d),fun i j d e a h1=>absurd h1 (no i d),Same.refl _,hf⟩
 ·unfold zjp zhv
  rw [qJ,qJ,qE,qE,qAr,qAr,r.length]
 ·rcases zmh e with ⟨d',hd,z⟩|z
  ·cases z
   obtain ⟨v,hv,rv⟩:=r.get2 hd
   refine ⟨v,?_,Rp.same (Offs.sub fun b z=>?_) _ rv⟩
   ·unfold zhv
    have hi:i<vs.length:=(qR.mp hv).1
    rw [qm (by simpa using hi),qY,hv];rfl
   ·rcases z with z|⟨j,d',z,_⟩
    ·exact z
    ·exact absurd z (no j d')
  ·cases z
theorem fn_d {N:List Str} {n:Nat} {f:SF} {t:TS} (hs:SS t f) {vs:List V} {H:Hp} {Q:VK} {E:XK} (h:spD n (fnD N.length f) vs H Q E):t {nx:=fun _ H'=>Q .non H',rt:=Q} (zhv N vs) H:=by
 obtain ⟨fx,ds,d,fr,hn,hf,r,g,k⟩:=h
 unfold fnD at g
 split at g
 ·rename_i d' fr' eo
  cases g
  exact hs fx H _ _ H _ (zvh hf r) _ eo fun v H' s rt=>k v H' s rt
 ·rename_i e' eo
  cases g
  exact hs fx H _ _ H _ (zvh hf r) _ eo fun σ H' hE=>k .non H' hE.base ⟨zaaw,fun z=>by cases z⟩
 ·cases g
theorem zdo {n:Nat} {g:GF} {vs:List V} {H:Hp} {Q:VK} {E:XK} (h:spD n g vs H Q E):vs.length=n:=by
 obtain ⟨fx,ds,d,fr,hn,hf,r,_⟩:=h
 rw [← r.length];exact hn
noncomputable def zxz:Sl→Sl
 | .ac d=>.pl d
 | s=>s
noncomputable def envB (own:List Str) (fr:List Nat) (env:DEnv):DEnv:=own.map (fun _=>Sl.no)++fr.map (fun j=>zxz (env.getD j .no))
noncomputable def isAc:Option Sl→Bool
 | some (.ac _)=>true
 | _=>false
noncomputable def capA (fr:List Nat) (env:DEnv):List Nat:=fr.filter fun j=>isAc env[j]?
theorem ztb {own:List Str} {fr:List Nat} {env:DEnv} {i:Nat} {d:PyData} (e:(envB own fr env)[i]?=some (.pl d)):∃ j k,i=own.length+k∧fr[k]?=some j∧(env[j]?=some (.pl d)∨env[j]?=some (.ac d)):=by
 unfold envB at e
 by_cases hi:i<own.length
 ·rw [qm (by simpa using hi),qY,qF hi] at e
  cases e
 ·rw [qq (by simpa using hi),qE,qY] at e
  cases ej:fr[i - own.length]? with
  | none=>rw [ej] at e;cases e
  | some j =>
   rw [ej] at e
   refine ⟨j,i - own.length,by omega,ej,?_⟩
   have e:zxz (env.getD j .no)=.pl d:=qT e
   rw [qb] at e
   cases ev:env[j]? with
   | none=>rw [ev] at e;cases e
   | some s =>
    rw [ev] at e
    cases s with
    | no=>cases e
    | pl d'=>cases e;exact .inl rfl
    | ac d'=>cases e;exact .inr rfl
theorem zjj {own:List Str} {fr:List Nat} {env:DEnv} {i:Nat} {d:PyData}:(envB own fr env)[i]?≠some (.ac d):=by
 intro e
 unfold envB at e
 by_cases hi:i<own.length
 ·rw [qm (by simpa using hi),qY,qF hi] at e
  cases e
 ·rw [qq (by simpa using hi),qE,qY] at e
  cases ej:fr[i - own.length]? with
  | none=>rw [ej] at e;cases e
  | some j =>
   rw [ej] at e
   have e:zxz (env.getD j .no)=.ac d:=qT e
   cases ev:env.getD j .no with
   | no=>rw [ev] at e;cases e
   | pl d'=>rw [ev] at e;cases e
   | ac d'=>rw [ev] at e;cases e
theorem zng {own:List Str} {fr:List Nat} {σ:St} {k j:Nat} {v:V} (hk:fr[k]?=some j) (hv:σ[j]?=some (some v)):(tau own fr σ)[own.length+k]?=some (some v):=by
 unfold tau
 rw [qq (by simp),qE,qCJ,qY,hk]
 show some (σ.getD j none)=_
 rw [qb,hv];rfl
theorem zvi {fx:Addr→Prop} {H0:Hp} {env:DEnv} {σ:St} {H H1:Hp} {p:Addr} (h:EnvOk fx H0 env σ H) (s:Same H H1) (hp:H1 p=none) (own:List Str) (fr:List Nat) (bs:List Nat) :
  EnvOk (fun b=>lim fx env σ (bs++capA fr env) b∨b=p) H1 (envB own fr env) (tau own fr σ) (upd H1 p (.lst [])):=by
 have h1:=h.up s
 have sp:Same H1 (upd H1 p (.lst [])):=Same.new hp
 have so:Same (Offs (fun b=>fx b∨L2.own env σ b) H1) (Offs (fun b=>(lim fx env σ (bs++capA fr env) b∨b=p)∨L2.own (envB own fr env) (tau own fr σ) b) (upd H1 p (.lst []))):=Offs.mono sp fun b o e n z=>by
  rcases z with (z|z)|⟨i,d,z,_⟩
  ·exact n (zlq b z)
  ·rw [z,hp] at e;cases e
  ·exact absurd z zjj
 refine ⟨?_,fun i d e=>?_,fun i d e=>absurd e zjj,fun i j d e a z=>absurd z zjj,sp,fun b z=>?_⟩
 ·unfold envB tau;simp
 ·obtain ⟨j,k,rfl,hk,hj⟩:=ztb e
  rcases hj with hj|hj
  ·obtain ⟨v,h2,h3⟩:=h1.pl j d hj
   exact ⟨v,zng hk h2,Rp.same so _ h3⟩
  ·obtain ⟨a,h2,h3,h4,h5⟩:=h1.ac j d hj
   refine ⟨_,zng hk h2,h5.rp so fun o eo=>?_⟩
   rw [Offs.get]
   ·exact sp _ _ eo
   ·rintro ((z|⟨i',d',z1,z2,z3⟩)|⟨i',d',z,_⟩)
    ·rcases z with z|⟨i',d',z1,z2,z3⟩
     ·exact h4 z
     ·have e2:=h1.inj i' j d' d a z2 hj z3 h2
      subst e2
      refine z1 (qW _ (qx.mpr ⟨qA8 hk,?_⟩))
      rw [hj];rfl
    ·rw [hp] at eo;cases eo
    ·exact absurd z zjj
 ·rcases z with z|z
  ·obtain ⟨o,e⟩:=h1.lims _ b z;exact ⟨o,sp b o e⟩
  ·rw [z];exact ⟨_,zbe⟩
theorem EnvOk.weaken {fx:Addr→Prop} {H0:Hp} {env e1:DEnv} {σ:St} {H:Hp} (h:EnvOk fx H0 e1 σ H) (hl:env.length=e1.length) (hp:∀ (i:Nat) (d:PyData),env[i]?=some (.pl d)→e1[i]?=some (.pl d)) (ha:∀ (i:Nat) (d:PyData),env[i]?≠some (.ac d)):EnvOk fx H0 env σ H:=by
 refine ⟨hl.trans h.len,fun i d e=>?_,fun i d e=>absurd e (ha i d),fun i j d e a z=>absurd z (ha i d),h.base,h.fxs⟩
 obtain ⟨v,h1,h2⟩:=h.pl i d (hp i d e)
 exact ⟨v,h1,Rp.same (Offs.sub fun b z=>z.imp (fun y=>y) fun ⟨j,d',z,_⟩=>absurd z (ha j d')) _ h2⟩
theorem EnvOk.updFx {fx:Addr→Prop} {H0:Hp} {env:DEnv} {σ:St} {H:Hp} {p:Addr} {o:HO} (h:EnvOk fx H0 env σ H) (hp:fx p) (h0:H0 p=none):EnvOk fx H0 env σ (upd H p o):=by
 have so:Offs (fun b=>fx b∨own env σ b) (upd H p o)=Offs (fun b=>fx b∨own env σ b) H:=Offs.upd (.inl hp)
 refine ⟨h.len,fun i d e=>?_,fun i d e=>?_,h.inj,fun b u e=>by rw [zbk (zbs e h0)];exact h.base b u e,fun b z=>?_⟩
 ·rw [so];exact h.pl i d e
 ·obtain ⟨a,h1,h2,h3,h4⟩:=h.ac i d e
  rw [so]
  exact ⟨a,h1,h2,h3,h4.same (Same.refl _) fun u z=>by rw [zbk fun y=>h3 (by rw [y];exact hp)];exact z⟩
 ·by_cases e:b=p
  ·rw [e];exact ⟨_,zbe⟩
  ·obtain ⟨u,hu⟩:=h.fxs b z
   exact ⟨u,by rw [zbk e];exact hu⟩
noncomputable def GX (n:Nat) (g:GT):Prop:=∀ d env e1,g d env=some e1→e1.length=env.length∧∀ i,n≤i→e1[i]?=env[i]?
noncomputable def GXs (n:Nat) (g:GTs):Prop:=∀ ds env e1,g ds env=some e1→e1.length=env.length∧∀ i,n≤i→e1[i]?=env[i]?
theorem zpr {n i:Nat} (h:i<n):GX n (gN i):=by
 intro d env e1 e
 cases e
 exact ⟨qr,fun j hj=>qS (by omega)⟩
theorem znh {n:Nat}:GXs n zfl:=by
 intro ds env e1 e
 cases ds with
 | nil=>cases e;exact ⟨rfl,fun _ _=>rfl⟩
 | cons _ _=>cases e
theorem zes {n i:Nat} {g:GTs} (h:i<n) (hg:GXs n g):GXs n (zbc i g):=by
 intro ds env e1 e
 cases ds with
 | nil=>cases e
 | cons d ds =>
  obtain ⟨h1,h2⟩:=hg ds _ e1 e
  rw [qr] at h1
  exact ⟨h1,fun j hj=>(h2 j hj).trans (qS (by omega))⟩
theorem zrt {n m:Nat} {g:GTs} (hg:GXs n g):GX n (gT m g):=by
 intro d env e1 e
 unfold gT at e
 cases d with
 | tuple ds =>
  have e:(if ds.length=m then g ds env else none)=some e1:=e
  split at e
  ·exact hg ds env e1 e
  ·cases e
 | _=>cases e
noncomputable def zeu (g:GT) (t:TF) (e:EF) (env:DEnv):List PyData→Option (List PyData)
 | []=>some []
 | d::ds=>(g d env).bind fun e1=>(t e1).bind fun b=>if b=true then (e e1).bind fun r=>(zeu g t e env ds).map fun rs=>r.d::rs else zeu g t e env ds
noncomputable def zii (own:List Str) (fr:List Nat) (fi:IF') (g:GT) (t:TF) (e:EF):EF:=fun env=>(fi env).bind fun z=>if z.1.length<100000 then
 (zeu g t e (envB own fr env) z.1).map fun rs=>⟨.list rs,true,if zds rs=true then [] else z.2++capA fr env⟩ else none
theorem zib {H H':Hp} {ds:List PyData} {vs:List V} (f:zds ds=true) (h:Rps H ds vs):Rps H' ds vs:=by
 replace h:=zdn.mp h
 induction h with
 | nil=>exact zen
 | cons h _ ih =>
  unfold zds at f
  rw [qA9,qt] at f
  exact zdq (zadn f.1 h) (ih f.2)
theorem zis {own:List Str} {fr:List Nat} {wi:TI} {g:TG} {tt:TT} {te:TE} {fi:IF'} {gf:GT} {t:TF} {e:EF} (h1:SI wi fi) (h2:SG g gf) (hx:GX own.length gf) (h3:ST tt t) (h4:SE te e) :
  SE (tComp1 wi g tt te own fr) (zii own fr fi gf t e):=by
 intro fx H0 env σ H h rr hr Q q
 unfold zii at hr
 obtain ⟨⟨ds,bs⟩,ei,hr⟩:=qA.mp hr
 split at hr
 ·rename_i hlen
  have hlen:ds.length<100000:=hlen
  obtain ⟨rs,ers,rfl⟩:=qH.mp hr
  refine h1 fx H0 env σ H h ds bs ei _ fun J H1 s yl=>fun p hp=>?_
  have hB:=zvi h s hp own fr bs
  generalize hA:(fun b=>lim fx env σ (bs++capA fr env) b)=A
  have hA':∀ b,lim fx env σ (bs++capA fr env) b↔A b:=fun b=>by rw [← hA]
  have eA:(fun b=>lim fx env σ (bs++capA fr env) b∨b=p)=fun b=>A b∨b=p:=by rw [← hA]
  rw [eA] at hB
  have nA:¬ A p:=fun z=>by
   obtain ⟨o,eo⟩:=(h.up s).lims _ p ((hA' p).mpr z)
   rw [hp] at eo;cases eo
  have seen:∀ {σ':St} {H':Hp},EnvOk (fun b=>A b∨b=p) H1 (envB own fr env) σ' H'→Same (Offs (fun b=>fx b∨L2.own (frzs env bs) σ b) H1) (Offs (fun b=>A b∨b=p) H'):=fun {σ' H'} hE=>Offs.mono hE.base fun b o eo n z=>by
   rcases z with z|z
   ·rcases (hA' b).mpr z with z|⟨i,d,z1,z2,z3⟩
    ·exact n (.inl z)
    ·exact n (.inr ⟨i,d,zgo (fun y=>z1 (qv _ y)) z2,z3⟩)
   ·rw [z,hp] at eo;cases eo
  refine ⟨fun i m σ' H'=>m=ds.length - i∧i≤ds.length∧∃ vs done rest,H' p=some (.lst vs)∧Rps (Offs (fun b=>A b∨b=p) H') done vs∧done.length≤i∧zeu gf t e (envB own fr env) (ds.drop i)=some rest∧done++rest=rs∧EnvOk (fun b=>A b∨b=p) H1 (envB own fr env) σ' H',
   ⟨ds.length,rfl,qAP _,[],[],rs,zbe,zen,qAP _,ers,rfl,hB⟩,?_⟩
  rintro i m σ' H' ⟨rfl,hi,vs,done,rest,ep,rd,dl,ec,edr,hE⟩
  obtain ⟨yi,ys⟩:=yl _ H' hE.fxs (seen hE)
  by_cases hlt:i<ds.length
  ·obtain ⟨yg,yy⟩:=yi i ds[i] (qF hlt)
   refine .inr ⟨yg,fun σ'' H''=>i+1≤ds.length∧∃ vs done rest,H'' p=some (.lst vs)∧Rps (Offs (fun b=>A b∨b=p) H'') done vs∧done.length≤i+1∧zeu gf t e (envB own fr env) (ds.drop (i+1))=some rest∧done++rest=rs∧EnvOk (fun b=>A b∨b=p) H1 (envB own fr env) σ'' H'',?_,?_⟩
   ·rintro σ'' H'' ⟨hle,hh⟩
    exact ⟨ds.length - (i+1),by omega,rfl,hle,hh⟩
   ·intro x H'' hy
    obtain ⟨sy,ry⟩:=yy x H'' hy
    rw [qAH hlt] at ec
    obtain ⟨e1,ee1,ec⟩:=qA.mp ec
    obtain ⟨b,eb,ec⟩:=qA.mp ec
    have ry':Rp (Offs (fun a=>(A a∨a=p)∨L2.own (envB own fr env) σ' a) H'') ds[i] x:=Rp.same (Offs.sub fun b z=>z.elim (fun y=>y) fun ⟨j,d',z,_⟩=>absurd z zjj) _ ry
    refine h2 _ H1 (envB own fr env) σ' H'' _ x (hE.up sy) ry' e1 ee1 _ fun σ2 hE2=>?_
    refine h3 _ H1 e1 σ2 H'' hE2 b eb _ fun H3 s3=>?_
    have hE3:=hE2.up s3
    obtain ⟨gl,gk⟩:=hx _ _ _ ee1
    have back:∀ {H4:Hp},EnvOk (fun b=>A b∨b=p) H1 e1 σ2 H4→EnvOk (fun b=>A b∨b=p) H1 (envB own fr env) σ2 H4:=fun {H4} hh=>hh.weaken gl.symm (fun j d' ej=>by
     by_cases hj:own.length≤j
     ·rw [gk j hj];exact ej
     ·obtain ⟨_,k,rfl,_⟩:=ztb ej;omega) fun j d'=>zjj
    cases b with
    | false =>
     have ec:zeu gf t e (envB own fr env) (ds.drop (i+1))=some rest:=ec
     exact iteF ⟨hlt,vs,done,rest,s3 _ _ (sy _ _ ep),Rps.same (Offs.grow (sy.trans s3)) _ rd,Nat.le_succ_of_le dl,ec,edr,back hE3⟩
    | true =>
     have ec:((e e1).bind fun r=>(zeu gf t e (envB own fr env) (ds.drop (i+1))).map fun rs=>r.d::rs)=some rest:=ec
     obtain ⟨r,er,ec⟩:=qA.mp ec
     obtain ⟨rest',er',rfl⟩:=qH.mp ec
     refine iteT (h4 _ H1 e1 σ2 H3 hE3 r er _ fun v H4 s4 hv=>?_)
     have t4:=(sy.trans s3).trans s4
     refine ⟨vs,t4 _ _ ep,znb (by rw [← rd.length];omega),hlt,vs++[v],done++[r.d],rest',zbe,?_,by rw [qJ];simp;omega,er',by rw [← edr];simp,(back (hE3.up s4)).updFx (.inr rfl) hp⟩
     rw [Offs.upd (.inr rfl)]
     exact (Rps.same (Offs.grow t4) _ rd).append (zdq (Rp.same (Offs.sub fun b z=>.inl z) _ hv.rp) zen)
  ·have hi':i=ds.length:=by omega
   subst hi'
   rw [qAg] at ec
   cases ec
   rw [qAS] at edr
   subst edr
   refine .inl ⟨ys,q _ H' (s.trans hE.base) ⟨?_,fun _=>⟨p,rfl,s.free hp,?_⟩⟩⟩
   ·show Rp (Offs (lim fx env σ (if zds done=true then [] else bs++capA fr env)) H') (.list done) (.ref p)
    have nl:∀ cs,¬ lim fx env σ cs p:=fun cs z=>by
     obtain ⟨o,eo⟩:=(h.up s).lims _ p z
     rw [hp] at eo;cases eo
    refine ziw (by rw [Offs.get (nl _)];exact ep) ?_
    split
    ·rename_i f;exact zib f rd
    ·exact Rps.same (Offs.sub fun b z=>.inl ((hA' b).mp z)) _ rd
   ·show zeo (Offs (fun b=>lim fx env σ (if zds done=true then [] else bs++capA fr env) b∨b=p) H') H' p (.list done)
    refine ⟨vs,ep,?_⟩
    split
    ·rename_i f;exact zib f rd
    ·exact Rps.same (Offs.sub fun b z=>z.imp (hA' b).mp id) _ rd
 ·cases hr
section
variable {X:Cx} {K:qB}
theorem zaea (hK:X.K=K) {a:Expr} {ta:TE} (ha:PE X a ta) (he:∀ whole,isTrue a X.env whole=(do let v ← whole;standAt a.pos;holding [v] (truthy v))) :
  PT X a (fun σ H Q=>ta σ H fun x H'=>∃ k,TruV K x H' k∧Q k H'):=by subst hK;exact zaga ha he
theorem zlu (hK:X.K=K):CallR X (.type "tuple") (fun xs H Q=>∃ p ys,xs=[.ref p]∧((SqL K H p ys∧∀ l,H l=none→Q (.ref l) (upd H l (.tup ys)))∨(SqT K H p ys∧Q (.ref p) H))):=by subst hK;exact zsp
theorem zps (hK:X.K=K) (hu:X.A.units+64<cLine):OpR X (compareOp .Eq) (fun x y H Q=>rEq x y H Q∨rEqD K false x y H Q):=by subst hK;exact zapk.or (zant hu)
theorem zaeb (hK:X.K=K) (hu:X.A.units+64<cLine):OpR X (compareOp .NotEq) (fun x y H Q=>rNe x y H Q∨rEqD K true x y H Q):=by subst hK;exact zapl.or (zanu hu)
noncomputable def zhc:TF:=fun _=>some true
theorem zlj:ST tAll zhc:=by
 intro fx H0 env σ H hE b hb Q q
 cases hb
 exact q H (Same.refl _)
end
end L2
namespace PySem
open Sem (wp)
end PySem
namespace L2
open PySem PySem.Spec PyProof.Rows
noncomputable def zbr (i:Nat) (b:EF):EF:=fun env=>match env[i]? with
 | some (.pl (.dict kvs))=>(b env).bind fun y=>(keyD y.d).bind fun k=>(zlr kvs k).bind fun d=>some ⟨d,false,[]⟩
 | some (.ac (.dict kvs))=>(b env).bind fun y=>(keyD y.d).bind fun k=>(zlr kvs k).bind fun d=>some ⟨d,false,[]⟩
 | _=>none
theorem zgp {i:Nat} {ty:TE} {fb:EF} (hb:SE ty fb):SE (tDGet (tVar i) ty) (zbr i fb):=by
 intro fx H0 env σ H h rr hr Q q
 unfold zbr at hr
 have key:∀ (a:Addr) (ps:List (Key×V)) (kvs:List (PyData×PyData)),σ[i]?=some (some (.ref a))→H a=some (.dK ps)→Rpd (Offs (fun b=>fx b∨own env σ b) H) kvs ps→((fb env).bind fun y=>(keyD y.d).bind fun k=>(zlr kvs k).bind fun d=>some (⟨d,false,[]⟩:Val))=some rr→tDGet (tVar i) ty σ H Q:=by
  intro a ps kvs hs ha r hr
  obtain ⟨y,ey,hr⟩:=qA.mp hr
  obtain ⟨k,ek,hr⟩:=qA.mp hr
  obtain ⟨d,ed,hr⟩:=qA.mp hr
  cases hr
  refine ⟨_,hs,hb fx H0 env σ H h _ ey _ fun u H2 s2 v2=>?_⟩
  have g:=(Rpd.same (Offs.grow s2) _ r).get (j:=k)
  rw [ed] at g
  obtain ⟨w,e1,e2⟩:=g
  rw [zads v2.rp ek]
  have dg:=DGet.k (k:=k) (s2 _ _ ha)
  rw [e1] at dg
  exact ⟨a,w,rfl,dg,q w H2 s2 ⟨Rp.same (Offs.sub zlq) _ e2,fun z=>by cases z⟩⟩
 split at hr
 ·rename_i kvs ei
  obtain ⟨v,h1,h2⟩:=h.pl i _ ei
  obtain ⟨a,ps,rfl,ha,r⟩:=zpk h2
  exact key a ps kvs h1 (zcm ha) r hr
 ·rename_i kvs ei
  obtain ⟨a,h1,h2,h3,ps,ha,r⟩:=h.ac i _ ei
  exact key a ps kvs h1 ha r hr
 ·cases hr
noncomputable def eIxV (i:Nat) (b:EF):EF:=fun env=>match env[i]? with
 | some (.ac (.list ds))=>(b env).bind fun y=>match y.d with
  | .int k=>(atI ds k).map fun d=>⟨d,false,[]⟩
  | _=>none
 | _=>eOp ixD (eVar i) b env
theorem zdy {K:qB} {i:Nat} {tb:TE} {fb:EF} (hb:SE tb fb):SE (tOp (rIxU K) (tVar i) tb) (eIxV i fb):=by
 intro fx H0 env σ H h rr hr Q q
 unfold eIxV at hr
 split at hr
 ·rename_i ds ei
  obtain ⟨⟨dy,fy,bys⟩,ey,hr⟩:=qA.mp hr
  cases dy with
  | int k =>
   obtain ⟨d,ed,rfl⟩:=qH.mp hr
   obtain ⟨a,h1,h2,h3,xs,ha,r⟩:=h.ac i _ ei
   refine ⟨_,h1,hb fx H0 env σ H h _ ey _ fun u H2 s2 v2=>?_⟩
   cases zdp v2.rp
   obtain ⟨v,hv,rv⟩:=(Rps.same (Offs.grow s2) _ r).atI ed
   exact ⟨xs,v,.inl (SqL.of (s2 _ _ ha)),hv,q _ H2 s2 ⟨Rp.same (Offs.sub zlq) _ rv,fun z=>by cases z⟩⟩
  | _=>cases hr
 ·exact zbw zpm (zaf i) hb fx H0 env σ H h rr hr Q q
end L2
namespace Bc
open PySem L2
noncomputable def ziy:SF:=(sRet (zii ["name", "elders"] [] (zbh (eVar 0)) (gT 2 (zbc 0 (zbc 1 zfl))) zhc (eVar 0)))
noncomputable def zky:GF:=fnD 1 ziy
noncomputable def zfn:SF:=(sSeq (sSet 2 (zck 1 zky (zac (eVar 0) aNil)))
  (sFor (zbh (eVar 1)) (gN 3)
  (sIf (zbb (eOp (inD true) (eVar 3) (eVar 2))) zzl sNil)))
noncomputable def zfo:GF:=fnD 4 zfn
noncomputable def zru:SF:=(sSeq (sSet 1 zaax)
  (sSeq (sFor (zbh (eVar 0)) (gT 2 (zbc 2 (zbc 3 zfl)))
  (sSeq (sSet 4 (eD1 (eVar 2) (eC (.bool true))))
  (sSeq (sFor (zbh (eVar 3)) (gN 5)
  (sUpd 4 (zbr 1 (eVar 5))))
  (sPut 1 (eVar 2) (eVar 4)))))
  (zaaz 1)))
noncomputable def zex:GF:=fnD 6 zru
theorem zgv {α:Type} {enc out:α→PyData} {g:GT} {t:TF} {e:EF} {env:DEnv} (p:α→Bool):∀ {l:List α},(∀ x∈l,∃ e1,g (enc x) env=some e1∧t e1=some (p x)∧(p x=true→∃ r,e e1=some r∧r.d=out x)) →
  zeu g t e env (l.map enc)=some ((l.filter p).map out)
 | [],_=>rfl
 | x::l,h=>by
  obtain ⟨e1,h1,h2,h3⟩:=h x qg
  have ih:=zgv (l:=l) p fun y hy=>h y (qI _ hy)
  rw [qe]
  unfold zeu
  rw [h1,qG,h2,qG]
  cases hp:p x with
  | false =>
   rw [if_neg qK,ih,List.filter_cons,hp];rfl
  | true =>
   obtain ⟨r,h4,h5⟩:=h3 hp
   rw [if_pos rfl,h4,qG,ih,List.filter_cons,hp]
   simp [h5]
theorem zgw {α:Type} {enc out:α→PyData} {g:GT} {t:TF} {e:EF} {env:DEnv} {l:List α} (h:∀ x∈l,∃ e1,g (enc x) env=some e1∧t e1=some true∧∃ r,e e1=some r∧r.d=out x):zeu g t e env (l.map enc)=some (l.map out):=by
 have q:=zgv (enc:=enc) (out:=out) (g:=g) (t:=t) (e:=e) (env:=env) (fun _=>true) (l:=l) fun x hx=>let ⟨e1,h1,h2,h3⟩:=h x hx;⟨e1,h1,h2,fun _=>h3⟩
 rw [q]
 congr 2
 exact List.filter_eq_self.mpr fun _ _=>rfl
theorem zzo {α:Type} {enc:α→PyData} {g:GT} {body:SF} (I:List α→DEnv→Prop) (all:List α):∀ (l pre:List α) (env:DEnv),pre++l=all→I pre env →
  (∀ pre x post env,pre++x::post=all→I pre env→∃ e1 e2,g (enc x) env=some e1∧(body e1=some (.nx e2)∨body e1=some (.ct e2))∧I (pre++[x]) e2)→∃ env',forL g body (l.map enc) env=some (.nx env')∧I all env'
 | [],pre,env,hall,h0,hs=>by
  rw [qAS] at hall
  subst hall
  exact ⟨env,rfl,h0⟩
 | x::l,pre,env,hall,h0,hs=>by
  obtain ⟨e1,e2,h1,h2,h3⟩:=hs pre x l env hall h0
  obtain ⟨env',h4,h5⟩:=zzo I all l (pre++[x]) e2 (by rw [← hall];simp) h3 hs
  refine ⟨env',?_,h5⟩
  rw [qe]
  unfold forL
  rw [h1,qG]
  rcases h2 with h2|h2<;>rw [h2,qG]<;>exact h4
theorem ziz {α:Type} {enc:α→PyData} {g:GT} {body:SF} {l:List α} {env:DEnv} (I:List α→DEnv→Prop) (h0:I [] env) (hs:∀ pre x post env,pre++x::post=l→I pre env→∃ e1 e2,g (enc x) env=some e1∧(body e1=some (.nx e2)∨body e1=some (.ct e2))∧I (pre++[x]) e2) :
  ∃ env',forL g body (l.map enc) env=some (.nx env')∧I l env':=zzo I l l [] env rfl h0 hs
theorem zey {f g:SF} {env e1:DEnv} {o:Option Out} (h:f env=some (.nx e1)) (k:g e1=o):sSeq f g env=o:=by unfold sSeq;rw [h];exact k
theorem zaoi {f g:SF} {env:DEnv} {d:PyData} {fr:Bool} (h:f env=some (.rt d fr)):sSeq f g env=some (.rt d fr):=by unfold sSeq;rw [h];rfl
theorem zmi {f:EF} {g:GT} {b:SF} {env:DEnv} {ds:List PyData} {fr:Bool} {bs:List Nat} {o:Option Out} (h:f env=some ⟨.list ds,fr,bs⟩) (k:forL g b ds (frzs env bs)=o):sFor (zbh f) g b env=o:=by
 unfold sFor zbh;rw [h];exact k
theorem zaec {f:EF} {g:GT} {b:SF} {env:DEnv} {ds:List PyData} {fr:Bool} {bs:List Nat} {o:Option Out} (h:f env=some ⟨.tuple ds,fr,bs⟩) (k:forL g b ds (frzs env bs)=o):sFor (zbh f) g b env=o:=by
 unfold sFor zbh;rw [h];exact k
theorem if_t {c:TF} {f g:SF} {env:DEnv} {o:Option Out} (h:c env=some true) (k:f env=o):sIf c f g env=o:=by unfold sIf;rw [h];exact k
theorem if_f {c:TF} {f g:SF} {env:DEnv} {o:Option Out} (h:c env=some false) (k:g env=o):sIf c f g env=o:=by unfold sIf;rw [h];exact k
theorem zvj {i:Nat} {f:EF} {env:DEnv} {r:Val} (h:f env=some r):sSet i f env=some (.nx (putV env i r)):=by unfold sSet;rw [h];rfl
theorem zaed {f:EF} {env:DEnv} {r:Val} (h:f env=some r):zaay f env=some (.nx env):=by unfold zaay;rw [h];rfl
theorem zlk {f:EF} {env:DEnv} {d:PyData} {fr:Bool} {bs:List Nat} (h:f env=some ⟨d,fr,bs⟩):sRet f env=some (.rt d fr):=by unfold sRet;rw [h];rfl
theorem zdd {n:Nat} {g:GF} {f:AF} {env:DEnv} {rs:List Val} {d:PyData} {fr:Bool} (h:f env=some rs) (hn:rs.length=n) (k:g (zix rs)=some (d,fr)):zck n g f env=some ⟨d,fr,bsOf d (bss rs)⟩:=by
 unfold zck;rw [h,qG,if_pos hn,k];rfl
theorem zjk {own:List Str} {fr:List Nat} {fi:IF'} {g:GT} {t:TF} {e:EF} {env:DEnv} {ds:List PyData} {bs:List Nat} {rs:List PyData} (h:fi env=some (ds,bs)) (hl:ds.length<100000) (k:zeu g t e (envB own fr env) ds=some rs) :
  zii own fr fi g t e env=some ⟨.list rs,true,if zds rs=true then [] else bs++capA fr env⟩:=by
 unfold zii;rw [h,qG,if_pos hl,k];rfl
theorem zlv {n:Nat} {f:SF} {ds:List PyData} {env:DEnv} {d:PyData} {fr:Bool} (h:zjp n ds=env) (e:f env=some (.rt d fr)):fnD n f ds=some (d,fr):=by
 unfold fnD;rw [h,e]
theorem zapz {n:Nat} {f:SF} {ds:List PyData} {env env':DEnv} (h:zjp n ds=env) (e:f env=some (.nx env')):fnD n f ds=some (.none,false):=by
 unfold fnD;rw [h,e]
theorem zaee (n:Int):neD (.int n) (.int n)=some (.bool false,false):=by
 have e:qAA (.int n) (.int n)=true:=by unfold qAA;exact beq_self_eq_true n
 show some (PyData.bool (!PyData.eqv (.int n) (.int n)),false)=_
 rw [e];rfl
noncomputable def zab (xs:List Str):PyData:=.list (xs.map .str)
noncomputable def rowD (p:Str×List Str):PyData:=.tuple [.str p.1,zab p.2]
noncomputable def webD (W:Web):PyData:=.list (W.map rowD)
theorem zrv (xs:List Str):zds (xs.map .str)=true:=by
 unfold zds
 rw [List.all_map]
 exact qAN.mpr fun _ _=>rfl
theorem zagx (xs:List Str) (x:Str):((xs.map PyData.str).any fun e=>qAA e (.str x))=decide (x∈xs):=by
 rw [qBV,qAe,qAv,decide_eq_true_iff]
 constructor
 ·rintro ⟨y,hy,h⟩
  have:y=x:=by simpa [qAA] using h
  rw [← this];exact hy
 ·exact fun h=>⟨x,h,by simp [qAA]⟩
theorem ztc (b:Bool) (xs:List Str) (x:Str):inD b (.str x) (zab xs)=some (.bool (if b then !decide (x∈xs) else decide (x∈xs)),false):=by
 unfold inD zab
 simp only [zhz]
 rw [if_pos ⟨rfl,zrv xs⟩,zagx]
theorem zabb {W:Web} (hl:W.length<100000):zky [webD W]=some (zab (nm W),true):=by
 have c:zeu (gT 2 (zbc 0 (zbc 1 zfl))) zhc (eVar 0) [.no,.no] (W.map rowD)=some (W.map fun p=>PyData.str p.1):=zgw fun p _=>⟨[.pl (.str p.1),.pl (zab p.2)],rfl,rfl,⟨.str p.1,false,[]⟩,rfl,rfl⟩
 have e:ziy [.pl (webD W)]=some (.rt (zab (nm W)) true):=by
  unfold ziy sRet zii zbh
  simp only [eVar,qAl,qG,webD,zhz,qAx,qE]
  rw [if_pos hl]
  show Option.map _ (Option.map _ (zeu _ _ _ [.no,.no] _))=_
  rw [c]
  unfold zab nm
  simp
 show (match ziy [.pl (webD W)] with|some (.rt d fr)=>some (d,fr)|some (.nx _)=>some (.none,false)|_=>none)=_
 rw [e]
theorem ztd {W:Web} (hl:W.length<100000) {ns:List Str} (h:∀ n∈ns,n∈nm W):zfo [webD W,zab ns]=some (.none,false):=by
 have l:∃ env',forL (gN 3) (sIf (zbb (eOp (inD true) (eVar 3) (eVar 2))) zzl sNil) (ns.map .str) [.pl (webD W),.pl (zab ns),.ac (zab (nm W)),.no]=some (.nx env')∧True:=by
  refine ziz (fun _ env=>∃ s,env=[.pl (webD W),.pl (zab ns),.ac (zab (nm W)),s]) ⟨_,rfl⟩ ?_ |>.imp fun _ q=>⟨q.1,trivial⟩
  rintro pre x post env hx ⟨s,rfl⟩
  have hm:=h x (by rw [← hx];simp)
  refine ⟨_,[.pl (webD W),.pl (zab ns),.ac (zab (nm W)),.pl (.str x)],rfl,.inl ?_,_,rfl⟩
  simp [sIf,zbb,eOp,eVar,sNil,ztc,hm,bsOf,zhb]
 obtain ⟨env',l,_⟩:=l
 have e:zfn [.pl (webD W),.pl (zab ns),.no,.no]=some (.nx env'):=by
  unfold zfn sSeq sSet zck sFor zbh
  simp only [zac,aNil,eVar,qAl,qAm,qG,qAx,zix,qe,qBR,qa,qBy,zabb hl,if_true]
  simp [putV,frzs,bsOf,zab,zhb,bss,slOf,zhz]
  exact l
 show (match zfn [.pl (webD W),.pl (zab ns),.no,.no] with|some (.rt d fr)=>some (d,fr)|some (.nx _)=>some (.none,false)|_=>none)=_
 rw [e]
noncomputable def insS (ks:List Str) (k:Str):List Str:=if k∈ks then ks else ks++[k]
noncomputable def upL (acc:List (Str×List Str)) (e:Str):List Str:=(acc.lookup e).getD []
noncomputable def zkc (acc:List (Str×List Str)) (p:Str×List Str):List (Str×List Str):=acc++[(p.1,p.2.foldl (fun ks e=>(upL acc e).foldl insS ks) [p.1])]
noncomputable def ups (W:Web):List (Str×List Str):=W.foldl zkc []
noncomputable def up (W:Web) (n:Str):List Str:=upL (ups W) n
theorem zkz (W:Web) (p:Str×List Str):ups (W++[p])=zkc (ups W) p:=by unfold ups;rw [qBm];rfl
theorem zagy {ks:List Str} {k x:Str}:x∈insS ks k↔x∈ks∨x=k:=by
 unfold insS
 split
 ·rename_i h
  exact ⟨.inl,fun z=>z.elim id fun e=>e▸h⟩
 ·simp
theorem zmj {x:Str}:∀ {ms ks:List Str},x∈ms.foldl insS ks↔x∈ks∨x∈ms
 | [],ks=>by simp
 | m::ms,ks=>by
  rw [qBz,zmj,zagy]
  simp [or_assoc]
theorem zalf {ks:List Str} {k:Str} (h:ks.Nodup):(insS ks k).Nodup:=by
 unfold insS
 split
 ·exact h
 ·rename_i hk;exact zxq h hk
theorem zte:∀ {ms ks:List Str},ks.Nodup→(ms.foldl insS ks).Nodup
 | [],_,h=>h
 | _::ms,_,h=>zte (ms:=ms) (zalf h)
theorem ztf {acc:List (Str×List Str)} {x:Str}:∀ {es ks:List Str},x∈es.foldl (fun ks e=>(upL acc e).foldl insS ks) ks↔x∈ks∨∃ e∈es,x∈upL acc e
 | [],ks=>by simp
 | e::es,ks=>by
  rw [qBz,ztf,zmj]
  simp [or_assoc]
theorem zaef {acc:List (Str×List Str)}:∀ {es ks:List Str},ks.Nodup→(es.foldl (fun ks e=>(upL acc e).foldl insS ks) ks).Nodup
 | [],_,h=>h
 | _::es,_,h=>zaef (es:=es) (zte h)
theorem zhk {l:List (Str×List Str)} {n:Str} {p:Str×List Str}:(l++[p]).lookup n=(l.lookup n).or (if n==p.1 then some p.2 else none):=by
 induction l with
 | nil =>
  obtain ⟨a,b⟩:=p
  show List.lookup n [(a,b)]=_
  rw [qz]
  cases n==a<;>rfl
 | cons q l ih =>
  obtain ⟨a,b⟩:=q
  rw [List.cons_append,qz,qz]
  cases n==a with
  | true=>rfl
  | false=>exact ih
theorem zpt {α:Type} {P:List α→Prop} (h0:P []) (hs:∀ l x,P l→P (l++[x])):∀ l,P l:=by
 intro l
 have:∀ n (l:List α),l.length=n→P l:=by
  intro n
  induction n with
  | zero=>intro l e;rw [qAc.mp e];exact h0
  | succ n ih =>
   intro l e
   have hne:l≠[]:=fun z=>by rw [z] at e;cases e
   rw [← List.dropLast_concat_getLast hne]
   exact hs _ _ (ih _ (by rw [List.length_dropLast,e];rfl))
 exact this _ l rfl
theorem zjl:∀ (W:Web),(ups W).map (·.1)=nm W:=by
 refine zpt rfl fun W p ih=>?_
 rw [zkz]
 unfold zkc nm
 rw [qy,qy,ih]
 rfl
theorem zni (W:Web) (p:Str×List Str):nm (W++[p])=nm W++[p.1]:=by unfold nm;rw [qy];rfl
theorem zhm {W:Web} {p:Str×List Str} (h:WebOk (W++[p])):WebOk W∧p.1∉nm W∧(∀ e∈p.2,e∈nm W)∧p.2.length≤4:=by
 have hp:(W++[p])[W.length]?=some p:=by simp
 refine ⟨⟨?_,fun i n es e=>?_,fun q hq=>h.few q (qv _ hq),?_⟩,?_,fun e he=>?_,h.few p (by simp)⟩
 ·have:=h.nd;rw [zni] at this;exact (qBI.mp this).1
 ·have hi:i<W.length:=(qR.mp e).1
  have q:=h.el i n es (by rw [qm hi];exact e)
  rw [qAq (by omega)] at q
  exact q
 ·have:=h.len;simp at this;omega
 ·have:=h.nd
  rw [zni] at this
  intro hm
  exact (qBI.mp this).2.2 p.1 hm p.1 (by simp) rfl
 ·have q:=h.el W.length p.1 p.2 hp e he
  rw [qAq (qQ _),qBp] at q
  exact q
theorem zjm {l:List (Str×List Str)} {n:Str} (h:n∈l.map (·.1)):∃ ks,l.lookup n=some ks∧(n,ks)∈l:=by
 induction l with
 | nil=>simp at h
 | cons q l ih =>
  obtain ⟨a,b⟩:=q
  rw [qz]
  cases e:n==a with
  | true=>rw [eq_of_beq e];exact ⟨b,rfl,qg⟩
  | false =>
   have hn:n≠a:=beq_eq_false_iff_ne.mp e
   rcases qN.mp h with z|z
   ·exact absurd z hn
   ·obtain ⟨ks,h1,h2⟩:=ih z
    exact ⟨ks,h1,qI _ h2⟩
theorem znj {W:Web} {p:Str×List Str} {m:Str} (h:m∈nm W):up (W++[p]) m=up W m:=by
 unfold up upL
 rw [zkz]
 unfold zkc
 obtain ⟨ks,e,_⟩:=zjm (l:=ups W) (n:=m) (by rw [zjl];exact h)
 rw [zhk,e]
 rfl
theorem zpu {l:List (Str×List Str)} {n:Str} (h:n∉l.map (·.1)):l.lookup n=none:=by
 induction l with
 | nil=>rfl
 | cons q l ih =>
  obtain ⟨a,b⟩:=q
  rw [qz]
  have h1:n≠a:=fun z=>h (by simp [z])
  rw [beq_eq_false_iff_ne.mpr h1]
  exact ih fun z=>h (qI _ z)
theorem zaiw {W:Web} {p:Str×List Str} (h:p.1∉nm W):up (W++[p]) p.1=p.2.foldl (fun ks e=>(upL (ups W) e).foldl insS ks) [p.1]:=by
 unfold up upL
 rw [zkz]
 unfold zkc
 rw [zhk,zpu (by rw [zjl];exact h)]
 simp [upL]
theorem zaoj {W:Web} {n:Str} {es:List Str} (h:(n,es)∈W):n∈nm W:=qAj.mpr ⟨_,h,rfl⟩
theorem zzp {W:Web} (h:WebOk W) {n:Str} {es:List Str} (hm:(n,es)∈W):∀ e∈es,e∈nm W:=fun e he=>by
 obtain ⟨i,hi,e'⟩:=qBf hm
 have q:=h.el i n es (by rw [qF hi,e']) e he
 obtain ⟨p,h1,h2⟩:=qAj.mp q
 exact qAj.mpr ⟨p,qCQ h1,h2⟩
theorem zaix {x:Str}:∀ {W:Web},WebOk W→∀ {n:Str} {es:List Str},(n,es)∈W→(x∈up W n↔x=n∨∃ e∈es,x∈up W e):=by
 intro W
 refine zpt (P:=fun W=>WebOk W→∀ {n:Str} {es:List Str},(n,es)∈W→(x∈up W n↔x=n∨∃ e∈es,x∈up W e)) (fun _ n es h=>nomatch h) (fun W p ih h n es hm=>?_) W
 obtain ⟨hW,hp,hel,_⟩:=zhm h
 rcases qAB.mp hm with hm|hm
 ·rw [znj (zaoj hm),ih hW hm]
  have:(∃ e∈es,x∈up W e)↔∃ e∈es,x∈up (W++[p]) e:=by
   constructor
   ·rintro ⟨e,he,hx⟩;exact ⟨e,he,by rw [znj (zzp hW hm e he)];exact hx⟩
   ·rintro ⟨e,he,hx⟩;exact ⟨e,he,by rw [znj (zzp hW hm e he)] at hx;exact hx⟩
  rw [this]
 ·have e:(n,es)=p:=by simpa using hm
  subst e
  rw [zaiw hp,ztf]
  have:(∃ e∈es,x∈upL (ups W) e)↔∃ e∈es,x∈up (W++[(n,es)]) e:=by
   constructor
   ·rintro ⟨e,he,hx⟩;exact ⟨e,he,by rw [znj (hel e he)];exact hx⟩
   ·rintro ⟨e,he,hx⟩;exact ⟨e,he,by rw [znj (hel e he)] at hx;exact hx⟩
  rw [this]
  simp
theorem zvk:∀ {W:Web},WebOk W→∀ {n x:Str},x∈up W n→x∈nm W:=by
 intro W
 refine zpt (P:=fun W=>WebOk W→∀ {n x:Str},x∈up W n→x∈nm W) (fun _ n x h=>by simp [up,ups,upL] at h) (fun W p ih h n x hx=>?_) W
 obtain ⟨hW,hp,hel,_⟩:=zhm h
 rw [zni]
 by_cases hn:n∈nm W
 ·rw [znj hn] at hx
  exact qv _ (ih hW hx)
 ·by_cases e:n=p.1
  ·rw [e,zaiw hp,ztf] at hx
   rcases hx with hx|⟨e',_,hx⟩
   ·exact qW _ (by simpa using hx)
   ·exact qv _ (ih hW hx)
  ·unfold up upL at hx
   rw [zkz] at hx
   unfold zkc at hx
   rw [zhk,zpu (by rw [zjl];exact hn),beq_eq_false_iff_ne.mpr e] at hx
   simp at hx
theorem zaqa:∀ {W:Web} {n:Str},(up W n).Nodup:=by
 intro W
 refine zpt (P:=fun W=>∀ {n:Str},(up W n).Nodup) (fun {n}=>by simp [up,ups,upL]) (fun W p ih n=>?_) W
 unfold up upL
 rw [zkz]
 unfold zkc
 rw [zhk]
 cases e:(ups W).lookup n with
 | some ks =>
  have q:=ih (n:=n)
  unfold up upL at q
  rw [e] at q
  exact q
 | none =>
  show ((if n==p.1 then some _ else none).getD []).Nodup
  split
  ·exact zaef (by simp)
  ·exact qBc
theorem zaiy {W:Web} (h:WebOk W) (n:Str):(up W n).length≤12:=by
 have:=zme _ (nm W) (zaqa (W:=W) (n:=n)) fun x hx=>zvk h hx
 have:=zpi h
 omega
noncomputable def dS (f:List Str→PyData) (l:List (Str×List Str)):List (PyData×PyData):=l.map fun p=>(.str p.1,f p.2)
theorem zkd (f:List Str→PyData) (n:Str):∀ l:List (Str×List Str),zlr (dS f l) (Sum.inr n)=(l.lookup n).map f
 | []=>rfl
 | (a,b)::l=>by
  have ih:=zkd f n l
  show (if keyD (.str a)=some (Sum.inr n) then some (f b) else zlr (dS f l) (Sum.inr n))=_
  rw [qz]
  by_cases e:a=n
  ·subst e;rw [if_pos (show keyD (.str a)=some (Sum.inr a) from rfl),beq_self_eq_true];rfl
  ·rw [if_neg (show ¬ keyD (.str a)=some (Sum.inr n) from fun z=>e (qBa (qT z))),beq_eq_false_iff_ne.mpr (qAW e)]
   exact ih
theorem zya (f:List Str→PyData) {l:List (Str×List Str)} {n:Str} {ks:List Str} (h:n∉l.map (·.1)):zor (dS f l) (.str n) (f ks)=dS f (l++[(n,ks)]):=by
 unfold zor dS
 rw [if_neg,qy]
 ·rfl
 ·intro z
  rw [qBV,qAv] at z
  obtain ⟨p,hp,e⟩:=z
  have e:=of_decide_eq_true e
  exact h (qAj.mpr ⟨p,hp,qBa (qT e)⟩)
noncomputable def zij (ks:List Str):List (PyData×PyData):=ks.map fun k=>(.str k,.bool true)
noncomputable def zbi (ks:List Str):PyData:=.dict (zij ks)
theorem zvl (x:Str):∀ ks:List Str,zxv (zij ks) (Sum.inr x)=decide (x∈ks)
 | []=>by simp [zij,zxv,zlr]
 | k::ks=>by
  have ih:=zvl x ks
  unfold zxv at ih ⊢
  show (if keyD (.str k)=some (Sum.inr x) then some (PyData.bool true) else zlr (zij ks) (Sum.inr x)).isSome=_
  by_cases e:k=x
  ·subst e;rw [if_pos (show keyD (.str k)=some (Sum.inr k) from rfl)];simp
  ·rw [if_neg (show ¬ keyD (.str k)=some (Sum.inr x) from fun z=>e (qBa (qT z))),ih]
   have:¬ x=k:=fun z=>e z.symm
   simp [this]
theorem zaeg (ks:List Str) (k:Str):zor (zij ks) (.str k) (.bool true)=zij (insS ks k):=by
 have ha:((zij ks).any fun kv=>decide (keyD kv.1=keyD (.str k)))=decide (k∈ks):=by
  unfold zij
  rw [qBV,qAe,qAv,decide_eq_true_iff]
  constructor
  ·rintro ⟨y,hy,h⟩
   have h:=of_decide_eq_true h
   have:y=k:=qBa (qT h)
   rw [← this];exact hy
  ·exact fun h=>⟨k,h,decide_eq_true rfl⟩
 unfold zor insS
 rw [ha]
 by_cases hk:k∈ks
 ·rw [if_pos (decide_eq_true hk),if_pos hk]
  unfold zij
  rw [qBS]
  refine qBA fun y _=>?_
  show (if keyD (PyData.str y)=keyD (.str k) then (PyData.str y,PyData.bool true) else (PyData.str y,PyData.bool true))=_
  split<;>rfl
 ·rw [if_neg (by simpa using hk),if_neg hk]
  unfold zij
  rw [qy];rfl
theorem zlw:∀ (ms ks:List Str),znd (zij ks) (zij ms)=zij (ms.foldl insS ks)
 | [],_=>rfl
 | m::ms,ks=>by
  show znd (zor (zij ks) (.str m) (.bool true)) (zij ms)=_
  rw [zaeg,zlw ms];rfl
theorem zzq {α:Type} {pre post:List α} {x:α} {l:List α} (h:pre++x::post=l):l=(pre++[x])++post:=by rw [← h];simp
theorem zvm:∀ {post W:Web},WebOk (W++post)→WebOk W:=by
 intro post
 refine zpt (P:=fun post=>∀ {W:Web},WebOk (W++post)→WebOk W) (fun {W} h=>by rwa [qAS] at h) (fun post p ih W h=>?_) post
 rw [← qBJ] at h
 exact ih (zhm h).1
theorem zrw {W:Web} (h:WebOk W):zex [webD W]=some (.dict (dS zbi (ups W)),true):=by
 have inner:∀ (V:Web) (p:Str×List Str) (es pre:List Str) (s5:Sl),WebOk (V++[p])→pre++es=p.2 →
   ∃ s5',forL (gN 5) (sUpd 4 (zbr 1 (eVar 5))) (es.map .str) [.pl (webD W),.ac (.dict (dS zbi (ups V))),.pl (.str p.1),.pl (zab p.2),.ac (zbi (pre.foldl (fun ks e=>(upL (ups V) e).foldl insS ks) [p.1])),s5] =
    some (.nx [.pl (webD W),.ac (.dict (dS zbi (ups V))),.pl (.str p.1),.pl (zab p.2),.ac (zbi (p.2.foldl (fun ks e=>(upL (ups V) e).foldl insS ks) [p.1])),s5']):=by
  intro V p es
  induction es with
  | nil=>intro pre s5 _ e;rw [qAS] at e;subst e;exact ⟨s5,rfl⟩
  | cons e es ih =>
   intro pre s5 hV hp
   obtain ⟨hV',hn,hel,hfew⟩:=zhm hV
   have he:e∈nm V:=hel e (by rw [← hp];simp)
   obtain ⟨ks,lk,_⟩:=zjm (l:=ups V) (n:=e) (by rw [zjl];exact he)
   have eup:upL (ups V) e=ks:=by unfold upL;rw [lk];rfl
   have l1:ks.length≤12:=by rw [← eup];exact zaiy hV' e
   have sub:∀ x∈pre.foldl (fun ks e=>(upL (ups V) e).foldl insS ks) [p.1],x∈nm (V++[p]):=fun x hx=>by
    rw [zni]
    rcases ztf.mp hx with z|⟨e',_,z⟩
    ·exact qW _ (by simpa using z)
    ·exact qv _ (zvk hV' z)
   have l2:(pre.foldl (fun ks e=>(upL (ups V) e).foldl insS ks) [p.1]).length≤12:=by
    have:=zme _ _ (zaef (acc:=ups V) (es:=pre) (ks:=[p.1]) (by simp)) sub
    have:=zpi hV
    omega
   obtain ⟨s5',q⟩:=ih (pre++[e]) (.pl (.str e)) hV (by rw [← hp];simp)
   refine ⟨s5',?_⟩
   rw [qe]
   unfold forL
   simp only [gN,qG,List.set_cons_succ,List.set_cons_zero]
   have b:sUpd 4 (zbr 1 (eVar 5)) [.pl (webD W),.ac (.dict (dS zbi (ups V))),.pl (.str p.1),.pl (zab p.2),.ac (zbi (pre.foldl (fun ks e=>(upL (ups V) e).foldl insS ks) [p.1])),.pl (.str e)] =
     some (.nx [.pl (webD W),.ac (.dict (dS zbi (ups V))),.pl (.str p.1),.pl (zab p.2),.ac (zbi ((pre++[e]).foldl (fun ks e=>(upL (ups V) e).foldl insS ks) [p.1])),.pl (.str e)]):=by
    have lz:(zij (pre.foldl (fun ks e=>(upL (ups V) e).foldl insS ks) [p.1])).length+(zij ks).length≤100000:=by unfold zij;rw [qE,qE];omega
    simp only [sUpd,zbi,zbr,eVar,qAm,qAl,qG,keyD,zkd,lk,qAx]
    rw [if_pos ⟨lz,by simp⟩,zlw]
    simp [frzs,qBm,eup]
   rw [b,qG]
   exact q
 have outer:∃ env',forL (gT 2 (zbc 2 (zbc 3 zfl))) (sSeq (sSet 4 (eD1 (eVar 2) (eC (.bool true)))) (sSeq (sFor (zbh (eVar 3)) (gN 5) (sUpd 4 (zbr 1 (eVar 5)))) (sPut 1 (eVar 2) (eVar 4)))) (W.map rowD) [.pl (webD W),.ac (.dict []),.no,.no,.no,.no]=some (.nx env') ∧
   ∃ s2 s3 s4 s5,env'=[.pl (webD W),.ac (.dict (dS zbi (ups W))),s2,s3,s4,s5]:=by
  refine ziz (fun pre env=>∃ s2 s3 s4 s5,env=[.pl (webD W),.ac (.dict (dS zbi (ups pre))),s2,s3,s4,s5]) ⟨_,_,_,_,rfl⟩ ?_
  rintro pre p post env hp ⟨s2,s3,s4,s5,rfl⟩
  have hV:WebOk (pre++[p]):=zvm (post:=post) (by rw [← zzq hp];exact h)
  obtain ⟨hV',hn,hel,hfew⟩:=zhm hV
  obtain ⟨s5',q⟩:=inner pre p p.2 [] s5 hV rfl
  refine ⟨[.pl (webD W),.ac (.dict (dS zbi (ups pre))),.pl (.str p.1),.pl (zab p.2),s4,s5],[.pl (webD W),.ac (.dict (dS zbi (ups (pre++[p])))),.pl (.str p.1),.pl (zab p.2),.pl (zbi (p.2.foldl (fun ks e=>(upL (ups pre) e).foldl insS ks) [p.1])),s5'],rfl,.inl ?_,_,_,_,_,rfl⟩
  have lz:(dS zbi (ups pre)).length<100000:=by
   unfold dS
   rw [qE,← qE (f:=(·.1)),zjl]
   have:=zpi hV'
   omega
  have st:sSet 4 (eD1 (eVar 2) (eC (.bool true))) [.pl (webD W),.ac (.dict (dS zbi (ups pre))),.pl (.str p.1),.pl (zab p.2),s4,s5]=some (.nx [.pl (webD W),.ac (.dict (dS zbi (ups pre))),.pl (.str p.1),.pl (zab p.2),.ac (zbi [p.1]),s5]):=by
   simp [sSet,eD1,eVar,eC,keyD,putV,frzs,slOf,zbi,zij]
  have pt:sPut 1 (eVar 2) (eVar 4) [.pl (webD W),.ac (.dict (dS zbi (ups pre))),.pl (.str p.1),.pl (zab p.2),.ac (zbi (p.2.foldl (fun ks e=>(upL (ups pre) e).foldl insS ks) [p.1])),s5'] =
    some (.nx [.pl (webD W),.ac (.dict (dS zbi (ups (pre++[p])))),.pl (.str p.1),.pl (zab p.2),.pl (zbi (p.2.foldl (fun ks e=>(upL (ups pre) e).foldl insS ks) [p.1])),s5']):=by
   simp only [sPut,eVar,qAm,qAl,qG,keyD]
   rw [if_pos ⟨lz,by simp⟩,zya zbi (by rw [zjl];exact hn),zkz]
   simp [frzs,frz1,zkc]
  exact zey st (zey (zmi rfl q) pt)
 obtain ⟨env',hl,s2,s3,s4,s5,rfl⟩:=outer
 exact zlv (env:=[.pl (webD W),.no,.no,.no,.no,.no]) rfl (zey rfl (zey (zmi rfl hl) rfl))
noncomputable def ltr (i:Int):Str:=⟨#[97+i.toNat]⟩
noncomputable def Low (x:Str):Prop:=∀ c∈x.cps.toList,c<128
theorem zaeh {x:Str} (h:Low x):qBP x=true:=by
 unfold qBP
 rw [← Array.all_toList,qAN]
 intro c hc
 have:=h c hc
 exact decide_eq_true (by omega)
theorem ztg (a b:Str):(a++b).cps.toList=a.cps.toList++b.cps.toList:=by
 show (a.cps++b.cps).toList=_
 simp
theorem Low.app {a b:Str} (h1:Low a) (h2:Low b):Low (a++b):=fun c hc=>by
 rw [ztg] at hc
 exact (qAB.mp hc).elim (h1 c) (h2 c)
theorem Low.slice {x:Str} (h:Low x) (l u:Option Int):Low (Txt.slice x l u):=fun c hc=>by
 unfold Txt.slice at hc
 split at hc
 ·exact h c hc
 ·have hc:c∈(List.filterMap (x.cps[·]?) (Builtin.Str.strSliceIndices l u 1 x.length)):=by simpa using hc
  obtain ⟨i,_,e⟩:=qBi.mp hc
  exact h c (by
   have:=Array.mem_of_getElem? e
   simpa using this)
theorem Low.ltr {i:Int} (h0:0≤i) (h1:i<26):Low (ltr i):=fun c hc=>by
 have:c=97+i.toNat:=by simpa [Bc.ltr] using hc
 omega
theorem zalg {i j:Int} (h0:0≤i) (h1:0≤j) (h:ltr i=ltr j):i=j:=by
 unfold ltr at h
 have:#[97+i.toNat]=#[97+j.toNat]:=by injection h
 have:97+i.toNat=97+j.toNat:=by simpa using this
 omega
noncomputable abbrev vi (i:Int):Val:=⟨.int i,false,[]⟩
noncomputable abbrev vs (x:Str):Val:=⟨.str x,false,[]⟩
noncomputable abbrev vb (b:Bool):Val:=⟨.bool b,false,[]⟩
section
variable {a b:EF} {env:DEnv} {i j:Int}
theorem zvn (ha:a env=some (vi i)) (hb:b env=some (vi j)) (h:0<j):eOp modD a b env=some (vi (i % j)):=by
 unfold eOp;rw [ha,hb];simp [modD,intD,h,bsOf,zhb]
theorem zaiz (ha:a env=some (vi i)) (hb:b env=some (vi j)) (h:0<j) (h2:j<1073741824):eOp zxt a b env=some (vi (i / j)):=by
 unfold eOp;rw [ha,hb];simp [zxt,intD,h,h2,bsOf,zhb]
theorem zpv (ha:a env=some (vi i)) (hb:b env=some (vi j)):eOp addD a b env=some (vi (i+j)):=by
 unfold eOp;rw [ha,hb];simp [addD,bsOf,zhb]
theorem zaok (ha:a env=some (vi i)) (hb:b env=some (vi j)):eOp subD a b env=some (vi (i - j)):=by
 unfold eOp;rw [ha,hb];simp [subD,intD,bsOf,zhb]
theorem zrf (ha:a env=some (vi i)) (hb:b env=some (vi j)) (h:(-(2 ^ 64)<i∧i<2 ^ 64)∨(-(2 ^ 64)<j∧j<2 ^ 64)):eOp mulD a b env=some (vi (i * j)):=by
 unfold eOp;rw [ha,hb]
 simp only [qG,mulD]
 rw [if_pos h];simp [bsOf,zhb]
theorem zagz (ha:a env=some (vi i)) (hb:b env=some (vi j)):eOp eqD a b env=some (vb (i==j)):=by
 unfold eOp;rw [ha,hb];rfl
theorem zaja {x y:Str} (ha:a env=some (vs x)) (hb:b env=some (vs y)) (h:x.length+y.length≤100000):eOp addD a b env=some (vs (x++y)):=by
 unfold eOp;rw [ha,hb]
 simp only [qG,addD]
 rw [if_pos h];simp [bsOf,zhb]
theorem zaol {x:Str} {l h:PF'} {lo hi:Option Int} (ha:a env=some (vs x)) (hl:l env=some lo) (hh:h env=some hi) (hz:x.length≤100000):eSl a l h env=some (vs (Txt.slice x lo hi)):=by
 unfold eSl;rw [ha,hl,hh]
 simp only [qG,slD]
 rw [if_pos hz];simp [bsOf,zhb]
theorem zajb (ha:a env=some (vi i)):zos a env=some (some i):=by unfold zos;rw [ha];rfl
theorem zhh {c:Bool} (ha:a env=some (vb c)):zbb a env=some c:=by unfold zbb;rw [ha];rfl
theorem zth {r:Val} (ha:a env=some r):zac a aNil env=some [r]:=by unfold zac aNil;rw [ha];rfl
theorem zrx {ds:List PyData} {fr:Bool} {bs:List Nat} (ha:a env=some ⟨.list ds,fr,bs⟩):eCB lenD (zac a aNil) env=some (vi ds.length):=by
 unfold eCB
 rw [zth ha]
 simp [zix,lenD,bsOf,zhb]
theorem zajc {α β:Type} (f:α→β) {l:List α} {n:Nat} {x:α} (h:l[n]?=some x):atI (l.map f) (n:Int)=some (f x):=zsn (by rw [qY,h];rfl)
theorem zaqb {k n:Nat} {b:EF} {ds:List PyData} {d:PyData} (he:env[k]?=some (.pl (.list ds))) (hb:b env=some (vi (n:Int))) (hd:ds[n]?=some d):eIxV k b env=some ⟨d,false,[]⟩:=by
 unfold eIxV
 rw [he]
 unfold eOp eVar
 rw [he,hb]
 simp only [qG,ixD]
 rw [zsn hd]
 simp [bsOf]
theorem zyb {k n:Nat} {b:EF} {ds:List PyData} {d:PyData} (he:env[k]?=some (.ac (.list ds))) (hb:b env=some (vi (n:Int))) (hd:ds[n]?=some d):eIxV k b env=some ⟨d,false,[]⟩:=by
 unfold eIxV
 rw [he]
 simp only
 rw [hb]
 simp only [qG]
 rw [zsn hd];rfl
end
noncomputable def abc:Str:="abcdefghijklmnopqrstuvwxyz"
theorem zalh:(List.range 26).all (fun i=>abc.cps.toList[i]?==some (97+i))=true:=by decide +kernel
theorem zali:abc.length=26:=by decide +kernel
theorem zaom {i:Int} (h0:0≤i) (h1:i<26):atI abc.cps.toList i=some (97+i.toNat):=by
 have q:=qAN.mp zalh i.toNat (qAt.mpr (by omega))
 have e:((i.toNat:Nat):Int)=i:=by omega
 rw [← e]
 have z:=zsn (eq_of_beq q)
 rw [e] at z ⊢
 exact z
theorem zpw (n:Nat):zdt 0 n=(List.range n).map (fun (k:Nat)=>PyData.int (k:Int)):=by
 unfold zdt
 refine qBA fun k _=>?_
 show PyData.int (0+(k:Int))=_
 rw [Int.zero_add]
theorem znk (a b:Str):(a++b).length=a.length+b.length:=by
 have:=congrArg List.length (ztg a b)
 rw [qJ] at this
 simpa [Str.length] using this
theorem zaei:WebOk []:=⟨qBc,fun i n es e=>by simp at e,fun p hp=>by simp at hp,by simp⟩
theorem zaej {W:Web} {p:Str×List Str} (h:WebOk W) (hn:p.1∉nm W) (he:∀ e∈p.2,e∈nm W) (hf:p.2.length≤4) (hl:W.length<12):WebOk (W++[p]):=by
 refine ⟨by rw [zni];exact zxq h.nd hn,fun i n es e=>?_,fun q hq=>?_,by simp;omega⟩
 ·by_cases hi:i<W.length
  ·rw [qm hi] at e
   rw [qAq (by omega)]
   exact h.el i n es e
  ·rw [qq (by omega)] at e
   have hi2:i - W.length=0:=by
    have:=(qR.mp e).1
    simp at this;omega
   rw [hi2] at e
   cases e
   have:i=W.length:=by omega
   subst this
   rw [qAq (qQ _),qBp]
   exact he
 ·rcases qAB.mp hq with hq|hq
  ·exact h.few q hq
  ·rw [qu.mp hq];exact hf
theorem zajd {α:Type} {l:List α} (nd:l.Nodup) {i j:Nat} {hi:i<l.length} {hj:j<l.length} (e:l[i]=l[j]):i=j:=by
 rcases Nat.lt_trichotomy i j with h|h|h
 ·exact absurd e (qBF.mp nd i j hi hj h)
 ·exact h
 ·exact absurd e.symm (qBF.mp nd j i hj hi h)
section
variable {a b:EF} {env:DEnv} {x y:Str}
theorem e_in {neg:Bool} {xs:List Str} {fr:Bool} {bs:List Nat} (ha:a env=some (vs x)) (hb:b env=some ⟨zab xs,fr,bs⟩):eOp (inD neg) a b env=some (vb (if neg then !decide (x∈xs) else decide (x∈xs))):=by
 unfold eOp;rw [ha,hb];simp [ztc,bsOf,zhb]
theorem zaon {k:Nat} {kvs:List (PyData×PyData)} {d:PyData} (he:env[k]?=some (.pl (.dict kvs))∨env[k]?=some (.ac (.dict kvs))) (hb:b env=some (vs y)) (hd:zlr kvs (Sum.inr y)=some d):zbr k b env=some ⟨d,false,[]⟩:=by
 unfold zbr
 rcases he with he|he<;>rw [he]<;>simp only<;>rw [hb]<;>simp [keyD,hd]
theorem zaje {neg:Bool} {ks:List Str} {fr:Bool} {bs:List Nat} (ha:a env=some (vs x)) (hb:b env=some ⟨zbi ks,fr,bs⟩):eDIn neg a b env=some (vb (if neg then !decide (x∈ks) else decide (x∈ks))):=by
 unfold eDIn;rw [ha,hb];simp [zbi,keyD,zvl]
end
theorem zvo {n:Str} {es:List Str}:∀ {W:Web},W.lookup n=some es→W[(nm W).idxOf n]?=some (n,es)
 | [],h=>by cases h
 | (a,b)::W,h=>by
  rw [qz] at h
  show ((a,b)::W)[(a::nm W).idxOf n]?=_
  rw [List.idxOf_cons]
  cases e:n==a with
  | true =>
   rw [e] at h
   cases h
   rw [← eq_of_beq e]
   simp
  | false =>
   rw [e] at h
   have hne:(a==n)=false:=by
    have:=beq_eq_false_iff_ne.mp e
    exact beq_eq_false_iff_ne.mpr (qAW this)
   rw [hne]
   simpa using zvo (W:=W) h
theorem zaha {l:List Str} {n:Nat} {x:Str} (h:x∈l.take n):l.idxOf x<n:=by
 have:l.idxOf x=(l.take n).idxOf x:=by
  conv=>lhs;rw [← List.take_append_drop n l]
  rw [List.idxOf_append,if_pos h]
 rw [this]
 have h2:=List.idxOf_lt_length_of_mem h
 rw [qBN] at h2
 omega
theorem zaoo {W:Web} (h:WebOk W) {n e:Str} (he:e∈upL W n):e∈nm W∧(nm W).idxOf e<(nm W).idxOf n:=by
 unfold upL at he
 cases hl:W.lookup n with
 | none=>rw [hl] at he;simp at he
 | some es =>
  rw [hl] at he
  have hi:=zvo hl
  have q:=h.el _ _ _ hi e he
  have:nm (W.take ((nm W).idxOf n))=(nm W).take ((nm W).idxOf n):=by unfold nm;rw [List.map_take]
  rw [this] at q
  exact ⟨qCQ q,zaha q⟩
theorem zaek {W:Web} {n:Str} (h:n∈nm W):∃ es,W.lookup n=some es∧(n,es)∈W:=zjm (l:=W) (n:=n) h
theorem zajf {W:Web} (h:WebOk W) {n x:Str} (hn:n∈nm W):x∈up W n↔x=n∨∃ e∈upL W n,x∈up W e:=by
 obtain ⟨es,hl,hm⟩:=zaek hn
 rw [zaix h hm]
 unfold upL
 rw [hl];rfl
theorem zry {W:Web} {n:Str} (h:n∈nm W):(ups W).lookup n=some (up W n):=by
 obtain ⟨ks,e,_⟩:=zjm (l:=ups W) (n:=n) (by rw [zjl];exact h)
 unfold up upL
 rw [e];rfl
theorem zpx {a:EF} {f:AF} {env:DEnv} {r:Val} {rs:List Val} (ha:a env=some r) (hf:f env=some rs):zac a f env=some (r::rs):=by unfold zac;rw [ha,hf];rfl
theorem zaop {f:EF} {env:DEnv} {c:Bool} (h:f env=some (vb c)):zne (tTru f) env=some (!c):=by unfold zne tTru;rw [h];rfl
theorem zti:∀ (xs:List Str),(∀ x∈xs,qBP x=true)→qAi (xs.map .str)=true∧qAG (xs.map .str)=0
 | [],_=>⟨rfl,rfl⟩
 | x::xs,h=>by
  obtain ⟨h1,h2⟩:=zti xs fun y hy=>h y (qI _ hy)
  rw [qe]
  refine ⟨?_,?_⟩
  ·show (qBP x&&qAi (xs.map .str))=true
   rw [h x qg,h1];rfl
  ·show max 0 (qAG (xs.map .str))=0
   rw [h2];rfl
end Bc
namespace L2
open PySem PySem.Spec PyProof.Rows
noncomputable def zael (wi:TI) (g:TG) (tt:TT) (tm:TM):TM:=fun σ H Q=>wi σ H fun J H1=>zago J g tt tm σ H1 Q
section
variable {X:Cx}
theorem zyc {M:Model} {P:Program} {w:World} {A:Around} {R:Result→Shared→Prop} {s:Shared} {elt:Expr} {g0:Comprehension} {target iter:Expr} {ifs:List Expr} {rest:List Comprehension} {scope:Scope} {cpos:Pos} {it acc:Value} {env:Env}
  (l:codeAny (model P w) A (.compLoop (.ListComp elt (g0::⟨target,iter,ifs,0⟩::rest) scope cpos) 1 it acc env) R s)
  (t:∀ (A:Around) (E:Value→Shared→Prop),wpAny (model P w) A (pyIter it) (fun u s'=>u=it∧s'=s) E s) :
  codeAny (model P w) A (.compStart (.ListComp elt (g0::⟨target,iter,ifs,0⟩::rest) scope cpos) 1 it acc env) R s:=by
 refine codeAny_of_tree ?_
 show wpAny _ _ ((compStart (.ListComp elt (g0::⟨target,iter,ifs,0⟩::rest) scope cpos) 1 it acc env).onRaise (fun x=>do noteFrame x env;standAt theWindowsPlace)) _ _ s
 refine wpAny_notedAt ?_
 unfold compStart
 show wpAny _ _ (ask >>= _) _ _ s
 refine qD (wpAny_askSetting (wpAny_ite ?_))
 split
 ·first
   | exact qD (qc (qc (And.intro rfl l)))
   | exact qc (And.intro rfl l)
 ·refine qD (qB1 ?_)
  first
   | exact qD (qBY (qD (thn (t _ _) fun u s' z=>by obtain ⟨e1,e2⟩:=z;subst e1;subst e2;exact qc (And.intro rfl l))))
   | (show wpAny _ _ (standAt iter.pos >>= _) _ _ s;exact qD (qBY (qD (thn (t _ _) fun u s' z=>by obtain ⟨e1,e2⟩:=z;subst e1;subst e2;exact qc (And.intro rfl l)))))
theorem zahb {elt0:Expr} {g0:Comprehension} {scope:Scope} {cpos:Pos} {target iter:Expr} {ifs:List Expr} {wi:TI} {g:TG} {tt:TT} {te:TE} {p:Addr}
  (hx:X.xe=fun _ _=>False) (hc:X.calm=true) (hi:PI X target iter wi) (hg:PG X target g) (ht:PF X ifs tt) (he:PE X elt0 te)
  (hs:∀ x,foldedSetIterable iter X.env x=pure x) :
  PM X (do
   let x ← eval iter X.env
   standAt iter.pos
   let x ← foldedSetIterable iter X.env x
   let _ ← runOwn (.compStart (.ListComp elt0 [g0,⟨target,iter,ifs,0⟩] scope cpos) 1 (← holding [x] (pyIter x)) (.ref p) X.env) X.env) (zael wi g tt (zadb p te)):=by
 intro pins s σ H Q I h
 refine qD (thn (hi pins s σ H _ I h) fun v s1 h1=>?_)
 refine qD (qBY ?_)
 rw [hs]
 refine qD (qc (qD (qBq (thn h1 fun itv s2 h2=>?_))))
 obtain ⟨it,fp,tn,J,H2,e,I2,T,st2,f2,q⟩:=h2
 subst e
 refine qD (thn (wpAny_runOwn (h:=none) (Q:=fun _ s'=>∃ σ' H',Inv X pins σ' H' s'∧Q σ' H') ?_) fun _ _ z=>qc z)
 refine zyc (M:=model X.prog X.w) ?_ fun A E=>T.self A 0 s2 _ E st2 ⟨rfl,rfl⟩
 refine qBh (zph (X:=X) (pins:=pins) hx hc (elt0:=elt0) (gens:=[g0,⟨target,iter,ifs,0⟩]) (depth:=1) (ip:=iter.pos) (emit:=(do let _ ← call (.builtin "list.append") [.ref p,← eval elt0 X.env])) rfl T hg ht (zadc he) I2 st2 f2 q) fun r s5 hr=>?_
 obtain ⟨rfl,z⟩:=hr
 exact z
theorem zaqc (elt target iter target2 iter2:Expr) (ifs ifs2:List Expr) (scope:Scope) (cpos:Pos) (it acc:Value) (env:Env) :
  compTurn (.ListComp elt [⟨target,iter,ifs,0⟩,⟨target2,iter2,ifs2,0⟩] scope cpos) 0 it acc env=(do
   standAt iter.pos
   match ← pyNext it with
   | none=>pure (.done .next)
   | some v =>
    letOwnedTupleGo target it v
    assign target env v
    let mut ok:=true
    for c in ifs do
     if ok then ok ← isTrue c env (eval c env)
    if ok then do
     let x ← eval iter2 env
     standAt iter2.pos
     let x ← foldedSetIterable iter2 env x
     let i ← holding [x] (pyIter x)
     let _ ← runOwn (.compStart (.ListComp elt [⟨target,iter,ifs,0⟩,⟨target2,iter2,ifs2,0⟩] scope cpos) 1 i acc env) env
     again (.compLoop (.ListComp elt [⟨target,iter,ifs,0⟩,⟨target2,iter2,ifs2,0⟩] scope cpos) 0 it acc env)
    else again (.compLoop (.ListComp elt [⟨target,iter,ifs,0⟩,⟨target2,iter2,ifs2,0⟩] scope cpos) 0 it acc env)):=rfl
noncomputable def tComp2 (wi:TI) (g:TG) (tt:TT) (wi2:TI) (g2:TG) (tt2:TT) (te:TE) (own:List Str) (fr:List Nat):TE:=zaks wi g tt (fun p=>zael wi2 g2 tt2 (zadb p te)) own fr
theorem zahc {scope:Scope} {N' own:List Str} {fr:List Nat} {elt target iter target2 iter2:Expr} {ifs ifs2:List Expr} {cpos:Pos} {wi wi2:TI} {g g2:TG} {tt tt2:TT} {te:TE} (c:CompOk X scope N' own fr) (hc:X.calm=true) (hi:PI X target iter wi)
  (hb:∀ (cl:List (Str×Addr)) (C:Addr) (s:Shared) (H:Hp) (fp:List Addr),PG (cxComp X scope N' own cl C s H fp) target g∧PF (cxComp X scope N' own cl C s H fp) ifs tt∧PI (cxComp X scope N' own cl C s H fp) target2 iter2 wi2∧PG (cxComp X scope N' own cl C s H fp) target2 g2∧PF (cxComp X scope N' own cl C s H fp) ifs2 tt2∧PE (cxComp X scope N' own cl C s H fp) elt te)
  (hs:∀ x,foldedSetIterable iter X.env x=pure x:=by intro _;rfl) (hs2:∀ env x,foldedSetIterable iter2 env x=pure x:=by intro _ _;rfl) :
  PE X (.ListComp elt [⟨target,iter,ifs,0⟩,⟨target2,iter2,ifs2,0⟩] scope cpos) (tComp2 wi g tt wi2 g2 tt2 te own fr) :=
 zzi (emit:=fun acc env=>do
   let x ← eval iter2 env
   standAt iter2.pos
   let x ← foldedSetIterable iter2 env x
   let _ ← runOwn (.compStart (.ListComp elt [⟨target,iter,ifs,0⟩,⟨target2,iter2,ifs2,0⟩] scope cpos) 1 (← holding [x] (pyIter x)) acc env) env) c hc (fun it acc env=>by
   rw [zaqc]
   refine bind_congr fun _=>bind_congr fun r=>?_
   cases r with
   | none=>rfl
   | some v =>
    refine bind_congr fun _=>bind_congr fun _=>bind_congr fun ok=>?_
    cases ok with
    | false=>rfl
    | true=>simp only [if_true,bind_assoc,pure_bind]) hi
  (fun cl C s H fp p=>let ⟨h1,h2,h3,h4,h5,h6⟩:=hb cl C s H fp;⟨h1,h2,zahb (X:=cxComp X scope N' own cl C s H fp) rfl hc h3 h4 h5 h6 (fun x=>hs2 _ x)⟩) hs
end
noncomputable def NoAc (env:DEnv):Prop:=∀ (i:Nat) (d:PyData),env[i]?≠some (.ac d)
noncomputable def GZ (lo hi:Nat) (g:GT):Prop:=∀ d env e1,g d env=some e1→e1.length=env.length∧(∀ i,(i<lo∨hi≤i)→e1[i]?=env[i]?)∧(NoAc env→NoAc e1)
theorem zahd {env:DEnv} {i:Nat} {d:PyData} (h:NoAc env):NoAc (env.set i (.pl d)):=by
 intro j d' e
 by_cases q:i=j
 ·subst q
  by_cases l:i<env.length
  ·rw [ql l] at e;cases e
  ·rw [qBT (by simp;omega)] at e;cases e
 ·rw [qS q] at e;exact h j d' e
theorem zaem {lo hi i:Nat} (h:lo≤i) (h':i<hi):GZ lo hi (gN i):=by
 intro d env e1 e
 cases e
 exact ⟨qr,fun j hj=>qS (by omega),zahd⟩
theorem zpy {g:GT} {t:TF} {e:EF} {env:DEnv}:∀ {ds rs:List PyData},zeu g t e env ds=some rs→rs.length≤ds.length
 | [],rs,h=>by cases h;exact qQ _
 | d::ds,rs,h=>by
  unfold zeu at h
  obtain ⟨e1,_,h⟩:=qA.mp h
  obtain ⟨b,_,h⟩:=qA.mp h
  split at h
  ·obtain ⟨r,_,h⟩:=qA.mp h
   obtain ⟨rs',h',rfl⟩:=qH.mp h
   have:=zpy h'
   simp;omega
  ·have:=zpy h
   simp;omega
noncomputable def innL (f2:IF') (g2:GT) (t2:TF) (e:EF) (e1:DEnv):Option (List PyData):=(f2 e1).bind fun z=>if z.1.length<300 then zeu g2 t2 e e1 z.1 else none
noncomputable def zke (g:GT) (t:TF) (f2:IF') (g2:GT) (t2:TF) (e:EF) (env:DEnv):List PyData→Option (List PyData)
 | []=>some []
 | d::ds=>(g d env).bind fun e1=>(t e1).bind fun b=>if b=true then (innL f2 g2 t2 e e1).bind fun r1=>(zke g t f2 g2 t2 e env ds).map fun rs=>r1++rs else zke g t f2 g2 t2 e env ds
noncomputable def zvp (own:List Str) (fr:List Nat) (fi:IF') (g:GT) (t:TF) (f2:IF') (g2:GT) (t2:TF) (e:EF):EF:=fun env=>(fi env).bind fun z=>if z.1.length<300 then
 (zke g t f2 g2 t2 e (envB own fr env) z.1).map fun rs=>⟨.list rs,true,if zds rs=true then [] else z.2++capA fr env⟩ else none
theorem zahe {wi2:TI} {g2:TG} {tt2:TT} {te:TE} {f2:IF'} {gf2:GT} {t2:TF} {e:EF} {B:Addr→Prop} {H1:Hp} {e1:DEnv} {σ:St} {H:Hp} {p:Addr} {vs:List V} {done rest ds:List PyData} {bs:List Nat} {Q:St→Hp→Prop} {k n:Nat}
  (h5:SI wi2 f2) (h6:SG g2 gf2) (hy:GZ k n gf2) (h7:ST tt2 t2) (h4:SE te e) (na:NoAc e1) (no:∀ (i:Nat) (d:PyData),k≤i→i<n→e1[i]?≠some (.pl d))
  (hB:B p) (hp:H1 p=none) (hE:EnvOk B H1 e1 σ H) (ep:H p=some (.lst vs)) (rd:Rps (Offs B H) done vs) (ei:f2 e1=some (ds,bs)) (dl:done.length+ds.length<100000) (ec:zeu gf2 t2 e e1 ds=some rest)
  (q:∀ σ' H' vs',H' p=some (.lst vs')→Rps (Offs B H') (done++rest) vs'→EnvOk B H1 e1 σ' H'→Q σ' H'):zael wi2 g2 tt2 (zadb p te) σ H Q:=by
 refine h5 B H1 e1 σ H hE ds bs ei _ fun J H4 s4 yl=>?_
 have hE4:=hE.up s4
 have n4:Offs (fun b=>b=p) H4 p=none:=Offs.out rfl
 refine ⟨fun i m σ' H'=>m=ds.length - i∧i≤ds.length∧∃ vs done' rest',H' p=some (.lst vs)∧Rps (Offs B H') done' vs∧done'.length≤done.length+i∧zeu gf2 t2 e e1 (ds.drop i)=some rest'∧done'++rest'=done++rest∧EnvOk B (Offs (fun b=>b=p) H4) e1 σ' H',
  ⟨ds.length,rfl,qAP _,vs,done,rest,s4 _ _ ep,Rps.same (Offs.grow s4) _ rd,qQ _,ec,rfl,⟨hE4.len,hE4.pl,fun i d z=>absurd z (na i d),hE4.inj,Offs.same _ _,hE4.fxs⟩⟩,?_⟩
 rintro i m σ' H' ⟨rfl,hi,vs,done',rest',ep',rd',dl',ec',edr,hE'⟩
 obtain ⟨yi,ys⟩:=yl B H' hE'.fxs fun b o z=>by
  obtain ⟨z1,z2⟩:=Offs.of z
  have hb:¬ B b:=fun y=>z1 (.inl y)
  rw [Offs.get hb]
  exact hE'.base b o (by rw [Offs.get fun y=>hb (by rw [y];exact hB)];exact z2)
 by_cases hlt:i<ds.length
 ·obtain ⟨yg,yy⟩:=yi i ds[i] (qF hlt)
  refine .inr ⟨yg,fun σ'' H''=>i+1≤ds.length∧∃ vs done' rest',H'' p=some (.lst vs)∧Rps (Offs B H'') done' vs∧done'.length≤done.length+(i+1)∧zeu gf2 t2 e e1 (ds.drop (i+1))=some rest'∧done'++rest'=done++rest∧EnvOk B (Offs (fun b=>b=p) H4) e1 σ'' H'',?_,?_⟩
  ·rintro σ'' H'' ⟨hle,hh⟩
   exact ⟨ds.length - (i+1),by omega,rfl,hle,hh⟩
  ·intro x H'' hyx
   obtain ⟨sy,ry⟩:=yy x H'' hyx
   rw [qAH hlt] at ec'
   obtain ⟨e2,ee2,ec'⟩:=qA.mp ec'
   obtain ⟨b,eb,ec'⟩:=qA.mp ec'
   have ry':Rp (Offs (fun a=>B a∨L2.own e1 σ' a) H'') ds[i] x:=Rp.same (Offs.sub fun b z=>z.elim (fun y=>y) fun ⟨j,d',z,_⟩=>absurd z (na _ _)) _ ry
   refine h6 _ _ e1 σ' H'' _ x (hE'.up sy) ry' e2 ee2 _ fun σ2 hE2=>?_
   refine h7 _ _ e2 σ2 H'' hE2 b eb _ fun H3 s3=>?_
   have hE3:=hE2.up s3
   obtain ⟨gl,gk,_⟩:=hy _ _ _ ee2
   have back:∀ {H4':Hp},EnvOk B (Offs (fun b=>b=p) H4) e2 σ2 H4'→EnvOk B (Offs (fun b=>b=p) H4) e1 σ2 H4':=fun {H4'} hh=>hh.weaken gl.symm (fun j d' ej=>by
    by_cases hj:j<k∨n≤j
    ·rw [gk j hj];exact ej
    ·exact absurd ej (no j d' (by omega) (by omega))) na
   cases b with
   | false =>
    have ec':zeu gf2 t2 e e1 (ds.drop (i+1))=some rest':=ec'
    exact iteF ⟨hlt,vs,done',rest',s3 _ _ (sy _ _ ep'),Rps.same (Offs.grow (sy.trans s3)) _ rd',Nat.le_succ_of_le dl',ec',edr,back hE3⟩
   | true =>
    have ec':((e e2).bind fun r=>(zeu gf2 t2 e e1 (ds.drop (i+1))).map fun rs=>r.d::rs)=some rest':=ec'
    obtain ⟨r,er,ec'⟩:=qA.mp ec'
    obtain ⟨rest2,er',rfl⟩:=qH.mp ec'
    refine iteT (h4 _ _ e2 σ2 H3 hE3 r er _ fun v H5 s5 hv=>?_)
    have t5:=(sy.trans s3).trans s5
    refine ⟨vs,t5 _ _ ep',znb (by rw [← rd'.length];omega),hlt,vs++[v],done'++[r.d],rest2,zbe,?_,by rw [qJ];simp;omega,er',by rw [← edr];simp,(back (hE3.up s5)).updFx hB n4⟩
    rw [Offs.upd hB]
    refine (Rps.same (Offs.grow t5) _ rd').append (zdq (Rp.same (Offs.sub fun b z=>.inl z) _ hv.rp) zen)
 ·have hi':i=ds.length:=by omega
  subst hi'
  rw [qAg] at ec'
  cases ec'
  rw [qAS] at edr
  subst edr
  exact .inl ⟨ys,q σ' H' vs ep' rd' ⟨hE'.len,hE'.pl,fun i d z=>absurd z (na i d),hE'.inj,fun b o z=>hE'.base b o (by rw [Offs.get fun y=>by rw [y,hp] at z;cases z];exact s4 b o (hE.base b o z)),hE'.fxs⟩⟩
theorem zahf {own:List Str} {fr:List Nat} {env:DEnv} {i:Nat} (h:i<own.length):(envB own fr env)[i]?=some .no:=by
 unfold envB
 rw [qm (by simpa using h),qY,qF h];rfl
theorem zahg {own:List Str} {fr:List Nat} {wi wi2:TI} {g g2:TG} {tt tt2:TT} {te:TE} {fi f2:IF'} {gf gf2:GT} {t t2:TF} {e:EF} {k:Nat} (h1:SI wi fi) (h2:SG g gf) (hx:GZ 0 k gf) (hk:k≤own.length) (h3:ST tt t)
  (h5:SI wi2 f2) (h6:SG g2 gf2) (hy:GZ k own.length gf2) (h7:ST tt2 t2) (h4:SE te e) :
  SE (tComp2 wi g tt wi2 g2 tt2 te own fr) (zvp own fr fi gf t f2 gf2 t2 e):=by
 intro fx H0 env σ H h rr hr Q q
 unfold zvp at hr
 obtain ⟨⟨ds,bs⟩,ei,hr⟩:=qA.mp hr
 split at hr
 ·rename_i hlen
  have hlen:ds.length<300:=hlen
  obtain ⟨rs,ers,rfl⟩:=qH.mp hr
  refine h1 fx H0 env σ H h ds bs ei _ fun J H1 s yl=>fun p hp=>?_
  have hB:=zvi h s hp own fr bs
  generalize hA:(fun b=>lim fx env σ (bs++capA fr env) b)=A
  have hA':∀ b,lim fx env σ (bs++capA fr env) b↔A b:=fun b=>by rw [← hA]
  have eA:(fun b=>lim fx env σ (bs++capA fr env) b∨b=p)=fun b=>A b∨b=p:=by rw [← hA]
  rw [eA] at hB
  have seen:∀ {σ':St} {H':Hp},EnvOk (fun b=>A b∨b=p) H1 (envB own fr env) σ' H'→Same (Offs (fun b=>fx b∨L2.own (frzs env bs) σ b) H1) (Offs (fun b=>A b∨b=p) H'):=fun {σ' H'} hE=>Offs.mono hE.base fun b o eo n z=>by
   rcases z with z|z
   ·rcases (hA' b).mpr z with z|⟨i,d,z1,z2,z3⟩
    ·exact n (.inl z)
    ·exact n (.inr ⟨i,d,zgo (fun y=>z1 (qv _ y)) z2,z3⟩)
   ·rw [z,hp] at eo;cases eo
  refine ⟨fun i m σ' H'=>m=ds.length - i∧i≤ds.length∧∃ vs done rest,H' p=some (.lst vs)∧Rps (Offs (fun b=>A b∨b=p) H') done vs∧done.length≤i * 300∧zke gf t f2 gf2 t2 e (envB own fr env) (ds.drop i)=some rest∧done++rest=rs∧EnvOk (fun b=>A b∨b=p) H1 (envB own fr env) σ' H',
   ⟨ds.length,rfl,qAP _,[],[],rs,zbe,zen,qAP _,ers,rfl,hB⟩,?_⟩
  rintro i m σ' H' ⟨rfl,hi,vs,done,rest,ep,rd,dl,ec,edr,hE⟩
  obtain ⟨yi,ys⟩:=yl _ H' hE.fxs (seen hE)
  by_cases hlt:i<ds.length
  ·obtain ⟨yg,yy⟩:=yi i ds[i] (qF hlt)
   refine .inr ⟨yg,fun σ'' H''=>i+1≤ds.length∧∃ vs done rest,H'' p=some (.lst vs)∧Rps (Offs (fun b=>A b∨b=p) H'') done vs∧done.length≤(i+1) * 300∧zke gf t f2 gf2 t2 e (envB own fr env) (ds.drop (i+1))=some rest∧done++rest=rs∧EnvOk (fun b=>A b∨b=p) H1 (envB own fr env) σ'' H'',?_,?_⟩
   ·rintro σ'' H'' ⟨hle,hh⟩
    exact ⟨ds.length - (i+1),by omega,rfl,hle,hh⟩
   ·intro x H'' hyx
    obtain ⟨sy,ry⟩:=yy x H'' hyx
    rw [qAH hlt] at ec
    obtain ⟨e1,ee1,ec⟩:=qA.mp ec
    obtain ⟨b,eb,ec⟩:=qA.mp ec
    have ry':Rp (Offs (fun a=>(A a∨a=p)∨L2.own (envB own fr env) σ' a) H'') ds[i] x:=Rp.same (Offs.sub fun b z=>z.elim (fun y=>y) fun ⟨j,d',z,_⟩=>absurd z zjj) _ ry
    refine h2 _ H1 (envB own fr env) σ' H'' _ x (hE.up sy) ry' e1 ee1 _ fun σ2 hE2=>?_
    refine h3 _ H1 e1 σ2 H'' hE2 b eb _ fun H3 s3=>?_
    have hE3:=hE2.up s3
    obtain ⟨gl,gk,gn⟩:=hx _ _ _ ee1
    have na:NoAc e1:=gn fun _ _=>zjj
    have back:∀ {σ4:St} {H4:Hp},EnvOk (fun b=>A b∨b=p) H1 e1 σ4 H4→EnvOk (fun b=>A b∨b=p) H1 (envB own fr env) σ4 H4:=fun {σ4 H4} hh=>hh.weaken gl.symm (fun j d' ej=>by
     by_cases hj:own.length≤j
     ·rw [gk j (.inr (by omega))];exact ej
     ·obtain ⟨_,k,rfl,_⟩:=ztb ej;omega) fun j d'=>zjj
    cases b with
    | false =>
     have ec:zke gf t f2 gf2 t2 e (envB own fr env) (ds.drop (i+1))=some rest:=ec
     exact iteF ⟨hlt,vs,done,rest,s3 _ _ (sy _ _ ep),Rps.same (Offs.grow (sy.trans s3)) _ rd,by omega,ec,edr,back hE3⟩
    | true =>
     have ec:((innL f2 gf2 t2 e e1).bind fun r1=>(zke gf t f2 gf2 t2 e (envB own fr env) (ds.drop (i+1))).map fun rs=>r1++rs)=some rest:=ec
     obtain ⟨r1,er,ec⟩:=qA.mp ec
     obtain ⟨rest',er',rfl⟩:=qH.mp ec
     obtain ⟨⟨ds2,bs2⟩,e2,er⟩:=qA.mp er
     split at er
     ·rename_i hl2
      have hl2:ds2.length<300:=hl2
      have l2:=zpy er
      refine iteT (zahe (B:=fun b=>A b∨b=p) (p:=p) (vs:=vs) (done:=done) h5 h6 hy h7 h4 na (fun j d' h8 h9 ej=>?_) (.inr rfl) hp hE3 (s3 _ _ (sy _ _ ep)) (Rps.same (Offs.grow (sy.trans s3)) _ rd) e2 (by omega) er fun σ5 H5 vs5 ep5 rd5 hE5=>?_)
      ·rw [gk j (.inr h8),zahf h9] at ej;cases ej
      ·have l2':r1.length≤ds2.length:=l2
       exact ⟨hlt,vs5,done++r1,rest',ep5,rd5,by rw [qJ];omega,er',by rw [← edr,qBJ],back hE5⟩
     ·cases er
  ·have hi':i=ds.length:=by omega
   subst hi'
   rw [qAg] at ec
   cases ec
   rw [qAS] at edr
   subst edr
   refine .inl ⟨ys,q _ H' (s.trans hE.base) ⟨?_,fun _=>⟨p,rfl,s.free hp,?_⟩⟩⟩
   ·show Rp (Offs (lim fx env σ (if zds done=true then [] else bs++capA fr env)) H') (.list done) (.ref p)
    have nl:∀ cs,¬ lim fx env σ cs p:=fun cs z=>by
     obtain ⟨o,eo⟩:=(h.up s).lims _ p z
     rw [hp] at eo;cases eo
    refine ziw (by rw [Offs.get (nl _)];exact ep) ?_
    split
    ·rename_i f;exact zib f rd
    ·exact Rps.same (Offs.sub fun b z=>.inl ((hA' b).mp z)) _ rd
   ·show zeo (Offs (fun b=>lim fx env σ (if zds done=true then [] else bs++capA fr env) b∨b=p) H') H' p (.list done)
    refine ⟨vs,ep,?_⟩
    split
    ·rename_i f;exact zib f rd
    ·exact Rps.same (Offs.sub fun b z=>z.imp (hA' b).mp id) _ rd
 ·cases hr
end L2
namespace PySem
open Sem (wp)
end PySem
namespace L2
open PySem PySem.Spec PyProof.Rows
instance memKey (k:Key) (l:List Key):Decidable (k∈l):=decidable_of_iff (∃ x,x∈l∧x=k) ⟨fun ⟨x,h,e⟩=>e▸h,fun h=>⟨k,h,rfl⟩⟩
end L2
namespace Bc
open PySem L2
noncomputable def zrz:SF:=(sSeq (sIf (tTru (eIsi "tuple" (eVar 0))) (sRet (eCB zalb (zac (eVar 0) aNil))) sNil)
  (sRet (eLst (zac (eVar 0) aNil))))
noncomputable def zfx:GF:=fnD 1 zrz
noncomputable def zvq:SF:=(sSeq (sSet 2 zaax)
  (sSeq (sFor (zbh (zck 1 zfx (zac (eVar 1) aNil))) (gN 3)
  (sUpd 2 (zbr 0 (eVar 3))))
  (zaaz 2)))
noncomputable def zkf:GF:=fnD 4 zvq
noncomputable def hdg (W:Web) (n:Str):List Str:=(nm W).filter fun x=>decide (x∈up W n)
theorem znl {W:Web} (h:WebOk W) {n x:Str}:x∈hdg W n↔x∈up W n:=by
 unfold hdg;rw [qx,decide_eq_true_iff];exact ⟨fun z=>z.2,fun z=>⟨zvk h z,z⟩⟩
theorem ztj {W:Web} (h:WebOk W) {n:Str}:(hdg W n).length≤12:=qAQ (qA4 _ _) (zpi h)
theorem zzr {W:Web} (h:WebOk W):∀ (m:Nat) {k n e:Str},(nm W).idxOf k<m→k∈nm W→n∈up W k→e∈up W n→e∈up W k
 | 0,_,_,_,hm,_,_,_=>absurd hm (Nat.not_lt_zero _)
 | m+1,k,n,e,hm,hk,hn,he=>by
  rcases (zajf h hk).mp hn with rfl|⟨e',he',hn'⟩
  ·exact he
  ·obtain ⟨g1,g2⟩:=zaoo h he'
   exact (zajf h hk).mpr (.inr ⟨e',he',zzr h m (by omega) g1 hn' he⟩)
theorem zpz {α:Type} (f:α→Bool):∀ (l:List α),zpn (l.map fun x=>.bool (f x))=some (l.map f)
 | []=>rfl
 | x::l=>by
  show (zpn (l.map fun x=>.bool (f x))).map _=_
  rw [zpz f l];rfl
theorem zaoq {α:Type} {f:α→Bool} {l:List α} {a:EF} {env:DEnv} {fr:Bool} {bs:List Nat} (ha:a env=some ⟨.list (l.map fun x=>.bool (f x)),fr,bs⟩):eCB (anyD fun bs=>bs.all id) (zac a aNil) env=some (vb (l.all f)):=by
 unfold eCB
 rw [zth ha,qG]
 show ((zpn (l.map fun x=>.bool (f x))).map _).bind _=_
 rw [zpz]
 simp only [qAx,qG,List.all_map]
 rfl
theorem zqa {α:Type} {enc:α→PyData} {out:α→List PyData} {g:GT} {t:TF} {f2:IF'} {g2:GT} {t2:TF} {e:EF} {env:DEnv}:∀ {l:List α},(∀ x∈l,∃ e1,g (enc x) env=some e1∧t e1=some true∧innL f2 g2 t2 e e1=some (out x)) →
  zke g t f2 g2 t2 e env (l.map enc)=some (l.flatMap out)
 | [],_=>rfl
 | x::l,h=>by
  obtain ⟨e1,h1,h2,h3⟩:=h x qg
  have ih:=zqa (l:=l) fun y hy=>h y (qI _ hy)
  rw [qe]
  unfold zke
  rw [h1,qG,h2,qG,if_pos rfl,h3,qG,ih,List.flatMap_cons]
  rfl
theorem zahh {own:List Str} {fr:List Nat} {fi:IF'} {g:GT} {t:TF} {f2:IF'} {g2:GT} {t2:TF} {e:EF} {env:DEnv} {ds:List PyData} {bs:List Nat} {rs:List PyData} (h:fi env=some (ds,bs)) (hl:ds.length<300) (k:zke g t f2 g2 t2 e (envB own fr env) ds=some rs) :
  zvp own fr fi g t f2 g2 t2 e env=some ⟨.list rs,true,if zds rs=true then [] else bs++capA fr env⟩:=by
 unfold zvp;rw [h,qG,if_pos hl,k];rfl
end Bc
namespace PySem
open Sem (wp)
noncomputable def SqIt (b:Bool) (h:Heap) (it l:Addr) (i:Nat):Prop:=match b with
 | true=>h.IsListIter it l i
 | false=>h.IsTupleIter it l i
noncomputable def zeh (b:Bool) (h:Heap) (l:Addr) (xs:Array Value):Prop:=match b with
 | true=>h.IsList l xs
 | false=>h.IsTuple l xs
theorem SqIt.moved {b:Bool} {h h':Heap} {it l:Addr} {i:Nat} (x:SqIt b h it l i) (e:∀ o,h.get? it=some o→h'.get? it=some o):SqIt b h' it l i:=by
 cases b with
 | true=>obtain ⟨o,q,r⟩:=x;exact ⟨o,e o q,r⟩
 | false=>obtain ⟨o,q,r⟩:=x;exact ⟨o,e o q,r⟩
theorem zeh.moved {b:Bool} {h h':Heap} {l:Addr} {xs:Array Value} (x:zeh b h l xs) (e:∀ o,h.get? l=some o→h'.get? l=some o):zeh b h' l xs:=by
 cases b with
 | true=>obtain ⟨o,q,r⟩:=x;exact ⟨o,e o q,r⟩
 | false=>obtain ⟨o,q,r⟩:=x;exact ⟨o,e o q,r⟩
theorem SqIt.at {b:Bool} {h h':Heap} {it l:Addr} {i:Nat} (x:SqIt b h it l i) (e:∀ o,h.get? it=some o→h'.get? it=some o):SqIt b h' it l i:=x.moved e
theorem SqIt.extBut {b:Bool} {h h':Heap} {it l c:Addr} {i:Nat} (x:SqIt b h it l i) (s:Heap.ExtBut c h h') (n:it≠c):SqIt b h' it l i:=x.moved fun o e=>s _ o n e
theorem zeh.extBut {b:Bool} {h h':Heap} {l c:Addr} {xs:Array Value} (x:zeh b h l xs) (s:Heap.ExtBut c h h') (n:l≠c):zeh b h' l xs:=x.moved fun o e=>s _ o n e
theorem SqIt.obj {b:Bool} {h:Heap} {it l:Addr} {i:Nat} (x:SqIt b h it l i):∃ o,h.get? it=some o∧∀ v,o.data≠.cell v:=by
 cases b with
 | true=>obtain ⟨o,q,_,r⟩:=x;exact ⟨o,q,fun v z=>by rw [r] at z;cases z⟩
 | false=>obtain ⟨o,q,_,r⟩:=x;exact ⟨o,q,fun v z=>by rw [r] at z;cases z⟩
section
variable {prog:Program} {w:World} {A:Around} {E:Value→Shared→Prop} {s:Shared}
theorem ztk {it l:Addr} {i:Nat} {items} {x:Value} {Q:Value→Shared→Prop} (hit:s.heap.IsTupleIter it l i)
  (hl:s.heap.IsTuple l items) (hx:items[i]?=some x)
  (hQ:∀ h',h'.IsTupleIter it l (i+1)→Heap.SameBut it s.heap h'→Q x {s with heap:=h'}) :
  wpAny (model prog w) A (qi (.ref it)) Q E s:=by
 obtain ⟨o,ho,hc,hd⟩:=id hit
 obtain ⟨ol,hol,_,nl,hdl⟩:=hl
 unfold qi
 refine qD (qAf (name:=Str.ofString "__next__") hit.typeIs qAu
  (qAy qAu hit.typeIs qCE ?_ (qCA _)))
 show wpAny _ _ (field (.ref it) 0 >>= _) _ _ s
 refine qD (qAU ho hd (x:=.ref l) rfl ?_)
 show wpAny _ _ (if (Value.ref l==Value.none)=true then _ else _) _ _ s
 rw [if_neg (show ¬ ((Value.ref l==Value.none)=true) from qK)]
 show wpAny _ _ (field (.ref it) 1 >>= _) _ _ s
 refine qD (qAU ho hd (x:=.int i 0) rfl ?_)
 show wpAny _ _ (seqItems? (.ref l) >>= _) _ _ s
 refine qD (qAO hol hdl ?_)
 simp only [qA3,hx]
 refine qD (wpAny_setField ho hd (by simp) (qc ⟨x,rfl,qc (hQ _ ?_ (qBM ..))⟩))
 exact ⟨_,qBW _ ho (Obj.isFreed_of_fields (Obj.data_mapFields hd _)),(Obj.cls_mapFields ..).trans hc,by
  rw [Obj.data_mapFields hd];simp [rawInt]⟩
theorem zvr {it l:Addr} {i:Nat} {items} {Q:Value→Shared→Prop} (hh:A.handled=none)
  (hit:s.heap.IsTupleIter it l i) (hl:s.heap.IsTuple l items) (hx:items[i]?=none)
  (hE:∀ h' e,Heap.ExtBut it s.heap h'→(∃ o,h'.get? e=some o∧o.cls=.type "StopIteration")→E (.ref e) {s with heap:=h'}) :
  wpAny (model prog w) A (qi (.ref it)) Q E s:=by
 obtain ⟨o,ho,hc,hd⟩:=id hit
 obtain ⟨ol,hol,_,nl,hdl⟩:=hl
 unfold qi
 refine qD (qAf (name:=Str.ofString "__next__") hit.typeIs qAu
  (qAy qAu hit.typeIs qCE ?_ (qCA _)))
 show wpAny _ _ (field (.ref it) 0 >>= _) _ _ s
 refine qD (qAU ho hd (x:=.ref l) rfl ?_)
 show wpAny _ _ (if (Value.ref l==Value.none)=true then _ else _) _ _ s
 rw [if_neg (show ¬ ((Value.ref l==Value.none)=true) from qK)]
 show wpAny _ _ (field (.ref it) 1 >>= _) _ _ s
 refine qD (qAU ho hd (x:=.int i 0) rfl ?_)
 show wpAny _ _ (seqItems? (.ref l) >>= _) _ _ s
 refine qD (qAO hol hdl ?_)
 simp only [qA3,hx]
 refine qD (qB1 (qD (wpAny_setField ho hd (by simp) ?_)))
 show wpAny _ _ (newExc (.type "StopIteration") [] >>= _) _ _ _
 refine qD ?_
 simp only [newExc,newTuple]
 refine qD (qB2 ?_ (by size_fits))
 refine qD (m:=firstArgMember _ _) (wpAny_of_eq (a:=Value.none) (by first|rfl|(simp only [firstArgMember];rfl)) ?_)
 refine qB2 ?_ (by size_fits)
 simp only [raiseNew]
 refine qD (wpAny_handled ?_)
 first|rw [show A.in1.handled=none from hh]|rw [hh]
 refine qD (qc (wpAny_throw ?_))
 exact hE _ _ (((qBM ..).extBut.push _).push _) ⟨_,qU _ rfl,rfl⟩
theorem znm {b:Bool} {it l:Addr} {i:Nat} {xs:Array Value} {x:Value} {Q:Value→Shared→Prop} (hit:SqIt b s.heap it l i) (hl:zeh b s.heap l xs) (hx:xs[i]?=some x)
  (hQ:∀ h',SqIt b h' it l (i+1)→Heap.SameBut it s.heap h'→Q x {s with heap:=h'}):wpAny (model prog w) A (qi (.ref it)) Q E s:=by
 cases b with
 | true=>exact wpAny_nextOf_list_item hit hl hx hQ
 | false=>exact ztk hit hl hx hQ
theorem zvs {b:Bool} {it l:Addr} {i:Nat} {xs:Array Value} {Q:Value→Shared→Prop} (hh:A.handled=none) (hit:SqIt b s.heap it l i) (hl:zeh b s.heap l xs) (hx:xs[i]?=none)
  (hE:∀ h' e,Heap.ExtBut it s.heap h'→(∃ o,h'.get? e=some o∧o.cls=.type "StopIteration")→E (.ref e) {s with heap:=h'}):wpAny (model prog w) A (qi (.ref it)) Q E s:=by
 cases b with
 | true=>exact wpAny_nextOf_list_end hh hit hl hx hE
 | false=>exact zvr hh hit hl hx hE
theorem zabc {b1 b2:Bool} {z TI TO i1 i2 l1 l2:Addr} {k1 k2:Nat} {xs ys:Array Value} {x y a b:Value} {Q:Value→Shared→Prop} (D:ZipApart z TI TO i1 i2 l1 l2)
  (hz:IsZip s.heap z TI TO .none) (hTI:IsPair s.heap TI (.ref i1) (.ref i2)) (hTO:IsPair s.heap TO a b)
  (h1:SqIt b1 s.heap i1 l1 k1) (h2:SqIt b2 s.heap i2 l2 k2) (hl1:zeh b1 s.heap l1 xs) (hl2:zeh b2 s.heap l2 ys) (hx:xs[k1]?=some x) (hy:ys[k2]?=some y)
  (hQ:∀ h',IsZip h' z TI TO (rawInt s.heap.objs.size)→IsPair h' TO x y→SqIt b1 h' i1 l1 (k1+1)→SqIt b2 h' i2 l2 (k2+1)→IsPair h' s.heap.objs.size x y→h'.objs.size=s.heap.objs.size+1 →
   (∀ c o,c≠z→c≠TO→c≠i1→c≠i2→s.heap.get? c=some o→h'.get? c=some o)→Q (.ref s.heap.objs.size) {s with heap:=h'}) :
  wpAny (model prog w) A (Builtin.«zip.__next__» ⟨[.ref z],[]⟩) (fun fin s'=>∃ v,fin=.done (.ret v)∧Q v s') E s:=by
 show wpAny _ _ (field (.ref z) 2 >>= _) _ _ _
 refine qD (qAU hz rfl (x:=.bool false) rfl ?_)
 show wpAny _ _ (field (.ref z) 3 >>= _) _ _ _
 refine qD (qAU hz rfl (x:=.ref TI) rfl ?_)
 refine qD (qAO hTI rfl ?_)
 show wpAny _ _ (Builtin.SmallTypes.ownedTupleIsFree (.ref z) >>= _) _ _ _
 refine qD ?_
 unfold Builtin.SmallTypes.ownedTupleIsFree
 refine qD (qAU hz rfl (x:=.none) rfl (qc ?_))
 simp only [if_true]
 refine qD (qB1 ?_)
 refine qD (qAU hz rfl (x:=.ref TO) rfl ?_)
 refine qD (qAM hz (by simp) fun h₁ hz₁ hs₁=>?_)
 replace hz₁:IsZip h₁ z TI TO .ellipsis:=hz₁
 refine qD ?_
 simp only [qBo,qBx,qBU,qB8]
 refine qD (qD (qA1 ?_))
 show wpAny _ _ (qi (.ref i1) >>= _) _ _ _
 refine qD (znm (h1.extBut hs₁.extBut D.i1z) (hl1.extBut hs₁.extBut D.l1z) hx fun h₂ h1₂ hs₂=>qc ?_)
 have hTO₂:IsPair h₂ TO a b:=hs₂.extBut _ _ D.TOi1 (hs₁.extBut _ _ D.TOz hTO)
 refine qD (qAO hTO₂ rfl ?_)
 refine qD (qBk hTO₂ fun h₃ hTO₃ hs₃=>?_)
 replace hTO₃:IsPair h₃ TO x b:=hTO₃
 refine qD (qBZ (qc ?_))
 refine qD (qD (qA1 ?_))
 show wpAny _ _ (qi (.ref i2) >>= _) _ _ _
 refine qD (znm (((h2.extBut hs₁.extBut D.i2z).extBut hs₂.extBut D.i12.symm).extBut hs₃.extBut D.TOi2.symm)
  (((hl2.extBut hs₁.extBut D.l2z).extBut hs₂.extBut D.l2i1).extBut hs₃.extBut D.l2TO) hy fun h₄ h2₄ hs₄=>qc ?_)
 have hTO₄:IsPair h₄ TO x b:=hs₄.extBut _ _ D.TOi2 hTO₃
 refine qD (qAO hTO₄ rfl ?_)
 refine qD (qBk hTO₄ fun h₅ hTO₅ hs₅=>?_)
 replace hTO₅:IsPair h₅ TO x y:=hTO₅
 refine qD (qBZ (qc (qc ?_)))
 refine qD (qAO hTO₅ rfl ?_)
 refine qD (wpAny_newTuple ?_)
 have hsz:h₅.objs.size=s.heap.objs.size:=by rw [hs₅.1,hs₄.1,hs₃.1,hs₂.1,hs₁.1]
 have hz₅:IsZip h₅ z TI TO .ellipsis:=hs₅.extBut _ _ D.TOz.symm (hs₄.extBut _ _ D.i2z.symm (hs₃.extBut _ _ D.TOz.symm (hs₂.extBut _ _ D.i1z.symm hz₁)))
 have hk₅:∀ c o,c≠z→c≠TO→c≠i1→c≠i2→s.heap.get? c=some o→h₅.get? c=some o:=fun c o c1 c2 c3 c4 e =>
  hs₅.extBut _ _ c2 (hs₄.extBut _ _ c4 (hs₃.extBut _ _ c2 (hs₂.extBut _ _ c3 (hs₁.extBut _ _ c1 e))))
 have h1₅:SqIt b1 h₅ i1 l1 (k1+1):=((h1₂.extBut hs₃.extBut D.TOi1.symm).extBut hs₄.extBut D.i12).extBut hs₅.extBut D.TOi1.symm
 have h2₅:SqIt b2 h₅ i2 l2 (k2+1):=h2₄.extBut hs₅.extBut D.TOi2.symm
 have hzlt:z<h₅.objs.size:=qL hz₅
 have hTOlt:TO<h₅.objs.size:=qL hTO₅
 have hi1lt:i1<h₅.objs.size:=by obtain ⟨_,e,_⟩:=h1₅.obj;exact qL e
 have hi2lt:i2<h₅.objs.size:=by obtain ⟨_,e,_⟩:=h2₅.obj;exact qL e
 show wpAny _ _ (Builtin.SmallTypes.ownedTupleHandOut (.ref z) (.ref h₅.objs.size) >>= _) _ _ _
 refine qD ?_
 unfold Builtin.SmallTypes.ownedTupleHandOut
 have hz₆:IsZip (h₅.push {cls:=.type "tuple",data:=.seq #[x,y]}) z TI TO .ellipsis:=qC _ hz₅
 refine qD (qAM hz₆ (by simp) fun h₇ hz₇ hs₇=>?_)
 replace hz₇:IsZip h₇ z TI TO (rawInt h₅.objs.size):=hz₇
 refine qAM hz₇ (by simp) fun h₈ hz₈ hs₈=>?_
 replace hz₈:IsZip h₈ z TI TO (rawInt h₅.objs.size):=hz₈
 have up:∀ c o,c≠z→h₅.get? c=some o→h₈.get? c=some o:=fun c o c1 e=>hs₈.extBut _ _ c1 (hs₇.extBut _ _ c1 (qC _ e))
 have hT₈:IsPair h₈ h₅.objs.size x y:=hs₈.extBut _ _ (qA5 hzlt) (hs₇.extBut _ _ (qA5 hzlt) (qU _ rfl))
 have hz8:h₈.objs.size=h₅.objs.size+1:=by rw [hs₈.1,hs₇.1,qAL]
 rw [hsz] at hz₈ hT₈ hz8
 refine qc ⟨_,rfl,?_⟩
 show Q (.ref h₅.objs.size) _
 rw [hsz]
 exact hQ h₈ hz₈ (up _ _ D.TOz hTO₅) (h1₅.at fun o e=>up _ o D.i1z e) (h2₅.at fun o e=>up _ o D.i2z e) hT₈ hz8 fun c o c1 c2 c3 c4 e=>up c o c1 (hk₅ c o c1 c2 c3 c4 e)
theorem zaen {b1 b2:Bool} {z TI TO i1 i2 l1 l2:Addr} {k1 k2:Nat} {xs ys:Array Value} {a b:Value} {Q:Fin→Shared→Prop} (hh:A.handled=none) (D:ZipApart z TI TO i1 i2 l1 l2)
  (hz:IsZip s.heap z TI TO .none) (hTI:IsPair s.heap TI (.ref i1) (.ref i2)) (hTO:IsPair s.heap TO a b)
  (h1:SqIt b1 s.heap i1 l1 k1) (h2:SqIt b2 s.heap i2 l2 k2) (hl1:zeh b1 s.heap l1 xs) (hl2:zeh b2 s.heap l2 ys) (hend:xs[k1]?=none∨ys[k2]?=none)
  (hE:∀ h' e,(∀ c o,c≠z→c≠TO→c≠i1→c≠i2→s.heap.get? c=some o→h'.get? c=some o)→(∃ o,h'.get? e=some o∧o.cls=.type "StopIteration")→E (.ref e) {s with heap:=h'}) :
  wpAny (model prog w) A (Builtin.«zip.__next__» ⟨[.ref z],[]⟩) Q E s:=by
 show wpAny _ _ (field (.ref z) 2 >>= _) _ _ _
 refine qD (qAU hz rfl (x:=.bool false) rfl ?_)
 show wpAny _ _ (field (.ref z) 3 >>= _) _ _ _
 refine qD (qAU hz rfl (x:=.ref TI) rfl ?_)
 refine qD (qAO hTI rfl ?_)
 show wpAny _ _ (Builtin.SmallTypes.ownedTupleIsFree (.ref z) >>= _) _ _ _
 refine qD ?_
 unfold Builtin.SmallTypes.ownedTupleIsFree
 refine qD (qAU hz rfl (x:=.none) rfl (qc ?_))
 simp only [if_true]
 refine qD (qB1 ?_)
 refine qD (qAU hz rfl (x:=.ref TO) rfl ?_)
 refine qD (qAM hz (by simp) fun h₁ hz₁ hs₁=>?_)
 replace hz₁:IsZip h₁ z TI TO .ellipsis:=hz₁
 refine qD ?_
 simp only [qBo,qBx,qBU,qB8]
 refine qD (qD (qA1 ?_))
 show wpAny _ _ (qi (.ref i1) >>= _) _ _ _
 cases hx:xs[k1]? with
 | none =>
  refine qD (zvs hh (h1.extBut hs₁.extBut D.i1z) (hl1.extBut hs₁.extBut D.l1z) hx fun h₂ e hs₂ he=>?_)
  obtain ⟨oe,hoe,hce⟩:=he
  have hz₂:IsZip h₂ z TI TO .ellipsis:=hs₂ _ _ D.i1z.symm hz₁
  have hez:e≠z:=fun x=>by subst x;rw [hz₂] at hoe;cases hoe;simp at hce
  refine qAM hz₂ (by simp) fun h₃ _ hs₃=>hE h₃ e (fun c o c1 _ c3 _ x=>hs₃.extBut _ _ c1 (hs₂ _ _ c3 (hs₁.extBut _ _ c1 x))) ⟨oe,hs₃.extBut _ _ hez hoe,hce⟩
 | some x =>
  have hy:ys[k2]?=none:=by rcases hend with h|h;rw [hx] at h;cases h;exact h
  refine qD (znm (h1.extBut hs₁.extBut D.i1z) (hl1.extBut hs₁.extBut D.l1z) hx fun h₂ h1₂ hs₂=>qc ?_)
  have hTO₂:IsPair h₂ TO a b:=hs₂.extBut _ _ D.TOi1 (hs₁.extBut _ _ D.TOz hTO)
  refine qD (qAO hTO₂ rfl ?_)
  refine qD (qBk hTO₂ fun h₃ hTO₃ hs₃=>?_)
  refine qD (qBZ (qc ?_))
  refine qD (qD (qA1 ?_))
  show wpAny _ _ (qi (.ref i2) >>= _) _ _ _
  refine qD (zvs hh (((h2.extBut hs₁.extBut D.i2z).extBut hs₂.extBut D.i12.symm).extBut hs₃.extBut D.TOi2.symm)
   (((hl2.extBut hs₁.extBut D.l2z).extBut hs₂.extBut D.l2i1).extBut hs₃.extBut D.l2TO) hy fun h₄ e hs₄ he=>?_)
  obtain ⟨oe,hoe,hce⟩:=he
  have hz₄:IsZip h₄ z TI TO .ellipsis:=hs₄ _ _ D.i2z.symm (hs₃.extBut _ _ D.TOz.symm (hs₂.extBut _ _ D.i1z.symm hz₁))
  have hez:e≠z:=fun x=>by subst x;rw [hz₄] at hoe;cases hoe;simp at hce
  refine qAM hz₄ (by simp) fun h₅ _ hs₅=>hE h₅ e (fun c o c1 c2 c3 c4 x=>hs₅.extBut _ _ c1 (hs₄ _ _ c4 (hs₃.extBut _ _ c2 (hs₂.extBut _ _ c3 (hs₁.extBut _ _ c1 x))))) ⟨oe,hs₅.extBut _ _ hez hoe,hce⟩
structure ZipAt (b1 b2:Bool) (h:Heap) (z TI TO i1 i2 l1 l2:Addr) (f0:Value) (k:Nat):Prop where
 z:IsZip h z TI TO f0
 ti:IsPair h TI (.ref i1) (.ref i2)
 to:∃ a b,IsPair h TO a b
 i1:SqIt b1 h i1 l1 k
 i2:SqIt b2 h i2 l2 k
theorem zaeo {b1 b2:Bool} {z TI TO i1 i2 l1 l2:Addr} {k:Nat} {xs ys:Array Value} {x y:Value} {Q:Value→Shared→Prop} (D:ZipApart z TI TO i1 i2 l1 l2)
  (hz:ZipAt b1 b2 s.heap z TI TO i1 i2 l1 l2 .none k) (hl1:zeh b1 s.heap l1 xs) (hl2:zeh b2 s.heap l2 ys) (hx:xs[k]?=some x) (hy:ys[k]?=some y)
  (hQ:∀ h',ZipAt b1 b2 h' z TI TO i1 i2 l1 l2 (rawInt s.heap.objs.size) (k+1)→IsPair h' s.heap.objs.size x y →
   (∀ c o,c≠z→c≠TO→c≠i1→c≠i2→s.heap.get? c=some o→h'.get? c=some o)→Q (.ref s.heap.objs.size) {s with heap:=h'}) :
  wpAny (model prog w) A (Builtin.«zip.__next__» ⟨[.ref z],[]⟩) (fun fin s'=>∃ v,fin=.done (.ret v)∧Q v s') E s:=by
 obtain ⟨p1,p2,⟨a,b,p3⟩,p4,p5⟩:=hz
 exact zabc D p1 p2 p3 p4 p5 hl1 hl2 hx hy fun h' q1 q2 q3 q4 q5 _ q7=>hQ h' ⟨q1,q7 _ _ D.TIz D.TITO D.TIi1 D.TIi2 p2,⟨x,y,q2⟩,q3,q4⟩ q5 q7
theorem zahi {b1 b2:Bool} {z TI TO i1 i2 l1 l2:Addr} {k:Nat} {xs ys:Array Value} {Q:Fin→Shared→Prop} (hh:A.handled=none) (D:ZipApart z TI TO i1 i2 l1 l2)
  (hz:ZipAt b1 b2 s.heap z TI TO i1 i2 l1 l2 .none k) (hl1:zeh b1 s.heap l1 xs) (hl2:zeh b2 s.heap l2 ys) (hend:xs[k]?=none∨ys[k]?=none)
  (hE:∀ h' e,(∀ c o,c≠z→c≠TO→c≠i1→c≠i2→s.heap.get? c=some o→h'.get? c=some o)→(∃ o,h'.get? e=some o∧o.cls=.type "StopIteration")→E (.ref e) {s with heap:=h'}) :
  wpAny (model prog w) A (Builtin.«zip.__next__» ⟨[.ref z],[]⟩) Q E s:=by
 obtain ⟨p1,p2,⟨a,b,p3⟩,p4,p5⟩:=hz
 exact zaen hh D p1 p2 p3 p4 p5 hl1 hl2 hend hE
end
end PySem
namespace L2
open PySem PySem.Spec PyProof.Rows
noncomputable def SqX (b:Bool) (K:qB) (H:Hp) (a:Addr) (xs:List V):Prop:=match b with
 | true=>SqL K H a xs
 | false=>SqT K H a xs
section
variable {X:Cx} {pins:List (Addr×Obj)} {σ:St} {H:Hp} {s:Shared}
theorem Inv.sq {b:Bool} {a:Addr} {xs:List V} (I:Inv X pins σ H s) (h:SqX b X.K H a xs):∃ its:List Value,Vals xs its∧zeh b s.heap a its.toArray∧xs.length≤qd:=by
 cases b with
 | true=>obtain ⟨its,r,p,z⟩:=I.list h;exact ⟨its,r,p.isList,z⟩
 | false=>obtain ⟨its,r,p,z⟩:=I.tuple h;exact ⟨its,r,(show s.heap.IsTuple a its.toArray from p),z⟩
theorem Inv.sq_inj {b:Bool} {a:Addr} {xs ys:List V} (I:Inv X pins σ H s) (h:SqX b X.K H a xs) (h':SqX b X.K H a ys):xs=ys:=by
 cases b with
 | true=>exact I.list_inj h h'
 | false=>exact I.tuple_inj h h'
end
noncomputable def Itz (K:qB) (b1:Bool) (a1:Addr) (b2:Bool) (a2:Addr):It :=
 ⟨fun i H=>∃ xs ys x y,SqX b1 K H a1 xs∧SqX b2 K H a2 ys∧xs[i]?=some x∧ys[i]?=some y,
  fun i H v H'=>∃ p x y,v=.ref p∧H p=none∧H'=upd H p (.tup [x,y])∧(∀ xs,SqX b1 K H a1 xs→xs[i]?=some x)∧∀ ys,SqX b2 K H a2 ys→ys[i]?=some y,
  fun i H=>∃ xs ys,SqX b1 K H a1 xs∧SqX b2 K H a2 ys∧(xs.length≤i∨ys.length≤i)⟩
theorem zahj {P:Program} {w:World} {K:qB} {elts:List Expr} {x1} {tpos:Pos} {b1 b2:Bool} {z TI TO i1 i2 l1 l2:Addr} (D:ZipApart z TI TO i1 i2 l1 l2) :
  Turn P w K (.Tuple elts x1 tpos) (Itz K b1 l1 b2 l2) [z,TI,TO,i1,i2] z (fun i h=>ZipAt b1 b2 h z TI TO i1 i2 l1 l2 .none i) where
 mem:=by simp
 obj:=fun i h st b hb=>by
  obtain ⟨a,c,hto⟩:=st.to
  simp only [qN,qw,or_false] at hb
  rcases hb with rfl|rfl|rfl|rfl|rfl
  ·exact ⟨_,st.z,fun v q=>by simp at q⟩
  ·exact ⟨_,st.ti,fun v q=>by simp at q⟩
  ·exact ⟨_,hto,fun v q=>by simp at q⟩
  ·exact st.i1.obj
  ·exact st.i2.obj
 keep:=fun i h h' st k=>by
  obtain ⟨a,c,hto⟩:=st.to
  exact ⟨k z (by simp) _ st.z,k TI (by simp) _ st.ti,⟨a,c,k TO (by simp) _ hto⟩,st.i1.moved fun o q=>k i1 (by simp) o q,st.i2.moved fun o q=>k i2 (by simp) o q⟩
 item:=by
  intro X hP hw hK hc i pins s σ H E I hf st hg
  subst hP hw hK
  obtain ⟨xs,ys,x,y,q1,q2,hx,hy⟩:=hg
  obtain ⟨its1,rv1,p1,_⟩:=I.sq q1
  obtain ⟨its2,rv2,p2,_⟩:=I.sq q2
  obtain ⟨u1,hu1,ru1⟩:=rv1.get hx
  obtain ⟨u2,hu2,ru2⟩:=rv2.get hy
  have hT:s.TypeIs (.ref z) "zip":=⟨_,st.z,rfl⟩
  unfold pyNext
  refine qD (qBr (qAf (name:=Str.ofString "__next__") hT qAk (qAy qAk hT qBX
   (zaeo D st p1 p2 (x:=u1) (y:=u2) (by simpa using hu1) (by simpa using hu2) fun h1 zt tp kp=>qc ?_) (qBO _))))
  refine ⟨_,rfl,qCL (s:={s with heap:=h1}) zt.z fun h2 z2 sb2=>?_⟩
  have hp:H s.heap.objs.size=none:=I.hok.fresh (qQ _)
  have fz:=hf z (by simp)
  have fO:=hf TO (by simp)
  have f1:=hf i1 (by simp)
  have f2:=hf i2 (by simp)
  have lt:∀ b∈[z,TI,TO,i1,i2],b≠s.heap.objs.size:=fun b hb=>by
   obtain ⟨a,c,hto⟩:=st.to
   simp only [qN,qw,or_false] at hb
   rcases hb with rfl|rfl|rfl|rfl|rfl
   ·exact qj (qL st.z)
   ·exact qj (qL st.ti)
   ·exact qj (qL hto)
   ·obtain ⟨o,q,_⟩:=st.i1.obj;exact qj (qL q)
   ·obtain ⟨o,q,_⟩:=st.i2.obj;exact qj (qL q)
  have k2:∀ b o,b≠z→b≠TO→b≠i1→b≠i2→s.heap.get? b=some o→h2.get? b=some o:=fun b o e1 e2 e3 e4 q=>(sb2.2 b e1).trans (kp b o e1 e2 e3 e4 q)
  have t2:IsPair h2 s.heap.objs.size u1 u2:=(sb2.2 _ (qAW (lt z (by simp)))).trans tp
  have nch:∀ b,b∉[z,TO,i1,i2]→b≠z∧b≠TO∧b≠i1∧b≠i2:=fun b hb=>⟨fun q=>hb (by simp [q]),fun q=>hb (by simp [q]),fun q=>hb (by simp [q]),fun q=>hb (by simp [q])⟩
  have k3:∀ b o,b∉[z,TO,i1,i2]→s.heap.get? b=some o→h2.get? b=some o:=fun b o hb q=>let ⟨e1,e2,e3,e4⟩:=nch b hb;k2 b o e1 e2 e3 e4 q
  have nH:∀ c v,H c=some v→c∉[z,TO,i1,i2]:=fun c v q hc=>by
   have:H c=none:=by
    simp only [qN,qw,or_false] at hc
    rcases hc with rfl|rfl|rfl|rfl
    ·exact fz.1
    ·exact fO.1
    ·exact f1.1
    ·exact f2.1
   rw [this] at q;cases q
  refine ⟨.ref s.heap.objs.size,upd H s.heap.objs.size (.tup [x,y]),?_,rfl,⟨_,x,y,rfl,hp,rfl,fun zs q=>by rw [I.sq_inj q q1];exact hx,fun zs q=>by rw [I.sq_inj q q2];exact hy⟩,?_,fun b hb=>by rw [zbk (lt b hb)];exact (hf b hb).1⟩
  ·refine Inv.step (s:=s) (h':=h2) (g':=s.gens) (d':=s.drawn) (t':=s.toks) (ch:=[z,TO,i1,i2]) I (fun b hb=>?_) (fun b o _ _ hc q _=>k3 b o hc q) (fun b o _ _ hc q _=>⟨o.slots,k3 b o hc q⟩)
    (fun b o _ q n=>by rw [zbk (qj (qL q))];exact n) (fun b o hc q=>⟨o,k3 b o hc q⟩)
    (fun b xs q=>by rw [zbk (zbs q hp)];exact q) (fun b o v q=>by rw [zbk (zbs q hp)];exact q) (fun b ps q=>⟨#[],by rw [zbk (zbs q hp),q];simp⟩) (fun m hm=>?_) (fun b v q=>?_) I.bare
   ·have:=hf b (by
     simp only [qN,qw,or_false] at hb ⊢
     rcases hb with rfl|rfl|rfl|rfl<;>simp)
    exact ⟨this.2.2.2.1,this.2.1,this.2.2.2.2.1,this.2.2.2.2.2⟩
   ·obtain ⟨o,es,ep,ho,r⟩:=hm
    exact ⟨o,es,ep,k2 _ o (qAW fz.2.1) (qAW fO.2.1) (qAW f1.2.1) (qAW f2.2.1) ho,r⟩
   ·by_cases hb:b=s.heap.objs.size
    ·subst hb
     rw [zbe] at q
     cases q
     exact ⟨by show 2≤qd;decide,[u1,u2],.cons ru1 (.cons ru2 .nil),_,t2,rfl,_,rfl⟩
    ·rw [zbk hb] at q
     refine (I.hok b v q).stay (fun c w' hc r=>?_) (fun c r=>by rw [zbk (zbs r hp)];exact r) fun c ys r=>by rw [zbk (zbs r hp)];exact r
     rcases hc with rfl|hc
     ·exact k3 c w' (nH c v q) r
     ·exact k3 c w' (nH c _ hc) r
  ·obtain ⟨a,c,hto⟩:=zt.to
   exact ⟨z2,(sb2.2 _ D.TIz).trans zt.ti,⟨a,c,(sb2.2 _ D.TOz).trans hto⟩,zt.i1.moved fun o q=>(sb2.2 _ D.i1z).trans q,zt.i2.moved fun o q=>(sb2.2 _ D.i2z).trans q⟩
 done:=by
  intro X hP hw hK hc i pins s σ H E I hf st hg
  subst hP hw hK
  obtain ⟨xs,ys,q1,q2,hle⟩:=hg
  obtain ⟨its1,rv1,p1,_⟩:=I.sq q1
  obtain ⟨its2,rv2,p2,_⟩:=I.sq q2
  have l1':=rv1.length
  have l2':=rv2.length
  have hT:s.TypeIs (.ref z) "zip":=⟨_,st.z,rfl⟩
  unfold pyNext
  refine qD (qBr (qAf (name:=Str.ofString "__next__") hT qAk (qAy qAk hT qBX
   (zahi (by exact I.ok.hd hc) D st p1 p2 (by rcases hle with q|q;exact .inl (by simp;omega);exact .inr (by simp;omega)) fun h' e kp he=>?_) (qBO _))))
  obtain ⟨o,ho,hcl⟩:=he
  refine qD (wpAny_isInstance (T:="StopIteration") (b:=true) ⟨o,ho,hcl⟩ isSubtype_stop (qc ⟨rfl,?_⟩))
  have fz:=hf z (by simp)
  have fO:=hf TO (by simp)
  have f1:=hf i1 (by simp)
  have f2:=hf i2 (by simp)
  have nch:∀ b,b∉[z,TO,i1,i2]→b≠z∧b≠TO∧b≠i1∧b≠i2:=fun b hb=>⟨fun q=>hb (by simp [q]),fun q=>hb (by simp [q]),fun q=>hb (by simp [q]),fun q=>hb (by simp [q])⟩
  have k3:∀ b o,b∉[z,TO,i1,i2]→s.heap.get? b=some o→h'.get? b=some o:=fun b o hb q=>let ⟨e1,e2,e3,e4⟩:=nch b hb;kp b o e1 e2 e3 e4 q
  have nH:∀ c v,H c=some v→c∉[z,TO,i1,i2]:=fun c v q hc=>by
   have:H c=none:=by
    simp only [qN,qw,or_false] at hc
    rcases hc with rfl|rfl|rfl|rfl
    ·exact fz.1
    ·exact fO.1
    ·exact f1.1
    ·exact f2.1
   rw [this] at q;cases q
  refine Inv.step (s:=s) (h':=h') (g':=s.gens) (d':=s.drawn) (t':=s.toks) (ch:=[z,TO,i1,i2]) I (fun b hb=>?_) (fun b o _ _ hc q _=>k3 b o hc q) (fun b o _ _ hc q _=>⟨o.slots,k3 b o hc q⟩)
    (fun b o _ q n=>n) (fun b o hc q=>⟨o,k3 b o hc q⟩) (fun b xs q=>q) (fun b o v q=>q) (fun b ps q=>⟨#[],by rw [q];simp⟩) (fun m hm=>?_) (fun b v q=>?_) I.bare
  ·have:=hf b (by
     simp only [qN,qw,or_false] at hb ⊢
     rcases hb with rfl|rfl|rfl|rfl<;>simp)
   exact ⟨this.2.2.2.1,this.2.1,this.2.2.2.2.1,this.2.2.2.2.2⟩
  ·obtain ⟨o,es,ep,ho,r⟩:=hm
   exact ⟨o,es,ep,kp _ o (qAW fz.2.1) (qAW fO.2.1) (qAW f1.2.1) (qAW f2.2.1) ho,r⟩
  ·refine (I.hok b v q).stay (fun c w' hc r=>?_) (fun c r=>r) fun c ys r=>r
   rcases hc with rfl|hc
   ·exact k3 c w' (nH c v q) r
   ·exact k3 c w' (nH c _ hc) r
 self:=fun _ _ _ _ _ st h=>qBb st.z h
end L2
namespace PySem
open Sem (wp)
noncomputable def itO (b:Bool) (l:Addr):Obj:=match b with
 | true=>{cls:=.type "list_iterator",data:=.fields #[.ref l,.int 0 0]}
 | false=>{cls:=.type "tuple_iterator",data:=.fields #[.ref l,.int 0 0]}
noncomputable def zx1 (b1:Bool) (h:Heap) (l1:Addr):Heap:=h.push (itO b1 l1)
noncomputable def zx2 (b1 b2:Bool) (h:Heap) (l1 l2:Addr):Heap:=(zx1 b1 h l1).push (itO b2 l2)
noncomputable def zx3 (b1 b2:Bool) (h:Heap) (l1 l2:Addr):Heap:=(zx2 b1 b2 h l1 l2).push {cls:=.type "tuple",data:=.seq #[.ref h.objs.size,.ref (zx1 b1 h l1).objs.size]}
noncomputable def zx4 (b1 b2:Bool) (h:Heap) (l1 l2:Addr):Heap:=(zx3 b1 b2 h l1 l2).push {cls:=.type "tuple",data:=.seq #[.none,.none]}
noncomputable def zx5 (b1 b2:Bool) (h:Heap) (l1 l2:Addr):Heap:=(zx4 b1 b2 h l1 l2).push {cls:=.type "zip",data:=.fields #[.none,.bool false,.bool false,.ref (zx2 b1 b2 h l1 l2).objs.size,.ref (zx3 b1 b2 h l1 l2).objs.size]}
theorem zabd (b1 b2:Bool) (l1 l2:Addr) (xs ys:Array Value) :
  Meets (Builtin.«zip.__new__» ⟨[.type "zip",.ref l1,.ref l2],[]⟩) (fun _ R s=>zeh b1 s.heap l1 xs∧zeh b2 s.heap l2 ys∧R (.ok (.ret (.ref (zx4 b1 b2 s.heap l1 l2).objs.size))) {s with heap:=zx5 b1 b2 s.heap l1 l2}) :=
 .of_wp fun prog w A R s h=>by
  obtain ⟨hp,g,d,tk,os⟩:=s;obtain ⟨h1,h2,h⟩:=h
  have hsub:=sub_zip
  cases b1 with
  | true =>
   have e1:Heap.IsList (Shared.heap ⟨hp,g,d,tk,os⟩) l1 xs:=h1
   cases b2 with
   | true =>
    have e2:Heap.IsList (Shared.heap ⟨hp.push {cls:=.type "list_iterator",data:=.fields #[.ref l1,.int 0 0]},g,d,tk,os⟩) l2 ys:=qCF h2 _
    wp_walk using qAo e1,qAo e2
    exact ⟨_,rfl,h⟩
   | false =>
    have e2:Heap.IsTuple (Shared.heap ⟨hp.push {cls:=.type "list_iterator",data:=.fields #[.ref l1,.int 0 0]},g,d,tk,os⟩) l2 ys:=qAw h2 _
    wp_walk using qAo e1,qAb e2
    exact ⟨_,rfl,h⟩
  | false =>
   have e1:Heap.IsTuple (Shared.heap ⟨hp,g,d,tk,os⟩) l1 xs:=h1
   cases b2 with
   | true =>
    have e2:Heap.IsList (Shared.heap ⟨hp.push {cls:=.type "tuple_iterator",data:=.fields #[.ref l1,.int 0 0]},g,d,tk,os⟩) l2 ys:=qCF h2 _
    wp_walk using qAb e1,qAo e2
    exact ⟨_,rfl,h⟩
   | false =>
    have e2:Heap.IsTuple (Shared.heap ⟨hp.push {cls:=.type "tuple_iterator",data:=.fields #[.ref l1,.int 0 0]},g,d,tk,os⟩) l2 ys:=qAw h2 _
    wp_walk using qAb e1,qAb e2
    exact ⟨_,rfl,h⟩
theorem zmk {b:Bool} {h:Heap} {a l:Addr} (e:h.get? a=some (itO b l)):SqIt b h a l 0:=by
 cases b with
 | true=>exact ⟨_,e,rfl,rfl⟩
 | false=>exact ⟨_,e,rfl,rfl⟩
theorem zaep {prog:Program} {w:World} {A:Around} {E:Value→Shared→Prop} {s:Shared} {b1 b2:Bool} {l1 l2:Addr} {xs ys:Array Value} {Q:Value→Shared→Prop} (h1:zeh b1 s.heap l1 xs) (h2:zeh b2 s.heap l2 ys)
  (h:∀ h',ZipAt b1 b2 h' (s.heap.objs.size+4) (s.heap.objs.size+2) (s.heap.objs.size+3) s.heap.objs.size (s.heap.objs.size+1) l1 l2 .none 0→(∀ c o,s.heap.get? c=some o→h'.get? c=some o)→Q (.ref (s.heap.objs.size+4)) {s with heap:=h'}) :
  wpAny (model prog w) A (call (.type "zip") [.ref l1,.ref l2]) Q E s:=by
 refine callType_new F.called_zip (by decide) (F.typeCall_zip_2 _ _) (F.newCall_zip_2 _ _) (fun obj=>F.args_object_init_3 obj _ _) F.entry_zip_new (zabd b1 b2 l1 l2 xs ys) ⟨h1,h2,?_⟩
 have z1:(zx1 b1 s.heap l1).objs.size=s.heap.objs.size+1:=qAL ..
 have z2:(zx2 b1 b2 s.heap l1 l2).objs.size=s.heap.objs.size+2:=by unfold zx2;rw [qAL,z1]
 have z3:(zx3 b1 b2 s.heap l1 l2).objs.size=s.heap.objs.size+3:=by unfold zx3;rw [qAL,z2]
 have z4:(zx4 b1 b2 s.heap l1 l2).objs.size=s.heap.objs.size+4:=by unfold zx4;rw [qAL,z3]
 have fr:∀ o:Obj,(zx5 b1 b2 s.heap l1 l2).get? (zx4 b1 b2 s.heap l1 l2).objs.size=some {cls:=.type "zip",dict:=none,data:=.fields #[.none,.bool false,.bool false,.ref (zx2 b1 b2 s.heap l1 l2).objs.size,.ref (zx3 b1 b2 s.heap l1 l2).objs.size],slots:=#[]}:=fun _=>qU _ rfl
 have g5:=fr {cls:=.none,data:=.seq #[]}
 have g4:(zx5 b1 b2 s.heap l1 l2).get? (zx3 b1 b2 s.heap l1 l2).objs.size=some {cls:=.type "tuple",data:=.seq #[.none,.none]}:=qC _ (qU _ rfl)
 have g3:(zx5 b1 b2 s.heap l1 l2).get? (zx2 b1 b2 s.heap l1 l2).objs.size=some {cls:=.type "tuple",data:=.seq #[.ref s.heap.objs.size,.ref (zx1 b1 s.heap l1).objs.size]}:=qC _ (qC _ (qU _ rfl))
 have g2:(zx5 b1 b2 s.heap l1 l2).get? (zx1 b1 s.heap l1).objs.size=some (itO b2 l2):=qC _ (qC _ (qC _ (qU _ (by cases b2<;>rfl))))
 have g1:(zx5 b1 b2 s.heap l1 l2).get? s.heap.objs.size=some (itO b1 l1):=qC _ (qC _ (qC _ (qC _ (qU _ (by cases b1<;>rfl)))))
 show _∧_
 rw [z2,z3,z4] at g5
 rw [z1,z2] at g3
 rw [z3] at g4
 rw [z1] at g2
 rw [z4]
 exact ⟨⟨_,g5,rfl⟩,h _ ⟨g5,g3,⟨_,_,g4⟩,zmk g1,zmk g2⟩ fun c o q=>qC _ (qC _ (qC _ (qC _ (qC _ q))))⟩
end PySem
namespace L2
open PySem PySem.Spec PyProof.Rows
theorem zajg:bootBuiltins "zip" = some (.type "zip"):=by decide +kernel
noncomputable def iZip (K:qB) (ta:TA):TI:=fun σ H R=>ta σ H fun vs H1=>∃ b1 b2 a1 a2,vs=[.ref a1,.ref a2]∧(∃ xs,SqX b1 K H1 a1 xs)∧(∃ ys,SqX b2 K H1 a2 ys)∧R (Itz K b1 a1 b2 a2) H1
theorem zeh.there {b:Bool} {h:Heap} {l:Addr} {xs:Array Value} (x:zeh b h l xs):l<h.objs.size:=by
 cases b with
 | true=>obtain ⟨o,q,_⟩:=x;exact qL q
 | false=>obtain ⟨o,q,_⟩:=x;exact qL q
theorem zaeq {n l1 l2:Nat} (h1:l1<n) (h2:l2<n):ZipApart (n+4) (n+2) (n+3) n (n+1) l1 l2:=by
 constructor<;>first|exact qj (by omega)|exact qA5 (by omega)
theorem zaor {X:Cx} {K:qB} (hK:X.K=K) {a b:Expr} {ta:TA} {p pos:Pos} {elts:List Expr} {x1} {tpos:Pos} (hg:Gl X "zip") (hm:X.mg "zip" = none) (ha:PA X [a,b] ta) (hs:starEach [a,b] X.env=(false,eval a X.env)::starEach [b] X.env:=by rfl) (hs2:(backTo pos (starEach [b] X.env)).any (·.1)=false:=by rfl) :
  PI X (.Tuple elts x1 tpos) (.Call (.Name "zip" p) [a,b] [] pos) (iZip K ta):=by
 subst hK
 intro pins s σ H R I h
 refine Call_ (zrm I hg hm zajg (callWith_type1 (thn (ha pos pins s σ H _ I h) fun us s1 ⟨vs,H1,I1,r1,q1⟩=>?_) hs hs2))
 obtain ⟨b1,b2,l1,l2,rfl,⟨xs,e1⟩,⟨ys,e2⟩,q⟩:=q1
 obtain ⟨u1,u2,rfl,ru1,ru2⟩:=zakc r1
 cases ru1
 cases ru2
 obtain ⟨its1,rv1,p1,_⟩:=I1.sq e1
 obtain ⟨its2,rv2,p2,_⟩:=I1.sq e2
 have t1:=zeh.there p1
 have t2:=zeh.there p2
 refine zaep p1 p2 fun h' zt hk=>qBb zt.z ?_
 have I2:Inv X pins σ H1 {s1 with heap:=h'}:=I1.kept (t':=s1.toks) hk
 have D:=zaeq t1 t2
 refine ⟨s1.heap.objs.size+4,[s1.heap.objs.size+4,s1.heap.objs.size+2,s1.heap.objs.size+3,s1.heap.objs.size,s1.heap.objs.size+1],_,_,H1,rfl,I2,zahj D,zt,fun c hc=>?_,q⟩
 have hge:s1.heap.objs.size≤c:=by
  simp only [qN,qw,or_false] at hc
  rcases hc with rfl|rfl|rfl|rfl|rfl
  ·exact qAT _ _
  ·exact qAT _ _
  ·exact qAT _ _
  ·exact qQ _
  ·exact qAT _ _
 exact I1.fpOk hge (I1.hok.fresh hge)
noncomputable def zabe (f:AF):IF':=fun env=>(f env).bind fun rs=>match rs with
 | [r,t]=>(zhz r.d).bind fun ds=>(zhz t.d).map fun es=>(List.zipWith (fun d e=>.tuple [d,e]) ds es,r.bs++t.bs)
 | _=>none
theorem zajh {K:qB} {A:Addr→Prop} {H:Hp} {d:PyData} {ds:List PyData} {v:V} (h:Rp (Offs A H) d v) (e:zhz d=some ds):∃ (b:Bool) (a:Addr) (xs:List V),v=.ref a∧Rps (Offs A H) ds xs∧∀ (B:Addr→Prop) (H':Hp),Same (Offs A H) (Offs B H')→SqX b K H' a xs:=by
 cases d with
 | list es =>
  cases e
  obtain ⟨a,xs,rfl,ha,r⟩:=zfk h
  exact ⟨true,a,xs,rfl,r,fun B H' s=>SqL.of (zcm (s _ _ ha))⟩
 | tuple es =>
  cases e
  obtain ⟨a,xs,rfl,ha,r⟩:=zco h
  exact ⟨false,a,xs,rfl,r,fun B H' s=>SqT.of (zcm (s _ _ ha))⟩
 | _=>cases e
theorem zahk {ds es:List PyData} {i:Nat} {d:PyData} (h:(List.zipWith (fun d e=>PyData.tuple [d,e]) ds es)[i]?=some d):∃ a b,ds[i]?=some a∧es[i]?=some b∧d=.tuple [a,b]:=by
 rw [List.getElem?_zipWith] at h
 cases e1:ds[i]? with
 | none=>rw [e1] at h;cases h
 | some a =>
  cases e2:es[i]? with
  | none=>rw [e1,e2] at h;cases h
  | some b=>rw [e1,e2] at h;cases h;exact ⟨a,b,rfl,rfl,rfl⟩
theorem zaji {K:qB} {ta:TA} {f:AF} (h1:SA ta f):SI (iZip K ta) (zabe f):=by
 intro fx H0 env σ H h ds bs e R q
 unfold zabe at e
 obtain ⟨rs,er,e⟩:=qA.mp e
 split at e
 ·rename_i r t
  obtain ⟨d1,ed1,e⟩:=qA.mp e
  obtain ⟨d2,ed2,e⟩:=qH.mp e
  cases e
  refine h1 fx H0 env σ H h _ er _ fun vs H1 s hv=>?_
  cases hv with
  | cons hv1 hv' =>
   cases hv' with
   | cons hv2 hv'' =>
    cases hv''
    have sub1:∀ b,(fx b∨own (frzs env (r.bs++t.bs)) σ b)→lim fx env σ r.bs b:=fun b z=>zjh (fun i hi=>qv _ hi) b (zcx b z)
    have sub2:∀ b,(fx b∨own (frzs env (r.bs++t.bs)) σ b)→lim fx env σ t.bs b:=fun b z=>zjh (fun i hi=>qW _ hi) b (zcx b z)
    obtain ⟨b1,a1,xs,rfl,r1,e1⟩:=zajh (K:=K) (Rp.same (Offs.sub sub1) _ hv1.rp) ed1
    obtain ⟨b2,a2,ys,rfl,r2,e2⟩:=zajh (K:=K) (Rp.same (Offs.sub sub2) _ hv2.rp) ed2
    refine ⟨b1,b2,a1,a2,rfl,⟨xs,e1 _ H1 (Same.refl _)⟩,⟨ys,e2 _ H1 (Same.refl _)⟩,q _ H1 s ?_⟩
    intro A H' hA ss
    have q1:=e1 A H' ss
    have q2:=e2 A H' ss
    have r1':=Rps.same ss _ r1
    have r2':=Rps.same ss _ r2
    refine ⟨fun i d e=>?_,⟨xs,ys,q1,q2,?_⟩⟩
    ·obtain ⟨c1,c2,ec1,ec2,rfl⟩:=zahk e
     obtain ⟨v1,g1,rv1⟩:=r1'.get2 ec1
     obtain ⟨v2,g2,rv2⟩:=r2'.get2 ec2
     refine ⟨⟨xs,ys,v1,v2,q1,q2,g1,g2⟩,fun x H'' y=>?_⟩
     obtain ⟨p,x',y',rfl,hp,rfl,y1,y2⟩:=y
     have z1:=y1 xs q1
     rw [g1] at z1
     cases z1
     have z2:=y2 ys q2
     rw [g2] at z2
     cases z2
     exact ⟨Same.new hp,znc hp (zet hA hp) (zdq rv1 (zdq rv2 zen))⟩
    ·rw [List.length_zipWith,r1.length,r2.length]
     rcases Nat.le_total xs.length ys.length with z|z
     ·exact .inl (by rw [Nat.min_eq_left z];exact qQ _)
     ·exact .inr (by rw [Nat.min_eq_right z];exact qQ _)
 ·cases e
noncomputable def rInS (K:qB) (neg:Bool):R2:=fun x y H Q=>∃ d c ds,Rep K H d x∧Rep K H c y∧zhz c=some ds∧qAK d=true∧qAK c=true∧Q (.bl (if neg then !(ds.any fun e=>qAA e d) else ds.any fun e=>qAA e d)) H
section
variable {X:Cx}
theorem shp {d:PyData} (h:qAK d=true):d.canLay0=true∧d.depth≤64:=by
 unfold qAK at h
 rw [qt] at h
 exact ⟨h.1,of_decide_eq_true h.2⟩
theorem zaqj {K:qB} (hK:X.K=K) (hu:X.A.units+64<cLine):OpR X (compareOp .In) (rInS K false):=by
 subst hK
 intro pins s σ H x y v u Q I rx ry h
 obtain ⟨d,c,ds,hd,hc,hi,sd,sc,q⟩:=h
 obtain ⟨as,r1⟩:=zfj I d hd rx
 obtain ⟨bs,r2⟩:=zfj I c hc ry
 obtain ⟨l1,p1⟩:=shp sd
 obtain ⟨l2,p2⟩:=shp sc
 have q:EP X pins σ Q (.bool (ds.any fun e=>qAA e d)) s:=⟨.bl (ds.any fun e=>qAA e d),H,I,rfl,q⟩
 cases c with
 | list es =>
  cases hi
  have p2:qAG ds+1≤64:=p2
  exact SeqAt.in_list_reads r2 r1 l2 l1 (by have:=qBD (qAG ds) d.depth;omega) q
 | tuple es =>
  cases hi
  have p2:qAG ds+1≤64:=p2
  exact SeqAt.in_tuple_reads r2 r1 l2 l1 (by have:=qBD (qAG ds) d.depth;omega) q
 | _=>cases hi
theorem zaer {K:qB} (hK:X.K=K) (hu:X.A.units+64<cLine):OpR X (compareOp .NotIn) (rInS K true):=by
 subst hK
 intro pins s σ H x y v u Q I rx ry h
 obtain ⟨d,c,ds,hd,hc,hi,sd,sc,q⟩:=h
 obtain ⟨as,r1⟩:=zfj I d hd rx
 obtain ⟨bs,r2⟩:=zfj I c hc ry
 obtain ⟨l1,p1⟩:=shp sd
 obtain ⟨l2,p2⟩:=shp sc
 have q:EP X pins σ Q (.bool (!(ds.any fun e=>qAA e d))) s:=⟨.bl (!(ds.any fun e=>qAA e d)),H,I,rfl,q⟩
 cases c with
 | list es =>
  cases hi
  have p2:qAG ds+1≤64:=p2
  exact SeqAt.notIn_list_reads r2 r1 l2 l1 (by have:=qBD (qAG ds) d.depth;omega) q
 | tuple es =>
  cases hi
  have p2:qAG ds+1≤64:=p2
  exact SeqAt.notIn_tuple_reads r2 r1 l2 l1 (by have:=qBD (qAG ds) d.depth;omega) q
 | _=>cases hi
end
noncomputable def inS (neg:Bool):OF:=fun d c=>match zhz c with
 | some ds=>if qAK d=true∧qAK c=true then some (.bool (if neg then !(ds.any fun e=>qAA e d) else ds.any fun e=>qAA e d),false) else none
 | none=>none
theorem zaos {K:qB} {neg:Bool}:SO (rInS K neg) (inS neg):=by
 intro A H x y dx dy hA rx ry d fr e Q q
 unfold inS at e
 split at e
 ·rename_i ds hi
  split at e
  ·rename_i h
   cases e
   refine ⟨dx,dy,ds,zpl (qAV h.1) (Rp.same (Offs.same A H) _ rx),zpl (qAV h.2) (Rp.same (Offs.same A H) _ ry),hi,h.1,h.2,q _ H (Same.refl _) ?_ (fun z=>by cases z)⟩
   cases neg<;>exact zbu
  ·cases e
 ·cases e
end L2
namespace PySem
open Sem (wp)
open AutoSeq1 (wpAny_loadPart')
end PySem
namespace L2
open PySem PySem.Spec PyProof.Rows
noncomputable def isStar:Expr→Bool
 | .Starred ..=>true
 | _=>false
theorem zai {e:Expr} {es:List Expr} {env:Env} (h:isStar e=false):starEach (e::es) env=(false,eval e env)::starEach es env:=by
 cases e<;>first
  | rfl
  | cases h
theorem zahl {X:Cx} {e:Expr} {es:List Expr} {te:TE} {t:TA} (ha:PE X e te) (hr:PA X es t) (hs:isStar e=false:=by rfl):PA X (e::es) (tCons te t):=zake ha hr (zai hs)
end L2
namespace PySem.SeqAt
open AutoSeq1 (wpAny_loadPart')
open MeetsSeq PyProof.Rows
section
variable {A:Around} {s:Shared}
end
end PySem.SeqAt
namespace L2
open PySem PySem.Spec PyProof.Rows
section
variable {X:Cx}
end
theorem Rps.setAt {H:Hp} {ds:List PyData} {vs:List V} (h:Rps H ds vs) {d:PyData} {v:V} (hv:Rp H d v) (n:Nat):Rps H (ds.set n d) (vs.set n v):=by
 induction n generalizing ds vs with
 | zero =>
  cases ds with
  | nil=>unfold Rps at h;subst h;exact zen
  | cons e ds=>unfold Rps at h;obtain ⟨w,ws,rfl,h1,h2⟩:=h;exact zdq hv h2
 | succ n ih =>
  cases ds with
  | nil=>unfold Rps at h;subst h;exact zen
  | cons e ds=>unfold Rps at h;obtain ⟨w,ws,rfl,h1,h2⟩:=h;exact zdq h1 (ih h2)
noncomputable def zot (i:Nat) (fk fv:EF):SF:=fun env=>match env[i]? with
 | some (.ac (.list ds))=>(fv env).bind fun r=>(fk env).bind fun k=>match k.d with
  | .int z=>(ixN ds.length z).bind fun j=>if i∉r.bs then some (.nx ((frzs env r.bs).set i (.ac (.list (ds.set j r.d))))) else none
  | _=>none
 | _=>none
structure Bx (p:Prop):Prop where
 out:p
theorem Bx.pt {X:Cx} {e:Expr} {t:TT} (h:Bx (PW X e t)):Bx (PT X e t):=⟨h.out.pt⟩
theorem zan:∀ {X:L2.Cx} {i:Int} {j:Nat} {pos:qp},L2.Bx (L2.PE X (qM.Constant (PySem.Const.int i) j pos) (L2.tC (L2.V.int i))):=by
 intro X i j pos
 exact ⟨@zaml X i j pos⟩
theorem zak:∀ {X:L2.Cx},L2.Bx (L2.PA X [] L2.tNil):=by
 intro X
 exact ⟨@zand X⟩
theorem zaa:∀ {X:L2.Cx} {e:qM} {es:List qM} {te:L2.TE} {t:L2.TA},L2.Bx (L2.PE X e te)→L2.Bx (L2.PA X es t)→L2.isStar e=Bool.false→L2.Bx (L2.PA X (e::es) (L2.tCons te t)):=by
 intro X e es te t ha hr hs
 exact ⟨@zahl X e es te t ha.out hr.out hs⟩
theorem zbl:∀ {X:L2.Cx} {a b:qM} {ta tb:L2.TE} {pos:qp} {op:PySem.Operator} {r:L2.R2},L2.OpR X (PySem.binaryOp op) r→L2.Bx (L2.PE X a ta)→L2.Bx (L2.PE X b tb)→L2.Bx (L2.PE X (a.BinOp op b pos) (L2.tOp r ta tb)):=by
 intro X a b ta tb pos op r ho ha hb
 exact ⟨@zapj X a b ta tb pos op r ho ha.out hb.out⟩
theorem zao:∀ {X:L2.Cx} {st:PySem.Stmt} {t:L2.TS},L2.Bx (L2.PS X st t)→L2.Bx (L2.PSs X [st] t):=by
 intro X st t h1
 exact ⟨@zajv X st t h1.out⟩
theorem zag:∀ {X:L2.Cx} {st:PySem.Stmt} {rest:List PySem.Stmt} {t u:L2.TS},L2.Bx (L2.PS X st t)→L2.Bx (L2.PSs X rest u)→L2.Bx (L2.PSs X (st::rest) (L2.tSeq t u)):=by
 intro X st rest t u h1 h2
 exact ⟨@zafw X st rest t u h1.out h2.out⟩
theorem zbg:∀ {X:L2.Cx} {x:PySem.Str} {p pos:qp} {e:qM} {es:List qM} {t:L2.TA} {ps:List PySem.Str} {k:Nat} {sp:L2.Sp},L2.Dn X.prog X.w X.K X.mg X.base x ps k sp→L2.Room k X.A→L2.Gl X x→L2.Bx (L2.PA X (e::es) t)→(x==qAD "__debug__")=Bool.false→qAE (e::es) X.env=(Bool.false,PySem.eval e X.env)::qAE es X.env→((PySem.backTo pos (qAE es X.env)).any fun (x:Bool×PySem.Sem PySem.Value)=>x.fst)=Bool.false→L2.Bx (L2.PE X ((qM.Name x p).Call (e::es) [] pos) (L2.tCall sp [] L2.E0 t)):=by
 intro X x p pos e es t ps k sp D hr hg ha hdb he hpl
 exact ⟨@zapt X x p pos e es t ps k sp D hr hg ha.out hdb he hpl⟩
theorem zbn:∀ {X:L2.Cx} {e:qM} {te:L2.TE} {pos:qp},L2.Bx (L2.PE X e te)→L2.Bx (L2.PS X (PySem.Stmt.Return (Option.some e) pos) (L2.tRet te)):=by
 intro X e te pos he
 exact ⟨@zamt X e te pos he.out⟩
theorem zav:∀ {X:L2.Cx} {pos:qp} {i:Nat} {x:PySem.Str} {e:qM} {te:L2.TE} {pos':qp},X.N.Nodup→X.N[i]?=Option.some x→L2.Loc X.env.scope x→L2.Bx (L2.PE X e te)→PySem.swapsWith e (Option.some (qM.Name x pos')) pos.line X.env=Pure.pure Bool.false→X.fn x=Bool.true∨List.lookup x X.env.scope.names=Option.some PySem.NameKind.local→L2.Bx (L2.PS X (PySem.Stmt.Assign [qM.Name x pos'] e pos) (L2.tAsg te (L2.gName i))):=by
 intro X pos i x e te pos' hN hi hx he hs hf
 exact ⟨@zamw X pos i x e te pos' hN hi hx he.out hs hf⟩
theorem zby:∀ {X:L2.Cx} {x:PySem.Str} {p pos:qp} {e:qM} {es:List qM} {t:L2.TA} {id:String} {r:List L2.V→L2.Hp→L2.VK→Prop},L2.CallR X (PySem.Value.builtin id) r→L2.Gl X x→X.mg x=Option.none→PySem.bootBuiltins x=Option.some (PySem.Value.builtin id)→L2.Bx (L2.PA X (e::es) t)→x≠qAD "__name__" → (x==qAD "__debug__")=Bool.false→qAE (e::es) X.env=(Bool.false,PySem.eval e X.env)::qAE es X.env→((PySem.backTo pos (qAE es X.env)).any fun (x:Bool×PySem.Sem PySem.Value)=>x.fst)=Bool.false→L2.Bx (L2.PE X ((qM.Name x p).Call (e::es) [] pos) (L2.tCB r t)):=by
 intro X x p pos e es t id r hc hg hm hv ha hn hdb he hpl
 exact ⟨@zagd X x p pos e es t id r hc hg hm hv ha.out hn hdb he hpl⟩
theorem zqb:∀ {X:L2.Cx} {b:Bool} {j:Nat} {pos:qp},L2.Bx (L2.PE X (qM.Constant (PySem.Const.bool b) j pos) (L2.tC (L2.V.bl b))):=by
 intro X b j pos
 exact ⟨@zapg X b j pos⟩
theorem zci:∀ {X:L2.Cx} {a b:qM} {ta tb:L2.TE} {pos:qp} {r:L2.R2},L2.IxR X r→L2.Bx (L2.PE X a ta)→L2.Bx (L2.PE X b tb)→L2.PlainIx b→L2.Bx (L2.PE X (a.Subscript b pos) (L2.tOp r ta tb)):=by
 intro X a b ta tb pos r hr ha hb hs
 exact ⟨@zapo X a b ta tb pos r hr ha.out hb.out hs⟩
theorem zem:∀ {X:L2.Cx} {t u:L2.TS} {pos:qp} {c:qM} {a b:List PySem.Stmt} {tc:L2.TT},L2.Bx (L2.PT X c tc)→L2.Bx (L2.PSs X a t)→L2.Bx (L2.PSs X b u)→L2.Bx (L2.PS X (PySem.Stmt.If c a b pos) (L2.tIfS tc t u)):=by
 intro X t u pos c a b tc hc ha hb
 exact ⟨@zapi X t u pos c a b tc hc.out ha.out hb.out⟩
theorem zcd:∀ {X:L2.Cx},L2.Bx (L2.PSs X [] L2.tNext):=by
 intro X
 exact ⟨@zaju X⟩
theorem ztl:∀ {X:L2.Cx} {a:qM} {pos:qp} {tA:L2.TT},L2.Bx (L2.PT X a tA)→L2.Bx (L2.PT X (qM.UnaryOp PySem.UnaryOp.Not a pos) (L2.tNot tA)):=by
 intro X a pos tA ha
 exact ⟨@zamq X a pos tA ha.out⟩
theorem zfy:∀ {X:L2.Cx} {K:qB},
 X.K=K →
  ∀ {a:qM} {ta:L2.TE},
   L2.Bx (L2.PE X a ta) →
    (∀ (whole:PySem.Sem PySem.Value),
      PySem.isTrue a X.env whole=do
       let v ← whole
       PySem.standAt a.pos
       PySem.holding [v] (PySem.truthy v)) →
     L2.Bx (L2.PT X a fun (σ:L2.St) (H:L2.Hp) (Q:Bool→L2.Hp→Prop)=>ta σ H fun (x:L2.V) (H':L2.Hp)=>∃ (k:Bool),L2.TruV K x H' k∧Q k H'):=by
 intro X K hK a ta ha he
 exact ⟨@zaea X K hK a ta ha.out he⟩
theorem zau:∀ {X:L2.Cx} {pos:qp} {i:Nat} {x:PySem.Str},X.N.Nodup→X.N[i]?=Option.some x→L2.Loc X.env.scope x→X.fn x=Bool.true∨List.lookup x X.env.scope.names=Option.some PySem.NameKind.local→L2.Bx (L2.PG X (qM.Name x pos) (L2.gName i)):=by
 intro X pos i x hN hi hx hf
 exact ⟨@zajx X pos i x hN hi hx hf⟩
theorem zep:∀ {X:L2.Cx} {es:List qM} {t:L2.TA} {pos:qp},L2.Bx (L2.PA X es t)→L2.Bx (L2.PE X (qM.List es pos) (L2.tLst t)):=by
 intro X es t pos h
 exact ⟨@zanf X es t pos h.out⟩
theorem zcu:∀ {X:L2.Cx} {tg iter:qM} {body:List PySem.Stmt} {wi:L2.TI} {g:L2.TG} {tb:L2.TS} {pos:qp},PySem.PassesOwn (PySem.model X.prog X.w) X.A X.env X.xe→X.calm=Bool.true→L2.Bx (L2.PI X tg iter wi)→L2.Bx (L2.PG X tg g)→L2.Bx (L2.PSs X body tb)→(∀ (x:PySem.Value),PySem.foldedSetIterable iter X.env x=Pure.pure x)→L2.Bx (L2.PS X (PySem.Stmt.For tg iter body [] pos) (L2.tFor wi g tb)):=by
 intro X tg iter body wi g tb pos hp hc hi hg hb hs
 exact ⟨@zamx X tg iter body wi g tb pos hp hc hi.out hg.out hb.out hs⟩
theorem zcb:∀ {X:L2.Cx} {a b:qM} {ta tb:L2.TE} {pos:qp} {op:PySem.CmpOp} {r:L2.R2},L2.OpR X (PySem.compareOp op) r→L2.Bx (L2.PE X a ta)→L2.Bx (L2.PE X b tb)→PySem.behindInMarks op b=Bool.false→L2.Bx (L2.PT X (a.Compare [op] [b] pos) (L2.tTest (L2.tOp r ta tb))):=by
 intro X a b ta tb pos op r ho ha hb hm
 exact ⟨@zakb X a b ta tb pos op r ho ha.out hb.out hm⟩
theorem zcc:∀ {X:L2.Cx} {x:PySem.Str} {j:Nat} {pos:qp},L2.Bx (L2.PE X (qM.Constant (PySem.Const.str x) j pos) (L2.tC (L2.V.str x))):=by
 intro X x j pos
 exact ⟨@zamm X x j pos⟩
theorem zgq:∀ {X:L2.Cx} {e:qM} {te:L2.TE} {pos:qp},L2.Bx (L2.PE X e te)→PySem.swapsWith e Option.none pos.line X.env=Pure.pure Bool.false→L2.Bx (L2.PS X (PySem.Stmt.Expr e pos) (L2.tDrop te)):=by
 intro X e te pos he hs
 exact ⟨@zajw X e te pos he.out hs⟩
theorem zic:∀ {X:L2.Cx} {es:List qM} {t:L2.TA} {pos:qp} {x1:Nat},L2.Bx (L2.PA X es t)→L2.Bx (L2.PE X (qM.Tuple es x1 pos) (L2.tTup t)):=by
 intro X es t pos x1 h
 exact ⟨@zane X es t pos x1 h.out⟩
theorem zalj:∀ {X:L2.Cx} {a:qM} {pos:qp} {op:PySem.BoolOp} {t:L2.TE},L2.Bx (L2.PE X a t)→L2.Bx (L2.PE X (qM.BoolOp op [a] pos) t):=by
 intro X a pos op t h
 exact ⟨@zamr X a pos op t h.out⟩
theorem zahm:∀ {X:L2.Cx} {a b:qM} {ta tb:L2.TE} {pos:qp} {op:PySem.CmpOp} {r:L2.R2},L2.OpR X (PySem.compareOp op) r→L2.Bx (L2.PE X a ta)→L2.Bx (L2.PE X b tb)→PySem.behindInMarks op b=Bool.false→L2.Bx (L2.PE X (a.Compare [op] [b] pos) (L2.tOp r ta tb)):=by
 intro X a b ta tb pos op r ho ha hb hm
 exact ⟨@zaka X a b ta tb pos op r ho ha.out hb.out hm⟩
theorem zla:∀ {X:L2.Cx} {x:PySem.Str} {p pos:qp} {e:qM} {es:List qM} {t:L2.TA} {T:String} {r:List L2.V→L2.Hp→L2.VK→Prop},L2.CallR X (PySem.Value.type T) r→L2.Gl X x→X.mg x=Option.none→PySem.bootBuiltins x=Option.some (PySem.Value.type T)→L2.Bx (L2.PA X (e::es) t)→x≠qAD "__name__" → (x==qAD "__debug__")=Bool.false→qAE (e::es) X.env=(Bool.false,PySem.eval e X.env)::qAE es X.env→((PySem.backTo pos (qAE es X.env)).any fun (x:Bool×PySem.Sem PySem.Value)=>x.fst)=Bool.false→L2.Bx (L2.PE X ((qM.Name x p).Call (e::es) [] pos) (L2.tCB r t)):=by
 intro X x p pos e es t T r hc hg hm hv ha hn hdb he hpl
 exact ⟨@zacq X x p pos e es t T r hc hg hm hv ha.out hn hdb he hpl⟩
theorem ztm:∀ {X:L2.Cx} {x:PySem.Str} {v:L2.V} {u:PySem.Value} {pos:qp},L2.Gl X x→X.mg x=Option.none→PySem.bootBuiltins x=Option.some u→L2.RelV v u→x≠qAD "__name__" → (x==qAD "__debug__")=Bool.false→L2.Bx (L2.PE X (qM.Name x pos) (L2.tC v)):=by
 intro X x v u pos hg hm hv r hn hd
 exact ⟨@zajs X x v u pos hg hm hv r hn hd⟩
theorem zyd:∀ {X:L2.Cx} {a:qM} {pos:qp} {tA:L2.TT},L2.Bx (L2.PT X a tA)→L2.Bx (L2.PW X (qM.BoolOp PySem.BoolOp.Or [a] pos) tA):=by
 intro X a pos tA ha
 exact ⟨@zamo X a pos tA ha.out⟩
theorem zaes:∀ {X:L2.Cx} {a b:qM} {pos:qp} {tA tB':L2.TT} {rest:List qM},L2.Bx (L2.PT X a tA)→L2.Bx (L2.PW X (qM.BoolOp PySem.BoolOp.Or (b::rest) pos) tB')→L2.Bx (L2.PW X (qM.BoolOp PySem.BoolOp.Or (a::b::rest) pos) (L2.tOr tA tB')):=by
 intro X a b pos tA tB' rest ha hb
 exact ⟨@zaph X a b pos tA tB' rest ha.out hb.out⟩
theorem zzs:∀ {X:L2.Cx} {e:qM} {te:L2.TE},L2.Bx (L2.PE X e te)→L2.Bx (L2.PO X (Option.some e) (L2.tPart te)):=by
 intro X e te h
 exact ⟨@zakh X e te h.out⟩
theorem zzt:∀ {X:L2.Cx},L2.Bx (L2.PO X Option.none L2.tNoPart):=by
 intro X
 exact ⟨@zakg X⟩
theorem zvt:∀ {X:L2.Cx} {e:qM} {te:L2.TE} {lo hi:Option qM} {tl th:L2.TO} {pos p2:qp} {r:L2.V→Option Int→Option Int→L2.Hp→L2.VK→Prop},L2.SlR X r→L2.Bx (L2.PE X e te)→L2.Bx (L2.PO X lo tl)→L2.Bx (L2.PO X hi th)→L2.Bx (L2.PE X (e.Subscript (qM.Slice lo hi Option.none p2) pos) (L2.tSl r te tl th)):=by
 intro X e te lo hi tl th pos p2 r hr he hl hu
 exact ⟨@zage X e te lo hi tl th pos p2 r hr he.out hl.out hu.out⟩
theorem zdz:∀ {X:L2.Cx} {scope:PySem.Scope} {N' own:List PySem.Str} {fr:List Nat} {elt target iter:qM} {ifs:List qM} {cpos:qp} {wi:L2.TI} {g:L2.TG} {tt:L2.TT} {te:L2.TE},L2.CompOk X scope N' own fr→X.calm=Bool.true→L2.Bx (L2.PI X target iter wi)→(∀ (cl:List (PySem.Str×PySem.Addr)) (C:PySem.Addr) (s:PySem.Shared) (H:L2.Hp) (fp:List PySem.Addr),L2.PG (L2.cxComp X scope N' own cl C s H fp) target g∧L2.PF (L2.cxComp X scope N' own cl C s H fp) ifs tt∧L2.PE (L2.cxComp X scope N' own cl C s H fp) elt te)→(∀ (x:PySem.Value),PySem.foldedSetIterable iter X.env x=Pure.pure x)→L2.Bx (L2.PE X (elt.ListComp [{target:=target,iter:=iter,ifs:=ifs,is_async:=0}] scope cpos) (L2.tComp1 wi g tt te own fr)):=by
 intro X scope N' own fr elt target iter ifs cpos wi g tt te c hc hi hb hs
 exact ⟨@zagp X scope N' own fr elt target iter ifs cpos wi g tt te c hc hi.out hb hs⟩
theorem zkg:∀ {X:L2.Cx} {K:qB},X.K=K→∀ {T:String} {name:PySem.Str} {id:String} {r:L2.V→List L2.V→L2.Hp→L2.VK→Prop} {o e:qM} {es:List qM} {to:L2.TE} {t:L2.TA} {apos cpos:qp},PySem.PlainAttrs T→PySem.Slot T name id→PySem.typeOf (PySem.Value.builtin id)=Pure.pure (PySem.Value.type "method_descriptor")→L2.MtR X id r→L2.Bx (L2.PE X o to)→L2.Bx (L2.PA X (e::es) t)→PySem.attributeBase o name X.env (PySem.eval o X.env)=PySem.eval o X.env→((((PySem.backTo cpos (qAE (e::es) X.env)).all fun (x:Bool×PySem.Sem PySem.Value)=>!x.fst)&&(PySem.backToKw cpos (PySem.keywordEach [] X.env)).all fun (x:Option PySem.Str×PySem.Sem PySem.Value)=>x.fst.isSome)&&Decidable.decide (((e::es).length+([]:List Keyword).length+if ([]:List Keyword).isEmpty=Bool.true then 0 else 1)<30))=Bool.true→(apos.endLine==cpos.line)=Bool.true→qAE (e::es) X.env=(Bool.false,PySem.eval e X.env)::qAE es X.env→((PySem.backTo cpos (qAE es X.env)).any fun (x:Bool×PySem.Sem PySem.Value)=>x.fst)=Bool.false→L2.Bx (L2.PE X ((o.Attribute name apos).Call (e::es) [] cpos) (L2.tBM K T r to t)):=by
 intro X K hK T name id r o e es to t apos cpos pa slot hty hm ho ha hbase hfew hline hs hplain
 exact ⟨@zanx X K hK T name id r o e es to t apos cpos pa slot hty hm ho.out ha.out hbase hfew hline hs hplain⟩
theorem zalk:∀ {X:L2.Cx} {a b:qM} {ta tb:L2.TE} {pos:qp} {rest:List qM},L2.Bx (L2.PE X a ta)→L2.Bx (L2.PE X (qM.BoolOp PySem.BoolOp.And (b::rest) pos) tb)→L2.Bx (L2.PE X (qM.BoolOp PySem.BoolOp.And (a::b::rest) pos) (L2.tAndV ta tb)):=by
 intro X a b ta tb pos rest ha hb
 exact ⟨@zams X a b ta tb pos rest ha.out hb.out⟩
theorem zahn:∀ {X:L2.Cx} {pos:qp},L2.Bx (L2.PPs X pos [] [] []):=by
 intro X pos
 exact ⟨@zakq X pos⟩
theorem zaet:∀ {X:L2.Cx} {pos:qp} {k v:qM} {ks:List (Option qM)} {vs:List qM} {tk tv:L2.TE} {trs:List (L2.TE×L2.TE)},L2.Bx (L2.PE X k tk)→L2.Bx (L2.PE X v tv)→L2.Bx (L2.PPs X pos ks vs trs)→L2.Bx (L2.PPs X pos (Option.some k::ks) (v::vs) ((tk,tv)::trs)):=by
 intro X pos k v ks vs tk tv trs hk hv hr
 exact ⟨@zagl X pos k v ks vs tk tv trs hk.out hv.out hr.out⟩
theorem zcj:∀ {X:L2.Cx} {K:qB},X.K=K→∀ {tg l:qM} {tl:L2.TE},L2.Bx (L2.PE X l tl)→L2.Bx (L2.PI X tg l (L2.iSeq K tl)):=by
 intro X K hK tg l tl hl
 exact ⟨@zale X K hK tg l tl hl.out⟩
theorem zcv:∀ {X:L2.Cx} {tg a:qM} {ta:L2.TA} {p pos:qp},L2.Gl X (qAD "range")→X.mg (qAD "range")=Option.none→L2.Bx (L2.PA X [a] ta)→qAE [a] X.env=[(Bool.false,PySem.eval a X.env)]→L2.Bx (L2.PI X tg ((qM.Name (qAD "range") p).Call [a] [] pos) (L2.iRng1 ta)):=by
 intro X tg a ta p pos hg hm ha hs
 exact ⟨@zacg X tg a ta p pos hg hm ha.out hs⟩
theorem zit:∀ {X:L2.Cx},L2.Bx (L2.PF X [] L2.tAll):=by
 intro X
 exact ⟨@zanq X⟩
theorem zml:∀ {X:L2.Cx} {pos:qp},L2.Bx (L2.PE X (qM.Dict [] [] pos) L2.tDNewK):=by
 intro X pos
 exact ⟨@zagk X pos⟩
theorem zaho:∀ {X:L2.Cx} {pos:qp} {keys:List (Option qM)} {values:List qM} {trs:List (L2.TE×L2.TE)},L2.Bx (L2.PPs X pos keys values trs)→(keys.all fun (x:Option qM)=>x.isSome)=Bool.true→keys.length=values.length→keys≠[]→keys.length≤15→L2.Bx (L2.PE X (qM.Dict keys values pos) (L2.tDisp trs)):=by
 intro X pos keys values trs h hall hl h0 h15
 exact ⟨@zakr X pos keys values trs h.out hall hl h0 h15⟩
theorem zye:∀ {X:L2.Cx} {c:qM} {t:L2.TT},L2.Bx (L2.PT X c t)→L2.Bx (L2.PF X [c] t):=by
 intro X c t h
 exact ⟨@zanr X c t h.out⟩
theorem zgr:∀ {X:L2.Cx} {o i:qM} {pos:qp} {td ty:L2.TE},X.A.units+1<PySem.cLine→L2.Bx (L2.PE X o td)→L2.Bx (L2.PE X i ty)→L2.NoSl i→L2.Bx (L2.PE X (o.Subscript i pos) (L2.tDGet td ty)):=by
 intro X o i pos td ty hu ho hi hs
 exact ⟨@zako X o i pos td ty hu ho.out hi.out hs⟩
theorem zzu:∀ {X:L2.Cx} {a:qM} {pos:qp} {tA:L2.TT},L2.Bx (L2.PT X a tA)→L2.Bx (L2.PW X (qM.BoolOp PySem.BoolOp.And [a] pos) tA):=by
 intro X a pos tA ha
 exact ⟨@zajt X a pos tA ha.out⟩
theorem zaeu:∀ {X:L2.Cx} {a b:qM} {pos:qp} {tA tB':L2.TT} {rest:List qM},L2.Bx (L2.PT X a tA)→L2.Bx (L2.PW X (qM.BoolOp PySem.BoolOp.And (b::rest) pos) tB')→L2.Bx (L2.PW X (qM.BoolOp PySem.BoolOp.And (a::b::rest) pos) (L2.tAnd tA tB')):=by
 intro X a b pos tA tB' rest ha hb
 exact ⟨@zamp X a b pos tA tB' rest ha.out hb.out⟩
theorem zvu:∀ {X:L2.Cx} {st:PySem.Stmt},L2.Bx (L2.PS X st L2.tNever):=by
 intro X st
 exact ⟨@zafx X st⟩
theorem ztn:∀ {X:L2.Cx} {o i value:qM} {pos pos':qp} {td ty tv:L2.TE},X.A.units+1<PySem.cLine→L2.Bx (L2.PE X o td)→L2.Bx (L2.PE X i ty)→L2.Bx (L2.PE X value tv)→PySem.swapsWith value (Option.some (o.Subscript i pos')) pos.line X.env=Pure.pure Bool.false→L2.Bx (L2.PS X (PySem.Stmt.Assign [o.Subscript i pos'] value pos) (L2.sDPut td ty tv)):=by
 intro X o i value pos pos' td ty tv hu ho hi hv hs
 exact ⟨@zakp X o i value pos pos' td ty tv hu ho.out hi.out hv.out hs⟩
theorem zall:∀ {X:L2.Cx} {pos:qp} {tg e:qM} {te:L2.TE} {g:L2.TG},L2.Bx (L2.PE X e te)→L2.Bx (L2.PG X tg g)→PySem.swapsWithSole [tg] e pos.line X.env=Pure.pure Bool.false→PySem.swappedStores [tg] e X.env=Pure.pure Option.none→List.map (fun (x:Bool×(PySem.Value→PySem.Sem Unit))=>x.snd) (PySem.assignEach [tg] X.env)=[PySem.assign tg X.env]→L2.Bx (L2.PS X (PySem.Stmt.Assign [tg] e pos) (L2.tAsg te g)):=by
 intro X pos tg e te g he hg hs hw h1
 exact ⟨@zaip X pos tg e te g he.out hg.out hs hw h1⟩
theorem zaev:∀ {X:L2.Cx} {K:qB},X.K=K→∀ {a b:qM} {ta:L2.TA} {p pos:qp} {elts:List qM} {x1:Nat} {tpos:qp},L2.Gl X (qAD "zip")→X.mg (qAD "zip")=Option.none→L2.Bx (L2.PA X [a,b] ta)→qAE [a,b] X.env=(Bool.false,PySem.eval a X.env)::qAE [b] X.env→((PySem.backTo pos (qAE [b] X.env)).any fun (x:Bool×PySem.Sem PySem.Value)=>x.fst)=Bool.false→L2.Bx (L2.PI X (qM.Tuple elts x1 tpos) ((qM.Name (qAD "zip") p).Call [a,b] [] pos) (L2.iZip K ta)):=by
 intro X K hK a b ta p pos elts x1 tpos hg hm ha hs hs2
 exact ⟨@zaor X K hK a b ta p pos elts x1 tpos hg hm ha.out hs hs2⟩
theorem zfp:∀ {X:L2.Cx},L2.Bx (L2.PGs X [] L2.gNil):=by
 intro X
 exact ⟨@zajy X⟩
theorem zbm:∀ {X:L2.Cx} {e:qM} {es:List qM} {t:L2.TG} {u:L2.TGs},L2.Bx (L2.PG X e t)→L2.Bx (L2.PGs X es u)→List.map (fun (x:Bool×(PySem.Value→PySem.Sem Unit))=>x.snd) (PySem.assignEach (e::es) X.env)=PySem.assign e X.env::List.map (fun (x:Bool×(PySem.Value→PySem.Sem Unit))=>x.snd) (PySem.assignEach es X.env)→L2.Bx (L2.PGs X (e::es) (L2.gCons t u)):=by
 intro X e es t u h1 h2 hs
 exact ⟨@zafy X e es t u h1.out h2.out hs⟩
theorem zfq:∀ {X:L2.Cx} {K:qB},X.K=K→∀ {es:List qM} {k:Nat} {t:L2.TGs} {n:Nat} {pos:qp},X.calm=Bool.true→L2.Bx (L2.PGs X es t)→(PySem.assignEach es X.env).length=n→List.findIdx? (fun (x:Bool×(PySem.Value→PySem.Sem Unit))=>x.fst) (PySem.assignEach es X.env)=Option.none→L2.Bx (L2.PG X (qM.Tuple es k pos) (L2.gTup K n t)):=by
 intro X K hK es k t n pos hc h hn hst
 exact ⟨@zaku X K hK es k t n pos hc h.out hn hst⟩
theorem zaew:∀ {X:L2.Cx} {scope:PySem.Scope} {N' own:List PySem.Str} {fr:List Nat} {elt target iter target2 iter2:qM} {ifs ifs2:List qM} {cpos:qp} {wi wi2:L2.TI} {g g2:L2.TG} {tt tt2:L2.TT} {te:L2.TE},L2.CompOk X scope N' own fr→X.calm=Bool.true→L2.Bx (L2.PI X target iter wi)→(∀ (cl:List (PySem.Str×PySem.Addr)) (C:PySem.Addr) (s:PySem.Shared) (H:L2.Hp) (fp:List PySem.Addr),L2.PG (L2.cxComp X scope N' own cl C s H fp) target g∧L2.PF (L2.cxComp X scope N' own cl C s H fp) ifs tt∧L2.PI (L2.cxComp X scope N' own cl C s H fp) target2 iter2 wi2∧L2.PG (L2.cxComp X scope N' own cl C s H fp) target2 g2∧L2.PF (L2.cxComp X scope N' own cl C s H fp) ifs2 tt2∧L2.PE (L2.cxComp X scope N' own cl C s H fp) elt te)→(∀ (x:PySem.Value),PySem.foldedSetIterable iter X.env x=Pure.pure x)→(∀ (env:PySem.Env) (x:PySem.Value),PySem.foldedSetIterable iter2 env x=Pure.pure x)→L2.Bx (L2.PE X (elt.ListComp [{target:=target,iter:=iter,ifs:=ifs,is_async:=0},{target:=target2,iter:=iter2,ifs:=ifs2,is_async:=0}] scope cpos) (L2.tComp2 wi g tt wi2 g2 tt2 te own fr)):=by
 intro X scope N' own fr elt target iter target2 iter2 ifs ifs2 cpos wi wi2 g g2 tt tt2 te c hc hi hb hs hs2
 exact ⟨@zahc X scope N' own fr elt target iter target2 iter2 ifs ifs2 cpos wi wi2 g g2 tt tt2 te c hc hi.out hb hs hs2⟩
theorem zaex:∀ {X:L2.Cx} {o i:qM} {td ty:L2.TE},X.A.units+1<PySem.cLine→L2.Bx (L2.PE X i ty)→L2.Bx (L2.PE X o td)→L2.Bx (L2.PC X PySem.CmpOp.In i o (L2.tDIn ty td)):=by
 intro X o i td ty hu hi ho
 exact ⟨@zanp X o i td ty hu hi.out ho.out⟩
theorem zaey:∀ {X:L2.Cx} {a b:qM} {pos:qp} {op:PySem.CmpOp} {t:L2.TE},L2.Bx (L2.PC X op a b t)→PySem.behindInMarks op b=Bool.false→L2.Bx (L2.PE X (a.Compare [op] [b] pos) t):=by
 intro X a b pos op t h h1
 exact ⟨@zamn X a b pos op t h.out h1⟩
theorem bv {X:Cx} (i:Nat) {x:Str} {pos:Pos} (hN:X.N[i]?=some x:=by rfl) (hv:visB X.env.scope x=true:=by rfl) (hd:(x==("__debug__":Str))=false:=by decide)
  (hcd:(x==("__classdict__":Str))=false:=by decide):Bx (PE X (.Name x pos) (tVar i)):=⟨zamk hN (visB.of hv) hd hcd⟩
theorem zto {X:Cx} {i:Nat} {o k e:Expr} {tk tv:TE} {pos pos':Pos} (ho:Bx (PE X o (tVar i))) (hk:Bx (PE X k tk)) (hv:Bx (PE X e tv))
  (ha:∀ v,assign (.Subscript o k pos') X.env v=(do
   let ov ← holding [v] (eval o X.env)
   let iv ← holding [v,ov] (eval k X.env)
   standAt pos'
   holding [v,ov,iv] (setItem ov iv v)
   release [v,ov,iv] []))
  (hs:swapsWithSole [.Subscript o k pos'] e pos.line X.env=pure false) (hw:swappedStores [.Subscript o k pos'] e X.env=pure none) (h1:(assignEach [.Subscript o k pos'] X.env).map (·.2)=[assign (.Subscript o k pos') X.env]) :
  Bx (PS X (.Assign [.Subscript o k pos'] e pos) (tAsg tv (gSub (tVar i) tk zakk))):=⟨zaip hv.out (zamv ho.out hk.out zagf ha) hs hw h1⟩
noncomputable def SatK (fx:Addr→Prop) (H0:Hp) (J:Nat→Prop) (σ0:St) (D:Ends):Out→Prop
 | .nx env=>∀ σ H,EnvOk fx H0 env σ H→(∀ j,J j→σ[j]?=σ0[j]?)→D.nx σ H
 | .bk env=>∀ σ H,EnvOk fx H0 env σ H→(∀ j,J j→σ[j]?=σ0[j]?)→D.bk σ H
 | .ct env=>∀ σ H,EnvOk fx H0 env σ H→(∀ j,J j→σ[j]?=σ0[j]?)→D.ct σ H
 | .rt d fr=>∀ v H,Same H0 H→zxx fx H0 d fr v H→D.rt v H
noncomputable def SSk (J:Nat→Prop) (ts:TS) (F:SF):Prop:=∀ (fx:Addr→Prop) (H0:Hp) (env:DEnv) (σ:St) (H:Hp) (D:Ends),EnvOk fx H0 env σ H→∀ o,F env=some o→SatK fx H0 J σ D o→ts D σ H
section
variable {J:Nat→Prop}
theorem zcl {te:TE} {f:EF} {i:Nat} (h1:SE te f) (hJ:¬ J i):SSk J (tAsg te (gName i)) (sSet i f):=by
 intro fx H0 env σ H D h o e q
 unfold sSet at e
 obtain ⟨r,er,rfl⟩:=qH.mp e
 exact h1 fx H0 env σ H h r er _ fun v H' s hv=>q _ H' (h.put s hv i) fun j hj=>qS fun z=>hJ (by rw [z];exact hj)
theorem ztp {i:Nat} {tk tv:TE} {fk fv:EF} (h1:SE tk fk) (h2:SE tv fv):SSk J (tAsg tv (gSub (tVar i) tk zakk)) (zot i fk fv):=by
 intro fx H0 env σ H D h o e q
 unfold zot at e
 split at e
 ·rename_i ds ei
  obtain ⟨r,er,e⟩:=qA.mp e
  obtain ⟨⟨kd,kfr,kbs⟩,ek,e⟩:=qA.mp e
  cases kd with
  | int z =>
   have e:((ixN ds.length z).bind fun j=>if i∉r.bs then some (Out.nx ((frzs env r.bs).set i (.ac (.list (ds.set j r.d))))) else none)=some o:=e
   obtain ⟨j,ej,e⟩:=qA.mp e
   split at e
   ·rename_i hl
    cases e
    obtain ⟨a,g1,g2,g3,g4⟩:=h.ac i _ ei
    obtain ⟨xs,hx,rx⟩:=g4
    refine h2 fx H0 env σ H h r er _ fun v H' s hv=>⟨_,g1,h1 fx H0 env σ H' (h.up s) _ ek _ fun u H2 s2 hk=>?_⟩
    cases zdp hk.rp
    have t2:=s.trans s2
    have h':=(h.up t2).frzs r.bs
    have ei':=zgo hl ei
    have hx':=t2 _ _ hx
    have rx':Rps (Offs (fun b=>fx b∨own (frzs env r.bs) σ b) H2) ds xs:=by
     obtain ⟨a',z1,_,_,z4⟩:=h'.ac i _ ei'
     rw [g1] at z1
     cases z1
     obtain ⟨ys,y1,y2⟩:=z4
     rw [hx'] at y1
     cases y1
     exact y2
    refine ⟨a,xs,z,j,rfl,rfl,hx',by rw [← rx.length];exact ej,?_⟩
    exact q σ _ (h'.mut ei' g1 ⟨_,zbe,rx'.setAt (Rp.same (Offs.sub zcx) _ (hv.later (Same.refl _) s2 fun _ z=>z).rp) j⟩) fun _ _=>rfl
   ·cases e
  | _=>cases e
 ·cases e
noncomputable def SGk (J:Nat→Prop) (g:TG) (f:GT):Prop:=∀ (fx:Addr→Prop) (H0:Hp) (env:DEnv) (σ:St) (H:Hp) (d:PyData) (v:V),EnvOk fx H0 env σ H→Rp (Offs (fun a=>fx a∨own env σ a) H) d v→∀ env',f d env=some env'→∀ Q:St→Hp→Prop,
 (∀ σ',EnvOk fx H0 env' σ' H→(∀ j,J j→σ'[j]?=σ[j]?)→Q σ' H)→g v σ H Q
theorem zdu {i:Nat} (hJ:¬ J i):SGk J (gName i) (gN i):=by
 intro fx H0 env σ H d v h r env' e Q q
 cases e
 exact q _ (h.setPl i r) fun j hj=>qS fun z=>hJ (by rw [z];exact hj)
end
noncomputable def zsa (n:Nat) (d:PyData) (ds:List PyData):DEnv:=.ac d::zjp (n - 1) ds
theorem zabf {fx:Addr→Prop} {H:Hp} {N:List Str} {a:Addr} {d:PyData} {ds:List PyData} {vs:List V} (hN:0<N.length) (hf:∀ b,fx b→∃ o,H b=some o) (na:¬ fx a)
  (ac:zeo (Offs (fun b=>fx b∨b=a) H) H a d) (r:Rps (Offs (fun b=>fx b∨b=a) H) ds vs):EnvOk fx (Offs (fun b=>b=a) H) (zsa N.length d ds) (zhv N (.ref a::vs)) H:=by
 have no:∀ (i:Nat) (e:PyData),(zsa N.length d ds)[i]?=some (Sl.ac e)→i=0∧e=d:=fun i e h=>by
  cases i with
  | zero=>cases h;exact ⟨rfl,rfl⟩
  | succ i =>
   have h:(zjp (N.length - 1) ds)[i]?=some (Sl.ac e):=h
   rcases zmh h with ⟨d',_,z⟩|z<;>cases z
 have s0:(zhv N (.ref a::vs))[0]?=some (some (.ref a)):=by unfold zhv;rfl
 have ow:∀ b,own (zsa N.length d ds) (zhv N (.ref a::vs)) b→b=a:=by
  rintro b ⟨i,e,h1,h2⟩
  obtain ⟨rfl,_⟩:=no i e h1
  rw [s0] at h2
  cases h2
  rfl
 have so:Same (Offs (fun b=>fx b∨b=a) H) (Offs (fun b=>fx b∨own (zsa N.length d ds) (zhv N (.ref a::vs)) b) H):=Offs.sub fun b z=>z.imp id (ow b)
 refine ⟨?_,fun i e h=>?_,fun i e h=>?_,fun i j e e' b h1 h2 _ _=>?_,Offs.same _ _,hf⟩
 ·unfold zsa zjp zhv
  rw [qa,qJ,qJ,qE,qE,qAr,qAr,r.length,qa]
  omega
 ·cases i with
  | zero=>cases h
  | succ i =>
   have h:(zjp (N.length - 1) ds)[i]?=some (Sl.pl e):=h
   rcases zmh h with ⟨d',hd,z⟩|z
   ·cases z
    obtain ⟨v,hv,rv⟩:=r.get2 hd
    refine ⟨v,?_,Rp.same so _ rv⟩
    unfold zhv
    have hi:i<vs.length:=(qR.mp hv).1
    rw [qm (by simpa using hi),qY,qAm,hv];rfl
   ·cases z
 ·obtain ⟨rfl,rfl⟩:=no i e h
  exact ⟨a,s0,Offs.out rfl,na,ac.same so fun o z=>z⟩
 ·rw [(no i e h1).1,(no j e' h2).1]
section
variable {X:Cx}
end
end L2
namespace HT
open PySem PySem.Spec PyProof.Rows L2
section
variable {prog:Program} {w:World} {A:Around} {E:Value→Shared→Prop} {s:Shared}
end
end HT
namespace L2
open PySem PySem.Spec PyProof.Rows
structure MvF (f:Nat) (env env':DEnv) (σ:St) (H H':Hp):Prop where
 rest:∀ (j:Nat) (d:PyData),j≠f→env'[j]?=some (.ac d)→env[j]?=some (.ac d)
 at0:∃ d,env[f]?=some (.ac d)
 at1:∃ d,env'[f]?=some (.ac d)
 keep:∀ b o,σ[f]?≠some (some (.ref b))→H b=some o→H' b=some o
 live:∀ b o,H b=some o→∃ o',H' b=some o'
theorem MvF.same {f:Nat} {env:DEnv} {σ:St} {H H':Hp} (h:∃ d,env[f]?=some (.ac d)) (s:Same H H'):MvF f env env σ H H':=⟨fun _ _ _ e=>e,h,h,fun b o _ e=>s b o e,fun b o e=>⟨o,s b o e⟩⟩
theorem MvF.trans {f:Nat} {env e1 e2:DEnv} {σ:St} {H H1 H2:Hp} (a:MvF f env e1 σ H H1) (b:MvF f e1 e2 σ H1 H2):MvF f env e2 σ H H2 :=
 ⟨fun j d hj e=>a.rest j d hj (b.rest j d hj e),a.at0,b.at1,fun x o n e=>b.keep x o n (a.keep x o n e),fun x o e=>let ⟨o',e'⟩:=a.live x o e;b.live x o' e'⟩
theorem MvF.lim {f:Nat} {env env':DEnv} {σ:St} {H H':Hp} (m:MvF f env env' σ H H') {fx:Addr→Prop} {bs:List Nat}:∀ b,L2.lim fx env' σ bs b→L2.lim fx env σ bs b:=by
 rintro b (z|⟨i,d,h1,h2,h3⟩)
 ·exact .inl z
 ·by_cases hi:i=f
  ·obtain ⟨d0,e0⟩:=m.at0
   exact .inr ⟨i,d0,h1,by rw [hi];exact e0,h3⟩
  ·exact .inr ⟨i,d,h1,m.rest i d hi h2,h3⟩
theorem MvF.free {f:Nat} {env env':DEnv} {σ:St} {H H':Hp} (m:MvF f env env' σ H H') {b:Addr} (h:H' b=none):H b=none:=by
 cases e:H b with
 | none=>rfl
 | some o=>obtain ⟨o',e'⟩:=m.live b o e;rw [h] at e';cases e'
theorem MvF.val {f:Nat} {env env':DEnv} {σ:St} {H0 H H':Hp} (m:MvF f env env' σ H H') {fx:Addr→Prop} {r:Val} {v:V} (hf:f∉r.bs) (h:ValOk (L2.lim fx env σ r.bs) H0 H r v) (hs:∀ a,H0 a=none→σ[f]?≠some (some (.ref a))) :
  ValOk (L2.lim fx env' σ r.bs) H0 H' r v:=by
 obtain ⟨d0,e0⟩:=m.at0
 have so:∀ (C:Addr→Prop),Same (Offs (fun b=>L2.lim fx env σ r.bs b∨C b) H) (Offs (fun b=>L2.lim fx env' σ r.bs b∨C b) H'):=fun C b o e=>by
  obtain ⟨n,e⟩:=Offs.of e
  rw [Offs.get fun z=>n (z.imp (m.lim b) id)]
  exact m.keep b o (fun z=>n (.inl (.inr ⟨f,d0,hf,e0,z⟩))) e
 refine ⟨Rp.same (fun b o e=>?_) _ h.rp,fun z=>?_⟩
 ·have:=so (fun _=>False) b o (by rw [← e];congr 1;funext x;simp)
  rw [← this];congr 1;funext x;simp
 ·obtain ⟨a,h1,h2,h3⟩:=h.fr z
  exact ⟨a,h1,h2,h3.same (so fun b=>b=a) fun o e=>m.keep a o (hs a h2) e⟩
noncomputable abbrev EFf:=DEnv→Option (Val×DEnv)
noncomputable def zaot (fx:Addr→Prop) (H0:Hp) (env:DEnv) (σ:St) (H:Hp) (r:Val) (v:V):Prop:=r.fr=true→∃ a,v=.ref a∧EnvOk (fun b=>fx b∨b=a) H0 env σ H
theorem EnvOk.new {fx:Addr→Prop} {H0:Hp} {env:DEnv} {σ:St} {H H':Hp} (h:EnvOk fx H0 env σ H) (s:Same H H') {a:Addr} (ha:H a=none) (hx:∃ o,H' a=some o):EnvOk (fun b=>fx b∨b=a) H0 env σ H' :=
 h.grow s (fun b o eo n z=>z.elim n fun y=>by rw [y,ha] at eo;cases eo) fun b z=>by
  rcases z with z|z
  ·obtain ⟨o,eo⟩:=h.fxs b z;exact ⟨o,s b o eo⟩
  ·rw [z];exact hx
noncomputable def SEf (f:Nat) (te:TE) (g:EFf):Prop:=∀ (fx:Addr→Prop) (H0:Hp) (env:DEnv) (σ:St) (H:Hp),EnvOk fx H0 env σ H→∀ r env',g env=some (r,env')→∀ Q:VK,
 (∀ v H',MvF f env env' σ H H'→EnvOk fx H0 env' σ H'→f∉r.bs→ValOk (lim fx env' σ r.bs) H H' r v→zaot fx H0 env' σ H' r v→Q v H')→te σ H Q
noncomputable def zal (f:Nat) (g:EF):EFf:=fun env=>match env[f]? with
 | some (.ac _)=>(g env).bind fun r=>if f∉r.bs then some (r,env) else none
 | _=>none
theorem zar {f:Nat} {te:TE} {g:EF} (h:SE te g):SEf f te (zal f g):=by
 intro fx H0 env σ H hE r env' e Q q
 unfold zal at e
 split at e
 ·rename_i d0 e0
  obtain ⟨r',er,e⟩:=qA.mp e
  split at e
  ·rename_i hf
   cases e
   exact h fx H0 env σ H hE r er Q fun v H' s hv=>q v H' (MvF.same ⟨_,e0⟩ s) (hE.up s) hf hv fun z=>let ⟨a,h1,h2,h3⟩:=hv.fr z;⟨a,h1,hE.new s h2 h3.ex⟩
  ·cases e
 ·cases e
theorem EnvOk.notNew {fx:Addr→Prop} {H0:Hp} {env:DEnv} {σ:St} {H:Hp} (h:EnvOk fx H0 env σ H) {f:Nat} (e:∃ d,env[f]?=some (.ac d)):∀ a,H a=none→σ[f]?≠some (some (.ref a)):=fun a ha z=>by
 obtain ⟨d,e⟩:=e
 obtain ⟨b,g1,_,_,g4⟩:=h.ac f d e
 rw [z] at g1
 cases g1
 obtain ⟨o,eo⟩:=g4.ex
 rw [ha] at eo;cases eo
noncomputable def fOp (w:OF) (a b:EFf):EFf:=fun env=>(a env).bind fun x=>(b x.2).bind fun y=>(w x.1.d y.1.d).bind fun z=>some (⟨z.1,z.2,bsOf z.1 (x.1.bs++y.1.bs)⟩,y.2)
theorem ztq {d:PyData} {bs:List Nat} {i:Nat} (h:i∉bs):i∉bsOf d bs:=by unfold bsOf;split<;>simp [h]
theorem zez {f:Nat} {r:R2} {w:OF} {ta tb:TE} {fa fb:EFf} (ho:SO r w) (ha:SEf f ta fa) (hb:SEf f tb fb):SEf f (tOp r ta tb) (fOp w fa fb):=by
 intro fx H0 env σ H h rr env' hr Q q
 unfold fOp at hr
 obtain ⟨⟨x,e1⟩,ex,hr⟩:=qA.mp hr
 obtain ⟨⟨y,e2⟩,ey,hr⟩:=qA.mp hr
 obtain ⟨⟨d,fr⟩,ez,hr⟩:=qA.mp hr
 cases hr
 refine ha fx H0 env σ H h x e1 ex _ fun v H1 m1 k1 n1 v1 _=>hb fx H0 e1 σ H1 k1 y e2 ey _ fun u H2 m2 k2 n2 v2 _=>?_
 have l1:∀ b,lim fx e2 σ (x.bs++y.bs) b→lim fx e2 σ x.bs b:=zjh fun i hi=>qv _ hi
 have l2:∀ b,lim fx e2 σ (x.bs++y.bs) b→lim fx e2 σ y.bs b:=zjh fun i hi=>qW _ hi
 have v1':=m2.val n1 v1 (h.notNew m1.at0)
 refine ho (lim fx e2 σ (x.bs++y.bs)) H2 v u x.d y.d (k2.lims _) (v1'.later (Same.refl _) (Same.refl _) l1).rp (v2.later (Same.refl _) (Same.refl _) l2).rp d fr ez _ fun z H3 s3 rp fr3=>q z H3 ((m1.trans m2).trans (MvF.same m2.at1 s3)) (k2.up s3) (ztq fun hm=>(qAB.mp hm).elim n1 n2) ⟨zna rp,fun e=>?_⟩ fun e=>let ⟨a,g1,g2,g3⟩:=fr3 e;⟨a,g1,k2.new s3 g2 g3.ex⟩
 obtain ⟨a,g1,g2,g3⟩:=fr3 e
 refine ⟨a,g1,(m1.trans m2).free g2,?_⟩
 have nf:zhb d=false:=by cases d<;>first|rfl|exact g3.elim
 show zeo (Offs (fun b=>lim fx e2 σ (bsOf d (x.bs++y.bs)) b∨b=a) H3) H3 a d
 rw [show bsOf d (x.bs++y.bs)=x.bs++y.bs by unfold bsOf;rw [if_neg (by rw [nf];decide)]]
 exact g3
noncomputable abbrev AFf:=DEnv→Option (List Val×DEnv)
noncomputable def SAf (f:Nat) (ta:TA) (g:AFf):Prop:=∀ (fx:Addr→Prop) (H0:Hp) (env:DEnv) (σ:St) (H:Hp),EnvOk fx H0 env σ H→∀ rs env',g env=some (rs,env')→∀ Q:List V→Hp→Prop,
 (∀ vs H',MvF f env env' σ H H'→EnvOk fx H0 env' σ H'→f∉bss rs→Paired (fun r v=>ValOk (lim fx env' σ r.bs) H H' r v) rs vs→Q vs H')→ta σ H Q
noncomputable def fNil (f:Nat):AFf:=fun env=>match env[f]? with
 | some (.ac _)=>some ([],env)
 | _=>none
theorem zbj {f:Nat}:SAf f tNil (fNil f):=by
 intro fx H0 env σ H hE rs env' e Q q
 unfold fNil at e
 split at e
 ·rename_i d0 e0
  cases e
  exact q [] H (MvF.same ⟨_,e0⟩ (Same.refl _)) hE (by simp [bss]) .nil
 ·cases e
noncomputable def zam (a:EFf) (r:AFf):AFf:=fun env=>(a env).bind fun x=>(r x.2).map fun y=>(x.1::y.1,y.2)
theorem ValOk.base {A:Addr→Prop} {H H1 H':Hp} {r:Val} {v:V} (h:ValOk A H1 H' r v) (b:∀ a,H1 a=none→H a=none):ValOk A H H' r v:=⟨h.rp,fun e=>let ⟨a,h1,h2,h3⟩:=h.fr e;⟨a,h1,b a h2,h3⟩⟩
theorem zaw {f:Nat} {te:TE} {ta:TA} {g:EFf} {gs:AFf} (h1:SEf f te g) (h2:SAf f ta gs):SAf f (tCons te ta) (zam g gs):=by
 intro fx H0 env σ H h rs env' hr Q q
 unfold zam at hr
 obtain ⟨⟨x,e1⟩,ex,hr⟩:=qA.mp hr
 obtain ⟨⟨xs,e2⟩,exs,hr⟩:=qH.mp hr
 cases hr
 exact h1 fx H0 env σ H h x e1 ex _ fun v H1 m1 k1 n1 v1 _=>h2 fx H0 e1 σ H1 k1 xs e2 exs _ fun vs H2 m2 k2 n2 vs2=>q (v::vs) H2 (m1.trans m2) k2
  (fun hm=>by
   have hm:f∈x.bs++bss xs:=hm
   exact (qAB.mp hm).elim n1 n2)
  (.cons (m2.val n1 v1 (h.notNew m1.at0)) (Paired.mapP vs2 fun _ _ z=>z.base fun a ha=>m1.free ha))
noncomputable abbrev GE:=PyData→List PyData→Option (PyData×Bool×PyData)
noncomputable def spF (n:Nat) (g:GE):Sp:=fun vs H Q _=>∃ (fx:Addr→Prop) (a:Addr) (vs':List V) (d0 d1 d:PyData) (fr:Bool) (ds:List PyData),vs=.ref a::vs'∧ds.length+1=n∧(∀ b,fx b→∃ o,H b=some o)∧¬ fx a ∧
 zeo (Offs (fun b=>fx b∨b=a) H) H a d0∧Rps (Offs (fun b=>fx b∨b=a) H) ds vs'∧g d0 ds=some (d,fr,d1) ∧
 ∀ v H',(∀ b o,b≠a→H b=some o→H' b=some o)→zeo (Offs (fun b=>fx b∨b=a) H') H' a d1→zxx (fun b=>fx b∨b=a) H d fr v H'→Q v H'
noncomputable def zou:PyData→Bool
 | .list ds=>zds ds
 | _=>false
theorem ztr {Ho Ho' H:Hp} {a:Addr} {d:PyData} (f:zou d=true) (h:zeo Ho H a d):zeo Ho' H a d:=by
 unfold zou at f
 split at f
 ·obtain ⟨xs,h1,r⟩:=h
  exact ⟨xs,h1,zib f r⟩
 ·cases f
noncomputable def zap (f n:Nat) (g:GE) (a:AFf):EFf:=fun env=>match env[f]? with
 | some (.ac _)=>(a env).bind fun x=>(match x.2[f]? with
  | some (.ac d0)=>if x.1.length+1=n then (g d0 (zix x.1)).bind fun z=>if zou z.2.2=true then some (⟨z.1,z.2.1,bsOf z.1 (bss x.1)⟩,(frzs x.2 (bss x.1)).set f (.ac z.2.2)) else none else none
  | _=>none)
 | _=>none
theorem zba {f n:Nat} {g:GE} {ta:TA} {a:AFf} (ha:SAf f ta a):SEf f (tCall (spF n g) [] E0 (tCons (tVar f) ta)) (zap f n g a):=by
 intro fx H0 env σ H h rr env' hr Q q
 unfold zap at hr
 split at hr
 ·rename_i dd edd
  obtain ⟨⟨rs,e1⟩,er,hr⟩:=qA.mp hr
  have hr:(match e1[f]? with
   | some (.ac d0)=>if rs.length+1=n then (g d0 (zix rs)).bind fun z=>if zou z.2.2=true then some ((⟨z.1,z.2.1,bsOf z.1 (bss rs)⟩:Val),(frzs e1 (bss rs)).set f (.ac z.2.2)) else none else none
   | _=>none)=some (rr,env'):=hr
  split at hr
  ·rename_i d0 ei
   split at hr
   ·rename_i hl
    obtain ⟨⟨d,fr,d1⟩,eg,hr⟩:=qA.mp hr
    by_cases hfl0:zou d1=true
    rotate_left
    ·rw [if_neg hfl0] at hr;cases hr
    rw [if_pos hfl0] at hr
    cases hr
    obtain ⟨a0,g1,_,_,_⟩:=h.ac f _ edd
    refine ⟨_,g1,ha fx H0 env σ H h rs e1 er _ fun vs H1 m1 hE n1 hv=>?_⟩
    obtain ⟨a,g1',g2,g3,g4⟩:=hE.ac f _ ei
    rw [g1] at g1'
    cases g1'
    refine ⟨lim fx e1 σ (f::bss rs),a0,vs,d0,d1,d,fr,zix rs,by simp,by rw [zjz];exact hl,hE.lims _,?_,?_,?_,eg,fun v H' fr' ac' ret=>?_⟩
    ·rintro (z|⟨j,d',z1,z2,z3⟩)
     ·exact g3 z
     ·exact z1 (qN.mpr (.inl (hE.inj j f d' d0 a0 z2 ei z3 g1)))
    ·exact g4.same (Offs.sub fun b z=>z.elim (zlq b) fun y=>by subst y;exact .inr ⟨f,_,ei,g1⟩) fun o z=>z
    ·refine Rps.same (Offs.sub fun b z=>?_) _ (zil (fun i hi=>hi) hv)
     rcases z with z|z
     ·exact zjh (fun i hi=>qI _ hi) b z
     ·subst z;exact .inr ⟨f,d0,n1,ei,g1⟩
    ·obtain ⟨o0,eo0⟩:=g4.ex
     obtain ⟨o1,eo1⟩:=ac'.ex
     have s2:Same H1 (upd H' a0 o0):=fun b o eb=>by
      by_cases hb:b=a0
      ·subst hb
       rw [zbe,← eb,eo0]
      ·rw [zbk hb];exact fr' b o hb eb
     have e2:upd (upd H' a0 o0) a0 o1=H':=by
      funext b
      by_cases hb:b=a0
      ·subst hb;rw [zbe,eo1]
      ·rw [zbk hb,zbk hb]
     have hf:=(hE.up s2).frzs (bss rs)
     have ei':=zgo n1 ei
     have sl:∀ b,fx b∨own (frzs e1 (bss rs)) σ b→lim fx e1 σ (f::bss rs) b∨b=a0:=by
      rintro b (z|⟨j,d',z1,z2⟩)
      ·exact .inl (.inl z)
      ·obtain ⟨z3,z4⟩:=zpp z1
       by_cases hj:j=f
       ·subst hj
        rw [g1] at z2
        cases z2
        exact .inr rfl
       ·exact .inl (.inr ⟨j,d',fun hm=>(qN.mp hm).elim hj z4,z3,z2⟩)
     have r:zeo (Offs (fun b=>fx b∨own (frzs e1 (bss rs)) σ b) (upd H' a0 o0)) (upd (upd H' a0 o0) a0 o1) a0 d1:=by
      rw [e2,Offs.upd (.inr ⟨f,_,ei',g1⟩)]
      exact ac'.same (Offs.sub sl) fun o z=>z
     have hE':=hf.mut ei' g1 r
     rw [e2] at hE'
     have hfl:f<(frzs e1 (bss rs)).length:=(qR.mp ei').1
     have rest:∀ (j:Nat) (d':PyData),j≠f→((frzs e1 (bss rs)).set f (.ac d1))[j]?=some (.ac d')→e1[j]?=some (.ac d')∧j∉bss rs:=fun j d' hj e=>by
      rw [qS fun z=>hj z.symm] at e
      exact zpp e
     have lm:∀ b,lim fx ((frzs e1 (bss rs)).set f (.ac d1)) σ (bss rs) b→lim fx e1 σ (f::bss rs) b∨b=a0:=by
      rintro b (z|⟨j,d',z1,z2,z3⟩)
      ·exact .inl (.inl z)
      ·by_cases hj:j=f
       ·subst hj
        rw [g1] at z3
        cases z3
        exact .inr rfl
       ·exact .inl (.inr ⟨j,d',fun hm=>(qN.mp hm).elim hj z1,(rest j d' hj z2).1,z3⟩)
     refine q v H' ⟨fun j d' hj e=>m1.rest j d' hj (rest j d' hj e).1,⟨_,edd⟩,⟨d1,ql hfl⟩,fun b o nb eb=>fr' b o (fun z=>nb (by rw [z];exact g1)) (m1.keep b o nb eb),fun b o eb=>?_⟩ hE' (ztq n1) ⟨zna (Rp.same (Offs.sub lm) _ ret.1),fun e=>?_⟩ (fun e=>?_)
     ·by_cases hb:b=a0
      ·exact ⟨o1,by rw [hb];exact eo1⟩
      ·obtain ⟨o',e'⟩:=m1.live b o eb
       exact ⟨o',fr' b o' hb e'⟩
     ·obtain ⟨c,q1,q2,q3⟩:=ret.2 e
      refine ⟨c,q1,m1.free q2,?_⟩
      have nf:zhb d=false:=by cases d<;>first|rfl|exact q3.elim
      show zeo (Offs (fun b=>lim fx ((frzs e1 (bss rs)).set f (.ac d1)) σ (bsOf d (bss rs)) b∨b=c) H') H' c d
      rw [show bsOf d (bss rs)=bss rs by unfold bsOf;rw [if_neg (by rw [nf];decide)]]
      exact q3.same (Offs.sub fun b z=>z.imp (lm b) id) fun o z=>z
     ·obtain ⟨c,q1,q2,q3⟩:=ret.2 e
      have hca:c≠a0:=fun z=>by rw [z,eo0] at q2;cases q2
      have hx:∃ o,(upd H' a0 o0) c=some o:=by rw [zbk hca];exact q3.ex
      have hf2:=(hE.new s2 q2 hx).frzs (bss rs)
      have r2:zeo (Offs (fun b=>(fx b∨b=c)∨own (frzs e1 (bss rs)) σ b) (upd H' a0 o0)) (upd (upd H' a0 o0) a0 o1) a0 d1:=by
       rw [e2]
       exact ztr hfl0 ac'
      have:=hf2.mut ei' g1 r2
      rw [e2] at this
      exact ⟨c,q1,this⟩
   ·cases hr
  ·cases hr
 ·cases hr
theorem EnvOk.putF {fx:Addr→Prop} {H0:Hp} {env:DEnv} {σ:St} {H H':Hp} (k:EnvOk fx H0 env σ H') {r:Val} {v:V} (hv:ValOk (lim fx env σ r.bs) H H' r v) (hn:zaot fx H0 env σ H' r v) (h0:Same H0 H) (hfx:∀ b,fx b→∃ o,H b=some o) (i:Nat):EnvOk fx H0 (putV env i r) (σ.set i (some v)) H':=by
 unfold putV slOf
 cases e:r.fr with
 | false =>
  rw [if_neg qK]
  exact (k.frzs r.bs).setPl i (Rp.same (Offs.sub zcx) _ hv.rp)
 | true =>
  rw [if_pos rfl]
  obtain ⟨a,rfl,ha,hacc⟩:=hv.fr e
  obtain ⟨a',ea,g⟩:=hn e
  cases ea
  have nfx:¬ fx a:=zet hfx ha
  refine (g.frzs r.bs).setAc i (hacc.same (Offs.sub fun b z=>?_) fun o z=>z) (h0.free ha) nfx
  rcases z with z|z
  ·exact .inl (zcx b z)
  ·exact .inr z
inductive OutF where
 | nx (env:DEnv)
 | bk (env:DEnv)
 | ct (env:DEnv)
 | rt (d:PyData) (fr:Bool) (env:DEnv)
noncomputable def RetF (fx:Addr→Prop) (H0:Hp) (env:DEnv) (σ:St) (d:PyData) (fr:Bool) (v:V) (H:Hp):Prop :=
 Rp (Offs (fun a=>fx a∨own env σ a) H) d v∧(fr=true→∃ a,v=.ref a∧H0 a=none∧¬ own env σ a∧zeo (Offs (fun b=>(fx b∨own env σ b)∨b=a) H) H a d)
noncomputable def SatF (fx:Addr→Prop) (H0:Hp) (J:Nat→Prop) (σ0:St) (D:Ends):OutF→Prop
 | .nx env=>∀ σ H,EnvOk fx H0 env σ H→(∀ j,J j→σ[j]?=σ0[j]?)→D.nx σ H
 | .bk env=>∀ σ H,EnvOk fx H0 env σ H→(∀ j,J j→σ[j]?=σ0[j]?)→D.bk σ H
 | .ct env=>∀ σ H,EnvOk fx H0 env σ H→(∀ j,J j→σ[j]?=σ0[j]?)→D.ct σ H
 | .rt d fr env=>∀ σ v H,EnvOk fx H0 env σ H→(∀ j,J j→σ[j]?=σ0[j]?)→RetF fx H0 env σ d fr v H→D.rt v H
theorem SatF.move {fx:Addr→Prop} {H0:Hp} {J:Nat→Prop} {σ0 σ1:St} {D:Ends} {o:OutF} (h:SatF fx H0 J σ0 D o) (e:∀ j,J j→σ1[j]?=σ0[j]?):SatF fx H0 J σ1 D o:=by
 cases o with
 | nx env=>exact fun σ H hE k=>h σ H hE fun j hj=>(k j hj).trans (e j hj)
 | bk env=>exact fun σ H hE k=>h σ H hE fun j hj=>(k j hj).trans (e j hj)
 | ct env=>exact fun σ H hE k=>h σ H hE fun j hj=>(k j hj).trans (e j hj)
 | rt d fr env=>exact fun σ v H hE k=>h σ v H hE fun j hj=>(k j hj).trans (e j hj)
noncomputable abbrev SFf:=DEnv→Option OutF
noncomputable def SSf (J:Nat→Prop) (ts:TS) (F:SFf):Prop:=∀ (fx:Addr→Prop) (H0:Hp) (env:DEnv) (σ:St) (H:Hp) (D:Ends),EnvOk fx H0 env σ H→∀ o,F env=some o→SatF fx H0 J σ D o→ts D σ H
section
variable {J:Nat→Prop} {f:Nat}
noncomputable def fS (F:SF):SFf:=fun env=>(F env).bind fun o=>match o with
 | .nx e=>some (.nx e)
 | .bk e=>some (.bk e)
 | .ct e=>some (.ct e)
 | .rt _ _=>none
theorem zcy {t:TS} {F:SF} (h:SSk J t F):SSf J t (fS F):=by
 intro fx H0 env σ H D hE o e q
 unfold fS at e
 obtain ⟨o1,e1,e⟩:=qA.mp e
 refine h fx H0 env σ H D hE o1 e1 ?_
 cases o1 with
 | nx e'=>cases e;exact q
 | bk e'=>cases e;exact q
 | ct e'=>cases e;exact q
 | rt _ _=>cases e
noncomputable def fNx:SFf:=fun env=>some (.nx env)
theorem zev:SSf J tNext fNx:=by
 intro fx H0 env σ H D h o e q
 cases e
 exact q σ H h fun _ _=>rfl
noncomputable def fSeq (a b:SFf):SFf:=fun env=>(a env).bind fun o=>match o with
 | .nx env'=>b env'
 | o=>some o
theorem zay {t u:TS} {a b:SFf} (h1:SSf J t a) (h2:SSf J u b):SSf J (tSeq t u) (fSeq a b):=by
 intro fx H0 env σ H D h o e q
 unfold fSeq at e
 obtain ⟨o1,e1,e⟩:=qA.mp e
 refine h1 fx H0 env σ H _ h o1 e1 ?_
 cases o1 with
 | nx env'=>exact fun σ' H' h' k=>h2 fx H0 env' σ' H' D h' o e (q.move k)
 | bk env'=>cases e;exact q
 | ct env'=>cases e;exact q
 | rt d fr env'=>cases e;exact q
noncomputable def fSet (i:Nat) (g:EFf):SFf:=fun env=>(g env).map fun x=>.nx (putV x.2 i x.1)
theorem zde {te:TE} {g:EFf} {i:Nat} (h1:SEf f te g) (hJ:¬ J i):SSf J (tAsg te (gName i)) (fSet i g):=by
 intro fx H0 env σ H D h o e q
 unfold fSet at e
 obtain ⟨⟨r,env'⟩,er,rfl⟩:=qH.mp e
 exact h1 fx H0 env σ H h r env' er _ fun v H' m k n hv hn=>q _ H' (k.putF hv hn h.base h.fxs i) fun j hj=>qS fun z=>hJ (by rw [z];exact hj)
noncomputable abbrev TFf:=DEnv→Option (Bool×DEnv)
noncomputable def STf (f:Nat) (tt:TT) (g:TFf):Prop:=∀ (fx:Addr→Prop) (H0:Hp) (env:DEnv) (σ:St) (H:Hp),EnvOk fx H0 env σ H→∀ b env',g env=some (b,env')→∀ Q:Bool→Hp→Prop,(∀ H',MvF f env env' σ H H'→EnvOk fx H0 env' σ H'→Q b H')→tt σ H Q
noncomputable def zmm (f:Nat) (g:TF):TFf:=fun env=>match env[f]? with
 | some (.ac _)=>(g env).map fun b=>(b,env)
 | _=>none
theorem zzv {tt:TT} {g:TF} (h:ST tt g):STf f tt (zmm f g):=by
 intro fx H0 env σ H hE b env' e Q q
 unfold zmm at e
 split at e
 ·rename_i d0 e0
  obtain ⟨b',eb,e⟩:=qH.mp e
  cases e
  exact h fx H0 env σ H hE b eb Q fun H' s=>q H' (MvF.same ⟨_,e0⟩ s) (hE.up s)
 ·cases e
noncomputable def gB (g:EFf):TFf:=fun env=>(g env).bind fun x=>match x.1.d with
 | .bool b=>some (b,x.2)
 | _=>none
theorem zaqd {te:TE} {g:EFf} (h:SEf f te g):STf f (tB te) (gB g):=by
 intro fx H0 env σ H hE b env' e Q q
 unfold gB at e
 obtain ⟨⟨⟨d,fr,bs⟩,e1⟩,er,e⟩:=qA.mp e
 cases d with
 | bool b' =>
  cases e
  refine h fx H0 env σ H hE _ e1 er _ fun v H' m k n hv _=>?_
  cases zlp hv.rp
  first
   | exact ⟨b,rfl,q H' m k⟩
   | exact q H' m k
 | _=>cases e
noncomputable def fIf (c:TFf) (a b:SFf):SFf:=fun env=>(c env).bind fun x=>if x.1=true then a x.2 else b x.2
theorem zaez {tc:TT} {t u:TS} {c:TFf} {a b:SFf} (hc:STf f tc c) (h1:SSf J t a) (h2:SSf J u b):SSf J (tIfS tc t u) (fIf c a b):=by
 intro fx H0 env σ H D h o e q
 unfold fIf at e
 obtain ⟨⟨x,e1⟩,eb,e⟩:=qA.mp e
 refine hc fx H0 env σ H h x e1 eb _ fun H' m k=>?_
 cases x with
 | true=>exact iteT (h1 fx H0 e1 σ H' D k o e q)
 | false=>exact iteF (h2 fx H0 e1 σ H' D k o e q)
end
theorem zkh {n:Nat} {g:GE} {vs:List V} {H:Hp} {Q:VK} {E:XK} (h:spF n g vs H Q E):vs.length=n:=by
 obtain ⟨fx,a,vs',d0,d1,d,fr,ds,rfl,hn,_,_,_,r,_⟩:=h
 rw [qa,← r.length];exact hn
noncomputable def fnF (n:Nat) (F:SFf):GE:=fun d ds=>(F (zsa n d ds)).bind fun o=>match o with
 | .rt d' fr env=>match (env[0]?:Option Sl) with
  | some (.ac d1)=>some (d',fr,d1)
  | _=>none
 | _=>none
theorem fn_f {N:List Str} {n:Nat} {F:SFf} {t:TS} (hN:0<N.length) (hs:SSf (fun j=>j=0) t F) {vs:List V} {H:Hp} {Q:VK} {E:XK} (h:spF n (fnF N.length F) vs H Q E):t {nx:=fun _ H'=>Q .non H',rt:=Q} (zhv N vs) H:=by
 obtain ⟨fx,a,vs',d0,d1,d,fr,ds,rfl,hn,hf,na,ac,r,g,k⟩:=h
 unfold fnF at g
 obtain ⟨o,eo,g⟩:=qA.mp g
 cases o with
 | rt d' fr' env' =>
  refine hs fx _ _ _ H _ (zabf hN hf na ac r) _ eo fun σ' v H' hE kp rt=>?_
  have g:(match (env'[0]?:Option Sl) with|some (.ac d1)=>some (d',fr',d1)|_=>none)=some (d,fr,d1):=g
  split at g
  ·rename_i d1' e0
   cases g
   obtain ⟨a',q1,_,_,q4⟩:=hE.ac 0 _ e0
   rw [kp 0 rfl] at q1
   have q1:some (some (V.ref a))=some (some (V.ref a')):=q1
   cases q1
   have oa:own env' σ' a:=⟨0,_,e0,by rw [kp 0 rfl];rfl⟩
   have sub:∀ b,fx b∨b=a→fx b∨own env' σ' b:=fun b z=>z.imp id fun y=>by subst y;exact oa
   refine k v H' (fun b o nb e=>hE.base b o (by rw [Offs.get (A:=fun b=>b=a) nb];exact e)) (q4.same (Offs.sub sub) fun o z=>z) ⟨Rp.same (Offs.sub sub) _ rt.1,fun z=>?_⟩
   obtain ⟨c,w1,w2,w4,w3⟩:=rt.2 z
   have hc:c≠a:=fun y=>by
    subst y
    exact w4 oa
   refine ⟨c,w1,?_,w3.same (Offs.sub fun b z=>z.imp (sub b) id) fun o z=>z⟩
   rw [Offs.get (A:=fun b=>b=a) hc] at w2
   exact w2
  ·cases g
 | nx _=>cases g
 | bk _=>cases g
 | ct _=>cases g
theorem RetF.unbase {fx:Addr→Prop} {H0 F:Hp} {env:DEnv} {σ:St} {d:PyData} {fr:Bool} {v:V} {H:Hp} (h:RetF fx F env σ d fr v H) (s:Same H0 F):RetF fx H0 env σ d fr v H :=
 ⟨h.1,fun e=>let ⟨a,h1,h2,h3⟩:=h.2 e;⟨a,h1,s.free h2,h3⟩⟩
noncomputable def zfi (g:GT) (body:SFf):List PyData→DEnv→Option OutF
 | [],env=>some (.nx env)
 | d::ds,env=>(g d env).bind fun e1=>(body e1).bind fun o=>match o with
  | .nx e2=>zfi g body ds e2
  | .ct e2=>zfi g body ds e2
  | .bk e2=>some (.nx e2)
  | .rt d fr e2=>some (.rt d fr e2)
noncomputable abbrev IFf:=DEnv→Option (List PyData×List Nat×DEnv)
noncomputable def SIf (f:Nat) (wi:TI) (g:IFf):Prop:=∀ (fx:Addr→Prop) (H0:Hp) (env:DEnv) (σ:St) (H:Hp),EnvOk fx H0 env σ H→∀ ds bs env',g env=some (ds,bs,env')→∀ R:It→Hp→Prop,
 (∀ I H1,MvF f env env' σ H H1→EnvOk fx H0 env' σ H1→Yl (fun b=>fx b∨own (frzs env' bs) σ b) H1 I ds→R I H1)→wi σ H R
noncomputable def zim (a:AFf):IFf:=fun env=>(a env).bind fun x=>match x.1 with
 | [⟨.int j,_,_⟩]=>if -(2 ^ 62)≤j∧j<2 ^ 62 then some (zdt 0 j.toNat,[],x.2) else none
 | _=>none
theorem zsb {f:Nat} {ta:TA} {a:AFf} (h1:SAf f ta a):SIf f (iRng1 ta) (zim a):=by
 intro fx H0 env σ H h ds bs env' e R q
 unfold zim at e
 obtain ⟨⟨rs,e1⟩,er,e⟩:=qA.mp e
 dsimp only at e
 split at e
 ·split at e
  ·rename_i hj
   cases e
   refine h1 fx H0 env σ H h _ _ er _ fun vs H1 m k n hv=>?_
   cases hv with
   | cons hv t =>
    cases t
    cases zdp hv.rp
    exact ⟨_,rfl,hj.1,hj.2,q _ H1 m k zzn⟩
  ·cases e
 ·cases e
noncomputable def zts (f:IFf) (g:GT) (body:SFf):SFf:=fun env=>(f env).bind fun z=>zfi g body z.1 (frzs z.2.2 z.2.1)
noncomputable def fFor (f:IF') (g:GT) (body:SFf):SFf:=fun env=>(f env).bind fun z=>zfi g body z.1 (frzs env z.2)
section
variable {J:Nat→Prop}
theorem zid {wi:TI} {g:TG} {tb:TS} {f:IF'} {gf:GT} {body:SFf} (h1:SI wi f) (h2:SGk J g gf) (h3:SSf J tb body):SSf J (tFor wi g tb) (fFor f gf body):=by
 intro fx H0 env σ H D h o e q
 unfold fFor at e
 obtain ⟨⟨ds,bs⟩,er,e⟩:=qA.mp e
 refine h1 fx H0 env σ H h ds bs er _ fun I H1 s yl=>?_
 have hE:=(h.up s).frzs bs
 have fl:=hE.floor
 refine ⟨fun i m σ' H'=>m=ds.length - i∧i≤ds.length∧(∀ j,J j→σ'[j]?=σ[j]?)∧∃ env',zfi gf body (ds.drop i) env'=some o∧EnvOk fx (Offs (own (frzs env bs) σ) H1) env' σ' H',⟨ds.length,rfl,qAP _,fun _ _=>rfl,_,e,hE.rebase⟩,?_⟩
 rintro i m σ' H' ⟨rfl,hi,kp,env',e',h'⟩
 obtain ⟨yi,ys⟩:=yl _ H' h'.all h'.seen
 by_cases hlt:i<ds.length
 ·obtain ⟨yg,yy⟩:=yi i ds[i] (qF hlt)
  refine .inr ⟨yg,fun σ'' H''=>i+1≤ds.length∧(∀ j,J j→σ''[j]?=σ[j]?)∧∃ env'',zfi gf body (ds.drop (i+1)) env''=some o∧EnvOk fx (Offs (own (frzs env bs) σ) H1) env'' σ'' H'',?_,?_⟩
  ·rintro σ'' H'' ⟨hle,kp',env'',e'',h''⟩
   exact ⟨ds.length - (i+1),by omega,rfl,hle,kp',env'',e'',h''⟩
  ·intro x H'' hy
   obtain ⟨sy,ry⟩:=yy x H'' hy
   rw [qAH hlt] at e'
   obtain ⟨e1,ee1,e'⟩:=qA.mp e'
   obtain ⟨o1,eo1,e'⟩:=qA.mp e'
   refine h2 fx _ env' σ' H'' _ x (h'.up sy) ry e1 ee1 _ fun σ2 h2' k2=>h3 fx _ e1 σ2 H'' _ h2' o1 eo1 ?_
   have k3:∀ j,J j→σ2[j]?=σ[j]?:=fun j hj=>(k2 j hj).trans (kp j hj)
   cases o1 with
   | nx e2=>exact fun σ3 H3 hh k4=>⟨hlt,fun j hj=>(k4 j hj).trans (k3 j hj),e2,e',hh⟩
   | ct e2=>exact fun σ3 H3 hh k4=>⟨hlt,fun j hj=>(k4 j hj).trans (k3 j hj),e2,e',hh⟩
   | bk e2=>cases e';exact fun σ3 H3 hh k4=>q σ3 H3 (hh.unbase fl) fun j hj=>(k4 j hj).trans (k3 j hj)
   | rt d fr e2=>cases e';exact fun σ3 v H3 hh k4 rt=>q σ3 v H3 (hh.unbase fl) (fun j hj=>(k4 j hj).trans (k3 j hj)) (rt.unbase fl)
 ·have hi':i=ds.length:=by omega
  subst hi'
  rw [qAg] at e'
  cases e'
  exact .inl ⟨ys,q σ' H' (h'.unbase fl) kp⟩
theorem ztt {fd:Nat} {wi:TI} {g:TG} {tb:TS} {f:IFf} {gf:GT} {body:SFf} (h1:SIf fd wi f) (h2:SGk J g gf) (h3:SSf J tb body):SSf J (tFor wi g tb) (zts f gf body):=by
 intro fx H0 env σ H D h o e q
 unfold zts at e
 obtain ⟨⟨ds,bs,v1⟩,er,e⟩:=qA.mp e
 refine h1 fx H0 env σ H h ds bs v1 er _ fun I H1 m0 k0 yl=>?_
 have hE:=k0.frzs bs
 have fl:=hE.floor
 refine ⟨fun i m σ' H'=>m=ds.length - i∧i≤ds.length∧(∀ j,J j→σ'[j]?=σ[j]?)∧∃ env',zfi gf body (ds.drop i) env'=some o∧EnvOk fx (Offs (own (frzs v1 bs) σ) H1) env' σ' H',⟨ds.length,rfl,qAP _,fun _ _=>rfl,_,e,hE.rebase⟩,?_⟩
 rintro i m σ' H' ⟨rfl,hi,kp,env',e',h'⟩
 obtain ⟨yi,ys⟩:=yl _ H' h'.all h'.seen
 by_cases hlt:i<ds.length
 ·obtain ⟨yg,yy⟩:=yi i ds[i] (qF hlt)
  refine .inr ⟨yg,fun σ'' H''=>i+1≤ds.length∧(∀ j,J j→σ''[j]?=σ[j]?)∧∃ env'',zfi gf body (ds.drop (i+1)) env''=some o∧EnvOk fx (Offs (own (frzs v1 bs) σ) H1) env'' σ'' H'',?_,?_⟩
  ·rintro σ'' H'' ⟨hle,kp',env'',e'',h''⟩
   exact ⟨ds.length - (i+1),by omega,rfl,hle,kp',env'',e'',h''⟩
  ·intro x H'' hy
   obtain ⟨sy,ry⟩:=yy x H'' hy
   rw [qAH hlt] at e'
   obtain ⟨e1,ee1,e'⟩:=qA.mp e'
   obtain ⟨o1,eo1,e'⟩:=qA.mp e'
   refine h2 fx _ env' σ' H'' _ x (h'.up sy) ry e1 ee1 _ fun σ2 h2' k2=>h3 fx _ e1 σ2 H'' _ h2' o1 eo1 ?_
   have k3:∀ j,J j→σ2[j]?=σ[j]?:=fun j hj=>(k2 j hj).trans (kp j hj)
   cases o1 with
   | nx e2=>exact fun σ3 H3 hh k4=>⟨hlt,fun j hj=>(k4 j hj).trans (k3 j hj),e2,e',hh⟩
   | ct e2=>exact fun σ3 H3 hh k4=>⟨hlt,fun j hj=>(k4 j hj).trans (k3 j hj),e2,e',hh⟩
   | bk e2=>cases e';exact fun σ3 H3 hh k4=>q σ3 H3 (hh.unbase fl) fun j hj=>(k4 j hj).trans (k3 j hj)
   | rt d fr e2=>cases e';exact fun σ3 v H3 hh k4 rt=>q σ3 v H3 (hh.unbase fl) (fun j hj=>(k4 j hj).trans (k3 j hj)) (rt.unbase fl)
 ·have hi':i=ds.length:=by omega
  subst hi'
  rw [qAg] at e'
  cases e'
  exact .inl ⟨ys,q σ' H' (h'.unbase fl) kp⟩
end
noncomputable def fTup (a:AFf):EFf:=fun env=>(a env).bind fun x=>if x.1.length≤100000 then some (⟨.tuple (zix x.1),false,bss x.1⟩,x.2) else none
theorem zyf {f:Nat} {ta:TA} {a:AFf} (ha:SAf f ta a):SEf f (tTup ta) (fTup a):=by
 intro fx H0 env σ H h rr env' hr Q q
 unfold fTup at hr
 obtain ⟨⟨rs,e1⟩,er,hr⟩:=qA.mp hr
 split at hr
 ·rename_i hl
  cases hr
  refine ha fx H0 env σ H h rs e1 er _ fun vs H1 m k n v1=>?_
  have r:=zil (fun i hi=>hi) v1
  have hA:=k.lims (bss rs)
  refine ⟨zhy (by rw [← r.length,zjz];exact hl),fun p hp=>q _ _ (m.trans (MvF.same m.at1 (Same.new hp))) (k.up (Same.new hp)) n ⟨znc hp (zet hA hp) r,fun z=>by cases z⟩ fun z=>by cases z⟩
 ·cases hr
noncomputable def fApp (i:Nat) (g:EFf):SFf:=fun env=>match env[i]? with
 | some (.ac (.list _))=>(g env).bind fun x=>(match x.2[i]? with
  | some (.ac (.list es))=>if es.length<100000∧i∉x.1.bs then some (.nx ((frzs x.2 x.1.bs).set i (.ac (.list (es++[x.1.d]))))) else none
  | _=>none)
 | _=>none
theorem znn {J:Nat→Prop} {f:Nat} {K:qB} {i:Nat} {te:TE} {g:EFf} (h1:SEf f te g):SSf J (tDrop (tBM K "list" zact (tVar i) (tCons te tNil))) (fApp i g):=by
 intro fx H0 env σ H D h o e q
 unfold fApp at e
 split at e
 ·rename_i ds0 ei0
  obtain ⟨⟨r,v1⟩,er,e⟩:=qA.mp e
  dsimp only at e
  split at e
  ·rename_i ds ei
   split at e
   ·rename_i hl
    cases e
    obtain ⟨a,g1,g2,g3,g4⟩:=h.ac i _ ei0
    obtain ⟨xs0,hx0,_⟩:=g4
    refine ⟨_,g1,.inl ⟨rfl,_,SqL.of hx0⟩,h1 fx H0 env σ H h r v1 er _ fun v H' m k n hv hn=>?_⟩
    have h':=k.frzs r.bs
    have ei':=zgo hl.2 ei
    obtain ⟨a',z1,_,_,z4⟩:=h'.ac i _ ei'
    rw [g1] at z1
    cases z1
    obtain ⟨xs,hx',rx'⟩:=z4
    refine ⟨a,xs,v,rfl,rfl,hx',znb (by rw [← rx'.length];exact hl.1),?_⟩
    exact q σ _ (h'.mut ei' g1 ⟨_,zbe,rx'.append (zdq (Rp.same (Offs.sub zcx) _ hv.rp) zen)⟩) fun _ _=>rfl
   ·cases e
  ·cases e
 ·cases e
noncomputable def fCB (g:GF) (a:AFf):EFf:=fun env=>(a env).bind fun x=>(g (zix x.1)).bind fun z=>some (⟨z.1,z.2,bsOf z.1 (bss x.1)⟩,x.2)
theorem zajj {f:Nat} {r:List V→Hp→VK→Prop} {g:GF} {ta:TA} {a:AFf} (hc:SC r g) (ha:SAf f ta a):SEf f (tCB r ta) (fCB g a):=by
 intro fx H0 env σ H h rr env' hr Q q
 unfold fCB at hr
 obtain ⟨⟨rs,e1⟩,er,hr⟩:=qA.mp hr
 obtain ⟨⟨d,fr⟩,ez,hr⟩:=qA.mp hr
 cases hr
 refine ha fx H0 env σ H h rs e1 er _ fun vs H1 m k n v1=>hc (lim fx e1 σ (bss rs)) H1 vs (zix rs) (k.lims _) (zil (fun i hi=>hi) v1) d fr ez _ fun w H3 s3 rp fr3=>q w H3 (m.trans (MvF.same m.at1 s3)) (k.up s3) (ztq n) ⟨zna rp,fun e=>?_⟩ fun e=>let ⟨b,g1,g2,g3⟩:=fr3 e;⟨b,g1,k.new s3 g2 g3.ex⟩
 obtain ⟨b,g1,g2,g3⟩:=fr3 e
 refine ⟨b,g1,m.free g2,?_⟩
 have nf:zhb d=false:=by cases d<;>first|rfl|exact g3.elim
 show zeo (Offs (fun c=>lim fx e1 σ (bsOf d (bss rs)) c∨c=b) H3) H3 b d
 rw [show bsOf d (bss rs)=bss rs by unfold bsOf;rw [if_neg (by rw [nf];decide)]]
 exact g3
section
variable {f:Nat}
noncomputable def gNot (g:TFf):TFf:=fun env=>(g env).map fun x=>(!x.1,x.2)
noncomputable def gAnd (a b:TFf):TFf:=fun env=>(a env).bind fun x=>if x.1=true then b x.2 else some (false,x.2)
noncomputable def gOr (a b:TFf):TFf:=fun env=>(a env).bind fun x=>if x.1=true then some (true,x.2) else b x.2
theorem zalm {t u:TT} {a b:TFf} (h:STf f t a) (k:STf f u b):STf f (tAnd t u) (gAnd a b):=by
 intro fx H0 env σ H hE b' env' hb Q q
 unfold gAnd at hb
 obtain ⟨⟨c,e1⟩,e,hb⟩:=qA.mp hb
 refine h fx H0 env σ H hE c e1 e _ fun H' m k1=>?_
 cases c with
 | true=>exact iteT (k fx H0 e1 σ H' k1 b' env' hb _ fun H'' m' k2=>q H'' (m.trans m') k2)
 | false=>cases hb;exact iteF (q H' m k1)
theorem zaou {t u:TT} {a b:TFf} (h:STf f t a) (k:STf f u b):STf f (tOr t u) (gOr a b):=by
 intro fx H0 env σ H hE b' env' hb Q q
 unfold gOr at hb
 obtain ⟨⟨c,e1⟩,e,hb⟩:=qA.mp hb
 refine h fx H0 env σ H hE c e1 e _ fun H' m k1=>?_
 cases c with
 | false=>exact iteF (k fx H0 e1 σ H' k1 b' env' hb _ fun H'' m' k2=>q H'' (m.trans m') k2)
 | true=>cases hb;exact iteT (q H' m k1)
theorem zaln {t:TT} {a:TFf} (h:STf f t a):STf f (tNot t) (gNot a):=by
 intro fx H0 env σ H hE b' env' hb Q q
 unfold gNot at hb
 obtain ⟨⟨c,e1⟩,e,hb⟩:=qH.mp hb
 cases hb
 exact h fx H0 env σ H hE c e1 e _ fun H' m k1=>q H' m k1
end
section
variable {J:Nat→Prop} {f:Nat}
noncomputable def SGks (J:Nat→Prop) (g:TGs) (f:GTs):Prop:=∀ (fx:Addr→Prop) (H0:Hp) (env:DEnv) (σ:St) (H:Hp) (ds:List PyData) (vs:List V),EnvOk fx H0 env σ H→Rps (Offs (fun a=>fx a∨own env σ a) H) ds vs→∀ env',f ds env=some env'→∀ Q:St→Hp→Prop,
 (∀ σ',EnvOk fx H0 env' σ' H→(∀ j,J j→σ'[j]?=σ[j]?)→Q σ' H)→g vs σ H Q
theorem zzw:SGks J gNil zfl:=by
 intro fx H0 env σ H ds vs h r env' e Q q
 cases ds with
 | nil=>cases e;unfold Rps at r;exact ⟨r,q _ h fun _ _=>rfl⟩
 | cons _ _=>cases e
theorem zki {i:Nat} {t:TGs} {g:GTs} (hJ:¬ J i) (h1:SGks J t g):SGks J (gCons (gName i) t) (zbc i g):=by
 intro fx H0 env σ H ds vs h r env' e Q q
 cases ds with
 | nil=>cases e
 | cons d ds =>
  unfold Rps at r
  obtain ⟨v,ws,rfl,r1,r2⟩:=r
  refine ⟨v,ws,rfl,h1 fx H0 (env.set i (.pl d)) _ H ds ws (h.setPl i r1) (Rps.same (Offs.sub fun b z=>z.imp (fun y=>y) (zxy b)) _ r2) env' e Q fun σ' k1 k2=>q σ' k1 fun j hj=>(k2 j hj).trans (qS fun z=>hJ (by rw [z];exact hj))⟩
theorem zafa {K:qB} {n:Nat} {t:TGs} {g:GTs} (h1:SGks J t g):SGk J (gTup K n t) (gT n g):=by
 intro fx H0 env σ H d v h r env' e Q q
 unfold gT at e
 cases d with
 | tuple ds =>
  have e:(if ds.length=n then g ds env else none)=some env':=e
  split at e
  ·rename_i hn
   obtain ⟨a,xs,rfl,ha,rs⟩:=zco r
   exact ⟨a,xs,rfl,SqT.of (zcm ha),by rw [← rs.length];exact hn,h1 fx H0 env σ H ds xs h rs env' e Q q⟩
  ·cases e
 | _=>cases e
theorem zalo {i:Nat} {tk tv:TE} {fk fv:EF} (h1:SE tk fk) (h2:SE tv fv):SSk J (sDPut (tVar i) tk tv) (sPut i fk fv):=by
 intro fx H0 env σ H D h o e q
 unfold sPut at e
 split at e
 ·rename_i kvs ei
  obtain ⟨r,er,e⟩:=qA.mp e
  obtain ⟨k,ek,e⟩:=qA.mp e
  obtain ⟨kk,ekk,e⟩:=qA.mp e
  split at e
  ·rename_i hl
   cases e
   obtain ⟨a,g1,g2,g3,g4⟩:=h.ac i _ ei
   obtain ⟨ps,hx,rx⟩:=g4
   refine h2 fx H0 env σ H h r er _ fun v H' s hv=>⟨_,g1,h1 fx H0 env σ H' (h.up s) k ek _ fun u H2 s2 hk=>?_⟩
   have t2:=s.trans s2
   have h':=(h.up t2).frzs r.bs
   have ei':=zgo hl.2 ei
   have hx':=t2 _ _ hx
   have rx':Rpd (Offs (fun b=>fx b∨own (frzs env r.bs) σ b) H2) kvs ps:=by
    obtain ⟨a',z1,_,_,z4⟩:=h'.ac i _ ei'
    rw [g1] at z1
    cases z1
    obtain ⟨ys,y1,y2⟩:=z4
    rw [hx'] at y1
    cases y1
    exact y2
   rw [zads hk.rp ekk]
   refine ⟨a,_,rfl,DPut.k hx' (znb (by rw [← rx.length];exact hl.1)),?_⟩
   refine q σ _ (h'.mut ei' g1 ⟨_,zbe,rx'.put ekk (Rp.same (Offs.sub zcx) _ (hv.later (Same.refl _) s2 fun _ z=>z).rp)⟩) fun _ _=>rfl
  ·cases e
 ·cases e
theorem zaov {te:TE} {g:EFf} (h:SEf f te g):STf f (tTest te) (gB g):=zaqd h
noncomputable def gTru (g:EFf):TFf:=fun env=>(g env).bind fun x=>(truD x.1.d).map fun b=>(b,x.2)
theorem zalp {K:qB} {te:TE} {g:EFf} (h:SEf f te g):STf f (fun σ H Q=>te σ H fun x H1=>∃ k,TruV K x H1 k∧Q k H1) (gTru g):=by
 intro fx H0 env σ H hE b env' hb Q q
 unfold gTru at hb
 obtain ⟨⟨r,e1⟩,e,hb⟩:=qA.mp hb
 obtain ⟨b',eb,hb⟩:=qH.mp hb
 cases hb
 exact h fx H0 env σ H hE _ _ e _ fun v H' m k n v1 _=>⟨b,zanz (Rp.same (Offs.same _ _) _ v1.rp) eb,q H' m k⟩
noncomputable def zqc (g:EFf):IFf:=fun env=>(g env).bind fun x=>(zhz x.1.d).map fun ds=>(ds,x.1.bs,x.2)
theorem zalq {K:qB} {te:TE} {g:EFf} (h1:SEf f te g):SIf f (iSeq K te) (zqc g):=by
 intro fx H0 env σ H h ds bs env' e R q
 unfold zqc at e
 obtain ⟨⟨⟨d,fr,bs'⟩,e1⟩,er,e⟩:=qA.mp e
 obtain ⟨es,he,e⟩:=qH.mp e
 cases e
 refine h1 fx H0 env σ H h _ _ er _ fun v H1 m k n hv _=>?_
 have rp:=Rp.same (Offs.sub (zcx (bs:=bs'))) _ hv.rp
 cases d with
 | list ds =>
  cases he
  obtain ⟨a,xs,rfl,ha,r⟩:=zfk rp
  exact ⟨a,rfl,.inl ⟨⟨xs,SqL.of (zcm ha)⟩,q _ H1 m k (zadz ha r)⟩⟩
 | tuple ds =>
  cases he
  obtain ⟨a,xs,rfl,ha,r⟩:=zco rp
  exact ⟨a,rfl,.inr ⟨⟨xs,SqT.of (zcm ha)⟩,q _ H1 m k (zaiv ha r)⟩⟩
 | _=>cases he
noncomputable def zdv (g:EF):SFf:=fun env=>(g env).map fun r=>.rt r.d r.fr (frzs env r.bs)
theorem zgs {te:TE} {g:EF} (h1:SE te g):SSf J (tRet te) (zdv g):=by
 intro fx H0 env σ H D h o e q
 unfold zdv at e
 obtain ⟨r,er,rfl⟩:=qH.mp e
 refine h1 fx H0 env σ H h r er _ fun v H' s hv=>q σ v H' ((h.up s).frzs r.bs) (fun _ _=>rfl) ⟨Rp.same (Offs.sub zcx) _ hv.rp,fun z=>?_⟩
 obtain ⟨a,h1,h2,h3⟩:=hv.fr z
 refine ⟨a,h1,h.base.free h2,fun ⟨j,d,z1,z2⟩=>?_,h3.same (Offs.sub fun b z=>z.imp (zcx b) id) fun o z=>z⟩
 obtain ⟨o,eo⟩:=h.lims [] a (.inr ⟨j,d,by simp,(zpp z1).1,z2⟩)
 rw [h2] at eo;cases eo
noncomputable def zrg (i:Nat):SFf:=fun env=>match env[i]? with
 | some (.pl d)=>some (.rt d false env)
 | some (.ac d)=>some (.rt d true (env.set i .no))
 | _=>none
theorem zlb {i:Nat}:SSf J (tRet (tVar i)) (zrg i):=by
 intro fx H0 env σ H D h o e q
 unfold zrg at e
 cases ei:env[i]? with
 | none=>rw [ei] at e;cases e
 | some sl =>
  rw [ei] at e
  cases sl with
  | no=>cases e
  | pl d =>
   cases e
   obtain ⟨v,h1,h2⟩:=h.pl i d ei
   exact ⟨v,h1,q σ v H h (fun _ _=>rfl) ⟨h2,fun z=>by cases z⟩⟩
  | ac d =>
   cases e
   obtain ⟨a,h1,h2,h3,h4⟩:=h.ac i d ei
   have sub:∀ b,own (env.set i .no) σ b→own env σ b:=by
    rintro b ⟨j,d',z1,z2⟩
    rcases zbx z1 with ⟨_,y⟩|⟨_,y⟩
    ·cases y
    ·exact ⟨j,d',y,z2⟩
   have nown:¬ own (env.set i .no) σ a:=by
    rintro ⟨j,d',z1,z2⟩
    rcases zbx z1 with ⟨_,y⟩|⟨hn,y⟩
    ·cases y
    ·exact hn (h.inj j i d' d a y ei z2 h1)
   have so:Same (Offs (fun b=>fx b∨own env σ b) H) (Offs (fun b=>fx b∨own (env.set i .no) σ b) H):=Offs.sub fun b z=>z.imp id (sub b)
   have hE:EnvOk fx H0 (env.set i .no) σ H:=by
    refine ⟨by rw [qr];exact h.len,fun j e hj=>?_,fun j e hj=>?_,fun j k d1 d2 b z1 z2 z3 z4=>?_,h.base,h.fxs⟩
    ·rcases zbx hj with ⟨_,y⟩|⟨_,y⟩
     ·cases y
     ·obtain ⟨v,w1,w2⟩:=h.pl j e y;exact ⟨v,w1,Rp.same so _ w2⟩
    ·rcases zbx hj with ⟨_,y⟩|⟨_,y⟩
     ·cases y
     ·obtain ⟨b,w1,w2,w3,w4⟩:=h.ac j e y;exact ⟨b,w1,w2,w3,w4.same so fun o z=>z⟩
    ·rcases zbx z1 with ⟨_,y1⟩|⟨_,y1⟩
     ·cases y1
     ·rcases zbx z2 with ⟨_,y2⟩|⟨_,y2⟩
      ·cases y2
      ·exact h.inj j k d1 d2 b y1 y2 z3 z4
   refine ⟨_,h1,q σ _ H hE (fun _ _=>rfl) ⟨h4.rp so fun o eo=>by rw [Offs.get fun z=>z.elim h3 nown];exact eo,fun _=>⟨a,rfl,h2,nown,h4.same (Offs.sub fun b z=>?_) fun o z=>z⟩⟩⟩
   rcases z with z|z
   ·exact z.imp id (sub b)
   ·rw [z];exact .inr ⟨i,d,ei,h1⟩
noncomputable def fIfP (c:TF) (a b:SFf):SFf:=fun env=>(c env).bind fun x=>if x=true then a env else b env
theorem zhd {tc:TT} {t u:TS} {c:TF} {a b:SFf} (hc:ST tc c) (h1:SSf J t a) (h2:SSf J u b):SSf J (tIfS tc t u) (fIfP c a b):=by
 intro fx H0 env σ H D h o e q
 unfold fIfP at e
 obtain ⟨x,eb,e⟩:=qA.mp e
 refine hc fx H0 env σ H h x eb _ fun H' s=>?_
 cases x with
 | true=>exact iteT (h1 fx H0 env σ H' D (h.up s) o e q)
 | false=>exact iteF (h2 fx H0 env σ H' D (h.up s) o e q)
end
noncomputable def zlg (own:List Str) (fr:List Nat) (f:Nat) (env:DEnv):DEnv:=own.map (fun _=>Sl.no)++fr.map (fun j=>if j=f then env.getD j .no else zxz (env.getD j .no))
noncomputable def capF (fr:List Nat) (f:Nat) (env:DEnv):List Nat:=capA (fr.filter fun j=>decide (j≠f)) env
theorem zzx {own:List Str} {fr:List Nat} {f:Nat} {env:DEnv} {i:Nat} {s:Sl} (e:(zlg own fr f env)[i]?=some s):s=.no∨∃ j k,i=own.length+k∧fr[k]?=some j∧s=if j=f then env.getD j .no else zxz (env.getD j .no):=by
 unfold zlg at e
 by_cases hi:i<own.length
 ·rw [qm (by simpa using hi),qY,qF hi] at e
  cases e
  exact .inl rfl
 ·rw [qq (by simpa using hi),qE,qY] at e
  cases ej:fr[i - own.length]? with
  | none=>rw [ej] at e;cases e
  | some j =>
   rw [ej] at e
   exact .inr ⟨j,i - own.length,by omega,ej,(qT e).symm⟩
theorem zahp {s:Sl} {d:PyData}:zxz s≠.ac d:=by cases s<;>(intro z;cases z)
theorem zahq {s:Sl} {d:PyData} (h:zxz s=.pl d):s=.pl d∨s=.ac d:=by
 cases s with
 | no=>cases h
 | pl d'=>cases h;exact .inl rfl
 | ac d'=>cases h;exact .inr rfl
theorem getD_some {env:DEnv} {j:Nat} {s:Sl} (h:env.getD j .no=s) (hs:s≠.no):env[j]?=some s:=by
 rw [qb] at h
 cases e:env[j]? with
 | none=>rw [e] at h;exact absurd h.symm hs
 | some t=>rw [e] at h;exact congrArg some h
section
variable {own:List Str} {fr:List Nat} {f k:Nat} {env:DEnv}
theorem zmn (hk:fr[k]?=some f) (nd:fr.Nodup) {i:Nat} {d:PyData} (e:(zlg own fr f env)[i]?=some (.ac d)):i=own.length+k∧env[f]?=some (.ac d):=by
 rcases zzx e with z|⟨j,k',rfl,hj,z⟩
 ·cases z
 ·split at z
  ·rename_i hjf
   subst hjf
   have:k'=k:=(List.getElem?_inj (qR.mp hj).1 nd).mp (hj.trans hk.symm)
   subst this
   exact ⟨rfl,getD_some z.symm (by intro y;cases y)⟩
  ·exact absurd z.symm zahp
theorem zahr (hf:∃ d,env[f]?=some (.ac d)) {i:Nat} {d:PyData} (e:(zlg own fr f env)[i]?=some (.pl d)):∃ j k,i=own.length+k∧fr[k]?=some j∧j≠f∧(env[j]?=some (.pl d)∨env[j]?=some (.ac d)):=by
 rcases zzx e with z|⟨j,k',rfl,hj,z⟩
 ·cases z
 ·refine ⟨j,k',rfl,hj,?_⟩
  split at z
  ·rename_i hjf
   subst hjf
   obtain ⟨d',e'⟩:=hf
   rw [qb,e'] at z
   cases z
  ·rename_i hjf
   refine ⟨hjf,?_⟩
   rcases zahq z.symm with y|y
   ·exact .inl (getD_some y (by intro w;cases w))
   ·exact .inr (getD_some y (by intro w;cases w))
theorem zalr (hk:fr[k]?=some f) {d:PyData} (e:env[f]?=some (.ac d)):(zlg own fr f env)[own.length+k]?=some (.ac d):=by
 unfold zlg
 rw [qq (by simp),qE,qCJ,qY,hk]
 show some (if f=f then env.getD f .no else _)=_
 rw [if_pos rfl,qb,e];rfl
end
theorem EnvOk.feedOnly {fx:Addr→Prop} {H0:Hp} {e1 e2:DEnv} {σ:St} {H H':Hp} {f:Nat} {d':PyData} (k1:EnvOk fx H0 e1 σ H) (only:∀ (j:Nat) (d:PyData),e1[j]?=some (.ac d)→j=f) (m:MvF f e1 e2 σ H H') (k2:EnvOk fx H0 e2 σ H') (ed:e2[f]?=some (.ac d')) :
  EnvOk fx H0 (e1.set f (.ac d')) σ H':=by
 obtain ⟨d0,e0⟩:=m.at0
 obtain ⟨a,g1,g2,g3,g4⟩:=k2.ac f d' ed
 have ow1:∀ b,own e1 σ b→b=a:=by
  rintro b ⟨j,d,z1,z2⟩
  rw [only j d z1,g1] at z2
  cases z2;rfl
 have ows:∀ b,own (e1.set f (.ac d')) σ b→b=a:=by
  rintro b ⟨j,d,z1,z2⟩
  rcases zbx z1 with ⟨rfl,_⟩|⟨_,y⟩
  ·rw [g1] at z2;cases z2;rfl
  ·exact ow1 b ⟨j,d,y,z2⟩
 refine ⟨by rw [qr];exact k1.len,fun i d e=>?_,fun i d e=>?_,fun i j d e b z1 z2 _ _=>?_,k2.base,k2.fxs⟩
 ·rcases zbx e with ⟨_,y⟩|⟨_,y⟩
  ·cases y
  ·obtain ⟨v,w1,w2⟩:=k1.pl i d y
   refine ⟨v,w1,Rp.same (fun b o eb=>?_) _ w2⟩
   obtain ⟨n,eb⟩:=Offs.of eb
   have hb:b≠a:=fun z=>n (.inr ⟨f,d0,e0,by rw [z];exact g1⟩)
   rw [Offs.get fun z=>z.elim (fun y=>n (.inl y)) fun y=>hb (ows b y)]
   exact m.keep b o (fun z=>by rw [g1] at z;cases z;exact hb rfl) eb
 ·rcases zbx e with ⟨rfl,y⟩|⟨hn,y⟩
  ·cases y
   exact ⟨a,g1,g2,g3,g4.same (Offs.sub fun b z=>z.imp id fun y=>by rw [ows b y];exact ⟨i,_,ed,g1⟩) fun o z=>z⟩
  ·exact absurd (only i d y) hn
 ·have c:∀ {i:Nat} {d:PyData},(e1.set f (.ac d'))[i]?=some (.ac d)→i=f:=fun {i d} z=>by
   rcases zbx z with ⟨y,_⟩|⟨_,y⟩
   ·exact y
   ·exact only i d y
  rw [c z1,c z2]
theorem EnvOk.weaken2 {fx:Addr→Prop} {H0:Hp} {env e1:DEnv} {σ:St} {H:Hp} (h:EnvOk fx H0 e1 σ H) (hl:env.length=e1.length) (hp:∀ (i:Nat) (s:Sl),env[i]?=some s→s=.no∨e1[i]?=some s) (ha:∀ (i:Nat) (d:PyData),e1[i]?=some (.ac d)→env[i]?=some (.ac d)):EnvOk fx H0 env σ H:=by
 have hac:∀ {i:Nat} {d:PyData},env[i]?=some (.ac d)→e1[i]?=some (.ac d):=fun {i d} e=>(hp i _ e).elim (fun z=>by cases z) id
 have ow:∀ b,own env σ b→own e1 σ b:=fun b ⟨i,d,z1,z2⟩=>⟨i,d,hac z1,z2⟩
 refine ⟨hl.trans h.len,fun i d e=>?_,fun i d e=>?_,fun i j d e a z1 z2=>h.inj i j d e a (hac z1) (hac z2),h.base,h.fxs⟩
 ·rcases hp i _ e with z|z
  ·cases z
  ·obtain ⟨v,w1,w2⟩:=h.pl i d z
   exact ⟨v,w1,Rp.same (Offs.sub fun b z=>z.imp id (ow b)) _ w2⟩
 ·obtain ⟨a,w1,w2,w3,w4⟩:=h.ac i d (hac e)
  exact ⟨a,w1,w2,w3,w4.same (Offs.sub fun b z=>z.imp id (ow b)) fun o z=>z⟩
noncomputable def zmo (g:GT) (e:EFf) (f':Nat):DEnv→List PyData→Option (List PyData×DEnv)
 | env,[]=>some ([],env)
 | env,d::ds=>(g d env).bind fun e1=>(e e1).bind fun x=>match x.2[f']? with
  | some (.ac d')=>(zmo g e f' (env.set f' (.ac d')) ds).map fun z=>(x.1.d::z.1,z.2)
  | _=>none
noncomputable def ztu (own:List Str) (fr:List Nat) (k f:Nat) (fi:IF') (g:GT) (e:EFf):EFf:=fun env=>match env[f]? with
 | some (.ac _)=>(fi env).bind fun z=>if z.1.length<100000∧f∉z.2 then (zmo g e (own.length+k) (zlg own fr f env) z.1).bind fun y=>(match y.2[own.length+k]? with
  | some (.ac d1)=>if zou d1=true then some (⟨.list y.1,true,if zds y.1=true then [] else z.2++capF fr f env⟩,env.set f (.ac d1)) else none
  | _=>none) else none
 | _=>none
theorem zsc {fx:Addr→Prop} {H0:Hp} {env:DEnv} {σ:St} {H1:Hp} {p a:Addr} {f k:Nat} {own:List Str} {fr bs:List Nat} {d0:PyData} (hk:fr[k]?=some f) (nd:fr.Nodup) (h1:EnvOk fx H0 env σ H1) (hp:H1 p=none) (ef:env[f]?=some (.ac d0)) (ea:σ[f]?=some (some (.ref a))) :
  EnvOk (fun b=>(lim fx env σ (bs++capF fr f env) b∧b≠a)∨b=p) (Offs (fun b=>b=a) H1) (zlg own fr f env) (tau own fr σ) (upd H1 p (.lst [])):=by
 have sp:Same H1 (upd H1 p (.lst [])):=Same.new hp
 have oa:L2.own env σ a:=⟨f,d0,ef,ea⟩
 have hpa:p≠a:=fun z=>by
  obtain ⟨o,eo⟩:=h1.all a (.inr oa)
  rw [← z,hp] at eo;cases eo
 have tf:(tau own fr σ)[own.length+k]?=some (some (.ref a)):=zng hk ea
 have ow:∀ b,L2.own (zlg own fr f env) (tau own fr σ) b→b=a:=by
  rintro b ⟨i,d,z1,z2⟩
  rw [(zmn hk nd z1).1,tf] at z2
  cases z2;rfl
 have so:Same (Offs (fun b=>fx b∨L2.own env σ b) H1) (Offs (fun b=>((lim fx env σ (bs++capF fr f env) b∧b≠a)∨b=p)∨L2.own (zlg own fr f env) (tau own fr σ) b) (upd H1 p (.lst []))):=Offs.mono sp fun b o e n z=>by
  rcases z with (z|z)|z
  ·exact n (zlq b z.1)
  ·rw [z,hp] at e;cases e
  ·exact n (.inr (by rw [ow b z];exact oa))
 refine ⟨by unfold zlg tau;simp,fun i d e=>?_,fun i d e=>?_,fun i j d e b z1 z2 _ _=>?_,(Offs.same _ _).trans sp,fun b z=>?_⟩
 ·obtain ⟨j,k',rfl,hj,hjf,hj'⟩:=zahr ⟨d0,ef⟩ e
  rcases hj' with hj'|hj'
  ·obtain ⟨v,h2,h3⟩:=h1.pl j d hj'
   exact ⟨v,zng hj h2,Rp.same so _ h3⟩
  ·obtain ⟨c,h2,h3,h4,h5⟩:=h1.ac j d hj'
   have hca:c≠a:=fun z=>hjf (h1.inj j f d d0 a hj' ef (by rw [← z];exact h2) ea)
   refine ⟨_,zng hj h2,h5.rp so fun o eo=>?_⟩
   rw [Offs.get]
   ·exact sp _ _ eo
   ·rintro ((⟨z,_⟩|z)|z)
    ·rcases z with z|⟨i',d',z1,z2,z3⟩
     ·exact h4 z
     ·have e2:=h1.inj i' j d' d c z2 hj' z3 h2
      subst e2
      refine z1 (qW _ (qx.mpr ⟨qx.mpr ⟨qA8 hj,by simpa using hjf⟩,?_⟩))
      rw [hj'];rfl
    ·rw [z,hp] at eo;cases eo
    ·exact hca (ow c z)
 ·obtain ⟨rfl,e'⟩:=zmn hk nd e
  obtain ⟨c,h2,h3,h4,h5⟩:=h1.ac f d e'
  rw [ea] at h2
  cases h2
  exact ⟨a,tf,Offs.out rfl,fun z=>z.elim (fun y=>y.2 rfl) fun y=>hpa y.symm,h5.same so fun o=>sp a o⟩
 ·rw [(zmn hk nd z1).1,(zmn hk nd z2).1]
 ·rcases z with ⟨z,_⟩|z
  ·obtain ⟨o,e⟩:=h1.lims _ b z;exact ⟨o,sp b o e⟩
  ·rw [z];exact ⟨_,zbe⟩
noncomputable def GP (g:GT):Prop:=∀ d env e1,g d env=some e1→∀ (j:Nat) (d':PyData),e1[j]?=some (.ac d')→env[j]?=some (.ac d')
theorem zals {i:Nat}:GP (gN i):=by
 intro d env e1 e j d' z
 cases e
 rcases zbx z with ⟨_,y⟩|⟨_,y⟩
 ·cases y
 ·exact y
theorem zahs {own:List Str} {fr:List Nat} {k f:Nat} {wi:TI} {g:TG} {tt:TT} {te:TE} {fi:IF'} {gf:GT} {e:EFf} (hk:fr[k]?=some f) (nd:fr.Nodup) (h1:SI wi fi) (h2:SGk (fun j=>own.length≤j) g gf) (hx:GX own.length gf) (hg:GP gf) (h3:ST tt zhc) (h4:SEf (own.length+k) te e) :
  SEf f (tComp1 wi g tt te own fr) (ztu own fr k f fi gf e):=by
 intro fx H0 env σ H h rr env' hr Q q
 unfold ztu at hr
 split at hr
 ·rename_i d0 ef
  obtain ⟨⟨ds,bs⟩,ei,hr⟩:=qA.mp hr
  split at hr
  ·rename_i hlen
   obtain ⟨⟨rs,ez⟩,ers,hr⟩:=qA.mp hr
   have hlen:ds.length<100000∧f∉bs:=hlen
   obtain ⟨a,ea,ga2,ga3,ga4⟩:=h.ac f d0 ef
   refine h1 fx H0 env σ H h ds bs ei _ fun J H1 s yl=>fun p hp=>?_
   have hu:=h.up s
   have hB:=zsc (own:=own) (bs:=bs) hk nd hu hp ef ea
   obtain ⟨o0,eo0⟩:=ga4.ex
   have eo0:=s _ _ eo0
   have hpa:p≠a:=fun z=>by rw [← z,hp] at eo0;cases eo0
   generalize hA:(fun b=>lim fx env σ (bs++capF fr f env) b∧b≠a)=A at hB
   have hA':∀ b,(lim fx env σ (bs++capF fr f env) b∧b≠a)↔A b:=fun b=>by rw [← hA]
   have hB:EnvOk (fun b=>A b∨b=p) (Offs (fun b=>b=a) H1) (zlg own fr f env) (tau own fr σ) (upd H1 p (.lst [])):=by
    have:(fun b=>(lim fx env σ (bs++capF fr f env) b∧b≠a)∨b=p)=fun b=>A b∨b=p:=by rw [← hA]
    rw [← this];exact zsc (own:=own) (bs:=bs) hk nd hu hp ef ea
   have nA:¬ A a:=fun z=>((hA' a).mpr z).2 rfl
   have nAp:¬ A p:=fun z=>by
    obtain ⟨o,eo⟩:=hu.lims _ p ((hA' p).mpr z).1
    rw [hp] at eo;cases eo
   let BE:DEnv→Prop:=fun ek=>∃ d,ek=(zlg own fr f env).set (own.length+k) (.ac d)
   have ff:=zalr (own:=own) hk ef
   have fl:own.length+k<(zlg own fr f env).length:=(qR.mp ff).1
   have be0:BE (zlg own fr f env):=⟨d0,by
    refine List.ext_getElem? fun i=>?_
    by_cases hi:i=own.length+k
    ·subst hi;rw [ql fl,ff]
    ·rw [qS fun z=>hi z.symm]⟩
   have beac:∀ {ek:DEnv},BE ek→∀ (j:Nat) (d:PyData),ek[j]?=some (.ac d)→j=own.length+k:=by
    rintro ek ⟨d,rfl⟩ j d' z
    rcases zbx z with ⟨y,_⟩|⟨_,y⟩
    ·exact y
    ·exact (zmn hk nd y).1
   have benx:∀ {ek:DEnv},BE ek→∀ d,BE (ek.set (own.length+k) (.ac d)):=by
    rintro ek ⟨d,rfl⟩ d'
    exact ⟨d',by rw [List.set_set]⟩
   have beno:∀ {ek:DEnv},BE ek→∀ i,i<own.length→ek[i]?=some .no:=by
    rintro ek ⟨d,rfl⟩ i hi
    rw [qS (by omega)]
    unfold zlg
    rw [qm (by simpa using hi),qY,qF hi];rfl
   have ownE:∀ {ek:DEnv} {σ':St},BE ek→σ'[own.length+k]?=some (some (.ref a))→∀ b,L2.own ek σ' b→b=a:=by
    rintro ek σ' he hs b ⟨j,d,z1,z2⟩
    rw [beac he j d z1,hs] at z2
    cases z2;rfl
   have seen:∀ {ek:DEnv} {σ':St} {H':Hp},EnvOk (fun b=>A b∨b=p) (Offs (fun b=>b=a) H1) ek σ' H'→Same (Offs (fun b=>fx b∨L2.own (frzs env bs) σ b) H1) (Offs (fun b=>(A b∨b=p)∨b=a) H'):=fun {ek σ' H'} hE b o eb=>by
    obtain ⟨n,eb⟩:=Offs.of eb
    have hba:b≠a:=fun z=>n (.inr ⟨f,d0,zgo hlen.2 ef,by rw [z];exact ea⟩)
    rw [Offs.get]
    ·exact hE.base b o (by rw [Offs.get (A:=fun b=>b=a) hba];exact eb)
    ·rintro ((z|z)|z)
     ·rcases ((hA' b).mpr z).1 with z|⟨i,d,z1,z2,z3⟩
      ·exact n (.inl z)
      ·exact n (.inr ⟨i,d,zgo (fun y=>z1 (qv _ y)) z2,z3⟩)
     ·rw [z,hp] at eb;cases eb
     ·exact hba z
   have tf:(tau own fr σ)[own.length+k]?=some (some (.ref a)):=zng hk ea
   refine ⟨fun i m σ' H'=>m=ds.length - i∧i≤ds.length∧σ'[own.length+k]?=some (some (.ref a))∧∃ vs done rest ek,H' p=some (.lst vs)∧Rps (Offs (fun b=>(A b∨b=p)∨b=a) H') done vs∧done.length≤i∧zmo gf e (own.length+k) ek (ds.drop i)=some (rest,ez)∧done++rest=rs∧BE ek∧EnvOk (fun b=>A b∨b=p) (Offs (fun b=>b=a) H1) ek σ' H',
    ⟨ds.length,rfl,qAP _,tf,[],[],rs,_,zbe,zen,qAP _,ers,rfl,be0,hB⟩,?_⟩
   rintro i m σ' H' ⟨rfl,hi,hs',vs,done,rest,ek,ep,rd,dl,ec,edr,be,hE⟩
   have hall:∀ b,(A b∨b=p)∨b=a→∃ o,H' b=some o:=by
    rintro b (z|z)
    ·exact hE.fxs b z
    ·obtain ⟨d,ed⟩:∃ d,ek[own.length+k]?=some (.ac d):=by
      obtain ⟨d,rfl⟩:=be
      exact ⟨d,ql fl⟩
     exact hE.all b (.inr ⟨_,d,ed,by rw [z];exact hs'⟩)
   obtain ⟨yi,ys⟩:=yl _ H' hall (seen hE)
   by_cases hlt:i<ds.length
   ·obtain ⟨yg,yy⟩:=yi i ds[i] (qF hlt)
    refine .inr ⟨yg,fun σ'' H''=>i+1≤ds.length∧σ''[own.length+k]?=some (some (.ref a))∧∃ vs done rest ek,H'' p=some (.lst vs)∧Rps (Offs (fun b=>(A b∨b=p)∨b=a) H'') done vs∧done.length≤i+1∧zmo gf e (own.length+k) ek (ds.drop (i+1))=some (rest,ez)∧done++rest=rs∧BE ek∧EnvOk (fun b=>A b∨b=p) (Offs (fun b=>b=a) H1) ek σ'' H'',?_,?_⟩
    ·rintro σ'' H'' ⟨hle,hh⟩
     exact ⟨ds.length - (i+1),by omega,rfl,hle,hh⟩
    ·intro x H'' hy
     obtain ⟨sy,ry⟩:=yy x H'' hy
     rw [qAH hlt] at ec
     obtain ⟨e1,ee1,ec⟩:=qA.mp ec
     obtain ⟨⟨r,e2⟩,er,ec⟩:=qA.mp ec
     have ry':Rp (Offs (fun b=>(A b∨b=p)∨L2.own ek σ' b) H'') ds[i] x:=Rp.same (Offs.sub fun b z=>z.imp id (ownE be hs' b)) _ ry
     refine h2 _ _ ek σ' H'' _ x (hE.up sy) ry' e1 ee1 _ fun σ2 hE2 kp=>?_
     have hs2:σ2[own.length+k]?=some (some (.ref a)):=(kp _ (qAT _ _)).trans hs'
     refine h3 _ _ e1 σ2 H'' hE2 true rfl _ fun H3 s3=>?_
     have hE3:=hE2.up s3
     obtain ⟨gl,gk⟩:=hx _ _ _ ee1
     have only:∀ (j:Nat) (d:PyData),e1[j]?=some (.ac d)→j=own.length+k:=fun j d z=>by
      by_cases hj:own.length≤j
      ·rw [gk j hj] at z;exact beac be j d z
      ·have y:=hg _ _ _ ee1 j d z
       rw [beno be j (by omega)] at y
       cases y
     have ec:(match e2[own.length+k]? with
      | some (.ac d')=>(zmo gf e (own.length+k) (ek.set (own.length+k) (.ac d')) (ds.drop (i+1))).map fun z=>(r.d::z.1,z.2)
      | _=>none)=some (rest,ez):=ec
     split at ec
     ·rename_i d' ed'
      obtain ⟨⟨rest',ez'⟩,er',ec⟩:=qH.mp ec
      cases ec
      refine iteT (h4 _ _ e1 σ2 H3 hE3 r e2 er _ fun v H4 m4 k4 n4 hv _=>?_)
      have t3:=sy.trans s3
      have ep4:H4 p=some (.lst vs):=m4.keep p _ (fun z=>by rw [hs2] at z;cases z;exact hpa rfl) (t3 _ _ ep)
      have so4:Same (Offs (fun b=>(A b∨b=p)∨b=a) H') (Offs (fun b=>(A b∨b=p)∨b=a) H4):=fun b o eb=>by
       obtain ⟨n,eb⟩:=Offs.of eb
       rw [Offs.get n]
       exact m4.keep b o (fun z=>by rw [hs2] at z;cases z;exact n (.inr rfl)) (t3 _ _ eb)
      have hE4:=hE3.feedOnly only m4 k4 ed'
      have hE5:EnvOk (fun b=>A b∨b=p) (Offs (fun b=>b=a) H1) (ek.set (own.length+k) (.ac d')) σ2 H4:=by
       refine hE4.weaken2 (by rw [qr,qr];exact gl.symm) (fun j sl z=>?_) fun j d z=>?_
       ·rcases zbx z with ⟨rfl,y⟩|⟨hn,y⟩
        ·right
         rw [y,ql]
         rw [gl]
         obtain ⟨d9,rfl⟩:=be
         rw [qr];exact fl
        ·by_cases hj:own.length≤j
         ·right;rw [qS fun z=>hn z.symm,gk j hj];exact y
         ·left
          rw [beno be j (by omega)] at y
          exact (qT y).symm
       ·rcases zbx z with ⟨rfl,y⟩|⟨hn,y⟩
        ·cases y
         refine ql ?_
         obtain ⟨d9,rfl⟩:=be
         rw [qr];exact fl
        ·exact absurd (only j d y) hn
      refine ⟨vs,ep4,znb (by rw [← rd.length];omega),hlt,hs2,vs++[v],done++[r.d],rest',_,zbe,?_,by rw [qJ];simp;omega,er',by rw [← edr];simp,benx be d',hE5.updFx (.inr rfl) (by rw [Offs.get (A:=fun b=>b=a) hpa];exact hp)⟩
      rw [Offs.upd (.inl (.inr rfl))]
      refine (Rps.same so4 _ rd).append (zdq (Rp.same (Offs.sub fun b z=>?_) _ hv.rp) zen)
      rcases z with z|z
      ·exact .inl z
      ·exact .inr ⟨own.length+k,d',n4,ed',by rw [z];exact hs2⟩
     ·cases ec
   ·have hi':i=ds.length:=by omega
    subst hi'
    rw [qAg] at ec
    cases ec
    rw [qAS] at edr
    subst edr
    have hr:(match ez[own.length+k]? with
     | some (.ac d1)=>if zou d1=true then some ((⟨.list done,true,if zds done=true then [] else bs++capF fr f env⟩:Val),env.set f (.ac d1)) else none
     | _=>none)=some (rr,env'):=hr
    split at hr
    ·rename_i d1 ed1
     by_cases hfl:zou d1=true
     rotate_left
     ·rw [if_neg hfl] at hr;cases hr
     rw [if_pos hfl] at hr
     cases hr
     obtain ⟨a',w1,_,_,w4⟩:=hE.ac _ d1 ed1
     rw [hs'] at w1
     cases w1
     obtain ⟨o1,eo1⟩:=w4.ex
     have kb:∀ b o,b≠a→H1 b=some o→H' b=some o:=fun b o hb eb=>hE.base b o (by rw [Offs.get (A:=fun b=>b=a) hb];exact eb)
     have s2:Same H1 (upd H' a o0):=fun b o eb=>by
      by_cases hb:b=a
      ·subst hb;rw [zbe,← eb,eo0]
      ·rw [zbk hb];exact kb b o hb eb
     have e2:upd (upd H' a o0) a o1=H':=by
      funext b
      by_cases hb:b=a
      ·subst hb;rw [zbe,eo1]
      ·rw [zbk hb,zbk hb]
     have mk:∀ {fx':Addr→Prop},EnvOk fx' H0 env σ (upd H' a o0)→EnvOk fx' H0 (env.set f (.ac d1)) σ H':=fun {fx'} hh=>by
      have:=hh.mut (d':=d1) (o:=o1) ef ea (by rw [e2];exact ztr hfl w4)
      rw [e2] at this
      exact this
     have fle:f<env.length:=(qR.mp ef).1
     have mv:MvF f env (env.set f (.ac d1)) σ H H':=⟨fun j d hj z=>by rw [qS fun z=>hj z.symm] at z;exact z,⟨_,ef⟩,⟨d1,ql fle⟩,
      fun b o nb eb=>kb b o (fun z=>nb (by rw [z];exact ea)) (s _ _ eb),fun b o eb=>by
       by_cases hb:b=a
       ·exact ⟨o1,by rw [hb];exact eo1⟩
       ·exact ⟨o,kb b o hb (s _ _ eb)⟩⟩
     have nl:∀ cs,¬ lim fx (env.set f (.ac d1)) σ cs p:=fun cs z=>by
      obtain ⟨o,eo⟩:=hu.lims _ p (mv.lim p z)
      rw [hp] at eo;cases eo
     have lz:∀ b,lim fx (env.set f (.ac d1)) σ (bs++capF fr f env) b→(A b∨b=p)∨b=a:=fun b z=>by
      by_cases hb:b=a
      ·exact .inr hb
      ·exact .inl (.inl ((hA' b).mp ⟨mv.lim b z,hb⟩))
     have hf1:f∉(if zds done=true then [] else bs++capF fr f env):=by
      split
      ·simp
      ·intro z
       rcases qAB.mp z with z|z
       ·exact hlen.2 z
       ·have:=(qx.mp (qx.mp z).1).2
        simp at this
     refine .inl ⟨ys,q _ H' mv (mk (hu.up s2)) hf1 ⟨?_,fun _=>⟨p,rfl,s.free hp,?_⟩⟩ fun _=>⟨p,rfl,mk (hu.new s2 hp ⟨_,by rw [zbk hpa];exact ep⟩)⟩⟩
     ·show Rp (Offs (lim fx (env.set f (.ac d1)) σ (if zds done=true then [] else bs++capF fr f env)) H') (.list done) (.ref p)
      refine ziw (by rw [Offs.get (nl _)];exact ep) ?_
      split
      ·rename_i ff;exact zib ff rd
      ·exact Rps.same (Offs.sub lz) _ rd
     ·show zeo (Offs (fun b=>lim fx (env.set f (.ac d1)) σ (if zds done=true then [] else bs++capF fr f env) b∨b=p) H') H' p (.list done)
      refine ⟨vs,ep,?_⟩
      split
      ·rename_i ff;exact zib ff rd
      ·exact Rps.same (Offs.sub fun b z=>z.elim (lz b) fun y=>.inl (.inr y)) _ rd
    ·cases hr
  ·cases hr
 ·cases hr
end L2
namespace PySem
open Sem (wp)
noncomputable abbrev zjq (h:Heap) (T:Addr) (a b c:Value):Prop:=h.get? T=some {cls:=.type "tuple",data:=.seq #[a,b,c]}
structure Z3A (z TI TO i1 i2 i3 l1 l2 l3:Addr):Prop where
 TIz:TI≠z
 TOz:TO≠z
 TITO:TI≠TO
 i1z:i1≠z
 i2z:i2≠z
 i3z:i3≠z
 TI1:TI≠i1
 TI2:TI≠i2
 TI3:TI≠i3
 TO1:TO≠i1
 TO2:TO≠i2
 TO3:TO≠i3
 i12:i1≠i2
 i13:i1≠i3
 i23:i2≠i3
 l1z:l1≠z
 l2z:l2≠z
 l3z:l3≠z
 l2O:l2≠TO
 l3O:l3≠TO
 l21:l2≠i1
 l31:l3≠i1
 l32:l3≠i2
structure Zip3At (b1 b2 b3:Bool) (h:Heap) (z TI TO i1 i2 i3 l1 l2 l3:Addr) (f0:Value) (k:Nat):Prop where
 z:IsZip h z TI TO f0
 ti:zjq h TI (.ref i1) (.ref i2) (.ref i3)
 to:∃ a b c,zjq h TO a b c
 i1:SqIt b1 h i1 l1 k
 i2:SqIt b2 h i2 l2 k
 i3:SqIt b3 h i3 l3 k
section
variable {prog:Program} {w:World} {A:Around} {E:Value→Shared→Prop} {s:Shared}
theorem ztv {T:Addr} {a b c x:Value} {k:Nat} {Q:Unit→Shared→Prop} (hT:zjq s.heap T a b c)
  (h:∀ h',h'.get? T=some {cls:=.type "tuple",data:=.seq ((#[a,b,c]:Array Value).setIfInBounds k x)}→Heap.SameBut T s.heap h'→Q () {s with heap:=h'}) :
  wpAny (model prog w) A (updateSeq T (·.setIfInBounds k x)) Q E s:=by
 refine wpAny_updateSeq hT rfl (h _ ?_ (qBM ..))
 rw [qBW _ hT rfl]
 simp [Obj.mapSeq]
variable {b1 b2 b3:Bool} {z TI TO i1 i2 i3 l1 l2 l3:Addr} {k:Nat} {xs ys zs:Array Value}
theorem zafb {Q:Fin→Shared→Prop} (D:Z3A z TI TO i1 i2 i3 l1 l2 l3) (hz:Zip3At b1 b2 b3 s.heap z TI TO i1 i2 i3 l1 l2 l3 .none k) (hl1:zeh b1 s.heap l1 xs) (hl2:zeh b2 s.heap l2 ys) (hl3:zeh b3 s.heap l3 zs)
  (hE:(xs[k]?=none∨ys[k]?=none∨zs[k]?=none)→∀ h' e,(∀ c o,c≠z→c≠TO→c≠i1→c≠i2→c≠i3→s.heap.get? c=some o→h'.get? c=some o)→(∃ o,h'.get? e=some o∧o.cls=.type "StopIteration")→E (.ref e) {s with heap:=h'}) (hh:A.handled=none)
  (hS:xs[k]?=none∨ys[k]?=none∨zs[k]?=none∨∃ x y w',xs[k]?=some x∧ys[k]?=some y∧zs[k]?=some w' ∧
   ∀ h',Zip3At b1 b2 b3 h' z TI TO i1 i2 i3 l1 l2 l3 (rawInt s.heap.objs.size) (k+1)→zjq h' s.heap.objs.size x y w' →
   (∀ c o,c≠z→c≠TO→c≠i1→c≠i2→c≠i3→s.heap.get? c=some o→h'.get? c=some o)→Q (.done (.ret (.ref s.heap.objs.size))) {s with heap:=h'}) :
  wpAny (model prog w) A (Builtin.«zip.__next__» ⟨[.ref z],[]⟩) Q E s:=by
 obtain ⟨p1,p2,⟨a,b,c,p3⟩,p4,p5,p6⟩:=hz
 show wpAny _ _ (field (.ref z) 2 >>= _) _ _ _
 refine qD (qAU p1 rfl (x:=.bool false) rfl ?_)
 show wpAny _ _ (field (.ref z) 3 >>= _) _ _ _
 refine qD (qAU p1 rfl (x:=.ref TI) rfl ?_)
 refine qD (qAO p2 rfl ?_)
 show wpAny _ _ (Builtin.SmallTypes.ownedTupleIsFree (.ref z) >>= _) _ _ _
 refine qD ?_
 unfold Builtin.SmallTypes.ownedTupleIsFree
 refine qD (qAU p1 rfl (x:=.none) rfl (qc ?_))
 simp only [if_true]
 refine qD (qB1 ?_)
 refine qD (qAU p1 rfl (x:=.ref TO) rfl ?_)
 refine qD (qAM p1 (by simp) fun h₁ q1 s1=>?_)
 replace q1:IsZip h₁ z TI TO .ellipsis:=q1
 refine qD ?_
 simp only [qBo,qBx,qBU,qB8]
 have fin:∀ {h h':Heap} {e:Addr} {j:Addr},(xs[k]?=none∨ys[k]?=none∨zs[k]?=none)→IsZip h z TI TO .ellipsis→j≠z→(∀ c o,c≠z→c≠TO→c≠i1→c≠i2→c≠i3→s.heap.get? c=some o→h.get? c=some o)→(j=i1∨j=i2∨j=i3)→Heap.ExtBut j h h'→(∃ o,h'.get? e=some o∧o.cls=.type "StopIteration") →
   wpAny (model prog w) A (setField (.ref z) 0 .none) (fun _ s'=>E (.ref e) s') E {s with heap:=h'}:=fun {h h' e j} hnn hz hj kp hjj sb he=>by
  obtain ⟨oe,hoe,hce⟩:=he
  have hz2:IsZip h' z TI TO .ellipsis:=sb _ _ hj.symm hz
  have hez:e≠z:=fun x=>by subst x;rw [hz2] at hoe;cases hoe;simp at hce
  refine qAM hz2 (by simp) fun h3 _ s3=>hE hnn h3 e (fun c o c1 c2 c3 c4 c5 x=>s3.extBut _ _ c1 (sb _ _ ?_ (kp c o c1 c2 c3 c4 c5 x))) ⟨oe,s3.extBut _ _ hez hoe,hce⟩
  rcases hjj with rfl|rfl|rfl
  ·exact c3
  ·exact c4
  ·exact c5
 have k1:∀ c o,c≠z→c≠TO→c≠i1→c≠i2→c≠i3→s.heap.get? c=some o→h₁.get? c=some o:=fun c o c1 _ _ _ _ e=>s1.extBut _ _ c1 e
 refine qD (qD (qA1 ?_))
 show wpAny _ _ (qi (.ref i1) >>= _) _ _ _
 cases hx:xs[k]? with
 | none =>
  exact qD (zvs hh (p4.extBut s1.extBut D.i1z) (hl1.extBut s1.extBut D.l1z) hx fun h2 e s2 he=>fin (.inl hx) q1 D.i1z k1 (.inl rfl) s2 he)
 | some x =>
  refine qD (znm (p4.extBut s1.extBut D.i1z) (hl1.extBut s1.extBut D.l1z) hx fun h2 n2 s2=>qc ?_)
  have t2:zjq h2 TO a b c:=s2.extBut _ _ D.TO1 (s1.extBut _ _ D.TOz p3)
  refine qD (qAO t2 rfl ?_)
  refine qD (ztv t2 fun h3 t3 s3=>?_)
  replace t3:zjq h3 TO x b c:=t3
  refine qD (qBZ (qc ?_))
  have q3:IsZip h3 z TI TO .ellipsis:=s3.extBut _ _ D.TOz.symm (s2.extBut _ _ D.i1z.symm q1)
  have k3:∀ c o,c≠z→c≠TO→c≠i1→c≠i2→c≠i3→s.heap.get? c=some o→h3.get? c=some o:=fun c o c1 c2 c3 c4 c5 e=>s3.extBut _ _ c2 (s2.extBut _ _ c3 (k1 c o c1 c2 c3 c4 c5 e))
  have a2:SqIt b2 h3 i2 l2 k:=((p5.extBut s1.extBut D.i2z).extBut s2.extBut D.i12.symm).extBut s3.extBut D.TO2.symm
  have m2:zeh b2 h3 l2 ys:=((hl2.extBut s1.extBut D.l2z).extBut s2.extBut D.l21).extBut s3.extBut D.l2O
  have a3:SqIt b3 h3 i3 l3 k:=((p6.extBut s1.extBut D.i3z).extBut s2.extBut D.i13.symm).extBut s3.extBut D.TO3.symm
  have m3:zeh b3 h3 l3 zs:=((hl3.extBut s1.extBut D.l3z).extBut s2.extBut D.l31).extBut s3.extBut D.l3O
  have a1:SqIt b1 h3 i1 l1 (k+1):=n2.extBut s3.extBut D.TO1.symm
  refine qD (qD (qA1 ?_))
  show wpAny _ _ (qi (.ref i2) >>= _) _ _ _
  cases hy:ys[k]? with
  | none=>exact qD (zvs hh a2 m2 hy fun h4 e s4 he=>fin (.inr (.inl hy)) q3 D.i2z k3 (.inr (.inl rfl)) s4 he)
  | some y =>
   refine qD (znm a2 m2 hy fun h4 n4 s4=>qc ?_)
   have t4:zjq h4 TO x b c:=s4.extBut _ _ D.TO2 t3
   refine qD (qAO t4 rfl ?_)
   refine qD (ztv t4 fun h5 t5 s5=>?_)
   replace t5:zjq h5 TO x y c:=t5
   refine qD (qBZ (qc ?_))
   have q5:IsZip h5 z TI TO .ellipsis:=s5.extBut _ _ D.TOz.symm (s4.extBut _ _ D.i2z.symm q3)
   have k5:∀ c o,c≠z→c≠TO→c≠i1→c≠i2→c≠i3→s.heap.get? c=some o→h5.get? c=some o:=fun c o c1 c2 c3 c4 c5 e=>s5.extBut _ _ c2 (s4.extBut _ _ c4 (k3 c o c1 c2 c3 c4 c5 e))
   have a3':SqIt b3 h5 i3 l3 k:=(a3.extBut s4.extBut D.i23.symm).extBut s5.extBut D.TO3.symm
   have m3':zeh b3 h5 l3 zs:=(m3.extBut s4.extBut D.l32).extBut s5.extBut D.l3O
   have a1':SqIt b1 h5 i1 l1 (k+1):=(a1.extBut s4.extBut D.i12).extBut s5.extBut D.TO1.symm
   have a2':SqIt b2 h5 i2 l2 (k+1):=n4.extBut s5.extBut D.TO2.symm
   refine qD (qD (qA1 ?_))
   show wpAny _ _ (qi (.ref i3) >>= _) _ _ _
   cases hw:zs[k]? with
   | none=>exact qD (zvs hh a3' m3' hw fun h6 e s6 he=>fin (.inr (.inr hw)) q5 D.i3z k5 (.inr (.inr rfl)) s6 he)
   | some w' =>
    refine qD (znm a3' m3' hw fun h6 n6 s6=>qc ?_)
    have t6:zjq h6 TO x y c:=s6.extBut _ _ D.TO3 t5
    refine qD (qAO t6 rfl ?_)
    refine qD (ztv t6 fun h7 t7 s7=>?_)
    replace t7:zjq h7 TO x y w':=t7
    refine qD (qBZ (qc (qc ?_)))
    have q7:IsZip h7 z TI TO .ellipsis:=s7.extBut _ _ D.TOz.symm (s6.extBut _ _ D.i3z.symm q5)
    have k7:∀ c o,c≠z→c≠TO→c≠i1→c≠i2→c≠i3→s.heap.get? c=some o→h7.get? c=some o:=fun c o c1 c2 c3 c4 c5 e=>s7.extBut _ _ c2 (s6.extBut _ _ c5 (k5 c o c1 c2 c3 c4 c5 e))
    have a1'':SqIt b1 h7 i1 l1 (k+1):=(a1'.extBut s6.extBut D.i13).extBut s7.extBut D.TO1.symm
    have a2'':SqIt b2 h7 i2 l2 (k+1):=(a2'.extBut s6.extBut D.i23).extBut s7.extBut D.TO2.symm
    have a3'':SqIt b3 h7 i3 l3 (k+1):=n6.extBut s7.extBut D.TO3.symm
    have hsz:h7.objs.size=s.heap.objs.size:=by rw [s7.1,s6.1,s5.1,s4.1,s3.1,s2.1,s1.1]
    refine qD (qAO t7 rfl ?_)
    refine qD (wpAny_newTuple ?_)
    show wpAny _ _ (Builtin.SmallTypes.ownedTupleHandOut (.ref z) (.ref h7.objs.size) >>= _) _ _ _
    refine qD ?_
    unfold Builtin.SmallTypes.ownedTupleHandOut
    have q8:IsZip (h7.push {cls:=.type "tuple",data:=.seq #[x,y,w']}) z TI TO .ellipsis:=qC _ q7
    refine qD (qAM q8 (by simp) fun h9 q9 s9=>?_)
    replace q9:IsZip h9 z TI TO (rawInt h7.objs.size):=q9
    refine qAM q9 (by simp) fun h0 q0 s0=>?_
    replace q0:IsZip h0 z TI TO (rawInt h7.objs.size):=q0
    have zlt:z<h7.objs.size:=qL q7
    have up:∀ c o,c≠z→h7.get? c=some o→h0.get? c=some o:=fun c o c1 e=>s0.extBut _ _ c1 (s9.extBut _ _ c1 (qC _ e))
    have t0:zjq h0 h7.objs.size x y w':=s0.extBut _ _ (qA5 zlt) (s9.extBut _ _ (qA5 zlt) (qU _ rfl))
    rw [hsz] at q0 t0
    rcases hS with z1|z1|z1|⟨x',y',w'',e1,e2,e3,hQ⟩
    ·rw [hx] at z1;cases z1
    ·rw [hy] at z1;cases z1
    ·rw [hw] at z1;cases z1
    ·rw [hx] at e1;cases e1
     rw [hy] at e2;cases e2
     rw [hw] at e3;cases e3
     refine qc ?_
     show Q (.done (.ret (.ref h7.objs.size))) _
     rw [hsz]
     exact hQ h0 ⟨q0,up _ _ D.TIz (k7 _ _ D.TIz D.TITO D.TI1 D.TI2 D.TI3 p2),⟨x,y,w',up _ _ D.TOz t7⟩,a1''.moved fun o e=>up _ o D.i1z e,a2''.moved fun o e=>up _ o D.i2z e,a3''.moved fun o e=>up _ o D.i3z e⟩ t0 fun c o c1 c2 c3 c4 c5 e=>up c o c1 (k7 c o c1 c2 c3 c4 c5 e)
end
end PySem
namespace L2
open PySem PySem.Spec PyProof.Rows
noncomputable def Itz3 (K:qB) (a1 a2 a3:Addr):It :=
 ⟨fun i H=>∃ xs ys zs x y z,SqT K H a1 xs∧SqT K H a2 ys∧SqT K H a3 zs∧xs[i]?=some x∧ys[i]?=some y∧zs[i]?=some z,
  fun i H v H'=>∃ p x y z,v=.ref p∧H p=none∧H'=upd H p (.tup [x,y,z])∧(∀ xs,SqT K H a1 xs→xs[i]?=some x)∧(∀ ys,SqT K H a2 ys→ys[i]?=some y)∧∀ zs,SqT K H a3 zs→zs[i]?=some z,
  fun i H=>∃ xs ys zs,SqT K H a1 xs∧SqT K H a2 ys∧SqT K H a3 zs∧(xs.length≤i∨ys.length≤i∨zs.length≤i)⟩
theorem zafc {P:Program} {w:World} {K:qB} {elts:List Expr} {x1} {tpos:Pos} {z TI TO i1 i2 i3 l1 l2 l3:Addr} (D:Z3A z TI TO i1 i2 i3 l1 l2 l3) :
  Turn P w K (.Tuple elts x1 tpos) (Itz3 K l1 l2 l3) [z,TI,TO,i1,i2,i3] z (fun i h=>Zip3At false false false h z TI TO i1 i2 i3 l1 l2 l3 .none i) where
 mem:=by simp
 obj:=fun i h st b hb=>by
  obtain ⟨a,c,d,hto⟩:=st.to
  simp only [qN,qw,or_false] at hb
  rcases hb with rfl|rfl|rfl|rfl|rfl|rfl
  ·exact ⟨_,st.z,fun v q=>by simp at q⟩
  ·exact ⟨_,st.ti,fun v q=>by simp at q⟩
  ·exact ⟨_,hto,fun v q=>by simp at q⟩
  ·exact st.i1.obj
  ·exact st.i2.obj
  ·exact st.i3.obj
 keep:=fun i h h' st k=>by
  obtain ⟨a,c,d,hto⟩:=st.to
  exact ⟨k z (by simp) _ st.z,k TI (by simp) _ st.ti,⟨a,c,d,k TO (by simp) _ hto⟩,st.i1.moved fun o q=>k i1 (by simp) o q,st.i2.moved fun o q=>k i2 (by simp) o q,st.i3.moved fun o q=>k i3 (by simp) o q⟩
 item:=by
  intro X hP hw hK hc i pins s σ H E I hf st hg
  subst hP hw hK
  obtain ⟨xs,ys,zs,x,y,v,q1,q2,q3,hx,hy,hv⟩:=hg
  obtain ⟨its1,rv1,p1,_⟩:=I.sq (b:=false) q1
  obtain ⟨its2,rv2,p2,_⟩:=I.sq (b:=false) q2
  obtain ⟨its3,rv3,p3,_⟩:=I.sq (b:=false) q3
  obtain ⟨u1,hu1,ru1⟩:=rv1.get hx
  obtain ⟨u2,hu2,ru2⟩:=rv2.get hy
  obtain ⟨u3,hu3,ru3⟩:=rv3.get hv
  have hT:s.TypeIs (.ref z) "zip":=⟨_,st.z,rfl⟩
  have nz:∀ {P':Prop},(its1.toArray[i]?=none∨its2.toArray[i]?=none∨its3.toArray[i]?=none)→P':=fun {P'} z=>by
   rcases z with z|z|z
   ·rw [show its1.toArray[i]?=some u1 by simpa using hu1] at z;cases z
   ·rw [show its2.toArray[i]?=some u2 by simpa using hu2] at z;cases z
   ·rw [show its3.toArray[i]?=some u3 by simpa using hu3] at z;cases z
  unfold pyNext
  refine qD (qBr (qAf (name:=Str.ofString "__next__") hT qAk (qAy qAk hT qBX
   (zafb D st p1 p2 p3 (fun z=>nz z) (by exact I.ok.hd hc) (.inr (.inr (.inr ⟨u1,u2,u3,by simpa using hu1,by simpa using hu2,by simpa using hu3,fun h1 zt tp kp=>⟨_,rfl,qc ?_⟩⟩)))) (qBO _))))
  refine ⟨_,rfl,qCL (s:={s with heap:=h1}) zt.z fun h2 z2 sb2=>?_⟩
  have hp:H s.heap.objs.size=none:=I.hok.fresh (qQ _)
  have fz:=hf z (by simp)
  have fO:=hf TO (by simp)
  have f1:=hf i1 (by simp)
  have f2:=hf i2 (by simp)
  have f3:=hf i3 (by simp)
  have lt:∀ b∈[z,TI,TO,i1,i2,i3],b≠s.heap.objs.size:=fun b hb=>by
   obtain ⟨a,c,d,hto⟩:=st.to
   simp only [qN,qw,or_false] at hb
   rcases hb with rfl|rfl|rfl|rfl|rfl|rfl
   ·exact qj (qL st.z)
   ·exact qj (qL st.ti)
   ·exact qj (qL hto)
   ·obtain ⟨o,q,_⟩:=st.i1.obj;exact qj (qL q)
   ·obtain ⟨o,q,_⟩:=st.i2.obj;exact qj (qL q)
   ·obtain ⟨o,q,_⟩:=st.i3.obj;exact qj (qL q)
  have k3:∀ b o,b∉[z,TO,i1,i2,i3]→s.heap.get? b=some o→h2.get? b=some o:=fun b o hb q=>by
   simp only [qN,qw,or_false,not_or] at hb
   obtain ⟨e1,e2,e3,e4,e5⟩:=hb
   exact (sb2.2 b e1).trans (kp b o e1 e2 e3 e4 e5 q)
  have t2:zjq h2 s.heap.objs.size u1 u2 u3:=(sb2.2 _ (qAW (lt z (by simp)))).trans tp
  have nH:∀ c v,H c=some v→c∉[z,TO,i1,i2,i3]:=fun c v q hc=>by
   have:H c=none:=by
    simp only [qN,qw,or_false] at hc
    rcases hc with rfl|rfl|rfl|rfl|rfl
    ·exact fz.1
    ·exact fO.1
    ·exact f1.1
    ·exact f2.1
    ·exact f3.1
   rw [this] at q;cases q
  refine ⟨.ref s.heap.objs.size,upd H s.heap.objs.size (.tup [x,y,v]),?_,rfl,⟨_,x,y,v,rfl,hp,rfl,fun zs q=>by rw [I.sq_inj (b:=false) q q1];exact hx,fun zs q=>by rw [I.sq_inj (b:=false) q q2];exact hy,fun zs q=>by rw [I.sq_inj (b:=false) q q3];exact hv⟩,?_,fun b hb=>by rw [zbk (lt b hb)];exact (hf b hb).1⟩
  ·refine Inv.step (s:=s) (h':=h2) (g':=s.gens) (d':=s.drawn) (t':=s.toks) (ch:=[z,TO,i1,i2,i3]) I (fun b hb=>?_) (fun b o _ _ hc q _=>k3 b o hc q) (fun b o _ _ hc q _=>⟨o.slots,k3 b o hc q⟩)
    (fun b o _ q n=>by rw [zbk (qj (qL q))];exact n) (fun b o hc q=>⟨o,k3 b o hc q⟩)
    (fun b xs q=>by rw [zbk (zbs q hp)];exact q) (fun b o v q=>by rw [zbk (zbs q hp)];exact q) (fun b ps q=>⟨#[],by rw [zbk (zbs q hp),q];simp⟩) (fun m hm=>?_) (fun b v q=>?_) I.bare
   ·have:=hf b (by
     simp only [qN,qw,or_false] at hb ⊢
     rcases hb with rfl|rfl|rfl|rfl|rfl<;>simp)
    exact ⟨this.2.2.2.1,this.2.1,this.2.2.2.2.1,this.2.2.2.2.2⟩
   ·obtain ⟨o,es,ep,ho,r⟩:=hm
    refine ⟨o,es,ep,k3 _ o ?_ ho,r⟩
    simp only [qN,qw,or_false,not_or]
    exact ⟨qAW fz.2.1,qAW fO.2.1,qAW f1.2.1,qAW f2.2.1,qAW f3.2.1⟩
   ·by_cases hb:b=s.heap.objs.size
    ·subst hb
     rw [zbe] at q
     cases q
     exact ⟨by show 3≤qd;decide,[u1,u2,u3],.cons ru1 (.cons ru2 (.cons ru3 .nil)),_,t2,rfl,_,rfl⟩
    ·rw [zbk hb] at q
     refine (I.hok b v q).stay (fun c w' hc r=>?_) (fun c r=>by rw [zbk (zbs r hp)];exact r) fun c ys r=>by rw [zbk (zbs r hp)];exact r
     rcases hc with rfl|hc
     ·exact k3 c w' (nH c v q) r
     ·exact k3 c w' (nH c _ hc) r
  ·obtain ⟨a,c,d,hto⟩:=zt.to
   exact ⟨z2,(sb2.2 _ D.TIz).trans zt.ti,⟨a,c,d,(sb2.2 _ D.TOz).trans hto⟩,zt.i1.moved fun o q=>(sb2.2 _ D.i1z).trans q,zt.i2.moved fun o q=>(sb2.2 _ D.i2z).trans q,zt.i3.moved fun o q=>(sb2.2 _ D.i3z).trans q⟩
 done:=by
  intro X hP hw hK hc i pins s σ H E I hf st hg
  subst hP hw hK
  obtain ⟨xs,ys,zs,q1,q2,q3,hle⟩:=hg
  obtain ⟨its1,rv1,p1,_⟩:=I.sq (b:=false) q1
  obtain ⟨its2,rv2,p2,_⟩:=I.sq (b:=false) q2
  obtain ⟨its3,rv3,p3,_⟩:=I.sq (b:=false) q3
  have l1':=rv1.length
  have l2':=rv2.length
  have l3':=rv3.length
  have hT:s.TypeIs (.ref z) "zip":=⟨_,st.z,rfl⟩
  unfold pyNext
  refine qD (qBr (qAf (name:=Str.ofString "__next__") hT qAk (qAy qAk hT qBX
   (zafb D st p1 p2 p3 (fun _ h' e kp he=>?_) (by exact I.ok.hd hc) (by rcases hle with q|q|q;exact .inl (by simp;omega);exact .inr (.inl (by simp;omega));exact .inr (.inr (.inl (by simp;omega))))) (qBO _))))
  obtain ⟨o,ho,hcl⟩:=he
  refine qD (wpAny_isInstance (T:="StopIteration") (b:=true) ⟨o,ho,hcl⟩ isSubtype_stop (qc ⟨rfl,?_⟩))
  have fz:=hf z (by simp)
  have fO:=hf TO (by simp)
  have f1:=hf i1 (by simp)
  have f2:=hf i2 (by simp)
  have f3:=hf i3 (by simp)
  have k3:∀ b o,b∉[z,TO,i1,i2,i3]→s.heap.get? b=some o→h'.get? b=some o:=fun b o hb q=>by
   simp only [qN,qw,or_false,not_or] at hb
   obtain ⟨e1,e2,e3,e4,e5⟩:=hb
   exact kp b o e1 e2 e3 e4 e5 q
  have nH:∀ c v,H c=some v→c∉[z,TO,i1,i2,i3]:=fun c v q hc=>by
   have:H c=none:=by
    simp only [qN,qw,or_false] at hc
    rcases hc with rfl|rfl|rfl|rfl|rfl
    ·exact fz.1
    ·exact fO.1
    ·exact f1.1
    ·exact f2.1
    ·exact f3.1
   rw [this] at q;cases q
  refine Inv.step (s:=s) (h':=h') (g':=s.gens) (d':=s.drawn) (t':=s.toks) (ch:=[z,TO,i1,i2,i3]) I (fun b hb=>?_) (fun b o _ _ hc q _=>k3 b o hc q) (fun b o _ _ hc q _=>⟨o.slots,k3 b o hc q⟩)
    (fun b o _ q n=>n) (fun b o hc q=>⟨o,k3 b o hc q⟩) (fun b xs q=>q) (fun b o v q=>q) (fun b ps q=>⟨#[],by rw [q];simp⟩) (fun m hm=>?_) (fun b v q=>?_) I.bare
  ·have:=hf b (by
     simp only [qN,qw,or_false] at hb ⊢
     rcases hb with rfl|rfl|rfl|rfl|rfl<;>simp)
   exact ⟨this.2.2.2.1,this.2.1,this.2.2.2.2.1,this.2.2.2.2.2⟩
  ·obtain ⟨o,es,ep,ho,r⟩:=hm
   refine ⟨o,es,ep,k3 _ o ?_ ho,r⟩
   simp only [qN,qw,or_false,not_or]
   exact ⟨qAW fz.2.1,qAW fO.2.1,qAW f1.2.1,qAW f2.2.1,qAW f3.2.1⟩
  ·refine (I.hok b v q).stay (fun c w' hc r=>?_) (fun c r=>r) fun c ys r=>r
   rcases hc with rfl|hc
   ·exact k3 c w' (nH c v q) r
   ·exact k3 c w' (nH c _ hc) r
 self:=fun _ _ _ _ _ st h=>qBb st.z h
end L2
namespace PySem
open Sem (wp)
noncomputable def zy1 (h:Heap) (l1:Addr):Heap:=h.push (itO false l1)
noncomputable def zy2 (h:Heap) (l1 l2:Addr):Heap:=(zy1 h l1).push (itO false l2)
noncomputable def zy3 (h:Heap) (l1 l2 l3:Addr):Heap:=(zy2 h l1 l2).push (itO false l3)
noncomputable def zy4 (h:Heap) (l1 l2 l3:Addr):Heap:=(zy3 h l1 l2 l3).push {cls:=.type "tuple",data:=.seq #[.ref h.objs.size,.ref (zy1 h l1).objs.size,.ref (zy2 h l1 l2).objs.size]}
noncomputable def zy5 (h:Heap) (l1 l2 l3:Addr):Heap:=(zy4 h l1 l2 l3).push {cls:=.type "tuple",data:=.seq #[.none,.none,.none]}
noncomputable def zy6 (h:Heap) (l1 l2 l3:Addr):Heap:=(zy5 h l1 l2 l3).push {cls:=.type "zip",data:=.fields #[.none,.bool false,.bool false,.ref (zy3 h l1 l2 l3).objs.size,.ref (zy4 h l1 l2 l3).objs.size]}
theorem zabg (l1 l2 l3:Addr) (xs ys zs:Array Value) :
  Meets (Builtin.«zip.__new__» ⟨[.type "zip",.ref l1,.ref l2,.ref l3],[]⟩) (fun _ R s=>s.heap.IsTuple l1 xs∧s.heap.IsTuple l2 ys∧s.heap.IsTuple l3 zs∧R (.ok (.ret (.ref (zy5 s.heap l1 l2 l3).objs.size))) {s with heap:=zy6 s.heap l1 l2 l3}) :=
 .of_wp fun prog w A R s h=>by
  obtain ⟨hp,g,d,tk,os⟩:=s;obtain ⟨h1,h2,h3,h⟩:=h
  have hsub:=sub_zip
  have e1:Heap.IsTuple (Shared.heap ⟨hp,g,d,tk,os⟩) l1 xs:=h1
  have e2:Heap.IsTuple (Shared.heap ⟨hp.push {cls:=.type "tuple_iterator",data:=.fields #[.ref l1,.int 0 0]},g,d,tk,os⟩) l2 ys:=qAw h2 _
  have e3:Heap.IsTuple (Shared.heap ⟨(hp.push {cls:=.type "tuple_iterator",data:=.fields #[.ref l1,.int 0 0]}).push {cls:=.type "tuple_iterator",data:=.fields #[.ref l2,.int 0 0]},g,d,tk,os⟩) l3 zs:=qAw (qAw h3 _) _
  wp_walk using qAb e1,qAb e2,qAb e3
  exact ⟨_,rfl,h⟩
theorem zalt (a b c:Value):checkTypeCall "zip" ⟨[a,b,c],[]⟩=pure ():=by kernel_rfl
theorem zalu (a b c:Value):checkBuiltinCall "zip.__new__" ⟨[.type "zip",a,b,c],[]⟩=pure ():=by kernel_rfl
theorem oi_4 (a b c d:Value):argsOk "object.__init__" ⟨[a,b,c,d],[]⟩:=by
 unfold argsOk;rw [signature?_of (id:="object.__init__") (n:=['_','_','t','i','n','i','_','_']) (o:=['t','c','e','j','b','o']) (by kernel_rfl) F.owner_object];kernel_rfl
theorem zafd {prog:Program} {w:World} {A:Around} {E:Value→Shared→Prop} {s:Shared} {l1 l2 l3:Addr} {xs ys zs:Array Value} {Q:Value→Shared→Prop} (h1:s.heap.IsTuple l1 xs) (h2:s.heap.IsTuple l2 ys) (h3:s.heap.IsTuple l3 zs)
  (h:∀ h',Zip3At false false false h' (s.heap.objs.size+5) (s.heap.objs.size+3) (s.heap.objs.size+4) s.heap.objs.size (s.heap.objs.size+1) (s.heap.objs.size+2) l1 l2 l3 .none 0→(∀ c o,s.heap.get? c=some o→h'.get? c=some o)→Q (.ref (s.heap.objs.size+5)) {s with heap:=h'}) :
  wpAny (model prog w) A (call (.type "zip") [.ref l1,.ref l2,.ref l3]) Q E s:=by
 refine callType_new F.called_zip (by decide) (zalt _ _ _) (zalu _ _ _) (fun obj=>oi_4 obj _ _ _) F.entry_zip_new (zabg l1 l2 l3 xs ys zs) ⟨h1,h2,h3,?_⟩
 have z1:(zy1 s.heap l1).objs.size=s.heap.objs.size+1:=qAL ..
 have z2:(zy2 s.heap l1 l2).objs.size=s.heap.objs.size+2:=by unfold zy2;rw [qAL,z1]
 have z3:(zy3 s.heap l1 l2 l3).objs.size=s.heap.objs.size+3:=by unfold zy3;rw [qAL,z2]
 have z4:(zy4 s.heap l1 l2 l3).objs.size=s.heap.objs.size+4:=by unfold zy4;rw [qAL,z3]
 have z5:(zy5 s.heap l1 l2 l3).objs.size=s.heap.objs.size+5:=by unfold zy5;rw [qAL,z4]
 have g6:(zy6 s.heap l1 l2 l3).get? (zy5 s.heap l1 l2 l3).objs.size=some {cls:=.type "zip",dict:=none,data:=.fields #[.none,.bool false,.bool false,.ref (zy3 s.heap l1 l2 l3).objs.size,.ref (zy4 s.heap l1 l2 l3).objs.size],slots:=#[]}:=qU _ rfl
 have g5:(zy6 s.heap l1 l2 l3).get? (zy4 s.heap l1 l2 l3).objs.size=some {cls:=.type "tuple",data:=.seq #[.none,.none,.none]}:=qC _ (qU _ rfl)
 have g4:(zy6 s.heap l1 l2 l3).get? (zy3 s.heap l1 l2 l3).objs.size=some {cls:=.type "tuple",data:=.seq #[.ref s.heap.objs.size,.ref (zy1 s.heap l1).objs.size,.ref (zy2 s.heap l1 l2).objs.size]}:=qC _ (qC _ (qU _ rfl))
 have g3:(zy6 s.heap l1 l2 l3).get? (zy2 s.heap l1 l2).objs.size=some (itO false l3):=qC _ (qC _ (qC _ (qU _ rfl)))
 have g2:(zy6 s.heap l1 l2 l3).get? (zy1 s.heap l1).objs.size=some (itO false l2):=qC _ (qC _ (qC _ (qC _ (qU _ rfl))))
 have g1:(zy6 s.heap l1 l2 l3).get? s.heap.objs.size=some (itO false l1):=qC _ (qC _ (qC _ (qC _ (qC _ (qU _ rfl)))))
 show _∧_
 rw [z3,z4,z5] at g6
 rw [z1,z2,z3] at g4
 rw [z4] at g5
 rw [z2] at g3
 rw [z1] at g2
 rw [z5]
 exact ⟨⟨_,g6,rfl⟩,h _ ⟨g6,g4,⟨_,_,_,g5⟩,zmk g1,zmk g2,zmk g3⟩ fun c o q=>qC _ (qC _ (qC _ (qC _ (qC _ (qC _ q)))))⟩
end PySem
namespace L2
open PySem PySem.Spec PyProof.Rows
theorem zaqe {x y z:V} {us:List Value} (r:Vals [x,y,z] us):∃ a b c,us=[a,b,c]∧RelV x a∧RelV y b∧RelV z c:=by
 cases r with
 | cons r1 r =>
  cases r with
  | cons r2 r =>
   cases r with
   | cons r3 r=>cases r;exact ⟨_,_,_,rfl,r1,r2,r3⟩
noncomputable def zalv (K:qB) (ta:TA):TI:=fun σ H R=>ta σ H fun vs H1=>∃ a1 a2 a3,vs=[.ref a1,.ref a2,.ref a3]∧(∃ xs,SqT K H1 a1 xs)∧(∃ ys,SqT K H1 a2 ys)∧(∃ zs,SqT K H1 a3 zs)∧R (Itz3 K a1 a2 a3) H1
theorem zabh {n l1 l2 l3:Nat} (h1:l1<n) (h2:l2<n) (h3:l3<n):Z3A (n+5) (n+3) (n+4) n (n+1) (n+2) l1 l2 l3:=by
 constructor<;>first|exact qj (by omega)|exact qA5 (by omega)
theorem zalw {X:Cx} {K:qB} (hK:X.K=K) {a b c:Expr} {ta:TA} {p pos:Pos} {elts:List Expr} {x1} {tpos:Pos} (hg:Gl X "zip") (hm:X.mg "zip" = none) (ha:PA X [a,b,c] ta) (hs:starEach [a,b,c] X.env=(false,eval a X.env)::starEach [b,c] X.env:=by rfl) (hs2:(backTo pos (starEach [b,c] X.env)).any (·.1)=false:=by rfl) :
  PI X (.Tuple elts x1 tpos) (.Call (.Name "zip" p) [a,b,c] [] pos) (zalv K ta):=by
 subst hK
 intro pins s σ H R I h
 refine Call_ (zrm I hg hm zajg (callWith_type1 (thn (ha pos pins s σ H _ I h) fun us s1 ⟨vs,H1,I1,r1,q1⟩=>?_) hs hs2))
 obtain ⟨l1,l2,l3,rfl,⟨xs,e1⟩,⟨ys,e2⟩,⟨zs,e3⟩,q⟩:=q1
 obtain ⟨u1,u2,u3,rfl,ru1,ru2,ru3⟩:=zaqe r1
 cases ru1
 cases ru2
 cases ru3
 obtain ⟨its1,rv1,p1,_⟩:=I1.sq (b:=false) e1
 obtain ⟨its2,rv2,p2,_⟩:=I1.sq (b:=false) e2
 obtain ⟨its3,rv3,p3,_⟩:=I1.sq (b:=false) e3
 have t1:=zeh.there p1
 have t2:=zeh.there p2
 have t3:=zeh.there p3
 refine zafd p1 p2 p3 fun h' zt hk=>qBb zt.z ?_
 have I2:Inv X pins σ H1 {s1 with heap:=h'}:=I1.kept (t':=s1.toks) hk
 have D:=zabh t1 t2 t3
 refine ⟨s1.heap.objs.size+5,[s1.heap.objs.size+5,s1.heap.objs.size+3,s1.heap.objs.size+4,s1.heap.objs.size,s1.heap.objs.size+1,s1.heap.objs.size+2],_,_,H1,rfl,I2,zafc D,zt,fun c hc=>?_,q⟩
 have hge:s1.heap.objs.size≤c:=by
  simp only [qN,qw,or_false] at hc
  rcases hc with rfl|rfl|rfl|rfl|rfl|rfl
  ·exact qAT _ _
  ·exact qAT _ _
  ·exact qAT _ _
  ·exact qQ _
  ·exact qAT _ _
  ·exact qAT _ _
 exact I1.fpOk hge (I1.hok.fresh hge)
noncomputable def zmp:List PyData→List PyData→List PyData→List PyData
 | a::as,b::bs,c::cs=>.tuple [a,b,c]::zmp as bs cs
 | _,_,_=>[]
theorem zzy:∀ {as bs cs:List PyData} {i:Nat} {d:PyData},(zmp as bs cs)[i]?=some d→∃ a b c,as[i]?=some a∧bs[i]?=some b∧cs[i]?=some c∧d=.tuple [a,b,c]
 | a::as,b::bs,c::cs,0,d,h=>by cases h;exact ⟨a,b,c,rfl,rfl,rfl,rfl⟩
 | a::as,b::bs,c::cs,i+1,d,h=>zzy (as:=as) (bs:=bs) (cs:=cs) (i:=i) h
 | [],_,_,_,_,h=>by unfold zmp at h;simp at h
 | _::_,[],_,_,_,h=>by unfold zmp at h;simp at h
 | _::_,_::_,[],_,_,h=>by unfold zmp at h;simp at h
theorem zzz:∀ (as bs cs:List PyData),as.length≤(zmp as bs cs).length∨bs.length≤(zmp as bs cs).length∨cs.length≤(zmp as bs cs).length
 | a::as,b::bs,c::cs=>by
  rcases zzz as bs cs with h|h|h
  ·exact .inl (qBu h)
  ·exact .inr (.inl (qBu h))
  ·exact .inr (.inr (qBu h))
 | [],_,_=>.inl (qAP _)
 | _::_,[],_=>.inr (.inl (qAP _))
 | _::_,_::_,[]=>.inr (.inr (qAP _))
noncomputable def zaaa (f:AF):IF':=fun env=>(f env).bind fun rs=>match rs with
 | [⟨.tuple as,_,b1⟩,⟨.tuple bs,_,b2⟩,⟨.tuple cs,_,b3⟩]=>some (zmp as bs cs,b1++(b2++b3))
 | _=>none
theorem zalx {K:qB} {ta:TA} {f:AF} (h1:SA ta f):SI (zalv K ta) (zaaa f):=by
 intro fx H0 env σ H h ds bs e R q
 unfold zaaa at e
 obtain ⟨rs,er,e⟩:=qA.mp e
 split at e
 ·rename_i d1 f1 b1 d2 f2 b2 d3 f3 b3
  cases e
  refine h1 fx H0 env σ H h _ er _ fun vs H1 s hv=>?_
  cases hv with
  | cons hv1 hv' =>
   cases hv' with
   | cons hv2 hv'' =>
    cases hv'' with
    | cons hv3 hv4 =>
     cases hv4
     have sub:∀ {cs:List Nat},(∀ i∈cs,i∈b1++(b2++b3))→∀ b,(fx b∨own (frzs env (b1++(b2++b3))) σ b)→lim fx env σ cs b:=fun hc b z=>zjh hc b (zcx b z)
     obtain ⟨a1,xs,rfl,ha1,r1⟩:=zco (Rp.same (Offs.sub (sub fun i hi=>qv _ hi)) _ hv1.rp)
     obtain ⟨a2,ys,rfl,ha2,r2⟩:=zco (Rp.same (Offs.sub (sub fun i hi=>qW _ (qv _ hi))) _ hv2.rp)
     obtain ⟨a3,zs,rfl,ha3,r3⟩:=zco (Rp.same (Offs.sub (sub fun i hi=>qW _ (qW _ hi))) _ hv3.rp)
     refine ⟨a1,a2,a3,rfl,⟨xs,SqT.of (zcm ha1)⟩,⟨ys,SqT.of (zcm ha2)⟩,⟨zs,SqT.of (zcm ha3)⟩,q _ H1 s ?_⟩
     intro A H' hA ss
     have q1:SqT K H' a1 xs:=SqT.of (zcm (ss _ _ ha1))
     have q2:SqT K H' a2 ys:=SqT.of (zcm (ss _ _ ha2))
     have q3:SqT K H' a3 zs:=SqT.of (zcm (ss _ _ ha3))
     have r1':=Rps.same ss _ r1
     have r2':=Rps.same ss _ r2
     have r3':=Rps.same ss _ r3
     refine ⟨fun i d e=>?_,⟨xs,ys,zs,q1,q2,q3,?_⟩⟩
     ·obtain ⟨c1,c2,c3,ec1,ec2,ec3,rfl⟩:=zzy e
      obtain ⟨v1,g1,rv1⟩:=r1'.get2 ec1
      obtain ⟨v2,g2,rv2⟩:=r2'.get2 ec2
      obtain ⟨v3,g3,rv3⟩:=r3'.get2 ec3
      refine ⟨⟨xs,ys,zs,v1,v2,v3,q1,q2,q3,g1,g2,g3⟩,fun x H'' y=>?_⟩
      obtain ⟨p,x',y',z',rfl,hp,rfl,y1,y2,y3⟩:=y
      have z1:=y1 xs q1
      rw [g1] at z1
      cases z1
      have z2:=y2 ys q2
      rw [g2] at z2
      cases z2
      have z3:=y3 zs q3
      rw [g3] at z3
      cases z3
      exact ⟨Same.new hp,znc hp (zet hA hp) (zdq rv1 (zdq rv2 (zdq rv3 zen)))⟩
     ·rw [← r1.length,← r2.length,← r3.length]
      exact zzz _ _ _
 ·cases e
theorem zaht (t b:Addr) (items items2:Array Value) (n n2:Nat) (dd dd2:Option Addr) (sl sl2:Array (Option Value)) (hc0:items.isEmpty=true) :
  Meets (Builtin.«tuple.__add__» ⟨[.ref t,.ref b],[]⟩) (fun _ R s=>s.heap.get? t=some {cls:=.type "tuple",dict:=dd,data:=.seq items n,slots:=sl}∧s.heap.get? b=some {cls:=.type "tuple",dict:=dd2,data:=.seq items2 n2,slots:=sl2}∧R (.ok (.ret (.ref b))) s) :=
 .of_wp fun prog w A R s h=>by
  obtain ⟨hp,g,d,tk,os⟩:=s;obtain ⟨hl,hb,h⟩:=h
  have f2:=sub_tuple_tuple
  wp_walk using wpAny_loadPart' hl,wpAny_loadPart' hb
  exact ⟨_,rfl,h⟩
noncomputable def zaow (K:qB):R2:=fun x y H Q=>zagt K x y H Q∨∃ a b ys,x=.ref a∧y=.ref b∧SqT K H a []∧SqT K H b ys∧Q y H
theorem zafe {X:Cx} {K:qB} (hK:X.K=K):OpR X (binaryOp .Add) (zaow K):=by
 subst hK
 intro pins s σ H x y v u Q I rx ry h
 rcases h with h|⟨a,b,ys,rfl,rfl,ha,hb,q⟩
 ·exact zadj pins s σ H x y v u Q I rx ry h
 ·cases rx
  cases ry
  obtain ⟨its,r1,p1,_⟩:=I.tuple ha
  obtain ⟨its2,r2,p2,_⟩:=I.tuple hb
  cases r1
  obtain ⟨⟨cls,dd,data,sl⟩,ho,hc,n,hd⟩:=id p1
  obtain ⟨⟨cls2,dd2,data2,sl2⟩,ho2,hc2,n2,hd2⟩:=id p2
  simp only at hc hd hc2 hd2
  subst hc hd hc2 hd2
  exact concat_meets ⟨_,ho,rfl⟩ ⟨_,ho2,rfl⟩ qCB seq_tuple_add qBK qBH (qBE _ _)
   (zaht a b _ its2.toArray n n2 dd dd2 sl sl2 (by rfl)) ⟨ho,ho2,⟨.ref b,H,I,rfl,q⟩⟩
noncomputable def addE:OF
 | .tuple [],.tuple ys=>some (.tuple ys,false)
 | x,y=>addD x y
theorem zaff {K:qB}:SO (zaow K) addE:=by
 intro A H x y dx dy hA rx ry d fr e Q q
 unfold addE at e
 split at e
 ·cases e
  obtain ⟨a,xs,rfl,ha,r⟩:=zco rx
  obtain ⟨b,ys',rfl,hb,r'⟩:=zco ry
  have:xs=[]:=by unfold Rps at r;exact r
  subst this
  exact .inr ⟨a,b,_,rfl,rfl,SqT.of (zcm ha),SqT.of (zcm hb),q _ H (Same.refl _) ry fun z=>by cases z⟩
 ·exact .inl (zdr A H x y dx dy hA rx ry d fr e Q q)
noncomputable def Scr (K:qB) (a:Addr) (ns:List Int) (H0:Hp) (σ:St):Prop:=σ[0]?=some (some (.ref a))∧SqL K H0 a (ns.map V.int)
theorem SqL.up {K:qB} {H H':Hp} {a:Addr} {xs:List V} (h:SqL K H a xs) (s:Same H H'):SqL K H' a xs:=by
 rcases h with (h|⟨o,h⟩)|h
 ·exact .inl (.inl (s _ _ h))
 ·exact .inl (.inr ⟨o,s _ _ h⟩)
 ·exact .inr h
noncomputable def SSg (K:qB) (ns:List Int) (J:Nat→Prop) (ts:TS) (F:SFf):Prop:=∀ (a:Addr) (fx:Addr→Prop) (H0:Hp) (env:DEnv) (σ:St) (H:Hp) (D:Ends),EnvOk fx H0 env σ H→Scr K a ns H0 σ→∀ o,F env=some o→SatF fx H0 J σ D o→ts D σ H
section
variable {K:qB} {ns:List Int} {J:Nat→Prop} {f:Nat}
theorem zjr {t:TS} {F:SFf} (h:SSf J t F):SSg K ns J t F:=fun a fx H0 env σ H D hE _ o e q=>h fx H0 env σ H D hE o e q
theorem zfz {t u:TS} {a b:SFf} (hJ:J 0) (h1:SSg K ns J t a) (h2:SSg K ns J u b):SSg K ns J (tSeq t u) (fSeq a b):=by
 intro c fx H0 env σ H D h hc o e q
 unfold fSeq at e
 obtain ⟨o1,e1,e⟩:=qA.mp e
 refine h1 c fx H0 env σ H _ h hc o1 e1 ?_
 cases o1 with
 | nx env'=>exact fun σ' H' h' k=>h2 c fx H0 env' σ' H' D h' ⟨(k 0 hJ).trans hc.1,hc.2⟩ o e (q.move k)
 | bk env'=>cases e;exact q
 | ct env'=>cases e;exact q
 | rt d fr env'=>cases e;exact q
theorem zaly {wi:TI} {g:TG} {tb:TS} {f:IF'} {gf:GT} {body:SFf} (hJ:J 0) (h1:SI wi f) (h2:SGk J g gf) (h3:SSg K ns J tb body):SSg K ns J (tFor wi g tb) (fFor f gf body):=by
 intro a0 fx H0 env σ H D h hc o e q
 unfold fFor at e
 obtain ⟨⟨ds,bs⟩,er,e⟩:=qA.mp e
 refine h1 fx H0 env σ H h ds bs er _ fun I H1 s yl=>?_
 have hE:=(h.up s).frzs bs
 have fl:=hE.floor
 refine ⟨fun i m σ' H'=>m=ds.length - i∧i≤ds.length∧(∀ j,J j→σ'[j]?=σ[j]?)∧∃ env',zfi gf body (ds.drop i) env'=some o∧EnvOk fx (Offs (own (frzs env bs) σ) H1) env' σ' H',⟨ds.length,rfl,qAP _,fun _ _=>rfl,_,e,hE.rebase⟩,?_⟩
 rintro i m σ' H' ⟨rfl,hi,kp,env',e',h'⟩
 obtain ⟨yi,ys⟩:=yl _ H' h'.all h'.seen
 by_cases hlt:i<ds.length
 ·obtain ⟨yg,yy⟩:=yi i ds[i] (qF hlt)
  refine .inr ⟨yg,fun σ'' H''=>i+1≤ds.length∧(∀ j,J j→σ''[j]?=σ[j]?)∧∃ env'',zfi gf body (ds.drop (i+1)) env''=some o∧EnvOk fx (Offs (own (frzs env bs) σ) H1) env'' σ'' H'',?_,?_⟩
  ·rintro σ'' H'' ⟨hle,kp',env'',e'',h''⟩
   exact ⟨ds.length - (i+1),by omega,rfl,hle,kp',env'',e'',h''⟩
  ·intro x H'' hy
   obtain ⟨sy,ry⟩:=yy x H'' hy
   rw [qAH hlt] at e'
   obtain ⟨e1,ee1,e'⟩:=qA.mp e'
   obtain ⟨o1,eo1,e'⟩:=qA.mp e'
   refine h2 fx _ env' σ' H'' _ x (h'.up sy) ry e1 ee1 _ fun σ2 h2' k2=>?_
   have k3:∀ j,J j→σ2[j]?=σ[j]?:=fun j hj=>(k2 j hj).trans (kp j hj)
   refine h3 a0 fx _ e1 σ2 H'' _ h2' ⟨(k3 0 hJ).trans hc.1,hc.2.up fl⟩ o1 eo1 ?_
   cases o1 with
   | nx e2=>exact fun σ3 H3 hh k4=>⟨hlt,fun j hj=>(k4 j hj).trans (k3 j hj),e2,e',hh⟩
   | ct e2=>exact fun σ3 H3 hh k4=>⟨hlt,fun j hj=>(k4 j hj).trans (k3 j hj),e2,e',hh⟩
   | bk e2=>cases e';exact fun σ3 H3 hh k4=>q σ3 H3 (hh.unbase fl) fun j hj=>(k4 j hj).trans (k3 j hj)
   | rt d fr e2=>cases e';exact fun σ3 v H3 hh k4 rt=>q σ3 v H3 (hh.unbase fl) (fun j hj=>(k4 j hj).trans (k3 j hj)) (rt.unbase fl)
 ·have hi':i=ds.length:=by omega
  subst hi'
  rw [qAg] at e'
  cases e'
  exact .inl ⟨ys,q σ' H' (h'.unbase fl) kp⟩
noncomputable def zahu (i:Nat) (m:Int) (ns:List Int):SFf:=fun env=>some (.nx (env.set i (.pl (.int (if (ns.length:Int)<m then ns.length else m)))))
theorem zahv {i:Nat} {m:Int} (hJ:¬ J i):SSg K ns J (tAsg (tCB (fun xs H Q=>∃ i j,xs=[.int i,.int j]∧Q (.int (if j<i then j else i)) H) (tCons (tC (.int m)) (tCons (tCB (fun xs H Q=>∃ x n,xs=[x]∧LenV K x H n∧Q (.int n) H) (tCons (tVar 0) tNil)) tNil))) (gName i)) (zahu i m ns):=by
 intro a fx H0 env σ H D h hc o e q
 cases e
 refine ⟨.ref a,hc.1,.ref a,ns.length,rfl,?_,m,ns.length,rfl,q _ H (h.setPl i zad) fun j hj=>qS fun z=>hJ (by rw [z];exact hj)⟩
 have hs:=hc.2.up h.base
 exact .inl ⟨_,hs,by rw [qE]⟩
noncomputable def zmq (ns:List Int) (z:Int):List PyData :=
 let c:=ns.getD z.toNat 0
 let g:=if c<0 then -c else c
 [.int (if g<10 ^ 18 then 0 else g),.int ((c % 2147483423 * 48271+6151 * z+17) % 2147483423),.int 0]
noncomputable def zaab (K:qB):Sp:=fun vs H Q _=>∃ (a:Addr) (ns:List Int) (z:Int),vs=[.ref a,.int z]∧SqL K H a (ns.map .int)∧0≤z∧z≤1000 ∧
 ∀ p H',H p=none→Same H H'→zeo (fun _=>none) H' p (.list (zmq ns z))→Q (.ref p) H'
noncomputable def zafg (f k:Nat) (ns:List Int):SFf:=fun env=>match env[k]? with
 | some (.pl (.int z))=>if 0≤z∧z≤1000 then some (.nx (env.set f (.ac (.list (zmq ns z))))) else none
 | _=>none
theorem zahw {k:Nat} (hJ:¬ J f):SSg K ns J (tAsg (tCall (zaab K) [] E0 (tCons (tVar 0) (tCons (tVar k) tNil))) (gName f)) (zafg f k ns):=by
 intro a fx H0 env σ H D h hc o e q
 unfold zafg at e
 split at e
 ·rename_i z ek
  split at e
  ·rename_i hz
   cases e
   obtain ⟨v,hv,rv⟩:=h.pl k _ ek
   cases zdp rv
   refine ⟨_,hc.1,_,hv,a,ns,z,rfl,hc.2.up h.base,hz.1,hz.2,fun p H' hp s ac=>?_⟩
   refine q _ H' ?_ fun j hj=>qS fun y=>hJ (by rw [y];exact hj)
   have vo:ValOk (lim fx env σ (Val.bs ⟨.list (zmq ns z),true,[]⟩)) H H' ⟨.list (zmq ns z),true,[]⟩ (.ref p):=by
    refine ⟨ac.rp (fun b o eb=>by cases eb) fun o eo=>?_,fun _=>⟨p,rfl,hp,ac.same (fun b o eb=>by cases eb) fun o eo=>eo⟩⟩
    rw [Offs.get]
    ·exact eo
    ·intro y
     obtain ⟨o',eo'⟩:=h.lims [] p y
     rw [hp] at eo'
     cases eo'
   exact h.put (r:=⟨.list (zmq ns z),true,[]⟩) s vo f
  ·cases e
 ·cases e
end
section
variable {K:qB} {ns:List Int} {J:Nat→Prop}
noncomputable def zafh (k i:Nat) (ns:List Int):SFf:=fun env=>match env[k]? with
 | some (.pl (.int z))=>if 0≤z then some (.nx (if z<ns.length then env.set i (.pl (.int (ns.getD z.toNat 0))) else env)) else none
 | _=>none
theorem zahx {k i:Nat} (hJ:¬ J i):SSg K ns J (tIfS (tTest (tOp (rI0 fun i j=>.bl (decide (i<j))) (tVar k) (tCB (fun xs H Q=>∃ x n,xs=[x]∧LenV K x H n∧Q (.int n) H) (tCons (tVar 0) tNil)))) (tAsg (tOp (rIxU K) (tVar 0) (tVar k)) (gName i)) tNext) (zafh k i ns):=by
 intro a fx H0 env σ H D h hc o e q
 unfold zafh at e
 split at e
 ·rename_i z ek
  split at e
  ·rename_i hz
   cases e
   obtain ⟨v,hv,rv⟩:=h.pl k _ ek
   cases zdp rv
   have hs:=hc.2.up h.base
   refine ⟨_,hv,.ref a,hc.1,.ref a,ns.length,rfl,.inl ⟨_,hs,by rw [qE]⟩,z,ns.length,rfl,rfl,decide (z<(ns.length:Int)),rfl,?_⟩
   by_cases hlt:z<ns.length
   ·rw [if_pos hlt] at q
    rw [decide_eq_true hlt]
    refine iteT ⟨.ref a,hc.1,_,hv,ns.map V.int,.int (ns.getD z.toNat 0),.inl hs,?_,?_⟩
    ·have hn:z.toNat<ns.length:=by omega
     unfold atI ixN
     rw [qE,if_pos hz,if_pos hlt]
     show (ns.map V.int)[z.toNat]?=_
     rw [qY,qF hn,qb,qF hn]
     rfl
    ·exact q _ H (h.setPl i zad) fun j hj=>qS fun y=>hJ (by rw [y];exact hj)
   ·rw [if_neg hlt] at q
    rw [decide_eq_false hlt]
    exact iteF (q σ H h fun _ _=>rfl)
  ·cases e
 ·cases e
end
theorem zajk {H:Hp} {σ:St} {env:DEnv} (hl:env.length=σ.length) (hp:∀ (i:Nat) (d:PyData),env[i]?=some (.pl d)→∃ v,σ[i]?=some (some v)∧Rp H d v) (ha:∀ (i:Nat) (d:PyData),env[i]?≠some (.ac d)):EnvOk (fun _=>False) H env σ H :=
 ⟨hl,fun i d e=>let ⟨v,w1,w2⟩:=hp i d e;⟨v,w1,Rp.same (fun b o eb=>by rw [Offs.get fun z=>z.elim id fun ⟨j,d',z,_⟩=>ha j d' z];exact eb) _ w2⟩,fun i d e=>absurd e (ha i d),fun i j d e a z=>absurd z (ha i d),Same.refl _,fun b z=>z.elim⟩
theorem zafi (ns:List Int) (z:Int):zou (.list (zmq ns z))=true:=rfl
theorem zalz {K:qB} {N:List Str} (hN:N.length=4) {t:TS} {F:List Int→SFf} (hs:∀ ns,SSg K ns (fun j=>j=0) t (F ns))
  (hF:∀ ns z,0≤z→z≤1000→∃ env',F ns [.no,.pl (.int z),.no,.no]=some (.rt (.list (zmq ns z)) true env')) {vs:List V} {H:Hp} {Q:VK} {E:XK} (h:zaab K vs H Q E):t {nx:=fun _ H'=>Q .non H',rt:=Q} (zhv N vs) H:=by
 obtain ⟨a,ns,z,rfl,hS,h0,h1,k⟩:=h
 obtain ⟨env',e⟩:=hF ns z h0 h1
 have st:zhv N [.ref a,.int z]=[some (.ref a),some (.int z),none,none]:=by unfold zhv;rw [hN];rfl
 rw [st]
 refine hs ns a (fun _=>False) H _ _ H _ (zajk (env:=[.no,.pl (.int z),.no,.no]) rfl (fun i d e=>?_) fun i d e=>?_) ⟨rfl,hS⟩ _ e fun σ v H' hE kp rt=>?_
 ·match i,e with
  | 1,e=>cases e;exact ⟨_,rfl,zad⟩
  | 0,e=>cases e
  | 2,e=>cases e
  | 3,e=>cases e
 ·match i,e with
  | 1,e=>cases e
  | 0,e=>cases e
  | 2,e=>cases e
  | 3,e=>cases e
 ·obtain ⟨p,rfl,hp,_,ac⟩:=rt.2 rfl
  exact k p H' hp hE.base (ztr (zafi ns z) ac)
theorem zahy {K:qB} {ns:List Int} {t:TS} {F:SFf} (hs:SSg K ns (fun j=>j=0) t F) {a:Addr} {H:Hp} {Q:VK} {nx:St→Hp→Prop} {n:Nat} (hS:SqL K H a (ns.map V.int)) (e:∃ env',F (List.replicate (n+1) .no)=some (.rt (.bool true) false env')) (k:∀ H',Q (.bl true) H') :
  t {nx:=nx,rt:=Q} (some (.ref a)::List.replicate n none) H:=by
 obtain ⟨env',e⟩:=e
 have no:∀ (i:Nat) (s:Sl),(List.replicate (n+1) Sl.no)[i]?=some s→s=.no:=fun i s e=>by
  rw [qBL] at e
  split at e
  ·exact (qT e).symm
  ·cases e
 refine hs a (fun _=>False) H _ _ H _ (zajk (by simp) (fun i d e=>by cases no i _ e) fun i d e=>by cases no i _ e) ⟨rfl,hS⟩ _ e fun σ v H' hE kp rt=>?_
 cases zlp rt.1
 exact k H'
theorem zahz {X:Cx} {K:qB} (hK:X.K=K) {a b c:Expr} {ta:TA} {p pos:Pos} {elts:List Expr} {x1:Nat} {tpos:Pos} (hg:Gl X "zip") (hm:X.mg "zip" = none) (ha:Bx (PA X [a,b,c] ta)) (hs:starEach [a,b,c] X.env=(false,eval a X.env)::starEach [b,c] X.env) (hs2:(backTo pos (starEach [b,c] X.env)).any (·.1)=false) :
  Bx (PI X (.Tuple elts x1 tpos) (.Call (.Name "zip" p) [a,b,c] [] pos) (zalv K ta)):=⟨zalw hK hg hm ha.out hs hs2⟩
end L2
namespace Bc
open PySem L2
noncomputable def zno (ns:List Int):SFf:=(fSeq (fS (sSet 2 (eC (.int 0))))
  (fSeq (zafh 1 2 ns)
  (fSeq (fS (sSet 3 (eCB absD (zac (eVar 2) aNil))))
  (fSeq (fIfP (zbb (eOp ltD (eVar 3) (eOp powD (eC (.int 10)) (eC (.int 18))))) (fS (sSet 3 (eC (.int 0)))) fNx)
  (zdv (eLst (zac (eVar 3) (zac (eOp modD (eOp addD (eOp addD (eOp mulD (eOp modD (eVar 2) (eC (.int 2147483423))) (eC (.int 48271))) (eOp mulD (eC (.int 6151)) (eVar 1))) (eC (.int 17))) (eC (.int 2147483423))) (zac (eC (.int 0)) aNil)))))))))
theorem zama (ns:List Int) (z:Int) (h0:0≤z) (h1:z≤1000):∃ env',zno ns [.no,.pl (.int z),.no,.no]=some (.rt (.list (zmq ns z)) true env'):=by
 have e1:zno ns [.no,.pl (.int z),.no,.no]=(fSeq (fS (sSet 3 (eCB absD (zac (eVar 2) aNil))))
  (fSeq (fIfP (zbb (eOp ltD (eVar 3) (eOp powD (eC (.int 10)) (eC (.int 18))))) (fS (sSet 3 (eC (.int 0)))) fNx)
  (zdv (eLst (zac (eVar 3) (zac (eOp modD (eOp addD (eOp addD (eOp mulD (eOp modD (eVar 2) (eC (.int 2147483423))) (eC (.int 48271))) (eOp mulD (eC (.int 6151)) (eVar 1))) (eC (.int 17))) (eC (.int 2147483423))) (zac (eC (.int 0)) aNil))))))) [.no,.pl (.int z),.pl (.int (ns.getD z.toNat 0)),.no]:=by
  show (fSeq (zafh 1 2 ns) _) [.no,.pl (.int z),.pl (.int 0),.no]=_
  unfold fSeq zafh
  show Option.bind (if 0≤z then some (OutF.nx (if z<ns.length then [.no,.pl (.int z),.pl (.int (ns.getD z.toNat 0)),.no] else [.no,.pl (.int z),.pl (.int 0),.no])) else none) _=_
  rw [if_pos h0]
  by_cases hl:z<ns.length
  ·rw [if_pos hl];rfl
  ·rw [if_neg hl,show ns.getD z.toNat 0=0 by rw [qb,qBT (by omega)];rfl]
   rfl
 rw [e1]
 have hfd:zmq ns z=[.int (if (if ns.getD z.toNat 0<0 then -ns.getD z.toNat 0 else ns.getD z.toNat 0)<10 ^ 18 then 0 else (if ns.getD z.toNat 0<0 then -ns.getD z.toNat 0 else ns.getD z.toNat 0)),.int ((ns.getD z.toNat 0 % 2147483423 * 48271+6151 * z+17) % 2147483423),.int 0]:=rfl
 rw [hfd]
 clear hfd e1
 generalize ns.getD z.toNat 0=c
 have e2:∀ g:Int,(zdv (eLst (zac (eVar 3) (zac (eOp modD (eOp addD (eOp addD (eOp mulD (eOp modD (eVar 2) (eC (.int 2147483423))) (eC (.int 48271))) (eOp mulD (eC (.int 6151)) (eVar 1))) (eC (.int 17))) (eC (.int 2147483423))) (zac (eC (.int 0)) aNil))))) [.no,.pl (.int z),.pl (.int c),.pl (.int g)]=some (.rt (.list [.int g,.int ((c % 2147483423 * 48271+6151 * z+17) % 2147483423),.int 0]) true [.no,.pl (.int z),.pl (.int c),.pl (.int g)]):=fun g=>by
  have m:eOp modD (eOp addD (eOp addD (eOp mulD (eOp modD (eVar 2) (eC (.int 2147483423))) (eC (.int 48271))) (eOp mulD (eC (.int 6151)) (eVar 1))) (eC (.int 17))) (eC (.int 2147483423)) [.no,.pl (.int z),.pl (.int c),.pl (.int g)]=some (vi ((c % 2147483423 * 48271+6151 * z+17) % 2147483423)) :=
   zvn (zpv (zpv (zrf (zvn rfl rfl (by decide)) rfl (.inr (by decide))) (zrf rfl rfl (.inl (by decide)))) rfl) rfl (by decide)
  unfold zdv eLst zac
  rw [m]
  rfl
 have e3:(fSeq (fS (sSet 3 (eCB absD (zac (eVar 2) aNil)))) (fSeq (fIfP (zbb (eOp ltD (eVar 3) (eOp powD (eC (.int 10)) (eC (.int 18))))) (fS (sSet 3 (eC (.int 0)))) fNx)
  (zdv (eLst (zac (eVar 3) (zac (eOp modD (eOp addD (eOp addD (eOp mulD (eOp modD (eVar 2) (eC (.int 2147483423))) (eC (.int 48271))) (eOp mulD (eC (.int 6151)) (eVar 1))) (eC (.int 17))) (eC (.int 2147483423))) (zac (eC (.int 0)) aNil))))))) [.no,.pl (.int z),.pl (.int c),.no] =
  (fSeq (fIfP (zbb (eOp ltD (eVar 3) (eOp powD (eC (.int 10)) (eC (.int 18))))) (fS (sSet 3 (eC (.int 0)))) fNx)
  (zdv (eLst (zac (eVar 3) (zac (eOp modD (eOp addD (eOp addD (eOp mulD (eOp modD (eVar 2) (eC (.int 2147483423))) (eC (.int 48271))) (eOp mulD (eC (.int 6151)) (eVar 1))) (eC (.int 17))) (eC (.int 2147483423))) (zac (eC (.int 0)) aNil)))))) [.no,.pl (.int z),.pl (.int c),.pl (.int (if c<0 then -c else c))]:=rfl
 rw [e3]
 have e4:∀ g:Int,zbb (eOp ltD (eVar 3) (eOp powD (eC (.int 10)) (eC (.int 18)))) [.no,.pl (.int z),.pl (.int c),.pl (.int g)]=some (decide (g<10 ^ 18)):=fun g=>rfl
 generalize (if c<0 then -c else c)=g
 unfold fSeq fIfP
 rw [e4,qG]
 by_cases hg:g<10 ^ 18
 ·rw [if_pos (decide_eq_true hg),if_pos hg]
  exact ⟨_,e2 0⟩
 ·rw [if_neg (by rw [decide_eq_false hg];decide),if_neg hg]
  exact ⟨_,e2 g⟩
noncomputable def zkj:SF:=(sRet (zvp ["arm", "name"] [] (zbh (eVar 0)) (gN 0) zhc (zbh (zck 1 zfx (zac (eVar 0) aNil))) (gN 1) zhc (eVar 1)))
noncomputable def zfr:GF:=fnD 1 zkj
noncomputable def zob:SF:=(sSeq (sIf (zbb (eOp neD (eCB lenD (zac (eVar 2) aNil)) (eVar 1))) zzl sNil)
  (zaay (zck 2 zfo (zac (eVar 0) (zac (zck 1 zfr (zac (eVar 2) aNil)) aNil)))))
noncomputable def zin:GF:=fnD 3 zob
noncomputable def zkk:SF:=(sRet (zii ["arm"] [0] (zbh (eVar 1)) (gN 0) zhc (zck 2 zkf (zac (eVar 1) (zac (eVar 0) aNil)))))
noncomputable def zea:GF:=fnD 2 zkk
noncomputable def zoc:SF:=(sRet (eCB (anyD fun bs=>bs.all id) (zac (zii ["kind", "roof"] [] (zabe (zac (eVar 0) (zac (eVar 1) aNil))) (gT 2 (zbc 0 (zbc 1 zfl))) zhc (eDIn false (eVar 0) (eVar 1))) aNil)))
noncomputable def zgx:GF:=fnD 2 zoc
noncomputable def zqd:SF:=(sRet (eAnd (eOp neD (eVar 1) (eVar 2)) (eCB (anyD fun bs=>bs.all id) (zac (zii ["low", "high"] [0] (zabe (zac (eVar 1) (zac (eVar 2) aNil))) (gT 2 (zbc 0 (zbc 1 zfl))) zhc (eDIn false (eVar 1) (zbr 2 (eVar 0)))) aNil))))
noncomputable def zga:GF:=fnD 3 zqd
noncomputable def zjs:SF:=(sSeq (sAsg (eVar 0) (gT 3 (zbc 2 (zbc 3 (zbc 4 zfl)))))
  (sSeq (zaay (zck 3 zin (zac (eVar 2) (zac (eVar 3) (zac (eVar 1) aNil)))))
  (sSeq (sSet 5 (zck 2 zea (zac (zck 1 zex (zac (eVar 2) aNil)) (zac (eVar 1) aNil))))
  (sRet (zii ["rule"] [5] (zbh (eVar 4)) (gN 0) (tTru (zck 2 zgx (zac (eIxV 0 (eC (.int 1))) (zac (eVar 1) aNil)))) (eVar 0))))))
noncomputable def zdm:GF:=fnD 6 zjs
noncomputable def zod:SF:=(sRet (zii ["rule"] [0,1] (zbh (eVar 1)) (gN 0) (zne (tTru (eCB (anyD fun bs=>bs.any id) (zac (zii ["name", "kinds"] [0,1] (zbh (eVar 2)) (gT 2 (zbc 0 (zbc 1 zfl))) zhc (zck 3 zga (zac (eVar 3) (zac (eVar 1) (zac (eIxV 2 (eC (.int 1))) aNil))))) aNil)))) (eVar 0)))
noncomputable def zgy:GF:=fnD 2 zod
noncomputable def zoe:SF:=(sRet (zii ["name", "kinds"] [] (zbh (eVar 0)) (gT 2 (zbc 0 (zbc 1 zfl))) zhc (eVar 0)))
noncomputable def zio:GF:=fnD 1 zoe
noncomputable def zqe:SF:=(sSeq (sIf (zne (tTru (eVar 0))) (sRet (eTup (zac (eC (.str "none")) aNil))) sNil)
  (sSeq (sIf (zbb (eOp eqD (eCB lenD (zac (eVar 0) aNil)) (eC (.int 1)))) (sRet (eTup (zac (eC (.str "rule")) (zac (eIxV 0 (eC (.int 0))) aNil)))) sNil)
  (sRet (eTup (zac (eC (.str "quarrel")) (zac (eCB zka (zac (eVar 0) aNil)) aNil))))))
noncomputable def zjn:GF:=fnD 1 zqe
noncomputable def zvv:SF:=(sSeq (sSet 2 (zck 2 zdm (zac (eVar 0) (zac (eVar 1) aNil))))
  (sRet (zck 1 zio (zac (zck 2 zgy (zac (zck 1 zex (zac (eIxV 0 (eC (.int 0))) aNil)) (zac (eVar 2) aNil))) aNil))))
noncomputable def zmr:GF:=fnD 3 zvv
noncomputable def zqf:SF:=(sRet (zck 1 zjn (zac (zck 2 zmr (zac (eVar 0) (zac (eVar 1) aNil))) aNil)))
noncomputable def zce:GF:=fnD 2 zqf
noncomputable def zhn:SFf:=(fSeq (fIfP (zbb (eOp gtD (eIxV 0 (eC (.int 0))) (eC (.int 0)))) (fSeq (fS (sSet 2 (eOp modD (eIxV 0 (eC (.int 0))) (eVar 1))))
  (fSeq (fS (zot 0 (eC (.int 0)) (eOp zxt (eIxV 0 (eC (.int 0))) (eVar 1))))
  (zrg 2))) fNx)
  (fSeq (fS (sSet 3 (eOp addD (eIxV 0 (eC (.int 2))) (eC (.int 1)))))
  (fSeq (fS (zot 0 (eC (.int 2)) (eVar 3)))
  (fSeq (fS (sSet 4 (eOp modD (eOp addD (eOp addD (eIxV 0 (eC (.int 1))) (eOp mulD (eOp mulD (eC (.int 40692)) (eVar 3)) (eVar 3))) (eOp mulD (eC (.int 69621)) (eVar 3))) (eC (.int 2147483647)))))
  (fSeq (fS (sSet 4 (eOp modD (eOp addD (eOp addD (eOp mulD (eVar 4) (eVar 4)) (eOp mulD (eC (.int 39373)) (eVar 4))) (eVar 3)) (eC (.int 2147483579)))))
  (fSeq (fS (sSet 4 (eOp modD (eOp addD (eOp mulD (eVar 4) (eVar 4)) (eOp mulD (eC (.int 16807)) (eVar 4))) (eC (.int 2147483549)))))
  (zdv (eOp modD (eOp zxt (eVar 4) (eC (.int 64))) (eVar 1)))))))))
noncomputable def zah:GE:=fnF 5 zhn
noncomputable def zfs:SFf:=(fSeq (fS (sSet 2 (eC (.str ""))))
  (fSeq (fFor (zca (zac (eVar 1) aNil)) (gN 3)
  (fSet 2 (fOp addD (zal 0 (eVar 2)) (fOp ixD (zal 0 (eC (.str "abcdefghijklmnopqrstuvwxyz"))) (zap 0 2 zah (zam (zal 0 (eC (.int 26))) (fNil 0)))))))
  (zrg 2)))
noncomputable def zcg:GE:=fnF 4 zfs
noncomputable def zeb:SFf:=(fSeq (fSet 2 (fOp ixD (zal 0 (eLst (zac (eC (.int 0)) (zac (eC (.int 1)) (zac (eC (.int 2)) (zac (eC (.int 7)) aNil)))))) (zap 0 2 zah (zam (zal 0 (eC (.int 4))) (fNil 0)))))
  (fSeq (fSet 3 (zap 0 2 zah (zam (zal 0 (eC (.int 2))) (fNil 0))))
  (fSeq (fSet 4 (zap 0 2 zah (zam (zal 0 (eC (.int 8))) (fNil 0))))
  (fSeq (fSet 5 (zap 0 2 zah (zam (zal 0 (eC (.int 26))) (fNil 0))))
  (fSeq (fSet 6 (fOp ixD (zal 0 (eLst (zac (eC (.int 1)) (zac (eC (.int 3)) (zac (eC (.int 5)) (zac (eC (.int 7)) (zac (eC (.int 9)) (zac (eC (.int 11)) (zac (eC (.int 15)) (zac (eC (.int 17)) (zac (eC (.int 19)) (zac (eC (.int 21)) (zac (eC (.int 23)) (zac (eC (.int 25)) aNil)))))))))))))) (zap 0 2 zah (zam (zal 0 (eC (.int 12))) (fNil 0)))))
  (fSeq (fSet 7 (zap 0 2 zcg (zam (zal 0 (eVar 2)) (fNil 0))))
  (fSeq (fS (sSet 8 (eLst aNil)))
  (fSeq (fFor (zca (zac (eVar 1) aNil)) (gN 9)
  (fSeq (fIfP (zbb (eOp eqD (eVar 3) (eC (.int 0)))) (fSet 7 (zap 0 2 zcg (zam (zap 0 2 zah (zam (zal 0 (eOp addD (eVar 2) (eC (.int 1)))) (fNil 0))) (fNil 0)))) fNx)
  (fSeq (fS (sSet 10 (eOp ixD (eC (.str "abcdefghijklmnopqrstuvwxyz")) (eOp modD (eOp addD (eVar 5) (eOp mulD (eVar 6) (eVar 9))) (eC (.int 26))))))
  (fApp 8 (zal 0 (eOp addD (eOp addD (eSl (eVar 7) zsz (zos (eVar 4))) (eVar 10)) (eSl (eVar 7) (zos (eVar 4)) zsz)))))))
  (fSeq (fIf (gB (fOp eqD (zap 0 2 zah (zam (zal 0 (eC (.int 5))) (fNil 0))) (zal 0 (eC (.int 0))))) (fSeq (fS (sSet 11 (eLst (zac (eC (.str "none")) (zac (eC (.str "rule")) (zac (eC (.str "quarrel")) (zac (eC (.str "near")) (zac (eC (.str "far")) (zac (eC (.str "out")) (zac (eC (.str "ask")) (zac (eC (.str "tell")) (zac (eC (.str "say")) (zac (eC (.str "call")) (zac (eC (.str "onward")) (zac (eC (.str "own")) (zac (eC (.str "new")) aNil))))))))))))))))
  (fSeq (fS (sSet 11 (eOp addD (eVar 11) (eLst (zac (eC (.str "kind")) (zac (eC (.str "deed")) (zac (eC (.str "free")) (zac (eC (.str "at")) (zac (eC (.str "then")) aNil)))))))))
  (fFor (zca (zac (eVar 1) aNil)) (gN 9)
  (fSeq (fSet 12 (fOp ixD (zal 0 (eVar 11)) (zap 0 2 zah (zam (zal 0 (eC (.int 18))) (fNil 0)))))
  (fIfP (zbb (eOp (inD true) (eVar 12) (eVar 8))) (fS (zot 8 (eVar 9) (eVar 12))) fNx))))) fNx)
  (zrg 8))))))))))
noncomputable def zbp:GE:=fnF 13 zeb
noncomputable def zkl:SFf:=(fSeq (fS (sSet 2 (eLst aNil)))
  (fSeq (fFor (zca (zac (eCB lenD (zac (eVar 1) aNil)) aNil)) (gN 3)
  (fSeq (fS (sSet 4 (eLst aNil)))
  (fSeq (zts (zim (zam (fCB minD (zam (zal 0 (eVar 3)) (zam (zap 0 2 zah (zam (zal 0 (eC (.int 5))) (fNil 0))) (fNil 0)))) (fNil 0))) (gN 5)
  (fSeq (fSet 6 (fOp ixD (zal 0 (eVar 1)) (zap 0 2 zah (zam (zal 0 (eVar 3)) (fNil 0)))))
  (fIfP (zbb (eOp (inD true) (eVar 6) (eVar 4))) (fApp 4 (zal 0 (eVar 6))) fNx)))
  (fApp 2 (zal 0 (eTup (zac (eIxV 1 (eVar 3)) (zac (eVar 4) aNil))))))))
  (zrg 2)))
noncomputable def zgz:GE:=fnF 7 zkl
noncomputable def zqg:SF:=(sSeq (sSet 1 zaax)
  (sSeq (sFor (zbh (eVar 0)) (gT 2 (zbc 2 (zbc 3 zfl)))
  (sSeq (sSet 4 (eLst (zac (eVar 2) aNil)))
  (sSeq (sFor (zbh (eVar 3)) (gN 5)
  (sSet 4 (eOp addD (eVar 4) (zbr 1 (eVar 5)))))
  (sPut 1 (eVar 2) (zii ["_law_other", "_law_rest"] [4] (zbh (eVar 0)) (gT 2 (zbc 0 (zbc 1 zfl))) (zbb (eOp (inD false) (eVar 0) (eVar 2))) (eVar 0))))))
  (zaaz 1)))
noncomputable def zgb:GF:=fnD 6 zqg
noncomputable def zjo:SF:=(sSeq (sIf (tTru (eIsi "tuple" (eVar 1))) (sSeq (sSet 2 (eLst aNil))
  (sSeq (sFor (zbh (eVar 1)) (gN 3)
  (sSet 2 (eOp addD (eVar 2) (zbr 0 (eVar 3)))))
  (zaaz 2))) sNil)
  (sRet (zbr 0 (eVar 1))))
noncomputable def zgc:GF:=fnD 4 zjo
noncomputable def zec:SFf:=(fSeq (fS (sSet 3 (eLst aNil)))
  (fSeq (zts (zqc (zap 0 2 zbp (zam (fOp addD (zal 0 (eC (.int 1))) (zap 0 2 zah (zam (zal 0 (eC (.int 8))) (fNil 0)))) (fNil 0)))) (gN 4)
  (fSeq (fS (sSet 5 (eTup aNil)))
  (fSeq (fFor (zca (zac (eVar 2) aNil)) (gN 6)
  (fSeq (fSet 7 (fOp addD (zal 0 (eC (.int 1))) (zap 0 2 zah (zam (zal 0 (eCB lenD (zac (eVar 1) aNil))) (fNil 0)))))
  (fSet 5 (fOp addE (zal 0 (eVar 5)) (fTup (zam (fOp ixD (zal 0 (eVar 1)) (zap 0 2 zah (zam (zal 0 (eVar 7)) (fNil 0)))) (fNil 0)))))))
  (fIfP (zbb (eOp (inS true) (eVar 5) (zii ["_law_row"] [] (zbh (eVar 3)) (gN 0) zhc (eIxV 0 (eC (.int 1)))))) (fApp 3 (zal 0 (eTup (zac (eVar 4) (zac (eVar 5) aNil))))) fNx))))
  (zrg 3)))
noncomputable def zch:GE:=fnF 8 zec
noncomputable def zei:SFf:=(fSeq (fS (sSet 2 (eLst aNil)))
  (fSeq (zts (zim (zam (fOp addD (zal 0 (eC (.int 1))) (zap 0 2 zah (zam (zal 0 (eC (.int 4))) (fNil 0)))) (fNil 0))) (gN 3)
  (fSeq (fSet 4 (fOp ixD (zal 0 (eVar 1)) (fOp subD (zal 0 (eOp subD (eCB lenD (zac (eVar 1) aNil)) (eC (.int 1)))) (zap 0 2 zah (zam (fOp addD (zal 0 (eC (.int 1))) (zap 0 2 zah (zam (zal 0 (eCB lenD (zac (eVar 1) aNil))) (fNil 0)))) (fNil 0))))))
  (fIfP (zbb (eOp (inD true) (eVar 4) (eVar 2))) (fApp 2 (zal 0 (eVar 4))) fNx)))
  (fSeq (fIf (gOr (zmm 0 (zbb (eOp eqD (eCB lenD (zac (eVar 2) aNil)) (eC (.int 1))))) (gB (fOp eqD (zap 0 2 zah (zam (zal 0 (eC (.int 3))) (fNil 0))) (zal 0 (eC (.int 0)))))) (zdv (eIxV 2 (eC (.int 0)))) fNx)
  (zdv (eCB zka (zac (eVar 2) aNil))))))
noncomputable def zbd:GE:=fnF 5 zei
noncomputable def zha:SFf:=(fSeq (fS (sSet 5 (eTup aNil)))
  (fSeq (fFor (zaaa (zac (eVar 2) (zac (eVar 3) (zac (eVar 4) aNil)))) (gT 3 (zbc 6 (zbc 7 (zbc 8 zfl))))
  (fSeq (fS (sSet 9 (eLst (zac (eVar 6) aNil))))
  (fSeq (fFor (zbh (zck 2 zgc (zac (eVar 1) (zac (eVar 6) aNil)))) (gN 10)
  (fIfP (zxw (zbb (eOp (inD false) (eVar 7) (zbr 1 (eVar 10)))) (zbb (eOp (inD false) (eVar 8) (zbr 1 (eVar 10))))) (fApp 9 (zal 0 (eVar 10))) fNx))
  (fSet 5 (fOp addE (zal 0 (eVar 5)) (fTup (zam (fOp ixD (zal 0 (eVar 9)) (zap 0 2 zah (zam (zal 0 (eCB lenD (zac (eVar 9) aNil))) (fNil 0)))) (fNil 0))))))))
  (zrg 5)))
noncomputable def zcq:GE:=fnF 11 zha
noncomputable def zie:SFf:=(fSeq (fS (sSet 5 zaax))
  (fSeq (fFor (zbh (eIxV 2 (eC (.int 2)))) (gT 2 (zbc 6 (zbc 7 zfl)))
  (fS (sPut 5 (eVar 6) (eVar 7))))
  (fSeq (fFor (zca (zac (eCB lenD (zac (eVar 4) aNil)) aNil)) (gN 8)
  (fFor (zca (zac (eVar 8) aNil)) (gN 9)
  (fSeq (fSet 10 (zap 0 5 zcq (zam (zal 0 (eVar 1)) (zam (zal 0 (eVar 3)) (zam (zal 0 (zbr 5 (eIxV 4 (eVar 9)))) (zam (zal 0 (zbr 5 (eIxV 4 (eVar 8)))) (fNil 0)))))))
  (fSeq (fS (sSet 11 (zck 2 zce (zac (eVar 2) (zac (eVar 10) aNil)))))
  (fSeq (fIfP (zbb (eOp neD (eIxV 11 (eC (.int 0))) (eC (.str "quarrel")))) (zdv (eC (.bool false))) fNx)
  (fIfP (tOrF (zbb (eOp (inD true) (eIxV 4 (eVar 9)) (eIxV 11 (eC (.int 1))))) (zbb (eOp (inD true) (eIxV 4 (eVar 8)) (eIxV 11 (eC (.int 1)))))) (zdv (eC (.bool false))) fNx))))))
  (zdv (eC (.bool true))))))
noncomputable def zcf:GE:=fnF 12 zie
theorem zaia:bootBuiltins "abs" = some (.builtin "abs"):=by decide +kernel
theorem zaac:bootBuiltins "all" = some (.builtin "all"):=by decide +kernel
theorem zaib:bootBuiltins "any" = some (.builtin "any"):=by decide +kernel
theorem zif:bootBuiltins "isinstance" = some (.builtin "isinstance"):=by decide +kernel
theorem zft:bootBuiltins "len" = some (.builtin "len"):=by decide +kernel
theorem zafj:bootBuiltins "list" = some (.type "list"):=by decide +kernel
theorem zaad:bootBuiltins "min" = some (.builtin "min"):=by decide +kernel
theorem zho:bootBuiltins "tuple" = some (.type "tuple"):=by decide +kernel
theorem zape:bootBuiltins "zip" = some (.type "zip"):=by decide +kernel
noncomputable def top (i:Nat):Stmt:=PySem.Challenge.pw_bestcalls_k26_quarrels_stay_in_lesser_ca.main.body.getD i (.Pass ⟨0,0,0,0⟩)
structure Txt (mg:Str→Option Value):Prop where
 abs:mg "abs" = none
 all:mg "all" = none
 any:mg "any" = none
 isinstance:mg "isinstance" = none
 len:mg "len" = none
 list:mg "list" = none
 min:mg "min" = none
 range:mg "range" = none
 tuple:mg "tuple" = none
 zip:mg "zip" = none
noncomputable abbrev zhp:Stmt:=top 5
noncomputable abbrev zsd:List Str:=["web"]
theorem zyg:zsd.Nodup:=by decide +kernel
theorem zyh:FnScope zsd ["web"] (zaq zhp):=⟨rfl,rfl,rfl,zyg,rfl,by decide +kernel,by decide +kernel⟩
noncomputable abbrev zhq:Stmt:=top 6
noncomputable abbrev zse:List Str:=["arm"]
theorem zyi:zse.Nodup:=by decide +kernel
theorem zyj:FnScope zse ["arm"] (zaq zhq):=⟨rfl,rfl,rfl,zyi,rfl,by decide +kernel,by decide +kernel⟩
noncomputable abbrev zej:Stmt:=top 7
noncomputable abbrev zms:List Str:=["web", "names", "known", "name"]
theorem ziu:zms.Nodup:=by decide +kernel
theorem zrh:FnScope zms ["web", "names"] (zaq zej):=⟨rfl,rfl,rfl,ziu,rfl,by decide +kernel,by decide +kernel⟩
noncomputable abbrev zhr:Stmt:=top 8
noncomputable abbrev zsf:List Str:=["web", "roofs", "name", "elders", "roof", "elder"]
theorem zgd:zsf.Nodup:=by decide +kernel
theorem zyk:FnScope zsf ["web"] (zaq zhr):=⟨rfl,rfl,rfl,zgd,rfl,by decide +kernel,by decide +kernel⟩
noncomputable abbrev zja:Stmt:=top 9
noncomputable abbrev zvw:List Str:=["roofs", "arm", "roof", "name"]
theorem znp:zvw.Nodup:=by decide +kernel
theorem zabi:FnScope zvw ["roofs", "arm"] (zaq zja):=⟨rfl,rfl,rfl,znp,rfl,by decide +kernel,by decide +kernel⟩
noncomputable abbrev zdf:Stmt:=top 11
noncomputable abbrev zkm:List Str:=["call"]
theorem zov:zkm.Nodup:=by decide +kernel
theorem zow:FnScope zkm ["call"] (zaq zdf):=⟨rfl,rfl,rfl,zov,rfl,by decide +kernel,by decide +kernel⟩
noncomputable abbrev zfa:Stmt:=top 12
noncomputable abbrev zof:List Str:=["web", "places", "call"]
theorem ztw:zof.Nodup:=by decide +kernel
theorem ztx:FnScope zof ["web", "places", "call"] (zaq zfa):=⟨rfl,rfl,rfl,ztw,rfl,by decide +kernel,by decide +kernel⟩
noncomputable abbrev zdg:Stmt:=top 13
noncomputable abbrev zkn:List Str:=["roofs", "call"]
theorem zox:zkn.Nodup:=by decide +kernel
theorem zoy:FnScope zkn ["roofs", "call"] (zaq zdg):=⟨rfl,rfl,rfl,zox,rfl,by decide +kernel,by decide +kernel⟩
noncomputable abbrev zfb:Stmt:=top 14
noncomputable abbrev zog:List Str:=["kinds", "call_roofs"]
theorem zty:zog.Nodup:=by decide +kernel
theorem ztz:FnScope zog ["kinds", "call_roofs"] (zaq zfb):=⟨rfl,rfl,rfl,zty,rfl,by decide +kernel,by decide +kernel⟩
noncomputable abbrev zge:Stmt:=top 15
noncomputable abbrev zqh:List Str:=["roofs", "one", "other"]
theorem zvx:zqh.Nodup:=by decide +kernel
theorem zvy:FnScope zqh ["roofs", "one", "other"] (zaq zge):=⟨rfl,rfl,rfl,zvx,rfl,by decide +kernel,by decide +kernel⟩
noncomputable abbrev zcw:Stmt:=top 17
noncomputable abbrev zjt:List Str:=["book", "call", "web", "places", "rules", "call_roofs"]
theorem zdh:zjt.Nodup:=by decide +kernel
theorem znq:FnScope zjt ["book", "call"] (zaq zcw):=⟨rfl,rfl,rfl,zdh,rfl,by decide +kernel,by decide +kernel⟩
noncomputable abbrev zfc:Stmt:=top 18
noncomputable abbrev zoh:List Str:=["roofs", "rules"]
theorem zua:zoh.Nodup:=by decide +kernel
theorem zub:FnScope zoh ["roofs", "rules"] (zaq zfc):=⟨rfl,rfl,rfl,zua,rfl,by decide +kernel,by decide +kernel⟩
noncomputable abbrev zfd:Stmt:=top 19
noncomputable abbrev zoi:List Str:=["rules"]
theorem zuc:zoi.Nodup:=by decide +kernel
theorem zud:FnScope zoi ["rules"] (zaq zfd):=⟨rfl,rfl,rfl,zuc,rfl,by decide +kernel,by decide +kernel⟩
noncomputable abbrev zgf:Stmt:=top 20
noncomputable abbrev zqi:List Str:=["names"]
theorem zvz:zqi.Nodup:=by decide +kernel
theorem zwa:FnScope zqi ["names"] (zaq zgf):=⟨rfl,rfl,rfl,zvz,rfl,by decide +kernel,by decide +kernel⟩
noncomputable abbrev zjb:Stmt:=top 21
noncomputable abbrev zwb:List Str:=["book", "call", "rules"]
theorem zsg:zwb.Nodup:=by decide +kernel
theorem zabj:FnScope zwb ["book", "call"] (zaq zjb):=⟨rfl,rfl,rfl,zsg,rfl,by decide +kernel,by decide +kernel⟩
noncomputable abbrev zgg:Stmt:=top 22
noncomputable abbrev zqj:List Str:=["book", "call"]
theorem zwc:zqj.Nodup:=by decide +kernel
theorem zwd:FnScope zqj ["book", "call"] (zaq zgg):=⟨rfl,rfl,rfl,zwc,rfl,by decide +kernel,by decide +kernel⟩
noncomputable abbrev zhs:Stmt:=top 24
noncomputable abbrev zsh:List Str:=["_law_script", "_law_k", "_law_cell", "_law_great"]
theorem zig:zsh.Nodup:=by decide +kernel
theorem zyl:FnScope zsh ["_law_script", "_law_k"] (zaq zhs):=⟨rfl,rfl,rfl,zig,rfl,by decide +kernel,by decide +kernel⟩
noncomputable abbrev zht:Stmt:=top 25
noncomputable abbrev zsi:List Str:=["_law_feed_here", "_law_many", "_law_digit", "_law_step", "_law_mixed"]
theorem zgh:zsi.Nodup:=by decide +kernel
theorem zym:FnScope zsi ["_law_feed_here", "_law_many"] (zaq zht):=⟨rfl,rfl,rfl,zgh,rfl,by decide +kernel,by decide +kernel⟩
noncomputable abbrev zek:Stmt:=top 26
noncomputable abbrev zmt:List Str:=["_law_feed_here", "_law_many", "_law_word", "_law_k"]
theorem zgt:zmt.Nodup:=by decide +kernel
theorem zri:FnScope zmt ["_law_feed_here", "_law_many"] (zaq zek):=⟨rfl,rfl,rfl,zgt,rfl,by decide +kernel,by decide +kernel⟩
noncomputable abbrev zgi:Stmt:=top 27
noncomputable abbrev zqk:List Str:=["_law_feed_here", "_law_many", "_law_size", "_law_same", "_law_at", "_law_first", "_law_step", "_law_base", "_law_names_here", "_law_k", "_law_sign", "_law_some", "_law_word"]
theorem zbq:zqk.Nodup:=by decide +kernel
theorem zwe:FnScope zqk ["_law_feed_here", "_law_many"] (zaq zgi):=⟨rfl,rfl,rfl,zbq,rfl,by decide +kernel,by decide +kernel⟩
noncomputable abbrev zjc:Stmt:=top 28
noncomputable abbrev zwf:List Str:=["_law_feed_here", "_law_names_here", "_law_web_here", "_law_k", "_law_elders", "_law_j", "_law_name"]
theorem zhu:zwf.Nodup:=by decide +kernel
theorem zabk:FnScope zwf ["_law_feed_here", "_law_names_here"] (zaq zjc):=⟨rfl,rfl,rfl,zhu,rfl,by decide +kernel,by decide +kernel⟩
noncomputable abbrev zgj:Stmt:=top 29
noncomputable abbrev zql:List Str:=["_law_web_here", "_law_table", "_law_name", "_law_elders", "_law_some", "_law_elder"]
theorem zed:zql.Nodup:=by decide +kernel
theorem zwg:FnScope zql ["_law_web_here"] (zaq zgj):=⟨rfl,rfl,rfl,zed,rfl,by decide +kernel,by decide +kernel⟩
noncomputable abbrev zgk:Stmt:=top 30
noncomputable abbrev zqm:List Str:=["_law_table", "_law_arm_here", "_law_some", "_law_name"]
theorem ziq:zqm.Nodup:=by decide +kernel
theorem zwh:FnScope zqm ["_law_table", "_law_arm_here"] (zaq zgk):=⟨rfl,rfl,rfl,ziq,rfl,by decide +kernel,by decide +kernel⟩
noncomputable abbrev zgl:Stmt:=top 31
noncomputable abbrev zqn:List Str:=["_law_feed_here", "_law_names_here", "_law_places", "_law_rules_here", "_law_title", "_law_kinds", "_law_place", "_law_most"]
theorem zee:zqn.Nodup:=by decide +kernel
theorem zwi:FnScope zqn ["_law_feed_here", "_law_names_here", "_law_places"] (zaq zgl):=⟨rfl,rfl,rfl,zee,rfl,by decide +kernel,by decide +kernel⟩
noncomputable abbrev zjd:Stmt:=top 32
noncomputable abbrev zwj:List Str:=["_law_feed_here", "_law_names_here", "_law_some", "_law_j", "_law_name"]
theorem zlc:zwj.Nodup:=by decide +kernel
theorem zabl:FnScope zwj ["_law_feed_here", "_law_names_here"] (zaq zjd):=⟨rfl,rfl,rfl,zlc,rfl,by decide +kernel,by decide +kernel⟩
noncomputable abbrev zfe:Stmt:=top 33
noncomputable abbrev zoj:List Str:=["_law_feed_here", "_law_table", "_law_call", "_law_one", "_law_other", "_law_found", "_law_arm_here", "_law_first", "_law_second", "_law_some", "_law_name"]
theorem zcz:zoj.Nodup:=by decide +kernel
theorem zue:FnScope zoj ["_law_feed_here", "_law_table", "_law_call", "_law_one", "_law_other"] (zaq zfe):=⟨rfl,rfl,rfl,zcz,rfl,by decide +kernel,by decide +kernel⟩
noncomputable abbrev zgm:Stmt:=top 34
noncomputable abbrev zqo:List Str:=["_law_feed_here", "_law_table", "_law_book", "_law_call", "_law_told", "_law_kinds", "_law_title", "_law_row", "_law_k", "_law_j", "_law_lesser_here", "_law_found"]
theorem zdj:zqo.Nodup:=by decide +kernel
theorem zwk:FnScope zqo ["_law_feed_here", "_law_table", "_law_book", "_law_call", "_law_told"] (zaq zgm):=⟨rfl,rfl,rfl,zdj,rfl,by decide +kernel,by decide +kernel⟩
noncomputable abbrev zuf:Stmt:=top 35
noncomputable abbrev zaox:List Str:=["_law_script", "_law_many", "_law_k", "_law_feed_here", "_law_places", "_law_names_here", "_law_web_here", "_law_table", "_law_book", "_law_turn", "_law_call", "_law_found"]
theorem zje:zaox.Nodup:=by decide +kernel
theorem zaoy:FnScope zaox ["_law_script"] (zaq zuf):=⟨rfl,rfl,rfl,zje,rfl,by decide +kernel,by decide +kernel⟩
theorem zll:(["name", "elders"]:List Str).Nodup:=by decide +kernel
theorem zih:(["arm", "name"]:List Str).Nodup:=by decide +kernel
theorem zlx:(["arm", "roofs"]:List Str).Nodup:=by decide +kernel
theorem zju:(["kind", "roof"]:List Str).Nodup:=by decide +kernel
theorem zko:(["low", "high", "roofs"]:List Str).Nodup:=by decide +kernel
theorem zlh:(["rule", "call_roofs"]:List Str).Nodup:=by decide +kernel
theorem zoz:(["rule", "roofs", "rules"]:List Str).Nodup:=by decide +kernel
theorem zjv:(["name", "kinds", "rule", "roofs"]:List Str).Nodup:=by decide +kernel
theorem zjw:(["name", "kinds"]:List Str).Nodup:=by decide +kernel
theorem zkp:(["_law_other", "_law_rest", "_law_some"]:List Str).Nodup:=by decide +kernel
theorem zqp:(["_law_row"]:List Str).Nodup:=by decide +kernel
theorem zafk:(["_law_place", "_law_feed_here", "_law_names_here"]:List Str).Nodup:=by decide +kernel
noncomputable abbrev zsj (P:Program) (w:World) (K:qB) (mg:Str→Option Value) (base:Heap):Prop:=Dn P w K mg base "names_of" ["web"] 1 (spD 1 zky)
noncomputable abbrev znr (P:Program) (w:World) (K:qB) (mg:Str→Option Value) (base:Heap):Prop:=Dn P w K mg base "names_in" ["arm"] 1 (spD 1 zfx)
noncomputable abbrev zmu (P:Program) (w:World) (K:qB) (mg:Str→Option Value) (base:Heap):Prop:=Dn P w K mg base "check_kinds" ["web", "names"] 2 (spD 2 zfo)
noncomputable abbrev zns (P:Program) (w:World) (K:qB) (mg:Str→Option Value) (base:Heap):Prop:=Dn P w K mg base "roofs_of" ["web"] 1 (spD 1 zex)
noncomputable abbrev zwl (P:Program) (w:World) (K:qB) (mg:Str→Option Value) (base:Heap):Prop:=Dn P w K mg base "roof_of" ["roofs", "arm"] 2 (spD 2 zkf)
noncomputable abbrev zkq (P:Program) (w:World) (K:qB) (mg:Str→Option Value) (base:Heap):Prop:=Dn P w K mg base "names_in_call" ["call"] 2 (spD 1 zfr)
noncomputable abbrev zok (P:Program) (w:World) (K:qB) (mg:Str→Option Value) (base:Heap):Prop:=Dn P w K mg base "check_call" ["web", "places", "call"] 3 (spD 3 zin)
noncomputable abbrev zkr (P:Program) (w:World) (K:qB) (mg:Str→Option Value) (base:Heap):Prop:=Dn P w K mg base "roofs_in_call" ["roofs", "call"] 3 (spD 2 zea)
noncomputable abbrev zol (P:Program) (w:World) (K:qB) (mg:Str→Option Value) (base:Heap):Prop:=Dn P w K mg base "fits_under" ["kinds", "call_roofs"] 1 (spD 2 zgx)
noncomputable abbrev zqq (P:Program) (w:World) (K:qB) (mg:Str→Option Value) (base:Heap):Prop:=Dn P w K mg base "is_nearer" ["roofs", "one", "other"] 1 (spD 3 zga)
noncomputable abbrev zjx (P:Program) (w:World) (K:qB) (mg:Str→Option Value) (base:Heap):Prop:=Dn P w K mg base "rules_that_fit" ["book", "call"] 4 (spD 2 zdm)
noncomputable abbrev zom (P:Program) (w:World) (K:qB) (mg:Str→Option Value) (base:Heap):Prop:=Dn P w K mg base "nearest_of" ["roofs", "rules"] 2 (spD 2 zgy)
noncomputable abbrev zon (P:Program) (w:World) (K:qB) (mg:Str→Option Value) (base:Heap):Prop:=Dn P w K mg base "rule_names" ["rules"] 1 (spD 1 zio)
noncomputable abbrev zqr (P:Program) (w:World) (K:qB) (mg:Str→Option Value) (base:Heap):Prop:=Dn P w K mg base "answer_by" ["names"] 1 (spD 1 zjn)
noncomputable abbrev zwm (P:Program) (w:World) (K:qB) (mg:Str→Option Value) (base:Heap):Prop:=Dn P w K mg base "nearest" ["book", "call"] 5 (spD 2 zmr)
noncomputable abbrev zly (P:Program) (w:World) (K:qB) (mg:Str→Option Value) (base:Heap):Prop:=Dn P w K mg base "answer_of" ["book", "call"] 6 (spD 2 zce)
noncomputable abbrev zsk (P:Program) (w:World) (K:qB) (mg:Str→Option Value) (base:Heap):Prop:=Dn P w K mg base "_law_feed" ["_law_script", "_law_k"] 1 (zaab K)
noncomputable abbrev zff (P:Program) (w:World) (K:qB) (mg:Str→Option Value) (base:Heap):Prop:=Dn P w K mg base "_law_take" ["_law_feed_here", "_law_many"] 1 (spF 2 zah)
noncomputable abbrev zmv (P:Program) (w:World) (K:qB) (mg:Str→Option Value) (base:Heap):Prop:=Dn P w K mg base "_law_letters" ["_law_feed_here", "_law_many"] 2 (spF 2 zcg)
noncomputable abbrev zlz (P:Program) (w:World) (K:qB) (mg:Str→Option Value) (base:Heap):Prop:=Dn P w K mg base "_law_names" ["_law_feed_here", "_law_many"] 3 (spF 2 zbp)
noncomputable abbrev zwn (P:Program) (w:World) (K:qB) (mg:Str→Option Value) (base:Heap):Prop:=Dn P w K mg base "_law_web" ["_law_feed_here", "_law_names_here"] 2 (spF 2 zgz)
noncomputable abbrev zqs (P:Program) (w:World) (K:qB) (mg:Str→Option Value) (base:Heap):Prop:=Dn P w K mg base "_law_above" ["_law_web_here"] 1 (spD 1 zgb)
noncomputable abbrev zqt (P:Program) (w:World) (K:qB) (mg:Str→Option Value) (base:Heap):Prop:=Dn P w K mg base "_law_reach" ["_law_table", "_law_arm_here"] 1 (spD 2 zgc)
noncomputable abbrev zqu (P:Program) (w:World) (K:qB) (mg:Str→Option Value) (base:Heap):Prop:=Dn P w K mg base "_law_rules" ["_law_feed_here", "_law_names_here", "_law_places"] 4 (spF 3 zch)
noncomputable abbrev zwo (P:Program) (w:World) (K:qB) (mg:Str→Option Value) (base:Heap):Prop:=Dn P w K mg base "_law_arm" ["_law_feed_here", "_law_names_here"] 2 (spF 2 zbd)
noncomputable abbrev zoo (P:Program) (w:World) (K:qB) (mg:Str→Option Value) (base:Heap):Prop:=Dn P w K mg base "_law_lesser" ["_law_feed_here", "_law_table", "_law_call", "_law_one", "_law_other"] 2 (spF 5 zcq)
noncomputable abbrev zqv (P:Program) (w:World) (K:qB) (mg:Str→Option Value) (base:Heap):Prop:=Dn P w K mg base "_law_stays" ["_law_feed_here", "_law_table", "_law_book", "_law_call", "_law_told"] 7 (spF 5 zcf)
section
variable {P:Program} {w:World} {K:qB} {mg:Str→Option Value} {base:Heap}
theorem zyn {f:Addr} {fd:qAC} (F:Fun K "names_of" "names_of" zhp f fd) (T:Txt mg)  : FnOk P w K mg base CX0 1 f fd ["web"] (spD 1 zky):=by
 refine F.ok zyh (fun vs H Q E h=>zdo h) (fun cdv A outer s H vs Q E hr h=>?_)
 have hu:=zfv hr
 apply Exists.intro
 apply And.intro
 ·refine' Bx.out (zao (zbn (zdz (zdl (N':=["name", "elders"]) (own:=["name", "elders"]) (fr:=[]) (by kernel_rfl)) rfl (zcj (K:=K) rfl (bv 0)) ?hb1 (by intro _;rfl))))
  case hb1=>(intro cl C s H fp;refine' ⟨Bx.out (zfq (K:=K) (n:=2) rfl rfl (zbm (zau (i:=0) zll rfl (Or.inl rfl) (by first|exact .inl rfl|exact .inr rfl|assumption)) (zbm (zau (i:=1) zll rfl (Or.inl rfl) (by first|exact .inl rfl|exact .inr rfl|assumption)) zfp (by rfl)) (by rfl)) (by rfl) (by rfl)),Bx.out zit,Bx.out (bv 0)⟩)
 exact fn_d (f:=ziy) ((zhg (zis (zfm (zaf 0)) (zmg (zcp (zcp zji))) (zrt (zes (by decide) (zes (by decide) znh))) zlj (zaf 0)))) h
theorem zyo {f:Addr} {fd:qAC} (F:Fun K "names_in" "names_in" zhq f fd) (T:Txt mg)  : FnOk P w K mg base CX0 1 f fd ["arm"] (spD 1 zfx):=by
 refine F.ok zyj (fun vs H Q E h=>zdo h) (fun cdv A outer s H vs Q E hr h=>?_)
 have hu:=zfv hr
 apply Exists.intro
 apply And.intro
 ·refine' Bx.out (zag (zem (zfy (K:=K) rfl (zby (zpj (K:=K) rfl) (by rfl) T.isinstance zif (zaa (bv 0) (zaa (ztm (v:=.ty "tuple") (by rfl) T.tuple zho rfl (by decide) (by decide)) zak (by rfl)) (by rfl)) (by decide) (by decide) (zai (by rfl)) (by rfl)) (fun _=>rfl)) (zao (zbn (zla (zaav (K:=K) rfl) (by rfl) T.list zafj (zaa (bv 0) zak (by rfl)) (by decide) (by decide) (zai (by rfl)) (by rfl)))) zcd)
 (zao (zbn (zep (zaa (bv 0) zak (by rfl))))))
 exact fn_d (f:=zrz) ((zel (zaba (zrr (zadv (zaf 0) zpo)) (zhg (zlf zalc (zaj (zaf 0) zax))) zrs) (zhg (zhf (zaj (zaf 0) zax))))) h
theorem zrj {f:Addr} {fd:qAC} (F:Fun K "check_kinds" "check_kinds" zej f fd) (T:Txt mg) (D_names_of:zsj P w K mg base):FnOk P w K mg base CX0 2 f fd ["web", "names"] (spD 2 zfo):=by
 refine F.ok zrh (fun vs H Q E h=>zdo h) (fun cdv A outer s H vs Q E hr h=>?_)
 have hu:=zfv hr
 apply Exists.intro
 apply And.intro
 ·refine' Bx.out (zag (zav (i:=2) ziu rfl (Or.inl rfl) (zbg D_names_of (hr.mono (by decide)) (by rfl) (zaa (bv 0) zak (by rfl)) (by decide) (zai (by rfl)) (by rfl)) (by rfl) (.inl rfl))
 (zao (zcu qo rfl (zcj (K:=K) rfl (bv 1)) (zau (i:=3) ziu rfl (Or.inl rfl) (.inl rfl))
  (zao (zem (zcb (zhx (K:=K) rfl) (bv 3) (bv 2) (by rfl)) (zao zvu) zcd)) (by intro _;rfl))))
 exact fn_d (f:=zfn) ((zel (zkb (zda (zaj (zaf 0) zax))) (zpq (zfm (zaf 1)) zia (zaba (st_t (zbw zre (zaf 3) (zaf 2))) zzm zrs)))) h
theorem zyp {f:Addr} {fd:qAC} (F:Fun K "roofs_of" "roofs_of" zhr f fd) (T:Txt mg)  : FnOk P w K mg base CX0 1 f fd ["web"] (spD 1 zex):=by
 refine F.ok zyk (fun vs H Q E h=>zdo h) (fun cdv A outer s H vs Q E hr h=>?_)
 have hu:=zfv hr
 apply Exists.intro
 apply And.intro
 ·refine' Bx.out (zag (zav (i:=1) zgd rfl (Or.inl rfl) zml (by rfl) (.inl rfl))
 (zag (zcu qo rfl (zcj (K:=K) rfl (bv 0)) (zfq (K:=K) (n:=2) rfl rfl (zbm (zau (i:=2) zgd rfl (Or.inl rfl) (.inl rfl)) (zbm (zau (i:=3) zgd rfl (Or.inl rfl) (.inl rfl)) zfp (by rfl)) (by rfl)) (by rfl) (by rfl))
  (zag (zav (i:=4) zgd rfl (Or.inl rfl) (zaho (zaet (bv 2) zqb zahn) rfl rfl (by simp) (by decide)) (by rfl) (.inl rfl))
 (zag (zcu qo rfl (zcj (K:=K) rfl (bv 3)) (zau (i:=5) zgd rfl (Or.inl rfl) (.inl rfl))
  (zao (zgq (zkg (K:=K) rfl qB3 qBw qBv zvd (bv 4) (zaa (zgr hu (bv 1) (bv 5) (fun _ _=>rfl)) zak (by rfl)) (by rfl) (by rfl) (by rfl) (zai (by rfl)) (by rfl)) (by rfl))) (by intro _;rfl))
 (zao (ztn hu (bv 1) (bv 2) (bv 4) rfl)))) (by intro _;rfl))
 (zao (zbn (bv 1)))))
 exact fn_d (f:=zru) ((zel (zkb zsx) (zel (zpq (zfm (zaf 0)) (zmg (zcp (zcp zji))) (zel (zkb (zapw (zaf 2) (se_c fun _=>zbu))) (zel (zpq (zfm (zaf 3)) zia (zaiu (zgp (zaf 5)))) (zait (zaf 2) (zaf 4))))) zta))) h
theorem zabm {f:Addr} {fd:qAC} (F:Fun K "roof_of" "roof_of" zja f fd) (T:Txt mg) (D_names_in:znr P w K mg base):FnOk P w K mg base CX0 2 f fd ["roofs", "arm"] (spD 2 zkf):=by
 refine F.ok zabi (fun vs H Q E h=>zdo h) (fun cdv A outer s H vs Q E hr h=>?_)
 have hu:=zfv hr
 apply Exists.intro
 apply And.intro
 ·refine' Bx.out (zag (zav (i:=2) znp rfl (Or.inl rfl) zml (by rfl) (.inl rfl))
 (zag (zcu qo rfl (zcj (K:=K) rfl (zbg D_names_in (hr.mono (by decide)) (by rfl) (zaa (bv 1) zak (by rfl)) (by decide) (zai (by rfl)) (by rfl))) (zau (i:=3) znp rfl (Or.inl rfl) (.inl rfl))
  (zao (zgq (zkg (K:=K) rfl qB3 qBw qBv zvd (bv 2) (zaa (zgr hu (bv 0) (bv 3) (fun _ _=>rfl)) zak (by rfl)) (by rfl) (by rfl) (by rfl) (zai (by rfl)) (by rfl)) (by rfl))) (by intro _;rfl))
 (zao (zbn (bv 2)))))
 exact fn_d (f:=zvq) ((zel (zkb zsx) (zel (zpq (zfm (zda (zaj (zaf 1) zax))) zia (zaiu (zgp (zaf 3)))) zta))) h
theorem zpa {f:Addr} {fd:qAC} (F:Fun K "names_in_call" "names_in_call" zdf f fd) (T:Txt mg) (D_names_in:znr P w K mg base):FnOk P w K mg base CX0 2 f fd ["call"] (spD 1 zfr):=by
 refine F.ok zow (fun vs H Q E h=>zdo h) (fun cdv A outer s H vs Q E hr h=>?_)
 have hu:=zfv hr
 apply Exists.intro
 apply And.intro
 ·refine' Bx.out (zao (zbn (zaew (zdl (N':=["arm", "name"]) (own:=["arm", "name"]) (fr:=[]) (by kernel_rfl)) rfl (zcj (K:=K) rfl (bv 0)) ?hb1 (by intro _;rfl) (by intro _ _;rfl))))
  case hb1=>(intro cl C s H fp;refine' ⟨Bx.out (zau (i:=0) zih rfl (Or.inl rfl) (by first|exact .inl rfl|exact .inr rfl|assumption)),Bx.out zit,Bx.out (zcj (K:=K) rfl (zbg D_names_in (hr.mono (by decide)) (by rfl) (zaa (bv 0) zak (by rfl)) (by decide) (zai (by rfl)) (by rfl))),Bx.out (zau (i:=1) zih rfl (Or.inl rfl) (by first|exact .inl rfl|exact .inr rfl|assumption)),Bx.out zit,Bx.out (bv 1)⟩)
 exact fn_d (f:=zkj) ((zhg (zahg (k:=1) (zfm (zaf 0)) zia (zaem (by decide) (by decide)) (by decide) zlj (zfm (zda (zaj (zaf 0) zax))) zia (zaem (by decide) (by decide)) zlj (zaf 1)))) h
theorem zug {f:Addr} {fd:qAC} (F:Fun K "check_call" "check_call" zfa f fd) (T:Txt mg) (D_check_kinds:zmu P w K mg base) (D_names_in_call:zkq P w K mg base):FnOk P w K mg base CX0 3 f fd ["web", "places", "call"] (spD 3 zin):=by
 refine F.ok ztx (fun vs H Q E h=>zdo h) (fun cdv A outer s H vs Q E hr h=>?_)
 have hu:=zfv hr
 apply Exists.intro
 apply And.intro
 ·refine' Bx.out (zag (zem (zcb (zaeb (K:=K) rfl hr.units) (zby (zdx (K:=K) rfl) (by rfl) T.len zft (zaa (bv 2) zak (by rfl)) (by decide) (by decide) (zai (by rfl)) (by rfl)) (bv 1) (ziv _)) (zao zvu) zcd)
 (zao (zgq (zbg D_check_kinds (hr.mono (by decide)) (by rfl) (zaa (bv 0) (zaa (zbg D_names_in_call (hr.mono (by decide)) (by rfl) (zaa (bv 2) zak (by rfl)) (by decide) (zai (by rfl)) (by rfl)) zak (by rfl)) (by rfl)) (by decide) (zai (by rfl)) (by rfl)) (by rfl))))
 exact fn_d (f:=zob) ((zel (zaba (st_t (zbw zakw (zlf zmf (zaj (zaf 2) zax)) (zaf 1))) zzm zrs) (zady (zda (zaj (zaf 0) (zaj (zda (zaj (zaf 2) zax)) zax)))))) h
theorem zpb {f:Addr} {fd:qAC} (F:Fun K "roofs_in_call" "roofs_in_call" zdg f fd) (T:Txt mg) (D_roof_of:zwl P w K mg base):FnOk P w K mg base CX0 3 f fd ["roofs", "call"] (spD 2 zea):=by
 refine F.ok zoy (fun vs H Q E h=>zdo h) (fun cdv A outer s H vs Q E hr h=>?_)
 have hu:=zfv hr
 apply Exists.intro
 apply And.intro
 ·refine' Bx.out (zao (zbn (zdz (zdl (N':=["arm", "roofs"]) (own:=["arm"]) (fr:=[0]) (by kernel_rfl)) rfl (zcj (K:=K) rfl (bv 1)) ?hb1 (by intro _;rfl))))
  case hb1=>(intro cl C s H fp;refine' ⟨Bx.out (zau (i:=0) zlx rfl (Or.inl rfl) (by first|exact .inl rfl|exact .inr rfl|assumption)),Bx.out zit,Bx.out (zbg D_roof_of (hr.mono (by decide)) (by rfl) (zaa (bv 1) (zaa (bv 0) zak (by rfl)) (by rfl)) (by decide) (zai (by rfl)) (by rfl))⟩)
 exact fn_d (f:=zkk) ((zhg (zis (zfm (zaf 1)) zia (zpr (by decide)) zlj (zda (zaj (zaf 1) (zaj (zaf 0) zax)))))) h
theorem zuh {f:Addr} {fd:qAC} (F:Fun K "fits_under" "fits_under" zfb f fd) (T:Txt mg)  : FnOk P w K mg base CX0 1 f fd ["kinds", "call_roofs"] (spD 2 zgx):=by
 refine F.ok ztz (fun vs H Q E h=>zdo h) (fun cdv A outer s H vs Q E hr h=>?_)
 have hu:=zfv hr
 apply Exists.intro
 apply And.intro
 ·refine' Bx.out (zao (zbn (zby (zve (K:=K) rfl rfl) (by rfl) T.all zaac (zaa (zdz (zdl (N':=["kind", "roof"]) (own:=["kind", "roof"]) (fr:=[]) (by kernel_rfl)) rfl (zaev (K:=K) rfl rfl T.zip (zaa (bv 0) (zaa (bv 1) zak (by rfl)) (by rfl)) (by rfl) (by rfl)) ?hb1 (by intro _;rfl)) zak (by rfl)) (by decide) (by decide) (zai (by rfl)) (by rfl))))
  case hb1=>(intro cl C s H fp;refine' ⟨Bx.out (zfq (K:=K) (n:=2) rfl rfl (zbm (zau (i:=0) zju rfl (Or.inl rfl) (by first|exact .inl rfl|exact .inr rfl|assumption)) (zbm (zau (i:=1) zju rfl (Or.inl rfl) (by first|exact .inl rfl|exact .inr rfl|assumption)) zfp (by rfl)) (by rfl)) (by rfl) (by rfl)),Bx.out zit,Bx.out (zaey (zaex hu (bv 0) (bv 1)) (by rfl))⟩)
 exact fn_d (f:=zoc) ((zhg (zlf zadu (zaj (zis (zaji (zaj (zaf 0) (zaj (zaf 1) zax))) (zmg (zcp (zcp zji))) (zrt (zes (by decide) (zes (by decide) znh))) zlj (zais (zaf 0) (zaf 1))) zax)))) h
theorem zwp {f:Addr} {fd:qAC} (F:Fun K "is_nearer" "is_nearer" zge f fd) (T:Txt mg)  : FnOk P w K mg base CX0 1 f fd ["roofs", "one", "other"] (spD 3 zga):=by
 refine F.ok zvy (fun vs H Q E h=>zdo h) (fun cdv A outer s H vs Q E hr h=>?_)
 have hu:=zfv hr
 apply Exists.intro
 apply And.intro
 ·refine' Bx.out (zao (zbn (zalk (zahm (zaeb (K:=K) rfl hr.units) (bv 1) (bv 2) (ziv _)) (zalj (zby (zve (K:=K) rfl rfl) (by rfl) T.all zaac (zaa (zdz (zdl (N':=["low", "high", "roofs"]) (own:=["low", "high"]) (fr:=[0]) (by kernel_rfl)) rfl (zaev (K:=K) rfl rfl T.zip (zaa (bv 1) (zaa (bv 2) zak (by rfl)) (by rfl)) (by rfl) (by rfl)) ?hb1 (by intro _;rfl)) zak (by rfl)) (by decide) (by decide) (zai (by rfl)) (by rfl))))))
  case hb1=>(intro cl C s H fp;refine' ⟨Bx.out (zfq (K:=K) (n:=2) rfl rfl (zbm (zau (i:=0) zko rfl (Or.inl rfl) (by first|exact .inl rfl|exact .inr rfl|assumption)) (zbm (zau (i:=1) zko rfl (Or.inl rfl) (by first|exact .inl rfl|exact .inr rfl|assumption)) zfp (by rfl)) (by rfl)) (by rfl) (by rfl)),Bx.out zit,Bx.out (zaey (zaex hu (bv 1) (zgr hu (bv 2) (bv 0) (fun _ _=>rfl))) (by rfl))⟩)
 exact fn_d (f:=zqd) ((zhg (zaoc (zbw zakw (zaf 1) (zaf 2)) (zlf zadu (zaj (zis (zaji (zaj (zaf 1) (zaj (zaf 2) zax))) (zmg (zcp (zcp zji))) (zrt (zes (by decide) (zes (by decide) znh))) zlj (zais (zaf 1) (zgp (zaf 0)))) zax))))) h
theorem znt {f:Addr} {fd:qAC} (F:Fun K "rules_that_fit" "rules_that_fit" zcw f fd) (T:Txt mg) (D_check_call:zok P w K mg base) (D_fits_under:zol P w K mg base) (D_roofs_in_call:zkr P w K mg base) (D_roofs_of:zns P w K mg base):FnOk P w K mg base CX0 4 f fd ["book", "call"] (spD 2 zdm):=by
 refine F.ok znq (fun vs H Q E h=>zdo h) (fun cdv A outer s H vs Q E hr h=>?_)
 have hu:=zfv hr
 apply Exists.intro
 apply And.intro
 ·refine' Bx.out (zag (zall (bv 0) (zfq (K:=K) (n:=3) rfl rfl (zbm (zau (i:=2) zdh rfl (Or.inl rfl) (.inl rfl)) (zbm (zau (i:=3) zdh rfl (Or.inl rfl) (.inl rfl)) (zbm (zau (i:=4) zdh rfl (Or.inl rfl) (.inl rfl)) zfp (by rfl)) (by rfl)) (by rfl)) (by rfl) (by rfl)) (by rfl) (by rfl) (by rfl))
 (zag (zgq (zbg D_check_call (hr.mono (by decide)) (by rfl) (zaa (bv 2) (zaa (bv 3) (zaa (bv 1) zak (by rfl)) (by rfl)) (by rfl)) (by decide) (zai (by rfl)) (by rfl)) (by rfl))
 (zag (zav (i:=5) zdh rfl (Or.inr rfl) (zbg D_roofs_in_call (hr.mono (by decide)) (by rfl) (zaa (zbg D_roofs_of (hr.mono (by decide)) (by rfl) (zaa (bv 2) zak (by rfl)) (by decide) (zai (by rfl)) (by rfl)) (zaa (bv 1) zak (by rfl)) (by rfl)) (by decide) (zai (by rfl)) (by rfl)) (by rfl) (.inl rfl))
 (zao (zbn (zdz (zdl (N':=["rule", "call_roofs"]) (own:=["rule"]) (fr:=[5]) (by kernel_rfl)) rfl (zcj (K:=K) rfl (bv 4)) ?hb1 (by intro _;rfl)))))))
  case hb1=>(intro cl C s H fp;refine' ⟨Bx.out (zau (i:=0) zlh rfl (Or.inl rfl) (by first|exact .inl rfl|exact .inr rfl|assumption)),Bx.out (zye (zfy (K:=K) rfl (zbg D_fits_under (hr.mono (by decide)) (by rfl) (zaa (zci (zeg (K:=K) rfl) (bv 0) zan (fun _ _=>rfl)) (zaa (bv 1) zak (by rfl)) (by rfl)) (by decide) (zai (by rfl)) (by rfl)) (fun _=>rfl))),Bx.out (bv 0)⟩)
 exact fn_d (f:=zjs) ((zel (zaog (zaf 0) (zmg (zcp (zcp (zcp zji))))) (zel (zady (zda (zaj (zaf 2) (zaj (zaf 3) (zaj (zaf 1) zax))))) (zel (zkb (zda (zaj (zda (zaj (zaf 2) zax)) (zaj (zaf 1) zax)))) (zhg (zis (zfm (zaf 4)) zia (zpr (by decide)) (zrr (zda (zaj (zdy (se_c fun _=>zad)) (zaj (zaf 1) zax)))) (zaf 0))))))) h
theorem zui {f:Addr} {fd:qAC} (F:Fun K "nearest_of" "nearest_of" zfc f fd) (T:Txt mg) (D_is_nearer:zqq P w K mg base):FnOk P w K mg base CX0 2 f fd ["roofs", "rules"] (spD 2 zgy):=by
 refine F.ok zub (fun vs H Q E h=>zdo h) (fun cdv A outer s H vs Q E hr h=>?_)
 have hu:=zfv hr
 apply Exists.intro
 apply And.intro
 ·refine' Bx.out (zao (zbn (zdz (zdl (N':=["rule", "roofs", "rules"]) (own:=["rule"]) (fr:=[0,1]) (by kernel_rfl)) rfl (zcj (K:=K) rfl (bv 1)) ?hb1 (by intro _;rfl))))
  case hb1=>(intro cl C s H fp;refine' ⟨Bx.out (zau (i:=0) zoz rfl (Or.inr rfl) (by first|exact .inl rfl|exact .inr rfl|assumption)),Bx.out (zye (ztl (zfy (K:=K) rfl (zby (zadl (K:=K) rfl rfl) (by rfl) T.any zaib (zaa (zdz (zdl (N':=["name", "kinds", "rule", "roofs"]) (own:=["name", "kinds"]) (fr:=[0,1]) (by kernel_rfl)) rfl (zcj (K:=K) rfl (bv 2)) ?hb2 (by intro _;rfl)) zak (by rfl)) (by decide) (by decide) (zai (by rfl)) (by rfl)) (fun _=>rfl)))),Bx.out (bv 0)⟩;case hb2=>(intro cl C s H fp;refine' ⟨Bx.out (zfq (K:=K) (n:=2) rfl rfl (zbm (zau (i:=0) zjv rfl (Or.inl rfl) (by first|exact .inl rfl|exact .inr rfl|assumption)) (zbm (zau (i:=1) zjv rfl (Or.inl rfl) (by first|exact .inl rfl|exact .inr rfl|assumption)) zfp (by rfl)) (by rfl)) (by rfl) (by rfl)),Bx.out zit,Bx.out (zbg D_is_nearer (hr.mono (by decide)) (by rfl) (zaa (bv 3) (zaa (bv 1) (zaa (zci (zeg (K:=K) rfl) (bv 2) zan (fun _ _=>rfl)) zak (by rfl)) (by rfl)) (by rfl)) (by decide) (zai (by rfl)) (by rfl))⟩))
 exact fn_d (f:=zod) ((zhg (zis (zfm (zaf 1)) zia (zpr (by decide)) (zadt (zrr (zlf zadu (zaj (zis (zfm (zaf 2)) (zmg (zcp (zcp zji))) (zrt (zes (by decide) (zes (by decide) znh))) zlj (zda (zaj (zaf 3) (zaj (zaf 1) (zaj (zdy (se_c fun _=>zad)) zax))))) zax)))) (zaf 0)))) h
theorem zuj {f:Addr} {fd:qAC} (F:Fun K "rule_names" "rule_names" zfd f fd) (T:Txt mg)  : FnOk P w K mg base CX0 1 f fd ["rules"] (spD 1 zio):=by
 refine F.ok zud (fun vs H Q E h=>zdo h) (fun cdv A outer s H vs Q E hr h=>?_)
 have hu:=zfv hr
 apply Exists.intro
 apply And.intro
 ·refine' Bx.out (zao (zbn (zdz (zdl (N':=["name", "kinds"]) (own:=["name", "kinds"]) (fr:=[]) (by kernel_rfl)) rfl (zcj (K:=K) rfl (bv 0)) ?hb1 (by intro _;rfl))))
  case hb1=>(intro cl C s H fp;refine' ⟨Bx.out (zfq (K:=K) (n:=2) rfl rfl (zbm (zau (i:=0) zjw rfl (Or.inl rfl) (by first|exact .inl rfl|exact .inr rfl|assumption)) (zbm (zau (i:=1) zjw rfl (Or.inl rfl) (by first|exact .inl rfl|exact .inr rfl|assumption)) zfp (by rfl)) (by rfl)) (by rfl) (by rfl)),Bx.out zit,Bx.out (bv 0)⟩)
 exact fn_d (f:=zoe) ((zhg (zis (zfm (zaf 0)) (zmg (zcp (zcp zji))) (zrt (zes (by decide) (zes (by decide) znh))) zlj (zaf 0)))) h
theorem zwq {f:Addr} {fd:qAC} (F:Fun K "answer_by" "answer_by" zgf f fd) (T:Txt mg)  : FnOk P w K mg base CX0 1 f fd ["names"] (spD 1 zjn):=by
 refine F.ok zwa (fun vs H Q E h=>zdo h) (fun cdv A outer s H vs Q E hr h=>?_)
 have hu:=zfv hr
 apply Exists.intro
 apply And.intro
 ·refine' Bx.out (zag (zem (ztl (zfy (K:=K) rfl (bv 0) (fun _=>rfl))) (zao (zbn (zic (zaa zcc zak (by rfl))))) zcd)
 (zag (zem (zcb (zps (K:=K) rfl hr.units) (zby (zdx (K:=K) rfl) (by rfl) T.len zft (zaa (bv 0) zak (by rfl)) (by decide) (by decide) (zai (by rfl)) (by rfl)) zan (ziv _)) (zao (zbn (zic (zaa zcc (zaa (zci (zeg (K:=K) rfl) (bv 0) zan (fun _ _=>rfl)) zak (by rfl)) (by rfl))))) zcd)
 (zao (zbn (zic (zaa zcc (zaa (zla (zlu (K:=K) rfl) (by rfl) T.tuple zho (zaa (bv 0) zak (by rfl)) (by decide) (by decide) (zai (by rfl)) (by rfl)) zak (by rfl)) (by rfl)))))))
 exact fn_d (f:=zqe) ((zel (zaba (zadt (zrr (zaf 0))) (zhg (zoa (zaj (se_c fun _=>zaz) zax))) zrs) (zel (zaba (st_t (zbw zxu (zlf zmf (zaj (zaf 0) zax)) (se_c fun _=>zad))) (zhg (zoa (zaj (se_c fun _=>zaz) (zaj (zdy (se_c fun _=>zad)) zax)))) zrs) (zhg (zoa (zaj (se_c fun _=>zaz) (zaj (zlf zsy (zaj (zaf 0) zax)) zax))))))) h
theorem zabn {f:Addr} {fd:qAC} (F:Fun K "nearest" "nearest" zjb f fd) (T:Txt mg) (D_nearest_of:zom P w K mg base) (D_roofs_of:zns P w K mg base) (D_rule_names:zon P w K mg base) (D_rules_that_fit:zjx P w K mg base):FnOk P w K mg base CX0 5 f fd ["book", "call"] (spD 2 zmr):=by
 refine F.ok zabj (fun vs H Q E h=>zdo h) (fun cdv A outer s H vs Q E hr h=>?_)
 have hu:=zfv hr
 apply Exists.intro
 apply And.intro
 ·refine' Bx.out (zag (zav (i:=2) zsg rfl (Or.inl rfl) (zbg D_rules_that_fit (hr.mono (by decide)) (by rfl) (zaa (bv 0) (zaa (bv 1) zak (by rfl)) (by rfl)) (by decide) (zai (by rfl)) (by rfl)) (by rfl) (.inl rfl))
 (zao (zbn (zbg D_rule_names (hr.mono (by decide)) (by rfl) (zaa (zbg D_nearest_of (hr.mono (by decide)) (by rfl) (zaa (zbg D_roofs_of (hr.mono (by decide)) (by rfl) (zaa (zci (zeg (K:=K) rfl) (bv 0) zan (fun _ _=>rfl)) zak (by rfl)) (by decide) (zai (by rfl)) (by rfl)) (zaa (bv 2) zak (by rfl)) (by rfl)) (by decide) (zai (by rfl)) (by rfl)) zak (by rfl)) (by decide) (zai (by rfl)) (by rfl)))))
 exact fn_d (f:=zvv) ((zel (zkb (zda (zaj (zaf 0) (zaj (zaf 1) zax)))) (zhg (zda (zaj (zda (zaj (zda (zaj (zdy (se_c fun _=>zad)) zax)) (zaj (zaf 2) zax))) zax))))) h
theorem zwr {f:Addr} {fd:qAC} (F:Fun K "answer_of" "answer_of" zgg f fd) (T:Txt mg) (D_answer_by:zqr P w K mg base) (D_nearest:zwm P w K mg base):FnOk P w K mg base CX0 6 f fd ["book", "call"] (spD 2 zce):=by
 refine F.ok zwd (fun vs H Q E h=>zdo h) (fun cdv A outer s H vs Q E hr h=>?_)
 have hu:=zfv hr
 apply Exists.intro
 apply And.intro
 ·refine' Bx.out (zao (zbn (zbg D_answer_by (hr.mono (by decide)) (by rfl) (zaa (zbg D_nearest (hr.mono (by decide)) (by rfl) (zaa (bv 0) (zaa (bv 1) zak (by rfl)) (by rfl)) (by decide) (zai (by rfl)) (by rfl)) zak (by rfl)) (by decide) (zai (by rfl)) (by rfl))))
 exact fn_d (f:=zqf) ((zhg (zda (zaj (zda (zaj (zaf 0) (zaj (zaf 1) zax))) zax)))) h
theorem zyq {f:Addr} {fd:qAC} (F:Fun K "_law_feed" "_law_feed" zhs f fd) (T:Txt mg):FnOk P w K mg base CX0 1 f fd ["_law_script", "_law_k"] (zaab K):=by
 refine F.ok zyl (fun vs H Q E h=>by obtain ⟨a,ns,z,rfl,_⟩:=h;rfl) (fun cdv A outer s H vs Q E hr h=>?_)
 have hu:=zfv hr
 apply Exists.intro
 apply And.intro
 ·refine' Bx.out (zag (zav (i:=2) zig rfl (Or.inl rfl) zan (by rfl) (.inl rfl))
 (zag (zem (zcb zanb (bv 1) (zby (zdx (K:=K) rfl) (by rfl) T.len zft (zaa (bv 0) zak (by rfl)) (by decide) (by decide) (zai (by rfl)) (by rfl)) (ziv _)) (zao (zav (i:=2) zig rfl (Or.inl rfl) (zci (zeg (K:=K) rfl) (bv 0) (bv 1) (fun _ _=>rfl)) (by rfl) (.inl rfl))) zcd)
 (zag (zav (i:=3) zig rfl (Or.inl rfl) (zby zagb (by rfl) T.abs zaia (zaa (bv 2) zak (by rfl)) (by decide) (by decide) (zai (by rfl)) (by rfl)) (by rfl) (.inl rfl))
 (zag (zem (zcb zanb (bv 3) (zbl zana zan zan) (ziv _)) (zao (zav (i:=3) zig rfl (Or.inl rfl) zan (by rfl) (.inl rfl))) zcd)
 (zao (zbn (zep (zaa (bv 3) (zaa (zbl znx (zbl (zbz (K:=K) rfl) (zbl (zbz (K:=K) rfl) (zbl zir (zbl znx (bv 2) zan) zan) (zbl zir zan (bv 1))) zan) zan) (zaa zan zak (by rfl)) (by rfl)) (by rfl)))))))))
 exact zalz rfl (F:=zno) (fun ns=>(zfz rfl (zjr (zcy (zcl (se_c fun _=>zad) (by decide)))) (zfz rfl (zahx (by decide)) (zfz rfl (zjr (zcy (zcl (zlf zaoe (zaj (zaf 2) zax)) (by decide)))) (zfz rfl (zjr (zhd (st_t (zbw zapu (zaf 3) (zbw zany (se_c fun _=>zad) (se_c fun _=>zad)))) (zcy (zcl (se_c fun _=>zad) (by decide))) zev)) (zjr (zgs (zhf (zaj (zaf 3) (zaj (zbw znz (zbw zdr (zbw zdr (zbw zli (zbw znz (zaf 2) (se_c fun _=>zad)) (se_c fun _=>zad)) (zbw zli (se_c fun _=>zad) (zaf 1))) (se_c fun _=>zad)) (se_c fun _=>zad)) (zaj (se_c fun _=>zad) zax))))))))))) zama h
theorem zyr {f:Addr} {fd:qAC} (F:Fun K "_law_take" "_law_take" zht f fd) (T:Txt mg)  : FnOk P w K mg base CX0 1 f fd ["_law_feed_here", "_law_many"] (spF 2 zah):=by
 refine F.ok zym (fun vs H Q E h=>zkh h) (fun cdv A outer s H vs Q E hr h=>?_)
 have hu:=zfv hr
 apply Exists.intro
 apply And.intro
 ·refine' Bx.out (zag (zem (zcb zapm (zci (zeg (K:=K) rfl) (bv 0) zan (fun _ _=>rfl)) zan (ziv _)) (zag (zav (i:=2) zgh rfl (Or.inl rfl) (zbl znx (zci (zeg (K:=K) rfl) (bv 0) zan (fun _ _=>rfl)) (bv 1)) (by rfl) (.inl rfl))
 (zag (zto (bv 0) zan (zbl zacj (zci (zeg (K:=K) rfl) (bv 0) zan (fun _ _=>rfl)) (bv 1)) (by intro _;rfl) (by rfl) (by rfl) (by rfl))
 (zao (zbn (bv 2))))) zcd)
 (zag (zav (i:=3) zgh rfl (Or.inl rfl) (zbl (zbz (K:=K) rfl) (zci (zeg (K:=K) rfl) (bv 0) zan (fun _ _=>rfl)) zan) (by rfl) (.inl rfl))
 (zag (zto (bv 0) zan (bv 3) (by intro _;rfl) (by rfl) (by rfl) (by rfl))
 (zag (zav (i:=4) zgh rfl (Or.inl rfl) (zbl znx (zbl (zbz (K:=K) rfl) (zbl (zbz (K:=K) rfl) (zci (zeg (K:=K) rfl) (bv 0) zan (fun _ _=>rfl)) (zbl zir (zbl zir zan (bv 3)) (bv 3))) (zbl zir zan (bv 3))) zan) (by rfl) (.inl rfl))
 (zag (zav (i:=4) zgh rfl (Or.inl rfl) (zbl znx (zbl (zbz (K:=K) rfl) (zbl (zbz (K:=K) rfl) (zbl zir (bv 4) (bv 4)) (zbl zir zan (bv 4))) (bv 3)) zan) (by rfl) (.inl rfl))
 (zag (zav (i:=4) zgh rfl (Or.inl rfl) (zbl znx (zbl (zbz (K:=K) rfl) (zbl zir (bv 4) (bv 4)) (zbl zir zan (bv 4))) zan) (by rfl) (.inl rfl))
 (zao (zbn (zbl znx (zbl zacj (bv 4) zan) (bv 1))))))))))
 exact fn_f (by decide) (F:=zhn) ((zay (zhd (st_t (zbw zapv (zdy (se_c fun _=>zad)) (se_c fun _=>zad))) (zay (zcy (zcl (zbw znz (zdy (se_c fun _=>zad)) (zaf 1)) (by decide))) (zay (zcy (ztp (se_c fun _=>zad) (zbw zadq (zdy (se_c fun _=>zad)) (zaf 1)))) zlb)) zev) (zay (zcy (zcl (zbw zdr (zdy (se_c fun _=>zad)) (se_c fun _=>zad)) (by decide))) (zay (zcy (ztp (se_c fun _=>zad) (zaf 3))) (zay (zcy (zcl (zbw znz (zbw zdr (zbw zdr (zdy (se_c fun _=>zad)) (zbw zli (zbw zli (se_c fun _=>zad) (zaf 3)) (zaf 3))) (zbw zli (se_c fun _=>zad) (zaf 3))) (se_c fun _=>zad)) (by decide))) (zay (zcy (zcl (zbw znz (zbw zdr (zbw zdr (zbw zli (zaf 4) (zaf 4)) (zbw zli (se_c fun _=>zad) (zaf 4))) (zaf 3)) (se_c fun _=>zad)) (by decide))) (zay (zcy (zcl (zbw znz (zbw zdr (zbw zli (zaf 4) (zaf 4)) (zbw zli (se_c fun _=>zad) (zaf 4))) (se_c fun _=>zad)) (by decide))) (zgs (zbw znz (zbw zadq (zaf 4) (se_c fun _=>zad)) (zaf 1)))))))))) h
theorem zrk {f:Addr} {fd:qAC} (F:Fun K "_law_letters" "_law_letters" zek f fd) (T:Txt mg) (D_law_take:zff P w K mg base):FnOk P w K mg base CX0 2 f fd ["_law_feed_here", "_law_many"] (spF 2 zcg):=by
 refine F.ok zri (fun vs H Q E h=>zkh h) (fun cdv A outer s H vs Q E hr h=>?_)
 have hu:=zfv hr
 apply Exists.intro
 apply And.intro
 ·refine' Bx.out (zag (zav (i:=2) zgt rfl (Or.inl rfl) zcc (by rfl) (.inl rfl))
 (zag (zcu qo rfl (zcv rfl T.range (zaa (bv 1) zak (by rfl)) (by rfl)) (zau (i:=3) zgt rfl (Or.inl rfl) (.inl rfl))
  (zao (zav (i:=2) zgt rfl (Or.inl rfl) (zbl (zbz (K:=K) rfl) (bv 2) (zci (zeg (K:=K) rfl) zcc (zbg D_law_take (hr.mono (by decide)) (by rfl) (zaa (bv 0) (zaa zan zak (by rfl)) (by rfl)) (by decide) (zai (by rfl)) (by rfl)) (fun _ _=>rfl))) (by rfl) (.inl rfl))) (by intro _;rfl))
 (zao (zbn (bv 2)))))
 exact fn_f (by decide) (F:=zfs) ((zay (zcy (zcl (se_c fun _=>zaz) (by decide))) (zay (zid (zer (zaj (zaf 1) zax)) (zdu (by decide)) (zde (zez zdr (zar (zaf 2)) (zez zpm (zar (se_c fun _=>zaz)) (zba (zaw (zar (se_c fun _=>zad)) zbj)))) (by decide))) zlb))) h
theorem zws {f:Addr} {fd:qAC} (F:Fun K "_law_names" "_law_names" zgi f fd) (T:Txt mg) (D_law_letters:zmv P w K mg base) (D_law_take:zff P w K mg base):FnOk P w K mg base CX0 3 f fd ["_law_feed_here", "_law_many"] (spF 2 zbp):=by
 refine F.ok zwe (fun vs H Q E h=>zkh h) (fun cdv A outer s H vs Q E hr h=>?_)
 have hu:=zfv hr
 apply Exists.intro
 apply And.intro
 ·refine' Bx.out (zag (zav (i:=2) zbq rfl (Or.inl rfl) (zci (zeg (K:=K) rfl) (zep (zaa zan (zaa zan (zaa zan (zaa zan zak (by rfl)) (by rfl)) (by rfl)) (by rfl))) (zbg D_law_take (hr.mono (by decide)) (by rfl) (zaa (bv 0) (zaa zan zak (by rfl)) (by rfl)) (by decide) (zai (by rfl)) (by rfl)) (fun _ _=>rfl)) (by rfl) (.inl rfl))
 (zag (zav (i:=3) zbq rfl (Or.inl rfl) (zbg D_law_take (hr.mono (by decide)) (by rfl) (zaa (bv 0) (zaa zan zak (by rfl)) (by rfl)) (by decide) (zai (by rfl)) (by rfl)) (by rfl) (.inl rfl))
 (zag (zav (i:=4) zbq rfl (Or.inl rfl) (zbg D_law_take (hr.mono (by decide)) (by rfl) (zaa (bv 0) (zaa zan zak (by rfl)) (by rfl)) (by decide) (zai (by rfl)) (by rfl)) (by rfl) (.inl rfl))
 (zag (zav (i:=5) zbq rfl (Or.inl rfl) (zbg D_law_take (hr.mono (by decide)) (by rfl) (zaa (bv 0) (zaa zan zak (by rfl)) (by rfl)) (by decide) (zai (by rfl)) (by rfl)) (by rfl) (.inl rfl))
 (zag (zav (i:=6) zbq rfl (Or.inl rfl) (zci (zeg (K:=K) rfl) (zep (zaa zan (zaa zan (zaa zan (zaa zan (zaa zan (zaa zan (zaa zan (zaa zan (zaa zan (zaa zan (zaa zan (zaa zan zak (by rfl)) (by rfl)) (by rfl)) (by rfl)) (by rfl)) (by rfl)) (by rfl)) (by rfl)) (by rfl)) (by rfl)) (by rfl)) (by rfl))) (zbg D_law_take (hr.mono (by decide)) (by rfl) (zaa (bv 0) (zaa zan zak (by rfl)) (by rfl)) (by decide) (zai (by rfl)) (by rfl)) (fun _ _=>rfl)) (by rfl) (.inl rfl))
 (zag (zav (i:=7) zbq rfl (Or.inl rfl) (zbg D_law_letters (hr.mono (by decide)) (by rfl) (zaa (bv 0) (zaa (bv 2) zak (by rfl)) (by rfl)) (by decide) (zai (by rfl)) (by rfl)) (by rfl) (.inl rfl))
 (zag (zav (i:=8) zbq rfl (Or.inl rfl) (zep zak) (by rfl) (.inl rfl))
 (zag (zcu qo rfl (zcv rfl T.range (zaa (bv 1) zak (by rfl)) (by rfl)) (zau (i:=9) zbq rfl (Or.inl rfl) (.inl rfl))
  (zag (zem (zcb (zps (K:=K) rfl hr.units) (bv 3) zan (ziv _)) (zao (zav (i:=7) zbq rfl (Or.inl rfl) (zbg D_law_letters (hr.mono (by decide)) (by rfl) (zaa (bv 0) (zaa (zbg D_law_take (hr.mono (by decide)) (by rfl) (zaa (bv 0) (zaa (zbl (zbz (K:=K) rfl) (bv 2) zan) zak (by rfl)) (by rfl)) (by decide) (zai (by rfl)) (by rfl)) zak (by rfl)) (by rfl)) (by decide) (zai (by rfl)) (by rfl)) (by rfl) (.inl rfl))) zcd)
 (zag (zav (i:=10) zbq rfl (Or.inl rfl) (zci (zeg (K:=K) rfl) zcc (zbl znx (zbl (zbz (K:=K) rfl) (bv 5) (zbl zir (bv 6) (bv 9))) zan) (fun _ _=>rfl)) (by rfl) (.inl rfl))
 (zao (zgq (zkg (K:=K) rfl qAa qAY qAX zhw (bv 8) (zaa (zbl (zbz (K:=K) rfl) (zbl (zbz (K:=K) rfl) (zvt (zanw (K:=K) rfl) (bv 7) zzt (zzs (bv 4))) (bv 10)) (zvt (zanw (K:=K) rfl) (bv 7) (zzs (bv 4)) zzt)) zak (by rfl)) (by rfl) (by rfl) (by rfl) (zai (by rfl)) (by rfl)) (by rfl))))) (by intro _;rfl))
 (zag (zem (zcb (zps (K:=K) rfl hr.units) (zbg D_law_take (hr.mono (by decide)) (by rfl) (zaa (bv 0) (zaa zan zak (by rfl)) (by rfl)) (by decide) (zai (by rfl)) (by rfl)) zan (ziv _)) (zag (zav (i:=11) zbq rfl (Or.inl rfl) (zep (zaa zcc (zaa zcc (zaa zcc (zaa zcc (zaa zcc (zaa zcc (zaa zcc (zaa zcc (zaa zcc (zaa zcc (zaa zcc (zaa zcc (zaa zcc zak (by rfl)) (by rfl)) (by rfl)) (by rfl)) (by rfl)) (by rfl)) (by rfl)) (by rfl)) (by rfl)) (by rfl)) (by rfl)) (by rfl)) (by rfl))) (by rfl) (.inl rfl))
 (zag (zav (i:=11) zbq rfl (Or.inl rfl) (zbl (zbz (K:=K) rfl) (bv 11) (zep (zaa zcc (zaa zcc (zaa zcc (zaa zcc (zaa zcc zak (by rfl)) (by rfl)) (by rfl)) (by rfl)) (by rfl)))) (by rfl) (.inl rfl))
 (zao (zcu qo rfl (zcv rfl T.range (zaa (bv 1) zak (by rfl)) (by rfl)) (zau (i:=9) zbq rfl (Or.inl rfl) (.inl rfl))
  (zag (zav (i:=12) zbq rfl (Or.inl rfl) (zci (zeg (K:=K) rfl) (bv 11) (zbg D_law_take (hr.mono (by decide)) (by rfl) (zaa (bv 0) (zaa zan zak (by rfl)) (by rfl)) (by decide) (zai (by rfl)) (by rfl)) (fun _ _=>rfl)) (by rfl) (.inl rfl))
 (zao (zem (zcb (zhx (K:=K) rfl) (bv 12) (bv 8) (by rfl)) (zao (zto (bv 8) (bv 9) (bv 12) (by intro _;rfl) (by rfl) (by rfl) (by rfl))) zcd))) (by intro _;rfl))))) zcd)
 (zao (zbn (bv 8))))))))))))
 exact fn_f (by decide) (F:=zeb) ((zay (zde (zez zpm (zar (zhf (zaj (se_c fun _=>zad) (zaj (se_c fun _=>zad) (zaj (se_c fun _=>zad) (zaj (se_c fun _=>zad) zax)))))) (zba (zaw (zar (se_c fun _=>zad)) zbj))) (by decide)) (zay (zde (zba (zaw (zar (se_c fun _=>zad)) zbj)) (by decide)) (zay (zde (zba (zaw (zar (se_c fun _=>zad)) zbj)) (by decide)) (zay (zde (zba (zaw (zar (se_c fun _=>zad)) zbj)) (by decide)) (zay (zde (zez zpm (zar (zhf (zaj (se_c fun _=>zad) (zaj (se_c fun _=>zad) (zaj (se_c fun _=>zad) (zaj (se_c fun _=>zad) (zaj (se_c fun _=>zad) (zaj (se_c fun _=>zad) (zaj (se_c fun _=>zad) (zaj (se_c fun _=>zad) (zaj (se_c fun _=>zad) (zaj (se_c fun _=>zad) (zaj (se_c fun _=>zad) (zaj (se_c fun _=>zad) zax)))))))))))))) (zba (zaw (zar (se_c fun _=>zad)) zbj))) (by decide)) (zay (zde (zba (zaw (zar (zaf 2)) zbj)) (by decide)) (zay (zcy (zcl (zhf zax) (by decide))) (zay (zid (zer (zaj (zaf 1) zax)) (zdu (by decide)) (zay (zhd (st_t (zbw zxu (zaf 3) (se_c fun _=>zad))) (zde (zba (zaw (zba (zaw (zar (zbw zdr (zaf 2) (se_c fun _=>zad))) zbj)) zbj)) (by decide)) zev) (zay (zcy (zcl (zbw zpm (se_c fun _=>zaz) (zbw znz (zbw zdr (zaf 5) (zbw zli (zaf 6) (zaf 9))) (se_c fun _=>zad))) (by decide))) (znn (zar (zbw zdr (zbw zdr (zaof (zaf 7) zadw (zadx (zaf 4))) (zaf 10)) (zaof (zaf 7) (zadx (zaf 4)) zadw))))))) (zay (zaez (zaov (zez zxu (zba (zaw (zar (se_c fun _=>zad)) zbj)) (zar (se_c fun _=>zad)))) (zay (zcy (zcl (zhf (zaj (se_c fun _=>zaz) (zaj (se_c fun _=>zaz) (zaj (se_c fun _=>zaz) (zaj (se_c fun _=>zaz) (zaj (se_c fun _=>zaz) (zaj (se_c fun _=>zaz) (zaj (se_c fun _=>zaz) (zaj (se_c fun _=>zaz) (zaj (se_c fun _=>zaz) (zaj (se_c fun _=>zaz) (zaj (se_c fun _=>zaz) (zaj (se_c fun _=>zaz) (zaj (se_c fun _=>zaz) zax)))))))))))))) (by decide))) (zay (zcy (zcl (zbw zdr (zaf 11) (zhf (zaj (se_c fun _=>zaz) (zaj (se_c fun _=>zaz) (zaj (se_c fun _=>zaz) (zaj (se_c fun _=>zaz) (zaj (se_c fun _=>zaz) zax))))))) (by decide))) (zid (zer (zaj (zaf 1) zax)) (zdu (by decide)) (zay (zde (zez zpm (zar (zaf 11)) (zba (zaw (zar (se_c fun _=>zad)) zbj))) (by decide)) (zhd (st_t (zbw zre (zaf 12) (zaf 8))) (zcy (ztp (zaf 9) (zaf 12))) zev))))) zev) zlb)))))))))) h
theorem zabo {f:Addr} {fd:qAC} (F:Fun K "_law_web" "_law_web" zjc f fd) (T:Txt mg) (D_law_take:zff P w K mg base):FnOk P w K mg base CX0 2 f fd ["_law_feed_here", "_law_names_here"] (spF 2 zgz):=by
 refine F.ok zabk (fun vs H Q E h=>zkh h) (fun cdv A outer s H vs Q E hr h=>?_)
 have hu:=zfv hr
 apply Exists.intro
 apply And.intro
 ·refine' Bx.out (zag (zav (i:=2) zhu rfl (Or.inl rfl) (zep zak) (by rfl) (.inl rfl))
 (zag (zcu qo rfl (zcv rfl T.range (zaa (zby (zdx (K:=K) rfl) (by rfl) T.len zft (zaa (bv 1) zak (by rfl)) (by decide) (by decide) (zai (by rfl)) (by rfl)) zak (by rfl)) (by rfl)) (zau (i:=3) zhu rfl (Or.inl rfl) (.inl rfl))
  (zag (zav (i:=4) zhu rfl (Or.inl rfl) (zep zak) (by rfl) (.inl rfl))
 (zag (zcu qo rfl (zcv rfl T.range (zaa (zby (zut rfl) (by rfl) T.min zaad (zaa (bv 3) (zaa (zbg D_law_take (hr.mono (by decide)) (by rfl) (zaa (bv 0) (zaa zan zak (by rfl)) (by rfl)) (by decide) (zai (by rfl)) (by rfl)) zak (by rfl)) (by rfl)) (by decide) (by decide) (zai (by rfl)) (by rfl)) zak (by rfl)) (by rfl)) (zau (i:=5) zhu rfl (Or.inl rfl) (.inl rfl))
  (zag (zav (i:=6) zhu rfl (Or.inl rfl) (zci (zeg (K:=K) rfl) (bv 1) (zbg D_law_take (hr.mono (by decide)) (by rfl) (zaa (bv 0) (zaa (bv 3) zak (by rfl)) (by rfl)) (by decide) (zai (by rfl)) (by rfl)) (fun _ _=>rfl)) (by rfl) (.inl rfl))
 (zao (zem (zcb (zhx (K:=K) rfl) (bv 6) (bv 4) (by rfl)) (zao (zgq (zkg (K:=K) rfl qAa qAY qAX zhw (bv 4) (zaa (bv 6) zak (by rfl)) (by rfl) (by rfl) (by rfl) (zai (by rfl)) (by rfl)) (by rfl))) zcd))) (by intro _;rfl))
 (zao (zgq (zkg (K:=K) rfl qAa qAY qAX zhw (bv 2) (zaa (zic (zaa (zci (zeg (K:=K) rfl) (bv 1) (bv 3) (fun _ _=>rfl)) (zaa (bv 4) zak (by rfl)) (by rfl))) zak (by rfl)) (by rfl) (by rfl) (by rfl) (zai (by rfl)) (by rfl)) (by rfl))))) (by intro _;rfl))
 (zao (zbn (bv 2)))))
 exact fn_f (by decide) (F:=zkl) ((zay (zcy (zcl (zhf zax) (by decide))) (zay (zid (zer (zaj (zlf zmf (zaj (zaf 1) zax)) zax)) (zdu (by decide)) (zay (zcy (zcl (zhf zax) (by decide))) (zay (ztt (zsb (zaw (zajj zaod (zaw (zar (zaf 3)) (zaw (zba (zaw (zar (se_c fun _=>zad)) zbj)) zbj))) zbj)) (zdu (by decide)) (zay (zde (zez zpm (zar (zaf 1)) (zba (zaw (zar (zaf 3)) zbj))) (by decide)) (zhd (st_t (zbw zre (zaf 6) (zaf 4))) (znn (zar (zaf 6))) zev))) (znn (zar (zoa (zaj (zdy (zaf 3)) (zaj (zaf 4) zax)))))))) zlb))) h
theorem zwt {f:Addr} {fd:qAC} (F:Fun K "_law_above" "_law_above" zgj f fd) (T:Txt mg)  : FnOk P w K mg base CX0 1 f fd ["_law_web_here"] (spD 1 zgb):=by
 refine F.ok zwg (fun vs H Q E h=>zdo h) (fun cdv A outer s H vs Q E hr h=>?_)
 have hu:=zfv hr
 apply Exists.intro
 apply And.intro
 ·refine' Bx.out (zag (zav (i:=1) zed rfl (Or.inl rfl) zml (by rfl) (.inl rfl))
 (zag (zcu qo rfl (zcj (K:=K) rfl (bv 0)) (zfq (K:=K) (n:=2) rfl rfl (zbm (zau (i:=2) zed rfl (Or.inl rfl) (.inl rfl)) (zbm (zau (i:=3) zed rfl (Or.inl rfl) (.inl rfl)) zfp (by rfl)) (by rfl)) (by rfl) (by rfl))
  (zag (zav (i:=4) zed rfl (Or.inr rfl) (zep (zaa (bv 2) zak (by rfl))) (by rfl) (.inl rfl))
 (zag (zcu qo rfl (zcj (K:=K) rfl (bv 3)) (zau (i:=5) zed rfl (Or.inl rfl) (.inl rfl))
  (zao (zav (i:=4) zed rfl (Or.inr rfl) (zbl (zbz (K:=K) rfl) (bv 4) (zgr hu (bv 1) (bv 5) (fun _ _=>rfl))) (by rfl) (.inl rfl))) (by intro _;rfl))
 (zao (ztn hu (bv 1) (bv 2) (zdz (zdl (N':=["_law_other", "_law_rest", "_law_some"]) (own:=["_law_other", "_law_rest"]) (fr:=[4]) (by kernel_rfl)) rfl (zcj (K:=K) rfl (bv 0)) ?hb1 (by intro _;rfl)) rfl)))) (by intro _;rfl))
 (zao (zbn (bv 1)))))
  case hb1=>(intro cl C s H fp;refine' ⟨Bx.out (zfq (K:=K) (n:=2) rfl rfl (zbm (zau (i:=0) zkp rfl (Or.inl rfl) (by first|exact .inl rfl|exact .inr rfl|assumption)) (zbm (zau (i:=1) zkp rfl (Or.inl rfl) (by first|exact .inl rfl|exact .inr rfl|assumption)) zfp (by rfl)) (by rfl)) (by rfl) (by rfl)),Bx.out (zye (zcb (zadk (K:=K) rfl) (bv 0) (bv 2) (by rfl))),Bx.out (bv 0)⟩)
 exact fn_d (f:=zqg) ((zel (zkb zsx) (zel (zpq (zfm (zaf 0)) (zmg (zcp (zcp zji))) (zel (zkb (zhf (zaj (zaf 2) zax))) (zel (zpq (zfm (zaf 3)) zia (zkb (zbw zdr (zaf 4) (zgp (zaf 5))))) (zait (zaf 2) (zis (zfm (zaf 0)) (zmg (zcp (zcp zji))) (zrt (zes (by decide) (zes (by decide) znh))) (st_t (zbw zre (zaf 0) (zaf 2))) (zaf 0)))))) zta))) h
theorem zwu {f:Addr} {fd:qAC} (F:Fun K "_law_reach" "_law_reach" zgk f fd) (T:Txt mg)  : FnOk P w K mg base CX0 1 f fd ["_law_table", "_law_arm_here"] (spD 2 zgc):=by
 refine F.ok zwh (fun vs H Q E h=>zdo h) (fun cdv A outer s H vs Q E hr h=>?_)
 have hu:=zfv hr
 apply Exists.intro
 apply And.intro
 ·refine' Bx.out (zag (zem (zfy (K:=K) rfl (zby (zpj (K:=K) rfl) (by rfl) T.isinstance zif (zaa (bv 1) (zaa (ztm (v:=.ty "tuple") (by rfl) T.tuple zho rfl (by decide) (by decide)) zak (by rfl)) (by rfl)) (by decide) (by decide) (zai (by rfl)) (by rfl)) (fun _=>rfl)) (zag (zav (i:=2) ziq rfl (Or.inl rfl) (zep zak) (by rfl) (.inl rfl))
 (zag (zcu qo rfl (zcj (K:=K) rfl (bv 1)) (zau (i:=3) ziq rfl (Or.inl rfl) (.inl rfl))
  (zao (zav (i:=2) ziq rfl (Or.inl rfl) (zbl (zbz (K:=K) rfl) (bv 2) (zgr hu (bv 0) (bv 3) (fun _ _=>rfl))) (by rfl) (.inl rfl))) (by intro _;rfl))
 (zao (zbn (bv 2))))) zcd)
 (zao (zbn (zgr hu (bv 0) (bv 1) (fun _ _=>rfl)))))
 exact fn_d (f:=zjo) ((zel (zaba (zrr (zadv (zaf 1) zpo)) (zel (zkb (zhf zax)) (zel (zpq (zfm (zaf 1)) zia (zkb (zbw zdr (zaf 2) (zgp (zaf 3))))) zta)) zrs) (zhg (zgp (zaf 1))))) h
theorem zwv {f:Addr} {fd:qAC} (F:Fun K "_law_rules" "_law_rules" zgl f fd) (T:Txt mg) (D_law_names:zlz P w K mg base) (D_law_take:zff P w K mg base):FnOk P w K mg base CX0 4 f fd ["_law_feed_here", "_law_names_here", "_law_places"] (spF 3 zch):=by
 refine F.ok zwi (fun vs H Q E h=>zkh h) (fun cdv A outer s H vs Q E hr h=>?_)
 have hu:=zfv hr
 apply Exists.intro
 apply And.intro
 ·refine' Bx.out (zag (zav (i:=3) zee rfl (Or.inl rfl) (zep zak) (by rfl) (.inl rfl))
 (zag (zcu qo rfl (zcj (K:=K) rfl (zbg D_law_names (hr.mono (by decide)) (by rfl) (zaa (bv 0) (zaa (zbl (zbz (K:=K) rfl) zan (zbg D_law_take (hr.mono (by decide)) (by rfl) (zaa (bv 0) (zaa zan zak (by rfl)) (by rfl)) (by decide) (zai (by rfl)) (by rfl))) zak (by rfl)) (by rfl)) (by decide) (zai (by rfl)) (by rfl))) (zau (i:=4) zee rfl (Or.inl rfl) (.inl rfl))
  (zag (zav (i:=5) zee rfl (Or.inl rfl) (zic zak) (by rfl) (.inl rfl))
 (zag (zcu qo rfl (zcv rfl T.range (zaa (bv 2) zak (by rfl)) (by rfl)) (zau (i:=6) zee rfl (Or.inl rfl) (.inl rfl))
  (zag (zav (i:=7) zee rfl (Or.inl rfl) (zbl (zbz (K:=K) rfl) zan (zbg D_law_take (hr.mono (by decide)) (by rfl) (zaa (bv 0) (zaa (zby (zdx (K:=K) rfl) (by rfl) T.len zft (zaa (bv 1) zak (by rfl)) (by decide) (by decide) (zai (by rfl)) (by rfl)) zak (by rfl)) (by rfl)) (by decide) (zai (by rfl)) (by rfl))) (by rfl) (.inl rfl))
 (zao (zav (i:=5) zee rfl (Or.inl rfl) (zbl (zafe (K:=K) rfl) (bv 5) (zic (zaa (zci (zeg (K:=K) rfl) (bv 1) (zbg D_law_take (hr.mono (by decide)) (by rfl) (zaa (bv 0) (zaa (bv 7) zak (by rfl)) (by rfl)) (by decide) (zai (by rfl)) (by rfl)) (fun _ _=>rfl)) zak (by rfl)))) (by rfl) (.inl rfl)))) (by intro _;rfl))
 (zao (zem (zcb (zaer (K:=K) rfl hr.units) (bv 5) (zdz (zdl (N':=["_law_row"]) (own:=["_law_row"]) (fr:=[]) (by kernel_rfl)) rfl (zcj (K:=K) rfl (bv 3)) ?hb1 (by intro _;rfl)) (by rfl)) (zao (zgq (zkg (K:=K) rfl qAa qAY qAX zhw (bv 3) (zaa (zic (zaa (bv 4) (zaa (bv 5) zak (by rfl)) (by rfl))) zak (by rfl)) (by rfl) (by rfl) (by rfl) (zai (by rfl)) (by rfl)) (by rfl))) zcd)))) (by intro _;rfl))
 (zao (zbn (bv 3)))))
  case hb1=>(intro cl C s H fp;refine' ⟨Bx.out (zau (i:=0) zqp rfl (Or.inl rfl) (by first|exact .inl rfl|exact .inr rfl|assumption)),Bx.out zit,Bx.out (zci (zeg (K:=K) rfl) (bv 0) zan (fun _ _=>rfl))⟩)
 exact fn_f (by decide) (F:=zec) ((zay (zcy (zcl (zhf zax) (by decide))) (zay (ztt (zalq (zba (zaw (zez zdr (zar (se_c fun _=>zad)) (zba (zaw (zar (se_c fun _=>zad)) zbj))) zbj))) (zdu (by decide)) (zay (zcy (zcl (zoa zax) (by decide))) (zay (zid (zer (zaj (zaf 2) zax)) (zdu (by decide)) (zay (zde (zez zdr (zar (se_c fun _=>zad)) (zba (zaw (zar (zlf zmf (zaj (zaf 1) zax))) zbj))) (by decide)) (zde (zez zaff (zar (zaf 5)) (zyf (zaw (zez zpm (zar (zaf 1)) (zba (zaw (zar (zaf 7)) zbj))) zbj))) (by decide)))) (zhd (st_t (zbw zaos (zaf 5) (zis (zfm (zaf 3)) zia (zpr (by decide)) zlj (zdy (se_c fun _=>zad))))) (znn (zar (zoa (zaj (zaf 4) (zaj (zaf 5) zax))))) zev)))) zlb))) h
theorem zabp {f:Addr} {fd:qAC} (F:Fun K "_law_arm" "_law_arm" zjd f fd) (T:Txt mg) (D_law_take:zff P w K mg base):FnOk P w K mg base CX0 2 f fd ["_law_feed_here", "_law_names_here"] (spF 2 zbd):=by
 refine F.ok zabl (fun vs H Q E h=>zkh h) (fun cdv A outer s H vs Q E hr h=>?_)
 have hu:=zfv hr
 apply Exists.intro
 apply And.intro
 ·refine' Bx.out (zag (zav (i:=2) zlc rfl (Or.inl rfl) (zep zak) (by rfl) (.inl rfl))
 (zag (zcu qo rfl (zcv rfl T.range (zaa (zbl (zbz (K:=K) rfl) zan (zbg D_law_take (hr.mono (by decide)) (by rfl) (zaa (bv 0) (zaa zan zak (by rfl)) (by rfl)) (by decide) (zai (by rfl)) (by rfl))) zak (by rfl)) (by rfl)) (zau (i:=3) zlc rfl (Or.inl rfl) (.inl rfl))
  (zag (zav (i:=4) zlc rfl (Or.inl rfl) (zci (zeg (K:=K) rfl) (bv 1) (zbl zaci (zbl zaci (zby (zdx (K:=K) rfl) (by rfl) T.len zft (zaa (bv 1) zak (by rfl)) (by decide) (by decide) (zai (by rfl)) (by rfl)) zan) (zbg D_law_take (hr.mono (by decide)) (by rfl) (zaa (bv 0) (zaa (zbl (zbz (K:=K) rfl) zan (zbg D_law_take (hr.mono (by decide)) (by rfl) (zaa (bv 0) (zaa (zby (zdx (K:=K) rfl) (by rfl) T.len zft (zaa (bv 1) zak (by rfl)) (by decide) (by decide) (zai (by rfl)) (by rfl)) zak (by rfl)) (by rfl)) (by decide) (zai (by rfl)) (by rfl))) zak (by rfl)) (by rfl)) (by decide) (zai (by rfl)) (by rfl))) (fun _ _=>rfl)) (by rfl) (.inl rfl))
 (zao (zem (zcb (zhx (K:=K) rfl) (bv 4) (bv 2) (by rfl)) (zao (zgq (zkg (K:=K) rfl qAa qAY qAX zhw (bv 2) (zaa (bv 4) zak (by rfl)) (by rfl) (by rfl) (by rfl) (zai (by rfl)) (by rfl)) (by rfl))) zcd))) (by intro _;rfl))
 (zag (zem (zaes (zcb (zps (K:=K) rfl hr.units) (zby (zdx (K:=K) rfl) (by rfl) T.len zft (zaa (bv 2) zak (by rfl)) (by decide) (by decide) (zai (by rfl)) (by rfl)) zan (ziv _)) (zyd (zcb (zps (K:=K) rfl hr.units) (zbg D_law_take (hr.mono (by decide)) (by rfl) (zaa (bv 0) (zaa zan zak (by rfl)) (by rfl)) (by decide) (zai (by rfl)) (by rfl)) zan (ziv _)))).pt (zao (zbn (zci (zeg (K:=K) rfl) (bv 2) zan (fun _ _=>rfl)))) zcd)
 (zao (zbn (zla (zlu (K:=K) rfl) (by rfl) T.tuple zho (zaa (bv 2) zak (by rfl)) (by decide) (by decide) (zai (by rfl)) (by rfl)))))))
 exact fn_f (by decide) (F:=zei) ((zay (zcy (zcl (zhf zax) (by decide))) (zay (ztt (zsb (zaw (zez zdr (zar (se_c fun _=>zad)) (zba (zaw (zar (se_c fun _=>zad)) zbj))) zbj)) (zdu (by decide)) (zay (zde (zez zpm (zar (zaf 1)) (zez zadp (zar (zbw zadp (zlf zmf (zaj (zaf 1) zax)) (se_c fun _=>zad))) (zba (zaw (zez zdr (zar (se_c fun _=>zad)) (zba (zaw (zar (zlf zmf (zaj (zaf 1) zax))) zbj))) zbj)))) (by decide)) (zhd (st_t (zbw zre (zaf 4) (zaf 2))) (znn (zar (zaf 4))) zev))) (zay (zaez (zaou (zzv (st_t (zbw zxu (zlf zmf (zaj (zaf 2) zax)) (se_c fun _=>zad)))) (zaov (zez zxu (zba (zaw (zar (se_c fun _=>zad)) zbj)) (zar (se_c fun _=>zad))))) (zgs (zdy (se_c fun _=>zad))) zev) (zgs (zlf zsy (zaj (zaf 2) zax))))))) h
theorem zuk {f:Addr} {fd:qAC} (F:Fun K "_law_lesser" "_law_lesser" zfe f fd) (T:Txt mg) (D_law_reach:zqt P w K mg base) (D_law_take:zff P w K mg base):FnOk P w K mg base CX0 2 f fd ["_law_feed_here", "_law_table", "_law_call", "_law_one", "_law_other"] (spF 5 zcq):=by
 refine F.ok zue (fun vs H Q E h=>zkh h) (fun cdv A outer s H vs Q E hr h=>?_)
 have hu:=zfv hr
 apply Exists.intro
 apply And.intro
 ·refine' Bx.out (zag (zav (i:=5) zcz rfl (Or.inl rfl) (zic zak) (by rfl) (.inl rfl))
 (zag (zcu qo rfl (zahz (K:=K) rfl rfl T.zip (zaa (bv 2) (zaa (bv 3) (zaa (bv 4) zak (by rfl)) (by rfl)) (by rfl)) (by rfl) (by rfl)) (zfq (K:=K) (n:=3) rfl rfl (zbm (zau (i:=6) zcz rfl (Or.inl rfl) (.inl rfl)) (zbm (zau (i:=7) zcz rfl (Or.inl rfl) (.inl rfl)) (zbm (zau (i:=8) zcz rfl (Or.inl rfl) (.inl rfl)) zfp (by rfl)) (by rfl)) (by rfl)) (by rfl) (by rfl))
  (zag (zav (i:=9) zcz rfl (Or.inl rfl) (zep (zaa (bv 6) zak (by rfl))) (by rfl) (.inl rfl))
 (zag (zcu qo rfl (zcj (K:=K) rfl (zbg D_law_reach (hr.mono (by decide)) (by rfl) (zaa (bv 1) (zaa (bv 6) zak (by rfl)) (by rfl)) (by decide) (zai (by rfl)) (by rfl))) (zau (i:=10) zcz rfl (Or.inl rfl) (.inl rfl))
  (zao (zem (zaeu (zcb (zadk (K:=K) rfl) (bv 7) (zgr hu (bv 1) (bv 10) (fun _ _=>rfl)) (by rfl)) (zzu (zcb (zadk (K:=K) rfl) (bv 8) (zgr hu (bv 1) (bv 10) (fun _ _=>rfl)) (by rfl)))).pt (zao (zgq (zkg (K:=K) rfl qAa qAY qAX zhw (bv 9) (zaa (bv 10) zak (by rfl)) (by rfl) (by rfl) (by rfl) (zai (by rfl)) (by rfl)) (by rfl))) zcd)) (by intro _;rfl))
 (zao (zav (i:=5) zcz rfl (Or.inl rfl) (zbl (zafe (K:=K) rfl) (bv 5) (zic (zaa (zci (zeg (K:=K) rfl) (bv 9) (zbg D_law_take (hr.mono (by decide)) (by rfl) (zaa (bv 0) (zaa (zby (zdx (K:=K) rfl) (by rfl) T.len zft (zaa (bv 9) zak (by rfl)) (by decide) (by decide) (zai (by rfl)) (by rfl)) zak (by rfl)) (by rfl)) (by decide) (zai (by rfl)) (by rfl)) (fun _ _=>rfl)) zak (by rfl)))) (by rfl) (.inl rfl))))) (by intro _;rfl))
 (zao (zbn (bv 5)))))
 exact fn_f (by decide) (F:=zha) ((zay (zcy (zcl (zoa zax) (by decide))) (zay (zid (zalx (zaj (zaf 2) (zaj (zaf 3) (zaj (zaf 4) zax)))) (zafa (zki (by decide) (zki (by decide) (zki (by decide) zzw)))) (zay (zcy (zcl (zhf (zaj (zaf 6) zax)) (by decide))) (zay (zid (zfm (zda (zaj (zaf 1) (zaj (zaf 6) zax)))) (zdu (by decide)) (zhd (zaoa (st_t (zbw zre (zaf 7) (zgp (zaf 10)))) (st_t (zbw zre (zaf 8) (zgp (zaf 10))))) (znn (zar (zaf 10))) zev)) (zde (zez zaff (zar (zaf 5)) (zyf (zaw (zez zpm (zar (zaf 9)) (zba (zaw (zar (zlf zmf (zaj (zaf 9) zax))) zbj))) zbj))) (by decide))))) zlb))) h
theorem zww {f:Addr} {fd:qAC} (F:Fun K "_law_stays" "_law_stays" zgm f fd) (T:Txt mg) (D_law_lesser:zoo P w K mg base) (D_answer_of:zly P w K mg base):FnOk P w K mg base CX0 7 f fd ["_law_feed_here", "_law_table", "_law_book", "_law_call", "_law_told"] (spF 5 zcf):=by
 refine F.ok zwk (fun vs H Q E h=>zkh h) (fun cdv A outer s H vs Q E hr h=>?_)
 have hu:=zfv hr
 apply Exists.intro
 apply And.intro
 ·refine' Bx.out (zag (zav (i:=5) zdj rfl (Or.inl rfl) zml (by rfl) (.inl rfl))
 (zag (zcu qo rfl (zcj (K:=K) rfl (zci (zeg (K:=K) rfl) (bv 2) zan (fun _ _=>rfl))) (zfq (K:=K) (n:=2) rfl rfl (zbm (zau (i:=6) zdj rfl (Or.inl rfl) (.inl rfl)) (zbm (zau (i:=7) zdj rfl (Or.inl rfl) (.inl rfl)) zfp (by rfl)) (by rfl)) (by rfl) (by rfl))
  (zao (ztn hu (bv 5) (bv 6) (bv 7) rfl)) (by intro _;rfl))
 (zag (zcu qo rfl (zcv rfl T.range (zaa (zby (zdx (K:=K) rfl) (by rfl) T.len zft (zaa (bv 4) zak (by rfl)) (by decide) (by decide) (zai (by rfl)) (by rfl)) zak (by rfl)) (by rfl)) (zau (i:=8) zdj rfl (Or.inl rfl) (.inl rfl))
  (zao (zcu qo rfl (zcv rfl T.range (zaa (bv 8) zak (by rfl)) (by rfl)) (zau (i:=9) zdj rfl (Or.inl rfl) (.inl rfl))
  (zag (zav (i:=10) zdj rfl (Or.inl rfl) (zbg D_law_lesser (hr.mono (by decide)) (by rfl) (zaa (bv 0) (zaa (bv 1) (zaa (bv 3) (zaa (zgr hu (bv 5) (zci (zeg (K:=K) rfl) (bv 4) (bv 9) (fun _ _=>rfl)) (fun _ _=>rfl)) (zaa (zgr hu (bv 5) (zci (zeg (K:=K) rfl) (bv 4) (bv 8) (fun _ _=>rfl)) (fun _ _=>rfl)) zak (by rfl)) (by rfl)) (by rfl)) (by rfl)) (by rfl)) (by decide) (zai (by rfl)) (by rfl)) (by rfl) (.inl rfl))
 (zag (zav (i:=11) zdj rfl (Or.inl rfl) (zbg D_answer_of (hr.mono (by decide)) (by rfl) (zaa (bv 2) (zaa (bv 10) zak (by rfl)) (by rfl)) (by decide) (zai (by rfl)) (by rfl)) (by rfl) (.inl rfl))
 (zag (zem (zcb (zaeb (K:=K) rfl hr.units) (zci (zeg (K:=K) rfl) (bv 11) zan (fun _ _=>rfl)) zcc (ziv _)) (zao (zbn zqb)) zcd)
 (zao (zem (zaes (zcb (zhx (K:=K) rfl) (zci (zeg (K:=K) rfl) (bv 4) (bv 9) (fun _ _=>rfl)) (zci (zeg (K:=K) rfl) (bv 11) zan (fun _ _=>rfl)) (by rfl)) (zyd (zcb (zhx (K:=K) rfl) (zci (zeg (K:=K) rfl) (bv 4) (bv 8) (fun _ _=>rfl)) (zci (zeg (K:=K) rfl) (bv 11) zan (fun _ _=>rfl)) (by rfl)))).pt (zao (zbn zqb)) zcd))))) (by intro _;rfl))) (by intro _;rfl))
 (zao (zbn zqb)))))
 exact fn_f (by decide) (F:=zie) ((zay (zcy (zcl zsx (by decide))) (zay (zid (zfm (zdy (se_c fun _=>zad))) (zafa (zki (by decide) (zki (by decide) zzw))) (zcy (zalo (zaf 6) (zaf 7)))) (zay (zid (zer (zaj (zlf zmf (zaj (zaf 4) zax)) zax)) (zdu (by decide)) (zid (zer (zaj (zaf 8) zax)) (zdu (by decide)) (zay (zde (zba (zaw (zar (zaf 1)) (zaw (zar (zaf 3)) (zaw (zar (zgp (zdy (zaf 9)))) (zaw (zar (zgp (zdy (zaf 8)))) zbj))))) (by decide)) (zay (zcy (zcl (zda (zaj (zaf 2) (zaj (zaf 10) zax))) (by decide))) (zay (zhd (st_t (zbw zakw (zdy (se_c fun _=>zad)) (se_c fun _=>zaz))) (zgs (se_c fun _=>zbu)) zev) (zhd (zaob (st_t (zbw zre (zdy (zaf 9)) (zdy (se_c fun _=>zad)))) (st_t (zbw zre (zdy (zaf 8)) (zdy (se_c fun _=>zad))))) (zgs (se_c fun _=>zbu)) zev)))))) (zgs (se_c fun _=>zbu)))))) h
end
inductive Arm where
 | one (n:Str)
 | many (ns:List Str)
noncomputable def Arm.parts:Arm→List Str
 | .one n=>[n]
 | .many ns=>ns
noncomputable def armD:Arm→PyData
 | .one n=>.str n
 | .many ns=>.tuple (ns.map .str)
noncomputable def zat (c:List Arm):PyData:=.tuple (c.map armD)
noncomputable def zae (ks:List Str):PyData:=.tuple (ks.map .str)
noncomputable def zew (r:Str×List Str):PyData:=.tuple [.str r.1,zae r.2]
noncomputable def zcn (rs:List (Str×List Str)):PyData:=.list (rs.map zew)
noncomputable def zbo (W:Web) (p:Nat) (rs:List (Str×List Str)):PyData:=.tuple [webD W,.int p,zcn rs]
theorem zlm (a:Arm):zfx [armD a]=some (zab a.parts,true):=by
 cases a with
 | one n=>rfl
 | many ns=>rfl
theorem zqw {c:List Arm} (hc:c.length<300) (ha:∀ a∈c,a.parts.length<300):zfr [zat c]=some (zab (c.flatMap Arm.parts),true):=by
 have k:zke (gN 0) zhc (zbh (zck 1 zfx (zac (eVar 0) aNil))) (gN 1) zhc (eVar 1) [.no,.no] (c.map armD)=some (c.flatMap fun a=>a.parts.map .str):=by
  refine zqa fun a hm=>⟨[.pl (armD a),.no],rfl,rfl,?_⟩
  have e:zbh (zck 1 zfx (zac (eVar 0) aNil)) [.pl (armD a),.no]=some (a.parts.map .str,[]):=by
   unfold zbh
   rw [zdd (n:=1) (rs:=[⟨armD a,false,[]⟩]) rfl rfl (zlm a)]
   rfl
  unfold innL
  rw [e]
  show (if (a.parts.map PyData.str).length<300 then zeu (gN 1) zhc (eVar 1) [.pl (armD a),.no] (a.parts.map .str) else none)=_
  rw [if_pos (by rw [qE];exact ha a hm)]
  exact zgw fun x _=>⟨[.pl (armD a),.pl (.str x)],rfl,rfl,vs x,rfl,rfl⟩
 have fl:(c.flatMap fun a=>a.parts.map PyData.str)=(c.flatMap Arm.parts).map .str:=by
  rw [List.map_flatMap]
 rw [fl] at k
 exact zlv (env:=[.pl (zat c)]) rfl (zlk (zahh (own:=["arm", "name"]) (fr:=[]) (fi:=zbh (eVar 0)) (ds:=c.map armD) (bs:=[]) rfl (by rw [qE];exact hc) k))
theorem zwx {W:Web} (h:WebOk W) {c:List Arm} (hc:c.length<300) (ha:∀ a∈c,a.parts.length<300) (hk:∀ a∈c,∀ n∈a.parts,n∈nm W):zin [webD W,.int c.length,zat c]=some (.none,false):=by
 have hW:W.length≤12:=h.len
 have e2:eCB lenD (zac (eVar 2) aNil) [.pl (webD W),.pl (.int c.length),.pl (zat c)]=some (vi (c.map armD).length):=rfl
 have t:zbb (eOp neD (eCB lenD (zac (eVar 2) aNil)) (eVar 1)) [.pl (webD W),.pl (.int c.length),.pl (zat c)]=some false:=by
  refine zhh ?_
  unfold eOp
  rw [e2]
  show ((neD (.int ((c.map armD).length:Nat)) (.int (c.length:Nat))).bind fun z=>some (⟨z.1,z.2,bsOf z.1 ([]++[])⟩:Val))=_
  rw [qE]
  rw [zaee];rfl
 have cn:zfo [webD W,zab (c.flatMap Arm.parts)]=some (.none,false):=ztd (by omega) fun n hn=>by
  obtain ⟨a,ha',hn'⟩:=qA6.mp hn
  exact hk a ha' n hn'
 exact zapz (env:=[.pl (webD W),.pl (.int c.length),.pl (zat c)]) rfl (zey (if_f t rfl) (zaed (zdd (n:=2) (rs:=[⟨webD W,false,[]⟩,⟨zab (c.flatMap Arm.parts),true,[]⟩]) (zpx rfl (zth (zdd (n:=1) (rs:=[⟨zat c,false,[]⟩]) rfl rfl (zqw hc ha)))) rfl cn)))
noncomputable def upA (W:Web) (a:Arm):List Str:=a.parts.foldl (fun ks n=>(up W n).foldl insS ks) []
theorem zma {W:Web} {a:Arm} {x:Str}:x∈upA W a↔∃ n∈a.parts,x∈up W n:=by
 unfold upA
 have:∀ (l ks:List Str),x∈l.foldl (fun ks n=>(up W n).foldl insS ks) ks↔x∈ks∨∃ n∈l,x∈up W n:=by
  intro l
  induction l with
  | nil=>intro ks;simp
  | cons n l ih=>intro ks;rw [qBz,ih,zmj];simp [or_assoc]
 rw [this];simp
theorem zabq {W:Web} (h:WebOk W) {a:Arm} (hk:∀ n∈a.parts,n∈nm W):zkf [.dict (dS zbi (ups W)),armD a]=some (zbi (upA W a),true):=by
 have nd:∀ (l ks:List Str),ks.Nodup→(∀ x∈ks,x∈nm W)→(l.foldl (fun ks n=>(up W n).foldl insS ks) ks).Nodup∧∀ x∈l.foldl (fun ks n=>(up W n).foldl insS ks) ks,x∈nm W:=by
  intro l
  induction l with
  | nil=>intro ks h1 h2;exact ⟨h1,h2⟩
  | cons n l ih =>
   intro ks h1 h2
   refine ih _ (zte h1) fun x hx=>?_
   rcases zmj.mp hx with z|z
   ·exact h2 x z
   ·exact zvk h z
 obtain ⟨env',lp,s3,rfl⟩:=ziz (enc:=PyData.str) (g:=gN 3) (body:=sUpd 2 (zbr 0 (eVar 3))) (l:=a.parts) (env:=[.pl (.dict (dS zbi (ups W))),.pl (armD a),.ac (zbi []),.no])
  (fun pre env=>∃ s3,env=[.pl (.dict (dS zbi (ups W))),.pl (armD a),.ac (zbi (pre.foldl (fun ks n=>(up W n).foldl insS ks) [])),s3]) ⟨_,rfl⟩ (by
   rintro pre n post env hp ⟨s3,rfl⟩
   have hn:n∈nm W:=hk n (by rw [← hp];simp)
   refine ⟨[.pl (.dict (dS zbi (ups W))),.pl (armD a),.ac (zbi (pre.foldl (fun ks n=>(up W n).foldl insS ks) [])),.pl (.str n)],[.pl (.dict (dS zbi (ups W))),.pl (armD a),.ac (zbi ((pre++[n]).foldl (fun ks n=>(up W n).foldl insS ks) [])),.pl (.str n)],rfl,.inl ?_,_,rfl⟩
   ·have l1:=zaiy h n
    obtain ⟨n1,n2⟩:=nd pre [] qBc (by simp)
    have l2:=zme _ _ n1 n2
    have l3:=zpi h
    have lz:(zij (pre.foldl (fun ks n=>(up W n).foldl insS ks) [])).length+(zij (up W n)).length≤100000:=by unfold zij;rw [qE,qE];omega
    simp only [sUpd,zbi,zbr,eVar,qAm,qAl,qG,keyD,zkd,zry hn,qAx]
    rw [if_pos ⟨lz,by simp⟩,zlw,qBm]
    simp [frzs])
 exact zlv (env:=[.pl (.dict (dS zbi (ups W))),.pl (armD a),.no,.no]) rfl (zey rfl (zey (zmi (zdd (n:=1) (rs:=[⟨armD a,false,[]⟩]) rfl rfl (zlm a)) lp) rfl))
theorem zqx {W:Web} (h:WebOk W) {c:List Arm} (hc:c.length<300) (hk:∀ a∈c,∀ n∈a.parts,n∈nm W):zea [.dict (dS zbi (ups W)),zat c]=some (.list (c.map fun a=>zbi (upA W a)),true):=by
 have k:zeu (gN 0) zhc (zck 2 zkf (zac (eVar 1) (zac (eVar 0) aNil))) [.no,.pl (.dict (dS zbi (ups W)))] (c.map armD)=some (c.map fun a=>zbi (upA W a)) :=
  zgw fun a hm=>⟨[.pl (armD a),.pl (.dict (dS zbi (ups W)))],rfl,rfl,_,zdd (n:=2) (rs:=[⟨.dict (dS zbi (ups W)),false,[]⟩,⟨armD a,false,[]⟩]) rfl rfl (zabq h (hk a hm)),rfl⟩
 exact zlv (env:=[.pl (.dict (dS zbi (ups W))),.pl (zat c)]) rfl (zlk (zjk (own:=["arm"]) (fr:=[0]) (fi:=zbh (eVar 1)) (ds:=c.map armD) (bs:=[]) rfl (by rw [qE];omega) k))
theorem zaae {α β:Type} (f:α→PyData) (g:β→PyData) (l:List α) (r:List β):List.zipWith (fun d e=>PyData.tuple [d,e]) (l.map f) (r.map g)=(l.zip r).map fun z=>PyData.tuple [f z.1,g z.2]:=by
 induction l generalizing r with
 | nil=>rfl
 | cons a l ih=>cases r with
  | nil=>rfl
  | cons b r=>rw [qe,qe,List.zipWith_cons_cons,ih,List.zip_cons_cons,qe]
noncomputable def fitB (W:Web) (ks:List Str) (c:List Arm):Bool:=(ks.zip c).all fun z=>decide (z.1∈upA W z.2)
theorem zwy {W:Web} {ks:List Str} {c:List Arm} (hc:c.length<300):zgx [zae ks,.list (c.map fun a=>zbi (upA W a))]=some (.bool (fitB W ks c),false):=by
 have it:zabe (zac (eVar 0) (zac (eVar 1) aNil)) [.pl (zae ks),.pl (.list (c.map fun a=>zbi (upA W a)))]=some ((ks.zip c).map fun z=>PyData.tuple [.str z.1,zbi (upA W z.2)],[]):=by
  show some (List.zipWith (fun d e=>PyData.tuple [d,e]) (ks.map .str) (c.map fun a=>zbi (upA W a)),[]++[])=_
  rw [zaae];rfl
 have k:zeu (gT 2 (zbc 0 (zbc 1 zfl))) zhc (eDIn false (eVar 0) (eVar 1)) [.no,.no] ((ks.zip c).map fun z=>PyData.tuple [.str z.1,zbi (upA W z.2)])=some ((ks.zip c).map fun z=>.bool (decide (z.1∈upA W z.2))) :=
  zgw fun z _=>⟨[.pl (.str z.1),.pl (zbi (upA W z.2))],rfl,rfl,vb (decide (z.1∈upA W z.2)),zaje (neg:=false) (fr:=false) (bs:=[]) rfl rfl,rfl⟩
 have lz:(ks.zip c).length≤c.length:=by rw [qBB];exact Nat.min_le_right _ _
 exact zlv (env:=[.pl (zae ks),.pl (.list (c.map fun a=>zbi (upA W a)))]) rfl (zlk (bs:=[]) (zaoq (zjk (own:=["kind", "roof"]) (fr:=[]) it (by rw [qE];omega) k)))
noncomputable def zys (W:Web) (ks ls:List Str):Bool:=!(ks==ls)&&(ks.zip ls).all fun z=>decide (z.2∈up W z.1)
theorem zul:∀ (a b:List Str),PyData.eqvAll (a.map .str) (b.map .str)=(a==b)
 | [],[]=>rfl
 | [],_::_=>rfl
 | _::_,[]=>rfl
 | x::a,y::b=>by
  show (qAA (.str x) (.str y)&&PyData.eqvAll (a.map .str) (b.map .str))=_
  rw [zul a b]
  show ((x==y)&&(a==b))=_
  rfl
noncomputable def LowS (ks:List Str):Prop:=∀ k∈ks,qBP k=true
theorem zks {ks:List Str} (h:LowS ks):qAK (zae ks)=true:=by
 obtain ⟨h1,h2⟩:=zti ks h
 unfold qAK zae
 rw [qt]
 refine ⟨h1,decide_eq_true ?_⟩
 show qAG (ks.map .str)+1≤64
 omega
theorem zaic {ks ls:List Str} (h1:LowS ks) (h2:LowS ls):neD (zae ks) (zae ls)=some (.bool (!(ks==ls)),false):=by
 unfold neD eqOk
 rw [zks h1,zks h2,Bool.and_self,Bool.or_true,if_pos rfl]
 show some (PyData.bool (!PyData.eqvAll (ks.map .str) (ls.map .str)),false)=_
 rw [zul]
theorem zyt {W:Web} (h:WebOk W) {ks ls:List Str} (h1:LowS ks) (h2:LowS ls) (hk:∀ k∈ks,k∈nm W) (hl:ks.length<300):zga [.dict (dS zbi (ups W)),zae ks,zae ls]=some (.bool (zys W ks ls),false):=by
 have it:zabe (zac (eVar 1) (zac (eVar 2) aNil)) [.pl (.dict (dS zbi (ups W))),.pl (zae ks),.pl (zae ls)]=some ((ks.zip ls).map fun z=>PyData.tuple [.str z.1,.str z.2],[]):=by
  show some (List.zipWith (fun d e=>PyData.tuple [d,e]) (ks.map .str) (ls.map .str),[]++[])=_
  rw [zaae];rfl
 have k:zeu (gT 2 (zbc 0 (zbc 1 zfl))) zhc (eDIn false (eVar 1) (zbr 2 (eVar 0))) [.no,.no,.pl (.dict (dS zbi (ups W)))] ((ks.zip ls).map fun z=>PyData.tuple [.str z.1,.str z.2])=some ((ks.zip ls).map fun z=>.bool (decide (z.2∈up W z.1))) :=
  zgw fun z hz=>⟨[.pl (.str z.1),.pl (.str z.2),.pl (.dict (dS zbi (ups W)))],rfl,rfl,vb (decide (z.2∈up W z.1)),zaje (neg:=false) (fr:=false) (bs:=[]) rfl (zaon (d:=zbi (up W z.1)) (.inl rfl) rfl (by rw [zkd,zry (hk z.1 (qAz hz).1)];rfl)),rfl⟩
 have lz:(ks.zip ls).length≤ks.length:=by rw [qBB];exact qBD _ _
 have e1:eOp neD (eVar 1) (eVar 2) [.pl (.dict (dS zbi (ups W))),.pl (zae ks),.pl (zae ls)]=some (vb (!(ks==ls))):=by
  show ((neD (zae ks) (zae ls)).bind fun z=>some (⟨z.1,z.2,bsOf z.1 ([]++[])⟩:Val))=_
  rw [zaic h1 h2];rfl
 have e2:=zaoq (f:=fun z:Str×Str=>decide (z.2∈up W z.1)) (zjk (own:=["low", "high"]) (fr:=[0]) it (by rw [qE];omega) k)
 refine zlv (env:=[.pl (.dict (dS zbi (ups W))),.pl (zae ks),.pl (zae ls)]) rfl (zlk (bs:=[]) ?_)
 unfold eAnd
 rw [e1,qG]
 unfold zys
 cases ks==ls with
 | true=>rfl
 | false=>exact e2
structure RulesOk (W:Web) (rs:List (Str×List Str)):Prop where
 low:∀ r∈rs,LowS r.2
 kinds:∀ r∈rs,∀ k∈r.2,k∈nm W
 few:∀ r∈rs,r.2.length<300
 len:rs.length<300
theorem RulesOk.filter {W:Web} {rs:List (Str×List Str)} (h:RulesOk W rs) (p:Str×List Str→Bool):RulesOk W (rs.filter p) :=
 ⟨fun r hr=>h.low r (qx.mp hr).1,fun r hr=>h.kinds r (qx.mp hr).1,fun r hr=>h.few r (qx.mp hr).1,qBl (qA4 _ _) h.len⟩
structure CallOk (W:Web) (c:List Arm):Prop where
 len:c.length<300
 few:∀ a∈c,a.parts.length<300
 kinds:∀ a∈c,∀ n∈a.parts,n∈nm W
noncomputable def fitL (W:Web) (rs:List (Str×List Str)) (c:List Arm):List (Str×List Str):=rs.filter fun r=>fitB W r.2 c
noncomputable def zik (W:Web) (rs:List (Str×List Str)):List (Str×List Str):=rs.filter fun r=>!(rs.any fun q=>zys W q.2 r.2)
theorem zaid {n:Nat} {g:GF} {f:AF} {env:DEnv} {rs:List Val} {b:Bool} (h:f env=some rs) (hn:rs.length=n) (k:g (zix rs)=some (.bool b,false)):tTru (zck n g f) env=some b:=by
 unfold tTru;rw [zdd h hn k];rfl
theorem zaqf {α:Type} {f:α→Bool} {l:List α} {a:EF} {env:DEnv} {fr:Bool} {bs:List Nat} (ha:a env=some ⟨.list (l.map fun x=>.bool (f x)),fr,bs⟩):eCB (anyD fun bs=>bs.any id) (zac a aNil) env=some (vb (l.any f)):=by
 unfold eCB
 rw [zth ha,qG]
 show ((zpn (l.map fun x=>.bool (f x))).map _).bind _=_
 rw [zpz]
 simp only [qAx,qG,qBV]
 rfl
theorem zwz {W:Web} (h:WebOk W) {rs:List (Str×List Str)} (hr:RulesOk W rs):zgy [.dict (dS zbi (ups W)),zcn rs]=some (zcn (zik W rs),true):=by
 have hlen:=hr.len
 have k:zeu (gN 0) (zne (tTru (eCB (anyD fun bs=>bs.any id) (zac (zii ["name", "kinds"] [0,1] (zbh (eVar 2)) (gT 2 (zbc 0 (zbc 1 zfl))) zhc (zck 3 zga (zac (eVar 3) (zac (eVar 1) (zac (eIxV 2 (eC (.int 1))) aNil))))) aNil)))) (eVar 0) [.no,.pl (.dict (dS zbi (ups W))),.pl (zcn rs)] (rs.map zew)=some ((zik W rs).map zew):=by
  refine zgv (enc:=zew) (out:=zew) (e:=eVar 0) (fun r=>!(rs.any fun q=>zys W q.2 r.2)) fun r hm=>⟨[.pl (zew r),.pl (.dict (dS zbi (ups W))),.pl (zcn rs)],rfl,?_,fun _=>⟨⟨zew r,false,[]⟩,rfl,rfl⟩⟩
  have k2:zeu (gT 2 (zbc 0 (zbc 1 zfl))) zhc (zck 3 zga (zac (eVar 3) (zac (eVar 1) (zac (eIxV 2 (eC (.int 1))) aNil)))) [.no,.no,.pl (zew r),.pl (.dict (dS zbi (ups W)))] (rs.map zew)=some (rs.map fun q=>.bool (zys W q.2 r.2)) :=
   zgw fun q hq=>⟨[.pl (.str q.1),.pl (zae q.2),.pl (zew r),.pl (.dict (dS zbi (ups W)))],rfl,rfl,_,zdd (n:=3) (rs:=[⟨.dict (dS zbi (ups W)),false,[]⟩,⟨zae q.2,false,[]⟩,⟨zae r.2,false,[]⟩]) rfl rfl (zyt h (hr.low q hq) (hr.low r hm) (hr.kinds q hq) (hr.few q hq)),rfl⟩
  exact zaop (zaqf (f:=fun q:Str×List Str=>zys W q.2 r.2) (zjk (own:=["name", "kinds"]) (fr:=[0,1]) (fi:=zbh (eVar 2)) (env:=[.pl (zew r),.pl (.dict (dS zbi (ups W))),.pl (zcn rs)]) (ds:=rs.map zew) (bs:=[]) rfl (by rw [qE];omega) k2))
 exact zlv (env:=[.pl (.dict (dS zbi (ups W))),.pl (zcn rs)]) rfl (zlk (zjk (own:=["rule"]) (fr:=[0,1]) (fi:=zbh (eVar 1)) (ds:=rs.map zew) (bs:=[]) rfl (by rw [qE];omega) k))
theorem zxa {rs:List (Str×List Str)} (hl:rs.length<300):zio [zcn rs]=some (zab (rs.map (·.1)),true):=by
 have k:zeu (gT 2 (zbc 0 (zbc 1 zfl))) zhc (eVar 0) [.no,.no] (rs.map zew)=some (rs.map fun r=>.str r.1):=zgw fun r _=>⟨[.pl (.str r.1),.pl (zae r.2)],rfl,rfl,vs r.1,rfl,rfl⟩
 have e:(rs.map fun r=>PyData.str r.1)=(rs.map (·.1)).map .str:=by rw [qBS];rfl
 rw [e] at k
 exact zlv (env:=[.pl (zcn rs)]) rfl (zlk (zjk (own:=["name", "kinds"]) (fr:=[]) (fi:=zbh (eVar 0)) (ds:=rs.map zew) (bs:=[]) rfl (by rw [qE];omega) k))
noncomputable def zcr:List Str→PyData
 | []=>.tuple [.str "none"]
 | [x]=>.tuple [.str "rule",.str x]
 | xs=>.tuple [.str "quarrel",zae xs]
theorem zyu:∀ (xs:List Str),zjn [zab xs]=some (zcr xs,false)
 | []=>rfl
 | [x]=>rfl
 | x::y::xs=>by
  have t:zbb (eOp eqD (eCB lenD (zac (eVar 0) aNil)) (eC (.int 1))) [.pl (zab (x::y::xs))]=some false:=by
   rw [zhh (zagz (i:=((x::y::xs).map PyData.str).length) (j:=1) (zrx rfl) rfl)]
   congr 1
  exact zlv (env:=[.pl (zab (x::y::xs))]) rfl (zey (if_f rfl rfl) (zey (if_f t rfl) rfl))
theorem zpc {W:Web} (h:WebOk W) {rs:List (Str×List Str)} {c:List Arm} (hr:RulesOk W rs) (hc:CallOk W c):zdm [zbo W c.length rs,zat c]=some (zcn (fitL W rs c),true):=by
 have hl:=hr.len
 have e5:sSet 5 (zck 2 zea (zac (zck 1 zex (zac (eVar 2) aNil)) (zac (eVar 1) aNil))) [.pl (zbo W c.length rs),.pl (zat c),.pl (webD W),.pl (.int c.length),.pl (zcn rs),.no]=some (.nx [.pl (zbo W c.length rs),.pl (zat c),.pl (webD W),.pl (.int c.length),.pl (zcn rs),.ac (.list (c.map fun a=>zbi (upA W a)))]) :=
  zvj (r:=⟨.list (c.map fun a=>zbi (upA W a)),true,[]⟩) (zdd (n:=2) (rs:=[⟨.dict (dS zbi (ups W)),true,[]⟩,⟨zat c,false,[]⟩]) (zpx (zdd (n:=1) (rs:=[⟨webD W,false,[]⟩]) rfl rfl (zrw h)) (zth rfl)) rfl (zqx h hc.len hc.kinds))
 have k:zeu (gN 0) (tTru (zck 2 zgx (zac (eIxV 0 (eC (.int 1))) (zac (eVar 1) aNil)))) (eVar 0) [.no,.pl (.list (c.map fun a=>zbi (upA W a)))] (rs.map zew)=some ((fitL W rs c).map zew) :=
  zgv (enc:=zew) (out:=zew) (e:=eVar 0) (fun r=>fitB W r.2 c) fun r hm=>⟨[.pl (zew r),.pl (.list (c.map fun a=>zbi (upA W a)))],rfl,zaid (n:=2) (rs:=[⟨zae r.2,false,[]⟩,⟨.list (c.map fun a=>zbi (upA W a)),false,[]⟩]) rfl rfl (zwy hc.len),fun _=>⟨⟨zew r,false,[]⟩,rfl,rfl⟩⟩
 exact zlv (env:=[.pl (zbo W c.length rs),.pl (zat c),.no,.no,.no,.no]) rfl (zey rfl (zey (zaed (zdd (n:=3) (rs:=[⟨webD W,false,[]⟩,vi c.length,⟨zat c,false,[]⟩]) rfl rfl (zwx h hc.len hc.few hc.kinds))) (zey e5 (zlk (zjk (own:=["rule"]) (fr:=[5]) (fi:=zbh (eVar 4)) (ds:=rs.map zew) (bs:=[]) rfl (by rw [qE];omega) k)))))
theorem zafl {W:Web} (h:WebOk W) {rs:List (Str×List Str)} {c:List Arm} (hr:RulesOk W rs) (hc:CallOk W c):zmr [zbo W c.length rs,zat c]=some (zab ((zik W (fitL W rs c)).map (·.1)),true):=by
 have e2:sSet 2 (zck 2 zdm (zac (eVar 0) (zac (eVar 1) aNil))) [.pl (zbo W c.length rs),.pl (zat c),.no]=some (.nx [.pl (zbo W c.length rs),.pl (zat c),.ac (zcn (fitL W rs c))]) :=
  zvj (r:=⟨zcn (fitL W rs c),true,[]⟩) (zdd (n:=2) (rs:=[⟨zbo W c.length rs,false,[]⟩,⟨zat c,false,[]⟩]) rfl rfl (zpc h hr hc))
 have e3:zck 1 zex (zac (eIxV 0 (eC (.int 0))) aNil) [.pl (zbo W c.length rs),.pl (zat c),.ac (zcn (fitL W rs c))]=some ⟨.dict (dS zbi (ups W)),true,[]⟩:=zdd (n:=1) (rs:=[⟨webD W,false,[]⟩]) rfl rfl (zrw h)
 have e4:zck 2 zgy (zac (zck 1 zex (zac (eIxV 0 (eC (.int 0))) aNil)) (zac (eVar 2) aNil)) [.pl (zbo W c.length rs),.pl (zat c),.ac (zcn (fitL W rs c))]=some ⟨zcn (zik W (fitL W rs c)),true,[2]⟩:=zdd (n:=2) (rs:=[⟨.dict (dS zbi (ups W)),true,[]⟩,⟨zcn (fitL W rs c),false,[2]⟩]) (zpx e3 (zth rfl)) rfl (zwz h (hr.filter _))
 exact zlv (env:=[.pl (zbo W c.length rs),.pl (zat c),.no]) rfl (zey e2 (zlk (zdd (n:=1) (rs:=[⟨zcn (zik W (fitL W rs c)),true,[2]⟩]) (zth e4) rfl (zxa ((hr.filter _).filter _).len))))
theorem zqy {W:Web} (h:WebOk W) {rs:List (Str×List Str)} {c:List Arm} (hr:RulesOk W rs) (hc:CallOk W c):zce [zbo W c.length rs,zat c]=some (zcr ((zik W (fitL W rs c)).map (·.1)),false) :=
 zlv (env:=[.pl (zbo W c.length rs),.pl (zat c)]) rfl (zlk (zdd (n:=1) (rs:=[⟨zab ((zik W (fitL W rs c)).map fun r:Str×List Str=>r.1),true,[]⟩]) (zth (zdd (n:=2) (rs:=[⟨zbo W c.length rs,false,[]⟩,⟨zat c,false,[]⟩]) rfl rfl (zafl h hr hc))) rfl (zyu _)))
theorem zajl {a b:EF} {env:DEnv} {x y:List Str} {f1 f2:Bool} {b1 b2:List Nat} (ha:a env=some ⟨zab x,f1,b1⟩) (hb:b env=some ⟨zab y,f2,b2⟩) (h:x.length+y.length≤100000):eOp addD a b env=some ⟨zab (x++y),true,b1++b2⟩:=by
 unfold eOp
 rw [ha,hb]
 show ((if (x.map PyData.str).length+(y.map PyData.str).length≤100000 then some (PyData.list (x.map .str++y.map .str),true) else none).bind fun z=>some (⟨z.1,z.2,bsOf z.1 (b1++b2)⟩:Val))=_
 rw [if_pos (by rw [qE,qE];exact h),← qy]
 rfl
theorem zaoz {a b:EF} {env:DEnv} {i j:Int} (ha:a env=some (vi i)) (hb:b env=some (vi j)):eOp gtD a b env=some (vb (decide (j<i))):=by
 unfold eOp;rw [ha,hb];rfl
structure CallIn (xs:List Str) (c:List Arm):Prop where
 kinds:∀ a∈c,∀ n∈a.parts,n∈xs
 few:∀ a∈c,a.parts.length≤4
 some:∀ a∈c,a.parts≠[]
section
variable {A0 A2 A6 s8 s9:Sl} {ds:List PyData} {xs:List Str} {r:Int} {n at_:Nat}
end
noncomputable def Hd (d:PyData) (s:Sl):Prop:=s=.pl d∨s=.ac d
theorem e_hd {env:DEnv} {i:Nat} {d:PyData} {s:Sl} (h:env[i]?=some s) (hs:Hd d s):∃ bs,eVar i env=some ⟨d,false,bs⟩:=by
 unfold eVar
 rw [h]
 rcases hs with rfl|rfl
 ·exact ⟨_,rfl⟩
 ·exact ⟨_,rfl⟩
section
variable {A0 A2 A6 s8 s9:Sl} {ds:List PyData} {xs:List Str} {r:Int} {n at_:Nat}
end
theorem zxb:∀ (l:List (List Str)),(∀ ks∈l,LowS ks)→qAi (l.map zae)=true∧qAG (l.map zae)≤1
 | [],_=>⟨rfl,by simp [qAG]⟩
 | ks::l,h=>by
  obtain ⟨h1,h2⟩:=zxb l fun x hx=>h x (qI _ hx)
  obtain ⟨g1,g2⟩:=zti ks (h ks qg)
  constructor
  ·rw [qe]
   simp only [qAi,zae,PyData.canLay0,qt]
   exact ⟨g1,h1⟩
  ·rw [qe]
   simp only [qAG,zae,PyData.depth]
   rw [g2]
   have:qAG (l.map fun ks=>PyData.tuple (ks.map .str))≤1:=h2
   omega
theorem zyv {l:List (List Str)} (h:∀ ks∈l,LowS ks):qAK (.list (l.map zae))=true:=by
 obtain ⟨h1,h2⟩:=zxb l h
 unfold qAK
 rw [qt]
 refine ⟨by simpa [PyData.canLay0] using h1,decide_eq_true ?_⟩
 simp only [PyData.depth]
 omega
theorem zafm (l:List (List Str)) (ks:List Str):((l.map zae).any fun e=>qAA e (zae ks))=decide (ks∈l):=by
 rw [qBV,qAe,qAv,decide_eq_true_iff]
 have e:∀ a b:List Str,qAA (zae a) (zae b)=(a==b):=fun a b=>by
  unfold zae
  simp only [qAA]
  exact zul a b
 constructor
 ·rintro ⟨y,hy,h⟩
  have h:qAA (zae y) (zae ks)=true:=h
  rw [e,beq_iff_eq] at h
  rw [← h];exact hy
 ·intro h
  refine ⟨ks,h,?_⟩
  show qAA (zae ks) (zae ks)=true
  rw [e];exact beq_self_eq_true _
theorem zamb {neg:Bool} {l:List (List Str)} {ks:List Str} (h:∀ x∈l,LowS x) (hk:LowS ks):inS neg (zae ks) (.list (l.map zae))=some (.bool (if neg then !decide (ks∈l) else decide (ks∈l)),false):=by
 unfold inS
 simp only [zhz]
 rw [if_pos ⟨zks hk,zyv h⟩,zafm]
theorem zyw {W:Web} (lo:∀ x∈nm W,Low x) {ks:List Str} (h:∀ k∈ks,k∈nm W):LowS ks:=fun k hk=>zaeh (lo k (h k hk))
structure MadeOk (W:Web) (p:Nat) (ts:List Str) (rs:List (Str×List Str)):Prop where
 kinds:∀ r∈rs,∀ k∈r.2,k∈nm W
 size:∀ r∈rs,r.2.length=p
 unl:(rs.map (·.2)).Nodup
 sub:(rs.map (·.1)).Sublist ts
theorem MadeOk.rules {W:Web} {p:Nat} {ts:List Str} {rs:List (Str×List Str)} (m:MadeOk W p ts rs) (lo:∀ x∈nm W,Low x) (hp:p≤3) (hts:ts.length≤16):RulesOk W rs :=
 ⟨fun r hr=>zyw lo (m.kinds r hr),m.kinds,fun r hr=>by rw [m.size r hr];omega,by have:=m.sub.length_le;simp at this;omega⟩
theorem MadeOk.names {W:Web} {p:Nat} {ts:List Str} {rs:List (Str×List Str)} (m:MadeOk W p ts rs) (nd:ts.Nodup):(rs.map (·.1)).Nodup:=m.sub.nodup nd
theorem CallIn.ok {W:Web} {c:List Arm} (h:CallIn (nm W) c) (hl:c.length≤3):CallOk W c:=⟨by omega,fun a ha=>qBl (h.few a ha) (by decide),h.kinds⟩
noncomputable abbrev Rule:=Str×List Str
structure OrdOk (W:Web) (p:Nat) (S:List Rule):Prop where
 kinds:∀ r∈S,∀ k∈r.2,k∈nm W
 size:∀ r∈S,r.2.length=p
theorem zkt {W:Web} {S:List Rule} {r:Rule}:r∈zik W S↔r∈S∧∀ q∈S,zys W q.2 r.2=false:=by
 unfold zik
 rw [qx,Bool.not_eq_true',List.any_eq_false]
 constructor
 ·rintro ⟨h1,h2⟩
  exact ⟨h1,fun q hq=>by simpa using h2 q hq⟩
 ·rintro ⟨h1,h2⟩
  exact ⟨h1,fun q hq=>by simpa using h2 q hq⟩
theorem zaie {d:PyData} (s:qAK d=true):neD d d=some (.bool false,false):=by
 unfold neD eqOk
 rw [s,Bool.and_self,Bool.or_true,if_pos rfl,PySem.SeqAt.eqv_refl _ (qAV s)]
 rfl
theorem zaqg {a b:EF} {env:DEnv} {d:PyData} {f1 f2:Bool} {b1 b2:List Nat} (ha:a env=some ⟨d,f1,b1⟩) (hb:b env=some ⟨d,f2,b2⟩) (s:qAK d=true):zbb (eOp neD a b) env=some false:=by
 refine zhh ?_
 unfold eOp;rw [ha,hb]
 simp only [qG]
 rw [zaie s];rfl
theorem zas {a b:SFf} {env e':DEnv} (h:a env=some (.nx e')):fSeq a b env=b e':=by unfold fSeq;rw [h];rfl
theorem zyx {a b:SFf} {env e':DEnv} {d:PyData} {fr:Bool} (h:a env=some (.rt d fr e')):fSeq a b env=some (.rt d fr e'):=by unfold fSeq;rw [h];rfl
theorem zqz {F:SF} {env e':DEnv} (h:F env=some (.nx e')):fS F env=some (.nx e'):=by unfold fS;rw [h];rfl
theorem znu {i:Nat} {e:EF} {env:DEnv} {d:PyData} (h:e env=some ⟨d,false,[]⟩):sSet i e env=some (.nx (env.set i (.pl d))):=by unfold sSet;rw [h];rfl
theorem zaaf {i:Nat} {e:EF} {env:DEnv} {d:PyData} (h:e env=some ⟨d,false,[]⟩):fS (sSet i e) env=some (.nx (env.set i (.pl d))):=zqz (znu h)
theorem zeq {i:Nat} {g:EFf} {env e1:DEnv} {d:PyData} (h:g env=some (⟨d,false,[]⟩,e1)):fSet i g env=some (.nx (e1.set i (.pl d))):=by unfold fSet;rw [h];rfl
theorem zamc {i:Nat} {g:EFf} {env e1:DEnv} {d:PyData} (h:g env=some (⟨d,true,[]⟩,e1)):fSet i g env=some (.nx (e1.set i (.ac d))):=by unfold fSet;rw [h];rfl
theorem zld {f:Nat} {e:EF} {env:DEnv} {d0:PyData} {r:Val} (h0:env[f]?=some (.ac d0)) (h:e env=some r) (hb:f∉r.bs):zal f e env=some (r,env):=by
 unfold zal;rw [h0];show (e env).bind _=_;rw [h,qG,if_pos hb]
theorem zbf {f:Nat} {e:EF} {env:DEnv} {d0:PyData} {d:PyData} {fr:Bool} (h0:env[f]?=some (.ac d0)) (h:e env=some ⟨d,fr,[]⟩):zal f e env=some (⟨d,fr,[]⟩,env):=zld h0 h (by simp)
theorem zfg {w:OF} {a b:EFf} {env e1 e2:DEnv} {x y:Val} {z:PyData} {fr:Bool} (ha:a env=some (x,e1)) (hb:b e1=some (y,e2)) (hw:w x.d y.d=some (z,fr)):fOp w a b env=some (⟨z,fr,bsOf z (x.bs++y.bs)⟩,e2):=by
 unfold fOp;rw [ha,qG,hb,qG,hw];rfl
theorem zop {c:TF} {a b:SFf} {env:DEnv} (h:c env=some true):fIfP c a b env=a env:=by unfold fIfP;rw [h];rfl
theorem zjf {c:TF} {a b:SFf} {env:DEnv} (h:c env=some false):fIfP c a b env=b env:=by unfold fIfP;rw [h];rfl
theorem zsl {c:TFf} {a b:SFf} {env e1:DEnv} {x:Bool} (h:c env=some (x,e1)):fIf c a b env=if x=true then a e1 else b e1:=by unfold fIf;rw [h];rfl
theorem zhe {f:IF'} {g:GT} {body:SFf} {env:DEnv} {ds:List PyData} {bs:List Nat} (h:f env=some (ds,bs)):fFor f g body env=zfi g body ds (frzs env bs):=by unfold fFor;rw [h];rfl
theorem zum {f:IFf} {g:GT} {body:SFf} {env e1:DEnv} {ds:List PyData} {bs:List Nat} (h:f env=some (ds,bs,e1)):zts f g body env=zfi g body ds (frzs e1 bs):=by unfold zts;rw [h];rfl
theorem zxc {α:Type} {enc:α→PyData} {g:GT} {body:SFf} (I:List α→DEnv→Prop) (all:List α):∀ (l pre:List α) (env:DEnv),pre++l=all→I pre env →
  (∀ pre x post env,pre++x::post=all→I pre env→∃ e1 e2,g (enc x) env=some e1∧body e1=some (.nx e2)∧I (pre++[x]) e2)→∃ env',zfi g body (l.map enc) env=some (.nx env')∧I all env'
 | [],pre,env,hall,h0,hs=>by
  rw [qAS] at hall
  subst hall
  exact ⟨env,rfl,h0⟩
 | x::l,pre,env,hall,h0,hs=>by
  obtain ⟨e1,e2,h1,h2,h3⟩:=hs pre x l env hall h0
  obtain ⟨env',h4,h5⟩:=zxc I all l (pre++[x]) e2 (by rw [← hall];simp) h3 hs
  refine ⟨env',?_,h5⟩
  rw [qe]
  unfold zfi
  rw [h1,qG,h2,qG]
  exact h4
theorem zle {α:Type} {enc:α→PyData} {g:GT} {body:SFf} {l:List α} {env:DEnv} (I:List α→DEnv→Prop) (h0:I [] env) (hs:∀ pre x post env,pre++x::post=l→I pre env→∃ e1 e2,g (enc x) env=some e1∧body e1=some (.nx e2)∧I (pre++[x]) e2) :
  ∃ env',zfi g body (l.map enc) env=some (.nx env')∧I l env':=zxc I l l [] env rfl h0 hs
theorem zcs {g:GT} {body:SFf} {n:Nat} {env:DEnv} (I:Nat→DEnv→Prop) (h0:I 0 env) (hs:∀ k env,k<n→I k env→∃ e1 e2,g (.int (k:Int)) env=some e1∧body e1=some (.nx e2)∧I (k+1) e2) :
  ∃ env',zfi g body (zdt 0 n) env=some (.nx env')∧I n env':=by
 rw [zpw]
 obtain ⟨env',h1,h2⟩:=zle (enc:=fun (k:Nat)=>PyData.int (k:Int)) (g:=g) (body:=body) (l:=List.range n) (env:=env) (fun pre e=>I pre.length e) h0 fun pre x post e hp hI=>by
  have hx:x=pre.length∧pre.length<n:=by
   have hlen:pre.length<n:=by
    have:=congrArg List.length hp
    rw [qJ,qa,qAd] at this
    omega
   have:=congrArg (fun l=>l[pre.length]?) hp
   rw [qq (qQ _),Nat.sub_self,qCT hlen] at this
   exact ⟨qT this,hlen⟩
  obtain ⟨e1,e2,q1,q2,q3⟩:=hs pre.length e hx.2 hI
  exact ⟨e1,e2,by rw [hx.1];exact q1,q2,by rw [qJ];exact q3⟩
 rw [qAd] at h2
 exact ⟨env',h1,h2⟩
noncomputable def Fok (d:PyData) (n:Nat):Prop:=∃ g m s:Int,d=.list [.int g,.int m,.int s]∧0≤g∧0≤m∧m<2 ^ 32∧0≤s∧s≤n
theorem Fok.mono {d:PyData} {n n':Nat} (h:Fok d n) (hn:n≤n'):Fok d n':=by
 obtain ⟨g,m,s,e,h1,h2,h3,h4,h5⟩:=h
 exact ⟨g,m,s,e,h1,h2,h3,h4,by omega⟩
theorem Fok.flat {d:PyData} {n:Nat} (h:Fok d n):zou d=true:=by
 obtain ⟨g,m,s,rfl,_⟩:=h
 rfl
theorem zapa {env:DEnv} {i:Nat} {d:PyData} (h:env[i]?=some (.pl d)):zrg i env=some (.rt d false env):=by unfold zrg;rw [h]
theorem zabr {d:PyData} {n:Nat} {m:Int} (ok:Fok d n) (hn:n≤10 ^ 12) (m0:0<m) (m1:m<1073741824):∃ (r:Int) (d':PyData),zah d [.int m]=some (.int r,false,d')∧0≤r∧r<m∧Fok d' (n+1):=by
 obtain ⟨g,mm,s,rfl,g0,mm0,mm1,s0,s1⟩:=ok
 have key:∀ (r:Int) (d':PyData) (env:DEnv),env[0]?=some (.ac d')→zhn [.ac (.list [.int g,.int mm,.int s]),.pl (.int m),.no,.no,.no]=some (.rt (.int r) false env)→zah (.list [.int g,.int mm,.int s]) [.int m]=some (.int r,false,d'):=fun r d' env he h=>by
  unfold zah fnF
  show (zhn [.ac (.list [.int g,.int mm,.int s]),.pl (.int m),.no,.no,.no]).bind _=_
  rw [h]
  show (match env[0]? with|some (.ac d1)=>some (PyData.int r,false,d1)|_=>none)=_
  rw [he]
 by_cases hg:0<g
 ·refine ⟨g % m,.list [.int (g / m),.int mm,.int s],key _ _ [.ac (.list [.int (g / m),.int mm,.int s]),.pl (.int m),.pl (.int (g % m)),.no,.no] rfl ?_,qAs _ (by omega),qAh _ m0,⟨g / m,mm,s,rfl,Int.ediv_nonneg g0 (by omega),mm0,mm1,s0,by omega⟩⟩
  unfold zhn
  have t:zbb (eOp gtD (eIxV 0 (eC (.int 0))) (eC (.int 0))) [.ac (.list [.int g,.int mm,.int s]),.pl (.int m),.no,.no,.no]=some true:=zhh (by rw [zaoz (i:=g) (j:=0) (zyb (n:=0) rfl rfl rfl) rfl,decide_eq_true hg])
  have a1:sSet 2 (eOp modD (eIxV 0 (eC (.int 0))) (eVar 1)) [.ac (.list [.int g,.int mm,.int s]),.pl (.int m),.no,.no,.no]=some (.nx [.ac (.list [.int g,.int mm,.int s]),.pl (.int m),.pl (.int (g % m)),.no,.no]):=znu (zvn (zyb (n:=0) rfl rfl rfl) rfl m0)
  have a2:zot 0 (eC (.int 0)) (eOp zxt (eIxV 0 (eC (.int 0))) (eVar 1)) [.ac (.list [.int g,.int mm,.int s]),.pl (.int m),.pl (.int (g % m)),.no,.no]=some (.nx [.ac (.list [.int (g / m),.int mm,.int s]),.pl (.int m),.pl (.int (g % m)),.no,.no]):=by
   unfold zot
   show (Option.bind (eOp zxt (eIxV 0 (eC (.int 0))) (eVar 1) _) _)=_
   rw [zaiz (i:=g) (j:=m) (zyb (n:=0) rfl rfl rfl) rfl m0 m1]
   rfl
  refine zyx ?_
  rw [zop t,zas (zqz a1),zas (zqz a2)]
  exact zapa rfl
 ·have eg:g=0:=by omega
  subst eg
  have bs:(-(2:Int) ^ 64<s+1∧s+1<2 ^ 64):=by constructor<;>omega
  generalize h1:(mm+40692 * (s+1) * (s+1)+69621 * (s+1)) % 2147483647=x1
  have x10:0≤x1∧x1<2147483647:=by rw [← h1];exact ⟨qAs _ (by decide),qAh _ (by decide)⟩
  generalize h2:(x1 * x1+39373 * x1+(s+1)) % 2147483579=x2
  have x20:0≤x2∧x2<2147483579:=by rw [← h2];exact ⟨qAs _ (by decide),qAh _ (by decide)⟩
  generalize h3:(x2 * x2+16807 * x2) % 2147483549=x3
  have sm:∀ {x:Int},0≤x∧x<2147483647→-(2:Int) ^ 64<x∧x<2 ^ 64:=fun {x} h=>by constructor<;>omega
  refine ⟨x3 / 64 % m,.list [.int 0,.int mm,.int (s+1)],key _ _ [.ac (.list [.int 0,.int mm,.int (s+1)]),.pl (.int m),.no,.pl (.int (s+1)),.pl (.int x3)] rfl ?_,qAs _ (by omega),qAh _ m0,⟨0,mm,s+1,rfl,by omega,mm0,mm1,by omega,by omega⟩⟩
  unfold zhn
  have t:zbb (eOp gtD (eIxV 0 (eC (.int 0))) (eC (.int 0))) [.ac (.list [.int 0,.int mm,.int s]),.pl (.int m),.no,.no,.no]=some false:=zhh (by rw [zaoz (i:=0) (j:=0) (zyb (n:=0) rfl rfl rfl) rfl];rfl)
  have a1:sSet 3 (eOp addD (eIxV 0 (eC (.int 2))) (eC (.int 1))) [.ac (.list [.int 0,.int mm,.int s]),.pl (.int m),.no,.no,.no]=some (.nx [.ac (.list [.int 0,.int mm,.int s]),.pl (.int m),.no,.pl (.int (s+1)),.no]):=znu (zpv (zyb (n:=2) rfl rfl rfl) rfl)
  have a2:zot 0 (eC (.int 2)) (eVar 3) [.ac (.list [.int 0,.int mm,.int s]),.pl (.int m),.no,.pl (.int (s+1)),.no]=some (.nx [.ac (.list [.int 0,.int mm,.int (s+1)]),.pl (.int m),.no,.pl (.int (s+1)),.no]):=rfl
  have a3:sSet 4 (eOp modD (eOp addD (eOp addD (eIxV 0 (eC (.int 1))) (eOp mulD (eOp mulD (eC (.int 40692)) (eVar 3)) (eVar 3))) (eOp mulD (eC (.int 69621)) (eVar 3))) (eC (.int 2147483647))) [.ac (.list [.int 0,.int mm,.int (s+1)]),.pl (.int m),.no,.pl (.int (s+1)),.no]=some (.nx [.ac (.list [.int 0,.int mm,.int (s+1)]),.pl (.int m),.no,.pl (.int (s+1)),.pl (.int x1)]):=by
   rw [← h1]
   exact znu (zvn (zpv (zpv (zyb (n:=1) rfl rfl rfl) (zrf (zrf rfl rfl (.inr bs)) rfl (.inr bs))) (zrf rfl rfl (.inr bs))) rfl (by decide))
  have a4:sSet 4 (eOp modD (eOp addD (eOp addD (eOp mulD (eVar 4) (eVar 4)) (eOp mulD (eC (.int 39373)) (eVar 4))) (eVar 3)) (eC (.int 2147483579))) [.ac (.list [.int 0,.int mm,.int (s+1)]),.pl (.int m),.no,.pl (.int (s+1)),.pl (.int x1)]=some (.nx [.ac (.list [.int 0,.int mm,.int (s+1)]),.pl (.int m),.no,.pl (.int (s+1)),.pl (.int x2)]):=by
   rw [← h2]
   exact znu (zvn (zpv (zpv (zrf rfl rfl (.inr (sm x10))) (zrf rfl rfl (.inr (sm x10)))) rfl) rfl (by decide))
  have a5:sSet 4 (eOp modD (eOp addD (eOp mulD (eVar 4) (eVar 4)) (eOp mulD (eC (.int 16807)) (eVar 4))) (eC (.int 2147483549))) [.ac (.list [.int 0,.int mm,.int (s+1)]),.pl (.int m),.no,.pl (.int (s+1)),.pl (.int x2)]=some (.nx [.ac (.list [.int 0,.int mm,.int (s+1)]),.pl (.int m),.no,.pl (.int (s+1)),.pl (.int x3)]):=by
   rw [← h3]
   have:=sm (x:=x2) ⟨x20.1,by omega⟩
   exact znu (zvn (zpv (zrf rfl rfl (.inr this)) (zrf rfl rfl (.inr this))) rfl (by decide))
  rw [zas (zjf t),zas (zqz a1),zas (zqz a2),zas (zqz a3),zas (zqz a4),zas (zqz a5)]
  unfold zdv
  rw [zvn (i:=x3 / 64) (j:=m) (zaiz (i:=x3) (j:=64) rfl rfl (by decide) (by decide)) rfl m0]
  rfl
theorem zef {f n:Nat} {g:GE} {a:AFf} {env e1:DEnv} {d0 d1 d':PyData} {rs:List Val} {z:PyData} {fr:Bool} (h0:env[f]?=some (.ac d0)) (ha:a env=some (rs,e1)) (h1:e1[f]?=some (.ac d1)) (hl:rs.length+1=n) (hg:g d1 (zix rs)=some (z,fr,d')) (hf:zou d'=true) :
  zap f n g a env=some (⟨z,fr,bsOf z (bss rs)⟩,(frzs e1 (bss rs)).set f (.ac d')):=by
 unfold zap
 rw [h0]
 show (a env).bind _=_
 rw [ha,qG]
 show (match e1[f]? with|some (.ac d0)=>_|_=>none)=_
 rw [h1]
 show (if rs.length+1=n then _ else none)=_
 rw [if_pos hl,hg,qG,if_pos hf]
theorem zku {f:Nat} {x:EFf} {env e1:DEnv} {r:Val} {d:PyData} (hx:x env=some (r,e1)) (h1:e1[f]?=some (.ac d)):zam x (fNil f) env=some ([r],e1):=by
 unfold zam
 rw [hx,qG]
 show (fNil f e1).map _=_
 unfold fNil
 rw [h1];rfl
theorem zaag {f:Nat} {x:EFf} {env e1:DEnv} {d0 d:PyData} {n:Nat} {m:Int} (h0:env[f]?=some (.ac d0)) (hx:x env=some (vi m,e1)) (h1:e1[f]?=some (.ac d)) (ok:Fok d n) (hn:n≤10 ^ 12) (m0:0<m) (m1:m<1073741824) :
  ∃ (r:Int) (d':PyData),zap f 2 zah (zam x (fNil f)) env=some (vi r,e1.set f (.ac d'))∧0≤r∧r<m∧Fok d' (n+1):=by
 obtain ⟨r,d',q1,q2,q3,q4⟩:=zabr ok hn m0 m1
 exact ⟨r,d',zef h0 (zku hx h1) h1 rfl q1 q4.flat,q2,q3,q4⟩
theorem zdi {f:Nat} {e:EF} {env:DEnv} {d:PyData} {n:Nat} {m:Int} (h0:env[f]?=some (.ac d)) (he:e env=some (vi m)) (ok:Fok d n) (hn:n≤10 ^ 12) (m0:0<m) (m1:m<1073741824) :
  ∃ (r:Int) (d':PyData),zap f 2 zah (zam (zal f e) (fNil f)) env=some (vi r,env.set f (.ac d'))∧0≤r∧r<m∧Fok d' (n+1):=zaag h0 (zbf h0 he) h0 ok hn m0 m1
theorem zgu {e:EF} {env:DEnv} {n:Nat} (h:e env=some (vi (n:Int))) (hn:n<2 ^ 62):zca (zac e aNil) env=some (zdt 0 n,[]):=by
 unfold zca
 rw [zth h,qG]
 show (if -(2 ^ 62)≤(n:Int)∧(n:Int)<2 ^ 62 then some (zdt 0 (n:Int).toNat,[]) else none)=_
 rw [if_pos ⟨by omega,by omega⟩,qA3]
theorem zafn (x:Str) (a b:Nat) (hb:b≤x.length):(((List.range (b - a)).map fun k=>a+k).filterMap (x.cps[·]?)).length=b - a:=by
 have:((List.range (b - a)).map fun k=>a+k).filterMap (x.cps[·]?)=((List.range (b - a)).map fun k=>a+k).map fun i=>x.cps[i]?.getD 0:=by
  have g:∀ l:List Nat,(∀ i∈l,i<x.cps.size)→l.filterMap (x.cps[·]?)=l.map fun i=>x.cps[i]?.getD 0:=by
   intro l
   induction l with
   | nil=>intro _;rfl
   | cons i l ih =>
    intro h
    have hi:=h i qg
    rw [qBC,qB4 hi,qe,ih fun j hj=>h j (qI _ hj),qB4 hi]
    rfl
  refine g _ fun i hi=>?_
  obtain ⟨k,hk,rfl⟩:=qAj.mp hi
  have hk:=qAt.mp hk
  have:x.length=x.cps.size:=rfl
  omega
 rw [this,qE,qE,qAd]
theorem zamd (n a:Nat):Builtin.Str.strSliceIndices none (some (a:Int)) 1 n=(List.range (min a n - 0)).map fun k=>0+k:=by
 unfold Builtin.Str.strSliceIndices sliceRange
 simp only [show (1:Int) > 0 by decide,if_true]
 rw [if_neg (show ¬ ((a:Int)<0) by omega)]
 have e:(max 0 (min (a:Int) (n:Int)))=((min a n:Nat):Int):=by omega
 rw [e]
 by_cases h:(0:Int)<((min a n:Nat):Int)
 ·rw [if_pos h]
  have e2:((((min a n:Nat):Int) - 0+1 - 1) / 1).toNat=min a n - 0:=by rw [Int.ediv_one];omega
  rw [e2]
  exact qBA fun k _=>by omega
 ·rw [if_neg h]
  have e2:min a n - 0=0:=by omega
  rw [e2];rfl
theorem zame (n a:Nat):Builtin.Str.strSliceIndices (some (a:Int)) none 1 n=(List.range (n - min a n)).map fun k=>min a n+k:=by
 unfold Builtin.Str.strSliceIndices sliceRange
 simp only [show (1:Int) > 0 by decide,if_true]
 rw [if_neg (show ¬ ((a:Int)<0) by omega)]
 have e:(max 0 (min (a:Int) (n:Int)))=((min a n:Nat):Int):=by omega
 rw [e]
 by_cases h:((min a n:Nat):Int)<(n:Int)
 ·rw [if_pos h]
  have e2:(((n:Int) - ((min a n:Nat):Int)+1 - 1) / 1).toNat=n - min a n:=by rw [Int.ediv_one];omega
  rw [e2]
  exact qBA fun k _=>by omega
 ·rw [if_neg h]
  have e2:n - min a n=0:=by omega
  rw [e2];rfl
theorem zun (x:Str) (a:Nat):(Txt.slice x none (some (a:Int))).length=min a x.length:=by
 unfold Txt.slice
 rw [zamd]
 split
 ·rename_i h
  rw [qt,beq_iff_eq,beq_iff_eq,qE,qAd] at h
  omega
 ·show (List.filterMap _ _).toArray.size=_
  rw [qP,zafn x 0 (min a x.length) (by omega)];omega
theorem zafo (x:Str) (a:Nat):(Txt.slice x (some (a:Int)) none).length=x.length - min a x.length:=by
 unfold Txt.slice
 rw [zame]
 split
 ·rename_i h
  rw [qt,beq_iff_eq,beq_iff_eq,qE,qAd] at h
  omega
 ·show (List.filterMap _ _).toArray.size=_
  rw [qP,zafn x (min a x.length) x.length (by omega)]
theorem zuo (x:Str):x.cps.toList.length=x.length:=rfl
noncomputable def zrl (b:Str) (a:Nat) (i:Int):Str:=Txt.slice b none (some (a:Int))++ltr i++Txt.slice b (some (a:Int)) none
theorem zafp {b c:Str} {a:Nat} {i j:Int} (hi:0≤i) (hj:0≤j) (h:zrl b a i=zrl c a j):i=j:=by
 unfold zrl at h
 have l1:∀ k,(ltr k).length=1:=fun _=>rfl
 have hl:=congrArg Str.length h
 rw [znk,znk,znk,znk,l1,l1,zun,zun,zafo,zafo] at hl
 have q:=congrArg (fun x:Str=>x.cps.toList) h
 simp only [ztg,qBJ] at q
 have q2:=(List.append_inj q (by rw [zuo,zuo,zun,zun];omega)).2
 have q3:=(List.append_inj q2 (by rw [zuo,zuo];rfl)).1
 exact zalg hi hj (by unfold ltr at q3 ⊢;congr 1;exact Array.toList_inj.mp q3)
theorem zafq {b:Str} {a:Nat} {i:Int} (h:Low b) (h0:0≤i) (h1:i<26):Low (zrl b a i):=((h.slice _ _).app (Low.ltr h0 h1)).app (h.slice _ _)
theorem zapb:∀ st∈([1,3,5,7,9,11,15,17,19,21,23,25]:List Nat),∀ a<16,∀ b<16,st * a % 26=st * b % 26→a=b:=by decide +kernel
noncomputable def zxd:List Nat:=[1,3,5,7,9,11,15,17,19,21,23,25]
theorem zafr {o:Int} {st:Nat} (hs:st∈zxd) {a b:Nat} (ha:a<16) (hb:b<16) (h:(o+st * a) % 26=(o+st * b) % 26):a=b:=by
 have h2:=Int.emod_add_cancel_left.mp h
 exact zapb st hs a ha b hb (by exact_mod_cast h2)
theorem zajm {i:Int} (h0:0≤i) (h1:i<26):ixD (.str abc) (.int i)=some (.str (ltr i),false):=by
 show (if abc.length≤100000 then (atI abc.cps.toList i).map fun c=>(PyData.str ⟨#[c]⟩,false) else none)=_
 rw [if_pos (by rw [zali];decide),zaom h0 h1];rfl
theorem zmw {d:PyData} {n m:Nat} (ok:Fok d n) (hn:n+100≤10 ^ 12) (hm:m≤8):∃ (w:Str) (d':PyData),zcg d [.int (m:Int)]=some (.str w,false,d')∧w.length=m∧Low w∧Fok d' (n+m):=by
 have loop:∃ env',zfi (gN 3) (fSet 2 (fOp addD (zal 0 (eVar 2)) (fOp ixD (zal 0 (eC (.str abc))) (zap 0 2 zah (zam (zal 0 (eC (.int 26))) (fNil 0)))))) (zdt 0 m) [.ac d,.pl (.int (m:Int)),.pl (.str ""),.no]=some (.nx env') ∧
   ∃ (w:Str) (d':PyData) (s:Sl),env'=[.ac d',.pl (.int (m:Int)),.pl (.str w),s]∧w.length=m∧Low w∧Fok d' (n+m):=by
  refine zcs (fun k env=>∃ (w:Str) (d':PyData) (s:Sl),env=[.ac d',.pl (.int (m:Int)),.pl (.str w),s]∧w.length=k∧Low w∧Fok d' (n+k)) ⟨"",d,.no,rfl,rfl,(fun c hc=>nomatch hc),ok⟩ ?_
  rintro k env hk ⟨w,d1,s,rfl,hw,lw,ok1⟩
  obtain ⟨r,d2,q1,q2,q3,q4⟩:=zdi (f:=0) (e:=eC (.int 26)) (env:=[.ac d1,.pl (.int (m:Int)),.pl (.str w),.pl (.int (k:Int))]) rfl rfl ok1 (by omega) (by decide) (by decide)
  refine ⟨_,[.ac d2,.pl (.int (m:Int)),.pl (.str (w++ltr r)),.pl (.int (k:Int))],rfl,?_,w++ltr r,d2,_,rfl,by rw [znk,hw];rfl,lw.app (Low.ltr q2 q3),q4⟩
  have a1:=zfg (zbf (f:=0) (e:=eC (.str abc)) (env:=[.ac d1,.pl (.int (m:Int)),.pl (.str w),.pl (.int (k:Int))]) (d0:=d1) rfl rfl) q1 (zajm q2 q3)
  have a2:=zfg (w:=addD) (zbf (f:=0) (e:=eVar 2) (env:=[.ac d1,.pl (.int (m:Int)),.pl (.str w),.pl (.int (k:Int))]) (d0:=d1) rfl rfl) a1 (z:=.str (w++ltr r)) (fr:=false) (by
   show (if w.length+(ltr r).length≤100000 then some (PyData.str (w++ltr r),false) else none)=_
   rw [if_pos (by rw [hw];show k+1≤100000;omega)])
  exact zeq a2
 obtain ⟨env',h1,w,d',s,rfl,h2,h3,h4⟩:=loop
 refine ⟨w,d',?_,h2,h3,h4⟩
 have run:zfs [.ac d,.pl (.int (m:Int)),.no,.no]=some (.rt (.str w) false [.ac d',.pl (.int (m:Int)),.pl (.str w),s]):=by
  unfold zfs
  rw [zas (zaaf (d:=.str "") rfl)]
  have e:fFor (zca (zac (eVar 1) aNil)) (gN 3) (fSet 2 (fOp addD (zal 0 (eVar 2)) (fOp ixD (zal 0 (eC (.str "abcdefghijklmnopqrstuvwxyz"))) (zap 0 2 zah (zam (zal 0 (eC (.int 26))) (fNil 0)))))) [.ac d,.pl (.int (m:Int)),.pl (.str ""),.no]=some (.nx [.ac d',.pl (.int (m:Int)),.pl (.str w),s]):=by
   rw [zhe (zgu (n:=m) rfl (by omega))]
   exact h1
  exact (zas e).trans (zapa rfl)
 unfold zcg fnF
 show (zfs [.ac d,.pl (.int (m:Int)),.no,.no]).bind _=_
 rw [run];rfl
theorem zln {w:OF} {a b:EF} {env:DEnv} {x y:Val} {z:PyData} {fr:Bool} (ha:a env=some x) (hb:b env=some y) (hw:w x.d y.d=some (z,fr)):eOp w a b env=some ⟨z,fr,bsOf z (x.bs++y.bs)⟩:=by
 unfold eOp;rw [ha,qG,hb,qG,hw];rfl
theorem znv {i:Nat} {g:EFf} {env e1:DEnv} {ds:List PyData} {ds0:List PyData} {d:PyData} {fr:Bool} {bs:List Nat} (h0:env[i]?=some (.ac (.list ds0))) (hg:g env=some (⟨d,fr,bs⟩,e1)) (h1:e1[i]?=some (.ac (.list ds))) (hl:ds.length<100000) (hi:i∉bs) :
  fApp i g env=some (.nx ((frzs e1 bs).set i (.ac (.list (ds++[d]))))):=by
 unfold fApp
 rw [h0]
 show (g env).bind _=_
 rw [hg,qG]
 show (match e1[i]? with|some (.ac (.list es))=>_|_=>none)=_
 rw [h1]
 show (if ds.length<100000∧i∉bs then _ else none)=_
 rw [if_pos ⟨hl,hi⟩]
theorem at4 {r:Int} (h0:0≤r) (h1:r<4):∃ sz:Nat,ixD (.list [.int 0,.int 1,.int 2,.int 7]) (.int r)=some (.int (sz:Int),false)∧sz≤7:=by
 have:r=0∨r=1∨r=2∨r=3:=by omega
 rcases this with rfl|rfl|rfl|rfl
 ·exact ⟨0,rfl,by decide⟩
 ·exact ⟨1,rfl,by decide⟩
 ·exact ⟨2,rfl,by decide⟩
 ·exact ⟨7,rfl,by decide⟩
theorem znw {α:Type} (f:α→PyData) {l:List α} {n:Nat} {x:α} (h:l[n]?=some x):ixD (.list (l.map f)) (.int (n:Int))=some (f x,false):=by
 show (atI (l.map f) (n:Int)).map _=_
 rw [zajc f h];rfl
theorem at12 {r:Int} (h0:0≤r) (h1:r<12):∃ st:Nat,ixD (.list [.int 1,.int 3,.int 5,.int 7,.int 9,.int 11,.int 15,.int 17,.int 19,.int 21,.int 23,.int 25]) (.int r)=some (.int (st:Int),false)∧st∈zxd:=by
 have hl:r.toNat<zxd.length:=by show r.toNat<12;omega
 have:=znw (fun (k:Nat)=>PyData.int (k:Int)) (qF hl)
 rw [show ((r.toNat:Nat):Int)=r by omega] at this
 exact ⟨_,this,qAZ hl⟩
noncomputable def zfh:List Str:=["none", "rule", "quarrel", "near", "far", "out", "ask", "tell", "say", "call", "onward", "own", "new", "kind", "deed", "free", "at", "then"]
theorem zabs:∀ x∈zfh,Low x:=by
 have:(zfh.all fun x=>x.cps.toList.all fun c=>decide (c<128))=true:=by decide +kernel
 intro x hx c hc
 exact of_decide_eq_true (qAN.mp (qAN.mp this x hx) c hc)
theorem zajn {α:Type}:∀ {xs:List α} {k:Nat} {w:α},xs.Nodup→w∉xs→(xs.set k w).Nodup
 | [],_,_,_,_=>by simp
 | x::xs,0,w,h,hw=>by
  rw [List.set_cons_zero]
  exact qAI.mpr ⟨fun z=>hw (qI _ z),(qAI.mp h).2⟩
 | x::xs,k+1,w,h,hw=>by
  rw [List.set_cons_succ]
  refine qAI.mpr ⟨fun z=>?_,zajn (qAI.mp h).2 fun z=>hw (qI _ z)⟩
  rcases qB7 z with z|z
  ·exact (qAI.mp h).1 z
  ·exact hw (by rw [← z];simp)
section
variable {d:PyData} {n:Nat}
theorem zabt {m sz sm at_ fi st k:Nat} {b:Str} {xs:List Str} {s10:Sl} (ok:Fok d n) (hn:n+1000≤10 ^ 12) (hsz:sz≤7) (hst:st∈zxd) (hfi:fi<26) (hb:Low b) (hbl:b.length≤7) (hxs:xs.length<1000) (hk:k<16) :
  ∃ (b':Str) (d':PyData),Low b'∧b'.length≤7∧Fok d' (n+10)∧(fSeq (fIfP (zbb (eOp eqD (eVar 3) (eC (.int 0)))) (fSet 7 (zap 0 2 zcg (zam (zap 0 2 zah (zam (zal 0 (eOp addD (eVar 2) (eC (.int 1)))) (fNil 0))) (fNil 0)))) fNx)
  (fSeq (fS (sSet 10 (eOp ixD (eC (.str "abcdefghijklmnopqrstuvwxyz")) (eOp modD (eOp addD (eVar 5) (eOp mulD (eVar 6) (eVar 9))) (eC (.int 26))))))
  (fApp 8 (zal 0 (eOp addD (eOp addD (eSl (eVar 7) zsz (zos (eVar 4))) (eVar 10)) (eSl (eVar 7) (zos (eVar 4)) zsz)))))) [.ac d,.pl (.int (m:Int)),.pl (.int (sz:Int)),.pl (.int (sm:Int)),.pl (.int (at_:Int)),.pl (.int (fi:Int)),.pl (.int (st:Int)),.pl (.str b),.ac (zab xs),.pl (.int (k:Int)),s10,.no,.no] =
   some (.nx [.ac d',.pl (.int (m:Int)),.pl (.int (sz:Int)),.pl (.int (sm:Int)),.pl (.int (at_:Int)),.pl (.int (fi:Int)),.pl (.int (st:Int)),.pl (.str b'),.ac (zab (xs++[zrl b' at_ (((fi:Int)+st * k) % 26)])),.pl (.int (k:Int)),.pl (.str (ltr (((fi:Int)+st * k) % 26))),.no,.no]):=by
 have first:∃ (b':Str) (d':PyData),Low b'∧b'.length≤7∧Fok d' (n+10)∧fIfP (zbb (eOp eqD (eVar 3) (eC (.int 0)))) (fSet 7 (zap 0 2 zcg (zam (zap 0 2 zah (zam (zal 0 (eOp addD (eVar 2) (eC (.int 1)))) (fNil 0))) (fNil 0)))) fNx [.ac d,.pl (.int (m:Int)),.pl (.int (sz:Int)),.pl (.int (sm:Int)),.pl (.int (at_:Int)),.pl (.int (fi:Int)),.pl (.int (st:Int)),.pl (.str b),.ac (zab xs),.pl (.int (k:Int)),s10,.no,.no] =
   some (.nx [.ac d',.pl (.int (m:Int)),.pl (.int (sz:Int)),.pl (.int (sm:Int)),.pl (.int (at_:Int)),.pl (.int (fi:Int)),.pl (.int (st:Int)),.pl (.str b'),.ac (zab xs),.pl (.int (k:Int)),s10,.no,.no]):=by
  have t:zbb (eOp eqD (eVar 3) (eC (.int 0))) [.ac d,.pl (.int (m:Int)),.pl (.int (sz:Int)),.pl (.int (sm:Int)),.pl (.int (at_:Int)),.pl (.int (fi:Int)),.pl (.int (st:Int)),.pl (.str b),.ac (zab xs),.pl (.int (k:Int)),s10,.no,.no]=some ((sm:Int)==0):=zhh (zagz rfl rfl)
  by_cases h:(sm:Int)=0
  ·rw [zop (by rw [t,h];rfl)]
   obtain ⟨r,d1,q1,q2,q3,q4⟩:=zdi (f:=0) (e:=eOp addD (eVar 2) (eC (.int 1))) (env:=[.ac d,.pl (.int (m:Int)),.pl (.int (sz:Int)),.pl (.int (sm:Int)),.pl (.int (at_:Int)),.pl (.int (fi:Int)),.pl (.int (st:Int)),.pl (.str b),.ac (zab xs),.pl (.int (k:Int)),s10,.no,.no]) rfl (zpv rfl rfl) ok (by omega) (by omega) (by omega)
   obtain ⟨w,d2,p1,p2,p3,p4⟩:=zmw (m:=r.toNat) q4 (by omega) (by omega)
   rw [show ((r.toNat:Nat):Int)=r by omega] at p1
   exact ⟨w,d2,p3,by omega,p4.mono (by omega),zeq (zef rfl (zku q1 rfl) rfl rfl p1 p4.flat)⟩
  ·exact ⟨b,d,hb,hbl,ok.mono (by omega),by rw [zjf (by rw [t,beq_eq_false_iff_ne.mpr h])];rfl⟩
 obtain ⟨b',d',lb,bl,ok',h1⟩:=first
 refine ⟨b',d',lb,bl,ok',?_⟩
 have hst100:st≤25:=by
  have:∀ x∈zxd,x≤25:=by decide
  exact this st hst
 have md:0≤((fi:Int)+st * k) % 26∧((fi:Int)+st * k) % 26<26:=⟨qAs _ (by decide),qAh _ (by decide)⟩
 rw [zas h1]
 have h2:fS (sSet 10 (eOp ixD (eC (.str "abcdefghijklmnopqrstuvwxyz")) (eOp modD (eOp addD (eVar 5) (eOp mulD (eVar 6) (eVar 9))) (eC (.int 26))))) [.ac d',.pl (.int (m:Int)),.pl (.int (sz:Int)),.pl (.int (sm:Int)),.pl (.int (at_:Int)),.pl (.int (fi:Int)),.pl (.int (st:Int)),.pl (.str b'),.ac (zab xs),.pl (.int (k:Int)),s10,.no,.no] =
   some (.nx [.ac d',.pl (.int (m:Int)),.pl (.int (sz:Int)),.pl (.int (sm:Int)),.pl (.int (at_:Int)),.pl (.int (fi:Int)),.pl (.int (st:Int)),.pl (.str b'),.ac (zab xs),.pl (.int (k:Int)),.pl (.str (ltr (((fi:Int)+st * k) % 26))),.no,.no]):=by
  refine zaaf (d:=.str (ltr (((fi:Int)+st * k) % 26))) ?_
  exact zln (w:=ixD) (x:=⟨.str abc,false,[]⟩) (y:=vi (((fi:Int)+st * k) % 26)) rfl (zvn (zpv rfl (zrf rfl rfl (.inr ⟨by omega,by omega⟩))) rfl (by decide)) (zajm md.1 md.2)
 rw [zas h2]
 have z1:=Txt.slice_le b' none (some (at_:Int))
 have z2:=Txt.slice_le b' (some (at_:Int)) none
 have l1:∀ i,(ltr i).length=1:=fun _=>rfl
 have h3:eOp addD (eOp addD (eSl (eVar 7) zsz (zos (eVar 4))) (eVar 10)) (eSl (eVar 7) (zos (eVar 4)) zsz) [.ac d',.pl (.int (m:Int)),.pl (.int (sz:Int)),.pl (.int (sm:Int)),.pl (.int (at_:Int)),.pl (.int (fi:Int)),.pl (.int (st:Int)),.pl (.str b'),.ac (zab xs),.pl (.int (k:Int)),.pl (.str (ltr (((fi:Int)+st * k) % 26))),.no,.no]=some (vs (zrl b' at_ (((fi:Int)+st * k) % 26))) :=
  zaja (zaja (zaol rfl rfl (zajb rfl) (by omega)) rfl (by rw [l1];omega)) (zaol rfl (zajb rfl) rfl (by omega)) (by rw [znk,l1];omega)
 rw [znv rfl (zbf (f:=0) (d0:=d') rfl h3) rfl (by rw [qE];omega) (by simp)]
 show some (OutF.nx [.ac d',.pl (.int (m:Int)),.pl (.int (sz:Int)),.pl (.int (sm:Int)),.pl (.int (at_:Int)),.pl (.int (fi:Int)),.pl (.int (st:Int)),.pl (.str b'),.ac (.list (xs.map .str++[.str (zrl b' at_ (((fi:Int)+st * k) % 26))])),.pl (.int (k:Int)),.pl (.str (ltr (((fi:Int)+st * k) % 26))),.no,.no])=_
 unfold zab
 rw [qy]
 rfl
end
theorem zup {neg:Bool} {i j:Nat} {env:DEnv} {x:Str} {xs:List Str} {s:Sl} (hi:env[i]?=some (.pl (.str x))) (hj:env[j]?=some s) (hs:Hd (zab xs) s):zbb (eOp (inD neg) (eVar i) (eVar j)) env=some (if neg then !decide (x∈xs) else decide (x∈xs)):=by
 obtain ⟨bs,e⟩:=e_hd hj hs
 have ei:eVar i env=some (vs x):=by unfold eVar;rw [hi]
 exact zhh (zln ei e (ztc neg xs x))
theorem zabu {d:PyData} {n:Nat} {P1 P2 P3 P4 P5 P6 P7 s10 s12:Sl} {m k:Nat} {xs:List Str} (ok:Fok d n) (hn:n+1000≤10 ^ 12) (nd:xs.Nodup) (lo:∀ x∈xs,Low x) (hk:k<xs.length) (hl:xs.length<1000) :
  ∃ (ys:List Str) (d':PyData) (w:Str),ys.Nodup∧(∀ x∈ys,Low x)∧ys.length=xs.length∧Fok d' (n+1)∧(fSeq (fSet 12 (fOp ixD (zal 0 (eVar 11)) (zap 0 2 zah (zam (zal 0 (eC (.int 18))) (fNil 0)))))
  (fIfP (zbb (eOp (inD true) (eVar 12) (eVar 8))) (fS (zot 8 (eVar 9) (eVar 12))) fNx)) [.ac d,P1,P2,P3,P4,P5,P6,P7,.ac (zab xs),.pl (.int (k:Int)),s10,.ac (zab zfh),s12]=some (.nx [.ac d',P1,P2,P3,P4,P5,P6,P7,.ac (zab ys),.pl (.int (k:Int)),s10,.ac (zab zfh),.pl (.str w)]):=by
 obtain ⟨r,d1,q1,q2,q3,q4⟩:=zdi (f:=0) (e:=eC (.int 18)) (env:=[.ac d,P1,P2,P3,P4,P5,P6,P7,.ac (zab xs),.pl (.int (k:Int)),s10,.ac (zab zfh),s12]) rfl rfl ok (by omega) (by decide) (by decide)
 have hw:r.toNat<zfh.length:=by show r.toNat<18;omega
 have ix:=znw PyData.str (qF hw)
 rw [show ((r.toNat:Nat):Int)=r by omega] at ix
 have lw:=zabs _ (qAZ hw)
 generalize zfh[r.toNat]=w at ix lw
 have s1:fSet 12 (fOp ixD (zal 0 (eVar 11)) (zap 0 2 zah (zam (zal 0 (eC (.int 18))) (fNil 0)))) [.ac d,P1,P2,P3,P4,P5,P6,P7,.ac (zab xs),.pl (.int (k:Int)),s10,.ac (zab zfh),s12]=some (.nx [.ac d1,P1,P2,P3,P4,P5,P6,P7,.ac (zab xs),.pl (.int (k:Int)),s10,.ac (zab zfh),.pl (.str w)]) :=
  zeq (zfg (zld (f:=0) (e:=eVar 11) (env:=[.ac d,P1,P2,P3,P4,P5,P6,P7,.ac (zab xs),.pl (.int (k:Int)),s10,.ac (zab zfh),s12]) (d0:=d) (r:=⟨zab zfh,false,[11]⟩) rfl rfl (by decide)) q1 ix)
 have t:=zup (neg:=true) (i:=12) (j:=8) (env:=[.ac d1,P1,P2,P3,P4,P5,P6,P7,.ac (zab xs),.pl (.int (k:Int)),s10,.ac (zab zfh),.pl (.str w)]) (x:=w) (xs:=xs) rfl rfl (.inr rfl)
 by_cases hm:w∈xs
 ·refine ⟨xs,d1,w,nd,lo,rfl,q4,?_⟩
  rw [zas s1,zjf (by rw [t];simp [hm])]
  rfl
 ·refine ⟨xs.set k w,d1,w,zajn nd hm,fun x hx=>?_,qr,q4,?_⟩
  ·rcases qB7 hx with z|z
   ·exact lo x z
   ·rw [z];exact lw
  ·rw [zas s1,zop (by rw [t];simp [hm])]
   refine zqz ?_
   unfold zot
   show (((eVar 12) [.ac d1,P1,P2,P3,P4,P5,P6,P7,.ac (zab xs),.pl (.int (k:Int)),s10,.ac (zab zfh),.pl (.str w)]).bind _)=_
   show ((ixN (xs.map PyData.str).length (k:Int)).bind fun j=>if 8∉([]:List Nat) then some (Out.nx ([.ac d1,P1,P2,P3,P4,P5,P6,P7,.ac (.list ((xs.map PyData.str).set j (.str w))),.pl (.int (k:Int)),s10,.ac (zab zfh),.pl (.str w)])) else none)=_
   have e:ixN (xs.map PyData.str).length (k:Int)=some k:=by
    unfold ixN
    rw [qE,if_pos (by omega),if_pos (by omega),qA3]
   rw [e,qG,if_pos (by simp)]
   unfold zab
   rw [List.map_set]
theorem zoq {d:PyData} {n m:Nat} (ok:Fok d n) (hn:n+10000≤10 ^ 12) (hm:m≤16):∃ (xs:List Str) (d':PyData),zbp d [.int (m:Int)]=some (zab xs,true,d')∧xs.length=m∧xs.Nodup∧(∀ x∈xs,Low x)∧Fok d' (n+1000):=by
 obtain ⟨r1,d1,a1,a2,a3,a4⟩:=zdi (f:=0) (e:=eC (.int 4)) (env:=[.ac d,.pl (.int (m:Int)),.no,.no,.no,.no,.no,.no,.no,.no,.no,.no,.no]) rfl rfl ok (by omega) (by decide) (by decide)
 obtain ⟨sz,e1,hsz⟩:=at4 a2 a3
 have s1:fSet 2 (fOp ixD (zal 0 (eLst (zac (eC (.int 0)) (zac (eC (.int 1)) (zac (eC (.int 2)) (zac (eC (.int 7)) aNil)))))) (zap 0 2 zah (zam (zal 0 (eC (.int 4))) (fNil 0)))) [.ac d,.pl (.int (m:Int)),.no,.no,.no,.no,.no,.no,.no,.no,.no,.no,.no]=some (.nx [.ac d1,.pl (.int (m:Int)),.pl (.int (sz:Int)),.no,.no,.no,.no,.no,.no,.no,.no,.no,.no]) :=
  zeq (zfg (zbf (f:=0) (d0:=d) (d:=.list [.int 0,.int 1,.int 2,.int 7]) (fr:=true) rfl rfl) a1 e1)
 obtain ⟨r2,d2,b1,b2,b3,b4⟩:=zdi (f:=0) (e:=eC (.int 2)) (env:=[.ac d1,.pl (.int (m:Int)),.pl (.int (sz:Int)),.no,.no,.no,.no,.no,.no,.no,.no,.no,.no]) rfl rfl a4 (by omega) (by decide) (by decide)
 obtain ⟨r3,d3,c1,c2,c3,c4⟩:=zdi (f:=0) (e:=eC (.int 8)) (env:=[.ac d2,.pl (.int (m:Int)),.pl (.int (sz:Int)),.pl (.int r2),.no,.no,.no,.no,.no,.no,.no,.no,.no]) rfl rfl b4 (by omega) (by decide) (by decide)
 obtain ⟨r4,d4,f1,f2,f3,f4⟩:=zdi (f:=0) (e:=eC (.int 26)) (env:=[.ac d3,.pl (.int (m:Int)),.pl (.int (sz:Int)),.pl (.int r2),.pl (.int r3),.no,.no,.no,.no,.no,.no,.no,.no]) rfl rfl c4 (by omega) (by decide) (by decide)
 obtain ⟨r5,d5,g1,g2,g3,g4⟩:=zdi (f:=0) (e:=eC (.int 12)) (env:=[.ac d4,.pl (.int (m:Int)),.pl (.int (sz:Int)),.pl (.int r2),.pl (.int r3),.pl (.int r4),.no,.no,.no,.no,.no,.no,.no]) rfl rfl f4 (by omega) (by decide) (by decide)
 obtain ⟨st,e5,hst⟩:=at12 g2 g3
 have s5:fSet 6 (fOp ixD (zal 0 (eLst (zac (eC (.int 1)) (zac (eC (.int 3)) (zac (eC (.int 5)) (zac (eC (.int 7)) (zac (eC (.int 9)) (zac (eC (.int 11)) (zac (eC (.int 15)) (zac (eC (.int 17)) (zac (eC (.int 19)) (zac (eC (.int 21)) (zac (eC (.int 23)) (zac (eC (.int 25)) aNil)))))))))))))) (zap 0 2 zah (zam (zal 0 (eC (.int 12))) (fNil 0)))) [.ac d4,.pl (.int (m:Int)),.pl (.int (sz:Int)),.pl (.int r2),.pl (.int r3),.pl (.int r4),.no,.no,.no,.no,.no,.no,.no] =
   some (.nx [.ac d5,.pl (.int (m:Int)),.pl (.int (sz:Int)),.pl (.int r2),.pl (.int r3),.pl (.int r4),.pl (.int (st:Int)),.no,.no,.no,.no,.no,.no]) :=
  zeq (zfg (zbf (f:=0) (d0:=d4) (d:=.list [.int 1,.int 3,.int 5,.int 7,.int 9,.int 11,.int 15,.int 17,.int 19,.int 21,.int 23,.int 25]) (fr:=true) rfl rfl) g1 e5)
 obtain ⟨b,d6,p1,p2,p3,p4⟩:=zmw (m:=sz) g4 (by omega) (by omega)
 have s6:fSet 7 (zap 0 2 zcg (zam (zal 0 (eVar 2)) (fNil 0))) [.ac d5,.pl (.int (m:Int)),.pl (.int (sz:Int)),.pl (.int r2),.pl (.int r3),.pl (.int r4),.pl (.int (st:Int)),.no,.no,.no,.no,.no,.no] =
   some (.nx [.ac d6,.pl (.int (m:Int)),.pl (.int (sz:Int)),.pl (.int r2),.pl (.int r3),.pl (.int r4),.pl (.int (st:Int)),.pl (.str b),.no,.no,.no,.no,.no]) :=
  zeq (zef rfl (zku (zbf (f:=0) (d0:=d5) rfl (d:=.int (sz:Int)) (fr:=false) rfl) rfl) rfl rfl p1 p4.flat)
 obtain ⟨sm,rfl⟩:∃ k:Nat,r2=(k:Int):=⟨r2.toNat,by omega⟩
 obtain ⟨at_,rfl⟩:∃ k:Nat,r3=(k:Int):=⟨r3.toNat,by omega⟩
 obtain ⟨fi,rfl⟩:∃ k:Nat,r4=(k:Int):=⟨r4.toNat,by omega⟩
 have loop:∃ env',zfi (gN 9) (fSeq (fIfP (zbb (eOp eqD (eVar 3) (eC (.int 0)))) (fSet 7 (zap 0 2 zcg (zam (zap 0 2 zah (zam (zal 0 (eOp addD (eVar 2) (eC (.int 1)))) (fNil 0))) (fNil 0)))) fNx)
  (fSeq (fS (sSet 10 (eOp ixD (eC (.str "abcdefghijklmnopqrstuvwxyz")) (eOp modD (eOp addD (eVar 5) (eOp mulD (eVar 6) (eVar 9))) (eC (.int 26))))))
  (fApp 8 (zal 0 (eOp addD (eOp addD (eSl (eVar 7) zsz (zos (eVar 4))) (eVar 10)) (eSl (eVar 7) (zos (eVar 4)) zsz)))))) (zdt 0 m) [.ac d6,.pl (.int (m:Int)),.pl (.int (sz:Int)),.pl (.int (sm:Int)),.pl (.int (at_:Int)),.pl (.int (fi:Int)),.pl (.int (st:Int)),.pl (.str b),.ac (zab []),.no,.no,.no,.no]=some (.nx env') ∧
  ∃ (xs:List Str) (b:Str) (d':PyData) (s9 s10:Sl),env'=[.ac d',.pl (.int (m:Int)),.pl (.int (sz:Int)),.pl (.int (sm:Int)),.pl (.int (at_:Int)),.pl (.int (fi:Int)),.pl (.int (st:Int)),.pl (.str b),.ac (zab xs),s9,s10,.no,.no]∧Low b∧b.length≤7∧xs.length=m∧(∀ i,i<m→∃ b':Str,Low b'∧xs[i]?=some (zrl b' at_ (((fi:Int)+st * i) % 26)))∧Fok d' (n+20+10 * m):=by
  refine zcs (fun k env=>∃ (xs:List Str) (b:Str) (d':PyData) (s9 s10:Sl),env=[.ac d',.pl (.int (m:Int)),.pl (.int (sz:Int)),.pl (.int (sm:Int)),.pl (.int (at_:Int)),.pl (.int (fi:Int)),.pl (.int (st:Int)),.pl (.str b),.ac (zab xs),s9,s10,.no,.no]∧Low b∧b.length≤7∧xs.length=k∧(∀ i,i<k→∃ b':Str,Low b'∧xs[i]?=some (zrl b' at_ (((fi:Int)+st * i) % 26)))∧Fok d' (n+20+10 * k))
   ⟨[],b,d6,.no,.no,rfl,p3,by omega,rfl,fun i hi=>by omega,p4.mono (by omega)⟩ ?_
  rintro k env hk ⟨xs,b0,d0,s9,s10,rfl,lb,bl,xl,xi,ok0⟩
  obtain ⟨b',d',q1,q2,q3,q4⟩:=zabt (m:=m) (sm:=sm) (fi:=fi) (at_:=at_) (k:=k) (s10:=s10) ok0 (by omega) hsz hst (by omega) lb bl (xs:=xs) (by omega) (by omega)
  refine ⟨_,_,rfl,q4,xs++[zrl b' at_ (((fi:Int)+st * k) % 26)],b',d',_,_,rfl,q1,q2,by rw [qJ];simp [xl],fun i hi=>?_,q3.mono (by omega)⟩
  by_cases h:i<k
  ·obtain ⟨b'',z1,z2⟩:=xi i h
   exact ⟨b'',z1,by rw [qm (by omega)];exact z2⟩
  ·have:i=k:=by omega
   subst this
   exact ⟨b',q1,by rw [qq (by omega),xl,Nat.sub_self];rfl⟩
 obtain ⟨env1,hloop,xs,b2',d7,s9,s10,rfl,_,_,xl,xi,ok7⟩:=loop
 have md:∀ i:Nat,0≤((fi:Int)+st * i) % 26∧((fi:Int)+st * i) % 26<26:=fun i=>⟨qAs _ (by decide),qAh _ (by decide)⟩
 have xnd:xs.Nodup:=by
  refine List.nodup_iff_pairwise_ne.mpr (qBF.mpr fun i j hi hj hij e=>?_)
  obtain ⟨b1,_,z1⟩:=xi i (by omega)
  obtain ⟨b2,_,z2⟩:=xi j (by omega)
  rw [qF hi] at z1
  rw [qF hj] at z2
  have:=zafp (md i).1 (md j).1 ((qT z1).symm.trans (e.trans (qT z2)))
  have:=zafr hst (a:=i) (b:=j) (by omega) (by omega) this
  omega
 have xlo:∀ x∈xs,Low x:=fun x hx=>by
  obtain ⟨i,hi,rfl⟩:=List.mem_iff_getElem.mp hx
  obtain ⟨b1,z0,z1⟩:=xi i (by omega)
  rw [qF hi] at z1
  rw [qT z1]
  exact zafq z0 (md i).1 (md i).2
 obtain ⟨r8,d8,h1,h2,h3,h4⟩:=zdi (f:=0) (e:=eC (.int 5)) (env:=[.ac d7,.pl (.int (m:Int)),.pl (.int (sz:Int)),.pl (.int (sm:Int)),.pl (.int (at_:Int)),.pl (.int (fi:Int)),.pl (.int (st:Int)),.pl (.str b2'),.ac (zab xs),s9,s10,.no,.no]) rfl rfl ok7 (by omega) (by decide) (by decide)
 have last:∃ (ys:List Str) (d9:PyData) (s9' s11 s12:Sl),ys.Nodup∧(∀ x∈ys,Low x)∧ys.length=m∧Fok d9 (n+1000)∧(fIf (gB (fOp eqD (zap 0 2 zah (zam (zal 0 (eC (.int 5))) (fNil 0))) (zal 0 (eC (.int 0))))) (fSeq (fS (sSet 11 (eLst (zac (eC (.str "none")) (zac (eC (.str "rule")) (zac (eC (.str "quarrel")) (zac (eC (.str "near")) (zac (eC (.str "far")) (zac (eC (.str "out")) (zac (eC (.str "ask")) (zac (eC (.str "tell")) (zac (eC (.str "say")) (zac (eC (.str "call")) (zac (eC (.str "onward")) (zac (eC (.str "own")) (zac (eC (.str "new")) aNil))))))))))))))))
  (fSeq (fS (sSet 11 (eOp addD (eVar 11) (eLst (zac (eC (.str "kind")) (zac (eC (.str "deed")) (zac (eC (.str "free")) (zac (eC (.str "at")) (zac (eC (.str "then")) aNil)))))))))
  (fFor (zca (zac (eVar 1) aNil)) (gN 9)
  (fSeq (fSet 12 (fOp ixD (zal 0 (eVar 11)) (zap 0 2 zah (zam (zal 0 (eC (.int 18))) (fNil 0)))))
  (fIfP (zbb (eOp (inD true) (eVar 12) (eVar 8))) (fS (zot 8 (eVar 9) (eVar 12))) fNx))))) fNx) [.ac d7,.pl (.int (m:Int)),.pl (.int (sz:Int)),.pl (.int (sm:Int)),.pl (.int (at_:Int)),.pl (.int (fi:Int)),.pl (.int (st:Int)),.pl (.str b2'),.ac (zab xs),s9,s10,.no,.no] =
   some (.nx [.ac d9,.pl (.int (m:Int)),.pl (.int (sz:Int)),.pl (.int (sm:Int)),.pl (.int (at_:Int)),.pl (.int (fi:Int)),.pl (.int (st:Int)),.pl (.str b2'),.ac (zab ys),s9',s10,s11,s12]):=by
  have tt:gB (fOp eqD (zap 0 2 zah (zam (zal 0 (eC (.int 5))) (fNil 0))) (zal 0 (eC (.int 0)))) [.ac d7,.pl (.int (m:Int)),.pl (.int (sz:Int)),.pl (.int (sm:Int)),.pl (.int (at_:Int)),.pl (.int (fi:Int)),.pl (.int (st:Int)),.pl (.str b2'),.ac (zab xs),s9,s10,.no,.no]=some (r8==0,[.ac d8,.pl (.int (m:Int)),.pl (.int (sz:Int)),.pl (.int (sm:Int)),.pl (.int (at_:Int)),.pl (.int (fi:Int)),.pl (.int (st:Int)),.pl (.str b2'),.ac (zab xs),s9,s10,.no,.no]):=by
   unfold gB
   rw [zfg (w:=eqD) h1 (zbf (f:=0) (e:=eC (.int 0)) (d0:=d8) (d:=.int 0) (fr:=false) rfl rfl) (z:=.bool (r8==0)) (fr:=false) rfl]
   rfl
  rw [zsl tt]
  by_cases h0:r8=0
  ·rw [if_pos (by rw [h0];rfl)]
   have w1:fS (sSet 11 (eLst (zac (eC (.str "none")) (zac (eC (.str "rule")) (zac (eC (.str "quarrel")) (zac (eC (.str "near")) (zac (eC (.str "far")) (zac (eC (.str "out")) (zac (eC (.str "ask")) (zac (eC (.str "tell")) (zac (eC (.str "say")) (zac (eC (.str "call")) (zac (eC (.str "onward")) (zac (eC (.str "own")) (zac (eC (.str "new")) aNil))))))))))))))) [.ac d8,.pl (.int (m:Int)),.pl (.int (sz:Int)),.pl (.int (sm:Int)),.pl (.int (at_:Int)),.pl (.int (fi:Int)),.pl (.int (st:Int)),.pl (.str b2'),.ac (zab xs),s9,s10,.no,.no] =
     some (.nx [.ac d8,.pl (.int (m:Int)),.pl (.int (sz:Int)),.pl (.int (sm:Int)),.pl (.int (at_:Int)),.pl (.int (fi:Int)),.pl (.int (st:Int)),.pl (.str b2'),.ac (zab xs),s9,s10,.ac (zab (zfh.take 13)),.no]):=rfl
   have w2:fS (sSet 11 (eOp addD (eVar 11) (eLst (zac (eC (.str "kind")) (zac (eC (.str "deed")) (zac (eC (.str "free")) (zac (eC (.str "at")) (zac (eC (.str "then")) aNil)))))))) [.ac d8,.pl (.int (m:Int)),.pl (.int (sz:Int)),.pl (.int (sm:Int)),.pl (.int (at_:Int)),.pl (.int (fi:Int)),.pl (.int (st:Int)),.pl (.str b2'),.ac (zab xs),s9,s10,.ac (zab (zfh.take 13)),.no] =
     some (.nx [.ac d8,.pl (.int (m:Int)),.pl (.int (sz:Int)),.pl (.int (sm:Int)),.pl (.int (at_:Int)),.pl (.int (fi:Int)),.pl (.int (st:Int)),.pl (.str b2'),.ac (zab xs),s9,s10,.ac (zab zfh),.no]):=rfl
   rw [zas w1,zas w2,zhe (zgu (n:=m) rfl (by omega))]
   have loop2:∃ env',zfi (gN 9) (fSeq (fSet 12 (fOp ixD (zal 0 (eVar 11)) (zap 0 2 zah (zam (zal 0 (eC (.int 18))) (fNil 0)))))
    (fIfP (zbb (eOp (inD true) (eVar 12) (eVar 8))) (fS (zot 8 (eVar 9) (eVar 12))) fNx)) (zdt 0 m) [.ac d8,.pl (.int (m:Int)),.pl (.int (sz:Int)),.pl (.int (sm:Int)),.pl (.int (at_:Int)),.pl (.int (fi:Int)),.pl (.int (st:Int)),.pl (.str b2'),.ac (zab xs),s9,s10,.ac (zab zfh),.no]=some (.nx env') ∧
    ∃ (ys:List Str) (d':PyData) (s9' s12:Sl),env'=[.ac d',.pl (.int (m:Int)),.pl (.int (sz:Int)),.pl (.int (sm:Int)),.pl (.int (at_:Int)),.pl (.int (fi:Int)),.pl (.int (st:Int)),.pl (.str b2'),.ac (zab ys),s9',s10,.ac (zab zfh),s12]∧ys.Nodup∧(∀ x∈ys,Low x)∧ys.length=m∧Fok d' (n+200+m):=by
    refine zcs (fun k env=>∃ (ys:List Str) (d':PyData) (s9' s12:Sl),env=[.ac d',.pl (.int (m:Int)),.pl (.int (sz:Int)),.pl (.int (sm:Int)),.pl (.int (at_:Int)),.pl (.int (fi:Int)),.pl (.int (st:Int)),.pl (.str b2'),.ac (zab ys),s9',s10,.ac (zab zfh),s12]∧ys.Nodup∧(∀ x∈ys,Low x)∧ys.length=m∧Fok d' (n+200+k))
     ⟨xs,d8,_,_,rfl,xnd,xlo,xl,h4.mono (by omega)⟩ ?_
    rintro k env hk ⟨ys,d',s9',s12,rfl,y1,y2,y3,y4⟩
    obtain ⟨zs,d'',w,z1,z2,z3,z4,z5⟩:=zabu (m:=m) (k:=k) (P1:=.pl (.int (m:Int))) (P2:=.pl (.int (sz:Int))) (P3:=.pl (.int (sm:Int))) (P4:=.pl (.int (at_:Int))) (P5:=.pl (.int (fi:Int))) (P6:=.pl (.int (st:Int))) (P7:=.pl (.str b2')) (s10:=s10) (s12:=s12) y4 (by omega) y1 y2 (by omega) (by omega)
    exact ⟨_,_,rfl,z5,zs,d'',_,_,rfl,z1,z2,by omega,z4.mono (by omega)⟩
   obtain ⟨env',hl,ys,d',s9',s12,rfl,y1,y2,y3,y4⟩:=loop2
   exact ⟨ys,d',s9',_,s12,y1,y2,y3,y4.mono (by omega),hl⟩
  ·rw [if_neg (by simp [h0])]
   exact ⟨xs,d8,_,_,_,xnd,xlo,xl,h4.mono (by omega),rfl⟩
 obtain ⟨ys,d9,s9',s11,s12,y1,y2,y3,y4,hlast⟩:=last
 refine ⟨ys,d9,?_,y3,y1,y2,y4⟩
 have run:zeb [.ac d,.pl (.int (m:Int)),.no,.no,.no,.no,.no,.no,.no,.no,.no,.no,.no]=some (.rt (zab ys) true [.ac d9,.pl (.int (m:Int)),.pl (.int (sz:Int)),.pl (.int (sm:Int)),.pl (.int (at_:Int)),.pl (.int (fi:Int)),.pl (.int (st:Int)),.pl (.str b2'),.no,s9',s10,s11,s12]):=by
  unfold zeb
  refine (zas s1).trans ((zas (zeq b1)).trans ((zas (zeq c1)).trans ((zas (zeq f1)).trans ?_)))
  refine (zas s5).trans ((zas s6).trans ?_)
  have s7:fS (sSet 8 (eLst aNil)) [.ac d6,.pl (.int (m:Int)),.pl (.int (sz:Int)),.pl (.int (sm:Int)),.pl (.int (at_:Int)),.pl (.int (fi:Int)),.pl (.int (st:Int)),.pl (.str b),.no,.no,.no,.no,.no]=some (.nx [.ac d6,.pl (.int (m:Int)),.pl (.int (sz:Int)),.pl (.int (sm:Int)),.pl (.int (at_:Int)),.pl (.int (fi:Int)),.pl (.int (st:Int)),.pl (.str b),.ac (zab []),.no,.no,.no,.no]):=rfl
  refine (zas s7).trans ?_
  refine (zas ((zhe (zgu (n:=m) rfl (by omega))).trans hloop)).trans ?_
  refine (zas hlast).trans ?_
  rfl
 unfold zbp fnF
 show (zeb [.ac d,.pl (.int (m:Int)),.no,.no,.no,.no,.no,.no,.no,.no,.no,.no,.no]).bind _=_
 rw [run];rfl
theorem zxe {a:EFf} {f:Nat} {env e1:DEnv} {d:PyData} {n:Nat} (h:a env=some (vi (n:Int),e1)) (h1:e1[f]?=some (.ac d)) (hn:n<2 ^ 62):zim (zam a (fNil f)) env=some (zdt 0 n,[],e1):=by
 unfold zim
 rw [zku h h1,qG]
 show (if -(2 ^ 62)≤(n:Int)∧(n:Int)<2 ^ 62 then some (zdt 0 (n:Int).toNat,[],e1) else none)=_
 rw [if_pos ⟨by omega,by omega⟩,qA3]
theorem zdc {a:EFf} {r:AFf} {env e1 e2:DEnv} {x:Val} {xs:List Val} (h:a env=some (x,e1)) (h2:r e1=some (xs,e2)):zam a r env=some (x::xs,e2):=by
 unfold zam;rw [h,qG];show (r e1).map _=_;rw [h2];rfl
theorem zra {f:Nat} {env:DEnv} {d:PyData} (h:env[f]?=some (.ac d)):fNil f env=some ([],env):=by unfold fNil;rw [h]
theorem zabv {xs:List Str} {k:Nat} {D2:Sl} (hk:0<k) (hkx:k<xs.length) (hx:xs.length≤12) (lo:∀ x∈xs,Low x) {m:Nat} (hm:m≤4) {d:PyData} {n:Nat} (ok:Fok d n) (hn:n+1000≤10 ^ 12) {s5 s6:Sl} :
  ∃ env',zfi (gN 5) (fSeq (fSet 6 (fOp ixD (zal 0 (eVar 1)) (zap 0 2 zah (zam (zal 0 (eVar 3)) (fNil 0)))))
   (fIfP (zbb (eOp (inD true) (eVar 6) (eVar 4))) (fApp 4 (zal 0 (eVar 6))) fNx)) (zdt 0 m) [.ac d,.pl (zab xs),D2,.pl (.int (k:Int)),.ac (zab []),s5,s6]=some (.nx env') ∧
   ∃ (es:List Str) (d':PyData) (s5 s6:Sl),env'=[.ac d',.pl (zab xs),D2,.pl (.int (k:Int)),.ac (zab es),s5,s6]∧(∀ e∈es,e∈xs.take k)∧es.length≤m∧Fok d' (n+m):=by
 refine zcs (fun j env=>∃ (es:List Str) (d':PyData) (s5 s6:Sl),env=[.ac d',.pl (zab xs),D2,.pl (.int (k:Int)),.ac (zab es),s5,s6]∧(∀ e∈es,e∈xs.take k)∧es.length≤j∧Fok d' (n+j)) ⟨[],d,s5,s6,rfl,(fun e he=>nomatch he),qQ _,ok⟩ ?_
 rintro j env hj ⟨es,d1,s5,s6,rfl,he,hl,ok1⟩
 obtain ⟨r,d2,q1,q2,q3,q4⟩:=zdi (f:=0) (e:=eVar 3) (env:=[.ac d1,.pl (zab xs),D2,.pl (.int (k:Int)),.ac (zab es),.pl (.int (j:Int)),s6]) rfl rfl ok1 (by omega) (by omega) (by omega)
 have hr:r.toNat<xs.length:=by omega
 have ix:=znw PyData.str (qF hr)
 rw [show ((r.toNat:Nat):Int)=r by omega] at ix
 have hm:xs[r.toNat]∈xs.take k:=qB6.mpr ⟨r.toNat,by omega,rfl⟩
 generalize xs[r.toNat]=w at ix hm
 have s1:fSet 6 (fOp ixD (zal 0 (eVar 1)) (zap 0 2 zah (zam (zal 0 (eVar 3)) (fNil 0)))) [.ac d1,.pl (zab xs),D2,.pl (.int (k:Int)),.ac (zab es),.pl (.int (j:Int)),s6]=some (.nx [.ac d2,.pl (zab xs),D2,.pl (.int (k:Int)),.ac (zab es),.pl (.int (j:Int)),.pl (.str w)]) :=
  zeq (zfg (zbf (f:=0) (e:=eVar 1) (d0:=d1) (d:=zab xs) (fr:=false) rfl rfl) q1 ix)
 have t:=zup (neg:=true) (i:=6) (j:=4) (env:=[.ac d2,.pl (zab xs),D2,.pl (.int (k:Int)),.ac (zab es),.pl (.int (j:Int)),.pl (.str w)]) (x:=w) (xs:=es) rfl rfl (.inr rfl)
 by_cases hin:w∈es
 ·refine ⟨_,_,rfl,(zas s1).trans (zjf (by rw [t];simp [hin])),es,d2,_,_,rfl,he,by omega,q4⟩
 ·refine ⟨_,[.ac d2,.pl (zab xs),D2,.pl (.int (k:Int)),.ac (zab (es++[w])),.pl (.int (j:Int)),.pl (.str w)],rfl,(zas s1).trans ((zop (by rw [t];simp [hin])).trans ?_),es++[w],d2,_,_,rfl,fun e hm'=>?_,by rw [qJ];simp;omega,q4⟩
  ·rw [znv rfl (zbf (f:=0) (e:=eVar 6) (d0:=d2) (d:=.str w) (fr:=false) rfl rfl) rfl (by rw [qE];omega) (by simp)]
   show some (OutF.nx [.ac d2,.pl (zab xs),D2,.pl (.int (k:Int)),.ac (.list (es.map .str++[.str w])),.pl (.int (j:Int)),.pl (.str w)])=_
   unfold zab
   rw [qy];rfl
  ·rcases qAB.mp hm' with z|z
   ·exact he e z
   ·rw [qu.mp z];exact hm
theorem zabw {d:PyData} {n:Nat} {xs:List Str} (ok:Fok d n) (hn:n+10000≤10 ^ 12) (hx:xs.length≤12) (nd:xs.Nodup) (lo:∀ x∈xs,Low x):∃ (W:Web) (d':PyData),zgz d [zab xs]=some (webD W,true,d')∧nm W=xs∧WebOk W∧Fok d' (n+1000):=by
 have loop:∃ env',zfi (gN 3) (fSeq (fS (sSet 4 (eLst aNil)))
  (fSeq (zts (zim (zam (fCB minD (zam (zal 0 (eVar 3)) (zam (zap 0 2 zah (zam (zal 0 (eC (.int 5))) (fNil 0))) (fNil 0)))) (fNil 0))) (gN 5)
  (fSeq (fSet 6 (fOp ixD (zal 0 (eVar 1)) (zap 0 2 zah (zam (zal 0 (eVar 3)) (fNil 0)))))
  (fIfP (zbb (eOp (inD true) (eVar 6) (eVar 4))) (fApp 4 (zal 0 (eVar 6))) fNx)))
  (fApp 2 (zal 0 (eTup (zac (eIxV 1 (eVar 3)) (zac (eVar 4) aNil))))))) (zdt 0 xs.length) [.ac d,.pl (zab xs),.ac (webD []),.no,.no,.no,.no]=some (.nx env') ∧
  ∃ (W:Web) (d':PyData) (s3 s4 s5 s6:Sl),env'=[.ac d',.pl (zab xs),.ac (webD W),s3,s4,s5,s6]∧nm W=xs.take xs.length∧WebOk W∧Fok d' (n+10 * xs.length):=by
  refine zcs (fun k env=>∃ (W:Web) (d':PyData) (s3 s4 s5 s6:Sl),env=[.ac d',.pl (zab xs),.ac (webD W),s3,s4,s5,s6]∧nm W=xs.take k∧WebOk W∧Fok d' (n+10 * k)) ⟨[],d,_,_,_,_,rfl,rfl,zaei,ok⟩ ?_
  rintro k env hk ⟨W,d1,s3,s4,s5,s6,rfl,hW,wok,ok1⟩
  have Wl:W.length=k:=by have:=congrArg List.length hW;unfold nm at this;rw [qE,qBN] at this;omega
  have e0:fS (sSet 4 (eLst aNil)) [.ac d1,.pl (zab xs),.ac (webD W),.pl (.int (k:Int)),s4,s5,s6]=some (.nx [.ac d1,.pl (zab xs),.ac (webD W),.pl (.int (k:Int)),.ac (zab []),s5,s6]):=rfl
  obtain ⟨t,d2,q1,q2,q3,q4⟩:=zdi (f:=0) (e:=eC (.int 5)) (env:=[.ac d1,.pl (zab xs),.ac (webD W),.pl (.int (k:Int)),.ac (zab []),s5,s6]) rfl rfl ok1 (by omega) (by decide) (by decide)
  have mn:∃ m:Nat,(if t<(k:Int) then t else (k:Int))=(m:Int)∧m≤4∧m≤k:=by
   by_cases h:t<(k:Int)
   ·exact ⟨t.toNat,by rw [if_pos h];omega,by omega,by omega⟩
   ·exact ⟨k,by rw [if_neg h],by omega,qQ _⟩
  obtain ⟨m,em,m4,mk⟩:=mn
  have e1:fCB minD (zam (zal 0 (eVar 3)) (zam (zap 0 2 zah (zam (zal 0 (eC (.int 5))) (fNil 0))) (fNil 0))) [.ac d1,.pl (zab xs),.ac (webD W),.pl (.int (k:Int)),.ac (zab []),s5,s6]=some (vi (m:Int),[.ac d2,.pl (zab xs),.ac (webD W),.pl (.int (k:Int)),.ac (zab []),s5,s6]):=by
   unfold fCB
   rw [zdc (zbf (f:=0) (e:=eVar 3) (d0:=d1) (d:=.int (k:Int)) (fr:=false) rfl rfl) (zdc q1 (zra rfl)),qG]
   show ((some (PyData.int (if t<(k:Int) then t else (k:Int)),false)).bind _)=_
   rw [em];rfl
  have inner:∃ (es:List Str) (d3:PyData) (s5' s6':Sl),zts (zim (zam (fCB minD (zam (zal 0 (eVar 3)) (zam (zap 0 2 zah (zam (zal 0 (eC (.int 5))) (fNil 0))) (fNil 0)))) (fNil 0))) (gN 5)
    (fSeq (fSet 6 (fOp ixD (zal 0 (eVar 1)) (zap 0 2 zah (zam (zal 0 (eVar 3)) (fNil 0)))))
    (fIfP (zbb (eOp (inD true) (eVar 6) (eVar 4))) (fApp 4 (zal 0 (eVar 6))) fNx)) [.ac d1,.pl (zab xs),.ac (webD W),.pl (.int (k:Int)),.ac (zab []),s5,s6]=some (.nx [.ac d3,.pl (zab xs),.ac (webD W),.pl (.int (k:Int)),.ac (zab es),s5',s6'])∧(∀ e∈es,e∈xs.take k)∧es.length≤4∧Fok d3 (n+10 * k+9):=by
   rw [zum (zxe (f:=0) e1 rfl (by omega))]
   by_cases h0:m=0
   ·subst h0
    exact ⟨[],d2,_,_,rfl,(fun e he=>nomatch he),by simp,q4.mono (by omega)⟩
   ·obtain ⟨env',h1,es,d3,s5',s6',rfl,h2,h3,h4⟩:=zabv (D2:=.ac (webD W)) (k:=k) (by omega) hk hx lo m4 q4 (by omega) (s5:=s5) (s6:=s6)
    exact ⟨es,d3,s5',s6',h1,h2,by omega,h4.mono (by omega)⟩
  obtain ⟨es,d3,s5',s6',h1,h2,h3,h4⟩:=inner
  have hget:xs[k]?=some xs[k]:=qF hk
  have e2:eTup (zac (eIxV 1 (eVar 3)) (zac (eVar 4) aNil)) [.ac d3,.pl (zab xs),.ac (webD W),.pl (.int (k:Int)),.ac (zab es),s5',s6']=some ⟨rowD (xs[k],es),false,[4]⟩:=by
   have ei:eIxV 1 (eVar 3) [.ac d3,.pl (zab xs),.ac (webD W),.pl (.int (k:Int)),.ac (zab es),s5',s6']=some (vs xs[k]):=zaqb rfl rfl (by rw [qY,hget];rfl)
   unfold eTup zac
   rw [ei];rfl
  refine ⟨_,[.ac d3,.pl (zab xs),.ac (webD (W++[(xs[k],es)])),.pl (.int (k:Int)),.pl (zab es),s5',s6'],rfl,(zas e0).trans ((zas h1).trans ?_),W++[(xs[k],es)],d3,_,_,_,_,rfl,?_,?_,h4.mono (by omega)⟩
  ·rw [znv rfl (zld (f:=0) (d0:=d3) rfl e2 (show (0:Nat)∉[4] by decide)) rfl (by rw [qE];omega) (by decide)]
   show some (OutF.nx [.ac d3,.pl (zab xs),.ac (.list (W.map rowD++[rowD (xs[k],es)])),.pl (.int (k:Int)),.pl (zab es),s5',s6'])=_
   unfold webD
   rw [qy];rfl
  ·rw [zni,hW,List.take_succ,hget];rfl
  ·refine zaej wok ?_ (by rw [hW];exact h2) h3 (by omega)
   rw [hW]
   intro z
   obtain ⟨i,hi,e⟩:=qB6.mp z
   have:=zajd nd (i:=i) (j:=k) e
   omega
 obtain ⟨env',h1,W,d',s3,s4,s5,s6,rfl,h2,h3,h4⟩:=loop
 refine ⟨W,d',?_,by rw [h2,qBp],h3,h4.mono (by omega)⟩
 have run:zkl [.ac d,.pl (zab xs),.no,.no,.no,.no,.no]=some (.rt (webD W) true [.ac d',.pl (zab xs),.no,s3,s4,s5,s6]):=by
  unfold zkl
  refine (zas (show fS (sSet 2 (eLst aNil)) [.ac d,.pl (zab xs),.no,.no,.no,.no,.no]=some (.nx [.ac d,.pl (zab xs),.ac (webD []),.no,.no,.no,.no]) from rfl)).trans ?_
  have it:zca (zac (eCB lenD (zac (eVar 1) aNil)) aNil) [.ac d,.pl (zab xs),.ac (webD []),.no,.no,.no,.no]=some (zdt 0 xs.length,[]):=zgu (by rw [zrx (ds:=xs.map .str) (fr:=false) (bs:=[]) rfl,qE]) (by omega)
  exact (zas ((zhe it).trans h1)).trans rfl
 unfold zgz fnF
 show (zkl [.ac d,.pl (zab xs),.no,.no,.no,.no,.no]).bind _=_
 rw [run];rfl
noncomputable def tabW (W V:Web):List (Str×List Str):=V.map fun p=>(p.1,hdg W p.1)
theorem zaif (W V:Web):(tabW W V).map (·.1)=nm V:=by unfold tabW nm;rw [qBS];rfl
theorem zuq {W:Web}:∀ {V:Web} {n:Str},n∈nm V→(tabW W V).lookup n=some (hdg W n)
 | [],n,h=>by cases h
 | p::V,n,h=>by
  show List.lookup n ((p.1,hdg W p.1)::tabW W V)=_
  rw [qz]
  by_cases e:n=p.1
  ·subst e;rw [beq_self_eq_true]
  ·rw [beq_eq_false_iff_ne.mpr e]
   exact zuq (V:=V) (by
    unfold nm at h ⊢
    rcases qN.mp h with z|z
    ·exact absurd z e
    ·exact z)
theorem zyy {W:Web} (h:WebOk W):zgb [webD W]=some (.dict (dS zab (tabW W W)),true):=by
 have hl:=h.len
 have outer:∃ env',forL (gT 2 (zbc 2 (zbc 3 zfl))) (sSeq (sSet 4 (eLst (zac (eVar 2) aNil)))
  (sSeq (sFor (zbh (eVar 3)) (gN 5)
  (sSet 4 (eOp addD (eVar 4) (zbr 1 (eVar 5)))))
  (sPut 1 (eVar 2) (zii ["_law_other", "_law_rest"] [4] (zbh (eVar 0)) (gT 2 (zbc 0 (zbc 1 zfl))) (zbb (eOp (inD false) (eVar 0) (eVar 2))) (eVar 0))))) (W.map rowD) [.pl (webD W),.ac (.dict (dS zab (tabW W []))),.no,.no,.no,.no]=some (.nx env')∧∃ s2 s3 s4 s5,env'=[.pl (webD W),.ac (.dict (dS zab (tabW W W))),s2,s3,s4,s5]:=by
  refine ziz (fun pre env=>∃ s2 s3 s4 s5,env=[.pl (webD W),.ac (.dict (dS zab (tabW W pre))),s2,s3,s4,s5]) ⟨_,_,_,_,rfl⟩ ?_
  rintro pre p post env hp ⟨s2,s3,s4,s5,rfl⟩
  have hV:WebOk (pre++[p]):=zvm (post:=post) (by rw [← zzq hp];exact h)
  obtain ⟨hV',hn,hel,hfew⟩:=zhm hV
  have pm:(p.1,p.2)∈W:=by rw [← hp];simp
  have e1:sSet 4 (eLst (zac (eVar 2) aNil)) [.pl (webD W),.ac (.dict (dS zab (tabW W pre))),.pl (.str p.1),.pl (zab p.2),s4,s5]=some (.nx [.pl (webD W),.ac (.dict (dS zab (tabW W pre))),.pl (.str p.1),.pl (zab p.2),.ac (zab [p.1]),s5]):=rfl
  have inner:∃ env',forL (gN 5) (sSet 4 (eOp addD (eVar 4) (zbr 1 (eVar 5)))) (p.2.map .str) [.pl (webD W),.ac (.dict (dS zab (tabW W pre))),.pl (.str p.1),.pl (zab p.2),.ac (zab [p.1]),s5]=some (.nx env') ∧
    ∃ (ys:List Str) (s5:Sl),env'=[.pl (webD W),.ac (.dict (dS zab (tabW W pre))),.pl (.str p.1),.pl (zab p.2),.ac (zab ys),s5]∧(∀ x,x∈ys↔x=p.1∨∃ e∈p.2,x∈hdg W e)∧ys.length≤1+12 * p.2.length:=by
   refine ziz (fun es env=>∃ (ys:List Str) (s5:Sl),env=[.pl (webD W),.ac (.dict (dS zab (tabW W pre))),.pl (.str p.1),.pl (zab p.2),.ac (zab ys),s5]∧(∀ x,x∈ys↔x=p.1∨∃ e∈es,x∈hdg W e)∧ys.length≤1+12 * es.length) ⟨[p.1],s5,rfl,fun x=>by simp,by simp⟩ ?_
   rintro es e post env he ⟨ys,s5,rfl,hm,hy⟩
   have len:=congrArg List.length he
   rw [qJ,qa] at len
   have hh:=ztj h (n:=e)
   have gd:zbr 1 (eVar 5) [.pl (webD W),.ac (.dict (dS zab (tabW W pre))),.pl (.str p.1),.pl (zab p.2),.ac (zab ys),.pl (.str e)]=some ⟨zab (hdg W e),false,[]⟩:=by
    simp [zbr,eVar,keyD,zkd,zuq (W:=W) (V:=pre) (n:=e) (hel e (by rw [← he];simp))]
   refine ⟨_,_,rfl,.inl (zvj (zajl (f1:=false) (b1:=[4]) rfl gd (by omega))),ys++hdg W e,.pl (.str e),rfl,fun x=>?_,by rw [qJ,qJ];simp;omega⟩
   rw [qAB,hm]
   constructor
   ·rintro ((z|⟨e',z1,z2⟩)|z)
    ·exact .inl z
    ·exact .inr ⟨e',qv _ z1,z2⟩
    ·exact .inr ⟨e,by simp,z⟩
   ·rintro (z|⟨e',z1,z2⟩)
    ·exact .inl (.inl z)
    ·rcases qAB.mp z1 with z1|z1
     ·exact .inl (.inr ⟨e',z1,z2⟩)
     ·rw [qu.mp z1] at z2;exact .inr z2
  obtain ⟨env1,q,ys,s5',rfl,hm,hy⟩:=inner
  have filt:(W.filter fun r=>decide (r.1∈ys)).map (fun r=>PyData.str r.1)=(hdg W p.1).map .str:=by
   unfold hdg nm
   rw [List.filter_map,qBS]
   refine congrArg (fun l=>List.map (fun r:Str×List Str=>PyData.str r.1) l) (List.filter_congr fun r hr=>?_)
   refine decide_eq_decide.mpr ?_
   rw [hm,zaix h pm]
   constructor
   ·rintro (z|⟨e,z1,z2⟩)
    ·exact .inl z
    ·exact .inr ⟨e,z1,(znl h).mp z2⟩
   ·rintro (z|⟨e,z1,z2⟩)
    ·exact .inl z
    ·exact .inr ⟨e,z1,(znl h).mpr z2⟩
  have c:zeu (gT 2 (zbc 0 (zbc 1 zfl))) (zbb (eOp (inD false) (eVar 0) (eVar 2))) (eVar 0) [.no,.no,.pl (zab ys)] (W.map rowD)=some ((hdg W p.1).map .str):=by
   rw [← filt]
   exact zgv (enc:=rowD) (out:=fun r=>PyData.str r.1) (fun r=>decide (r.1∈ys)) fun r _=>⟨[.pl (.str r.1),.pl (zab r.2),.pl (zab ys)],rfl,zup (neg:=false) (i:=0) (j:=2) (x:=r.1) (xs:=ys) rfl rfl (.inl rfl),fun _=>⟨vs r.1,rfl,rfl⟩⟩
  have ec:zii ["_law_other", "_law_rest"] [4] (zbh (eVar 0)) (gT 2 (zbc 0 (zbc 1 zfl))) (zbb (eOp (inD false) (eVar 0) (eVar 2))) (eVar 0) [.pl (webD W),.ac (.dict (dS zab (tabW W pre))),.pl (.str p.1),.pl (zab p.2),.ac (zab ys),s5']=some ⟨zab (hdg W p.1),true,[]⟩:=by
   have:=zjk (own:=["_law_other", "_law_rest"]) (fr:=[4]) (fi:=zbh (eVar 0)) (env:=[.pl (webD W),.ac (.dict (dS zab (tabW W pre))),.pl (.str p.1),.pl (zab p.2),.ac (zab ys),s5']) (ds:=W.map rowD) (bs:=[]) rfl (by rw [qE];omega) c
   rw [this,if_pos (zrv _)];rfl
  have lz:(dS zab (tabW W pre)).length<100000:=by
   unfold dS tabW
   rw [qE,qE]
   have:=hV'.len
   omega
  have pt:sPut 1 (eVar 2) (zii ["_law_other", "_law_rest"] [4] (zbh (eVar 0)) (gT 2 (zbc 0 (zbc 1 zfl))) (zbb (eOp (inD false) (eVar 0) (eVar 2))) (eVar 0)) [.pl (webD W),.ac (.dict (dS zab (tabW W pre))),.pl (.str p.1),.pl (zab p.2),.ac (zab ys),s5']=some (.nx [.pl (webD W),.ac (.dict (dS zab (tabW W (pre++[p])))),.pl (.str p.1),.pl (zab p.2),.ac (zab ys),s5']):=by
   unfold sPut
   show ((zii ["_law_other", "_law_rest"] [4] (zbh (eVar 0)) (gT 2 (zbc 0 (zbc 1 zfl))) (zbb (eOp (inD false) (eVar 0) (eVar 2))) (eVar 0) [.pl (webD W),.ac (.dict (dS zab (tabW W pre))),.pl (.str p.1),.pl (zab p.2),.ac (zab ys),s5']).bind _)=_
   rw [ec]
   show (if (dS zab (tabW W pre)).length<100000∧1∉([]:List Nat) then some (Out.nx [.pl (webD W),.ac (.dict (zor (dS zab (tabW W pre)) (.str p.1) (zab (hdg W p.1)))),.pl (.str p.1),.pl (zab p.2),.ac (zab ys),s5']) else none)=_
   rw [if_pos ⟨lz,by simp⟩,zya zab (by rw [zaif];exact hn),show tabW W (pre++[p])=tabW W pre++[(p.1,hdg W p.1)] by unfold tabW;rw [qy];rfl]
  exact ⟨_,_,rfl,.inl (zey e1 (zey (zmi rfl q) pt)),_,_,_,_,rfl⟩
 obtain ⟨env',hl',s2,s3,s4,s5,rfl⟩:=outer
 exact zlv (env:=[.pl (webD W),.no,.no,.no,.no,.no]) rfl (zey rfl (zey (zmi rfl hl') rfl))
noncomputable def rchA (W:Web) (a:Arm):List Str:=match a with
 | .one n=>hdg W n
 | .many ns=>ns.flatMap (hdg W)
theorem zyz {W:Web} (h:WebOk W) {a:Arm} {x:Str}:x∈rchA W a↔x∈upA W a:=by
 rw [zma]
 cases a with
 | one n=>show x∈hdg W n↔∃ m∈[n],x∈up W m;rw [znl h];simp
 | many ns =>
  show x∈ns.flatMap (hdg W)↔∃ n∈ns,x∈up W n
  rw [qA6]
  exact exists_congr fun n=>and_congr_right fun _=>znl h
theorem zafs {W:Web} (h:WebOk W) {a:Arm} (ha:a.parts.length≤4):(rchA W a).length≤48:=by
 cases a with
 | one n=>exact qAQ (ztj h (n:=n)) (by decide)
 | many ns =>
  have:∀ l:List Str,(l.flatMap (hdg W)).length≤12 * l.length:=by
   intro l
   induction l with
   | nil=>simp
   | cons n l ih =>
    rw [List.flatMap_cons,qJ,qa]
    have:=ztj h (n:=n)
    omega
  have h1:=this ns
  have h2:ns.length≤4:=ha
  show (ns.flatMap (hdg W)).length≤48
  omega
theorem zza {W:Web} (h:WebOk W) {a:Arm} (ha:a.parts.length≤4) (hk:∀ n∈a.parts,n∈nm W):∃ fr,zgc [.dict (dS zab (tabW W W)),armD a]=some (zab (rchA W a),fr):=by
 have gd:∀ (n:Str) (env:DEnv) (k:Nat),n∈nm W→env[0]?=some (.pl (.dict (dS zab (tabW W W))))→env[k]?=some (.pl (.str n))→zbr 0 (eVar k) env=some ⟨zab (hdg W n),false,[]⟩:=fun n env k hn h0 hk=>by
  unfold zbr eVar
  rw [h0,hk]
  simp [keyD,zkd,zuq (W:=W) (V:=W) hn]
 cases a with
 | one n =>
  have hn:n∈nm W:=hk n (by show n∈[n];simp)
  refine ⟨false,zlv (env:=[.pl (.dict (dS zab (tabW W W))),.pl (.str n),.no,.no]) rfl ?_⟩
  unfold zjo
  exact zey (if_f rfl rfl) (zlk (gd n _ 1 hn rfl rfl))
 | many ns =>
  have loop:∃ env',forL (gN 3) (sSet 2 (eOp addD (eVar 2) (zbr 0 (eVar 3)))) (ns.map .str) [.pl (.dict (dS zab (tabW W W))),.pl (armD (.many ns)),.ac (zab []),.no]=some (.nx env')∧∃ s,env'=[.pl (.dict (dS zab (tabW W W))),.pl (armD (.many ns)),.ac (zab (ns.flatMap (hdg W))),s]:=by
   refine ziz (fun pre env=>∃ s,env=[.pl (.dict (dS zab (tabW W W))),.pl (armD (.many ns)),.ac (zab (pre.flatMap (hdg W))),s]) ⟨_,rfl⟩ ?_
   rintro pre n post env hp ⟨s,rfl⟩
   have hn:n∈nm W:=hk n (by show n∈ns;rw [← hp];simp)
   have len:=congrArg List.length hp
   rw [qJ,qa] at len
   have hns:ns.length≤4:=ha
   have l1:=zafs h (a:=.many pre) (by show pre.length≤4;omega)
   have l1:(pre.flatMap (hdg W)).length≤48:=l1
   have l2:=ztj h (n:=n)
   refine ⟨_,_,rfl,.inl (zvj (zajl (f1:=false) (b1:=[2]) rfl (gd n _ 3 hn rfl rfl) (by omega))),.pl (.str n),?_⟩
   rw [show (pre++[n]).flatMap (hdg W)=pre.flatMap (hdg W)++hdg W n by simp]
   rfl
  obtain ⟨env',hl,s,rfl⟩:=loop
  refine ⟨true,zlv (env:=[.pl (.dict (dS zab (tabW W W))),.pl (armD (.many ns)),.no,.no]) rfl ?_⟩
  unfold zjo
  exact zaoi (if_t rfl (zey rfl (zey (zaec (ds:=ns.map .str) (fr:=false) (bs:=[]) rfl hl) rfl)))
theorem zabx (ks:List Str) (x:Str) (hl:ks.length<1000):addE (zae ks) (.tuple [.str x])=some (zae (ks++[x]),false):=by
 cases ks with
 | nil=>rfl
 | cons k ks =>
  show (if (((k::ks).map PyData.str).isEmpty=false∧((k::ks).map PyData.str).length+[PyData.str x].length≤100000) then some (PyData.tuple ((k::ks).map PyData.str++[.str x]),false) else none)=_
  rw [if_pos ⟨rfl,by rw [qE];show (k::ks).length+1≤100000;omega⟩]
  unfold zae
  rw [qy];rfl
theorem zaby {xs:List Str} {p:Nat} (hx:0<xs.length) (hx12:xs.length≤12) (hp:p≤3) {d:PyData} {n:Nat} (ok:Fok d n) (hn:n+1000≤10 ^ 12) {D3 D4 s6 s7:Sl} :
  ∃ env',zfi (gN 6) (fSeq (fSet 7 (fOp addD (zal 0 (eC (.int 1))) (zap 0 2 zah (zam (zal 0 (eCB lenD (zac (eVar 1) aNil))) (fNil 0)))))
   (fSet 5 (fOp addE (zal 0 (eVar 5)) (fTup (zam (fOp ixD (zal 0 (eVar 1)) (zap 0 2 zah (zam (zal 0 (eVar 7)) (fNil 0)))) (fNil 0)))))) (zdt 0 p) [.ac d,.pl (zab xs),.pl (.int (p:Int)),D3,D4,.pl (zae []),s6,s7]=some (.nx env') ∧
   ∃ (ks:List Str) (d':PyData) (s6 s7:Sl),env'=[.ac d',.pl (zab xs),.pl (.int (p:Int)),D3,D4,.pl (zae ks),s6,s7]∧(∀ k∈ks,k∈xs)∧ks.length=p∧Fok d' (n+2 * p):=by
 refine zcs (fun j env=>∃ (ks:List Str) (d':PyData) (s6 s7:Sl),env=[.ac d',.pl (zab xs),.pl (.int (p:Int)),D3,D4,.pl (zae ks),s6,s7]∧(∀ k∈ks,k∈xs)∧ks.length=j∧Fok d' (n+2 * j)) ⟨[],d,s6,s7,rfl,(fun e he=>nomatch he),rfl,ok⟩ ?_
 rintro j env hj ⟨ks,d1,s6,s7,rfl,hk,hl,ok1⟩
 have len:∀ (d1:PyData) (s6 s7:Sl) (K:PyData),eCB lenD (zac (eVar 1) aNil) [.ac d1,.pl (zab xs),.pl (.int (p:Int)),D3,D4,.pl K,s6,s7]=some (vi xs.length):=fun d1 s6 s7 K=>by rw [zrx (ds:=xs.map .str) (fr:=false) (bs:=[]) rfl,qE]
 obtain ⟨r,d2,q1,q2,q3,q4⟩:=zdi (f:=0) (e:=eCB lenD (zac (eVar 1) aNil)) (env:=[.ac d1,.pl (zab xs),.pl (.int (p:Int)),D3,D4,.pl (zae ks),.pl (.int (j:Int)),s7]) rfl (len _ _ _ _) ok1 (by omega) (by omega) (by omega)
 have s1:fSet 7 (fOp addD (zal 0 (eC (.int 1))) (zap 0 2 zah (zam (zal 0 (eCB lenD (zac (eVar 1) aNil))) (fNil 0)))) [.ac d1,.pl (zab xs),.pl (.int (p:Int)),D3,D4,.pl (zae ks),.pl (.int (j:Int)),s7]=some (.nx [.ac d2,.pl (zab xs),.pl (.int (p:Int)),D3,D4,.pl (zae ks),.pl (.int (j:Int)),.pl (.int (1+r))]) :=
  zeq (zfg (w:=addD) (z:=.int (1+r)) (fr:=false) (zbf (f:=0) (e:=eC (.int 1)) (d0:=d1) (d:=.int 1) (fr:=false) rfl rfl) q1 rfl)
 obtain ⟨t,d3,p1,p2,p3,p4⟩:=zdi (f:=0) (e:=eVar 7) (env:=[.ac d2,.pl (zab xs),.pl (.int (p:Int)),D3,D4,.pl (zae ks),.pl (.int (j:Int)),.pl (.int (1+r))]) rfl rfl q4 (by omega) (by omega) (by omega)
 have hr:t.toNat<xs.length:=by omega
 have ix:=znw PyData.str (qF hr)
 rw [show ((t.toNat:Nat):Int)=t by omega] at ix
 have hm:xs[t.toNat]∈xs:=qAZ hr
 generalize xs[t.toNat]=w at ix hm
 have a1:=zfg (zbf (f:=0) (e:=eVar 1) (env:=[.ac d2,.pl (zab xs),.pl (.int (p:Int)),D3,D4,.pl (zae ks),.pl (.int (j:Int)),.pl (.int (1+r))]) (d0:=d2) (d:=zab xs) (fr:=false) rfl rfl) p1 ix
 have a2:fTup (zam (fOp ixD (zal 0 (eVar 1)) (zap 0 2 zah (zam (zal 0 (eVar 7)) (fNil 0)))) (fNil 0)) [.ac d2,.pl (zab xs),.pl (.int (p:Int)),D3,D4,.pl (zae ks),.pl (.int (j:Int)),.pl (.int (1+r))]=some (⟨.tuple [.str w],false,[]⟩,[.ac d3,.pl (zab xs),.pl (.int (p:Int)),D3,D4,.pl (zae ks),.pl (.int (j:Int)),.pl (.int (1+r))]):=by
  unfold fTup
  rw [zku (f:=0) (d:=d3) a1 rfl]
  rfl
 have s2:fSet 5 (fOp addE (zal 0 (eVar 5)) (fTup (zam (fOp ixD (zal 0 (eVar 1)) (zap 0 2 zah (zam (zal 0 (eVar 7)) (fNil 0)))) (fNil 0)))) [.ac d2,.pl (zab xs),.pl (.int (p:Int)),D3,D4,.pl (zae ks),.pl (.int (j:Int)),.pl (.int (1+r))]=some (.nx [.ac d3,.pl (zab xs),.pl (.int (p:Int)),D3,D4,.pl (zae (ks++[w])),.pl (.int (j:Int)),.pl (.int (1+r))]) :=
  zeq (zfg (w:=addE) (z:=zae (ks++[w])) (fr:=false) (zbf (f:=0) (e:=eVar 5) (d0:=d2) (d:=zae ks) (fr:=false) rfl rfl) a2 (zabx ks w (by omega)))
 refine ⟨_,_,rfl,(zas s1).trans s2,ks++[w],d3,_,_,rfl,fun k hk'=>?_,by rw [qJ,hl];rfl,p4.mono (by omega)⟩
 rcases qAB.mp hk' with z|z
 ·exact hk k z
 ·rw [qu.mp z];exact hm
theorem zxf {W:Web} (h:WebOk W) (lo:∀ x∈nm W,Low x) (hne:0<(nm W).length) {p:Nat} (hp:p≤3) {d:PyData} {n:Nat} (ok:Fok d n) (hn:n+100000≤10 ^ 12) :
  ∃ (ts:List Str) (rs:List Rule) (d':PyData),zch d [zab (nm W),.int (p:Int)]=some (zcn rs,true,d')∧MadeOk W p ts rs∧ts.Nodup∧ts.length≤8∧Fok d' (n+10000):=by
 have hx:=zpi h
 obtain ⟨r,d1,q1,q2,q3,q4⟩:=zdi (f:=0) (e:=eC (.int 8)) (env:=[.ac d,.pl (zab (nm W)),.pl (.int (p:Int)),.ac (.list []),.no,.no,.no,.no]) rfl rfl ok (by omega) (by decide) (by decide)
 obtain ⟨m,em⟩:∃ m:Nat,1+r=(m:Int):=⟨(1+r).toNat,by omega⟩
 obtain ⟨ts,d2,t1,t2,t3,t4,t5⟩:=zoq (m:=m) q4 (by omega) (by omega)
 have it:zqc (zap 0 2 zbp (zam (fOp addD (zal 0 (eC (.int 1))) (zap 0 2 zah (zam (zal 0 (eC (.int 8))) (fNil 0)))) (fNil 0))) [.ac d,.pl (zab (nm W)),.pl (.int (p:Int)),.ac (.list []),.no,.no,.no,.no]=some (ts.map .str,[],[.ac d2,.pl (zab (nm W)),.pl (.int (p:Int)),.ac (.list []),.no,.no,.no,.no]):=by
  have a1:=zfg (w:=addD) (z:=.int (1+r)) (fr:=false) (zbf (f:=0) (e:=eC (.int 1)) (env:=[.ac d,.pl (zab (nm W)),.pl (.int (p:Int)),.ac (.list []),.no,.no,.no,.no]) (d0:=d) (d:=.int 1) (fr:=false) rfl rfl) q1 rfl
  have a2:=zef (f:=0) (n:=2) (g:=zbp) (d0:=d) (d1:=d1) (d':=d2) (z:=zab ts) (fr:=true) rfl (zku (f:=0) (d:=d1) a1 rfl) rfl rfl (by rw [em];exact t1) t5.flat
  unfold zqc
  rw [a2];rfl
 have loop:∃ env',zfi (gN 4) (fSeq (fS (sSet 5 (eTup aNil)))
  (fSeq (fFor (zca (zac (eVar 2) aNil)) (gN 6)
  (fSeq (fSet 7 (fOp addD (zal 0 (eC (.int 1))) (zap 0 2 zah (zam (zal 0 (eCB lenD (zac (eVar 1) aNil))) (fNil 0)))))
  (fSet 5 (fOp addE (zal 0 (eVar 5)) (fTup (zam (fOp ixD (zal 0 (eVar 1)) (zap 0 2 zah (zam (zal 0 (eVar 7)) (fNil 0)))) (fNil 0)))))))
  (fIfP (zbb (eOp (inS true) (eVar 5) (zii ["_law_row"] [] (zbh (eVar 3)) (gN 0) zhc (eIxV 0 (eC (.int 1)))))) (fApp 3 (zal 0 (eTup (zac (eVar 4) (zac (eVar 5) aNil))))) fNx))) (ts.map .str) [.ac d2,.pl (zab (nm W)),.pl (.int (p:Int)),.ac (zcn []),.no,.no,.no,.no]=some (.nx env') ∧
  ∃ (rs:List Rule) (d':PyData) (s4 s5 s6 s7:Sl),env'=[.ac d',.pl (zab (nm W)),.pl (.int (p:Int)),.ac (zcn rs),s4,s5,s6,s7]∧MadeOk W p ts rs∧Fok d' (n+2000+10 * ts.length):=by
  refine zle (fun pre env=>∃ (rs:List Rule) (d':PyData) (s4 s5 s6 s7:Sl),env=[.ac d',.pl (zab (nm W)),.pl (.int (p:Int)),.ac (zcn rs),s4,s5,s6,s7]∧MadeOk W p pre rs∧Fok d' (n+2000+10 * pre.length)) ⟨[],d2,_,_,_,_,rfl,⟨(fun r hr=>nomatch hr),(fun r hr=>nomatch hr),qBc,qB9 _⟩,t5.mono (by simp)⟩ ?_
  rintro pre t post env hp' ⟨rs,d',s4,s5,s6,s7,rfl,mk,ok'⟩
  have plen:=congrArg List.length hp'
  rw [qJ,qa] at plen
  have rlen:rs.length≤pre.length:=by have:=mk.sub.length_le;rwa [qE] at this
  obtain ⟨env1,l1,ks,d3,s6',s7',rfl,k1,k2,k3⟩:=zaby (xs:=nm W) (p:=p) hne hx hp ok' (by omega) (D3:=.ac (zcn rs)) (D4:=.pl (.str t)) (s6:=s6) (s7:=s7)
  have e0:fS (sSet 5 (eTup aNil)) [.ac d',.pl (zab (nm W)),.pl (.int (p:Int)),.ac (zcn rs),.pl (.str t),s5,s6,s7]=some (.nx [.ac d',.pl (zab (nm W)),.pl (.int (p:Int)),.ac (zcn rs),.pl (.str t),.pl (zae []),s6,s7]):=rfl
  have e1:fFor (zca (zac (eVar 2) aNil)) (gN 6) (fSeq (fSet 7 (fOp addD (zal 0 (eC (.int 1))) (zap 0 2 zah (zam (zal 0 (eCB lenD (zac (eVar 1) aNil))) (fNil 0)))))
    (fSet 5 (fOp addE (zal 0 (eVar 5)) (fTup (zam (fOp ixD (zal 0 (eVar 1)) (zap 0 2 zah (zam (zal 0 (eVar 7)) (fNil 0)))) (fNil 0)))))) [.ac d',.pl (zab (nm W)),.pl (.int (p:Int)),.ac (zcn rs),.pl (.str t),.pl (zae []),s6,s7]=some (.nx [.ac d3,.pl (zab (nm W)),.pl (.int (p:Int)),.ac (zcn rs),.pl (.str t),.pl (zae ks),s6',s7']) :=
   (zhe (zgu (n:=p) rfl (by omega))).trans l1
  have c:zeu (gN 0) zhc (eIxV 0 (eC (.int 1))) [.no] (rs.map zew)=some ((rs.map (·.2)).map zae):=by
   rw [qBS]
   exact zgw (enc:=zew) (out:=fun r=>zae r.2) fun r _=>⟨[.pl (zew r)],rfl,rfl,⟨zae r.2,false,[]⟩,rfl,rfl⟩
  have ec:=zjk (own:=["_law_row"]) (fr:=[]) (fi:=zbh (eVar 3)) (g:=gN 0) (t:=zhc) (e:=eIxV 0 (eC (.int 1))) (env:=[.ac d3,.pl (zab (nm W)),.pl (.int (p:Int)),.ac (zcn rs),.pl (.str t),.pl (zae ks),s6',s7']) (ds:=rs.map zew) (bs:=[3]) rfl (by rw [qE];omega) c
  have lks:LowS ks:=zyw lo k1
  have lrs:∀ x∈rs.map (·.2),LowS x:=fun x hx=>by
   obtain ⟨r,hr,rfl⟩:=qAj.mp hx
   exact zyw lo (mk.kinds r hr)
  have tt:zbb (eOp (inS true) (eVar 5) (zii ["_law_row"] [] (zbh (eVar 3)) (gN 0) zhc (eIxV 0 (eC (.int 1))))) [.ac d3,.pl (zab (nm W)),.pl (.int (p:Int)),.ac (zcn rs),.pl (.str t),.pl (zae ks),s6',s7']=some (!decide (ks∈rs.map (·.2))) :=
   zhh (zln (w:=inS true) (x:=⟨zae ks,false,[]⟩) rfl ec (zamb (neg:=true) lrs lks))
  by_cases hin:ks∈rs.map (·.2)
  ·refine ⟨_,_,rfl,(zas e0).trans ((zas e1).trans (zjf (by rw [tt];simp only [hin,decide_true,Bool.not_true]))),rs,d3,_,_,_,_,rfl,⟨mk.kinds,mk.size,mk.unl,mk.sub.trans (List.sublist_append_left _ _)⟩,k3.mono (by rw [qJ];simp;omega)⟩
  ·refine ⟨_,[.ac d3,.pl (zab (nm W)),.pl (.int (p:Int)),.ac (zcn (rs++[(t,ks)])),.pl (.str t),.pl (zae ks),s6',s7'],rfl,(zas e0).trans ((zas e1).trans ((zop (by rw [tt];simp only [hin,decide_false,Bool.not_false])).trans ?_)),rs++[(t,ks)],d3,_,_,_,_,rfl,⟨fun r hr=>?_,fun r hr=>?_,?_,?_⟩,k3.mono (by rw [qJ];simp;omega)⟩
   ·rw [znv rfl (zbf (f:=0) (e:=eTup (zac (eVar 4) (zac (eVar 5) aNil))) (d0:=d3) (d:=zew (t,ks)) (fr:=false) rfl rfl) rfl (by rw [qE];omega) (by simp)]
    show some (OutF.nx [.ac d3,.pl (zab (nm W)),.pl (.int (p:Int)),.ac (.list (rs.map zew++[zew (t,ks)])),.pl (.str t),.pl (zae ks),s6',s7'])=_
    unfold zcn
    rw [qy];rfl
   ·rcases qAB.mp hr with z|z
    ·exact mk.kinds r z
    ·rw [qu.mp z];exact k1
   ·rcases qAB.mp hr with z|z
    ·exact mk.size r z
    ·rw [qu.mp z];exact k2
   ·rw [qy]
    refine qBI.mpr ⟨mk.unl,by simp,fun a ha b hb e=>?_⟩
    rw [qe,qBR,qu] at hb
    have hb:b=ks:=hb
    rw [e,hb] at ha
    exact hin ha
   ·rw [qy]
    exact mk.sub.append (qB9 _)
 obtain ⟨env',hl,rs,d',s4,s5,s6,s7,rfl,mk,ok'⟩:=loop
 refine ⟨ts,rs,d',?_,mk,t3,by omega,ok'.mono (by omega)⟩
 have run:zec [.ac d,.pl (zab (nm W)),.pl (.int (p:Int)),.no,.no,.no,.no,.no]=some (.rt (zcn rs) true [.ac d',.pl (zab (nm W)),.pl (.int (p:Int)),.no,s4,s5,s6,s7]):=by
  unfold zec
  refine (zas (show fS (sSet 3 (eLst aNil)) [.ac d,.pl (zab (nm W)),.pl (.int (p:Int)),.no,.no,.no,.no,.no]=some (.nx [.ac d,.pl (zab (nm W)),.pl (.int (p:Int)),.ac (.list []),.no,.no,.no,.no]) from rfl)).trans ?_
  exact (zas ((zum it).trans hl)).trans rfl
 unfold zch fnF
 show (zec [.ac d,.pl (zab (nm W)),.pl (.int (p:Int)),.no,.no,.no,.no,.no]).bind _=_
 rw [run];rfl
theorem zaig (es:List Str) (w:Str):PyData.list (es.map .str++[.str w])=zab (es++[w]):=by
 unfold zab;rw [qy];rfl
theorem zabz {d:PyData} {n:Nat} {xs:List Str} (ok:Fok d n) (hn:n+1000≤10 ^ 12) (hx:0<xs.length) (hx12:xs.length≤12):∃ (a:Arm) (d':PyData),zbd d [zab xs]=some (armD a,false,d')∧(∀ m∈a.parts,m∈xs)∧a.parts.length≤4∧a.parts≠[]∧Fok d' (n+20):=by
 obtain ⟨r,d1,q1,q2,q3,q4⟩:=zdi (f:=0) (e:=eC (.int 4)) (env:=[.ac d,.pl (zab xs),.ac (zab []),.no,.no]) rfl rfl ok (by omega) (by decide) (by decide)
 obtain ⟨m,em⟩:∃ m:Nat,1+r=(m:Int):=⟨(1+r).toNat,by omega⟩
 have a0:=zfg (w:=addD) (z:=.int (1+r)) (fr:=false) (zbf (f:=0) (e:=eC (.int 1)) (env:=[.ac d,.pl (zab xs),.ac (zab []),.no,.no]) (d0:=d) (d:=.int 1) (fr:=false) rfl rfl) q1 rfl
 rw [em] at a0
 have loop:∃ env',zfi (gN 3) (fSeq (fSet 4 (fOp ixD (zal 0 (eVar 1)) (fOp subD (zal 0 (eOp subD (eCB lenD (zac (eVar 1) aNil)) (eC (.int 1)))) (zap 0 2 zah (zam (fOp addD (zal 0 (eC (.int 1))) (zap 0 2 zah (zam (zal 0 (eCB lenD (zac (eVar 1) aNil))) (fNil 0)))) (fNil 0))))))
  (fIfP (zbb (eOp (inD true) (eVar 4) (eVar 2))) (fApp 2 (zal 0 (eVar 4))) fNx)) (zdt 0 m) [.ac d1,.pl (zab xs),.ac (zab []),.no,.no]=some (.nx env') ∧
  ∃ (es:List Str) (d':PyData) (s3 s4:Sl),env'=[.ac d',.pl (zab xs),.ac (zab es),s3,s4]∧(∀ e∈es,e∈xs)∧es.length≤m∧(0<m→es≠[])∧Fok d' (n+1+2 * m):=by
  refine zcs (fun j env=>∃ (es:List Str) (d':PyData) (s3 s4:Sl),env=[.ac d',.pl (zab xs),.ac (zab es),s3,s4]∧(∀ e∈es,e∈xs)∧es.length≤j∧(0<j→es≠[])∧Fok d' (n+1+2 * j)) ⟨[],d1,_,_,rfl,(fun e he=>nomatch he),qQ _,fun z=>absurd z (by decide),q4⟩ ?_
  rintro j env hj ⟨es,d2,s3,s4,rfl,h1,h2,h3,ok2⟩
  have len:∀ (d1:PyData) (K:PyData) (s3 s4:Sl),eCB lenD (zac (eVar 1) aNil) [.ac d1,.pl (zab xs),.ac K,s3,s4]=some (vi xs.length):=fun d1 K s3 s4=>by rw [zrx (ds:=xs.map .str) (fr:=false) (bs:=[]) rfl,qE]
  obtain ⟨t,d3,p1,p2,p3,p4⟩:=zdi (f:=0) (e:=eCB lenD (zac (eVar 1) aNil)) (env:=[.ac d2,.pl (zab xs),.ac (zab es),.pl (.int (j:Int)),s4]) rfl (len _ _ _ _) ok2 (by omega) (by omega) (by omega)
  have a1:=zfg (w:=addD) (z:=.int (1+t)) (fr:=false) (zbf (f:=0) (e:=eC (.int 1)) (env:=[.ac d2,.pl (zab xs),.ac (zab es),.pl (.int (j:Int)),s4]) (d0:=d2) (d:=.int 1) (fr:=false) rfl rfl) p1 rfl
  obtain ⟨u,d4,o1,o2,o3,o4⟩:=zaag (f:=0) (env:=[.ac d2,.pl (zab xs),.ac (zab es),.pl (.int (j:Int)),s4]) (d0:=d2) (m:=1+t) rfl a1 rfl p4 (by omega) (by omega) (by omega)
  have e1:eOp subD (eCB lenD (zac (eVar 1) aNil)) (eC (.int 1)) [.ac d2,.pl (zab xs),.ac (zab es),.pl (.int (j:Int)),s4]=some (vi ((xs.length:Int) - 1)):=zaok (len _ _ _ _) rfl
  have a2:=zfg (w:=subD) (z:=.int ((xs.length:Int) - 1 - u)) (fr:=false) (zbf (f:=0) (d0:=d2) rfl e1) o1 rfl
  have hr:(((xs.length:Int) - 1 - u).toNat)<xs.length:=by omega
  have ix:=znw PyData.str (qF hr)
  rw [show (((((xs.length:Int) - 1 - u).toNat):Nat):Int)=(xs.length:Int) - 1 - u by omega] at ix
  have hm:xs[((xs.length:Int) - 1 - u).toNat]∈xs:=qAZ hr
  generalize xs[((xs.length:Int) - 1 - u).toNat]=w at ix hm
  have s1:fSet 4 (fOp ixD (zal 0 (eVar 1)) (fOp subD (zal 0 (eOp subD (eCB lenD (zac (eVar 1) aNil)) (eC (.int 1)))) (zap 0 2 zah (zam (fOp addD (zal 0 (eC (.int 1))) (zap 0 2 zah (zam (zal 0 (eCB lenD (zac (eVar 1) aNil))) (fNil 0)))) (fNil 0))))) [.ac d2,.pl (zab xs),.ac (zab es),.pl (.int (j:Int)),s4]=some (.nx [.ac d4,.pl (zab xs),.ac (zab es),.pl (.int (j:Int)),.pl (.str w)]) :=
   zeq (zfg (zbf (f:=0) (e:=eVar 1) (d0:=d2) (d:=zab xs) (fr:=false) rfl rfl) a2 ix)
  have t:=zup (neg:=true) (i:=4) (j:=2) (env:=[.ac d4,.pl (zab xs),.ac (zab es),.pl (.int (j:Int)),.pl (.str w)]) (x:=w) (xs:=es) rfl rfl (.inr rfl)
  by_cases hin:w∈es
  ·exact ⟨_,_,rfl,(zas s1).trans (zjf (by rw [t];simp [hin])),es,d4,_,_,rfl,h1,by omega,(fun _ z=>by rw [z] at hin;cases hin),o4.mono (by omega)⟩
  ·refine ⟨_,[.ac d4,.pl (zab xs),.ac (zab (es++[w])),.pl (.int (j:Int)),.pl (.str w)],rfl,(zas s1).trans ((zop (by rw [t];simp [hin])).trans ?_),es++[w],d4,_,_,rfl,fun e hm'=>?_,by rw [qJ];simp;omega,fun _=>by simp,o4.mono (by omega)⟩
   ·rw [znv rfl (zbf (f:=0) (e:=eVar 4) (d0:=d4) (d:=.str w) (fr:=false) rfl rfl) rfl (by rw [qE];omega) (by simp)]
    show some (OutF.nx [.ac d4,.pl (zab xs),.ac (.list (es.map .str++[.str w])),.pl (.int (j:Int)),.pl (.str w)])=_
    rw [zaig]
   ·rcases qAB.mp hm' with z|z
    ·exact h1 e z
    ·rw [qu.mp z];exact hm
 obtain ⟨env',hl,es,d2,s3,s4,rfl,h1,h2,h3,ok2⟩:=loop
 have hne:=h3 (by omega)
 have head:zei [.ac d,.pl (zab xs),.no,.no,.no]=(fSeq (fIf (gOr (zmm 0 (zbb (eOp eqD (eCB lenD (zac (eVar 2) aNil)) (eC (.int 1))))) (gB (fOp eqD (zap 0 2 zah (zam (zal 0 (eC (.int 3))) (fNil 0))) (zal 0 (eC (.int 0)))))) (zdv (eIxV 2 (eC (.int 0)))) fNx)
  (zdv (eCB zka (zac (eVar 2) aNil)))) [.ac d2,.pl (zab xs),.ac (zab es),s3,s4]:=by
  unfold zei
  refine (zas (show fS (sSet 2 (eLst aNil)) [.ac d,.pl (zab xs),.no,.no,.no]=some (.nx [.ac d,.pl (zab xs),.ac (zab []),.no,.no]) from rfl)).trans ?_
  exact zas ((zum (zxe (f:=0) (d:=d1) a0 rfl (by omega))).trans hl)
 have one:∀ d3:PyData,∃ x∈es,zdv (eIxV 2 (eC (.int 0))) [.ac d3,.pl (zab xs),.ac (zab es),s3,s4]=some (.rt (.str x) false [.ac d3,.pl (zab xs),.ac (zab es),s3,s4]):=fun d3=>by
  obtain ⟨x,es',rfl⟩:=List.exists_cons_of_ne_nil hne
  refine ⟨x,by simp,?_⟩
  unfold zdv
  rw [zyb (k:=2) (n:=0) (ds:=(x::es').map .str) (d:=.str x) rfl rfl rfl]
  rfl
 have many:∀ d3:PyData,∃ env',zdv (eCB zka (zac (eVar 2) aNil)) [.ac d3,.pl (zab xs),.ac (zab es),s3,s4]=some (.rt (armD (.many es)) false env')∧env'[0]?=some (.ac d3):=fun d3=>by
  refine ⟨_,rfl,?_⟩
  rfl
 have fin:∀ (a:Arm) (d3:PyData) (env':DEnv),zei [.ac d,.pl (zab xs),.no,.no,.no]=some (.rt (armD a) false env')→env'[0]?=some (.ac d3)→zbd d [zab xs]=some (armD a,false,d3):=fun a d3 env' e e0=>by
  unfold zbd fnF
  show (zei [.ac d,.pl (zab xs),.no,.no,.no]).bind _=_
  rw [e]
  show (match env'[0]? with|some (.ac d1)=>some (armD a,false,d1)|_=>none)=_
  rw [e0]
 have t1:zmm 0 (zbb (eOp eqD (eCB lenD (zac (eVar 2) aNil)) (eC (.int 1)))) [.ac d2,.pl (zab xs),.ac (zab es),s3,s4]=some ((es.length:Int)==1,[.ac d2,.pl (zab xs),.ac (zab es),s3,s4]):=by
  unfold zmm
  show (zbb (eOp eqD (eCB lenD (zac (eVar 2) aNil)) (eC (.int 1))) [.ac d2,.pl (zab xs),.ac (zab es),s3,s4]).map _=_
  have:=zhh (zagz (zrx (a:=eVar 2) (env:=[.ac d2,.pl (zab xs),.ac (zab es),s3,s4]) (ds:=es.map .str) (fr:=false) (bs:=[2]) rfl) (b:=eC (.int 1)) (j:=1) rfl)
  rw [this,qE];rfl
 by_cases hl1:(es.length:Int)=1
 ·obtain ⟨x,hx,e⟩:=one d2
  refine ⟨.one x,d2,fin _ _ [.ac d2,.pl (zab xs),.ac (zab es),s3,s4] (head.trans (zyx ?_)) rfl,fun m hm=>?_,by show 1≤4;decide,(List.cons_ne_nil x []),ok2.mono (by omega)⟩
  ·rw [zsl (x:=true) (e1:=[.ac d2,.pl (zab xs),.ac (zab es),s3,s4]) (by unfold gOr;rw [t1,qG,hl1];rfl),if_pos rfl]
   exact e
  ·rw [qu.mp (show m∈[x] from hm)];exact h1 x hx
 ·obtain ⟨u,d3,o1,o2,o3,o4⟩:=zdi (f:=0) (e:=eC (.int 3)) (env:=[.ac d2,.pl (zab xs),.ac (zab es),s3,s4]) rfl rfl ok2 (by omega) (by decide) (by decide)
  have t2:gB (fOp eqD (zap 0 2 zah (zam (zal 0 (eC (.int 3))) (fNil 0))) (zal 0 (eC (.int 0)))) [.ac d2,.pl (zab xs),.ac (zab es),s3,s4]=some (u==0,[.ac d3,.pl (zab xs),.ac (zab es),s3,s4]):=by
   unfold gB
   rw [zfg (w:=eqD) o1 (zbf (f:=0) (e:=eC (.int 0)) (d0:=d3) (d:=.int 0) (fr:=false) rfl rfl) (z:=.bool (u==0)) (fr:=false) rfl]
   rfl
  have tt:gOr (zmm 0 (zbb (eOp eqD (eCB lenD (zac (eVar 2) aNil)) (eC (.int 1))))) (gB (fOp eqD (zap 0 2 zah (zam (zal 0 (eC (.int 3))) (fNil 0))) (zal 0 (eC (.int 0))))) [.ac d2,.pl (zab xs),.ac (zab es),s3,s4]=some (u==0,[.ac d3,.pl (zab xs),.ac (zab es),s3,s4]):=by
   unfold gOr
   rw [t1,qG,beq_eq_false_iff_ne.mpr hl1,if_neg qK]
   exact t2
  by_cases hu:u=0
  ·obtain ⟨x,hx,e⟩:=one d3
   refine ⟨.one x,d3,fin _ _ [.ac d3,.pl (zab xs),.ac (zab es),s3,s4] (head.trans (zyx ?_)) rfl,fun m hm=>?_,by show 1≤4;decide,(List.cons_ne_nil x []),o4.mono (by omega)⟩
   ·rw [zsl tt,if_pos (by rw [hu];rfl)]
    exact e
   ·rw [qu.mp (show m∈[x] from hm)];exact h1 x hx
  ·obtain ⟨env',e,e0⟩:=many d3
   refine ⟨.many es,d3,fin _ _ _ (head.trans ((zas (e':=[.ac d3,.pl (zab xs),.ac (zab es),s3,s4]) ?_).trans e)) e0,h1,by show es.length≤4;omega,hne,o4.mono (by omega)⟩
   rw [zsl tt,if_neg (by simp [hu])]
   rfl
noncomputable def z3D (z:Arm×Str×Str):PyData:=.tuple [armD z.1,.str z.2.1,.str z.2.2]
theorem zaah:∀ (c:List Arm) (a b:List Str),zmp (c.map armD) (a.map .str) (b.map .str)=(c.zip (a.zip b)).map z3D
 | [],_,_=>by unfold zmp;simp
 | _::_,[],_=>by unfold zmp;simp
 | _::_,_::_,[]=>by unfold zmp;simp
 | x::c,y::a,z::b=>by
  show PyData.tuple [armD x,.str y,.str z]::zmp (c.map armD) (a.map .str) (b.map .str)=_
  rw [zaah c a b];rfl
noncomputable def LesP (W:Web) (z:Arm×Str×Str) (a':Arm):Prop:=a'=z.1∨∃ n,a'=.one n∧n∈rchA W z.1∧z.2.1∈up W n∧z.2.2∈up W n
inductive Les (W:Web):List (Arm×Str×Str)→List Arm→Prop
 | nil:Les W [] []
 | cons {z:Arm×Str×Str} {a:Arm} {l:List (Arm×Str×Str)} {c:List Arm}:LesP W z a→Les W l c→Les W (z::l) (a::c)
theorem Les.snoc {W:Web} {z:Arm×Str×Str} {a:Arm}:∀ {l:List (Arm×Str×Str)} {c:List Arm},Les W l c→LesP W z a→Les W (l++[z]) (c++[a])
 | _,_,.nil,h=>.cons h .nil
 | _,_,.cons g t,h=>.cons g (t.snoc h)
theorem Les.len {W:Web}:∀ {l:List (Arm×Str×Str)} {c:List Arm},Les W l c→c.length=l.length
 | _,_,.nil=>rfl
 | _,_,.cons _ t=>by rw [qa,qa,t.len]
theorem zaft {W:Web} (h:WebOk W) {a:Arm} {x:Str} (hx:x∈upA W a):x∈nm W:=by
 obtain ⟨n,_,z⟩:=zma.mp hx
 exact zvk h z
theorem zafu (c:List Arm) (a:Arm) (hl:c.length<1000):addE (zat c) (.tuple [armD a])=some (zat (c++[a]),false):=by
 cases c with
 | nil=>rfl
 | cons x c =>
  show (if (((x::c).map armD).isEmpty=false∧((x::c).map armD).length+[armD a].length≤100000) then some (PyData.tuple ((x::c).map armD++[armD a]),false) else none)=_
  rw [if_pos ⟨rfl,by rw [qE];show (x::c).length+1≤100000;omega⟩]
  unfold zat
  rw [qy];rfl
noncomputable def zfu (a:Arm) (ns:List Str):List Arm:=a::ns.map Arm.one
theorem zrb {W:Web} (h:WebOk W) {a:Arm} {k1 k2:Str} {d:PyData} {C O T F:Sl}:∀ (ms ns:List Str) (s10:Sl),(∀ m∈ms,m∈nm W)→ns.length+ms.length≤48→∃ (ns':List Str) (s10':Sl),(∀ n∈ns',n∈ns∨(n∈ms∧k1∈up W n∧k2∈up W n))∧ns'.length≤48 ∧
  zfi (gN 10) (fIfP (zxw (zbb (eOp (inD false) (eVar 7) (zbr 1 (eVar 10)))) (zbb (eOp (inD false) (eVar 8) (zbr 1 (eVar 10))))) (fApp 9 (zal 0 (eVar 10))) fNx) (ms.map .str) [.ac d,.pl (.dict (dS zab (tabW W W))),C,O,T,F,.pl (armD a),.pl (.str k1),.pl (.str k2),.ac (.list ((zfu a ns).map armD)),s10] =
   some (.nx [.ac d,.pl (.dict (dS zab (tabW W W))),C,O,T,F,.pl (armD a),.pl (.str k1),.pl (.str k2),.ac (.list ((zfu a ns').map armD)),s10'])
 | [],ns,s10,_,hl=>⟨ns,s10,fun n hn=>.inl hn,by simpa using hl,rfl⟩
 | m::ms,ns,s10,hm,hl=>by
  have hmn:=hm m qg
  have gd:zbr 1 (eVar 10) [.ac d,.pl (.dict (dS zab (tabW W W))),C,O,T,F,.pl (armD a),.pl (.str k1),.pl (.str k2),.ac (.list ((zfu a ns).map armD)),.pl (.str m)]=some ⟨zab (hdg W m),false,[]⟩:=by
   simp [zbr,eVar,keyD,zkd,zuq (W:=W) (V:=W) hmn]
  have t1:=zhh (e_in (neg:=false) (a:=eVar 7) (x:=k1) rfl gd)
  have t2:=zhh (e_in (neg:=false) (a:=eVar 8) (x:=k2) rfl gd)
  have tt:zxw (zbb (eOp (inD false) (eVar 7) (zbr 1 (eVar 10)))) (zbb (eOp (inD false) (eVar 8) (zbr 1 (eVar 10)))) [.ac d,.pl (.dict (dS zab (tabW W W))),C,O,T,F,.pl (armD a),.pl (.str k1),.pl (.str k2),.ac (.list ((zfu a ns).map armD)),.pl (.str m)]=some (decide (k1∈hdg W m)&&decide (k2∈hdg W m)):=by
   unfold zxw
   rw [t1,qG]
   by_cases z:k1∈hdg W m
   ·rw [if_pos (by simp [z]),t2];simp [z]
   ·rw [if_neg (by simp [z])];simp [z]
  rw [qa] at hl
  by_cases hb:k1∈hdg W m∧k2∈hdg W m
  ·obtain ⟨ns',s10',h1,h2,h3⟩:=zrb h (a:=a) (k1:=k1) (k2:=k2) (d:=d) (C:=C) (O:=O) (T:=T) (F:=F) ms (ns++[m]) (.pl (.str m)) (fun x hx=>hm x (qI _ hx)) (by rw [qJ];simp;omega)
   refine ⟨ns',s10',fun n hn=>?_,h2,?_⟩
   ·rcases h1 n hn with z|⟨z1,z2⟩
    ·rcases qAB.mp z with z|z
     ·exact .inl z
     ·rw [qu.mp z]
      exact .inr ⟨qg,(znl h).mp hb.1,(znl h).mp hb.2⟩
    ·exact .inr ⟨qI _ z1,z2⟩
   ·rw [qe]
    unfold zfi
    show (Option.bind (fIfP _ _ _ [.ac d,.pl (.dict (dS zab (tabW W W))),C,O,T,F,.pl (armD a),.pl (.str k1),.pl (.str k2),.ac (.list ((zfu a ns).map armD)),.pl (.str m)]) _)=_
    rw [zop (by rw [tt];simp [hb.1,hb.2]),znv rfl (zbf (f:=0) (e:=eVar 10) (d0:=d) (d:=.str m) (fr:=false) rfl rfl) rfl (by unfold zfu;rw [qE,qa,qE];omega) (by simp)]
    have e:(zfu a ns).map armD++[PyData.str m]=(zfu a (ns++[m])).map armD:=by
     unfold zfu
     rw [qy,qe,qe,qy];rfl
    rw [e]
    exact h3
  ·obtain ⟨ns',s10',h1,h2,h3⟩:=zrb h (a:=a) (k1:=k1) (k2:=k2) (d:=d) (C:=C) (O:=O) (T:=T) (F:=F) ms ns (.pl (.str m)) (fun x hx=>hm x (qI _ hx)) (by omega)
   refine ⟨ns',s10',fun n hn=>(h1 n hn).imp id fun z=>⟨qI _ z.1,z.2⟩,h2,?_⟩
   rw [qe]
   unfold zfi
   show (Option.bind (fIfP _ _ _ [.ac d,.pl (.dict (dS zab (tabW W W))),C,O,T,F,.pl (armD a),.pl (.str k1),.pl (.str k2),.ac (.list ((zfu a ns).map armD)),.pl (.str m)]) _)=_
   rw [zjf (by rw [tt];by_cases z:k1∈hdg W m<;>simp_all)]
   exact h3
theorem zxg {W:Web} (h:WebOk W) {c:List Arm} {ka kb:List Str} (hc:CallIn (nm W) c) (hcl:c.length≤3) {d:PyData} {n:Nat} (ok:Fok d n) (hn:n+1000≤10 ^ 12) :
  ∃ (c':List Arm) (d':PyData),zcq d [.dict (dS zab (tabW W W)),zat c,zae ka,zae kb]=some (zat c',false,d')∧Les W (c.zip (ka.zip kb)) c'∧Fok d' (n+3):=by
 have zl:(c.zip (ka.zip kb)).length≤3:=by rw [qBB];omega
 have loop:∃ env',zfi (gT 3 (zbc 6 (zbc 7 (zbc 8 zfl)))) (fSeq (fS (sSet 9 (eLst (zac (eVar 6) aNil))))
  (fSeq (fFor (zbh (zck 2 zgc (zac (eVar 1) (zac (eVar 6) aNil)))) (gN 10)
  (fIfP (zxw (zbb (eOp (inD false) (eVar 7) (zbr 1 (eVar 10)))) (zbb (eOp (inD false) (eVar 8) (zbr 1 (eVar 10))))) (fApp 9 (zal 0 (eVar 10))) fNx))
  (fSet 5 (fOp addE (zal 0 (eVar 5)) (fTup (zam (fOp ixD (zal 0 (eVar 9)) (zap 0 2 zah (zam (zal 0 (eCB lenD (zac (eVar 9) aNil))) (fNil 0)))) (fNil 0))))))) ((c.zip (ka.zip kb)).map z3D) [.ac d,.pl (.dict (dS zab (tabW W W))),.pl (zat c),.pl (zae ka),.pl (zae kb),.pl (zat []),.no,.no,.no,.no,.no]=some (.nx env') ∧
  ∃ (c':List Arm) (d':PyData) (s6 s7 s8 s9 s10:Sl),env'=[.ac d',.pl (.dict (dS zab (tabW W W))),.pl (zat c),.pl (zae ka),.pl (zae kb),.pl (zat c'),s6,s7,s8,s9,s10]∧Les W (c.zip (ka.zip kb)) c'∧Fok d' (n+(c.zip (ka.zip kb)).length):=by
  refine zle (fun pre env=>∃ (c':List Arm) (d':PyData) (s6 s7 s8 s9 s10:Sl),env=[.ac d',.pl (.dict (dS zab (tabW W W))),.pl (zat c),.pl (zae ka),.pl (zae kb),.pl (zat c'),s6,s7,s8,s9,s10]∧Les W pre c'∧Fok d' (n+pre.length)) ⟨[],d,_,_,_,_,_,rfl,.nil,ok⟩ ?_
  rintro pre ⟨a,k1,k2⟩ post env hp ⟨c',d1,s6,s7,s8,s9,s10,rfl,les,ok1⟩
  have ham:a∈c:=(qAz (show (a,(k1,k2))∈c.zip (ka.zip kb) by rw [← hp];simp)).1
  have plen:=congrArg List.length hp
  rw [qJ,qa] at plen
  have cl:=les.len
  obtain ⟨fr,hrch⟩:=zza h (a:=a) (hc.few a ham) (hc.kinds a ham)
  have e0:fS (sSet 9 (eLst (zac (eVar 6) aNil))) [.ac d1,.pl (.dict (dS zab (tabW W W))),.pl (zat c),.pl (zae ka),.pl (zae kb),.pl (zat c'),.pl (armD a),.pl (.str k1),.pl (.str k2),s9,s10]=some (.nx [.ac d1,.pl (.dict (dS zab (tabW W W))),.pl (zat c),.pl (zae ka),.pl (zae kb),.pl (zat c'),.pl (armD a),.pl (.str k1),.pl (.str k2),.ac (.list ((zfu a []).map armD)),s10]):=rfl
  have it:zbh (zck 2 zgc (zac (eVar 1) (zac (eVar 6) aNil))) [.ac d1,.pl (.dict (dS zab (tabW W W))),.pl (zat c),.pl (zae ka),.pl (zae kb),.pl (zat c'),.pl (armD a),.pl (.str k1),.pl (.str k2),.ac (.list ((zfu a []).map armD)),s10]=some ((rchA W a).map .str,[]):=by
   unfold zbh
   rw [zdd (n:=2) (rs:=[⟨.dict (dS zab (tabW W W)),false,[]⟩,⟨armD a,false,[]⟩]) rfl rfl hrch]
   rfl
  obtain ⟨ns,s10',i1,i2,i3⟩:=zrb h (a:=a) (k1:=k1) (k2:=k2) (d:=d1) (C:=.pl (zat c)) (O:=.pl (zae ka)) (T:=.pl (zae kb)) (F:=.pl (zat c')) (rchA W a) [] s10 (fun m hm=>zaft h ((zyz h).mp hm)) (by have:=zafs h (hc.few a ham);simpa using this)
  have e1:=(zhe it).trans i3
  have len:eCB lenD (zac (eVar 9) aNil) [.ac d1,.pl (.dict (dS zab (tabW W W))),.pl (zat c),.pl (zae ka),.pl (zae kb),.pl (zat c'),.pl (armD a),.pl (.str k1),.pl (.str k2),.ac (.list ((zfu a ns).map armD)),s10']=some (vi (zfu a ns).length):=by rw [zrx (ds:=(zfu a ns).map armD) (fr:=false) (bs:=[9]) rfl,qE]
  have sl:(zfu a ns).length=ns.length+1:=by unfold zfu;rw [qa,qE]
  obtain ⟨r,d2,q1,q2,q3,q4⟩:=zdi (f:=0) (e:=eCB lenD (zac (eVar 9) aNil)) rfl len ok1 (by omega) (by omega) (by omega)
  have hr:r.toNat<(zfu a ns).length:=by omega
  have ix:=znw armD (qF hr)
  rw [show ((r.toNat:Nat):Int)=r by omega] at ix
  have hm:(zfu a ns)[r.toNat]∈zfu a ns:=qAZ hr
  generalize (zfu a ns)[r.toNat]=a' at ix hm
  have lp:LesP W (a,k1,k2) a':=by
   rcases qN.mp hm with z|z
   ·exact .inl z
   ·obtain ⟨m,z1,rfl⟩:=qAj.mp z
    rcases i1 m z1 with y|⟨y1,y2,y3⟩
    ·cases y
    ·exact .inr ⟨m,rfl,y1,y2,y3⟩
  have b1:=zfg (w:=ixD) (zld (f:=0) (e:=eVar 9) (env:=[.ac d1,.pl (.dict (dS zab (tabW W W))),.pl (zat c),.pl (zae ka),.pl (zae kb),.pl (zat c'),.pl (armD a),.pl (.str k1),.pl (.str k2),.ac (.list ((zfu a ns).map armD)),s10']) (d0:=d1) (r:=⟨.list ((zfu a ns).map armD),false,[9]⟩) rfl rfl (show (0:Nat)∉[9] by decide)) q1 ix
  have fin:∃ s9',fSet 5 (fOp addE (zal 0 (eVar 5)) (fTup (zam (fOp ixD (zal 0 (eVar 9)) (zap 0 2 zah (zam (zal 0 (eCB lenD (zac (eVar 9) aNil))) (fNil 0)))) (fNil 0)))) [.ac d1,.pl (.dict (dS zab (tabW W W))),.pl (zat c),.pl (zae ka),.pl (zae kb),.pl (zat c'),.pl (armD a),.pl (.str k1),.pl (.str k2),.ac (.list ((zfu a ns).map armD)),s10'] =
    some (.nx [.ac d2,.pl (.dict (dS zab (tabW W W))),.pl (zat c),.pl (zae ka),.pl (zae kb),.pl (zat (c'++[a'])),.pl (armD a),.pl (.str k1),.pl (.str k2),s9',s10']):=by
   have gen:∀ bs:List Nat,bs=[]∨bs=[9]→bsOf (armD a') ([9]++[])=bs→∃ s9',fSet 5 (fOp addE (zal 0 (eVar 5)) (fTup (zam (fOp ixD (zal 0 (eVar 9)) (zap 0 2 zah (zam (zal 0 (eCB lenD (zac (eVar 9) aNil))) (fNil 0)))) (fNil 0)))) [.ac d1,.pl (.dict (dS zab (tabW W W))),.pl (zat c),.pl (zae ka),.pl (zae kb),.pl (zat c'),.pl (armD a),.pl (.str k1),.pl (.str k2),.ac (.list ((zfu a ns).map armD)),s10'] =
     some (.nx [.ac d2,.pl (.dict (dS zab (tabW W W))),.pl (zat c),.pl (zae ka),.pl (zae kb),.pl (zat (c'++[a'])),.pl (armD a),.pl (.str k1),.pl (.str k2),s9',s10']):=by
    intro bs hbs hb
    have b1:fOp ixD (zal 0 (eVar 9)) (zap 0 2 zah (zam (zal 0 (eCB lenD (zac (eVar 9) aNil))) (fNil 0))) [.ac d1,.pl (.dict (dS zab (tabW W W))),.pl (zat c),.pl (zae ka),.pl (zae kb),.pl (zat c'),.pl (armD a),.pl (.str k1),.pl (.str k2),.ac (.list ((zfu a ns).map armD)),s10']=some (⟨armD a',false,bs⟩,[.ac d2,.pl (.dict (dS zab (tabW W W))),.pl (zat c),.pl (zae ka),.pl (zae kb),.pl (zat c'),.pl (armD a),.pl (.str k1),.pl (.str k2),.ac (.list ((zfu a ns).map armD)),s10']):=by
     rw [← hb];exact b1
    have b2:fTup (zam (fOp ixD (zal 0 (eVar 9)) (zap 0 2 zah (zam (zal 0 (eCB lenD (zac (eVar 9) aNil))) (fNil 0)))) (fNil 0)) [.ac d1,.pl (.dict (dS zab (tabW W W))),.pl (zat c),.pl (zae ka),.pl (zae kb),.pl (zat c'),.pl (armD a),.pl (.str k1),.pl (.str k2),.ac (.list ((zfu a ns).map armD)),s10']=some (⟨.tuple [armD a'],false,bs++[]⟩,[.ac d2,.pl (.dict (dS zab (tabW W W))),.pl (zat c),.pl (zae ka),.pl (zae kb),.pl (zat c'),.pl (armD a),.pl (.str k1),.pl (.str k2),.ac (.list ((zfu a ns).map armD)),s10']):=by
     unfold fTup
     rw [zku (f:=0) (d:=d2) b1 rfl];rfl
    have b3:=zfg (w:=addE) (z:=zat (c'++[a'])) (fr:=false) (zbf (f:=0) (e:=eVar 5) (d0:=d1) (d:=zat c') (fr:=false) rfl rfl) b2 (zafu c' a' (by omega))
    unfold fSet
    rw [b3]
    rcases hbs with rfl|rfl
    ·exact ⟨_,rfl⟩
    ·exact ⟨_,rfl⟩
   cases a' with
   | one m=>exact gen [] (.inl rfl) rfl
   | many ms=>exact gen [9] (.inr rfl) rfl
  obtain ⟨s9',fin⟩:=fin
  exact ⟨_,_,rfl,(zas e0).trans ((zas e1).trans fin),c'++[a'],d2,_,_,_,_,_,rfl,les.snoc lp,q4.mono (by rw [qJ];simp;omega)⟩
 obtain ⟨env',hl,c',d',s6,s7,s8,s9,s10,rfl,les,ok'⟩:=loop
 refine ⟨c',d',?_,les,ok'.mono (by omega)⟩
 have it:zaaa (zac (eVar 2) (zac (eVar 3) (zac (eVar 4) aNil))) [.ac d,.pl (.dict (dS zab (tabW W W))),.pl (zat c),.pl (zae ka),.pl (zae kb),.pl (zat []),.no,.no,.no,.no,.no]=some ((c.zip (ka.zip kb)).map z3D,[]):=by
  rw [← zaah];rfl
 have run:zha [.ac d,.pl (.dict (dS zab (tabW W W))),.pl (zat c),.pl (zae ka),.pl (zae kb),.no,.no,.no,.no,.no,.no]=some (.rt (zat c') false [.ac d',.pl (.dict (dS zab (tabW W W))),.pl (zat c),.pl (zae ka),.pl (zae kb),.pl (zat c'),s6,s7,s8,s9,s10]):=by
  unfold zha
  refine (zas (show fS (sSet 5 (eTup aNil)) [.ac d,.pl (.dict (dS zab (tabW W W))),.pl (zat c),.pl (zae ka),.pl (zae kb),.no,.no,.no,.no,.no,.no]=some (.nx [.ac d,.pl (.dict (dS zab (tabW W W))),.pl (zat c),.pl (zae ka),.pl (zae kb),.pl (zat []),.no,.no,.no,.no,.no]) from rfl)).trans ?_
  exact (zas ((zhe it).trans hl)).trans rfl
 unfold zcq fnF
 show (zha [.ac d,.pl (.dict (dS zab (tabW W W))),.pl (zat c),.pl (zae ka),.pl (zae kb),.no,.no,.no,.no,.no,.no]).bind _=_
 rw [run];rfl
theorem zaai {W:Web}:∀ {c:List Arm} {ka kb:List Str} {c':List Arm},ka.length=c.length→kb.length=c.length→Les W (c.zip (ka.zip kb)) c'→fitB W ka c=true→fitB W kb c=true→fitB W ka c'=true∧fitB W kb c'=true
 | [],ka,kb,c',h1,h2,hl,_,_=>by
  cases qAc.mp h1
  cases qAc.mp h2
  exact ⟨rfl,rfl⟩
 | a::c,x::ka,y::kb,_,h1,h2,.cons (a:=a') (c:=c'') hp hl,f1,f2=>by
  have g1:(decide (x∈upA W a)&&fitB W ka c)=true:=f1
  have g2:(decide (y∈upA W a)&&fitB W kb c)=true:=f2
  rw [qt,decide_eq_true_eq] at g1 g2
  obtain ⟨i1,i2⟩:=zaai (by simpa using h1) (by simpa using h2) hl g1.2 g2.2
  have hh:x∈upA W a'∧y∈upA W a':=by
   rcases hp with rfl|⟨n,rfl,_,z1,z2⟩
   ·exact ⟨g1.1,g2.1⟩
   ·exact ⟨zma.mpr ⟨n,by show n∈[n];simp,z1⟩,zma.mpr ⟨n,by show n∈[n];simp,z2⟩⟩
  constructor
  ·show (decide (x∈upA W a')&&fitB W ka c'')=true
   rw [qt,decide_eq_true_eq];exact ⟨hh.1,i1⟩
  ·show (decide (y∈upA W a')&&fitB W kb c'')=true
   rw [qt,decide_eq_true_eq];exact ⟨hh.2,i2⟩
theorem zaaj {W:Web} (h:WebOk W):∀ {c:List Arm} {ka kb q:List Str} {c':List Arm},(∀ a∈c,∀ n∈a.parts,n∈nm W)→ka.length=c.length→kb.length=c.length→Les W (c.zip (ka.zip kb)) c'→fitB W q c'=true→fitB W q c=true
 | [],ka,kb,q,c',_,h1,h2,hl,_=>by unfold fitB;rw [List.zip_nil_right];rfl
 | a::c,x::ka,y::kb,[],_,hk,h1,h2,.cons hp hl,f=>rfl
 | a::c,x::ka,y::kb,k::q,_,hk,h1,h2,.cons (a:=a') hp hl,f=>by
  have g:(decide (k∈upA W a')&&fitB W q _)=true:=f
  rw [qt,decide_eq_true_eq] at g
  have i:=zaaj h (fun b hb=>hk b (qI _ hb)) (by simpa using h1) (by simpa using h2) hl g.2
  show (decide (k∈upA W a)&&fitB W q c)=true
  rw [qt,decide_eq_true_eq]
  refine ⟨?_,i⟩
  rcases hp with rfl|⟨n,rfl,z0,_,_⟩
  ·exact g.1
  ·obtain ⟨m,hm,hmn⟩:=zma.mp ((zyz h).mp z0)
   obtain ⟨n',hn',hkn⟩:=zma.mp g.1
   rw [qu.mp (show n'∈[n] from hn')] at hkn
   exact zma.mpr ⟨m,hm,zzr h _ (Nat.lt_succ_self _) (hk a qg m hm) hmn hkn⟩
theorem zaih {W:Web} (h:WebOk W) {rs:List Rule} {c c':List Arm} {r1 r2:Rule} (ok:OrdOk W c.length rs) (hk:∀ a∈c,∀ n∈a.parts,n∈nm W) (h1:r1∈zik W (fitL W rs c)) (h2:r2∈zik W (fitL W rs c)) (hl:Les W (c.zip (r1.2.zip r2.2)) c') :
  r1∈zik W (fitL W rs c')∧r2∈zik W (fitL W rs c'):=by
 obtain ⟨m1,n1⟩:=zkt.mp h1
 obtain ⟨m2,n2⟩:=zkt.mp h2
 obtain ⟨a1,b1⟩:=qx.mp m1
 obtain ⟨a2,b2⟩:=qx.mp m2
 obtain ⟨f1,f2⟩:=zaai (ok.size r1 a1) (ok.size r2 a2) hl b1 b2
 have sub:∀ q∈fitL W rs c',q∈fitL W rs c:=fun q hq=>by
  obtain ⟨z1,z2⟩:=qx.mp hq
  exact qx.mpr ⟨z1,zaaj h hk (ok.size r1 a1) (ok.size r2 a2) hl z2⟩
 exact ⟨zkt.mpr ⟨qx.mpr ⟨a1,f1⟩,fun q hq=>n1 q (sub q hq)⟩,zkt.mpr ⟨qx.mpr ⟨a2,f2⟩,fun q hq=>n2 q (sub q hq)⟩⟩
theorem zaak {W:Web} (h:WebOk W):∀ {l:List (Arm×Str×Str)} {c':List Arm},Les W l c'→(∀ z∈l,(∀ n∈z.1.parts,n∈nm W)∧z.1.parts.length≤4)→∀ a∈c',(∀ n∈a.parts,n∈nm W)∧a.parts.length≤4
 | _,_,.nil,_,a,ha=>by cases ha
 | _,_,.cons hp hl,hz,a,ha=>by
  rcases qN.mp ha with rfl|ha
  ·rcases hp with rfl|⟨n,rfl,z0,_,_⟩
   ·exact hz _ qg
   ·refine ⟨fun m hm=>?_,by show 1≤4;decide⟩
    rw [qu.mp (show m∈[n] from hm)]
    exact zaft h ((zyz h).mp z0)
  ·exact zaak h hl (fun z hz'=>hz z (qI _ hz')) a ha
theorem zaii {α:Type} (f:α→PyData) {l:List α} {n:Nat} {x:α} (h:l[n]?=some x):ixD (.tuple (l.map f)) (.int (n:Int))=some (f x,false):=by
 show (atI (l.map f) (n:Int)).map _=_
 rw [zajc f h];rfl
theorem zur (b:Bool) (xs:List Str) (x:Str):inD b (.str x) (zae xs)=some (.bool (if b then !decide (x∈xs) else decide (x∈xs)),false):=ztc b xs x
theorem zxh:∀ {rs:List Rule} {r:Rule},(rs.map (·.1)).Nodup→r∈rs→rs.lookup r.1=some r.2
 | q::rs,r,nd,hr=>by
  rw [qe,qAI] at nd
  obtain ⟨a,b⟩:=q
  rw [qz]
  rcases qN.mp hr with rfl|hr
  ·rw [beq_self_eq_true]
  ·have:r.1≠a:=fun e=>nd.1 (qAj.mpr ⟨r,hr,e⟩)
   rw [beq_eq_false_iff_ne.mpr this]
   exact zxh nd.2 hr
theorem zaca {xs:List Str} {x y:Str} (hx:x∈xs) (hy:y∈xs) (hne:x≠y):zcr xs=.tuple [.str "quarrel",zae xs]:=by
 match xs,hx,hy with
 | [],hx,_=>cases hx
 | [z],hx,hy=>exact absurd ((qu.mp hx).trans (qu.mp hy).symm) hne
 | _::_::_,_,_=>rfl
theorem zapc {k:Nat} {b:EF} {env:DEnv} {n:Nat} {xs:List Str} {x:Str} (he:env[k]?=some (.pl (zae xs))) (hb:b env=some (vi (n:Int))) (hx:xs[n]?=some x):eIxV k b env=some (vs x):=by
 unfold eIxV
 rw [he]
 exact zln (x:=⟨zae xs,false,[]⟩) (by unfold eVar;rw [he]) hb (zaii PyData.str hx)
theorem zajo {k:Nat} {b:EF} {env:DEnv} {rs:List Rule} {r:Rule} (nd:(rs.map (·.1)).Nodup) (hr:r∈rs) (he:env[k]?=some (.ac (.dict (dS zae rs)))) (hb:b env=some (vs r.1)):zbr k b env=some ⟨zae r.2,false,[]⟩:=by
 unfold zbr
 rw [he]
 show (b env).bind _=_
 rw [hb]
 show (zlr (dS zae rs) (Sum.inr r.1)).bind _=_
 rw [zkd,zxh nd hr]
 rfl
theorem zzb {W:Web} (h:WebOk W) (lo:∀ x∈nm W,Low x) {ts:List Str} {rs:List Rule} {c:List Arm} (mk:MadeOk W c.length ts rs) (tnd:ts.Nodup) (tl:ts.length≤16) (hc:CallIn (nm W) c) (hcl:c.length≤3) {d:PyData} {n:Nat} (ok:Fok d n) (hn:n+10000≤10 ^ 12) :
  ∃ d',zcf d [.dict (dS zab (tabW W W)),zbo W c.length rs,zat c,zae ((zik W (fitL W rs c)).map (·.1))]=some (.bool true,false,d')∧Fok d' (n+2000):=by
 have hR:=mk.rules lo hcl tl
 have hO:OrdOk W c.length rs:=⟨mk.kinds,mk.size⟩
 have rnd:=mk.names tnd
 have rlen:rs.length≤16:=by have:=mk.sub.length_le;rw [qE] at this;omega
 have sub:∀ r∈zik W (fitL W rs c),r∈rs:=fun r hr=>(qx.mp (zkt.mp hr).1).1
 have Lnd:((zik W (fitL W rs c)).map (·.1)).Nodup:=by
  refine List.Nodup.sublist ?_ rnd
  exact ((qCU).trans (qCU)).map _
 have Llen:(zik W (fitL W rs c)).length≤16:=qAQ (qA4 _ _) (qAQ (qA4 _ _) rlen)
 generalize hL:zik W (fitL W rs c)=L at *
 have dict:∃ env',zfi (gT 2 (zbc 6 (zbc 7 zfl))) (fS (sPut 5 (eVar 6) (eVar 7))) (rs.map zew) [.ac d,.pl (.dict (dS zab (tabW W W))),.pl (zbo W c.length rs),.pl (zat c),.pl (zae (L.map (·.1))),.ac (.dict (dS zae [])),.no,.no,.no,.no,.no,.no]=some (.nx env') ∧
   ∃ s6 s7,env'=[.ac d,.pl (.dict (dS zab (tabW W W))),.pl (zbo W c.length rs),.pl (zat c),.pl (zae (L.map (·.1))),.ac (.dict (dS zae rs)),s6,s7,.no,.no,.no,.no]:=by
  refine zle (fun pre env=>∃ s6 s7,env=[.ac d,.pl (.dict (dS zab (tabW W W))),.pl (zbo W c.length rs),.pl (zat c),.pl (zae (L.map (·.1))),.ac (.dict (dS zae pre)),s6,s7,.no,.no,.no,.no]) ⟨_,_,rfl⟩ ?_
  rintro pre r post env hp ⟨s6,s7,rfl⟩
  have plen:=congrArg List.length hp
  rw [qJ,qa] at plen
  have lz:(dS zae pre).length<100000:=by unfold dS;rw [qE];omega
  have nin:r.1∉pre.map (·.1):=by
   have:=rnd
   rw [← hp,qy,qe] at this
   intro z
   exact (qBI.mp this).2.2 _ z _ qg rfl
  refine ⟨[.ac d,.pl (.dict (dS zab (tabW W W))),.pl (zbo W c.length rs),.pl (zat c),.pl (zae (L.map (·.1))),.ac (.dict (dS zae pre)),.pl (.str r.1),.pl (zae r.2),.no,.no,.no,.no],_,rfl,zqz (e':=[.ac d,.pl (.dict (dS zab (tabW W W))),.pl (zbo W c.length rs),.pl (zat c),.pl (zae (L.map (·.1))),.ac (.dict (dS zae (pre++[r]))),.pl (.str r.1),.pl (zae r.2),.no,.no,.no,.no]) ?_,_,_,rfl⟩
  show (if (dS zae pre).length<100000∧5∉([]:List Nat) then some (Out.nx [.ac d,.pl (.dict (dS zab (tabW W W))),.pl (zbo W c.length rs),.pl (zat c),.pl (zae (L.map (·.1))),.ac (.dict (zor (dS zae pre) (.str r.1) (zae r.2))),.pl (.str r.1),.pl (zae r.2),.no,.no,.no,.no]) else none)=_
  rw [if_pos ⟨lz,by simp⟩,zya zae nin]
 obtain ⟨env1,hdict,s6,s7,rfl⟩:=dict
 have pair:∀ (j k:Nat) (d1:PyData) (m:Nat) (s10 s11:Sl),j<k→k<L.length→Fok d1 m→m+1000≤10 ^ 12→∃ (d2:PyData) (s10' s11':Sl),Fok d2 (m+3)∧(fSeq (fSet 10 (zap 0 5 zcq (zam (zal 0 (eVar 1)) (zam (zal 0 (eVar 3)) (zam (zal 0 (zbr 5 (eIxV 4 (eVar 9)))) (zam (zal 0 (zbr 5 (eIxV 4 (eVar 8)))) (fNil 0)))))))
  (fSeq (fS (sSet 11 (zck 2 zce (zac (eVar 2) (zac (eVar 10) aNil)))))
  (fSeq (fIfP (zbb (eOp neD (eIxV 11 (eC (.int 0))) (eC (.str "quarrel")))) (zdv (eC (.bool false))) fNx)
  (fIfP (tOrF (zbb (eOp (inD true) (eIxV 4 (eVar 9)) (eIxV 11 (eC (.int 1))))) (zbb (eOp (inD true) (eIxV 4 (eVar 8)) (eIxV 11 (eC (.int 1)))))) (zdv (eC (.bool false))) fNx)))) [.ac d1,.pl (.dict (dS zab (tabW W W))),.pl (zbo W c.length rs),.pl (zat c),.pl (zae (L.map (·.1))),.ac (.dict (dS zae rs)),s6,s7,.pl (.int (k:Int)),.pl (.int (j:Int)),s10,s11] =
   some (.nx [.ac d2,.pl (.dict (dS zab (tabW W W))),.pl (zbo W c.length rs),.pl (zat c),.pl (zae (L.map (·.1))),.ac (.dict (dS zae rs)),s6,s7,.pl (.int (k:Int)),.pl (.int (j:Int)),s10',s11']):=by
  intro j k d1 m s10 s11 hjk hk ok1 hm
  have hj:j<L.length:=by omega
  have gj:(L.map (·.1))[j]?=some L[j].1:=by rw [qY,qF hj];rfl
  have gk:(L.map (·.1))[k]?=some L[k].1:=by rw [qY,qF hk];rfl
  have mj:=qAZ hj
  have mk':=qAZ hk
  have ne:L[j].1≠L[k].1:=fun e=>by
   have:=zajd Lnd (i:=j) (j:=k) (hi:=by rw [qE];exact hj) (hj:=by rw [qE];exact hk) (by rw [List.getElem_map,List.getElem_map];exact e)
   omega
  generalize L[j]=r1 at gj mj ne
  generalize L[k]=r2 at gk mk' ne
  obtain ⟨c',d2,l1,l2,l3⟩:=zxg h (c:=c) (ka:=r1.2) (kb:=r2.2) hc hcl ok1 (by omega)
  have ej:∀ (d1:PyData) (s10 s11:Sl),eIxV 4 (eVar 9) [.ac d1,.pl (.dict (dS zab (tabW W W))),.pl (zbo W c.length rs),.pl (zat c),.pl (zae (L.map (·.1))),.ac (.dict (dS zae rs)),s6,s7,.pl (.int (k:Int)),.pl (.int (j:Int)),s10,s11]=some (vs r1.1):=fun d1 s10 s11=>zapc (n:=j) rfl rfl gj
  have ek:∀ (d1:PyData) (s10 s11:Sl),eIxV 4 (eVar 8) [.ac d1,.pl (.dict (dS zab (tabW W W))),.pl (zbo W c.length rs),.pl (zat c),.pl (zae (L.map (·.1))),.ac (.dict (dS zae rs)),s6,s7,.pl (.int (k:Int)),.pl (.int (j:Int)),s10,s11]=some (vs r2.1):=fun d1 s10 s11=>zapc (n:=k) rfl rfl gk
  have a1:=zdc (zbf (f:=0) (e:=eVar 1) (env:=[.ac d1,.pl (.dict (dS zab (tabW W W))),.pl (zbo W c.length rs),.pl (zat c),.pl (zae (L.map (·.1))),.ac (.dict (dS zae rs)),s6,s7,.pl (.int (k:Int)),.pl (.int (j:Int)),s10,s11]) (d0:=d1) (d:=.dict (dS zab (tabW W W))) (fr:=false) rfl rfl)
   (zdc (zbf (f:=0) (e:=eVar 3) (d0:=d1) (d:=zat c) (fr:=false) rfl rfl) (zdc (zbf (f:=0) (d0:=d1) rfl (zajo (k:=5) rnd (sub r1 mj) rfl (ej d1 s10 s11))) (zdc (zbf (f:=0) (d0:=d1) rfl (zajo (k:=5) rnd (sub r2 mk') rfl (ek d1 s10 s11))) (zra (f:=0) (d:=d1) rfl))))
  have s1:=zeq (i:=10) (zef (f:=0) (n:=5) (g:=zcq) (d0:=d1) (d1:=d1) rfl a1 rfl rfl l1 l3.flat)
  have s1:fSet 10 (zap 0 5 zcq (zam (zal 0 (eVar 1)) (zam (zal 0 (eVar 3)) (zam (zal 0 (zbr 5 (eIxV 4 (eVar 9)))) (zam (zal 0 (zbr 5 (eIxV 4 (eVar 8)))) (fNil 0)))))) [.ac d1,.pl (.dict (dS zab (tabW W W))),.pl (zbo W c.length rs),.pl (zat c),.pl (zae (L.map (·.1))),.ac (.dict (dS zae rs)),s6,s7,.pl (.int (k:Int)),.pl (.int (j:Int)),s10,s11]=some (.nx [.ac d2,.pl (.dict (dS zab (tabW W W))),.pl (zbo W c.length rs),.pl (zat c),.pl (zae (L.map (·.1))),.ac (.dict (dS zae rs)),s6,s7,.pl (.int (k:Int)),.pl (.int (j:Int)),.pl (zat c'),s11]):=s1
  have cl:c'.length=c.length:=by
   have:=l2.len
   rw [qBB,qBB,mk.size r1 (sub r1 mj),mk.size r2 (sub r2 mk')] at this
   omega
  have hz:=zaak h l2 fun z hz=>by
   have:=(qAz hz).1
   exact ⟨hc.kinds _ this,hc.few _ this⟩
  have hC:CallOk W c':=⟨by omega,fun a ha=>by have:=(hz a ha).2;omega,fun a ha=>(hz a ha).1⟩
  have ans:=zqy h hR hC
  rw [cl] at ans
  obtain ⟨n1,n2⟩:=zaih h hO hc.kinds (by rw [hL];exact mj) (by rw [hL];exact mk') l2
  have x1:r1.1∈(zik W (fitL W rs c')).map (·.1):=qAj.mpr ⟨r1,n1,rfl⟩
  have x2:r2.1∈(zik W (fitL W rs c')).map (·.1):=qAj.mpr ⟨r2,n2,rfl⟩
  rw [zaca x1 x2 ne] at ans
  generalize (zik W (fitL W rs c')).map (·.1)=xs at x1 x2 ans
  have s2:fS (sSet 11 (zck 2 zce (zac (eVar 2) (zac (eVar 10) aNil)))) [.ac d2,.pl (.dict (dS zab (tabW W W))),.pl (zbo W c.length rs),.pl (zat c),.pl (zae (L.map (·.1))),.ac (.dict (dS zae rs)),s6,s7,.pl (.int (k:Int)),.pl (.int (j:Int)),.pl (zat c'),s11]=some (.nx [.ac d2,.pl (.dict (dS zab (tabW W W))),.pl (zbo W c.length rs),.pl (zat c),.pl (zae (L.map (·.1))),.ac (.dict (dS zae rs)),s6,s7,.pl (.int (k:Int)),.pl (.int (j:Int)),.pl (zat c'),.pl (.tuple [.str "quarrel",zae xs])]) :=
   zaaf (zdd (n:=2) (rs:=[⟨zbo W c.length rs,false,[]⟩,⟨zat c',false,[]⟩]) rfl rfl ans)
  have t1:zbb (eOp neD (eIxV 11 (eC (.int 0))) (eC (.str "quarrel"))) [.ac d2,.pl (.dict (dS zab (tabW W W))),.pl (zbo W c.length rs),.pl (zat c),.pl (zae (L.map (·.1))),.ac (.dict (dS zae rs)),s6,s7,.pl (.int (k:Int)),.pl (.int (j:Int)),.pl (zat c'),.pl (.tuple [.str "quarrel",zae xs])]=some false :=
   zaqg (d:=.str "quarrel") (f1:=false) (b1:=[]) (f2:=false) (b2:=[]) rfl rfl (by decide +kernel)
  have e11:eIxV 11 (eC (.int 1)) [.ac d2,.pl (.dict (dS zab (tabW W W))),.pl (zbo W c.length rs),.pl (zat c),.pl (zae (L.map (·.1))),.ac (.dict (dS zae rs)),s6,s7,.pl (.int (k:Int)),.pl (.int (j:Int)),.pl (zat c'),.pl (.tuple [.str "quarrel",zae xs])]=some ⟨zae xs,false,[]⟩:=rfl
  have t2:tOrF (zbb (eOp (inD true) (eIxV 4 (eVar 9)) (eIxV 11 (eC (.int 1))))) (zbb (eOp (inD true) (eIxV 4 (eVar 8)) (eIxV 11 (eC (.int 1))))) [.ac d2,.pl (.dict (dS zab (tabW W W))),.pl (zbo W c.length rs),.pl (zat c),.pl (zae (L.map (·.1))),.ac (.dict (dS zae rs)),s6,s7,.pl (.int (k:Int)),.pl (.int (j:Int)),.pl (zat c'),.pl (.tuple [.str "quarrel",zae xs])]=some false:=by
   have u1:=zhh (zln (ej d2 (.pl (zat c')) (.pl (.tuple [.str "quarrel",zae xs]))) e11 (zur true xs r1.1))
   have u2:=zhh (zln (ek d2 (.pl (zat c')) (.pl (.tuple [.str "quarrel",zae xs]))) e11 (zur true xs r2.1))
   unfold tOrF
   rw [u1,qG,if_neg (by simp [x1]),u2]
   simp [x2]
  refine ⟨d2,.pl (zat c'),.pl (.tuple [.str "quarrel",zae xs]),l3,(zas s1).trans ((zas s2).trans ((zas (zjf t1)).trans ?_))⟩
  exact zjf t2
 have loop:∃ env',zfi (gN 8) (fFor (zca (zac (eVar 8) aNil)) (gN 9)
  (fSeq (fSet 10 (zap 0 5 zcq (zam (zal 0 (eVar 1)) (zam (zal 0 (eVar 3)) (zam (zal 0 (zbr 5 (eIxV 4 (eVar 9)))) (zam (zal 0 (zbr 5 (eIxV 4 (eVar 8)))) (fNil 0)))))))
  (fSeq (fS (sSet 11 (zck 2 zce (zac (eVar 2) (zac (eVar 10) aNil)))))
  (fSeq (fIfP (zbb (eOp neD (eIxV 11 (eC (.int 0))) (eC (.str "quarrel")))) (zdv (eC (.bool false))) fNx)
  (fIfP (tOrF (zbb (eOp (inD true) (eIxV 4 (eVar 9)) (eIxV 11 (eC (.int 1))))) (zbb (eOp (inD true) (eIxV 4 (eVar 8)) (eIxV 11 (eC (.int 1)))))) (zdv (eC (.bool false))) fNx))))) (zdt 0 L.length) [.ac d,.pl (.dict (dS zab (tabW W W))),.pl (zbo W c.length rs),.pl (zat c),.pl (zae (L.map (·.1))),.ac (.dict (dS zae rs)),s6,s7,.no,.no,.no,.no]=some (.nx env') ∧
  ∃ (d':PyData) (s8 s9 s10 s11:Sl),env'=[.ac d',.pl (.dict (dS zab (tabW W W))),.pl (zbo W c.length rs),.pl (zat c),.pl (zae (L.map (·.1))),.ac (.dict (dS zae rs)),s6,s7,s8,s9,s10,s11]∧Fok d' (n+100 * L.length):=by
  refine zcs (fun k env=>∃ (d':PyData) (s8 s9 s10 s11:Sl),env=[.ac d',.pl (.dict (dS zab (tabW W W))),.pl (zbo W c.length rs),.pl (zat c),.pl (zae (L.map (·.1))),.ac (.dict (dS zae rs)),s6,s7,s8,s9,s10,s11]∧Fok d' (n+100 * k)) ⟨d,_,_,_,_,rfl,ok⟩ ?_
  rintro k env hk ⟨d1,s8,s9,s10,s11,rfl,ok1⟩
  obtain ⟨env2,q1,d2,s9',s10',s11',rfl,q2⟩:=zcs (g:=gN 9) (body:=fSeq (fSet 10 (zap 0 5 zcq (zam (zal 0 (eVar 1)) (zam (zal 0 (eVar 3)) (zam (zal 0 (zbr 5 (eIxV 4 (eVar 9)))) (zam (zal 0 (zbr 5 (eIxV 4 (eVar 8)))) (fNil 0)))))))
   (fSeq (fS (sSet 11 (zck 2 zce (zac (eVar 2) (zac (eVar 10) aNil)))))
   (fSeq (fIfP (zbb (eOp neD (eIxV 11 (eC (.int 0))) (eC (.str "quarrel")))) (zdv (eC (.bool false))) fNx)
   (fIfP (tOrF (zbb (eOp (inD true) (eIxV 4 (eVar 9)) (eIxV 11 (eC (.int 1))))) (zbb (eOp (inD true) (eIxV 4 (eVar 8)) (eIxV 11 (eC (.int 1)))))) (zdv (eC (.bool false))) fNx)))) (n:=k)
   (env:=[.ac d1,.pl (.dict (dS zab (tabW W W))),.pl (zbo W c.length rs),.pl (zat c),.pl (zae (L.map (·.1))),.ac (.dict (dS zae rs)),s6,s7,.pl (.int (k:Int)),s9,s10,s11])
   (fun j env=>∃ (d':PyData) (s9 s10 s11:Sl),env=[.ac d',.pl (.dict (dS zab (tabW W W))),.pl (zbo W c.length rs),.pl (zat c),.pl (zae (L.map (·.1))),.ac (.dict (dS zae rs)),s6,s7,.pl (.int (k:Int)),s9,s10,s11]∧Fok d' (n+100 * k+3 * j)) ⟨d1,_,_,_,rfl,ok1⟩ (by
    rintro j env hj ⟨d',s9,s10,s11,rfl,ok'⟩
    obtain ⟨d2,s10',s11',z1,z2⟩:=pair j k d' (n+100 * k+3 * j) s10 s11 hj hk ok' (by omega)
    exact ⟨_,_,rfl,z2,d2,_,_,_,rfl,z1.mono (by omega)⟩)
  exact ⟨_,_,rfl,(zhe (zgu (n:=k) rfl (by omega))).trans q1,d2,_,_,_,_,rfl,q2.mono (by omega)⟩
 obtain ⟨env2,hl,d',s8,s9,s10,s11,rfl,ok'⟩:=loop
 refine ⟨d',?_,ok'.mono (by omega)⟩
 have it1:zbh (eIxV 2 (eC (.int 2))) [.ac d,.pl (.dict (dS zab (tabW W W))),.pl (zbo W c.length rs),.pl (zat c),.pl (zae (L.map (·.1))),.ac (.dict (dS zae [])),.no,.no,.no,.no,.no,.no]=some (rs.map zew,[]):=rfl
 have it2:zca (zac (eCB lenD (zac (eVar 4) aNil)) aNil) [.ac d,.pl (.dict (dS zab (tabW W W))),.pl (zbo W c.length rs),.pl (zat c),.pl (zae (L.map (·.1))),.ac (.dict (dS zae rs)),s6,s7,.no,.no,.no,.no]=some (zdt 0 L.length,[]):=by
  refine zgu ?_ (by omega)
  show some (vi (((L.map (·.1)).map PyData.str).length:Nat))=_
  rw [qE,qE]
 have run:zie [.ac d,.pl (.dict (dS zab (tabW W W))),.pl (zbo W c.length rs),.pl (zat c),.pl (zae (L.map (·.1))),.no,.no,.no,.no,.no,.no,.no]=some (.rt (.bool true) false [.ac d',.pl (.dict (dS zab (tabW W W))),.pl (zbo W c.length rs),.pl (zat c),.pl (zae (L.map (·.1))),.ac (.dict (dS zae rs)),s6,s7,s8,s9,s10,s11]):=by
  unfold zie
  refine (zas (show fS (sSet 5 zaax) [.ac d,.pl (.dict (dS zab (tabW W W))),.pl (zbo W c.length rs),.pl (zat c),.pl (zae (L.map (·.1))),.no,.no,.no,.no,.no,.no,.no]=some (.nx [.ac d,.pl (.dict (dS zab (tabW W W))),.pl (zbo W c.length rs),.pl (zat c),.pl (zae (L.map (·.1))),.ac (.dict (dS zae [])),.no,.no,.no,.no,.no,.no]) from rfl)).trans ?_
  refine (zas ((zhe it1).trans hdict)).trans ?_
  exact (zas ((zhe it2).trans hl)).trans rfl
 unfold zcf fnF
 show (zie [.ac d,.pl (.dict (dS zab (tabW W W))),.pl (zbo W c.length rs),.pl (zat c),.pl (zae (L.map (·.1))),.no,.no,.no,.no,.no,.no,.no]).bind _=_
 rw [run];rfl
theorem zxi {xs:List Str} (hx:0<xs.length) (hx12:xs.length≤12):∀ (l:List Nat) (d:PyData) (n:Nat),Fok d n→n+100 * l.length+1000≤10 ^ 12→∃ (c:List Arm) (d':PyData),zmo (gN 0) (zap 1 2 zbd (zam (zal 1 (eVar 2)) (fNil 1))) 1 [.no,.ac d,.pl (zab xs)] (l.map fun (k:Nat)=>PyData.int (k:Int))=some (c.map armD,[.no,.ac d',.pl (zab xs)])∧c.length=l.length∧CallIn xs c∧Fok d' (n+20 * l.length)
 | [],d,n,ok,_=>⟨[],d,rfl,rfl,⟨(fun a ha=>nomatch ha),(fun a ha=>nomatch ha),(fun a ha=>nomatch ha)⟩,ok⟩
 | k::l,d,n,ok,hn=>by
  rw [qa] at hn
  obtain ⟨a,d1,a1,a2,a3,a4,a5⟩:=zabz (xs:=xs) ok (by omega) hx hx12
  obtain ⟨c,d2,c1,c2,c3,c4⟩:=zxi hx hx12 l d1 (n+20) a5 (by omega)
  refine ⟨a::c,d2,?_,by rw [qa,qa,c2],⟨fun b hb=>?_,fun b hb=>?_,fun b hb=>?_⟩,c4.mono (by rw [qa];omega)⟩
  ·rw [qe]
   unfold zmo
   show (Option.bind (zap 1 2 zbd (zam (zal 1 (eVar 2)) (fNil 1)) [.pl (.int (k:Int)),.ac d,.pl (zab xs)]) _)=_
   rw [zef (f:=1) (n:=2) (g:=zbd) (d0:=d) (d1:=d) rfl (zku (f:=1) (d:=d) (zbf (f:=1) (e:=eVar 2) (d0:=d) (d:=zab xs) (fr:=false) rfl rfl) rfl) rfl rfl a1 a5.flat]
   show ((zmo (gN 0) (zap 1 2 zbd (zam (zal 1 (eVar 2)) (fNil 1))) 1 [.no,.ac d1,.pl (zab xs)] (l.map fun (k:Nat)=>PyData.int (k:Int))).map _)=_
   rw [c1];rfl
  ·rcases qN.mp hb with rfl|hb
   ·exact a2
   ·exact c3.kinds b hb
  ·rcases qN.mp hb with rfl|hb
   ·exact a3
   ·exact c3.few b hb
  ·rcases qN.mp hb with rfl|hb
   ·exact a4
   ·exact c3.some b hb
theorem zaij {xs:List Str} {p:Nat} (hx:0<xs.length) (hx12:xs.length≤12) (hp:p≤3) {d:PyData} {n:Nat} (ok:Fok d n) (hn:n+2000≤10 ^ 12) {A1 A2 A6 A7 A8 A9 A10 A11:Sl}:∃ (c:List Arm) (d':PyData),c.length=p∧CallIn xs c∧Fok d' (n+60) ∧
  fSet 10 (fCB zka (zam (ztu ["_law_place"] [3,5] 0 3 (zca (zac (eVar 4) aNil)) (gN 0) (zap 1 2 zbd (zam (zal 1 (eVar 2)) (fNil 1)))) (fNil 3))) [.no,A1,A2,.ac d,.pl (.int (p:Int)),.pl (zab xs),A6,A7,A8,A9,A10,A11] =
   some (.nx [.no,A1,A2,.ac d',.pl (.int (p:Int)),.pl (zab xs),A6,A7,A8,A9,.pl (zat c),A11]):=by
 obtain ⟨c,d',c1,c2,c3,c4⟩:=zxi hx hx12 (List.range p) d n ok (by rw [qAd];omega)
 rw [qAd] at c2 c4
 refine ⟨c,d',c2,c3,c4.mono (by omega),?_⟩
 have e1:ztu ["_law_place"] [3,5] 0 3 (zca (zac (eVar 4) aNil)) (gN 0) (zap 1 2 zbd (zam (zal 1 (eVar 2)) (fNil 1))) [.no,A1,A2,.ac d,.pl (.int (p:Int)),.pl (zab xs),A6,A7,A8,A9,A10,A11]=some (⟨.list (c.map armD),true,[]⟩,[.no,A1,A2,.ac d',.pl (.int (p:Int)),.pl (zab xs),A6,A7,A8,A9,A10,A11]):=by
  unfold ztu
  show ((zca (zac (eVar 4) aNil) [.no,A1,A2,.ac d,.pl (.int (p:Int)),.pl (zab xs),A6,A7,A8,A9,A10,A11]).bind _)=_
  rw [zgu (n:=p) rfl (by omega),qG,if_pos ⟨by rw [zpw,qE,qAd];omega,by simp⟩,zpw]
  show ((zmo (gN 0) (zap 1 2 zbd (zam (zal 1 (eVar 2)) (fNil 1))) 1 [.no,.ac d,.pl (zab xs)] ((List.range p).map fun (k:Nat)=>PyData.int (k:Int))).bind _)=_
  rw [c1,qG]
  show (if zou d'=true then some ((⟨.list (c.map armD),true,if zds (c.map armD)=true then [] else []⟩:Val),[.no,A1,A2,.ac d',.pl (.int (p:Int)),.pl (zab xs),A6,A7,A8,A9,A10,A11]) else none)=_
  rw [if_pos c4.flat,ite_self]
 refine zeq (d:=zat c) (e1:=[.no,A1,A2,.ac d',.pl (.int (p:Int)),.pl (zab xs),A6,A7,A8,A9,A10,A11]) ?_
 unfold fCB
 rw [zku (f:=3) (d:=d') e1 rfl]
 rfl
theorem zamf (a:PyData) (rest:List PyData):ixD (.tuple (a::rest)) (.int 0)=some (a,false):=by
 have e:ixN (a::rest).length 0=some 0:=by
  unfold ixN
  rw [if_pos (by decide),if_pos (by rw [qa];omega)]
  rfl
 show (atI (a::rest) 0).map _=_
 unfold atI
 rw [e];rfl
theorem zajp {k:Nat} {env:DEnv} {x:Str} {rest:List PyData} (h:env[k]?=some (.pl (.tuple (.str x::rest)))):eIxV k (eC (.int 0)) env=some (vs x):=by
 unfold eIxV
 rw [h]
 exact zln (x:=⟨.tuple (.str x::rest),false,[]⟩) (y:=vi 0) (by unfold eVar;rw [h]) rfl (zamf _ _)
theorem zzc (xs:List Str):(zcr xs=.tuple [.str "none"])∨(∃ x,zcr xs=.tuple [.str "rule",.str x])∨zcr xs=.tuple [.str "quarrel",zae xs]:=by
 match xs with
 | []=>exact .inl rfl
 | [x]=>exact .inr (.inl ⟨x,rfl⟩)
 | _::_::_=>exact .inr (.inr rfl)
theorem zaik {W:Web} (h:WebOk W) (lo:∀ x∈nm W,Low x) (hne:0<(nm W).length) {p:Nat} (hp:p≤3) {ts:List Str} {rs:List Rule} (mk:MadeOk W p ts rs) (tnd:ts.Nodup) (tl:ts.length≤16) {d:PyData} {n:Nat} (ok:Fok d n) (hn:n+100000≤10 ^ 12) {A1 A2 A6 s7 A9 A10 A11:Sl} (h7:Hd (.dict (dS zab (tabW W W))) s7) :
  ∃ (d':PyData) (s7' s10 s11:Sl),Hd (.dict (dS zab (tabW W W))) s7'∧Fok d' (n+3000) ∧
  (fSeq (fSet 10 (fCB zka (zam (ztu ["_law_place"] [3,5] 0 3 (zca (zac (eVar 4) aNil)) (gN 0) (zap 1 2 zbd (zam (zal 1 (eVar 2)) (fNil 1)))) (fNil 3))))
  (fSeq (fS (sSet 11 (zck 2 zce (zac (eVar 8) (zac (eVar 10) aNil)))))
  (fSeq (fIfP (tOrF (zne (tTru (eIsi "tuple" (eVar 11)))) (zbb (eOp (inD true) (eIxV 11 (eC (.int 0))) (eTup (zac (eC (.str "rule")) (zac (eC (.str "quarrel")) (zac (eC (.str "none")) aNil))))))) (zdv (eC (.bool false))) fNx)
  (fIf (gAnd (zmm 3 (zbb (eOp eqD (eIxV 11 (eC (.int 0))) (eC (.str "quarrel"))))) (gNot (gTru (zap 3 5 zcf (zam (zal 3 (eVar 7)) (zam (zal 3 (eVar 8)) (zam (zal 3 (eVar 10)) (zam (zal 3 (eIxV 11 (eC (.int 1)))) (fNil 3))))))))) (zdv (eC (.bool false))) fNx)))) [.no,A1,A2,.ac d,.pl (.int (p:Int)),.pl (zab (nm W)),A6,s7,.pl (zbo W p rs),A9,A10,A11] =
   some (.nx [.no,A1,A2,.ac d',.pl (.int (p:Int)),.pl (zab (nm W)),A6,s7',.pl (zbo W p rs),A9,s10,s11]):=by
 obtain ⟨c,d1,c1,c2,c3,c4⟩:=zaij (xs:=nm W) (p:=p) hne (zpi h) hp ok (by omega) (A1:=A1) (A2:=A2) (A6:=A6) (A7:=s7) (A8:=.pl (zbo W p rs)) (A9:=A9) (A10:=A10) (A11:=A11)
 subst c1
 have hR:=mk.rules lo hp tl
 have ans:=zqy h hR (c2.ok hp)
 have st:=zzb h lo mk tnd tl c2 hp c3 (by omega)
 generalize hL:(zik W (fitL W rs c)).map (·.1)=N at ans st
 have s2:fS (sSet 11 (zck 2 zce (zac (eVar 8) (zac (eVar 10) aNil)))) [.no,A1,A2,.ac d1,.pl (.int (c.length:Int)),.pl (zab (nm W)),A6,s7,.pl (zbo W c.length rs),A9,.pl (zat c),A11]=some (.nx [.no,A1,A2,.ac d1,.pl (.int (c.length:Int)),.pl (zab (nm W)),A6,s7,.pl (zbo W c.length rs),A9,.pl (zat c),.pl (zcr N)]) :=
  zaaf ((zdd (n:=2) (rs:=[⟨zbo W c.length rs,false,[]⟩,⟨zat c,false,[]⟩]) rfl rfl ans).trans (by unfold bsOf;split<;>rfl))
 have key:∀ (x:Str) (rest:List PyData),zcr N=.tuple (.str x::rest)→x∈(["rule", "quarrel", "none"]:List Str)→tOrF (zne (tTru (eIsi "tuple" (eVar 11)))) (zbb (eOp (inD true) (eIxV 11 (eC (.int 0))) (eTup (zac (eC (.str "rule")) (zac (eC (.str "quarrel")) (zac (eC (.str "none")) aNil)))))) [.no,A1,A2,.ac d1,.pl (.int (c.length:Int)),.pl (zab (nm W)),A6,s7,.pl (zbo W c.length rs),A9,.pl (zat c),.pl (zcr N)]=some false:=fun x rest e hx=>by
  rw [e]
  have t1:zne (tTru (eIsi "tuple" (eVar 11))) [.no,A1,A2,.ac d1,.pl (.int (c.length:Int)),.pl (zab (nm W)),A6,s7,.pl (zbo W c.length rs),A9,.pl (zat c),.pl (.tuple (.str x::rest))]=some false:=rfl
  have t2:=zhh (zln (a:=eIxV 11 (eC (.int 0))) (b:=eTup (zac (eC (.str "rule")) (zac (eC (.str "quarrel")) (zac (eC (.str "none")) aNil)))) (env:=[.no,A1,A2,.ac d1,.pl (.int (c.length:Int)),.pl (zab (nm W)),A6,s7,.pl (zbo W c.length rs),A9,.pl (zat c),.pl (.tuple (.str x::rest))]) (x:=vs x) (y:=⟨zae ["rule", "quarrel", "none"],false,[]⟩) (zajp rfl) rfl (zur true ["rule", "quarrel", "none"] x))
  unfold tOrF
  rw [t1,qG,if_neg qK,t2]
  simp [hx]
 have eqt:∀ (x:Str) (rest:List PyData),zcr N=.tuple (.str x::rest)→zmm 3 (zbb (eOp eqD (eIxV 11 (eC (.int 0))) (eC (.str "quarrel")))) [.no,A1,A2,.ac d1,.pl (.int (c.length:Int)),.pl (zab (nm W)),A6,s7,.pl (zbo W c.length rs),A9,.pl (zat c),.pl (zcr N)]=some (decide (x = "quarrel"),[.no,A1,A2,.ac d1,.pl (.int (c.length:Int)),.pl (zab (nm W)),A6,s7,.pl (zbo W c.length rs),A9,.pl (zat c),.pl (zcr N)]):=fun x rest e=>by
  rw [e]
  have hw:eqD (.str x) (.str "quarrel")=some (.bool (decide (x = "quarrel")),false):=by
   show some (PyData.bool (qAA (.str x) (.str "quarrel")),false)=_
   congr 3
  have:=zhh (zln (a:=eIxV 11 (eC (.int 0))) (b:=eC (.str "quarrel")) (env:=[.no,A1,A2,.ac d1,.pl (.int (c.length:Int)),.pl (zab (nm W)),A6,s7,.pl (zbo W c.length rs),A9,.pl (zat c),.pl (.tuple (.str x::rest))]) (x:=vs x) (y:=vs "quarrel") (zajp rfl) rfl hw)
  unfold zmm
  show ((zbb (eOp eqD (eIxV 11 (eC (.int 0))) (eC (.str "quarrel"))) [.no,A1,A2,.ac d1,.pl (.int (c.length:Int)),.pl (zab (nm W)),A6,s7,.pl (zbo W c.length rs),A9,.pl (zat c),.pl (.tuple (.str x::rest))]).map _)=_
  rw [this];rfl
 have plain:∀ (x:Str) (rest:List PyData),zcr N=.tuple (.str x::rest)→x ≠ "quarrel" → fIf (gAnd (zmm 3 (zbb (eOp eqD (eIxV 11 (eC (.int 0))) (eC (.str "quarrel"))))) (gNot (gTru (zap 3 5 zcf (zam (zal 3 (eVar 7)) (zam (zal 3 (eVar 8)) (zam (zal 3 (eVar 10)) (zam (zal 3 (eIxV 11 (eC (.int 1)))) (fNil 3))))))))) (zdv (eC (.bool false))) fNx [.no,A1,A2,.ac d1,.pl (.int (c.length:Int)),.pl (zab (nm W)),A6,s7,.pl (zbo W c.length rs),A9,.pl (zat c),.pl (zcr N)]=some (.nx [.no,A1,A2,.ac d1,.pl (.int (c.length:Int)),.pl (zab (nm W)),A6,s7,.pl (zbo W c.length rs),A9,.pl (zat c),.pl (zcr N)]):=fun x rest e hx=>by
  have tt:=eqt x rest e
  rw [decide_eq_false hx] at tt
  rw [zsl (x:=false) (e1:=[.no,A1,A2,.ac d1,.pl (.int (c.length:Int)),.pl (zab (nm W)),A6,s7,.pl (zbo W c.length rs),A9,.pl (zat c),.pl (zcr N)]) (by unfold gAnd;rw [tt];rfl),if_neg qK]
  rfl
 rcases zzc N with e|⟨x,e⟩|e
 ·exact ⟨d1,s7,_,_,h7,c3.mono (by omega),(zas c4).trans ((zas s2).trans ((zas (zjf (key _ _ e (by simp)))).trans (plain _ _ e (by decide +kernel))))⟩
 ·exact ⟨d1,s7,_,_,h7,c3.mono (by omega),(zas c4).trans ((zas s2).trans ((zas (zjf (key _ _ e (by simp)))).trans (plain _ _ e (by decide +kernel))))⟩
 ·obtain ⟨d2,g1,g2⟩:=st
  have tt:=eqt _ _ e
  rw [decide_eq_true rfl] at tt
  have e11:eIxV 11 (eC (.int 1)) [.no,A1,A2,.ac d1,.pl (.int (c.length:Int)),.pl (zab (nm W)),A6,s7,.pl (zbo W c.length rs),A9,.pl (zat c),.pl (zcr N)]=some ⟨zae N,false,[]⟩:=by rw [e];rfl
  have call:∃ s7',Hd (.dict (dS zab (tabW W W))) s7'∧zap 3 5 zcf (zam (zal 3 (eVar 7)) (zam (zal 3 (eVar 8)) (zam (zal 3 (eVar 10)) (zam (zal 3 (eIxV 11 (eC (.int 1)))) (fNil 3))))) [.no,A1,A2,.ac d1,.pl (.int (c.length:Int)),.pl (zab (nm W)),A6,s7,.pl (zbo W c.length rs),A9,.pl (zat c),.pl (zcr N)]=some (vb true,[.no,A1,A2,.ac d2,.pl (.int (c.length:Int)),.pl (zab (nm W)),A6,s7',.pl (zbo W c.length rs),A9,.pl (zat c),.pl (zcr N)]):=by
   have rest:=zdc (zbf (f:=3) (e:=eVar 8) (env:=[.no,A1,A2,.ac d1,.pl (.int (c.length:Int)),.pl (zab (nm W)),A6,s7,.pl (zbo W c.length rs),A9,.pl (zat c),.pl (zcr N)]) (d0:=d1) (d:=zbo W c.length rs) (fr:=false) rfl rfl) (zdc (zbf (f:=3) (e:=eVar 10) (d0:=d1) (d:=zat c) (fr:=false) rfl rfl) (zdc (zbf (f:=3) (d0:=d1) rfl e11) (zra (f:=3) (d:=d1) rfl)))
   rcases h7 with rfl|rfl
   ·exact ⟨_,.inl rfl,zef (f:=3) (n:=5) (g:=zcf) (d0:=d1) (d1:=d1) rfl (zdc (zbf (f:=3) (e:=eVar 7) (d0:=d1) (d:=.dict (dS zab (tabW W W))) (fr:=false) rfl rfl) rest) rfl rfl g1 g2.flat⟩
   ·exact ⟨_,.inl rfl,zef (f:=3) (n:=5) (g:=zcf) (d0:=d1) (d1:=d1) rfl (zdc (zld (f:=3) (e:=eVar 7) (d0:=d1) (r:=⟨.dict (dS zab (tabW W W)),false,[7]⟩) rfl rfl (show (3:Nat)∉[7] by decide)) rest) rfl rfl g1 g2.flat⟩
  obtain ⟨s7',q7,call⟩:=call
  refine ⟨d2,s7',.pl (zat c),.pl (zcr N),q7,g2.mono (by omega),(zas c4).trans ((zas s2).trans ((zas (zjf (key _ _ e (by simp)))).trans ?_))⟩
  rw [zsl (x:=false) (e1:=[.no,A1,A2,.ac d2,.pl (.int (c.length:Int)),.pl (zab (nm W)),A6,s7',.pl (zbo W c.length rs),A9,.pl (zat c),.pl (zcr N)]) (by
   unfold gAnd gNot gTru
   rw [tt,qG,if_pos rfl]
   show ((((zap 3 5 zcf (zam (zal 3 (eVar 7)) (zam (zal 3 (eVar 8)) (zam (zal 3 (eVar 10)) (zam (zal 3 (eIxV 11 (eC (.int 1)))) (fNil 3))))) [.no,A1,A2,.ac d1,.pl (.int (c.length:Int)),.pl (zab (nm W)),A6,s7,.pl (zbo W c.length rs),A9,.pl (zat c),.pl (zcr N)]).bind _)).map _)=_
   rw [call];rfl),if_neg qK]
  rfl
noncomputable def zrc (ns:List Int):SFf:=(fSeq (zahu 1 10 ns)
  (fSeq (fFor (zca (zac (eOp addD (eVar 1) (eC (.int 1))) aNil)) (gN 2)
  (fSeq (zafg 3 2 ns)
  (fSeq (fIfP (zbb (eOp eqD (eVar 2) (eVar 1))) (fS (sSet 3 (eLst (zac (eC (.int 0)) (zac (eC (.int 0)) (zac (eC (.int 0)) aNil)))))) fNx)
  (fSeq (fSet 4 (fOp addD (zal 3 (eC (.int 1))) (zap 3 2 zah (zam (zal 3 (eC (.int 3))) (fNil 3)))))
  (fSeq (fSet 5 (zap 3 2 zbp (zam (fOp addD (zal 3 (eC (.int 2))) (zap 3 2 zah (zam (zal 3 (eOp ixD (eLst (zac (eC (.int 7)) (zac (eC (.int 7)) (zac (eC (.int 5)) aNil)))) (eOp subD (eVar 4) (eC (.int 1))))) (fNil 3)))) (fNil 3))))
  (fSeq (fSet 6 (zap 3 2 zgz (zam (zal 3 (eVar 5)) (fNil 3))))
  (fSeq (fS (sSet 7 (zck 1 zgb (zac (eVar 6) aNil))))
  (fSeq (fSet 8 (fTup (zam (zal 3 (eVar 6)) (zam (zal 3 (eVar 4)) (zam (zap 3 3 zch (zam (zal 3 (eVar 5)) (zam (zal 3 (eVar 4)) (fNil 3)))) (fNil 3))))))
  (fFor (zca (zac (eC (.int 2)) aNil)) (gN 9)
  (fSeq (fSet 10 (fCB zka (zam (ztu ["_law_place"] [3,5] 0 3 (zca (zac (eVar 4) aNil)) (gN 0) (zap 1 2 zbd (zam (zal 1 (eVar 2)) (fNil 1)))) (fNil 3))))
  (fSeq (fS (sSet 11 (zck 2 zce (zac (eVar 8) (zac (eVar 10) aNil)))))
  (fSeq (fIfP (tOrF (zne (tTru (eIsi "tuple" (eVar 11)))) (zbb (eOp (inD true) (eIxV 11 (eC (.int 0))) (eTup (zac (eC (.str "rule")) (zac (eC (.str "quarrel")) (zac (eC (.str "none")) aNil))))))) (zdv (eC (.bool false))) fNx)
  (fIf (gAnd (zmm 3 (zbb (eOp eqD (eIxV 11 (eC (.int 0))) (eC (.str "quarrel"))))) (gNot (gTru (zap 3 5 zcf (zam (zal 3 (eVar 7)) (zam (zal 3 (eVar 8)) (zam (zal 3 (eVar 10)) (zam (zal 3 (eIxV 11 (eC (.int 1)))) (fNil 3))))))))) (zdv (eC (.bool false))) fNx)))))))))))))
  (zdv (eC (.bool true)))))
theorem zail (ns:List Int) (z:Int):Fok (.list (zmq ns z)) 0:=by
 refine ⟨_,_,0,rfl,?_,qAs _ (by decide),Int.lt_trans (qAh _ (by decide)) (by decide),Int.le_refl _,Int.le_refl _⟩
 have:∀ c:Int,0≤(if (if c<0 then -c else c)<10 ^ 18 then 0 else (if c<0 then -c else c)):=fun c=>by
  by_cases h:c<0
  ·rw [if_pos h];split<;>omega
  ·rw [if_neg h];split<;>omega
 exact this _
theorem zaqh {p:Nat} (h1:1≤p) (h3:p≤3):∃ b:Nat,ixD (.list [.int 7,.int 7,.int 5]) (.int ((p:Int) - 1))=some (.int (b:Int),false)∧1≤b∧b≤7:=by
 have:p=1∨p=2∨p=3:=by omega
 rcases this with rfl|rfl|rfl
 ·exact ⟨7,rfl,by decide,by decide⟩
 ·exact ⟨7,rfl,by decide,by decide⟩
 ·exact ⟨5,rfl,by decide,by decide⟩
theorem zaim (ns:List Int) {M k:Nat} (hk:k≤20) {s3 s4 s5 s6 s7 s8 s9 s10 s11:Sl}:∃ t3 t4 t5 t6 t7 t8 t9 t10 t11:Sl,(fSeq (zafg 3 2 ns)
  (fSeq (fIfP (zbb (eOp eqD (eVar 2) (eVar 1))) (fS (sSet 3 (eLst (zac (eC (.int 0)) (zac (eC (.int 0)) (zac (eC (.int 0)) aNil)))))) fNx)
  (fSeq (fSet 4 (fOp addD (zal 3 (eC (.int 1))) (zap 3 2 zah (zam (zal 3 (eC (.int 3))) (fNil 3)))))
  (fSeq (fSet 5 (zap 3 2 zbp (zam (fOp addD (zal 3 (eC (.int 2))) (zap 3 2 zah (zam (zal 3 (eOp ixD (eLst (zac (eC (.int 7)) (zac (eC (.int 7)) (zac (eC (.int 5)) aNil)))) (eOp subD (eVar 4) (eC (.int 1))))) (fNil 3)))) (fNil 3))))
  (fSeq (fSet 6 (zap 3 2 zgz (zam (zal 3 (eVar 5)) (fNil 3))))
  (fSeq (fS (sSet 7 (zck 1 zgb (zac (eVar 6) aNil))))
  (fSeq (fSet 8 (fTup (zam (zal 3 (eVar 6)) (zam (zal 3 (eVar 4)) (zam (zap 3 3 zch (zam (zal 3 (eVar 5)) (zam (zal 3 (eVar 4)) (fNil 3)))) (fNil 3))))))
  (fFor (zca (zac (eC (.int 2)) aNil)) (gN 9)
  (fSeq (fSet 10 (fCB zka (zam (ztu ["_law_place"] [3,5] 0 3 (zca (zac (eVar 4) aNil)) (gN 0) (zap 1 2 zbd (zam (zal 1 (eVar 2)) (fNil 1)))) (fNil 3))))
  (fSeq (fS (sSet 11 (zck 2 zce (zac (eVar 8) (zac (eVar 10) aNil)))))
  (fSeq (fIfP (tOrF (zne (tTru (eIsi "tuple" (eVar 11)))) (zbb (eOp (inD true) (eIxV 11 (eC (.int 0))) (eTup (zac (eC (.str "rule")) (zac (eC (.str "quarrel")) (zac (eC (.str "none")) aNil))))))) (zdv (eC (.bool false))) fNx)
  (fIf (gAnd (zmm 3 (zbb (eOp eqD (eIxV 11 (eC (.int 0))) (eC (.str "quarrel"))))) (gNot (gTru (zap 3 5 zcf (zam (zal 3 (eVar 7)) (zam (zal 3 (eVar 8)) (zam (zal 3 (eVar 10)) (zam (zal 3 (eIxV 11 (eC (.int 1)))) (fNil 3))))))))) (zdv (eC (.bool false))) fNx)))))))))))) [.no,.pl (.int (M:Int)),.pl (.int (k:Int)),s3,s4,s5,s6,s7,s8,s9,s10,s11] =
  some (.nx [.no,.pl (.int (M:Int)),.pl (.int (k:Int)),t3,t4,t5,t6,t7,t8,t9,t10,t11]):=by
 have h1:zafg 3 2 ns [.no,.pl (.int (M:Int)),.pl (.int (k:Int)),s3,s4,s5,s6,s7,s8,s9,s10,s11]=some (.nx [.no,.pl (.int (M:Int)),.pl (.int (k:Int)),.ac (.list (zmq ns k)),s4,s5,s6,s7,s8,s9,s10,s11]):=by
  show (if 0≤(k:Int)∧(k:Int)≤1000 then some (OutF.nx [.no,.pl (.int (M:Int)),.pl (.int (k:Int)),.ac (.list (zmq ns k)),s4,s5,s6,s7,s8,s9,s10,s11]) else none)=_
  rw [if_pos ⟨by omega,by omega⟩]
 have h2:∃ d0,Fok d0 0∧fIfP (zbb (eOp eqD (eVar 2) (eVar 1))) (fS (sSet 3 (eLst (zac (eC (.int 0)) (zac (eC (.int 0)) (zac (eC (.int 0)) aNil)))))) fNx [.no,.pl (.int (M:Int)),.pl (.int (k:Int)),.ac (.list (zmq ns k)),s4,s5,s6,s7,s8,s9,s10,s11]=some (.nx [.no,.pl (.int (M:Int)),.pl (.int (k:Int)),.ac d0,s4,s5,s6,s7,s8,s9,s10,s11]):=by
  have t:zbb (eOp eqD (eVar 2) (eVar 1)) [.no,.pl (.int (M:Int)),.pl (.int (k:Int)),.ac (.list (zmq ns k)),s4,s5,s6,s7,s8,s9,s10,s11]=some ((k:Int)==M):=zhh (zagz rfl rfl)
  by_cases e:(k:Int)=M
  ·exact ⟨.list [.int 0,.int 0,.int 0],⟨0,0,0,rfl,by decide,by decide,by decide,by decide,by decide⟩,(zop (by rw [t,e,beq_self_eq_true])).trans rfl⟩
  ·exact ⟨_,zail ns k,(zjf (by rw [t,beq_eq_false_iff_ne.mpr e])).trans rfl⟩
 obtain ⟨d0,ok0,h2⟩:=h2
 obtain ⟨r,d1,q1,q2,q3,ok1⟩:=zdi (f:=3) (e:=eC (.int 3)) (env:=[.no,.pl (.int (M:Int)),.pl (.int (k:Int)),.ac d0,s4,s5,s6,s7,s8,s9,s10,s11]) rfl rfl ok0 (by omega) (by decide) (by decide)
 obtain ⟨p,ep⟩:∃ p:Nat,1+r=(p:Int):=⟨(1+r).toNat,by omega⟩
 have a3:=zfg (w:=addD) (z:=.int (1+r)) (fr:=false) (zbf (f:=3) (e:=eC (.int 1)) (env:=[.no,.pl (.int (M:Int)),.pl (.int (k:Int)),.ac d0,s4,s5,s6,s7,s8,s9,s10,s11]) (d0:=d0) (d:=.int 1) (fr:=false) rfl rfl) q1 rfl
 rw [ep] at a3
 have h3:=zeq (i:=4) a3
 obtain ⟨b,eb,b1,b7⟩:=zaqh (p:=p) (by omega) (by omega)
 have e4:eOp ixD (eLst (zac (eC (.int 7)) (zac (eC (.int 7)) (zac (eC (.int 5)) aNil)))) (eOp subD (eVar 4) (eC (.int 1))) [.no,.pl (.int (M:Int)),.pl (.int (k:Int)),.ac d1,.pl (.int (p:Int)),s5,s6,s7,s8,s9,s10,s11]=some (vi (b:Int)) :=
  zln (x:=⟨.list [.int 7,.int 7,.int 5],true,[]⟩) (y:=vi ((p:Int) - 1)) rfl (zaok rfl rfl) eb
 obtain ⟨r2,d2,u1,u2,u3,ok2⟩:=zdi (f:=3) (env:=[.no,.pl (.int (M:Int)),.pl (.int (k:Int)),.ac d1,.pl (.int (p:Int)),s5,s6,s7,s8,s9,s10,s11]) rfl e4 ok1 (by omega) (by omega) (by omega)
 obtain ⟨m,em⟩:∃ m:Nat,2+r2=(m:Int):=⟨(2+r2).toNat,by omega⟩
 have a4:=zfg (w:=addD) (z:=.int (2+r2)) (fr:=false) (zbf (f:=3) (e:=eC (.int 2)) (env:=[.no,.pl (.int (M:Int)),.pl (.int (k:Int)),.ac d1,.pl (.int (p:Int)),s5,s6,s7,s8,s9,s10,s11]) (d0:=d1) (d:=.int 2) (fr:=false) rfl rfl) u1 rfl
 rw [em] at a4
 obtain ⟨xs,d3,n1,n2,n3,n4,ok3⟩:=zoq (m:=m) ok2 (by omega) (by omega)
 have h4:fSet 5 (zap 3 2 zbp (zam (fOp addD (zal 3 (eC (.int 2))) (zap 3 2 zah (zam (zal 3 (eOp ixD (eLst (zac (eC (.int 7)) (zac (eC (.int 7)) (zac (eC (.int 5)) aNil)))) (eOp subD (eVar 4) (eC (.int 1))))) (fNil 3)))) (fNil 3))) [.no,.pl (.int (M:Int)),.pl (.int (k:Int)),.ac d1,.pl (.int (p:Int)),s5,s6,s7,s8,s9,s10,s11]=some (.nx [.no,.pl (.int (M:Int)),.pl (.int (k:Int)),.ac d3,.pl (.int (p:Int)),.ac (zab xs),s6,s7,s8,s9,s10,s11]) :=
  zamc (zef (f:=3) (n:=2) (g:=zbp) (d0:=d1) (d1:=d2) rfl (zku (f:=3) (d:=d2) a4 rfl) rfl rfl n1 ok3.flat)
 obtain ⟨W,d4,w1,w2,w3,ok4⟩:=zabw (xs:=xs) ok3 (by omega) (by omega) n3 n4
 have h5:fSet 6 (zap 3 2 zgz (zam (zal 3 (eVar 5)) (fNil 3))) [.no,.pl (.int (M:Int)),.pl (.int (k:Int)),.ac d3,.pl (.int (p:Int)),.ac (zab xs),s6,s7,s8,s9,s10,s11]=some (.nx [.no,.pl (.int (M:Int)),.pl (.int (k:Int)),.ac d4,.pl (.int (p:Int)),.pl (zab xs),.ac (webD W),s7,s8,s9,s10,s11]):=by
  have a5:=zef (f:=3) (n:=2) (g:=zgz) (d0:=d3) (d1:=d3) rfl (zku (f:=3) (d:=d3) (zld (f:=3) (e:=eVar 5) (env:=[.no,.pl (.int (M:Int)),.pl (.int (k:Int)),.ac d3,.pl (.int (p:Int)),.ac (zab xs),s6,s7,s8,s9,s10,s11]) (d0:=d3) (r:=⟨zab xs,false,[5]⟩) rfl rfl (show (3:Nat)∉[5] by decide)) rfl) rfl rfl w1 ok4.flat
  unfold fSet
  rw [a5];rfl
 subst w2
 have hne:0<(nm W).length:=by omega
 have h6:fS (sSet 7 (zck 1 zgb (zac (eVar 6) aNil))) [.no,.pl (.int (M:Int)),.pl (.int (k:Int)),.ac d4,.pl (.int (p:Int)),.pl (zab (nm W)),.ac (webD W),s7,s8,s9,s10,s11]=some (.nx [.no,.pl (.int (M:Int)),.pl (.int (k:Int)),.ac d4,.pl (.int (p:Int)),.pl (zab (nm W)),.pl (webD W),.ac (.dict (dS zab (tabW W W))),s8,s9,s10,s11]) :=
  zqz ((zvj (zdd (n:=1) (rs:=[⟨webD W,false,[6]⟩]) rfl rfl (zyy w3))).trans rfl)
 obtain ⟨ts,rs,d5,r1,mk,tnd,tl,ok5⟩:=zxf w3 n4 hne (p:=p) (by omega) ok4 (by omega)
 have h7:fSet 8 (fTup (zam (zal 3 (eVar 6)) (zam (zal 3 (eVar 4)) (zam (zap 3 3 zch (zam (zal 3 (eVar 5)) (zam (zal 3 (eVar 4)) (fNil 3)))) (fNil 3))))) [.no,.pl (.int (M:Int)),.pl (.int (k:Int)),.ac d4,.pl (.int (p:Int)),.pl (zab (nm W)),.pl (webD W),.ac (.dict (dS zab (tabW W W))),s8,s9,s10,s11]=some (.nx [.no,.pl (.int (M:Int)),.pl (.int (k:Int)),.ac d5,.pl (.int (p:Int)),.pl (zab (nm W)),.pl (webD W),.ac (.dict (dS zab (tabW W W))),.pl (zbo W p rs),s9,s10,s11]):=by
  have a7:=zef (f:=3) (n:=3) (g:=zch) (env:=[.no,.pl (.int (M:Int)),.pl (.int (k:Int)),.ac d4,.pl (.int (p:Int)),.pl (zab (nm W)),.pl (webD W),.ac (.dict (dS zab (tabW W W))),s8,s9,s10,s11]) (d0:=d4) (d1:=d4) rfl (zdc (zbf (f:=3) (e:=eVar 5) (d0:=d4) (d:=zab (nm W)) (fr:=false) rfl rfl) (zdc (zbf (f:=3) (e:=eVar 4) (d0:=d4) (d:=.int (p:Int)) (fr:=false) rfl rfl) (zra (f:=3) (d:=d4) rfl))) rfl rfl r1 ok5.flat
  have a8:=zdc (zbf (f:=3) (e:=eVar 6) (env:=[.no,.pl (.int (M:Int)),.pl (.int (k:Int)),.ac d4,.pl (.int (p:Int)),.pl (zab (nm W)),.pl (webD W),.ac (.dict (dS zab (tabW W W))),s8,s9,s10,s11]) (d0:=d4) (d:=webD W) (fr:=false) rfl rfl) (zdc (zbf (f:=3) (e:=eVar 4) (d0:=d4) (d:=.int (p:Int)) (fr:=false) rfl rfl) (zdc a7 (zra (f:=3) (d:=d5) rfl)))
  unfold fSet fTup
  rw [a8];rfl
 have loop:=zcs (g:=gN 9) (n:=2) (body:=fSeq (fSet 10 (fCB zka (zam (ztu ["_law_place"] [3,5] 0 3 (zca (zac (eVar 4) aNil)) (gN 0) (zap 1 2 zbd (zam (zal 1 (eVar 2)) (fNil 1)))) (fNil 3))))
  (fSeq (fS (sSet 11 (zck 2 zce (zac (eVar 8) (zac (eVar 10) aNil)))))
  (fSeq (fIfP (tOrF (zne (tTru (eIsi "tuple" (eVar 11)))) (zbb (eOp (inD true) (eIxV 11 (eC (.int 0))) (eTup (zac (eC (.str "rule")) (zac (eC (.str "quarrel")) (zac (eC (.str "none")) aNil))))))) (zdv (eC (.bool false))) fNx)
  (fIf (gAnd (zmm 3 (zbb (eOp eqD (eIxV 11 (eC (.int 0))) (eC (.str "quarrel"))))) (gNot (gTru (zap 3 5 zcf (zam (zal 3 (eVar 7)) (zam (zal 3 (eVar 8)) (zam (zal 3 (eVar 10)) (zam (zal 3 (eIxV 11 (eC (.int 1)))) (fNil 3))))))))) (zdv (eC (.bool false))) fNx))))
  (env:=[.no,.pl (.int (M:Int)),.pl (.int (k:Int)),.ac d5,.pl (.int (p:Int)),.pl (zab (nm W)),.pl (webD W),.ac (.dict (dS zab (tabW W W))),.pl (zbo W p rs),s9,s10,s11])
  (fun j env=>∃ (d':PyData) (s7 s9 s10 s11:Sl),env=[.no,.pl (.int (M:Int)),.pl (.int (k:Int)),.ac d',.pl (.int (p:Int)),.pl (zab (nm W)),.pl (webD W),s7,.pl (zbo W p rs),s9,s10,s11]∧Hd (.dict (dS zab (tabW W W))) s7∧Fok d' (20000+3000 * j)) ⟨d5,_,_,_,_,rfl,.inr rfl,ok5.mono (by omega)⟩ (by
   rintro j env hj ⟨d',s7,s9,s10,s11,rfl,hd,ok'⟩
   obtain ⟨d6,s7',s10',s11',z1,z2,z3⟩:=zaik w3 n4 hne (p:=p) (by omega) mk tnd (by omega) ok' (by omega) (A1:=.pl (.int (M:Int))) (A2:=.pl (.int (k:Int))) (A6:=.pl (webD W)) (A9:=.pl (.int (j:Int))) (A10:=s10) (A11:=s11) hd
   exact ⟨_,_,rfl,z3,d6,_,_,_,_,rfl,z1,z2.mono (by omega)⟩)
 obtain ⟨env',hl,d6,s7',s9',s10',s11',rfl,_,_⟩:=loop
 refine ⟨_,_,_,_,_,_,_,_,_,(zas h1).trans ((zas h2).trans ((zas h3).trans ((zas h4).trans ((zas h5).trans ((zas h6).trans ((zas h7).trans ((zhe (zgu (n:=2) rfl (by decide))).trans hl)))))))⟩
theorem zain (ns:List Int):∃ env',zrc ns (List.replicate 12 .no)=some (.rt (.bool true) false env'):=by
 obtain ⟨M,eM,hM⟩:∃ M:Nat,(if (ns.length:Int)<10 then (ns.length:Int) else 10)=(M:Int)∧M≤10:=by
  by_cases h:(ns.length:Int)<10
  ·exact ⟨ns.length,if_pos h,by omega⟩
  ·exact ⟨10,if_neg h,by omega⟩
 have h1:zahu 1 10 ns (List.replicate 12 .no)=some (.nx [.no,.pl (.int (M:Int)),.no,.no,.no,.no,.no,.no,.no,.no,.no,.no]):=by
  unfold zahu
  rw [eM];rfl
 have it:zca (zac (eOp addD (eVar 1) (eC (.int 1))) aNil) [.no,.pl (.int (M:Int)),.no,.no,.no,.no,.no,.no,.no,.no,.no,.no]=some (zdt 0 (M+1),[]):=zgu ((zpv (i:=(M:Int)) (j:=1) rfl rfl).trans (by rw [Int.natCast_add];rfl)) (by omega)
 have loop:=zcs (g:=gN 2) (n:=M+1) (body:=_) (env:=[.no,.pl (.int (M:Int)),.no,.no,.no,.no,.no,.no,.no,.no,.no,.no])
  (fun k env=>∃ s2 s3 s4 s5 s6 s7 s8 s9 s10 s11:Sl,env=[.no,.pl (.int (M:Int)),s2,s3,s4,s5,s6,s7,s8,s9,s10,s11]) ⟨_,_,_,_,_,_,_,_,_,_,rfl⟩ (by
   rintro k env hk ⟨s2,s3,s4,s5,s6,s7,s8,s9,s10,s11,rfl⟩
   obtain ⟨t3,t4,t5,t6,t7,t8,t9,t10,t11,e⟩:=zaim ns (M:=M) (k:=k) (by omega) (s3:=s3) (s4:=s4) (s5:=s5) (s6:=s6) (s7:=s7) (s8:=s8) (s9:=s9) (s10:=s10) (s11:=s11)
   exact ⟨_,_,rfl,e,_,_,_,_,_,_,_,_,_,_,rfl⟩)
 obtain ⟨env',hl,s2,s3,s4,s5,s6,s7,s8,s9,s10,s11,rfl⟩:=loop
 refine ⟨[.no,.pl (.int (M:Int)),s2,s3,s4,s5,s6,s7,s8,s9,s10,s11],?_⟩
 unfold zrc
 exact (zas h1).trans ((zas ((zhe it).trans hl)).trans rfl)
section
variable {P:Program} {w:World} {K:qB} {mg:Str→Option Value} {base:Heap}
noncomputable def zaio (K:qB):Sp:=fun vs H Q _=>∃ (a:Addr) (ns:List Int),vs=[.ref a]∧SqL K H a (ns.map V.int)∧∀ H',Q (.bl true) H'
theorem zapd {f:Addr} {fd:qAC} (F:Fun K "law" "law" zuf f fd) (T:Txt mg) (D_law_above:zqs P w K mg base) (D_law_arm:zwo P w K mg base) (D_law_feed:zsk P w K mg base) (D_law_names:zlz P w K mg base) (D_law_rules:zqu P w K mg base) (D_law_stays:zqv P w K mg base) (D_law_take:zff P w K mg base) (D_law_web:zwn P w K mg base) (D_answer_of:zly P w K mg base):FnOk P w K mg base CX0 8 f fd ["_law_script"] (zaio K):=by
 refine F.ok zaoy (fun vs H Q E h=>?_) (fun cdv A outer s H vs Q E hr h=>?_)
 ·obtain ⟨a,ns,rfl,_⟩:=h
  rfl
 ·obtain ⟨a,ns,rfl,hS,k⟩:=h
  have hu:=zfv hr
  apply Exists.intro
  apply And.intro
  ·refine' Bx.out (zag (zav (i:=1) zje rfl (Or.inl rfl) (zby (zut rfl) (by rfl) T.min zaad (zaa zan (zaa (zby (zdx (K:=K) rfl) (by rfl) T.len zft (zaa (bv 0) zak (by rfl)) (by decide) (by decide) (zai (by rfl)) (by rfl)) zak (by rfl)) (by rfl)) (by decide) (by decide) (zai (by rfl)) (by rfl)) (by rfl) (.inl rfl))
 (zag (zcu qo rfl (zcv rfl T.range (zaa (zbl (zbz (K:=K) rfl) (bv 1) zan) zak (by rfl)) (by rfl)) (zau (i:=2) zje rfl (Or.inl rfl) (.inl rfl))
  (zag (zav (i:=3) zje rfl (Or.inr rfl) (zbg D_law_feed (hr.mono (by decide)) (by rfl) (zaa (bv 0) (zaa (bv 2) zak (by rfl)) (by rfl)) (by decide) (zai (by rfl)) (by rfl)) (by rfl) (.inl rfl))
 (zag (zem (zcb (zps (K:=K) rfl hr.units) (bv 2) (bv 1) (ziv _)) (zao (zav (i:=3) zje rfl (Or.inr rfl) (zep (zaa zan (zaa zan (zaa zan zak (by rfl)) (by rfl)) (by rfl))) (by rfl) (.inl rfl))) zcd)
 (zag (zav (i:=4) zje rfl (Or.inl rfl) (zbl (zbz (K:=K) rfl) zan (zbg D_law_take (hr.mono (by decide)) (by rfl) (zaa (bv 3) (zaa zan zak (by rfl)) (by rfl)) (by decide) (zai (by rfl)) (by rfl))) (by rfl) (.inl rfl))
 (zag (zav (i:=5) zje rfl (Or.inr rfl) (zbg D_law_names (hr.mono (by decide)) (by rfl) (zaa (bv 3) (zaa (zbl (zbz (K:=K) rfl) zan (zbg D_law_take (hr.mono (by decide)) (by rfl) (zaa (bv 3) (zaa (zci (zeg (K:=K) rfl) (zep (zaa zan (zaa zan (zaa zan zak (by rfl)) (by rfl)) (by rfl))) (zbl zaci (bv 4) zan) (fun _ _=>rfl)) zak (by rfl)) (by rfl)) (by decide) (zai (by rfl)) (by rfl))) zak (by rfl)) (by rfl)) (by decide) (zai (by rfl)) (by rfl)) (by rfl) (.inl rfl))
 (zag (zav (i:=6) zje rfl (Or.inl rfl) (zbg D_law_web (hr.mono (by decide)) (by rfl) (zaa (bv 3) (zaa (bv 5) zak (by rfl)) (by rfl)) (by decide) (zai (by rfl)) (by rfl)) (by rfl) (.inl rfl))
 (zag (zav (i:=7) zje rfl (Or.inl rfl) (zbg D_law_above (hr.mono (by decide)) (by rfl) (zaa (bv 6) zak (by rfl)) (by decide) (zai (by rfl)) (by rfl)) (by rfl) (.inl rfl))
 (zag (zav (i:=8) zje rfl (Or.inl rfl) (zic (zaa (bv 6) (zaa (bv 4) (zaa (zbg D_law_rules (hr.mono (by decide)) (by rfl) (zaa (bv 3) (zaa (bv 5) (zaa (bv 4) zak (by rfl)) (by rfl)) (by rfl)) (by decide) (zai (by rfl)) (by rfl)) zak (by rfl)) (by rfl)) (by rfl))) (by rfl) (.inl rfl))
 (zao (zcu qo rfl (zcv rfl T.range (zaa zan zak (by rfl)) (by rfl)) (zau (i:=9) zje rfl (Or.inl rfl) (.inl rfl))
  (zag (zav (i:=10) zje rfl (Or.inl rfl) (zla (zlu (K:=K) rfl) (by rfl) T.tuple zho (zaa (zdz (zdl (N':=["_law_place", "_law_feed_here", "_law_names_here"]) (own:=["_law_place"]) (fr:=[3,5]) (by kernel_rfl)) rfl (zcv rfl T.range (zaa (bv 4) zak (by rfl)) (by rfl)) ?hb1 (by intro _;rfl)) zak (by rfl)) (by decide) (by decide) (zai (by rfl)) (by rfl)) (by rfl) (.inl rfl))
 (zag (zav (i:=11) zje rfl (Or.inl rfl) (zbg D_answer_of (hr.mono (by decide)) (by rfl) (zaa (bv 8) (zaa (bv 10) zak (by rfl)) (by rfl)) (by decide) (zai (by rfl)) (by rfl)) (by rfl) (.inl rfl))
 (zag (zem (zaes (ztl (zfy (K:=K) rfl (zby (zpj (K:=K) rfl) (by rfl) T.isinstance zif (zaa (bv 11) (zaa (ztm (v:=.ty "tuple") (by rfl) T.tuple zho rfl (by decide) (by decide)) zak (by rfl)) (by rfl)) (by decide) (by decide) (zai (by rfl)) (by rfl)) (fun _=>rfl))) (zyd (zcb (zhx (K:=K) rfl) (zci (zeg (K:=K) rfl) (bv 11) zan (fun _ _=>rfl)) (zic (zaa zcc (zaa zcc (zaa zcc zak (by rfl)) (by rfl)) (by rfl))) (by rfl)))).pt (zao (zbn zqb)) zcd)
 (zao (zem (zaeu (zcb (zps (K:=K) rfl hr.units) (zci (zeg (K:=K) rfl) (bv 11) zan (fun _ _=>rfl)) zcc (ziv _)) (zzu (ztl (zfy (K:=K) rfl (zbg D_law_stays (hr.mono (by decide)) (by rfl) (zaa (bv 3) (zaa (bv 7) (zaa (bv 8) (zaa (bv 10) (zaa (zci (zeg (K:=K) rfl) (bv 11) zan (fun _ _=>rfl)) zak (by rfl)) (by rfl)) (by rfl)) (by rfl)) (by rfl)) (by decide) (zai (by rfl)) (by rfl)) (fun _=>rfl))))).pt (zao (zbn zqb)) zcd))))) (by intro _;rfl)))))))))) (by intro _;rfl))
 (zao (zbn zqb))))
   case hb1=>(intro cl C s H fp;refine' ⟨Bx.out (zau (i:=0) zafk rfl (Or.inl rfl) (by first|exact .inl rfl|exact .inr rfl|assumption)),Bx.out zit,Bx.out (zbg D_law_arm (hr.mono (by decide)) (by rfl) (zaa (bv 1) (zaa (bv 2) zak (by rfl)) (by rfl)) (by decide) (zai (by rfl)) (by rfl))⟩)
  exact zahy (F:=zrc ns) (n:=11) ((zfz rfl (zahv (by decide)) (zfz rfl (zaly rfl (zer (zaj (zbw zdr (zaf 1) (se_c fun _=>zad)) zax)) (zdu (by decide)) (zfz rfl (zahw (by decide)) (zfz rfl (zjr (zhd (st_t (zbw zxu (zaf 2) (zaf 1))) (zcy (zcl (zhf (zaj (se_c fun _=>zad) (zaj (se_c fun _=>zad) (zaj (se_c fun _=>zad) zax)))) (by decide))) zev)) (zfz rfl (zjr (zde (zez zdr (zar (se_c fun _=>zad)) (zba (zaw (zar (se_c fun _=>zad)) zbj))) (by decide))) (zfz rfl (zjr (zde (zba (zaw (zez zdr (zar (se_c fun _=>zad)) (zba (zaw (zar (zbw zpm (zhf (zaj (se_c fun _=>zad) (zaj (se_c fun _=>zad) (zaj (se_c fun _=>zad) zax)))) (zbw zadp (zaf 4) (se_c fun _=>zad)))) zbj))) zbj)) (by decide))) (zfz rfl (zjr (zde (zba (zaw (zar (zaf 5)) zbj)) (by decide))) (zfz rfl (zjr (zcy (zcl (zda (zaj (zaf 6) zax)) (by decide)))) (zfz rfl (zjr (zde (zyf (zaw (zar (zaf 6)) (zaw (zar (zaf 4)) (zaw (zba (zaw (zar (zaf 5)) (zaw (zar (zaf 4)) zbj))) zbj)))) (by decide))) (zjr (zid (zer (zaj (se_c fun _=>zad) zax)) (zdu (by decide)) (zay (zde (zajj zsy (zaw (zahs (by rfl) (by decide) (zer (zaj (zaf 4) zax)) (zdu (by decide)) (zpr (by decide)) zals zlj (zba (zaw (zar (zaf 2)) zbj))) zbj)) (by decide)) (zay (zcy (zcl (zda (zaj (zaf 8) (zaj (zaf 10) zax))) (by decide))) (zay (zhd (zaob (zadt (zrr (zadv (zaf 11) zpo))) (st_t (zbw zre (zdy (se_c fun _=>zad)) (zoa (zaj (se_c fun _=>zaz) (zaj (se_c fun _=>zaz) (zaj (se_c fun _=>zaz) zax))))))) (zgs (se_c fun _=>zbu)) zev) (zaez (zalm (zzv (st_t (zbw zxu (zdy (se_c fun _=>zad)) (se_c fun _=>zaz)))) (zaln (zalp (zba (zaw (zar (zaf 7)) (zaw (zar (zaf 8)) (zaw (zar (zaf 10)) (zaw (zar (zdy (se_c fun _=>zad))) zbj)))))))) (zgs (se_c fun _=>zbu)) zev)))))))))))))) (zjr (zgs (se_c fun _=>zbu)))))) hS (zain ns) k
end
theorem us_s {us:List Value} {n:Nat} (h:us.length=n+1):∃ a t,us=a::t∧t.length=n:=by
 cases us with
 | nil=>cases h
 | cons a t=>exact ⟨a,t,rfl,Nat.succ.inj h⟩
theorem us_1 {us:List Value} (h:us.length=1):∃ a0,us=[a0]:=by
 obtain ⟨a,t,rfl,h2⟩:=us_s h
 cases qAc.mp h2
 exact ⟨a,rfl⟩
theorem us_2 {us:List Value} (h:us.length=2):∃ a0 a1,us=[a0,a1]:=by
 obtain ⟨a0,t,rfl,h2⟩:=us_s h
 obtain ⟨a1,rfl⟩:=us_1 h2
 exact ⟨a0,a1,rfl⟩
theorem us_3 {us:List Value} (h:us.length=3):∃ a0 a1 a2,us=[a0,a1,a2]:=by
 obtain ⟨a0,t,rfl,h2⟩:=us_s h
 obtain ⟨a1,a2,rfl⟩:=us_2 h2
 exact ⟨a0,a1,a2,rfl⟩
theorem us_4 {us:List Value} (h:us.length=4):∃ a0 a1 a2 a3,us=[a0,a1,a2,a3]:=by
 obtain ⟨a0,t,rfl,h2⟩:=us_s h
 obtain ⟨a1,a2,a3,rfl⟩:=us_3 h2
 exact ⟨a0,a1,a2,a3,rfl⟩
theorem us_5 {us:List Value} (h:us.length=5):∃ a0 a1 a2 a3 a4,us=[a0,a1,a2,a3,a4]:=by
 obtain ⟨a0,t,rfl,h2⟩:=us_s h
 obtain ⟨a1,a2,a3,a4,rfl⟩:=us_4 h2
 exact ⟨a0,a1,a2,a3,a4,rfl⟩
theorem all_mk {l:PySem.W.OpenLaw} {w:World} {K:qB} {h:Heap} {mg:Str→Option Value} {fa f1 f2 f3 f4 f5 f6 f7 f8 f9 f10 f11 f12 f13 f14 f15 f16 f17 f18 f19 f20 f21 f22 f23 f24 f25 f26 f27 f28:Addr} (X:K.In h) (G:h.Ns qO mg) (hfa:mg "law" = some (.ref fa))
  {od1 an1 od2 an2 od3 an3 od4 an4 od5 an5 od6 an6 od7 an7 od8 an8 od9 an9 od10 an10 od11 an11 od12 an12 od13 an13 od14 an14 od15 an15 od16 an16 od17 an17 od18 an18 od19 an19 od20 an20 od21 an21 od22 an22 od23 an23 od24 an24 od25 an25 od26 an26 od27 an27 od28 an28:Option Addr} {sl1 sl2 sl3 sl4 sl5 sl6 sl7 sl8 sl9 sl10 sl11 sl12 sl13 sl14 sl15 sl16 sl17 sl18 sl19 sl20 sl21 sl22 sl23 sl24 sl25 sl26 sl27 sl28:Array (Option Value)} {oc1 kV1 dc1 pm1 cd1 ct1 oc2 kV2 dc2 pm2 cd2 ct2 oc3 kV3 dc3 pm3 cd3 ct3 oc4 kV4 dc4 pm4 cd4 ct4 oc5 kV5 dc5 pm5 cd5 ct5 oc6 kV6 dc6 pm6 cd6 ct6 oc7 kV7 dc7 pm7 cd7 ct7 oc8 kV8 dc8 pm8 cd8 ct8 oc9 kV9 dc9 pm9 cd9 ct9 oc10 kV10 dc10 pm10 cd10 ct10 oc11 kV11 dc11 pm11 cd11 ct11 oc12 kV12 dc12 pm12 cd12 ct12 oc13 kV13 dc13 pm13 cd13 ct13 oc14 kV14 dc14 pm14 cd14 ct14 oc15 kV15 dc15 pm15 cd15 ct15 oc16 kV16 dc16 pm16 cd16 ct16 oc17 kV17 dc17 pm17 cd17 ct17 oc18 kV18 dc18 pm18 cd18 ct18 oc19 kV19 dc19 pm19 cd19 ct19 oc20 kV20 dc20 pm20 cd20 ct20 oc21 kV21 dc21 pm21 cd21 ct21 oc22 kV22 dc22 pm22 cd22 ct22 oc23 kV23 dc23 pm23 cd23 ct23 oc24 kV24 dc24 pm24 cd24 ct24 oc25 kV25 dc25 pm25 cd25 ct25 oc26 kV26 dc26 pm26 cd26 ct26 oc27 kV27 dc27 pm27 cd27 ct27 oc28 kV28 dc28 pm28 cd28 ct28:Value}
  (a1:qX K qO "names_of" = some (some (.ref f1))) (l1:K.lookup f1=some ⟨oc1,od1,.func (qf "names_of" "names_of" (zbv zhp) (zbt zhp) (zaq zhp) .none kV1 dc1 pm1 an1 cd1 ct1),sl1⟩) (c1:qZ K cd1 "names_of" = true) (k1:qV K (.ref f1)=true)
  (a2:qX K qO "names_in" = some (some (.ref f2))) (l2:K.lookup f2=some ⟨oc2,od2,.func (qf "names_in" "names_in" (zbv zhq) (zbt zhq) (zaq zhq) .none kV2 dc2 pm2 an2 cd2 ct2),sl2⟩) (c2:qZ K cd2 "names_in" = true) (k2:qV K (.ref f2)=true)
  (a3:qX K qO "check_kinds" = some (some (.ref f3))) (l3:K.lookup f3=some ⟨oc3,od3,.func (qf "check_kinds" "check_kinds" (zbv zej) (zbt zej) (zaq zej) .none kV3 dc3 pm3 an3 cd3 ct3),sl3⟩) (c3:qZ K cd3 "check_kinds" = true) (k3:qV K (.ref f3)=true)
  (a4:qX K qO "roofs_of" = some (some (.ref f4))) (l4:K.lookup f4=some ⟨oc4,od4,.func (qf "roofs_of" "roofs_of" (zbv zhr) (zbt zhr) (zaq zhr) .none kV4 dc4 pm4 an4 cd4 ct4),sl4⟩) (c4:qZ K cd4 "roofs_of" = true) (k4:qV K (.ref f4)=true)
  (a5:qX K qO "roof_of" = some (some (.ref f5))) (l5:K.lookup f5=some ⟨oc5,od5,.func (qf "roof_of" "roof_of" (zbv zja) (zbt zja) (zaq zja) .none kV5 dc5 pm5 an5 cd5 ct5),sl5⟩) (c5:qZ K cd5 "roof_of" = true) (k5:qV K (.ref f5)=true)
  (a6:qX K qO "names_in_call" = some (some (.ref f6))) (l6:K.lookup f6=some ⟨oc6,od6,.func (qf "names_in_call" "names_in_call" (zbv zdf) (zbt zdf) (zaq zdf) .none kV6 dc6 pm6 an6 cd6 ct6),sl6⟩) (c6:qZ K cd6 "names_in_call" = true) (k6:qV K (.ref f6)=true)
  (a7:qX K qO "check_call" = some (some (.ref f7))) (l7:K.lookup f7=some ⟨oc7,od7,.func (qf "check_call" "check_call" (zbv zfa) (zbt zfa) (zaq zfa) .none kV7 dc7 pm7 an7 cd7 ct7),sl7⟩) (c7:qZ K cd7 "check_call" = true) (k7:qV K (.ref f7)=true)
  (a8:qX K qO "roofs_in_call" = some (some (.ref f8))) (l8:K.lookup f8=some ⟨oc8,od8,.func (qf "roofs_in_call" "roofs_in_call" (zbv zdg) (zbt zdg) (zaq zdg) .none kV8 dc8 pm8 an8 cd8 ct8),sl8⟩) (c8:qZ K cd8 "roofs_in_call" = true) (k8:qV K (.ref f8)=true)
  (a9:qX K qO "fits_under" = some (some (.ref f9))) (l9:K.lookup f9=some ⟨oc9,od9,.func (qf "fits_under" "fits_under" (zbv zfb) (zbt zfb) (zaq zfb) .none kV9 dc9 pm9 an9 cd9 ct9),sl9⟩) (c9:qZ K cd9 "fits_under" = true) (k9:qV K (.ref f9)=true)
  (a10:qX K qO "is_nearer" = some (some (.ref f10))) (l10:K.lookup f10=some ⟨oc10,od10,.func (qf "is_nearer" "is_nearer" (zbv zge) (zbt zge) (zaq zge) .none kV10 dc10 pm10 an10 cd10 ct10),sl10⟩) (c10:qZ K cd10 "is_nearer" = true) (k10:qV K (.ref f10)=true)
  (a11:qX K qO "rules_that_fit" = some (some (.ref f11))) (l11:K.lookup f11=some ⟨oc11,od11,.func (qf "rules_that_fit" "rules_that_fit" (zbv zcw) (zbt zcw) (zaq zcw) .none kV11 dc11 pm11 an11 cd11 ct11),sl11⟩) (c11:qZ K cd11 "rules_that_fit" = true) (k11:qV K (.ref f11)=true)
  (a12:qX K qO "nearest_of" = some (some (.ref f12))) (l12:K.lookup f12=some ⟨oc12,od12,.func (qf "nearest_of" "nearest_of" (zbv zfc) (zbt zfc) (zaq zfc) .none kV12 dc12 pm12 an12 cd12 ct12),sl12⟩) (c12:qZ K cd12 "nearest_of" = true) (k12:qV K (.ref f12)=true)
  (a13:qX K qO "rule_names" = some (some (.ref f13))) (l13:K.lookup f13=some ⟨oc13,od13,.func (qf "rule_names" "rule_names" (zbv zfd) (zbt zfd) (zaq zfd) .none kV13 dc13 pm13 an13 cd13 ct13),sl13⟩) (c13:qZ K cd13 "rule_names" = true) (k13:qV K (.ref f13)=true)
  (a14:qX K qO "answer_by" = some (some (.ref f14))) (l14:K.lookup f14=some ⟨oc14,od14,.func (qf "answer_by" "answer_by" (zbv zgf) (zbt zgf) (zaq zgf) .none kV14 dc14 pm14 an14 cd14 ct14),sl14⟩) (c14:qZ K cd14 "answer_by" = true) (k14:qV K (.ref f14)=true)
  (a15:qX K qO "nearest" = some (some (.ref f15))) (l15:K.lookup f15=some ⟨oc15,od15,.func (qf "nearest" "nearest" (zbv zjb) (zbt zjb) (zaq zjb) .none kV15 dc15 pm15 an15 cd15 ct15),sl15⟩) (c15:qZ K cd15 "nearest" = true) (k15:qV K (.ref f15)=true)
  (a16:qX K qO "answer_of" = some (some (.ref f16))) (l16:K.lookup f16=some ⟨oc16,od16,.func (qf "answer_of" "answer_of" (zbv zgg) (zbt zgg) (zaq zgg) .none kV16 dc16 pm16 an16 cd16 ct16),sl16⟩) (c16:qZ K cd16 "answer_of" = true) (k16:qV K (.ref f16)=true)
  (a17:qX K qO "_law_feed" = some (some (.ref f17))) (l17:K.lookup f17=some ⟨oc17,od17,.func (qf "_law_feed" "_law_feed" (zbv zhs) (zbt zhs) (zaq zhs) .none kV17 dc17 pm17 an17 cd17 ct17),sl17⟩) (c17:qZ K cd17 "_law_feed" = true) (k17:qV K (.ref f17)=true)
  (a18:qX K qO "_law_take" = some (some (.ref f18))) (l18:K.lookup f18=some ⟨oc18,od18,.func (qf "_law_take" "_law_take" (zbv zht) (zbt zht) (zaq zht) .none kV18 dc18 pm18 an18 cd18 ct18),sl18⟩) (c18:qZ K cd18 "_law_take" = true) (k18:qV K (.ref f18)=true)
  (a19:qX K qO "_law_letters" = some (some (.ref f19))) (l19:K.lookup f19=some ⟨oc19,od19,.func (qf "_law_letters" "_law_letters" (zbv zek) (zbt zek) (zaq zek) .none kV19 dc19 pm19 an19 cd19 ct19),sl19⟩) (c19:qZ K cd19 "_law_letters" = true) (k19:qV K (.ref f19)=true)
  (a20:qX K qO "_law_names" = some (some (.ref f20))) (l20:K.lookup f20=some ⟨oc20,od20,.func (qf "_law_names" "_law_names" (zbv zgi) (zbt zgi) (zaq zgi) .none kV20 dc20 pm20 an20 cd20 ct20),sl20⟩) (c20:qZ K cd20 "_law_names" = true) (k20:qV K (.ref f20)=true)
  (a21:qX K qO "_law_web" = some (some (.ref f21))) (l21:K.lookup f21=some ⟨oc21,od21,.func (qf "_law_web" "_law_web" (zbv zjc) (zbt zjc) (zaq zjc) .none kV21 dc21 pm21 an21 cd21 ct21),sl21⟩) (c21:qZ K cd21 "_law_web" = true) (k21:qV K (.ref f21)=true)
  (a22:qX K qO "_law_above" = some (some (.ref f22))) (l22:K.lookup f22=some ⟨oc22,od22,.func (qf "_law_above" "_law_above" (zbv zgj) (zbt zgj) (zaq zgj) .none kV22 dc22 pm22 an22 cd22 ct22),sl22⟩) (c22:qZ K cd22 "_law_above" = true) (k22:qV K (.ref f22)=true)
  (a23:qX K qO "_law_reach" = some (some (.ref f23))) (l23:K.lookup f23=some ⟨oc23,od23,.func (qf "_law_reach" "_law_reach" (zbv zgk) (zbt zgk) (zaq zgk) .none kV23 dc23 pm23 an23 cd23 ct23),sl23⟩) (c23:qZ K cd23 "_law_reach" = true) (k23:qV K (.ref f23)=true)
  (a24:qX K qO "_law_rules" = some (some (.ref f24))) (l24:K.lookup f24=some ⟨oc24,od24,.func (qf "_law_rules" "_law_rules" (zbv zgl) (zbt zgl) (zaq zgl) .none kV24 dc24 pm24 an24 cd24 ct24),sl24⟩) (c24:qZ K cd24 "_law_rules" = true) (k24:qV K (.ref f24)=true)
  (a25:qX K qO "_law_arm" = some (some (.ref f25))) (l25:K.lookup f25=some ⟨oc25,od25,.func (qf "_law_arm" "_law_arm" (zbv zjd) (zbt zjd) (zaq zjd) .none kV25 dc25 pm25 an25 cd25 ct25),sl25⟩) (c25:qZ K cd25 "_law_arm" = true) (k25:qV K (.ref f25)=true)
  (a26:qX K qO "_law_lesser" = some (some (.ref f26))) (l26:K.lookup f26=some ⟨oc26,od26,.func (qf "_law_lesser" "_law_lesser" (zbv zfe) (zbt zfe) (zaq zfe) .none kV26 dc26 pm26 an26 cd26 ct26),sl26⟩) (c26:qZ K cd26 "_law_lesser" = true) (k26:qV K (.ref f26)=true)
  (a27:qX K qO "_law_stays" = some (some (.ref f27))) (l27:K.lookup f27=some ⟨oc27,od27,.func (qf "_law_stays" "_law_stays" (zbv zgm) (zbt zgm) (zaq zgm) .none kV27 dc27 pm27 an27 cd27 ct27),sl27⟩) (c27:qZ K cd27 "_law_stays" = true) (k27:qV K (.ref f27)=true)
  (a28:qX K qO "law" = some (some (.ref f28))) (l28:K.lookup f28=some ⟨oc28,od28,.func (qf "law" "law" (zbv zuf) (zbt zuf) (zaq zuf) .none kV28 dc28 pm28 an28 cd28 ct28),sl28⟩) (c28:qZ K cd28 "law" = true) (k28:qV K (.ref f28)=true)
  (z1:qX K qO "abs" = some none) (z2:qX K qO "all" = some none) (z3:qX K qO "any" = some none) (z4:qX K qO "isinstance" = some none) (z5:qX K qO "len" = some none) (z6:qX K qO "list" = some none) (z7:qX K qO "min" = some none) (z8:qX K qO "range" = some none) (z9:qX K qO "tuple" = some none) (z10:qX K qO "zip" = some none) :
  ∃ fd:qAC,(∀ (s:Shared) (v:Value),BindsTo s fd ⟨[v],[]⟩ [("_law_script",v)])∧∀ base:Heap,K.In base→base.Ns qO mg→FnOk l.prog w K mg base CX0 8 fa fd ["_law_script"] (zaio K):=by
 have e:=hfa.symm.trans (qh X G a28)
 cases e
 have T:Txt mg:=⟨qAJ X G z1,qAJ X G z2,qAJ X G z3,qAJ X G z4,qAJ X G z5,qAJ X G z6,qAJ X G z7,qAJ X G z8,qAJ X G z9,qAJ X G z10⟩
 have F1:=zdb (st:=zhp) l1 c1 k1
 have b1:=F1.binds (ps:=["web"]) fun _ _ _ _ _ _ us hl=>by obtain ⟨_,rfl⟩:=us_1 hl;rfl
 have F2:=zdb (st:=zhq) l2 c2 k2
 have b2:=F2.binds (ps:=["arm"]) fun _ _ _ _ _ _ us hl=>by obtain ⟨_,rfl⟩:=us_1 hl;rfl
 have F3:=zdb (st:=zej) l3 c3 k3
 have b3:=F3.binds (ps:=["web", "names"]) fun _ _ _ _ _ _ us hl=>by obtain ⟨_,_,rfl⟩:=us_2 hl;rfl
 have F4:=zdb (st:=zhr) l4 c4 k4
 have b4:=F4.binds (ps:=["web"]) fun _ _ _ _ _ _ us hl=>by obtain ⟨_,rfl⟩:=us_1 hl;rfl
 have F5:=zdb (st:=zja) l5 c5 k5
 have b5:=F5.binds (ps:=["roofs", "arm"]) fun _ _ _ _ _ _ us hl=>by obtain ⟨_,_,rfl⟩:=us_2 hl;rfl
 have F6:=zdb (st:=zdf) l6 c6 k6
 have b6:=F6.binds (ps:=["call"]) fun _ _ _ _ _ _ us hl=>by obtain ⟨_,rfl⟩:=us_1 hl;rfl
 have F7:=zdb (st:=zfa) l7 c7 k7
 have b7:=F7.binds (ps:=["web", "places", "call"]) fun _ _ _ _ _ _ us hl=>by obtain ⟨_,_,_,rfl⟩:=us_3 hl;rfl
 have F8:=zdb (st:=zdg) l8 c8 k8
 have b8:=F8.binds (ps:=["roofs", "call"]) fun _ _ _ _ _ _ us hl=>by obtain ⟨_,_,rfl⟩:=us_2 hl;rfl
 have F9:=zdb (st:=zfb) l9 c9 k9
 have b9:=F9.binds (ps:=["kinds", "call_roofs"]) fun _ _ _ _ _ _ us hl=>by obtain ⟨_,_,rfl⟩:=us_2 hl;rfl
 have F10:=zdb (st:=zge) l10 c10 k10
 have b10:=F10.binds (ps:=["roofs", "one", "other"]) fun _ _ _ _ _ _ us hl=>by obtain ⟨_,_,_,rfl⟩:=us_3 hl;rfl
 have F11:=zdb (st:=zcw) l11 c11 k11
 have b11:=F11.binds (ps:=["book", "call"]) fun _ _ _ _ _ _ us hl=>by obtain ⟨_,_,rfl⟩:=us_2 hl;rfl
 have F12:=zdb (st:=zfc) l12 c12 k12
 have b12:=F12.binds (ps:=["roofs", "rules"]) fun _ _ _ _ _ _ us hl=>by obtain ⟨_,_,rfl⟩:=us_2 hl;rfl
 have F13:=zdb (st:=zfd) l13 c13 k13
 have b13:=F13.binds (ps:=["rules"]) fun _ _ _ _ _ _ us hl=>by obtain ⟨_,rfl⟩:=us_1 hl;rfl
 have F14:=zdb (st:=zgf) l14 c14 k14
 have b14:=F14.binds (ps:=["names"]) fun _ _ _ _ _ _ us hl=>by obtain ⟨_,rfl⟩:=us_1 hl;rfl
 have F15:=zdb (st:=zjb) l15 c15 k15
 have b15:=F15.binds (ps:=["book", "call"]) fun _ _ _ _ _ _ us hl=>by obtain ⟨_,_,rfl⟩:=us_2 hl;rfl
 have F16:=zdb (st:=zgg) l16 c16 k16
 have b16:=F16.binds (ps:=["book", "call"]) fun _ _ _ _ _ _ us hl=>by obtain ⟨_,_,rfl⟩:=us_2 hl;rfl
 have F17:=zdb (st:=zhs) l17 c17 k17
 have b17:=F17.binds (ps:=["_law_script", "_law_k"]) fun _ _ _ _ _ _ us hl=>by obtain ⟨_,_,rfl⟩:=us_2 hl;rfl
 have F18:=zdb (st:=zht) l18 c18 k18
 have b18:=F18.binds (ps:=["_law_feed_here", "_law_many"]) fun _ _ _ _ _ _ us hl=>by obtain ⟨_,_,rfl⟩:=us_2 hl;rfl
 have F19:=zdb (st:=zek) l19 c19 k19
 have b19:=F19.binds (ps:=["_law_feed_here", "_law_many"]) fun _ _ _ _ _ _ us hl=>by obtain ⟨_,_,rfl⟩:=us_2 hl;rfl
 have F20:=zdb (st:=zgi) l20 c20 k20
 have b20:=F20.binds (ps:=["_law_feed_here", "_law_many"]) fun _ _ _ _ _ _ us hl=>by obtain ⟨_,_,rfl⟩:=us_2 hl;rfl
 have F21:=zdb (st:=zjc) l21 c21 k21
 have b21:=F21.binds (ps:=["_law_feed_here", "_law_names_here"]) fun _ _ _ _ _ _ us hl=>by obtain ⟨_,_,rfl⟩:=us_2 hl;rfl
 have F22:=zdb (st:=zgj) l22 c22 k22
 have b22:=F22.binds (ps:=["_law_web_here"]) fun _ _ _ _ _ _ us hl=>by obtain ⟨_,rfl⟩:=us_1 hl;rfl
 have F23:=zdb (st:=zgk) l23 c23 k23
 have b23:=F23.binds (ps:=["_law_table", "_law_arm_here"]) fun _ _ _ _ _ _ us hl=>by obtain ⟨_,_,rfl⟩:=us_2 hl;rfl
 have F24:=zdb (st:=zgl) l24 c24 k24
 have b24:=F24.binds (ps:=["_law_feed_here", "_law_names_here", "_law_places"]) fun _ _ _ _ _ _ us hl=>by obtain ⟨_,_,_,rfl⟩:=us_3 hl;rfl
 have F25:=zdb (st:=zjd) l25 c25 k25
 have b25:=F25.binds (ps:=["_law_feed_here", "_law_names_here"]) fun _ _ _ _ _ _ us hl=>by obtain ⟨_,_,rfl⟩:=us_2 hl;rfl
 have F26:=zdb (st:=zfe) l26 c26 k26
 have b26:=F26.binds (ps:=["_law_feed_here", "_law_table", "_law_call", "_law_one", "_law_other"]) fun _ _ _ _ _ _ us hl=>by obtain ⟨_,_,_,_,_,rfl⟩:=us_5 hl;rfl
 have F27:=zdb (st:=zgm) l27 c27 k27
 have b27:=F27.binds (ps:=["_law_feed_here", "_law_table", "_law_book", "_law_call", "_law_told"]) fun _ _ _ _ _ _ us hl=>by obtain ⟨_,_,_,_,_,rfl⟩:=us_5 hl;rfl
 have F28:=zdb (st:=zuf) l28 c28 k28
 refine ⟨qf "law" "law" (zbv zuf) (zbt zuf) (zaq zuf) .none kV28 dc28 pm28 an28 cd28 ct28,fun s v=>.of_eq rfl,fun base _ _=>?_⟩
 have D_names_of:zsj l.prog w K mg base:=⟨f1,_,zyn F1 T , qh X G a1,k1,b1⟩
 have D_names_in:znr l.prog w K mg base:=⟨f2,_,zyo F2 T , qh X G a2,k2,b2⟩
 have D_check_kinds:zmu l.prog w K mg base:=⟨f3,_,zrj F3 T D_names_of,qh X G a3,k3,b3⟩
 have D_roofs_of:zns l.prog w K mg base:=⟨f4,_,zyp F4 T , qh X G a4,k4,b4⟩
 have D_roof_of:zwl l.prog w K mg base:=⟨f5,_,zabm F5 T D_names_in,qh X G a5,k5,b5⟩
 have D_names_in_call:zkq l.prog w K mg base:=⟨f6,_,zpa F6 T D_names_in,qh X G a6,k6,b6⟩
 have D_check_call:zok l.prog w K mg base:=⟨f7,_,zug F7 T D_check_kinds D_names_in_call,qh X G a7,k7,b7⟩
 have D_roofs_in_call:zkr l.prog w K mg base:=⟨f8,_,zpb F8 T D_roof_of,qh X G a8,k8,b8⟩
 have D_fits_under:zol l.prog w K mg base:=⟨f9,_,zuh F9 T , qh X G a9,k9,b9⟩
 have D_is_nearer:zqq l.prog w K mg base:=⟨f10,_,zwp F10 T , qh X G a10,k10,b10⟩
 have D_rules_that_fit:zjx l.prog w K mg base:=⟨f11,_,znt F11 T D_check_call D_fits_under D_roofs_in_call D_roofs_of,qh X G a11,k11,b11⟩
 have D_nearest_of:zom l.prog w K mg base:=⟨f12,_,zui F12 T D_is_nearer,qh X G a12,k12,b12⟩
 have D_rule_names:zon l.prog w K mg base:=⟨f13,_,zuj F13 T , qh X G a13,k13,b13⟩
 have D_answer_by:zqr l.prog w K mg base:=⟨f14,_,zwq F14 T , qh X G a14,k14,b14⟩
 have D_nearest:zwm l.prog w K mg base:=⟨f15,_,zabn F15 T D_nearest_of D_roofs_of D_rule_names D_rules_that_fit,qh X G a15,k15,b15⟩
 have D_answer_of:zly l.prog w K mg base:=⟨f16,_,zwr F16 T D_answer_by D_nearest,qh X G a16,k16,b16⟩
 have D_law_feed:zsk l.prog w K mg base:=⟨f17,_,zyq F17 T , qh X G a17,k17,b17⟩
 have D_law_take:zff l.prog w K mg base:=⟨f18,_,zyr F18 T , qh X G a18,k18,b18⟩
 have D_law_letters:zmv l.prog w K mg base:=⟨f19,_,zrk F19 T D_law_take,qh X G a19,k19,b19⟩
 have D_law_names:zlz l.prog w K mg base:=⟨f20,_,zws F20 T D_law_letters D_law_take,qh X G a20,k20,b20⟩
 have D_law_web:zwn l.prog w K mg base:=⟨f21,_,zabo F21 T D_law_take,qh X G a21,k21,b21⟩
 have D_law_above:zqs l.prog w K mg base:=⟨f22,_,zwt F22 T , qh X G a22,k22,b22⟩
 have D_law_reach:zqt l.prog w K mg base:=⟨f23,_,zwu F23 T , qh X G a23,k23,b23⟩
 have D_law_rules:zqu l.prog w K mg base:=⟨f24,_,zwv F24 T D_law_names D_law_take,qh X G a24,k24,b24⟩
 have D_law_arm:zwo l.prog w K mg base:=⟨f25,_,zabp F25 T D_law_take,qh X G a25,k25,b25⟩
 have D_law_lesser:zoo l.prog w K mg base:=⟨f26,_,zuk F26 T D_law_reach D_law_take,qh X G a26,k26,b26⟩
 have D_law_stays:zqv l.prog w K mg base:=⟨f27,_,zww F27 T D_law_lesser D_answer_of,qh X G a27,k27,b27⟩
 exact zapd F28 T D_law_above D_law_arm D_law_feed D_law_names D_law_rules D_law_stays D_law_take D_law_web D_answer_of
theorem walk {l:PySem.W.OpenLaw} {q:Program} {loose:List Str} {XP:(Str→Option Value)→Heap→Prop} {YP:World→Heap→Prop} {d:DefRec} {K:Params→qB} (hn:l.most=some 63) (hdf:d.params.defaults=[])
  (hY:∀ (w:World) (h:Heap),YP w h→(K w.params).In h)
  (F:∀ (w:World) (mg:Str→Option Value) (fa:Addr) (h:Heap),(K w.params).In h→h.Ns qO mg→mg d.name=some (.ref fa) →
   ∃ fd:qAC,(∀ (s:Shared) (u:Value),BindsTo s fd ⟨[u],[]⟩ [("_law_script",u)])∧∀ base:Heap,(K w.params).In base→base.Ns qO mg→FnOk l.prog w (K w.params) mg base CX0 8 fa fd ["_law_script"] (zaio (K w.params))) :
  PySem.W.WalkO q loose XP YP l.row.toRowW d [] (fun f vs=>PySem.call f vs) :=
 L2.walk_of (n:=63) (k:=8) (x:="_law_script") (CX:=fun _=>CX0) (sp:=fun w=>zaio (K w.params)) hn (by decide) hdf ⟨rfl,by decide,by decide⟩ hY F (fun _ _ a ns hl _ hS=>⟨a,ns,rfl,hS,fun _=>rfl⟩) fun _ _ _ _ _ z=>z
end Bc
theorem PySem.W.Fast.te2396744523775952854:True:=trivial
noncomputable def PySem.W.Fast.tw1670534628126747196:PySem.Program:=PySem.Challenge.pw_bestcalls_k26_quarrels_stay_in_lesser_ca
theorem PySem.W.Fast.te1670534628126747196:PySem.Challenge.pw_bestcalls_k26_quarrels_stay_in_lesser_ca=PySem.W.Fast.tw1670534628126747196:=rfl
open PySem PySem.W PyProof.Rows
set_option maxRecDepth 100000 in
set_option maxHeartbeats 0 in
theorem PySem.Challenge.cw_bestcalls_k26_quarrels_stay_in_lesser_ca_holds : PySem.Challenge.rw_bestcalls_k26_quarrels_stay_in_lesser_ca.Holds := by
 w_on;o_law;k_head;(case hw=>w_witness2)
 k_fill
 refine Bc.walk (l:=PySem.Challenge.rw_bestcalls_k26_quarrels_stay_in_lesser_ca) rfl rfl (fun w h Y=>PySem.W.kIn_of Y) ?F
 case F =>
  intro w mg fa h KX G hmg
  refine' Bc.all_mk KX G hmg ?a1 ?l1 ?c1 ?k1 ?a2 ?l2 ?c2 ?k2 ?a3 ?l3 ?c3 ?k3 ?a4 ?l4 ?c4 ?k4 ?a5 ?l5 ?c5 ?k5 ?a6 ?l6 ?c6 ?k6 ?a7 ?l7 ?c7 ?k7 ?a8 ?l8 ?c8 ?k8 ?a9 ?l9 ?c9 ?k9 ?a10 ?l10 ?c10 ?k10 ?a11 ?l11 ?c11 ?k11 ?a12 ?l12 ?c12 ?k12 ?a13 ?l13 ?c13 ?k13 ?a14 ?l14 ?c14 ?k14 ?a15 ?l15 ?c15 ?k15 ?a16 ?l16 ?c16 ?k16 ?a17 ?l17 ?c17 ?k17 ?a18 ?l18 ?c18 ?k18 ?a19 ?l19 ?c19 ?k19 ?a20 ?l20 ?c20 ?k20 ?a21 ?l21 ?c21 ?k21 ?a22 ?l22 ?c22 ?k22 ?a23 ?l23 ?c23 ?k23 ?a24 ?l24 ?c24 ?k24 ?a25 ?l25 ?c25 ?k25 ?a26 ?l26 ?c26 ?k26 ?a27 ?l27 ?c27 ?k27 ?a28 ?l28 ?c28 ?k28 ?z1 ?z2 ?z3 ?z4 ?z5 ?z6 ?z7 ?z8 ?z9 ?z10
  (case a1=>k_is)
  (case l1=>k_is)
  (case c1=>k_is)
  (case k1=>k_is)
  (case a2=>k_is)
  (case l2=>k_is)
  (case c2=>k_is)
  (case k2=>k_is)
  (case a3=>k_is)
  (case l3=>k_is)
  (case c3=>k_is)
  (case k3=>k_is)
  (case a4=>k_is)
  (case l4=>k_is)
  (case c4=>k_is)
  (case k4=>k_is)
  (case a5=>k_is)
  (case l5=>k_is)
  (case c5=>k_is)
  (case k5=>k_is)
  (case a6=>k_is)
  (case l6=>k_is)
  (case c6=>k_is)
  (case k6=>k_is)
  (case a7=>k_is)
  (case l7=>k_is)
  (case c7=>k_is)
  (case k7=>k_is)
  (case a8=>k_is)
  (case l8=>k_is)
  (case c8=>k_is)
  (case k8=>k_is)
  (case a9=>k_is)
  (case l9=>k_is)
  (case c9=>k_is)
  (case k9=>k_is)
  (case a10=>k_is)
  (case l10=>k_is)
  (case c10=>k_is)
  (case k10=>k_is)
  (case a11=>k_is)
  (case l11=>k_is)
  (case c11=>k_is)
  (case k11=>k_is)
  (case a12=>k_is)
  (case l12=>k_is)
  (case c12=>k_is)
  (case k12=>k_is)
  (case a13=>k_is)
  (case l13=>k_is)
  (case c13=>k_is)
  (case k13=>k_is)
  (case a14=>k_is)
  (case l14=>k_is)
  (case c14=>k_is)
  (case k14=>k_is)
  (case a15=>k_is)
  (case l15=>k_is)
  (case c15=>k_is)
  (case k15=>k_is)
  (case a16=>k_is)
  (case l16=>k_is)
  (case c16=>k_is)
  (case k16=>k_is)
  (case a17=>k_is)
  (case l17=>k_is)
  (case c17=>k_is)
  (case k17=>k_is)
  (case a18=>k_is)
  (case l18=>k_is)
  (case c18=>k_is)
  (case k18=>k_is)
  (case a19=>k_is)
  (case l19=>k_is)
  (case c19=>k_is)
  (case k19=>k_is)
  (case a20=>k_is)
  (case l20=>k_is)
  (case c20=>k_is)
  (case k20=>k_is)
  (case a21=>k_is)
  (case l21=>k_is)
  (case c21=>k_is)
  (case k21=>k_is)
  (case a22=>k_is)
  (case l22=>k_is)
  (case c22=>k_is)
  (case k22=>k_is)
  (case a23=>k_is)
  (case l23=>k_is)
  (case c23=>k_is)
  (case k23=>k_is)
  (case a24=>k_is)
  (case l24=>k_is)
  (case c24=>k_is)
  (case k24=>k_is)
  (case a25=>k_is)
  (case l25=>k_is)
  (case c25=>k_is)
  (case k25=>k_is)
  (case a26=>k_is)
  (case l26=>k_is)
  (case c26=>k_is)
  (case k26=>k_is)
  (case a27=>k_is)
  (case l27=>k_is)
  (case c27=>k_is)
  (case k27=>k_is)
  (case a28=>k_is)
  (case l28=>k_is)
  (case c28=>k_is)
  (case k28=>k_is)
  (case z1=>k_is)
  (case z2=>k_is)
  (case z3=>k_is)
  (case z4=>k_is)
  (case z5=>k_is)
  (case z6=>k_is)
  (case z7=>k_is)
  (case z8=>k_is)
  (case z9=>k_is)
  (case z10=>k_is)
