import PyProof.Rows.All
import Wide.All
import OpenK.AllK
import Wide.FinOn
import Lean
import PyProof.EqAt
import PyProof.EqKinds
import PyProof.TupleCall
import KE.KRevSl
import KE.KTryOn
import PyProof.ExcInit
import PyProof.ExcClass3
import PyProof.ExcBaseAll.ValueError
import PyProof.InstStoreFacts
import ObjForm.Fk.InstStore
import PyProof.ExcArgsOwn
import PyProof.ExcAttrAll.ValueError
import PyProof.PureStr
import PyProof.FString2
import PyProof.Rows.FactsFmt
import PyProof.FactsAll.NoneType_2
import PyProof.NsDelKeeps
import PyProof.IsiBase
import PyProof.DictWalks
import PySem.Challenge.RW_bestcalls_k23_arms_within_arms
set_option genSizeOf false
set_option Elab.async false
set_option linter.all false
set_option maxRecDepth 100000
noncomputable section
open Option renaming bind_eq_some_iff→qA,bind_some→qC,map_eq_some_iff→qG,map_some→qAw,isSome_some→qCH,isSome_map→qCQ
open PySem.W renaming Frag→qB,nsIn→qT,keepIn→qV,codeIn→qa,mg_of→qb,fnOf→qc,mg_none_of→qw,kia_one→q0,looks_findIn→qAE,cellsFrom_some→qBA,callWith_K→qBO,kitx_list→qBU,kitx_dict→qBV,kitx_tuple→qB6,codeRec_of→qB7,kitx_none→qCF,kitx_bool→qCG,kitx_str→qCO,kitx_int→qCP
open List renaming length_map→qD,getElem?_eq_getElem→qF,size_toArray→qH,length_append→qK,mem_cons_of_mem→qO,getElem?_eq_some_iff→qQ,getElem?_set_ne→qU,mem_append_right→qX,getElem?_map→qd,getElem?_set_self→qe,length_cons→qf,getElem?_append_right→qg,getD_eq_getElem?_getD→qh,mem_append_left→qi,length_set→qj,getElem?_append_left→qk,mem_cons_self→qm,lookup_cons→qo,contains_cons→qu,map_cons→qv,mem_cons→qy,mem_append→qAA,map_append→qAG,append_nil→qAH,all_eq_true→qAI,drop_eq_getElem_cons→qAM,find?_cons→qAN,mem_singleton→qAP,any_cons→qAS,getElem?_cons_zero→qAY,take_append_of_le_length→qAb,nodup_cons→qAd,length_replicate→qAe,drop_length→qAl,map_congr_left→qAm,length_eq_zero_iff→qAp,getElem?_cons_succ→qAq,foldl_cons→qAr,length_range→qAt,dropLast_concat_getLast→qAx,all_cons→qAy,mem_filter→qAz,length_nil→qA0,filterMap_cons→qA1,map_map→qA3,pairwise_iff_getElem→qA6,mem_range→qA7,getElem?_replicate→qBC,take_length→qBE,mem_flatMap→qBF,length_take→qBG,of_mem_zip→qBJ,mem_map→qBK,mem_of_getElem?→qBM,mem_filterMap→qBW,nodup_append→qBa,foldl_append→qBb,append_assoc→qBc,getElem_mem→qBj,filter_cons→qBk,any_eq_true→qBl,nodup_nil→qBx,mem_take_iff_getElem→qBy,map_nil→qB8,getElem?_eq_none→qB9,dropLast_eq_take→qCA,any_map→qCB,all_map→qCC,length_dropLast→qCJ,dropLast_concat→qCK,getElem_of_mem→qCR,getElem?_range→qCS
open PySem.Heap renaming get?_push_of_some→qE,lt_size→qS,get?_update_other→qx,get?_push_size→qAB,get?_update_self→qAO,get?_none_of_le→qBN,size_push→qBP,get?_update_ne→qCT
open Bool renaming false_ne_true→qI,and_eq_true→qq,eq_iff_iff→qAW,or_true→qAf,false_eq_true→qA4,false_or→qB4,or_eq_true_iff→qCV
open PySem renaming Expr→qJ,mainGlobals→qL,sizeLine→qM,wpAny_bind→qN,wpAny_loadPart_at→qW,Pos→qZ,wpAny_pure→qp,mem_of_lookup→qr,FuncData→qt,starEach→q9,wpAny_isSubtype_exc→qAJ,sizeLine_eq→qAT,wpAny_mono→qAk,codeAny_call_builtin→qAn,wpAny_getItem_str_slice→qAu,wpAny_Call_Name_kw→qAv,wpAny_passesOwn→qA8,wpAny_execs_nil→qA9,codeAny_mono→qBB,wpAny_setField→qBD,wpAny_truthy_bool→qBI,wpAny_standAt→qBL,post_val_or_str→qBT,wpAny_field→qBd,wpAny_holding→qBm,tupleKind_room_in1→qBn,wpAny_call→qBs,wpAny_execs_cons→qBz,wpAny_newFunctionEnv_cells→qB5,wpAny_comprehension_free→qCN
open Option.some renaming inj→qP
open Nat renaming le_refl→qR,lt_of_lt_of_le→qY,ne_of_lt→qAC,le_trans→qAF,zero_le→qAZ,lt_irrefl→qAa,lt_of_le_of_lt→qBY,le_of_succ_le→qBf,le_of_lt→qBi,ne_of_gt→qCI
open PySem.PassesOwn renaming never→qz
open PySem.Str renaming ofString→qAD
open Array renaming getElem?_eq_some_iff→qAK,getElem?_eq_getElem→qA5,size_append→qBZ,mem_toList_iff→qCE,length_toList→qCM
open PySem.PyData renaming strOk→qAL,eqv→qAV,canLayAll0→qAs,depthAll→qBh
open PySem.Obj renaming data_mapFields→qAQ,isFreed_of_fields→qAg
open PySem.F renaming plainAttrs_list→qAR,type_list_append→qAi,slot_list_append→qAj,excBase_ValueError→qA2,typeOf_object_class→qBQ,store_ValueError→qBg,type_dict_update→qBo,slot_dict_update→qBp,args_tuple_add_2→qBq,plainAttrs_dict→qBt,entry_tuple_add→qBu,slot_tuple_add→qBw,type_list_pop→qB2,slot_list_pop→qB3,slot_gs_get→qCL
open Int renaming emod_lt_of_pos→qAU,emod_nonneg→qAh
open PySem.SeqAt renaming shaped→qAX,canLay_of_shaped→qAc
open Ne renaming symm→qAo
open PySem.Calls renaming callWith_builtin→qBH,Name_function_global→qBr,evalArgs_plain→qCD,Constant_str→qCU
open PyProof.Rows renaming callWith_type1→qBR
open PySem.Paired renaming length→qBS
open PySem.Code renaming quiet_builtin→qBX
open Sum.inr renaming inj→qBe
open PySem.W.Looks renaming ld→qBv
open PySem.SeqAt.EqAt renaming str_int→qB0,int_str→qB1
namespace L2
open PySem PySem.Spec PyProof.Rows
noncomputable abbrev Key := Sum Int Str
noncomputable def keyIs:Key→Value→Bool
  | .inl k,v => Value.isInt k v
  | .inr x,v => Value.isStrOf x v
noncomputable def keyH (w:World):Key→Int
  | .inl k => hashInt k
  | .inr x => hashStr w x
theorem keyIs_shape:∀ {k:Key} {v:Value},keyIs k v=true→(∃ i t,k=Sum.inl i∧v=Value.int i t)∨(∃ x t,k=Sum.inr x∧v=Value.str x t)
  | .inl i,v,h => by
    obtain ⟨t,e⟩ := Value.isInt_shape (k := i) (v := v) h
    exact .inl ⟨i,t,rfl,e⟩
  | .inr x,v,h => by
    obtain ⟨t,e⟩ := Value.isStrOf_shape (x := x) (v := v) h
    exact .inr ⟨x,t,rfl,e⟩
theorem keyIs_int (i:Int) (t:Tok):keyIs (.inl i) (.int i t)=true := by simp [keyIs,Value.isInt]
theorem keyIs_str (x:Str) (t:Tok):keyIs (.inr x) (.str x t)=true := by simp [keyIs,Value.isStrOf]
theorem key_ll (a b:Int):decide ((Sum.inl a:Key)=Sum.inl b)=(a==b) := by
  by_cases e:a=b
  · subst e;simp
  · have h:¬ (Sum.inl a:Key)=Sum.inl b := fun q => e (Sum.inl.inj q)
    rw [decide_eq_false h]
    exact (beq_eq_false_iff_ne.mpr e).symm
theorem key_rr (a b:Str):decide ((Sum.inr a:Key)=Sum.inr b)=decide (a=b) := by
  by_cases e:a=b
  · subst e;simp
  · have h:¬ (Sum.inr a:Key)=Sum.inr b := fun q => e (qBe q)
    rw [decide_eq_false h,decide_eq_false e]
theorem key_lr (a:Int) (b:Str):decide ((Sum.inl a:Key)=Sum.inr b)=false := decide_eq_false (fun q => nomatch q)
theorem key_rl (a:Str) (b:Int):decide ((Sum.inr a:Key)=Sum.inl b)=false := decide_eq_false (fun q => nomatch q)
noncomputable def mixKind (prog:Program) (w:World):PySem.KeyKind prog w Key where
  is := keyIs
  hash := keyH w
  inj := fun v a b ha hb => by
    rcases keyIs_shape ha with ⟨i,t,rfl,rfl⟩|⟨x,t,rfl,rfl⟩
    · rcases keyIs_shape hb with ⟨j,u,rfl,e⟩|⟨y,u,rfl,e⟩
      · injection e with e1 _;rw [e1]
      · exact nomatch e
    · rcases keyIs_shape hb with ⟨j,u,rfl,e⟩|⟨y,u,rfl,e⟩
      · exact nomatch e
      · injection e with e1 _;rw [e1]
  byValue := fun k v h => by
    rcases keyIs_shape h with ⟨i,t,rfl,rfl⟩|⟨x,t,rfl,rfl⟩<;>rfl
  pyHash := fun hv h => by
    rcases keyIs_shape hv with ⟨i,t,rfl,rfl⟩|⟨x,t,rfl,rfl⟩
    · exact wpAny_pyHash_int h
    · exact wpAny_pyHash_str h
  eqBool := fun hu hv h => by
    rcases keyIs_shape hu with ⟨i,t,rfl,rfl⟩|⟨x,t,rfl,rfl⟩
    · rcases keyIs_shape hv with ⟨j,u,rfl,rfl⟩|⟨y,u,rfl,rfl⟩
      · rw [key_ll] at h;exact wpAny_eqBool_int h
      · rw [key_lr] at h;exact qB1 i t y u _ _ _ _ h
    · rcases keyIs_shape hv with ⟨j,u,rfl,rfl⟩|⟨y,u,rfl,rfl⟩
      · rw [key_rl] at h;exact qB0 x t j u _ _ _ _ h
      · rw [key_rr] at h;exact wpAny_eqBool_str h
  «strs» := fun k x t v h => by
    rcases keyIs_shape h with ⟨i,u,rfl,e⟩|⟨y,u,rfl,e⟩
    · exact nomatch e
    · injection e with e1 _
      subst e1
      cases v<;>rfl
theorem mixKind_int (prog:Program) (w:World) (i:Int) (t:Tok):(mixKind prog w).is (.inl i) (.int i t)=true := keyIs_int i t
theorem mixKind_str (prog:Program) (w:World) (x:Str) (t:Tok):(mixKind prog w).is (.inr x) (.str x t)=true := keyIs_str x t
inductive V where
  | non|bl (b:Bool)|int (i:Int)|str (x:Str)|byt (b:Array UInt8)|flt (b:UInt64)|ref (a:Addr)|ty (n:String)
  deriving DecidableEq
noncomputable def RelV:V→Value→Prop
  | .non,u => u=Value.none
  | .bl b,u => u=Value.bool b
  | .int i,u => ∃ t,u=Value.int i t
  | .str x,u => ∃ t,u=Value.str x t
  | .byt b,u => ∃ t,u=Value.bytes b t
  | .flt b,u => ∃ t,u=Value.float b t
  | .ref a,u => u=Value.ref a
  | .ty n,u => u=Value.type n
noncomputable abbrev Vals:List V→List Value→Prop := Paired RelV
theorem Vals.length {xs:List V} {us:List Value} (r:Vals xs us):xs.length=us.length := qBS r
theorem Vals.get:∀ {xs:List V} {us:List Value} {i:Nat} {x:V},Vals xs us→xs[i]?=some x→∃ u,us[i]?=some u∧RelV x u
  | _,_,_,_,.nil,e => by simp at e
  | _,_,0,_,.cons r _,e => by simp at e;subst e;exact ⟨_,rfl,r⟩
  | _,_,i+1,x,.cons _ t,e => by
    obtain ⟨u,h1,h2⟩ := Vals.get (i := i) (x := x) t (by simpa using e)
    exact ⟨u,by simpa using h1,h2⟩
theorem Vals.set {x:V} {u:Value} (r:RelV x u):∀ {xs:List V} {us:List Value} (i:Nat),Vals xs us→Vals (xs.set i x) (us.set i u)
  | _,_,_,.nil => .nil
  | _,_,0,.cons _ t => .cons r t
  | _,_,i+1,.cons q t => .cons q (Vals.set r i t)
theorem Vals.append:∀ {xs ys:List V} {us ws:List Value},Vals xs us→Vals ys ws→Vals (xs++ys) (us++ws)
  | _,_,_,_,.nil,s => s
  | _,_,_,_,.cons r t,s => .cons r (Vals.append t s)
theorem Vals.take:∀ {xs:List V} {us:List Value} (n:Nat),Vals xs us→Vals (xs.take n) (us.take n)
  | _,_,0,_ => .nil
  | _,_,_+1,.nil => .nil
  | _,_,n+1,.cons r t => .cons r (Vals.take n t)
theorem Vals.drop:∀ {xs:List V} {us:List Value} (n:Nat),Vals xs us→Vals (xs.drop n) (us.drop n)
  | _,_,0,r => r
  | _,_,_+1,.nil => .nil
  | _,_,n+1,.cons _ t => Vals.drop n t
noncomputable def RelO:Option V→Option Value→Prop
  | some v,some u => RelV v u
  | none,none => True
  | _,_ => False
noncomputable def KV {κ:Type}:List (κ×V)→List (κ×Value)→Prop := Paired fun (p:κ×V) (q:κ×Value) => p.1=q.1∧RelV p.2 q.2
noncomputable def kV:Key→V
  | .inl i => .int i
  | .inr x => .str x
inductive HO where
  | lst (xs:List V)
  | tup (xs:List V)
  | dK (kvs:List (Key×V))|dT (kvs:List (List Key×V))
  | set (S:Int→Bool) (n:Nat)
  | ins (C dx:Addr) (fs:List (Str×V))
  | own (x:Addr)
  | xd (fs:List (Str×V))
  | met (f x:Addr)
  | rng (lo hi:Int)
  | frz (o:Obj) (u:HO)
  | tbl (ps:Array Value)
  | ext (φ:Heap→Prop)
noncomputable abbrev Hp := Addr→Option HO
noncomputable def upd (H:Hp) (a:Addr) (o:HO):Hp := fun b => if b=a then some o else H b
theorem upd_same {H:Hp} {a:Addr} {o:HO}:upd H a o a=some o := by unfold upd;rw [if_pos rfl]
theorem upd_ne {H:Hp} {a b:Addr} {o:HO} (h:b≠a):upd H a o b=H b := by unfold upd;rw [if_neg h]
theorem upd_upd {H:Hp} {a:Addr} {o u:HO}:upd (upd H a o) a u=upd H a u := by
  funext b;unfold upd;split<;>rfl
theorem ne_of {H:Hp} {a b:Addr} {o u:HO} (h:H a=some o) (h':H b=some u) (d:o≠u):a≠b := by
  intro e;subst e;rw [h] at h';exact d (qP h')
theorem ne_of_none {H:Hp} {a b:Addr} {o:HO} (h:H a=some o) (h':H b=none):a≠b := by
  intro e;subst e;rw [h] at h';cases h'
section
variable (P:Program) (w:World)
noncomputable def ObjOk (H:Hp) (h:Heap) (a:Addr):HO→Prop
  | .lst xs => xs.length≤qM∧∃ (its:List Value) (n:Nat),Vals xs its∧h.get? a=some {cls := .type "list",data := .seq its.toArray n}
  | .tup xs => xs.length≤qM∧∃ its:List Value,Vals xs its∧IsTup h a its.toArray
  | .dK kvs => kvs.length≤qM∧(a==sysModules)=false∧∃ vs,KV kvs vs∧h.DictOf (mixKind P w) a vs
  | .dT kvs => kvs.length≤qM∧(a==sysModules)=false∧∃ xs:List (List Key×Addr×Value),
      Paired (fun (p:List Key×V) (q:List Key×Addr×Value) => p.1=q.1∧H q.2.1=some (.tup (p.1.map kV))∧RelV p.2 q.2.2) kvs xs ∧
      ∃ o es ep,h.get? a=some o∧o.ExactDict∧o.data=.dict es ep∧es.toList=xs.map (entryOfKey (tupleKind (mixKind P w)))∧(xs.map (·.1)).Nodup
  | .set S n => h.SetOf (intKind P w) a S n
  | .ins C dx fs => H dx=some (.own a)∧fs.length≤1000∧dx≠a∧h.get? a=some (PySem.W.instObj C dx) ∧
      ∃ mA,h.Ns1 dx mA∧(∀ f,RelO (fs.lookup f) (mA f))∧PySem.Within mA (fs.map (·.1))
  | .own _ => ∃ o,h.get? a=some o
  | .xd fs => ∃ mA,h.Ns1 a mA∧∀ f,RelO (fs.lookup f) (mA f)
  | .rng lo hi => ∃ t u v,h.get? a=some {cls := .type "range",data := .fields #[.int lo t,.int hi u,.int 1 v]}
  | .frz o u => h.get? a=some o∧ObjOk H h a u
  | .tbl ps => h.get? a=some {cls := .none,data := .fields ps}
  | .met f x => h.get? a=some (PySem.W.methodObj (.ref f) (.ref x))
  | .ext φ => φ h∧(∃ o,h.get? a=some o)∧∀ h1 h2:Heap,φ h1→(∀ o,h1.get? a=some o→h2.get? a=some o)→φ h2
noncomputable def HOk (H:Hp) (h:Heap):Prop := ∀ a o,H a=some o→ObjOk P w H h a o
end
section
variable {P:Program} {w:World} {H H':Hp} {h h':Heap} {a:Addr} {o:HO}
theorem ObjOk.lt (x:ObjOk P w H h a o):a<h.objs.size := by
  cases o with
  | lst xs => obtain ⟨_,_,_,_,e⟩ := x;exact qS e
  | tup xs => obtain ⟨_,_,_,p⟩ := x;exact p.lt
  | dK kvs => obtain ⟨_,_,_,_,o,_,_,e,_⟩ := x;exact qS e
  | dT kvs => obtain ⟨_,_,_,_,o,_,_,e,_⟩ := x;exact qS e
  | set S n => obtain ⟨o,_,_,_,e,_⟩ := x;exact qS e
  | ins C dx fs => obtain ⟨_,_,_,e,_⟩ := x;exact qS e
  | own y => obtain ⟨_,e⟩ := x;exact qS e
  | xd fs => obtain ⟨_,⟨_,_,_,e,_⟩,_⟩ := x;exact qS e
  | rng lo hi => obtain ⟨_,_,_,e⟩ := x;exact qS e
  | frz ob u => obtain ⟨e,_⟩ := x;exact qS e
  | tbl ps => exact qS (show h.get? a=some _ from x)
  | met f y => exact qS (show h.get? a=some _ from x)
  | ext φ => obtain ⟨_,⟨_,e⟩,_⟩ := x;exact qS e
theorem Paired.mapP {α β:Type} {F G:α→β→Prop}:∀ {l₁:List α} {l₂:List β},Paired F l₁ l₂→(∀ a b,F a b→G a b)→Paired G l₁ l₂
  | _,_,.nil,_ => .nil
  | _,_,.cons r t,f => .cons (f _ _ r) (Paired.mapP t f)
theorem ObjOk.stay (x:ObjOk P w H h a o) (k:∀ b u,(b=a∨H b=some (.own a))→h.get? b=some u→h'.get? b=some u)
    (ho:∀ b,H b=some (.own a)→H' b=some (.own a)) (ht:∀ b xs,H b=some (.tup xs)→H' b=some (.tup xs)):ObjOk P w H' h' a o := by
  induction o with
  | lst xs => obtain ⟨z,its,n,r,e⟩ := x;exact ⟨z,its,n,r,k _ _ (.inl rfl) e⟩
  | tup xs => obtain ⟨z,its,r,ob,e,c⟩ := x;exact ⟨z,its,r,ob,k _ _ (.inl rfl) e,c⟩
  | dK kvs => obtain ⟨z,y,vs,r,ob,es,ep,e,c⟩ := x;exact ⟨z,y,vs,r,ob,es,ep,k _ _ (.inl rfl) e,c⟩
  | dT kvs =>
    obtain ⟨z,y,xs,r,ob,es,ep,e,c⟩ := x
    exact ⟨z,y,xs,Paired.mapP r fun p q z => ⟨z.1,ht _ _ z.2.1,z.2.2⟩,ob,es,ep,k _ _ (.inl rfl) e,c⟩
  | set S n => obtain ⟨ob,es,ep,t,e,c⟩ := x;exact ⟨ob,es,ep,t,k _ _ (.inl rfl) e,c⟩
  | ins C dx fs =>
    obtain ⟨d,z,ne,e,mA,⟨od,es,ep,e2,c⟩,r⟩ := x
    exact ⟨ho _ d,z,ne,k _ _ (.inl rfl) e,mA,⟨od,es,ep,k _ _ (.inr d) e2,c⟩,r⟩
  | own y => obtain ⟨ob,e⟩ := x;exact ⟨ob,k _ _ (.inl rfl) e⟩
  | xd fs => obtain ⟨mA,⟨od,es,ep,e,c⟩,r⟩ := x;exact ⟨mA,⟨od,es,ep,k _ _ (.inl rfl) e,c⟩,r⟩
  | rng lo hi => obtain ⟨t,u,v,e⟩ := x;exact ⟨t,u,v,k _ _ (.inl rfl) e⟩
  | frz ob u ih => obtain ⟨e,q⟩ := x;exact ⟨k _ _ (.inl rfl) e,ih q⟩
  | tbl ps =>
    have e:h.get? a=some {cls := .none,data := .fields ps} := x
    show h'.get? a=some {cls := .none,data := .fields ps}
    exact k a _ (.inl rfl) e
  | met f y =>
    have e:h.get? a=some (PySem.W.methodObj (.ref f) (.ref y)) := x
    show h'.get? a=some (PySem.W.methodObj (.ref f) (.ref y))
    exact k a _ (.inl rfl) e
  | ext φ => obtain ⟨p,⟨o,e⟩,st⟩ := x;exact ⟨st _ _ p fun o q => k _ _ (.inl rfl) q,⟨o,k _ _ (.inl rfl) e⟩,st⟩
theorem HOk.lt (x:HOk P w H h) (e:H a=some o):a<h.objs.size := (x a o e).lt
theorem HOk.fresh (x:HOk P w H h) (e:h.objs.size≤a):H a=none := by
  cases q:H a with
  | none => rfl
  | some u => exact absurd (qY (x.lt q) e) (qAa _)
theorem HOk.kept (x:HOk P w H h) (k:∀ b u,h.get? b=some u→h'.get? b=some u):HOk P w H h' := fun a o e =>
  (x a o e).stay (fun b u _ q => k b u q) (fun _ q => q) fun _ _ q => q
theorem HOk.laid (x:HOk P w H h) (k:∀ b u,h.get? b=some u→h'.get? b=some u) (hp:h.objs.size≤a) (new:ObjOk P w (upd H a o) h' a o):HOk P w (upd H a o) h' := fun b u e => by
  have hn := x.fresh hp
  by_cases hb:b=a
  · subst hb;rw [upd_same] at e;cases e;exact new
  · rw [upd_ne hb] at e
    exact (x b u e).stay (fun c v _ q => k c v q) (fun c q => by rw [upd_ne (ne_of_none q hn)];exact q) fun c xs q => by rw [upd_ne (ne_of_none q hn)];exact q
end
noncomputable def Rd (H:Hp) (a:Addr) (u:HO):Prop := H a=some u∨∃ o,H a=some (.frz o u)
theorem Rd.ok {P:Program} {w:World} {H:Hp} {h:Heap} {a:Addr} {u:HO} (r:Rd H a u) (x:HOk P w H h):ObjOk P w H h a u := by
  rcases r with r|⟨o,r⟩
  · exact x a u r
  · obtain ⟨_,q⟩ := x a _ r
    exact q
noncomputable def Mut:Option HO→Prop
  | some (.lst _) => True
  | some (.dK _) => True
  | some (.dT _) => True
  | some (.set _ _) => True
  | some (.ins _ _ _) => True
  | some (.ext _) => True
  | _ => False
section
variable {P:Program} {w:World} {H:Hp} {h h':Heap} {x e:Addr} {o':HO}
theorem HOk.write (ok:HOk P w H h) (mu:Mut (H x)) (he:e=x∨H e=some (.own x)) (k:∀ b u,b≠e→h.get? b=some u→h'.get? b=some u) (heo:∃ u,h'.get? e=some u)
    (new:ObjOk P w (upd H x o') h' x o'):HOk P w (upd H x o') h' := fun b u q => by
  have nown:∀ c y,H c=some (.own y)→c≠x := fun c y r z => by subst z;rw [r] at mu;exact mu
  have ntup:∀ c xs,H c=some (.tup xs)→c≠x := fun c xs r z => by subst z;rw [r] at mu;exact mu
  by_cases hb:b=x
  · subst hb;rw [upd_same] at q;cases q;exact new
  · rw [upd_ne hb] at q
    by_cases hbe:b=e
    · have q':H b=some (.own x) := by
        rcases he with z|z
        · exact absurd (hbe.trans z) hb
        · rw [hbe];exact z
      rw [q] at q';cases q'
      obtain ⟨v,hv⟩ := heo
      exact ⟨v,by rw [hbe];exact hv⟩
    · refine (ok b u q).stay (fun c v hc r => k c v ?_ r) (fun c r => by rw [upd_ne (nown c b r)];exact r) fun c xs r => by rw [upd_ne (ntup c xs r)];exact r
      rcases hc with rfl|hc
      · exact hbe
      · rintro rfl
        rcases he with z|z
        · exact nown c b hc z
        · rw [hc] at z;cases z;exact hb rfl
end
set_option genInjectivity false in
structure Un (fs ex:List Addr) (H H':Hp) (h h':Heap):Prop where
  keep:∀ b o,h.get? b=some o→H b=none→b∉fs→b∉ex→h'.get? b=some o
  slot:∀ b o,h.get? b=some o→H b=none→b∈fs→b∉ex→∃ sl,h'.get? b=some {o with slots := sl}
  free:∀ b o,h.get? b=some o→H b=none→b∉ex→H' b=none
  there:∀ b o,h.get? b=some o→b∉ex→∃ o',h'.get? b=some o'
  tups:∀ b xs,H b=some (.tup xs)→H' b=some (.tup xs)
  frzs:∀ b o u,H b=some (.frz o u)→H' b=some (.frz o u)
  tbls:∀ b ps,H b=some (.tbl ps)→∃ more,H' b=some (.tbl (ps++more))
section
variable {fs fs' ex ex':List Addr} {H H1 H2:Hp} {h h1 h2 h':Heap} {a x e:Addr} {o:HO}
theorem Un.any (u:Un fs ex H H1 h h1) {b:Addr} {ob:Obj} (q:h.get? b=some ob) (n:H b=none) (hx:b∉ex):∃ sl,h1.get? b=some {ob with slots := sl} := by
  by_cases hb:b∈fs
  · exact u.slot b ob q n hb hx
  · exact ⟨ob.slots,u.keep b ob q n hb hx⟩
theorem Un.kept (k:∀ b u,h.get? b=some u→h'.get? b=some u):Un fs ex H H h h' :=
  ⟨fun b ob q _ _ _ => k b ob q,fun b ob q _ _ _ => ⟨ob.slots,k b ob q⟩,fun _ _ _ n _ => n,fun b ob q _ => ⟨ob,k b ob q⟩,fun _ _ q => q,fun _ _ _ q => q,fun _ ps q => ⟨#[],by rw [q];simp⟩⟩
theorem Un.refl:Un fs ex H H h h := Un.kept fun _ _ q => q
theorem Un.laid (k:∀ b u,h.get? b=some u→h'.get? b=some u) (hp:h.objs.size≤a) (hn:H a=none):Un fs ex H (upd H a o) h h' where
  keep := fun b u q _ _ _ => k b u q
  slot := fun b u q _ _ _ => ⟨u.slots,k b u q⟩
  free := fun b u q n _ => by rw [upd_ne (qAC (qY (qS q) hp))];exact n
  there := fun b u q _ => ⟨u,k b u q⟩
  tups := fun b xs q => by rw [upd_ne (ne_of_none q hn)];exact q
  frzs := fun b u xs q => by rw [upd_ne (ne_of_none q hn)];exact q
  tbls := fun b ps q => ⟨#[],by rw [upd_ne (ne_of_none q hn),q];simp⟩
theorem Un.write (mu:Mut (H x)) (he:e=x∨H e=some (.own x)) (k:∀ b u,b≠e→h.get? b=some u→h'.get? b=some u) (heo:∃ u,h'.get? e=some u):Un fs ex H (upd H x o) h h' := by
  have hx:∀ b,H b=none→b≠x := fun b n z => by subst z;rw [n] at mu;exact mu
  have hb:∀ b,H b=none→b≠e := fun b n z => by
    subst z
    rcases he with r|r
    · exact hx b n r
    · rw [n] at r;cases r
  have hm:∀ b u,H b=some u→¬ Mut (some u)→b≠x := fun b u q nm z => by subst z;rw [q] at mu;exact nm mu
  refine ⟨fun b u q n _ _ => k b u (hb b n) q,fun b u q n _ _ => ⟨u.slots,k b u (hb b n) q⟩,fun b u q n _ => by rw [upd_ne (hx b n)];exact n,fun b u q _ => ?_,
    fun b xs q => by rw [upd_ne (hm b _ q fun z => z)];exact q,fun b u xs q => by rw [upd_ne (hm b _ q fun z => z)];exact q,fun b ps q => ⟨#[],by rw [upd_ne (hm b _ q fun z => z),q];simp⟩⟩
  by_cases hbe:b=e
  · subst hbe;exact heo
  · exact ⟨u,k b u hbe q⟩
end
noncomputable def trk (h:Heap) (H:Hp):List Addr := (List.range h.objs.size).filter fun a => (H a).isSome
noncomputable def hidT (h:Heap) (H:Hp):Heap := PySem.W.hideAll h (trk h H)
theorem hidT_size (h:Heap) (H:Hp):(hidT h H).objs.size=h.objs.size := PySem.W.hideAll_size _ _
theorem hidT_get {h:Heap} {H:Hp} {b:Addr} {o:Obj} (e:h.get? b=some o) (n:H b=none):(hidT h H).get? b=some o :=
  PySem.W.hideAll_get _ e fun hm => by
    have q:(H b).isSome=true := (qAz.mp hm).2
    rw [n] at q;simp at q
theorem of_hidT {h:Heap} {H:Hp} {b:Addr} {o:Obj} (e:(hidT h H).get? b=some o):h.get? b=some o∧H b=none := by
  have e':h.get? b=some o := PySem.W.of_hideAll (trk h H) e
  refine ⟨e',?_⟩
  cases q:H b with
  | none => rfl
  | some x =>
    have hm:b∈trk h H := qAz.mpr ⟨qA7.mpr (qS e'),by simp [q]⟩
    have z:(hidT h H).get? b=none := PySem.W.hideAll_none (trk h H) hm
    rw [z] at e;cases e
set_option genInjectivity false in
structure Mod (K:qB) (mg:Str→Option Value) (base:Heap):Prop where
  kin:K.In base
  glob:base.Ns qL mg
  blt:∃ mb,base.Ns builtinsNs mb∧∀ x:Str,x ≠ "__name__" → mb x=bootBuiltins x
  nolimit:base.NoLimit
set_option genInjectivity false in
structure Cx where
  prog:Program
  w:World
  K:qB
  mg:Str→Option Value
  base:Heap
  A:Around
  N:List Str
  s₀:Shared
  H₀:Hp
  env:Env
  outer:List Env
  stack:List Env
  ex:List Addr
  fn:Str→Bool
  calm:Bool
  pn:List (Addr×Obj)
  xe:Value→Shared→Prop
noncomputable def frs (l:List Env):List Addr := l.filterMap (·.frame)
noncomputable abbrev Cx.fs (X:Cx):List Addr := frs X.outer
noncomputable def Vis (sc:Scope) (x:Str):Prop := sc.names.lookup x=some .local∨sc.names.lookup x=some .cell∨sc.names.lookup x=some .free
noncomputable def visB (sc:Scope) (x:Str):Bool := match sc.names.lookup x with
  | some .local => true
  | some .cell => true
  | some .free => true
  | _ => false
theorem visB.of {sc:Scope} {x:Str} (h:visB sc x=true):Vis sc x := by
  unfold visB at h
  cases e:sc.names.lookup x with
  | none => rw [e] at h;cases h
  | some k => rw [e] at h;cases k<;>first|exact .inl e|exact .inr (.inl e)|exact .inr (.inr e)|cases h
noncomputable def Loc (sc:Scope) (x:Str):Prop := sc.names.lookup x=some .local∨sc.names.lookup x=some .cell
noncomputable def Look (env:Env) (h:Heap) (m:Str→Option Value) (x:Str) (u:Value):Prop :=
  (env.kindOf x=some .local∧m x=some u)∨((env.kindOf x=some .cell∨env.kindOf x=some .free)∧∃ c,env.cells.lookup x=some c∧h.IsCell c (some u))
set_option genInjectivity false in
structure Cx.Ok (X:Cx):Prop where
  mod:Mod X.K X.mg X.base
  kind:X.env.scope.kind=.function
  glob:X.env.globals=qL
  blt:X.env.builtins=builtinsNs
  above:X.s₀.heap.objs.size≤X.env.locals
  inj:∀ x y c,X.env.cells.lookup x=some c→X.env.cells.lookup y=some c→x=y
  has:∀ x,(X.env.kindOf x=some .cell∨X.env.kindOf x=some .free)→∃ c,X.env.cells.lookup x=some c
  cab:∀ x c,X.fn x=true→X.env.cells.lookup x=some c→X.s₀.heap.objs.size≤c
  hd:X.calm=true→X.A.handled=none
  frames:X.A.frames=some X.stack
  stk:X.stack=X.outer∨(X.stack=X.env::X.outer∧X.env.frame=some X.env.locals)
  exf:∀ b∈X.ex,b≠X.env.locals∧∀ x c,X.env.cells.lookup x=some c→c≠b
  bs:∀ b o,X.base.get? b=some o→X.s₀.heap.get? b=some o∧X.H₀ b=none
  bsz:X.base.objs.size≤X.s₀.heap.objs.size
  noex:∀ b o,X.base.get? b=some o→b∉X.ex
  exfs:∀ b∈X.ex,b∉X.fs
  funs:X.s₀.heap.FunFrames X.base X.outer
  frf:∀ b∈X.fs,X.H₀ b=none
set_option genInjectivity false in
structure Inv (X:Cx) (pins:List (Addr×Obj)) (σ:List (Option V)) (H:Hp) (s:Shared):Prop where
  ok:X.Ok
  os:s.os=X.s₀.os
  bare:AllBare s.gens
  base:Un X.fs X.ex X.H₀ H X.s₀.heap s.heap
  loc:∃ m,s.heap.Ns X.env.locals m∧∀ (i:Nat) (x:Str) (v:V),X.N[i]?=some x→σ[i]?=some (some v)→Vis X.env.scope x→∃ u,RelV v u∧Look X.env s.heap m x u
  cell:∀ x c,X.env.cells.lookup x=some c→∃ v,s.heap.IsCell c v
  free:H X.env.locals=none
  freeC:∀ x c,X.env.cells.lookup x=some c→H c=none
  pin:∀ p∈X.pn++pins,s.heap.get? p.1=some p.2∧H p.1=none∧p.1≠X.env.locals∧p.1∉X.fs∧∀ v,p.2.data≠.cell v
  hok:HOk X.prog X.w H s.heap
  len:σ.length=X.N.length
section
variable {X:Cx} {pins:List (Addr×Obj)} {σ:List (Option V)} {H H':Hp} {s:Shared} {h':Heap}
theorem Cx.Ok.nofr (ok:X.Ok) {b:Addr} {o:Obj} (e:X.base.get? b=some o):b∉X.fs := fun hb => by
  have := (ok.funs.mem hb).1
  rw [e] at this;cases this
theorem Inv.bs (I:Inv X pins σ H s):∀ b o,X.base.get? b=some o→s.heap.get? b=some o∧H b=none := fun b o e =>
  ⟨I.base.keep b o (I.ok.bs b o e).1 (I.ok.bs b o e).2 (I.ok.nofr e) (I.ok.noex b o e),I.base.free b o (I.ok.bs b o e).1 (I.ok.bs b o e).2 (I.ok.noex b o e)⟩
theorem Inv.bk (I:Inv X pins σ H s):∀ b o,X.base.get? b=some o→s.heap.get? b=some o := fun b o e => (I.bs b o e).1
theorem Inv.mod (I:Inv X pins σ H s):Mod X.K X.mg X.base := I.ok.mod
theorem Inv.kIn (I:Inv X pins σ H s):X.K.In s.heap := I.ok.mod.kin.keeps I.bk
theorem Inv.fr (I:Inv X pins σ H s):∃ m,Fr X.base X.env.locals s.heap m :=
  let ⟨m,hn,_⟩ := I.loc
  ⟨m,hn,I.bk,qAF I.ok.bsz I.ok.above⟩
theorem Inv.lt (I:Inv X pins σ H s):X.env.locals<s.heap.objs.size := let ⟨_,hn,_⟩ := I.loc;hn.lt
theorem Inv.sz (I:Inv X pins σ H s):X.s₀.heap.objs.size≤s.heap.objs.size := qAF I.ok.above (qBi I.lt)
theorem Inv.nofs (I:Inv X pins σ H s) {a:Addr} (h:s.heap.objs.size≤a):a∉X.fs := fun hb => by
  obtain ⟨_,o,ho,_⟩ := I.ok.funs.mem hb
  exact absurd (qY (qS ho) (qAF I.sz h)) (qAa _)
theorem Inv.cne (I:Inv X pins σ H s):∀ x c,X.env.cells.lookup x=some c→c≠X.env.locals := fun x c e z => by
  obtain ⟨v,o,ho,hd⟩ := I.cell x c e
  obtain ⟨m,⟨o',es,ep,ho',hd',_⟩,_⟩ := I.loc
  rw [z,ho'] at ho;cases ho;rw [hd'] at hd;cases hd
theorem Inv.funs (I:Inv X pins σ H s):s.heap.FunFrames X.base X.outer := by
  have all:∀ (l:List Env),(∀ b∈frs l,b∈X.fs)→X.s₀.heap.FunFrames X.base l→s.heap.FunFrames X.base l := by
    intro l
    induction l with
    | nil => intro _ _;trivial
    | cons env r ih =>
      intro hs hl
      obtain ⟨hk,⟨L,o,hf,hn,ho,hd⟩,hr⟩ := hl
      have hL:L∈X.fs := hs L (by unfold frs;rw [qA1,hf];exact qm)
      obtain ⟨sl,e⟩ := I.base.slot L o ho (I.ok.frf L hL) hL fun z => I.ok.exfs L z hL
      exact ⟨hk,⟨L,_,hf,hn,e,hd⟩,ih (fun b hb => hs b (by unfold frs;rw [qA1,hf];exact qO _ hb)) hr⟩
  exact all X.outer (fun _ hb => hb) I.ok.funs
theorem Inv.stack (I:Inv X pins σ H s):s.heap.FunFrames X.base X.stack := by
  rcases I.ok.stk with e|⟨e,hf⟩
  · rw [e];exact I.funs
  · rw [e]
    obtain ⟨m,hn,_⟩ := I.loc
    refine .cons (by rw [I.ok.kind];decide) hf hn ?_ I.funs
    exact qBN (qAF I.ok.bsz I.ok.above)
theorem Inv.stkSub (I:Inv X pins σ H s):∀ b∈frs X.stack,b∈X.env.locals::X.fs := fun b hb => by
  rcases I.ok.stk with e|⟨e,hf⟩
  · rw [e] at hb;exact qO _ hb
  · rw [e] at hb
    unfold frs at hb
    rw [qA1,hf] at hb
    exact hb
theorem Inv.stkFree (I:Inv X pins σ H s):∀ b∈frs X.stack,H b=none := fun b hb => by
  rcases qy.mp (I.stkSub b hb) with e|hb
  · rw [e];exact I.free
  · obtain ⟨_,o,ho,_⟩ := I.ok.funs.mem hb
    exact I.base.free b o ho (I.ok.frf b hb) fun z => I.ok.exfs b z hb
theorem Inv.step {g':Array GenState} {t':Nat} {d':Drawn} {ch:List Addr} (I:Inv X pins σ H s)
    (hch:∀ b∈ch,(b∈X.ex∨X.s₀.heap.objs.size≤b)∧b≠X.env.locals∧(∀ x c,X.env.cells.lookup x=some c→c≠b)∧∀ p∈X.pn++pins,p.1≠b)
    (keep:∀ b o,b≠X.env.locals→b∉X.fs→b∉ch→s.heap.get? b=some o→H b=none→h'.get? b=some o)
    (slot:∀ b o,b≠X.env.locals→b∈X.fs→b∉ch→s.heap.get? b=some o→H b=none→∃ sl,h'.get? b=some {o with slots := sl}) (free:∀ b o,b∉ch→s.heap.get? b=some o→H b=none→H' b=none)
    (there:∀ b o,b∉ch→s.heap.get? b=some o→∃ o',h'.get? b=some o')
    (tups:∀ b xs,H b=some (.tup xs)→H' b=some (.tup xs)) (frzs:∀ b o u,H b=some (.frz o u)→H' b=some (.frz o u)) (tbls:∀ b ps,H b=some (.tbl ps)→∃ more,H' b=some (.tbl (ps++more)))
    (ns:∀ m,s.heap.Ns X.env.locals m→h'.Ns X.env.locals m) (hok:HOk X.prog X.w H' h') (hg:AllBare g') :
    Inv X pins σ H' {s with heap := h',gens := g',drawn := d',toks := t'} := by
  have neL:∀ b o,X.s₀.heap.get? b=some o→b≠X.env.locals := fun b o e => qAC (qY (qS e) I.ok.above)
  have neC:∀ b o,X.s₀.heap.get? b=some o→b∉X.ex→b∉ch := fun b o e hx hb => by
    rcases (hch b hb).1 with z|z
    · exact hx z
    · exact absurd (qY (qS e) z) (qAa _)
  have cellK:∀ x c,X.env.cells.lookup x=some c→∀ v,s.heap.IsCell c v→h'.IsCell c v := fun x c e v ⟨o,ho,hd⟩ => by
    have nch:c∉ch := fun z => (hch c z).2.2.1 x c e rfl
    by_cases hc:c∈X.fs
    · obtain ⟨sl,q⟩ := slot c o (I.cne x c e) hc nch ho (I.freeC x c e)
      exact ⟨_,q,hd⟩
    · exact ⟨o,keep c o (I.cne x c e) hc nch ho (I.freeC x c e),hd⟩
  refine ⟨I.ok,I.os,hg,⟨fun b o e n hb hx => ?_,fun b o e n hb hx => ?_,fun b o e n hx => ?_,fun b o e hx => ?_,fun b xs e => tups b xs (I.base.tups b xs e),fun b o xs e => frzs b o xs (I.base.frzs b o xs e),fun b ps e => ?_⟩,?_,fun x c e => ?_,?_,fun x c e => ?_,fun p hp => ?_,hok,I.len⟩
  · exact keep b o (neL b o e) hb (neC b o e hx) (I.base.keep b o e n hb hx) (I.base.free b o e n hx)
  · obtain ⟨sl,e1⟩ := I.base.slot b o e n hb hx
    obtain ⟨sl',e2⟩ := slot b _ (neL b o e) hb (neC b o e hx) e1 (I.base.free b o e n hx)
    exact ⟨sl',e2⟩
  · obtain ⟨o',e1⟩ := I.base.there b o e hx
    exact free b o' (neC b o e hx) e1 (I.base.free b o e n hx)
  · obtain ⟨o',e1⟩ := I.base.there b o e hx
    exact there b o' (neC b o e hx) e1
  · obtain ⟨m1,e1⟩ := I.base.tbls b ps e
    obtain ⟨m2,e2⟩ := tbls b _ e1
    exact ⟨m1++m2,by rw [e2,Array.append_assoc]⟩
  · obtain ⟨m,hn,hl⟩ := I.loc
    refine ⟨m,ns m hn,fun i x v e1 e2 e3 => ?_⟩
    obtain ⟨u,r,l⟩ := hl i x v e1 e2 e3
    refine ⟨u,r,?_⟩
    rcases l with l|⟨k,c,e,z⟩
    · exact .inl l
    · exact .inr ⟨k,c,e,cellK x c e _ z⟩
  · obtain ⟨v,z⟩ := I.cell x c e
    exact ⟨v,cellK x c e v z⟩
  · obtain ⟨m,⟨o,_,_,ho,_⟩,_⟩ := I.loc
    exact free _ o (fun z => (hch _ z).2.1 rfl) ho I.free
  · obtain ⟨v,o,ho,hd⟩ := I.cell x c e
    exact free c o (fun z => (hch c z).2.2.1 x c e rfl) ho (I.freeC x c e)
  · obtain ⟨e,n,ne,nf,d⟩ := I.pin p hp
    have nch:p.1∉ch := fun z => (hch p.1 z).2.2.2 p hp rfl
    exact ⟨keep p.1 p.2 ne nf nch e n,free p.1 p.2 nch e n,ne,nf,d⟩
theorem Inv.un {t':Nat} (I:Inv X pins σ H s) (u:Un X.fs [] H H' s.heap h') (hok:HOk X.prog X.w H' h'):Inv X pins σ H' {s with heap := h',toks := t'} := by
  obtain ⟨m,⟨o,es,ep,ho,r⟩,_⟩ := id I.loc
  obtain ⟨sl,hL⟩ := u.any ho I.free (by simp)
  exact I.step (g' := s.gens) (d' := s.drawn) (ch := []) (fun _ z => nomatch z) (fun b o _ hb _ e n => u.keep b o e n hb (by simp)) (fun b o _ hb _ e n => u.slot b o e n hb (by simp)) (fun b o _ e n => u.free b o e n (by simp)) (fun b o _ e => u.there b o e (by simp)) u.tups u.frzs u.tbls (fun m' hm => by
    obtain ⟨o',es',ep',ho',r'⟩ := hm
    rw [ho] at ho';cases ho'
    exact ⟨_,es',ep',hL,r'⟩) hok I.bare
theorem Inv.call {g':Array GenState} {t':Nat} {d':Drawn} {ch:List Addr} (I:Inv X pins σ H s) (u:Un (frs X.stack) ch H H' s.heap h') (hok:HOk X.prog X.w H' h') (hg:AllBare g')
    (hch:∀ b∈ch,(b∈X.ex∨X.s₀.heap.objs.size≤b)∧b≠X.env.locals∧(∀ x c,X.env.cells.lookup x=some c→c≠b)∧∀ p∈X.pn++pins,p.1≠b) :
    Inv X pins σ H' {s with heap := h',gens := g',drawn := d',toks := t'} := by
  obtain ⟨m,⟨o,es,ep,ho,r⟩,_⟩ := id I.loc
  obtain ⟨sl,hL⟩ := u.any ho I.free fun z => (hch _ z).2.1 rfl
  exact I.step (ch := ch) hch (fun b o hL hb hc e n => u.keep b o e n (fun z => (qy.mp (I.stkSub b z)).elim hL hb) hc) (fun b o _ _ hc e n => u.any e n hc) (fun b o hc e n => u.free b o e n hc) (fun b o hc e => u.there b o e hc) u.tups u.frzs u.tbls (fun m' hm => by
    obtain ⟨o',es',ep',ho',r'⟩ := hm
    rw [ho] at ho';cases ho'
    exact ⟨_,es',ep',hL,r'⟩) hok hg
theorem Inv.turned {t':Nat} {it:Addr} (I:Inv X pins σ H s) (k:∀ b o,b≠it→s.heap.get? b=some o→h'.get? b=some o) (hn:H it=none) (hL:it≠X.env.locals)
    (h1:it∈X.ex∨X.s₀.heap.objs.size≤it) (h2:∀ x c,X.env.cells.lookup x=some c→c≠it) (h3:∀ p∈X.pn++pins,p.1≠it):Inv X pins σ H {s with heap := h',toks := t'} := by
  have nit:∀ b u,H b=some u→b≠it := fun b u e z => by rw [z,hn] at e;cases e
  refine I.step (g' := s.gens) (d' := s.drawn) (ch := [it]) (fun b hb => ?_) (fun b o _ _ hc e _ => k b o (fun z => hc (by simp [z])) e) (fun b o _ _ hc e _ => ⟨o.slots,k b o (fun z => hc (by simp [z])) e⟩) (fun _ _ _ _ n => n)
    (fun b o hc e => ⟨o,k b o (fun z => hc (by simp [z])) e⟩) (fun _ _ e => e) (fun _ _ _ e => e) (fun b ps e => ⟨#[],by rw [e];simp⟩) (fun m hm => ?_) (fun b u e => ?_) I.bare
  · have e:b=it := by simpa using hb
    subst e
    exact ⟨h1,hL,h2,h3⟩
  · obtain ⟨o,es,ep,ho,r⟩ := hm
    exact ⟨o,es,ep,k _ o (qAo hL) ho,r⟩
  · refine (I.hok b u e).stay (fun c v hc q => k c v ?_ q) (fun _ q => q) fun _ _ q => q
    rcases hc with z|z
    · rw [z];exact nit b u e
    · exact nit c _ z
theorem Inv.tok (I:Inv X pins σ H s) (t:Nat):Inv X pins σ H {s with toks := t} := I.un (h' := s.heap) (t' := t) Un.refl I.hok
theorem Inv.kept {t':Nat} (I:Inv X pins σ H s) (k:∀ b u,s.heap.get? b=some u→h'.get? b=some u):Inv X pins σ H {s with heap := h',toks := t'} := I.un (Un.kept k) (I.hok.kept k)
theorem Inv.laid {a:Addr} {o:HO} {t':Nat} (I:Inv X pins σ H s) (k:∀ b u,s.heap.get? b=some u→h'.get? b=some u) (hp:s.heap.objs.size≤a) (new:ObjOk X.prog X.w (upd H a o) h' a o) :
    Inv X pins σ (upd H a o) {s with heap := h',toks := t'} := I.un (Un.laid k hp (I.hok.fresh hp)) (I.hok.laid k hp new)
theorem Inv.write {x e:Addr} {o:HO} {t':Nat} (I:Inv X pins σ H s) (mu:Mut (H x)) (he:e=x∨H e=some (.own x)) (k:∀ b u,b≠e→s.heap.get? b=some u→h'.get? b=some u) (heo:∃ u,h'.get? e=some u)
    (new:ObjOk X.prog X.w (upd H x o) h' x o):Inv X pins σ (upd H x o) {s with heap := h',toks := t'} := I.un (Un.write mu he k heo) (I.hok.write mu he k heo new)
theorem Inv.pins_of {pins':List (Addr×Obj)} (I:Inv X pins σ H s) (h:∀ p∈pins',s.heap.get? p.1=some p.2∧H p.1=none∧p.1≠X.env.locals∧p.1∉X.fs∧∀ v,p.2.data≠.cell v):Inv X pins' σ H s :=
  ⟨I.ok,I.os,I.bare,I.base,I.loc,I.cell,I.free,I.freeC,fun p hp => (qAA.mp hp).elim (fun z => I.pin p (qi _ z)) (h p),I.hok,I.len⟩
theorem nodup_ix {N:List Str} (hN:N.Nodup) {i j:Nat} {x:Str} (a:N[i]?=some x) (b:N[j]?=some x):i=j := by
  obtain ⟨h1,e1⟩ := qQ.mp a
  obtain ⟨h2,e2⟩ := qQ.mp b
  exact (List.getElem_inj hN).mp (e1.trans e2.symm)
theorem store_ok2 {M:Model} {A:Around} {E:Value→Shared→Prop} {i:Nat} {x:Str} {v:V} {u:Value} {Q:Unit→Shared→Prop} (I:Inv X pins σ H s) (hN:X.N.Nodup) (hi:X.N[i]?=some x) (hx:Loc X.env.scope x) (r:RelV v u)
    (h:∀ s',Inv X pins (σ.set i (some v)) H s'→(∃ a,Heap.SameBut a s.heap s'.heap∧(a=X.env.locals∨X.env.cells.lookup x=some a))→Q () s') (hf:X.fn x=true∨X.env.scope.names.lookup x=some .local := by assumption):wpAny M A (storeName X.env x u) Q E s := by
  obtain ⟨m,hn,hl⟩ := id I.loc
  have hcls:(X.env.scope.kind==.class||(X.env.scope.kind==.module&&X.env.locals != X.env.globals))=false := by rw [I.ok.kind];rfl
  have hiσ:i<σ.length := by rw [I.len];exact (qQ.mp hi).1
  have cne := I.cne
  have tracked:∀ {a:Addr} {h':Heap},(∃ o,s.heap.get? a=some o∧H a=none)→Heap.SameBut a s.heap h'→HOk X.prog X.w H h' := fun {a h'} ha hs b ob e => by
    obtain ⟨_,_,hfree⟩ := ha
    refine (I.hok b ob e).stay (fun c w' hc q => (hs.2 c ?_).trans q) (fun _ q => q) fun _ _ q => q
    rintro rfl
    rcases hc with rfl|hc
    · rw [hfree] at e;cases e
    · rw [hfree] at hc;cases hc
  rcases hx with hk|hk
  · refine wpAny_storeName_local hk hn (fun h' hn' hs => ?_) hcls
    obtain ⟨oL,_,_,hoL,_⟩ := id hn
    refine h _ ⟨I.ok,I.os,I.bare,⟨fun b o e n hb hx => ?_,fun b o e n hb hx => ?_,I.base.free,fun b o e hx => ?_,I.base.tups,I.base.frzs,I.base.tbls⟩,⟨_,hn',fun j y v' e1 e2 e3 => ?_⟩,fun y c e => ?_,I.free,I.freeC,fun p hp => ?_,tracked ⟨oL,hoL,I.free⟩ hs,by simpa using I.len⟩ ⟨_,hs,.inl rfl⟩
    · exact (hs.2 b (qAC (qY (qS e) I.ok.above))).trans (I.base.keep b o e n hb hx)
    · obtain ⟨sl,e1⟩ := I.base.slot b o e n hb hx
      exact ⟨sl,(hs.2 b (qAC (qY (qS e) I.ok.above))).trans e1⟩
    · obtain ⟨o',e1⟩ := I.base.there b o e hx
      exact ⟨o',(hs.2 b (qAC (qY (qS e) I.ok.above))).trans e1⟩
    · by_cases hj:j=i
      · subst hj
        rw [hi] at e1;cases e1
        rw [qe hiσ] at e2
        cases e2
        exact ⟨u,r,.inl ⟨hk,by simp⟩⟩
      · rw [qU (qAo hj)] at e2
        obtain ⟨u',r',q⟩ := hl j y v' e1 e2 e3
        refine ⟨u',r',?_⟩
        rcases q with ⟨k,e⟩|⟨k,c,e,z⟩
        · refine .inl ⟨k,?_⟩
          have:y≠x := fun e => hj (nodup_ix hN e1 (e▸hi))
          simp [this,e]
        · exact .inr ⟨k,c,e,z.sameBut hs (cne y c e)⟩
    · obtain ⟨w',z⟩ := I.cell y c e
      exact ⟨w',z.sameBut hs (cne y c e)⟩
    · obtain ⟨e,n,ne,nf,d⟩ := I.pin p hp
      exact ⟨(hs.2 p.1 ne).trans e,n,ne,nf,d⟩
  · have hfn:X.fn x=true := by
      rcases hf with z|z
      · exact z
      · rw [z] at hk;cases hk
    obtain ⟨c,hc⟩ := I.ok.has x (.inl hk)
    obtain ⟨w',z⟩ := I.cell x c hc
    refine wpAny_storeName_cell I.ok.kind hk hc z (fun h' hc' hs => ?_)
    obtain ⟨oc,hoc,hocd⟩ := id z
    refine h {s with heap := h'} ⟨I.ok,I.os,I.bare,⟨fun b o e n hb hx => ?_,fun b o e n hb hx => ?_,I.base.free,fun b o e hx => ?_,I.base.tups,I.base.frzs,I.base.tbls⟩,⟨m,hn.sameBut hs (qAo (cne x c hc)),fun j y v' e1 e2 e3 => ?_⟩,fun y c' e => ?_,I.free,I.freeC,fun p hp => ?_,tracked ⟨oc,hoc,I.freeC x c hc⟩ hs,by simpa using I.len⟩ ⟨c,hs,.inr hc⟩
    · exact (hs.2 b (qAC (qY (qS e) (I.ok.cab x c hfn hc)))).trans (I.base.keep b o e n hb hx)
    · obtain ⟨sl,e1⟩ := I.base.slot b o e n hb hx
      exact ⟨sl,(hs.2 b (qAC (qY (qS e) (I.ok.cab x c hfn hc)))).trans e1⟩
    · obtain ⟨o',e1⟩ := I.base.there b o e hx
      exact ⟨o',(hs.2 b (qAC (qY (qS e) (I.ok.cab x c hfn hc)))).trans e1⟩
    · by_cases hj:j=i
      · subst hj
        rw [hi] at e1;cases e1
        rw [qe hiσ] at e2
        cases e2
        exact ⟨u,r,.inr ⟨.inl hk,c,hc,hc'⟩⟩
      · rw [qU (qAo hj)] at e2
        obtain ⟨u',r',q⟩ := hl j y v' e1 e2 e3
        refine ⟨u',r',?_⟩
        rcases q with q|⟨k,c',e,z'⟩
        · exact .inl q
        · refine .inr ⟨k,c',e,z'.sameBut hs ?_⟩
          rintro rfl
          exact hj (nodup_ix hN e1 (I.ok.inj _ _ _ e hc▸hi))
    · by_cases hcc:c'=c
      · subst hcc;exact ⟨_,hc'⟩
      · obtain ⟨w2,z2⟩ := I.cell y c' e
        exact ⟨w2,z2.sameBut hs hcc⟩
    · obtain ⟨e,n,ne,nf,d⟩ := I.pin p hp
      refine ⟨(hs.2 p.1 ?_).trans e,n,ne,nf,d⟩
      intro q
      rw [q,hoc] at e
      have q':oc=p.2 := qP e
      exact d w' (by rw [← q'];exact hocd)
theorem store_ok {M:Model} {A:Around} {E:Value→Shared→Prop} {i:Nat} {x:Str} {v:V} {u:Value} {Q:Unit→Shared→Prop} (I:Inv X pins σ H s) (hN:X.N.Nodup) (hi:X.N[i]?=some x) (hx:Loc X.env.scope x) (r:RelV v u)
    (h:∀ s',Inv X pins (σ.set i (some v)) H s'→Q () s') (hf:X.fn x=true∨X.env.scope.names.lookup x=some .local := by assumption):wpAny M A (storeName X.env x u) Q E s :=
  store_ok2 I hN hi hx r (fun s' I' _ => h s' I') hf
theorem Inv.call' {s':Shared} {ch:List Addr} (I:Inv X pins σ H s) (ho:s'.os=s.os) (u:Un (frs X.stack) ch H H' s.heap s'.heap) (hok:HOk X.prog X.w H' s'.heap) (hg:AllBare s'.gens)
    (hch:∀ b∈ch,(b∈X.ex∨X.s₀.heap.objs.size≤b)∧b≠X.env.locals∧(∀ x c,X.env.cells.lookup x=some c→c≠b)∧∀ p∈X.pn++pins,p.1≠b):Inv X pins σ H' s' := by
  obtain ⟨h',g',d',t',o'⟩ := s'
  have e:o'=s.os := ho
  subst e
  exact I.call (g' := g') (t' := t') (d' := d') u hok hg hch
end
noncomputable abbrev XK := Value→Option Addr→Hp→Prop
noncomputable abbrev St := List (Option V)
noncomputable abbrev VK := V→Hp→Prop
noncomputable abbrev TE := St→Hp→VK→Prop
noncomputable abbrev TT := St→Hp→(Bool→Hp→Prop)→Prop
noncomputable abbrev TA := St→Hp→(List V→Hp→Prop)→Prop
set_option genInjectivity false in
structure Ends where
  nx:St→Hp→Prop
  rt:VK
  bk:St→Hp→Prop := fun _ _ => False
  ct:St→Hp→Prop := fun _ _ => False
noncomputable abbrev TS := Ends→St→Hp→Prop
noncomputable def EP (X:Cx) (pins:List (Addr×Obj)) (σ:St) (Q:VK) (u:Value) (s':Shared):Prop := ∃ v H',Inv X pins σ H' s'∧RelV v u∧Q v H'
noncomputable def TP (X:Cx) (pins:List (Addr×Obj)) (σ:St) (Q:Bool→Hp→Prop) (b:Bool) (s':Shared):Prop := ∃ H',Inv X pins σ H' s'∧Q b H'
noncomputable def AP (X:Cx) (pins:List (Addr×Obj)) (σ:St) (Q:List V→Hp→Prop) (us:List Value) (s':Shared):Prop := ∃ vs H',Inv X pins σ H' s'∧Vals vs us∧Q vs H'
noncomputable def SP (X:Cx) (pins:List (Addr×Obj)) (D:Ends) (f:Flow) (s':Shared):Prop :=
  match f with
  | .next => ∃ σ' H',Inv X pins σ' H' s'∧D.nx σ' H'
  | .brk => ∃ σ' H',Inv X pins σ' H' s'∧D.bk σ' H'
  | .cont => ∃ σ' H',Inv X pins σ' H' s'∧D.ct σ' H'
  | .ret u => ∃ v σ' H',Inv X pins σ' H' s'∧RelV v u∧D.rt v H'
noncomputable def PE (X:Cx) (e:Expr) (t:TE):Prop :=
  ∀ (pins:List (Addr×Obj)) (s:Shared) (σ:St) (H:Hp) (Q:VK),Inv X pins σ H s→t σ H Q→wpAny (model X.prog X.w) X.A (eval e X.env) (EP X pins σ Q) X.xe s
noncomputable def PT (X:Cx) (e:Expr) (t:TT):Prop :=
  ∀ (pins:List (Addr×Obj)) (s:Shared) (σ:St) (H:Hp) (Q:Bool→Hp→Prop),Inv X pins σ H s→t σ H Q→wpAny (model X.prog X.w) X.A (isTrue e X.env (eval e X.env)) (TP X pins σ Q) X.xe s
noncomputable def PW (X:Cx) (e:Expr) (t:TT):Prop :=
  ∀ (whole:Sem Value) (pins:List (Addr×Obj)) (s:Shared) (σ:St) (H:Hp) (Q:Bool→Hp→Prop),Inv X pins σ H s→t σ H Q→wpAny (model X.prog X.w) X.A (isTrue e X.env whole) (TP X pins σ Q) X.xe s
theorem PW.pt {X:Cx} {e:Expr} {t:TT} (h:PW X e t):PT X e t := h _
noncomputable def PA (X:Cx) (es:List Expr) (t:TA):Prop :=
  ∀ (pos:Pos) (pins:List (Addr×Obj)) (s:Shared) (σ:St) (H:Hp) (Q:List V→Hp→Prop),Inv X pins σ H s→t σ H Q→wpAny (model X.prog X.w) X.A (spliced (backTo pos (starEach es X.env))) (AP X pins σ Q) X.xe s
noncomputable def PS (X:Cx) (st:Stmt) (t:TS):Prop :=
  ∀ (pins:List (Addr×Obj)) (s:Shared) (σ:St) (H:Hp) (D:Ends),Inv X pins σ H s→t D σ H→wpAny (model X.prog X.w) X.A (exec st X.env) (SP X pins D) X.xe s
noncomputable def PSs (X:Cx) (st:List Stmt) (t:TS):Prop :=
  ∀ (pins:List (Addr×Obj)) (s:Shared) (σ:St) (H:Hp) (D:Ends),Inv X pins σ H s→t D σ H→wpAny (model X.prog X.w) X.A (execs st X.env) (SP X pins D) X.xe s
theorem thn {α:Type} {t:Sem α} {Q Q':α→Shared→Prop} {M:Model} {A:Around} {E:Value→Shared→Prop} {s:Shared} (h:wpAny M A t Q E s) (hQ:∀ a s,Q a s→Q' a s):wpAny M A t Q' E s := qAk h hQ fun _ _ x => x
section
variable {X:Cx}
theorem bin {a b:Expr} {ta tb:TE} (ha:PE X a ta) (hb:PE X b tb) {pins:List (Addr×Obj)} {s:Shared} {σ:St} {H:Hp} {R:V→V→Hp→Prop} (I:Inv X pins σ H s) (h:ta σ H fun x H1 => tb σ H1 fun y H2 => R x y H2)
    {α:Type} {Q:α→Shared→Prop} {f:Value→Value→Sem α}
    (hf:∀ v u s2 x y H2,Inv X pins σ H2 s2→RelV x v→RelV y u→R x y H2→wpAny (model X.prog X.w) X.A (f v u) Q X.xe s2) :
    wpAny (model X.prog X.w) X.A (eval a X.env) (fun v s₁ => wpAny (model X.prog X.w) X.A (eval b X.env) (fun u s₂ => wpAny (model X.prog X.w) X.A (f v u) Q X.xe s₂) X.xe s₁) X.xe s := by
  refine thn (ha pins s σ H _ I h) fun v s1 ⟨x,H1,I1,r1,q1⟩ => ?_
  refine thn (hb pins s1 σ H1 _ I1 q1) fun u s2 ⟨y,H2,I2,r2,q2⟩ => ?_
  exact hf v u s2 x y H2 I2 r1 r2 q2
noncomputable def tVar (i:Nat):TE := fun σ H Q => ∃ v,σ[i]?=some (some v)∧Q v H
noncomputable def tC (v:V):TE := fun _ H Q => Q v H
theorem pe_var {i:Nat} {x:Str} {pos:Pos} (hN:X.N[i]?=some x) (hv:Vis X.env.scope x) (hd:(x==("__debug__":Str))=false := by decide) (hcd:(x==("__classdict__":Str))=false := by decide):PE X (.Name x pos) (tVar i) := by
  intro pins s σ H Q I h
  obtain ⟨v,e,h⟩ := h
  obtain ⟨m,hn,hl⟩ := I.loc
  obtain ⟨u,r,l⟩ := hl i x v hN e hv
  have fin:EP X pins σ Q u s := ⟨v,H,I,r,h⟩
  rcases l with ⟨hk,hm⟩|⟨hk,c,hc,hcell⟩
  · exact wpAny_Name (wpAny_loadName_local I.ok.kind hk hn hm fin) hd
  · rcases hk with hk|hk
    · exact wpAny_Name (wpAny_loadName_cell I.ok.kind hk hc hcell fin) hd
    · exact wpAny_Name (wpAny_loadName_free I.ok.kind hk hc hcell fin hcd) hd
theorem pe_int {i j pos}:PE X (.Constant (.int i) j pos) (tC (.int i)) := fun _ _ _ H _ I h => wpAny_Constant_int ⟨.int i,H,I.tok _,⟨_,rfl⟩,h⟩
theorem pe_bl {b j pos}:PE X (.Constant (.bool b) j pos) (tC (.bl b)) := fun _ _ _ H _ I h => Constant_bool ⟨.bl b,H,I,rfl,h⟩
theorem pe_non {j pos}:PE X (.Constant .none j pos) (tC .non) := fun _ _ _ H _ I h => Constant_none ⟨.non,H,I,rfl,h⟩
theorem pe_str {x j pos}:PE X (.Constant (.str x) j pos) (tC (.str x)) := fun _ _ _ H _ I h => qCU ⟨.str x,H,I.tok _,⟨_,rfl⟩,h⟩
noncomputable def Gl (X:Cx) (x:Str):Prop := X.env.kindOf x=some .globalImplicit
theorem ld_glob {E:Value→Shared→Prop} {pins:List (Addr×Obj)} {s:Shared} {σ:St} {H:Hp} {x:Str} {u:Value} {pos:Pos} {Q:Value→Shared→Prop} (I:Inv X pins σ H s) (hg:Gl X x) (hm:X.mg x=some u) (h:Q u s)
    (hd:(x==("__debug__":Str))=false := by decide):wpAny (model X.prog X.w) X.A (eval (.Name x pos) X.env) Q E s :=
  qBr I.ok.kind hg (Calls.loadGlobal_global (by rw [I.ok.glob];exact I.mod.glob.keeps I.bk) hm h) hd
theorem ld_blt {E:Value→Shared→Prop} {pins:List (Addr×Obj)} {s:Shared} {σ:St} {H:Hp} {x:Str} {u:Value} {pos:Pos} {Q:Value→Shared→Prop} (I:Inv X pins σ H s) (hg:Gl X x) (hm:X.mg x=none) (hv:bootBuiltins x=some u) (h:Q u s)
    (hn:x ≠ "__name__" := by decide) (hd:(x==("__debug__":Str))=false := by decide):wpAny (model X.prog X.w) X.A (eval (.Name x pos) X.env) Q E s := by
  obtain ⟨mb,h1,h2⟩ := I.mod.blt
  exact qBr I.ok.kind hg (Calls.loadGlobal_builtin (by rw [I.ok.glob];exact I.mod.glob.keeps I.bk) hm (by rw [I.ok.blt];exact h1.keeps I.bk) ((h2 x hn).trans hv) h) hd
theorem pe_bltn {x:Str} {v:V} {u:Value} {pos:Pos} (hg:Gl X x) (hm:X.mg x=none) (hv:bootBuiltins x=some u) (r:RelV v u) (hn:x ≠ "__name__" := by decide) (hd:(x==("__debug__":Str))=false := by decide):PE X (.Name x pos) (tC v) :=
  fun _ _ _ H _ I h => ld_blt I hg hm hv ⟨v,H,I,r,h⟩ hn hd
variable {a b:Expr} {ta tb:TE} {pos:Pos}
noncomputable def PC (X:Cx) (op:CmpOp) (a b:Expr) (t:TE):Prop :=
  ∀ (pins:List (Addr×Obj)) (s:Shared) (σ:St) (H:Hp) (Q:VK),Inv X pins σ H s→t σ H Q →
    wpAny (model X.prog X.w) X.A (eval a X.env) (fun v s₁ => wpAny (model X.prog X.w) X.A (eval b X.env) (fun u s₂ => wpAny (model X.prog X.w) X.A (compareOp op v u) (EP X pins σ Q) X.xe s₂) X.xe s₁) X.xe s
theorem nobehind (b:Expr) {op:CmpOp} (h:op≠.In) (h2:op≠.NotIn):behindInMarks op b=false := by
  have e1:(op==CmpOp.In)=false := by cases op<;>first|rfl|exact absurd rfl h
  have e2:(op==CmpOp.NotIn)=false := by cases op<;>first|rfl|exact absurd rfl h2
  cases b<;>simp [behindInMarks,e1,e2]
noncomputable def tIsN (ta:TE):TE := fun σ H Q => ta σ H fun x H1 => Q (.bl (decide (x=.non))) H1
theorem RelV.none_iff {x:V} {v:Value} (r:RelV x v):(v==Value.none)=decide (x=.non) := by
  cases x with
  | non => cases r;rfl
  | bl _ => cases r;rfl
  | int _ => obtain ⟨t,rfl⟩ := r;rfl
  | str _ => obtain ⟨t,rfl⟩ := r;rfl
  | byt _ => obtain ⟨t,rfl⟩ := r;rfl
  | flt _ => obtain ⟨t,rfl⟩ := r;rfl
  | ref _ => cases r;rfl
  | ty _ => cases r;rfl
theorem pc_isN {j pos'} (ha:PE X a ta):PC X .Is a (.Constant .none j pos') (tIsN ta) := by
  intro pins s σ H Q I h
  refine thn (ha pins s σ H _ I h) fun v s1 ⟨x,H1,I1,r1,q1⟩ => ?_
  exact Constant_none (is_none_gen ⟨.bl _,H1,I1,by rw [r1.none_iff];rfl,q1⟩)
noncomputable def tB (t:TE):TT := fun σ H Q => t σ H fun x H1 => ∃ c,x=.bl c∧Q c H1
theorem pe_cmp {op:CmpOp} {t:TE} (h:PC X op a b t) (h1:behindInMarks op b=false := by rfl):PE X (.Compare a [op] [b] pos) t := fun pins s σ H Q I hw => wpAny_Compare1 (h pins s σ H Q I hw) h1
theorem pt_cmp {op:CmpOp} {t:TE} (h:PC X op a b t) (h1:behindInMarks op b=false := by rfl):PT X (.Compare a [op] [b] pos) (tB t) := by
  intro pins s σ H Q I hw
  refine wpAny_isTrue_Compare1 (thn (h pins s σ H _ I hw) fun v s1 h1 => thn h1 fun u s2 h2 => thn h2 fun c s3 ⟨x,H1,I1,r1,q1⟩ => ?_) h1
  obtain ⟨d,rfl,q⟩ := q1
  cases r1
  exact qBI ⟨H1,I1,q⟩
variable {tA tB':TT} {rest:List Expr}
noncomputable def tAnd (t u:TT):TT := fun σ H Q => t σ H fun c H1 => if c=true then u σ H1 Q else Q false H1
noncomputable def tOr (t u:TT):TT := fun σ H Q => t σ H fun c H1 => if c=true then Q true H1 else u σ H1 Q
noncomputable def tNot (t:TT):TT := fun σ H Q => t σ H fun c H1 => Q (!c) H1
theorem pw_and1 (ha:PT X a tA):PW X (.BoolOp .And [a] pos) tA := by
  intro wh pins s σ H Q I h
  refine isTrue_and (thn (ha pins s σ H Q I h) fun c s1 e => ?_)
  cases c with
  | true => exact isTrue_and_nil e
  | false => exact e
theorem pw_or1 (ha:PT X a tA):PW X (.BoolOp .Or [a] pos) tA := by
  intro wh pins s σ H Q I h
  refine isTrue_or (thn (ha pins s σ H Q I h) fun c s1 e => ?_)
  cases c with
  | false => exact isTrue_or_nil e
  | true => exact e
theorem pw_and (ha:PT X a tA) (hb:PW X (.BoolOp .And (b::rest) pos) tB'):PW X (.BoolOp .And (a::b::rest) pos) (tAnd tA tB') := by
  intro wh pins s σ H Q I h
  refine isTrue_and (thn (ha pins s σ H _ I h) fun c s1 ⟨H1,I1,q1⟩ => ?_)
  cases c with
  | true => exact hb wh pins s1 σ H1 Q I1 q1
  | false => exact ⟨H1,I1,q1⟩
theorem pw_or (ha:PT X a tA) (hb:PW X (.BoolOp .Or (b::rest) pos) tB'):PW X (.BoolOp .Or (a::b::rest) pos) (tOr tA tB') := by
  intro wh pins s σ H Q I h
  refine isTrue_or (thn (ha pins s σ H _ I h) fun c s1 ⟨H1,I1,q1⟩ => ?_)
  cases c with
  | true => exact ⟨H1,I1,q1⟩
  | false => exact hb wh pins s1 σ H1 Q I1 q1
theorem pt_not (ha:PT X a tA):PT X (.UnaryOp .Not a pos) (tNot tA) := by
  intro pins s σ H Q I h
  exact isTrue_not (ha pins s σ H (fun c H1 => Q (!c) H1) I h)
end
noncomputable def SqL (K:qB) (H:Hp) (a:Addr) (xs:List V):Prop :=
  Rd H a (.lst xs) ∨
    ∃ (o:Obj) (its:Array Value) (n:Nat),K.lookup a=some o∧o.cls=.type "list" ∧ o.dict=none∧o.data=.seq its n∧its.size≤qM∧Vals xs its.toList
noncomputable def SqT (K:qB) (H:Hp) (a:Addr) (xs:List V):Prop :=
  Rd H a (.tup xs) ∨
    ∃ (o:Obj) (its:Array Value) (n:Nat),K.lookup a=some o∧o.cls=.type "tuple" ∧ o.data=.seq its n∧its.size≤qM∧Vals xs its.toList
noncomputable def absV:Value→Option V
  | .none => some .non
  | .bool b => some (.bl b)
  | .int i _ => some (.int i)
  | .str x _ => some (.str x)
  | .bytes b _ => some (.byt b)
  | .float b _ => some (.flt b)
  | .ref a => some (.ref a)
  | .type n => some (.ty n)
  | _ => none
theorem RelV.abs {x:V} {u:Value} (r:RelV x u):absV u=some x := by
  cases x with
  | non => cases r;rfl
  | bl _ => cases r;rfl
  | int _ => obtain ⟨t,rfl⟩ := r;rfl
  | str _ => obtain ⟨t,rfl⟩ := r;rfl
  | byt _ => obtain ⟨t,rfl⟩ := r;rfl
  | flt _ => obtain ⟨t,rfl⟩ := r;rfl
  | ref _ => cases r;rfl
  | ty _ => cases r;rfl
theorem RelV.inj {x y:V} {u:Value} (r:RelV x u) (q:RelV y u):x=y := qP (r.abs.symm.trans q.abs)
theorem Vals.inj:∀ {xs ys:List V} {us:List Value},Vals xs us→Vals ys us→xs=ys
  | _,_,_,.nil,.nil => rfl
  | _,_,_,.cons r t,.cons r' t' => by rw [r.inj r',Vals.inj t t']
section
variable {X:Cx} {pins:List (Addr×Obj)} {σ:St} {H:Hp} {s:Shared} {a:Addr} {xs ys:List V}
theorem SqL.of {K:qB} (h:H a=some (.lst xs)):SqL K H a xs := .inl (.inl h)
theorem SqT.of {K:qB} (h:H a=some (.tup xs)):SqT K H a xs := .inl (.inl h)
theorem Inv.list (I:Inv X pins σ H s) (h:SqL X.K H a xs):∃ its:List Value,Vals xs its∧PlainL s.heap a its.toArray∧xs.length≤qM := by
  rcases h with h|⟨o,its,n,hk,hc,hd,hs,hz,r⟩
  · obtain ⟨z,its,n,r,e⟩ := h.ok I.hok
    exact ⟨its,r,⟨_,n,e,rfl,rfl,rfl⟩,z⟩
  · refine ⟨its.toList,r,⟨o,n,I.kIn a o hk,hc,hd,by simpa using hs⟩,?_⟩
    have e := r.length
    simp only [qCM] at e
    omega
theorem Inv.tuple (I:Inv X pins σ H s) (h:SqT X.K H a xs):∃ its:List Value,Vals xs its∧IsTup s.heap a its.toArray∧xs.length≤qM := by
  rcases h with h|⟨o,its,n,hk,hc,hs,hz,r⟩
  · obtain ⟨z,its,r,p⟩ := h.ok I.hok
    exact ⟨its,r,p,z⟩
  · refine ⟨its.toList,r,⟨o,I.kIn a o hk,hc,n,by simpa using hs⟩,?_⟩
    have e := r.length
    simp only [qCM] at e
    omega
theorem Inv.list_inj (I:Inv X pins σ H s) (h:SqL X.K H a xs) (h':SqL X.K H a ys):xs=ys := by
  obtain ⟨its,r,⟨o,n,e,_,_,d⟩,_⟩ := I.list h
  obtain ⟨its',r',⟨o',n',e',_,_,d'⟩,_⟩ := I.list h'
  rw [e] at e';cases e'
  rw [d] at d'
  injection d' with d1 _
  have:its=its' := by simpa using congrArg Array.toList d1
  subst this
  exact r.inj r'
theorem Inv.tuple_inj (I:Inv X pins σ H s) (h:SqT X.K H a xs) (h':SqT X.K H a ys):xs=ys := by
  obtain ⟨its,r,⟨o,e,_,n,d⟩,_⟩ := I.tuple h
  obtain ⟨its',r',⟨o',e',_,n',d'⟩,_⟩ := I.tuple h'
  rw [e] at e';cases e'
  rw [d] at d'
  injection d' with d1 _
  have:its=its' := by simpa using congrArg Array.toList d1
  subst this
  exact r.inj r'
end
noncomputable abbrev Cx.wish (X:Cx) (E:Value→Shared→Prop):Cx := {X with xe := E}
noncomputable abbrev Cx.nox (X:Cx):Cx := X.wish fun _ _ => False
theorem Cx.Ok.wish {X:Cx} (ok:X.Ok) (E:Value→Shared→Prop):(X.wish E).Ok :=
  ⟨ok.mod,ok.kind,ok.glob,ok.blt,ok.above,ok.inj,ok.has,ok.cab,ok.hd,ok.frames,ok.stk,ok.exf,ok.bs,ok.bsz,ok.noex,ok.exfs,ok.funs,ok.frf⟩
theorem Cx.Ok.unwish {X:Cx} {E:Value→Shared→Prop} (ok:(X.wish E).Ok):X.Ok :=
  ⟨ok.mod,ok.kind,ok.glob,ok.blt,ok.above,ok.inj,ok.has,ok.cab,ok.hd,ok.frames,ok.stk,ok.exf,ok.bs,ok.bsz,ok.noex,ok.exfs,ok.funs,ok.frf⟩
section
variable {X:Cx} {pins:List (Addr×Obj)} {σ:St} {H:Hp} {s:Shared} {E:Value→Shared→Prop}
theorem Inv.wish (I:Inv X pins σ H s) (E:Value→Shared→Prop):Inv (X.wish E) pins σ H s := ⟨I.ok.wish E,I.os,I.bare,I.base,I.loc,I.cell,I.free,I.freeC,I.pin,I.hok,I.len⟩
theorem Inv.unwish (I:Inv (X.wish E) pins σ H s):Inv X pins σ H s := ⟨I.ok.unwish,I.os,I.bare,I.base,I.loc,I.cell,I.free,I.freeC,I.pin,I.hok,I.len⟩
theorem SP.unwish {D:Ends} {f:Flow} {s':Shared} (h:SP (X.wish E) pins D f s'):SP X pins D f s' := by
  cases f with
  | next => obtain ⟨σ',H',I,q⟩ := h;exact ⟨σ',H',I.unwish,q⟩
  | brk => obtain ⟨σ',H',I,q⟩ := h;exact ⟨σ',H',I.unwish,q⟩
  | cont => obtain ⟨σ',H',I,q⟩ := h;exact ⟨σ',H',I.unwish,q⟩
  | ret u => obtain ⟨v,σ',H',I,r,q⟩ := h;exact ⟨v,σ',H',I.unwish,r,q⟩
theorem PSs.nox {st:List Stmt} {t:TS} (h:PSs X.nox st t):PSs X st t := fun pins s σ H D I hw =>
  qAk (h pins s σ H D (I.wish _) hw) (fun _ _ q => q.unwish) fun _ _ z => False.elim z
end
section
variable {X:Cx} {st:Stmt} {rest:List Stmt} {t u:TS} {e:Expr} {te:TE} {pos:Pos}
noncomputable def tNext:TS := fun D σ H => D.nx σ H
noncomputable def tSeq (t u:TS):TS := fun D σ H => t {D with nx := u D} σ H
theorem pss_nil:PSs X [] tNext := fun _ _ σ H _ I h => qA9 ⟨σ,H,I,h⟩
theorem pss_cons (h1:PS X st t) (h2:PSs X rest u):PSs X (st::rest) (tSeq t u) := by
  intro pins s σ H D I h
  refine qBz (thn (h1 pins s σ H {D with nx := u D} I h) fun f s1 q => ?_)
  cases f with
  | next =>
    obtain ⟨σ',H',I',q⟩ := q
    exact h2 pins s1 σ' H' D I' q
  | ret v => exact q
  | brk => exact q
  | cont => exact q
theorem pss_one (h1:PS X st t):PSs X [st] t := by
  intro pins s σ H D I h
  refine qBz (thn (h1 pins s σ H D I h) fun f s1 q => ?_)
  cases f with
  | next => exact qA9 q
  | ret v => exact q
  | brk => exact q
  | cont => exact q
theorem Inv.quiet {pins:List (Addr×Obj)} {σ:St} {H:Hp} {s:Shared} (I:Inv X pins σ H s):interactive X.env=false := by simp [interactive,I.ok.kind]
noncomputable def tDrop (te:TE):TS := fun D σ H => te σ H fun _ H1 => D.nx σ H1
theorem ps_expr (he:PE X e te) (hs:swapsWith e none pos.line X.env=pure false := by rfl):PS X (.Expr e pos) (tDrop te) := by
  intro pins s σ H D I h
  exact wpAny_Expr_any (thn (he pins s σ H _ I h) fun v s1 ⟨x,H1,I1,r1,q1⟩ => ⟨σ,H1,I1,q1⟩) I.quiet hs
noncomputable def tRet (te:TE):TS := fun D σ H => te σ H D.rt
theorem ps_ret (he:PE X e te):PS X (.Return (some e) pos) (tRet te) := by
  intro pins s σ H D I h
  exact wpAny_Return_some (thn (he pins s σ H _ I h) fun v s1 ⟨x,H1,I1,r1,q1⟩ => ⟨x,σ,H1,I1,r1,q1⟩)
noncomputable def tIfS (c:TT) (t u:TS):TS := fun D σ H => c σ H fun b H1 => if b=true then t D σ H1 else u D σ H1
theorem ps_if {c:Expr} {a b:List Stmt} {tc:TT} (hc:PT X c tc) (ha:PSs X a t) (hb:PSs X b u):PS X (.If c a b pos) (tIfS tc t u) := by
  intro pins s σ H D I h
  refine wpAny_If (thn (hc pins s σ H _ I h) fun d s1 ⟨H1,I1,q1⟩ => ?_)
  cases d with
  | true => exact ha pins s1 σ H1 D I1 q1
  | false => exact hb pins s1 σ H1 D I1 q1
end
noncomputable abbrev TG := V→St→Hp→(St→Hp→Prop)→Prop
noncomputable abbrev TGs := List V→St→Hp→(St→Hp→Prop)→Prop
noncomputable def PG (X:Cx) (target:Expr) (t:TG):Prop :=
  ∀ (pins:List (Addr×Obj)) (s:Shared) (σ:St) (H:Hp) (v:V) (u:Value) (Q:St→Hp→Prop),Inv X pins σ H s→RelV v u→t v σ H Q →
    wpAny (model X.prog X.w) X.A (assign target X.env u) (fun _ s' => ∃ σ' H',Inv X pins σ' H' s'∧Q σ' H') X.xe s
noncomputable def PGs (X:Cx) (ts:List Expr) (t:TGs):Prop :=
  ∀ (pins:List (Addr×Obj)) (s:Shared) (σ:St) (H:Hp) (vs:List V) (us:List Value) (Q:St→Hp→Prop),Inv X pins σ H s→Vals vs us→t vs σ H Q →
    wpAny (model X.prog X.w) X.A (assignInOrder ((assignEach ts X.env).map (·.2)) us) (fun _ s' => ∃ σ' H',Inv X pins σ' H' s'∧Q σ' H') X.xe s
noncomputable abbrev TSet := V→V→V→Hp→(Hp→Prop)→Prop
noncomputable def PSet (X:Cx) (t:TSet):Prop :=
  ∀ (pins:List (Addr×Obj)) (s:Shared) (σ:St) (H:Hp) (o i v:V) (ov iv u:Value) (Q:Hp→Prop),Inv X pins σ H s→RelV o ov→RelV i iv→RelV v u→t o i v H Q →
    wpAny (model X.prog X.w) X.A (setItem ov iv u) (fun _ s' => ∃ H',Inv X pins σ H' s'∧Q H') X.xe s
section
variable {X:Cx} {pos:Pos}
noncomputable def gName (i:Nat):TG := fun v σ H Q => Q (σ.set i (some v)) H
theorem pg_name {i:Nat} {x:Str} (hN:X.N.Nodup) (hi:X.N[i]?=some x) (hx:Loc X.env.scope x) (hf:X.fn x=true∨X.env.scope.names.lookup x=some .local := by assumption):PG X (.Name x pos) (gName i) := by
  intro pins s σ H v u Q I r h
  exact wpAny_assign_Name (store_ok I hN hi hx r (fun s' I' => ⟨_,H,I',h⟩) hf)
noncomputable def gNil:TGs := fun vs σ H Q => vs=[]∧Q σ H
noncomputable def gCons (t:TG) (u:TGs):TGs := fun vs σ H Q => ∃ v r,vs=v::r∧t v σ H fun σ' H' => u r σ' H' Q
theorem pgs_nil:PGs X [] gNil := by
  intro pins s σ H vs us Q I r h
  obtain ⟨e,h⟩ := h
  subst e
  cases r
  exact assignInOrder_nil ⟨σ,H,I,h⟩
theorem pgs_cons {e:Expr} {es:List Expr} {t:TG} {u:TGs} (h1:PG X e t) (h2:PGs X es u)
    (hs:(assignEach (e::es) X.env).map (·.2)=assign e X.env::(assignEach es X.env).map (·.2) := by rfl):PGs X (e::es) (gCons t u) := by
  intro pins s σ H vs us Q I r h
  obtain ⟨v,vr,e1,h⟩ := h
  subst e1
  cases r with
  | cons r rr =>
    rw [hs]
    refine assignInOrder_cons (thn (h1 pins s σ H _ _ _ I r h) fun _ s1 ⟨σ1,H1,I1,q1⟩ => ?_)
    exact h2 pins s1 σ1 H1 _ _ Q I1 rr q1
noncomputable def gTup (K:qB) (n:Nat) (t:TGs):TG := fun v σ H Q => ∃ a xs,v=.ref a∧SqT K H a xs∧xs.length=n∧t xs σ H Q
theorem pg_tup {es:List Expr} {k:Nat} {t:TGs} {n:Nat} (hc:X.calm=true) (h:PGs X es t)
    (hn:(assignEach es X.env).length=n := by rfl) (hst:(assignEach es X.env).findIdx? (·.1)=none := by rfl):PG X (.Tuple es k pos) (gTup X.K n t) := by
  intro pins s σ H v u Q I r hw
  obtain ⟨a,xs,e1,hq,hl,hw⟩ := hw
  subst e1
  cases r
  obtain ⟨its,rv,ht,hz⟩ := I.tuple hq
  refine assign_Tuple_tuple (I.ok.hd hc) ht (by simp [hn,← hl,rv.length]) hst fun h' hx => ?_
  have I1:Inv X pins σ H {s with heap := h'} := I.kept (t' := s.toks) fun b o e => hx b o (qAC (qS e)) e
  exact h pins _ σ H xs _ Q I1 (by simpa using rv) hw
noncomputable def gSub (to ti:TE) (t:TSet):TG := fun v σ H Q => to σ H fun o H1 => ti σ H1 fun i H2 => t o i v H2 fun H3 => Q σ H3
theorem pg_sub {o i:Expr} {to ti:TE} {t:TSet} (ho:PE X o to) (hi:PE X i ti) (hs:PSet X t)
    (ha:∀ v,assign (.Subscript o i pos) X.env v=(do
      let ov ← holding [v] (eval o X.env)
      let iv ← holding [v,ov] (eval i X.env)
      standAt pos
      holding [v,ov,iv] (setItem ov iv v)
      release [v,ov,iv] []) := by intro _;rfl):PG X (.Subscript o i pos) (gSub to ti t) := by
  intro pins s σ H v u Q I r h
  rw [ha]
  refine qN (qBm (thn (ho pins s σ H _ I h) fun ov s1 ⟨x,H1,I1,r1,q1⟩ => ?_))
  refine qN (qBm (thn (hi pins s1 σ H1 _ I1 q1) fun iv s2 ⟨y,H2,I2,r2,q2⟩ => ?_))
  refine qN (qBL (qN (qBm (thn (hs pins s2 σ H2 x y v ov iv u _ I2 r1 r2 r q2) fun _ s3 ⟨H3,I3,q3⟩ => ?_))))
  exact wpAny_release ⟨σ,H3,I3,q3⟩
noncomputable def tAsg (te:TE) (g:TG):TS := fun D σ H => te σ H fun x H1 => g x σ H1 D.nx
theorem ps_asg {tg e:Expr} {te:TE} {g:TG} (he:PE X e te) (hg:PG X tg g) (hs:swapsWithSole [tg] e pos.line X.env=pure false := by rfl) (hw:swappedStores [tg] e X.env=pure none := by rfl)
    (h1:(assignEach [tg] X.env).map (·.2)=[assign tg X.env] := by rfl):PS X (.Assign [tg] e pos) (tAsg te g) := by
  intro pins s σ H D I h
  refine wpAny_Assign_stores (thn (he pins s σ H _ I h) fun v s1 ⟨x,H1,I1,r1,q1⟩ => ?_) hs hw
  rw [h1]
  exact thn (hg pins s1 σ H1 x v _ I1 r1 q1) fun _ s2 q => q
theorem ps_set {i:Nat} {x:Str} {e:Expr} {te:TE} {pos':Pos} (hN:X.N.Nodup) (hi:X.N[i]?=some x) (hx:Loc X.env.scope x) (he:PE X e te) (hs:swapsWith e (some (.Name x pos')) pos.line X.env=pure false := by rfl) (hf:X.fn x=true∨X.env.scope.names.lookup x=some .local := by assumption) :
    PS X (.Assign [.Name x pos'] e pos) (tAsg te (gName i)) := by
  intro pins s σ H D I h
  refine wpAny_Assign_Name (thn (he pins s σ H _ I h) fun v s1 ⟨y,H1,I1,r1,q1⟩ => ?_) hs
  exact store_ok I1 hN hi hx r1 (fun s2 I2 => ⟨_,H1,I2,q1⟩) hf
end
section
variable {X:Cx} {pos:Pos}
end
set_option genInjectivity false in
structure It where
  go:Nat→Hp→Prop
  yld:Nat→Hp→V→Hp→Prop
  stop:Nat→Hp→Prop
noncomputable def FpOk (X:Cx) (pins:List (Addr×Obj)) (H:Hp) (b:Addr):Prop :=
  H b=none∧b≠X.env.locals∧b∉X.fs∧(b∈X.ex∨X.s₀.heap.objs.size≤b)∧(∀ x c,X.env.cells.lookup x=some c→c≠b)∧∀ p∈X.pn++pins,p.1≠b
theorem Inv.fpOk {X:Cx} {pins:List (Addr×Obj)} {σ:St} {H H':Hp} {s:Shared} {b:Addr} (I:Inv X pins σ H s) (hb:s.heap.objs.size≤b) (hn:H' b=none):FpOk X pins H' b := by
  refine ⟨hn,qCI (qY I.lt hb),I.nofs hb,.inr (qAF I.sz hb),fun x c e z => ?_,fun p hp z => ?_⟩
  · obtain ⟨v,q⟩ := I.cell x c e
    exact absurd (qY q.lt (by rw [z];exact hb)) (qAa _)
  · exact absurd (qY (qS (I.pin p hp).1) (by rw [z];exact hb)) (qAa _)
set_option genInjectivity false in
structure Turn (P:Program) (w:World) (K:qB) (tg:Expr) (J:It) (fp:List Addr) (it:Addr) (tn:Nat→Heap→Prop):Prop where
  mem:it∈fp
  obj:∀ i h,tn i h→∀ b∈fp,∃ o,h.get? b=some o∧∀ v,o.data≠.cell v
  keep:∀ i h h',tn i h→(∀ b∈fp,∀ o,h.get? b=some o→h'.get? b=some o)→tn i h'
  item:∀ (X:Cx),X.prog=P→X.w=w→X.K=K→X.calm=true→∀ (i:Nat) (pins:List (Addr×Obj)) (s:Shared) (σ:St) (H:Hp) (E:Value→Shared→Prop),Inv X pins σ H s→(∀ b∈fp,FpOk X pins H b)→tn i s.heap→J.go i H →
    wpAny (model P w) X.A (pyNext (.ref it)) (fun r s1 => ∃ u,r=some u ∧
      wpAny (model P w) X.A (letOwnedTupleGo tg (.ref it) u) (fun _ s2 => ∃ x H',Inv X pins σ H' s2∧RelV x u∧J.yld i H x H'∧tn (i+1) s2.heap∧∀ b∈fp,H' b=none) E s1) E s
  done:∀ (X:Cx),X.prog=P→X.w=w→X.K=K→X.calm=true→∀ (i:Nat) (pins:List (Addr×Obj)) (s:Shared) (σ:St) (H:Hp) (E:Value→Shared→Prop),Inv X pins σ H s→(∀ b∈fp,FpOk X pins H b)→tn i s.heap→J.stop i H →
    wpAny (model P w) X.A (pyNext (.ref it)) (fun r s1 => r=none∧Inv X pins σ H s1) E s
  self:∀ (A:Around) (i:Nat) (s:Shared) (Q:Value→Shared→Prop) (E:Value→Shared→Prop),tn i s.heap→Q (.ref it) s→wpAny (model P w) A (pyIter (.ref it)) Q E s
noncomputable abbrev TI := St→Hp→(It→Hp→Prop)→Prop
noncomputable def PIE (X:Cx) (pins:List (Addr×Obj)) (σ:St) (tg:Expr) (R:It→Hp→Prop) (itv:Value) (s2:Shared):Prop :=
  ∃ (it:Addr) (fp:List Addr) (tn:Nat→Heap→Prop) (J:It) (H':Hp),itv=.ref it∧Inv X pins σ H' s2∧Turn X.prog X.w X.K tg J fp it tn∧tn 0 s2.heap∧(∀ b∈fp,FpOk X pins H' b)∧R J H'
noncomputable def PI (X:Cx) (tg iter:Expr) (wi:TI):Prop :=
  ∀ (pins:List (Addr×Obj)) (s:Shared) (σ:St) (H:Hp) (R:It→Hp→Prop),Inv X pins σ H s→wi σ H R →
    wpAny (model X.prog X.w) X.A (eval iter X.env) (fun v s1 => wpAny (model X.prog X.w) X.A (pyIter v) (PIE X pins σ tg R) X.xe s1) X.xe s
theorem go_of {M:Model} {A:Around} {E:Value→Shared→Prop} {s:Shared} {tg:Expr} {it:Addr} {u:Value} {o:Obj} {n:String} {vs:Array Value} {Q:Unit→Shared→Prop} (ho:s.heap.get? it=some o) (hc:o.cls=.type n) (hd:o.data=.fields vs)
    (hn:["enumerate", "zip", "dict_itemiterator", "dict_reverseitemiterator", "odict_iterator", "itertools.zip_longest", "itertools.pairwise"].contains n=false) (hQ:Q () s):wpAny M A (letOwnedTupleGo tg (.ref it) u) Q E s := by
  unfold letOwnedTupleGo
  cases tg<;>first
    | exact qp hQ
    | (cases u<;>first
        | exact qp hQ
        | (refine qN (wpAny_load ho ?_)
           rw [hc,hd]
           show wpAny M A (if (["enumerate", "zip", "dict_itemiterator", "dict_reverseitemiterator", "odict_iterator", "itertools.zip_longest", "itertools.pairwise"].contains n&&vs[0]?==some (rawInt _))=true then _ else _) Q E s
           rw [if_neg (by intro h;rw [hn,Bool.false_and] at h;cases h)]
           exact qp hQ))
noncomputable def Itl (K:qB) (a:Addr):It :=
  ⟨fun i H => ∃ xs x,SqL K H a xs∧xs[i]?=some x,fun i H x H' => H'=H∧∀ xs,SqL K H a xs→xs[i]?=some x,fun i H => ∃ xs,SqL K H a xs∧xs.length≤i⟩
noncomputable def Itt (K:qB) (a:Addr):It :=
  ⟨fun i H => ∃ xs x,SqT K H a xs∧xs[i]?=some x,fun i H x H' => H'=H∧∀ xs,SqT K H a xs→xs[i]?=some x,fun i H => ∃ xs,SqT K H a xs∧xs.length≤i⟩
noncomputable def Itr (lo:Int) (n:Nat):It := ⟨fun i _ => i<n,fun i H x H' => H'=H∧x=.int (lo+i),fun i _ => n≤i⟩
theorem turn_list {P:Program} {w:World} {K:qB} {tg:Expr} (a it:Addr):Turn P w K tg (Itl K a) [it] it (fun i h => h.IsListIter it a i) where
  mem := by simp
  obj := fun i h st b hb => by
    have e:b=it := by simpa using hb
    subst e
    obtain ⟨o,e,c,d⟩ := st
    exact ⟨o,e,fun v z => by rw [d] at z;cases z⟩
  keep := fun i h h' st k => st.at fun o e => k it (by simp) o e
  item := by
    intro X hP hw hK hc i pins s σ H E I hf st hg
    subst hP hw hK
    obtain ⟨xs,x,hq,hx⟩ := hg
    obtain ⟨its,rv,p,hz⟩ := I.list hq
    obtain ⟨u,hu,ru⟩ := rv.get hx
    obtain ⟨f0,f1,f2,f3,f4,f5⟩ := hf it (by simp)
    refine wpAny_pyNext_list_item st p.isList (x := u) (by simpa using hu) fun h' st' sb => ?_
    have I1:Inv X pins σ H {s with heap := h'} := I.turned (t' := s.toks) (fun b o hb e => (sb.2 b hb).trans e) f0 f1 f3 f4 f5
    obtain ⟨o,e,c,d⟩ := id st'
    exact ⟨u,rfl,go_of (s := {s with heap := h'}) e c d (by decide) ⟨x,H,I1,ru,⟨rfl,fun ys hy => by rw [I.list_inj hy hq];exact hx⟩,st',fun b hb => (hf b hb).1⟩⟩
  done := by
    intro X hP hw hK hc i pins s σ H E I hf st hg
    subst hP hw hK
    obtain ⟨xs,hq,hx⟩ := hg
    obtain ⟨its,rv,p,hz⟩ := I.list hq
    obtain ⟨f0,f1,f2,f3,f4,f5⟩ := hf it (by simp)
    have hl := rv.length
    exact wpAny_pyNext_list_end (I.ok.hd hc) st p.isList (by simp;omega) fun h' eb => ⟨rfl,I.turned (t' := s.toks) (fun b o hb e => eb b o hb e) f0 f1 f3 f4 f5⟩
  self := fun _ _ _ _ _ st h => wpAny_pyIter_listiter st h
theorem turn_tuple {P:Program} {w:World} {K:qB} {tg:Expr} (a it:Addr):Turn P w K tg (Itt K a) [it] it (fun i h => h.IsTupleIter it a i) where
  mem := by simp
  obj := fun i h st b hb => by
    have e:b=it := by simpa using hb
    subst e
    obtain ⟨o,e,c,d⟩ := st
    exact ⟨o,e,fun v z => by rw [d] at z;cases z⟩
  keep := fun i h h' st k => st.at fun o e => k it (by simp) o e
  item := by
    intro X hP hw hK hc i pins s σ H E I hf st hg
    subst hP hw hK
    obtain ⟨xs,x,hq,hx⟩ := hg
    obtain ⟨its,rv,p,hz⟩ := I.tuple hq
    obtain ⟨u,hu,ru⟩ := rv.get hx
    obtain ⟨f0,f1,f2,f3,f4,f5⟩ := hf it (by simp)
    refine wpAny_pyNext_tuple_item st (show s.heap.IsTuple a its.toArray from p) (x := u) (by simpa using hu) fun h' st' sb => ?_
    have I1:Inv X pins σ H {s with heap := h'} := I.turned (t' := s.toks) (fun b o hb e => (sb.2 b hb).trans e) f0 f1 f3 f4 f5
    obtain ⟨o,e,c,d⟩ := id st'
    exact ⟨u,rfl,go_of (s := {s with heap := h'}) e c d (by decide) ⟨x,H,I1,ru,⟨rfl,fun ys hy => by rw [I.tuple_inj hy hq];exact hx⟩,st',fun b hb => (hf b hb).1⟩⟩
  done := by
    intro X hP hw hK hc i pins s σ H E I hf st hg
    subst hP hw hK
    obtain ⟨xs,hq,hx⟩ := hg
    obtain ⟨its,rv,p,hz⟩ := I.tuple hq
    obtain ⟨f0,f1,f2,f3,f4,f5⟩ := hf it (by simp)
    have hl := rv.length
    exact wpAny_pyNext_tuple_end (I.ok.hd hc) st (show s.heap.IsTuple a its.toArray from p) (by simp;omega) fun h' eb => ⟨rfl,I.turned (t' := s.toks) (fun b o hb e => eb b o hb e) f0 f1 f3 f4 f5⟩
  self := fun _ _ _ _ _ st h => wpAny_pyIter_tupleiter st h
theorem turn_range {P:Program} {w:World} {K:qB} {tg:Expr} (it:Addr) (lo:Int) (n:Nat):Turn P w K tg (Itr lo n) [it] it (fun i h => IsRangeIter h it (lo+(i:Nat) * 1) ((n:Int) - (i:Nat)) 1) where
  mem := by simp
  obj := fun i h st b hb => by
    have e:b=it := by simpa using hb
    subst e
    exact ⟨_,st,fun v z => by
      have z':Data.fields _=Data.cell v := z
      cases z'⟩
  keep := fun i h h' st k => k it (by simp) _ st
  item := by
    intro X hP hw hK hc i pins s σ H E I hf st hg
    subst hP hw hK
    obtain ⟨f0,f1,f2,f3,f4,f5⟩ := hf it (by simp)
    have W := Walks.range (prog := X.prog) (w := X.w) (I.ok.hd hc) it lo 1 n
    refine W.item i s _ _ hg st fun v h' tk hv st' kk => ?_
    obtain ⟨t,rfl⟩ := hv
    have I1:Inv X pins σ H {s with heap := h',toks := tk} := I.turned (fun b o hb e => kk b o (by simpa using hb) e) f0 f1 f3 f4 f5
    refine ⟨_,rfl,go_of (s := {s with heap := h',toks := tk}) (n := "range_iterator") st' rfl rfl (by decide) ⟨.int (lo+i),H,I1,⟨t,?_⟩,⟨rfl,rfl⟩,st',fun b hb => (hf b hb).1⟩⟩
    rw [Int.mul_one]
  done := by
    intro X hP hw hK hc i pins s σ H E I hf st hg
    subst hP hw hK
    obtain ⟨f0,f1,f2,f3,f4,f5⟩ := hf it (by simp)
    exact wpAny_pyNext_range_end (I.ok.hd hc) st (by have:n≤i := hg;omega) fun h' eb => ⟨rfl,I.turned (t' := s.toks) (fun b o hb e => eb b o hb e) f0 f1 f3 f4 f5⟩
  self := fun _ _ _ _ _ st h => wpAny_pyIter_rangeiter st h
section
variable {X:Cx} {tg:Expr}
theorem range_it {pins:List (Addr×Obj)} {σ:St} {H:Hp} {s:Shared} {R:It→Hp→Prop} {E:Value→Shared→Prop} {lo hi:Int} {t u v:Tok} {tk:Nat} (I:Inv X pins σ H s) (h1:-(2 ^ 62)≤lo) (h2:lo<2 ^ 62) (h3:-(2 ^ 62)≤hi) (h4:hi<2 ^ 62)
    (q:R (Itr lo (hi - lo).toNat) H):wpAny (model X.prog X.w) X.A (pyIter (.ref s.heap.objs.size)) (PIE X pins σ tg R) E {s with heap := s.heap.push {cls := .type "range",data := .fields #[.int lo t,.int hi u,.int 1 v]},toks := tk} := by
  refine wpAny_pyIter_range (IsRange.new ..) (small_one h1 h2 h3 h4) ?_
  have I1:Inv X pins σ H {s with heap := s.heap.push {cls := .type "range",data := .fields #[.int lo t,.int hi u,.int 1 v]},toks := tk} := I.kept fun b o e => qE _ e
  refine ⟨(s.heap.push {cls := .type "range",data := .fields #[.int lo t,.int hi u,.int 1 v]}).objs.size,[(s.heap.push {cls := .type "range",data := .fields #[.int lo t,.int hi u,.int 1 v]}).objs.size],_,_,H,rfl,
    I1.kept (t' := tk) fun b o e => qE _ e,turn_range _ lo (hi - lo).toNat,?_,fun b hb => ?_,q⟩
  · have e1:lo+((0:Nat):Int) * 1=lo := by simp
    have e2:(((hi - lo).toNat:Nat):Int) - ((0:Nat):Int)=Builtin.Range.rangeSize lo hi 1 := by rw [rangeSize_one];split<;>omega
    show IsRangeIter _ _ (lo+((0:Nat):Int) * 1) ((((hi - lo).toNat:Nat):Int) - ((0:Nat):Int)) 1
    rw [e1,e2]
    exact qAB _ rfl
  · have e:b=(s.heap.push {cls := .type "range",data := .fields #[.int lo t,.int hi u,.int 1 v]}).objs.size := by simpa using hb
    subst e
    exact I1.fpOk (qR _) (I1.hok.fresh (qR _))
noncomputable def iRng1 (ta:TA):TI := fun σ H R => ta σ H fun vs H1 => ∃ j:Int,vs=[.int j]∧-(2 ^ 62)≤j∧j<2 ^ 62∧R (Itr 0 j.toNat) H1
theorem pi_range1 {a:Expr} {ta:TA} {p pos:Pos} (hg:Gl X "range") (hm:X.mg "range" = none) (ha:PA X [a] ta) (hs:starEach [a] X.env=[(false,eval a X.env)] := by rfl):PI X tg (.Call (.Name "range" p) [a] [] pos) (iRng1 ta) := by
  intro pins s σ H R I h
  refine Call_ (ld_blt I hg hm boot_range (qBR (thn (ha pos pins s σ H _ I h) fun us s1 ⟨vs,H1,I1,r1,q1⟩ => ?_) hs rfl))
  obtain ⟨j,e,q1,q2,q⟩ := q1
  subst e
  cases r1 with
  | cons r rr =>
    cases rr
    obtain ⟨t,rfl⟩ := r
    exact call_range_1 (range_it I1 (by omega) (by omega) q1 q2 (by simpa using q))
noncomputable def tFor (wi:TI) (g:TG) (tb:TS):TS := fun D σ H => wi σ H fun J H1 => ∃ W:Nat→Nat→St→Hp→Prop,(∃ m,W 0 m σ H1)∧∀ i m σ H,W i m σ H →
  (J.stop i H∧D.nx σ H)∨(J.go i H∧∃ N:St→Hp→Prop,(∀ σ' H',N σ' H'→∃ m',m'<m∧W (i+1) m' σ' H')∧∀ x H',J.yld i H x H'→g x σ H' fun σ2 H2 => tb {D with nx := N,ct := N,bk := D.nx} σ2 H2)
noncomputable def pinsAt (fp:List Addr) (h:Heap):List (Addr×Obj) := fp.filterMap fun b => (h.get? b).map fun o => (b,o)
theorem mem_pinsAt {fp:List Addr} {h:Heap} {b:Addr} {o:Obj} (hb:b∈fp) (e:h.get? b=some o):(b,o)∈pinsAt fp h := qBW.mpr ⟨b,hb,by rw [e];rfl⟩
theorem of_pinsAt {fp:List Addr} {h:Heap} {p:Addr×Obj} (hp:p∈pinsAt fp h):p.1∈fp∧h.get? p.1=some p.2 := by
  obtain ⟨b,hb,e⟩ := qBW.mp hp
  cases q:h.get? b with
  | none => rw [q] at e;cases e
  | some o =>
    rw [q] at e
    have e':(b,o)=p := qP e
    subst e'
    exact ⟨hb,q⟩
theorem Inv.pinned {pins:List (Addr×Obj)} {σ:St} {H:Hp} {s:Shared} {fp:List Addr} (I:Inv X pins σ H s) (hf:∀ b∈fp,FpOk X pins H b) (ho:∀ b∈fp,∃ o,s.heap.get? b=some o∧∀ v,o.data≠.cell v):Inv X (pins++pinsAt fp s.heap) σ H s :=
  I.pins_of fun p hp => (qAA.mp hp).elim (fun z => I.pin p (qX _ z)) fun z => by
    obtain ⟨hb,e⟩ := of_pinsAt z
    obtain ⟨f0,f1,f2,_⟩ := hf p.1 hb
    obtain ⟨o,e',d⟩ := ho p.1 hb
    rw [e] at e';cases e'
    exact ⟨e,f0,f1,f2,d⟩
theorem Inv.unpinned {pins pl:List (Addr×Obj)} {σ:St} {H:Hp} {s:Shared} (I:Inv X (pins++pl) σ H s):Inv X pins σ H s := I.pins_of fun p hp => I.pin p (qX _ (qi _ hp))
theorem ps_for {iter:Expr} {body:List Stmt} {wi:TI} {g:TG} {tb:TS} {pos:Pos} (hp:PassesOwn (model X.prog X.w) X.A X.env X.xe) (hc:X.calm=true) (hi:PI X tg iter wi) (hg:PG X tg g) (hb:PSs X body tb)
    (hs:∀ x,foldedSetIterable iter X.env x=pure x := by intro _;rfl):PS X (.For tg iter body [] pos) (tFor wi g tb) := by
  intro pins s σ H D I h
  refine wpAny_For (thn (hi pins s σ H _ I h) fun v s1 h1 => thn h1 fun itv s2 h2 => ?_) hs
  obtain ⟨it,fp,tn,J,H2,e,I2,T,st2,f2,W,⟨m0,w0⟩,turn⟩ := h2
  subst e
  have stat:∀ {H':Hp},(∀ b∈fp,H' b=none)→∀ b∈fp,FpOk X pins H' b := fun hn b hb => ⟨hn b hb,(f2 b hb).2⟩
  refine codeAny_forLoop_any (fun n s' => ∃ i σ' H',Inv X pins σ' H' s'∧tn i s'.heap∧(∀ b∈fp,H' b=none)∧W i n σ' H') ?_ m0 ⟨0,σ,H2,I2,st2,fun b hb => (f2 b hb).1,w0⟩
  rintro n s3 ⟨i,σ3,H3,I3,st3,fr3,w3⟩
  rcases turn i n σ3 H3 w3 with ⟨stop,qn⟩|⟨go,N,hN,step⟩
  · refine qA8 hp (thn (T.done X rfl rfl rfl hc i pins s3 σ3 H3 X.xe I3 (stat fr3) st3 stop) fun r s4 ⟨hr,I4⟩ => ?_)
    subst hr
    exact qA9 ⟨σ3,H3,I4,qn⟩
  · refine qA8 hp (thn (T.item X rfl rfl rfl hc i pins s3 σ3 H3 X.xe I3 (stat fr3) st3 go) fun r s4 ⟨u,hr,h4⟩ => ?_)
    subst hr
    refine qA8 hp (thn h4 fun _ s5 ⟨x,H5,I5,r5,y5,st5,fr5⟩ => ?_)
    have I5' := I5.pinned (stat fr5) (T.obj _ _ st5)
    refine qA8 hp (thn (hg _ s5 σ3 H5 x u _ I5' r5 (step x H5 y5)) fun _ s6 ⟨σ6,H6,I6,q6⟩ => ?_)
    refine qA8 hp (thn (hb _ s6 σ6 H6 _ I6 q6) fun f s7 q7 => ?_)
    have again:∀ {σ7:St} {H7:Hp},Inv X (pins++pinsAt fp s5.heap) σ7 H7 s7→N σ7 H7→∃ m,m<n∧∃ i σ' H',Inv X pins σ' H' s7∧tn i s7.heap∧(∀ b∈fp,H' b=none)∧W i m σ' H' := fun {σ7 H7} I7 n7 => by
      obtain ⟨m',hm,w7⟩ := hN σ7 H7 n7
      refine ⟨m',hm,i+1,σ7,H7,I7.unpinned,T.keep _ _ _ st5 fun b hb o e => (I7.pin (b,o) (qX _ (qX _ (mem_pinsAt hb e)))).1,fun b hb => ?_,w7⟩
      obtain ⟨o,e,d⟩ := T.obj _ _ st5 b hb
      exact (I7.pin (b,o) (qX _ (qX _ (mem_pinsAt hb e)))).2.1
    cases f with
    | next => obtain ⟨σ7,H7,I7,n7⟩ := q7;exact again I7 n7
    | cont => obtain ⟨σ7,H7,I7,n7⟩ := q7;exact again I7 n7
    | brk => obtain ⟨σ7,H7,I7,q7⟩ := q7;exact ⟨σ7,H7,I7.unpinned,q7⟩
    | ret v => obtain ⟨x7,σ7,H7,I7,r7,q7⟩ := q7;exact ⟨x7,σ7,H7,I7.unpinned,r7,q7⟩
end
noncomputable abbrev R2 := V→V→Hp→VK→Prop
noncomputable def OpR (X:Cx) (f:Value→Value→Sem Value) (r:R2):Prop :=
  ∀ (pins:List (Addr×Obj)) (s:Shared) (σ:St) (H:Hp) (x y:V) (v u:Value) (Q:VK),Inv X pins σ H s→RelV x v→RelV y u→r x y H Q →
    wpAny (model X.prog X.w) X.A (f v u) (EP X pins σ Q) X.xe s
noncomputable def CallR (X:Cx) (f:Value) (r:List V→Hp→VK→Prop):Prop :=
  ∀ (pins:List (Addr×Obj)) (s:Shared) (σ:St) (H:Hp) (xs:List V) (us:List Value) (Q:VK),Inv X pins σ H s→Vals xs us→r xs H Q →
    wpAny (model X.prog X.w) X.A (call f us) (EP X pins σ Q) X.xe s
noncomputable def TruR (X:Cx) (r:V→Hp→(Bool→Hp→Prop)→Prop):Prop :=
  ∀ (pins:List (Addr×Obj)) (s:Shared) (σ:St) (H:Hp) (x:V) (v:Value) (Q:Bool→Hp→Prop),Inv X pins σ H s→RelV x v→r x H Q →
    wpAny (model X.prog X.w) X.A (truthy v) (TP X pins σ Q) X.xe s
noncomputable def tOp (r:R2) (ta tb:TE):TE := fun σ H Q => ta σ H fun x H1 => tb σ H1 fun y H2 => r x y H2 Q
noncomputable def rI (C:Int→Int→Prop) (g:Int→Int→V):R2 := fun x y H Q => ∃ i j,x=.int i∧y=.int j∧C i j∧Q (g i j) H
noncomputable def rI0 (g:Int→Int→V):R2 := fun x y H Q => ∃ i j,x=.int i∧y=.int j∧Q (g i j) H
section
variable {X:Cx} {a b c:Expr} {ta tb tc:TE} {pos:Pos}
theorem binT (ha:PE X a ta) (hb:PE X b tb) {pins:List (Addr×Obj)} {s:Shared} {σ:St} {H:Hp} {R:V→V→Hp→Prop} (I:Inv X pins σ H s)
    (h:ta σ H fun x H1 => tb σ H1 fun y H2 => R x y H2) {Q:Value→Shared→Prop} {f:Value→Value→Sem Value}
    (hf:∀ v u s2 x y H2,Inv X pins σ H2 s2→RelV x v→RelV y u→R x y H2→wpAny (model X.prog X.w) X.A (f v u) Q X.xe s2) :
    wpAny (model X.prog X.w) X.A (eval a X.env) (fun v s₁ => wpAny (model X.prog X.w) X.A (eval b X.env) (fun u s₂ => wpAny (model X.prog X.w) X.A (f v u) Q X.xe s₂) X.xe s₁) X.xe s := by
  refine thn (ha pins s σ H _ I h) fun v s1 ⟨x,H1,I1,r1,q1⟩ => ?_
  refine thn (hb pins s1 σ H1 _ I1 q1) fun u s2 ⟨y,H2,I2,r2,q2⟩ => ?_
  exact hf v u s2 x y H2 I2 r1 r2 q2
theorem pe_op {op:Operator} {r:R2} (ho:OpR X (binaryOp op) r) (ha:PE X a ta) (hb:PE X b tb):PE X (.BinOp a op b pos) (tOp r ta tb) := by
  intro pins s σ H Q I h
  exact wpAny_BinOp (binT ha hb I h fun v u s2 x y H2 I2 rx ry q => ho pins s2 σ H2 x y v u Q I2 rx ry q)
theorem opI {f:Value→Value→Sem Value} {C:Int→Int→Prop} {g:Int→Int→Int}
    (rule:∀ (i j:Int) (t u:Tok) (s:Shared) (Q:Value→Shared→Prop) (E:Value→Shared→Prop),C i j→Q (.int (g i j) s.toks) {s with toks := s.toks+1}→wpAny (model X.prog X.w) X.A (f (.int i t) (.int j u)) Q E s) :
    OpR X f (rI C fun i j => .int (g i j)) := by
  intro pins s σ H x y v u Q I rx ry h
  obtain ⟨i,j,rfl,rfl,hc,q⟩ := h
  obtain ⟨t,rfl⟩ := rx
  obtain ⟨t',rfl⟩ := ry
  exact rule i j t t' s _ _ hc ⟨.int (g i j),H,I.tok _,⟨_,rfl⟩,q⟩
theorem opI0 {f:Value→Value→Sem Value} {g:Int→Int→Int}
    (rule:∀ (i j:Int) (t u:Tok) (s:Shared) (Q:Value→Shared→Prop) (E:Value→Shared→Prop),Q (.int (g i j) s.toks) {s with toks := s.toks+1}→wpAny (model X.prog X.w) X.A (f (.int i t) (.int j u)) Q E s) :
    OpR X f (rI0 fun i j => .int (g i j)) := by
  intro pins s σ H x y v u Q I rx ry h
  obtain ⟨i,j,rfl,rfl,q⟩ := h
  obtain ⟨t,rfl⟩ := rx
  obtain ⟨t',rfl⟩ := ry
  exact rule i j t t' s _ _ ⟨.int (g i j),H,I.tok _,⟨_,rfl⟩,q⟩
theorem opB0 {f:Value→Value→Sem Value} {g:Int→Int→Bool}
    (rule:∀ (i j:Int) (t u:Tok) (s:Shared) (Q:Value→Shared→Prop) (E:Value→Shared→Prop),Q (.bool (g i j)) s→wpAny (model X.prog X.w) X.A (f (.int i t) (.int j u)) Q E s) :
    OpR X f (rI0 fun i j => .bl (g i j)) := by
  intro pins s σ H x y v u Q I rx ry h
  obtain ⟨i,j,rfl,rfl,q⟩ := h
  obtain ⟨t,rfl⟩ := rx
  obtain ⟨t',rfl⟩ := ry
  exact rule i j t t' s _ _ ⟨.bl (g i j),H,I,rfl,q⟩
noncomputable def CDiv (i j:Int):Prop := 0<j∧j<1073741824
noncomputable def CPow (i j:Int):Prop := 0≤j∧j≤1000000∧i.natAbs<2 ^ 64
noncomputable def CMul (i j:Int):Prop := (-(2 ^ 64)<i∧i<2 ^ 64)∨(-(2 ^ 64)<j∧j<2 ^ 64)
theorem CMul.ok {i j:Int} (h:CMul i j):IntMulOk i j := by
  rcases h with ⟨h1,h2⟩|⟨h1,h2⟩
  · exact .of_left (intBits_le_64 h1 h2)
  · exact .of_right (intBits_le_64 h1 h2)
theorem op_add:OpR X (binaryOp .Add) (rI0 fun i j => .int (i+j)) := opI0 fun _ _ _ _ _ _ _ q => add_int q
theorem op_mul:OpR X (binaryOp .Mult) (rI CMul fun i j => .int (i * j)) := opI fun _ _ _ _ _ _ _ hc q => mul_int q hc.ok
theorem op_fdiv:OpR X (binaryOp .FloorDiv) (rI CDiv fun i j => .int (i / j)) := opI fun i j _ _ _ _ _ hc q => by
  have h1:(0:Int)<j := hc.1
  have h2:j<1073741824 := hc.2
  exact floordiv_int (by omega) (by rw [Int.fdiv_eq_ediv_of_nonneg i (by omega)];exact q) (.inl (PyProof.noPylong_small (by omega)))
theorem op_mod:OpR X (binaryOp .Mod) (rI (fun _ j => 0<j) fun i j => .int (i % j)) := opI fun i j _ _ _ _ _ hc q => by
  have h1:(0:Int)<j := hc
  exact mod_int' (by omega) (by rw [Int.fmod_eq_emod_of_nonneg i (by omega)];exact q)
theorem op_pow:OpR X (binaryOp .Pow) (rI CPow fun i j => .int (i ^ j.toNat)) := opI fun _ _ _ _ _ _ _ hc q => pow_int_small hc.1 hc.2.1 hc.2.2 q
end
noncomputable def scal:V→V→Bool
  | .non,.non => true|.non,.int _ => true|.int _,.non => true|.non,.bl _ => true|.bl _,.non => true|.non,.str _ => true|.str _,.non => true
  | .int _,.int _ => true|.bl _,.bl _ => true|.str _,.str _ => true|.byt _,.byt _ => true
  | .int _,.str _ => true|.str _,.int _ => true|.bl _,.str _ => true|.str _,.bl _ => true
  | _,_ => false
noncomputable def rEq:R2 := fun x y H Q => scal x y=true∧Q (.bl (decide (x=y))) H
noncomputable def rNe:R2 := fun x y H Q => scal x y=true∧Q (.bl (!decide (x=y))) H
theorem dec_int {i j:Int}:decide (V.int i=V.int j)=(i==j) := by
  rw [qAW]
  simp
theorem dec_bl {i j:Bool}:decide (V.bl i=V.bl j)=(i==j) := by
  rw [qAW]
  simp
theorem dec_str {i j:Str}:decide (V.str i=V.str j)=(i==j) := by
  rw [qAW]
  simp
theorem dec_byt {i j:Array UInt8}:decide (V.byt i=V.byt j)=(i.toList==j.toList) := by
  rw [qAW]
  cases i
  cases j
  simp
section
variable {X:Cx} {a b c:Expr} {ta tb tc:TE} {pos:Pos}
theorem fin_bl {pins:List (Addr×Obj)} {σ:St} {H:Hp} {s:Shared} {Q:VK} {k k':Bool} (I:Inv X pins σ H s) (q:Q (.bl k) H) (e:k=k'):EP X pins σ Q (.bool k') s := by
  subst e
  exact ⟨.bl k,H,I,rfl,q⟩
theorem op_eq:OpR X (compareOp .Eq) rEq := by
  intro pins s σ H x y v u Q I rx ry h
  obtain ⟨hs,q⟩ := h
  cases x with
  | non =>
    cases rx
    cases y with
    | non => cases ry;exact PySem.EqNone.eq_none_none (fin_bl I q (by simp))
    | bl j => cases ry;exact PySem.EqNone.eq_none_bool (fin_bl I q (by simp))
    | int j => obtain ⟨t',rfl⟩ := ry;exact PySem.EqNone.eq_none_int (fin_bl I q (by simp))
    | str j => obtain ⟨t',rfl⟩ := ry;exact PySem.EqNone.eq_none_str (fin_bl I q (by simp))
    | _ => exact absurd (show false=true from hs) qI
  | bl i =>
    cases rx
    cases y with
    | non => cases ry;exact PySem.EqNone.eq_bool_none (fin_bl I q (by simp))
    | bl j => cases ry;exact eq_bool (fin_bl I q dec_bl)
    | str j => obtain ⟨t',rfl⟩ := ry;exact PySem.EqMixed.eq_bool_str (fin_bl I q (by simp))
    | _ => exact absurd (show false=true from hs) qI
  | int i =>
    obtain ⟨t,rfl⟩ := rx
    cases y with
    | non => cases ry;exact PySem.EqNone.eq_int_none (fin_bl I q (by simp))
    | int j => obtain ⟨t',rfl⟩ := ry;exact eq_int (fin_bl I q dec_int)
    | str j => obtain ⟨t',rfl⟩ := ry;exact PySem.EqMixed.eq_int_str (fin_bl I q (by simp))
    | _ => exact absurd (show false=true from hs) qI
  | str i =>
    obtain ⟨t,rfl⟩ := rx
    cases y with
    | non => cases ry;exact PySem.EqNone.eq_str_none (fin_bl I q (by simp))
    | bl j => cases ry;exact PySem.EqMixed.eq_str_bool (fin_bl I q (by simp))
    | int j => obtain ⟨t',rfl⟩ := ry;exact PySem.EqMixed.eq_str_int (fin_bl I q (by simp))
    | str j => obtain ⟨t',rfl⟩ := ry;exact eq_str (fin_bl I q dec_str)
    | _ => exact absurd (show false=true from hs) qI
  | byt i =>
    obtain ⟨t,rfl⟩ := rx
    cases y with
    | byt j => obtain ⟨t',rfl⟩ := ry;exact PySem.W.eq_bytes (fin_bl I q dec_byt)
    | _ => exact absurd (show false=true from hs) qI
  | _ => cases y<;>exact absurd (show false=true from hs) qI
theorem op_ne:OpR X (compareOp .NotEq) rNe := by
  intro pins s σ H x y v u Q I rx ry h
  obtain ⟨hs,q⟩ := h
  cases x with
  | non =>
    cases rx
    cases y with
    | non => cases ry;exact PySem.EqNone.ne_none_none (fin_bl I q (by simp))
    | bl j => cases ry;exact PySem.EqNone.ne_none_bool (fin_bl I q (by simp))
    | int j => obtain ⟨t',rfl⟩ := ry;exact PySem.EqNone.ne_none_int (fin_bl I q (by simp))
    | str j => obtain ⟨t',rfl⟩ := ry;exact PySem.EqNone.ne_none_str (fin_bl I q (by simp))
    | _ => exact absurd (show false=true from hs) qI
  | bl i =>
    cases rx
    cases y with
    | non => cases ry;exact PySem.EqNone.ne_bool_none (fin_bl I q (by simp))
    | bl j => cases ry;exact ne_bool (fin_bl I q (congrArg not dec_bl))
    | str j => obtain ⟨t',rfl⟩ := ry;exact PySem.EqMixed.ne_bool_str (fin_bl I q (by simp))
    | _ => exact absurd (show false=true from hs) qI
  | int i =>
    obtain ⟨t,rfl⟩ := rx
    cases y with
    | non => cases ry;exact PySem.EqNone.ne_int_none (fin_bl I q (by simp))
    | int j => obtain ⟨t',rfl⟩ := ry;exact ne_int (fin_bl I q (congrArg not dec_int))
    | str j => obtain ⟨t',rfl⟩ := ry;exact PySem.EqMixed.ne_int_str (fin_bl I q (by simp))
    | _ => exact absurd (show false=true from hs) qI
  | str i =>
    obtain ⟨t,rfl⟩ := rx
    cases y with
    | non => cases ry;exact PySem.EqNone.ne_str_none (fin_bl I q (by simp))
    | bl j => cases ry;exact PySem.EqMixed.ne_str_bool (fin_bl I q (by simp))
    | int j => obtain ⟨t',rfl⟩ := ry;exact PySem.EqMixed.ne_str_int (fin_bl I q (by simp))
    | str j => obtain ⟨t',rfl⟩ := ry;exact ne_str (fin_bl I q (congrArg not dec_str))
    | _ => exact absurd (show false=true from hs) qI
  | byt i =>
    obtain ⟨t,rfl⟩ := rx
    cases y with
    | byt j => obtain ⟨t',rfl⟩ := ry;exact PySem.W.ne_bytes (fin_bl I q (congrArg not dec_byt))
    | _ => exact absurd (show false=true from hs) qI
  | _ => cases y<;>exact absurd (show false=true from hs) qI
theorem op_lt:OpR X (compareOp .Lt) (rI0 fun i j => .bl (decide (i<j))) := opB0 fun _ _ _ _ _ _ _ q => lt_int q
theorem op_gt:OpR X (compareOp .Gt) (rI0 fun i j => .bl (decide (j<i))) := opB0 fun _ _ _ _ _ _ _ q => gt_int q
theorem OpR.or {f:Value→Value→Sem Value} {r r':R2} (h:OpR X f r) (h':OpR X f r'):OpR X f (fun x y H Q => r x y H Q∨r' x y H Q) := by
  intro pins s σ H x y v u Q I rx ry q
  rcases q with q|q
  · exact h pins s σ H x y v u Q I rx ry q
  · exact h' pins s σ H x y v u Q I rx ry q
theorem nomark (b:Expr) {op:CmpOp} (h:op≠.In := by decide) (h2:op≠.NotIn := by decide):behindInMarks op b=false := by
  have e1:(op==CmpOp.In)=false := by cases op<;>first|rfl|exact absurd rfl h
  have e2:(op==CmpOp.NotIn)=false := by cases op<;>first|rfl|exact absurd rfl h2
  cases b<;>simp [behindInMarks,e1,e2]
theorem pe_cmpR {op:CmpOp} {r:R2} (ho:OpR X (compareOp op) r) (ha:PE X a ta) (hb:PE X b tb) (hm:behindInMarks op b=false):PE X (.Compare a [op] [b] pos) (tOp r ta tb) := by
  intro pins s σ H Q I h
  exact wpAny_Compare1 (binT ha hb I h fun v u s2 x y H2 I2 rx ry q => ho pins s2 σ H2 x y v u Q I2 rx ry q) hm
noncomputable def tTest (t:TE):TT := fun σ H Q => t σ H fun x H' => ∃ k,x=.bl k∧Q k H'
theorem pt_cmpR {op:CmpOp} {r:R2} (ho:OpR X (compareOp op) r) (ha:PE X a ta) (hb:PE X b tb) (hm:behindInMarks op b=false):PT X (.Compare a [op] [b] pos) (tTest (tOp r ta tb)) := by
  intro pins s σ H Q I h
  refine wpAny_isTrue_Compare1 (thn (ha pins s σ H _ I h) fun v s1 ⟨x,H1,I1,r1,q1⟩ => thn (hb pins s1 σ H1 _ I1 q1) fun u s2 ⟨y,H2,I2,r2,q2⟩ =>
    thn (ho pins s2 σ H2 x y v u _ I2 r1 r2 q2) fun c s3 ⟨z,H3,I3,r3,k,e,q3⟩ => ?_) hm
  subst e
  cases r3
  exact qBI ⟨H3,I3,q3⟩
noncomputable def TruV (K:qB) (x:V) (H:Hp) (k:Bool):Prop :=
  match x with
  | .non => k=false
  | .bl b => k=b
  | .int i => k=(i != 0)
  | .str y => y.length≤qM∧k=((y.length:Int) != 0)
  | .byt y => y.size≤qM∧k=((y.size:Int) != 0)
  | .ref p => (∃ xs,SqL K H p xs∧k=!xs.isEmpty)∨(∃ xs,SqT K H p xs∧k=!xs.isEmpty)∨∃ kvs,H p=some (.dK kvs)∧k=!kvs.isEmpty
  | _ => False
theorem isEmpty_kv {κ:Type} {kvs:List (κ×V)} {vs:List (κ×Value)} (r:KV kvs vs):(!vs.isEmpty)=!kvs.isEmpty := by
  cases r<;>rfl
theorem isEmpty_of {xs:List V} {its:List Value} (r:Vals xs its):(!its.toArray.isEmpty)=!xs.isEmpty := by
  cases r<;>simp
theorem line63:(qM:Nat)<2 ^ 63 := by rw [qAT];decide
theorem tru_ok:TruR X (fun x H Q => ∃ k,TruV X.K x H k∧Q k H) := by
  intro pins s σ H x v Q I rx h
  obtain ⟨k,e,q⟩ := h
  have hl := line63
  have hs:qM=16777216 := qAT
  cases x with
  | non =>
    cases rx
    have e':k=false := e
    subst e'
    exact truthy_none ⟨H,I,q⟩
  | bl b =>
    cases rx
    have e':k=b := e
    subst e'
    exact qBI ⟨H,I,q⟩
  | int i =>
    obtain ⟨t,rfl⟩ := rx
    have e':k=(i != 0) := e
    subst e'
    exact PySem.P.truthy_int ⟨H,I,q⟩
  | str y =>
    obtain ⟨t,rfl⟩ := rx
    obtain ⟨hy,e'⟩:y.length≤qM∧k=((y.length:Int) != 0) := e
    subst e'
    exact PySem.P.truthy_str (by omega) ⟨H,I.tok _,q⟩
  | byt y =>
    obtain ⟨t,rfl⟩ := rx
    obtain ⟨hy,e'⟩:y.size≤qM∧k=((y.size:Int) != 0) := e
    subst e'
    exact PySem.W.truthy_bytes (by omega) ⟨H,I.tok _,q⟩
  | ref p =>
    cases rx
    have e':(∃ xs,SqL X.K H p xs∧k=!xs.isEmpty)∨(∃ xs,SqT X.K H p xs∧k=!xs.isEmpty)∨∃ kvs,H p=some (.dK kvs)∧k=!kvs.isEmpty := e
    rcases e' with ⟨xs,hx,e'⟩|⟨xs,hx,e'⟩|⟨kvs,hx,e'⟩
    · subst e'
      obtain ⟨its,r,pl,hz⟩ := I.list hx
      have hlen := r.length
      exact wpAny_truthy_list pl.isList (by simp only [qH];omega) ⟨H,I.tok _,by rw [isEmpty_of r];exact q⟩
    · subst e'
      obtain ⟨its,r,pl,hz⟩ := I.tuple hx
      have hlen := r.length
      exact truthy_tuple pl (by simp only [qH];omega) ⟨H,I.tok _,by rw [isEmpty_of r];exact q⟩
    · subst e'
      obtain ⟨hz,hS,vs,r,m⟩:kvs.length≤qM∧(p==sysModules)=false∧∃ vs,KV kvs vs∧s.heap.DictOf (mixKind X.prog X.w) p vs := I.hok p _ hx
      have hlen:kvs.length=vs.length := qBS r
      exact wpAny_truthy_dict hS m (by omega) ⟨H,I.tok _,by rw [isEmpty_kv r];exact q⟩
  | _ => exact (show False from e).elim
theorem pt_truth (ha:PE X a ta) (he:∀ whole,isTrue a X.env whole=(do let v ← whole;standAt a.pos;holding [v] (truthy v))) :
    PT X a (fun σ H Q => ta σ H fun x H' => ∃ k,TruV X.K x H' k∧Q k H') := by
  intro pins s σ H Q I h
  exact isTrue_plain (thn (ha pins s σ H _ I h) fun v s1 ⟨x,H1,I1,r1,q1⟩ => tru_ok pins s1 σ H1 x v Q I1 r1 q1) (he _)
theorem op_add_str:OpR X (binaryOp .Add) (fun x y H Q => ∃ i j,x=.str i∧y=.str j∧i.length+j.length≤qM∧Q (.str (i++j)) H) := by
  intro pins s σ H x y v u Q I rx ry h
  obtain ⟨i,j,rfl,rfl,hz,q⟩ := h
  obtain ⟨t,rfl⟩ := rx
  obtain ⟨t',rfl⟩ := ry
  exact add_str (fun t' tk => ⟨.str (i++j),H,I.tok _,⟨_,rfl⟩,q⟩) hz
theorem vals1 {x:V} {us:List Value} (r:Vals [x] us):∃ u,us=[u]∧RelV x u := by
  cases r with
  | cons r1 r2 => cases r2;exact ⟨_,rfl,r1⟩
theorem vals2 {x y:V} {us:List Value} (r:Vals [x,y] us):∃ u w',us=[u,w']∧RelV x u∧RelV y w' := by
  cases r with
  | cons r1 r2 =>
    cases r2 with
    | cons r3 r4 => cases r4;exact ⟨_,_,rfl,r1,r3⟩
theorem call_abs:CallR X (.builtin "abs") (fun xs H Q => ∃ i,xs=[.int i]∧Q (.int (if i<0 then -i else i)) H) := by
  intro pins s σ H xs us Q I r h
  obtain ⟨i,rfl,q⟩ := h
  obtain ⟨u,rfl,t,rfl⟩ := vals1 r
  exact call_abs_int fun u tk => ⟨.int (if i<0 then -i else i),H,I.tok _,⟨_,rfl⟩,q⟩
theorem call_min2 (hc:X.calm=true):CallR X (.builtin "min") (fun xs H Q => ∃ i j,xs=[.int i,.int j]∧Q (.int (if j<i then j else i)) H) := by
  intro pins s σ H xs us Q I r h
  obtain ⟨i,j,rfl,q⟩ := h
  obtain ⟨u,w',rfl,⟨t,rfl⟩,⟨t',rfl⟩⟩ := vals2 r
  refine min_two_ints (I.ok.hd hc) fun h' tk k => ⟨_,H,I.kept k,?_,q⟩
  by_cases hj:j<i
  · rw [if_pos hj,if_pos hj];exact ⟨_,rfl⟩
  · rw [if_neg hj,if_neg hj];exact ⟨_,rfl⟩
noncomputable def LenV (K:qB) (x:V) (H:Hp) (n:Nat):Prop :=
  match x with
  | .str y => y.length≤qM∧n=y.length
  | .byt y => y.size≤qM∧n=y.size
  | .ref p => (∃ xs,SqL K H p xs∧n=xs.length)∨∃ xs,SqT K H p xs∧n=xs.length
  | _ => False
theorem call_len:CallR X (.builtin "len") (fun xs H Q => ∃ x n,xs=[x]∧LenV X.K x H n∧Q (.int n) H) := by
  intro pins s σ H xs us Q I r h
  obtain ⟨x,n,rfl,e,q⟩ := h
  obtain ⟨u,rfl,rx⟩ := vals1 r
  have hl := line63
  have hs:qM=16777216 := qAT
  cases x with
  | str y =>
    obtain ⟨t,rfl⟩ := rx
    obtain ⟨hy,e'⟩:y.length≤qM∧n=y.length := e
    subst e'
    exact len_str (by omega) ⟨.int _,H,I.tok _,⟨_,rfl⟩,q⟩
  | byt y =>
    obtain ⟨t,rfl⟩ := rx
    obtain ⟨hy,e'⟩:y.size≤qM∧n=y.size := e
    subst e'
    exact PySem.W.len_bytes (by omega) ⟨.int _,H,I.tok _,⟨_,rfl⟩,q⟩
  | ref p =>
    cases rx
    have e':(∃ xs,SqL X.K H p xs∧n=xs.length)∨∃ xs,SqT X.K H p xs∧n=xs.length := e
    rcases e' with ⟨xs,hx,e'⟩|⟨xs,hx,e'⟩
    · subst e'
      obtain ⟨its,r',pl,hz⟩ := I.list hx
      have hlen := r'.length
      exact Calls.call_len_list pl.isList (by simp only [qH];omega) ⟨.int xs.length,H,I.tok _,⟨_,by simp only [qH];rw [hlen]⟩,q⟩
    · subst e'
      obtain ⟨its,r',pl,hz⟩ := I.tuple hx
      have hlen := r'.length
      exact len_tuple pl (by simp only [qH];omega) ⟨.int xs.length,H,I.tok _,⟨_,by simp only [qH];rw [hlen]⟩,q⟩
  | _ => exact (show False from e).elim
end
set_option genInjectivity false in
structure ObjM (h:Heap) (x dx C:Addr) (mA:Str→Option Value):Prop where
  obj:h.get? x=some (PySem.W.instObj C dx)
  ns:h.Ns1 dx mA
  ne:dx≠x
theorem lookIn_ns {h:Heap} {dx:Addr} {mA:Str→Option Value} (n:h.Ns1 dx mA):∃ od,h.get? dx=some od∧∀ name,PySem.W.lookIn name od=some (mA name) := by
  obtain ⟨o,es,ep,ho,hd,hk,_,hm⟩ := n
  refine ⟨o,ho,fun name => ?_⟩
  have e := hm name
  unfold nsFind findBy at e
  rw [← Array.find?_toList] at e
  unfold PySem.W.lookIn
  rw [hd]
  dsimp only
  split
  · rename_i y q
    rw [q] at e
    exact congrArg some e
  · rename_i q
    rw [q] at e
    have a:es.toList.any (·.refKey)=false := by
      rw [List.any_eq_false]
      intro y hy
      obtain ⟨z,t,hkey⟩ := hk y (qCE.mp hy)
      simp [DictEntry.refKey,hkey]
    have a':¬ es.toList.any (·.refKey)=true := by rw [a];exact qI
    rw [if_neg a']
    exact congrArg some e
theorem ObjM.look {h:Heap} {x dx C:Addr} {mA:Str→Option Value} (I:ObjM h x dx C mA):∃ od,PySem.W.InstAt h x (PySem.W.instObj C dx) C (some od)∧∀ name,PySem.W.lookIn name od=some (mA name) :=
  let ⟨od,ho,hl⟩ := lookIn_ns I.ns
  ⟨od,⟨I.obj,rfl,rfl,ho⟩,hl⟩
section
variable {prog:Program} {w:World} {A:Around} {E:Value→Shared→Prop} {s:Shared} {K:qB} {x dx C f:Addr} {mA:Str→Option Value} {name:Str} {v:Value}
end
theorem RelO.some_of {v:V} {o:Option Value} (r:RelO (some v) o):∃ u,o=some u∧RelV v u := by
  cases o with
  | none => exact (show False from r).elim
  | some u => exact ⟨u,rfl,r⟩
theorem handed_of {v:V} {u:Value} (r:RelV v u):PySem.W.handedIn u=true := by
  cases v with
  | non => cases (show u=Value.none from r);rfl
  | bl b => cases (show u=Value.bool b from r);rfl
  | int i => obtain ⟨t,e⟩ := (show ∃ t,u=Value.int i t from r);cases e;rfl
  | str x => obtain ⟨t,e⟩ := (show ∃ t,u=Value.str x t from r);cases e;rfl
  | byt b => obtain ⟨t,e⟩ := (show ∃ t,u=Value.bytes b t from r);cases e;rfl
  | flt b => obtain ⟨t,e⟩ := (show ∃ t,u=Value.float b t from r);cases e;rfl
  | ref a => cases (show u=Value.ref a from r);rfl
  | ty n => cases (show u=Value.type n from r);rfl
section
variable {P:Program} {w:World} {H H':Hp} {h h':Heap} {a C dx:Addr} {fs fs':List (Str×V)}
theorem ins_get (hok:HOk P w H h) (e:H a=some (.ins C dx fs)):∃ mA,ObjM h a dx C mA∧(∀ f,RelO (fs.lookup f) (mA f))∧PySem.Within mA (fs.map (·.1))∧fs.length≤1000∧H dx=some (.own a) := by
  obtain ⟨d,z,ne,ob,mA,n,r,q⟩ := (show ObjOk P w H h a (.ins C dx fs) from hok a _ e)
  exact ⟨mA,⟨ob,n,ne⟩,r,q,z,d⟩
end
set_option genInjectivity false in
structure Cls (K:qB) (C:Addr):Prop where
  pg:PySem.W.plainGet K C Str.empty=true
  hd:PySem.W.hasDictIn K C=true
  po:PySem.W.plainOver K C=true
  sa:PySem.W.findIn K (.ref C) "__setattr__" = some (some (.builtin "object.__setattr__"))
theorem Cls.get {K:qB} {C:Addr} (c:Cls K C) (f:Str):PySem.W.plainGet K C f=true := c.pg
set_option genInjectivity false in
set_option genInjectivity false in
section
variable {X:Cx} {pins:List (Addr×Obj)} {σ:St} {H:Hp} {s:Shared} {a C dx:Addr} {fs:List (Str×V)} {f:Str} {v:V} {A:Around} {E:Value→Shared→Prop}
theorem attr_of {prog:Program} {w:World} {env:Env} {e:Expr} {f:Str} {pos:Pos} {s:Shared} {Q:Value→Shared→Prop} (hb:attributeBase e f env (eval e env)=eval e env)
    (h:wpAny (model prog w) A (eval e env) (fun o s₁ => wpAny (model prog w) A (getAttr o f true) Q E s₁) E s):wpAny (model prog w) A (eval (.Attribute e f pos) env) Q E s :=
  Attribute_any_ h (by rw [arm_eval_Attribute,hb])
end
section
variable {X:Cx} {o e value:Expr} {f:Str} {pos pos' tpos:Pos} {ta tv:TE}
end
section
variable {X:Cx} {pins:List (Addr×Obj)} {σ:St} {H:Hp} {s:Shared} {A:Around} {E:Value→Shared→Prop} {Q:Value→Shared→Prop} {c:Value} {b:Bool}
inductive TyOf (K:qB) (H:Hp):V→Value→Prop where
  | non:TyOf K H .non (.type "NoneType")
  | bl (x:Bool):TyOf K H (.bl x) (.type "bool")
  | int (i:Int):TyOf K H (.int i) (.type "int")
  | str (x:Str):TyOf K H (.str x) (.type "str")
  | flt (x:UInt64):TyOf K H (.flt x) (.type "float")
  | lst {a:Addr} {xs:List V} (e:H a=some (.lst xs)):TyOf K H (.ref a) (.type "list")
  | frz {a:Addr} {o:Obj} {xs:List V} (e:H a=some (.frz o (.lst xs))):TyOf K H (.ref a) (.type "list")
  | tup {a:Addr} {xs:List V} (e:H a=some (.tup xs)):TyOf K H (.ref a) (.type "tuple")
  | dK {a:Addr} {kvs:List (Key×V)} (e:H a=some (.dK kvs)):TyOf K H (.ref a) (.type "dict")
  | dT {a:Addr} {kvs:List (List Key×V)} (e:H a=some (.dT kvs)):TyOf K H (.ref a) (.type "dict")
  | ins {a C dx:Addr} {fs:List (Str×V)} (e:H a=some (.ins C dx fs)) (cl:Cls K C) (ha:PySem.W.findIn K (.ref C) "__class__" = some (some (.builtin "object.__class__")))
      (hn:PySem.W.specialIn K (.builtin "object.__class__") "__get__" = some (some (.builtin "getset_descriptor.__get__"))) (htk:PySem.W.takesIn K (.builtin "object.__class__")=some true)
      (hm:PySem.W.mroIn K C (.type "object")=some true):TyOf K H (.ref a) (.ref C)
theorem isinst_ok {x:V} {u t:Value} (I:Inv X pins σ H s) (rx:RelV x u) (ty:TyOf X.K H x t) (e:PySem.W.kitOne X.K t c=some b) (h:∀ tk,Q (.bool b) {s with toks := tk}) :
    wpAny (model X.prog X.w) A (call (.builtin "isinstance") [u,c]) Q E s := by
  cases ty with
  | non => cases (show u=Value.none from rx);exact q0 qCF I.kIn True.intro e (fun z => nomatch z) h
  | bl y => cases (show u=Value.bool y from rx);exact q0 qCG I.kIn True.intro e (fun z => nomatch z) h
  | int i => obtain ⟨t,q⟩ := (show ∃ t,u=Value.int i t from rx);cases q;exact q0 qCP I.kIn True.intro e (fun z => nomatch z) h
  | str y => obtain ⟨t,q⟩ := (show ∃ t,u=Value.str y t from rx);cases q;exact q0 qCO I.kIn True.intro e (fun z => nomatch z) h
  | flt y => obtain ⟨t,q⟩ := (show ∃ t,u=Value.float y t from rx);cases q;exact q0 PySem.W.kitx_float I.kIn True.intro e (fun z => nomatch z) h
  | @lst a xs ea =>
    cases (show u=Value.ref a from rx)
    obtain ⟨_,_,n,_,h1⟩ := (show ObjOk X.prog X.w H s.heap a (.lst xs) from I.hok a _ ea)
    exact q0 qBU I.kIn ⟨_,h1,rfl⟩ e (fun z => nomatch z) h
  | @frz a ob xs ea =>
    cases (show u=Value.ref a from rx)
    obtain ⟨_,_,_,n,_,h1⟩ := (show ObjOk X.prog X.w H s.heap a (.frz ob (.lst xs)) from I.hok a _ ea)
    exact q0 qBU I.kIn ⟨_,h1,rfl⟩ e (fun z => nomatch z) h
  | @tup a xs ea =>
    cases (show u=Value.ref a from rx)
    obtain ⟨_,_,_,p⟩ := (show ObjOk X.prog X.w H s.heap a (.tup xs) from I.hok a _ ea)
    obtain ⟨o,h1,h2,_⟩ := p
    exact q0 qB6 I.kIn ⟨o,h1,h2⟩ e (fun z => nomatch z) h
  | @dK a kvs ea =>
    cases (show u=Value.ref a from rx)
    obtain ⟨_,_,vs,_,p⟩ := (show ObjOk X.prog X.w H s.heap a (.dK kvs) from I.hok a _ ea)
    obtain ⟨o,es,ep,h1,h2,_⟩ := p
    exact q0 qBV I.kIn ⟨o,h1,h2.1⟩ e (fun z => nomatch z) h
  | @dT a kvs ea =>
    cases (show u=Value.ref a from rx)
    obtain ⟨_,_,xs,_,o,es,ep,h1,h2,_⟩ := (show ObjOk X.prog X.w H s.heap a (.dT kvs) from I.hok a _ ea)
    exact q0 qBV I.kIn ⟨o,h1,h2.1⟩ e (fun z => nomatch z) h
  | @ins a C dx fs ea cl ha hn htk hm =>
    cases (show u=Value.ref a from rx)
    obtain ⟨mA,O,_⟩ := ins_get I.hok ea
    obtain ⟨od,J,_⟩ := O.look
    exact q0 (PySem.W.kitx_own (cl.get _) cl.hd ha hn htk hm) I.kIn J e (fun z => nomatch z) h
end
set_option genInjectivity false in
structure Room (k:Nat) (A:Around):Prop where
  hd:A.handled=none
  dp:A.depth+3 * k+5<recursionLimit
  un:A.units+16 * k+200<cLine
theorem Room.mono {j k:Nat} {A:Around} (r:Room k A) (h:j≤k):Room j A := ⟨r.hd,by have := r.dp;omega,by have := r.un;omega⟩
theorem Room.deeper {k:Nat} {A:Around} (r:Room (k+1) A) (env:Env):Room k (A.deeper env) :=
  ⟨r.hd,by have := r.dp;show A.depth+1+3 * k+5<_;omega,by have := r.un;show A.units+3+16 * k+200<_;omega⟩
theorem make_depth {A:Around} {C:Addr} {us:List Value} {kw:List (Str×Value)}:(A.under (.builtin "type.__call__" ⟨.ref C::us,kw⟩)).depth=A.depth+1 := by
  first|rfl|simp [Around.under,Code.weight,Code.isCreation,Code.isGuard,Code.isCaller,Code.frames,Code.isFrame,guardIds]
theorem make_units {A:Around} {C:Addr} {us:List Value} {kw:List (Str×Value)}:(A.under (.builtin "type.__call__" ⟨.ref C::us,kw⟩)).units=A.units+1 := by
  first|rfl|simp [Around.under,Code.cUnits,Code.frames,Code.isFrame]
theorem Room.make {k:Nat} {A:Around} (r:Room (k+1) A) (C:Addr) (us:List Value) (kw:List (Str×Value)):Room k (A.under (.builtin "type.__call__" ⟨.ref C::us,kw⟩)) :=
  ⟨r.hd,by have := r.dp;rw [make_depth];omega,by have := r.un;rw [make_units];omega⟩
theorem Room.depth {k:Nat} {A:Around} (r:Room k A):A.depth<recursionLimit := by have := r.dp;omega
theorem Room.units {k:Nat} {A:Around} (r:Room k A):A.units+64<cLine := by have := r.un;omega
noncomputable def tNil:TA := fun _ H Q => Q [] H
noncomputable def tCons (ta:TE) (tr:TA):TA := fun σ H Q => ta σ H fun x H1 => tr σ H1 fun xs H2 => Q (x::xs) H2
section
variable {X:Cx} {e:Expr} {es:List Expr} {te:TE} {t:TA} {pos:Pos}
theorem pa_nil:PA X [] tNil := fun _ _ _ _ H Q I h => Calls.spliced_nil ⟨[],H,I,.nil,h⟩
theorem pa_cons (ha:PE X e te) (hr:PA X es t) (hs:starEach (e::es) X.env=(false,eval e X.env)::starEach es X.env := by rfl):PA X (e::es) (tCons te t) := by
  intro pos pins s σ H Q I h
  rw [hs]
  show wpAny _ _ (spliced ((false,eval e X.env)::backTo pos (starEach es X.env))) _ _ s
  refine Calls.spliced_cons (thn (ha pins s σ H _ I h) fun u s1 ⟨x,H1,I1,r1,q1⟩ => ?_)
  exact thn (hr pos pins s1 σ H1 _ I1 q1) fun us s2 ⟨xs,H2,I2,r2,q2⟩ => ⟨x::xs,H2,I2,.cons r1 r2,q2⟩
noncomputable def tTup (t:TA):TE := fun σ H Q => t σ H fun xs H1 => xs.length≤qM∧∀ p,H1 p=none→Q (.ref p) (upd H1 p (.tup xs))
noncomputable def tLst (t:TA):TE := fun σ H Q => t σ H fun xs H1 => xs.length≤qM∧∀ p,H1 p=none→Q (.ref p) (upd H1 p (.lst xs))
theorem pe_tup {x1} (h:PA X es t):PE X (.Tuple es x1 pos) (tTup t) := by
  intro pins s σ H Q I hq
  refine wpAny_Tuple_spliced (thn (h pos pins s σ H _ I hq) fun us s1 ⟨xs,H1,I1,r,z,q⟩ => ⟨by rw [← r.length];exact z,?_⟩)
  have hf:H1 s1.heap.objs.size=none := I1.hok.fresh (qR _)
  refine ⟨.ref s1.heap.objs.size,upd H1 s1.heap.objs.size (.tup xs),I1.laid (t' := s1.toks) (fun b u e => qE _ e) (qR _) ?_,rfl,q _ hf⟩
  exact ⟨z,us,r,⟨_,qAB _ rfl,rfl,_,rfl⟩⟩
theorem pe_lst (h:PA X es t):PE X (.List es pos) (tLst t) := by
  intro pins s σ H Q I hq
  refine wpAny_List_spliced (thn (h pos pins s σ H _ I hq) fun us s1 ⟨xs,H1,I1,r,z,q⟩ => ⟨by rw [← r.length];exact z,?_⟩)
  have hf:H1 s1.heap.objs.size=none := I1.hok.fresh (qR _)
  refine ⟨.ref s1.heap.objs.size,upd H1 s1.heap.objs.size (.lst xs),I1.laid (t' := s1.toks) (fun b u e => qE _ e) (qR _) ?_,rfl,q _ hf⟩
  exact ⟨z,us,0,r,qAB _ rfl⟩
end
noncomputable abbrev Sp := List V→Hp→VK→XK→Prop
noncomputable abbrev CXT := List Env→Hp→Shared→XK→Value→Shared→Prop
set_option genInjectivity false in
structure Env0 (P:Program) (w:World) (K:qB) (mg:Str→Option Value) (base:Heap) (A:Around) (outer:List Env) (s:Shared) (H:Hp):Prop where
  frames:A.frames=some outer
  mod:Mod K mg base
  bs:∀ b o,base.get? b=some o→s.heap.get? b=some o∧H b=none
  bsz:base.objs.size≤s.heap.objs.size
  funs:s.heap.FunFrames base outer
  frf:∀ b∈frs outer,H b=none
  hok:HOk P w H s.heap
  bare:AllBare s.gens
noncomputable def CE (outer:List Env) (P:Program) (w:World) (H:Hp) (s:Shared) (Q:VK) (u:Value) (s':Shared):Prop :=
  ∃ v H',s'.os=s.os∧AllBare s'.gens∧Un (frs outer) [] H H' s.heap s'.heap∧HOk P w H' s'.heap∧RelV v u∧Q v H'
noncomputable def CR (CX:CXT) (outer:List Env) (P:Program) (w:World) (H:Hp) (s:Shared) (Q:VK) (E:XK) (r:Result) (s':Shared):Prop :=
  match r with
  | .ok (.ret u) => CE outer P w H s Q u s'
  | .ok _ => False
  | .error e => CX outer H s E e s'
set_option genInjectivity false in
structure FnOk (P:Program) (w:World) (K:qB) (mg:Str→Option Value) (base:Heap) (CX:CXT) (k:Nat) (f:Addr) (fd:qt) (ps:List Str) (sp:Sp):Prop where
  len:∀ vs H Q E,sp vs H Q E→vs.length=ps.length
  run:∀ (A:Around) (outer:List Env) (s:Shared) (H:Hp) (args:Args) (us:List Value) (vs:List V) (Q:VK) (E:XK),Room k A→Env0 P w K mg base A outer s H→BindsTo s fd args (ps.zip us)→Vals vs us→sp vs H Q E →
    codeAny (model P w) A (.call (.ref f) args) (CR CX outer P w H s Q E) s
theorem Env0.make {P:Program} {w:World} {K:qB} {mg:Str→Option Value} {base:Heap} {A:Around} {outer:List Env} {s:Shared} {H:Hp} (e:Env0 P w K mg base A outer s H) (C:Addr) (us:List Value) (kw:List (Str×Value)) :
    Env0 P w K mg base (A.under (.builtin "type.__call__" ⟨.ref C::us,kw⟩)) outer s H := ⟨by first|exact e.frames|(simpa [Around.under,Code.envs,Code.isFrame,pushEnvs] using e.frames),e.mod,e.bs,e.bsz,e.funs,e.frf,e.hok,e.bare⟩
section
variable {X:Cx} {pins:List (Addr×Obj)} {σ:St} {H:Hp} {s s':Shared}
theorem Inv.env0 (I:Inv X pins σ H s):Env0 X.prog X.w X.K X.mg X.base X.A X.stack s H :=
  ⟨I.ok.frames,I.ok.mod,I.bs,qAF I.ok.bsz I.sz,I.stack,I.stkFree,I.hok,I.bare⟩
theorem Inv.after {Q:VK} {u:Value} (I:Inv X pins σ H s) (h:CE X.stack X.prog X.w H s Q u s'):EP X pins σ Q u s' := by
  obtain ⟨v,H',os,bare,un,hok,r,q⟩ := h
  obtain ⟨hh,g,d,t,os'⟩ := s'
  obtain rfl:os'=s.os := os
  exact ⟨v,H',I.call (h' := hh) (g' := g) (d' := d) (t' := t) (ch := []) un hok bare (fun b z => absurd z (by simp)),r,q⟩
end
noncomputable def tCall (sp:Sp) (dvs:List V) (E:XK) (t:TA):TE := fun σ H Q => t σ H fun vs H1 => sp (vs++dvs) H1 Q E
noncomputable def Binds (K:qB) (fd:qt) (ps:List Str) (ds:List Value):Prop :=
  ∀ (s:Shared) (us:List Value),K.In s.heap→(us++ds).length=ps.length→BindsTo s fd ⟨us,[]⟩ (ps.zip (us++ds))
theorem Binds.all {K:qB} {fd:qt} {ps:List Str} (h:∀ us:List Value,us.length=ps.length→bindArgs fd ⟨us,[]⟩=pure (ps.zip us)):Binds K fd ps [] := fun s us _ hl => by
  rw [qAH] at hl ⊢
  exact .of_eq (h us hl)
noncomputable def Passes (CX:CXT) (X:Cx) (E:XK):Prop := ∀ (pins:List (Addr×Obj)) (σ:St) (H:Hp) (s:Shared) (e:Value) (s':Shared),Inv X pins σ H s→CX X.stack H s E e s'→X.xe e s'
section
variable {X:Cx} {CX:CXT} {k:Nat} {f C:Addr} {fd:qt} {ps:List Str} {sp:Sp} {dvs:List V} {ds:List Value} {E:XK} {x m:Str} {p pos apos:Pos} {e o:Expr} {es:List Expr} {ta:TE} {t:TA}
theorem run_fn {pins:List (Addr×Obj)} {σ:St} {H:Hp} {s:Shared} {Q:VK} {us:List Value} {vs:List V} (F:FnOk X.prog X.w X.K X.mg X.base CX k f fd ps sp) (hr:Room k X.A) (hb:Binds X.K fd ps ds) (hd:Vals dvs ds) (hx:Passes CX X E)
    (I:Inv X pins σ H s) (r:Vals vs us) (h:sp (vs++dvs) H Q E):wpAny (model X.prog X.w) X.A (call (.ref f) us) (EP X pins σ Q) X.xe s := by
  have r2:Vals (vs++dvs) (us++ds) := r.append hd
  have hl:(us++ds).length=ps.length := by rw [← r2.length];exact F.len _ _ _ _ h
  refine qBs (qBB (F.run X.A X.stack s H ⟨us,[]⟩ (us++ds) (vs++dvs) Q E hr I.env0 (hb s us I.kIn hl) r2 h) fun r s' hq => ?_)
  cases r with
  | error e => exact hx pins σ H s e s' I hq
  | ok fl =>
    cases fl with
    | ret u => exact I.after hq
    | next => exact False.elim hq
    | brk => exact False.elim hq
    | cont => exact False.elim hq
theorem pe_call (F:FnOk X.prog X.w X.K X.mg X.base CX k f fd ps sp) (hr:Room k X.A) (hg:Gl X x) (hm:X.mg x=some (.ref f)) (hk:qV X.K (.ref f)=true) (hb:Binds X.K fd ps ds) (hd:Vals dvs ds) (hx:Passes CX X E)
    (ha:PA X (e::es) t) (hdb:(x==("__debug__":Str))=false := by decide) (he:starEach (e::es) X.env=(false,eval e X.env)::starEach es X.env := by rfl) (hpl:(backTo pos (starEach es X.env)).any (·.1)=false := by rfl) :
    PE X (.Call (.Name x p) (e::es) [] pos) (tCall sp dvs E t) := by
  intro pins s σ H Q I h
  refine qAv (ld_glob I hg hm ?_ hdb)
  refine qBO (h₀ := X.base) I.ok.mod.kin hk (thn (ha pos pins s σ H _ I h) fun us s1 ⟨vs,H1,I1,r,q⟩ => ⟨I1.kIn,?_⟩) he hpl
  exact run_fn F hr hb hd hx I1 r q
set_option genInjectivity false in
end
section
variable {X:Cx} {CX:CXT} {k:Nat} {f C:Addr} {fd:qt} {ps ks:List Str} {sp:Sp} {E:XK} {x m:Str} {p pos apos kpos:Pos} {e o:Expr} {es:List Expr} {kws:List Keyword} {te ta:TE} {t tk:TA} {nm:Option Str}
set_option genInjectivity false in
variable {g:List Value→List Value→List Value} {gV:List V→List V→List V}
end
set_option genInjectivity false in
structure FnScope (N P:List Str) (sc:Scope):Prop where
  kind:sc.kind=.function
  co:sc.isCoroutine=false
  gen:sc.isGenerator=false
  nd:N.Nodup
  pre:N.take P.length=P
  par:∀ x∈P,sc.names.lookup x=some .local∨sc.names.lookup x=some .cell
  nofree:∀ y∈sc.names,y.2≠.free
theorem bindL_out {kindOf:Str→Option NameKind} {x:Str}:∀ {binds:List (Str×Value)} {m:Str→Option Value},(∀ v,(x,v)∉binds)→bindL kindOf binds m x=m x
  | [],_,_ => rfl
  | (n,v)::r,m,h => by
    unfold bindL
    rw [bindL_out fun w hw => h w (qO _ hw)]
    split
    · have:x≠n := by rintro rfl;exact h v qm
      simp [this]
    · rfl
theorem bindC_out {kindOf:Str→Option NameKind} {x:Str}:∀ {binds:List (Str×Value)} {m:Str→Option Value},(∀ v,(x,v)∉binds)→bindC kindOf binds m x=m x
  | [],_,_ => rfl
  | (n,v)::r,m,h => by
    unfold bindC
    rw [bindC_out fun w hw => h w (qO _ hw)]
    split
    · rfl
    · have:x≠n := by rintro rfl;exact h v qm
      simp [this]
theorem bindL_get {kindOf:Str→Option NameKind} {x:Str} {v:Value}:∀ {P:List Str} {vs:List Value} {i:Nat} {m:Str→Option Value},P.Nodup→P[i]?=some x→vs[i]?=some v→kindOf x=some .local →
    bindL kindOf (P.zip vs) m x=some v
  | [],_,_,_,_,h,_,_ => by simp at h
  | _::_,[],_,_,_,_,h,_ => by simp at h
  | p::P,w::vs,0,m,nd,h1,h2,hk => by
    simp at h1 h2;subst h1;subst h2
    show bindL kindOf ((p,w)::P.zip vs) m p=_
    unfold bindL
    rw [bindL_out fun v hv => (qAd.mp nd).1 (qBJ hv).1,if_pos hk]
    simp
  | p::P,w::vs,i+1,m,nd,h1,h2,hk => by
    show bindL kindOf ((p,w)::P.zip vs) m x=_
    unfold bindL
    exact bindL_get (i := i) (qAd.mp nd).2 (by simpa using h1) (by simpa using h2) hk
theorem bindC_get {kindOf:Str→Option NameKind} {x:Str} {v:Value}:∀ {P:List Str} {vs:List Value} {i:Nat} {m:Str→Option Value},P.Nodup→P[i]?=some x→vs[i]?=some v→kindOf x≠some .local →
    bindC kindOf (P.zip vs) m x=some v
  | [],_,_,_,_,h,_,_ => by simp at h
  | _::_,[],_,_,_,_,h,_ => by simp at h
  | p::P,w::vs,0,m,nd,h1,h2,hk => by
    simp at h1 h2;subst h1;subst h2
    show bindC kindOf ((p,w)::P.zip vs) m p=_
    unfold bindC
    rw [bindC_out fun v hv => (qAd.mp nd).1 (qBJ hv).1,if_neg hk]
    simp
  | p::P,w::vs,i+1,m,nd,h1,h2,hk => by
    show bindC kindOf ((p,w)::P.zip vs) m x=_
    unfold bindC
    exact bindC_get (i := i) (qAd.mp nd).2 (by simpa using h1) (by simpa using h2) hk
noncomputable def start (N:List Str) (vs:List V):St := vs.map some++List.replicate (N.length - vs.length) none
noncomputable def cxOf (CX:CXT) (P:Program) (w:World) (K:qB) (mg:Str→Option Value) (base:Heap) (N:List Str) (qual:Str) (scope:Scope) (f:Addr) (cd:Value) (A:Around) (outer:List Env) (s:Shared) (H:Hp) (E:XK):Cx where
  prog := P
  w := w
  K := K
  mg := mg
  base := base
  A := A.deeper (envOfC qual scope s.heap.objs.size f cd)
  N := N
  s₀ := s
  H₀ := H
  env := envOfC qual scope s.heap.objs.size f cd
  outer := outer
  stack := envOfC qual scope s.heap.objs.size f cd::outer
  ex := []
  calm := true
  fn := fun _ => true
  pn := []
  xe := fun e s' => wpAny (model P w) (A.deeper (envOfC qual scope s.heap.objs.size f cd)) (leaving (envOfC qual scope s.heap.objs.size f cd) e) (fun _ s'' => CX outer H s E e s'') (fun e' s'' => CX outer H s E e' s'') s'
theorem cell_has {sc:Scope} {n:Nat} {x:Str} (h:sc.names.lookup x=some .cell):∃ c,(cellsFrom n sc.names []).lookup x=some c := by
  have q := qBA sc.names n [] (.inl h)
  exact Option.isSome_iff_exists.mp q
theorem inv_start {CX:CXT} {P:Program} {w:World} {K:qB} {mg:Str→Option Value} {base:Heap} {N ps:List Str} {qual:Str} {scope:Scope} {f:Addr} {cd:Value} {A:Around} {outer:List Env} {s s1:Shared} {H:Hp} {E:XK} {us:List Value} {vs:List V}
    (S:FnScope N ps scope) (hd:A.handled=none) (e0:Env0 P w K mg base A outer s H) (hl:vs.length=ps.length) (r:Vals vs us)
    (x:InCallC s s.heap.objs.size (bindL (envOfC qual scope s.heap.objs.size f cd).kindOf (ps.zip us) fun _ => none) (cellsFrom (s.heap.objs.size+1) scope.names []) (bindC (envOfC qual scope s.heap.objs.size f cd).kindOf (ps.zip us) fun _ => none) s1) :
    Inv (cxOf CX P w K mg base N qual scope f cd A outer s H E) [] (start N vs) H s1 := by
  have hpl:ps.length≤N.length := by have := congrArg List.length S.pre;rw [qBG] at this;omega
  obtain ⟨h1,tk,rfl,hk⟩ := x.done
  have noA:∀ b:Addr,b∉(cxOf CX P w K mg base N qual scope f cd A outer s H E).ex := fun b z => absurd (show b∈([]:List Addr) from z) (by simp)
  refine ⟨⟨e0.mod,S.kind,rfl,rfl,qR _,fun y z c h1 h2 => ?_,fun y hy => ?_,fun y c _ h => ?_,fun _ => hd,Around.frames_deeper e0.frames,.inr ⟨rfl,rfl⟩,fun b z => absurd z (noA b),e0.bs,e0.bsz,fun b _ _ => noA b,fun b z => absurd z (noA b),e0.funs,e0.frf⟩,
    rfl,e0.bare,Un.kept hk,⟨_,x.toInCall.ns,fun i y v h1 h2 h3 => ?_⟩,fun y c h => ⟨_,x.cell y c h⟩,e0.hok.fresh (qR _),fun y c h => ?_,fun p hp => absurd (show p∈([]:List (Addr×Obj)) from hp) (by simp),e0.hok.kept hk,?_⟩
  · exact name_of_addr x.apart (qr h1) (qr h2)
  · have hy:scope.names.lookup y=some .cell∨scope.names.lookup y=some .free := hy
    rcases hy with hy|hy
    · exact cell_has hy
    · exact absurd rfl (S.nofree _ (qr hy))
  · exact qBi (x.above y c (qr h))
  · have hi:i<vs.length := by
      unfold start at h2
      by_cases hi:i<vs.length
      · exact hi
      · rw [qg (by simpa using hi)] at h2
        rw [qBC] at h2
        split at h2<;>cases h2
    have ha:vs[i]?=some v := by
      unfold start at h2
      rw [qk (by simpa using hi),qd] at h2
      cases e:vs[i]? with
      | none => rw [e] at h2;cases h2
      | some a => rw [e] at h2;cases h2;rfl
    obtain ⟨u,hu,rv⟩ := r.get ha
    have hp:ps[i]?=some y := by
      rw [← S.pre,List.getElem?_take_of_lt (by omega)];exact h1
    have ndP:ps.Nodup := by rw [← S.pre];exact S.nd.sublist (List.take_sublist _ _)
    refine ⟨u,rv,?_⟩
    rcases S.par y (qBM hp) with k|k
    · exact .inl ⟨k,bindL_get ndP hp hu k⟩
    · obtain ⟨c,e⟩ := cell_has (n := s.heap.objs.size+1) k
      refine .inr ⟨.inl k,c,e,?_⟩
      have q := x.cell y c e
      rw [bindC_get ndP hp hu (by show scope.names.lookup y≠_;rw [k];decide)] at q
      exact q
  · exact e0.hok.fresh (qBi (x.above y c (qr h)))
  · unfold start
    show _=N.length
    rw [qK,qD,qAe]
    omega
theorem fn_of {CX:CXT} {P:Program} {w:World} {K:qB} {mg:Str→Option Value} {base:Heap} {k:Nat} {f:Addr} {name qual:Str} {params:Arguments} {body:List Stmt} {scope:Scope} {dV kV doc pm cdv ct oc:Value} {an od:Option Addr}
    {osl:Array (Option Value)} {N ps:List Str} {sp:Sp} (lk:K.lookup f=some ⟨oc,od,.func (qc name qual params body scope dV kV doc pm an cdv ct),osl⟩) (hcd:qa K cdv qual=true) (S:FnScope N ps scope)
    (len:∀ vs H Q E,sp vs H Q E→vs.length=ps.length)
    (hbody:∀ (A:Around) (outer:List Env) (s:Shared) (H:Hp) (vs:List V) (Q:VK) (E:XK),Room k (A.deeper (envOfC qual scope s.heap.objs.size f cdv))→sp vs H Q E →
      ∃ t,PSs (cxOf CX P w K mg base N qual scope f cdv A outer s H E) body t∧t {nx := fun _ H' => Q .non H',rt := Q} (start N vs) H) :
    FnOk P w K mg base CX (k+1) f (qc name qual params body scope dV kV doc pm an cdv ct) ps sp := by
  refine ⟨len,fun A outer s H args us vs Q E hr e0 hb r hsp => ?_⟩
  have hl := len _ _ _ _ hsp
  have KX:K.In s.heap := e0.mod.kin.keeps fun b o e => (e0.bs b o e).1
  have lim:s.heap.NoLimit := e0.mod.nolimit.keeps fun b o e => (e0.bs b o e).1
  have hkind:∀ y∈ps.zip us,scope.names.lookup y.1=some .local∨(scope.names.lookup y.1=some .cell∧((cellsFrom (s.heap.objs.size+1) scope.names []).lookup y.1).isSome=true) := fun ⟨n,v⟩ hy => by
    rcases S.par n (qBJ hy).1 with q|q
    · exact .inl q
    · exact .inr ⟨q,qBA _ _ _ (.inl q)⟩
  refine codeAny_call_function hr.depth (KX _ _ lk) rfl S.co S.gen rfl (qB7 KX hcd) (hb _ _ _ _ ?_)
  refine qB5 S.kind hkind fun env he s1 x => ?_
  subst he
  refine ⟨lim.keeps x.toInCall.keep,codeAny_func ?_⟩
  obtain ⟨t,ht,hq⟩ := hbody A outer s H vs Q E (hr.deeper _) hsp
  have I:Inv (cxOf CX P w K mg base N qual scope f cdv A outer s H E) [] (start N vs) H s1 := inv_start S hr.hd e0 hl r x
  refine qAk (ht [] s1 (start N vs) H _ I hq) (fun fl s' hs => ?_) fun e s' hs => hs
  have fin:∀ {σ':St} {H':Hp} {v:V} {u:Value},Inv (cxOf CX P w K mg base N qual scope f cdv A outer s H E) [] σ' H' s'→RelV v u→Q v H'→CE outer P w H s Q u s' :=
    fun {σ' H' v u} J rv q => ⟨v,H',J.os,J.bare,J.base,J.hok,rv,q⟩
  cases fl with
  | ret u =>
    obtain ⟨v,σ',H',J,rv,q⟩ := hs
    exact fin J rv q
  | next =>
    obtain ⟨σ',H',J,q⟩ := hs
    exact fin (v := V.non) (u := Value.none) J rfl q
  | brk =>
    obtain ⟨_,_,_,q⟩ := hs
    exact False.elim q
  | cont =>
    obtain ⟨_,_,_,q⟩ := hs
    exact False.elim q
section
variable {X:Cx} {x:Str} {p pos:Pos} {e:Expr} {es:List Expr} {t:TA} {id T:String} {r:List V→Hp→VK→Prop}
noncomputable def tCB (r:List V→Hp→VK→Prop) (t:TA):TE := fun σ H Q => t σ H fun vs H1 => r vs H1 Q
theorem pe_callB (hc:CallR X (.builtin id) r) (hg:Gl X x) (hm:X.mg x=none) (hv:bootBuiltins x=some (.builtin id)) (ha:PA X (e::es) t) (hn:x ≠ "__name__" := by decide) (hdb:(x==("__debug__":Str))=false := by decide)
    (he:starEach (e::es) X.env=(false,eval e X.env)::starEach es X.env := by rfl) (hpl:(backTo pos (starEach es X.env)).any (·.1)=false := by rfl):PE X (.Call (.Name x p) (e::es) [] pos) (tCB r t) := by
  intro pins s σ H Q I h
  refine qAv (ld_blt I hg hm hv ?_ hn hdb)
  exact PyProof.Rows.callWith_builtin1 (thn (ha pos pins s σ H _ I h) fun us s1 ⟨vs,H1,I1,r1,q1⟩ => hc pins s1 σ H1 vs us Q I1 r1 q1) he hpl
theorem pe_callTy (hc:CallR X (.type T) r) (hg:Gl X x) (hm:X.mg x=none) (hv:bootBuiltins x=some (.type T)) (ha:PA X (e::es) t) (hn:x ≠ "__name__" := by decide) (hdb:(x==("__debug__":Str))=false := by decide)
    (he:starEach (e::es) X.env=(false,eval e X.env)::starEach es X.env := by rfl) (hpl:(backTo pos (starEach es X.env)).any (·.1)=false := by rfl):PE X (.Call (.Name x p) (e::es) [] pos) (tCB r t) := by
  intro pins s σ H Q I h
  refine qAv (ld_blt I hg hm hv ?_ hn hdb)
  exact qBR (thn (ha pos pins s σ H _ I h) fun us s1 ⟨vs,H1,I1,r1,q1⟩ => hc pins s1 σ H1 vs us Q I1 r1 q1) he hpl
end
end L2
namespace HT
open PySem PyProof.Rows
section
open PySem.SeqAt
open PySem.AutoSeq1 (wpAny_loadPart')
open PySem.MeetsSeq PySem.MeetsSeq2 PySem.MeetsSeq3
end
section
variable {prog:Program} {w:World} {A:Around} {E:Value→Shared→Prop} {s:Shared}
theorem cat_tup {t b:Addr} {vs ws:List Value} {Q:Value→Shared→Prop} (ht:IsTup s.heap t vs.toArray) (hb:IsTup s.heap b ws.toArray) (hv:vs≠[])
    (h1:ws=[]→Q (.ref t) s) (h2:ws≠[]→Q (.ref s.heap.objs.size) {s with heap := s.heap.push {cls := .type "tuple",data := .seq (vs++ws).toArray}})
    (hsz:vs.length+ws.length≤qM):wpAny (model prog w) A (binaryOp .Add (.ref t) (.ref b)) Q E s := by
  obtain ⟨⟨cls,dd,data,sl⟩,ho,hc,n,hd⟩ := id ht
  obtain ⟨⟨cls2,dd2,data2,sl2⟩,ho2,hc2,n2,hd2⟩ := id hb
  simp only at hc hd hc2 hd2
  subst hc hd hc2 hd2
  have e:vs.toArray++ws.toArray=(vs++ws).toArray := by simp
  by_cases hw:ws=[]
  · exact concat_meets ⟨_,ho,rfl⟩ ⟨_,ho2,rfl⟩ noFill_tuple_add seq_tuple_add qBw qBu (qBq _ _)
      (tuple_addW1 t b vs.toArray ws.toArray n n2 dd dd2 sl sl2 (by simpa using hv) (by simp [hw])) ⟨ho,ho2,h1 hw⟩
  · refine concat_meets ⟨_,ho,rfl⟩ ⟨_,ho2,rfl⟩ noFill_tuple_add seq_tuple_add qBw qBu (qBq _ _)
      (tuple_addW2 t b vs.toArray ws.toArray n n2 dd dd2 sl sl2 (by simpa using hv) (by simpa using hw) (by rw [qH,qH];exact hsz)) ⟨ho,ho2,?_⟩
    rw [e]
    exact h2 hw
noncomputable def sIx (n d:Nat):Option Int→Nat
  | none => d
  | some v => if v<0 then (v+(n:Int)).toNat else min v.toNat n
end
end HT
namespace L2
open PySem PySem.Spec PyProof.Rows
noncomputable abbrev TO := St→Hp→(Option Int→Hp→Prop)→Prop
noncomputable def PO (X:Cx) (e:Option Expr) (t:TO):Prop :=
  ∀ (pins:List (Addr×Obj)) (s:Shared) (σ:St) (H:Hp) (Q:Option Int→Hp→Prop),Inv X pins σ H s→t σ H Q →
    wpAny (model X.prog X.w) X.A (evalPart e X.env) (fun u s' => ∃ o H',Inv X pins σ H' s'∧IsPart u o∧Q o H') X.xe s
noncomputable def tNoPart:TO := fun _ H Q => Q none H
noncomputable def tPart (t:TE):TO := fun σ H Q => t σ H fun x H1 => ∃ i,x=.int i∧Q (some i) H1
section
variable {X:Cx} {e:Expr} {te:TE} {lo hi:Option Expr} {tl th:TO} {pos p2:Pos}
theorem po_none:PO X none tNoPart := by
  intro pins s σ H Q I h
  rw [evalPart_none]
  exact qp ⟨none,H,I,.none,h⟩
theorem po_some (h:PE X e te):PO X (some e) (tPart te) := by
  intro pins s σ H Q I hw
  rw [evalPart_some]
  refine thn (h pins s σ H _ I hw) fun u s1 ⟨x,H1,I1,r1,q1⟩ => ?_
  obtain ⟨i,rfl,q⟩ := q1
  obtain ⟨t,rfl⟩ := r1
  exact ⟨some i,H1,I1,.int i t,q⟩
noncomputable def SlR (X:Cx) (r:V→Option Int→Option Int→Hp→VK→Prop):Prop :=
  ∀ (pins:List (Addr×Obj)) (s:Shared) (σ:St) (H:Hp) (x:V) (v vl vu:Value) (lo hi:Option Int) (sl:Addr) (Q:VK),Inv X pins σ H s→RelV x v→s.heap.IsSliceOf sl vl vu .none→IsPart vl lo→IsPart vu hi→r x lo hi H Q →
    ∃ T id,typeLookup (.type T) "__getitem__" = pure (some (.builtin id))∧s.TypeIs v T∧wpAny (model X.prog X.w) X.A (getItem v (.ref sl)) (EP X pins σ Q) X.xe s
noncomputable def tSl (r:V→Option Int→Option Int→Hp→VK→Prop) (te:TE) (tl th:TO):TE := fun σ H Q => te σ H fun x H1 => tl σ H1 fun l H2 => th σ H2 fun u H3 => r x l u H3 Q
theorem pe_slice {r:V→Option Int→Option Int→Hp→VK→Prop} (hr:SlR X r) (he:PE X e te) (hl:PO X lo tl) (hu:PO X hi th):PE X (.Subscript e (.Slice lo hi none p2) pos) (tSl r te tl th) := by
  intro pins s σ H Q I h
  refine Subscript_ (thn (he pins s σ H _ I h) fun v s1 ⟨x,H1,I1,r1,q1⟩ => ?_)
  refine wpAny_Slice (thn (hl pins s1 σ H1 _ I1 q1) fun vl s2 ⟨l,H2,I2,pl,q2⟩ => thn (hu pins s2 σ H2 _ I2 q2) fun vu s3 ⟨u,H3,I3,pu,q3⟩ => ?_)
  rw [evalPart_none]
  refine qp ?_
  have I4:Inv X pins σ H3 {s3 with heap := s3.heap.push {cls := .type "slice",data := .fields #[vl,vu,.none]}} := I3.kept (t' := s3.toks) fun b ob q => qE _ q
  obtain ⟨T,id,hT,ht,hg⟩ := hr pins {s3 with heap := s3.heap.push {cls := .type "slice",data := .fields #[vl,vu,.none]}} σ H3 x v vl vu l u s3.heap.objs.size Q I4 r1 (Heap.IsSliceOf.new ..) pl pu q3
  show wpAny (model X.prog X.w) X.A (subscriptTail e (.Slice lo hi none p2) v (.ref s3.heap.objs.size)) (EP X pins σ Q) X.xe {s3 with heap := s3.heap.push {cls := .type "slice",data := .fields #[vl,vu,.none]}}
  exact tail_any (ops := [.ref s3.heap.objs.size,v]) ht hT hg (by with_unfolding_all rfl)
noncomputable def cutV (xs:List V) (lo hi:Option Int):List V := (xs.drop (HT.sIx xs.length 0 lo)).take (HT.sIx xs.length xs.length hi - HT.sIx xs.length 0 lo)
theorem cutV_length (xs:List V) (lo hi:Option Int):(cutV xs lo hi).length≤xs.length := by
  unfold cutV
  rw [qBG,List.length_drop]
  omega
noncomputable def rCatT (K:qB):R2 := fun x y H Q => ∃ a b xs ys,x=.ref a∧y=.ref b∧SqT K H a xs∧SqT K H b ys∧xs≠[]∧xs.length+ys.length≤qM ∧
  (ys=[]→Q (.ref a) H)∧(ys≠[]→∀ p,H p=none→Q (.ref p) (upd H p (.tup (xs++ys))))
theorem Vals.nil_iff {xs:List V} {us:List Value} (r:Vals xs us):us=[]↔xs=[] := by
  cases r with
  | nil => simp
  | cons _ _ => simp
theorem op_catT:OpR X (binaryOp .Add) (rCatT X.K) := by
  intro pins s σ H x y v u Q I rx ry h
  obtain ⟨a,b,xs,ys,rfl,rfl,ha,hb,hx,hz,q1,q2⟩ := h
  cases rx
  cases ry
  obtain ⟨its,r1,p1,_⟩ := I.tuple ha
  obtain ⟨its2,r2,p2,_⟩ := I.tuple hb
  refine HT.cat_tup p1 p2 (fun z => hx (r1.nil_iff.mp z)) (fun z => ⟨.ref a,H,I,rfl,q1 (r2.nil_iff.mp z)⟩) (fun z => ?_) (by rw [← r1.length,← r2.length];exact hz)
  refine ⟨.ref s.heap.objs.size,_,I.laid (t' := s.toks) (o := .tup (xs++ys)) (fun b ob q => qE _ q) (qR _) ?_,rfl,q2 (fun w => z (r2.nil_iff.mpr w)) _ (I.hok.fresh (qR _))⟩
  exact ⟨by rw [qK];exact hz,_,r1.append r2,IsTup.new _ _⟩
end
noncomputable def ixN (n:Nat) (i:Int):Option Nat := if 0≤i then (if i<n then some i.toNat else none) else if -(n:Int)≤i then some (i+n).toNat else none
noncomputable def atI {α:Type} (xs:List α) (i:Int):Option α := (ixN xs.length i).bind fun j => xs[j]?
theorem ixN_seq {n:Nat} {i:Int} {j:Nat} (h:ixN n i=some j):seqIndex? i n=some j∧j<n∧-(n:Int)≤i∧i<n := by
  unfold ixN at h
  by_cases h0:0≤i
  · rw [if_pos h0] at h
    by_cases h1:i<n
    · rw [if_pos h1] at h
      have e:i.toNat=j := qP h
      exact ⟨by rw [seqIndex_of h0 h1,e],by omega,by omega,h1⟩
    · rw [if_neg h1] at h;cases h
  · rw [if_neg h0] at h
    by_cases h1:-(n:Int)≤i
    · rw [if_pos h1] at h
      have e:(i+n).toNat=j := qP h
      exact ⟨by rw [seqIndex_neg (by omega) h1,e],by omega,h1,by omega⟩
    · rw [if_neg h1] at h;cases h
theorem atI_get {α:Type} {xs:List α} {i:Int} {v:α} (h:atI xs i=some v):∃ j,seqIndex? i xs.length=some j∧xs[j]?=some v∧j<xs.length∧-(xs.length:Int)≤i∧i<xs.length := by
  unfold atI at h
  cases e:ixN xs.length i with
  | none => rw [e] at h;cases h
  | some j =>
    rw [e] at h
    obtain ⟨h1,h2,h3,h4⟩ := ixN_seq e
    exact ⟨j,h1,h,h2,h3,h4⟩
theorem atI_nat {α:Type} {xs:List α} {j:Nat} {v:α} (h:xs[j]?=some v):atI xs (j:Int)=some v := by
  have hj:j<xs.length := (qQ.mp h).1
  have e:ixN xs.length (j:Int)=some j := by
    unfold ixN
    rw [if_pos (by omega),if_pos (by omega)];simp
  unfold atI;rw [e];exact h
noncomputable def PlainIx (b:Expr):Prop := ∀ o i,subscripted b false o i=operate [o,i] (getItem o i)
noncomputable def IxR (X:Cx) (r:R2):Prop :=
  ∀ (value slice:Expr) (pins:List (Addr×Obj)) (s:Shared) (σ:St) (H:Hp) (x y:V) (v u:Value) (Q:VK),Inv X pins σ H s→RelV x v→RelV y u→r x y H Q →
    subscripted slice false v u=operate [v,u] (getItem v u)→wpAny (model X.prog X.w) X.A (subscriptTail value slice v u) (EP X pins σ Q) X.xe s
noncomputable def MtR (X:Cx) (id:String) (r:V→List V→Hp→VK→Prop):Prop :=
  ∀ (pins:List (Addr×Obj)) (s:Shared) (σ:St) (H:Hp) (x:V) (xs:List V) (v:Value) (us:List Value) (Q:VK),Inv X pins σ H s→RelV x v→Vals xs us→r x xs H Q →
    wpAny (model X.prog X.w) X.A (call (.builtin id) (v::us)) (EP X pins σ Q) X.xe s
section
variable {X:Cx} {a b:Expr} {ta tb:TE} {pos:Pos}
theorem pe_ix {r:R2} (hr:IxR X r) (ha:PE X a ta) (hb:PE X b tb) (hs:PlainIx b):PE X (.Subscript a b pos) (tOp r ta tb) := by
  intro pins s σ H Q I h
  exact Subscript_ (binT ha hb I h fun v u s2 x y H2 I2 rx ry q => hr a b pins s2 σ H2 x y v u Q I2 rx ry q (hs _ _))
noncomputable def rIxL (K:qB):R2 := fun x y H Q => ∃ p xs i v,x=.ref p∧y=.int i∧SqL K H p xs∧atI xs i=some v∧Q v H
noncomputable def rIxT (K:qB):R2 := fun x y H Q => ∃ p xs i v,x=.ref p∧y=.int i∧SqT K H p xs∧atI xs i=some v∧Q v H
noncomputable def rIxS:R2 := fun x y H Q => ∃ z i c,x=.str z∧y=.int i∧z.length≤qM∧atI z.cps.toList i=some c∧Q (.str ⟨#[c]⟩) H
theorem ix_list:IxR X (rIxL X.K) := by
  intro value slice pins s σ H x y v u Q I rx ry h hs
  obtain ⟨p,xs,i,z,rfl,rfl,hq,he,q⟩ := h
  cases rx
  obtain ⟨t,rfl⟩ := ry
  obtain ⟨its,r,pl,hz⟩ := I.list hq
  obtain ⟨j,h1,h2,h3,h4,h5⟩ := atI_get he
  obtain ⟨w,ew,rw'⟩ := r.get h2
  have hl := r.length
  have hn := line63
  have fin:EP X pins σ Q w s := ⟨z,H,I,rw',q⟩
  by_cases h0:0≤i
  · have hj:i.toNat=j := by
      rw [seqIndex_of h0 h5] at h1
      exact qP h1
    exact item_listR pl.isList h0 (by omega) (by rw [hj];simpa using ew) fin hs
  · have hj:(i+(its.toArray.size:Int)).toNat=j := by
      rw [seqIndex_neg (by omega) h4] at h1
      rw [qH,← hl]
      exact qP h1
    exact subscriptTail_builtinR (x := w) pl.isList.typeIs slot_list_getitem.lookup
      (wpAny_getItem_list_neg (Q := fun r s' => r=w∧EP X pins σ Q r s') pl.isList (by omega) (by rw [qH]<;>omega) (by omega) (by rw [hj];simpa using ew) ⟨rfl,fin⟩) hs
theorem ix_tup:IxR X (rIxT X.K) := by
  intro value slice pins s σ H x y v u Q I rx ry h hs
  obtain ⟨p,xs,i,z,rfl,rfl,hq,he,q⟩ := h
  cases rx
  obtain ⟨t,rfl⟩ := ry
  obtain ⟨its,r,pl,hz⟩ := I.tuple hq
  obtain ⟨j,h1,h2,h3,h4,h5⟩ := atI_get he
  obtain ⟨w,ew,rw'⟩ := r.get h2
  have hl := r.length
  have hn := line63
  have fin:EP X pins σ Q w s := ⟨z,H,I,rw',q⟩
  exact subscriptTail_builtinR (x := w) pl.typeIs slot_tuple_getitem.lookup
    (getItem_tuple (j := j) (Q := fun r s' => r=w∧EP X pins σ Q r s') pl (by omega) (by omega) (by rw [qH,← hl];exact h1) (by simpa using ew) ⟨rfl,fin⟩) hs
theorem ix_str:IxR X rIxS := by
  intro value slice pins s σ H x y v u Q I rx ry h hs
  obtain ⟨z,i,c,rfl,rfl,hz,he,q⟩ := h
  obtain ⟨t,rfl⟩ := rx
  obtain ⟨t',rfl⟩ := ry
  obtain ⟨j,h1,h2,h3,h4,h5⟩ := atI_get he
  have hl:z.cps.toList.length=z.length := by simp [Str.length]
  rw [hl] at h1 h4 h5
  have hn := line63
  exact tail_any (typeIs_str s z t) slot_str_getitem.lookup (getItem_str (c := c) (by
    have e1:decide (i < -(2 ^ 63:Int))=false := decide_eq_false (by omega)
    have e2:decide (i≥2 ^ 63)=false := decide_eq_false (by omega)
    rw [e1,e2,Bool.or_false]) (by rw [h1];simpa using h2) ⟨.str ⟨#[c]⟩,H,I.tok _,⟨_,rfl⟩,q⟩) hs
theorem mapSeq_set (its:List Value) (n j:Nat) (u:Value):Obj.mapSeq (·.setIfInBounds j u) {cls := .type "list",data := .seq its.toArray n}={cls := .type "list",data := .seq (its.set j u).toArray n} := by
  simp [Obj.mapSeq]
theorem Inv.lst {pins:List (Addr×Obj)} {σ:St} {H:Hp} {s:Shared} {p:Addr} {xs:List V} (I:Inv X pins σ H s) (h:H p=some (.lst xs)) :
    ∃ (its:List Value) (n:Nat),Vals xs its∧s.heap.get? p=some {cls := .type "list",data := .seq its.toArray n}∧xs.length≤qM := by
  obtain ⟨z,its,n,r,e⟩ := I.hok p _ h
  exact ⟨its,n,r,e,z⟩
theorem Inv.lstUpd {pins:List (Addr×Obj)} {σ:St} {H:Hp} {s:Shared} {p:Addr} {xs ys:List V} {its its':List Value} {n n':Nat} {f:Obj→Obj} (I:Inv X pins σ H s) (h:H p=some (.lst xs))
    (ho:s.heap.get? p=some {cls := .type "list",data := .seq its.toArray n}) (hf:f {cls := .type "list",data := .seq its.toArray n}={cls := .type "list",data := .seq its'.toArray n'}) (r:Vals ys its') (hz:ys.length≤qM) (t:Nat) :
    Inv X pins σ (upd H p (.lst ys)) {s with heap := s.heap.update p f,toks := t} := by
  have e:(s.heap.update p f).get? p=some {cls := .type "list",data := .seq its'.toArray n'} := by
    rw [qAO f ho (by rw [hf]<;>rfl),hf]
  refine I.write (x := p) (e := p) (by rw [h];trivial) (.inl rfl) (fun b u hb q => (qx _ _ (qAo hb)).trans q) ⟨_,e⟩ ?_
  exact ⟨hz,its',n',r,e⟩
noncomputable def rSetL:V→V→V→Hp→(Hp→Prop)→Prop := fun o i v H Q => ∃ p xs k j,o=.ref p∧i=.int k∧H p=some (.lst xs)∧ixN xs.length k=some j∧Q (upd H p (.lst (xs.set j v)))
theorem set_list:PSet X rSetL := by
  intro pins s σ H o i v ov iv u Q I ro ri rv h
  obtain ⟨p,xs,k,j,rfl,rfl,hp,hj,q⟩ := h
  cases ro
  obtain ⟨t,rfl⟩ := ri
  obtain ⟨its,n,r,ho,hz⟩ := I.lst hp
  obtain ⟨h1,h2,h3,h4⟩ := ixN_seq hj
  have hl := r.length
  have hn := line63
  have I':Inv X pins σ (upd H p (.lst (xs.set j v))) {s with heap := s.heap.update p (Obj.mapSeq (·.setIfInBounds j u))} :=
    I.lstUpd hp ho (mapSeq_set its n j u) (r.set rv j) (by rw [qj];exact hz) s.toks
  by_cases h0:0≤k
  · have hk:k.toNat=j := by
      rw [seqIndex_of h0 h4] at h1
      exact qP h1
    exact PySem.W.ki_setAt ho h0 (by omega) (by rw [qH,← hl];exact h4) (by rw [hk];exact ⟨_,I',q⟩)
  · have hk:(k+(its.toArray.size:Int)).toNat=j := by
      rw [seqIndex_neg (by omega) h3] at h1
      rw [qH,← hl]
      exact qP h1
    exact PySem.W.ki_setBack ho (by omega) (by rw [qH,← hl];exact h3) (by omega) (by rw [hk];exact ⟨_,I',q⟩)
theorem slice_bounds (lo hi:Option Int) (n:Nat):(sliceBounds lo hi none n).1=((HT.sIx n 0 lo:Nat):Int)∧(sliceBounds lo hi none n).2.1=((HT.sIx n n hi:Nat):Int)∧(sliceBounds lo hi none n).2.2=1 := by
  refine ⟨?_,?_,rfl⟩
  · cases lo with
    | none => simp [sliceBounds,HT.sIx]
    | some i =>
      simp only [sliceBounds,HT.sIx,Option.getD_none,show (1:Int) > 0 by decide,if_true]
      by_cases h:i<0
      · simp only [h,if_true]<;>omega
      · simp only [h,if_false]<;>omega
  · cases hi with
    | none => simp [sliceBounds,HT.sIx]
    | some i =>
      simp only [sliceBounds,HT.sIx,Option.getD_none,show (1:Int) > 0 by decide,if_true]
      by_cases h:i<0
      · simp only [h,if_true]<;>omega
      · simp only [h,if_false]<;>omega
theorem slicePick_cut (its:List Value) (lo hi:Option Int):slicePick its.toArray lo hi none=((its.drop (HT.sIx its.length 0 lo)).take (HT.sIx its.length its.length hi - HT.sIx its.length 0 lo)).toArray := by
  obtain ⟨h1,h2,h3⟩ := slice_bounds lo hi its.toArray.size
  unfold slicePick
  rw [h1,h2,h3]
  simp only [sliceRange_one,pick_run,qH]<;>rfl
noncomputable def rSlL (K:qB):V→Option Int→Option Int→Hp→VK→Prop := fun x lo hi H Q => ∃ a xs,x=.ref a∧SqL K H a xs∧∀ p,H p=none→Q (.ref p) (upd H p (.lst (cutV xs lo hi)))
theorem sl_list:SlR X (rSlL X.K) := by
  intro pins s σ H x v vl vu lo hi sl Q I rx hs pl pu h
  obtain ⟨a,xs,rfl,hx,q⟩ := h
  cases rx
  obtain ⟨its,r,ht,hz⟩ := I.list hx
  have hlen := r.length
  refine ⟨"list",_,slot_list_getitem.lookup,ht.isList.typeIs,?_⟩
  refine wpAny_getItem_list_slice ht.isList hs pl pu .none (by simp) ?_ (by rw [qH]<;>omega)
  rw [slicePick_cut,← hlen]
  refine ⟨.ref s.heap.objs.size,_,I.laid (t' := s.toks) (o := .lst (cutV xs lo hi)) (fun b ob q => qE _ q) (qR _) ?_,rfl,q _ (I.hok.fresh (qR _))⟩
  exact ⟨qAF (cutV_length xs lo hi) hz,_,0,(r.drop (HT.sIx xs.length 0 lo)).take (HT.sIx xs.length xs.length hi - HT.sIx xs.length 0 lo),qAB _ rfl⟩
noncomputable def flatV:V→Bool
  | .non => true
  | .bl _ => true
  | .int _ => true
  | .str _ => true
  | _ => false
noncomputable def eqV:V→V→Bool
  | .non,.non => true
  | .bl a,.bl b => a==b
  | .bl a,.int b => (if a then 1 else 0)==b
  | .int a,.bl b => a==(if b then 1 else 0)
  | .int a,.int b => a==b
  | .str a,.str b => a==b
  | _,_ => false
theorem eqAt_V {A:Around} {s:Shared} {y x:V} {u v:Value} (ry:RelV y u) (rx:RelV x v) (fy:flatV y=true) (fx:flatV x=true):SeqAt.EqAt A s u v (eqV y x) := by
  cases y with
  | non =>
    cases ry
    cases x with
    | non => cases rx;exact SeqAt.EqAt.same _
    | bl b => cases rx;exact SeqAt.EqAt.none_bool b
    | int b => obtain ⟨t,rfl⟩ := rx;exact SeqAt.EqAt.none_int b t
    | str b => obtain ⟨t,rfl⟩ := rx;exact SeqAt.EqAt.none_str b t
    | _ => exact absurd (show false=true from fx) qI
  | bl a =>
    cases ry
    cases x with
    | non => cases rx;exact SeqAt.EqAt.bool_none a
    | bl b => cases rx;exact SeqAt.EqAt.bool_bool a b
    | int b => obtain ⟨t,rfl⟩ := rx;exact SeqAt.EqAt.bool_int a b t
    | str b => obtain ⟨t,rfl⟩ := rx;exact SeqAt.EqAt.bool_str a b t
    | _ => exact absurd (show false=true from fx) qI
  | int a =>
    obtain ⟨t',rfl⟩ := ry
    cases x with
    | non => cases rx;exact SeqAt.EqAt.int_none a t'
    | bl b => cases rx;exact SeqAt.EqAt.int_bool a t' b
    | int b => obtain ⟨t,rfl⟩ := rx;exact SeqAt.EqAt.int_int a t' b t
    | str b => obtain ⟨t,rfl⟩ := rx;exact qB1 a t' b t
    | _ => exact absurd (show false=true from fx) qI
  | str a =>
    obtain ⟨t',rfl⟩ := ry
    cases x with
    | non => cases rx;exact SeqAt.EqAt.str_none a t'
    | bl b => cases rx;exact SeqAt.EqAt.str_bool a t' b
    | int b => obtain ⟨t,rfl⟩ := rx;exact qB0 a t' b t
    | str b => obtain ⟨t,rfl⟩ := rx;exact SeqAt.EqAt.str_str a t' b t
    | _ => exact absurd (show false=true from fx) qI
  | _ => exact absurd (show false=true from fy) qI
noncomputable def eqU (x:V) (u:Value):Bool := match u with
  | .none => eqV .non x
  | .bool b => eqV (.bl b) x
  | .int i _ => eqV (.int i) x
  | .str z _ => eqV (.str z) x
  | _ => false
theorem eqU_of {x y:V} {u:Value} (r:RelV y u) (f:flatV y=true):eqU x u=eqV y x := by
  cases y with
  | non => cases r;rfl
  | bl b => cases r;rfl
  | int i => obtain ⟨t,rfl⟩ := r;rfl
  | str z => obtain ⟨t,rfl⟩ := r;rfl
  | _ => exact absurd (show false=true from f) qI
theorem any_eqU {x:V}:∀ {xs:List V} {us:List Value},Vals xs us→xs.all flatV=true→us.any (eqU x)=xs.any fun y => eqV y x
  | _,_,.nil,_ => rfl
  | y::xs,u::us,.cons r t,f => by
    rw [qAy,qq] at f
    rw [qAS,qAS,eqU_of r f.1,any_eqU t f.2]
theorem mem_eqAt {A:Around} {s:Shared} {x:V} {v:Value} (rx:RelV x v) (fx:flatV x=true):∀ {xs:List V} {us:List Value},Vals xs us→xs.all flatV=true→∀ u∈us,SeqAt.EqAt A s u v (eqU x u)
  | _,_,.nil,_ => fun u hu => by cases hu
  | y::xs,u::us,.cons r t,f => fun u' hu => by
    rw [qAy,qq] at f
    rcases qy.mp hu with rfl|hu
    · rw [eqU_of r f.1];exact eqAt_V r rx f.1 fx
    · exact mem_eqAt rx fx t f.2 u' hu
noncomputable def inV (x:V) (xs:List V):Bool := xs.any fun y => eqV y x
noncomputable def rIn (K:qB) (neg:Bool):R2 := fun x y H Q => ∃ p xs,y=.ref p∧(SqL K H p xs∨SqT K H p xs)∧flatV x=true∧xs.all flatV=true∧Q (.bl (if neg then !inV x xs else inV x xs)) H
theorem op_in_seq:OpR X (compareOp .In) (rIn X.K false) := by
  intro pins s σ H x y v u Q I rx ry h
  obtain ⟨p,xs,rfl,hq,fx,fs,q⟩ := h
  cases ry
  rcases hq with hq|hq
  · obtain ⟨its,r,pl,hz⟩ := I.list hq
    refine SeqAt.in_listAt (eqU x) pl.isList (fun w hw => mem_eqAt rx fx r fs w (by simpa using hw)) ⟨.bl _,H,I,rfl,?_⟩
    rw [show its.toArray.any (eqU x)=its.any (eqU x) by simp,any_eqU r fs]
    exact q
  · obtain ⟨its,r,pl,hz⟩ := I.tuple hq
    refine SeqAt.in_tupleAt (eqU x) pl (fun w hw => mem_eqAt rx fx r fs w (by simpa using hw)) ⟨.bl _,H,I,rfl,?_⟩
    rw [show its.toArray.any (eqU x)=its.any (eqU x) by simp,any_eqU r fs]
    exact q
theorem op_notIn_seq:OpR X (compareOp .NotIn) (rIn X.K true) := by
  intro pins s σ H x y v u Q I rx ry h
  obtain ⟨p,xs,rfl,hq,fx,fs,q⟩ := h
  cases ry
  rcases hq with hq|hq
  · obtain ⟨its,r,pl,hz⟩ := I.list hq
    refine SeqAt.notIn_listAt (eqU x) pl.isList (fun w hw => mem_eqAt rx fx r fs w (by simpa using hw)) ⟨.bl _,H,I,rfl,?_⟩
    rw [show its.toArray.any (eqU x)=its.any (eqU x) by simp,any_eqU r fs]
    exact q
  · obtain ⟨its,r,pl,hz⟩ := I.tuple hq
    refine SeqAt.notIn_tupleAt (eqU x) pl (fun w hw => mem_eqAt rx fx r fs w (by simpa using hw)) ⟨.bl _,H,I,rfl,?_⟩
    rw [show its.toArray.any (eqU x)=its.any (eqU x) by simp,any_eqU r fs]
    exact q
theorem call_list_of:CallR X (.type "list") (fun xs H Q => ∃ p ys,xs=[.ref p]∧(SqL X.K H p ys∨SqT X.K H p ys)∧∀ l,H l=none→Q (.ref l) (upd H l (.lst ys))) := by
  intro pins s σ H xs us Q I r h
  obtain ⟨p,ys,rfl,hq,q⟩ := h
  obtain ⟨u,rfl,rx⟩ := vals1 r
  cases rx
  have fin:∀ (its:List Value),Vals ys its→ys.length≤qM→∀ (h':Heap) (c':Nat),(∀ b o',s.heap.get? b=some o'→h'.get? b=some o') →
      h'.get? s.heap.objs.size=some {cls := .type "list",dict := none,data := .seq its.toArray c',slots := #[]}→EP X pins σ Q (.ref s.heap.objs.size) {s with heap := h'} := fun its r' hz h' c' kp e =>
    ⟨.ref s.heap.objs.size,_,I.laid (t' := s.toks) kp (qR _) (show ObjOk X.prog X.w _ h' _ (.lst ys) from ⟨hz,its,c',r',e⟩),rfl,q _ (I.hok.fresh (qR _))⟩
  rcases hq with hq|hq
  · obtain ⟨its,r',pl,hz⟩ := I.list hq
    have hlen := r'.length
    obtain ⟨o,ho,hc,n,hd⟩ := pl.isList
    exact call_list_seq p (.inl rfl) ho hc hd (fun h' c' kp e => fin its r' hz h' c' kp e) (by simp only [qH]<;>omega)
  · obtain ⟨its,r',pl,hz⟩ := I.tuple hq
    have hlen := r'.length
    obtain ⟨o,ho,hc,n,hd⟩ := pl
    exact call_list_seq p (.inr rfl) ho hc hd (fun h' c' kp e => fin its r' hz h' c' kp e) (by simp only [qH]<;>omega)
theorem call_tuple_of:CallR X (.type "tuple") (fun xs H Q => ∃ p ys,xs=[.ref p]∧((SqL X.K H p ys∧∀ l,H l=none→Q (.ref l) (upd H l (.tup ys)))∨(SqT X.K H p ys∧Q (.ref p) H))) := by
  intro pins s σ H xs us Q I r h
  obtain ⟨p,ys,rfl,h⟩ := h
  obtain ⟨u,rfl,rx⟩ := vals1 r
  cases rx
  rcases h with ⟨hq,q⟩|⟨hq,q⟩
  · obtain ⟨its,r',pl,hz⟩ := I.list hq
    have hlen := r'.length
    refine call_tuple_list pl.isList (fun h' kp => ?_) (by simp only [qH]<;>omega)
    have I1:Inv X pins σ H {s with heap := h'} := I.kept (t' := s.toks) kp
    have I2:Inv X pins σ (upd H h'.objs.size (.tup ys)) {s with heap := h'.push {cls := .type "tuple",data := .seq its.toArray}} :=
      I1.laid (t' := s.toks) (fun b o e => qE _ e) (qR _) (show ObjOk X.prog X.w _ _ _ (.tup ys) from ⟨hz,its,r',IsTup.new _ _⟩)
    exact ⟨.ref h'.objs.size,_,I2,rfl,q _ (I1.hok.fresh (qR _))⟩
  · obtain ⟨its,r',pl,hz⟩ := I.tuple hq
    exact call_tuple_same pl ⟨.ref p,H,I,rfl,q⟩
noncomputable def tyV (K:qB) (T:String) (x:V) (H:Hp):Prop := match x with
  | .str _ => T = "str"
  | .int _ => T = "int"
  | .ref p => (T = "list" ∧ ∃ xs,SqL K H p xs)∨(T = "tuple" ∧ ∃ o,K.lookup p=some o∧o.cls=.type "tuple" ∧ o.dict=none) ∨
      (T = "dict" ∧ ((∃ kvs,H p=some (.dK kvs))∨∃ kvs,H p=some (.dT kvs)))∨(T = "set" ∧ ∃ S n,H p=some (.set S n))
  | _ => False
theorem tyV_is {pins:List (Addr×Obj)} {σ:St} {H:Hp} {s:Shared} {T:String} {x:V} {v:Value} (I:Inv X pins σ H s) (r:RelV x v) (ty:tyV X.K T x H) :
    s.TypeIs v T∧∀ a,v=.ref a→∃ ob,s.heap.get? a=some ob∧ob.dict=none := by
  cases x with
  | str z =>
    obtain ⟨t,rfl⟩ := r
    cases (show T = "str" from ty)
    exact ⟨typeIs_str s z t,fun _ e => nomatch e⟩
  | int i =>
    obtain ⟨t,rfl⟩ := r
    cases (show T = "int" from ty)
    exact ⟨typeIs_int s i t,fun _ e => nomatch e⟩
  | ref p =>
    cases r
    rcases ty with ⟨rfl,xs,hq⟩|⟨rfl,o,hk,hc,hd⟩|⟨rfl,hk⟩|⟨rfl,S,n,hk⟩
    · obtain ⟨its,_,pl,_⟩ := I.list hq
      refine ⟨pl.isList.typeIs,fun a e => ?_⟩
      cases e
      obtain ⟨o,n,e,c,hd,_⟩ := pl
      exact ⟨o,e,hd⟩
    · refine ⟨⟨o,I.kIn p o hk,hc⟩,fun a e => ?_⟩
      cases e
      exact ⟨o,I.kIn _ o hk,hd⟩
    · have z:∃ o,s.heap.get? p=some o∧o.ExactDict := by
        rcases hk with ⟨kvs,hk⟩|⟨kvs,hk⟩
        · obtain ⟨_,_,_,_,o,_,_,e,ex,_⟩ := I.hok p _ hk
          exact ⟨o,e,ex⟩
        · obtain ⟨_,_,_,_,o,_,_,e,ex,_⟩ := I.hok p _ hk
          exact ⟨o,e,ex⟩
      obtain ⟨o,e,ex⟩ := z
      refine ⟨⟨o,e,ex.1⟩,fun a e2 => ?_⟩
      cases e2
      exact ⟨o,e,ex.2.1⟩
    · obtain ⟨o,_,_,_,e,ex,_⟩ := I.hok p _ hk
      refine ⟨⟨o,e,ex.1⟩,fun a e2 => ?_⟩
      cases e2
      exact ⟨o,e,ex.2.1⟩
  | _ => exact False.elim ty
noncomputable def tBM0 (K:qB) (T:String) (r:V→List V→Hp→VK→Prop) (to:TE):TE := fun σ H Q => to σ H fun x H1 => tyV K T x H1∧r x [] H1 Q
noncomputable def tBM (K:qB) (T:String) (r:V→List V→Hp→VK→Prop) (to:TE) (t:TA):TE := fun σ H Q => to σ H fun x H1 => tyV K T x H1∧t σ H1 fun xs H2 => r x xs H2 Q
variable {o e:Expr} {es:List Expr} {to:TE} {t:TA} {name:Str} {apos cpos:Pos} {T id:String} {r:V→List V→Hp→VK→Prop}
theorem pe_bm0 (pa:PlainAttrs T) (slot:Slot T name id) (hty:typeOf (.builtin id)=pure (.type "method_descriptor")) (hm:MtR X id r) (ho:PE X o to)
    (hbase:attributeBase o name X.env (eval o X.env)=eval o X.env := by rfl) (hline:(apos.endLine==cpos.line)=true := by rfl):PE X (.Call (.Attribute o name apos) [] [] cpos) (tBM0 X.K T r to) := by
  intro pins s σ H Q I h
  refine wpAny_Call_method0_late hbase hline (thn (ho pins s σ H _ I h) fun v s1 ⟨x,H1,I1,r1,ty,q1⟩ => ?_)
  obtain ⟨h1,h2⟩ := tyV_is I1 r1 ty
  exact ⟨T,id,pa,slot,hty,h1,h2,qBH rfl (PySem.evalArgs_none (hm pins s1 σ H1 x [] v [] Q I1 r1 .nil q1))⟩
theorem pe_bm (pa:PlainAttrs T) (slot:Slot T name id) (hty:typeOf (.builtin id)=pure (.type "method_descriptor")) (hm:MtR X id r) (ho:PE X o to) (ha:PA X (e::es) t)
    (hbase:attributeBase o name X.env (eval o X.env)=eval o X.env := by rfl)
    (hfew:((backTo cpos (starEach (e::es) X.env)).all (fun x => !x.1)&&(backToKw cpos (keywordEach [] X.env)).all (fun x => x.1.isSome)
      && decide ((e::es).length+([]:List Keyword).length+(if ([]:List Keyword).isEmpty then 0 else 1)<30))=true := by rfl)
    (hline:(apos.endLine==cpos.line)=true := by rfl) (hs:starEach (e::es) X.env=(false,eval e X.env)::starEach es X.env := by rfl) (hplain:(backTo cpos (starEach es X.env)).any (·.1)=false := by rfl) :
    PE X (.Call (.Attribute o name apos) (e::es) [] cpos) (tBM X.K T r to t) := by
  intro pins s σ H Q I h
  refine wpAny_Call_method_late hbase hfew hline rfl (thn (ho pins s σ H _ I h) fun v s1 ⟨x,H1,I1,r1,ty,q1⟩ => ?_)
  obtain ⟨h1,h2⟩ := tyV_is I1 r1 ty
  refine ⟨T,id,pa,slot,hty,h1,h2,?_⟩
  have hA := ha cpos pins s1 σ H1 _ I1 q1
  rw [hs] at hA ⊢
  refine qBH (by show (false||(backTo cpos (starEach es X.env)).any (·.1))=false;rw [hplain]<;>rfl) (qCD ?_)
  exact thn hA fun us s2 ⟨vs,H2,I2,r2,q2⟩ => hm pins s2 σ H2 x vs v us Q I2 r1 r2 q2
end
noncomputable def MtM (X:Cx) (id:String) (r:V→List V→Hp→VK→Prop):Prop :=
  ∀ (pins:List (Addr×Obj)) (s:Shared) (σ:St) (H:Hp) (x:V) (xs:List V) (v:Value) (us:List Value) (Q:VK),Inv X pins σ H s→RelV x v→Vals xs us→r x xs H Q →
    wpAny (model X.prog X.w) X.A (call (.builtin id) (v::us)) (EP X pins σ Q) X.xe s
theorem Vals.one:∀ {x:V} {us:List Value},Vals [x] us→∃ u,us=[u]∧RelV x u
  | _,_,.cons r .nil => ⟨_,rfl,r⟩
theorem Vals.zero:∀ {us:List Value},Vals [] us→us=[]
  | _,.nil => rfl
theorem Vals.dropLast {xs:List V} {us:List Value} (h:Vals xs us):Vals xs.dropLast us.dropLast := by
  induction h with
  | nil => exact .nil
  | cons r t ih =>
    cases t with
    | nil => exact .nil
    | cons q t' => exact .cons r ih
theorem erase_last {α:Type} (l:List α):l.eraseIdx (l.length - 1)=l.dropLast := by
  induction l with
  | nil => rfl
  | cons a r ih =>
    cases r with
    | nil => rfl
    | cons b r =>
      have e:(a::b::r).length - 1=((b::r).length - 1)+1 := by
        have h1:(a::b::r).length=r.length+2 := rfl
        have h2:(b::r).length=r.length+1 := rfl
        omega
      rw [e,List.eraseIdx_cons_succ,ih]
      all_goals rfl
section
variable {X:Cx} {pins:List (Addr×Obj)} {σ:St} {H:Hp} {s:Shared} {l b:Addr} {xs ys zs:List V}
theorem Inv.lset {its its':List Value} {n:Nat} {f:Array Value→Array Value} {t':Nat} (I:Inv X pins σ H s) (hH:H l=some (.lst xs))
    (e:s.heap.get? l=some {cls := .type "list",data := .seq its.toArray n}) (hf:f its.toArray=its'.toArray) (hv:Vals ys its') (hz:ys.length≤qM) :
    Inv X pins σ (upd H l (.lst ys)) {s with heap := s.heap.update l (Obj.mapSeq f),toks := t'} := by
  have q := PySem.IsL.update e f
  rw [hf] at q
  refine I.write (x := l) (e := l) (by rw [hH];exact trivial) (.inl rfl) (fun b' u hb hu => (qx s.heap (Obj.mapSeq f) (qAo hb)).trans hu) ⟨_,q⟩ ?_
  exact ⟨hz,its',_,hv,q⟩
theorem Inv.lnew {its:List Value} {t':Nat} (I:Inv X pins σ H s) (hv:Vals ys its) (hz:ys.length≤qM) :
    Inv X pins σ (upd H s.heap.objs.size (.lst ys)) {s with heap := s.heap.push {cls := .type "list",data := .seq its.toArray},toks := t'} :=
  I.laid (fun _ _ q => qE _ q) (qR _) ⟨hz,its,0,hv,qAB _ rfl⟩
theorem Inv.fresh (I:Inv X pins σ H s):H s.heap.objs.size=none := I.hok.fresh (qR _)
theorem Inv.lstM (I:Inv X pins σ H s) (hH:H l=some (.lst xs)):xs.length≤qM∧∃ (its:List Value) (n:Nat),Vals xs its∧xs.length=its.length∧s.heap.get? l=some {cls := .type "list",data := .seq its.toArray n} := by
  obtain ⟨z,its,n,r,e⟩ := I.hok l _ hH
  exact ⟨z,its,n,r,r.length,e⟩
theorem notLongL {n:Nat} (h:n≤qM):Builtin.List.listTooLong n=false := by
  unfold Builtin.List.listTooLong
  exact decide_eq_false (by omega)
end
section
variable {X:Cx}
noncomputable def rAppend:V→List V→Hp→VK→Prop := fun x vs H Q => ∃ l xs y,x=.ref l∧vs=[y]∧H l=some (.lst xs)∧xs.length<qM∧Q .non (upd H l (.lst (xs++[y])))
theorem mt_append:MtM X "list.append" rAppend := by
  intro pins s σ H x vs v us Q I rx rv h
  obtain ⟨l,xs,y,rfl,rfl,hH,hz,q⟩ := h
  cases rx
  obtain ⟨u,rfl,ru⟩ := rv.one
  obtain ⟨z,its,n,r,hl,e⟩ := I.lstM hH
  refine call_meets F.slot_list_append ⟨_,e,rfl⟩ F.entry_list_append (F.args_list_append_2 _ _) (PySem.list_append l its.toArray n u (by rw [qH];omega)) ⟨e,?_⟩
  refine ⟨.non,_,I.lset (its' := its++[u]) hH e (by simp) (r.append (.cons ru .nil)) ?_,rfl,q⟩
  rw [qK,List.length_singleton]
  omega
noncomputable def rExtend:V→List V→Hp→VK→Prop := fun x vs H Q => ∃ l b xs zs,x=.ref l∧vs=[.ref b]∧H l=some (.lst xs)∧H b=some (.lst zs)∧xs.length+zs.length≤qM∧Q .non (upd H l (.lst (xs++zs)))
theorem mt_extend:MtM X "list.extend" rExtend := by
  intro pins s σ H x vs v us Q I rx rv h
  obtain ⟨l,b,xs,zs,rfl,rfl,hH,hB,hz,q⟩ := h
  cases rx
  obtain ⟨u,rfl,ru⟩ := rv.one
  cases ru
  obtain ⟨z,its,n,r,hl,e⟩ := I.lstM hH
  obtain ⟨z2,its2,n2,r2,hl2,e2⟩ := I.lstM hB
  have hsz:its.toArray.size+its2.toArray.size≤qM := by rw [qH,qH];omega
  have hlong:¬ (!its.toArray.isEmpty&&Builtin.List.listTooLong (its.toArray.size+its2.toArray.size))=true := by
    rw [notLongL hsz,Bool.and_false]
    exact qI
  refine call_meets F.slot_list_extend ⟨_,e,rfl⟩ F.entry_list_extend (F.args_list_extend_2 _ _)
    (AutoSeq1.list_extend_list_list_0 l its.toArray n b its2.toArray n2 hlong (by rw [qH];omega) (by omega)) ⟨e,e2,?_⟩
  refine ⟨.non,_,I.lset (its' := its++its2) hH e (by simp) (r.append r2) ?_,rfl,q⟩
  rw [qK]
  omega
noncomputable def rPop:V→List V→Hp→VK→Prop := fun x vs H Q => ∃ l xs y,x=.ref l∧vs=[]∧H l=some (.lst xs)∧xs[xs.length - 1]?=some y∧Q y (upd H l (.lst xs.dropLast))
theorem mt_pop:MtM X "list.pop" rPop := by
  intro pins s σ H x vs v us Q I rx rv h
  obtain ⟨l,xs,y,rfl,rfl,hH,hy,q⟩ := h
  cases rx
  have hus := rv.zero
  subst hus
  obtain ⟨z,its,n,r,hl,e⟩ := I.lstM hH
  obtain ⟨u,hu,ru⟩ := r.get hy
  have hy':its.toArray[its.toArray.size - 1]?=some u := by
    show its.toArray[its.length - 1]?=some u
    rw [← Array.getElem?_toList,← hl]
    exact hu
  refine call_meets F.slot_list_pop ⟨_,e,rfl⟩ F.entry_list_pop (F.args_list_pop_1 _) (MeetsSeq.list_pop_last l its.toArray n u hy' (by rw [qH];omega)) ⟨e,?_⟩
  refine ⟨y,_,I.lset (its' := its.dropLast) hH e ?_ r.dropLast ?_,ru,q⟩
  · show its.toArray.eraseIdxIfInBounds (its.toArray.size - 1)=its.dropLast.toArray
    rw [qH,List.eraseIdxIfInBounds_toArray,erase_last]
  · rw [qCJ]
    omega
noncomputable def rCat:R2 := fun x y H Q => ∃ l b xs zs,x=.ref l∧y=.ref b∧H l=some (.lst xs)∧H b=some (.lst zs)∧xs.length+zs.length≤qM∧∀ p,H p=none→Q (.ref p) (upd H p (.lst (xs++zs)))
theorem op_cat:OpR X (binaryOp .Add) rCat := by
  intro pins s σ H x y v u Q I rx ry h
  obtain ⟨l,b,xs,zs,rfl,rfl,hH,hB,hz,q⟩ := h
  cases rx
  cases ry
  obtain ⟨z,its,n,r,hl,e⟩ := I.lstM hH
  obtain ⟨z2,its2,n2,r2,hl2,e2⟩ := I.lstM hB
  refine PySem.P.add_list e e2 ?_ (by rw [qH,qH];omega)
  have ea:its.toArray++its2.toArray=(its++its2).toArray := by simp
  rw [ea]
  exact ⟨.ref _,_,I.lnew (t' := s.toks) (r.append r2) (by rw [qK];omega),rfl,q _ I.fresh⟩
end
section
variable {prog:Program} {w:World} {A:Around} {E:Value→Shared→Prop} {s:Shared}
set_option maxRecDepth 100000 in
end
section
variable {X:Cx}
end
section
variable {κ:Type} [DecidableEq κ]
noncomputable def valV (kvs:List (κ×V)) (k:κ):Option V := (kvs.find? fun kv => decide (kv.1=k)).map (·.2)
noncomputable def putK (kvs:List (κ×V)) (k:κ) (v:V):List (κ×V) :=
  if (kvs.any fun kv => decide (kv.1=k))=true then kvs.map (fun kv => if kv.1=k then (kv.1,v) else kv) else kvs++[(k,v)]
theorem valV_pos {p:κ×V} {r:List (κ×V)} {k:κ} (e:p.1=k):valV (p::r) k=some p.2 := by simp [valV,qAN,e]
theorem valV_neg {p:κ×V} {r:List (κ×V)} {k:κ} (e:¬ p.1=k):valV (p::r) k=valV r k := by simp [valV,qAN,e]
theorem valV_any (k:κ):∀ kvs:List (κ×V),(kvs.any fun kv => decide (kv.1=k))=(valV kvs k).isSome
  | [] => rfl
  | p::r => by
    rw [qAS]
    by_cases e:p.1=k
    · simp only [valV_pos e,decide_eq_true e,Bool.true_or,qCH]
    · rw [valV_neg e,decide_eq_false e,qB4];exact valV_any k r
theorem length_putK (kvs:List (κ×V)) (k:κ) (v:V):(putK kvs k v).length≤kvs.length+1 := by
  unfold putK
  split
  · rw [qD];omega
  · rw [qK,qf,qA0];omega
theorem RelO.isSome_eq {o:Option V} {u:Option Value} (r:RelO o u):o.isSome=u.isSome := by
  cases o with
  | none => cases u with
    | none => rfl
    | some _ => exact (show False from r).elim
  | some _ => cases u with
    | none => exact (show False from r).elim
    | some _ => rfl
theorem KV.val {kvs:List (κ×V)} {vs:List (κ×Value)} (r:KV kvs vs) (k:κ):RelO (valV kvs k) (valueAt vs k) := by
  unfold KV at r
  induction r with
  | nil => exact True.intro
  | @cons p q ps qs h t ih =>
    obtain ⟨h1,h2⟩ := h
    by_cases e:p.1=k
    · have e':q.1=k := h1.symm.trans e
      have b:valueAt (q::qs) k=some q.2 := by simp [valueAt,qAN,e']
      rw [valV_pos e,b];exact h2
    · have e':¬ q.1=k := fun z => e (h1.trans z)
      have b:valueAt (q::qs) k=valueAt qs k := by simp [valueAt,qAN,e']
      rw [valV_neg e,b];exact ih
theorem KV.any {kvs:List (κ×V)} {vs:List (κ×Value)} (r:KV kvs vs) (k:κ):(kvs.any fun kv => decide (kv.1=k))=vs.any fun kv => decide (kv.1=k) := by
  unfold KV at r
  induction r with
  | nil => rfl
  | cons h t ih => rw [qAS,qAS,ih,h.1]
theorem KV.repl {kvs:List (κ×V)} {vs:List (κ×Value)} (r:KV kvs vs) (k:κ) {y:V} {u:Value} (ry:RelV y u) :
    KV (kvs.map fun kv => if kv.1=k then (kv.1,y) else kv) (vs.map fun kv => if kv.1=k then (kv.1,u) else kv) := by
  unfold KV at r ⊢
  induction r with
  | nil => exact .nil
  | @cons p q ps qs h t ih =>
    rw [qv,qv]
    refine .cons ?_ ih
    obtain ⟨h1,h2⟩ := h
    by_cases e:p.1=k
    · rw [if_pos e,if_pos (h1.symm.trans e)];exact ⟨h1,ry⟩
    · rw [if_neg e,if_neg (fun z => e (h1.trans z))];exact ⟨h1,h2⟩
theorem KV.put {kvs:List (κ×V)} {vs:List (κ×Value)} (r:KV kvs vs) (k:κ) {y:V} {u:Value} (ry:RelV y u):KV (putK kvs k y) (stored vs k u) := by
  unfold putK stored
  rw [r.any k]
  by_cases e:(vs.any fun kv => decide (kv.1=k))=true
  · rw [if_pos e,if_pos e];exact r.repl k ry
  · rw [if_neg e,if_neg e];exact Paired.snoc r ⟨rfl,ry⟩
theorem KV.length {kvs:List (κ×V)} {vs:List (κ×Value)} (r:KV kvs vs):kvs.length=vs.length := qBS r
end
theorem kV_is {P:Program} {w:World} {k:Key} {u:Value} (r:RelV (kV k) u):(mixKind P w).is k u=true := by
  cases k with
  | inl i => obtain ⟨t,e⟩ := (show ∃ t,u=Value.int i t from r);subst e;exact mixKind_int P w i t
  | inr x => obtain ⟨t,e⟩ := (show ∃ t,u=Value.str x t from r);subst e;exact mixKind_str P w x t
theorem items_are {P:Program} {w:World}:∀ {ks:List Key} {us:List Value},Vals (ks.map kV) us→ItemsAre (mixKind P w) ks us
  | [],_,r => by rw [qB8] at r;cases r;exact .nil
  | k::ks,_,r => by
    rw [qv] at r
    cases r with
    | cons h t => exact .cons (kV_is h) (items_are t)
noncomputable abbrev KT (H:Hp):List (List Key×V)→List (List Key×Addr×Value)→Prop := Paired fun p q => p.1=q.1∧H q.2.1=some (.tup (p.1.map kV))∧RelV p.2 q.2.2
theorem KT.val {H:Hp} {kvs:List (List Key×V)} {xs:List (List Key×Addr×Value)} (r:KT H kvs xs) (k:List Key):RelO (valV kvs k) ((atKey xs k).map (·.2)) := by
  induction r with
  | nil => exact True.intro
  | @cons p q ps qs h t ih =>
    obtain ⟨h1,_,h2⟩ := h
    by_cases e:p.1=k
    · have e':q.1=k := h1.symm.trans e
      have b:atKey (q::qs) k=some q.2 := by simp [atKey,qAN,e']
      rw [valV_pos e,b];exact h2
    · have e':¬ q.1=k := fun z => e (h1.trans z)
      have b:atKey (q::qs) k=atKey qs k := by simp [atKey,qAN,e']
      rw [valV_neg e,b];exact ih
theorem KT.repl {H:Hp} {kvs:List (List Key×V)} {xs:List (List Key×Addr×Value)} (r:KT H kvs xs) (k:List Key) {y:V} {u:Value} (ry:RelV y u) :
    KT H (kvs.map fun kv => if kv.1=k then (kv.1,y) else kv) (xs.map (putAt k u)) := by
  induction r with
  | nil => exact .nil
  | @cons p q ps qs h t ih =>
    rw [qv,qv]
    refine .cons ?_ ih
    obtain ⟨h1,h2,h3⟩ := h
    unfold putAt
    by_cases e:p.1=k
    · rw [if_pos e,if_pos (h1.symm.trans e)];exact ⟨h1,h2,ry⟩
    · rw [if_neg e,if_neg (fun z => e (h1.trans z))];exact ⟨h1,h2,h3⟩
theorem KT.put {H:Hp} {kvs:List (List Key×V)} {xs:List (List Key×Addr×Value)} (r:KT H kvs xs) (k:List Key) {b:Addr} {y:V} {u:Value} (hb:H b=some (.tup (k.map kV))) (ry:RelV y u) :
    KT H (putK kvs k y) (storedH xs k b u) := by
  have e:(kvs.any fun kv => decide (kv.1=k))=(atKey xs k).isSome := by
    rw [valV_any,(r.val k).isSome_eq,qCQ]
  unfold putK storedH
  rw [e]
  by_cases q:(atKey xs k).isSome=true
  · rw [if_pos q,if_pos q];exact r.repl k ry
  · rw [if_neg q,if_neg q];exact Paired.snoc r ⟨rfl,hb,ry⟩
theorem KT.keeps {H H':Hp} {kvs:List (List Key×V)} {xs:List (List Key×Addr×Value)} (r:KT H kvs xs) (ht:∀ b ys,H b=some (.tup ys)→H' b=some (.tup ys)):KT H' kvs xs :=
  Paired.mapP r fun _ _ z => ⟨z.1,ht _ _ z.2.1,z.2.2⟩
section
variable {P:Program} {w:World} {H:Hp} {h:Heap} {a:Addr}
theorem rd_of {u:HO} (ok:HOk P w H h) (e:Rd H a u):ObjOk P w H h a u := e.ok ok
theorem dk_rd {kvs:List (Key×V)} (ok:HOk P w H h) (e:Rd H a (.dK kvs)):kvs.length≤qM∧(a==sysModules)=false∧∃ vs,KV kvs vs∧h.DictOf (mixKind P w) a vs :=
  show ObjOk P w H h a (.dK kvs) from rd_of ok e
theorem dk_of {kvs:List (Key×V)} (ok:HOk P w H h) (e:H a=some (.dK kvs)):kvs.length≤qM∧(a==sysModules)=false∧∃ vs,KV kvs vs∧h.DictOf (mixKind P w) a vs := dk_rd ok (.inl e)
theorem key_of {ks:List Key} (ok:HOk P w H h) (e:H a=some (.tup (ks.map kV))):(tupleKind (mixKind P w)).is h ks a := by
  obtain ⟨_,its,r,o,h1,h2,n,h3⟩ := (show ObjOk P w H h a (.tup (ks.map kV)) from ok a _ e)
  exact ⟨o,its.toArray,n,h1,h2,h3,by simpa using items_are r⟩
theorem dt_rd {kvs:List (List Key×V)} (ok:HOk P w H h) (e:Rd H a (.dT kvs)):kvs.length≤qM∧(a==sysModules)=false ∧
    ∃ xs,KT H kvs xs∧h.DictOfH (tupleKind (mixKind P w)) a xs := by
  obtain ⟨z,y,xs,r,o,es,ep,h1,h2,h3,h4,h5⟩ := (show ObjOk P w H h a (.dT kvs) from rd_of ok e)
  refine ⟨z,y,xs,r,o,es,ep,h1,h2,h3,h4,fun x hx => ?_,h5⟩
  have all:∀ {l:List (List Key×V)} {m:List (List Key×Addr×Value)},KT H l m→∀ x∈m,(tupleKind (mixKind P w)).is h x.1 x.2.1 := by
    intro l m q
    induction q with
    | nil => intro x hx;exact nomatch hx
    | @cons p q ps qs hq t ih =>
      intro x hx
      rcases qy.mp hx with e|hx
      · subst e
        exact key_of ok (by rw [← hq.1];exact hq.2.1)
      · exact ih x hx
  exact all r x hx
theorem dt_of {kvs:List (List Key×V)} (ok:HOk P w H h) (e:H a=some (.dT kvs)):kvs.length≤qM∧(a==sysModules)=false ∧
    ∃ xs,KT H kvs xs∧h.DictOfH (tupleKind (mixKind P w)) a xs := dt_rd ok (.inl e)
end
noncomputable def DGet (H:Hp) (a:Addr) (y:V) (r:Option V):Prop :=
  (∃ kvs k,Rd H a (.dK kvs)∧y=kV k∧r=valV kvs k)∨∃ kvs k b,Rd H a (.dT kvs)∧y=.ref b∧H b=some (.tup (k.map kV))∧r=valV kvs k
noncomputable def DPut (H:Hp) (a:Addr) (y v:V) (H':Hp):Prop :=
  (∃ kvs k,H a=some (.dK kvs)∧y=kV k∧kvs.length<qM∧H'=upd H a (.dK (putK kvs k v))) ∨
  ∃ kvs k b,H a=some (.dT kvs)∧y=.ref b∧H b=some (.tup (k.map kV))∧kvs.length<qM∧H'=upd H a (.dT (putK kvs k v))
theorem DGet.k {H:Hp} {a:Addr} {kvs:List (Key×V)} {k:Key} (e:H a=some (.dK kvs)):DGet H a (kV k) (valV kvs k) := .inl ⟨kvs,k,.inl e,rfl,rfl⟩
theorem DPut.k {H:Hp} {a:Addr} {kvs:List (Key×V)} {k:Key} {v:V} (e:H a=some (.dK kvs)) (hl:kvs.length<qM):DPut H a (kV k) v (upd H a (.dK (putK kvs k v))) := .inl ⟨kvs,k,e,rfl,hl,rfl⟩
section
variable {X:Cx} {pins:List (Addr×Obj)} {σ:St} {H:Hp} {s:Shared} {a:Addr} {y v:V} {u r:Value} {o:Option V} {A:Around} {E:Value→Shared→Prop}
theorem Inv.big (I:Inv X pins σ H s):sysModules<s.heap.objs.size := by
  have h:qL<s.heap.objs.size := (I.mod.glob.keeps I.bk).lt
  exact Nat.lt_trans (by decide) h
theorem d_getItem {Q:Value→Shared→Prop} (hu:A.units+1<cLine) (I:Inv X pins σ H s) (g:DGet H a y (some v)) (ry:RelV y u) (h:∀ w' s',Inv X pins σ H s'→RelV v w'→Q w' s') :
    wpAny (model X.prog X.w) A (getItem (.ref a) u) Q E s := by
  rcases g with ⟨kvs,k,e,ey,l⟩|⟨kvs,k,b,e,ey,eb,l⟩
  · subst ey
    obtain ⟨z,hd,vs,rel,dd⟩ := dk_rd I.hok e
    obtain ⟨w',hw,rw'⟩ := RelO.some_of (v := v) (o := valueAt vs k) (by rw [l];exact rel.val k)
    exact wpAny_getItem_of (kV_is ry) dd.mapOf hw (h w' _ (I.tok _) rw')
  · subst ey
    cases (show u=Value.ref b from ry)
    obtain ⟨z,hd,xs,rel,dd⟩ := dt_rd I.hok e
    obtain ⟨w',hw,rw'⟩ := RelO.some_of (v := v) (o := (atKey xs k).map (·.2)) (by rw [l];exact rel.val k)
    obtain ⟨p,hp,hp2⟩ := qG.mp hw
    refine wpAny_getItem_heap (qBn hu) (key_of I.hok eb) dd hp ?_
    rw [hp2]
    exact h w' _ (I.tok _) rw'
theorem d_in {Q:Value→Shared→Prop} (hu:A.units+1<cLine) (I:Inv X pins σ H s) (g:DGet H a y o) (ry:RelV y u) (h:∀ s',Inv X pins σ H s'→Q (.bool o.isSome) s') :
    wpAny (model X.prog X.w) A (compareOp .In u (.ref a)) Q E s := by
  rcases g with ⟨kvs,k,e,ey,l⟩|⟨kvs,k,b,e,ey,eb,l⟩
  · subst ey
    obtain ⟨z,hd,vs,rel,dd⟩ := dk_rd I.hok e
    refine wpAny_in_of (kV_is ry) hd dd.mapOf ?_
    rw [← (rel.val k).isSome_eq,← l]
    exact h _ (I.tok _)
  · subst ey
    cases (show u=Value.ref b from ry)
    obtain ⟨z,hd,xs,rel,dd⟩ := dt_rd I.hok e
    refine wpAny_in_heap (qBn hu) (key_of I.hok eb) hd dd ?_
    have q := (rel.val k).isSome_eq
    rw [qCQ] at q
    rw [← q,← l]
    exact h _ (I.tok _)
theorem d_write {h':Heap} {t':Nat} {ob:HO} (I:Inv X pins σ H s) (mu:Mut (H a)) (hs:Heap.SameBut a s.heap h') (he:∃ q,h'.get? a=some q) (new:ObjOk X.prog X.w (upd H a ob) h' a ob) :
    Inv X pins σ (upd H a ob) {s with heap := h',toks := t'} :=
  I.write (x := a) (e := a) mu (.inl rfl) (fun b q hb z => (hs.2 b hb).trans z) he new
theorem dk_new {P:Program} {w:World} {H':Hp} {h':Heap} {kvs:List (Key×V)} {vs:List (Key×Value)} (z:kvs.length≤qM) (hd:(a==sysModules)=false) (rel:KV kvs vs) (dd:h'.DictOf (mixKind P w) a vs) :
    ObjOk P w H' h' a (.dK kvs) := ⟨z,hd,vs,rel,dd⟩
theorem d_setItem {H':Hp} {Q:Unit→Shared→Prop} (hu:A.units+1<cLine) (I:Inv X pins σ H s) (g:DPut H a y v H') (ry:RelV y u) (rv:RelV v r) (h:∀ s',Inv X pins σ H' s'→Q () s') :
    wpAny (model X.prog X.w) A (setItem (.ref a) u r) Q E s := by
  rcases g with ⟨kvs,k,e,ey,l,eH⟩|⟨kvs,k,b,e,ey,eb,l,eH⟩
  · subst ey eH
    obtain ⟨z,hd,vs,rel,dd⟩ := dk_of I.hok e
    have hz:vs.length≤qM := by rw [← rel.length];exact z
    have hl:(putK kvs k v).length≤qM := by have := length_putK kvs k v;omega
    refine wpAny_setItem_pairs (hsz := hz) (kV_is ry) dd fun h' dd' hs => h _ ?_
    have he:∃ q,h'.get? a=some q := let ⟨q,_,_,hq,_⟩ := dd';⟨q,hq⟩
    exact d_write I (by rw [e];exact True.intro) hs he (dk_new hl hd (rel.put k rv) dd')
  · subst ey eH
    cases (show u=Value.ref b from ry)
    obtain ⟨z,hd,xs,rel,dd⟩ := dt_of I.hok e
    have hz:xs.length≤qM := by rw [← qBS rel];exact z
    have hl:(putK kvs k v).length≤qM := by have := length_putK kvs k v;omega
    refine wpAny_setItem_heap (hsz := hz) (qBn hu) (key_of I.hok eb) dd fun h' dd' hs => h _ ?_
    obtain ⟨q,es,ep,hq,h2,h3,h4,_,h5⟩ := dd'
    refine d_write I (by rw [e];exact True.intro) hs ⟨q,hq⟩ ⟨hl,hd,_,(rel.put k eb rv).keeps fun c ys ec => ?_,q,es,ep,hq,h2,h3,h4,h5⟩
    rw [upd_ne (ne_of ec e (fun z => nomatch z))]
    exact ec
end
section
variable {X:Cx} {pins:List (Addr×Obj)} {σ:St} {H:Hp} {s:Shared} {a:Addr} {kvs:List (Key×V)} {k:Key} {u:Value} {A:Around} {E:Value→Shared→Prop}
end
noncomputable def NoSl (i:Expr):Prop := ∀ ov iv,subscripted i false ov iv=operate [ov,iv] (getItem ov iv)
theorem subD_of {prog:Program} {w:World} {A:Around} {E:Value→Shared→Prop} {s:Shared} {env:Env} {value slice:Expr} {pos:Pos} {T id:String} {Q:Value→Shared→Prop}
    (hl:typeLookup (.type T) "__getitem__" = pure (some (.builtin id))) (hs:NoSl slice)
    (h:wpAny (model prog w) A (eval value env) (fun o s₁ => wpAny (model prog w) A (eval slice env) (fun i s₂ => s₂.TypeIs o T∧wpAny (model prog w) A (getItem o i) Q E s₂) E s₁) E s) :
    wpAny (model prog w) A (eval (.Subscript value slice pos) env) Q E s := by
  refine Subscript_ (qAk h (fun o s₁ h₁ => qAk h₁ (fun i s₂ h₂ => ?_) fun _ _ x => x) fun _ _ x => x)
  obtain ⟨hT,h₂⟩ := h₂
  unfold subscriptTail
  refine qN ?_
  rw [getitemInPython_of_ne hT.not_modules]
  refine qN (wpAny_specialOf hT hl ?_)
  have fin:wpAny (model prog w) A (subscripted slice false o i) (fun r s₃ => wpAny (model prog w) A (letTemporaryGo value o r >>= fun _ => pure r) Q E s₃) E s₂ := by
    rw [hs o i]
    exact wpAny_operating (qAk h₂ (fun r s₃ h₃ => qN (wpAny_letTemporaryGo (qp h₃))) fun _ _ x => x)
  first
    | exact qp (qN fin)
    | exact qN (qp (qN fin))
    | exact qN fin
theorem dict_typeIs {X:Cx} {pins:List (Addr×Obj)} {σ:St} {H:Hp} {s:Shared} {a:Addr} {y:V} {o:Option V} (I:Inv X pins σ H s) (g:DGet H a y o):s.TypeIs (.ref a) "dict" := by
  rcases g with ⟨kvs,k,e,_,_⟩|⟨kvs,k,b,e,_,_,_⟩
  · obtain ⟨_,_,vs,_,dd⟩ := dk_rd I.hok e
    exact dd.typeIs
  · obtain ⟨_,_,xs,_,dd⟩ := dt_rd I.hok e
    exact dd.typeIs
noncomputable def tDGet (td ty:TE):TE := fun σ H Q => td σ H fun x H1 => ty σ H1 fun y H2 => ∃ a v,x=.ref a∧DGet H2 a y (some v)∧Q v H2
noncomputable def tDIn (ty td:TE):TE := fun σ H Q => ty σ H fun y H1 => td σ H1 fun x H2 => ∃ a o,x=.ref a∧DGet H2 a y o∧Q (.bl o.isSome) H2
noncomputable def sDPut (td ty tv:TE):TS := fun D σ H => tv σ H fun v H1 => td σ H1 fun x H2 => ty σ H2 fun y H3 => ∃ a H4,x=.ref a∧DPut H3 a y v H4∧D.nx σ H4
section
variable {X:Cx} {o i e value:Expr} {pos pos' tpos:Pos} {td ty tv:TE}
theorem pe_dget (hu:X.A.units+1<cLine) (ho:PE X o td) (hi:PE X i ty) (hs:NoSl i):PE X (.Subscript o i pos) (tDGet td ty) := by
  intro pins s σ H Q I h
  refine subD_of PySem.F.slot_dict_getitem.lookup hs (thn (ho pins s σ H _ I h) fun u s1 ⟨x,H1,I1,rx,q1⟩ => thn (hi pins s1 σ H1 _ I1 q1) fun iv s2 ⟨y,H2,I2,ry,a,v,ex,g,q2⟩ => ?_)
  subst ex
  obtain rfl:u=Value.ref a := rx
  exact ⟨dict_typeIs I2 g,d_getItem hu I2 g ry fun w' s3 I3 rw' => ⟨v,H2,I3,rw',q2⟩⟩
theorem pc_din (hu:X.A.units+1<cLine) (hi:PE X i ty) (ho:PE X o td):PC X .In i o (tDIn ty td) := by
  intro pins s σ H Q I h
  refine thn (hi pins s σ H _ I h) fun iv s1 ⟨y,H1,I1,ry,q1⟩ => thn (ho pins s1 σ H1 _ I1 q1) fun u s2 ⟨x,H2,I2,rx,a,ov,ex,g,q2⟩ => ?_
  subst ex
  obtain rfl:u=Value.ref a := rx
  exact d_in hu I2 g ry fun s3 I3 => ⟨.bl ov.isSome,H2,I3,rfl,q2⟩
theorem ps_dput (hu:X.A.units+1<cLine) (ho:PE X o td) (hi:PE X i ty) (hv:PE X value tv) (hs:swapsWith value (some (.Subscript o i pos')) pos.line X.env=pure false) :
    PS X (.Assign [.Subscript o i pos'] value pos) (sDPut td ty tv) := by
  intro pins s σ H D I h
  refine wpAny_Assign_Subscript (thn (hv pins s σ H _ I h) fun r s1 ⟨v,H1,I1,rv,q1⟩ => thn (ho pins s1 σ H1 _ I1 q1) fun u s2 ⟨x,H2,I2,rx,q2⟩ => thn (hi pins s2 σ H2 _ I2 q2) fun iv s3 ⟨y,H3,I3,ry,a,H4,ex,g,q3⟩ => ?_) hs
  subst ex
  obtain rfl:u=Value.ref a := rx
  exact d_setItem hu I3 g ry rv fun s4 I4 => ⟨σ,H4,I4,q3⟩
end
theorem dk_empty {P:Program} {w:World} {H:Hp} (h:Heap) (hb:sysModules<h.objs.size):ObjOk P w H (h.push {cls := .type "dict",data := .dict #[]}) h.objs.size (.dK []) :=
  ⟨qAZ _,beq_eq_false_iff_ne.mpr (qAo (qAC hb)),[],.nil,Heap.DictOf.new h⟩
noncomputable def tDNewK:TE := fun _ H Q => ∀ p,H p=none→Q (.ref p) (upd H p (.dK []))
section
variable {X:Cx} {pos:Pos}
theorem pe_dnewK:PE X (.Dict [] [] pos) tDNewK := fun pins s σ H Q I h =>
  wpAny_Dict_empty ⟨.ref s.heap.objs.size,_,I.laid (a := s.heap.objs.size) (o := .dK []) (t' := s.toks) (fun _ _ q => qE _ q) (qR _) (dk_empty s.heap I.big),rfl,h _ (I.hok.fresh (qR _))⟩
end
noncomputable def tPairs:List (TE×TE)→St→Hp→(List (V×V)→Hp→Prop)→Prop
  | [],_,H,Q => Q [] H
  | (tk,tv)::r,σ,H,Q => tk σ H fun x H1 => tv σ H1 fun y H2 => tPairs r σ H2 fun ps H3 => Q ((x,y)::ps) H3
noncomputable abbrev VV:List (V×V)→List (Value×Value)→Prop := Paired fun p q => RelV p.1 q.1∧RelV p.2 q.2
noncomputable def PPs (X:Cx) (pos:Pos) (keys:List (Option Expr)) (values:List Expr) (trs:List (TE×TE)):Prop :=
  ∀ (pins:List (Addr×Obj)) (s:Shared) (σ:St) (H:Hp) (Q:List (V×V)→Hp→Prop),Inv X pins σ H s→tPairs trs σ H Q →
    wpAny (model X.prog X.w) X.A (evalPairs (pairTrees keys values X.env pos)) (fun vs s' => ∃ ps H',Inv X pins σ H' s'∧VV ps vs∧Q ps H') X.xe s
theorem pps_nil {X:Cx} {pos:Pos}:PPs X pos [] [] [] := fun pins s σ H Q I h => pairTrees_nil_walk ⟨[],H,I,.nil,h⟩
theorem pps_cons {X:Cx} {pos:Pos} {k v:Expr} {ks:List (Option Expr)} {vs:List Expr} {tk tv:TE} {trs:List (TE×TE)} (hk:PE X k tk) (hv:PE X v tv) (hr:PPs X pos ks vs trs) :
    PPs X pos (some k::ks) (v::vs) ((tk,tv)::trs) := fun pins s σ H Q I h =>
  pairTrees_cons_walk (thn (hk pins s σ H _ I h) fun u s1 ⟨x,H1,I1,rx,q1⟩ => thn (hv pins s1 σ H1 _ I1 q1) fun w2 s2 ⟨y,H2,I2,ry,q2⟩ =>
    thn (hr pins s2 σ H2 _ I2 q2) fun ws s3 ⟨ps,H3,I3,rel,q3⟩ => ⟨(x,y)::ps,H3,I3,.cons ⟨rx,ry⟩ rel,q3⟩)
noncomputable def mergeK (kvs more:List (Key×V)):List (Key×V) := more.foldl (fun acc kv => putK acc kv.1 kv.2) kvs
theorem KV.merge:∀ {more:List (Key×V)} {rs:List (Key×Value)} {kvs:List (Key×V)} {vs:List (Key×Value)},KV more rs→KV kvs vs→KV (mergeK kvs more) (merged vs rs) := by
  intro more rs kvs vs r
  unfold KV at r
  induction r generalizing kvs vs with
  | nil => intro q;exact q
  | @cons p q ps qs h t ih =>
    intro r0
    have e:KV (putK kvs p.1 p.2) (stored vs q.1 q.2) := by
      have := r0.put p.1 h.2
      rw [← h.1];exact this
    exact ih e
theorem length_mergeK:∀ (more kvs:List (Key×V)),(mergeK kvs more).length≤kvs.length+more.length
  | [],kvs => by show kvs.length≤kvs.length+0;omega
  | p::r,kvs => by
    have h1 := length_mergeK r (putK kvs p.1 p.2)
    have h2 := length_putK kvs p.1 p.2
    show (mergeK (putK kvs p.1 p.2) r).length≤_
    rw [qf];omega
theorem carries_of {P:Program} {w:World}:∀ {kvs:List (Key×V)} {ws:List (Value×Value)},VV (kvs.map fun kv => (kV kv.1,kv.2)) ws→∃ rs,Carries (mixKind P w) ws rs∧KV kvs rs
  | [],_,r => by rw [qB8] at r;cases r;exact ⟨[],True.intro,.nil⟩
  | p::kvs,_,r => by
    rw [qv] at r
    cases r with
    | @cons a b as bs h t =>
      obtain ⟨rs,c,q⟩ := carries_of (P := P) (w := w) t
      obtain ⟨b1,b2⟩ := b
      exact ⟨(p.1,b2)::rs,⟨kV_is h.1,rfl,c⟩,.cons ⟨rfl,h.2⟩ q⟩
noncomputable def tDisp (trs:List (TE×TE)):TE := fun σ H Q => ∀ p,H p=none→tPairs trs σ (upd H p (.dK [])) fun ps H2 => H2 p=some (.dK [])∧∃ kvs:List (Key×V),ps=kvs.map (fun kv => (kV kv.1,kv.2))∧kvs.length≤15∧Q (.ref p) (upd H2 p (.dK (mergeK [] kvs)))
theorem pe_disp {X:Cx} {pos:Pos} {keys:List (Option Expr)} {values:List Expr} {trs:List (TE×TE)} (h:PPs X pos keys values trs) (hall:keys.all (·.isSome)=true) (hl:keys.length=values.length) (h0:keys≠[])
    (h15:keys.length≤15):PE X (.Dict keys values pos) (tDisp trs) := by
  intro pins s σ H Q I q
  have hn := I.hok.fresh (qR s.heap.objs.size)
  have I1 := I.laid (a := s.heap.objs.size) (o := .dK []) (h' := s.heap.push {cls := .type "dict",data := .dict #[]}) (t' := s.toks) (fun _ _ q => qE _ q) (qR _) (dk_empty s.heap I.big)
  refine wpAny_Dict_walk (knd := mixKind X.prog X.w) hall hl h0 h15 (thn (h pins _ σ _ _ I1 (q _ hn)) fun ws s2 ⟨ps,H2,I2,rel,e,kvs,ep,lk,q2⟩ => ?_)
  subst ep
  obtain ⟨rs,c,rk⟩ := carries_of (P := X.prog) (w := X.w) rel
  obtain ⟨z,hd,vs0,r0,dd⟩ := dk_of I2.hok e
  cases r0
  refine ⟨rs,c,dd,fun h' dd' hs => ⟨.ref s.heap.objs.size,_,?_,rfl,q2⟩⟩
  have hz:(mergeK [] kvs).length≤qM := by
    have h1 := length_mergeK kvs []
    rw [qA0] at h1
    rw [qAT];omega
  have he:∃ q,h'.get? s.heap.objs.size=some q := let ⟨q,_,_,hq,_⟩ := dd';⟨q,hq⟩
  exact d_write I2 (by rw [e];exact True.intro) hs he (dk_new hz hd (rk.merge .nil) dd')
set_option genInjectivity false in
set_option genInjectivity false in
section
variable {X:Cx} {pins:List (Addr×Obj)} {σ:St} {H:Hp} {s:Shared} {a:Addr} {y d:V} {u r:Value} {o:Option V} {A:Around} {E:Value→Shared→Prop}
end
section
variable {X:Cx} {o e f:Expr} {apos cpos:Pos} {td ty tx:TE}
end
section
variable {X:Cx} {pins:List (Addr×Obj)} {σ:St} {H:Hp} {s:Shared} {a:Addr} {kvs:List (Key×V)} {A:Around} {E:Value→Shared→Prop}
end
section
variable {X:Cx} {pins:List (Addr×Obj)} {σ:St} {H:Hp} {s:Shared} {a:Addr} {y:V} {u:Value} {A:Around} {E:Value→Shared→Prop}
end
end L2
namespace Att
open PySem PySem.W PySem.Calls PyProof.Rows
theorem ints_of_wellAll {P:Params} {h:Heap}:∀ (ns:List Int) (vs:List Value),WellAll P h vs (ns.map WData.int)→IntsAre vs ns := by
  intro ns
  induction ns with
  | nil =>
    intro vs w
    rw [qB8] at w
    cases w
    exact .nil
  | cons n ns ih =>
    intro vs w
    rw [qv] at w
    cases w with
    | cons a b =>
      cases a
      exact .cons _ _ (ih _ b)
theorem script_of {l:OpenLaw} {n:Nat} (hn:l.most=some n) {P:Params} {h:Heap} {args:List WData} {vals:List Value}
    (hpre:l.row.toRowW.claim.pre args=true) (hwl:WellAll P h vals args) :
    ∃ a vs ns,vals=[Value.ref a]∧args=[WData.list (ns.map WData.int)]∧h.get? a=some {cls := .type "list",data := .seq vs.toArray}∧IntsAre vs ns∧ns.length≤n := by
  have hsh:WShape.hasAll [] args [.list .int]=true := (pre_splitW hpre).1
  have hc:l.pre.holds [] {args := args}=true := (pre_splitW hpre).2
  obtain ⟨d,r,rfl,h1,h2⟩ := hasAllW_cons hsh
  obtain rfl := hasAllW_nil h2
  obtain ⟨xs,rfl,h3⟩ := hasW_list h1
  obtain ⟨ns,rfl⟩ := items_int h3
  have hlen:ns.length≤n := by
    unfold OpenLaw.pre at hc
    have h4:(WTm.not (.lt (.lit (.int (n:Int))) (.len (.arg 0)))).holds [] {args := [.list (ns.map .int)]}=true := by
      have h4 := (holds_andW hc).1
      rw [hn] at h4
      exact h4
    have h5 := condW_of h4 (w_not (w_lt w_lit (w_len_list (w_arg rfl))))
    rw [qD] at h5
    refine Nat.le_of_not_lt fun q => ?_
    have q':(n:Int)<((ns.length:Nat):Int) := by omega
    first
      | (rw [decide_eq_true q'] at h5;exact absurd h5 (by decide))
      | (simp at h5;omega)
  cases hwl with
  | cons w1 w2 =>
    cases w2
    cases w1 with
    | list ho hall => exact ⟨_,_,ns,rfl,rfl,ho,ints_of_wellAll ns _ hall,hlen⟩
theorem post_true (l:OpenLaw) (args:List WData):l.row.toRowW.claim.post args (.bool true) args=true :=
  postW_of (r := l.row.toRowW) (X := (true==true))
    (show WShape.has [] (.bool true) .bool=true by first|rfl|decide|simp [WShape.has,WShape.arms,WShape.armsAll])
    (show (WTm.eq .res (.lit (.bool true))).value [] {args := args,res := some (.bool true),after := args}=some (.bool (true==true)) from w_eq_bool (w_res rfl) w_lit) rfl
theorem attach_call {l:OpenLaw} {n:Nat} {q:Program} {loose:List Str} {XP:(Str→Option Value)→Heap→Prop} {YP:World→Heap→Prop} {d:DefRec}
    (hn:l.most=some n) (hdf:d.params.defaults=[])
    (call:∀ (w:World) (s₀ s₁:Shared) (mg mb:Str→Option Value) (fa:Addr) (o:Obj) (pm cd doc:Value) (a:Addr) (vs:List Value) (ns:List Int),
      Ground q loose [] XP w s₀ mg mb s₁.heap→YP w s₁.heap →
      s₁.heap.get? fa=some o→o.data=.func (docDef d.name d.params d.body d.scope pm cd doc)→s₁.heap.CodeRec cd d.name→mg d.name=some (.ref fa) →
      s₁.heap.get? a=some {cls := .type "list",data := .seq vs.toArray}→IntsAre vs ns→ns.length≤n→s₁.gens=#[] →
      codeAny (model l.prog w) callerA (.call (.ref fa) ⟨[.ref a],[]⟩) (fun r s' => r=.ok (.ret (.bool true))∧OldK s₁.heap s'.heap∧s'.os=s₁.os∧AllBare s'.gens) s₁) :
    WalkO q loose XP YP l.row.toRowW d [] (fun f vs => PySem.call f vs) := by
  intro w s₀ s₁ mg mb G Y fa o pm cd doc dV kV ho hd hcd hD hmg hg args vals as hpre hlay hrd hwl hlo
  obtain rfl:dV=.none := Dflts.none hD hdf
  obtain rfl:kV=.none := Dflts.noKw hD
  obtain ⟨a,vs,ns,rfl,rfl,hobj,hints,hlen⟩ := script_of hn hpre hwl
  refine enter_call (qBB (call w s₀ s₁ mg mb fa o pm cd doc a vs ns G Y ho (fd_plain hd) hcd hmg hobj hints hlen hg) fun r s' hq => ?_)
  obtain ⟨rfl,h2,h3,h4⟩ := hq
  exact ⟨.inl ⟨.bool true,.bool true,[],rfl,fun _ => rfl,.bool true,post_true l _,fun _ => ⟨List.Pairwise.nil,fun _ hm => (nomatch hm)⟩⟩,h2,h3,h4⟩
section
variable {prog:Program} {w:World} {A:Around} {E:Value→Shared→Prop} {s:Shared} {K:Frag}
end
end Att
namespace L2
open PySem PySem.Spec PyProof.Rows
theorem vals_ints:∀ {vs:List Value} {ns:List Int},IntsAre vs ns→Vals (ns.map V.int) vs
  | _,_,.nil => .nil
  | _,_,.cons n t h => .cons ⟨t,rfl⟩ (vals_ints h)
noncomputable def Only (H:Hp):Prop := ∀ b,H b=none∨∃ o xs,H b=some (.frz o (.lst xs))
theorem law_call {P:Program} {w:World} {K:qB} {mg mb:Str→Option Value} {CX:CXT} {k:Nat} {fa a:Addr} {fd:qt} {x:Str} {sp:Sp} {s₁:Shared} {vs:List Value} {ns:List Int}
    (KX:K.In s₁.heap) (hns:s₁.heap.Ns qL mg) (hb:s₁.heap.Ns builtinsNs mb) (hbb:∀ x:Str,x ≠ "__name__" → mb x=bootBuiltins x) (hlim:s₁.heap.NoLimit) (hg:s₁.gens=#[])
    (ha:s₁.heap.get? a=some {cls := .type "list",data := .seq vs.toArray}) (hi:IntsAre vs ns) (hl:ns.length≤qM) (hr:Room k callerA)
    (F:∀ base:Heap,K.In base→base.Ns qL mg→FnOk P w K mg base CX k fa fd [x] sp) (hbind:∀ (s:Shared) (u:Value),BindsTo s fd ⟨[u],[]⟩ [(x,u)])
    (hsp:∀ H:Hp,Only H→SqL K H a (ns.map V.int)→sp [.ref a] H (fun v _ => v=.bl true) fun _ _ _ => False)
    (hCX:∀ H e s',CX [] H s₁ (fun _ _ _ => False) e s'→False) :
    codeAny (model P w) callerA (.call (.ref fa) ⟨[.ref a],[]⟩) (fun r s' => r=.ok (.ret (.bool true))∧OldK s₁.heap s'.heap∧s'.os=s₁.os∧AllBare s'.gens) s₁ := by
  have rv := vals_ints hi
  have lenV := hi.length
  have core:∀ H:Hp,Only H→SqL K H a (ns.map V.int)→HOk P w H s₁.heap→(∀ b,H b≠none→b=a)→(H a≠none→K.lookup a=none) →
      codeAny (model P w) callerA (.call (.ref fa) ⟨[.ref a],[]⟩) (fun r s' => r=.ok (.ret (.bool true))∧OldK s₁.heap s'.heap∧s'.os=s₁.os∧AllBare s'.gens) s₁ := by
    intro H hO hS hok hA hK
    have base_of:∀ {b:Addr} {o:Obj},s₁.heap.get? b=some o→H b=none→(hidT s₁.heap H).get? b=some o := fun e n => hidT_get e n
    have noA:∀ {b:Addr} {o:Obj} {es:Array DictEntry} {ep:Nat},s₁.heap.get? b=some o→o.data=.dict es ep→H b=none := fun {b o es ep} e d => by
      cases q:H b with
      | none => rfl
      | some u =>
        have e':b=a := hA b (by rw [q];simp)
        subst e'
        rw [ha] at e;cases e
        have d':Data.seq vs.toArray _=Data.dict es ep := d
        cases d'
    have nsK:∀ {b:Addr} {m:Str→Option Value},s₁.heap.Ns b m→(hidT s₁.heap H).Ns b m := fun {b m} ⟨o,es,ep,e,d,r⟩ => ⟨o,es,ep,base_of e (noA e d),d,r⟩
    have hKb:K.In (hidT s₁.heap H) := fun b o e => base_of (KX b o e) (by
      cases q:H b with
      | none => rfl
      | some u =>
        have e':b=a := hA b (by rw [q];simp)
        subst e'
        rw [hK (by rw [q];simp)] at e;cases e)
    have hM:Mod K mg (hidT s₁.heap H) := ⟨hKb,nsK hns,⟨mb,nsK hb,hbb⟩,let ⟨mc,h1,h2⟩ := hlim;⟨mc,nsK h1,h2⟩⟩
    have e0:Env0 P w K mg (hidT s₁.heap H) callerA [] s₁ H := ⟨rfl,hM,fun b o e => of_hidT e,Nat.le_of_eq (hidT_size _ _),trivial,fun b hb => absurd (show b∈([]:List Addr) from hb) (by simp),hok,.of_eq hg⟩
    refine qBB ((F _ hKb (nsK hns)).run callerA [] s₁ H ⟨[.ref a],[]⟩ [.ref a] [.ref a] _ _ hr e0 (hbind s₁ (.ref a)) (.cons rfl .nil) (hsp H hO hS)) fun r s' h => ?_
    cases r with
    | error e => exact (hCX H e s' h).elim
    | ok fl =>
      cases fl with
      | next => exact False.elim h
      | brk => exact False.elim h
      | cont => exact False.elim h
      | ret u =>
        obtain ⟨v,H',os,bare,un,hok',r',q⟩ := h
        have q':v=.bl true := q
        subst q'
        obtain rfl:u=Value.bool true := r'
        refine ⟨rfl,OldK.of_keep fun b o e => ?_,os,bare⟩
        cases q:H b with
        | none => exact un.keep b o e q (by intro z;exact absurd (show b∈([]:List Addr) from z) (by simp)) (by simp)
        | some u =>
          rcases hO b with z|⟨ob,xs,z⟩
          · rw [q] at z;cases z
          · have z2 := un.frzs b ob _ z
            obtain ⟨e1,_⟩ := hok b _ z
            obtain ⟨e2,_⟩ := hok' b _ z2
            rw [e] at e1;cases e1
            exact e2
  cases hk:K.lookup a with
  | some o =>
    have e := KX a o hk
    rw [ha] at e
    cases e
    refine core (fun _ => none) (fun _ => .inl rfl) (.inr ⟨_,vs.toArray,_,hk,rfl,rfl,rfl,by rw [qH,lenV];exact hl,by simpa using rv⟩) (fun b u z => by have z':(none:Option HO)=some u := z;cases z') (fun b z => absurd rfl z) fun z => absurd rfl z
  | none =>
    refine core (fun b => if b=a then some (.frz {cls := .type "list",data := .seq vs.toArray} (.lst (ns.map V.int))) else none) (fun b => ?_) (.inl (.inr ⟨{cls := .type "list",data := .seq vs.toArray},if_pos rfl⟩)) (fun b u z => ?_) (fun b z => ?_) fun _ => hk
    · by_cases hb:b=a
      · exact .inr ⟨_,_,if_pos hb⟩
      · exact .inl (if_neg hb)
    · by_cases hb:b=a
      · have z' := (if_pos hb).symm.trans z
        cases z'
        subst hb
        exact ⟨ha,by rw [qD];exact hl,vs,_,rv,ha⟩
      · have z' := (if_neg hb).symm.trans z
        cases z'
    · by_cases hb:b=a
      · exact hb
      · exact absurd (if_neg hb) z
theorem walk_of {l:PySem.W.OpenLaw} {n k:Nat} {q:Program} {loose:List Str} {XP:(Str→Option Value)→Heap→Prop} {YP:World→Heap→Prop} {d:DefRec} {K:Params→qB} {CX:World→CXT} {sp:World→Sp} {x:Str}
    (hn:l.most=some n) (hn2:n≤qM) (hdf:d.params.defaults=[]) (hr:Room k callerA)
    (hY:∀ (w:World) (h:Heap),YP w h→(K w.params).In h)
    (F:∀ (w:World) (mg:Str→Option Value) (fa:Addr) (h:Heap),(K w.params).In h→h.Ns qL mg→mg d.name=some (.ref fa) →
      ∃ fd:qt,(∀ (s:Shared) (u:Value),BindsTo s fd ⟨[u],[]⟩ [(x,u)]) ∧
        ∀ base:Heap,(K w.params).In base→base.Ns qL mg→FnOk l.prog w (K w.params) mg base (CX w) k fa fd [x] (sp w))
    (hsp:∀ (w:World) (H:Hp) (a:Addr) (ns:List Int),ns.length≤n→Only H→SqL (K w.params) H a (ns.map V.int)→sp w [.ref a] H (fun v _ => v=.bl true) fun _ _ _ => False)
    (hCX:∀ (w:World) (H:Hp) (s:Shared) (e:Value) (s':Shared),CX w [] H s (fun _ _ _ => False) e s'→False) :
    PySem.W.WalkO q loose XP YP l.row.toRowW d [] (fun f vs => PySem.call f vs) := by
  refine Att.attach_call hn hdf fun w s₀ s₁ mg mb fa o pm cd doc a vs ns G Y ho hd hcd hmg hobj hints hlen hg => ?_
  have KX := hY w _ Y
  obtain ⟨fd,hb,hF⟩ := F w mg fa _ KX G.T.g hmg
  exact law_call KX G.T.g G.T.b G.T.builtins G.T.nolimit hg hobj hints (qAF hlen hn2) hr hF hb (fun H hO hS => hsp w H a ns hlen hO hS) fun H e s' => hCX w H s₁ e s'
end L2
namespace L2
open PySem PySem.Spec PyProof.Rows
noncomputable def inClass (s:Stmt) (j:Nat):Stmt := match s with
  | .ClassDef _ _ _ body _ _ _ _ _ _ _ => body.getD j (.Pass ⟨0,0,0,0⟩)
  | _ => .Pass ⟨0,0,0,0⟩
noncomputable def defArgs (s:Stmt):Arguments := match s with
  | .FunctionDef _ a _ _ _ _ _ _ _ _ => a
  | _ => {posonlyargs := [],args := [],vararg := none,kwonlyargs := [],kw_defaults := [],kwarg := none,defaults := []}
noncomputable def defBody (s:Stmt):List Stmt := match s with
  | .FunctionDef _ _ b _ _ _ _ _ _ _ => b
  | _ => []
noncomputable def defScope (s:Stmt):Scope := match s with
  | .FunctionDef _ _ _ _ _ _ sc _ _ _ => sc
  | _ => {kind := .function,names := [],isGenerator := false,isCoroutine := false}
noncomputable abbrev CX0:CXT := fun _ _ _ _ _ _ => False
noncomputable abbrev E0:XK := fun _ _ _ => False
theorem pass0 {X:Cx}:Passes CX0 X E0 := fun _ _ _ _ _ _ _ h => h.elim
set_option genInjectivity false in
structure Fun (K:qB) (x qual:Str) (st:Stmt) (f:Addr) (fd:qt):Prop where
  ex:∃ (oc:Value) (od:Option Addr) (kV doc pm:Value) (an:Option Addr) (cdv ct:Value) (osl:Array (Option Value)),
    fd=qc x qual (defArgs st) (defBody st) (defScope st) .none kV doc pm an cdv ct∧K.lookup f=some ⟨oc,od,.func fd,osl⟩∧qa K cdv qual=true
  kp:qV K (.ref f)=true
section
variable {P:Program} {w:World} {K:qB} {mg:Str→Option Value} {base:Heap}
theorem Fun.ok {x qual:Str} {st:Stmt} {f:Addr} {fd:qt} {N ps:List Str} {k:Nat} {sp:Sp} (F:Fun K x qual st f fd) (S:FnScope N ps (defScope st)) (len:∀ vs H Q E,sp vs H Q E→vs.length=ps.length)
    (hbody:∀ (cdv:Value) (A:Around) (outer:List Env) (s:Shared) (H:Hp) (vs:List V) (Q:VK) (E:XK),Room k (A.deeper (envOfC qual (defScope st) s.heap.objs.size f cdv))→sp vs H Q E →
      ∃ t,PSs (cxOf CX0 P w K mg base N qual (defScope st) f cdv A outer s H E).nox (defBody st) t∧t {nx := fun _ H' => Q .non H',rt := Q} (start N vs) H):FnOk P w K mg base CX0 (k+1) f fd ps sp := by
  obtain ⟨oc,od,kV,doc,pm,an,cdv,ct,osl,rfl,lk,hcd⟩ := F.ex
  refine fn_of lk hcd S len fun A outer s H vs Q E hr hsp => ?_
  obtain ⟨t,h,q⟩ := hbody cdv A outer s H vs Q E hr hsp
  exact ⟨t,h.nox,q⟩
theorem Fun.binds {x qual:Str} {st:Stmt} {f:Addr} {fd:qt} {ps:List Str} (F:Fun K x qual st f fd)
    (h:∀ (kV doc pm:Value) (an:Option Addr) (cdv ct:Value) (us:List Value),us.length=ps.length→bindArgs (qc x qual (defArgs st) (defBody st) (defScope st) .none kV doc pm an cdv ct) ⟨us,[]⟩=pure (ps.zip us)):Binds K fd ps [] := by
  obtain ⟨oc,od,kV,doc,pm,an,cdv,ct,osl,rfl,lk,hcd⟩ := F.ex
  exact .all (h kV doc pm an cdv ct)
theorem fun_mk {x qual:Str} {st:Stmt} {f:Addr} {oc:Value} {od an:Option Addr} {osl:Array (Option Value)} {kV doc pm cdv ct:Value} (l:K.lookup f=some ⟨oc,od,.func (qc x qual (defArgs st) (defBody st) (defScope st) .none kV doc pm an cdv ct),osl⟩)
    (c:qa K cdv qual=true) (k:qV K (.ref f)=true):Fun K x qual st f (qc x qual (defArgs st) (defBody st) (defScope st) .none kV doc pm an cdv ct) := ⟨⟨oc,od,kV,doc,pm,an,cdv,ct,osl,rfl,l,c⟩,k⟩
end
theorem hu_of {A:Around} {k:Nat} (hr:Room k A):A.units+1<cLine := qBY (Nat.add_le_add_left (by decide:1≤64) _) hr.units
section
variable {X:Cx}
theorem pv (i:Nat) {x:Str} {pos:Pos} (hN:X.N[i]?=some x := by rfl) (hv:visB X.env.scope x=true := by rfl) (hd:(x==("__debug__":Str))=false := by decide)
    (hcd:(x==("__classdict__":Str))=false := by decide):PE X (.Name x pos) (tVar i) := pe_var hN (visB.of hv) hd hcd
end
theorem iteF {A B:Prop} (h:B):if false=true then A else B := by
  rw [if_neg qI]
  exact h
theorem iteT {A B:Prop} (h:A):if true=true then A else B := by
  rw [if_pos rfl]
  exact h
noncomputable def Same (H H':Hp):Prop := ∀ b o,H b=some o→H' b=some o
theorem Same.refl (H:Hp):Same H H := fun _ _ h => h
theorem Same.trans {H H1 H2:Hp} (a:Same H H1) (b:Same H1 H2):Same H H2 := fun c o h => b c o (a c o h)
theorem Same.free {H H':Hp} (e:Same H H') {l:Addr} (h:H' l=Option.none):H l=Option.none := by
  cases q:H l with
  | none => rfl
  | some o =>
    rw [e l o q] at h
    cases h
theorem Same.seq {K:qB} {H H':Hp} {a:Addr} {xs:List V} (e:Same H H') (h:SqL K H a xs):SqL K H' a xs := by
  rcases h with (h|⟨o,h⟩)|h
  · exact .inl (.inl (e _ _ h))
  · exact .inl (.inr ⟨o,e _ _ h⟩)
  · exact .inr h
section
variable {κ:Type} [DecidableEq κ]
theorem nd_snoc:∀ {l:List κ} {k:κ},l.Nodup→¬ k∈l→(l++[k]).Nodup
  | [],k,_,_ => by simp
  | a::r,k,h,hk => by
    obtain ⟨h1,h2⟩ := qAd.mp h
    show (a::(r++[k])).Nodup
    refine qAd.mpr ⟨fun m => ?_,nd_snoc h2 fun m => hk (qy.mpr (Or.inr m))⟩
    rcases qAA.mp m with q|q
    · exact h1 q
    · exact hk (qy.mpr (Or.inl (qAP.mp q).symm))
end
end L2
set_option maxHeartbeats 4000000
namespace L2
open PySem PySem.Spec PyProof.Rows
noncomputable def clos (cells:List (Str×Addr)):List (Str×NameKind)→List (Str×Addr)→List (Str×Addr)
  | [],acc => acc
  | (n,k)::r,acc => if k==.free then clos cells r ((n,(cells.lookup n).getD 0)::acc) else clos cells r acc
theorem clos_mem {cells:List (Str×Addr)}:∀ {names:List (Str×NameKind)} {acc:List (Str×Addr)},(∀ y∈names,y.2=.free→∃ c,cells.lookup y.1=some c)→∀ p∈clos cells names acc,p∈acc∨((p.1,NameKind.free)∈names∧cells.lookup p.1=some p.2)
  | [],acc,_,p,hp => .inl hp
  | (n,k)::r,acc,h,p,hp => by
    unfold clos at hp
    have hr:∀ y∈r,y.2=.free→∃ c,cells.lookup y.1=some c := fun y hy => h y (qO _ hy)
    split at hp
    · rename_i hk
      rcases clos_mem hr p hp with q|q
      · rcases qy.mp q with q|q
        · subst q
          have hk':k=.free := by simpa using hk
          subst hk'
          obtain ⟨c,hc⟩ := h (n,.free) qm rfl
          exact .inr ⟨qm,by show cells.lookup n=some ((cells.lookup n).getD 0);rw [hc];rfl⟩
        · exact .inl q
      · exact .inr ⟨qO _ q.1,q.2⟩
    · rcases clos_mem hr p hp with q|q
      · exact .inl q
      · exact .inr ⟨qO _ q.1,q.2⟩
theorem clos_acc {cells:List (Str×Addr)}:∀ {names:List (Str×NameKind)} {acc:List (Str×Addr)},∀ p∈acc,p∈clos cells names acc
  | [],acc,p,hp => hp
  | (n,k)::r,acc,p,hp => by
    unfold clos
    split
    · exact clos_acc p (qO _ hp)
    · exact clos_acc p hp
theorem clos_has {cells:List (Str×Addr)} {x:Str}:∀ {names:List (Str×NameKind)} {acc:List (Str×Addr)},(x,NameKind.free)∈names→∃ c,(x,c)∈clos cells names acc
  | [],_,h => by simp at h
  | (n,k)::r,acc,h => by
    unfold clos
    rcases qy.mp h with e|h
    · cases e
      rw [if_pos (show (NameKind.free==NameKind.free)=true by decide)]
      exact ⟨_,clos_acc _ qm⟩
    · split
      · exact clos_has h
      · exact clos_has h
theorem lookup_of_mem {α:Type} {x:Str} {c:α}:∀ {l:List (Str×α)},(x,c)∈l→∃ c',l.lookup x=some c'
  | [],h => by simp at h
  | (k,v)::r,h => by
    rw [qo]
    cases hb:x==k with
    | true => exact ⟨v,rfl⟩
    | false =>
      rcases qy.mp h with e|h
      · cases e;simp at hb
      · exact lookup_of_mem h
theorem closureFor_eq {scope:Scope} {env:Env} (h:∀ y∈scope.names,y.2=.free→∃ c,env.cells.lookup y.1=some c):closureFor scope env=pure (clos env.cells scope.names []) := by
  unfold closureFor
  have key:∀ (names:List (Str×NameKind)) (acc:List (Str×Addr)),(∀ y∈names,y.2=.free→∃ c,env.cells.lookup y.1=some c) →
      (forIn names acc (fun (x:Str×NameKind) (r:List (Str×Addr)) => (if (x.2==.free)=true then (do let a ← cellOf env x.1;pure (ForInStep.yield ((x.1,a)::r))) else pure (ForInStep.yield r):Sem (ForInStep (List (Str×Addr))))))=pure (clos env.cells names acc) := by
    intro names
    induction names with
    | nil => intro acc _;rfl
    | cons y r ih =>
      intro acc hy
      obtain ⟨n,k⟩ := y
      have hr := fun y (hm:y∈r) => hy y (qO _ hm)
      rw [List.forIn_cons]
      unfold clos
      cases hk:(k==NameKind.free) with
      | true =>
        have hk':k=.free := by simpa using hk
        subst hk'
        obtain ⟨c,hc⟩ := hy (n,.free) qm rfl
        have e1:cellOf env n=pure c := by unfold cellOf;rw [hc]
        simp only [if_true]
        have hc':env.cells.lookup n=some c := hc
        rw [e1,hc']
        simp only [pure_bind,Option.getD_some]
        exact ih _ hr
      | false =>
        simp only [qA4,if_false,pure_bind]
        exact ih _ hr
  simpa using key scope.names [] h
theorem cellsFrom_app:∀ (names:List (Str×NameKind)) (n:Nat) (acc:List (Str×Addr)),cellsFrom n names acc=cellsFrom n names []++acc
  | [],_,_ => rfl
  | (name,kind)::r,n,acc => by
    unfold cellsFrom
    split
    · rw [cellsFrom_app r (n+1) ((name,n)::acc),cellsFrom_app r (n+1) [(name,n)],qBc];rfl
    · exact cellsFrom_app r n acc
theorem cellsFrom_mem {x:Str} {c:Addr}:∀ (names:List (Str×NameKind)) (n:Nat) (acc:List (Str×Addr)),(x,c)∈cellsFrom n names acc→(x,c)∈acc∨(x,NameKind.cell)∈names
  | [],_,_,h => .inl h
  | (name,kind)::r,n,acc,h => by
    unfold cellsFrom at h
    split at h
    · rename_i hk
      have hk':kind=.cell := by simpa using hk
      subst hk'
      rcases cellsFrom_mem r _ _ h with q|q
      · rcases qy.mp q with q|q
        · cases q;exact .inr qm
        · exact .inl q
      · exact .inr (qO _ q)
    · rcases cellsFrom_mem r _ _ h with q|q
      · exact .inl q
      · exact .inr (qO _ q)
theorem lookup_app {α:Type} {x:Str}:∀ {l r:List (Str×α)},(l++r).lookup x=(l.lookup x).or (r.lookup x)
  | [],_ => by simp
  | (k,v)::l,r => by
    rw [List.cons_append,qo,qo]
    cases x==k with
    | true => rfl
    | false => exact lookup_app
theorem lookup_relabel {env:Env} {x:Str} {k':NameKind}:∀ {names:List (Str×NameKind)},
    (names.map fun (n,k) => if (k==NameKind.free&&env.scope.kind==.function&&env.kindOf n==some .cell) then (n,NameKind.cell) else (n,k)).lookup x=some k' →
    ∃ k,names.lookup x=some k∧(k'=k∨(k=.free∧k'=.cell))
  | [],h => by simp at h
  | (n,k)::r,h => by
    rw [qv] at h
    by_cases hc:(k==NameKind.free&&env.scope.kind==.function&&env.kindOf n==some .cell)=true
    · simp only [hc,if_true] at h
      rw [qo] at h ⊢
      cases hx:x==n with
      | true =>
        rw [hx] at h
        have hk:k=.free := by simp at hc;exact hc.1.1
        exact ⟨k,rfl,.inr ⟨hk,(qP h).symm⟩⟩
      | false => rw [hx] at h;exact lookup_relabel h
    · simp only [hc,qA4,if_false] at h
      rw [qo] at h ⊢
      cases hx:x==n with
      | true => rw [hx] at h;exact ⟨k,rfl,.inl (qP h).symm⟩
      | false => rw [hx] at h;exact lookup_relabel h
theorem relabel_free {env:Env} {x:Str}:∀ {names:List (Str×NameKind)},names.lookup x=some .free →
    ((names.map fun (n,k) => if (k==NameKind.free&&env.scope.kind==.function&&env.kindOf n==some .cell) then (n,NameKind.cell) else (n,k)).lookup x=some .free ∨
     (names.map fun (n,k) => if (k==NameKind.free&&env.scope.kind==.function&&env.kindOf n==some .cell) then (n,NameKind.cell) else (n,k)).lookup x=some .cell)
  | [],h => by simp at h
  | (n,k)::r,h => by
    rw [qv]
    rw [qo] at h
    by_cases hc:(k==NameKind.free&&env.scope.kind==.function&&env.kindOf n==some .cell)=true
    · simp only [hc,if_true]
      rw [qo]
      cases hx:x==n with
      | true => exact .inr rfl
      | false => rw [hx] at h;exact relabel_free h
    · simp only [hc,qA4,if_false]
      rw [qo]
      cases hx:x==n with
      | true => rw [hx] at h;exact .inl h
      | false => rw [hx] at h;exact relabel_free h
theorem wp_compEnv {M:Model} {A:Around} {E:Value→Shared→Prop} {s:Shared} {scope:Scope} {globals:Addr} {cl:List (Str×Addr)} {qual:Str} {env:Env} {Q:Env→Shared→Prop}
    (hQ:∀ h',(∀ b o,s.heap.get? b=some o→h'.get? b=some o)→h'.Ns s.heap.objs.size (fun _ => none)→(∀ n c,(n,c)∈cellsFrom (s.heap.objs.size+1) scope.names []→h'.IsCell c none∧s.heap.objs.size+1≤c) →
      ((cellsFrom (s.heap.objs.size+1) scope.names []).Pairwise fun x y => x.2≠y.2) →
      Q {scope := scope,locals := s.heap.objs.size,globals := globals,cells := cellsFrom (s.heap.objs.size+1) scope.names []++cl,qual := qual,func := none,code := env.code,frame := env.frame,builtins := env.builtins} {s with heap := h'}) :
    wpAny M A (newFunctionEnv scope globals cl [] qual none .none (some env)) Q E s := by
  simp only [newFunctionEnv,qCH,if_true]
  refine qN (wpAny_alloc ?_)
  refine qN (wpAny_layCells _ (fun name kind cells => by cases hkc:kind==NameKind.cell<;>simp [hkc]) _ _ _ _ ?_)
  have ok := cellsFrom_ok scope.names (s.heap.push {cls := .type "dict",data := .dict #[]}) (s.heap.objs.size+1) [] ⟨fun _ _ hm => (nomatch hm),List.Pairwise.nil⟩ (by rw [qBP];exact qR _)
  rw [qBP] at ok
  rw [show ({s with heap := s.heap.push {cls := .type "dict",data := .dict #[]}}:Shared).heap.objs.size=s.heap.objs.size+1 from qBP ..]
  rw [cellsFrom_app]
  refine qN ?_
  refine qp (qp ?_)
  exact hQ _ (fun b o e => pushCells_keeps _ _ b o (qE _ e)) ((Heap.Ns.new s.heap (.type "dict")).keeps (pushCells_keeps _ _)) ok.empty ok.apart
noncomputable def cxComp (X:Cx) (scope:Scope) (N' own:List Str) (cl:List (Str×Addr)) (C:Addr) (s:Shared) (H:Hp) (fp:List Addr):Cx :=
  {X with N := N',s₀ := s,H₀ := H,env := compEnvC scope cl C X.env,outer := X.stack,stack := X.stack,ex := fp,fn := fun x => own.contains x,pn := [],xe := fun _ _ => False}
structure CompOk (X:Cx) (scope:Scope) (N' own:List Str) (fr:List Nat):Prop where
  kind:scope.kind=.function
  names:∀ y∈scope.names,scope.names.lookup y.1=some y.2
  up:∀ y∈scope.names,y.2=.free→(X.env.kindOf y.1=some .cell∨X.env.kindOf y.1=some .free)
  nm:N'=own++fr.map (fun j => X.N.getD j Str.empty)
  fr:∀ j∈fr,j<X.N.length∧scope.names.lookup (X.N.getD j Str.empty)=some .free
  own:∀ x∈own,scope.names.lookup x=some .local∨scope.names.lookup x=some .cell
noncomputable def tau (own:List Str) (fr:List Nat) (σ:St):St := own.map (fun _ => none)++fr.map (fun j => σ.getD j none)
section
variable {X:Cx} {pins:List (Addr×Obj)} {σ:St} {H:Hp} {s:Shared} {scope:Scope} {N' own:List Str} {fr:List Nat}
theorem comp_found (c:CompOk X scope N' own fr) (ok:X.Ok):∀ y∈scope.names,y.2=.free→∃ a,X.env.cells.lookup y.1=some a := fun y hy e => ok.has y.1 (c.up y hy e)
theorem inv_comp {fp:List Addr} {h':Heap} (c:CompOk X scope N' own fr) (I:Inv X pins σ H s)
    (hf:∀ b∈fp,FpOk X pins H b) (ho:∀ b∈fp,∃ o,s.heap.get? b=some o∧∀ v,o.data≠.cell v)
    (keep:∀ b o,s.heap.get? b=some o→h'.get? b=some o) (ns:h'.Ns s.heap.objs.size (fun _ => none))
    (cells:∀ n c,(n,c)∈cellsFrom (s.heap.objs.size+1) scope.names []→h'.IsCell c none∧s.heap.objs.size+1≤c)
    (apart:(cellsFrom (s.heap.objs.size+1) scope.names []).Pairwise fun x y => x.2≠y.2) :
    Inv (cxComp X scope N' own (cellsFrom (s.heap.objs.size+1) scope.names []++clos X.env.cells scope.names []) s.heap.objs.size s H fp) [] (tau own fr σ) H {s with heap := h'} := by
  have found := comp_found c I.ok
  have clm:∀ x a,(x,a)∈clos X.env.cells scope.names []→(x,NameKind.free)∈scope.names∧X.env.cells.lookup x=some a := fun x a hm => by
    rcases clos_mem found (x,a) hm with q|q
    · simp at q
    · exact q
  have look:∀ x a,(cellsFrom (s.heap.objs.size+1) scope.names []++clos X.env.cells scope.names []).lookup x=some a →
      ((x,a)∈cellsFrom (s.heap.objs.size+1) scope.names []∧(x,NameKind.cell)∈scope.names)∨((x,NameKind.free)∈scope.names∧X.env.cells.lookup x=some a) := fun x a e => by
    rw [lookup_app] at e
    cases q:(cellsFrom (s.heap.objs.size+1) scope.names []).lookup x with
    | some b =>
      rw [q] at e
      cases e
      have hm := qr q
      rcases cellsFrom_mem _ _ _ hm with z|z
      · simp at z
      · exact .inl ⟨hm,z⟩
    | none =>
      rw [q] at e
      exact .inr (clm x a (qr e))
  have lookF:∀ x a,(x,NameKind.free)∈scope.names→X.env.cells.lookup x=some a→(cellsFrom (s.heap.objs.size+1) scope.names []++clos X.env.cells scope.names []).lookup x=some a := fun x a hx e => by
    rw [lookup_app]
    have q:(cellsFrom (s.heap.objs.size+1) scope.names []).lookup x=none := by
      cases q:(cellsFrom (s.heap.objs.size+1) scope.names []).lookup x with
      | none => rfl
      | some b =>
        rcases cellsFrom_mem _ _ _ (qr q) with z|z
        · simp at z
        · have h1 := c.names _ hx
          have h2 := c.names _ z
          rw [h1] at h2
          cases h2
    rw [q]
    obtain ⟨d,hd⟩ := clos_has (cells := X.env.cells) (acc := []) hx
    obtain ⟨d',hd'⟩ := lookup_of_mem hd
    have := (clm x d' (qr hd')).2
    rw [e] at this
    cases this
    exact hd'
  have below:∀ b o,s.heap.get? b=some o→b<s.heap.objs.size := fun b o e => qS e
  have cold:∀ x a,X.env.cells.lookup x=some a→a<s.heap.objs.size := fun x a e => let ⟨v,q⟩ := I.cell x a e;q.lt
  refine ⟨⟨I.ok.mod,c.kind,I.ok.glob,I.ok.blt,qR _,?inj,?has,?cab,I.ok.hd,I.ok.frames,.inl rfl,?exf,I.bs,qAF I.ok.bsz I.sz,?noex,?exfs,I.stack,I.stkFree⟩,
    rfl,I.bare,Un.kept keep,⟨_,ns,?loc⟩,?cell,I.hok.fresh (qR _),?freeC,?pin,I.hok.kept keep,?len⟩
  case inj =>
    intro x y a h1 h2
    rcases look x a h1 with ⟨m1,k1⟩|⟨k1,e1⟩<;>rcases look y a h2 with ⟨m2,k2⟩|⟨k2,e2⟩
    · exact name_of_addr apart m1 m2
    · exact absurd (qY (cold y a e2) (qBf (cells x a m1).2)) (qAa _)
    · exact absurd (qY (cold x a e1) (qBf (cells y a m2).2)) (qAa _)
    · exact I.ok.inj x y a e1 e2
  case has =>
    intro x hx
    have hx':(∃ k,scope.names.lookup x=some k∧(k=.cell∨k=.free)) := by
      rcases hx with hx|hx
      · obtain ⟨k,e,q⟩ := lookup_relabel (env := X.env) (names := scope.names) hx
        rcases q with q|⟨q,_⟩
        · exact ⟨k,e,.inl q.symm⟩
        · exact ⟨k,e,.inr q⟩
      · obtain ⟨k,e,q⟩ := lookup_relabel (env := X.env) (names := scope.names) hx
        rcases q with q|⟨q,_⟩
        · exact ⟨k,e,.inr q.symm⟩
        · exact ⟨k,e,.inr q⟩
    obtain ⟨k,e,q⟩ := hx'
    show ∃ a,(cellsFrom (s.heap.objs.size+1) scope.names []++clos X.env.cells scope.names []).lookup x=some a
    rcases q with rfl|rfl
    · obtain ⟨a,ha⟩ := cell_has (n := s.heap.objs.size+1) e
      exact ⟨a,by rw [lookup_app,ha];rfl⟩
    · obtain ⟨a,ha⟩ := found _ (qr e) rfl
      exact ⟨a,lookF x a (qr e) ha⟩
  case cab =>
    intro x a hx e
    have hx:own.contains x=true := hx
    have hx':x∈own := by simpa using hx
    rcases look x a e with ⟨m1,_⟩|⟨k1,_⟩
    · have := (cells x a m1).2
      show s.heap.objs.size≤a
      omega
    · have h1 := c.names _ k1
      rcases c.own x hx' with h2|h2
      · rw [h1] at h2;cases h2
      · rw [h1] at h2;cases h2
  case exf =>
    intro b hb
    obtain ⟨o,e,d⟩ := ho b hb
    refine ⟨qAC (below b o e),fun x a q z => ?_⟩
    subst z
    rcases look x a q with ⟨m1,_⟩|⟨k1,e1⟩
    · exact absurd (qY (below a o e) (qBf (cells x a m1).2)) (qAa _)
    · obtain ⟨v,o',e',d'⟩ := I.cell x a e1
      rw [e] at e'
      cases e'
      exact d v d'
  case noex =>
    intro b o e hb
    rcases (hf b hb).2.2.2.1 with z|z
    · exact I.ok.noex b o e z
    · exact absurd (qY (qY (qS e) I.ok.bsz) z) (qAa _)
  case exfs =>
    intro b hb z
    rcases qy.mp (I.stkSub b z) with q|q
    · exact (hf b hb).2.1 q
    · exact (hf b hb).2.2.1 q
  case loc =>
    intro i x v h1 h2 h3
    have h1:N'[i]?=some x := h1
    rw [c.nm] at h1
    unfold tau at h2
    by_cases hi:i<own.length
    · rw [qk (by simpa using hi),qd] at h2
      cases q:own[i]? with
      | none => rw [q] at h2;cases h2
      | some z => rw [q] at h2;cases h2
    · rw [qg (by simpa using hi),qd,qD] at h2
      rw [qg (by simpa using hi),qd] at h1
      cases q:fr[i - own.length]? with
      | none => rw [q] at h2;cases h2
      | some j =>
        rw [q] at h1 h2
        have e1:X.N.getD j Str.empty=x := qP h1
        have e2:σ.getD j none=some v := qP h2
        obtain ⟨hj,hfree⟩ := c.fr j (qBM q)
        rw [e1] at hfree
        have hNj:X.N[j]?=some x := by
          rw [← e1,qh,qF hj];rfl
        have hσj:σ[j]?=some (some v) := by
          rw [qh] at e2
          cases z:σ[j]? with
          | none => rw [z] at e2;cases e2
          | some w => rw [z] at e2;rw [show w=some v from e2]
        have hmem:(x,NameKind.free)∈scope.names := qr hfree
        have hup := c.up _ hmem rfl
        obtain ⟨m,hn,hl⟩ := I.loc
        obtain ⟨u,ru,lk⟩ := hl j x v hNj hσj (by rcases hup with z|z;exact .inr (.inl z);exact .inr (.inr z))
        refine ⟨u,ru,.inr ⟨?_,?_⟩⟩
        · rcases relabel_free (env := X.env) (names := scope.names) hfree with z|z
          · exact .inr z
          · exact .inl z
        · rcases lk with ⟨k1,_⟩|⟨_,a,ha,hc⟩
          · rcases hup with z|z
            · rw [show X.env.kindOf x=some .cell from z] at k1;cases k1
            · rw [show X.env.kindOf x=some .free from z] at k1;cases k1
          · exact ⟨a,lookF x a hmem ha,hc.keeps keep⟩
  case cell =>
    intro x a e
    rcases look x a e with ⟨m1,_⟩|⟨k1,e1⟩
    · exact ⟨_,(cells x a m1).1⟩
    · obtain ⟨v,q⟩ := I.cell x a e1
      exact ⟨v,q.keeps keep⟩
  case freeC =>
    intro x a e
    rcases look x a e with ⟨m1,_⟩|⟨k1,e1⟩
    · exact I.hok.fresh (by have := (cells x a m1).2;omega)
    · exact I.freeC x a e1
  case pin => intro p hp;exact absurd (show p∈([]:List (Addr×Obj)) from hp) (by simp)
  case len =>
    show (tau own fr σ).length=N'.length
    rw [c.nm];unfold tau;simp
end
noncomputable abbrev TM := St→Hp→(St→Hp→Prop)→Prop
noncomputable def PM (X:Cx) (act:Sem Unit) (t:TM):Prop :=
  ∀ (pins:List (Addr×Obj)) (s:Shared) (σ:St) (H:Hp) (Q:St→Hp→Prop),Inv X pins σ H s→t σ H Q→wpAny (model X.prog X.w) X.A act (fun _ s' => ∃ σ' H',Inv X pins σ' H' s'∧Q σ' H') X.xe s
noncomputable def PF (X:Cx) (ifs:List Expr) (t:TT):Prop :=
  ∀ (pins:List (Addr×Obj)) (s:Shared) (σ:St) (H:Hp) (Q:Bool→Hp→Prop),Inv X pins σ H s→t σ H Q →
    wpAny (model X.prog X.w) X.A (forIn ifs true fun c r => if r=true then do let ok ← isTrue c X.env (eval c X.env);pure (ForInStep.yield ok) else pure (ForInStep.yield r)) (TP X pins σ Q) X.xe s
noncomputable def tAll:TT := fun _ H Q => Q true H
section
variable {X:Cx}
theorem pf_nil:PF X [] tAll := fun _ s σ H Q I h => wpAny_tests_nil ⟨H,I,h⟩
theorem pf_one {c:Expr} {t:TT} (h:PT X c t):PF X [c] t := fun pins s σ H Q I q => wpAny_tests_one (h pins s σ H Q I q)
noncomputable def tEmit (p:Addr) (te:TE):TM := fun σ H Q => te σ H fun v H1 => ∃ ys,H1 p=some (.lst ys)∧ys.length<qM∧Q σ (upd H1 p (.lst (ys++[v])))
theorem pm_emit {elt:Expr} {te:TE} {p:Addr} (h:PE X elt te):PM X (do let _ ← call (.builtin "list.append") [.ref p,← eval elt X.env]) (tEmit p te) := by
  intro pins s σ H Q I q
  refine qN (thn (h pins s σ H _ I q) fun u s1 ⟨v,H1,I1,r,ys,hp,hz,q1⟩ => ?_)
  refine qN (thn (mt_append pins s1 σ H1 (.ref p) [v] (.ref p) [u] (fun _ H2 => Q σ H2) I1 rfl (.cons r .nil) ⟨p,ys,v,rfl,rfl,hp,hz,q1⟩) fun _ s2 ⟨_,H2,I2,_,q2⟩ => ?_)
  exact qp ⟨σ,H2,I2,q2⟩
noncomputable def tWalk (J:It) (g:TG) (tt:TT) (tm:TM):TM := fun σ H Q => ∃ W:Nat→Nat→St→Hp→Prop,(∃ m,W 0 m σ H)∧∀ i m σ H,W i m σ H →
  (J.stop i H∧Q σ H)∨(J.go i H∧∃ N:St→Hp→Prop,(∀ σ' H',N σ' H'→∃ m',m'<m∧W (i+1) m' σ' H')∧∀ x H',J.yld i H x H'→g x σ H' fun σ2 H2 => tt σ2 H2 fun b H3 => if b=true then tm σ2 H3 N else N σ2 H3)
theorem clause_loop {elt0:Expr} {gens:List Comprehension} {scope:Scope} {cpos:Pos} {depth:Nat} {target:Expr} {ifs:List Expr} {emit:Sem Unit} {acc:Value} {ip:Pos} {it:Addr} {fp:List Addr} {tn:Nat→Heap→Prop} {J:It} {g:TG} {tt:TT} {tm:TM} {pins:List (Addr×Obj)} {σ:St} {H:Hp} {s:Shared} {Q:St→Hp→Prop}
    (hx:X.xe=fun _ _ => False) (hc:X.calm=true)
    (eq:compTurn (.ListComp elt0 gens scope cpos) depth (.ref it) acc X.env=(do
      standAt ip
      match ← pyNext (.ref it) with
      | none => pure (.done .next)
      | some v =>
        letOwnedTupleGo target (.ref it) v
        assign target X.env v
        let mut ok := true
        for c in ifs do
          if ok then ok ← isTrue c X.env (eval c X.env)
        if ok then emit
        again (.compLoop (.ListComp elt0 gens scope cpos) depth (.ref it) acc X.env)))
    (T:Turn X.prog X.w X.K target J fp it tn) (hg:PG X target g) (ht:PF X ifs tt) (hm:PM X emit tm)
    (I:Inv X pins σ H s) (st:tn 0 s.heap) (hf:∀ b∈fp,FpOk X pins H b) (h:tWalk J g tt tm σ H Q) :
    codeAny (model X.prog X.w) X.A (.compLoop (.ListComp elt0 gens scope cpos) depth (.ref it) acc X.env) (fun r s' => r=.ok .next∧∃ σ' H',Inv X pins σ' H' s'∧Q σ' H') s := by
  obtain ⟨W,⟨m0,w0⟩,turn⟩ := h
  have stat:∀ {H':Hp},(∀ b∈fp,H' b=none)→∀ b∈fp,FpOk X pins H' b := fun hn b hb => ⟨hn b hb,(hf b hb).2⟩
  have xe:∀ {α:Type} {m:Sem α} {Q':α→Shared→Prop} {E:Value→Shared→Prop} {s:Shared},wpAny (model X.prog X.w) X.A m Q' X.xe s→wpAny (model X.prog X.w) X.A m Q' E s := fun q => qAk q (fun _ _ z => z) fun _ _ z => by rw [hx] at z;exact z.elim
  refine codeAny_loop rfl (fun n s' => ∃ i σ' H',Inv X pins σ' H' s'∧tn i s'.heap∧(∀ b∈fp,H' b=none)∧W i n σ' H') ?_ m0 ⟨0,σ,H,I,st,fun b hb => (hf b hb).1,w0⟩
  rintro n s3 ⟨i,σ3,H3,I3,st3,fr3,w3⟩
  show wpAny _ X.A ((compTurn (.ListComp elt0 gens scope cpos) depth (.ref it) acc X.env).onRaise (fun x => do noteFrame x X.env;theTreesLotGoes x)) _ _ s3
  refine wpAny_noted ?_
  rw [eq]
  refine qN (qBL (qN ?_))
  rcases turn i n σ3 H3 w3 with ⟨stop,qn⟩|⟨go,N,hN,step⟩
  · refine thn (T.done X rfl rfl rfl hc i pins s3 σ3 H3 _ I3 (stat fr3) st3 stop) fun r s4 ⟨hr,I4⟩ => ?_
    subst hr
    exact qp ⟨rfl,σ3,H3,I4,qn⟩
  · refine thn (T.item X rfl rfl rfl hc i pins s3 σ3 H3 _ I3 (stat fr3) st3 go) fun r s4 ⟨u,hr,h4⟩ => ?_
    subst hr
    refine qN (thn h4 fun _ s5 ⟨x,H5,I5,r5,y5,st5,fr5⟩ => ?_)
    have I5' := I5.pinned (stat fr5) (T.obj _ _ st5)
    refine qN (xe (thn (hg _ s5 σ3 H5 x u _ I5' r5 (step x H5 y5)) fun _ s6 ⟨σ6,H6,I6,q6⟩ => ?_))
    have again:∀ {σ7:St} {H7:Hp} {s7:Shared},Inv X (pins++pinsAt fp s5.heap) σ7 H7 s7→N σ7 H7→∃ m,m<n∧∃ i σ' H',Inv X pins σ' H' s7∧tn i s7.heap∧(∀ b∈fp,H' b=none)∧W i m σ' H' := fun {σ7 H7 s7} I7 n7 => by
      obtain ⟨m',hm,w7⟩ := hN σ7 H7 n7
      refine ⟨m',hm,i+1,σ7,H7,I7.unpinned,T.keep _ _ _ st5 fun b hb o e => (I7.pin (b,o) (qX _ (qX _ (mem_pinsAt hb e)))).1,fun b hb => ?_,w7⟩
      obtain ⟨o,e,d⟩ := T.obj _ _ st5 b hb
      exact (I7.pin (b,o) (qX _ (qX _ (mem_pinsAt hb e)))).2.1
    refine qN (xe (thn (ht _ s6 σ6 H6 _ I6 q6) fun ok s7 ⟨H7,I7,q7⟩ => ?_))
    cases ok with
    | false =>
      rw [if_neg (by decide)] at q7
      exact qp ⟨rfl,again I7 q7⟩
    | true =>
      rw [if_pos rfl] at q7
      refine qN (xe (thn (hm _ s7 σ6 H7 _ I7 q7) fun _ s8 ⟨σ8,H8,I8,q8⟩ => ?_))
      exact qp ⟨rfl,again I8 q8⟩
end
section
variable {X:Cx} {pins:List (Addr×Obj)} {σ:St} {H:Hp} {s:Shared} {scope:Scope} {N' own:List Str} {fr:List Nat}
theorem comp_block {elt0 target iter:Expr} {ifs:List Expr} {rest:List Comprehension} {cpos:Pos} {g:TG} {tt:TT} {tm:Addr→TM} {emit:Value→Env→Sem Unit} {it:Addr} {fp:List Addr} {tn:Nat→Heap→Prop} {J:It} {Q:VK} {E:Value→Shared→Prop} {RR:Value→Addr→Result→Shared→Prop}
    (c:CompOk X scope N' own fr) (hc:X.calm=true)
    (eq:∀ it acc env,compTurn (.ListComp elt0 (⟨target,iter,ifs,0⟩::rest) scope cpos) 0 it acc env=(do
      standAt iter.pos
      match ← pyNext it with
      | none => pure (.done .next)
      | some v =>
        letOwnedTupleGo target it v
        assign target env v
        let mut ok := true
        for c in ifs do
          if ok then ok ← isTrue c env (eval c env)
        if ok then emit acc env
        again (.compLoop (.ListComp elt0 (⟨target,iter,ifs,0⟩::rest) scope cpos) 0 it acc env)))
    (T:Turn X.prog X.w X.K target J fp it tn)
    (hb:∀ (cl:List (Str×Addr)) (C:Addr) (s:Shared) (H:Hp) (fp:List Addr) (p:Addr),PG (cxComp X scope N' own cl C s H fp) target g∧PF (cxComp X scope N' own cl C s H fp) ifs tt∧PM (cxComp X scope N' own cl C s H fp) (emit (.ref p) (compEnvC scope cl C X.env)) (tm p))
    (I:Inv X pins σ H s) (st:tn 0 s.heap) (hf:∀ b∈fp,FpOk X pins H b)
    (h:∀ p,H p=none→tWalk J g tt (tm p) (tau own fr σ) (upd H p (.lst [])) (fun _ H' => Q (.ref p) H'))
    (hRR:∀ (p C:Addr) (m:Str→Option Value) (H':Hp) (s':Shared),Inv X pins σ H' s'→s'.heap.Ns C m→FpOk X pins H' C→Q (.ref p) H'→RR (.ref p) C (.ok .next) s') :
    wpAny (model X.prog X.w) X.A (newList []) (fun acc s₃ => wpAny (model X.prog X.w) X.A (newFunctionEnv scope X.env.globals (clos X.env.cells scope.names []) [] X.env.qual none .none (some X.env)) (fun cenv s₄ =>
      codeAny (model X.prog X.w) X.A (.compStart (.ListComp elt0 (⟨target,iter,ifs,0⟩::rest) scope cpos) 0 (.ref it) acc {cenv with scope := relabel scope X.env}) (RR acc cenv.locals) s₄) E s₃) E s := by
  refine wpAny_newObj_type ?_
  have I3:Inv X pins σ (upd H s.heap.objs.size (.lst [])) {s with heap := s.heap.push {cls := .type "list",dict := none,data := .seq ([]:List Value).toArray}} := I.lnew (t' := s.toks) .nil (qAZ _)
  have hn0:H s.heap.objs.size=none := I.hok.fresh (qR _)
  generalize e3:({s with heap := s.heap.push {cls := .type "list",dict := none,data := .seq ([]:List Value).toArray}}:Shared)=s3 at I3 ⊢
  have k3:∀ b o,s.heap.get? b=some o→s3.heap.get? b=some o := fun b o e => by rw [← e3];exact qE _ e
  have hne:∀ b∈fp,b≠s.heap.objs.size := fun b hb => by
    obtain ⟨o,e,_⟩ := T.obj _ _ st b hb
    exact qAC (qS e)
  have hf3:∀ b∈fp,FpOk X pins (upd H s.heap.objs.size (.lst [])) b := fun b hb => ⟨by rw [upd_ne (hne b hb)];exact (hf b hb).1,(hf b hb).2⟩
  have st3:tn 0 s3.heap := T.keep _ _ _ st fun b _ o e => k3 b o e
  refine wp_compEnv fun h' keep ns cells apart => ?_
  have I4 := inv_comp c I3 hf3 (T.obj _ _ st3) keep ns cells apart
  have st4:tn 0 h' := T.keep _ _ _ st3 fun b _ o e => keep b o e
  obtain ⟨hg,ht,hm⟩ := hb (cellsFrom (s3.heap.objs.size+1) scope.names []++clos X.env.cells scope.names []) s3.heap.objs.size s3 (upd H s.heap.objs.size (.lst [])) fp s.heap.objs.size
  have hf4:∀ b∈fp,FpOk (cxComp X scope N' own (cellsFrom (s3.heap.objs.size+1) scope.names []++clos X.env.cells scope.names []) s3.heap.objs.size s3 (upd H s.heap.objs.size (.lst [])) fp) [] (upd H s.heap.objs.size (.lst [])) b := fun b hb =>
    ⟨(hf3 b hb).1,(I4.ok.exf b hb).1,I4.ok.exfs b hb,.inl hb,(I4.ok.exf b hb).2,fun p hp => absurd (show p∈([]:List (Addr×Obj)) from hp) (by simp)⟩
  have loop:codeAny (model X.prog X.w) X.A (.compLoop (.ListComp elt0 (⟨target,iter,ifs,0⟩::rest) scope cpos) 0 (.ref it) (.ref s.heap.objs.size) (compEnvC scope (cellsFrom (s3.heap.objs.size+1) scope.names []++clos X.env.cells scope.names []) s3.heap.objs.size X.env)) (RR (.ref s.heap.objs.size) s3.heap.objs.size) {s3 with heap := h'} := by
    refine qBB (clause_loop (X := cxComp X scope N' own (cellsFrom (s3.heap.objs.size+1) scope.names []++clos X.env.cells scope.names []) s3.heap.objs.size s3 (upd H s.heap.objs.size (.lst [])) fp) (pins := []) rfl hc (eq _ _ _) T hg ht hm I4 st4 hf4 (h _ hn0)) fun r s5 hr => ?_
    obtain ⟨rfl,σ5,H5,I5,q5⟩ := hr
    obtain ⟨m,hn,_⟩ := id I5.loc
    have u5:Un (frs X.stack) fp (upd H s.heap.objs.size (.lst [])) H5 s3.heap s5.heap := I5.base
    have hok5:HOk X.prog X.w H5 s5.heap := I5.hok
    have os5:s5.os=s3.os := I5.os
    have bare5 := I5.bare
    have free5:H5 s3.heap.objs.size=none := I5.free
    have hn:s5.heap.Ns s3.heap.objs.size m := hn
    clear I5
    obtain ⟨hh,gg,dd,tk,os'⟩ := s5
    obtain rfl:os'=s3.os := os5
    have I6:Inv X pins σ H5 {s3 with heap := hh,gens := gg,drawn := dd,toks := tk} := I3.call (ch := fp) u5 hok5 bare5 fun b hb => ⟨(hf3 b hb).2.2.2.1,(hf3 b hb).2.1,(hf3 b hb).2.2.2.2.1,(hf3 b hb).2.2.2.2.2⟩
    exact hRR _ _ m H5 _ I6 hn (I3.fpOk (qR _) free5) q5
  exact codeAny_compStart_list loop (T.self _ 0 _ _ _ st4 loop)
noncomputable def tComp (wi:TI) (g:TG) (tt:TT) (tm:Addr→TM) (own:List Str) (fr:List Nat):TE := fun σ H Q => wi σ H fun J H1 => ∀ p,H1 p=none→tWalk J g tt (tm p) (tau own fr σ) (upd H1 p (.lst [])) (fun _ H' => Q (.ref p) H')
theorem pe_comp0 {elt0 target iter:Expr} {ifs:List Expr} {rest:List Comprehension} {cpos:Pos} {wi:TI} {g:TG} {tt:TT} {tm:Addr→TM} {emit:Value→Env→Sem Unit} (c:CompOk X scope N' own fr) (hc:X.calm=true)
    (eq:∀ it acc env,compTurn (.ListComp elt0 (⟨target,iter,ifs,0⟩::rest) scope cpos) 0 it acc env=(do
      standAt iter.pos
      match ← pyNext it with
      | none => pure (.done .next)
      | some v =>
        letOwnedTupleGo target it v
        assign target env v
        let mut ok := true
        for c in ifs do
          if ok then ok ← isTrue c env (eval c env)
        if ok then emit acc env
        again (.compLoop (.ListComp elt0 (⟨target,iter,ifs,0⟩::rest) scope cpos) 0 it acc env)))
    (hi:PI X target iter wi)
    (hb:∀ (cl:List (Str×Addr)) (C:Addr) (s:Shared) (H:Hp) (fp:List Addr) (p:Addr),PG (cxComp X scope N' own cl C s H fp) target g∧PF (cxComp X scope N' own cl C s H fp) ifs tt∧PM (cxComp X scope N' own cl C s H fp) (emit (.ref p) (compEnvC scope cl C X.env)) (tm p))
    (hs:∀ x,foldedSetIterable iter X.env x=pure x := by intro _;rfl) :
    PE X (.ListComp elt0 (⟨target,iter,ifs,0⟩::rest) scope cpos) (tComp wi g tt tm own fr) := by
  intro pins s σ H Q I h
  rw [eval_ListComp]
  refine qCN (use := none) rfl hs (closureFor_eq (comp_found c I.ok)) c.kind (fun y hy e => (c.names y hy).trans (by rw [e])) ?_
  refine thn (hi pins s σ H _ I h) fun v s1 h1 => thn h1 fun itv s2 h2 => ?_
  obtain ⟨it,fp,tn,J,H2,e,I2,T,st2,f2,q⟩ := h2
  subst e
  refine comp_block (Q := Q) c hc eq T hb I2 st2 f2 q fun p C m H' s' I' hn hC q' => ?_
  exact ⟨m,hn,fun h' sb => ⟨.ref p,H',I'.turned (t' := s'.toks) (fun b o hb e => (sb.2 b hb).trans e) hC.1 hC.2.1 hC.2.2.2.1 hC.2.2.2.2.1 hC.2.2.2.2.2,rfl,q'⟩⟩
noncomputable def tAsgC (wi:TI) (g:TG) (tt:TT) (tm:Addr→TM) (own:List Str) (fr:List Nat) (i:Nat):TS := fun D σ H => tComp wi g tt tm own fr σ H fun v H' => D.nx (σ.set i (some v)) H'
theorem ps_comp0 {elt0 target iter:Expr} {ifs:List Expr} {rest:List Comprehension} {cpos spos py:Pos} {wi:TI} {g:TG} {tt:TT} {tm:Addr→TM} {emit:Value→Env→Sem Unit} {i:Nat} {y:Str} (c:CompOk X scope N' own fr) (hc:X.calm=true)
    (eq:∀ it acc env,compTurn (.ListComp elt0 (⟨target,iter,ifs,0⟩::rest) scope cpos) 0 it acc env=(do
      standAt iter.pos
      match ← pyNext it with
      | none => pure (.done .next)
      | some v =>
        letOwnedTupleGo target it v
        assign target env v
        let mut ok := true
        for c in ifs do
          if ok then ok ← isTrue c env (eval c env)
        if ok then emit acc env
        again (.compLoop (.ListComp elt0 (⟨target,iter,ifs,0⟩::rest) scope cpos) 0 it acc env)))
    (hi:PI X target iter wi)
    (hb:∀ (cl:List (Str×Addr)) (C:Addr) (s:Shared) (H:Hp) (fp:List Addr) (p:Addr),PG (cxComp X scope N' own cl C s H fp) target g∧PF (cxComp X scope N' own cl C s H fp) ifs tt∧PM (cxComp X scope N' own cl C s H fp) (emit (.ref p) (compEnvC scope cl C X.env)) (tm p))
    (hsw:swapsWith (.ListComp elt0 (⟨target,iter,ifs,0⟩::rest) scope cpos) (some (.Name y py)) spos.line X.env=pure true)
    (hN:X.N.Nodup) (hy:X.N[i]?=some y) (hl:X.env.scope.names.lookup y=some .local)
    (hs:∀ x,foldedSetIterable iter X.env x=pure x := by intro _;rfl) :
    PS X (.Assign [.Name y py] (.ListComp elt0 (⟨target,iter,ifs,0⟩::rest) scope cpos) spos) (tAsgC wi g tt tm own fr i) := by
  intro pins s σ H D I h
  rw [exec_Assign_Name_used _ _ _ _ hsw]
  refine qN (qBL (qN ?_))
  show wpAny _ X.A (do let _ ← comprehension (.ListComp elt0 (⟨target,iter,ifs,0⟩::rest) scope cpos) scope X.env _ (newList []) false (eval iter X.env) (some (assign (.Name y py) X.env))) _ _ s
  refine qN (thn (qCN (use := some (assign (.Name y py) X.env)) (Q := fun _ s' => SP X pins D .next s') rfl hs (closureFor_eq (comp_found c I.ok)) c.kind (fun y hy e => (c.names y hy).trans (by rw [e])) ?_) fun _ s' q => qp (qp q))
  refine thn (hi pins s σ H _ I h) fun v s1 h1 => thn h1 fun itv s2 h2 => ?_
  obtain ⟨it,fp,tn,J,H2,e,I2,T,st2,f2,q⟩ := h2
  subst e
  refine comp_block (Q := fun v H' => D.nx (σ.set i (some v)) H') c hc eq T hb I2 st2 f2 q fun p C m H' s' I' hn hC q' => ?_
  show wpAny _ X.A (assign (.Name y py) X.env (.ref p)) _ _ _
  refine wpAny_assign_Name (store_ok2 I' hN hy (.inl hl) (v := .ref p) rfl (fun s'' I'' ⟨a,sb,ha⟩ => ?_) (.inr hl))
  have hCa:C≠a := by
    rcases ha with rfl|ha
    · exact hC.2.1
    · exact qAo (hC.2.2.2.2.1 y a ha)
  refine ⟨m,hn.sameBut sb hCa,fun h' sb' => ⟨σ.set i (some (.ref p)),H',I''.turned (t' := s''.toks) (fun b o hb e => (sb'.2 b hb).trans e) hC.1 hC.2.1 hC.2.2.2.1 hC.2.2.2.2.1 hC.2.2.2.2.2,q'⟩⟩
end
section
variable {X:Cx}
section
variable {scope:Scope} {N' own:List Str} {fr:List Nat} {elt target iter:Expr} {ifs:List Expr} {cpos:Pos} {wi:TI} {g:TG} {tt:TT} {te:TE}
noncomputable def tComp1 (wi:TI) (g:TG) (tt:TT) (te:TE) (own:List Str) (fr:List Nat):TE := tComp wi g tt (fun p => tEmit p te) own fr
theorem pe_comp1 (c:CompOk X scope N' own fr) (hc:X.calm=true) (hi:PI X target iter wi)
    (hb:∀ (cl:List (Str×Addr)) (C:Addr) (s:Shared) (H:Hp) (fp:List Addr),PG (cxComp X scope N' own cl C s H fp) target g∧PF (cxComp X scope N' own cl C s H fp) ifs tt∧PE (cxComp X scope N' own cl C s H fp) elt te)
    (hs:∀ x,foldedSetIterable iter X.env x=pure x := by intro _;rfl):PE X (.ListComp elt [⟨target,iter,ifs,0⟩] scope cpos) (tComp1 wi g tt te own fr) :=
  pe_comp0 (emit := fun acc env => do let _ ← call (.builtin "list.append") [acc,← eval elt env]) c hc (fun _ _ _ => rfl) hi
    (fun cl C s H fp p => ⟨(hb cl C s H fp).1,(hb cl C s H fp).2.1,pm_emit (hb cl C s H fp).2.2⟩) hs
noncomputable def tAsgC1 (wi:TI) (g:TG) (tt:TT) (te:TE) (own:List Str) (fr:List Nat) (i:Nat):TS := tAsgC wi g tt (fun p => tEmit p te) own fr i
theorem ps_comp1 {spos py:Pos} {i:Nat} {y:Str} (c:CompOk X scope N' own fr) (hc:X.calm=true) (hi:PI X target iter wi)
    (hb:∀ (cl:List (Str×Addr)) (C:Addr) (s:Shared) (H:Hp) (fp:List Addr),PG (cxComp X scope N' own cl C s H fp) target g∧PF (cxComp X scope N' own cl C s H fp) ifs tt∧PE (cxComp X scope N' own cl C s H fp) elt te)
    (hsw:swapsWith (.ListComp elt [⟨target,iter,ifs,0⟩] scope cpos) (some (.Name y py)) spos.line X.env=pure true)
    (hN:X.N.Nodup) (hy:X.N[i]?=some y) (hl:X.env.scope.names.lookup y=some .local)
    (hs:∀ x,foldedSetIterable iter X.env x=pure x := by intro _;rfl):PS X (.Assign [.Name y py] (.ListComp elt [⟨target,iter,ifs,0⟩] scope cpos) spos) (tAsgC1 wi g tt te own fr i) :=
  ps_comp0 (emit := fun acc env => do let _ ← call (.builtin "list.append") [acc,← eval elt env]) c hc (fun _ _ _ => rfl) hi
    (fun cl C s H fp p => ⟨(hb cl C s H fp).1,(hb cl C s H fp).2.1,pm_emit (hb cl C s H fp).2.2⟩) hsw hN hy hl hs
end
noncomputable def rMulS:R2 := fun x y H Q => ∃ z n,x=.str z∧y=.int n∧z.length≤1000∧-1000≤n∧n≤1000∧Q (.str (Txt.mul z n)) H
theorem op_mulS:OpR X (binaryOp .Mult) rMulS := by
  intro pins s σ H x y v u Q I rx ry h
  obtain ⟨z,n,rfl,rfl,h1,h2,h3,q⟩ := h
  obtain ⟨t,rfl⟩ := rx
  obtain ⟨t',rfl⟩ := ry
  exact SB.mul (mulOk_of 1000 1000 h1 (by omega) (by omega) (by decide) (by decide)) fun t' k => ⟨.str (Txt.mul z n),H,I.tok _,⟨_,rfl⟩,q⟩
noncomputable def rSlS:V→Option Int→Option Int→Hp→VK→Prop := fun x lo hi H Q => ∃ z,x=.str z∧z.length≤qM∧Q (.str (Txt.slice z lo hi)) H
theorem sl_str:SlR X rSlS := by
  intro pins s σ H x v vl vu lo hi sl Q I rx hs pl pu h
  obtain ⟨z,rfl,hz,q⟩ := h
  obtain ⟨t,rfl⟩ := rx
  refine ⟨"str",_,F.slot_str_getitem.lookup,typeIs_str _ _ _,?_⟩
  have fin:∀ t' k,EP X pins σ Q (.str (Txt.slice z lo hi) t') {s with toks := k} := fun t' k => ⟨.str (Txt.slice z lo hi),H,I.tok _,⟨_,rfl⟩,q⟩
  have fz:(Txt.slice z lo hi).length≤qM := qAF (Txt.slice_le z _ _) hz
  cases pl with
  | none => cases pu with
    | none => exact qAu (l := none) (u := none) (st := none) hs rfl (qBT ⟨fz,fin⟩)
    | int j tj => exact qAu (l := none) (u := some (j,tj)) (st := none) hs rfl (qBT ⟨fz,fin⟩)
  | int i ti => cases pu with
    | none => exact qAu (l := some (i,ti)) (u := none) (st := none) hs rfl (qBT ⟨fz,fin⟩)
    | int j tj => exact qAu (l := some (i,ti)) (u := some (j,tj)) (st := none) hs rfl (qBT ⟨fz,fin⟩)
noncomputable def rUpdate:V→List V→Hp→VK→Prop := fun x vs H Q => ∃ d o kvs more,x=.ref d∧vs=[.ref o]∧d≠o∧H d=some (.dK kvs)∧H o=some (.dK more)∧kvs.length+more.length≤qM∧Q .non (upd H d (.dK (mergeK kvs more)))
theorem mt_update:MtM X "dict.update" rUpdate := by
  intro pins s σ H x vs v us Q I rx rv h
  obtain ⟨d,o,kvs,more,rfl,rfl,hne,hd,ho,hz,q⟩ := h
  cases rx
  obtain ⟨u,rfl,ru⟩ := rv.one
  cases ru
  obtain ⟨z1,s1,vs1,rel1,dd1⟩ := dk_of I.hok hd
  obtain ⟨z2,s2,vs2,rel2,dd2⟩ := dk_of I.hok ho
  refine call_meetsIn F.slot_dict_update dd1.typeIs F.entry_dict_update (F.args_dict_update_2 _ _) (meets_dict_update (mixKind X.prog X.w) d o hne s2) ⟨vs1,vs2,dd1,dd2,?_,fun h' h1 h2 sb => ?_⟩
  · rw [← rel1.length,← rel2.length];exact hz
  · have he:∃ q,h'.get? d=some q := by obtain ⟨ob,_,_,e,_⟩ := h1;exact ⟨ob,e⟩
    refine ⟨.non,_,d_write (t' := s.toks) I (by rw [hd];trivial) sb he (dk_new (qAF (length_mergeK more kvs) hz) s1 (rel2.merge rel1) h1),rfl,q⟩
theorem call_isi {id:String} (hid:id = "isinstance"):CallR X (.builtin id) (fun xs H Q => ∃ x n t b,xs=[x,.ty n]∧TyOf X.K H x t∧PySem.W.kitOne X.K t (.type n)=some b∧Q (.bl b) H) := by
  subst hid
  intro pins s σ H xs us Q I r h
  obtain ⟨x,n,t,b,rfl,ty,e,q⟩ := h
  obtain ⟨u,w',rfl,rx,ry⟩ := vals2 r
  cases ry
  exact isinst_ok I rx ty e fun tk => ⟨.bl b,H,I.tok _,rfl,q⟩
end
section
variable {X:Cx}
end
mutual
def Rep (K:qB) (H:Hp):PyData→V→Prop
  | .none,v => v=.non
  | .bool b,v => v=.bl b
  | .int i,v => v=.int i
  | .str x,v => v=.str x
  | .list ds,v => ∃ a xs,v=.ref a∧SqL K H a xs∧Reps K H ds xs
  | .tuple ds,v => ∃ a xs,v=.ref a∧SqT K H a xs∧Reps K H ds xs
  | .dict _,_ => False
def Reps (K:qB) (H:Hp):List PyData→List V→Prop
  | [],xs => xs=[]
  | d::ds,xs => ∃ v vs,xs=v::vs∧Rep K H d v∧Reps K H ds vs
end
mutual
theorem rep_reads {X:Cx} {pins:List (Addr×Obj)} {σ:St} {H:Hp} {s:Shared} (I:Inv X pins σ H s):∀ (d:PyData) {v:V} {u:Value},Rep X.K H d v→RelV v u→∃ as,Reads s.heap u d as
  | .none,v,u,h,r => by unfold Rep at h;subst h;cases r;exact ⟨_,.none⟩
  | .bool b,v,u,h,r => by unfold Rep at h;subst h;cases r;exact ⟨_,.bool b⟩
  | .int i,v,u,h,r => by unfold Rep at h;subst h;obtain ⟨t,rfl⟩ := r;exact ⟨_,.int i t⟩
  | .str x,v,u,h,r => by unfold Rep at h;subst h;obtain ⟨t,rfl⟩ := r;exact ⟨_,.str x t⟩
  | .list ds,v,u,h,r => by
    unfold Rep at h
    obtain ⟨a,xs,rfl,hq,hr⟩ := h
    cases r
    obtain ⟨its,rv,p,hz⟩ := I.list hq
    obtain ⟨as,q⟩ := reps_reads I ds hr rv
    obtain ⟨o,h1,h2,n,h3⟩ := p.isList
    exact ⟨_,reads_list_at h1 h2 h3 (by simpa using q)⟩
  | .tuple ds,v,u,h,r => by
    unfold Rep at h
    obtain ⟨a,xs,rfl,hq,hr⟩ := h
    cases r
    obtain ⟨its,rv,p,hz⟩ := I.tuple hq
    obtain ⟨as,q⟩ := reps_reads I ds hr rv
    obtain ⟨o,h1,h2,n,h3⟩ := p
    exact ⟨_,reads_tuple_at h1 h2 h3 (by simpa using q)⟩
  | .dict _,_,_,h,_ => by unfold Rep at h;exact h.elim
theorem reps_reads {X:Cx} {pins:List (Addr×Obj)} {σ:St} {H:Hp} {s:Shared} (I:Inv X pins σ H s):∀ (ds:List PyData) {vs:List V} {us:List Value},Reps X.K H ds vs→Vals vs us→∃ as,ReadsAll s.heap us ds as
  | [],vs,us,h,r => by unfold Reps at h;subst h;cases r;exact ⟨_,.nil⟩
  | d::ds,vs,us,h,r => by
    unfold Reps at h
    obtain ⟨v,vs',rfl,h1,h2⟩ := h
    cases r with
    | cons r rr =>
      obtain ⟨as,q1⟩ := rep_reads I d h1 r
      obtain ⟨bs,q2⟩ := reps_reads I ds h2 rr
      exact ⟨_,.cons q1 q2⟩
end
theorem SqT.same {K:qB} {H H':Hp} {a:Addr} {xs:List V} (h:Same H H') (q:SqT K H a xs):SqT K H' a xs := by
  rcases q with (q|⟨o,q⟩)|q
  · exact .inl (.inl (h _ _ q))
  · exact .inl (.inr ⟨o,h _ _ q⟩)
  · exact .inr q
section
variable {X:Cx}
noncomputable def rEqD (K:qB) (neg:Bool):R2 := fun x y H Q => ∃ d e,Rep K H d x∧Rep K H e y∧qAX d=true∧qAX e=true∧Q (.bl (if neg then !PyData.eqv d e else qAV d e)) H
theorem op_eqD (hu:X.A.units+64<cLine):OpR X (compareOp .Eq) (rEqD X.K false) := by
  intro pins s σ H x y v u Q I rx ry h
  obtain ⟨d,e,hd,he,sd,se,q⟩ := h
  obtain ⟨as,r1⟩ := rep_reads I d hd rx
  obtain ⟨bs,r2⟩ := rep_reads I e he ry
  exact eq_dataH r1 r2 sd se hu ⟨.bl (qAV d e),H,I,rfl,q⟩
theorem op_neD (hu:X.A.units+64<cLine):OpR X (compareOp .NotEq) (rEqD X.K true) := by
  intro pins s σ H x y v u Q I rx ry h
  obtain ⟨d,e,hd,he,sd,se,q⟩ := h
  obtain ⟨as,r1⟩ := rep_reads I d hd rx
  obtain ⟨bs,r2⟩ := rep_reads I e he ry
  exact ne_dataH r1 r2 sd se hu ⟨.bl (!PyData.eqv d e),H,I,rfl,q⟩
theorem vals_bl {bs:List Bool}:∀ {its:List Value},Vals (bs.map V.bl) its→its=bs.map Value.bool := by
  induction bs with
  | nil => intro its r;cases r;rfl
  | cons b bs ih =>
    intro its r
    cases r with
    | cons r rr => cases r;rw [ih rr];rfl
theorem range_all (bs:List Bool):(List.range bs.length).all (fun i => bs.getD i false)=bs.all id := by
  rw [qAW,qAI,qAI]
  constructor
  · intro h b hb
    obtain ⟨i,hi,e⟩ := qCR hb
    have q := h i (qA7.mpr hi)
    rw [qh,qF hi,e] at q
    exact q
  · intro h i hi
    have hi := qA7.mp hi
    have q := h _ (qBj hi)
    rw [qh,qF hi]
    exact q
noncomputable def rAny (K:qB) (f:List Bool→Bool):List V→Hp→VK→Prop := fun xs H Q => ∃ p bs,xs=[.ref p]∧SqL K H p (bs.map V.bl)∧Q (.bl (f bs)) H
theorem call_all (hc:X.calm=true):CallR X (.builtin "all") (rAny X.K fun bs => bs.all id) := by
  intro pins s σ H xs us Q I r h
  obtain ⟨p,bs,rfl,hq,q⟩ := h
  obtain ⟨u,rfl,ru⟩ := vals1 r
  cases ru
  obtain ⟨its,rv,pl,hz⟩ := I.list hq
  cases vals_bl rv
  have hne:p≠s.heap.objs.size := by obtain ⟨o,e,_⟩ := pl.isList;exact qAC (qS e)
  refine call_all_walk (wpAny_pyIter_list pl.isList ⟨s.heap.objs.size,_,_,_,_,_,fun i => bs.getD i false,rfl,Walks.list (A := X.A.in1) (show X.A.in1.handled=none from I.ok.hd hc) _ p hne (bs.map Value.bool).toArray,⟨⟨_,qAB _ rfl,rfl,rfl⟩,?_⟩,?_,?_⟩)
  · obtain ⟨o,e,z⟩ := pl.isList
    exact ⟨o,qE _ e,z⟩
  · intro i v s' Q' E' hv hQ
    have hv:(bs.map Value.bool)[i]?=some v := by simpa using hv
    rw [qd] at hv
    cases e:bs[i]? with
    | none => rw [e] at hv;cases hv
    | some b =>
      rw [e] at hv
      cases hv
      have z:bs.getD i false=b := by rw [qh,e];rfl
      have hQ:Q' (bs.getD i false) s' := hQ
      rw [z] at hQ
      exact qBI hQ
  · intro h' tk hk
    refine ⟨.bl (bs.all id),H,?_,by rw [← range_all bs];simp;rfl,q⟩
    exact I.kept (t' := tk) fun b o e => hk b o (by have := qS e;simp;exact qAC this) (qE _ e)
end
noncomputable def kindOk (o:Option NameKind):Bool := o==some .cell||o==some .free
noncomputable def compChk (sc:Scope) (N:List Str) (scope:Scope) (N' own:List Str) (fr:List Nat):Bool :=
  (scope.kind==.function)&&(scope.names.all fun y => scope.names.lookup y.1==some y.2)&&(scope.names.all fun y => !(y.2==.free)||kindOk (sc.names.lookup y.1)) &&
  (N'==own++fr.map fun j => N.getD j Str.empty)&&(fr.all fun j => decide (j<N.length)&&(scope.names.lookup (N.getD j Str.empty)==some .free)) &&
  (own.all fun x => scope.names.lookup x==some .local||scope.names.lookup x==some .cell)
section
variable {X:Cx}
theorem compOk_of {scope:Scope} {N' own:List Str} {fr:List Nat} (h:compChk X.env.scope X.N scope N' own fr=true):CompOk X scope N' own fr := by
  unfold compChk at h
  simp only [qq] at h
  obtain ⟨⟨⟨⟨⟨h1,h2⟩,h3⟩,h4⟩,h5⟩,h6⟩ := h
  refine ⟨eq_of_beq h1,fun y hy => eq_of_beq (qAI.mp h2 y hy),fun y hy e => ?_,eq_of_beq h4,fun j hj => ?_,fun x hx => ?_⟩
  · have q := qAI.mp h3 y hy
    rw [e] at q
    have q:kindOk (X.env.scope.names.lookup y.1)=true := by simpa using q
    unfold kindOk at q
    rcases qCV.mp q with z|z
    · exact .inl (eq_of_beq z)
    · exact .inr (eq_of_beq z)
  · have q := qAI.mp h5 j hj
    rw [qq] at q
    exact ⟨of_decide_eq_true q.1,eq_of_beq q.2⟩
  · have q := qAI.mp h6 x hx
    rcases qCV.mp q with z|z
    · exact .inl (eq_of_beq z)
    · exact .inr (eq_of_beq z)
noncomputable def rAddU (K:qB):R2 := fun x y H Q => match x,y with
  | .int i,.int j => Q (.int (i+j)) H
  | .str a,.str b => a.length+b.length≤qM∧Q (.str (a++b)) H
  | .ref _,.ref _ => rCat x y H Q∨rCatT K x y H Q
  | _,_ => False
theorem op_addU:OpR X (binaryOp .Add) (rAddU X.K) := by
  intro pins s σ H x y v u Q I rx ry h
  cases x<;>cases y<;>first
    | exact h.elim
    | exact op_add pins s σ H _ _ v u Q I rx ry ⟨_,_,rfl,rfl,h⟩
    | exact op_add_str pins s σ H _ _ v u Q I rx ry ⟨_,_,rfl,rfl,h.1,h.2⟩
    | exact (op_cat.or op_catT) pins s σ H _ _ v u Q I rx ry h
noncomputable def rMulU:R2 := fun x y H Q => match x,y with
  | .int i,.int j => CMul i j∧Q (.int (i * j)) H
  | .str z,.int n => z.length≤1000∧-1000≤n∧n≤1000∧Q (.str (Txt.mul z n)) H
  | _,_ => False
theorem op_mulU:OpR X (binaryOp .Mult) rMulU := by
  intro pins s σ H x y v u Q I rx ry h
  cases x<;>cases y<;>first
    | exact h.elim
    | exact op_mul pins s σ H _ _ v u Q I rx ry ⟨_,_,rfl,rfl,h.1,h.2⟩
    | exact op_mulS pins s σ H _ _ v u Q I rx ry ⟨_,_,rfl,rfl,h.1,h.2.1,h.2.2.1,h.2.2.2⟩
noncomputable def rIxU (K:qB):R2 := fun x y H Q => match x,y with
  | .str z,.int i => z.length≤qM∧∃ c,atI z.cps.toList i=some c∧Q (.str ⟨#[c]⟩) H
  | .ref p,.int i => ∃ xs v,(SqL K H p xs∨SqT K H p xs)∧atI xs i=some v∧Q v H
  | _,_ => False
theorem ix_U:IxR X (rIxU X.K) := by
  intro value slice pins s σ H x y v u Q I rx ry h hs
  cases x<;>cases y<;>first
    | exact h.elim
    | (obtain ⟨h1,c,h2,h3⟩ := h;exact ix_str value slice pins s σ H _ _ v u Q I rx ry ⟨_,_,c,rfl,rfl,h1,h2,h3⟩ hs)
    | (obtain ⟨xs,w,h1,h2,h3⟩ := h
       rcases h1 with h1|h1
       · exact ix_list value slice pins s σ H _ _ v u Q I rx ry ⟨_,xs,_,w,rfl,rfl,h1,h2,h3⟩ hs
       · exact ix_tup value slice pins s σ H _ _ v u Q I rx ry ⟨_,xs,_,w,rfl,rfl,h1,h2,h3⟩ hs)
noncomputable def rSlU (K:qB):V→Option Int→Option Int→Hp→VK→Prop := fun x lo hi H Q => match x with
  | .str z => z.length≤qM∧Q (.str (Txt.slice z lo hi)) H
  | .ref _ => rSlL K x lo hi H Q
  | _ => False
theorem sl_U:SlR X (rSlU X.K) := by
  intro pins s σ H x v vl vu lo hi sl Q I rx hs pl pu h
  cases x<;>first
    | exact h.elim
    | exact sl_str pins s σ H _ v vl vu lo hi sl Q I rx hs pl pu ⟨_,rfl,h.1,h.2⟩
    | exact sl_list pins s σ H _ v vl vu lo hi sl Q I rx hs pl pu h
noncomputable def Dn (P:Program) (w:World) (K:qB) (mg:Str→Option Value) (base:Heap) (x:Str) (ps:List Str) (k:Nat) (sp:Sp):Prop :=
  ∃ f fd,FnOk P w K mg base CX0 k f fd ps sp∧mg x=some (.ref f)∧qV K (.ref f)=true∧Binds K fd ps []
theorem pe_dn {x:Str} {p pos:Pos} {e:Expr} {es:List Expr} {t:TA} {ps:List Str} {k:Nat} {sp:Sp} (D:Dn X.prog X.w X.K X.mg X.base x ps k sp) (hr:Room k X.A) (hg:Gl X x) (ha:PA X (e::es) t)
    (hdb:(x==("__debug__":Str))=false := by decide) (he:starEach (e::es) X.env=(false,eval e X.env)::starEach es X.env := by rfl) (hpl:(backTo pos (starEach es X.env)).any (·.1)=false := by rfl) :
    PE X (.Call (.Name x p) (e::es) [] pos) (tCall sp [] E0 t) := by
  obtain ⟨f,fd,F,hm,hk,hb⟩ := D
  exact pe_call F hr hg hm hk hb .nil pass0 ha hdb he hpl
end
theorem Same.upd {H H':Hp} {p:Addr} {o:HO} (h:Same H H') (hp:H p=none):Same H (upd H' p o) := fun b u e => by rw [upd_ne (ne_of_none e hp)];exact h b u e
theorem Same.new {H:Hp} {p:Addr} {o:HO} (hp:H p=none):Same H (L2.upd H p o) := (Same.refl H).upd hp
end L2
namespace Bc
open PySem L2
noncomputable abbrev Web := List (Str×List Str)
noncomputable def nm (W:Web):List Str := W.map (·.1)
structure WebOk (W:Web):Prop where
  nd:(nm W).Nodup
  el:∀ i n es,W[i]?=some (n,es)→∀ e∈es,e∈nm (W.take i)
  few:∀ p∈W,p.2.length≤4
  len:W.length≤12
theorem nodup_sub {α:Type} [DecidableEq α]:∀ (l m:List α),l.Nodup→(∀ x∈l,x∈m)→l.length≤m.length
  | [],_,_,_ => qAZ _
  | a::l,m,h,s => by
    obtain ⟨h1,h2⟩ := qAd.mp h
    have ha := s a qm
    have q := nodup_sub l (m.erase a) h2 fun x hx => (List.mem_erase_of_ne (fun (z:x=a) => h1 (by rw [← z];exact hx))).mpr (s x (qO _ hx))
    rw [List.length_erase_of_mem ha] at q
    have := List.length_pos_of_mem ha
    rw [qf]
    omega
section
variable {κ:Type} [DecidableEq κ]
end
theorem nm_len {W:Web} (h:WebOk W):(nm W).length≤12 := by unfold nm;rw [qD];exact h.len
end Bc
namespace L2
open PySem PySem.Spec PyProof.Rows
section
variable {X:Cx} {K:qB} (hK:X.K=K)
include hK
theorem pg_tupK {es:List Expr} {k:Nat} {t:TGs} {n:Nat} {pos:Pos} (hc:X.calm=true) (h:PGs X es t)
    (hn:(assignEach es X.env).length=n := by rfl) (hst:(assignEach es X.env).findIdx? (·.1)=none := by rfl):PG X (.Tuple es k pos) (gTup K n t) := by subst hK;exact pg_tup hc h hn hst
theorem ix_UK:IxR X (rIxU K) := by subst hK;exact ix_U
theorem sl_UK:SlR X (rSlU K) := by subst hK;exact sl_U
theorem op_addUK:OpR X (binaryOp .Add) (rAddU K) := by subst hK;exact op_addU
theorem op_inK:OpR X (compareOp .In) (rIn K false) := by subst hK;exact op_in_seq
theorem op_notInK:OpR X (compareOp .NotIn) (rIn K true) := by subst hK;exact op_notIn_seq
theorem call_lenK:CallR X (.builtin "len") (fun xs H Q => ∃ x n,xs=[x]∧LenV K x H n∧Q (.int n) H) := by subst hK;exact call_len
theorem call_allK (hc:X.calm=true):CallR X (.builtin "all") (rAny K fun bs => bs.all id) := by subst hK;exact call_all hc
theorem call_isiK:CallR X (.builtin "isinstance") (fun xs H Q => ∃ x n t b,xs=[x,.ty n]∧TyOf K H x t∧PySem.W.kitOne K t (.type n)=some b∧Q (.bl b) H) := by subst hK;exact call_isi rfl
theorem call_listK:CallR X (.type "list") (fun xs H Q => ∃ p ys,xs=[.ref p]∧(SqL K H p ys∨SqT K H p ys)∧∀ l,H l=none→Q (.ref l) (upd H l (.lst ys))) := by subst hK;exact call_list_of
theorem pe_bmK {T:String} {name:Str} {id:String} {r:V→List V→Hp→VK→Prop} {o e:Expr} {es:List Expr} {to:TE} {t:TA} {apos cpos:Pos} (pa:PlainAttrs T) (slot:Slot T name id) (hty:typeOf (.builtin id)=pure (.type "method_descriptor")) (hm:MtR X id r) (ho:PE X o to) (ha:PA X (e::es) t)
    (hbase:attributeBase o name X.env (eval o X.env)=eval o X.env := by rfl)
    (hfew:((backTo cpos (starEach (e::es) X.env)).all (fun x => !x.1)&&(backToKw cpos (keywordEach [] X.env)).all (fun x => x.1.isSome)
      && decide ((e::es).length+([]:List Keyword).length+(if ([]:List Keyword).isEmpty then 0 else 1)<30))=true := by rfl)
    (hline:(apos.endLine==cpos.line)=true := by rfl) (hs:starEach (e::es) X.env=(false,eval e X.env)::starEach es X.env := by rfl) (hplain:(backTo cpos (starEach es X.env)).any (·.1)=false := by rfl) :
    PE X (.Call (.Attribute o name apos) (e::es) [] cpos) (tBM K T r to t) := by subst hK;exact pe_bm pa slot hty hm ho ha hbase hfew hline hs hplain
end
noncomputable def keyD:PyData→Option Key
  | .int i => some (Sum.inl i)
  | .str s => some (Sum.inr s)
  | _ => none
mutual
def Rp (H:Hp):PyData→V→Prop
  | .none,v => v=.non
  | .bool b,v => v=.bl b
  | .int i,v => v=.int i
  | .str x,v => v=.str x
  | .list ds,v => ∃ a xs,v=.ref a∧H a=some (.lst xs)∧Rps H ds xs
  | .tuple ds,v => ∃ a xs,v=.ref a∧H a=some (.tup xs)∧Rps H ds xs
  | .dict kvs,v => ∃ a ps,v=.ref a∧H a=some (.dK ps)∧Rpd H kvs ps
def Rps (H:Hp):List PyData→List V→Prop
  | [],xs => xs=[]
  | d::ds,xs => ∃ v vs,xs=v::vs∧Rp H d v∧Rps H ds vs
def Rpd (H:Hp):List (PyData×PyData)→List (Key×V)→Prop
  | [],ps => ps=[]
  | (k,d)::r,ps => ∃ k' v vs,ps=(k',v)::vs∧keyD k=some k'∧Rp H d v∧Rpd H r vs
end
mutual
theorem Rp.same {H H':Hp} (h:Same H H'):∀ (d:PyData) {v:V},Rp H d v→Rp H' d v
  | .none,v,q => by unfold Rp at q ⊢;exact q
  | .bool b,v,q => by unfold Rp at q ⊢;exact q
  | .int i,v,q => by unfold Rp at q ⊢;exact q
  | .str x,v,q => by unfold Rp at q ⊢;exact q
  | .list ds,v,q => by
    unfold Rp at q ⊢
    obtain ⟨a,xs,e,hq,hr⟩ := q
    exact ⟨a,xs,e,h _ _ hq,Rps.same h ds hr⟩
  | .tuple ds,v,q => by
    unfold Rp at q ⊢
    obtain ⟨a,xs,e,hq,hr⟩ := q
    exact ⟨a,xs,e,h _ _ hq,Rps.same h ds hr⟩
  | .dict kvs,v,q => by
    unfold Rp at q ⊢
    obtain ⟨a,xs,e,hq,hr⟩ := q
    exact ⟨a,xs,e,h _ _ hq,Rpd.same h kvs hr⟩
theorem Rps.same {H H':Hp} (h:Same H H'):∀ (ds:List PyData) {vs:List V},Rps H ds vs→Rps H' ds vs
  | [],vs,q => by unfold Rps at q ⊢;exact q
  | d::ds,vs,q => by
    unfold Rps at q ⊢
    obtain ⟨v,vs',e,h1,h2⟩ := q
    exact ⟨v,vs',e,Rp.same h d h1,Rps.same h ds h2⟩
theorem Rpd.same {H H':Hp} (h:Same H H'):∀ (ds:List (PyData×PyData)) {vs:List (Key×V)},Rpd H ds vs→Rpd H' ds vs
  | [],vs,q => by unfold Rpd at q ⊢;exact q
  | (k,d)::ds,vs,q => by
    unfold Rpd at q ⊢
    obtain ⟨k',v,vs',e,h0,h1,h2⟩ := q
    exact ⟨k',v,vs',e,h0,Rp.same h d h1,Rpd.same h ds h2⟩
end
theorem rps_paired {H:Hp}:∀ {ds:List PyData} {xs:List V},Rps H ds xs↔Paired (Rp H) ds xs
  | [],xs => by
    constructor
    · intro h;unfold Rps at h;subst h;exact .nil
    · intro h;cases h;unfold Rps;rfl
  | d::ds,xs => by
    constructor
    · intro h
      unfold Rps at h
      obtain ⟨v,vs,rfl,h1,h2⟩ := h
      exact .cons h1 (rps_paired.mp h2)
    · intro h
      cases h with
      | cons h1 h2 => unfold Rps;exact ⟨_,_,rfl,h1,rps_paired.mpr h2⟩
theorem Rps.length {H:Hp} {ds:List PyData} {xs:List V} (h:Rps H ds xs):ds.length=xs.length := (rps_paired.mp h).length
theorem rp_list {H:Hp} {ds:List PyData} {v:V} (h:Rp H (.list ds) v):∃ a xs,v=.ref a∧H a=some (.lst xs)∧Rps H ds xs := by unfold Rp at h;exact h
theorem rp_tuple {H:Hp} {ds:List PyData} {v:V} (h:Rp H (.tuple ds) v):∃ a xs,v=.ref a∧H a=some (.tup xs)∧Rps H ds xs := by unfold Rp at h;exact h
theorem rp_dict {H:Hp} {ds:List (PyData×PyData)} {v:V} (h:Rp H (.dict ds) v):∃ a xs,v=.ref a∧H a=some (.dK xs)∧Rpd H ds xs := by unfold Rp at h;exact h
theorem rp_int {H:Hp} {i:Int} {v:V} (h:Rp H (.int i) v):v=.int i := by unfold Rp at h;exact h
theorem rp_str {H:Hp} {i:Str} {v:V} (h:Rp H (.str i) v):v=.str i := by unfold Rp at h;exact h
theorem rp_bool {H:Hp} {i:Bool} {v:V} (h:Rp H (.bool i) v):v=.bl i := by unfold Rp at h;exact h
theorem rp_none {H:Hp} {v:V} (h:Rp H .none v):v=.non := by unfold Rp at h;exact h
theorem rp_mk_int {H:Hp} {i:Int}:Rp H (.int i) (.int i) := by unfold Rp;rfl
theorem rp_mk_str {H:Hp} {i:Str}:Rp H (.str i) (.str i) := by unfold Rp;rfl
theorem rp_mk_bool {H:Hp} {i:Bool}:Rp H (.bool i) (.bl i) := by unfold Rp;rfl
theorem rp_mk_none {H:Hp}:Rp H .none .non := by unfold Rp;rfl
theorem rp_mk_list {H:Hp} {ds:List PyData} {a:Addr} {xs:List V} (h:H a=some (.lst xs)) (r:Rps H ds xs):Rp H (.list ds) (.ref a) := by unfold Rp;exact ⟨a,xs,rfl,h,r⟩
theorem rp_mk_tuple {H:Hp} {ds:List PyData} {a:Addr} {xs:List V} (h:H a=some (.tup xs)) (r:Rps H ds xs):Rp H (.tuple ds) (.ref a) := by unfold Rp;exact ⟨a,xs,rfl,h,r⟩
theorem rp_mk_dict {H:Hp} {ds:List (PyData×PyData)} {a:Addr} {xs:List (Key×V)} (h:H a=some (.dK xs)) (r:Rpd H ds xs):Rp H (.dict ds) (.ref a) := by unfold Rp;exact ⟨a,xs,rfl,h,r⟩
theorem rps_nil {H:Hp}:Rps H [] [] := by unfold Rps;rfl
theorem rpd_nil {H:Hp}:Rpd H [] [] := by unfold Rpd;rfl
theorem rps_cons {H:Hp} {d:PyData} {ds:List PyData} {v:V} {vs:List V} (h:Rp H d v) (r:Rps H ds vs):Rps H (d::ds) (v::vs) := by
  show Rps H (d::ds) _
  unfold Rps;exact ⟨v,vs,rfl,h,r⟩
theorem Rps.append {H:Hp} {ds es:List PyData} {vs ws:List V} (h:Rps H ds vs) (r:Rps H es ws):Rps H (ds++es) (vs++ws) := by
  replace h := rps_paired.mp h
  refine rps_paired.mpr ?_
  induction h with
  | nil => exact rps_paired.mp r
  | cons h _ ih => exact .cons h ih
theorem Rps.get2 {H:Hp} {ds:List PyData} {vs:List V} (h:Rps H ds vs) {i:Nat} {d:PyData} (e:ds[i]?=some d):∃ v,vs[i]?=some v∧Rp H d v := by
  replace h := rps_paired.mp h
  induction h generalizing i with
  | nil => simp at e
  | cons h _ ih =>
    cases i with
    | zero => simp at e;subst e;exact ⟨_,rfl,h⟩
    | succ i => simpa using ih (by simpa using e)
open Classical in
noncomputable def Offs (A:Addr→Prop) (H:Hp):Hp := fun b => if A b then none else H b
theorem Offs.get {A:Addr→Prop} {H:Hp} {b:Addr} (h:¬ A b):Offs A H b=H b := if_neg h
theorem Offs.out {A:Addr→Prop} {H:Hp} {b:Addr} (h:A b):Offs A H b=none := if_pos h
theorem Offs.of {A:Addr→Prop} {H:Hp} {b:Addr} {o:HO} (h:Offs A H b=some o):¬ A b∧H b=some o := by
  by_cases hb:A b
  · rw [Offs.out hb] at h;cases h
  · rw [Offs.get hb] at h;exact ⟨hb,h⟩
theorem Offs.mono {A B:Addr→Prop} {H H':Hp} (s:Same H H') (h:∀ b o,H b=some o→¬ A b→¬ B b):Same (Offs A H) (Offs B H') := fun b o e => by
  obtain ⟨h1,h2⟩ := Offs.of e
  rw [Offs.get (h b o h2 h1)]
  exact s b o h2
theorem Offs.same (A:Addr→Prop) (H:Hp):Same (Offs A H) H := fun b o e => (Offs.of e).2
theorem Offs.sub {A B:Addr→Prop} {H:Hp} (h:∀ b,B b→A b):Same (Offs A H) (Offs B H) := Offs.mono (Same.refl _) fun b _ _ n z => n (h b z)
theorem Offs.grow {A:Addr→Prop} {H H':Hp} (s:Same H H'):Same (Offs A H) (Offs A H') := Offs.mono s fun _ _ _ z => z
theorem Offs.upd {A:Addr→Prop} {H:Hp} {a:Addr} {o:HO} (h:A a):Offs A (upd H a o)=Offs A H := by
  funext b
  by_cases hb:A b
  · rw [Offs.out hb,Offs.out hb]
  · rw [Offs.get hb,Offs.get hb,upd_ne (fun e => hb (by rw [e];exact h))]
inductive Sl where
  | no
  | pl (d:PyData)
  | ac (d:PyData)
noncomputable abbrev DEnv := List Sl
noncomputable def own (env:DEnv) (σ:St) (a:Addr):Prop := ∃ (i:Nat) (d:PyData),env[i]?=some (.ac d)∧σ[i]?=some (some (.ref a))
noncomputable def AccAt (Ho H:Hp) (a:Addr):PyData→Prop
  | .list ds => ∃ xs,H a=some (.lst xs)∧Rps Ho ds xs
  | .dict kvs => ∃ ps,H a=some (.dK ps)∧Rpd Ho kvs ps
  | _ => False
theorem AccAt.rp {Ho H H':Hp} {a:Addr} {d:PyData} (h:AccAt Ho H a d) (s:Same Ho H') (e:∀ o,H a=some o→H' a=some o):Rp H' d (.ref a) := by
  cases d with
  | list ds =>
    obtain ⟨xs,h1,h2⟩ := h
    exact rp_mk_list (e _ h1) (Rps.same s _ h2)
  | dict ds =>
    obtain ⟨xs,h1,h2⟩ := h
    exact rp_mk_dict (e _ h1) (Rpd.same s _ h2)
  | _ => exact h.elim
theorem AccAt.same {Ho H Ho' H':Hp} {a:Addr} {d:PyData} (h:AccAt Ho H a d) (s:Same Ho Ho') (e:∀ o,H a=some o→H' a=some o):AccAt Ho' H' a d := by
  cases d with
  | list ds =>
    obtain ⟨xs,h1,h2⟩ := h
    exact ⟨xs,e _ h1,Rps.same s _ h2⟩
  | dict ds =>
    obtain ⟨xs,h1,h2⟩ := h
    exact ⟨xs,e _ h1,Rpd.same s _ h2⟩
  | _ => exact h.elim
theorem AccAt.ex {Ho H:Hp} {a:Addr} {d:PyData} (h:AccAt Ho H a d):∃ o,H a=some o := by
  cases d with
  | list ds => obtain ⟨xs,h1,h2⟩ := h;exact ⟨_,h1⟩
  | dict ds => obtain ⟨xs,h1,h2⟩ := h;exact ⟨_,h1⟩
  | _ => exact h.elim
structure EnvOk (fx:Addr→Prop) (H0:Hp) (env:DEnv) (σ:St) (H:Hp):Prop where
  len:env.length=σ.length
  pl:∀ (i:Nat) (d:PyData),env[i]?=some (.pl d)→∃ v,σ[i]?=some (some v)∧Rp (Offs (fun a => fx a∨own env σ a) H) d v
  ac:∀ (i:Nat) (d:PyData),env[i]?=some (.ac d)→∃ a,σ[i]?=some (some (.ref a))∧H0 a=none∧¬ fx a∧AccAt (Offs (fun a => fx a∨own env σ a) H) H a d
  inj:∀ (i j:Nat) (d e:PyData) (a:Addr),env[i]?=some (.ac d)→env[j]?=some (.ac e)→σ[i]?=some (some (.ref a))→σ[j]?=some (some (.ref a))→i=j
  base:Same H0 H
  fxs:∀ b,fx b→∃ o,H b=some o
theorem EnvOk.grow {fx fx':Addr→Prop} {H0:Hp} {env:DEnv} {σ:St} {H H':Hp} (h:EnvOk fx H0 env σ H) (s:Same H H') (f:∀ b o,H b=some o→¬ fx b→¬ fx' b) (g:∀ b,fx' b→∃ o,H' b=some o):EnvOk fx' H0 env σ H' := by
  have so:Same (Offs (fun a => fx a∨own env σ a) H) (Offs (fun a => fx' a∨own env σ a) H') := Offs.mono s fun b o e n => fun z => z.elim (f b o e fun y => n (.inl y)) fun y => n (.inr y)
  refine ⟨h.len,fun i d e => ?_,fun i d e => ?_,h.inj,h.base.trans s,g⟩
  · obtain ⟨v,h1,h2⟩ := h.pl i d e
    exact ⟨v,h1,Rp.same so d h2⟩
  · obtain ⟨a,h1,h2,h3,h4⟩ := h.ac i d e
    obtain ⟨o,ho⟩ := h4.ex
    exact ⟨a,h1,h2,f a o ho h3,h4.same so fun o => s a o⟩
theorem EnvOk.up {fx:Addr→Prop} {H0:Hp} {env:DEnv} {σ:St} {H H':Hp} (h:EnvOk fx H0 env σ H) (s:Same H H'):EnvOk fx H0 env σ H' :=
  h.grow s (fun _ _ _ z => z) fun b z => let ⟨o,e⟩ := h.fxs b z;⟨o,s b o e⟩
structure Val where
  d:PyData
  fr:Bool
  bs:List Nat
noncomputable def lim (fx:Addr→Prop) (env:DEnv) (σ:St) (bs:List Nat) (a:Addr):Prop := fx a∨∃ (i:Nat) (d:PyData),i∉bs∧env[i]?=some (.ac d)∧σ[i]?=some (some (.ref a))
structure ValOk (A:Addr→Prop) (H H':Hp) (r:Val) (v:V):Prop where
  rp:Rp (Offs A H') r.d v
  fr:r.fr=true→∃ a,v=.ref a∧H a=none∧AccAt (Offs (fun b => A b∨b=a) H') H' a r.d
theorem lim_sub {fx:Addr→Prop} {env:DEnv} {σ:St} {bs cs:List Nat} (h:∀ i∈bs,i∈cs):∀ a,lim fx env σ cs a→lim fx env σ bs a := by
  rintro a (z|⟨i,d,h1,h2,h3⟩)
  · exact .inl z
  · exact .inr ⟨i,d,fun q => h1 (h i q),h2,h3⟩
theorem lim_own {fx:Addr→Prop} {env:DEnv} {σ:St} {bs:List Nat}:∀ a,lim fx env σ bs a→fx a∨own env σ a := by
  rintro a (z|⟨i,d,h1,h2,h3⟩)
  · exact .inl z
  · exact .inr ⟨i,d,h2,h3⟩
theorem lim_nil {fx:Addr→Prop} {env:DEnv} {σ:St}:∀ a,fx a∨own env σ a→lim fx env σ [] a := by
  rintro a (z|⟨i,d,h2,h3⟩)
  · exact .inl z
  · exact .inr ⟨i,d,by simp,h2,h3⟩
theorem EnvOk.lims {fx:Addr→Prop} {H0:Hp} {env:DEnv} {σ:St} {H:Hp} (h:EnvOk fx H0 env σ H) (bs:List Nat):∀ b,lim fx env σ bs b→∃ o,H b=some o := by
  rintro b (z|⟨i,d,h1,h2,h3⟩)
  · exact h.fxs b z
  · obtain ⟨a,g1,g2,g3,g4⟩ := h.ac i d h2
    rw [h3] at g1
    cases g1
    exact g4.ex
theorem ValOk.later {A B:Addr→Prop} {H0 H H' H'':Hp} {r:Val} {v:V} (h:ValOk A H H' r v) (s0:Same H0 H) (s:Same H' H'') (hB:∀ b,B b→A b):ValOk B H0 H'' r v := by
  refine ⟨Rp.same (Offs.mono s fun b _ _ n z => n (hB b z)) _ h.rp,fun e => ?_⟩
  obtain ⟨a,h1,h2,h3⟩ := h.fr e
  exact ⟨a,h1,s0.free h2,h3.same (Offs.mono s fun b _ _ n z => n (z.elim (fun y => .inl (hB b y)) .inr)) fun o => s a o⟩
noncomputable def flatD:PyData→Bool
  | .list _ => false
  | .tuple _ => false
  | .dict _ => false
  | _ => true
theorem rp_flat {H H':Hp} {d:PyData} {v:V} (f:flatD d=true) (h:Rp H d v):Rp H' d v := by
  cases d<;>first
    | (unfold Rp at h ⊢;exact h)
    | cases f
noncomputable def bsOf (d:PyData) (bs:List Nat):List Nat := if flatD d=true then [] else bs
theorem rp_bsOf {fx:Addr→Prop} {env:DEnv} {σ:St} {bs:List Nat} {H:Hp} {d:PyData} {v:V} (h:Rp (Offs (lim fx env σ bs) H) d v):Rp (Offs (lim fx env σ (bsOf d bs)) H) d v := by
  unfold bsOf
  split
  · rename_i e;exact rp_flat e h
  · exact h
noncomputable abbrev EF := DEnv→Option Val
noncomputable def SE (te:TE) (f:EF):Prop := ∀ (fx:Addr→Prop) (H0:Hp) (env:DEnv) (σ:St) (H:Hp),EnvOk fx H0 env σ H→∀ r,f env=some r→∀ Q:VK,(∀ v H',Same H H'→ValOk (lim fx env σ r.bs) H H' r v→Q v H')→te σ H Q
noncomputable abbrev TF := DEnv→Option Bool
noncomputable def ST (tt:TT) (f:TF):Prop := ∀ (fx:Addr→Prop) (H0:Hp) (env:DEnv) (σ:St) (H:Hp),EnvOk fx H0 env σ H→∀ b,f env=some b→∀ Q:Bool→Hp→Prop,(∀ H',Same H H'→Q b H')→tt σ H Q
noncomputable abbrev AF := DEnv→Option (List Val)
noncomputable def SA (ta:TA) (f:AF):Prop := ∀ (fx:Addr→Prop) (H0:Hp) (env:DEnv) (σ:St) (H:Hp),EnvOk fx H0 env σ H→∀ rs,f env=some rs→∀ Q:List V→Hp→Prop,
  (∀ vs H',Same H H'→Paired (fun r v => ValOk (lim fx env σ r.bs) H H' r v) rs vs→Q vs H')→ta σ H Q
section
variable {X:Cx}
noncomputable def eVar (i:Nat):EF := fun env => match env[i]? with
  | some (.pl d) => some ⟨d,false,[]⟩
  | some (.ac d) => some ⟨d,false,[i]⟩
  | _ => none
theorem se_var (i:Nat):SE (tVar i) (eVar i) := by
  intro fx H0 env σ H h r hr Q q
  unfold eVar at hr
  cases e:env[i]? with
  | none => rw [e] at hr;cases hr
  | some sl =>
    rw [e] at hr
    cases sl with
    | no => cases hr
    | pl d =>
      cases hr
      obtain ⟨v,h1,h2⟩ := h.pl i d e
      exact ⟨v,h1,q v H (Same.refl _) ⟨Rp.same (Offs.sub lim_own) _ h2,fun z => by cases z⟩⟩
    | ac d =>
      cases hr
      obtain ⟨a,h1,h2,h3,h4⟩ := h.ac i d e
      have hna:¬ lim fx env σ [i] a := by
        rintro (z|⟨j,d',g1,g2,g3⟩)
        · exact h3 z
        · exact g1 (qAP.mpr (h.inj j i d' d a g2 e g3 h1))
      exact ⟨_,h1,q _ H (Same.refl _) ⟨h4.rp (Offs.sub lim_own) fun o z => by rw [Offs.get hna];exact z,fun z => by cases z⟩⟩
noncomputable def eC (d:PyData):EF := fun _ => some ⟨d,false,[]⟩
theorem se_c {d:PyData} {v:V} (h:∀ H,Rp H d v):SE (tC v) (eC d) := by
  intro fx H0 env σ H _ r hr Q q
  cases hr
  exact q v H (Same.refl _) ⟨h _,fun z => by cases z⟩
noncomputable abbrev OF := PyData→PyData→Option (PyData×Bool)
noncomputable def SO (r:R2) (f:OF):Prop := ∀ (A:Addr→Prop) (H:Hp) (x y:V) (dx dy:PyData),(∀ b,A b→∃ o,H b=some o)→Rp (Offs A H) dx x→Rp (Offs A H) dy y→∀ d fr,f dx dy=some (d,fr)→∀ Q:VK,
  (∀ v H',Same H H'→Rp (Offs A H') d v→(fr=true→∃ a,v=.ref a∧H a=none∧AccAt (Offs (fun b => A b∨b=a) H') H' a d)→Q v H')→r x y H Q
noncomputable def eOp (f:OF) (a b:EF):EF := fun env => (a env).bind fun x => (b env).bind fun y => (f x.d y.d).bind fun z => some ⟨z.1,z.2,bsOf z.1 (x.bs++y.bs)⟩
theorem se_op {r:R2} {f:OF} {ta tb:TE} {fa fb:EF} (ho:SO r f) (ha:SE ta fa) (hb:SE tb fb):SE (tOp r ta tb) (eOp f fa fb) := by
  intro fx H0 env σ H h rr hr Q q
  unfold eOp at hr
  obtain ⟨x,ex,hr⟩ := qA.mp hr
  obtain ⟨y,ey,hr⟩ := qA.mp hr
  obtain ⟨⟨d,fr⟩,ez,hr⟩ := qA.mp hr
  cases hr
  refine ha fx H0 env σ H h x ex _ fun v H1 s1 v1 => hb fx H0 env σ H1 (h.up s1) y ey _ fun u H2 s2 v2 => ?_
  have l1:∀ b,lim fx env σ (x.bs++y.bs) b→lim fx env σ x.bs b := lim_sub fun i hi => qi _ hi
  have l2:∀ b,lim fx env σ (x.bs++y.bs) b→lim fx env σ y.bs b := lim_sub fun i hi => qX _ hi
  refine ho (lim fx env σ (x.bs++y.bs)) H2 v u x.d y.d ((h.up (s1.trans s2)).lims _) (v1.later (Same.refl _) s2 l1).rp (v2.later (Same.refl _) (Same.refl _) l2).rp d fr ez _ fun w H3 s3 rp fr3 => q w H3 ((s1.trans s2).trans s3) ⟨rp_bsOf rp,fun e => ?_⟩
  obtain ⟨a,g1,g2,g3⟩ := fr3 e
  refine ⟨a,g1,(s1.trans s2).free g2,?_⟩
  have nf:flatD d=false := by cases d<;>first|rfl|exact g3.elim
  show AccAt (Offs (fun b => lim fx env σ (bsOf d (x.bs++y.bs)) b∨b=a) H3) H3 a d
  rw [show bsOf d (x.bs++y.bs)=x.bs++y.bs by unfold bsOf;rw [if_neg (by rw [nf];decide)]]
  exact g3
end
theorem size_of {n:Nat} (h:n≤100000):n≤qM := qAF h (by decide)
theorem size_lt {n:Nat} (h:n<100000):n<qM := Nat.lt_trans h (by decide)
theorem off_new {A:Addr→Prop} {H:Hp} (hA:∀ b,A b→∃ o,H b=some o) {p:Addr} (hp:H p=none):¬ A p := fun z => by
  obtain ⟨o,e⟩ := hA p z
  rw [hp] at e;cases e
theorem new_acc {A:Addr→Prop} {H:Hp} {p:Addr} {ds:List PyData} {xs:List V} (hp:H p=none) (r:Rps (Offs A H) ds xs):AccAt (Offs (fun b => A b∨b=p) (upd H p (.lst xs))) (upd H p (.lst xs)) p (.list ds) := by
  refine ⟨xs,upd_same,Rps.same (Offs.mono (Same.new hp) fun b o e n z => ?_) _ r⟩
  rcases z with z|z
  · exact n z
  · rw [z,hp] at e;cases e
theorem new_rp {A:Addr→Prop} {H:Hp} {p:Addr} {ds:List PyData} {xs:List V} (hp:H p=none) (hA:¬ A p) (r:Rps (Offs A H) ds xs):Rp (Offs A (upd H p (.lst xs))) (.list ds) (.ref p) :=
  rp_mk_list (by rw [Offs.get hA];exact upd_same) (Rps.same (Offs.grow (Same.new hp)) _ r)
theorem new_rpT {A:Addr→Prop} {H:Hp} {p:Addr} {ds:List PyData} {xs:List V} (hp:H p=none) (hA:¬ A p) (r:Rps (Offs A H) ds xs):Rp (Offs A (upd H p (.tup xs))) (.tuple ds) (.ref p) :=
  rp_mk_tuple (by rw [Offs.get hA];exact upd_same) (Rps.same (Offs.grow (Same.new hp)) _ r)
theorem off_at {A:Addr→Prop} {H:Hp} {a:Addr} {o:HO} (h:Offs A H a=some o):H a=some o := (Offs.of h).2
noncomputable def addD:OF
  | .int i,.int j => some (.int (i+j),false)
  | .str a,.str b => if a.length+b.length≤100000 then some (.str (a++b),false) else none
  | .list a,.list b => if a.length+b.length≤100000 then some (.list (a++b),true) else none
  | .tuple a,.tuple b => if a.isEmpty=false∧a.length+b.length≤100000 then some (.tuple (a++b),false) else none
  | _,_ => none
theorem so_add {K:qB}:SO (rAddU K) addD := by
  intro A H x y dx dy hA rx ry d fr e Q q
  unfold addD at e
  split at e
  · cases e
    cases rp_int rx;cases rp_int ry
    exact q _ H (Same.refl _) rp_mk_int (fun z => by cases z)
  · split at e
    · rename_i hl
      cases e
      cases rp_str rx;cases rp_str ry
      exact ⟨size_of hl,q _ H (Same.refl _) rp_mk_str (fun z => by cases z)⟩
    · cases e
  · split at e
    · rename_i hl
      cases e
      obtain ⟨p,xs,rfl,hp,r1⟩ := rp_list rx
      obtain ⟨p',ys,rfl,hp',r2⟩ := rp_list ry
      refine .inl ⟨p,p',xs,ys,rfl,rfl,off_at hp,off_at hp',size_of (by rw [← r1.length,← r2.length];exact hl),fun b hb => ?_⟩
      exact q _ _ (Same.new hb) (new_rp hb (off_new hA hb) (r1.append r2)) fun _ => ⟨b,rfl,hb,new_acc hb (r1.append r2)⟩
    · cases e
  · split at e
    · rename_i hl
      cases e
      obtain ⟨p,xs,rfl,hp,r1⟩ := rp_tuple rx
      obtain ⟨p',ys,rfl,hp',r2⟩ := rp_tuple ry
      refine .inr ⟨p,p',xs,ys,rfl,rfl,SqT.of (off_at hp),SqT.of (off_at hp'),fun z => ?_,size_of (by rw [← r1.length,← r2.length];exact hl.2),fun z => ?_,fun _ b hb => ?_⟩
      · have h1 := r1.length
        have h0 := hl.1
        rw [z] at h1
        rw [List.isEmpty_eq_false_iff] at h0
        exact h0 (qAp.mp h1)
      · have h2 := r2.length
        rw [z] at h2
        have := qAp.mp h2
        subst this
        rw [qAH] at q
        exact q _ H (Same.refl _) rx (fun z => by cases z)
      · exact q _ _ (Same.new hb) (new_rpT hb (off_new hA hb) (r1.append r2)) (fun z => by cases z)
    · cases e
  · cases e
noncomputable def intD (c:Int→Int→Bool) (f:Int→Int→PyData):OF
  | .int i,.int j => if c i j=true then some (f i j,false) else none
  | _,_ => none
theorem so_int {C:Int→Int→Prop} {g:Int→Int→V} {c:Int→Int→Bool} {f:Int→Int→PyData} (hc:∀ i j,c i j=true→C i j) (hf:∀ H i j,Rp H (f i j) (g i j)):SO (rI C g) (intD c f) := by
  intro A H x y dx dy hA rx ry d fr e Q q
  unfold intD at e
  split at e
  · split at e
    · rename_i h
      cases e
      cases rp_int rx;cases rp_int ry
      exact ⟨_,_,rfl,rfl,hc _ _ h,q _ H (Same.refl _) (hf _ _ _) (fun z => by cases z)⟩
    · cases e
  · cases e
theorem so_int0 {g:Int→Int→V} {f:Int→Int→PyData} (hf:∀ H i j,Rp H (f i j) (g i j)):SO (rI0 g) (intD (fun _ _ => true) f) := by
  intro A H x y dx dy hA rx ry d fr e Q q
  unfold intD at e
  split at e
  · split at e
    · cases e
      cases rp_int rx;cases rp_int ry
      exact ⟨_,_,rfl,rfl,q _ H (Same.refl _) (hf _ _ _) (fun z => by cases z)⟩
    · cases e
  · cases e
noncomputable def ltD:OF := intD (fun _ _ => true) fun i j => .bool (decide (i<j))
theorem so_lt:SO (rI0 fun i j => .bl (decide (i<j))) ltD := so_int0 fun _ _ _ => rp_mk_bool
noncomputable def gtD:OF := intD (fun _ _ => true) fun i j => .bool (decide (j<i))
theorem so_gt:SO (rI0 fun i j => .bl (decide (j<i))) gtD := so_int0 fun _ _ _ => rp_mk_bool
noncomputable def modD:OF := intD (fun _ j => decide (0<j)) fun i j => .int (i % j)
theorem so_mod:SO (rI (fun _ j => 0<j) fun i j => .int (i % j)) modD := so_int (fun _ _ h => of_decide_eq_true h) fun _ _ _ => rp_mk_int
noncomputable def fdivD:OF := intD (fun _ j => decide (0<j∧j<1073741824)) fun i j => .int (i / j)
theorem so_fdiv:SO (rI CDiv fun i j => .int (i / j)) fdivD := so_int (fun i j h => (of_decide_eq_true h:0<j∧j<1073741824)) fun _ _ _ => rp_mk_int
noncomputable def powD:OF := intD (fun i j => decide (0≤j∧j≤1000000∧i.natAbs<2 ^ 64)) fun i j => .int (i ^ j.toNat)
theorem so_pow:SO (rI CPow fun i j => .int (i ^ j.toNat)) powD := so_int (fun i j h => (of_decide_eq_true h:0≤j∧j≤1000000∧i.natAbs<2 ^ 64)) fun _ _ _ => rp_mk_int
noncomputable def mulD:OF
  | .int i,.int j => if (-(2 ^ 64)<i∧i<2 ^ 64)∨(-(2 ^ 64)<j∧j<2 ^ 64) then some (.int (i * j),false) else none
  | .str z,.int n => if z.length≤1000∧-1000≤n∧n≤1000 then some (.str (Txt.mul z n),false) else none
  | _,_ => none
theorem so_mul:SO rMulU mulD := by
  intro A H x y dx dy hA rx ry d fr e Q q
  unfold mulD at e
  split at e
  · split at e
    · rename_i h
      cases e
      cases rp_int rx;cases rp_int ry
      exact ⟨h,q _ H (Same.refl _) rp_mk_int (fun z => by cases z)⟩
    · cases e
  · split at e
    · rename_i h
      cases e
      cases rp_str rx;cases rp_int ry
      exact ⟨h.1,h.2.1,h.2.2,q _ H (Same.refl _) rp_mk_str (fun z => by cases z)⟩
    · cases e
  · cases e
mutual
theorem rp_rep {K:qB} {H:Hp}:∀ {d:PyData} {v:V},d.canLay0=true→Rp H d v→Rep K H d v
  | .none,v,_,h => by unfold Rp at h;unfold Rep;exact h
  | .bool b,v,_,h => by unfold Rp at h;unfold Rep;exact h
  | .int i,v,_,h => by unfold Rp at h;unfold Rep;exact h
  | .str x,v,_,h => by unfold Rp at h;unfold Rep;exact h
  | .list ds,v,c,h => by
    obtain ⟨a,xs,e,h1,h2⟩ := rp_list h
    unfold Rep
    exact ⟨a,xs,e,SqL.of h1,rps_reps (by simpa [PyData.canLay0] using c) h2⟩
  | .tuple ds,v,c,h => by
    obtain ⟨a,xs,e,h1,h2⟩ := rp_tuple h
    unfold Rep
    exact ⟨a,xs,e,SqT.of h1,rps_reps (by simpa [PyData.canLay0] using c) h2⟩
  | .dict _,v,c,h => by simp [PyData.canLay0] at c
theorem rps_reps {K:qB} {H:Hp}:∀ {ds:List PyData} {vs:List V},qAs ds=true→Rps H ds vs→Reps K H ds vs
  | [],vs,_,h => by unfold Rps at h;unfold Reps;exact h
  | d::ds,vs,c,h => by
    unfold Rps at h
    obtain ⟨v,ws,e,h1,h2⟩ := h
    have c:d.canLay0=true∧qAs ds=true := by simpa [qAs] using c
    unfold Reps
    exact ⟨v,ws,e,rp_rep c.1 h1,rps_reps c.2 h2⟩
end
noncomputable def scalD:PyData→PyData→Bool
  | .none,.none => true|.none,.int _ => true|.int _,.none => true|.none,.bool _ => true|.bool _,.none => true|.none,.str _ => true|.str _,.none => true
  | .int _,.int _ => true|.bool _,.bool _ => true|.str _,.str _ => true
  | .int _,.str _ => true|.str _,.int _ => true|.bool _,.str _ => true|.str _,.bool _ => true
  | _,_ => false
noncomputable def eqOk (dx dy:PyData):Bool := scalD dx dy||(qAX dx&&qAX dy)
noncomputable def eqD:OF := fun dx dy => if eqOk dx dy=true then some (.bool (qAV dx dy),false) else none
noncomputable def neD:OF := fun dx dy => if eqOk dx dy=true then some (.bool (!PyData.eqv dx dy),false) else none
theorem scal_ok {H:Hp} {dx dy:PyData} {x y:V} (s:scalD dx dy=true) (rx:Rp H dx x) (ry:Rp H dy y):scal x y=true∧decide (x=y)=qAV dx dy := by
  cases dx<;>cases dy<;>first
    | (exact absurd (show false=true from s) qI)
    | (unfold Rp at rx ry;subst rx;subst ry;refine ⟨rfl,?_⟩;first|rfl|exact dec_int|exact dec_bl|exact dec_str|simp [qAV])
theorem so_eq {K:qB}:SO (fun x y H Q => rEq x y H Q∨rEqD K false x y H Q) eqD := by
  intro A H x y dx dy hA rx ry d fr e Q q
  unfold eqD at e
  split at e
  · rename_i h
    cases e
    cases hs:scalD dx dy with
    | true =>
      obtain ⟨h1,h2⟩ := scal_ok hs rx ry
      exact .inl ⟨h1,by rw [h2];exact q _ H (Same.refl _) rp_mk_bool (fun z => by cases z)⟩
    | false =>
      unfold eqOk at h
      rw [hs,qB4,qq] at h
      have rx := Rp.same (Offs.same A H) _ rx
      have ry := Rp.same (Offs.same A H) _ ry
      exact .inr ⟨dx,dy,rp_rep (qAc h.1) rx,rp_rep (qAc h.2) ry,h.1,h.2,q _ H (Same.refl _) rp_mk_bool (fun z => by cases z)⟩
  · cases e
theorem so_ne {K:qB}:SO (fun x y H Q => rNe x y H Q∨rEqD K true x y H Q) neD := by
  intro A H x y dx dy hA rx ry d fr e Q q
  unfold neD at e
  split at e
  · rename_i h
    cases e
    cases hs:scalD dx dy with
    | true =>
      obtain ⟨h1,h2⟩ := scal_ok hs rx ry
      exact .inl ⟨h1,by rw [h2];exact q _ H (Same.refl _) rp_mk_bool (fun z => by cases z)⟩
    | false =>
      unfold eqOk at h
      rw [hs,qB4,qq] at h
      have rx := Rp.same (Offs.same A H) _ rx
      have ry := Rp.same (Offs.same A H) _ ry
      exact .inr ⟨dx,dy,rp_rep (qAc h.1) rx,rp_rep (qAc h.2) ry,h.1,h.2,q _ H (Same.refl _) rp_mk_bool (fun z => by cases z)⟩
  · cases e
noncomputable def flatsD (ds:List PyData):Bool := ds.all flatD
theorem flat_v {H:Hp} {d:PyData} {v:V} (f:flatD d=true) (h:Rp H d v):flatV v=true := by
  cases d<;>first
    | (unfold Rp at h;subst h;rfl)
    | cases f
theorem flats_v {H:Hp} {ds:List PyData} {vs:List V} (f:flatsD ds=true) (h:Rps H ds vs):vs.all flatV=true := by
  replace h := rps_paired.mp h
  induction h with
  | nil => rfl
  | cons h _ ih =>
    unfold flatsD at f
    rw [qAy,qq] at f
    rw [qAy,flat_v f.1 h,ih f.2];rfl
theorem eqV_eqv {H:Hp} {d e:PyData} {v u:V} (f:flatD d=true) (g:flatD e=true) (h:Rp H d v) (k:Rp H e u):eqV v u=qAV d e := by
  cases d<;>cases e<;>first
    | (unfold Rp at h k;subst h;subst k;rfl)
    | exact absurd (show false=true from f) qI
    | exact absurd (show false=true from g) qI
theorem inV_eqv {H:Hp} {d:PyData} {v:V} (f:flatD d=true) (h:Rp H d v) {ds:List PyData} {vs:List V} (g:flatsD ds=true) (r:Rps H ds vs):inV v vs=ds.any fun e => qAV e d := by
  replace r := rps_paired.mp r
  unfold inV
  induction r with
  | nil => rfl
  | cons r _ ih =>
    unfold flatsD at g
    rw [qAy,qq] at g
    rw [qAS,qAS,eqV_eqv g.1 f r h,ih g.2]
noncomputable def itemsD:PyData→Option (List PyData)
  | .list ds => some ds
  | .tuple ds => some ds
  | _ => none
noncomputable def inD (neg:Bool):OF := fun d c => match itemsD c with
  | some ds => if flatD d=true∧flatsD ds=true then some (.bool (if neg then !(ds.any fun e => qAV e d) else ds.any fun e => qAV e d),false) else none
  | none => none
theorem rp_items {K:qB} {H:Hp} {c:PyData} {v:V} {ds:List PyData} (h:Rp H c v) (e:itemsD c=some ds):∃ p xs,v=.ref p∧(SqL K H p xs∨SqT K H p xs)∧Rps H ds xs := by
  cases c<;>first
    | cases e
    | skip
  · obtain ⟨a,xs,e,h1,h2⟩ := rp_list h;exact ⟨a,xs,e,.inl (SqL.of h1),h2⟩
  · obtain ⟨a,xs,e,h1,h2⟩ := rp_tuple h;exact ⟨a,xs,e,.inr (SqT.of h1),h2⟩
theorem so_in {K:qB} {neg:Bool}:SO (rIn K neg) (inD neg) := by
  intro A H x y dx dy hA rx ry d fr e Q q
  unfold inD at e
  split at e
  · rename_i ds hi
    split at e
    · rename_i h
      cases e
      have rx := Rp.same (Offs.same A H) _ rx
      obtain ⟨p,xs,rfl,hq,r⟩ := rp_items (K := K) (Rp.same (Offs.same A H) _ ry) hi
      refine ⟨p,xs,rfl,hq,flat_v h.1 rx,flats_v h.2 r,?_⟩
      rw [inV_eqv h.1 rx h.2 r]
      refine q _ H (Same.refl _) ?_ (fun z => by cases z)
      cases neg<;>exact rp_mk_bool
    · cases e
  · cases e
noncomputable def ixD:OF
  | .str z,.int i => if z.length≤100000 then (atI z.cps.toList i).map fun c => (.str ⟨#[c]⟩,false) else none
  | .list ds,.int i => (atI ds i).map fun d => (d,false)
  | .tuple ds,.int i => (atI ds i).map fun d => (d,false)
  | _,_ => none
theorem Rps.atI {H:Hp} {ds:List PyData} {vs:List V} (h:Rps H ds vs) {i:Int} {d:PyData} (e:atI ds i=some d):∃ v,L2.atI vs i=some v∧Rp H d v := by
  unfold L2.atI at e ⊢
  rw [← h.length]
  cases g:ixN ds.length i with
  | none => rw [g] at e;cases e
  | some j =>
    rw [g] at e
    exact h.get2 e
theorem so_ix {K:qB}:SO (rIxU K) ixD := by
  intro A H x y dx dy hA rx ry d fr e Q q
  unfold ixD at e
  split at e
  · split at e
    · rename_i z i hl
      obtain ⟨c,hc,e⟩ := qG.mp e
      cases e
      cases rp_str rx;cases rp_int ry
      exact ⟨size_of hl,c,hc,q _ H (Same.refl _) rp_mk_str (fun z => by cases z)⟩
    · cases e
  · obtain ⟨c,hc,e⟩ := qG.mp e
    cases e
    obtain ⟨p,xs,rfl,hp,r⟩ := rp_list rx
    cases rp_int ry
    obtain ⟨v,hv,rv⟩ := r.atI hc
    exact ⟨xs,v,.inl (SqL.of (off_at hp)),hv,q _ H (Same.refl _) rv (fun z => by cases z)⟩
  · obtain ⟨c,hc,e⟩ := qG.mp e
    cases e
    obtain ⟨p,xs,rfl,hp,r⟩ := rp_tuple rx
    cases rp_int ry
    obtain ⟨v,hv,rv⟩ := r.atI hc
    exact ⟨xs,v,.inr (SqT.of (off_at hp)),hv,q _ H (Same.refl _) rv (fun z => by cases z)⟩
  · cases e
noncomputable def dgetD:List (PyData×PyData)→Key→Option PyData
  | [],_ => none
  | (k,d)::r,j => if keyD k=some j then some d else dgetD r j
noncomputable def dputD (kvs:List (PyData×PyData)) (k:PyData) (d:PyData):List (PyData×PyData) :=
  if (kvs.any fun kv => decide (keyD kv.1=keyD k))=true then kvs.map (fun kv => if keyD kv.1=keyD k then (kv.1,d) else kv) else kvs++[(k,d)]
noncomputable def dmergeD (kvs more:List (PyData×PyData)):List (PyData×PyData) := more.foldl (fun acc kv => dputD acc kv.1 kv.2) kvs
theorem rpd_cons {H:Hp} {k d:PyData} {r:List (PyData×PyData)} {k':Key} {v:V} {vs:List (Key×V)} (hk:keyD k=some k') (h:Rp H d v) (q:Rpd H r vs):Rpd H ((k,d)::r) ((k',v)::vs) := by
  show Rpd H ((k,d)::r) _
  unfold Rpd;exact ⟨k',v,vs,rfl,hk,h,q⟩
theorem rpd_uncons {H:Hp} {k d:PyData} {r:List (PyData×PyData)} {ps:List (Key×V)} (h:Rpd H ((k,d)::r) ps):∃ k' v vs,ps=(k',v)::vs∧keyD k=some k'∧Rp H d v∧Rpd H r vs := by
  unfold Rpd at h;exact h
theorem Rpd.length {H:Hp}:∀ {kvs:List (PyData×PyData)} {ps:List (Key×V)},Rpd H kvs ps→kvs.length=ps.length
  | [],ps,h => by unfold Rpd at h;subst h;rfl
  | (k,d)::r,ps,h => by
    obtain ⟨k',v,vs,rfl,_,_,h3⟩ := rpd_uncons h
    rw [qf,qf,h3.length]
theorem Rpd.get {H:Hp} {j:Key}:∀ {kvs:List (PyData×PyData)} {ps:List (Key×V)},Rpd H kvs ps→match dgetD kvs j with
    | some d => ∃ v,valV ps j=some v∧Rp H d v
    | none => valV ps j=none
  | [],ps,h => by unfold Rpd at h;subst h;rfl
  | (k,d)::r,ps,h => by
    obtain ⟨k',v,vs,rfl,hk,h2,h3⟩ := rpd_uncons h
    have ih := Rpd.get (j := j) h3
    unfold dgetD
    by_cases e:k'=j
    · rw [if_pos (by rw [hk,e])]
      exact ⟨v,valV_pos e,h2⟩
    · rw [if_neg (fun z => e (by rw [hk] at z;exact qP z)),valV_neg e]
      exact ih
theorem Rpd.any {H:Hp} {j:Key}:∀ {kvs:List (PyData×PyData)} {ps:List (Key×V)},Rpd H kvs ps→(kvs.any fun kv => decide (keyD kv.1=some j))=ps.any fun kv => decide (kv.1=j)
  | [],ps,h => by unfold Rpd at h;subst h;rfl
  | (k,d)::r,ps,h => by
    obtain ⟨k',v,vs,rfl,hk,h2,h3⟩ := rpd_uncons h
    rw [qAS,qAS,h3.any,hk]
    congr 1
    simp
theorem Rpd.map {H:Hp} {j:Key} {d':PyData} {v':V} (h':Rp H d' v'):∀ {kvs:List (PyData×PyData)} {ps:List (Key×V)},Rpd H kvs ps→Rpd H (kvs.map fun kv => if keyD kv.1=some j then (kv.1,d') else kv) (ps.map fun kv => if kv.1=j then (kv.1,v') else kv)
  | [],ps,h => by unfold Rpd at h;subst h;exact rpd_nil
  | (k,d)::r,ps,h => by
    obtain ⟨k',v,vs,rfl,hk,h2,h3⟩ := rpd_uncons h
    rw [qv,qv]
    by_cases e:k'=j
    · rw [if_pos (show keyD (k,d).1=some j by rw [hk,e]),if_pos (show ((k',v):Key×V).1=j from e)]
      exact rpd_cons hk h' (Rpd.map h' h3)
    · rw [if_neg (show ¬ keyD (k,d).1=some j from fun z => e (by rw [hk] at z;exact qP z)),if_neg (show ¬ ((k',v):Key×V).1=j from e)]
      exact rpd_cons hk h2 (Rpd.map h' h3)
theorem Rpd.snoc {H:Hp} {k d:PyData} {k':Key} {v:V} (hk:keyD k=some k') (h':Rp H d v):∀ {kvs:List (PyData×PyData)} {ps:List (Key×V)},Rpd H kvs ps→Rpd H (kvs++[(k,d)]) (ps++[(k',v)])
  | [],ps,h => by unfold Rpd at h;subst h;exact rpd_cons hk h' rpd_nil
  | (k0,d0)::r,ps,h => by
    obtain ⟨k1,v1,vs,rfl,hk1,h2,h3⟩ := rpd_uncons h
    exact rpd_cons hk1 h2 (Rpd.snoc hk h' h3)
theorem Rpd.put {H:Hp} {k d:PyData} {j:Key} {v:V} {kvs:List (PyData×PyData)} {ps:List (Key×V)} (h:Rpd H kvs ps) (hk:keyD k=some j) (h':Rp H d v):Rpd H (dputD kvs k d) (putK ps j v) := by
  unfold dputD putK
  rw [hk,h.any]
  split
  · exact h.map h'
  · exact h.snoc hk h'
theorem Rpd.merge {H:Hp}:∀ {more:List (PyData×PyData)} {ps:List (Key×V)} {kvs:List (PyData×PyData)} {qs:List (Key×V)},Rpd H kvs qs→Rpd H more ps→Rpd H (dmergeD kvs more) (mergeK qs ps)
  | [],ps,kvs,qs,h,g => by unfold Rpd at g;subst g;exact h
  | (k,d)::r,ps,kvs,qs,h,g => by
    obtain ⟨k',v,vs,rfl,hk,h2,h3⟩ := rpd_uncons g
    show Rpd H (dmergeD (dputD kvs k d) r) (mergeK (putK qs k' v) vs)
    exact Rpd.merge (h.put hk h2) h3
theorem key_v {H:Hp} {d:PyData} {v:V} {k:Key} (h:Rp H d v) (e:keyD d=some k):v=kV k := by
  cases d<;>first
    | (cases e;unfold Rp at h;exact h)
    | cases e
noncomputable def tBool (f:EF):TF := fun env => (f env).bind fun r => match r.d with|.bool b => some b|_ => none
theorem st_b {te:TE} {f:EF} (h:SE te f):ST (tB te) (tBool f) := by
  intro fx H0 env σ H hE b hb Q q
  unfold tBool at hb
  obtain ⟨⟨d,fr,bs⟩,e,hb⟩ := qA.mp hb
  cases d with
  | bool c =>
    have hb:some c=some b := hb
    cases hb
    exact h fx H0 env σ H hE _ e _ fun v H' s v1 => ⟨_,rp_bool v1.rp,q H' s⟩
  | _ => cases hb
theorem st_t {te:TE} {f:EF} (h:SE te f):ST (tTest te) (tBool f) := st_b h
noncomputable def truD:PyData→Option Bool
  | .none => some false
  | .bool b => some b
  | .int i => some (i != 0)
  | .str x => if x.length≤100000 then some ((x.length:Int) != 0) else none
  | .list ds => some (!ds.isEmpty)
  | .tuple ds => some (!ds.isEmpty)
  | .dict ds => some (!ds.isEmpty)
noncomputable def tTru (f:EF):TF := fun env => (f env).bind fun r => truD r.d
theorem isEmpty_len {α β:Type} {xs:List α} {ys:List β} (h:xs.length=ys.length):xs.isEmpty=ys.isEmpty := by
  cases xs<;>cases ys<;>simp at h<;>rfl
theorem tru_v {K:qB} {H:Hp} {d:PyData} {v:V} {b:Bool} (h:Rp H d v) (e:truD d=some b):TruV K v H b := by
  cases d with
  | none => cases e;cases rp_none h;rfl
  | bool c => cases e;cases rp_bool h;rfl
  | int i => cases e;cases rp_int h;rfl
  | str x =>
    have e:(if x.length≤100000 then some ((x.length:Int) != 0) else none)=some b := e
    split at e
    · rename_i hl;cases e;cases rp_str h;exact ⟨size_of hl,rfl⟩
    · cases e
  | list ds => cases e;obtain ⟨a,xs,rfl,h1,h2⟩ := rp_list h;exact .inl ⟨xs,SqL.of h1,by rw [isEmpty_len h2.length]⟩
  | tuple ds => cases e;obtain ⟨a,xs,rfl,h1,h2⟩ := rp_tuple h;exact .inr (.inl ⟨xs,SqT.of h1,by rw [isEmpty_len h2.length]⟩)
  | dict ds => cases e;obtain ⟨a,xs,rfl,h1,h2⟩ := rp_dict h;exact .inr (.inr ⟨xs,h1,by rw [isEmpty_len h2.length]⟩)
theorem st_tru {K:qB} {te:TE} {f:EF} (h:SE te f):ST (fun σ H Q => te σ H fun x H1 => ∃ k,TruV K x H1 k∧Q k H1) (tTru f) := by
  intro fx H0 env σ H hE b hb Q q
  unfold tTru at hb
  obtain ⟨r,e,hb⟩ := qA.mp hb
  exact h fx H0 env σ H hE _ e _ fun v H' s v1 => ⟨b,tru_v (Rp.same (Offs.same _ _) _ v1.rp) hb,q H' s⟩
noncomputable def tAndF (f g:TF):TF := fun env => (f env).bind fun b => if b=true then g env else some false
noncomputable def tOrF (f g:TF):TF := fun env => (f env).bind fun b => if b=true then some true else g env
noncomputable def tNotF (f:TF):TF := fun env => (f env).map fun b => !b
theorem st_and {t u:TT} {f g:TF} (h:ST t f) (k:ST u g):ST (tAnd t u) (tAndF f g) := by
  intro fx H0 env σ H hE b hb Q q
  unfold tAndF at hb
  obtain ⟨c,e,hb⟩ := qA.mp hb
  refine h fx H0 env σ H hE c e _ fun H' s => ?_
  cases c with
  | true => exact iteT (k fx H0 env σ H' (hE.up s) b hb _ fun H'' s' => q H'' (s.trans s'))
  | false => cases hb;exact iteF (q H' s)
theorem st_or {t u:TT} {f g:TF} (h:ST t f) (k:ST u g):ST (tOr t u) (tOrF f g) := by
  intro fx H0 env σ H hE b hb Q q
  unfold tOrF at hb
  obtain ⟨c,e,hb⟩ := qA.mp hb
  refine h fx H0 env σ H hE c e _ fun H' s => ?_
  cases c with
  | false => exact iteF (k fx H0 env σ H' (hE.up s) b hb _ fun H'' s' => q H'' (s.trans s'))
  | true => cases hb;exact iteT (q H' s)
theorem st_not {t:TT} {f:TF} (h:ST t f):ST (tNot t) (tNotF f) := by
  intro fx H0 env σ H hE b hb Q q
  unfold tNotF at hb
  obtain ⟨c,e,rfl⟩ := qG.mp hb
  exact h fx H0 env σ H hE c e _ fun H' s => q H' s
noncomputable def aNil:AF := fun _ => some []
noncomputable def aCons (a:EF) (r:AF):AF := fun env => (a env).bind fun x => (r env).map fun xs => x::xs
theorem sa_nil:SA tNil aNil := by
  intro fx H0 env σ H h rs hr Q q
  cases hr
  exact q [] H (Same.refl _) .nil
theorem sa_cons {te:TE} {ta:TA} {f:EF} {g:AF} (h1:SE te f) (h2:SA ta g):SA (tCons te ta) (aCons f g) := by
  intro fx H0 env σ H h rs hr Q q
  unfold aCons at hr
  obtain ⟨x,ex,hr⟩ := qA.mp hr
  obtain ⟨xs,exs,rfl⟩ := qG.mp hr
  exact h1 fx H0 env σ H h x ex _ fun v H1 s1 v1 => h2 fx H0 env σ H1 (h.up s1) xs exs _ fun vs H2 s2 vs2 => q (v::vs) H2 (s1.trans s2)
    (.cons (v1.later (Same.refl _) s2 fun _ z => z) (Paired.mapP vs2 fun _ _ z => z.later s1 (Same.refl _) fun _ y => y))
noncomputable def datas (rs:List Val):List PyData := rs.map (·.d)
noncomputable def bss (rs:List Val):List Nat := rs.flatMap (·.bs)
theorem vals_rps {fx:Addr→Prop} {env:DEnv} {σ:St} {H H':Hp}:∀ {rs:List Val} {vs:List V} {cs:List Nat},(∀ i∈bss rs,i∈cs)→Paired (fun r v => ValOk (lim fx env σ r.bs) H H' r v) rs vs→Rps (Offs (lim fx env σ cs) H') (datas rs) vs
  | _,_,_,_,.nil => rps_nil
  | r::rs,v::vs,cs,hc,.cons h t => rps_cons (Rp.same (Offs.sub (lim_sub fun i hi => hc i (qBF.mpr ⟨r,qm,hi⟩))) _ h.rp)
      (vals_rps (fun i hi => hc i (by obtain ⟨x,h1,h2⟩ := qBF.mp hi;exact qBF.mpr ⟨x,qO _ h1,h2⟩)) t)
noncomputable def eTup (f:AF):EF := fun env => (f env).bind fun rs => if rs.length≤100000 then some ⟨.tuple (datas rs),false,bss rs⟩ else none
noncomputable def eLst (f:AF):EF := fun env => (f env).bind fun rs => if rs.length≤100000 then some ⟨.list (datas rs),true,bss rs⟩ else none
theorem datas_len (rs:List Val):(datas rs).length=rs.length := by unfold datas;rw [qD]
theorem se_tup {ta:TA} {f:AF} (ha:SA ta f):SE (tTup ta) (eTup f) := by
  intro fx H0 env σ H h rr hr Q q
  unfold eTup at hr
  obtain ⟨rs,er,hr⟩ := qA.mp hr
  split at hr
  · rename_i hl
    cases hr
    refine ha fx H0 env σ H h rs er _ fun vs H1 s1 v1 => ?_
    have r := vals_rps (fun i hi => hi) v1
    have hA := (h.up s1).lims (bss rs)
    refine ⟨size_of (by rw [← r.length,datas_len];exact hl),fun p hp => q _ _ (s1.trans (Same.new hp)) ⟨new_rpT hp (off_new hA hp) r,fun z => by cases z⟩⟩
  · cases hr
theorem se_lst {ta:TA} {f:AF} (ha:SA ta f):SE (tLst ta) (eLst f) := by
  intro fx H0 env σ H h rr hr Q q
  unfold eLst at hr
  obtain ⟨rs,er,hr⟩ := qA.mp hr
  split at hr
  · rename_i hl
    cases hr
    refine ha fx H0 env σ H h rs er _ fun vs H1 s1 v1 => ?_
    have r := vals_rps (fun i hi => hi) v1
    have hA := (h.up s1).lims (bss rs)
    refine ⟨size_of (by rw [← r.length,datas_len];exact hl),fun p hp => q _ _ (s1.trans (Same.new hp)) ⟨new_rp hp (off_new hA hp) r,fun _ => ⟨p,rfl,s1.free hp,new_acc hp r⟩⟩⟩
  · cases hr
noncomputable def eDNew:EF := fun _ => some ⟨.dict [],true,[]⟩
theorem se_dnew:SE tDNewK eDNew := by
  intro fx H0 env σ H h rr hr Q q
  cases hr
  intro p hp
  have hA := h.lims []
  exact q _ _ (Same.new hp) ⟨rp_mk_dict (by rw [Offs.get (off_new hA hp)];exact upd_same) rpd_nil,fun _ => ⟨p,rfl,hp,⟨[],upd_same,rpd_nil⟩⟩⟩
noncomputable def eD1 (k v:EF):EF := fun env => (k env).bind fun x => (v env).bind fun y => (keyD x.d).bind fun _ => some ⟨.dict [(x.d,y.d)],true,y.bs⟩
theorem se_d1 {tk tv:TE} {f g:EF} (h1:SE tk f) (h2:SE tv g):SE (tDisp [(tk,tv)]) (eD1 f g) := by
  intro fx H0 env σ H h rr hr Q q
  unfold eD1 at hr
  obtain ⟨x,ex,hr⟩ := qA.mp hr
  obtain ⟨y,ey,hr⟩ := qA.mp hr
  obtain ⟨k,ek,hr⟩ := qA.mp hr
  cases hr
  intro p hp
  have hp0:Same H (upd H p (.dK [])) := Same.new hp
  have npf:¬ fx p := off_new h.fxs hp
  have hE:EnvOk (fun b => fx b∨b=p) H0 env σ (upd H p (.dK [])) := h.grow hp0 (fun b o e n z => z.elim n fun y => by rw [y,hp] at e;cases e) fun b z => by
    rcases z with z|z
    · obtain ⟨o,e⟩ := h.fxs b z;exact ⟨o,hp0 b o e⟩
    · rw [z];exact ⟨_,upd_same⟩
  refine h1 _ H0 env σ _ hE x ex _ fun v H1 s1 v1 => h2 _ H0 env σ H1 (hE.up s1) y ey _ fun u H2 s2 v2 => ?_
  have ep:H2 p=some (.dK []) := (s1.trans s2) _ _ upd_same
  refine ⟨ep,[(k,u)],by rw [key_v v1.rp ek];rfl,(by show 1≤15;decide),?_⟩
  have em:mergeK [] [(k,u)]=[(k,u)] := rfl
  rw [em]
  have rp2:Rp (Offs (fun b => lim fx env σ y.bs b∨b=p) (upd H2 p (.dK [(k,u)]))) y.d u := by
    rw [Offs.upd (.inr rfl)]
    exact Rp.same (Offs.sub fun b z => by
      rcases z with (z|z)|z
      · exact .inl (.inl z)
      · exact .inr z
      · exact .inl (.inr z)) _ v2.rp
  have hs:Same H (upd H2 p (.dK [(k,u)])) := fun b o e => by
    rw [upd_ne (ne_of_none e hp)]
    exact s2 _ _ (s1 _ _ (hp0 _ _ e))
  have hnp:¬ lim fx env σ y.bs p := off_new (h.lims y.bs) hp
  refine q _ _ hs ⟨rp_mk_dict (by rw [Offs.get hnp];exact upd_same) (rpd_cons ek (Rp.same (Offs.sub fun b z => .inl z) _ rp2) rpd_nil),fun _ => ⟨p,rfl,hp,⟨_,upd_same,rpd_cons ek rp2 rpd_nil⟩⟩⟩
noncomputable abbrev GF := List PyData→Option (PyData×Bool)
noncomputable def SC (r:List V→Hp→VK→Prop) (g:GF):Prop := ∀ (A:Addr→Prop) (H:Hp) (vs:List V) (ds:List PyData),(∀ b,A b→∃ o,H b=some o)→Rps (Offs A H) ds vs→∀ d fr,g ds=some (d,fr)→∀ Q:VK,
  (∀ v H',Same H H'→Rp (Offs A H') d v→(fr=true→∃ a,v=.ref a∧H a=none∧AccAt (Offs (fun b => A b∨b=a) H') H' a d)→Q v H')→r vs H Q
noncomputable def eCB (g:GF) (f:AF):EF := fun env => (f env).bind fun rs => (g (datas rs)).bind fun z => some ⟨z.1,z.2,bsOf z.1 (bss rs)⟩
theorem se_cb {r:List V→Hp→VK→Prop} {g:GF} {ta:TA} {f:AF} (hc:SC r g) (ha:SA ta f):SE (tCB r ta) (eCB g f) := by
  intro fx H0 env σ H h rr hr Q q
  unfold eCB at hr
  obtain ⟨rs,er,hr⟩ := qA.mp hr
  obtain ⟨⟨d,fr⟩,ez,hr⟩ := qA.mp hr
  cases hr
  refine ha fx H0 env σ H h rs er _ fun vs H1 s1 v1 => hc (lim fx env σ (bss rs)) H1 vs (datas rs) ((h.up s1).lims _) (vals_rps (fun i hi => hi) v1) d fr ez _ fun w H3 s3 rp fr3 => q w H3 (s1.trans s3) ⟨rp_bsOf rp,fun e => ?_⟩
  obtain ⟨a,g1,g2,g3⟩ := fr3 e
  refine ⟨a,g1,s1.free g2,?_⟩
  have nf:flatD d=false := by cases d<;>first|rfl|exact g3.elim
  show AccAt (Offs (fun b => lim fx env σ (bsOf d (bss rs)) b∨b=a) H3) H3 a d
  rw [show bsOf d (bss rs)=bss rs by unfold bsOf;rw [if_neg (by rw [nf];decide)]]
  exact g3
theorem rps1 {H:Hp} {d:PyData} {vs:List V} (h:Rps H [d] vs):∃ v,vs=[v]∧Rp H d v := by
  unfold Rps at h
  obtain ⟨v,ws,rfl,h1,h2⟩ := h
  unfold Rps at h2
  subst h2
  exact ⟨v,rfl,h1⟩
theorem rps2 {H:Hp} {d e:PyData} {vs:List V} (h:Rps H [d,e] vs):∃ v u,vs=[v,u]∧Rp H d v∧Rp H e u := by
  unfold Rps at h
  obtain ⟨v,ws,rfl,h1,h2⟩ := h
  obtain ⟨u,rfl,h3⟩ := rps1 h2
  exact ⟨v,u,rfl,h1,h3⟩
noncomputable def lenD:GF
  | [.str x] => if x.length≤100000 then some (.int x.length,false) else none
  | [.list ds] => some (.int ds.length,false)
  | [.tuple ds] => some (.int ds.length,false)
  | _ => none
theorem sc_len {K:qB}:SC (fun xs H Q => ∃ x n,xs=[x]∧LenV K x H n∧Q (.int n) H) lenD := by
  intro A H vs ds hA rv d fr e Q q
  unfold lenD at e
  split at e
  · split at e
    · rename_i hl
      cases e
      obtain ⟨v,rfl,r⟩ := rps1 rv
      cases rp_str r
      exact ⟨_,_,rfl,⟨size_of hl,rfl⟩,q _ H (Same.refl _) rp_mk_int (fun z => by cases z)⟩
    · cases e
  · cases e
    obtain ⟨v,rfl,r⟩ := rps1 rv
    obtain ⟨a,xs,rfl,h1,h2⟩ := rp_list r
    exact ⟨_,_,rfl,.inl ⟨xs,SqL.of (off_at h1),rfl⟩,by rw [← h2.length];exact q _ H (Same.refl _) rp_mk_int (fun z => by cases z)⟩
  · cases e
    obtain ⟨v,rfl,r⟩ := rps1 rv
    obtain ⟨a,xs,rfl,h1,h2⟩ := rp_tuple r
    exact ⟨_,_,rfl,.inr ⟨xs,SqT.of (off_at h1),rfl⟩,by rw [← h2.length];exact q _ H (Same.refl _) rp_mk_int (fun z => by cases z)⟩
  · cases e
noncomputable def minD:GF
  | [.int i,.int j] => some (.int (if j<i then j else i),false)
  | _ => none
theorem sc_min:SC (fun xs H Q => ∃ i j,xs=[.int i,.int j]∧Q (.int (if j<i then j else i)) H) minD := by
  intro A H vs ds hA rv d fr e Q q
  unfold minD at e
  split at e
  · cases e
    obtain ⟨v,u,rfl,r1,r2⟩ := rps2 rv
    cases rp_int r1;cases rp_int r2
    exact ⟨_,_,rfl,q _ H (Same.refl _) rp_mk_int (fun z => by cases z)⟩
  · cases e
noncomputable def absD:GF
  | [.int i] => some (.int (if i<0 then -i else i),false)
  | _ => none
theorem sc_abs:SC (fun xs H Q => ∃ i,xs=[.int i]∧Q (.int (if i<0 then -i else i)) H) absD := by
  intro A H vs ds hA rv d fr e Q q
  unfold absD at e
  split at e
  · cases e
    obtain ⟨v,rfl,r1⟩ := rps1 rv
    cases rp_int r1
    exact ⟨_,rfl,q _ H (Same.refl _) rp_mk_int (fun z => by cases z)⟩
  · cases e
noncomputable def listD:GF
  | [c] => (itemsD c).map fun ds => (.list ds,true)
  | _ => none
theorem sc_list {K:qB}:SC (fun xs H Q => ∃ p ys,xs=[.ref p]∧(SqL K H p ys∨SqT K H p ys)∧∀ l,H l=none→Q (.ref l) (upd H l (.lst ys))) listD := by
  intro A H vs ds hA rv d fr e Q q
  unfold listD at e
  split at e
  · obtain ⟨es,he,e⟩ := qG.mp e
    cases e
    obtain ⟨v,rfl,r1⟩ := rps1 rv
    obtain ⟨p,xs,rfl,hq,r⟩ := rp_items (K := K) r1 he
    refine ⟨p,xs,rfl,hq.imp (Offs.same A H).seq (SqT.same (Offs.same A H)),fun l hl => ?_⟩
    exact q _ _ (Same.new hl) (new_rp hl (off_new hA hl) r) fun _ => ⟨l,rfl,hl,new_acc hl r⟩
  · cases e
noncomputable def tupleD:GF
  | [c] => (itemsD c).map fun ds => (.tuple ds,false)
  | _ => none
theorem sc_tuple {K:qB}:SC (fun xs H Q => ∃ p ys,xs=[.ref p]∧((SqL K H p ys∧∀ l,H l=none→Q (.ref l) (upd H l (.tup ys)))∨(SqT K H p ys∧Q (.ref p) H))) tupleD := by
  intro A H vs ds hA rv d fr e Q q
  unfold tupleD at e
  split at e
  · obtain ⟨es,he,e⟩ := qG.mp e
    cases e
    obtain ⟨v,rfl,r1⟩ := rps1 rv
    rename_i c
    cases c with
    | list ds =>
      cases he
      obtain ⟨p,xs,rfl,h1,r⟩ := rp_list r1
      exact ⟨p,xs,rfl,.inl ⟨SqL.of (off_at h1),fun l hl => q _ _ (Same.new hl) (new_rpT hl (off_new hA hl) r) (fun z => by cases z)⟩⟩
    | tuple ds =>
      cases he
      obtain ⟨p,xs,rfl,h1,r⟩ := rp_tuple r1
      exact ⟨p,xs,rfl,.inr ⟨SqT.of (off_at h1),q _ H (Same.refl _) r1 (fun z => by cases z)⟩⟩
    | _ => cases he
  · cases e
noncomputable def boolsD:List PyData→Option (List Bool)
  | [] => some []
  | .bool b::r => (boolsD r).map fun bs => b::bs
  | _ => none
theorem rps_bools {H:Hp}:∀ {ds:List PyData} {vs:List V} {bs:List Bool},Rps H ds vs→boolsD ds=some bs→vs=bs.map V.bl
  | [],vs,bs,h,e => by unfold Rps at h;cases e;exact h
  | d::ds,vs,bs,h,e => by
    unfold Rps at h
    obtain ⟨v,ws,rfl,h1,h2⟩ := h
    cases d with
    | bool b =>
      obtain ⟨cs,ec,rfl⟩ := qG.mp e
      rw [rp_bool h1,rps_bools h2 ec];rfl
    | _ => cases e
noncomputable def anyD (f:List Bool→Bool):GF
  | [.list ds] => (boolsD ds).map fun bs => (.bool (f bs),false)
  | _ => none
theorem sc_any {K:qB} {f:List Bool→Bool}:SC (rAny K f) (anyD f) := by
  intro A H vs ds hA rv d fr e Q q
  unfold anyD at e
  split at e
  · obtain ⟨bs,he,e⟩ := qG.mp e
    cases e
    obtain ⟨v,rfl,r1⟩ := rps1 rv
    obtain ⟨p,xs,rfl,h1,r⟩ := rp_list r1
    cases rps_bools r he
    exact ⟨p,bs,rfl,SqL.of (off_at h1),q _ H (Same.refl _) rp_mk_bool (fun z => by cases z)⟩
  · cases e
noncomputable def tyName:PyData→String
  | .none => "NoneType" | .bool _ => "bool" | .int _ => "int" | .str _ => "str" | .list _ => "list" | .tuple _ => "tuple" | .dict _ => "dict"
theorem rp_ty {K:qB} {H:Hp} {d:PyData} {v:V} (h:Rp H d v):TyOf K H v (.type (tyName d)) := by
  cases d with
  | list ds => obtain ⟨a,xs,rfl,h1,_⟩ := rp_list h;exact .lst h1
  | tuple ds => obtain ⟨a,xs,rfl,h1,_⟩ := rp_tuple h;exact .tup h1
  | dict ds => obtain ⟨a,xs,rfl,h1,_⟩ := rp_dict h;exact .dK h1
  | none => cases rp_none h;exact .non
  | bool b => cases rp_bool h;exact .bl _
  | int b => cases rp_int h;exact .int _
  | str b => cases rp_str h;exact .str _
noncomputable def isiB (n:String) (d:PyData):Bool := tyName d==n||(tyName d == "bool" && n == "int")
noncomputable def eIsi (n:String) (a:EF):EF := fun env => (a env).map fun x => ⟨.bool (isiB n x.d),false,[]⟩
theorem se_isi {K:qB} {n:String} {te:TE} {f:EF} (h1:SE te f) (hk:∀ d,PySem.W.kitOne K (.type (tyName d)) (.type n)=some (isiB n d)) :
    SE (tCB (fun xs H Q => ∃ x n t b,xs=[x,.ty n]∧TyOf K H x t∧PySem.W.kitOne K t (.type n)=some b∧Q (.bl b) H) (tCons te (tCons (tC (.ty n)) tNil))) (eIsi n f) := by
  intro fx H0 env σ H h rr hr Q q
  unfold eIsi at hr
  obtain ⟨x,ex,rfl⟩ := qG.mp hr
  refine h1 fx H0 env σ H h _ ex _ fun v H1 s1 v1 => ?_
  exact ⟨v,n,_,_,rfl,rp_ty (Rp.same (Offs.same _ _) _ v1.rp),hk _,q _ H1 s1 ⟨rp_mk_bool,fun z => by cases z⟩⟩
theorem kit_tuple {K:qB}:∀ d,PySem.W.kitOne K (.type (tyName d)) (.type "tuple")=some (isiB "tuple" d) := by intro d;cases d<;>rfl
theorem kit_bool {K:qB}:∀ d,PySem.W.kitOne K (.type (tyName d)) (.type "bool")=some (isiB "bool" d) := by intro d;cases d<;>rfl
noncomputable abbrev PF' := DEnv→Option (Option Int)
noncomputable def SPt (t:TO) (f:PF'):Prop := ∀ (fx:Addr→Prop) (H0:Hp) (env:DEnv) (σ:St) (H:Hp),EnvOk fx H0 env σ H→∀ r,f env=some r→∀ Q:Option Int→Hp→Prop,(∀ H',Same H H'→Q r H')→t σ H Q
noncomputable def pNone:PF' := fun _ => some none
noncomputable def pSome (a:EF):PF' := fun env => (a env).bind fun x => match x.d with|.int i => some (some i)|_ => none
theorem sp_none:SPt tNoPart pNone := by
  intro fx H0 env σ H h r hr Q q
  cases hr
  exact q H (Same.refl _)
theorem sp_some {te:TE} {f:EF} (h1:SE te f):SPt (tPart te) (pSome f) := by
  intro fx H0 env σ H h r hr Q q
  unfold pSome at hr
  obtain ⟨⟨d,fr,bs⟩,ex,hr⟩ := qA.mp hr
  cases d with
  | int i =>
    cases hr
    exact h1 fx H0 env σ H h _ ex _ fun v H1 s1 v1 => ⟨i,rp_int v1.rp,q H1 s1⟩
  | _ => cases hr
noncomputable def cutD (xs:List PyData) (lo hi:Option Int):List PyData := (xs.drop (HT.sIx xs.length 0 lo)).take (HT.sIx xs.length xs.length hi - HT.sIx xs.length 0 lo)
theorem Rps.drop {H:Hp} {ds:List PyData} {vs:List V} (h:Rps H ds vs) (n:Nat):Rps H (ds.drop n) (vs.drop n) := by
  induction n generalizing ds vs with
  | zero => exact h
  | succ n ih =>
    cases ds with
    | nil => unfold Rps at h;subst h;exact rps_nil
    | cons d ds => unfold Rps at h;obtain ⟨v,ws,rfl,h1,h2⟩ := h;exact ih h2
theorem Rps.take {H:Hp} {ds:List PyData} {vs:List V} (h:Rps H ds vs) (n:Nat):Rps H (ds.take n) (vs.take n) := by
  induction n generalizing ds vs with
  | zero => exact rps_nil
  | succ n ih =>
    cases ds with
    | nil => unfold Rps at h;subst h;exact rps_nil
    | cons d ds => unfold Rps at h;obtain ⟨v,ws,rfl,h1,h2⟩ := h;exact rps_cons h1 (ih h2)
theorem Rps.cut {H:Hp} {ds:List PyData} {vs:List V} (h:Rps H ds vs) (lo hi:Option Int):Rps H (cutD ds lo hi) (cutV vs lo hi) := by
  unfold cutD cutV
  rw [← h.length]
  exact (h.drop _).take _
noncomputable def slD (d:PyData) (lo hi:Option Int):Option (PyData×Bool) := match d with
  | .str z => if z.length≤100000 then some (.str (Txt.slice z lo hi),false) else none
  | .list ds => some (.list (cutD ds lo hi),true)
  | _ => none
noncomputable def eSl (a:EF) (l h:PF'):EF := fun env => (a env).bind fun x => (l env).bind fun lo => (h env).bind fun hi => (slD x.d lo hi).bind fun z => some ⟨z.1,z.2,bsOf z.1 x.bs⟩
theorem se_sl {K:qB} {te:TE} {tl th:TO} {f:EF} {fl fh:PF'} (h1:SE te f) (h2:SPt tl fl) (h3:SPt th fh):SE (tSl (rSlU K) te tl th) (eSl f fl fh) := by
  intro fx H0 env σ H h rr hr Q q
  unfold eSl at hr
  obtain ⟨⟨d,frd,bs⟩,ex,hr⟩ := qA.mp hr
  obtain ⟨lo,el,hr⟩ := qA.mp hr
  obtain ⟨hi,eh,hr⟩ := qA.mp hr
  obtain ⟨⟨d',fr'⟩,ez,hr⟩ := qA.mp hr
  cases hr
  refine h1 fx H0 env σ H h _ ex _ fun v H1 s1 v1 => h2 fx H0 env σ H1 (h.up s1) _ el _ fun H2 s2 => h3 fx H0 env σ H2 (h.up (s1.trans s2)) _ eh _ fun H3 s3 => ?_
  have v3 := (v1.later (Same.refl _) (s2.trans s3) fun _ z => z).rp
  have t3 := (s1.trans s2).trans s3
  cases d with
  | str z =>
    have ez:(if z.length≤100000 then some (PyData.str (Txt.slice z lo hi),false) else none)=some (d',fr') := ez
    split at ez
    · rename_i hl
      cases ez
      cases rp_str v3
      exact ⟨size_of hl,q _ H3 t3 ⟨rp_mk_str,fun z => by cases z⟩⟩
    · cases ez
  | list ds =>
    cases ez
    obtain ⟨p,xs,rfl,hp,r⟩ := rp_list v3
    refine ⟨p,xs,rfl,SqL.of (off_at hp),fun l hl => q _ _ (t3.trans (Same.new hl)) ?_⟩
    have hA := (h.up t3).lims bs
    exact ⟨new_rp hl (off_new hA hl) (r.cut lo hi),fun _ => ⟨l,rfl,t3.free hl,new_acc hl (r.cut lo hi)⟩⟩
  | _ => cases ez
noncomputable def RetOk (fx:Addr→Prop) (H0:Hp) (d:PyData) (fr:Bool) (v:V) (H:Hp):Prop := Rp (Offs fx H) d v∧(fr=true→∃ a,v=.ref a∧H0 a=none∧AccAt (Offs (fun b => fx b∨b=a) H) H a d)
noncomputable def spD (n:Nat) (g:GF):Sp := fun vs H Q _ => ∃ (fx:Addr→Prop) (ds:List PyData) (d:PyData) (fr:Bool),ds.length=n∧(∀ b,fx b→∃ o,H b=some o)∧Rps (Offs fx H) ds vs∧g ds=some (d,fr)∧∀ v H',Same H H'→RetOk fx H d fr v H'→Q v H'
noncomputable def eCall (n:Nat) (g:GF) (f:AF):EF := fun env => (f env).bind fun rs => if rs.length=n then (g (datas rs)).bind fun z => some ⟨z.1,z.2,bsOf z.1 (bss rs)⟩ else none
theorem se_call {n:Nat} {g:GF} {ta:TA} {f:AF} (ha:SA ta f):SE (tCall (spD n g) [] E0 ta) (eCall n g f) := by
  intro fx H0 env σ H h rr hr Q q
  unfold eCall at hr
  obtain ⟨rs,er,hr⟩ := qA.mp hr
  split at hr
  · rename_i hn
    obtain ⟨⟨d,fr⟩,ez,hr⟩ := qA.mp hr
    cases hr
    refine ha fx H0 env σ H h rs er _ fun vs H1 s1 v1 => ?_
    rw [qAH]
    refine ⟨lim fx env σ (bss rs),datas rs,d,fr,by rw [datas_len];exact hn,(h.up s1).lims _,vals_rps (fun i hi => hi) v1,ez,fun w H3 s3 ⟨rp,fr3⟩ => q w H3 (s1.trans s3) ⟨rp_bsOf rp,fun e => ?_⟩⟩
    obtain ⟨a,g1,g2,g3⟩ := fr3 e
    refine ⟨a,g1,s1.free g2,?_⟩
    have nf:flatD d=false := by cases d<;>first|rfl|exact g3.elim
    show AccAt (Offs (fun b => lim fx env σ (bsOf d (bss rs)) b∨b=a) H3) H3 a d
    rw [show bsOf d (bss rs)=bss rs by unfold bsOf;rw [if_neg (by rw [nf];decide)]]
    exact g3
  · cases hr
inductive Out where
  | nx (env:DEnv)
  | bk (env:DEnv)
  | ct (env:DEnv)
  | rt (d:PyData) (fr:Bool)
noncomputable def Sat (fx:Addr→Prop) (H0:Hp) (D:Ends):Out→Prop
  | .nx env => ∀ σ H,EnvOk fx H0 env σ H→D.nx σ H
  | .bk env => ∀ σ H,EnvOk fx H0 env σ H→D.bk σ H
  | .ct env => ∀ σ H,EnvOk fx H0 env σ H→D.ct σ H
  | .rt d fr => ∀ v H,Same H0 H→RetOk fx H0 d fr v H→D.rt v H
noncomputable abbrev SF := DEnv→Option Out
noncomputable def SS (ts:TS) (F:SF):Prop := ∀ (fx:Addr→Prop) (H0:Hp) (env:DEnv) (σ:St) (H:Hp) (D:Ends),EnvOk fx H0 env σ H→∀ o,F env=some o→Sat fx H0 D o→ts D σ H
noncomputable def frz1 (env:DEnv) (i:Nat):DEnv := match env[i]? with
  | some (.ac d) => env.set i (.pl d)
  | _ => env
noncomputable def frzs (env:DEnv) (bs:List Nat):DEnv := bs.foldl frz1 env
theorem frz1_len (env:DEnv) (i:Nat):(frz1 env i).length=env.length := by
  unfold frz1;split
  · rw [qj]
  · rfl
theorem set_get {α:Type} {l:List α} {i j:Nat} {x y:α} (h:(l.set i x)[j]?=some y):(j=i∧y=x)∨(j≠i∧l[j]?=some y) := by
  rw [List.getElem?_set] at h
  by_cases e:i=j
  · subst e
    rw [if_pos rfl] at h
    split at h
    · exact .inl ⟨rfl,(qP h).symm⟩
    · cases h
  · rw [if_neg e] at h
    exact .inr ⟨fun z => e z.symm,h⟩
theorem frz1_ac {env:DEnv} {i j:Nat} {d:PyData} (h:(frz1 env i)[j]?=some (.ac d)):env[j]?=some (.ac d)∧j≠i := by
  unfold frz1 at h
  split at h
  · rcases set_get h with ⟨_,e⟩|⟨e,h⟩
    · cases e
    · exact ⟨h,e⟩
  · rename_i hn
    refine ⟨h,fun e => ?_⟩
    subst e
    exact hn d h
theorem frz1_pl {env:DEnv} {i j:Nat} {d:PyData} (h:(frz1 env i)[j]?=some (.pl d)):env[j]?=some (.pl d)∨(j=i∧env[i]?=some (.ac d)) := by
  unfold frz1 at h
  split at h
  · rename_i d' hd
    rcases set_get h with ⟨e1,e⟩|⟨e,h⟩
    · cases e;exact .inr ⟨e1,hd⟩
    · exact .inl h
  · exact .inl h
theorem frz1_own {env:DEnv} {σ:St} {i:Nat}:∀ a,own (frz1 env i) σ a→own env σ a := by
  rintro a ⟨j,d,h1,h2⟩
  exact ⟨j,d,(frz1_ac h1).1,h2⟩
theorem EnvOk.frz1 {fx:Addr→Prop} {H0:Hp} {env:DEnv} {σ:St} {H:Hp} (h:EnvOk fx H0 env σ H) (i:Nat):EnvOk fx H0 (frz1 env i) σ H := by
  have so:Same (Offs (fun a => fx a∨own env σ a) H) (Offs (fun a => fx a∨own (L2.frz1 env i) σ a) H) := Offs.sub fun b z => z.imp (fun y => y) (frz1_own b)
  refine ⟨by rw [frz1_len];exact h.len,fun j d e => ?_,fun j d e => ?_,fun j k d d' a h1 h2 h3 h4 => h.inj j k d d' a (frz1_ac h1).1 (frz1_ac h2).1 h3 h4,h.base,h.fxs⟩
  · rcases frz1_pl e with e|⟨rfl,e⟩
    · obtain ⟨v,h1,h2⟩ := h.pl j d e
      exact ⟨v,h1,Rp.same so _ h2⟩
    · obtain ⟨a,h1,h2,h3,h4⟩ := h.ac j d e
      refine ⟨_,h1,h4.rp so fun o eo => ?_⟩
      rw [Offs.get]
      · exact eo
      · rintro (z|⟨k,d',z1,z2⟩)
        · exact h3 z
        · obtain ⟨z1,z3⟩ := frz1_ac z1
          exact z3 (h.inj k j d' d a z1 e z2 h1)
  · obtain ⟨a,h1,h2,h3,h4⟩ := h.ac j d (frz1_ac e).1
    exact ⟨a,h1,h2,h3,h4.same so fun o z => z⟩
theorem EnvOk.frzs {fx:Addr→Prop} {H0:Hp} {σ:St} {H:Hp}:∀ (bs:List Nat) {env:DEnv},EnvOk fx H0 env σ H→EnvOk fx H0 (frzs env bs) σ H
  | [],_,h => h
  | i::bs,_,h => EnvOk.frzs bs (h.frz1 i)
theorem frzs_ac:∀ {bs:List Nat} {env:DEnv} {j:Nat} {d:PyData},(frzs env bs)[j]?=some (.ac d)→env[j]?=some (.ac d)∧j∉bs
  | [],_,_,_,h => ⟨h,by simp⟩
  | i::bs,env,j,d,h => by
    obtain ⟨h1,h2⟩ := frzs_ac (bs := bs) h
    obtain ⟨h3,h4⟩ := frz1_ac h1
    exact ⟨h3,by simp [h4,h2]⟩
theorem frzs_lim {fx:Addr→Prop} {env:DEnv} {σ:St} {bs:List Nat}:∀ a,fx a∨own (frzs env bs) σ a→lim fx env σ bs a := by
  rintro a (z|⟨i,d,h1,h2⟩)
  · exact .inl z
  · obtain ⟨h3,h4⟩ := frzs_ac h1
    exact .inr ⟨i,d,h4,h3,h2⟩
theorem set_own {env:DEnv} {σ:St} {i:Nat} {d:PyData} {v:V}:∀ a,own (env.set i (.pl d)) (σ.set i (some v)) a→own env σ a := by
  rintro a ⟨j,e,h1,h2⟩
  rcases set_get h1 with ⟨_,z⟩|⟨ne,h1⟩
  · cases z
  · rcases set_get h2 with ⟨z,_⟩|⟨_,h2⟩
    · exact absurd z ne
    · exact ⟨j,e,h1,h2⟩
theorem EnvOk.setPl {fx:Addr→Prop} {H0:Hp} {env:DEnv} {σ:St} {H:Hp} (h:EnvOk fx H0 env σ H) (i:Nat) {d:PyData} {v:V} (r:Rp (Offs (fun a => fx a∨own env σ a) H) d v):EnvOk fx H0 (env.set i (.pl d)) (σ.set i (some v)) H := by
  have so:Same (Offs (fun a => fx a∨own env σ a) H) (Offs (fun a => fx a∨own (env.set i (.pl d)) (σ.set i (some v)) a) H) := Offs.sub fun b z => z.imp (fun y => y) (set_own b)
  have kept:∀ {j:Nat},j≠i→(σ.set i (some v))[j]?=σ[j]? := fun {j} n => qU fun z => n z.symm
  refine ⟨by rw [qj,qj];exact h.len,fun j e hj => ?_,fun j e hj => ?_,fun j k d1 d2 a h1 h2 h3 h4 => ?_,h.base,h.fxs⟩
  · rcases set_get hj with ⟨rfl,z⟩|⟨ne,hj'⟩
    · cases z
      have hl:j<env.length := by have := (qQ.mp hj).1;rwa [qj] at this
      exact ⟨v,by rw [qe (by rw [← h.len];exact hl)],Rp.same so _ r⟩
    · obtain ⟨u,h1,h2⟩ := h.pl j e hj'
      exact ⟨u,by rw [kept ne];exact h1,Rp.same so _ h2⟩
  · rcases set_get hj with ⟨_,z⟩|⟨ne,hj'⟩
    · cases z
    · obtain ⟨a,h1,h2,h3,h4⟩ := h.ac j e hj'
      exact ⟨a,by rw [kept ne];exact h1,h2,h3,h4.same so fun o z => z⟩
  · rcases set_get h1 with ⟨_,z⟩|⟨n1,h1⟩
    · cases z
    rcases set_get h2 with ⟨_,z⟩|⟨n2,h2⟩
    · cases z
    rw [kept n1] at h3
    rw [kept n2] at h4
    exact h.inj j k d1 d2 a h1 h2 h3 h4
theorem EnvOk.setAc {fx:Addr→Prop} {H0:Hp} {env:DEnv} {σ:St} {H:Hp} {a:Addr} (h:EnvOk (fun b => fx b∨b=a) H0 env σ H) (i:Nat) {d:PyData} (r:AccAt (Offs (fun b => (fx b∨own env σ b)∨b=a) H) H a d) (h0:H0 a=none) (hf:¬ fx a) :
    EnvOk fx H0 (env.set i (.ac d)) (σ.set i (some (.ref a))) H := by
  have kept:∀ {j:Nat},j≠i→(σ.set i (some (V.ref a)))[j]?=σ[j]? := fun {j} n => qU fun z => n z.symm
  have sub:∀ b,fx b∨own (env.set i (.ac d)) (σ.set i (some (.ref a))) b→(fx b∨b=a)∨own env σ b := by
    rintro b (z|⟨j,e,h1,h2⟩)
    · exact .inl (.inl z)
    · rcases set_get h1 with ⟨rfl,z⟩|⟨ne,h1⟩
      · have hl:j<env.length := by have := (qQ.mp ‹(env.set j (.ac d))[j]?=_›).1;rwa [qj] at this
        rw [qe (by rw [← h.len];exact hl)] at h2
        cases h2
        exact .inl (.inr rfl)
      · rw [kept ne] at h2
        exact .inr ⟨j,e,h1,h2⟩
  have so:Same (Offs (fun b => (fx b∨b=a)∨own env σ b) H) (Offs (fun b => fx b∨own (env.set i (.ac d)) (σ.set i (some (.ref a))) b) H) := Offs.sub sub
  have so2:Same (Offs (fun b => (fx b∨own env σ b)∨b=a) H) (Offs (fun b => fx b∨own (env.set i (.ac d)) (σ.set i (some (.ref a))) b) H) := Offs.sub fun b z => by
    rcases sub b z with (y|y)|y
    · exact .inl (.inl y)
    · exact .inr y
    · exact .inl (.inr y)
  refine ⟨by rw [qj,qj];exact h.len,fun j e hj => ?_,fun j e hj => ?_,fun j k d1 d2 b h1 h2 h3 h4 => ?_,h.base,fun b z => h.fxs b (.inl z)⟩
  · rcases set_get hj with ⟨_,z⟩|⟨ne,hj'⟩
    · cases z
    · obtain ⟨u,h1,h2⟩ := h.pl j e hj'
      exact ⟨u,by rw [kept ne];exact h1,Rp.same so _ h2⟩
  · rcases set_get hj with ⟨rfl,z⟩|⟨ne,hj'⟩
    · cases z
      have hl:j<env.length := by have := (qQ.mp hj).1;rwa [qj] at this
      exact ⟨a,by rw [qe (by rw [← h.len];exact hl)],h0,hf,r.same so2 fun o z => z⟩
    · obtain ⟨b,h1,h2,h3,h4⟩ := h.ac j e hj'
      exact ⟨b,by rw [kept ne];exact h1,h2,fun z => h3 (.inl z),h4.same so fun o z => z⟩
  · rcases set_get h1 with ⟨e1,z1⟩|⟨n1,h1'⟩<;>rcases set_get h2 with ⟨e2,z2⟩|⟨n2,h2'⟩
    · rw [e1,e2]
    · subst e1
      have hl:j<env.length := by have := (qQ.mp h1).1;rwa [qj] at this
      rw [qe (by rw [← h.len];exact hl)] at h3
      rw [kept n2] at h4
      cases h3
      obtain ⟨b,g1,g2,g3,g4⟩ := h.ac k d2 h2'
      rw [h4] at g1
      cases g1
      exact absurd (.inr rfl) g3
    · subst e2
      have hl:k<env.length := by have := (qQ.mp h2).1;rwa [qj] at this
      rw [qe (by rw [← h.len];exact hl)] at h4
      rw [kept n1] at h3
      cases h4
      obtain ⟨b,g1,g2,g3,g4⟩ := h.ac j d1 h1'
      rw [h3] at g1
      cases g1
      exact absurd (.inr rfl) g3
    · rw [kept n1] at h3
      rw [kept n2] at h4
      exact h.inj j k d1 d2 b h1' h2' h3 h4
noncomputable def slOf (r:Val):Sl := if r.fr=true then .ac r.d else .pl r.d
noncomputable def putV (env:DEnv) (i:Nat) (r:Val):DEnv := (frzs env r.bs).set i (slOf r)
theorem EnvOk.put {fx:Addr→Prop} {H0:Hp} {env:DEnv} {σ:St} {H H':Hp} (h:EnvOk fx H0 env σ H) (s:Same H H') {r:Val} {v:V} (hv:ValOk (lim fx env σ r.bs) H H' r v) (i:Nat):EnvOk fx H0 (putV env i r) (σ.set i (some v)) H' := by
  unfold putV slOf
  cases e:r.fr with
  | false =>
    rw [if_neg qI]
    exact ((h.up s).frzs r.bs).setPl i (Rp.same (Offs.sub frzs_lim) _ hv.rp)
  | true =>
    rw [if_pos rfl]
    obtain ⟨a,rfl,ha,hacc⟩ := hv.fr e
    have nfx:¬ fx a := off_new h.fxs ha
    have g:EnvOk (fun b => fx b∨b=a) H0 env σ H' := h.grow s (fun b o eo n z => z.elim n fun y => by rw [y,ha] at eo;cases eo) fun b z => by
      rcases z with z|z
      · obtain ⟨o,eo⟩ := h.fxs b z;exact ⟨o,s b o eo⟩
      · rw [z];exact hacc.ex
    refine (g.frzs r.bs).setAc i (hacc.same (Offs.sub fun b z => ?_) fun o z => z) (h.base.free ha) nfx
    rcases z with z|z
    · exact .inl (frzs_lim b z)
    · exact .inr z
noncomputable def sNil:SF := fun env => some (.nx env)
noncomputable def sSeq (f g:SF):SF := fun env => (f env).bind fun o => match o with
  | .nx env' => g env'
  | o => some o
theorem ss_nil:SS tNext sNil := by
  intro fx H0 env σ H D h o e q
  cases e
  exact q σ H h
theorem ss_seq {t u:TS} {f g:SF} (h1:SS t f) (h2:SS u g):SS (tSeq t u) (sSeq f g) := by
  intro fx H0 env σ H D h o e q
  unfold sSeq at e
  obtain ⟨o1,e1,e⟩ := qA.mp e
  refine h1 fx H0 env σ H _ h o1 e1 ?_
  cases o1 with
  | nx env' => exact fun σ' H' h' => h2 fx H0 env' σ' H' D h' o e q
  | bk env' => cases e;exact q
  | ct env' => cases e;exact q
  | rt d fr => cases e;exact q
noncomputable def sRet (f:EF):SF := fun env => (f env).map fun r => .rt r.d r.fr
theorem ss_ret {te:TE} {f:EF} (h1:SE te f):SS (tRet te) (sRet f) := by
  intro fx H0 env σ H D h o e q
  unfold sRet at e
  obtain ⟨r,er,rfl⟩ := qG.mp e
  refine h1 fx H0 env σ H h r er _ fun v H' s hv => q v H' (h.base.trans s) ⟨Rp.same (Offs.sub fun b z => .inl z) _ hv.rp,fun z => ?_⟩
  obtain ⟨a,g1,g2,g3⟩ := hv.fr z
  exact ⟨a,g1,h.base.free g2,g3.same (Offs.sub fun b y => y.imp .inl id) fun o z => z⟩
noncomputable def sRetV (i:Nat):SF := fun env => match env[i]? with
  | some (.pl d) => some (.rt d false)
  | some (.ac d) => some (.rt d true)
  | _ => none
theorem ss_retv {i:Nat}:SS (tRet (tVar i)) (sRetV i) := by
  intro fx H0 env σ H D h o e q
  unfold sRetV at e
  cases ei:env[i]? with
  | none => rw [ei] at e;cases e
  | some sl =>
    rw [ei] at e
    cases sl with
    | no => cases e
    | pl d =>
      cases e
      obtain ⟨v,h1,h2⟩ := h.pl i d ei
      exact ⟨v,h1,q v H h.base ⟨Rp.same (Offs.sub fun b z => .inl z) _ h2,fun z => by cases z⟩⟩
    | ac d =>
      cases e
      obtain ⟨a,h1,h2,h3,h4⟩ := h.ac i d ei
      refine ⟨_,h1,q _ H h.base ⟨h4.rp (Offs.sub fun b z => .inl z) fun o eo => by rw [Offs.get h3];exact eo,fun _ => ⟨a,rfl,h2,h4.same (Offs.sub fun b z => ?_) fun o z => z⟩⟩⟩
      rcases z with z|z
      · exact .inl z
      · rw [z];exact .inr ⟨i,d,ei,h1⟩
noncomputable def sIf (c:TF) (f g:SF):SF := fun env => (c env).bind fun b => if b=true then f env else g env
theorem ss_if {tc:TT} {t u:TS} {c:TF} {f g:SF} (hc:ST tc c) (h1:SS t f) (h2:SS u g):SS (tIfS tc t u) (sIf c f g) := by
  intro fx H0 env σ H D h o e q
  unfold sIf at e
  obtain ⟨b,eb,e⟩ := qA.mp e
  refine hc fx H0 env σ H h b eb _ fun H' s => ?_
  cases b with
  | true => exact iteT (h1 fx H0 env σ H' D (h.up s) o e q)
  | false => exact iteF (h2 fx H0 env σ H' D (h.up s) o e q)
noncomputable def sSet (i:Nat) (f:EF):SF := fun env => (f env).map fun r => .nx (putV env i r)
theorem ss_set {te:TE} {f:EF} {i:Nat} (h1:SE te f):SS (tAsg te (gName i)) (sSet i f) := by
  intro fx H0 env σ H D h o e q
  unfold sSet at e
  obtain ⟨r,er,rfl⟩ := qG.mp e
  exact h1 fx H0 env σ H h r er _ fun v H' s hv => q _ H' (h.put s hv i)
noncomputable abbrev GT := PyData→DEnv→Option DEnv
noncomputable def SG (g:TG) (f:GT):Prop := ∀ (fx:Addr→Prop) (H0:Hp) (env:DEnv) (σ:St) (H:Hp) (d:PyData) (v:V),EnvOk fx H0 env σ H→Rp (Offs (fun a => fx a∨own env σ a) H) d v→∀ env',f d env=some env'→∀ Q:St→Hp→Prop,
  (∀ σ',EnvOk fx H0 env' σ' H→Q σ' H)→g v σ H Q
noncomputable abbrev GTs := List PyData→DEnv→Option DEnv
noncomputable def SGs (g:TGs) (f:GTs):Prop := ∀ (fx:Addr→Prop) (H0:Hp) (env:DEnv) (σ:St) (H:Hp) (ds:List PyData) (vs:List V),EnvOk fx H0 env σ H→Rps (Offs (fun a => fx a∨own env σ a) H) ds vs→∀ env',f ds env=some env'→∀ Q:St→Hp→Prop,
  (∀ σ',EnvOk fx H0 env' σ' H→Q σ' H)→g vs σ H Q
noncomputable def gN (i:Nat):GT := fun d env => some (env.set i (.pl d))
theorem sg_name {i:Nat}:SG (gName i) (gN i) := by
  intro fx H0 env σ H d v h r env' e Q q
  cases e
  exact q _ (h.setPl i r)
noncomputable def gsNil:GTs := fun ds env => match ds with|[] => some env|_ => none
noncomputable def gsCons (i:Nat) (g:GTs):GTs := fun ds env => match ds with|d::r => g r (env.set i (.pl d))|[] => none
theorem sgs_nil:SGs gNil gsNil := by
  intro fx H0 env σ H ds vs h r env' e Q q
  cases ds with
  | nil => cases e;unfold Rps at r;exact ⟨r,q _ h⟩
  | cons _ _ => cases e
theorem sgs_cons {i:Nat} {t:TGs} {g:GTs} (h1:SGs t g):SGs (gCons (gName i) t) (gsCons i g) := by
  intro fx H0 env σ H ds vs h r env' e Q q
  cases ds with
  | nil => cases e
  | cons d ds =>
    unfold Rps at r
    obtain ⟨v,ws,rfl,r1,r2⟩ := r
    refine ⟨v,ws,rfl,h1 fx H0 (env.set i (.pl d)) _ H ds ws (h.setPl i r1) (Rps.same (Offs.sub fun b z => z.imp (fun y => y) (set_own b)) _ r2) env' e Q q⟩
noncomputable def gT (n:Nat) (g:GTs):GT := fun d env => match d with|.tuple ds => if ds.length=n then g ds env else none|_ => none
theorem sg_tup {K:qB} {n:Nat} {t:TGs} {g:GTs} (h1:SGs t g):SG (gTup K n t) (gT n g) := by
  intro fx H0 env σ H d v h r env' e Q q
  unfold gT at e
  cases d with
  | tuple ds =>
    have e:(if ds.length=n then g ds env else none)=some env' := e
    split at e
    · rename_i hn
      obtain ⟨a,xs,rfl,ha,rs⟩ := rp_tuple r
      exact ⟨a,xs,rfl,SqT.of (off_at ha),by rw [← rs.length];exact hn,h1 fx H0 env σ H ds xs h rs env' e Q q⟩
    · cases e
  | _ => cases e
theorem EnvOk.mut {fx:Addr→Prop} {H0:Hp} {env:DEnv} {σ:St} {H:Hp} (h:EnvOk fx H0 env σ H) {i:Nat} {d d':PyData} {a:Addr} {o:HO} (e:env[i]?=some (.ac d)) (ea:σ[i]?=some (some (.ref a)))
    (r:AccAt (Offs (fun b => fx b∨own env σ b) H) (upd H a o) a d'):EnvOk fx H0 (env.set i (.ac d')) σ (upd H a o) := by
  have hl:i<env.length := (qQ.mp e).1
  have oa:own env σ a := ⟨i,d,e,ea⟩
  have ow:∀ b,own (env.set i (.ac d')) σ b↔own env σ b := by
    intro b
    constructor
    · rintro ⟨j,d1,h1,h2⟩
      rcases set_get h1 with ⟨rfl,z⟩|⟨ne,h1⟩
      · exact ⟨j,d,e,h2⟩
      · exact ⟨j,d1,h1,h2⟩
    · rintro ⟨j,d1,h1,h2⟩
      by_cases hj:j=i
      · subst hj;exact ⟨j,d',by rw [qe hl],h2⟩
      · exact ⟨j,d1,by rw [qU fun z => hj z.symm];exact h1,h2⟩
  have so:Same (Offs (fun b => fx b∨own env σ b) H) (Offs (fun b => fx b∨own (env.set i (.ac d')) σ b) (upd H a o)) := by
    have:Same (Offs (fun b => fx b∨own env σ b) (upd H a o)) (Offs (fun b => fx b∨own (env.set i (.ac d')) σ b) (upd H a o)) := Offs.sub fun b z => z.imp (fun y => y) (ow b).mp
    rw [Offs.upd (.inr oa)] at this
    exact this
  obtain ⟨a',g1,g2,g3,g4⟩ := h.ac i d e
  rw [ea] at g1
  cases g1
  refine ⟨by rw [qj];exact h.len,fun j d1 hj => ?_,fun j d1 hj => ?_,fun j k d1 d2 b h1 h2 h3 h4 => ?_,fun b u eb => by rw [upd_ne (ne_of_none eb g2)];exact h.base b u eb,fun b z => ?_⟩
  · rcases set_get hj with ⟨_,z⟩|⟨ne,hj'⟩
    · cases z
    · obtain ⟨u,h1,h2⟩ := h.pl j d1 hj'
      exact ⟨u,h1,Rp.same so _ h2⟩
  · rcases set_get hj with ⟨rfl,z⟩|⟨ne,hj'⟩
    · cases z
      exact ⟨a,ea,g2,g3,r.same so fun o z => z⟩
    · obtain ⟨b,h1,h2,h3,h4⟩ := h.ac j d1 hj'
      refine ⟨b,h1,h2,h3,h4.same so fun o' z => ?_⟩
      rw [upd_ne fun y => ne (h.inj j i d1 d a hj' e (by rw [← y];exact h1) ea)]
      exact z
  · have f:∀ {j:Nat} {d1:PyData},(env.set i (.ac d'))[j]?=some (.ac d1)→∃ d2,env[j]?=some (.ac d2) := fun {j d1} hj => by
      rcases set_get hj with ⟨rfl,z⟩|⟨ne,hj'⟩
      · exact ⟨d,e⟩
      · exact ⟨d1,hj'⟩
    obtain ⟨e1,h1⟩ := f h1
    obtain ⟨e2,h2⟩ := f h2
    exact h.inj j k e1 e2 b h1 h2 h3 h4
  · obtain ⟨u,eu⟩ := h.fxs b z
    exact ⟨u,by rw [upd_ne fun y => g3 (by rw [← y];exact z)];exact eu⟩
theorem frzs_get {env:DEnv} {i:Nat} {d:PyData}:∀ {bs:List Nat},i∉bs→env[i]?=some (.ac d)→(frzs env bs)[i]?=some (.ac d) := by
  intro bs
  induction bs generalizing env with
  | nil => intro _ e;exact e
  | cons j bs ih =>
    intro hn e
    have hj:i≠j := fun z => hn (by simp [z])
    refine ih (fun z => hn (qO _ z)) ?_
    unfold frz1
    split
    · rw [qU fun z => hj z.symm];exact e
    · exact e
noncomputable def sPut (i:Nat) (fk fv:EF):SF := fun env => match env[i]? with
  | some (.ac (.dict kvs)) => (fv env).bind fun r => (fk env).bind fun k => (keyD k.d).bind fun _ => if kvs.length<100000∧i∉r.bs then some (.nx ((frzs env r.bs).set i (.ac (.dict (dputD kvs k.d r.d))))) else none
  | _ => none
theorem ss_put {i:Nat} {tk tv:TE} {fk fv:EF} (h1:SE tk fk) (h2:SE tv fv):SS (sDPut (tVar i) tk tv) (sPut i fk fv) := by
  intro fx H0 env σ H D h o e q
  unfold sPut at e
  split at e
  · rename_i kvs ei
    obtain ⟨r,er,e⟩ := qA.mp e
    obtain ⟨k,ek,e⟩ := qA.mp e
    obtain ⟨kk,ekk,e⟩ := qA.mp e
    split at e
    · rename_i hl
      cases e
      obtain ⟨a,g1,g2,g3,g4⟩ := h.ac i _ ei
      obtain ⟨ps,hx,rx⟩ := g4
      refine h2 fx H0 env σ H h r er _ fun v H' s hv => ⟨_,g1,h1 fx H0 env σ H' (h.up s) k ek _ fun u H2 s2 hk => ?_⟩
      have t2 := s.trans s2
      have h' := (h.up t2).frzs r.bs
      have ei' := frzs_get hl.2 ei
      have hx' := t2 _ _ hx
      have rx':Rpd (Offs (fun b => fx b∨own (frzs env r.bs) σ b) H2) kvs ps := by
        obtain ⟨a',z1,_,_,z4⟩ := h'.ac i _ ei'
        rw [g1] at z1
        cases z1
        obtain ⟨ys,y1,y2⟩ := z4
        rw [hx'] at y1
        cases y1
        exact y2
      rw [key_v hk.rp ekk]
      refine ⟨a,_,rfl,DPut.k hx' (size_lt (by rw [← rx.length];exact hl.1)),?_⟩
      refine q σ _ (h'.mut ei' g1 ⟨_,upd_same,rx'.put ekk (Rp.same (Offs.sub frzs_lim) _ (hv.later (Same.refl _) s2 fun _ z => z).rp)⟩)
    · cases e
  · cases e
noncomputable def sUpd (i:Nat) (f:EF):SF := fun env => match env[i]? with
  | some (.ac (.dict kvs)) => (f env).bind fun r => match r.d with
    | .dict more => if kvs.length+more.length≤100000∧i∉r.bs then some (.nx ((frzs env r.bs).set i (.ac (.dict (dmergeD kvs more))))) else none
    | _ => none
  | _ => none
theorem ss_upd {K:qB} {i:Nat} {te:TE} {f:EF} (h1:SE te f):SS (tDrop (tBM K "dict" rUpdate (tVar i) (tCons te tNil))) (sUpd i f) := by
  intro fx H0 env σ H D h o e q
  unfold sUpd at e
  split at e
  · rename_i kvs ei
    obtain ⟨⟨rd,rfr,rbs⟩,er,e⟩ := qA.mp e
    cases rd with
    | dict more =>
      have e:(if kvs.length+more.length≤100000∧i∉rbs then some (Out.nx ((frzs env rbs).set i (.ac (.dict (dmergeD kvs more))))) else none)=some o := e
      split at e
      · rename_i hl
        cases e
        obtain ⟨a,g1,g2,g3,g4⟩ := h.ac i _ ei
        obtain ⟨ps,hx,rx⟩ := g4
        refine ⟨_,g1,.inr (.inr (.inl ⟨rfl,.inl ⟨_,hx⟩⟩)),h1 fx H0 env σ H h _ er _ fun v H' s hv => ?_⟩
        have h' := (h.up s).frzs rbs
        have ei' := frzs_get hl.2 ei
        have hx' := s _ _ hx
        have rx':Rpd (Offs (fun b => fx b∨own (frzs env rbs) σ b) H') kvs ps := by
          obtain ⟨a',z1,_,_,z4⟩ := h'.ac i _ ei'
          rw [g1] at z1
          cases z1
          obtain ⟨ys,y1,y2⟩ := z4
          rw [hx'] at y1
          cases y1
          exact y2
        obtain ⟨b,qs,rfl,hb,rb⟩ := rp_dict (Rp.same (Offs.sub frzs_lim) _ hv.rp)
        have hab:a≠b := fun z => by
          subst z
          exact (Offs.of hb).1 (.inr ⟨i,_,ei',g1⟩)
        refine ⟨a,b,ps,qs,rfl,rfl,hab,hx',off_at hb,size_of (by rw [← rx.length,← rb.length];exact hl.1),?_⟩
        exact q σ _ (h'.mut ei' g1 ⟨_,upd_same,rx'.merge rb⟩)
      · cases e
    | _ => cases e
  · cases e
theorem EnvOk.rebase {fx:Addr→Prop} {H0:Hp} {env:DEnv} {σ:St} {H:Hp} (h:EnvOk fx H0 env σ H):EnvOk fx (Offs (own env σ) H) env σ H := by
  refine ⟨h.len,h.pl,fun i d e => ?_,h.inj,Offs.same _ _,h.fxs⟩
  obtain ⟨a,h1,h2,h3,h4⟩ := h.ac i d e
  exact ⟨a,h1,Offs.out ⟨i,d,e,h1⟩,h3,h4⟩
theorem EnvOk.floor {fx:Addr→Prop} {H0:Hp} {env:DEnv} {σ:St} {H:Hp} (h:EnvOk fx H0 env σ H):Same H0 (Offs (own env σ) H) := fun b o e => by
  rw [Offs.get]
  · exact h.base b o e
  · rintro ⟨i,d,h1,h2⟩
    obtain ⟨a,g1,g2,_⟩ := h.ac i d h1
    rw [h2] at g1
    cases g1
    rw [g2] at e
    cases e
theorem EnvOk.unbase {fx:Addr→Prop} {H0 F:Hp} {env:DEnv} {σ:St} {H:Hp} (h:EnvOk fx F env σ H) (s:Same H0 F):EnvOk fx H0 env σ H := by
  refine ⟨h.len,h.pl,fun i d e => ?_,h.inj,s.trans h.base,h.fxs⟩
  obtain ⟨a,h1,h2,h3,h4⟩ := h.ac i d e
  exact ⟨a,h1,s.free h2,h3,h4⟩
theorem RetOk.unbase {fx:Addr→Prop} {H0 F:Hp} {d:PyData} {fr:Bool} {v:V} {H:Hp} (h:RetOk fx F d fr v H) (s:Same H0 F):RetOk fx H0 d fr v H :=
  ⟨h.1,fun e => let ⟨a,h1,h2,h3⟩ := h.2 e;⟨a,h1,s.free h2,h3⟩⟩
theorem EnvOk.seen {fx:Addr→Prop} {env env':DEnv} {σ σ':St} {H H':Hp} (h:EnvOk fx (Offs (own env σ) H) env' σ' H'):Same (Offs (fun b => fx b∨own env σ b) H) (Offs (fun b => fx b∨own env' σ' b) H') := fun b o e => by
  obtain ⟨h1,h2⟩ := Offs.of e
  have hF:Offs (own env σ) H b=some o := by rw [Offs.get fun z => h1 (.inr z)];exact h2
  rw [Offs.get]
  · exact h.base b o hF
  · rintro (z|⟨i,d,g1,g2⟩)
    · exact h1 (.inl z)
    · obtain ⟨a,k1,k2,_⟩ := h.ac i d g1
      rw [g2] at k1
      cases k1
      rw [k2] at hF
      cases hF
theorem EnvOk.all {fx:Addr→Prop} {H0:Hp} {env:DEnv} {σ:St} {H:Hp} (h:EnvOk fx H0 env σ H):∀ b,fx b∨own env σ b→∃ o,H b=some o := fun b z => h.lims [] b (lim_nil b z)
noncomputable def Yl (A0:Addr→Prop) (H1:Hp) (J:It) (ds:List PyData):Prop := ∀ (A:Addr→Prop) (H':Hp),(∀ b,A b→∃ o,H' b=some o)→Same (Offs A0 H1) (Offs A H') →
  (∀ i d,ds[i]?=some d→J.go i H'∧∀ x H'',J.yld i H' x H''→Same H' H''∧Rp (Offs A H'') d x)∧J.stop ds.length H'
noncomputable abbrev IF' := DEnv→Option (List PyData×List Nat)
noncomputable def SI (wi:TI) (f:IF'):Prop := ∀ (fx:Addr→Prop) (H0:Hp) (env:DEnv) (σ:St) (H:Hp),EnvOk fx H0 env σ H→∀ ds bs,f env=some (ds,bs)→∀ R:It→Hp→Prop,
  (∀ J H1,Same H H1→Yl (fun b => fx b∨own (frzs env bs) σ b) H1 J ds→R J H1)→wi σ H R
noncomputable def iSeq (K:qB) (te:TE):TI := fun σ H R => te σ H fun x H1 => ∃ a,x=.ref a∧((∃ xs,SqL K H1 a xs)∧R (Itl K a) H1∨(∃ xs,SqT K H1 a xs)∧R (Itt K a) H1)
theorem pi_seq {X:Cx} {tg l:Expr} {tl:TE} (hl:PE X l tl):PI X tg l (iSeq X.K tl) := by
  intro pins s σ H R I h
  refine thn (hl pins s σ H _ I h) fun v s1 ⟨x,H1,I1,r1,q1⟩ => ?_
  obtain ⟨a,e,q⟩ := q1
  subst e
  cases r1
  rcases q with ⟨⟨xs,hq⟩,q⟩|⟨⟨xs,hq⟩,q⟩
  · obtain ⟨its,rv,p,hz⟩ := I1.list hq
    refine wpAny_pyIter_list p.isList ?_
    refine ⟨s1.heap.objs.size,[s1.heap.objs.size],_,_,H1,rfl,I1.kept (t' := s1.toks) fun b o e => qE _ e,turn_list a _,⟨_,qAB _ rfl,rfl,rfl⟩,fun b hb => ?_,q⟩
    have e:b=s1.heap.objs.size := by simpa using hb
    subst e
    exact I1.fpOk (qR _) (I1.hok.fresh (qR _))
  · obtain ⟨its,rv,p,hz⟩ := I1.tuple hq
    refine wpAny_pyIter_tuple (show s1.heap.IsTuple a its.toArray from p) ?_
    refine ⟨s1.heap.objs.size,[s1.heap.objs.size],_,_,H1,rfl,I1.kept (t' := s1.toks) fun b o e => qE _ e,turn_tuple a _,⟨_,qAB _ rfl,rfl,rfl⟩,fun b hb => ?_,q⟩
    have e:b=s1.heap.objs.size := by simpa using hb
    subst e
    exact I1.fpOk (qR _) (I1.hok.fresh (qR _))
theorem pi_seqK {X:Cx} {K:qB} (hK:X.K=K) {tg l:Expr} {tl:TE} (hl:PE X l tl):PI X tg l (iSeq K tl) := by subst hK;exact pi_seq hl
noncomputable def iItems (f:EF):IF' := fun env => (f env).bind fun r => (itemsD r.d).map fun ds => (ds,r.bs)
theorem yl_list {K:qB} {A0:Addr→Prop} {H1:Hp} {a:Addr} {ds:List PyData} {xs:List V} (h:Offs A0 H1 a=some (.lst xs)) (r:Rps (Offs A0 H1) ds xs):Yl A0 H1 (Itl K a) ds := by
  intro A H' hA s
  have ha := off_at (s _ _ h)
  have r' := Rps.same s _ r
  refine ⟨fun i d e => ?_,⟨xs,SqL.of ha,by rw [r.length];exact qR _⟩⟩
  obtain ⟨v,hv,rv⟩ := r'.get2 e
  refine ⟨⟨xs,v,SqL.of ha,hv⟩,fun x H'' y => ?_⟩
  obtain ⟨rfl,y⟩ := y
  have := y xs (SqL.of ha)
  rw [hv] at this
  cases this
  exact ⟨Same.refl _,rv⟩
theorem yl_tup {K:qB} {A0:Addr→Prop} {H1:Hp} {a:Addr} {ds:List PyData} {xs:List V} (h:Offs A0 H1 a=some (.tup xs)) (r:Rps (Offs A0 H1) ds xs):Yl A0 H1 (Itt K a) ds := by
  intro A H' hA s
  have ha := off_at (s _ _ h)
  have r' := Rps.same s _ r
  refine ⟨fun i d e => ?_,⟨xs,SqT.of ha,by rw [r.length];exact qR _⟩⟩
  obtain ⟨v,hv,rv⟩ := r'.get2 e
  refine ⟨⟨xs,v,SqT.of ha,hv⟩,fun x H'' y => ?_⟩
  obtain ⟨rfl,y⟩ := y
  have := y xs (SqT.of ha)
  rw [hv] at this
  cases this
  exact ⟨Same.refl _,rv⟩
theorem si_seq {K:qB} {te:TE} {f:EF} (h1:SE te f):SI (iSeq K te) (iItems f) := by
  intro fx H0 env σ H h ds bs e R q
  unfold iItems at e
  obtain ⟨⟨d,fr,bs'⟩,er,e⟩ := qA.mp e
  obtain ⟨es,he,e⟩ := qG.mp e
  cases e
  refine h1 fx H0 env σ H h _ er _ fun v H1 s hv => ?_
  have rp := Rp.same (Offs.sub (frzs_lim (bs := bs'))) _ hv.rp
  cases d with
  | list ds =>
    cases he
    obtain ⟨a,xs,rfl,ha,r⟩ := rp_list rp
    exact ⟨a,rfl,.inl ⟨⟨xs,SqL.of (off_at ha)⟩,q _ H1 s (yl_list ha r)⟩⟩
  | tuple ds =>
    cases he
    obtain ⟨a,xs,rfl,ha,r⟩ := rp_tuple rp
    exact ⟨a,rfl,.inr ⟨⟨xs,SqT.of (off_at ha)⟩,q _ H1 s (yl_tup ha r)⟩⟩
  | _ => cases he
noncomputable def enumD (ds:List PyData):List PyData := ds.zipIdx.map fun p => .tuple [.int p.2,p.1]
noncomputable def iEnumF (f:AF):IF' := fun env => (f env).bind fun rs => match rs with
  | [r] => match r.d with
    | .list ds => some (enumD ds,r.bs)
    | _ => none
  | _ => none
noncomputable def rangeD (lo:Int) (n:Nat):List PyData := (List.range n).map fun (k:Nat) => .int (lo+(k:Int))
theorem yl_range {A0:Addr→Prop} {H1:Hp} {lo:Int} {n:Nat}:Yl A0 H1 (Itr lo n) (rangeD lo n) := by
  intro A H' hA s
  have hl:(rangeD lo n).length=n := by unfold rangeD;simp
  refine ⟨fun i d e => ?_,by rw [hl];exact qR _⟩
  unfold rangeD at e
  rw [qd] at e
  by_cases hi:i<n
  · rw [qCS hi] at e
    cases e
    exact ⟨hi,fun x H'' ⟨e1,e2⟩ => by subst e1;subst e2;exact ⟨Same.refl _,rp_mk_int⟩⟩
  · rw [qB9 (by simpa using hi)] at e
    cases e
noncomputable def iRange1 (f:AF):IF' := fun env => (f env).bind fun rs => match rs with
  | [⟨.int j,_,_⟩] => if -(2 ^ 62)≤j∧j<2 ^ 62 then some (rangeD 0 j.toNat,[]) else none
  | _ => none
theorem si_range1 {ta:TA} {f:AF} (h1:SA ta f):SI (iRng1 ta) (iRange1 f) := by
  intro fx H0 env σ H h ds bs e R q
  unfold iRange1 at e
  obtain ⟨rs,er,e⟩ := qA.mp e
  split at e
  · split at e
    · rename_i hj
      cases e
      refine h1 fx H0 env σ H h _ er _ fun vs H1 s hv => ?_
      cases hv with
      | cons hv t =>
        cases t
        cases rp_int hv.rp
        exact ⟨_,rfl,hj.1,hj.2,q _ H1 s yl_range⟩
    · cases e
  · cases e
noncomputable def forL (g:GT) (body:SF):List PyData→DEnv→Option Out
  | [],env => some (.nx env)
  | d::ds,env => (g d env).bind fun e1 => (body e1).bind fun o => match o with
    | .nx e2 => forL g body ds e2
    | .ct e2 => forL g body ds e2
    | .bk e2 => some (.nx e2)
    | .rt d fr => some (.rt d fr)
noncomputable def sFor (f:IF') (g:GT) (body:SF):SF := fun env => (f env).bind fun z => forL g body z.1 (frzs env z.2)
theorem ss_for {wi:TI} {g:TG} {tb:TS} {f:IF'} {gf:GT} {body:SF} (h1:SI wi f) (h2:SG g gf) (h3:SS tb body):SS (tFor wi g tb) (sFor f gf body) := by
  intro fx H0 env σ H D h o e q
  unfold sFor at e
  obtain ⟨⟨ds,bs⟩,er,e⟩ := qA.mp e
  refine h1 fx H0 env σ H h ds bs er _ fun J H1 s yl => ?_
  have hE := (h.up s).frzs bs
  have fl := hE.floor
  refine ⟨fun i m σ' H' => m=ds.length - i∧i≤ds.length∧∃ env',forL gf body (ds.drop i) env'=some o∧EnvOk fx (Offs (own (frzs env bs) σ) H1) env' σ' H',⟨ds.length,rfl,qAZ _,_,e,hE.rebase⟩,?_⟩
  rintro i m σ' H' ⟨rfl,hi,env',e',h'⟩
  obtain ⟨yi,ys⟩ := yl _ H' h'.all h'.seen
  by_cases hlt:i<ds.length
  · obtain ⟨yg,yy⟩ := yi i ds[i] (qF hlt)
    refine .inr ⟨yg,fun σ'' H'' => i+1≤ds.length∧∃ env'',forL gf body (ds.drop (i+1)) env''=some o∧EnvOk fx (Offs (own (frzs env bs) σ) H1) env'' σ'' H'',?_,?_⟩
    · rintro σ'' H'' ⟨hle,env'',e'',h''⟩
      exact ⟨ds.length - (i+1),by omega,rfl,hle,env'',e'',h''⟩
    · intro x H'' hy
      obtain ⟨sy,ry⟩ := yy x H'' hy
      rw [qAM hlt] at e'
      obtain ⟨e1,ee1,e'⟩ := qA.mp e'
      obtain ⟨o1,eo1,e'⟩ := qA.mp e'
      refine h2 fx _ env' σ' H'' _ x (h'.up sy) ry e1 ee1 _ fun σ2 h2' => h3 fx _ e1 σ2 H'' _ h2' o1 eo1 ?_
      cases o1 with
      | nx e2 => exact fun σ3 H3 hh => ⟨hlt,e2,e',hh⟩
      | ct e2 => exact fun σ3 H3 hh => ⟨hlt,e2,e',hh⟩
      | bk e2 => cases e';exact fun σ3 H3 hh => q σ3 H3 (hh.unbase fl)
      | rt d fr => cases e';exact fun v H3 sh rt => q v H3 (fl.trans sh) (rt.unbase fl)
  · have hi':i=ds.length := by omega
    subst hi'
    rw [qAl] at e'
    cases e'
    exact .inl ⟨ys,q σ' H' (h'.unbase fl)⟩
noncomputable def startD (n:Nat) (ds:List PyData):DEnv := ds.map .pl++List.replicate (n - ds.length) .no
noncomputable def fnD (n:Nat) (f:SF):GF := fun ds => match f (startD n ds) with
  | some (.rt d fr) => some (d,fr)
  | some (.nx _) => some (.none,false)
  | _ => none
theorem start_get {ds:List PyData} {n i:Nat} {sl:Sl} (e:(startD n ds)[i]?=some sl):(∃ d,ds[i]?=some d∧sl=.pl d)∨sl=.no := by
  unfold startD at e
  by_cases hi:i<ds.length
  · rw [qk (by simpa using hi),qd,qF hi] at e
    cases e
    exact .inl ⟨_,qF hi,rfl⟩
  · rw [qg (by simpa using hi),qBC] at e
    split at e
    · cases e;exact .inr rfl
    · cases e
theorem env_start {fx:Addr→Prop} {H:Hp} {N:List Str} {ds:List PyData} {vs:List V} (hf:∀ b,fx b→∃ o,H b=some o) (r:Rps (Offs fx H) ds vs):EnvOk fx H (startD N.length ds) (start N vs) H := by
  have no:∀ (i:Nat) (d:PyData),(startD N.length ds)[i]?≠some (Sl.ac d) := fun i d e => by
    rcases start_get e with ⟨d',_,z⟩|z<;>cases z
  refine ⟨?_,fun i d e => ?_,fun i d e => absurd e (no i d),fun i j d e a h1 => absurd h1 (no i d),Same.refl _,hf⟩
  · unfold startD start
    rw [qK,qK,qD,qD,qAe,qAe,r.length]
  · rcases start_get e with ⟨d',hd,z⟩|z
    · cases z
      obtain ⟨v,hv,rv⟩ := r.get2 hd
      refine ⟨v,?_,Rp.same (Offs.sub fun b z => ?_) _ rv⟩
      · unfold start
        have hi:i<vs.length := (qQ.mp hv).1
        rw [qk (by simpa using hi),qd,hv];rfl
      · rcases z with z|⟨j,d',z,_⟩
        · exact z
        · exact absurd z (no j d')
    · cases z
theorem fn_d {N:List Str} {n:Nat} {f:SF} {t:TS} (hs:SS t f) {vs:List V} {H:Hp} {Q:VK} {E:XK} (h:spD n (fnD N.length f) vs H Q E):t {nx := fun _ H' => Q .non H',rt := Q} (start N vs) H := by
  obtain ⟨fx,ds,d,fr,hn,hf,r,g,k⟩ := h
  unfold fnD at g
  split at g
  · rename_i d' fr' eo
    cases g
    exact hs fx H _ _ H _ (env_start hf r) _ eo fun v H' s rt => k v H' s rt
  · rename_i e' eo
    cases g
    exact hs fx H _ _ H _ (env_start hf r) _ eo fun σ H' hE => k .non H' hE.base ⟨rp_mk_none,fun z => by cases z⟩
  · cases g
theorem spD_len {n:Nat} {g:GF} {vs:List V} {H:Hp} {Q:VK} {E:XK} (h:spD n g vs H Q E):vs.length=n := by
  obtain ⟨fx,ds,d,fr,hn,hf,r,_⟩ := h
  rw [← r.length];exact hn
noncomputable def captS:Sl→Sl
  | .ac d => .pl d
  | s => s
noncomputable def envB (own:List Str) (fr:List Nat) (env:DEnv):DEnv := own.map (fun _ => Sl.no)++fr.map (fun j => captS (env.getD j .no))
noncomputable def isAc:Option Sl→Bool
  | some (.ac _) => true
  | _ => false
noncomputable def capA (fr:List Nat) (env:DEnv):List Nat := fr.filter fun j => isAc env[j]?
theorem envB_get {own:List Str} {fr:List Nat} {env:DEnv} {i:Nat} {d:PyData} (e:(envB own fr env)[i]?=some (.pl d)):∃ j k,i=own.length+k∧fr[k]?=some j∧(env[j]?=some (.pl d)∨env[j]?=some (.ac d)) := by
  unfold envB at e
  by_cases hi:i<own.length
  · rw [qk (by simpa using hi),qd,qF hi] at e
    cases e
  · rw [qg (by simpa using hi),qD,qd] at e
    cases ej:fr[i - own.length]? with
    | none => rw [ej] at e;cases e
    | some j =>
      rw [ej] at e
      refine ⟨j,i - own.length,by omega,ej,?_⟩
      have e:captS (env.getD j .no)=.pl d := qP e
      rw [qh] at e
      cases ev:env[j]? with
      | none => rw [ev] at e;cases e
      | some s =>
        rw [ev] at e
        cases s with
        | no => cases e
        | pl d' => cases e;exact .inl rfl
        | ac d' => cases e;exact .inr rfl
theorem envB_ac {own:List Str} {fr:List Nat} {env:DEnv} {i:Nat} {d:PyData}:(envB own fr env)[i]?≠some (.ac d) := by
  intro e
  unfold envB at e
  by_cases hi:i<own.length
  · rw [qk (by simpa using hi),qd,qF hi] at e
    cases e
  · rw [qg (by simpa using hi),qD,qd] at e
    cases ej:fr[i - own.length]? with
    | none => rw [ej] at e;cases e
    | some j =>
      rw [ej] at e
      have e:captS (env.getD j .no)=.ac d := qP e
      cases ev:env.getD j .no with
      | no => rw [ev] at e;cases e
      | pl d' => rw [ev] at e;cases e
      | ac d' => rw [ev] at e;cases e
theorem tau_get {own:List Str} {fr:List Nat} {σ:St} {k j:Nat} {v:V} (hk:fr[k]?=some j) (hv:σ[j]?=some (some v)):(tau own fr σ)[own.length+k]?=some (some v) := by
  unfold tau
  rw [qg (by simp),qD,Nat.add_sub_cancel_left,qd,hk]
  show some (σ.getD j none)=_
  rw [qh,hv];rfl
theorem env_block {fx:Addr→Prop} {H0:Hp} {env:DEnv} {σ:St} {H H1:Hp} {p:Addr} (h:EnvOk fx H0 env σ H) (s:Same H H1) (hp:H1 p=none) (own:List Str) (fr:List Nat) (bs:List Nat) :
    EnvOk (fun b => lim fx env σ (bs++capA fr env) b∨b=p) H1 (envB own fr env) (tau own fr σ) (upd H1 p (.lst [])) := by
  have h1 := h.up s
  have sp:Same H1 (upd H1 p (.lst [])) := Same.new hp
  have so:Same (Offs (fun b => fx b∨L2.own env σ b) H1) (Offs (fun b => (lim fx env σ (bs++capA fr env) b∨b=p)∨L2.own (envB own fr env) (tau own fr σ) b) (upd H1 p (.lst []))) := Offs.mono sp fun b o e n z => by
    rcases z with (z|z)|⟨i,d,z,_⟩
    · exact n (lim_own b z)
    · rw [z,hp] at e;cases e
    · exact absurd z envB_ac
  refine ⟨?_,fun i d e => ?_,fun i d e => absurd e envB_ac,fun i j d e a z => absurd z envB_ac,sp,fun b z => ?_⟩
  · unfold envB tau;simp
  · obtain ⟨j,k,rfl,hk,hj⟩ := envB_get e
    rcases hj with hj|hj
    · obtain ⟨v,h2,h3⟩ := h1.pl j d hj
      exact ⟨v,tau_get hk h2,Rp.same so _ h3⟩
    · obtain ⟨a,h2,h3,h4,h5⟩ := h1.ac j d hj
      refine ⟨_,tau_get hk h2,h5.rp so fun o eo => ?_⟩
      rw [Offs.get]
      · exact sp _ _ eo
      · rintro ((z|⟨i',d',z1,z2,z3⟩)|⟨i',d',z,_⟩)
        · rcases z with z|⟨i',d',z1,z2,z3⟩
          · exact h4 z
          · have e2 := h1.inj i' j d' d a z2 hj z3 h2
            subst e2
            refine z1 (qX _ (qAz.mpr ⟨qBM hk,?_⟩))
            rw [hj];rfl
        · rw [hp] at eo;cases eo
        · exact absurd z envB_ac
  · rcases z with z|z
    · obtain ⟨o,e⟩ := h1.lims _ b z;exact ⟨o,sp b o e⟩
    · rw [z];exact ⟨_,upd_same⟩
theorem EnvOk.weaken {fx:Addr→Prop} {H0:Hp} {env e1:DEnv} {σ:St} {H:Hp} (h:EnvOk fx H0 e1 σ H) (hl:env.length=e1.length) (hp:∀ (i:Nat) (d:PyData),env[i]?=some (.pl d)→e1[i]?=some (.pl d)) (ha:∀ (i:Nat) (d:PyData),env[i]?≠some (.ac d)):EnvOk fx H0 env σ H := by
  refine ⟨hl.trans h.len,fun i d e => ?_,fun i d e => absurd e (ha i d),fun i j d e a z => absurd z (ha i d),h.base,h.fxs⟩
  obtain ⟨v,h1,h2⟩ := h.pl i d (hp i d e)
  exact ⟨v,h1,Rp.same (Offs.sub fun b z => z.imp (fun y => y) fun ⟨j,d',z,_⟩ => absurd z (ha j d')) _ h2⟩
theorem EnvOk.updFx {fx:Addr→Prop} {H0:Hp} {env:DEnv} {σ:St} {H:Hp} {p:Addr} {o:HO} (h:EnvOk fx H0 env σ H) (hp:fx p) (h0:H0 p=none):EnvOk fx H0 env σ (upd H p o) := by
  have so:Offs (fun b => fx b∨own env σ b) (upd H p o)=Offs (fun b => fx b∨own env σ b) H := Offs.upd (.inl hp)
  refine ⟨h.len,fun i d e => ?_,fun i d e => ?_,h.inj,fun b u e => by rw [upd_ne (ne_of_none e h0)];exact h.base b u e,fun b z => ?_⟩
  · rw [so];exact h.pl i d e
  · obtain ⟨a,h1,h2,h3,h4⟩ := h.ac i d e
    rw [so]
    exact ⟨a,h1,h2,h3,h4.same (Same.refl _) fun u z => by rw [upd_ne fun y => h3 (by rw [y];exact hp)];exact z⟩
  · by_cases e:b=p
    · rw [e];exact ⟨_,upd_same⟩
    · obtain ⟨u,hu⟩ := h.fxs b z
      exact ⟨u,by rw [upd_ne e];exact hu⟩
noncomputable def GX (n:Nat) (g:GT):Prop := ∀ d env e1,g d env=some e1→e1.length=env.length∧∀ i,n≤i→e1[i]?=env[i]?
noncomputable def GXs (n:Nat) (g:GTs):Prop := ∀ ds env e1,g ds env=some e1→e1.length=env.length∧∀ i,n≤i→e1[i]?=env[i]?
theorem gx_name {n i:Nat} (h:i<n):GX n (gN i) := by
  intro d env e1 e
  cases e
  exact ⟨qj,fun j hj => qU (by omega)⟩
theorem gxs_nil {n:Nat}:GXs n gsNil := by
  intro ds env e1 e
  cases ds with
  | nil => cases e;exact ⟨rfl,fun _ _ => rfl⟩
  | cons _ _ => cases e
theorem gxs_cons {n i:Nat} {g:GTs} (h:i<n) (hg:GXs n g):GXs n (gsCons i g) := by
  intro ds env e1 e
  cases ds with
  | nil => cases e
  | cons d ds =>
    obtain ⟨h1,h2⟩ := hg ds _ e1 e
    rw [qj] at h1
    exact ⟨h1,fun j hj => (h2 j hj).trans (qU (by omega))⟩
theorem gx_tup {n m:Nat} {g:GTs} (hg:GXs n g):GX n (gT m g) := by
  intro d env e1 e
  unfold gT at e
  cases d with
  | tuple ds =>
    have e:(if ds.length=m then g ds env else none)=some e1 := e
    split at e
    · exact hg ds env e1 e
    · cases e
  | _ => cases e
noncomputable def compL (g:GT) (t:TF) (e:EF) (env:DEnv):List PyData→Option (List PyData)
  | [] => some []
  | d::ds => (g d env).bind fun e1 => (t e1).bind fun b => if b=true then (e e1).bind fun r => (compL g t e env ds).map fun rs => r.d::rs else compL g t e env ds
noncomputable def eComp (own:List Str) (fr:List Nat) (fi:IF') (g:GT) (t:TF) (e:EF):EF := fun env => (fi env).bind fun z => if z.1.length<100000 then
  (compL g t e (envB own fr env) z.1).map fun rs => ⟨.list rs,true,if flatsD rs=true then [] else z.2++capA fr env⟩ else none
theorem rps_flats {H H':Hp} {ds:List PyData} {vs:List V} (f:flatsD ds=true) (h:Rps H ds vs):Rps H' ds vs := by
  replace h := rps_paired.mp h
  induction h with
  | nil => exact rps_nil
  | cons h _ ih =>
    unfold flatsD at f
    rw [qAy,qq] at f
    exact rps_cons (rp_flat f.1 h) (ih f.2)
theorem se_comp {own:List Str} {fr:List Nat} {wi:TI} {g:TG} {tt:TT} {te:TE} {fi:IF'} {gf:GT} {t:TF} {e:EF} (h1:SI wi fi) (h2:SG g gf) (hx:GX own.length gf) (h3:ST tt t) (h4:SE te e) :
    SE (tComp1 wi g tt te own fr) (eComp own fr fi gf t e) := by
  intro fx H0 env σ H h rr hr Q q
  unfold eComp at hr
  obtain ⟨⟨ds,bs⟩,ei,hr⟩ := qA.mp hr
  split at hr
  · rename_i hlen
    have hlen:ds.length<100000 := hlen
    obtain ⟨rs,ers,rfl⟩ := qG.mp hr
    refine h1 fx H0 env σ H h ds bs ei _ fun J H1 s yl => fun p hp => ?_
    have hB := env_block h s hp own fr bs
    generalize hA:(fun b => lim fx env σ (bs++capA fr env) b)=A
    have hA':∀ b,lim fx env σ (bs++capA fr env) b↔A b := fun b => by rw [← hA]
    have eA:(fun b => lim fx env σ (bs++capA fr env) b∨b=p)=fun b => A b∨b=p := by rw [← hA]
    rw [eA] at hB
    have nA:¬ A p := fun z => by
      obtain ⟨o,eo⟩ := (h.up s).lims _ p ((hA' p).mpr z)
      rw [hp] at eo;cases eo
    have seen:∀ {σ':St} {H':Hp},EnvOk (fun b => A b∨b=p) H1 (envB own fr env) σ' H'→Same (Offs (fun b => fx b∨L2.own (frzs env bs) σ b) H1) (Offs (fun b => A b∨b=p) H') := fun {σ' H'} hE => Offs.mono hE.base fun b o eo n z => by
      rcases z with z|z
      · rcases (hA' b).mpr z with z|⟨i,d,z1,z2,z3⟩
        · exact n (.inl z)
        · exact n (.inr ⟨i,d,frzs_get (fun y => z1 (qi _ y)) z2,z3⟩)
      · rw [z,hp] at eo;cases eo
    refine ⟨fun i m σ' H' => m=ds.length - i∧i≤ds.length∧∃ vs done rest,H' p=some (.lst vs)∧Rps (Offs (fun b => A b∨b=p) H') done vs∧done.length≤i∧compL gf t e (envB own fr env) (ds.drop i)=some rest∧done++rest=rs∧EnvOk (fun b => A b∨b=p) H1 (envB own fr env) σ' H',
      ⟨ds.length,rfl,qAZ _,[],[],rs,upd_same,rps_nil,qAZ _,ers,rfl,hB⟩,?_⟩
    rintro i m σ' H' ⟨rfl,hi,vs,done,rest,ep,rd,dl,ec,edr,hE⟩
    obtain ⟨yi,ys⟩ := yl _ H' hE.fxs (seen hE)
    by_cases hlt:i<ds.length
    · obtain ⟨yg,yy⟩ := yi i ds[i] (qF hlt)
      refine .inr ⟨yg,fun σ'' H'' => i+1≤ds.length∧∃ vs done rest,H'' p=some (.lst vs)∧Rps (Offs (fun b => A b∨b=p) H'') done vs∧done.length≤i+1∧compL gf t e (envB own fr env) (ds.drop (i+1))=some rest∧done++rest=rs∧EnvOk (fun b => A b∨b=p) H1 (envB own fr env) σ'' H'',?_,?_⟩
      · rintro σ'' H'' ⟨hle,hh⟩
        exact ⟨ds.length - (i+1),by omega,rfl,hle,hh⟩
      · intro x H'' hy
        obtain ⟨sy,ry⟩ := yy x H'' hy
        rw [qAM hlt] at ec
        obtain ⟨e1,ee1,ec⟩ := qA.mp ec
        obtain ⟨b,eb,ec⟩ := qA.mp ec
        have ry':Rp (Offs (fun a => (A a∨a=p)∨L2.own (envB own fr env) σ' a) H'') ds[i] x := Rp.same (Offs.sub fun b z => z.elim (fun y => y) fun ⟨j,d',z,_⟩ => absurd z envB_ac) _ ry
        refine h2 _ H1 (envB own fr env) σ' H'' _ x (hE.up sy) ry' e1 ee1 _ fun σ2 hE2 => ?_
        refine h3 _ H1 e1 σ2 H'' hE2 b eb _ fun H3 s3 => ?_
        have hE3 := hE2.up s3
        obtain ⟨gl,gk⟩ := hx _ _ _ ee1
        have back:∀ {H4:Hp},EnvOk (fun b => A b∨b=p) H1 e1 σ2 H4→EnvOk (fun b => A b∨b=p) H1 (envB own fr env) σ2 H4 := fun {H4} hh => hh.weaken gl.symm (fun j d' ej => by
          by_cases hj:own.length≤j
          · rw [gk j hj];exact ej
          · obtain ⟨_,k,rfl,_⟩ := envB_get ej;omega) fun j d' => envB_ac
        cases b with
        | false =>
          have ec:compL gf t e (envB own fr env) (ds.drop (i+1))=some rest := ec
          exact iteF ⟨hlt,vs,done,rest,s3 _ _ (sy _ _ ep),Rps.same (Offs.grow (sy.trans s3)) _ rd,Nat.le_succ_of_le dl,ec,edr,back hE3⟩
        | true =>
          have ec:((e e1).bind fun r => (compL gf t e (envB own fr env) (ds.drop (i+1))).map fun rs => r.d::rs)=some rest := ec
          obtain ⟨r,er,ec⟩ := qA.mp ec
          obtain ⟨rest',er',rfl⟩ := qG.mp ec
          refine iteT (h4 _ H1 e1 σ2 H3 hE3 r er _ fun v H4 s4 hv => ?_)
          have t4 := (sy.trans s3).trans s4
          refine ⟨vs,t4 _ _ ep,size_lt (by rw [← rd.length];omega),hlt,vs++[v],done++[r.d],rest',upd_same,?_,by rw [qK];simp;omega,er',by rw [← edr];simp,(back (hE3.up s4)).updFx (.inr rfl) hp⟩
          rw [Offs.upd (.inr rfl)]
          exact (Rps.same (Offs.grow t4) _ rd).append (rps_cons (Rp.same (Offs.sub fun b z => .inl z) _ hv.rp) rps_nil)
    · have hi':i=ds.length := by omega
      subst hi'
      rw [qAl] at ec
      cases ec
      rw [qAH] at edr
      subst edr
      refine .inl ⟨ys,q _ H' (s.trans hE.base) ⟨?_,fun _ => ⟨p,rfl,s.free hp,?_⟩⟩⟩
      · show Rp (Offs (lim fx env σ (if flatsD done=true then [] else bs++capA fr env)) H') (.list done) (.ref p)
        have nl:∀ cs,¬ lim fx env σ cs p := fun cs z => by
          obtain ⟨o,eo⟩ := (h.up s).lims _ p z
          rw [hp] at eo;cases eo
        refine rp_mk_list (by rw [Offs.get (nl _)];exact ep) ?_
        split
        · rename_i f;exact rps_flats f rd
        · exact Rps.same (Offs.sub fun b z => .inl ((hA' b).mp z)) _ rd
      · show AccAt (Offs (fun b => lim fx env σ (if flatsD done=true then [] else bs++capA fr env) b∨b=p) H') H' p (.list done)
        refine ⟨vs,ep,?_⟩
        split
        · rename_i f;exact rps_flats f rd
        · exact Rps.same (Offs.sub fun b z => z.imp (hA' b).mp id) _ rd
  · cases hr
section
variable {X:Cx} {K:qB}
theorem pt_truthK (hK:X.K=K) {a:Expr} {ta:TE} (ha:PE X a ta) (he:∀ whole,isTrue a X.env whole=(do let v ← whole;standAt a.pos;holding [v] (truthy v))) :
    PT X a (fun σ H Q => ta σ H fun x H' => ∃ k,TruV K x H' k∧Q k H') := by subst hK;exact pt_truth ha he
theorem call_tupleK (hK:X.K=K):CallR X (.type "tuple") (fun xs H Q => ∃ p ys,xs=[.ref p]∧((SqL K H p ys∧∀ l,H l=none→Q (.ref l) (upd H l (.tup ys)))∨(SqT K H p ys∧Q (.ref p) H))) := by subst hK;exact call_tuple_of
theorem op_eqA (hK:X.K=K) (hu:X.A.units+64<cLine):OpR X (compareOp .Eq) (fun x y H Q => rEq x y H Q∨rEqD K false x y H Q) := by subst hK;exact op_eq.or (op_eqD hu)
theorem op_neA (hK:X.K=K) (hu:X.A.units+64<cLine):OpR X (compareOp .NotEq) (fun x y H Q => rNe x y H Q∨rEqD K true x y H Q) := by subst hK;exact op_ne.or (op_neD hu)
noncomputable def tAllF:TF := fun _ => some true
theorem st_all:ST tAll tAllF := by
  intro fx H0 env σ H hE b hb Q q
  cases hb
  exact q H (Same.refl _)
end
end L2
namespace PySem
open Sem (wp)
end PySem
namespace L2
open PySem PySem.Spec PyProof.Rows
theorem pe_bm0K {X:Cx} {K:qB} (hK:X.K=K) {T:String} {name:Str} {id:String} {r:V→List V→Hp→VK→Prop} {o:Expr} {to:TE} {apos cpos:Pos} (pa:PlainAttrs T) (slot:Slot T name id) (hty:typeOf (.builtin id)=pure (.type "method_descriptor")) (hm:MtR X id r) (ho:PE X o to)
    (hbase:attributeBase o name X.env (eval o X.env)=eval o X.env := by rfl)
    (hline:(apos.endLine==cpos.line)=true := by rfl) :
    PE X (.Call (.Attribute o name apos) [] [] cpos) (tBM0 K T r to) := by subst hK;exact pe_bm0 pa slot hty hm ho hbase hline
noncomputable def eDGetV (i:Nat) (b:EF):EF := fun env => match env[i]? with
  | some (.pl (.dict kvs)) => (b env).bind fun y => (keyD y.d).bind fun k => (dgetD kvs k).bind fun d => some ⟨d,false,[]⟩
  | some (.ac (.dict kvs)) => (b env).bind fun y => (keyD y.d).bind fun k => (dgetD kvs k).bind fun d => some ⟨d,false,[]⟩
  | _ => none
theorem se_dgetv {i:Nat} {ty:TE} {fb:EF} (hb:SE ty fb):SE (tDGet (tVar i) ty) (eDGetV i fb) := by
  intro fx H0 env σ H h rr hr Q q
  unfold eDGetV at hr
  have key:∀ (a:Addr) (ps:List (Key×V)) (kvs:List (PyData×PyData)),σ[i]?=some (some (.ref a))→H a=some (.dK ps)→Rpd (Offs (fun b => fx b∨own env σ b) H) kvs ps→((fb env).bind fun y => (keyD y.d).bind fun k => (dgetD kvs k).bind fun d => some (⟨d,false,[]⟩:Val))=some rr→tDGet (tVar i) ty σ H Q := by
    intro a ps kvs hs ha r hr
    obtain ⟨y,ey,hr⟩ := qA.mp hr
    obtain ⟨k,ek,hr⟩ := qA.mp hr
    obtain ⟨d,ed,hr⟩ := qA.mp hr
    cases hr
    refine ⟨_,hs,hb fx H0 env σ H h _ ey _ fun u H2 s2 v2 => ?_⟩
    have g := (Rpd.same (Offs.grow s2) _ r).get (j := k)
    rw [ed] at g
    obtain ⟨w,e1,e2⟩ := g
    rw [key_v v2.rp ek]
    have dg := DGet.k (k := k) (s2 _ _ ha)
    rw [e1] at dg
    exact ⟨a,w,rfl,dg,q w H2 s2 ⟨Rp.same (Offs.sub lim_own) _ e2,fun z => by cases z⟩⟩
  split at hr
  · rename_i kvs ei
    obtain ⟨v,h1,h2⟩ := h.pl i _ ei
    obtain ⟨a,ps,rfl,ha,r⟩ := rp_dict h2
    exact key a ps kvs h1 (off_at ha) r hr
  · rename_i kvs ei
    obtain ⟨a,h1,h2,h3,ps,ha,r⟩ := h.ac i _ ei
    exact key a ps kvs h1 ha r hr
  · cases hr
noncomputable def eIxV (i:Nat) (b:EF):EF := fun env => match env[i]? with
  | some (.ac (.list ds)) => (b env).bind fun y => match y.d with
    | .int k => (atI ds k).map fun d => ⟨d,false,[]⟩
    | _ => none
  | _ => eOp ixD (eVar i) b env
theorem se_ixv {K:qB} {i:Nat} {tb:TE} {fb:EF} (hb:SE tb fb):SE (tOp (rIxU K) (tVar i) tb) (eIxV i fb) := by
  intro fx H0 env σ H h rr hr Q q
  unfold eIxV at hr
  split at hr
  · rename_i ds ei
    obtain ⟨⟨dy,fy,bys⟩,ey,hr⟩ := qA.mp hr
    cases dy with
    | int k =>
      obtain ⟨d,ed,rfl⟩ := qG.mp hr
      obtain ⟨a,h1,h2,h3,xs,ha,r⟩ := h.ac i _ ei
      refine ⟨_,h1,hb fx H0 env σ H h _ ey _ fun u H2 s2 v2 => ?_⟩
      cases rp_int v2.rp
      obtain ⟨v,hv,rv⟩ := (Rps.same (Offs.grow s2) _ r).atI ed
      exact ⟨xs,v,.inl (SqL.of (s2 _ _ ha)),hv,q _ H2 s2 ⟨Rp.same (Offs.sub lim_own) _ rv,fun z => by cases z⟩⟩
    | _ => cases hr
  · exact se_op so_ix (se_var i) hb fx H0 env σ H h rr hr Q q
end L2
namespace Bc
open PySem L2
noncomputable def F_names_of:SF := (sRet (eComp ["name", "elders"] [] (iItems (eVar 0)) (gT 2 (gsCons 0 (gsCons 1 gsNil))) tAllF (eVar 0)))
noncomputable def G_names_of:GF := fnD 1 F_names_of
noncomputable def F_roofs_of:SF := (sSeq (sSet 1 eDNew)
    (sSeq (sFor (iItems (eVar 0)) (gT 2 (gsCons 2 (gsCons 3 gsNil)))
    (sSeq (sSet 4 (eD1 (eVar 2) (eC (.bool true))))
    (sSeq (sFor (iItems (eVar 3)) (gN 5)
    (sUpd 4 (eDGetV 1 (eVar 5))))
    (sPut 1 (eVar 2) (eVar 4)))))
    (sRetV 1)))
noncomputable def G_roofs_of:GF := fnD 6 F_roofs_of
theorem compL_filter {α:Type} {enc out:α→PyData} {g:GT} {t:TF} {e:EF} {env:DEnv} (p:α→Bool):∀ {l:List α},(∀ x∈l,∃ e1,g (enc x) env=some e1∧t e1=some (p x)∧(p x=true→∃ r,e e1=some r∧r.d=out x)) →
    compL g t e env (l.map enc)=some ((l.filter p).map out)
  | [],_ => rfl
  | x::l,h => by
    obtain ⟨e1,h1,h2,h3⟩ := h x qm
    have ih := compL_filter (l := l) p fun y hy => h y (qO _ hy)
    rw [qv]
    unfold compL
    rw [h1,qC,h2,qC]
    cases hp:p x with
    | false =>
      rw [if_neg qI,ih,qBk,hp];rfl
    | true =>
      obtain ⟨r,h4,h5⟩ := h3 hp
      rw [if_pos rfl,h4,qC,ih,qBk,hp]
      simp [h5]
theorem compL_map {α:Type} {enc out:α→PyData} {g:GT} {t:TF} {e:EF} {env:DEnv} {l:List α} (h:∀ x∈l,∃ e1,g (enc x) env=some e1∧t e1=some true∧∃ r,e e1=some r∧r.d=out x):compL g t e env (l.map enc)=some (l.map out) := by
  have q := compL_filter (enc := enc) (out := out) (g := g) (t := t) (e := e) (env := env) (fun _ => true) (l := l) fun x hx => let ⟨e1,h1,h2,h3⟩ := h x hx;⟨e1,h1,h2,fun _ => h3⟩
  rw [q]
  congr 2
  exact List.filter_eq_self.mpr fun _ _ => rfl
theorem forL_run {α:Type} {enc:α→PyData} {g:GT} {body:SF} (I:List α→DEnv→Prop) (all:List α):∀ (l pre:List α) (env:DEnv),pre++l=all→I pre env →
    (∀ pre x post env,pre++x::post=all→I pre env→∃ e1 e2,g (enc x) env=some e1∧(body e1=some (.nx e2)∨body e1=some (.ct e2))∧I (pre++[x]) e2)→∃ env',forL g body (l.map enc) env=some (.nx env')∧I all env'
  | [],pre,env,hall,h0,hs => by
    rw [qAH] at hall
    subst hall
    exact ⟨env,rfl,h0⟩
  | x::l,pre,env,hall,h0,hs => by
    obtain ⟨e1,e2,h1,h2,h3⟩ := hs pre x l env hall h0
    obtain ⟨env',h4,h5⟩ := forL_run I all l (pre++[x]) e2 (by rw [← hall];simp) h3 hs
    refine ⟨env',?_,h5⟩
    rw [qv]
    unfold forL
    rw [h1,qC]
    rcases h2 with h2|h2<;>rw [h2,qC]<;>exact h4
theorem forL_runs {α:Type} {enc:α→PyData} {g:GT} {body:SF} {l:List α} {env:DEnv} (I:List α→DEnv→Prop) (h0:I [] env) (hs:∀ pre x post env,pre++x::post=l→I pre env→∃ e1 e2,g (enc x) env=some e1∧(body e1=some (.nx e2)∨body e1=some (.ct e2))∧I (pre++[x]) e2) :
    ∃ env',forL g body (l.map enc) env=some (.nx env')∧I l env' := forL_run I l l [] env rfl h0 hs
theorem seq_nx {f g:SF} {env e1:DEnv} {o:Option Out} (h:f env=some (.nx e1)) (k:g e1=o):sSeq f g env=o := by unfold sSeq;rw [h];exact k
theorem seq_rt {f g:SF} {env:DEnv} {d:PyData} {fr:Bool} (h:f env=some (.rt d fr)):sSeq f g env=some (.rt d fr) := by unfold sSeq;rw [h];rfl
theorem for_list {f:EF} {g:GT} {b:SF} {env:DEnv} {ds:List PyData} {fr:Bool} {bs:List Nat} {o:Option Out} (h:f env=some ⟨.list ds,fr,bs⟩) (k:forL g b ds (frzs env bs)=o):sFor (iItems f) g b env=o := by
  unfold sFor iItems;rw [h];exact k
theorem for_tuple {f:EF} {g:GT} {b:SF} {env:DEnv} {ds:List PyData} {fr:Bool} {bs:List Nat} {o:Option Out} (h:f env=some ⟨.tuple ds,fr,bs⟩) (k:forL g b ds (frzs env bs)=o):sFor (iItems f) g b env=o := by
  unfold sFor iItems;rw [h];exact k
theorem if_t {c:TF} {f g:SF} {env:DEnv} {o:Option Out} (h:c env=some true) (k:f env=o):sIf c f g env=o := by unfold sIf;rw [h];exact k
theorem if_f {c:TF} {f g:SF} {env:DEnv} {o:Option Out} (h:c env=some false) (k:g env=o):sIf c f g env=o := by unfold sIf;rw [h];exact k
theorem set_is {i:Nat} {f:EF} {env:DEnv} {r:Val} (h:f env=some r):sSet i f env=some (.nx (putV env i r)) := by unfold sSet;rw [h];rfl
theorem ret_is {f:EF} {env:DEnv} {d:PyData} {fr:Bool} {bs:List Nat} (h:f env=some ⟨d,fr,bs⟩):sRet f env=some (.rt d fr) := by unfold sRet;rw [h];rfl
theorem call_is {n:Nat} {g:GF} {f:AF} {env:DEnv} {rs:List Val} {d:PyData} {fr:Bool} (h:f env=some rs) (hn:rs.length=n) (k:g (datas rs)=some (d,fr)):eCall n g f env=some ⟨d,fr,bsOf d (bss rs)⟩ := by
  unfold eCall;rw [h,qC,if_pos hn,k];rfl
theorem comp_is {own:List Str} {fr:List Nat} {fi:IF'} {g:GT} {t:TF} {e:EF} {env:DEnv} {ds:List PyData} {bs:List Nat} {rs:List PyData} (h:fi env=some (ds,bs)) (hl:ds.length<100000) (k:compL g t e (envB own fr env) ds=some rs) :
    eComp own fr fi g t e env=some ⟨.list rs,true,if flatsD rs=true then [] else bs++capA fr env⟩ := by
  unfold eComp;rw [h,qC,if_pos hl,k];rfl
theorem fn_rt {n:Nat} {f:SF} {ds:List PyData} {env:DEnv} {d:PyData} {fr:Bool} (h:startD n ds=env) (e:f env=some (.rt d fr)):fnD n f ds=some (d,fr) := by
  unfold fnD;rw [h,e]
noncomputable def strsD (xs:List Str):PyData := .list (xs.map .str)
noncomputable def rowD (p:Str×List Str):PyData := .tuple [.str p.1,strsD p.2]
noncomputable def webD (W:Web):PyData := .list (W.map rowD)
theorem flats_strs (xs:List Str):flatsD (xs.map .str)=true := by
  unfold flatsD
  rw [qCC]
  exact qAI.mpr fun _ _ => rfl
theorem any_strs (xs:List Str) (x:Str):((xs.map PyData.str).any fun e => qAV e (.str x))=decide (x∈xs) := by
  rw [qCB,qAW,qBl,decide_eq_true_iff]
  constructor
  · rintro ⟨y,hy,h⟩
    have:y=x := by simpa [qAV] using h
    rw [← this];exact hy
  · exact fun h => ⟨x,h,by simp [qAV]⟩
theorem in_strs (b:Bool) (xs:List Str) (x:Str):inD b (.str x) (strsD xs)=some (.bool (if b then !decide (x∈xs) else decide (x∈xs)),false) := by
  unfold inD strsD
  simp only [itemsD]
  rw [if_pos ⟨rfl,flats_strs xs⟩,any_strs]
theorem g_names_of {W:Web} (hl:W.length<100000):G_names_of [webD W]=some (strsD (nm W),true) := by
  have c:compL (gT 2 (gsCons 0 (gsCons 1 gsNil))) tAllF (eVar 0) [.no,.no] (W.map rowD)=some (W.map fun p => PyData.str p.1) := compL_map fun p _ => ⟨[.pl (.str p.1),.pl (strsD p.2)],rfl,rfl,⟨.str p.1,false,[]⟩,rfl,rfl⟩
  have e:F_names_of [.pl (webD W)]=some (.rt (strsD (nm W)) true) := by
    unfold F_names_of sRet eComp iItems
    simp only [eVar,qAY,qC,webD,itemsD,qAw,qD]
    rw [if_pos hl]
    show Option.map _ (Option.map _ (compL _ _ _ [.no,.no] _))=_
    rw [c]
    unfold strsD nm
    simp
  show (match F_names_of [.pl (webD W)] with|some (.rt d fr) => some (d,fr)|some (.nx _) => some (.none,false)|_ => none)=_
  rw [e]
noncomputable def insS (ks:List Str) (k:Str):List Str := if k∈ks then ks else ks++[k]
noncomputable def upL (acc:List (Str×List Str)) (e:Str):List Str := (acc.lookup e).getD []
noncomputable def upsStep (acc:List (Str×List Str)) (p:Str×List Str):List (Str×List Str) := acc++[(p.1,p.2.foldl (fun ks e => (upL acc e).foldl insS ks) [p.1])]
noncomputable def ups (W:Web):List (Str×List Str) := W.foldl upsStep []
noncomputable def up (W:Web) (n:Str):List Str := upL (ups W) n
theorem ups_snoc (W:Web) (p:Str×List Str):ups (W++[p])=upsStep (ups W) p := by unfold ups;rw [qBb];rfl
theorem mem_insS {ks:List Str} {k x:Str}:x∈insS ks k↔x∈ks∨x=k := by
  unfold insS
  split
  · rename_i h
    exact ⟨.inl,fun z => z.elim id fun e => e▸h⟩
  · simp
theorem mem_insSs {x:Str}:∀ {ms ks:List Str},x∈ms.foldl insS ks↔x∈ks∨x∈ms
  | [],ks => by simp
  | m::ms,ks => by
    rw [qAr,mem_insSs,mem_insS]
    simp [or_assoc]
theorem nd_insS {ks:List Str} {k:Str} (h:ks.Nodup):(insS ks k).Nodup := by
  unfold insS
  split
  · exact h
  · rename_i hk;exact nd_snoc h hk
theorem nd_insSs:∀ {ms ks:List Str},ks.Nodup→(ms.foldl insS ks).Nodup
  | [],_,h => h
  | _::ms,_,h => nd_insSs (ms := ms) (nd_insS h)
theorem mem_ups {acc:List (Str×List Str)} {x:Str}:∀ {es ks:List Str},x∈es.foldl (fun ks e => (upL acc e).foldl insS ks) ks↔x∈ks∨∃ e∈es,x∈upL acc e
  | [],ks => by simp
  | e::es,ks => by
    rw [qAr,mem_ups,mem_insSs]
    simp [or_assoc]
theorem nd_ups {acc:List (Str×List Str)}:∀ {es ks:List Str},ks.Nodup→(es.foldl (fun ks e => (upL acc e).foldl insS ks) ks).Nodup
  | [],_,h => h
  | _::es,_,h => nd_ups (es := es) (nd_insSs h)
theorem lookup_append {l:List (Str×List Str)} {n:Str} {p:Str×List Str}:(l++[p]).lookup n=(l.lookup n).or (if n==p.1 then some p.2 else none) := by
  induction l with
  | nil =>
    obtain ⟨a,b⟩ := p
    show List.lookup n [(a,b)]=_
    rw [qo]
    cases n==a<;>rfl
  | cons q l ih =>
    obtain ⟨a,b⟩ := q
    rw [List.cons_append,qo,qo]
    cases n==a with
    | true => rfl
    | false => exact ih
theorem snocInd {α:Type} {P:List α→Prop} (h0:P []) (hs:∀ l x,P l→P (l++[x])):∀ l,P l := by
  intro l
  have:∀ n (l:List α),l.length=n→P l := by
    intro n
    induction n with
    | zero => intro l e;rw [qAp.mp e];exact h0
    | succ n ih =>
      intro l e
      have hne:l≠[] := fun z => by rw [z] at e;cases e
      rw [← qAx hne]
      exact hs _ _ (ih _ (by rw [qCJ,e];rfl))
  exact this _ l rfl
theorem keys_ups:∀ (W:Web),(ups W).map (·.1)=nm W := by
  refine snocInd rfl fun W p ih => ?_
  rw [ups_snoc]
  unfold upsStep nm
  rw [qAG,qAG,ih]
  rfl
theorem nm_snoc (W:Web) (p:Str×List Str):nm (W++[p])=nm W++[p.1] := by unfold nm;rw [qAG];rfl
theorem webOk_snoc {W:Web} {p:Str×List Str} (h:WebOk (W++[p])):WebOk W∧p.1∉nm W∧(∀ e∈p.2,e∈nm W)∧p.2.length≤4 := by
  have hp:(W++[p])[W.length]?=some p := by simp
  refine ⟨⟨?_,fun i n es e => ?_,fun q hq => h.few q (qi _ hq),?_⟩,?_,fun e he => ?_,h.few p (by simp)⟩
  · have := h.nd;rw [nm_snoc] at this;exact (qBa.mp this).1
  · have hi:i<W.length := (qQ.mp e).1
    have q := h.el i n es (by rw [qk hi];exact e)
    rw [qAb (by omega)] at q
    exact q
  · have := h.len;simp at this;omega
  · have := h.nd
    rw [nm_snoc] at this
    intro hm
    exact (qBa.mp this).2.2 p.1 hm p.1 (by simp) rfl
  · have q := h.el W.length p.1 p.2 hp e he
    rw [qAb (qR _),qBE] at q
    exact q
theorem lookup_some {l:List (Str×List Str)} {n:Str} (h:n∈l.map (·.1)):∃ ks,l.lookup n=some ks∧(n,ks)∈l := by
  induction l with
  | nil => simp at h
  | cons q l ih =>
    obtain ⟨a,b⟩ := q
    rw [qo]
    cases e:n==a with
    | true => rw [eq_of_beq e];exact ⟨b,rfl,qm⟩
    | false =>
      have hn:n≠a := beq_eq_false_iff_ne.mp e
      rcases qy.mp h with z|z
      · exact absurd z hn
      · obtain ⟨ks,h1,h2⟩ := ih z
        exact ⟨ks,h1,qO _ h2⟩
theorem up_keep {W:Web} {p:Str×List Str} {m:Str} (h:m∈nm W):up (W++[p]) m=up W m := by
  unfold up upL
  rw [ups_snoc]
  unfold upsStep
  obtain ⟨ks,e,_⟩ := lookup_some (l := ups W) (n := m) (by rw [keys_ups];exact h)
  rw [lookup_append,e]
  rfl
theorem lookup_none {l:List (Str×List Str)} {n:Str} (h:n∉l.map (·.1)):l.lookup n=none := by
  induction l with
  | nil => rfl
  | cons q l ih =>
    obtain ⟨a,b⟩ := q
    rw [qo]
    have h1:n≠a := fun z => h (by simp [z])
    rw [beq_eq_false_iff_ne.mpr h1]
    exact ih fun z => h (qO _ z)
theorem up_new {W:Web} {p:Str×List Str} (h:p.1∉nm W):up (W++[p]) p.1=p.2.foldl (fun ks e => (upL (ups W) e).foldl insS ks) [p.1] := by
  unfold up upL
  rw [ups_snoc]
  unfold upsStep
  rw [lookup_append,lookup_none (by rw [keys_ups];exact h)]
  simp [upL]
theorem mem_nm {W:Web} {n:Str} {es:List Str} (h:(n,es)∈W):n∈nm W := qBK.mpr ⟨_,h,rfl⟩
theorem webOk_el {W:Web} (h:WebOk W) {n:Str} {es:List Str} (hm:(n,es)∈W):∀ e∈es,e∈nm W := fun e he => by
  obtain ⟨i,hi,e'⟩ := qCR hm
  have q := h.el i n es (by rw [qF hi,e']) e he
  obtain ⟨p,h1,h2⟩ := qBK.mp q
  exact qBK.mpr ⟨p,List.mem_of_mem_take h1,h2⟩
theorem up_mem {x:Str}:∀ {W:Web},WebOk W→∀ {n:Str} {es:List Str},(n,es)∈W→(x∈up W n↔x=n∨∃ e∈es,x∈up W e) := by
  intro W
  refine snocInd (P := fun W => WebOk W→∀ {n:Str} {es:List Str},(n,es)∈W→(x∈up W n↔x=n∨∃ e∈es,x∈up W e)) (fun _ n es h => nomatch h) (fun W p ih h n es hm => ?_) W
  obtain ⟨hW,hp,hel,_⟩ := webOk_snoc h
  rcases qAA.mp hm with hm|hm
  · rw [up_keep (mem_nm hm),ih hW hm]
    have:(∃ e∈es,x∈up W e)↔∃ e∈es,x∈up (W++[p]) e := by
      constructor
      · rintro ⟨e,he,hx⟩;exact ⟨e,he,by rw [up_keep (webOk_el hW hm e he)];exact hx⟩
      · rintro ⟨e,he,hx⟩;exact ⟨e,he,by rw [up_keep (webOk_el hW hm e he)] at hx;exact hx⟩
    rw [this]
  · have e:(n,es)=p := by simpa using hm
    subst e
    rw [up_new hp,mem_ups]
    have:(∃ e∈es,x∈upL (ups W) e)↔∃ e∈es,x∈up (W++[(n,es)]) e := by
      constructor
      · rintro ⟨e,he,hx⟩;exact ⟨e,he,by rw [up_keep (hel e he)];exact hx⟩
      · rintro ⟨e,he,hx⟩;exact ⟨e,he,by rw [up_keep (hel e he)] at hx;exact hx⟩
    rw [this]
    simp
theorem up_sub:∀ {W:Web},WebOk W→∀ {n x:Str},x∈up W n→x∈nm W := by
  intro W
  refine snocInd (P := fun W => WebOk W→∀ {n x:Str},x∈up W n→x∈nm W) (fun _ n x h => by simp [up,ups,upL] at h) (fun W p ih h n x hx => ?_) W
  obtain ⟨hW,hp,hel,_⟩ := webOk_snoc h
  rw [nm_snoc]
  by_cases hn:n∈nm W
  · rw [up_keep hn] at hx
    exact qi _ (ih hW hx)
  · by_cases e:n=p.1
    · rw [e,up_new hp,mem_ups] at hx
      rcases hx with hx|⟨e',_,hx⟩
      · exact qX _ (by simpa using hx)
      · exact qi _ (ih hW hx)
    · unfold up upL at hx
      rw [ups_snoc] at hx
      unfold upsStep at hx
      rw [lookup_append,lookup_none (by rw [keys_ups];exact hn),beq_eq_false_iff_ne.mpr e] at hx
      simp at hx
theorem up_nd:∀ {W:Web} {n:Str},(up W n).Nodup := by
  intro W
  refine snocInd (P := fun W => ∀ {n:Str},(up W n).Nodup) (fun {n} => by simp [up,ups,upL]) (fun W p ih n => ?_) W
  unfold up upL
  rw [ups_snoc]
  unfold upsStep
  rw [lookup_append]
  cases e:(ups W).lookup n with
  | some ks =>
    have q := ih (n := n)
    unfold up upL at q
    rw [e] at q
    exact q
  | none =>
    show ((if n==p.1 then some _ else none).getD []).Nodup
    split
    · exact nd_ups (by simp)
    · exact qBx
theorem up_len {W:Web} (h:WebOk W) (n:Str):(up W n).length≤12 := by
  have := nodup_sub _ (nm W) (up_nd (W := W) (n := n)) fun x hx => up_sub h hx
  have := nm_len h
  omega
noncomputable def dS (f:List Str→PyData) (l:List (Str×List Str)):List (PyData×PyData) := l.map fun p => (.str p.1,f p.2)
theorem dget_dS (f:List Str→PyData) (n:Str):∀ l:List (Str×List Str),dgetD (dS f l) (Sum.inr n)=(l.lookup n).map f
  | [] => rfl
  | (a,b)::l => by
    have ih := dget_dS f n l
    show (if keyD (.str a)=some (Sum.inr n) then some (f b) else dgetD (dS f l) (Sum.inr n))=_
    rw [qo]
    by_cases e:a=n
    · subst e;rw [if_pos (show keyD (.str a)=some (Sum.inr a) from rfl),beq_self_eq_true];rfl
    · rw [if_neg (show ¬ keyD (.str a)=some (Sum.inr n) from fun z => e (qBe (qP z))),beq_eq_false_iff_ne.mpr (qAo e)]
      exact ih
theorem dput_dS (f:List Str→PyData) {l:List (Str×List Str)} {n:Str} {ks:List Str} (h:n∉l.map (·.1)):dputD (dS f l) (.str n) (f ks)=dS f (l++[(n,ks)]) := by
  unfold dputD dS
  rw [if_neg,qAG]
  · rfl
  · intro z
    rw [qCB,qBl] at z
    obtain ⟨p,hp,e⟩ := z
    have e := of_decide_eq_true e
    exact h (qBK.mpr ⟨p,hp,qBe (qP e)⟩)
noncomputable def roofL (ks:List Str):List (PyData×PyData) := ks.map fun k => (.str k,.bool true)
noncomputable def roofD (ks:List Str):PyData := .dict (roofL ks)
theorem dput_roof (ks:List Str) (k:Str):dputD (roofL ks) (.str k) (.bool true)=roofL (insS ks k) := by
  have ha:((roofL ks).any fun kv => decide (keyD kv.1=keyD (.str k)))=decide (k∈ks) := by
    unfold roofL
    rw [qCB,qAW,qBl,decide_eq_true_iff]
    constructor
    · rintro ⟨y,hy,h⟩
      have h := of_decide_eq_true h
      have:y=k := qBe (qP h)
      rw [← this];exact hy
    · exact fun h => ⟨k,h,decide_eq_true rfl⟩
  unfold dputD insS
  rw [ha]
  by_cases hk:k∈ks
  · rw [if_pos (decide_eq_true hk),if_pos hk]
    unfold roofL
    rw [qA3]
    refine qAm fun y _ => ?_
    show (if keyD (PyData.str y)=keyD (.str k) then (PyData.str y,PyData.bool true) else (PyData.str y,PyData.bool true))=_
    split<;>rfl
  · rw [if_neg (by simpa using hk),if_neg hk]
    unfold roofL
    rw [qAG];rfl
theorem dmerge_roof:∀ (ms ks:List Str),dmergeD (roofL ks) (roofL ms)=roofL (ms.foldl insS ks)
  | [],_ => rfl
  | m::ms,ks => by
    show dmergeD (dputD (roofL ks) (.str m) (.bool true)) (roofL ms)=_
    rw [dput_roof,dmerge_roof ms];rfl
theorem take_pre {α:Type} {pre post:List α} {x:α} {l:List α} (h:pre++x::post=l):l=(pre++[x])++post := by rw [← h];simp
theorem webOk_pre:∀ {post W:Web},WebOk (W++post)→WebOk W := by
  intro post
  refine snocInd (P := fun post => ∀ {W:Web},WebOk (W++post)→WebOk W) (fun {W} h => by rwa [qAH] at h) (fun post p ih W h => ?_) post
  rw [← qBc] at h
  exact ih (webOk_snoc h).1
theorem g_roofs_of {W:Web} (h:WebOk W):G_roofs_of [webD W]=some (.dict (dS roofD (ups W)),true) := by
  have inner:∀ (V:Web) (p:Str×List Str) (es pre:List Str) (s5:Sl),WebOk (V++[p])→pre++es=p.2 →
      ∃ s5',forL (gN 5) (sUpd 4 (eDGetV 1 (eVar 5))) (es.map .str) [.pl (webD W),.ac (.dict (dS roofD (ups V))),.pl (.str p.1),.pl (strsD p.2),.ac (roofD (pre.foldl (fun ks e => (upL (ups V) e).foldl insS ks) [p.1])),s5] =
        some (.nx [.pl (webD W),.ac (.dict (dS roofD (ups V))),.pl (.str p.1),.pl (strsD p.2),.ac (roofD (p.2.foldl (fun ks e => (upL (ups V) e).foldl insS ks) [p.1])),s5']) := by
    intro V p es
    induction es with
    | nil => intro pre s5 _ e;rw [qAH] at e;subst e;exact ⟨s5,rfl⟩
    | cons e es ih =>
      intro pre s5 hV hp
      obtain ⟨hV',hn,hel,hfew⟩ := webOk_snoc hV
      have he:e∈nm V := hel e (by rw [← hp];simp)
      obtain ⟨ks,lk,_⟩ := lookup_some (l := ups V) (n := e) (by rw [keys_ups];exact he)
      have eup:upL (ups V) e=ks := by unfold upL;rw [lk];rfl
      have l1:ks.length≤12 := by rw [← eup];exact up_len hV' e
      have sub:∀ x∈pre.foldl (fun ks e => (upL (ups V) e).foldl insS ks) [p.1],x∈nm (V++[p]) := fun x hx => by
        rw [nm_snoc]
        rcases mem_ups.mp hx with z|⟨e',_,z⟩
        · exact qX _ (by simpa using z)
        · exact qi _ (up_sub hV' z)
      have l2:(pre.foldl (fun ks e => (upL (ups V) e).foldl insS ks) [p.1]).length≤12 := by
        have := nodup_sub _ _ (nd_ups (acc := ups V) (es := pre) (ks := [p.1]) (by simp)) sub
        have := nm_len hV
        omega
      obtain ⟨s5',q⟩ := ih (pre++[e]) (.pl (.str e)) hV (by rw [← hp];simp)
      refine ⟨s5',?_⟩
      rw [qv]
      unfold forL
      simp only [gN,qC,List.set_cons_succ,List.set_cons_zero]
      have b:sUpd 4 (eDGetV 1 (eVar 5)) [.pl (webD W),.ac (.dict (dS roofD (ups V))),.pl (.str p.1),.pl (strsD p.2),.ac (roofD (pre.foldl (fun ks e => (upL (ups V) e).foldl insS ks) [p.1])),.pl (.str e)] =
          some (.nx [.pl (webD W),.ac (.dict (dS roofD (ups V))),.pl (.str p.1),.pl (strsD p.2),.ac (roofD ((pre++[e]).foldl (fun ks e => (upL (ups V) e).foldl insS ks) [p.1])),.pl (.str e)]) := by
        have lz:(roofL (pre.foldl (fun ks e => (upL (ups V) e).foldl insS ks) [p.1])).length+(roofL ks).length≤100000 := by unfold roofL;rw [qD,qD];omega
        simp only [sUpd,roofD,eDGetV,eVar,qAq,qAY,qC,keyD,dget_dS,lk,qAw]
        rw [if_pos ⟨lz,by simp⟩,dmerge_roof]
        simp [frzs,qBb,eup]
      rw [b,qC]
      exact q
  have outer:∃ env',forL (gT 2 (gsCons 2 (gsCons 3 gsNil))) (sSeq (sSet 4 (eD1 (eVar 2) (eC (.bool true)))) (sSeq (sFor (iItems (eVar 3)) (gN 5) (sUpd 4 (eDGetV 1 (eVar 5)))) (sPut 1 (eVar 2) (eVar 4)))) (W.map rowD) [.pl (webD W),.ac (.dict []),.no,.no,.no,.no]=some (.nx env') ∧
      ∃ s2 s3 s4 s5,env'=[.pl (webD W),.ac (.dict (dS roofD (ups W))),s2,s3,s4,s5] := by
    refine forL_runs (fun pre env => ∃ s2 s3 s4 s5,env=[.pl (webD W),.ac (.dict (dS roofD (ups pre))),s2,s3,s4,s5]) ⟨_,_,_,_,rfl⟩ ?_
    rintro pre p post env hp ⟨s2,s3,s4,s5,rfl⟩
    have hV:WebOk (pre++[p]) := webOk_pre (post := post) (by rw [← take_pre hp];exact h)
    obtain ⟨hV',hn,hel,hfew⟩ := webOk_snoc hV
    obtain ⟨s5',q⟩ := inner pre p p.2 [] s5 hV rfl
    refine ⟨[.pl (webD W),.ac (.dict (dS roofD (ups pre))),.pl (.str p.1),.pl (strsD p.2),s4,s5],[.pl (webD W),.ac (.dict (dS roofD (ups (pre++[p])))),.pl (.str p.1),.pl (strsD p.2),.pl (roofD (p.2.foldl (fun ks e => (upL (ups pre) e).foldl insS ks) [p.1])),s5'],rfl,.inl ?_,_,_,_,_,rfl⟩
    have lz:(dS roofD (ups pre)).length<100000 := by
      unfold dS
      rw [qD,← qD (f := (·.1)),keys_ups]
      have := nm_len hV'
      omega
    have st:sSet 4 (eD1 (eVar 2) (eC (.bool true))) [.pl (webD W),.ac (.dict (dS roofD (ups pre))),.pl (.str p.1),.pl (strsD p.2),s4,s5]=some (.nx [.pl (webD W),.ac (.dict (dS roofD (ups pre))),.pl (.str p.1),.pl (strsD p.2),.ac (roofD [p.1]),s5]) := by
      simp [sSet,eD1,eVar,eC,keyD,putV,frzs,slOf,roofD,roofL]
    have pt:sPut 1 (eVar 2) (eVar 4) [.pl (webD W),.ac (.dict (dS roofD (ups pre))),.pl (.str p.1),.pl (strsD p.2),.ac (roofD (p.2.foldl (fun ks e => (upL (ups pre) e).foldl insS ks) [p.1])),s5'] =
        some (.nx [.pl (webD W),.ac (.dict (dS roofD (ups (pre++[p])))),.pl (.str p.1),.pl (strsD p.2),.pl (roofD (p.2.foldl (fun ks e => (upL (ups pre) e).foldl insS ks) [p.1])),s5']) := by
      simp only [sPut,eVar,qAq,qAY,qC,keyD]
      rw [if_pos ⟨lz,by simp⟩,dput_dS roofD (by rw [keys_ups];exact hn),ups_snoc]
      simp [frzs,frz1,upsStep]
    exact seq_nx st (seq_nx (for_list rfl q) pt)
  obtain ⟨env',hl,s2,s3,s4,s5,rfl⟩ := outer
  exact fn_rt (env := [.pl (webD W),.no,.no,.no,.no,.no]) rfl (seq_nx rfl (seq_nx (for_list rfl hl) rfl))
noncomputable def ltr (i:Int):Str := ⟨#[97+i.toNat]⟩
noncomputable def Low (x:Str):Prop := ∀ c∈x.cps.toList,c<128
theorem strOk_low {x:Str} (h:Low x):qAL x=true := by
  unfold qAL
  rw [← Array.all_toList,qAI]
  intro c hc
  have := h c hc
  exact decide_eq_true (by omega)
theorem app_list (a b:Str):(a++b).cps.toList=a.cps.toList++b.cps.toList := by
  show (a.cps++b.cps).toList=_
  simp
theorem Low.app {a b:Str} (h1:Low a) (h2:Low b):Low (a++b) := fun c hc => by
  rw [app_list] at hc
  exact (qAA.mp hc).elim (h1 c) (h2 c)
theorem Low.slice {x:Str} (h:Low x) (l u:Option Int):Low (Txt.slice x l u) := fun c hc => by
  unfold Txt.slice at hc
  split at hc
  · exact h c hc
  · have hc:c∈(List.filterMap (x.cps[·]?) (Builtin.Str.strSliceIndices l u 1 x.length)) := by simpa using hc
    obtain ⟨i,_,e⟩ := qBW.mp hc
    exact h c (by
      have := Array.mem_of_getElem? e
      simpa using this)
theorem Low.ltr {i:Int} (h0:0≤i) (h1:i<26):Low (ltr i) := fun c hc => by
  have:c=97+i.toNat := by simpa [Bc.ltr] using hc
  omega
theorem ltr_inj {i j:Int} (h0:0≤i) (h1:0≤j) (h:ltr i=ltr j):i=j := by
  unfold ltr at h
  have:#[97+i.toNat]=#[97+j.toNat] := by injection h
  have:97+i.toNat=97+j.toNat := by simpa using this
  omega
noncomputable abbrev vi (i:Int):Val := ⟨.int i,false,[]⟩
noncomputable abbrev vs (x:Str):Val := ⟨.str x,false,[]⟩
noncomputable abbrev vb (b:Bool):Val := ⟨.bool b,false,[]⟩
section
variable {a b:EF} {env:DEnv} {i j:Int}
theorem e_mod (ha:a env=some (vi i)) (hb:b env=some (vi j)) (h:0<j):eOp modD a b env=some (vi (i % j)) := by
  unfold eOp;rw [ha,hb];simp [modD,intD,h,bsOf,flatD]
theorem e_fdiv (ha:a env=some (vi i)) (hb:b env=some (vi j)) (h:0<j) (h2:j<1073741824):eOp fdivD a b env=some (vi (i / j)) := by
  unfold eOp;rw [ha,hb];simp [fdivD,intD,h,h2,bsOf,flatD]
theorem e_add (ha:a env=some (vi i)) (hb:b env=some (vi j)):eOp addD a b env=some (vi (i+j)) := by
  unfold eOp;rw [ha,hb];simp [addD,bsOf,flatD]
theorem e_mul (ha:a env=some (vi i)) (hb:b env=some (vi j)) (h:(-(2 ^ 64)<i∧i<2 ^ 64)∨(-(2 ^ 64)<j∧j<2 ^ 64)):eOp mulD a b env=some (vi (i * j)) := by
  unfold eOp;rw [ha,hb]
  simp only [qC,mulD]
  rw [if_pos h];simp [bsOf,flatD]
theorem e_eqi (ha:a env=some (vi i)) (hb:b env=some (vi j)):eOp eqD a b env=some (vb (i==j)) := by
  unfold eOp;rw [ha,hb];rfl
theorem e_addS {x y:Str} (ha:a env=some (vs x)) (hb:b env=some (vs y)) (h:x.length+y.length≤100000):eOp addD a b env=some (vs (x++y)) := by
  unfold eOp;rw [ha,hb]
  simp only [qC,addD]
  rw [if_pos h];simp [bsOf,flatD]
theorem e_slS {x:Str} {l h:PF'} {lo hi:Option Int} (ha:a env=some (vs x)) (hl:l env=some lo) (hh:h env=some hi) (hz:x.length≤100000):eSl a l h env=some (vs (Txt.slice x lo hi)) := by
  unfold eSl;rw [ha,hl,hh]
  simp only [qC,slD]
  rw [if_pos hz];simp [bsOf,flatD]
theorem p_some (ha:a env=some (vi i)):pSome a env=some (some i) := by unfold pSome;rw [ha];rfl
theorem t_bool {c:Bool} (ha:a env=some (vb c)):tBool a env=some c := by unfold tBool;rw [ha];rfl
theorem args1 {r:Val} (ha:a env=some r):aCons a aNil env=some [r] := by unfold aCons aNil;rw [ha];rfl
theorem e_lenL {ds:List PyData} {fr:Bool} {bs:List Nat} (ha:a env=some ⟨.list ds,fr,bs⟩):eCB lenD (aCons a aNil) env=some (vi ds.length) := by
  unfold eCB
  rw [args1 ha]
  simp [datas,lenD,bsOf,flatD]
theorem at_map {α β:Type} (f:α→β) {l:List α} {n:Nat} {x:α} (h:l[n]?=some x):atI (l.map f) (n:Int)=some (f x) := atI_nat (by rw [qd,h];rfl)
theorem e_ixV {k n:Nat} {b:EF} {ds:List PyData} {d:PyData} (he:env[k]?=some (.pl (.list ds))) (hb:b env=some (vi (n:Int))) (hd:ds[n]?=some d):eIxV k b env=some ⟨d,false,[]⟩ := by
  unfold eIxV
  rw [he]
  unfold eOp eVar
  rw [he,hb]
  simp only [qC,ixD]
  rw [atI_nat hd]
  simp [bsOf]
theorem e_ixA {k n:Nat} {b:EF} {ds:List PyData} {d:PyData} (he:env[k]?=some (.ac (.list ds))) (hb:b env=some (vi (n:Int))) (hd:ds[n]?=some d):eIxV k b env=some ⟨d,false,[]⟩ := by
  unfold eIxV
  rw [he]
  simp only
  rw [hb]
  simp only [qC]
  rw [atI_nat hd];rfl
end
noncomputable def abc:Str := "abcdefghijklmnopqrstuvwxyz"
theorem abc_all:(List.range 26).all (fun i => abc.cps.toList[i]?==some (97+i))=true := by decide +kernel
theorem abc_len:abc.length=26 := by decide +kernel
theorem abc_at {i:Int} (h0:0≤i) (h1:i<26):atI abc.cps.toList i=some (97+i.toNat) := by
  have q := qAI.mp abc_all i.toNat (qA7.mpr (by omega))
  have e:((i.toNat:Nat):Int)=i := by omega
  rw [← e]
  have z := atI_nat (eq_of_beq q)
  rw [e] at z ⊢
  exact z
theorem range_map (n:Nat):rangeD 0 n=(List.range n).map (fun (k:Nat) => PyData.int (k:Int)) := by
  unfold rangeD
  refine qAm fun k _ => ?_
  show PyData.int (0+(k:Int))=_
  rw [Int.zero_add]
theorem app_len (a b:Str):(a++b).length=a.length+b.length := by
  have := congrArg List.length (app_list a b)
  rw [qK] at this
  simpa [Str.length] using this
theorem webOk_nil:WebOk [] := ⟨qBx,fun i n es e => by simp at e,fun p hp => by simp at hp,by simp⟩
theorem webOk_add {W:Web} {p:Str×List Str} (h:WebOk W) (hn:p.1∉nm W) (he:∀ e∈p.2,e∈nm W) (hf:p.2.length≤4) (hl:W.length<12):WebOk (W++[p]) := by
  refine ⟨by rw [nm_snoc];exact nd_snoc h.nd hn,fun i n es e => ?_,fun q hq => ?_,by simp;omega⟩
  · by_cases hi:i<W.length
    · rw [qk hi] at e
      rw [qAb (by omega)]
      exact h.el i n es e
    · rw [qg (by omega)] at e
      have hi2:i - W.length=0 := by
        have := (qQ.mp e).1
        simp at this;omega
      rw [hi2] at e
      cases e
      have:i=W.length := by omega
      subst this
      rw [qAb (qR _),qBE]
      exact he
  · rcases qAA.mp hq with hq|hq
    · exact h.few q hq
    · rw [qAP.mp hq];exact hf
theorem nd_inj {α:Type} {l:List α} (nd:l.Nodup) {i j:Nat} {hi:i<l.length} {hj:j<l.length} (e:l[i]=l[j]):i=j := by
  rcases Nat.lt_trichotomy i j with h|h|h
  · exact absurd e (qA6.mp nd i j hi hj h)
  · exact h
  · exact absurd e.symm (qA6.mp nd j i hj hi h)
section
variable {a b:EF} {env:DEnv} {x y:Str}
end
theorem ups_lookup {W:Web} {n:Str} (h:n∈nm W):(ups W).lookup n=some (up W n) := by
  obtain ⟨ks,e,_⟩ := lookup_some (l := ups W) (n := n) (by rw [keys_ups];exact h)
  unfold up upL
  rw [e];rfl
theorem args_cons {a:EF} {f:AF} {env:DEnv} {r:Val} {rs:List Val} (ha:a env=some r) (hf:f env=some rs):aCons a f env=some (r::rs) := by unfold aCons;rw [ha,hf];rfl
theorem lay_strs:∀ (xs:List Str),(∀ x∈xs,qAL x=true)→qAs (xs.map .str)=true∧qBh (xs.map .str)=0
  | [],_ => ⟨rfl,rfl⟩
  | x::xs,h => by
    obtain ⟨h1,h2⟩ := lay_strs xs fun y hy => h y (qO _ hy)
    rw [qv]
    refine ⟨?_,?_⟩
    · show (qAL x&&qAs (xs.map .str))=true
      rw [h x qm,h1];rfl
    · show max 0 (qBh (xs.map .str))=0
      rw [h2];rfl
end Bc
namespace L2
open PySem PySem.Spec PyProof.Rows
section
variable {X:Cx}
end
end L2
namespace PySem
open Sem (wp)
end PySem
namespace L2
open PySem PySem.Spec PyProof.Rows
instance memKey (k:Key) (l:List Key):Decidable (k∈l) := decidable_of_iff (∃ x,x∈l∧x=k) ⟨fun ⟨x,h,e⟩ => e▸h,fun h => ⟨k,h,rfl⟩⟩
end L2
namespace Bc
open PySem L2
noncomputable def F_names_in:SF := (sSeq (sIf (tTru (eIsi "tuple" (eVar 0))) (sRet (eCB listD (aCons (eVar 0) aNil))) sNil)
    (sRet (eLst (aCons (eVar 0) aNil))))
noncomputable def G_names_in:GF := fnD 1 F_names_in
noncomputable def F_roof_of:SF := (sSeq (sSet 2 eDNew)
    (sSeq (sFor (iItems (eCall 1 G_names_in (aCons (eVar 1) aNil))) (gN 3)
    (sUpd 2 (eDGetV 0 (eVar 3))))
    (sRetV 2)))
noncomputable def G_roof_of:GF := fnD 4 F_roof_of
noncomputable def hdg (W:Web) (n:Str):List Str := (nm W).filter fun x => decide (x∈up W n)
theorem mem_hdg {W:Web} (h:WebOk W) {n x:Str}:x∈hdg W n↔x∈up W n := by
  unfold hdg;rw [qAz,decide_eq_true_iff];exact ⟨fun z => z.2,fun z => ⟨up_sub h z,z⟩⟩
theorem hdg_len {W:Web} (h:WebOk W) {n:Str}:(hdg W n).length≤12 := qAF (List.length_filter_le _ _) (nm_len h)
theorem bools_map {α:Type} (f:α→Bool):∀ (l:List α),boolsD (l.map fun x => .bool (f x))=some (l.map f)
  | [] => rfl
  | x::l => by
    show (boolsD (l.map fun x => .bool (f x))).map _=_
    rw [bools_map f l];rfl
theorem e_all {α:Type} {f:α→Bool} {l:List α} {a:EF} {env:DEnv} {fr:Bool} {bs:List Nat} (ha:a env=some ⟨.list (l.map fun x => .bool (f x)),fr,bs⟩):eCB (anyD fun bs => bs.all id) (aCons a aNil) env=some (vb (l.all f)) := by
  unfold eCB
  rw [args1 ha,qC]
  show ((boolsD (l.map fun x => .bool (f x))).map _).bind _=_
  rw [bools_map]
  simp only [qAw,qC,qCC]
  rfl
end Bc
namespace PySem
open Sem (wp)
section
variable {prog:Program} {w:World} {A:Around} {E:Value→Shared→Prop} {s:Shared}
end
end PySem
namespace L2
open PySem PySem.Spec PyProof.Rows
section
variable {X:Cx} {pins:List (Addr×Obj)} {σ:St} {H:Hp} {s:Shared}
end
end L2
namespace PySem
open Sem (wp)
end PySem
namespace L2
open PySem PySem.Spec PyProof.Rows
section
variable {X:Cx}
end
end L2
namespace PySem
open Sem (wp)
open AutoSeq1 (wpAny_loadPart')
end PySem
namespace L2
open PySem PySem.Spec PyProof.Rows
noncomputable def isStar:Expr→Bool
  | .Starred .. => true
  | _ => false
theorem star_each {e:Expr} {es:List Expr} {env:Env} (h:isStar e=false):starEach (e::es) env=(false,eval e env)::starEach es env := by
  cases e<;>first
    | rfl
    | cases h
theorem pa_consF {X:Cx} {e:Expr} {es:List Expr} {te:TE} {t:TA} (ha:PE X e te) (hr:PA X es t) (hs:isStar e=false := by rfl):PA X (e::es) (tCons te t) := pa_cons ha hr (star_each hs)
end L2
namespace PySem.SeqAt
open AutoSeq1 (wpAny_loadPart')
open MeetsSeq PyProof.Rows
section
variable {A:Around} {s:Shared}
end
end PySem.SeqAt
namespace L2
open PySem PySem.Spec PyProof.Rows
section
variable {X:Cx}
end
theorem Rps.setAt {H:Hp} {ds:List PyData} {vs:List V} (h:Rps H ds vs) {d:PyData} {v:V} (hv:Rp H d v) (n:Nat):Rps H (ds.set n d) (vs.set n v) := by
  induction n generalizing ds vs with
  | zero =>
    cases ds with
    | nil => unfold Rps at h;subst h;exact rps_nil
    | cons e ds => unfold Rps at h;obtain ⟨w,ws,rfl,h1,h2⟩ := h;exact rps_cons hv h2
  | succ n ih =>
    cases ds with
    | nil => unfold Rps at h;subst h;exact rps_nil
    | cons e ds => unfold Rps at h;obtain ⟨w,ws,rfl,h1,h2⟩ := h;exact rps_cons h1 (ih h2)
noncomputable def sSetI (i:Nat) (fk fv:EF):SF := fun env => match env[i]? with
  | some (.ac (.list ds)) => (fv env).bind fun r => (fk env).bind fun k => match k.d with
    | .int z => (ixN ds.length z).bind fun j => if i∉r.bs then some (.nx ((frzs env r.bs).set i (.ac (.list (ds.set j r.d))))) else none
    | _ => none
  | _ => none
theorem Rps.dropLast {H:Hp} {ds:List PyData} {vs:List V} (h:Rps H ds vs):Rps H ds.dropLast vs.dropLast := by
  have := h.take (ds.length - 1)
  rw [← qCA,h.length,← qCA] at this
  exact this
structure Bx (p:Prop):Prop where
  out:p
theorem Bx.pt {X:Cx} {e:Expr} {t:TT} (h:Bx (PW X e t)):Bx (PT X e t) := ⟨h.out.pt⟩
theorem bpe_int:∀ {X:L2.Cx} {i:Int} {j:Nat} {pos:qZ},L2.Bx (L2.PE X (qJ.Constant (PySem.Const.int i) j pos) (L2.tC (L2.V.int i))) := by
  intro X i j pos
  exact ⟨@pe_int X i j pos⟩
theorem bpa_nil:∀ {X:L2.Cx},L2.Bx (L2.PA X [] L2.tNil) := by
  intro X
  exact ⟨@pa_nil X⟩
theorem bpa_consF:∀ {X:L2.Cx} {e:qJ} {es:List qJ} {te:L2.TE} {t:L2.TA},L2.Bx (L2.PE X e te)→L2.Bx (L2.PA X es t)→L2.isStar e=Bool.false→L2.Bx (L2.PA X (e::es) (L2.tCons te t)) := by
  intro X e es te t ha hr hs
  exact ⟨@pa_consF X e es te t ha.out hr.out hs⟩
theorem bpe_op:∀ {X:L2.Cx} {a b:qJ} {ta tb:L2.TE} {pos:qZ} {op:PySem.Operator} {r:L2.R2},L2.OpR X (PySem.binaryOp op) r→L2.Bx (L2.PE X a ta)→L2.Bx (L2.PE X b tb)→L2.Bx (L2.PE X (a.BinOp op b pos) (L2.tOp r ta tb)) := by
  intro X a b ta tb pos op r ho ha hb
  exact ⟨@pe_op X a b ta tb pos op r ho ha.out hb.out⟩
theorem bpss_one:∀ {X:L2.Cx} {st:PySem.Stmt} {t:L2.TS},L2.Bx (L2.PS X st t)→L2.Bx (L2.PSs X [st] t) := by
  intro X st t h1
  exact ⟨@pss_one X st t h1.out⟩
theorem bpss_cons:∀ {X:L2.Cx} {st:PySem.Stmt} {rest:List PySem.Stmt} {t u:L2.TS},L2.Bx (L2.PS X st t)→L2.Bx (L2.PSs X rest u)→L2.Bx (L2.PSs X (st::rest) (L2.tSeq t u)) := by
  intro X st rest t u h1 h2
  exact ⟨@pss_cons X st rest t u h1.out h2.out⟩
theorem bpe_dn:∀ {X:L2.Cx} {x:PySem.Str} {p pos:qZ} {e:qJ} {es:List qJ} {t:L2.TA} {ps:List PySem.Str} {k:Nat} {sp:L2.Sp},L2.Dn X.prog X.w X.K X.mg X.base x ps k sp→L2.Room k X.A→L2.Gl X x→L2.Bx (L2.PA X (e::es) t)→(x==qAD "__debug__")=Bool.false→q9 (e::es) X.env=(Bool.false,PySem.eval e X.env)::q9 es X.env→((PySem.backTo pos (q9 es X.env)).any fun (x:Bool×PySem.Sem PySem.Value) => x.fst)=Bool.false→L2.Bx (L2.PE X ((qJ.Name x p).Call (e::es) [] pos) (L2.tCall sp [] L2.E0 t)) := by
  intro X x p pos e es t ps k sp D hr hg ha hdb he hpl
  exact ⟨@pe_dn X x p pos e es t ps k sp D hr hg ha.out hdb he hpl⟩
theorem bps_ret:∀ {X:L2.Cx} {e:qJ} {te:L2.TE} {pos:qZ},L2.Bx (L2.PE X e te)→L2.Bx (L2.PS X (PySem.Stmt.Return (Option.some e) pos) (L2.tRet te)) := by
  intro X e te pos he
  exact ⟨@ps_ret X e te pos he.out⟩
theorem bps_set:∀ {X:L2.Cx} {pos:qZ} {i:Nat} {x:PySem.Str} {e:qJ} {te:L2.TE} {pos':qZ},X.N.Nodup→X.N[i]?=Option.some x→L2.Loc X.env.scope x→L2.Bx (L2.PE X e te)→PySem.swapsWith e (Option.some (qJ.Name x pos')) pos.line X.env=Pure.pure Bool.false→X.fn x=Bool.true∨List.lookup x X.env.scope.names=Option.some PySem.NameKind.local→L2.Bx (L2.PS X (PySem.Stmt.Assign [qJ.Name x pos'] e pos) (L2.tAsg te (L2.gName i))) := by
  intro X pos i x e te pos' hN hi hx he hs hf
  exact ⟨@ps_set X pos i x e te pos' hN hi hx he.out hs hf⟩
theorem bpe_callB:∀ {X:L2.Cx} {x:PySem.Str} {p pos:qZ} {e:qJ} {es:List qJ} {t:L2.TA} {id:String} {r:List L2.V→L2.Hp→L2.VK→Prop},L2.CallR X (PySem.Value.builtin id) r→L2.Gl X x→X.mg x=Option.none→PySem.bootBuiltins x=Option.some (PySem.Value.builtin id)→L2.Bx (L2.PA X (e::es) t)→x≠qAD "__name__" → (x==qAD "__debug__")=Bool.false→q9 (e::es) X.env=(Bool.false,PySem.eval e X.env)::q9 es X.env→((PySem.backTo pos (q9 es X.env)).any fun (x:Bool×PySem.Sem PySem.Value) => x.fst)=Bool.false→L2.Bx (L2.PE X ((qJ.Name x p).Call (e::es) [] pos) (L2.tCB r t)) := by
  intro X x p pos e es t id r hc hg hm hv ha hn hdb he hpl
  exact ⟨@pe_callB X x p pos e es t id r hc hg hm hv ha.out hn hdb he hpl⟩
theorem bpe_bl:∀ {X:L2.Cx} {b:Bool} {j:Nat} {pos:qZ},L2.Bx (L2.PE X (qJ.Constant (PySem.Const.bool b) j pos) (L2.tC (L2.V.bl b))) := by
  intro X b j pos
  exact ⟨@pe_bl X b j pos⟩
theorem bpe_ix:∀ {X:L2.Cx} {a b:qJ} {ta tb:L2.TE} {pos:qZ} {r:L2.R2},L2.IxR X r→L2.Bx (L2.PE X a ta)→L2.Bx (L2.PE X b tb)→L2.PlainIx b→L2.Bx (L2.PE X (a.Subscript b pos) (L2.tOp r ta tb)) := by
  intro X a b ta tb pos r hr ha hb hs
  exact ⟨@pe_ix X a b ta tb pos r hr ha.out hb.out hs⟩
theorem bps_if:∀ {X:L2.Cx} {t u:L2.TS} {pos:qZ} {c:qJ} {a b:List PySem.Stmt} {tc:L2.TT},L2.Bx (L2.PT X c tc)→L2.Bx (L2.PSs X a t)→L2.Bx (L2.PSs X b u)→L2.Bx (L2.PS X (PySem.Stmt.If c a b pos) (L2.tIfS tc t u)) := by
  intro X t u pos c a b tc hc ha hb
  exact ⟨@ps_if X t u pos c a b tc hc.out ha.out hb.out⟩
theorem bpss_nil:∀ {X:L2.Cx},L2.Bx (L2.PSs X [] L2.tNext) := by
  intro X
  exact ⟨@pss_nil X⟩
theorem bpt_not:∀ {X:L2.Cx} {a:qJ} {pos:qZ} {tA:L2.TT},L2.Bx (L2.PT X a tA)→L2.Bx (L2.PT X (qJ.UnaryOp PySem.UnaryOp.Not a pos) (L2.tNot tA)) := by
  intro X a pos tA ha
  exact ⟨@pt_not X a pos tA ha.out⟩
theorem bpt_truthK:∀ {X:L2.Cx} {K:qB},
  X.K=K →
    ∀ {a:qJ} {ta:L2.TE},
      L2.Bx (L2.PE X a ta) →
        (∀ (whole:PySem.Sem PySem.Value),
            PySem.isTrue a X.env whole=do
              let v ← whole
              PySem.standAt a.pos
              PySem.holding [v] (PySem.truthy v)) →
          L2.Bx (L2.PT X a fun (σ:L2.St) (H:L2.Hp) (Q:Bool→L2.Hp→Prop) => ta σ H fun (x:L2.V) (H':L2.Hp) => ∃ (k:Bool),L2.TruV K x H' k∧Q k H') := by
  intro X K hK a ta ha he
  exact ⟨@pt_truthK X K hK a ta ha.out he⟩
theorem bpg_name:∀ {X:L2.Cx} {pos:qZ} {i:Nat} {x:PySem.Str},X.N.Nodup→X.N[i]?=Option.some x→L2.Loc X.env.scope x→X.fn x=Bool.true∨List.lookup x X.env.scope.names=Option.some PySem.NameKind.local→L2.Bx (L2.PG X (qJ.Name x pos) (L2.gName i)) := by
  intro X pos i x hN hi hx hf
  exact ⟨@pg_name X pos i x hN hi hx hf⟩
theorem bpe_lst:∀ {X:L2.Cx} {es:List qJ} {t:L2.TA} {pos:qZ},L2.Bx (L2.PA X es t)→L2.Bx (L2.PE X (qJ.List es pos) (L2.tLst t)) := by
  intro X es t pos h
  exact ⟨@pe_lst X es t pos h.out⟩
theorem bps_for:∀ {X:L2.Cx} {tg iter:qJ} {body:List PySem.Stmt} {wi:L2.TI} {g:L2.TG} {tb:L2.TS} {pos:qZ},PySem.PassesOwn (PySem.model X.prog X.w) X.A X.env X.xe→X.calm=Bool.true→L2.Bx (L2.PI X tg iter wi)→L2.Bx (L2.PG X tg g)→L2.Bx (L2.PSs X body tb)→(∀ (x:PySem.Value),PySem.foldedSetIterable iter X.env x=Pure.pure x)→L2.Bx (L2.PS X (PySem.Stmt.For tg iter body [] pos) (L2.tFor wi g tb)) := by
  intro X tg iter body wi g tb pos hp hc hi hg hb hs
  exact ⟨@ps_for X tg iter body wi g tb pos hp hc hi.out hg.out hb.out hs⟩
theorem bpt_cmpR:∀ {X:L2.Cx} {a b:qJ} {ta tb:L2.TE} {pos:qZ} {op:PySem.CmpOp} {r:L2.R2},L2.OpR X (PySem.compareOp op) r→L2.Bx (L2.PE X a ta)→L2.Bx (L2.PE X b tb)→PySem.behindInMarks op b=Bool.false→L2.Bx (L2.PT X (a.Compare [op] [b] pos) (L2.tTest (L2.tOp r ta tb))) := by
  intro X a b ta tb pos op r ho ha hb hm
  exact ⟨@pt_cmpR X a b ta tb pos op r ho ha.out hb.out hm⟩
theorem bpe_str:∀ {X:L2.Cx} {x:PySem.Str} {j:Nat} {pos:qZ},L2.Bx (L2.PE X (qJ.Constant (PySem.Const.str x) j pos) (L2.tC (L2.V.str x))) := by
  intro X x j pos
  exact ⟨@pe_str X x j pos⟩
theorem bps_expr:∀ {X:L2.Cx} {e:qJ} {te:L2.TE} {pos:qZ},L2.Bx (L2.PE X e te)→PySem.swapsWith e Option.none pos.line X.env=Pure.pure Bool.false→L2.Bx (L2.PS X (PySem.Stmt.Expr e pos) (L2.tDrop te)) := by
  intro X e te pos he hs
  exact ⟨@ps_expr X e te pos he.out hs⟩
theorem bpe_tup:∀ {X:L2.Cx} {es:List qJ} {t:L2.TA} {pos:qZ} {x1:Nat},L2.Bx (L2.PA X es t)→L2.Bx (L2.PE X (qJ.Tuple es x1 pos) (L2.tTup t)) := by
  intro X es t pos x1 h
  exact ⟨@pe_tup X es t pos x1 h.out⟩
theorem bpe_cmpR:∀ {X:L2.Cx} {a b:qJ} {ta tb:L2.TE} {pos:qZ} {op:PySem.CmpOp} {r:L2.R2},L2.OpR X (PySem.compareOp op) r→L2.Bx (L2.PE X a ta)→L2.Bx (L2.PE X b tb)→PySem.behindInMarks op b=Bool.false→L2.Bx (L2.PE X (a.Compare [op] [b] pos) (L2.tOp r ta tb)) := by
  intro X a b ta tb pos op r ho ha hb hm
  exact ⟨@pe_cmpR X a b ta tb pos op r ho ha.out hb.out hm⟩
theorem bpe_callTy:∀ {X:L2.Cx} {x:PySem.Str} {p pos:qZ} {e:qJ} {es:List qJ} {t:L2.TA} {T:String} {r:List L2.V→L2.Hp→L2.VK→Prop},L2.CallR X (PySem.Value.type T) r→L2.Gl X x→X.mg x=Option.none→PySem.bootBuiltins x=Option.some (PySem.Value.type T)→L2.Bx (L2.PA X (e::es) t)→x≠qAD "__name__" → (x==qAD "__debug__")=Bool.false→q9 (e::es) X.env=(Bool.false,PySem.eval e X.env)::q9 es X.env→((PySem.backTo pos (q9 es X.env)).any fun (x:Bool×PySem.Sem PySem.Value) => x.fst)=Bool.false→L2.Bx (L2.PE X ((qJ.Name x p).Call (e::es) [] pos) (L2.tCB r t)) := by
  intro X x p pos e es t T r hc hg hm hv ha hn hdb he hpl
  exact ⟨@pe_callTy X x p pos e es t T r hc hg hm hv ha.out hn hdb he hpl⟩
theorem bpe_bltn:∀ {X:L2.Cx} {x:PySem.Str} {v:L2.V} {u:PySem.Value} {pos:qZ},L2.Gl X x→X.mg x=Option.none→PySem.bootBuiltins x=Option.some u→L2.RelV v u→x≠qAD "__name__" → (x==qAD "__debug__")=Bool.false→L2.Bx (L2.PE X (qJ.Name x pos) (L2.tC v)) := by
  intro X x v u pos hg hm hv r hn hd
  exact ⟨@pe_bltn X x v u pos hg hm hv r hn hd⟩
theorem bpw_or1:∀ {X:L2.Cx} {a:qJ} {pos:qZ} {tA:L2.TT},L2.Bx (L2.PT X a tA)→L2.Bx (L2.PW X (qJ.BoolOp PySem.BoolOp.Or [a] pos) tA) := by
  intro X a pos tA ha
  exact ⟨@pw_or1 X a pos tA ha.out⟩
theorem bpw_or:∀ {X:L2.Cx} {a b:qJ} {pos:qZ} {tA tB':L2.TT} {rest:List qJ},L2.Bx (L2.PT X a tA)→L2.Bx (L2.PW X (qJ.BoolOp PySem.BoolOp.Or (b::rest) pos) tB')→L2.Bx (L2.PW X (qJ.BoolOp PySem.BoolOp.Or (a::b::rest) pos) (L2.tOr tA tB')) := by
  intro X a b pos tA tB' rest ha hb
  exact ⟨@pw_or X a b pos tA tB' rest ha.out hb.out⟩
theorem bpo_some:∀ {X:L2.Cx} {e:qJ} {te:L2.TE},L2.Bx (L2.PE X e te)→L2.Bx (L2.PO X (Option.some e) (L2.tPart te)) := by
  intro X e te h
  exact ⟨@po_some X e te h.out⟩
theorem bpo_none:∀ {X:L2.Cx},L2.Bx (L2.PO X Option.none L2.tNoPart) := by
  intro X
  exact ⟨@po_none X⟩
theorem bpe_slice:∀ {X:L2.Cx} {e:qJ} {te:L2.TE} {lo hi:Option qJ} {tl th:L2.TO} {pos p2:qZ} {r:L2.V→Option Int→Option Int→L2.Hp→L2.VK→Prop},L2.SlR X r→L2.Bx (L2.PE X e te)→L2.Bx (L2.PO X lo tl)→L2.Bx (L2.PO X hi th)→L2.Bx (L2.PE X (e.Subscript (qJ.Slice lo hi Option.none p2) pos) (L2.tSl r te tl th)) := by
  intro X e te lo hi tl th pos p2 r hr he hl hu
  exact ⟨@pe_slice X e te lo hi tl th pos p2 r hr he.out hl.out hu.out⟩
theorem bpe_comp1:∀ {X:L2.Cx} {scope:PySem.Scope} {N' own:List PySem.Str} {fr:List Nat} {elt target iter:qJ} {ifs:List qJ} {cpos:qZ} {wi:L2.TI} {g:L2.TG} {tt:L2.TT} {te:L2.TE},L2.CompOk X scope N' own fr→X.calm=Bool.true→L2.Bx (L2.PI X target iter wi)→(∀ (cl:List (PySem.Str×PySem.Addr)) (C:PySem.Addr) (s:PySem.Shared) (H:L2.Hp) (fp:List PySem.Addr),L2.PG (L2.cxComp X scope N' own cl C s H fp) target g∧L2.PF (L2.cxComp X scope N' own cl C s H fp) ifs tt∧L2.PE (L2.cxComp X scope N' own cl C s H fp) elt te)→(∀ (x:PySem.Value),PySem.foldedSetIterable iter X.env x=Pure.pure x)→L2.Bx (L2.PE X (elt.ListComp [{target := target,iter := iter,ifs := ifs,is_async := 0}] scope cpos) (L2.tComp1 wi g tt te own fr)) := by
  intro X scope N' own fr elt target iter ifs cpos wi g tt te c hc hi hb hs
  exact ⟨@pe_comp1 X scope N' own fr elt target iter ifs cpos wi g tt te c hc hi.out hb hs⟩
theorem bpe_bmK:∀ {X:L2.Cx} {K:qB},X.K=K→∀ {T:String} {name:PySem.Str} {id:String} {r:L2.V→List L2.V→L2.Hp→L2.VK→Prop} {o e:qJ} {es:List qJ} {to:L2.TE} {t:L2.TA} {apos cpos:qZ},PySem.PlainAttrs T→PySem.Slot T name id→PySem.typeOf (PySem.Value.builtin id)=Pure.pure (PySem.Value.type "method_descriptor")→L2.MtR X id r→L2.Bx (L2.PE X o to)→L2.Bx (L2.PA X (e::es) t)→PySem.attributeBase o name X.env (PySem.eval o X.env)=PySem.eval o X.env→((((PySem.backTo cpos (q9 (e::es) X.env)).all fun (x:Bool×PySem.Sem PySem.Value) => !x.fst)&&(PySem.backToKw cpos (PySem.keywordEach [] X.env)).all fun (x:Option PySem.Str×PySem.Sem PySem.Value) => x.fst.isSome)&&Decidable.decide (((e::es).length+([]:List Keyword).length+if ([]:List Keyword).isEmpty=Bool.true then 0 else 1)<30))=Bool.true→(apos.endLine==cpos.line)=Bool.true→q9 (e::es) X.env=(Bool.false,PySem.eval e X.env)::q9 es X.env→((PySem.backTo cpos (q9 es X.env)).any fun (x:Bool×PySem.Sem PySem.Value) => x.fst)=Bool.false→L2.Bx (L2.PE X ((o.Attribute name apos).Call (e::es) [] cpos) (L2.tBM K T r to t)) := by
  intro X K hK T name id r o e es to t apos cpos pa slot hty hm ho ha hbase hfew hline hs hplain
  exact ⟨@pe_bmK X K hK T name id r o e es to t apos cpos pa slot hty hm ho.out ha.out hbase hfew hline hs hplain⟩
theorem bpps_nil:∀ {X:L2.Cx} {pos:qZ},L2.Bx (L2.PPs X pos [] [] []) := by
  intro X pos
  exact ⟨@pps_nil X pos⟩
theorem bpps_cons:∀ {X:L2.Cx} {pos:qZ} {k v:qJ} {ks:List (Option qJ)} {vs:List qJ} {tk tv:L2.TE} {trs:List (L2.TE×L2.TE)},L2.Bx (L2.PE X k tk)→L2.Bx (L2.PE X v tv)→L2.Bx (L2.PPs X pos ks vs trs)→L2.Bx (L2.PPs X pos (Option.some k::ks) (v::vs) ((tk,tv)::trs)) := by
  intro X pos k v ks vs tk tv trs hk hv hr
  exact ⟨@pps_cons X pos k v ks vs tk tv trs hk.out hv.out hr.out⟩
theorem bpi_seqK:∀ {X:L2.Cx} {K:qB},X.K=K→∀ {tg l:qJ} {tl:L2.TE},L2.Bx (L2.PE X l tl)→L2.Bx (L2.PI X tg l (L2.iSeq K tl)) := by
  intro X K hK tg l tl hl
  exact ⟨@pi_seqK X K hK tg l tl hl.out⟩
theorem bpi_range1:∀ {X:L2.Cx} {tg a:qJ} {ta:L2.TA} {p pos:qZ},L2.Gl X (qAD "range")→X.mg (qAD "range")=Option.none→L2.Bx (L2.PA X [a] ta)→q9 [a] X.env=[(Bool.false,PySem.eval a X.env)]→L2.Bx (L2.PI X tg ((qJ.Name (qAD "range") p).Call [a] [] pos) (L2.iRng1 ta)) := by
  intro X tg a ta p pos hg hm ha hs
  exact ⟨@pi_range1 X tg a ta p pos hg hm ha.out hs⟩
theorem bpf_nil:∀ {X:L2.Cx},L2.Bx (L2.PF X [] L2.tAll) := by
  intro X
  exact ⟨@pf_nil X⟩
theorem bpe_dnewK:∀ {X:L2.Cx} {pos:qZ},L2.Bx (L2.PE X (qJ.Dict [] [] pos) L2.tDNewK) := by
  intro X pos
  exact ⟨@pe_dnewK X pos⟩
theorem bpe_disp:∀ {X:L2.Cx} {pos:qZ} {keys:List (Option qJ)} {values:List qJ} {trs:List (L2.TE×L2.TE)},L2.Bx (L2.PPs X pos keys values trs)→(keys.all fun (x:Option qJ) => x.isSome)=Bool.true→keys.length=values.length→keys≠[]→keys.length≤15→L2.Bx (L2.PE X (qJ.Dict keys values pos) (L2.tDisp trs)) := by
  intro X pos keys values trs h hall hl h0 h15
  exact ⟨@pe_disp X pos keys values trs h.out hall hl h0 h15⟩
theorem bpf_one:∀ {X:L2.Cx} {c:qJ} {t:L2.TT},L2.Bx (L2.PT X c t)→L2.Bx (L2.PF X [c] t) := by
  intro X c t h
  exact ⟨@pf_one X c t h.out⟩
theorem bpe_dget:∀ {X:L2.Cx} {o i:qJ} {pos:qZ} {td ty:L2.TE},X.A.units+1<PySem.cLine→L2.Bx (L2.PE X o td)→L2.Bx (L2.PE X i ty)→L2.NoSl i→L2.Bx (L2.PE X (o.Subscript i pos) (L2.tDGet td ty)) := by
  intro X o i pos td ty hu ho hi hs
  exact ⟨@pe_dget X o i pos td ty hu ho.out hi.out hs⟩
theorem bpw_and1:∀ {X:L2.Cx} {a:qJ} {pos:qZ} {tA:L2.TT},L2.Bx (L2.PT X a tA)→L2.Bx (L2.PW X (qJ.BoolOp PySem.BoolOp.And [a] pos) tA) := by
  intro X a pos tA ha
  exact ⟨@pw_and1 X a pos tA ha.out⟩
theorem bpw_and:∀ {X:L2.Cx} {a b:qJ} {pos:qZ} {tA tB':L2.TT} {rest:List qJ},L2.Bx (L2.PT X a tA)→L2.Bx (L2.PW X (qJ.BoolOp PySem.BoolOp.And (b::rest) pos) tB')→L2.Bx (L2.PW X (qJ.BoolOp PySem.BoolOp.And (a::b::rest) pos) (L2.tAnd tA tB')) := by
  intro X a b pos tA tB' rest ha hb
  exact ⟨@pw_and X a b pos tA tB' rest ha.out hb.out⟩
theorem bps_dput:∀ {X:L2.Cx} {o i value:qJ} {pos pos':qZ} {td ty tv:L2.TE},X.A.units+1<PySem.cLine→L2.Bx (L2.PE X o td)→L2.Bx (L2.PE X i ty)→L2.Bx (L2.PE X value tv)→PySem.swapsWith value (Option.some (o.Subscript i pos')) pos.line X.env=Pure.pure Bool.false→L2.Bx (L2.PS X (PySem.Stmt.Assign [o.Subscript i pos'] value pos) (L2.sDPut td ty tv)) := by
  intro X o i value pos pos' td ty tv hu ho hi hv hs
  exact ⟨@ps_dput X o i value pos pos' td ty tv hu ho.out hi.out hv.out hs⟩
theorem bps_comp1:∀ {X:L2.Cx} {scope:PySem.Scope} {N' own:List PySem.Str} {fr:List Nat} {elt target iter:qJ} {ifs:List qJ} {cpos:qZ} {wi:L2.TI} {g:L2.TG} {tt:L2.TT} {te:L2.TE} {spos py:qZ} {i:Nat} {y:PySem.Str},L2.CompOk X scope N' own fr→X.calm=Bool.true→L2.Bx (L2.PI X target iter wi)→(∀ (cl:List (PySem.Str×PySem.Addr)) (C:PySem.Addr) (s:PySem.Shared) (H:L2.Hp) (fp:List PySem.Addr),L2.PG (L2.cxComp X scope N' own cl C s H fp) target g∧L2.PF (L2.cxComp X scope N' own cl C s H fp) ifs tt∧L2.PE (L2.cxComp X scope N' own cl C s H fp) elt te)→PySem.swapsWith (elt.ListComp [{target := target,iter := iter,ifs := ifs,is_async := 0}] scope cpos) (Option.some (qJ.Name y py)) spos.line X.env=Pure.pure Bool.true→X.N.Nodup→X.N[i]?=Option.some y→List.lookup y X.env.scope.names=Option.some PySem.NameKind.local→(∀ (x:PySem.Value),PySem.foldedSetIterable iter X.env x=Pure.pure x)→L2.Bx (L2.PS X (PySem.Stmt.Assign [qJ.Name y py] (elt.ListComp [{target := target,iter := iter,ifs := ifs,is_async := 0}] scope cpos) spos) (L2.tAsgC1 wi g tt te own fr i)) := by
  intro X scope N' own fr elt target iter ifs cpos wi g tt te spos py i y c hc hi hb hsw hN hy hl hs
  exact ⟨@ps_comp1 X scope N' own fr elt target iter ifs cpos wi g tt te spos py i y c hc hi.out hb hsw hN hy hl hs⟩
theorem bpgs_nil:∀ {X:L2.Cx},L2.Bx (L2.PGs X [] L2.gNil) := by
  intro X
  exact ⟨@pgs_nil X⟩
theorem bpgs_cons:∀ {X:L2.Cx} {e:qJ} {es:List qJ} {t:L2.TG} {u:L2.TGs},L2.Bx (L2.PG X e t)→L2.Bx (L2.PGs X es u)→List.map (fun (x:Bool×(PySem.Value→PySem.Sem Unit)) => x.snd) (PySem.assignEach (e::es) X.env)=PySem.assign e X.env::List.map (fun (x:Bool×(PySem.Value→PySem.Sem Unit)) => x.snd) (PySem.assignEach es X.env)→L2.Bx (L2.PGs X (e::es) (L2.gCons t u)) := by
  intro X e es t u h1 h2 hs
  exact ⟨@pgs_cons X e es t u h1.out h2.out hs⟩
theorem bpg_tupK:∀ {X:L2.Cx} {K:qB},X.K=K→∀ {es:List qJ} {k:Nat} {t:L2.TGs} {n:Nat} {pos:qZ},X.calm=Bool.true→L2.Bx (L2.PGs X es t)→(PySem.assignEach es X.env).length=n→List.findIdx? (fun (x:Bool×(PySem.Value→PySem.Sem Unit)) => x.fst) (PySem.assignEach es X.env)=Option.none→L2.Bx (L2.PG X (qJ.Tuple es k pos) (L2.gTup K n t)) := by
  intro X K hK es k t n pos hc h hn hst
  exact ⟨@pg_tupK X K hK es k t n pos hc h.out hn hst⟩
theorem bpe_bm0K:∀ {X:L2.Cx} {K:qB},X.K=K→∀ {T:String} {name:PySem.Str} {id:String} {r:L2.V→List L2.V→L2.Hp→L2.VK→Prop} {o:qJ} {to:L2.TE} {apos cpos:qZ},PySem.PlainAttrs T→PySem.Slot T name id→PySem.typeOf (PySem.Value.builtin id)=Pure.pure (PySem.Value.type "method_descriptor")→L2.MtR X id r→L2.Bx (L2.PE X o to)→PySem.attributeBase o name X.env (PySem.eval o X.env)=PySem.eval o X.env→(apos.endLine==cpos.line)=Bool.true→L2.Bx (L2.PE X ((o.Attribute name apos).Call [] [] cpos) (L2.tBM0 K T r to)) := by
  intro X K hK T name id r o to apos cpos pa slot hty hm ho hbase hline
  exact ⟨@pe_bm0K X K hK T name id r o to apos cpos pa slot hty hm ho.out hbase hline⟩
theorem bpc_isN:∀ {X:L2.Cx} {a:qJ} {ta:L2.TE} {j:Nat} {pos':qZ},L2.Bx (L2.PE X a ta)→L2.Bx (L2.PC X PySem.CmpOp.Is a (qJ.Constant PySem.Const.none j pos') (L2.tIsN ta)) := by
  intro X a ta j pos' ha
  exact ⟨@pc_isN X a ta j pos' ha.out⟩
theorem bpc_din:∀ {X:L2.Cx} {o i:qJ} {td ty:L2.TE},X.A.units+1<PySem.cLine→L2.Bx (L2.PE X i ty)→L2.Bx (L2.PE X o td)→L2.Bx (L2.PC X PySem.CmpOp.In i o (L2.tDIn ty td)) := by
  intro X o i td ty hu hi ho
  exact ⟨@pc_din X o i td ty hu hi.out ho.out⟩
theorem bpe_cmp:∀ {X:L2.Cx} {a b:qJ} {pos:qZ} {op:PySem.CmpOp} {t:L2.TE},L2.Bx (L2.PC X op a b t)→PySem.behindInMarks op b=Bool.false→L2.Bx (L2.PE X (a.Compare [op] [b] pos) t) := by
  intro X a b pos op t h h1
  exact ⟨@pe_cmp X a b pos op t h.out h1⟩
theorem bpt_cmp:∀ {X:L2.Cx} {a b:qJ} {pos:qZ} {op:PySem.CmpOp} {t:L2.TE},L2.Bx (L2.PC X op a b t)→PySem.behindInMarks op b=Bool.false→L2.Bx (L2.PT X (a.Compare [op] [b] pos) (L2.tB t)) := by
  intro X a b pos op t h h1
  exact ⟨@pt_cmp X a b pos op t h.out h1⟩
theorem bv {X:Cx} (i:Nat) {x:Str} {pos:Pos} (hN:X.N[i]?=some x := by rfl) (hv:visB X.env.scope x=true := by rfl) (hd:(x==("__debug__":Str))=false := by decide)
    (hcd:(x==("__classdict__":Str))=false := by decide):Bx (PE X (.Name x pos) (tVar i)) := ⟨pe_var hN (visB.of hv) hd hcd⟩
theorem bps_setI {X:Cx} {i:Nat} {o k e:Expr} {tk tv:TE} {pos pos':Pos} (ho:Bx (PE X o (tVar i))) (hk:Bx (PE X k tk)) (hv:Bx (PE X e tv))
    (ha:∀ v,assign (.Subscript o k pos') X.env v=(do
      let ov ← holding [v] (eval o X.env)
      let iv ← holding [v,ov] (eval k X.env)
      standAt pos'
      holding [v,ov,iv] (setItem ov iv v)
      release [v,ov,iv] []))
    (hs:swapsWithSole [.Subscript o k pos'] e pos.line X.env=pure false) (hw:swappedStores [.Subscript o k pos'] e X.env=pure none) (h1:(assignEach [.Subscript o k pos'] X.env).map (·.2)=[assign (.Subscript o k pos') X.env]) :
    Bx (PS X (.Assign [.Subscript o k pos'] e pos) (tAsg tv (gSub (tVar i) tk rSetL))) := ⟨ps_asg hv.out (pg_sub ho.out hk.out set_list ha) hs hw h1⟩
noncomputable def SatK (fx:Addr→Prop) (H0:Hp) (J:Nat→Prop) (σ0:St) (D:Ends):Out→Prop
  | .nx env => ∀ σ H,EnvOk fx H0 env σ H→(∀ j,J j→σ[j]?=σ0[j]?)→D.nx σ H
  | .bk env => ∀ σ H,EnvOk fx H0 env σ H→(∀ j,J j→σ[j]?=σ0[j]?)→D.bk σ H
  | .ct env => ∀ σ H,EnvOk fx H0 env σ H→(∀ j,J j→σ[j]?=σ0[j]?)→D.ct σ H
  | .rt d fr => ∀ v H,Same H0 H→RetOk fx H0 d fr v H→D.rt v H
noncomputable def SSk (J:Nat→Prop) (ts:TS) (F:SF):Prop := ∀ (fx:Addr→Prop) (H0:Hp) (env:DEnv) (σ:St) (H:Hp) (D:Ends),EnvOk fx H0 env σ H→∀ o,F env=some o→SatK fx H0 J σ D o→ts D σ H
section
variable {J:Nat→Prop}
theorem ssk_set {te:TE} {f:EF} {i:Nat} (h1:SE te f) (hJ:¬ J i):SSk J (tAsg te (gName i)) (sSet i f) := by
  intro fx H0 env σ H D h o e q
  unfold sSet at e
  obtain ⟨r,er,rfl⟩ := qG.mp e
  exact h1 fx H0 env σ H h r er _ fun v H' s hv => q _ H' (h.put s hv i) fun j hj => qU fun z => hJ (by rw [z];exact hj)
theorem ssk_setI {i:Nat} {tk tv:TE} {fk fv:EF} (h1:SE tk fk) (h2:SE tv fv):SSk J (tAsg tv (gSub (tVar i) tk rSetL)) (sSetI i fk fv) := by
  intro fx H0 env σ H D h o e q
  unfold sSetI at e
  split at e
  · rename_i ds ei
    obtain ⟨r,er,e⟩ := qA.mp e
    obtain ⟨⟨kd,kfr,kbs⟩,ek,e⟩ := qA.mp e
    cases kd with
    | int z =>
      have e:((ixN ds.length z).bind fun j => if i∉r.bs then some (Out.nx ((frzs env r.bs).set i (.ac (.list (ds.set j r.d))))) else none)=some o := e
      obtain ⟨j,ej,e⟩ := qA.mp e
      split at e
      · rename_i hl
        cases e
        obtain ⟨a,g1,g2,g3,g4⟩ := h.ac i _ ei
        obtain ⟨xs,hx,rx⟩ := g4
        refine h2 fx H0 env σ H h r er _ fun v H' s hv => ⟨_,g1,h1 fx H0 env σ H' (h.up s) _ ek _ fun u H2 s2 hk => ?_⟩
        cases rp_int hk.rp
        have t2 := s.trans s2
        have h' := (h.up t2).frzs r.bs
        have ei' := frzs_get hl ei
        have hx' := t2 _ _ hx
        have rx':Rps (Offs (fun b => fx b∨own (frzs env r.bs) σ b) H2) ds xs := by
          obtain ⟨a',z1,_,_,z4⟩ := h'.ac i _ ei'
          rw [g1] at z1
          cases z1
          obtain ⟨ys,y1,y2⟩ := z4
          rw [hx'] at y1
          cases y1
          exact y2
        refine ⟨a,xs,z,j,rfl,rfl,hx',by rw [← rx.length];exact ej,?_⟩
        exact q σ _ (h'.mut ei' g1 ⟨_,upd_same,rx'.setAt (Rp.same (Offs.sub frzs_lim) _ (hv.later (Same.refl _) s2 fun _ z => z).rp) j⟩) fun _ _ => rfl
      · cases e
    | _ => cases e
  · cases e
noncomputable def SGk (J:Nat→Prop) (g:TG) (f:GT):Prop := ∀ (fx:Addr→Prop) (H0:Hp) (env:DEnv) (σ:St) (H:Hp) (d:PyData) (v:V),EnvOk fx H0 env σ H→Rp (Offs (fun a => fx a∨own env σ a) H) d v→∀ env',f d env=some env'→∀ Q:St→Hp→Prop,
  (∀ σ',EnvOk fx H0 env' σ' H→(∀ j,J j→σ'[j]?=σ[j]?)→Q σ' H)→g v σ H Q
theorem sgk_name {i:Nat} (hJ:¬ J i):SGk J (gName i) (gN i) := by
  intro fx H0 env σ H d v h r env' e Q q
  cases e
  exact q _ (h.setPl i r) fun j hj => qU fun z => hJ (by rw [z];exact hj)
end
noncomputable def startM (n:Nat) (d:PyData) (ds:List PyData):DEnv := .ac d::startD (n - 1) ds
theorem env_startM {fx:Addr→Prop} {H:Hp} {N:List Str} {a:Addr} {d:PyData} {ds:List PyData} {vs:List V} (hN:0<N.length) (hf:∀ b,fx b→∃ o,H b=some o) (na:¬ fx a)
    (ac:AccAt (Offs (fun b => fx b∨b=a) H) H a d) (r:Rps (Offs (fun b => fx b∨b=a) H) ds vs):EnvOk fx (Offs (fun b => b=a) H) (startM N.length d ds) (start N (.ref a::vs)) H := by
  have no:∀ (i:Nat) (e:PyData),(startM N.length d ds)[i]?=some (Sl.ac e)→i=0∧e=d := fun i e h => by
    cases i with
    | zero => cases h;exact ⟨rfl,rfl⟩
    | succ i =>
      have h:(startD (N.length - 1) ds)[i]?=some (Sl.ac e) := h
      rcases start_get h with ⟨d',_,z⟩|z<;>cases z
  have s0:(start N (.ref a::vs))[0]?=some (some (.ref a)) := by unfold start;rfl
  have ow:∀ b,own (startM N.length d ds) (start N (.ref a::vs)) b→b=a := by
    rintro b ⟨i,e,h1,h2⟩
    obtain ⟨rfl,_⟩ := no i e h1
    rw [s0] at h2
    cases h2
    rfl
  have so:Same (Offs (fun b => fx b∨b=a) H) (Offs (fun b => fx b∨own (startM N.length d ds) (start N (.ref a::vs)) b) H) := Offs.sub fun b z => z.imp id (ow b)
  refine ⟨?_,fun i e h => ?_,fun i e h => ?_,fun i j e e' b h1 h2 _ _ => ?_,Offs.same _ _,hf⟩
  · unfold startM startD start
    rw [qf,qK,qK,qD,qD,qAe,qAe,r.length,qf]
    omega
  · cases i with
    | zero => cases h
    | succ i =>
      have h:(startD (N.length - 1) ds)[i]?=some (Sl.pl e) := h
      rcases start_get h with ⟨d',hd,z⟩|z
      · cases z
        obtain ⟨v,hv,rv⟩ := r.get2 hd
        refine ⟨v,?_,Rp.same so _ rv⟩
        unfold start
        have hi:i<vs.length := (qQ.mp hv).1
        rw [qk (by simpa using hi),qd,qAq,hv];rfl
      · cases z
  · obtain ⟨rfl,rfl⟩ := no i e h
    exact ⟨a,s0,Offs.out rfl,na,ac.same so fun o z => z⟩
  · rw [(no i e h1).1,(no j e' h2).1]
section
variable {X:Cx}
end
end L2
namespace HT
open PySem PySem.Spec PyProof.Rows L2
section
variable {prog:Program} {w:World} {A:Around} {E:Value→Shared→Prop} {s:Shared}
end
end HT
namespace L2
open PySem PySem.Spec PyProof.Rows
structure MvF (f:Nat) (env env':DEnv) (σ:St) (H H':Hp):Prop where
  rest:∀ (j:Nat) (d:PyData),j≠f→env'[j]?=some (.ac d)→env[j]?=some (.ac d)
  at0:∃ d,env[f]?=some (.ac d)
  at1:∃ d,env'[f]?=some (.ac d)
  keep:∀ b o,σ[f]?≠some (some (.ref b))→H b=some o→H' b=some o
  live:∀ b o,H b=some o→∃ o',H' b=some o'
theorem MvF.same {f:Nat} {env:DEnv} {σ:St} {H H':Hp} (h:∃ d,env[f]?=some (.ac d)) (s:Same H H'):MvF f env env σ H H' := ⟨fun _ _ _ e => e,h,h,fun b o _ e => s b o e,fun b o e => ⟨o,s b o e⟩⟩
theorem MvF.trans {f:Nat} {env e1 e2:DEnv} {σ:St} {H H1 H2:Hp} (a:MvF f env e1 σ H H1) (b:MvF f e1 e2 σ H1 H2):MvF f env e2 σ H H2 :=
  ⟨fun j d hj e => a.rest j d hj (b.rest j d hj e),a.at0,b.at1,fun x o n e => b.keep x o n (a.keep x o n e),fun x o e => let ⟨o',e'⟩ := a.live x o e;b.live x o' e'⟩
theorem MvF.lim {f:Nat} {env env':DEnv} {σ:St} {H H':Hp} (m:MvF f env env' σ H H') {fx:Addr→Prop} {bs:List Nat}:∀ b,L2.lim fx env' σ bs b→L2.lim fx env σ bs b := by
  rintro b (z|⟨i,d,h1,h2,h3⟩)
  · exact .inl z
  · by_cases hi:i=f
    · obtain ⟨d0,e0⟩ := m.at0
      exact .inr ⟨i,d0,h1,by rw [hi];exact e0,h3⟩
    · exact .inr ⟨i,d,h1,m.rest i d hi h2,h3⟩
theorem MvF.free {f:Nat} {env env':DEnv} {σ:St} {H H':Hp} (m:MvF f env env' σ H H') {b:Addr} (h:H' b=none):H b=none := by
  cases e:H b with
  | none => rfl
  | some o => obtain ⟨o',e'⟩ := m.live b o e;rw [h] at e';cases e'
theorem MvF.val {f:Nat} {env env':DEnv} {σ:St} {H0 H H':Hp} (m:MvF f env env' σ H H') {fx:Addr→Prop} {r:Val} {v:V} (hf:f∉r.bs) (h:ValOk (L2.lim fx env σ r.bs) H0 H r v) (hs:∀ a,H0 a=none→σ[f]?≠some (some (.ref a))) :
    ValOk (L2.lim fx env' σ r.bs) H0 H' r v := by
  obtain ⟨d0,e0⟩ := m.at0
  have so:∀ (C:Addr→Prop),Same (Offs (fun b => L2.lim fx env σ r.bs b∨C b) H) (Offs (fun b => L2.lim fx env' σ r.bs b∨C b) H') := fun C b o e => by
    obtain ⟨n,e⟩ := Offs.of e
    rw [Offs.get fun z => n (z.imp (m.lim b) id)]
    exact m.keep b o (fun z => n (.inl (.inr ⟨f,d0,hf,e0,z⟩))) e
  refine ⟨Rp.same (fun b o e => ?_) _ h.rp,fun z => ?_⟩
  · have := so (fun _ => False) b o (by rw [← e];congr 1;funext x;simp)
    rw [← this];congr 1;funext x;simp
  · obtain ⟨a,h1,h2,h3⟩ := h.fr z
    exact ⟨a,h1,h2,h3.same (so fun b => b=a) fun o e => m.keep a o (hs a h2) e⟩
noncomputable abbrev EFf := DEnv→Option (Val×DEnv)
noncomputable def NewOk (fx:Addr→Prop) (H0:Hp) (env:DEnv) (σ:St) (H:Hp) (r:Val) (v:V):Prop := r.fr=true→∃ a,v=.ref a∧EnvOk (fun b => fx b∨b=a) H0 env σ H
theorem EnvOk.new {fx:Addr→Prop} {H0:Hp} {env:DEnv} {σ:St} {H H':Hp} (h:EnvOk fx H0 env σ H) (s:Same H H') {a:Addr} (ha:H a=none) (hx:∃ o,H' a=some o):EnvOk (fun b => fx b∨b=a) H0 env σ H' :=
  h.grow s (fun b o eo n z => z.elim n fun y => by rw [y,ha] at eo;cases eo) fun b z => by
    rcases z with z|z
    · obtain ⟨o,eo⟩ := h.fxs b z;exact ⟨o,s b o eo⟩
    · rw [z];exact hx
noncomputable def SEf (f:Nat) (te:TE) (g:EFf):Prop := ∀ (fx:Addr→Prop) (H0:Hp) (env:DEnv) (σ:St) (H:Hp),EnvOk fx H0 env σ H→∀ r env',g env=some (r,env')→∀ Q:VK,
  (∀ v H',MvF f env env' σ H H'→EnvOk fx H0 env' σ H'→f∉r.bs→ValOk (lim fx env' σ r.bs) H H' r v→NewOk fx H0 env' σ H' r v→Q v H')→te σ H Q
noncomputable def fPure (f:Nat) (g:EF):EFf := fun env => match env[f]? with
  | some (.ac _) => (g env).bind fun r => if f∉r.bs then some (r,env) else none
  | _ => none
theorem sef_pure {f:Nat} {te:TE} {g:EF} (h:SE te g):SEf f te (fPure f g) := by
  intro fx H0 env σ H hE r env' e Q q
  unfold fPure at e
  split at e
  · rename_i d0 e0
    obtain ⟨r',er,e⟩ := qA.mp e
    split at e
    · rename_i hf
      cases e
      exact h fx H0 env σ H hE r er Q fun v H' s hv => q v H' (MvF.same ⟨_,e0⟩ s) (hE.up s) hf hv fun z => let ⟨a,h1,h2,h3⟩ := hv.fr z;⟨a,h1,hE.new s h2 h3.ex⟩
    · cases e
  · cases e
theorem EnvOk.notNew {fx:Addr→Prop} {H0:Hp} {env:DEnv} {σ:St} {H:Hp} (h:EnvOk fx H0 env σ H) {f:Nat} (e:∃ d,env[f]?=some (.ac d)):∀ a,H a=none→σ[f]?≠some (some (.ref a)) := fun a ha z => by
  obtain ⟨d,e⟩ := e
  obtain ⟨b,g1,_,_,g4⟩ := h.ac f d e
  rw [z] at g1
  cases g1
  obtain ⟨o,eo⟩ := g4.ex
  rw [ha] at eo;cases eo
noncomputable def fOp (w:OF) (a b:EFf):EFf := fun env => (a env).bind fun x => (b x.2).bind fun y => (w x.1.d y.1.d).bind fun z => some (⟨z.1,z.2,bsOf z.1 (x.1.bs++y.1.bs)⟩,y.2)
theorem bsOf_sub {d:PyData} {bs:List Nat} {i:Nat} (h:i∉bs):i∉bsOf d bs := by unfold bsOf;split<;>simp [h]
theorem sef_op {f:Nat} {r:R2} {w:OF} {ta tb:TE} {fa fb:EFf} (ho:SO r w) (ha:SEf f ta fa) (hb:SEf f tb fb):SEf f (tOp r ta tb) (fOp w fa fb) := by
  intro fx H0 env σ H h rr env' hr Q q
  unfold fOp at hr
  obtain ⟨⟨x,e1⟩,ex,hr⟩ := qA.mp hr
  obtain ⟨⟨y,e2⟩,ey,hr⟩ := qA.mp hr
  obtain ⟨⟨d,fr⟩,ez,hr⟩ := qA.mp hr
  cases hr
  refine ha fx H0 env σ H h x e1 ex _ fun v H1 m1 k1 n1 v1 _ => hb fx H0 e1 σ H1 k1 y e2 ey _ fun u H2 m2 k2 n2 v2 _ => ?_
  have l1:∀ b,lim fx e2 σ (x.bs++y.bs) b→lim fx e2 σ x.bs b := lim_sub fun i hi => qi _ hi
  have l2:∀ b,lim fx e2 σ (x.bs++y.bs) b→lim fx e2 σ y.bs b := lim_sub fun i hi => qX _ hi
  have v1' := m2.val n1 v1 (h.notNew m1.at0)
  refine ho (lim fx e2 σ (x.bs++y.bs)) H2 v u x.d y.d (k2.lims _) (v1'.later (Same.refl _) (Same.refl _) l1).rp (v2.later (Same.refl _) (Same.refl _) l2).rp d fr ez _ fun z H3 s3 rp fr3 => q z H3 ((m1.trans m2).trans (MvF.same m2.at1 s3)) (k2.up s3) (bsOf_sub fun hm => (qAA.mp hm).elim n1 n2) ⟨rp_bsOf rp,fun e => ?_⟩ fun e => let ⟨a,g1,g2,g3⟩ := fr3 e;⟨a,g1,k2.new s3 g2 g3.ex⟩
  obtain ⟨a,g1,g2,g3⟩ := fr3 e
  refine ⟨a,g1,(m1.trans m2).free g2,?_⟩
  have nf:flatD d=false := by cases d<;>first|rfl|exact g3.elim
  show AccAt (Offs (fun b => lim fx e2 σ (bsOf d (x.bs++y.bs)) b∨b=a) H3) H3 a d
  rw [show bsOf d (x.bs++y.bs)=x.bs++y.bs by unfold bsOf;rw [if_neg (by rw [nf];decide)]]
  exact g3
noncomputable abbrev AFf := DEnv→Option (List Val×DEnv)
noncomputable def SAf (f:Nat) (ta:TA) (g:AFf):Prop := ∀ (fx:Addr→Prop) (H0:Hp) (env:DEnv) (σ:St) (H:Hp),EnvOk fx H0 env σ H→∀ rs env',g env=some (rs,env')→∀ Q:List V→Hp→Prop,
  (∀ vs H',MvF f env env' σ H H'→EnvOk fx H0 env' σ H'→f∉bss rs→Paired (fun r v => ValOk (lim fx env' σ r.bs) H H' r v) rs vs→Q vs H')→ta σ H Q
noncomputable def fNil (f:Nat):AFf := fun env => match env[f]? with
  | some (.ac _) => some ([],env)
  | _ => none
theorem saf_nil {f:Nat}:SAf f tNil (fNil f) := by
  intro fx H0 env σ H hE rs env' e Q q
  unfold fNil at e
  split at e
  · rename_i d0 e0
    cases e
    exact q [] H (MvF.same ⟨_,e0⟩ (Same.refl _)) hE (by simp [bss]) .nil
  · cases e
noncomputable def fCons (a:EFf) (r:AFf):AFf := fun env => (a env).bind fun x => (r x.2).map fun y => (x.1::y.1,y.2)
theorem ValOk.base {A:Addr→Prop} {H H1 H':Hp} {r:Val} {v:V} (h:ValOk A H1 H' r v) (b:∀ a,H1 a=none→H a=none):ValOk A H H' r v := ⟨h.rp,fun e => let ⟨a,h1,h2,h3⟩ := h.fr e;⟨a,h1,b a h2,h3⟩⟩
theorem saf_cons {f:Nat} {te:TE} {ta:TA} {g:EFf} {gs:AFf} (h1:SEf f te g) (h2:SAf f ta gs):SAf f (tCons te ta) (fCons g gs) := by
  intro fx H0 env σ H h rs env' hr Q q
  unfold fCons at hr
  obtain ⟨⟨x,e1⟩,ex,hr⟩ := qA.mp hr
  obtain ⟨⟨xs,e2⟩,exs,hr⟩ := qG.mp hr
  cases hr
  exact h1 fx H0 env σ H h x e1 ex _ fun v H1 m1 k1 n1 v1 _ => h2 fx H0 e1 σ H1 k1 xs e2 exs _ fun vs H2 m2 k2 n2 vs2 => q (v::vs) H2 (m1.trans m2) k2
    (fun hm => by
      have hm:f∈x.bs++bss xs := hm
      exact (qAA.mp hm).elim n1 n2)
    (.cons (m2.val n1 v1 (h.notNew m1.at0)) (Paired.mapP vs2 fun _ _ z => z.base fun a ha => m1.free ha))
noncomputable abbrev GE := PyData→List PyData→Option (PyData×Bool×PyData)
noncomputable def spF (n:Nat) (g:GE):Sp := fun vs H Q _ => ∃ (fx:Addr→Prop) (a:Addr) (vs':List V) (d0 d1 d:PyData) (fr:Bool) (ds:List PyData),vs=.ref a::vs'∧ds.length+1=n∧(∀ b,fx b→∃ o,H b=some o)∧¬ fx a ∧
  AccAt (Offs (fun b => fx b∨b=a) H) H a d0∧Rps (Offs (fun b => fx b∨b=a) H) ds vs'∧g d0 ds=some (d,fr,d1) ∧
  ∀ v H',(∀ b o,b≠a→H b=some o→H' b=some o)→AccAt (Offs (fun b => fx b∨b=a) H') H' a d1→RetOk (fun b => fx b∨b=a) H d fr v H'→Q v H'
noncomputable def flatL:PyData→Bool
  | .list ds => flatsD ds
  | _ => false
theorem acc_flat {Ho Ho' H:Hp} {a:Addr} {d:PyData} (f:flatL d=true) (h:AccAt Ho H a d):AccAt Ho' H a d := by
  unfold flatL at f
  split at f
  · obtain ⟨xs,h1,r⟩ := h
    exact ⟨xs,h1,rps_flats f r⟩
  · cases f
noncomputable def fCallF (f n:Nat) (g:GE) (a:AFf):EFf := fun env => match env[f]? with
  | some (.ac _) => (a env).bind fun x => (match x.2[f]? with
    | some (.ac d0) => if x.1.length+1=n then (g d0 (datas x.1)).bind fun z => if flatL z.2.2=true then some (⟨z.1,z.2.1,bsOf z.1 (bss x.1)⟩,(frzs x.2 (bss x.1)).set f (.ac z.2.2)) else none else none
    | _ => none)
  | _ => none
theorem sef_callF {f n:Nat} {g:GE} {ta:TA} {a:AFf} (ha:SAf f ta a):SEf f (tCall (spF n g) [] E0 (tCons (tVar f) ta)) (fCallF f n g a) := by
  intro fx H0 env σ H h rr env' hr Q q
  unfold fCallF at hr
  split at hr
  · rename_i dd edd
    obtain ⟨⟨rs,e1⟩,er,hr⟩ := qA.mp hr
    have hr:(match e1[f]? with
      | some (.ac d0) => if rs.length+1=n then (g d0 (datas rs)).bind fun z => if flatL z.2.2=true then some ((⟨z.1,z.2.1,bsOf z.1 (bss rs)⟩:Val),(frzs e1 (bss rs)).set f (.ac z.2.2)) else none else none
      | _ => none)=some (rr,env') := hr
    split at hr
    · rename_i d0 ei
      split at hr
      · rename_i hl
        obtain ⟨⟨d,fr,d1⟩,eg,hr⟩ := qA.mp hr
        by_cases hfl0:flatL d1=true
        rotate_left
        · rw [if_neg hfl0] at hr;cases hr
        rw [if_pos hfl0] at hr
        cases hr
        obtain ⟨a0,g1,_,_,_⟩ := h.ac f _ edd
        refine ⟨_,g1,ha fx H0 env σ H h rs e1 er _ fun vs H1 m1 hE n1 hv => ?_⟩
        obtain ⟨a,g1',g2,g3,g4⟩ := hE.ac f _ ei
        rw [g1] at g1'
        cases g1'
        refine ⟨lim fx e1 σ (f::bss rs),a0,vs,d0,d1,d,fr,datas rs,by simp,by rw [datas_len];exact hl,hE.lims _,?_,?_,?_,eg,fun v H' fr' ac' ret => ?_⟩
        · rintro (z|⟨j,d',z1,z2,z3⟩)
          · exact g3 z
          · exact z1 (qy.mpr (.inl (hE.inj j f d' d0 a0 z2 ei z3 g1)))
        · exact g4.same (Offs.sub fun b z => z.elim (lim_own b) fun y => by subst y;exact .inr ⟨f,_,ei,g1⟩) fun o z => z
        · refine Rps.same (Offs.sub fun b z => ?_) _ (vals_rps (fun i hi => hi) hv)
          rcases z with z|z
          · exact lim_sub (fun i hi => qO _ hi) b z
          · subst z;exact .inr ⟨f,d0,n1,ei,g1⟩
        · obtain ⟨o0,eo0⟩ := g4.ex
          obtain ⟨o1,eo1⟩ := ac'.ex
          have s2:Same H1 (upd H' a0 o0) := fun b o eb => by
            by_cases hb:b=a0
            · subst hb
              rw [upd_same,← eb,eo0]
            · rw [upd_ne hb];exact fr' b o hb eb
          have e2:upd (upd H' a0 o0) a0 o1=H' := by
            funext b
            by_cases hb:b=a0
            · subst hb;rw [upd_same,eo1]
            · rw [upd_ne hb,upd_ne hb]
          have hf := (hE.up s2).frzs (bss rs)
          have ei' := frzs_get n1 ei
          have sl:∀ b,fx b∨own (frzs e1 (bss rs)) σ b→lim fx e1 σ (f::bss rs) b∨b=a0 := by
            rintro b (z|⟨j,d',z1,z2⟩)
            · exact .inl (.inl z)
            · obtain ⟨z3,z4⟩ := frzs_ac z1
              by_cases hj:j=f
              · subst hj
                rw [g1] at z2
                cases z2
                exact .inr rfl
              · exact .inl (.inr ⟨j,d',fun hm => (qy.mp hm).elim hj z4,z3,z2⟩)
          have r:AccAt (Offs (fun b => fx b∨own (frzs e1 (bss rs)) σ b) (upd H' a0 o0)) (upd (upd H' a0 o0) a0 o1) a0 d1 := by
            rw [e2,Offs.upd (.inr ⟨f,_,ei',g1⟩)]
            exact ac'.same (Offs.sub sl) fun o z => z
          have hE' := hf.mut ei' g1 r
          rw [e2] at hE'
          have hfl:f<(frzs e1 (bss rs)).length := (qQ.mp ei').1
          have rest:∀ (j:Nat) (d':PyData),j≠f→((frzs e1 (bss rs)).set f (.ac d1))[j]?=some (.ac d')→e1[j]?=some (.ac d')∧j∉bss rs := fun j d' hj e => by
            rw [qU fun z => hj z.symm] at e
            exact frzs_ac e
          have lm:∀ b,lim fx ((frzs e1 (bss rs)).set f (.ac d1)) σ (bss rs) b→lim fx e1 σ (f::bss rs) b∨b=a0 := by
            rintro b (z|⟨j,d',z1,z2,z3⟩)
            · exact .inl (.inl z)
            · by_cases hj:j=f
              · subst hj
                rw [g1] at z3
                cases z3
                exact .inr rfl
              · exact .inl (.inr ⟨j,d',fun hm => (qy.mp hm).elim hj z1,(rest j d' hj z2).1,z3⟩)
          refine q v H' ⟨fun j d' hj e => m1.rest j d' hj (rest j d' hj e).1,⟨_,edd⟩,⟨d1,qe hfl⟩,fun b o nb eb => fr' b o (fun z => nb (by rw [z];exact g1)) (m1.keep b o nb eb),fun b o eb => ?_⟩ hE' (bsOf_sub n1) ⟨rp_bsOf (Rp.same (Offs.sub lm) _ ret.1),fun e => ?_⟩ (fun e => ?_)
          · by_cases hb:b=a0
            · exact ⟨o1,by rw [hb];exact eo1⟩
            · obtain ⟨o',e'⟩ := m1.live b o eb
              exact ⟨o',fr' b o' hb e'⟩
          · obtain ⟨c,q1,q2,q3⟩ := ret.2 e
            refine ⟨c,q1,m1.free q2,?_⟩
            have nf:flatD d=false := by cases d<;>first|rfl|exact q3.elim
            show AccAt (Offs (fun b => lim fx ((frzs e1 (bss rs)).set f (.ac d1)) σ (bsOf d (bss rs)) b∨b=c) H') H' c d
            rw [show bsOf d (bss rs)=bss rs by unfold bsOf;rw [if_neg (by rw [nf];decide)]]
            exact q3.same (Offs.sub fun b z => z.imp (lm b) id) fun o z => z
          · obtain ⟨c,q1,q2,q3⟩ := ret.2 e
            have hca:c≠a0 := fun z => by rw [z,eo0] at q2;cases q2
            have hx:∃ o,(upd H' a0 o0) c=some o := by rw [upd_ne hca];exact q3.ex
            have hf2 := (hE.new s2 q2 hx).frzs (bss rs)
            have r2:AccAt (Offs (fun b => (fx b∨b=c)∨own (frzs e1 (bss rs)) σ b) (upd H' a0 o0)) (upd (upd H' a0 o0) a0 o1) a0 d1 := by
              rw [e2]
              exact acc_flat hfl0 ac'
            have := hf2.mut ei' g1 r2
            rw [e2] at this
            exact ⟨c,q1,this⟩
      · cases hr
    · cases hr
  · cases hr
theorem EnvOk.putF {fx:Addr→Prop} {H0:Hp} {env:DEnv} {σ:St} {H H':Hp} (k:EnvOk fx H0 env σ H') {r:Val} {v:V} (hv:ValOk (lim fx env σ r.bs) H H' r v) (hn:NewOk fx H0 env σ H' r v) (h0:Same H0 H) (hfx:∀ b,fx b→∃ o,H b=some o) (i:Nat):EnvOk fx H0 (putV env i r) (σ.set i (some v)) H' := by
  unfold putV slOf
  cases e:r.fr with
  | false =>
    rw [if_neg qI]
    exact (k.frzs r.bs).setPl i (Rp.same (Offs.sub frzs_lim) _ hv.rp)
  | true =>
    rw [if_pos rfl]
    obtain ⟨a,rfl,ha,hacc⟩ := hv.fr e
    obtain ⟨a',ea,g⟩ := hn e
    cases ea
    have nfx:¬ fx a := off_new hfx ha
    refine (g.frzs r.bs).setAc i (hacc.same (Offs.sub fun b z => ?_) fun o z => z) (h0.free ha) nfx
    rcases z with z|z
    · exact .inl (frzs_lim b z)
    · exact .inr z
inductive OutF where
  | nx (env:DEnv)
  | bk (env:DEnv)
  | ct (env:DEnv)
  | rt (d:PyData) (fr:Bool) (env:DEnv)
noncomputable def RetF (fx:Addr→Prop) (H0:Hp) (env:DEnv) (σ:St) (d:PyData) (fr:Bool) (v:V) (H:Hp):Prop :=
  Rp (Offs (fun a => fx a∨own env σ a) H) d v∧(fr=true→∃ a,v=.ref a∧H0 a=none∧¬ own env σ a∧AccAt (Offs (fun b => (fx b∨own env σ b)∨b=a) H) H a d)
noncomputable def SatF (fx:Addr→Prop) (H0:Hp) (J:Nat→Prop) (σ0:St) (D:Ends):OutF→Prop
  | .nx env => ∀ σ H,EnvOk fx H0 env σ H→(∀ j,J j→σ[j]?=σ0[j]?)→D.nx σ H
  | .bk env => ∀ σ H,EnvOk fx H0 env σ H→(∀ j,J j→σ[j]?=σ0[j]?)→D.bk σ H
  | .ct env => ∀ σ H,EnvOk fx H0 env σ H→(∀ j,J j→σ[j]?=σ0[j]?)→D.ct σ H
  | .rt d fr env => ∀ σ v H,EnvOk fx H0 env σ H→(∀ j,J j→σ[j]?=σ0[j]?)→RetF fx H0 env σ d fr v H→D.rt v H
theorem SatF.move {fx:Addr→Prop} {H0:Hp} {J:Nat→Prop} {σ0 σ1:St} {D:Ends} {o:OutF} (h:SatF fx H0 J σ0 D o) (e:∀ j,J j→σ1[j]?=σ0[j]?):SatF fx H0 J σ1 D o := by
  cases o with
  | nx env => exact fun σ H hE k => h σ H hE fun j hj => (k j hj).trans (e j hj)
  | bk env => exact fun σ H hE k => h σ H hE fun j hj => (k j hj).trans (e j hj)
  | ct env => exact fun σ H hE k => h σ H hE fun j hj => (k j hj).trans (e j hj)
  | rt d fr env => exact fun σ v H hE k => h σ v H hE fun j hj => (k j hj).trans (e j hj)
noncomputable abbrev SFf := DEnv→Option OutF
noncomputable def SSf (J:Nat→Prop) (ts:TS) (F:SFf):Prop := ∀ (fx:Addr→Prop) (H0:Hp) (env:DEnv) (σ:St) (H:Hp) (D:Ends),EnvOk fx H0 env σ H→∀ o,F env=some o→SatF fx H0 J σ D o→ts D σ H
section
variable {J:Nat→Prop} {f:Nat}
noncomputable def fS (F:SF):SFf := fun env => (F env).bind fun o => match o with
  | .nx e => some (.nx e)
  | .bk e => some (.bk e)
  | .ct e => some (.ct e)
  | .rt _ _ => none
theorem ssf_of {t:TS} {F:SF} (h:SSk J t F):SSf J t (fS F) := by
  intro fx H0 env σ H D hE o e q
  unfold fS at e
  obtain ⟨o1,e1,e⟩ := qA.mp e
  refine h fx H0 env σ H D hE o1 e1 ?_
  cases o1 with
  | nx e' => cases e;exact q
  | bk e' => cases e;exact q
  | ct e' => cases e;exact q
  | rt _ _ => cases e
noncomputable def fNx:SFf := fun env => some (.nx env)
theorem ssf_nil:SSf J tNext fNx := by
  intro fx H0 env σ H D h o e q
  cases e
  exact q σ H h fun _ _ => rfl
noncomputable def fSeq (a b:SFf):SFf := fun env => (a env).bind fun o => match o with
  | .nx env' => b env'
  | o => some o
theorem ssf_seq {t u:TS} {a b:SFf} (h1:SSf J t a) (h2:SSf J u b):SSf J (tSeq t u) (fSeq a b) := by
  intro fx H0 env σ H D h o e q
  unfold fSeq at e
  obtain ⟨o1,e1,e⟩ := qA.mp e
  refine h1 fx H0 env σ H _ h o1 e1 ?_
  cases o1 with
  | nx env' => exact fun σ' H' h' k => h2 fx H0 env' σ' H' D h' o e (q.move k)
  | bk env' => cases e;exact q
  | ct env' => cases e;exact q
  | rt d fr env' => cases e;exact q
noncomputable def fSet (i:Nat) (g:EFf):SFf := fun env => (g env).map fun x => .nx (putV x.2 i x.1)
theorem ssf_set {te:TE} {g:EFf} {i:Nat} (h1:SEf f te g) (hJ:¬ J i):SSf J (tAsg te (gName i)) (fSet i g) := by
  intro fx H0 env σ H D h o e q
  unfold fSet at e
  obtain ⟨⟨r,env'⟩,er,rfl⟩ := qG.mp e
  exact h1 fx H0 env σ H h r env' er _ fun v H' m k n hv hn => q _ H' (k.putF hv hn h.base h.fxs i) fun j hj => qU fun z => hJ (by rw [z];exact hj)
noncomputable abbrev TFf := DEnv→Option (Bool×DEnv)
noncomputable def STf (f:Nat) (tt:TT) (g:TFf):Prop := ∀ (fx:Addr→Prop) (H0:Hp) (env:DEnv) (σ:St) (H:Hp),EnvOk fx H0 env σ H→∀ b env',g env=some (b,env')→∀ Q:Bool→Hp→Prop,(∀ H',MvF f env env' σ H H'→EnvOk fx H0 env' σ H'→Q b H')→tt σ H Q
noncomputable def gPure (f:Nat) (g:TF):TFf := fun env => match env[f]? with
  | some (.ac _) => (g env).map fun b => (b,env)
  | _ => none
noncomputable def gB (g:EFf):TFf := fun env => (g env).bind fun x => match x.1.d with
  | .bool b => some (b,x.2)
  | _ => none
theorem stf_b {te:TE} {g:EFf} (h:SEf f te g):STf f (tB te) (gB g) := by
  intro fx H0 env σ H hE b env' e Q q
  unfold gB at e
  obtain ⟨⟨⟨d,fr,bs⟩,e1⟩,er,e⟩ := qA.mp e
  cases d with
  | bool b' =>
    cases e
    refine h fx H0 env σ H hE _ e1 er _ fun v H' m k n hv _ => ?_
    cases rp_bool hv.rp
    first
      | exact ⟨b,rfl,q H' m k⟩
      | exact q H' m k
  | _ => cases e
noncomputable def fIf (c:TFf) (a b:SFf):SFf := fun env => (c env).bind fun x => if x.1=true then a x.2 else b x.2
theorem ssf_if {tc:TT} {t u:TS} {c:TFf} {a b:SFf} (hc:STf f tc c) (h1:SSf J t a) (h2:SSf J u b):SSf J (tIfS tc t u) (fIf c a b) := by
  intro fx H0 env σ H D h o e q
  unfold fIf at e
  obtain ⟨⟨x,e1⟩,eb,e⟩ := qA.mp e
  refine hc fx H0 env σ H h x e1 eb _ fun H' m k => ?_
  cases x with
  | true => exact iteT (h1 fx H0 e1 σ H' D k o e q)
  | false => exact iteF (h2 fx H0 e1 σ H' D k o e q)
end
theorem spF_len {n:Nat} {g:GE} {vs:List V} {H:Hp} {Q:VK} {E:XK} (h:spF n g vs H Q E):vs.length=n := by
  obtain ⟨fx,a,vs',d0,d1,d,fr,ds,rfl,hn,_,_,_,r,_⟩ := h
  rw [qf,← r.length];exact hn
noncomputable def fnF (n:Nat) (F:SFf):GE := fun d ds => (F (startM n d ds)).bind fun o => match o with
  | .rt d' fr env => match (env[0]?:Option Sl) with
    | some (.ac d1) => some (d',fr,d1)
    | _ => none
  | _ => none
theorem fn_f {N:List Str} {n:Nat} {F:SFf} {t:TS} (hN:0<N.length) (hs:SSf (fun j => j=0) t F) {vs:List V} {H:Hp} {Q:VK} {E:XK} (h:spF n (fnF N.length F) vs H Q E):t {nx := fun _ H' => Q .non H',rt := Q} (start N vs) H := by
  obtain ⟨fx,a,vs',d0,d1,d,fr,ds,rfl,hn,hf,na,ac,r,g,k⟩ := h
  unfold fnF at g
  obtain ⟨o,eo,g⟩ := qA.mp g
  cases o with
  | rt d' fr' env' =>
    refine hs fx _ _ _ H _ (env_startM hN hf na ac r) _ eo fun σ' v H' hE kp rt => ?_
    have g:(match (env'[0]?:Option Sl) with|some (.ac d1) => some (d',fr',d1)|_ => none)=some (d,fr,d1) := g
    split at g
    · rename_i d1' e0
      cases g
      obtain ⟨a',q1,_,_,q4⟩ := hE.ac 0 _ e0
      rw [kp 0 rfl] at q1
      have q1:some (some (V.ref a))=some (some (V.ref a')) := q1
      cases q1
      have oa:own env' σ' a := ⟨0,_,e0,by rw [kp 0 rfl];rfl⟩
      have sub:∀ b,fx b∨b=a→fx b∨own env' σ' b := fun b z => z.imp id fun y => by subst y;exact oa
      refine k v H' (fun b o nb e => hE.base b o (by rw [Offs.get (A := fun b => b=a) nb];exact e)) (q4.same (Offs.sub sub) fun o z => z) ⟨Rp.same (Offs.sub sub) _ rt.1,fun z => ?_⟩
      obtain ⟨c,w1,w2,w4,w3⟩ := rt.2 z
      have hc:c≠a := fun y => by
        subst y
        exact w4 oa
      refine ⟨c,w1,?_,w3.same (Offs.sub fun b z => z.imp (sub b) id) fun o z => z⟩
      rw [Offs.get (A := fun b => b=a) hc] at w2
      exact w2
    · cases g
  | nx _ => cases g
  | bk _ => cases g
  | ct _ => cases g
theorem RetF.unbase {fx:Addr→Prop} {H0 F:Hp} {env:DEnv} {σ:St} {d:PyData} {fr:Bool} {v:V} {H:Hp} (h:RetF fx F env σ d fr v H) (s:Same H0 F):RetF fx H0 env σ d fr v H :=
  ⟨h.1,fun e => let ⟨a,h1,h2,h3⟩ := h.2 e;⟨a,h1,s.free h2,h3⟩⟩
noncomputable def forLF (g:GT) (body:SFf):List PyData→DEnv→Option OutF
  | [],env => some (.nx env)
  | d::ds,env => (g d env).bind fun e1 => (body e1).bind fun o => match o with
    | .nx e2 => forLF g body ds e2
    | .ct e2 => forLF g body ds e2
    | .bk e2 => some (.nx e2)
    | .rt d fr e2 => some (.rt d fr e2)
noncomputable abbrev IFf := DEnv→Option (List PyData×List Nat×DEnv)
noncomputable def SIf (f:Nat) (wi:TI) (g:IFf):Prop := ∀ (fx:Addr→Prop) (H0:Hp) (env:DEnv) (σ:St) (H:Hp),EnvOk fx H0 env σ H→∀ ds bs env',g env=some (ds,bs,env')→∀ R:It→Hp→Prop,
  (∀ I H1,MvF f env env' σ H H1→EnvOk fx H0 env' σ H1→Yl (fun b => fx b∨own (frzs env' bs) σ b) H1 I ds→R I H1)→wi σ H R
noncomputable def iRange1F (a:AFf):IFf := fun env => (a env).bind fun x => match x.1 with
  | [⟨.int j,_,_⟩] => if -(2 ^ 62)≤j∧j<2 ^ 62 then some (rangeD 0 j.toNat,[],x.2) else none
  | _ => none
theorem sif_range1 {f:Nat} {ta:TA} {a:AFf} (h1:SAf f ta a):SIf f (iRng1 ta) (iRange1F a) := by
  intro fx H0 env σ H h ds bs env' e R q
  unfold iRange1F at e
  obtain ⟨⟨rs,e1⟩,er,e⟩ := qA.mp e
  dsimp only at e
  split at e
  · split at e
    · rename_i hj
      cases e
      refine h1 fx H0 env σ H h _ _ er _ fun vs H1 m k n hv => ?_
      cases hv with
      | cons hv t =>
        cases t
        cases rp_int hv.rp
        exact ⟨_,rfl,hj.1,hj.2,q _ H1 m k yl_range⟩
    · cases e
  · cases e
noncomputable def fForF (f:IFf) (g:GT) (body:SFf):SFf := fun env => (f env).bind fun z => forLF g body z.1 (frzs z.2.2 z.2.1)
noncomputable def fFor (f:IF') (g:GT) (body:SFf):SFf := fun env => (f env).bind fun z => forLF g body z.1 (frzs env z.2)
section
variable {J:Nat→Prop}
theorem ssf_for {wi:TI} {g:TG} {tb:TS} {f:IF'} {gf:GT} {body:SFf} (h1:SI wi f) (h2:SGk J g gf) (h3:SSf J tb body):SSf J (tFor wi g tb) (fFor f gf body) := by
  intro fx H0 env σ H D h o e q
  unfold fFor at e
  obtain ⟨⟨ds,bs⟩,er,e⟩ := qA.mp e
  refine h1 fx H0 env σ H h ds bs er _ fun I H1 s yl => ?_
  have hE := (h.up s).frzs bs
  have fl := hE.floor
  refine ⟨fun i m σ' H' => m=ds.length - i∧i≤ds.length∧(∀ j,J j→σ'[j]?=σ[j]?)∧∃ env',forLF gf body (ds.drop i) env'=some o∧EnvOk fx (Offs (own (frzs env bs) σ) H1) env' σ' H',⟨ds.length,rfl,qAZ _,fun _ _ => rfl,_,e,hE.rebase⟩,?_⟩
  rintro i m σ' H' ⟨rfl,hi,kp,env',e',h'⟩
  obtain ⟨yi,ys⟩ := yl _ H' h'.all h'.seen
  by_cases hlt:i<ds.length
  · obtain ⟨yg,yy⟩ := yi i ds[i] (qF hlt)
    refine .inr ⟨yg,fun σ'' H'' => i+1≤ds.length∧(∀ j,J j→σ''[j]?=σ[j]?)∧∃ env'',forLF gf body (ds.drop (i+1)) env''=some o∧EnvOk fx (Offs (own (frzs env bs) σ) H1) env'' σ'' H'',?_,?_⟩
    · rintro σ'' H'' ⟨hle,kp',env'',e'',h''⟩
      exact ⟨ds.length - (i+1),by omega,rfl,hle,kp',env'',e'',h''⟩
    · intro x H'' hy
      obtain ⟨sy,ry⟩ := yy x H'' hy
      rw [qAM hlt] at e'
      obtain ⟨e1,ee1,e'⟩ := qA.mp e'
      obtain ⟨o1,eo1,e'⟩ := qA.mp e'
      refine h2 fx _ env' σ' H'' _ x (h'.up sy) ry e1 ee1 _ fun σ2 h2' k2 => h3 fx _ e1 σ2 H'' _ h2' o1 eo1 ?_
      have k3:∀ j,J j→σ2[j]?=σ[j]? := fun j hj => (k2 j hj).trans (kp j hj)
      cases o1 with
      | nx e2 => exact fun σ3 H3 hh k4 => ⟨hlt,fun j hj => (k4 j hj).trans (k3 j hj),e2,e',hh⟩
      | ct e2 => exact fun σ3 H3 hh k4 => ⟨hlt,fun j hj => (k4 j hj).trans (k3 j hj),e2,e',hh⟩
      | bk e2 => cases e';exact fun σ3 H3 hh k4 => q σ3 H3 (hh.unbase fl) fun j hj => (k4 j hj).trans (k3 j hj)
      | rt d fr e2 => cases e';exact fun σ3 v H3 hh k4 rt => q σ3 v H3 (hh.unbase fl) (fun j hj => (k4 j hj).trans (k3 j hj)) (rt.unbase fl)
  · have hi':i=ds.length := by omega
    subst hi'
    rw [qAl] at e'
    cases e'
    exact .inl ⟨ys,q σ' H' (h'.unbase fl) kp⟩
theorem ssf_forF {fd:Nat} {wi:TI} {g:TG} {tb:TS} {f:IFf} {gf:GT} {body:SFf} (h1:SIf fd wi f) (h2:SGk J g gf) (h3:SSf J tb body):SSf J (tFor wi g tb) (fForF f gf body) := by
  intro fx H0 env σ H D h o e q
  unfold fForF at e
  obtain ⟨⟨ds,bs,v1⟩,er,e⟩ := qA.mp e
  refine h1 fx H0 env σ H h ds bs v1 er _ fun I H1 m0 k0 yl => ?_
  have hE := k0.frzs bs
  have fl := hE.floor
  refine ⟨fun i m σ' H' => m=ds.length - i∧i≤ds.length∧(∀ j,J j→σ'[j]?=σ[j]?)∧∃ env',forLF gf body (ds.drop i) env'=some o∧EnvOk fx (Offs (own (frzs v1 bs) σ) H1) env' σ' H',⟨ds.length,rfl,qAZ _,fun _ _ => rfl,_,e,hE.rebase⟩,?_⟩
  rintro i m σ' H' ⟨rfl,hi,kp,env',e',h'⟩
  obtain ⟨yi,ys⟩ := yl _ H' h'.all h'.seen
  by_cases hlt:i<ds.length
  · obtain ⟨yg,yy⟩ := yi i ds[i] (qF hlt)
    refine .inr ⟨yg,fun σ'' H'' => i+1≤ds.length∧(∀ j,J j→σ''[j]?=σ[j]?)∧∃ env'',forLF gf body (ds.drop (i+1)) env''=some o∧EnvOk fx (Offs (own (frzs v1 bs) σ) H1) env'' σ'' H'',?_,?_⟩
    · rintro σ'' H'' ⟨hle,kp',env'',e'',h''⟩
      exact ⟨ds.length - (i+1),by omega,rfl,hle,kp',env'',e'',h''⟩
    · intro x H'' hy
      obtain ⟨sy,ry⟩ := yy x H'' hy
      rw [qAM hlt] at e'
      obtain ⟨e1,ee1,e'⟩ := qA.mp e'
      obtain ⟨o1,eo1,e'⟩ := qA.mp e'
      refine h2 fx _ env' σ' H'' _ x (h'.up sy) ry e1 ee1 _ fun σ2 h2' k2 => h3 fx _ e1 σ2 H'' _ h2' o1 eo1 ?_
      have k3:∀ j,J j→σ2[j]?=σ[j]? := fun j hj => (k2 j hj).trans (kp j hj)
      cases o1 with
      | nx e2 => exact fun σ3 H3 hh k4 => ⟨hlt,fun j hj => (k4 j hj).trans (k3 j hj),e2,e',hh⟩
      | ct e2 => exact fun σ3 H3 hh k4 => ⟨hlt,fun j hj => (k4 j hj).trans (k3 j hj),e2,e',hh⟩
      | bk e2 => cases e';exact fun σ3 H3 hh k4 => q σ3 H3 (hh.unbase fl) fun j hj => (k4 j hj).trans (k3 j hj)
      | rt d fr e2 => cases e';exact fun σ3 v H3 hh k4 rt => q σ3 v H3 (hh.unbase fl) (fun j hj => (k4 j hj).trans (k3 j hj)) (rt.unbase fl)
  · have hi':i=ds.length := by omega
    subst hi'
    rw [qAl] at e'
    cases e'
    exact .inl ⟨ys,q σ' H' (h'.unbase fl) kp⟩
end
noncomputable def fApp (i:Nat) (g:EFf):SFf := fun env => match env[i]? with
  | some (.ac (.list _)) => (g env).bind fun x => (match x.2[i]? with
    | some (.ac (.list es)) => if es.length<100000∧i∉x.1.bs then some (.nx ((frzs x.2 x.1.bs).set i (.ac (.list (es++[x.1.d]))))) else none
    | _ => none)
  | _ => none
theorem ssf_app {J:Nat→Prop} {f:Nat} {K:qB} {i:Nat} {te:TE} {g:EFf} (h1:SEf f te g):SSf J (tDrop (tBM K "list" rAppend (tVar i) (tCons te tNil))) (fApp i g) := by
  intro fx H0 env σ H D h o e q
  unfold fApp at e
  split at e
  · rename_i ds0 ei0
    obtain ⟨⟨r,v1⟩,er,e⟩ := qA.mp e
    dsimp only at e
    split at e
    · rename_i ds ei
      split at e
      · rename_i hl
        cases e
        obtain ⟨a,g1,g2,g3,g4⟩ := h.ac i _ ei0
        obtain ⟨xs0,hx0,_⟩ := g4
        refine ⟨_,g1,.inl ⟨rfl,_,SqL.of hx0⟩,h1 fx H0 env σ H h r v1 er _ fun v H' m k n hv hn => ?_⟩
        have h' := k.frzs r.bs
        have ei' := frzs_get hl.2 ei
        obtain ⟨a',z1,_,_,z4⟩ := h'.ac i _ ei'
        rw [g1] at z1
        cases z1
        obtain ⟨xs,hx',rx'⟩ := z4
        refine ⟨a,xs,v,rfl,rfl,hx',size_lt (by rw [← rx'.length];exact hl.1),?_⟩
        exact q σ _ (h'.mut ei' g1 ⟨_,upd_same,rx'.append (rps_cons (Rp.same (Offs.sub frzs_lim) _ hv.rp) rps_nil)⟩) fun _ _ => rfl
      · cases e
    · cases e
  · cases e
noncomputable def fCB (g:GF) (a:AFf):EFf := fun env => (a env).bind fun x => (g (datas x.1)).bind fun z => some (⟨z.1,z.2,bsOf z.1 (bss x.1)⟩,x.2)
theorem sef_cb {f:Nat} {r:List V→Hp→VK→Prop} {g:GF} {ta:TA} {a:AFf} (hc:SC r g) (ha:SAf f ta a):SEf f (tCB r ta) (fCB g a) := by
  intro fx H0 env σ H h rr env' hr Q q
  unfold fCB at hr
  obtain ⟨⟨rs,e1⟩,er,hr⟩ := qA.mp hr
  obtain ⟨⟨d,fr⟩,ez,hr⟩ := qA.mp hr
  cases hr
  refine ha fx H0 env σ H h rs e1 er _ fun vs H1 m k n v1 => hc (lim fx e1 σ (bss rs)) H1 vs (datas rs) (k.lims _) (vals_rps (fun i hi => hi) v1) d fr ez _ fun w H3 s3 rp fr3 => q w H3 (m.trans (MvF.same m.at1 s3)) (k.up s3) (bsOf_sub n) ⟨rp_bsOf rp,fun e => ?_⟩ fun e => let ⟨b,g1,g2,g3⟩ := fr3 e;⟨b,g1,k.new s3 g2 g3.ex⟩
  obtain ⟨b,g1,g2,g3⟩ := fr3 e
  refine ⟨b,g1,m.free g2,?_⟩
  have nf:flatD d=false := by cases d<;>first|rfl|exact g3.elim
  show AccAt (Offs (fun c => lim fx e1 σ (bsOf d (bss rs)) c∨c=b) H3) H3 b d
  rw [show bsOf d (bss rs)=bss rs by unfold bsOf;rw [if_neg (by rw [nf];decide)]]
  exact g3
section
variable {f:Nat}
end
section
variable {J:Nat→Prop} {f:Nat}
theorem stf_t {te:TE} {g:EFf} (h:SEf f te g):STf f (tTest te) (gB g) := stf_b h
noncomputable def fRetP (g:EF):SFf := fun env => (g env).map fun r => .rt r.d r.fr (frzs env r.bs)
theorem ssf_retp {te:TE} {g:EF} (h1:SE te g):SSf J (tRet te) (fRetP g) := by
  intro fx H0 env σ H D h o e q
  unfold fRetP at e
  obtain ⟨r,er,rfl⟩ := qG.mp e
  refine h1 fx H0 env σ H h r er _ fun v H' s hv => q σ v H' ((h.up s).frzs r.bs) (fun _ _ => rfl) ⟨Rp.same (Offs.sub frzs_lim) _ hv.rp,fun z => ?_⟩
  obtain ⟨a,h1,h2,h3⟩ := hv.fr z
  refine ⟨a,h1,h.base.free h2,fun ⟨j,d,z1,z2⟩ => ?_,h3.same (Offs.sub fun b z => z.imp (frzs_lim b) id) fun o z => z⟩
  obtain ⟨o,eo⟩ := h.lims [] a (.inr ⟨j,d,by simp,(frzs_ac z1).1,z2⟩)
  rw [h2] at eo;cases eo
noncomputable def fRetV (i:Nat):SFf := fun env => match env[i]? with
  | some (.pl d) => some (.rt d false env)
  | some (.ac d) => some (.rt d true (env.set i .no))
  | _ => none
theorem ssf_retv {i:Nat}:SSf J (tRet (tVar i)) (fRetV i) := by
  intro fx H0 env σ H D h o e q
  unfold fRetV at e
  cases ei:env[i]? with
  | none => rw [ei] at e;cases e
  | some sl =>
    rw [ei] at e
    cases sl with
    | no => cases e
    | pl d =>
      cases e
      obtain ⟨v,h1,h2⟩ := h.pl i d ei
      exact ⟨v,h1,q σ v H h (fun _ _ => rfl) ⟨h2,fun z => by cases z⟩⟩
    | ac d =>
      cases e
      obtain ⟨a,h1,h2,h3,h4⟩ := h.ac i d ei
      have sub:∀ b,own (env.set i .no) σ b→own env σ b := by
        rintro b ⟨j,d',z1,z2⟩
        rcases set_get z1 with ⟨_,y⟩|⟨_,y⟩
        · cases y
        · exact ⟨j,d',y,z2⟩
      have nown:¬ own (env.set i .no) σ a := by
        rintro ⟨j,d',z1,z2⟩
        rcases set_get z1 with ⟨_,y⟩|⟨hn,y⟩
        · cases y
        · exact hn (h.inj j i d' d a y ei z2 h1)
      have so:Same (Offs (fun b => fx b∨own env σ b) H) (Offs (fun b => fx b∨own (env.set i .no) σ b) H) := Offs.sub fun b z => z.imp id (sub b)
      have hE:EnvOk fx H0 (env.set i .no) σ H := by
        refine ⟨by rw [qj];exact h.len,fun j e hj => ?_,fun j e hj => ?_,fun j k d1 d2 b z1 z2 z3 z4 => ?_,h.base,h.fxs⟩
        · rcases set_get hj with ⟨_,y⟩|⟨_,y⟩
          · cases y
          · obtain ⟨v,w1,w2⟩ := h.pl j e y;exact ⟨v,w1,Rp.same so _ w2⟩
        · rcases set_get hj with ⟨_,y⟩|⟨_,y⟩
          · cases y
          · obtain ⟨b,w1,w2,w3,w4⟩ := h.ac j e y;exact ⟨b,w1,w2,w3,w4.same so fun o z => z⟩
        · rcases set_get z1 with ⟨_,y1⟩|⟨_,y1⟩
          · cases y1
          · rcases set_get z2 with ⟨_,y2⟩|⟨_,y2⟩
            · cases y2
            · exact h.inj j k d1 d2 b y1 y2 z3 z4
      refine ⟨_,h1,q σ _ H hE (fun _ _ => rfl) ⟨h4.rp so fun o eo => by rw [Offs.get fun z => z.elim h3 nown];exact eo,fun _ => ⟨a,rfl,h2,nown,h4.same (Offs.sub fun b z => ?_) fun o z => z⟩⟩⟩
      rcases z with z|z
      · exact z.imp id (sub b)
      · rw [z];exact .inr ⟨i,d,ei,h1⟩
noncomputable def fIfP (c:TF) (a b:SFf):SFf := fun env => (c env).bind fun x => if x=true then a env else b env
theorem ssf_ifp {tc:TT} {t u:TS} {c:TF} {a b:SFf} (hc:ST tc c) (h1:SSf J t a) (h2:SSf J u b):SSf J (tIfS tc t u) (fIfP c a b) := by
  intro fx H0 env σ H D h o e q
  unfold fIfP at e
  obtain ⟨x,eb,e⟩ := qA.mp e
  refine hc fx H0 env σ H h x eb _ fun H' s => ?_
  cases x with
  | true => exact iteT (h1 fx H0 env σ H' D (h.up s) o e q)
  | false => exact iteF (h2 fx H0 env σ H' D (h.up s) o e q)
end
section
variable {own:List Str} {fr:List Nat} {f k:Nat} {env:DEnv}
end
end L2
namespace PySem
open Sem (wp)
section
variable {prog:Program} {w:World} {A:Around} {E:Value→Shared→Prop} {s:Shared}
variable {b1 b2 b3:Bool} {z TI TO i1 i2 i3 l1 l2 l3:Addr} {k:Nat} {xs ys zs:Array Value}
end
end PySem
namespace L2
open PySem PySem.Spec PyProof.Rows
end L2
namespace PySem
open Sem (wp)
end PySem
namespace L2
open PySem PySem.Spec PyProof.Rows
noncomputable def Scr (K:qB) (a:Addr) (ns:List Int) (H0:Hp) (σ:St):Prop := σ[0]?=some (some (.ref a))∧SqL K H0 a (ns.map V.int)
theorem SqL.up {K:qB} {H H':Hp} {a:Addr} {xs:List V} (h:SqL K H a xs) (s:Same H H'):SqL K H' a xs := by
  rcases h with (h|⟨o,h⟩)|h
  · exact .inl (.inl (s _ _ h))
  · exact .inl (.inr ⟨o,s _ _ h⟩)
  · exact .inr h
noncomputable def SSg (K:qB) (ns:List Int) (J:Nat→Prop) (ts:TS) (F:SFf):Prop := ∀ (a:Addr) (fx:Addr→Prop) (H0:Hp) (env:DEnv) (σ:St) (H:Hp) (D:Ends),EnvOk fx H0 env σ H→Scr K a ns H0 σ→∀ o,F env=some o→SatF fx H0 J σ D o→ts D σ H
section
variable {K:qB} {ns:List Int} {J:Nat→Prop} {f:Nat}
theorem ssg_of {t:TS} {F:SFf} (h:SSf J t F):SSg K ns J t F := fun a fx H0 env σ H D hE _ o e q => h fx H0 env σ H D hE o e q
theorem ssg_seq {t u:TS} {a b:SFf} (hJ:J 0) (h1:SSg K ns J t a) (h2:SSg K ns J u b):SSg K ns J (tSeq t u) (fSeq a b) := by
  intro c fx H0 env σ H D h hc o e q
  unfold fSeq at e
  obtain ⟨o1,e1,e⟩ := qA.mp e
  refine h1 c fx H0 env σ H _ h hc o1 e1 ?_
  cases o1 with
  | nx env' => exact fun σ' H' h' k => h2 c fx H0 env' σ' H' D h' ⟨(k 0 hJ).trans hc.1,hc.2⟩ o e (q.move k)
  | bk env' => cases e;exact q
  | ct env' => cases e;exact q
  | rt d fr env' => cases e;exact q
theorem ssg_for {wi:TI} {g:TG} {tb:TS} {f:IF'} {gf:GT} {body:SFf} (hJ:J 0) (h1:SI wi f) (h2:SGk J g gf) (h3:SSg K ns J tb body):SSg K ns J (tFor wi g tb) (fFor f gf body) := by
  intro a0 fx H0 env σ H D h hc o e q
  unfold fFor at e
  obtain ⟨⟨ds,bs⟩,er,e⟩ := qA.mp e
  refine h1 fx H0 env σ H h ds bs er _ fun I H1 s yl => ?_
  have hE := (h.up s).frzs bs
  have fl := hE.floor
  refine ⟨fun i m σ' H' => m=ds.length - i∧i≤ds.length∧(∀ j,J j→σ'[j]?=σ[j]?)∧∃ env',forLF gf body (ds.drop i) env'=some o∧EnvOk fx (Offs (own (frzs env bs) σ) H1) env' σ' H',⟨ds.length,rfl,qAZ _,fun _ _ => rfl,_,e,hE.rebase⟩,?_⟩
  rintro i m σ' H' ⟨rfl,hi,kp,env',e',h'⟩
  obtain ⟨yi,ys⟩ := yl _ H' h'.all h'.seen
  by_cases hlt:i<ds.length
  · obtain ⟨yg,yy⟩ := yi i ds[i] (qF hlt)
    refine .inr ⟨yg,fun σ'' H'' => i+1≤ds.length∧(∀ j,J j→σ''[j]?=σ[j]?)∧∃ env'',forLF gf body (ds.drop (i+1)) env''=some o∧EnvOk fx (Offs (own (frzs env bs) σ) H1) env'' σ'' H'',?_,?_⟩
    · rintro σ'' H'' ⟨hle,kp',env'',e'',h''⟩
      exact ⟨ds.length - (i+1),by omega,rfl,hle,kp',env'',e'',h''⟩
    · intro x H'' hy
      obtain ⟨sy,ry⟩ := yy x H'' hy
      rw [qAM hlt] at e'
      obtain ⟨e1,ee1,e'⟩ := qA.mp e'
      obtain ⟨o1,eo1,e'⟩ := qA.mp e'
      refine h2 fx _ env' σ' H'' _ x (h'.up sy) ry e1 ee1 _ fun σ2 h2' k2 => ?_
      have k3:∀ j,J j→σ2[j]?=σ[j]? := fun j hj => (k2 j hj).trans (kp j hj)
      refine h3 a0 fx _ e1 σ2 H'' _ h2' ⟨(k3 0 hJ).trans hc.1,hc.2.up fl⟩ o1 eo1 ?_
      cases o1 with
      | nx e2 => exact fun σ3 H3 hh k4 => ⟨hlt,fun j hj => (k4 j hj).trans (k3 j hj),e2,e',hh⟩
      | ct e2 => exact fun σ3 H3 hh k4 => ⟨hlt,fun j hj => (k4 j hj).trans (k3 j hj),e2,e',hh⟩
      | bk e2 => cases e';exact fun σ3 H3 hh k4 => q σ3 H3 (hh.unbase fl) fun j hj => (k4 j hj).trans (k3 j hj)
      | rt d fr e2 => cases e';exact fun σ3 v H3 hh k4 rt => q σ3 v H3 (hh.unbase fl) (fun j hj => (k4 j hj).trans (k3 j hj)) (rt.unbase fl)
  · have hi':i=ds.length := by omega
    subst hi'
    rw [qAl] at e'
    cases e'
    exact .inl ⟨ys,q σ' H' (h'.unbase fl) kp⟩
noncomputable def fMany (i:Nat) (m:Int) (ns:List Int):SFf := fun env => some (.nx (env.set i (.pl (.int (if (ns.length:Int)<m then ns.length else m)))))
theorem ssg_many {i:Nat} {m:Int} (hJ:¬ J i):SSg K ns J (tAsg (tCB (fun xs H Q => ∃ i j,xs=[.int i,.int j]∧Q (.int (if j<i then j else i)) H) (tCons (tC (.int m)) (tCons (tCB (fun xs H Q => ∃ x n,xs=[x]∧LenV K x H n∧Q (.int n) H) (tCons (tVar 0) tNil)) tNil))) (gName i)) (fMany i m ns) := by
  intro a fx H0 env σ H D h hc o e q
  cases e
  refine ⟨.ref a,hc.1,.ref a,ns.length,rfl,?_,m,ns.length,rfl,q _ H (h.setPl i rp_mk_int) fun j hj => qU fun z => hJ (by rw [z];exact hj)⟩
  have hs := hc.2.up h.base
  exact .inl ⟨_,hs,by rw [qD]⟩
noncomputable def feedD (ns:List Int) (z:Int):List PyData :=
  let c := ns.getD z.toNat 0
  let g := if c<0 then -c else c
  [.int (if g<10 ^ 18 then 0 else g),.int ((c % 2147483423 * 48271+6151 * z+17) % 2147483423),.int 0]
noncomputable def spFeed (K:qB):Sp := fun vs H Q _ => ∃ (a:Addr) (ns:List Int) (z:Int),vs=[.ref a,.int z]∧SqL K H a (ns.map .int)∧0≤z∧z≤1000 ∧
  ∀ p H',H p=none→Same H H'→AccAt (fun _ => none) H' p (.list (feedD ns z))→Q (.ref p) H'
noncomputable def fFeed (f k:Nat) (ns:List Int):SFf := fun env => match env[k]? with
  | some (.pl (.int z)) => if 0≤z∧z≤1000 then some (.nx (env.set f (.ac (.list (feedD ns z))))) else none
  | _ => none
theorem ssg_feed {k:Nat} (hJ:¬ J f):SSg K ns J (tAsg (tCall (spFeed K) [] E0 (tCons (tVar 0) (tCons (tVar k) tNil))) (gName f)) (fFeed f k ns) := by
  intro a fx H0 env σ H D h hc o e q
  unfold fFeed at e
  split at e
  · rename_i z ek
    split at e
    · rename_i hz
      cases e
      obtain ⟨v,hv,rv⟩ := h.pl k _ ek
      cases rp_int rv
      refine ⟨_,hc.1,_,hv,a,ns,z,rfl,hc.2.up h.base,hz.1,hz.2,fun p H' hp s ac => ?_⟩
      refine q _ H' ?_ fun j hj => qU fun y => hJ (by rw [y];exact hj)
      have vo:ValOk (lim fx env σ (Val.bs ⟨.list (feedD ns z),true,[]⟩)) H H' ⟨.list (feedD ns z),true,[]⟩ (.ref p) := by
        refine ⟨ac.rp (fun b o eb => by cases eb) fun o eo => ?_,fun _ => ⟨p,rfl,hp,ac.same (fun b o eb => by cases eb) fun o eo => eo⟩⟩
        rw [Offs.get]
        · exact eo
        · intro y
          obtain ⟨o',eo'⟩ := h.lims [] p y
          rw [hp] at eo'
          cases eo'
      exact h.put (r := ⟨.list (feedD ns z),true,[]⟩) s vo f
    · cases e
  · cases e
end
section
variable {K:qB} {ns:List Int} {J:Nat→Prop}
noncomputable def fCell (k i:Nat) (ns:List Int):SFf := fun env => match env[k]? with
  | some (.pl (.int z)) => if 0≤z then some (.nx (if z<ns.length then env.set i (.pl (.int (ns.getD z.toNat 0))) else env)) else none
  | _ => none
theorem ssg_cell {k i:Nat} (hJ:¬ J i):SSg K ns J (tIfS (tTest (tOp (rI0 fun i j => .bl (decide (i<j))) (tVar k) (tCB (fun xs H Q => ∃ x n,xs=[x]∧LenV K x H n∧Q (.int n) H) (tCons (tVar 0) tNil)))) (tAsg (tOp (rIxU K) (tVar 0) (tVar k)) (gName i)) tNext) (fCell k i ns) := by
  intro a fx H0 env σ H D h hc o e q
  unfold fCell at e
  split at e
  · rename_i z ek
    split at e
    · rename_i hz
      cases e
      obtain ⟨v,hv,rv⟩ := h.pl k _ ek
      cases rp_int rv
      have hs := hc.2.up h.base
      refine ⟨_,hv,.ref a,hc.1,.ref a,ns.length,rfl,.inl ⟨_,hs,by rw [qD]⟩,z,ns.length,rfl,rfl,decide (z<(ns.length:Int)),rfl,?_⟩
      by_cases hlt:z<ns.length
      · rw [if_pos hlt] at q
        rw [decide_eq_true hlt]
        refine iteT ⟨.ref a,hc.1,_,hv,ns.map V.int,.int (ns.getD z.toNat 0),.inl hs,?_,?_⟩
        · have hn:z.toNat<ns.length := by omega
          unfold atI ixN
          rw [qD,if_pos hz,if_pos hlt]
          show (ns.map V.int)[z.toNat]?=_
          rw [qd,qF hn,qh,qF hn]
          rfl
        · exact q _ H (h.setPl i rp_mk_int) fun j hj => qU fun y => hJ (by rw [y];exact hj)
      · rw [if_neg hlt] at q
        rw [decide_eq_false hlt]
        exact iteF (q σ H h fun _ _ => rfl)
    · cases e
  · cases e
end
theorem env_no {H:Hp} {σ:St} {env:DEnv} (hl:env.length=σ.length) (hp:∀ (i:Nat) (d:PyData),env[i]?=some (.pl d)→∃ v,σ[i]?=some (some v)∧Rp H d v) (ha:∀ (i:Nat) (d:PyData),env[i]?≠some (.ac d)):EnvOk (fun _ => False) H env σ H :=
  ⟨hl,fun i d e => let ⟨v,w1,w2⟩ := hp i d e;⟨v,w1,Rp.same (fun b o eb => by rw [Offs.get fun z => z.elim id fun ⟨j,d',z,_⟩ => ha j d' z];exact eb) _ w2⟩,fun i d e => absurd e (ha i d),fun i j d e a z => absurd z (ha i d),Same.refl _,fun b z => z.elim⟩
theorem feed_flat (ns:List Int) (z:Int):flatL (.list (feedD ns z))=true := rfl
theorem fn_feed {K:qB} {N:List Str} (hN:N.length=4) {t:TS} {F:List Int→SFf} (hs:∀ ns,SSg K ns (fun j => j=0) t (F ns))
    (hF:∀ ns z,0≤z→z≤1000→∃ env',F ns [.no,.pl (.int z),.no,.no]=some (.rt (.list (feedD ns z)) true env')) {vs:List V} {H:Hp} {Q:VK} {E:XK} (h:spFeed K vs H Q E):t {nx := fun _ H' => Q .non H',rt := Q} (start N vs) H := by
  obtain ⟨a,ns,z,rfl,hS,h0,h1,k⟩ := h
  obtain ⟨env',e⟩ := hF ns z h0 h1
  have st:start N [.ref a,.int z]=[some (.ref a),some (.int z),none,none] := by unfold start;rw [hN];rfl
  rw [st]
  refine hs ns a (fun _ => False) H _ _ H _ (env_no (env := [.no,.pl (.int z),.no,.no]) rfl (fun i d e => ?_) fun i d e => ?_) ⟨rfl,hS⟩ _ e fun σ v H' hE kp rt => ?_
  · match i,e with
    | 1,e => cases e;exact ⟨_,rfl,rp_mk_int⟩
    | 0,e => cases e
    | 2,e => cases e
    | 3,e => cases e
  · match i,e with
    | 1,e => cases e
    | 0,e => cases e
    | 2,e => cases e
    | 3,e => cases e
  · obtain ⟨p,rfl,hp,_,ac⟩ := rt.2 rfl
    exact k p H' hp hE.base (acc_flat (feed_flat ns z) ac)
theorem law_endF {K:qB} {ns:List Int} {t:TS} {F:SFf} (hs:SSg K ns (fun j => j=0) t F) {a:Addr} {H:Hp} {Q:VK} {nx:St→Hp→Prop} {n:Nat} (hS:SqL K H a (ns.map V.int)) (e:∃ env',F (List.replicate (n+1) .no)=some (.rt (.bool true) false env')) (k:∀ H',Q (.bl true) H') :
    t {nx := nx,rt := Q} (some (.ref a)::List.replicate n none) H := by
  obtain ⟨env',e⟩ := e
  have no:∀ (i:Nat) (s:Sl),(List.replicate (n+1) Sl.no)[i]?=some s→s=.no := fun i s e => by
    rw [qBC] at e
    split at e
    · exact (qP e).symm
    · cases e
  refine hs a (fun _ => False) H _ _ H _ (env_no (by simp) (fun i d e => by cases no i _ e) fun i d e => by cases no i _ e) ⟨rfl,hS⟩ _ e fun σ v H' hE kp rt => ?_
  cases rp_bool rt.1
  exact k H'
end L2
namespace Bc
open PySem L2
noncomputable def F_law_feed (ns:List Int):SFf := (fSeq (fS (sSet 2 (eC (.int 0))))
    (fSeq (fCell 1 2 ns)
    (fSeq (fS (sSet 3 (eCB absD (aCons (eVar 2) aNil))))
    (fSeq (fIfP (tBool (eOp ltD (eVar 3) (eOp powD (eC (.int 10)) (eC (.int 18))))) (fS (sSet 3 (eC (.int 0)))) fNx)
    (fRetP (eLst (aCons (eVar 3) (aCons (eOp modD (eOp addD (eOp addD (eOp mulD (eOp modD (eVar 2) (eC (.int 2147483423))) (eC (.int 48271))) (eOp mulD (eC (.int 6151)) (eVar 1))) (eC (.int 17))) (eC (.int 2147483423))) (aCons (eC (.int 0)) aNil)))))))))
theorem feed_ok (ns:List Int) (z:Int) (h0:0≤z) (h1:z≤1000):∃ env',F_law_feed ns [.no,.pl (.int z),.no,.no]=some (.rt (.list (feedD ns z)) true env') := by
  have e1:F_law_feed ns [.no,.pl (.int z),.no,.no]=(fSeq (fS (sSet 3 (eCB absD (aCons (eVar 2) aNil))))
    (fSeq (fIfP (tBool (eOp ltD (eVar 3) (eOp powD (eC (.int 10)) (eC (.int 18))))) (fS (sSet 3 (eC (.int 0)))) fNx)
    (fRetP (eLst (aCons (eVar 3) (aCons (eOp modD (eOp addD (eOp addD (eOp mulD (eOp modD (eVar 2) (eC (.int 2147483423))) (eC (.int 48271))) (eOp mulD (eC (.int 6151)) (eVar 1))) (eC (.int 17))) (eC (.int 2147483423))) (aCons (eC (.int 0)) aNil))))))) [.no,.pl (.int z),.pl (.int (ns.getD z.toNat 0)),.no] := by
    show (fSeq (fCell 1 2 ns) _) [.no,.pl (.int z),.pl (.int 0),.no]=_
    unfold fSeq fCell
    show Option.bind (if 0≤z then some (OutF.nx (if z<ns.length then [.no,.pl (.int z),.pl (.int (ns.getD z.toNat 0)),.no] else [.no,.pl (.int z),.pl (.int 0),.no])) else none) _=_
    rw [if_pos h0]
    by_cases hl:z<ns.length
    · rw [if_pos hl];rfl
    · rw [if_neg hl,show ns.getD z.toNat 0=0 by rw [qh,qB9 (by omega)];rfl]
      rfl
  rw [e1]
  have hfd:feedD ns z=[.int (if (if ns.getD z.toNat 0<0 then -ns.getD z.toNat 0 else ns.getD z.toNat 0)<10 ^ 18 then 0 else (if ns.getD z.toNat 0<0 then -ns.getD z.toNat 0 else ns.getD z.toNat 0)),.int ((ns.getD z.toNat 0 % 2147483423 * 48271+6151 * z+17) % 2147483423),.int 0] := rfl
  rw [hfd]
  clear hfd e1
  generalize ns.getD z.toNat 0=c
  have e2:∀ g:Int,(fRetP (eLst (aCons (eVar 3) (aCons (eOp modD (eOp addD (eOp addD (eOp mulD (eOp modD (eVar 2) (eC (.int 2147483423))) (eC (.int 48271))) (eOp mulD (eC (.int 6151)) (eVar 1))) (eC (.int 17))) (eC (.int 2147483423))) (aCons (eC (.int 0)) aNil))))) [.no,.pl (.int z),.pl (.int c),.pl (.int g)]=some (.rt (.list [.int g,.int ((c % 2147483423 * 48271+6151 * z+17) % 2147483423),.int 0]) true [.no,.pl (.int z),.pl (.int c),.pl (.int g)]) := fun g => by
    have m:eOp modD (eOp addD (eOp addD (eOp mulD (eOp modD (eVar 2) (eC (.int 2147483423))) (eC (.int 48271))) (eOp mulD (eC (.int 6151)) (eVar 1))) (eC (.int 17))) (eC (.int 2147483423)) [.no,.pl (.int z),.pl (.int c),.pl (.int g)]=some (vi ((c % 2147483423 * 48271+6151 * z+17) % 2147483423)) :=
      e_mod (e_add (e_add (e_mul (e_mod rfl rfl (by decide)) rfl (.inr (by decide))) (e_mul rfl rfl (.inl (by decide)))) rfl) rfl (by decide)
    unfold fRetP eLst aCons
    rw [m]
    rfl
  have e3:(fSeq (fS (sSet 3 (eCB absD (aCons (eVar 2) aNil)))) (fSeq (fIfP (tBool (eOp ltD (eVar 3) (eOp powD (eC (.int 10)) (eC (.int 18))))) (fS (sSet 3 (eC (.int 0)))) fNx)
    (fRetP (eLst (aCons (eVar 3) (aCons (eOp modD (eOp addD (eOp addD (eOp mulD (eOp modD (eVar 2) (eC (.int 2147483423))) (eC (.int 48271))) (eOp mulD (eC (.int 6151)) (eVar 1))) (eC (.int 17))) (eC (.int 2147483423))) (aCons (eC (.int 0)) aNil))))))) [.no,.pl (.int z),.pl (.int c),.no] =
    (fSeq (fIfP (tBool (eOp ltD (eVar 3) (eOp powD (eC (.int 10)) (eC (.int 18))))) (fS (sSet 3 (eC (.int 0)))) fNx)
    (fRetP (eLst (aCons (eVar 3) (aCons (eOp modD (eOp addD (eOp addD (eOp mulD (eOp modD (eVar 2) (eC (.int 2147483423))) (eC (.int 48271))) (eOp mulD (eC (.int 6151)) (eVar 1))) (eC (.int 17))) (eC (.int 2147483423))) (aCons (eC (.int 0)) aNil)))))) [.no,.pl (.int z),.pl (.int c),.pl (.int (if c<0 then -c else c))] := rfl
  rw [e3]
  have e4:∀ g:Int,tBool (eOp ltD (eVar 3) (eOp powD (eC (.int 10)) (eC (.int 18)))) [.no,.pl (.int z),.pl (.int c),.pl (.int g)]=some (decide (g<10 ^ 18)) := fun g => rfl
  generalize (if c<0 then -c else c)=g
  unfold fSeq fIfP
  rw [e4,qC]
  by_cases hg:g<10 ^ 18
  · rw [if_pos (decide_eq_true hg),if_pos hg]
    exact ⟨_,e2 0⟩
  · rw [if_neg (by rw [decide_eq_false hg];decide),if_neg hg]
    exact ⟨_,e2 g⟩
noncomputable def F_law_take:SFf := (fSeq (fIfP (tBool (eOp gtD (eIxV 0 (eC (.int 0))) (eC (.int 0)))) (fSeq (fS (sSet 2 (eOp modD (eIxV 0 (eC (.int 0))) (eVar 1))))
    (fSeq (fS (sSetI 0 (eC (.int 0)) (eOp fdivD (eIxV 0 (eC (.int 0))) (eVar 1))))
    (fRetV 2))) fNx)
    (fSeq (fS (sSet 3 (eOp addD (eIxV 0 (eC (.int 2))) (eC (.int 1)))))
    (fSeq (fS (sSetI 0 (eC (.int 2)) (eVar 3)))
    (fSeq (fS (sSet 4 (eOp modD (eOp addD (eOp addD (eIxV 0 (eC (.int 1))) (eOp mulD (eOp mulD (eC (.int 40692)) (eVar 3)) (eVar 3))) (eOp mulD (eC (.int 69621)) (eVar 3))) (eC (.int 2147483647)))))
    (fSeq (fS (sSet 4 (eOp modD (eOp addD (eOp addD (eOp mulD (eVar 4) (eVar 4)) (eOp mulD (eC (.int 39373)) (eVar 4))) (eVar 3)) (eC (.int 2147483579)))))
    (fSeq (fS (sSet 4 (eOp modD (eOp addD (eOp mulD (eVar 4) (eVar 4)) (eOp mulD (eC (.int 16807)) (eVar 4))) (eC (.int 2147483549)))))
    (fRetP (eOp modD (eOp fdivD (eVar 4) (eC (.int 64))) (eVar 1)))))))))
noncomputable def G_law_take:GE := fnF 5 F_law_take
noncomputable def F_law_letters:SFf := (fSeq (fS (sSet 2 (eC (.str ""))))
    (fSeq (fFor (iRange1 (aCons (eVar 1) aNil)) (gN 3)
    (fSet 2 (fOp addD (fPure 0 (eVar 2)) (fOp ixD (fPure 0 (eC (.str "abcdefghijklmnopqrstuvwxyz"))) (fCallF 0 2 G_law_take (fCons (fPure 0 (eC (.int 26))) (fNil 0)))))))
    (fRetV 2)))
noncomputable def G_law_letters:GE := fnF 4 F_law_letters
noncomputable def F_law_web:SFf := (fSeq (fS (sSet 2 (eLst aNil)))
    (fSeq (fFor (iRange1 (aCons (eCB lenD (aCons (eVar 1) aNil)) aNil)) (gN 3)
    (fSeq (fS (sSet 4 (eLst aNil)))
    (fSeq (fForF (iRange1F (fCons (fCB minD (fCons (fPure 0 (eVar 3)) (fCons (fCallF 0 2 G_law_take (fCons (fPure 0 (eC (.int 5))) (fNil 0))) (fNil 0)))) (fNil 0))) (gN 5)
    (fSeq (fSet 6 (fOp ixD (fPure 0 (eVar 1)) (fCallF 0 2 G_law_take (fCons (fPure 0 (eVar 3)) (fNil 0)))))
    (fIfP (tBool (eOp (inD true) (eVar 6) (eVar 4))) (fApp 4 (fPure 0 (eVar 6))) fNx)))
    (fApp 2 (fPure 0 (eTup (aCons (eIxV 1 (eVar 3)) (aCons (eVar 4) aNil))))))))
    (fRetV 2)))
noncomputable def G_law_web:GE := fnF 7 F_law_web
noncomputable def F_law_above:SF := (sSeq (sSet 1 eDNew)
    (sSeq (sFor (iItems (eVar 0)) (gT 2 (gsCons 2 (gsCons 3 gsNil)))
    (sSeq (sSet 4 (eLst (aCons (eVar 2) aNil)))
    (sSeq (sFor (iItems (eVar 3)) (gN 5)
    (sSet 4 (eOp addD (eVar 4) (eDGetV 1 (eVar 5)))))
    (sPut 1 (eVar 2) (eComp ["_law_other", "_law_rest"] [4] (iItems (eVar 0)) (gT 2 (gsCons 0 (gsCons 1 gsNil))) (tBool (eOp (inD false) (eVar 0) (eVar 2))) (eVar 0))))))
    (sRetV 1)))
noncomputable def G_law_above:GF := fnD 6 F_law_above
noncomputable def F_law_reach:SF := (sSeq (sIf (tTru (eIsi "tuple" (eVar 1))) (sSeq (sSet 2 (eLst aNil))
    (sSeq (sFor (iItems (eVar 1)) (gN 3)
    (sSet 2 (eOp addD (eVar 2) (eDGetV 0 (eVar 3)))))
    (sRetV 2))) sNil)
    (sRet (eDGetV 0 (eVar 1))))
noncomputable def G_law_reach:GF := fnD 4 F_law_reach
end Bc
namespace L2
open PySem PySem.Spec PyProof.Rows
noncomputable def xcIn (K:qB) (C:Addr):Bool := match K.lookup C with
  | some ⟨.type "type",_,.cls cd,sl⟩ => (match cd.mro,sl.toList with
    | .ref C'::bm,[_,_,_,_,some (.builtin n),_] => C'==C&&!cd.hasDel&&cd.hasDict&&n == "ValueError.__new__" && bm.contains (.type "ValueError")&&bm.contains (.type "BaseException")&&!bm.contains (.type "AttributeError")&&!bm.contains (.type "NameError")
    | _,_ => false)
  | _ => false
theorem xc_cls {K:qB} {h:Heap} {C:Addr} (X:K.In h) (q:xcIn K C=true):∃ nm qn N bs bm sn sub ab col dd k0 k1 k2 k3 k5,
    h.get? C=some (excClassObj nm qn C N bs bm true sn sub ab col dd k0 k1 k2 k3 k5 "ValueError.__new__")∧(Value.ref C::bm).contains (.type "ValueError")=true∧(Value.ref C::bm).contains (.type "BaseException")=true∧(Value.ref C::bm).contains (.type "AttributeError")=false∧(Value.ref C::bm).contains (.type "NameError")=false := by
  unfold xcIn at q
  split at q
  · rename_i dd cd sl ho
    split at q
    · rename_i C' bm k0 k1 k2 k3 n k5 hm hs
      simp only [qq,beq_iff_eq,Bool.not_eq_true'] at q
      obtain ⟨⟨⟨⟨⟨⟨⟨rfl,hdel⟩,hdc⟩,rfl⟩,hv⟩,hb⟩,ha⟩,hn⟩ := q
      obtain ⟨nm,bs,mro,ns,qn,hd,sn,sub,ab,col,del⟩ := cd
      dsimp only at hm hdel hdc
      subst hm hdel hdc
      have hsl:sl=#[k0,k1,k2,k3,some (.builtin "ValueError.__new__"),k5] := by
        obtain ⟨l⟩ := sl
        simp only at hs
        rw [hs]
      subst hsl
      refine ⟨nm,qn,ns,bs,bm,sn,sub,ab,col,dd,k0,k1,k2,k3,k5,X _ _ ho,?_,?_,?_,?_⟩
      · rw [qu,hv,qAf]
      · rw [qu,hb,qAf]
      · rw [qu,ha];rfl
      · rw [qu,hn];rfl
    · cases q
  · cases q
end L2
namespace PySem
open Sem (wp)
section
variable {prog:Program} {w:World} {A:Around} {E:Value→Shared→Prop} {h:Heap} {g:Array GenState} {d:Drawn} {t:Nat} {os:OsState}
variable {nm q:Str} {C N:Addr} {bs bm:List Value} {sn:List Str} {sub:List Value} {ab:Bool} {col:Option Bool} {dd:Option Addr} {k0 k1 k2 k3 k5:Option Value}
theorem xnew_check {M:Model} {rest:List Value} {Q:Unit→Shared→Prop} (hC:h.get? C=some (excClassObj nm q C N bs bm true sn sub ab col dd k0 k1 k2 k3 k5 "ValueError.__new__")) (hv:(Value.ref C::bm).contains (.type "ValueError")=true)
    (hq:Q () ⟨h,g,d,t,os⟩):wpAny M A (checkBuiltinCall "ValueError.__new__" ⟨.ref C::rest,[]⟩) Q E ⟨h,g,d,t,os⟩ := by
  have F := qA2
  have f0 := F.noStar
  simp only [checkBuiltinCall,F.newKind,F.newSplit,F.newRow]
  repeat (first|refine qW hC ?_|(refine qAJ hC ?_;rw [hv])|refine wpAny_staticBase_exc hC ?_|refine wpAny_madeBy_exc hC ?_|simp only [bne_self_eq_false,qA4,if_false]|wp_step)
  exact hq
theorem xnew_code {rest:List Value} {R:Result→Shared→Prop} (hC:h.get? C=some (excClassObj nm q C N bs bm true sn sub ab col dd k0 k1 k2 k3 k5 "ValueError.__new__")) (hv:(Value.ref C::bm).contains (.type "ValueError")=true) (ha:(Value.ref C::bm).contains (.type "AttributeError")=false) (hn:(Value.ref C::bm).contains (.type "NameError")=false)
    (hq:R (.ok (.ret (.ref (h.objs.size+1)))) ⟨(h.push {cls := .type "tuple",data := .seq rest.toArray}).push {cls := .ref C,data := .fields #[.ref h.objs.size,.none,.none,.none,.bool false,.none]},g,d,t,os⟩) (hr:rest.length≤qM) :
    codeAny (model prog w) A (.builtin "ValueError.__new__" ⟨.ref C::rest,[]⟩) R ⟨h,g,d,t,os⟩ := by
  have F := qA2
  have f0 := F.ends
  refine codeAny_builtinAt F.entry ?_
  unfold Builtin.«BaseException.__new__»
  refine wpAt_bind ?_
  show wpAt _ _ _ (stack >>= _) _ _ _
  refine wpAt_bind (wpAt_stack fun p below => wpAt_of_wpAny ?_)
  wp_walk
  refine wpAt_of_wpAny ?_
  rw [F.owner]
  repeat (first|with_reducible refine wpAny_madeHere_exc F.canon hC ?_|with_reducible refine qW hC ?_|(with_reducible refine qAJ hC ?_;first|rw [hv]|rw [ha]|rw [hn])|wp_step)
  show R _ _
  rw [qBP]
  exact hq
theorem xmake {rest:List Value} {fI:Addr} {oI:Obj} {Q:Value→Shared→Prop} (hC:h.get? C=some (excClassObj nm q C N bs bm true sn sub ab col dd k0 k1 k2 k3 k5 "ValueError.__new__")) (hv:(Value.ref C::bm).contains (.type "ValueError")=true) (ha:(Value.ref C::bm).contains (.type "AttributeError")=false) (hn:(Value.ref C::bm).contains (.type "NameError")=false)
    (LI:W.Looks (model prog w) h (typeLookup (.ref C) "__init__") (some (.ref fI))) (hfI:h.get? fI=some oI) (hfc:oI.cls=.type "function") (hr:rest.length≤qM)
    (hq:∀ h' e,Heap.MadeExcOf h h' e (.ref C) rest→wpAny (model prog w) (A.under (.builtin "type.__call__" ⟨.ref C::rest,[]⟩)) (call (.ref fI) (.ref e::rest)) (fun r s' => r=.none∧Q (.ref e) s') E ⟨h',g,d,t,os⟩) :
    wpAny (model prog w) A (call (.ref C) rest) Q E ⟨h,g,d,t,os⟩ := by
  have F := qA2
  have f1 := tc_lookup
  have f2 := tc_bind (.ref C)
  have hT:(⟨h,g,d,t,os⟩:Shared).TypeIs (.ref C) "type" := ⟨_,hC,rfl⟩
  refine qBs (codeAny_of_tree ?_)
  show wpAny _ _ (callAny (.ref C) _) _ _ _
  repeat (any_goals (first|assumption|with_reducible refine qW hC ?_|wp_step))
  refine ⟨rfl,?_⟩
  refine codeAny_call_builtin_at (qBX _ (by decide +kernel)) entry_typeCall (wpAny_check_type_call_sub hC ?_)
  repeat (first|with_reducible refine qW hC ?_|with_reducible refine wpAny_madeBy_exc hC ?_|wp_step)
  refine codeAny_call_builtin_code (qBX _ F.quiet) (xnew_check hC hv ?_)
  refine xnew_code hC hv ha hn ?_ hr
  show wpAny _ _ _ _ _ _
  have kp:∀ b o,h.get? b=some o→((h.push {cls := .type "tuple",data := .seq rest.toArray}).push {cls := .ref C,data := .fields #[.ref h.objs.size,.none,.none,.none,.bool false,.none]}).get? b=some o := fun b o e => qE _ (qE _ e)
  have hC1 := kp _ _ hC
  have he:((h.push {cls := .type "tuple",data := .seq rest.toArray}).push {cls := .ref C,data := .fields #[.ref h.objs.size,.none,.none,.none,.bool false,.none]}).get? (h.objs.size+1)=some {cls := .ref C,data := .fields #[.ref h.objs.size,.none,.none,.none,.bool false,.none]} := by heap_get
  have hcC:(Value.ref C::bm).contains (.ref C)=true := by simp
  unfold isInstance
  repeat (first|with_reducible refine qW he ?_|(refine qAJ hC1 ?_;rw [hcC])|wp_step)
  show wpAny _ _ (typeLookup (.ref C) _) _ _ _
  refine (LI.keeps kp).here ?_
  refine qBm (qN ?_)
  unfold bindSpecial
  refine qN (wpAny_typeOf (T := "function") ⟨_,kp _ _ hfI,hfc⟩ ?_)
  rw [if_pos (by decide)]
  refine qp (qN (qAk (hq _ (h.objs.size+1) ⟨kp,qBN (Nat.le_succ _),h.objs.size,he,qBN (qR _),?_⟩) (fun r s' hh => ?_) fun _ _ x => x))
  · exact qE _ (Heap.get?_push_at rfl rfl)
  · obtain ⟨rfl,hQ⟩ := hh
    wp_walk
    exact hQ
end
open Builtin Builtin.ObjectAttr
noncomputable def vmro:List Value := [.type "ValueError",.type "Exception",.type "BaseException",.type "object"]
noncomputable def refsThen:List Value→Bool
  | .ref _::r => refsThen r
  | l => l==vmro
theorem refsThen_loop (self:Value) (what:Str):∀ {l:List Value},refsThen l=true→refuseLoop self what l=refuseLoop self what vmro
  | [],h => by cases h
  | v::r,h => by
    cases v with
    | ref a => rw [refuseLoop_ref];exact refsThen_loop self what h
    | _ => rw [eq_of_beq (show (_==vmro)=true from h)]
theorem refsThen_has {T:Value} (hT:vmro.contains T=true):∀ {l:List Value},refsThen l=true→l.contains T=true
  | [],h => by cases h
  | v::r,h => by
    cases v with
    | ref a => rw [qu,refsThen_has hT (l := r) h,qAf]
    | _ => rw [eq_of_beq (show (_==vmro)=true from h)];exact hT
section
variable {prog:Program} {w:World} {A:Around} {E:Value→Shared→Prop} {h:Heap} {g:Array GenState} {d:Drawn} {t:Nat} {os:OsState}
variable {nm q:Str} {C N x:Addr} {bs bm:List Value} {sn:List Str} {sub:List Value} {ab:Bool} {col:Option Bool} {dd:Option Addr} {k0 k1 k2 k3 k5:Option Value} {newId:String} {name:Str} {v:Value}
theorem xstore_check {M:Model} {o:Obj} {nameV:Value} {Q:Unit→Shared→Prop} (hr:refsThen bm=true)
    (hC:h.get? C=some (excClassObj nm q C N bs bm true sn sub ab col dd k0 k1 k2 k3 k5 newId)) (hx:h.get? x=some o) (hc:o.cls=.ref C) (hq:Q () ⟨h,g,d,t,os⟩) :
    wpAny M A (checkBuiltinCall "object.__setattr__" ⟨[.ref x,nameV,v],[]⟩) Q E ⟨h,g,d,t,os⟩ := by
  have SF := qBg
  have hcB:(Value.ref C::bm).contains (.type "object")=true := by rw [qu,refsThen_has (by decide) hr,qAf]
  have ha := SF.args (.ref x) nameV v
  simp only [checkBuiltinCall,SF.kind,SF.split]
  refine qN ?_
  · unfold isInstance
    repeat (first|(with_reducible refine qW hx ?_;rw [hc])|(with_reducible refine qAJ hC ?_;rw [hcB])|wp_step)
    exact hq
theorem xstore_entry {tk:Tok} {Q:Fin→Shared→Prop} {o:Obj} (hr:refsThen bm=true)
    (hC:h.get? C=some (excClassObj nm q C N bs bm true sn sub ab col dd k0 k1 k2 k3 k5 newId)) (hx:h.get? x=some o) (hc:o.cls=.ref C) (hnc:∀ c,o.data≠.cls c) (hdn:o.dict=none)
    (LA:W.Looks (model prog w) h (typeLookup (.ref C) name) none)
    (hq:∀ h' tk' dx,h.objs.size≤dx→h'.Ns1 dx (fun y => if y=name then some v else none)→h'.get? x=some {o with dict := some dx} →
      (∀ b o,b≠x→h.get? b=some o→h'.get? b=some o)→Q (.done (.ret .none)) ⟨h',g,d,tk',os⟩) :
    wpAny (model prog w) A (Builtin.«object.__setattr__» ⟨[.ref x,.str name tk,v],[]⟩) Q E ⟨h,g,d,t,os⟩ := by
  have SF := qBg
  have hpass:refuseLoop (.ref x) "__setattr__" bm=pure () := by rw [refsThen_loop _ _ hr];exact SF.passes (.ref x)
  unfold Builtin.«object.__setattr__»
  repeat (first|rw [refuse_eq]|(rw [refuseLoop_ref,hpass])|(with_reducible refine qW hx ?_;rw [hc])|with_reducible refine wpAny_mroOf_exc hC ?_|(with_reducible refine LA.here ?_)|wp_step)
  rw [hdn,if_neg (by simp [typeHasDict])]
  split
  · rename_i hcd
    cases hcd
  split
  · rename_i c hcd
    exact absurd hcd (hnc c)
  · have hx₁:(h.push {cls := .type "dict",data := .dict #[]}).get? x=some o := qE _ hx
    have hxs:x≠h.objs.size := qAC (qS hx)
    refine qN (wpAny_alloc' ?_)
    refine qN (wpAny_update' hx₁ ?_)
    refine qp ?_
    have hgd:((h.push {cls := .type "dict",data := .dict #[]}).update x fun o => {cls := o.cls,dict := some h.objs.size,data := o.data,slots := o.slots}).get? h.objs.size
        = some {cls := .type "dict",data := .dict #[]} :=
      (qCT _ _ _ _ hxs.symm).trans (Heap.get?_push_at rfl rfl)
    have hnd:((h.push {cls := .type "dict",data := .dict #[]}).update x fun o => {cls := o.cls,dict := some h.objs.size,data := o.data,slots := o.slots}).Ns h.objs.size (fun _ => none) :=
      ⟨_,#[],_,hgd,rfl,fun e he => absurd he (by simp),fun _ => rfl⟩
    show wpAny _ _ (storeInDict h.objs.size (.str name tk) name v) _ _ _
    unfold storeInDict newKeyGuard
    refine qN (qp (qN (wpAny_nsSet1EFk (Heap.Ns1.of_empty hnd) fun h' hn' hs hkeepD => ?_)))
    obtain ⟨oD,esD,epD,hoD,hdD,hcD⟩ := hn'.count (Within.cons name v Within.nil)
    refine qN (wpAny_lookBehind hoD (by rw [hdD];exact pastItsLine_dict (qAF hcD (by rw [qf,qA0,qAT];omega))) ?_)
    wp_walk
    refine hq h' _ h.objs.size (qR _) hn' ?_ (fun b ob hbx hb => ?_)
    · refine (hs.2 x hxs).trans (qAO _ hx₁ ?_)
      have hfr := (Heap.get?_some_iff.mp hx).2
      obtain ⟨oc,od,odt,osl⟩ := o
      cases odt<;>first|rfl|exact hfr
    · exact (hs.2 b (qAC (qS hb))).trans ((qCT _ _ _ _ hbx).trans (qE _ hb))
theorem xstore {Q:Unit→Shared→Prop} {o:Obj} (hr:refsThen bm=true)
    (hC:h.get? C=some (excClassObj nm q C N bs bm true sn sub ab col dd k0 k1 k2 k3 k5 newId)) (hx:h.get? x=some o) (hc:o.cls=.ref C) (hnc:∀ c,o.data≠.cls c) (hdn:o.dict=none)
    (LS:W.Looks (model prog w) h (typeLookup (.ref C) "__setattr__") (some (.builtin "object.__setattr__"))) (LA:W.Looks (model prog w) h (typeLookup (.ref C) name) none)
    (hq:∀ h' tk' dx,h.objs.size≤dx→h'.Ns1 dx (fun y => if y=name then some v else none)→h'.get? x=some {o with dict := some dx} →
      (∀ b o,b≠x→h.get? b=some o→h'.get? b=some o)→Q () ⟨h',g,d,tk',os⟩) :
    wpAny (model prog w) A (setAttr (.ref x) name v) Q E ⟨h,g,d,t,os⟩ := by
  have SF := qBg
  have f3 := SF.slot.bind (.ref x)
  unfold setAttr callSpecial? specialOf
  repeat (any_goals (first|assumption|(with_reducible refine qW hx ?_;rw [hc])|(with_reducible refine LS.here ?_)|wp_step))
  refine qAn SF.slot.plain SF.entry (xstore_check hr hC hx hc (xstore_entry hr hC hx hc hnc hdn LA fun h' tk' dx a1 a2 a3 a4 => ?_))
  repeat (any_goals (first|assumption|wp_step))
  exact hq h' tk' dx a1 a2 a3 a4
theorem xread {Q:Value→Shared→Prop} {o:Obj} {dx:Addr} {vs:Array Value} {mA:Str→Option Value} {expr:Bool} (hr:refsThen bm=true)
    (hC:h.get? C=some (excClassObj nm q C N bs bm true sn sub ab col dd k0 k1 k2 k3 k5 newId)) (hx:h.get? x=some o) (hc:o.cls=.ref C) (hd:o.data=.fields vs) (hdd:o.dict=some dx)
    (hns:h.Ns dx mA) (hv:mA name=some v)
    (LG:W.Looks (model prog w) h (typeLookup (.ref C) "__getattribute__") (some (.builtin "BaseException.__getattribute__"))) (LH:W.Looks (model prog w) h (typeLookup (.ref C) "__getattr__") none) (LA:W.Looks (model prog w) h (typeLookup (.ref C) name) none)
    (hh:W.handedIn v=true) (hq:∀ tk',Q v ⟨h,g,d,tk',os⟩) :
    wpAny (model prog w) A (getAttr (.ref x) name expr) Q E ⟨h,g,d,t,os⟩ := by
  have hk:builtinKind "BaseException.__getattribute__" = some .slot := by decide +kernel
  have hsplit:splitId "BaseException.__getattribute__" = some ("BaseException", "__getattribute__") := by decide +kernel
  have hcB:(Value.ref C::bm).contains (.type "BaseException")=true := by rw [qu,refsThen_has (by decide) hr,qAf]
  have hx0:(expr&&onTheHeap (Value.builtin "BaseException.__getattribute__"))=false := by cases expr<;>rfl
  have hx2:(Value.builtin "BaseException.__getattribute__" == Value.builtin "object.__getattribute__")=false := by decide +kernel
  have hx1:(onTheHeap (Value.ref C)&&Value.builtin "BaseException.__getattribute__" == Value.builtin "object.__getattribute__")=false := by rw [hx2];rfl
  have FB := F.attr_ValueError
  have f3 := FB.ga.bind (.ref x)
  have ha := F.args_bexc_ga (.ref x)
  unfold getAttr getAttrBy
  repeat (any_goals (first|assumption|(with_reducible refine qW hx ?_;rw [hc])|(with_reducible refine LG.here ?_)|(with_reducible refine LH.here ?_)|wp_step))
  refine qAn FB.ga.plain F.entry_bexc_ga ?_
  simp only [checkBuiltinCall,hk,hsplit]
  refine qN ?_
  unfold isInstance
  repeat (first|(with_reducible refine qW hx ?_;rw [hc])|(with_reducible refine qAJ hC ?_;rw [hcB])|wp_step)
  repeat (any_goals (first|assumption|(with_reducible refine qW hx ?_;rw [hc])|(with_reducible refine LA.here ?_)|wp_step))
  rw [hd]
  dsimp only
  unfold instanceDict
  repeat (any_goals (first|assumption|(with_reducible refine qW hx ?_;rw [hc])|(with_reducible refine qW hC ?_)|wp_step))
  rw [hdd]
  dsimp only
  refine qp ?_
  unfold inDict
  refine wpAny_nsGet hns ?_
  rw [hv]
  dsimp only
  repeat (any_goals (first|assumption|wp_step))
  show wpAny _ _ (handedOut v) _ _ _
  rw [W.handedOut_of hh]
  exact qp (hq _)
theorem xinit {Q:Value→Shared→Prop} {o:Obj} {vs:Array Value} {rest:List Value} (hr:refsThen bm=true) (hl:rest.length≤qM)
    (hC:h.get? C=some (excClassObj nm q C N bs bm true sn sub ab col dd k0 k1 k2 k3 k5 newId)) (hx:h.get? x=some o) (hc:o.cls=.ref C) (hd:o.data=.fields vs) (hs:0<vs.size)
    (hq:∀ h' p,h'.get? x=some {o with data := .fields (vs.setIfInBounds 0 (.ref p))}→(∀ b o,b≠x→h.get? b=some o→h'.get? b=some o)→Q .none ⟨h',g,d,t,os⟩) :
    wpAny (model prog w) A (call (.builtin "ValueError.__init__") (.ref x::rest)) Q E ⟨h,g,d,t,os⟩ := by
  have F := qA2
  have hcB:(Value.ref C::bm).contains (.type "ValueError")=true := by rw [qu,refsThen_has (by decide) hr,qAf]
  have hshort := F.noStar
  refine qBs (qAn F.init.plain F.initEntry ?_)
  simp only [checkBuiltinCall,F.initKind,F.initSplit,F.initRow]
  repeat (first|(with_reducible refine qW hx ?_;rw [hc])|with_reducible refine qW hC ?_|(with_reducible refine qAJ hC ?_;rw [hcB])|wp_step)
  refine wpAny_onRaise ?_
  rw [show ∀ (a b:String) (n:Nat),Bind.check ⟨.positional, "*", "ValueError",.self,[⟨"args",.varPos,false⟩]⟩ a b n (List.map (fun x => x.fst) ({pos := Value.ref x::rest}:Args).kw)=pure () from
    fun a b n => check_star_args _ _ _ _ _ _]
  refine qp ?_
  unfold Builtin.«BaseException.__init__»
  repeat (any_goals (first|assumption|wp_step))
  rw [hd]
  dsimp only
  refine qp ?_
  rw [qA5 hs]
  dsimp only
  refine qp (qN ?_)
  have hx':(h.push {cls := .type "tuple",data := .seq rest.toArray}).get? x=some o := qE _ hx
  refine qBD hx' hd hs ?_
  have fin:Q .none ⟨(h.push {cls := .type "tuple",data := .seq rest.toArray}).update x (Obj.mapFields (·.setIfInBounds 0 (Value.ref h.objs.size))),g,d,t,os⟩ := by
    refine hq _ h.objs.size ?_ fun b ob hb e => by rw [qx _ _ (qAo hb)];exact qE _ e
    have hd₃ := qAQ hd (·.setIfInBounds 0 (Value.ref h.objs.size))
    rw [qAO _ hx' (qAg hd₃)]
    unfold Obj.mapFields
    obtain ⟨oc,od,odt,osl⟩ := o
    cases hd
    rfl
  cases vs[0]<;>(repeat (any_goals (first|exact fin|assumption|wp_step)))
end
noncomputable def Heap.Tb (h:Heap) (T:Addr):Prop := ∃ oT ts,h.get? T=some oT∧oT.data=.fields ts∧ts[3]?=some .none
section
variable {M:Model} {A:Around} {E:Value→Shared→Prop} {s:Shared} {base:Heap} {env:Env} {outer:List Env} {L e:Addr} {oe:Obj} {vs:Array Value}
theorem mapf {o:Obj} {vs:Array Value} (hd:o.data=.fields vs) (f:Array Value→Array Value):Obj.mapFields f o={o with data := .fields (f vs)} := by
  unfold Obj.mapFields
  obtain ⟨oc,od,odt,osl⟩ := o
  cases hd
  rfl
theorem leave_entry {head:Value} {hadNext:Bool} {Q:Unit→Shared→Prop}
    (hfr:A.frames=some (env::outer)) (hl:s.heap.FunFrames base (env::outer)) (hf:env.frame=some L) (he:s.heap.get? e=some oe) (hd:oe.data=.fields vs) (hsz:1<vs.size)
    (hQ:∀ h' T,s.heap.objs.size≤T→T≠e→(∀ b o,b≠e→b∉(env::outer).filterMap (·.frame)→s.heap.get? b=some o→h'.get? b=some o) →
      (∀ b o,b≠e→s.heap.get? b=some o→∃ sl,h'.get? b=some {o with slots := sl})→h'.get? e=some {oe with data := .fields (vs.setIfInBounds 1 (.ref T))}→h'.Tb T→Q () {s with heap := h'}) :
    wpAny M A (do let a ← frameOf env;let pl ← entryPlaceOf L hadNext;let b ← EntryCells.newEntry head a .none (rawInt L) .none pl;setField (.ref e) 1 b) (fun _ s' => wpAny M A (setFlight (.ref e) none) Q E s') E s := by
  have hene:e∉(env::outer).filterMap (·.frame) := fun hm => by
    obtain ⟨_,o,ho,hnf⟩ := hl.mem hm
    rw [he] at ho;injection ho with ho;subst ho;exact hnf vs hd
  refine qN (wpAny_frameOf_fun hfr hl hf fun h₁ hs₁ => ?_)
  refine qN (wpAny_entryPlaceOf fun pl hpl => ?_)
  unfold EntryCells.newEntry newFields
  refine qN (wpAny_newObj_type ?_ (hpl.sizeOk5 _ _ _ _ _))
  have he₁:h₁.get? e=some oe := (hs₁.2.1 e hene).trans he
  have he₂ := qE (h := h₁) {cls := .type "traceback",dict := none,data := .fields ([head,.ref L,.none,rawInt L,.none]++(if pl.isEmpty then List.replicate 6 Value.none else pl)).toArray} he₁
  refine qBD he₂ hd hsz ?_
  have hTe:h₁.objs.size≠e := qCI (qS he₁)
  have hd₃ := qAQ hd (·.setIfInBounds 1 (Value.ref h₁.objs.size))
  have he₃ := qAO (Obj.mapFields (·.setIfInBounds 1 (Value.ref h₁.objs.size))) he₂ (qAg hd₃)
  have hT₃ := (qx (h₁.push {cls := .type "traceback",dict := none,data := .fields ([head,.ref L,.none,rawInt L,.none]++(if pl.isEmpty then List.replicate 6 Value.none else pl)).toArray})
    (Obj.mapFields (·.setIfInBounds 1 (Value.ref h₁.objs.size))) (qAo hTe)).trans (qAB h₁ rfl)
  unfold setFlight
  refine qN (qBd he₃ hd₃ (x := .ref h₁.objs.size) (by simp [hsz]) ?_)
  rw [if_pos (show (Value.ref h₁.objs.size != Value.none)=true from by simp)]
  refine qBD hT₃ rfl (by simp only [qH,qK,qf,qA0]<;>omega) ?_
  have keep:∀ b o,b≠e→h₁.get? b=some o →
      (((h₁.push {cls := .type "traceback",dict := none,data := .fields ([head,.ref L,.none,rawInt L,.none]++(if pl.isEmpty then List.replicate 6 Value.none else pl)).toArray}).update e (Obj.mapFields (·.setIfInBounds 1 (Value.ref h₁.objs.size)))).update h₁.objs.size
        (Obj.mapFields (·.setIfInBounds 3 ((none:Option Addr).elim Value.none fun f => rawInt f)))).get? b=some o := fun b o hbe hb => by
    have hbT:h₁.objs.size≠b := qCI (qS hb)
    rw [qx _ _ hbT,qx _ _ (qAo hbe)]
    exact qE _ hb
  refine hQ _ h₁.objs.size (Nat.le_of_eq hs₁.1.symm) hTe (fun b o hb hn ho => keep b o hb ((hs₁.2.1 b hn).trans ho)) (fun b o hb ho => ?_) ?_ ?_
  · obtain ⟨sl,hs⟩ := hs₁.2.2 b o ho
    exact ⟨sl,keep b _ hb hs⟩
  · rw [qx _ _ hTe,he₃,mapf hd]
  · exact ⟨_,_,qAO _ hT₃ (qAg (qAQ rfl _)),qAQ rfl _,by first|(simp;done)|(rcases hpl with rfl|⟨_,_,_,_,_,_,_,rfl⟩<;>simp)⟩
theorem leave_heap2 {Q:Unit→Shared→Prop}
    (hfr:A.frames=some (env::outer)) (hl:s.heap.FunFrames base (env::outer)) (hf:env.frame=some L) (he:s.heap.get? e=some oe) (hd:oe.data=.fields vs)
    (h1:vs[1]?=some .none∨∃ T,vs[1]?=some (.ref T)∧T≠e∧s.heap.Tb T)
    (hQ:∀ h' T,s.heap.objs.size≤T→T≠e→(∀ b o,b≠e→vs[1]?≠some (.ref b)→b∉(env::outer).filterMap (·.frame)→s.heap.get? b=some o→h'.get? b=some o) →
      (∀ b o,b≠e→vs[1]?≠some (.ref b)→s.heap.get? b=some o→∃ sl,h'.get? b=some {o with slots := sl})→(∀ b,vs[1]?=some (.ref b)→h'.Tb b) →
      h'.get? e=some {oe with data := .fields (vs.setIfInBounds 1 (.ref T))}→h'.Tb T→Q () {s with heap := h'}) :
    wpAny M A (noteFrame (.ref e) env) (fun _ s' => wpAny M A (setFlight (.ref e) none) Q E s') E s := by
  unfold noteFrame
  simp only [hf]
  rcases h1 with h1|⟨T,h1,hTe,oT,ts,hT,hdT,h3⟩
  · refine (qN (qBd he hd h1 ?_))
    rw [if_neg (by decide)]
    exact leave_entry hfr hl hf he hd (qAK.mp h1).1 fun h' T a1 a2 a3 a4 a5 a6 => hQ h' T a1 a2 (fun b o q _ => a3 b o q) (fun b o q _ => a4 b o q) (fun b q => by rw [h1] at q;cases q) a5 a6
  · refine (qN (qBd he hd h1 ?_))
    rw [if_pos (show (Value.ref T != Value.none)=true from by simp)]
    refine qN (qBd hT hdT h3 ?_)
    rw [if_neg (show ¬ ((Value.none==rawInt L)=true) from by simp [rawInt])]
    have hsz3 := (qAK.mp h3).1
    refine qN (qBD hT hdT hsz3 ?_)
    have other:∀ b,b≠T→(s.heap.update T (Obj.mapFields (·.setIfInBounds 3 Value.none))).get? b=s.heap.get? b := fun b hb => qx _ _ (qAo hb)
    have hT' := qAO (Obj.mapFields (·.setIfInBounds 3 Value.none)) hT (qAg (qAQ hdT _))
    have noRecord:∀ b o,s.heap.get? b=some o→(∀ vs,o.data≠.fields vs)→b≠T := fun b o hb hnf q => by
      rw [q,hT] at hb;injection hb with hb;subst hb;exact hnf ts hdT
    have ne:∀ {b:Addr},vs[1]?≠some (.ref b)→b≠T := fun q z => q (by rw [h1,z])
    refine leave_entry hfr (hl.of_keeps fun b o hb hnf => ⟨o,(other b (noRecord b o hb hnf)).trans hb,rfl⟩) hf ((other e (qAo hTe)).trans he) hd (qAK.mp h1).1 fun h' T' a1 a2 a3 a4 a5 a6 => ?_
    refine hQ h' T' (by rw [Heap.size_update] at a1;exact a1) a2 (fun b o q n z ho => a3 b o q z ((other b (ne n)).trans ho)) (fun b o q n ho => a4 b o q ((other b (ne n)).trans ho)) (fun b q => ?_) a5 a6
    rw [h1] at q
    cases q
    obtain ⟨sl,hs⟩ := a4 T _ hTe hT'
    exact ⟨_,_,hs,qAQ hdT _,by simp [hsz3]⟩
theorem land_heap {Q:Unit→Shared→Prop} {T:Addr} (he:s.heap.get? e=some oe) (hd:oe.data=.fields vs) (h1:vs[1]?=some (.ref T)) (hT:s.heap.Tb T)
    (hQ:∀ h',(∀ b o,b≠T→s.heap.get? b=some o→h'.get? b=some o)→h'.Tb T→Q () {s with heap := h'}):wpAny M A (setFlight (.ref e) none) Q E s := by
  obtain ⟨oT,ts,hT,hdT,h3⟩ := hT
  have hsz3 := (qAK.mp h3).1
  unfold setFlight
  refine qN (qBd he hd h1 ?_)
  rw [if_pos (show (Value.ref T != Value.none)=true from by simp)]
  refine qBD hT hdT hsz3 (hQ _ (fun b o hb ho => by rw [qx _ _ (qAo hb)];exact ho) ?_)
  exact ⟨_,_,qAO _ hT (qAg (qAQ hdT _)),qAQ hdT _,by simp [hsz3]⟩
end
end PySem
namespace L2
open PySem PySem.Spec PyProof.Rows
noncomputable def xeD (e C dx:Addr) (tv:Value) (h:Heap):Prop := ∃ vs sl,h.get? e=some {cls := .ref C,dict := some dx,data := .fields vs,slots := sl}∧vs[1]?=some tv
theorem xeD.stay {e C dx:Addr} {tv:Value} (h1 h2:Heap) (h:xeD e C dx tv h1) (k:∀ o,h1.get? e=some o→h2.get? e=some o):xeD e C dx tv h2 :=
  let ⟨vs,sl,a,b⟩ := h;⟨vs,sl,k _ a,b⟩
theorem tb_stay {T:Addr} (h1 h2:Heap) (h:h1.Tb T) (k:∀ o,h1.get? T=some o→h2.get? T=some o):h2.Tb T :=
  let ⟨oT,ts,a,b⟩ := h;⟨oT,ts,k _ a,b⟩
theorem xe_obj {P:Program} {w:World} {H:Hp} {h:Heap} {e C dx:Addr} {tv:Value} (q:xeD e C dx tv h):ObjOk P w H h e (.ext (xeD e C dx tv)) :=
  ⟨q,let ⟨_,_,a,_⟩ := q;⟨_,a⟩,fun h1 h2 => xeD.stay h1 h2⟩
theorem tb_obj {P:Program} {w:World} {H:Hp} {h:Heap} {T:Addr} (q:h.Tb T):ObjOk P w H h T (.ext fun h => h.Tb T) :=
  ⟨q,let ⟨_,_,a,_⟩ := q;⟨_,a⟩,fun h1 h2 => tb_stay h1 h2⟩
theorem ObjOk.there {P:Program} {w:World} {H:Hp} {h:Heap} {a:Addr} {o:HO} (x:ObjOk P w H h a o):∃ ob,h.get? a=some ob := by
  cases o with
  | lst xs => obtain ⟨_,_,_,_,e⟩ := x;exact ⟨_,e⟩
  | tup xs => obtain ⟨_,_,_,ob,e,_⟩ := x;exact ⟨_,e⟩
  | dK kvs => obtain ⟨_,_,_,_,o,_,_,e,_⟩ := x;exact ⟨_,e⟩
  | dT kvs => obtain ⟨_,_,_,_,o,_,_,e,_⟩ := x;exact ⟨_,e⟩
  | set S n => obtain ⟨o,_,_,_,e,_⟩ := x;exact ⟨_,e⟩
  | ins C dx fs => obtain ⟨_,_,_,e,_⟩ := x;exact ⟨_,e⟩
  | own y => exact x
  | xd fs => obtain ⟨_,⟨_,_,_,e,_⟩,_⟩ := x;exact ⟨_,e⟩
  | rng lo hi => obtain ⟨_,_,_,e⟩ := x;exact ⟨_,e⟩
  | frz ob u => obtain ⟨e,_⟩ := x;exact ⟨_,e⟩
  | tbl ps => exact ⟨_,x⟩
  | met f y => exact ⟨_,x⟩
  | ext φ => exact x.2.1
theorem HOk.no {P:Program} {w:World} {H:Hp} {h:Heap} {a:Addr} (x:HOk P w H h) (n:h.get? a=none):H a=none := by
  cases q:H a with
  | none => rfl
  | some u => obtain ⟨ob,z⟩ := (x a u q).there;rw [n] at z;cases z
noncomputable def KeepX (H H':Hp):Prop := ∀ b o,H b=some o→(∀ φ,o≠.ext φ)→H' b=some o
noncomputable def StX (H0:Hp) (E:XK):XK := fun c dx H' => ∀ H3,(∀ b o,H0 b=some o→H' b=some o→H3 b=some o)→KeepX H' H3→E c dx H3
structure Flt (h:Heap) (H':Hp) (e C dx:Addr):Prop where
  new:h.get? e=none
  st:∃ tv,H' e=some (.ext (xeD e C dx tv))∧(tv=.none∨∃ T,tv=.ref T∧T≠e∧h.get? T=none∧H' T=some (.ext fun h => h.Tb T))
noncomputable def CXE (P:Program) (w:World):CXT := fun outer H s E e s' => ∃ ea C dx H',e=.ref ea∧s'.os=s.os∧AllBare s'.gens∧Un (frs outer) [] H H' s.heap s'.heap∧HOk P w H' s'.heap∧Flt s.heap H' ea C dx∧StX H E (.ref C) (some dx) H'
section
variable {X:Cx} {pins:List (Addr×Obj)} {σ:St} {H1:Hp} {s:Shared} {e C dx:Addr} {E:Value→Shared→Prop}
theorem leave_ok2 {h0:Heap} {Q:Unit→Shared→Prop} (I:Inv X pins σ H1 s) (hst:X.stack=X.env::X.outer) (hfr:X.env.frame=some X.env.locals) (hz:∀ b ob,h0.get? b=some ob→∃ o',s.heap.get? b=some o') (F:Flt h0 H1 e C dx)
    (k:∀ s' H2,Inv X pins σ H2 s'→(∃ T,H2 e=some (.ext (xeD e C dx (.ref T)))∧T≠e∧h0.get? T=none∧H2 T=some (.ext fun h => h.Tb T)) →
      (∀ b o ob,h0.get? b=some ob→H1 b=some o→H2 b=some o)→KeepX H1 H2→(s.heap.objs.size≤s'.heap.objs.size)→Q () s') :
    wpAny (model X.prog X.w) X.A (noteFrame (.ref e) X.env) (fun _ s' => wpAny (model X.prog X.w) X.A (setFlight (.ref e) none) Q E s') E s := by
  obtain ⟨tv,he,ht⟩ := F.st
  obtain ⟨⟨vs,sl,oe,h1⟩,_,_⟩ := I.hok e _ he
  have hfs:∀ b,b∈(X.env::X.outer).filterMap (·.frame)→H1 b=none := fun b hb => I.stkFree b (by unfold frs;rw [hst];exact hb)
  have hT1:tv=.none∨∃ T,tv=.ref T∧T≠e∧s.heap.Tb T := ht.imp id fun ⟨T,a,b,c,d⟩ => ⟨T,a,b,(I.hok T _ d).1⟩
  refine leave_heap2 (base := X.base) (L := X.env.locals) (by rw [← hst];exact I.ok.frames) (by rw [← hst];exact I.stack) hfr oe rfl (hT1.imp (fun z => by rw [h1,z]) fun ⟨T,a,b,c⟩ => ⟨T,by rw [h1,a],b,c⟩) fun h' T a1 a2 a3 a4 a5 a6 a7 => ?_
  have nT:H1 T=none := I.hok.fresh a1
  have tr:∀ b,vs[1]?=some (.ref b)→H1 b=some (.ext fun h => h.Tb b)∧b≠e∧h0.get? b=none := fun b q => by
    rw [h1] at q
    rcases ht with z|⟨T0,z,b1,c1,d1⟩
    · rw [z] at q;cases q
    · rw [z] at q;cases q;exact ⟨d1,b1,c1⟩
  let H2:Hp := upd (upd H1 T (.ext fun h => h.Tb T)) e (.ext (xeD e C dx (.ref T)))
  have h2:∀ b,b≠e→b≠T→H2 b=H1 b := fun b q z => by show upd _ _ _ b=_;rw [upd_ne q,upd_ne z]
  have h2e:H2 e=some (.ext (xeD e C dx (.ref T))) := upd_same
  have h2T:H2 T=some (.ext fun h => h.Tb T) := by show upd _ _ _ T=_;rw [upd_ne a2,upd_same]
  have ext2:∀ b o,H1 b=some o→(∀ φ,o≠.ext φ)→H2 b=some o := fun b o q n => by
    rw [h2 b (fun z => by rw [z,he] at q;cases q;exact n _ rfl) (fun z => by rw [z,nT] at q;cases q)];exact q
  have kp:∀ b o,H1 b=some o→b≠e→vs[1]?≠some (.ref b)→∀ u,s.heap.get? b=some u→h'.get? b=some u := fun b o q n n2 u z => a3 b u n n2 (fun m => by rw [hfs b m] at q;cases q) z
  have hsz1:1<vs.size := (qAK.mp h1).1
  have ok2:HOk X.prog X.w H2 h' := fun b o q => by
    by_cases hb:b=e
    · subst hb
      rw [h2e] at q
      cases q
      exact xe_obj ⟨_,_,a6,by rw [Array.getElem?_setIfInBounds_self_of_lt hsz1]⟩
    · by_cases hbT:b=T
      · subst hbT
        rw [h2T] at q
        cases q
        exact tb_obj a7
      · rw [h2 b hb hbT] at q
        by_cases hv:vs[1]?=some (.ref b)
        · rw [(tr b hv).1] at q
          cases q
          exact tb_obj (a5 b hv)
        · refine (I.hok b o q).stay (fun c u hc z => ?_) (fun c z => ext2 c _ z (fun φ y => by cases y)) (fun c xs z => ext2 c _ z (fun φ y => by cases y))
          rcases hc with rfl|hc
          · exact kp c o q hb hv u z
          · exact kp c _ hc (fun y => by rw [y,he] at hc;cases hc) (fun y => by rw [(tr c y).1] at hc;cases hc) u z
  have un:Un (frs X.stack) [] H1 H2 s.heap h' := by
    have nb:∀ b,H1 b=none→b≠e∧vs[1]?≠some (.ref b) := fun b n => ⟨fun y => (by rw [y,he] at n;cases n),fun y => (by rw [(tr b y).1] at n;cases n)⟩
    have hfs':∀ b,b∈frs X.stack↔b∈(X.env::X.outer).filterMap (·.frame) := fun b => by unfold frs;rw [hst]
    refine ⟨fun b o q n hb _ => a3 b o (nb b n).1 (nb b n).2 (fun m => hb ((hfs' b).mpr m)) q,fun b o q n hb _ => a4 b o (nb b n).1 (nb b n).2 q,fun b o q n _ => ?_,fun b o q _ => ?_,fun b xs q => ext2 b _ q (fun φ y => by cases y),fun b o u q => ext2 b _ q (fun φ y => by cases y),fun b ps q => ⟨#[],by rw [ext2 b _ q (fun φ y => by cases y)];simp⟩⟩
    · rw [h2 b (nb b n).1 (fun y => by rw [y] at q;exact absurd (qS q) (Nat.not_lt.mpr a1))];exact n
    · by_cases hb:b=e
      · exact ⟨_,by rw [hb];exact a6⟩
      · by_cases hv:vs[1]?=some (.ref b)
        · obtain ⟨oT,_,z,_⟩ := a5 b hv;exact ⟨oT,z⟩
        · obtain ⟨sl,z⟩ := a4 b o hb hv q;exact ⟨_,z⟩
  have n0:h0.get? T=none := by
    cases y:h0.get? T with
    | none => rfl
    | some ob => obtain ⟨o',z⟩ := hz T ob y;exact absurd (qS z) (Nat.not_lt.mpr a1)
  have hs:s.heap.objs.size≤h'.objs.size := qBi (qBY a1 (let ⟨_,_,z,_⟩ := a7;qS z))
  refine k _ H2 (I.call' (s' := {s with heap := h'}) rfl un ok2 I.bare (fun b z => absurd z (by simp))) ⟨T,h2e,a2,n0,h2T⟩ (fun b o ob q z => ?_) ext2 hs
  rw [h2 b (fun y => by rw [y,F.new] at q;cases q) (fun y => by rw [y,nT] at z;cases z)]
  exact z
theorem leave_ok {h0:Heap} {Q:Unit→Shared→Prop} (I:Inv X pins σ H1 s) (hst:X.stack=X.env::X.outer) (hfr:X.env.frame=some X.env.locals) (hz:∀ b ob,h0.get? b=some ob→∃ o',s.heap.get? b=some o') (F:Flt h0 H1 e C dx)
    (k:∀ s' H2,Inv X pins σ H2 s'→(∃ T,H2 e=some (.ext (xeD e C dx (.ref T)))∧T≠e∧h0.get? T=none∧H2 T=some (.ext fun h => h.Tb T)) →
      (∀ b o ob,h0.get? b=some ob→H1 b=some o→H2 b=some o)→KeepX H1 H2→(s.heap.objs.size≤s'.heap.objs.size)→Q () s') :
    wpAny (model X.prog X.w) X.A (leaving X.env (.ref e)) Q E s := by
  unfold leaving
  exact qN (leave_ok2 I hst hfr hz F k)
end
theorem leaves {P:Program} {w:World} {K:qB} {mg:Str→Option Value} {base:Heap} {N:List Str} {qual:Str} {scope:Scope} {f:Addr} {cd:Value} {A:Around} {outer:List Env} {s:Shared} {H:Hp} {E:XK}
    {pins:List (Addr×Obj)} {σ:St} {H1:Hp} {s1:Shared} {e C dx:Addr} (I:Inv (cxOf (CXE P w) P w K mg base N qual scope f cd A outer s H E) pins σ H1 s1) (h0k:HOk P w H s.heap) (F:Flt s.heap H1 e C dx) (q:StX H E (.ref C) (some dx) H1) :
    (cxOf (CXE P w) P w K mg base N qual scope f cd A outer s H E).xe (.ref e) s1 := by
  refine leave_ok (X := cxOf (CXE P w) P w K mg base N qual scope f cd A outer s H E) I rfl rfl (fun b ob z => I.base.there b ob z (fun y => absurd (show b∈([]:List Addr) from y) (by simp))) F fun s' H2 I2 ht hk hx _ => ?_
  refine ⟨e,C,dx,H2,rfl,I2.os,I2.bare,I2.base,I2.hok,⟨F.new,_,ht.choose_spec.1,.inr ⟨_,rfl,ht.choose_spec.2⟩⟩,fun H3 r1 r2 => q H3 (fun b o z1 z2 => ?_) (fun b o z n => r2 b o (hx b o z n) n)⟩
  obtain ⟨ob,y⟩ := (h0k b o z1).there
  exact r1 b o z1 (hk b o ob y z2)
theorem passesE {P:Program} {w:World} {K:qB} {mg:Str→Option Value} {base:Heap} {N:List Str} {qual:Str} {scope:Scope} {f:Addr} {cd:Value} {A:Around} {outer:List Env} {s:Shared} {H:Hp} {E:XK} (h0k:HOk P w H s.heap) :
    Passes (CXE P w) (cxOf (CXE P w) P w K mg base N qual scope f cd A outer s H E) (StX H E) := by
  intro pins σ H1 s1 e s2 I h
  obtain ⟨ea,C,dx,H2,rfl,os,bare,un,ok,F,q⟩ := h
  have I2 := I.call' (s' := s2) os un ok bare (fun b z => absurd z (by simp))
  have old:∀ b ob,s.heap.get? b=some ob→∃ o',s1.heap.get? b=some o' := fun b ob z => I.base.there b ob z (fun y => absurd (show b∈([]:List Addr) from y) (by simp))
  have nw:∀ b,s1.heap.get? b=none→s.heap.get? b=none := fun b z => by
    cases y:s.heap.get? b with
    | none => rfl
    | some ob => obtain ⟨o',y'⟩ := old b ob y;rw [z] at y';cases y'
  refine leaves I2 h0k ⟨nw _ F.new,?_⟩ (q H2 (fun _ _ _ z => z) (fun _ _ z _ => z))
  obtain ⟨tv,a,b⟩ := F.st
  exact ⟨tv,a,b.imp id fun ⟨T,x1,x2,x3,x4⟩ => ⟨T,x1,x2,nw _ x3,x4⟩⟩
theorem fn_ofE {CX:CXT} {P:Program} {w:World} {K:qB} {mg:Str→Option Value} {base:Heap} {x qual:Str} {st:Stmt} {f:Addr} {fd:qt} {N ps:List Str} {k:Nat} {sp:Sp} (Fu:Fun K x qual st f fd) (S:FnScope N ps (defScope st)) (len:∀ vs H Q E,sp vs H Q E→vs.length=ps.length)
    (hbody:∀ (cdv:Value) (A:Around) (outer:List Env) (s:Shared) (H:Hp) (vs:List V) (Q:VK) (E:XK),Room k (A.deeper (envOfC qual (defScope st) s.heap.objs.size f cdv))→HOk P w H s.heap→sp vs H Q E →
      ∃ t,PSs (cxOf CX P w K mg base N qual (defScope st) f cdv A outer s H E) (defBody st) t∧t {nx := fun _ H' => Q .non H',rt := Q} (start N vs) H):FnOk P w K mg base CX (k+1) f fd ps sp := by
  refine ⟨len,fun A outer s H args us vs Q E hr e0 hb r hsp => ?_⟩
  obtain ⟨oc,od,kV,doc,pm,an,cdv,ct,osl,rfl,lk,hcd⟩ := Fu.ex
  have KX:K.In s.heap := e0.mod.kin.keeps fun b o e => (e0.bs b o e).1
  refine codeAny_call_function hr.depth (KX _ _ lk) rfl S.co S.gen rfl (qB7 KX hcd) (hb _ _ _ _ (qB5 S.kind (fun ⟨n,v⟩ hy => ?_) fun env he s1 x => ?_))
  · rcases S.par n (qBJ hy).1 with q|q
    · exact .inl q
    · exact .inr ⟨q,qBA _ _ _ (.inl q)⟩
  · subst he
    obtain ⟨t,ht,hq⟩ := hbody cdv A outer s H vs Q E (hr.deeper _) e0.hok hsp
    have I := inv_start (CX := CX) (E := E) S hr.hd e0 (len _ _ _ _ hsp) r x
    refine ⟨(e0.mod.nolimit.keeps fun b o e => (e0.bs b o e).1).keeps x.toInCall.keep,codeAny_func (qAk (ht [] s1 (start N vs) H _ I hq) (fun fl s' hs => ?_) fun e s' hs => hs)⟩
    cases fl with
    | ret u => obtain ⟨v,σ',H',J,rv,q⟩ := hs;exact ⟨v,H',J.os,J.bare,J.base,J.hok,rv,q⟩
    | next => obtain ⟨σ',H',J,q⟩ := hs;exact ⟨.non,H',J.os,J.bare,J.base,J.hok,rfl,q⟩
    | brk => obtain ⟨_,_,_,q⟩ := hs;exact q.elim
    | cont => obtain ⟨_,_,_,q⟩ := hs;exact q.elim
noncomputable def xcR (K:qB) (C:Addr):Bool := match K.lookup C with
  | some ⟨_,_,.cls cd,_⟩ => (match cd.mro with|_::bm => refsThen bm|_ => false)
  | _ => false
theorem xc_cls2 {K:qB} {h:Heap} {C:Addr} (X:K.In h) (q:xcIn K C=true) (q2:xcR K C=true):∃ nm qn N bs bm sn sub ab col dd k0 k1 k2 k3 k5,
    h.get? C=some (excClassObj nm qn C N bs bm true sn sub ab col dd k0 k1 k2 k3 k5 "ValueError.__new__")∧refsThen bm=true∧(Value.ref C::bm).contains (.type "AttributeError")=false∧(Value.ref C::bm).contains (.type "NameError")=false := by
  obtain ⟨nm,qn,N,bs,bm,sn,sub,ab,col,dd,k0,k1,k2,k3,k5,hC,_,_,ha,hn⟩ := xc_cls X q
  refine ⟨nm,qn,N,bs,bm,sn,sub,ab,col,dd,k0,k1,k2,k3,k5,hC,?_,ha,hn⟩
  unfold xcR at q2
  split at q2
  · rename_i a b cd sl ho
    have := X _ _ ho
    rw [hC] at this
    have e := qP this
    unfold excClassObj at e
    injection e with _ _ e _
    injection e with e
    subst e
    exact q2
  · cases q2
structure XMk (K:qB) (C f:Addr):Prop where
  cls:xcIn K C=true
  tail:xcR K C=true
  init:PySem.W.findIn K (.ref C) "__init__" = some (some (.ref f))
  fn:PySem.W.isFn K (.ref f)=true
  kp:qV K (.ref C)=true
  sa:PySem.W.findIn K (.ref C) "__setattr__" = some (some (.builtin "object.__setattr__"))
  at_:PySem.W.findIn K (.ref C) "at" = some none
  ga:PySem.W.findIn K (.ref C) "__getattribute__" = some (some (.builtin "BaseException.__getattribute__"))
  gh:PySem.W.findIn K (.ref C) "__getattr__" = some none
noncomputable def atV:V→Prop
  | .non => True
  | .str x => (PySem.reprText x).length≤1000
  | _ => False
noncomputable def xe0 (e C:Addr) (h:Heap):Prop := ∃ vs sl,h.get? e=some {cls := .ref C,dict := none,data := .fields vs,slots := sl}∧vs[1]?=some .none
theorem xe0_obj {P:Program} {w:World} {H:Hp} {h:Heap} {e C:Addr} (q:xe0 e C h):ObjOk P w H h e (.ext (xe0 e C)) :=
  ⟨q,(let ⟨_,_,a,_⟩ := q;⟨_,a⟩),fun h1 h2 ⟨vs,sl,a,b⟩ k => ⟨vs,sl,k _ a,b⟩⟩
noncomputable def spI (C:Addr):Sp := fun vs H Q _ => ∃ e v,vs=[.ref e,v]∧H e=some (.ext (xe0 e C))∧atV v∧∀ dx,H dx=none→dx≠e→Q .non (upd (upd H dx (.xd [("at",v)])) e (.ext (xeD e C dx .none)))
section
variable {X:Cx} {pins:List (Addr×Obj)} {σ:St} {H:Hp} {s:Shared} {C f:Addr} {k:Nat} {fd:qt}
theorem Inv.new {h':Heap} {a:Addr} {o:HO} {t':Nat} (I:Inv X pins σ H s) (k:∀ b u,s.heap.get? b=some u→h'.get? b=some u) (hn:s.heap.get? a=none) (new:ObjOk X.prog X.w (upd H a o) h' a o):Inv X pins σ (upd H a o) {s with heap := h',toks := t'} := by
  have hH := HOk.no I.hok hn
  have ne:∀ b u,s.heap.get? b=some u→b≠a := fun b u q z => by rw [z,hn] at q;cases q
  have neH:∀ b u,H b=some u→b≠a := fun b u q z => by rw [z,hH] at q;cases q
  refine I.un (h' := h') ⟨fun b o q _ _ _ => k b o q,fun b o q _ _ _ => ⟨o.slots,k b o q⟩,fun b o q n _ => by rw [upd_ne (ne b o q)];exact n,fun b o q _ => ⟨o,k b o q⟩,fun b xs q => by rw [upd_ne (neH b _ q)];exact q,fun b o u q => by rw [upd_ne (neH b _ q)];exact q,fun b ps q => ⟨#[],by rw [upd_ne (neH b _ q),q];simp⟩⟩ fun b u q => ?_
  by_cases hb:b=a
  · subst hb;rw [upd_same] at q;cases q;exact new
  · rw [upd_ne hb] at q
    exact (I.hok b u q).stay (fun c v _ q => k c v q) (fun c q => by rw [upd_ne (neH c _ q)];exact q) fun c xs q => by rw [upd_ne (neH c _ q)];exact q
theorem run_xmake {v:V} {u:Value} (M:XMk X.K C f) (F:FnOk X.prog X.w X.K X.mg X.base CX0 k f fd ["self", "at"] (spI C)) (hr:Room (k+1) X.A) (hb:Binds X.K fd ["self", "at"] []) (hex:X.ex=[]) (I:Inv X pins σ H s) (rv:RelV v u) (av:atV v)
    {Q:Value→Shared→Prop} (q:∀ e dx H' s',Inv X pins σ H' s'→Flt X.s₀.heap H' e C dx→H' e=some (.ext (xeD e C dx .none))→H' dx=some (.xd [("at",v)])→Same H H'→Q (.ref e) s') :
    wpAny (model X.prog X.w) X.A (call (.ref C) [u]) Q X.xe s := by
  obtain ⟨nm,qn,N,bs,bm,sn,sub,ab,col,dd,k0,k1,k2,k3,k5,hC,hbm,ha,hn⟩ := xc_cls2 I.kIn M.cls M.tail
  obtain ⟨hh,g,d,tk,os⟩ := s
  obtain ⟨oI,hfI,hfc⟩:∃ oI,hh.get? f=some oI∧oI.cls=.type "function" := by
    have z:(X.K.lookup f).map (·.cls)=some (.type "function") := beq_iff_eq.mp M.fn
    cases y:X.K.lookup f with
    | none => rw [y] at z;cases z
    | some o => rw [y] at z;exact ⟨o,I.kIn _ _ y,qP z⟩
  refine xmake (C := C) hC (by rw [qu,refsThen_has (by decide) hbm,qAf]) ha hn (qAE I.kIn M.init) hfI hfc (by show 1≤qM;rw [qAT];omega) fun h' e hm => ?_
  obtain ⟨t,he,htn,ht⟩ := hm.there
  have I2 := Inv.new (h' := h') (a := e) (o := .ext (xe0 e C)) (t' := tk) I hm.keeps hm.new (xe0_obj ⟨_,_,he,rfl⟩)
  have hHe:H e=none := HOk.no I.hok hm.new
  have sp:spI C [.ref e,v] (upd H e (.ext (xe0 e C))) (fun r H2 => r=.non∧∃ dx,H dx=none∧dx≠e∧H2=upd (upd (upd H e (.ext (xe0 e C))) dx (.xd [("at",v)])) e (.ext (xeD e C dx .none))) E0 :=
    ⟨e,v,rfl,upd_same,av,fun dx hd ne => ⟨rfl,dx,by rw [upd_ne ne] at hd;exact hd,ne,rfl⟩⟩
  refine qBs (qBB (F.run _ X.stack _ _ ⟨[.ref e,u],[]⟩ [.ref e,u] _ _ E0 (hr.make C [u] []) (I2.env0.make C [u] []) (by have := hb ⟨h',g,d,tk,os⟩ [.ref e,u] I2.kIn rfl;rw [qAH] at this;exact this) (show Vals [V.ref e,v] [Value.ref e,u] from .cons rfl (.cons rv .nil)) sp) fun r s' hq => ?_)
  cases r with
  | error x => exact hq.elim
  | ok fl =>
    cases fl with
    | ret w =>
      obtain ⟨v',H2,I3,rv',rfl,dx,hd,ne,rfl⟩ := I2.after hq
      refine ⟨rv',q e dx _ s' I3 ⟨?_,.none,upd_same,.inl rfl⟩ upd_same (by rw [upd_ne ne,upd_same]) fun b o z => ?_⟩
      · cases y:X.s₀.heap.get? e with
        | none => rfl
        | some ob =>
          obtain ⟨o',z⟩ := I.base.there e ob y (by rw [hex];simp)
          have := hm.new
          rw [show hh.get? e=some o' from z] at this
          cases this
      · have n1:b≠e := fun y => by rw [y,hHe] at z;cases z
        have n2:b≠dx := fun y => by rw [y,hd] at z;cases z
        rw [upd_ne n1,upd_ne n2,upd_ne n1]
        exact z
    | next => exact False.elim hq
    | brk => exact False.elim hq
    | cont => exact False.elim hq
noncomputable def Lvs (X:Cx) (E:XK):Prop := ∀ (pins:List (Addr×Obj)) (σ:St) (H1:Hp) (s1:Shared) (e C dx:Addr),Inv X pins σ H1 s1→Flt X.s₀.heap H1 e C dx→E (.ref C) (some dx) H1→X.xe (.ref e) s1
noncomputable def tRaise (C:Addr) (E:XK) (te:TE):TS := fun _ σ H => te σ H fun v H1 => atV v∧∀ H' dx,Same H1 H'→H' dx=some (.xd [("at",v)])→E (.ref C) (some dx) H'
theorem ps_raise {E:XK} {x:Str} {np cpos pos:Pos} {a:Expr} {te:TE} (M:XMk X.K C f) (F:FnOk X.prog X.w X.K X.mg X.base CX0 k f fd ["self", "at"] (spI C)) (hr:Room (k+1) X.A) (hb:Binds X.K fd ["self", "at"] []) (hex:X.ex=[]) (hc:X.calm=true) (hx:Lvs X E)
    (hg:Gl X x) (hm:X.mg x=some (.ref C)) (ha:PE X a te) (hdb:(x==("__debug__":Str))=false := by decide) (he:starEach [a] X.env=[(false,eval a X.env)] := by rfl) :
    PS X (.Raise (some (.Call (.Name x np) [a] [] cpos)) none pos) (tRaise C E te) := by
  intro pins s σ H D I h
  rw [arm_exec_Raise]
  refine qN (qBL ?_)
  unfold raiseStmt
  simp only [evalOpt,Option.map]
  refine qN ?_
  have hcall:wpAny (model X.prog X.w) X.A (eval (.Call (.Name x np) [a] [] cpos) X.env) (fun r s' => ∃ e dx H' v H1,r=.ref e∧Inv X pins σ H' s'∧Flt X.s₀.heap H' e C dx∧H' e=some (.ext (xeD e C dx .none))∧H' dx=some (.xd [("at",v)])∧Same H1 H'∧∀ H' dx,Same H1 H'→H' dx=some (.xd [("at",v)])→E (.ref C) (some dx) H') X.xe s := by
    refine qAv (ld_glob I hg hm ?_ hdb)
    refine qBO (h₀ := X.base) I.ok.mod.kin M.kp (thn (pa_cons ha pa_nil he cpos pins s σ H (fun vs H1 => match vs with|[v] => atV v∧∀ H' dx,Same H1 H'→H' dx=some (.xd [("at",v)])→E (.ref C) (some dx) H'|_ => False) I h) fun us s1 ⟨vs,H1,I1,r,q⟩ => ⟨I1.kIn,?_⟩) he rfl
    match vs,q,r with
    | [v],q,r =>
      obtain ⟨u,rfl,rv⟩ := vals1 r
      exact run_xmake M F hr hb hex I1 rv q.1 fun e dx H' s' I' fl he0 hd sm => ⟨e,dx,H',v,H1,rfl,I',fl,he0,hd,sm,q.2⟩
    | [],q,_ => exact q.elim
    | _::_::_,q,_ => exact q.elim
  refine qN (thn hcall fun r s' hh => ?_)
  obtain ⟨e,dx,H',v,H1,rfl,I',fl,he',hd,sm,q⟩ := hh
  refine qN (qBL (qp ?_))
  obtain ⟨nm,qn,N,bs,bm,sn,sub,ab,col,dd,k0,k1,k2,k3,k5,hC,hbm,_,_⟩ := xc_cls2 I'.kIn M.cls M.tail
  have hcB:(Value.ref C::bm).contains (.type "BaseException")=true := by rw [qu,refsThen_has (by decide) hbm,qAf]
  obtain ⟨⟨vs,sl,oe,h1⟩,_,_⟩ := I'.hok e _ he'
  have hxe := hx pins σ H' s' e C dx I' fl (q H' dx sm hd)
  have hh := I'.ok.hd hc
  obtain ⟨hp,g,d,tk,os⟩ := s'
  repeat (first|with_reducible refine qW oe ?_|with_reducible refine qW hC ?_|(with_reducible refine qAJ hC ?_;rw [hcB])|wp_step)
  rw [h1]
  dsimp only
  refine qp ?_
  rw [if_neg (by decide)]
  exact qp (wpAny_raiseNew_none hh hxe)
end
section
variable {X:Cx} {pins:List (Addr×Obj)} {σ:St} {H:Hp} {s:Shared} {C f:Addr} {k:Nat} {fd:qt}
noncomputable def tMsg (te:TE):TE := fun σ H Q => te σ H fun v H1 => atV v∧∀ m,Q (.str m) H1
theorem repr_ok {v:V} {u:Value} {A:Around} {E:Value→Shared→Prop} {Q:Value→Shared→Prop} (r:RelV v u) (av:atV v) (q:∀ (m:Str) t,m.length≤1000→Q (.str m s.toks) {s with toks := t}) :
    wpAny (model X.prog X.w) A (pyReprObj u) Q E s := by
  cases v with
  | non =>
    cases r
    exact wpAny_pyReprObj_gives (T := "NoneType") rfl F.slot_NoneType_repr F.entry_NoneType_repr (by unfold argsOk;kernel_rfl) gives_none_repr (q "None" _ (by decide)) (hx := by decide)
  | str x =>
    obtain ⟨t,rfl⟩ := r
    exact wpAny_pyReprObj_gives (T := "str") rfl PyProof.Rows.slot_str_repr PyProof.Rows.entry_str_repr (PyProof.Rows.args_str_repr _) (gives_str_repr x t) (q _ _ av) (hx := qAF av (by rw [qAT];omega))
  | _ => exact av.elim
theorem pe_msg {c:Str} {j p a p2 pos te} (ha:PE X a te) (hc:c.length≤1000):PE X (.JoinedStr [.Constant (.str c) j p,.FormattedValue a 114 none p2] pos) (tMsg te) := by
  intro pins s σ H Q I h
  have la:∀ x y:Str,(x++y).length=x.length+y.length := fun x y => by show (x.cps++y.cps).size=x.cps.size+y.cps.size;exact qBZ
  have l0:(Str.empty).length=0 := rfl
  have big:(3000:Nat)≤qM := by rw [qAT];omega
  refine wpAny_JoinedStr ?_
  show wpAny _ _ (eval (.Constant (.str c) j p) X.env) (fun v s₁ => ∃ y t,v=.str y t∧(Str.empty++y).length≤qM∧wpAny _ _ (eval (.FormattedValue a 114 none p2) X.env) (fun v s₂ => ∃ z t,v=.str z t∧((Str.empty++y)++z).length≤qM∧(((Str.empty++y)++z).length≤qM∧_)) _ s₁) _ s
  refine qCU ⟨c,_,rfl,by rw [la,l0];omega,?_⟩
  refine wpAny_FormattedValue_repr (thn (ha pins _ σ H _ (I.tok _) h) fun u s1 ⟨v,H1,I1,r,av,q⟩ => repr_ok (X := X) r av fun m t hm => ?_)
  have lz:((Str.empty++c)++m).length≤qM := by rw [la,la,l0];omega
  have fin:∀ tk,EP X pins σ Q (.str ((Str.empty++c)++m) tk) {s1 with toks := tk+1} := fun tk => ⟨.str _,H1,I1.tok _,⟨_,rfl⟩,q _⟩
  exact wpAny_formatField_str ⟨m,_,rfl,lz,lz,fin _⟩ ⟨m,_,rfl,lz,lz,fin _⟩ (by omega)
noncomputable def tVInit (C:Addr) (t:TA):TE := fun σ H Q => t σ H fun vs H1 => ∃ e m,vs=[.ref e,m]∧H1 e=some (.ext (xe0 e C))∧Q .non H1
theorem vinit_found {K:qB}:PySem.W.findCls K (.type "ValueError") (.type "type") "__init__" = some (.val (.builtin "ValueError.__init__")) := by
  first|rfl|decide +kernel|kernel_rfl
theorem boot_ValueError:bootBuiltins "ValueError" = some (.type "ValueError") := by decide +kernel
theorem pe_vinit {p p2 pos:Pos} {e:Expr} {es:List Expr} {t:TA} {pl:Sem Bool} (M:XMk X.K C f) (hg:Gl X "ValueError") (hm:X.mg "ValueError" = none) (ha:PA X (e::es) t)
    (hst:starEach (e::es) X.env=(false,eval e X.env)::starEach es X.env := by rfl) (hpl:(backTo pos (starEach es X.env)).any (·.1)=false := by rfl)
    (ht:eval (.Call (.Attribute (.Name "ValueError" p) "__init__" p2) (e::es) [] pos) X.env=(do
      let ov ← eval (.Name "ValueError" p) X.env
      standAt p2.atName
      let (f,first) ← holding [ov] (getMethod ov "__init__" pl)
      callWith pos f first (backTo pos (starEach (e::es) X.env)) (backToKw pos (keywordEach [] X.env))) := by rfl) :
    PE X (.Call (.Attribute (.Name "ValueError" p) "__init__" p2) (e::es) [] pos) (tVInit C t) := by
  intro pins s σ H Q I h
  refine PySem.W.methodCall_KW (pl := pl) (ld_blt I hg hm boot_ValueError ?_ (by decide) (by decide)) ht
  obtain ⟨m,fr⟩ := I.fr
  refine PySem.W.method_type fr I.ok.mod.kin (by kernel_rfl) (by decide +kernel) vinit_found (by decide +kernel) ?_
  have hA := ha pos pins _ σ H _ (I.tok (s.toks+1)) h
  rw [hst] at hA ⊢
  refine qBH (by show (false||(backTo pos (starEach es X.env)).any (·.1))=false;rw [hpl]<;>rfl) (qCD ?_)
  refine thn hA fun us s2 ⟨vs,H2,I2,r2,e',mv,ev,he,q⟩ => ?_
  subst ev
  obtain ⟨u1,u2,rfl,r1,r3⟩ := vals2 r2
  cases r1
  obtain ⟨nm,qn,N,bs,bm,sn,sub,ab,col,dd,k0,k1,k2,k3,k5,hC,hbm,_,_⟩ := xc_cls2 I2.kIn M.cls M.tail
  obtain ⟨⟨vs,sl,oe,h1⟩,_,_⟩ := I2.hok e' _ he
  obtain ⟨hh,g,d,tk,os⟩ := s2
  refine xinit hbm (by show 1≤qM;rw [qAT];omega) hC oe rfl rfl (Nat.lt_of_succ_lt (qAK.mp h1).1) fun h' p' a1 a2 => ?_
  refine ⟨.non,H2,?_,rfl,q⟩
  have hup:upd H2 e' (.ext (xe0 e' C))=H2 := by
    funext b
    by_cases hb:b=e'
    · subst hb;rw [upd_same,he]
    · rw [upd_ne hb]
  have := I2.write (x := e') (e := e') (o := .ext (xe0 e' C)) (h' := h') (t' := tk) (by rw [he];exact True.intro) (.inl rfl) (fun b u hb z => a2 b u hb z) ⟨_,a1⟩ (xe0_obj ⟨_,_,a1,by rw [Array.getElem?_setIfInBounds_ne (by decide)];exact h1⟩)
  rw [hup] at this
  exact this
end
section
variable {X:Cx} {pins:List (Addr×Obj)} {σ:St} {H:Hp} {s:Shared} {C f:Addr} {k:Nat} {fd:qt}
noncomputable def tSat (C:Addr) (ta tv:TE):TS := fun D σ H => tv σ H fun v H1 => ta σ H1 fun x H2 => ∃ e,x=.ref e∧H2 e=some (.ext (xe0 e C))∧∀ dx,H2 dx=none→dx≠e→D.nx σ (upd (upd H2 dx (.xd [("at",v)])) e (.ext (xeD e C dx .none)))
theorem ps_sat {o value:Expr} {pos' pos:Pos} {ta tv:TE} (M:XMk X.K C f) (ha:PE X o ta) (hv:PE X value tv) (hs:swapsWith value (some (.Attribute o "at" pos')) pos.line X.env=pure false := by rfl):PS X (.Assign [.Attribute o "at" pos'] value pos) (tSat C ta tv) := by
  intro pins s σ H D I h
  refine plainObj_wpAny_Assign_Attribute (thn (hv pins s σ H _ I h) fun u s1 ⟨y,H1,I1,ry,q⟩ => thn (ha pins s1 σ H1 _ I1 q) fun ov s2 ⟨x,H2,I2,rx,e,ex,he,q2⟩ => ?_) hs
  subst ex
  obtain rfl:ov=Value.ref e := rx
  obtain ⟨nm,qn,N,bs,bm,sn,sub,ab,col,dd,k0,k1,k2,k3,k5,hC,hbm,_,_⟩ := xc_cls2 I2.kIn M.cls M.tail
  obtain ⟨⟨vs,sl,oe,h1⟩,_,_⟩ := I2.hok e _ he
  obtain ⟨hh,g,d,tk,os⟩ := s2
  refine xstore hbm hC oe rfl (fun c z => by cases z) rfl (qAE I2.kIn M.sa) (qAE I2.kIn M.at_) fun h' tk' dx a1 a2 a3 a4 => ?_
  have hdx:H2 dx=none := I2.hok.fresh a1
  have ne:dx≠e := fun z => by rw [z,he] at hdx;cases hdx
  refine ⟨σ,upd (upd H2 dx (.xd [("at",y)])) e (.ext (xeD e C dx .none)),?_,q2 dx hdx ne⟩
  have n2:∀ b,b≠e→b≠dx→upd (upd H2 dx (.xd [("at",y)])) e (.ext (xeD e C dx .none)) b=H2 b := fun b p q => by rw [upd_ne p,upd_ne q]
  have nb:∀ b o,H2 b=some o→(∀ φ,o≠.ext φ)→b≠e∧b≠dx := fun b o z n => ⟨fun y => (by rw [y,he] at z;cases z;exact n _ rfl),fun y => (by rw [y,hdx] at z;cases z)⟩
  have st:∀ b o,H2 b=some o→(∀ φ,o≠.ext φ)→upd (upd H2 dx (.xd [("at",y)])) e (.ext (xeD e C dx .none)) b=some o := fun b o z n => by rw [n2 b (nb b o z n).1 (nb b o z n).2];exact z
  have lt:∀ b u,hh.get? b=some u→b≠dx := fun b u z y => by rw [y] at z;exact absurd (qS z) (Nat.not_lt.mpr a1)
  refine Inv.un (s := ⟨hh,g,d,tk,os⟩) I2 (h' := h') ⟨fun b o z n _ _ => a4 b o (fun y => by rw [y,he] at n;cases n) z,fun b o z n _ _ => ⟨o.slots,a4 b o (fun y => by rw [y,he] at n;cases n) z⟩,fun b o z n _ => ?_,fun b o z _ => ?_,fun b xs z => st b _ z (fun φ y => by cases y),fun b o u z => st b _ z (fun φ y => by cases y),fun b ps z => ⟨#[],by rw [st b _ z (fun φ y => by cases y)];simp⟩⟩ fun b o z => ?_
  · rw [n2 b (fun y => by rw [y,he] at n;cases n) (lt b o z)];exact n
  · by_cases hb:b=e
    · exact ⟨_,by rw [hb];exact a3⟩
    · exact ⟨o,a4 b o hb z⟩
  · by_cases hb:b=e
    · subst hb
      rw [upd_same] at z
      cases z
      exact xe_obj ⟨vs,sl,a3,h1⟩
    · by_cases hd:b=dx
      · subst hd
        rw [upd_ne hb,upd_same] at z
        cases z
        refine ⟨_,a2,fun n => ?_⟩
        by_cases hn:n = "at"
        · subst hn
          exact ry
        · have:List.lookup n [((("at":Str)),y)]=none := by
            rw [qo]
            have:(n==("at":Str))=false := by rw [beq_eq_false_iff_ne];exact hn
            rw [this]
            rfl
          rw [this]
          show RelO none (if n=("at":Str) then _ else _)
          rw [if_neg hn]
          trivial
      · rw [n2 b hb hd] at z
        refine (I2.hok b o z).stay (fun c u hc y => a4 c u ?_ y) (fun c y => st c _ y (fun φ x => by cases x)) (fun c xs y => st c _ y (fun φ x => by cases x))
        rcases hc with rfl|hc
        · exact hb
        · exact fun x => by rw [x,he] at hc;cases hc
noncomputable def tXat (C:Addr) (te:TE):TE := fun σ H Q => te σ H fun x H1 => ∃ e dx tv v,x=.ref e∧H1 e=some (.ext (xeD e C dx tv))∧H1 dx=some (.xd [("at",v)])∧Q v H1
theorem pe_xat {o:Expr} {pos:Pos} {te:TE} (M:XMk X.K C f) (ho:PE X o te) (hb:attributeBase o "at" X.env (eval o X.env)=eval o X.env := by rfl):PE X (.Attribute o "at" pos) (tXat C te) := by
  intro pins s σ H Q I h
  refine attr_of hb (thn (ho pins s σ H _ I h) fun u s1 ⟨x,H1,I1,rx,e,dx,tv,v,ex,he,hd,q⟩ => ?_)
  subst ex
  obtain rfl:u=Value.ref e := rx
  obtain ⟨nm,qn,N,bs,bm,sn,sub,ab,col,dd,k0,k1,k2,k3,k5,hC,hbm,_,_⟩ := xc_cls2 I1.kIn M.cls M.tail
  obtain ⟨⟨vs,sl,oe,h1⟩,_,_⟩ := I1.hok e _ he
  obtain ⟨mA,ns,rl⟩ := I1.hok dx _ hd
  have hv:∃ w,mA "at" = some w∧RelV v w := by
    have := rl "at"
    rw [show List.lookup ("at":Str) [(("at":Str),v)]=some v from rfl] at this
    cases y:mA "at" with
    | none => rw [y] at this;exact this.elim
    | some w => rw [y] at this;exact ⟨w,rfl,this⟩
  obtain ⟨w,hw,rw'⟩ := hv
  obtain ⟨hh,g,d,tk,os⟩ := s1
  refine xread hbm hC oe rfl rfl rfl ns.ns hw (qAE I1.kIn M.ga) (qAE I1.kIn M.gh) (qAE I1.kIn M.at_) (handed_of rw') fun tk' => ⟨v,H1,I1.tok _,rw',q⟩
end
noncomputable def initBody (c:Str) (p1 p2 p3 p4 p5 p6 p7 p8 p9 p10 p11 p12 p13:Pos):List Stmt :=
  [.Expr (.Call (.Attribute (.Name "ValueError" p1) "__init__" p2) [.Name "self" p3,.JoinedStr [.Constant (.str c) 0 p4,.FormattedValue (.Name "at" p5) 114 none p6] p7] [] p8) p9,
   .Assign [.Attribute (.Name "self" p10) "at" p11] (.Name "at" p12) p13]
noncomputable def initCall (c:Str) (p1 p2 p3 p4 p5 p6 p7 p8:Pos):Prop := ∀ env:Env,∃ pl:Sem Bool,eval (.Call (.Attribute (.Name "ValueError" p1) "__init__" p2) [.Name "self" p3,.JoinedStr [.Constant (.str c) 0 p4,.FormattedValue (.Name "at" p5) 114 none p6] p7] [] p8) env=(do
      let ov ← eval (.Name "ValueError" p1) env
      standAt p2.atName
      let (f,first) ← holding [ov] (getMethod ov "__init__" pl)
      callWith p8 f first (backTo p8 (starEach [.Name "self" p3,.JoinedStr [.Constant (.str c) 0 p4,.FormattedValue (.Name "at" p5) 114 none p6] p7] env)) (backToKw p8 (keywordEach [] env)))
theorem ok_init {P:Program} {w:World} {K:qB} {mg:Str→Option Value} {base:Heap} {C f:Addr} {qual:Str} {st:Stmt} {fd:qt} {c:Str} {p1 p2 p3 p4 p5 p6 p7 p8 p9 p10 p11 p12 p13:Pos} (F:Fun K "__init__" qual st f fd) (M:XMk K C f) (hm:mg "ValueError" = none)
    (hb:defBody st=initBody c p1 p2 p3 p4 p5 p6 p7 p8 p9 p10 p11 p12 p13) (hsc:defScope st={kind := .function,names := [("self",.local),("at",.local),("ValueError",.globalImplicit)],isGenerator := false,isCoroutine := false}) (hc:c.length≤1000) (ht:initCall c p1 p2 p3 p4 p5 p6 p7 p8) :
    FnOk P w K mg base CX0 1 f fd ["self", "at"] (spI C) := by
  have nd:(["self", "at"]:List Str).Nodup := by decide +kernel
  have S:FnScope ["self", "at"] ["self", "at"] (defScope st) := by rw [hsc];exact ⟨rfl,rfl,rfl,nd,rfl,by decide +kernel,by decide +kernel⟩
  refine F.ok S (fun vs H Q E h => by obtain ⟨e,v,rfl,_⟩ := h;rfl) fun cdv A outer s H vs Q E hr h => ?_
  obtain ⟨e,v,rfl,he,av,q⟩ := h
  have g0:visB (cxOf CX0 P w K mg base ["self", "at"] qual (defScope st) f cdv A outer s H E).nox.env.scope "self" = true := by show visB (defScope st) _=_;rw [hsc];decide +kernel
  have g1:visB (cxOf CX0 P w K mg base ["self", "at"] qual (defScope st) f cdv A outer s H E).nox.env.scope "at" = true := by show visB (defScope st) _=_;rw [hsc];decide +kernel
  have g2:Gl (cxOf CX0 P w K mg base ["self", "at"] qual (defScope st) f cdv A outer s H E).nox "ValueError" := by show (defScope st).names.lookup _=_;rw [hsc];decide +kernel
  have e0:∀ {p:Pos},PE (cxOf CX0 P w K mg base ["self", "at"] qual (defScope st) f cdv A outer s H E).nox (.Name "self" p) (tVar 0) := fun {p} => pv 0 rfl g0
  have e1:∀ {p:Pos},PE (cxOf CX0 P w K mg base ["self", "at"] qual (defScope st) f cdv A outer s H E).nox (.Name "at" p) (tVar 1) := fun {p} => pv 1 rfl g1
  refine ⟨tSeq (tDrop (tVInit C (tCons (tVar 0) (tCons (tMsg (tVar 1)) tNil)))) (tSat C (tVar 0) (tVar 1)),?_,?_⟩
  · rw [hb]
    obtain ⟨pl,ht⟩ := ht (cxOf CX0 P w K mg base ["self", "at"] qual (defScope st) f cdv A outer s H E).nox.env
    exact pss_cons (ps_expr (pe_vinit (f := f) (pl := pl) M g2 hm (pa_cons e0 (pa_cons (pe_msg e1 hc) pa_nil)) rfl rfl ht)) (pss_one (ps_sat M e0 e1))
  · exact ⟨_,rfl,v,rfl,av,fun m => ⟨e,_,rfl,he,v,rfl,_,rfl,e,rfl,he,q⟩⟩
noncomputable def atD:PyData→Bool
  | .none => true
  | .str x => decide ((PySem.reprText x).length≤1000)
  | _ => false
theorem atD_flat {d:PyData} (h:atD d=true):flatD d=true := by cases d<;>first|rfl|cases h
theorem atD_v {H:Hp} {d:PyData} {v:V} (h:atD d=true) (r:Rp H d v):atV v := by
  cases d with
  | none => rw [rp_none r];trivial
  | str x => rw [rp_str r];show (PySem.reprText x).length≤1000;exact of_decide_eq_true h
  | _ => cases h
noncomputable def RX (H0:Hp) (C:Addr) (d:PyData):XK := fun c od H' => c=.ref C∧Same H0 H'∧flatD d=true∧∃ dx v,od=some dx∧H' dx=some (.xd [("at",v)])∧Rp H' d v
theorem RX.base {H0 H1:Hp} {C:Addr} {d:PyData} (s:Same H0 H1) {c:Value} {od:Option Addr} {H':Hp} (h:RX H1 C d c od H'):RX H0 C d c od H' :=
  let ⟨a,b,r⟩ := h;⟨a,s.trans b,r⟩
theorem RX.stx {H0:Hp} {C:Addr} {d:PyData} {E:XK} (h:∀ c od H',RX H0 C d c od H'→E c od H') {c:Value} {od:Option Addr} {H':Hp} (q:RX H0 C d c od H'):StX H0 E c od H' := by
  intro H3 r1 r2
  obtain ⟨a,b,f,dx,v,e1,e2,e3⟩ := q
  exact h _ _ _ ⟨a,fun x o z => r1 x o z (b x o z),f,dx,v,e1,r2 _ _ e2 (fun φ z => by cases z),rp_flat f e3⟩
inductive OutX where
  | ok (o:Out)
  | rx (c:Str) (d:PyData)
noncomputable def SatX (cl:Str→Addr) (fx:Addr→Prop) (H0:Hp) (D:Ends) (E:XK):OutX→Prop
  | .ok o => Sat fx H0 D o
  | .rx c d => ∀ k od H',RX H0 (cl c) d k od H'→E k od H'
noncomputable abbrev SFX := DEnv→Option OutX
noncomputable def SSx (cl:Str→Addr) (ts:XK→TS) (F:SFX):Prop := ∀ (fx:Addr→Prop) (H0:Hp) (env:DEnv) (σ:St) (H:Hp) (D:Ends) (E:XK),EnvOk fx H0 env σ H→∀ o,F env=some o→SatX cl fx H0 D E o→ts E D σ H
section
variable {cl:Str→Addr}
noncomputable def xOf (f:SF):SFX := fun env => (f env).map .ok
theorem ssx_of {t:TS} {f:SF} (h:SS t f):SSx cl (fun _ => t) (xOf f) := by
  intro fx H0 env σ H D E hE o e q
  obtain ⟨o',e',rfl⟩ := qG.mp e
  exact h fx H0 env σ H D hE o' e' q
noncomputable def xSeq (f g:SFX):SFX := fun env => (f env).bind fun o => match o with
  | .ok (.nx env') => g env'
  | o => some o
theorem ssx_seq {t u:XK→TS} {f g:SFX} (h1:SSx cl t f) (h2:SSx cl u g):SSx cl (fun E => tSeq (t E) (u E)) (xSeq f g) := by
  intro fx H0 env σ H D E hE o e q
  obtain ⟨o1,e1,e⟩ := qA.mp e
  refine h1 fx H0 env σ H _ E hE o1 e1 ?_
  cases o1 with
  | rx c d => cases e;exact q
  | ok o1 =>
    cases o1 with
    | nx env' => exact fun σ' H' h' => h2 fx H0 env' σ' H' D E h' o e q
    | bk env' => cases e;exact q
    | ct env' => cases e;exact q
    | rt d fr => cases e;exact q
noncomputable def xIf (c:TF) (f g:SFX):SFX := fun env => (c env).bind fun b => if b=true then f env else g env
theorem ssx_if {tc:TT} {t u:XK→TS} {c:TF} {f g:SFX} (hc:ST tc c) (h1:SSx cl t f) (h2:SSx cl u g):SSx cl (fun E => tIfS tc (t E) (u E)) (xIf c f g) := by
  intro fx H0 env σ H D E h o e q
  obtain ⟨b,eb,e⟩ := qA.mp e
  refine hc fx H0 env σ H h b eb _ fun H' s => ?_
  cases b with
  | true => exact iteT (h1 fx H0 env σ H' D E (h.up s) o e q)
  | false => exact iteF (h2 fx H0 env σ H' D E (h.up s) o e q)
noncomputable def xRaise (c:Str) (f:EF):SFX := fun env => (f env).bind fun r => if atD r.d=true then some (.rx c r.d) else none
theorem ssx_raise {c:Str} {te:TE} {f:EF} (h1:SE te f):SSx cl (fun E => tRaise (cl c) E te) (xRaise c f) := by
  intro fx H0 env σ H D E h o e q
  obtain ⟨r,er,e⟩ := qA.mp e
  split at e
  · rename_i ha
    cases e
    refine h1 fx H0 env σ H h r er _ fun v H' s hv => ⟨atD_v ha hv.rp,fun H2 dx s2 hd => q _ _ _ ⟨rfl,(h.base.trans s).trans s2,atD_flat ha,dx,v,rfl,hd,rp_flat (atD_flat ha) hv.rp⟩⟩
  · cases e
noncomputable def forLX (g:GT) (body:SFX):List PyData→DEnv→Option OutX
  | [],env => some (.ok (.nx env))
  | d::ds,env => (g d env).bind fun e1 => (body e1).bind fun o => match o with
    | .ok (.nx e2) => forLX g body ds e2
    | .ok (.ct e2) => forLX g body ds e2
    | .ok (.bk e2) => some (.ok (.nx e2))
    | .ok (.rt d fr) => some (.ok (.rt d fr))
    | .rx c d => some (.rx c d)
noncomputable def xFor (f:IF') (g:GT) (body:SFX):SFX := fun env => (f env).bind fun z => forLX g body z.1 (frzs env z.2)
theorem ssx_for {wi:TI} {g:TG} {tb:XK→TS} {f:IF'} {gf:GT} {body:SFX} (h1:SI wi f) (h2:SG g gf) (h3:SSx cl tb body):SSx cl (fun E => tFor wi g (tb E)) (xFor f gf body) := by
  intro fx H0 env σ H D E h o e q
  obtain ⟨⟨ds,bs⟩,er,e⟩ := qA.mp e
  refine h1 fx H0 env σ H h ds bs er _ fun J H1 s yl => ?_
  have hE := (h.up s).frzs bs
  have fl := hE.floor
  refine ⟨fun i m σ' H' => m=ds.length - i∧i≤ds.length∧∃ env',forLX gf body (ds.drop i) env'=some o∧EnvOk fx (Offs (own (frzs env bs) σ) H1) env' σ' H',⟨ds.length,rfl,qAZ _,_,e,hE.rebase⟩,?_⟩
  rintro i m σ' H' ⟨rfl,hi,env',e',h'⟩
  obtain ⟨yi,ys⟩ := yl _ H' h'.all h'.seen
  by_cases hlt:i<ds.length
  · obtain ⟨yg,yy⟩ := yi i ds[i] (qF hlt)
    refine .inr ⟨yg,fun σ'' H'' => i+1≤ds.length∧∃ env'',forLX gf body (ds.drop (i+1)) env''=some o∧EnvOk fx (Offs (own (frzs env bs) σ) H1) env'' σ'' H'',?_,?_⟩
    · rintro σ'' H'' ⟨hle,env'',e'',h''⟩
      exact ⟨ds.length - (i+1),by omega,rfl,hle,env'',e'',h''⟩
    · intro x H'' hy
      obtain ⟨sy,ry⟩ := yy x H'' hy
      rw [qAM hlt] at e'
      obtain ⟨e1,ee1,e'⟩ := qA.mp e'
      obtain ⟨o1,eo1,e'⟩ := qA.mp e'
      refine h2 fx _ env' σ' H'' _ x (h'.up sy) ry e1 ee1 _ fun σ2 h2' => h3 fx _ e1 σ2 H'' _ E h2' o1 eo1 ?_
      cases o1 with
      | rx c d => cases e';exact fun k od H3 r => q k od H3 (r.base fl)
      | ok o1 =>
        cases o1 with
        | nx e2 => exact fun σ3 H3 hh => ⟨hlt,e2,e',hh⟩
        | ct e2 => exact fun σ3 H3 hh => ⟨hlt,e2,e',hh⟩
        | bk e2 => cases e';exact fun σ3 H3 hh => q σ3 H3 (hh.unbase fl)
        | rt d fr => cases e';exact fun v H3 sh rt => q v H3 (fl.trans sh) (rt.unbase fl)
  · have hi':i=ds.length := by omega
    subst hi'
    rw [qAl] at e'
    cases e'
    exact .inl ⟨ys,q σ' H' (h'.unbase fl)⟩
inductive ResX where
  | ok (d:PyData) (fr:Bool)
  | rx (c:Str) (d:PyData)
noncomputable abbrev GFX := List PyData→Option ResX
noncomputable def ResOk (cl:Str→Addr) (fx:Addr→Prop) (H:Hp) (Q:VK) (E:XK):ResX→Prop
  | .ok d fr => ∀ v H',Same H H'→RetOk fx H d fr v H'→Q v H'
  | .rx c d => ∀ k od H',RX H (cl c) d k od H'→E k od H'
noncomputable def spX (cl:Str→Addr) (n:Nat) (g:GFX):Sp := fun vs H Q E => ∃ (fx:Addr→Prop) (ds:List PyData) (r:ResX),ds.length=n∧(∀ b,fx b→∃ o,H b=some o)∧Rps (Offs fx H) ds vs∧g ds=some r∧ResOk cl fx H Q E r
theorem spX_len {n:Nat} {g:GFX} {vs:List V} {H:Hp} {Q:VK} {E:XK} (h:spX cl n g vs H Q E):vs.length=n := by
  obtain ⟨fx,ds,r,hn,hf,rr,_⟩ := h
  rw [← rr.length];exact hn
noncomputable def fnX (n:Nat) (f:SFX):GFX := fun ds => match f (startD n ds) with
  | some (.ok (.rt d fr)) => some (.ok d fr)
  | some (.ok (.nx _)) => some (.ok .none false)
  | some (.rx c d) => some (.rx c d)
  | _ => none
theorem fn_x {N:List Str} {n:Nat} {f:SFX} {t:XK→TS} (hs:SSx cl t f) {vs:List V} {H:Hp} {Q:VK} {E:XK} (h:spX cl n (fnX N.length f) vs H Q E):t (StX H E) {nx := fun _ H' => Q .non H',rt := Q} (start N vs) H := by
  obtain ⟨fx,ds,r,hn,hf,rr,g,k⟩ := h
  unfold fnX at g
  split at g
  · rename_i d' fr' eo
    cases g
    exact hs fx H _ _ H _ _ (env_start hf rr) _ eo fun v H' s rt => k v H' s rt
  · rename_i e' eo
    cases g
    exact hs fx H _ _ H _ _ (env_start hf rr) _ eo fun σ H' hE => k .non H' hE.base ⟨rp_mk_none,fun z => by cases z⟩
  · rename_i c d eo
    cases g
    exact hs fx H _ _ H _ _ (env_start hf rr) _ eo fun k' od H' q => RX.stx k q
  · cases g
noncomputable def xCall (n:Nat) (g:GFX) (f:AF):SFX := fun env => (f env).bind fun rs => if rs.length=n then (g (datas rs)).map fun r => match r with
  | .ok _ _ => .ok (.nx env)
  | .rx c d => .rx c d else none
theorem ssx_call {n:Nat} {g:GFX} {ta:TA} {f:AF} (ha:SA ta f):SSx cl (fun E => tDrop (tCall (spX cl n g) [] E ta)) (xCall n g f) := by
  intro fx H0 env σ H D E h o e q
  obtain ⟨rs,er,e⟩ := qA.mp e
  split at e
  · rename_i hn
    obtain ⟨r,ez,rfl⟩ := qG.mp e
    refine ha fx H0 env σ H h rs er _ fun vs H1 s1 v1 => ?_
    rw [qAH]
    refine ⟨lim fx env σ (bss rs),datas rs,r,by rw [datas_len];exact hn,(h.up s1).lims _,vals_rps (fun i hi => hi) v1,ez,?_⟩
    cases r with
    | ok d fr => exact fun w H3 s3 _ => q σ H3 (h.up (s1.trans s3))
    | rx c d => exact fun k od H3 r => q k od H3 (r.base (h.base.trans s1))
  · cases e
end
noncomputable abbrev Cx.hold (X:Cx) (e:Addr):Cx := {X with A := X.A.mark (some (.ref e)),calm := false,xe := fun _ _ => False}
section
variable {X:Cx} {pins:List (Addr×Obj)} {σ:St} {H:Hp} {s:Shared}
theorem Inv.hold (I:Inv X pins σ H s) (e:Addr):Inv (X.hold e) pins σ H s :=
  ⟨⟨I.ok.mod,I.ok.kind,I.ok.glob,I.ok.blt,I.ok.above,I.ok.inj,I.ok.has,I.ok.cab,(fun z => by cases z),I.ok.frames,I.ok.stk,I.ok.exf,I.ok.bs,I.ok.bsz,I.ok.noex,I.ok.exfs,I.ok.funs,I.ok.frf⟩,I.os,I.bare,I.base,I.loc,I.cell,I.free,I.freeC,I.pin,I.hok,I.len⟩
theorem Inv.unhold {e:Addr} (ok:X.Ok) (I:Inv (X.hold e) pins σ H s):Inv X pins σ H s :=
  ⟨ok,I.os,I.bare,I.base,I.loc,I.cell,I.free,I.freeC,I.pin,I.hok,I.len⟩
theorem goes_ok {A:Around} {E:Value→Shared→Prop} {n:Str} {pos:Pos} {j:Nat} {Q:Unit→Shared→Prop} (I:Inv X pins σ H s) (hN:X.N.Nodup) (hj:X.N[j]?=some n) (hl:X.env.scope.names.lookup n=some .local)
    (h:∀ s',Inv X pins (σ.set j none) H s'→Q () s'):wpAny (model X.prog X.w) A (do bindName X.env n .none;unbindBehindTheSuite X.env n pos) Q E s := by
  obtain ⟨m,hn,hlk⟩ := id I.loc
  have hcls:(X.env.scope.kind==.class||(X.env.scope.kind==.module&&X.env.locals != X.env.globals))=false := by rw [I.ok.kind];rfl
  refine wpAny_nameGoes_keeps hl hn hcls fun h' v ns sb => h _ ?_
  have lo:∀ b ob,X.s₀.heap.get? b=some ob→h'.get? b=s.heap.get? b := fun b ob e => sb.2 b (qAC (qY (qS e) I.ok.above))
  have cne := I.cne
  refine ⟨I.ok,I.os,I.bare,⟨fun b o e n hb hx => (lo b o e).trans (I.base.keep b o e n hb hx),fun b o e n hb hx => ?_,I.base.free,fun b o e hx => ?_,I.base.tups,I.base.frzs,I.base.tbls⟩,⟨_,ns,fun k y v' e1 e2 e3 => ?_⟩,fun y c e => ?_,I.free,I.freeC,fun p hp => ?_,fun b ob e => ?_,by simpa using I.len⟩
  · obtain ⟨sl,e1⟩ := I.base.slot b o e n hb hx
    exact ⟨sl,(lo b o e).trans e1⟩
  · obtain ⟨o',e1⟩ := I.base.there b o e hx
    exact ⟨o',(lo b o e).trans e1⟩
  · by_cases hk:k=j
    · subst hk
      rw [qe (by have := (qQ.mp hj).1;rw [I.len];exact this)] at e2
      cases e2
    · rw [qU (qAo hk)] at e2
      obtain ⟨u',r',q⟩ := hlk k y v' e1 e2 e3
      refine ⟨u',r',?_⟩
      rcases q with ⟨z,e⟩|⟨z,c,e,y'⟩
      · refine .inl ⟨z,?_⟩
        have:y≠n := fun e => hk (nodup_ix hN e1 (e▸hj))
        simp [this,e]
      · exact .inr ⟨z,c,e,y'.sameBut sb (cne y c e)⟩
  · obtain ⟨w',z⟩ := I.cell y c e
    exact ⟨w',z.sameBut sb (cne y c e)⟩
  · obtain ⟨e,n,ne,nf,d⟩ := I.pin p hp
    exact ⟨(sb.2 p.1 ne).trans e,n,ne,nf,d⟩
  · refine (I.hok b ob e).stay (fun c w' hc q => (sb.2 c ?_).trans q) (fun _ q => q) fun _ _ q => q
    rintro rfl
    rcases hc with hc|hc
    · rw [← hc,I.free] at e;cases e
    · rw [I.free] at hc;cases hc
noncomputable def tTry (C:Addr) (sp:Sp) (t:TA) (ts:TS) (i j:Nat):TS := fun D σ H => t σ H fun vs H1 => sp vs H1 (fun v H2 => D.nx (σ.set i (some v)) H2) fun c od H2 => c=.ref C∧∃ dx,od=some dx ∧
  ∀ e H3,(∀ b o,H1 b=some o→H2 b=some o→H3 b=some o)→KeepX H2 H3→(∃ tv,H3 e=some (.ext (xeD e C dx tv))) →
    ts {nx := fun σ' H' => D.nx (σ'.set j none) H',rt := fun _ _ => False} (σ.set j (some (.ref e))) H3
theorem ps_try {C f:Addr} {k:Nat} {fd:qt} {ps:List Str} {sp:Sp} {fn x n cn:Str} {p cpos pos pos' apos hpos cp:Pos} {a:Expr} {as:List Expr} {st0:Stmt} {suite:List Stmt} {t:TA} {ts:TS} {i j:Nat}
    (F:FnOk X.prog X.w X.K X.mg X.base (CXE X.prog X.w) k f fd ps sp) (hr:Room k X.A) (hg:Gl X fn) (hm:X.mg fn=some (.ref f)) (hk:qV X.K (.ref f)=true) (hb:Binds X.K fd ps []) (ha:PA X.nox (a::as) t)
    (hN:X.N.Nodup) (hi:X.N[i]?=some x) (hx:X.env.scope.names.lookup x=some .local) (hj:X.N[j]?=some n) (hn:X.env.scope.names.lookup n=some .local)
    (hst:X.stack=X.env::X.outer) (hfr:X.env.frame=some X.env.locals) (hgc:Gl X cn) (hmc:X.mg cn=some (.ref C)) (hex:PySem.W.exmOne X.K (.ref C) (.ref C)=some true) (hs:∀ e,PSs (X.hold e) (st0::suite) ts)
    (hdb:(fn==("__debug__":Str))=false := by decide) (hdc:(cn==("__debug__":Str))=false := by decide) (he:starEach (a::as) X.env=(false,eval a X.env)::starEach as X.env := by rfl) (hpl:(backTo cpos (starEach as X.env)).any (·.1)=false := by rfl)
    (hsw:swapsWith (.Call (.Name fn p) (a::as) [] cpos) (some (.Name x pos')) apos.line X.env=pure false := by rfl) :
    PS X (.Try [.Assign [.Name x pos'] (.Call (.Name fn p) (a::as) [] cpos) apos] [.ExceptHandler (some (.Name cn cp)) (some n) (st0::suite) hpos] [] [] pos) (tTry C sp t ts i j) := by
  intro pins s σ H D I h
  refine wpAny_Try_except ?_
  refine qBz (wpAny_Assign_Name (qAv (ld_glob I hg hm ?_ hdb)) hsw)
  refine qBO (h₀ := X.base) I.ok.mod.kin hk (qAk (ha cpos pins s σ H _ (I.wish _) h) (fun us s1 ⟨vs,H1,I1,r,q⟩ => ⟨I1.kIn,?_⟩) fun _ _ z => z.elim) he hpl
  have I1:Inv X pins σ H1 s1 := I1.unwish
  have hl:us.length=ps.length := by rw [← r.length];exact F.len _ _ _ _ q
  refine qBs (qBB (F.run X.A X.stack s1 H1 ⟨us,[]⟩ us vs _ _ hr I1.env0 (by have := hb s1 us I1.kIn (by rw [qAH];exact hl);rw [qAH] at this;exact this) r q) fun res s' hq => ?_)
  cases res with
  | ok fl =>
    cases fl with
    | ret u =>
      obtain ⟨v,H2,I2,rv,q2⟩ := I1.after hq
      exact store_ok I2 hN hi (.inl hx) rv (fun s3 I3 => qA9 (qA9 ⟨_,H2,I3,q2⟩)) (.inr hx)
    | next => exact False.elim hq
    | brk => exact False.elim hq
    | cont => exact False.elim hq
  | error ev =>
    obtain ⟨e,C',dx,H2,rfl,os,bare,un,ok,fl,stx⟩ := hq
    have I2 := I1.call' (s' := s') os un ok bare (fun b z => absurd z (by simp))
    refine leave_ok2 I2 hst hfr (fun b ob z => un.there b ob z (by simp)) fl fun s3 H3 I3 ⟨T,hT1,hT2,hT3,hT4⟩ ho hkx hz3 => ?_
    obtain ⟨eC,dx',edx,sq⟩ := stx H3 (fun b o z1 z2 => ho b o _ (I1.hok b o z1).there.choose_spec z2) hkx
    cases eC
    cases edx
    obtain ⟨⟨vs',sl,oe,h1⟩,_,_⟩ := I3.hok e _ hT1
    have tb := (I3.hok T _ hT4).1
    have J3 := I3.hold e
    refine wpAny_handleBy_cons (codeAny_handlers_test (ld_glob J3 hgc hmc ?_ hdc)) (by intro z;cases z)
    have LT:PySem.W.Looks (model X.prog X.w) s3.heap (typeOf (.ref e)) (.ref C) := (qBv oe).andThen .now
    refine (PySem.W.exm_one (I3.kIn) LT hex).here ?_
    show codeAny _ _ _ _ _
    refine codeAny_handlers_suite_as (land_heap oe rfl h1 tb fun h' kp tb' => ?_)
    have hup:upd H3 T (.ext fun h => h.Tb T)=H3 := by
      funext b
      by_cases hb:b=T
      · subst hb;rw [upd_same,hT4]
      · rw [upd_ne hb]
    have J4:Inv (X.hold e) pins σ H3 {s3 with heap := h'} := by
      have := J3.write (x := T) (e := T) (o := .ext fun h => h.Tb T) (h' := h') (t' := s3.toks) (by rw [hT4];exact True.intro) (.inl rfl) (fun b u hb z => kp b u hb z) (let ⟨oT,_,z,_⟩ := tb';⟨oT,z⟩) (tb_obj tb')
      rw [hup] at this
      exact this
    refine store_ok (X := X) (Inv.unhold I.ok J4) hN hj (.inl hn) (show RelV (.ref e) (.ref e) from rfl) (fun s5 J5 => ?_) (.inr hn)
    refine qAk (hs e pins s5 _ H3 _ (J5.hold e) (sq e H3 (fun _ _ _ z => z) (fun _ _ z _ => z) ⟨_,hT1⟩)) (fun fl s6 q6 => ?_) fun _ _ z => z.elim
    cases fl with
    | next =>
      obtain ⟨σ',H',J6,q6⟩ := q6
      exact goes_ok (Inv.unhold I.ok J6) hN hj hn fun s7 I7 => ⟨_,_,I7,q6⟩
    | ret u => obtain ⟨v,σ',H',J6,_,q6⟩ := q6;exact q6.elim
    | brk => obtain ⟨σ',H',J6,q6⟩ := q6;exact q6.elim
    | cont => obtain ⟨σ',H',J6,q6⟩ := q6;exact q6.elim
end
end L2
namespace PySem
open Sem (wp)
open Builtin Builtin.ObjectAttr
section
variable {prog:Program} {w:World} {A:Around} {E:Value→Shared→Prop} {h:Heap} {g:Array GenState} {d:Drawn} {t:Nat} {os:OsState}
variable {nm q:Str} {C N x:Addr} {bs bm:List Value} {sn:List Str} {sub:List Value} {ab:Bool} {col:Option Bool} {dd:Option Addr} {k0 k1 k2 k3 k5:Option Value} {newId:String} {o:Obj}
theorem xclass_get {R:Result→Shared→Prop} (hr:refsThen bm=true) (hC:h.get? C=some (excClassObj nm q C N bs bm true sn sub ab col dd k0 k1 k2 k3 k5 newId)) (hx:h.get? x=some o) (hc:o.cls=.ref C) (hq:R (.ok (.ret (.ref C))) ⟨h,g,d,t,os⟩) :
    codeAny (model prog w) A (.call (.builtin "getset_descriptor.__get__") ⟨[.builtin "object.__class__",.ref x,.ref C],[]⟩) R ⟨h,g,d,t,os⟩ := by
  have hT5:(⟨h,g,d,t,os⟩:Shared).TypeIs (.builtin "object.__class__") "getset_descriptor" := qBQ
  have hcB:(Value.ref C::bm).contains (.type (".".intercalate ("object.__class__".cutAt '.').dropLast))=true := by
    rw [F.owner_object_class,qu,refsThen_has (by decide) hr];rfl
  refine qAn qCL.plain F.entry_gs_get (qCL.check _ _ _ _ _ _ _ _ hT5 (F.args_gs_get _ _ _) ?_)
  repeat (any_goals (first|assumption|(with_reducible refine qW hx ?_;rw [hc])|(with_reducible refine qAJ hC ?_;rw [hcB])|wp_step))
  refine ⟨qBX _ (by decide +kernel),codeAny_builtin F.entry_object_class ?_⟩
  repeat (any_goals (first|assumption|(with_reducible refine qW hx ?_;rw [hc])|wp_step))
theorem xclass {Q:Option Value→Shared→Prop} (hr:refsThen bm=true) (hC:h.get? C=some (excClassObj nm q C N bs bm true sn sub ab col dd k0 k1 k2 k3 k5 newId)) (hx:h.get? x=some o) (hc:o.cls=.ref C)
    (LG:W.Looks (model prog w) h (typeLookup (.ref C) "__getattribute__") (some (.builtin "BaseException.__getattribute__"))) (LA:W.Looks (model prog w) h (typeLookup (.ref C) "__class__") (some (.builtin "object.__class__")))
    (LH:W.Looks (model prog w) h (typeLookup (.ref C) "__getattr__") none) (hq:Q (some (.ref C)) ⟨h,g,d,t+1,os⟩):wpAny (model prog w) A (getAttr? (.ref x) "__class__") Q E ⟨h,g,d,t,os⟩ := by
  have hk:builtinKind "BaseException.__getattribute__" = some .slot := by decide +kernel
  have hsplit:splitId "BaseException.__getattribute__" = some ("BaseException", "__getattribute__") := by decide +kernel
  have hcB:(Value.ref C::bm).contains (.type "BaseException")=true := by rw [qu,refsThen_has (by decide) hr,qAf]
  have hx2:(Value.builtin "BaseException.__getattribute__" == Value.builtin "object.__getattribute__")=false := by decide +kernel
  have hx1:(onTheHeap (Value.ref C)&&Value.builtin "BaseException.__getattribute__" == Value.builtin "object.__getattribute__")=false := by rw [hx2];rfl
  have FB := F.attr_ValueError
  have f3 := FB.ga.bind (.ref x)
  have hT5:(⟨h,g,d,t+1,os⟩:Shared).TypeIs (.builtin "object.__class__") "getset_descriptor" := qBQ
  have f5 := qBQ
  have f6 := qCL.lookup
  have f7 := F.slot_gs_set.lookup
  unfold getAttr? getAttrBy? getAttrBy
  repeat (any_goals (first|assumption|(with_reducible refine qW hx ?_;rw [hc])|(with_reducible refine LG.here ?_)|(with_reducible refine LH.here ?_)|wp_step))
  refine qAn FB.ga.plain F.entry_bexc_ga ?_
  simp only [checkBuiltinCall,hk,hsplit]
  refine qN ?_
  unfold isInstance
  repeat (first|(with_reducible refine qW hx ?_;rw [hc])|(with_reducible refine qAJ hC ?_;rw [hcB])|wp_step)
  repeat (any_goals (first|assumption|(with_reducible refine qW hx ?_;rw [hc])|(with_reducible refine LA.here ?_)|wp_step))
  refine xclass_get hr hC hx hc ?_
  repeat (any_goals (first|assumption|wp_step))
end
end PySem
namespace L2
open PySem PySem.Spec PyProof.Rows
section
variable {X:Cx} {C f:Addr}
theorem kitx_exc {K:qB} {e C dx f:Addr} (M:XMk K C f) (ha:PySem.W.findIn K (.ref C) "__class__" = some (some (.builtin "object.__class__"))):PySem.W.KitX K (.ref e) (.ref C) (fun h => ∃ tv,xeD e C dx tv h) where
  ty := fun _ _ _ ⟨_,_,_,a,_⟩ => (qBv a).andThen .now
  it := fun _ _ X _ => by
    obtain ⟨nm,qn,N,bs,bm,sn,sub,ab,col,dd,k0,k1,k2,k3,k5,hC,_⟩ := xc_cls2 X M.cls M.tail
    intro A' Q' E' s' k q
    unfold isType loadHead
    exact qN (wpAny_loadPart (k _ _ hC) (qp q))
  ne := fun h tp dd its n sl X htp => by
    obtain ⟨nm,qn,N,bs,bm,sn,sub,ab,col,dd,k0,k1,k2,k3,k5,hC,_⟩ := xc_cls2 X M.cls M.tail
    refine Bool.eq_false_iff.mpr fun q => ?_
    have e:C=tp := Value.ref.inj (beq_iff_eq.mp q)
    subst e
    have z := congrArg Obj.cls (qP (hC.symm.trans htp))
    unfold excClassObj at z
    injection z with z
    exact absurd z (by decide)
  ca := fun {prog w A E Q s} X ⟨tv,vs,sl,a,_⟩ k => by
    obtain ⟨nm,qn,N,bs,bm,sn,sub,ab,col,dd,k0,k1,k2,k3,k5,hC,hbm,_⟩ := xc_cls2 X M.cls M.tail
    obtain ⟨h,g,d,t,os⟩ := s
    exact xclass hbm hC a rfl (qAE X M.ga) (qAE X ha) (qAE X M.gh) k
noncomputable def rIsX (K:qB) (C:Addr):List V→Hp→VK→Prop := fun xs H Q => ∃ e dx tv b,H e=some (.ext (xeD e C dx tv))∧Q (.bl b) H ∧
  ((∃ c,xs=[.ref e,.ref c]∧PySem.W.kitOne K (.ref C) (.ref c)=some b)∨(∃ n,xs=[.ref e,.ty n]∧PySem.W.kitOne K (.ref C) (.type n)=some b)∨∃ p ys us,xs=[.ref e,.ref p]∧H p=some (.tup ys)∧(∀ its,Vals ys its→its=us)∧PySem.W.kitAny K (.ref C) us=some b)
theorem call_isx (M:XMk X.K C f) (ha:PySem.W.findIn X.K (.ref C) "__class__" = some (some (.builtin "object.__class__"))):CallR X (.builtin "isinstance") (rIsX X.K C) := by
  intro pins s σ H xs us Q I r h
  obtain ⟨e,dx,tv,b,he,q,h⟩ := h
  have hx := (I.hok e _ he).1
  rcases h with ⟨c,rfl,kk⟩|⟨n,rfl,kk⟩|⟨p,ys,us',rfl,hp,hv,kk⟩
  · obtain ⟨u1,u2,rfl,r1,r2⟩ := vals2 r
    cases r1
    cases r2
    exact q0 (kitx_exc (dx := dx) M ha) I.kIn ⟨tv,hx⟩ kk (fun z => nomatch z) fun tk => ⟨.bl b,H,I.tok _,rfl,q⟩
  · obtain ⟨u1,u2,rfl,r1,r2⟩ := vals2 r
    cases r1
    cases r2
    exact q0 (kitx_exc (dx := dx) M ha) I.kIn ⟨tv,hx⟩ kk (fun z => nomatch z) fun tk => ⟨.bl b,H,I.tok _,rfl,q⟩
  · obtain ⟨u1,u2,rfl,r1,r2⟩ := vals2 r
    cases r1
    cases r2
    obtain ⟨_,its,vi,op,hop,ho1,n,ho2⟩ := I.hok p _ hp
    cases hv its vi
    obtain ⟨oc,od,odt,osl⟩ := op
    cases ho1
    cases ho2
    exact PySem.W.kia_tup (kitx_exc (dx := dx) M ha) I.kIn ⟨tv,hx⟩ hop kk (fun z => nomatch z) fun tk => ⟨.bl b,H,I.tok _,rfl,q⟩
end
noncomputable def foundD (c:Str) (g:GFX):GF := fun ds => (g ds).bind fun r => match r with
  | .ok d _ => some (.tuple [.str "told",d],false)
  | .rx c' d => if c'=c then some (.tuple [.str "refused",d,.tuple [.bool true,.bool true],.bool false],false) else none
theorem pe_gcls {X:Cx} {x:Str} {C:Addr} {pos:Pos} (hg:Gl X x) (hm:X.mg x=some (.ref C)) (hd:(x==("__debug__":Str))=false := by decide):PE X (.Name x pos) (tC (.ref C)) :=
  fun _ _ _ H _ I h => ld_glob I hg hm ⟨.ref C,H,I,rfl,h⟩ hd
noncomputable def tIsx (K:qB) (C:Addr) (te tc:TE):TE := tCB (rIsX K C) (tCons te (tCons tc tNil))
noncomputable def tFound (K:qB) (C CE c1 c2 c3:Addr) (sp:Sp) (tI:TE→TT):TS :=
  tSeq (tAsg (tC .non) (gName 4)) (tSeq (tAsg (tC .non) (gName 5)) (tSeq (tAsg (tC .non) (gName 6))
  (tSeq (tTry C sp (tCons (tVar 0) (tCons (tVar 1) (tCons (tVar 2) tNil))) (tSeq (tAsg (tVar 3) (gName 4)) (tAsg (tXat C (tVar 3)) (gName 5))) 6 3)
  (tSeq (tIfS (tI (tVar 4)) (tRet (tTup (tCons (tC (.str "told")) (tCons (tVar 6) tNil)))) tNext)
  (tSeq (tAsg (tTup (tCons (tIsx K C (tVar 4) (tC (.ref CE))) (tCons (tIsx K C (tVar 4) (tC (.ty "ValueError"))) tNil))) (gName 7))
  (tRet (tTup (tCons (tC (.str "refused")) (tCons (tVar 5) (tCons (tVar 7) (tCons (tIsx K C (tVar 4) (tTup (tCons (tC (.ref c1)) (tCons (tC (.ref c2)) (tCons (tC (.ref c3)) tNil))))) tNil)))))))))))
theorem fn_found {K:qB} {cl:Str→Addr} {c:Str} {CE c1 c2 c3:Addr} {g:GFX} {tI:TE→TT} (hI:∀ (i:Nat) (σ:St) (H:Hp) (Q:Bool→Hp→Prop) (v:V),σ[i]?=some (some v)→Q (decide (v=.non)) H→tI (tVar i) σ H Q)
    (k1:PySem.W.kitOne K (.ref (cl c)) (.ref CE)=some true) (k2:PySem.W.kitOne K (.ref (cl c)) (.type "ValueError")=some true) (k3:PySem.W.kitAny K (.ref (cl c)) [.ref c1,.ref c2,.ref c3]=some false)
    {vs:List V} {H:Hp} {Q:VK} {E:XK} (h:spD 3 (foundD c g) vs H Q E) {a0 a1 a2 a3 a4 a5 a6 a7:Str} :
    tFound K (cl c) CE c1 c2 c3 (spX cl 3 g) tI {nx := fun _ H' => Q .non H',rt := Q} (start [a0,a1,a2,a3,a4,a5,a6,a7] vs) H := by
  have z2:2≤qM := by rw [qAT];omega
  have z3:3≤qM := by rw [qAT];omega
  have z4:4≤qM := by rw [qAT];omega
  obtain ⟨fx,ds,d,fr,hn,hf,r,hg0,k⟩ := h
  obtain ⟨res,er,hg⟩ := qA.mp hg0
  clear hg0
  have hl:vs.length=3 := by rw [← r.length];exact hn
  match vs,hl with
  | [v0,v1,v2],_ =>
    refine ⟨v0,rfl,v1,rfl,v2,rfl,fx,ds,res,hn,hf,r,er,?_⟩
    cases res with
    | ok d' fr' =>
      cases hg
      intro v H2 s2 rt
      refine hI 4 _ _ _ _ rfl ?_
      refine iteT ⟨v,rfl,z2,fun p hp => ?_⟩
      have hA:∀ b,fx b→∃ o,H2 b=some o := fun b z => let ⟨o,e⟩ := hf b z;⟨o,s2 b o e⟩
      refine k _ _ (s2.trans (Same.new hp)) ⟨?_,fun z => by cases z⟩
      exact new_rpT hp (off_new hA hp) (rps_cons rp_mk_str (rps_cons rt.1 rps_nil))
    | rx c' d' =>
      replace hg:(if c'=c then some (PyData.tuple [.str "refused",d',.tuple [.bool true,.bool true],.bool false],false) else none)=some (d,fr) := hg
      by_cases hc:c'=c
      · rw [if_pos hc] at hg
        subst hc
        cases hg
        intro c od H2 rx
        obtain ⟨hc,s2,fl,dx,w,rfl,hd,rp⟩ := rx
        refine ⟨hc,dx,rfl,fun e H3 q1 q2 ⟨tv,he⟩ => ?_⟩
        have hd3:H3 dx=some (.xd [("at",w)]) := q2 _ _ hd (fun φ z => by cases z)
        have s3:Same H H3 := fun b o z => q1 b o z (s2 b o z)
        refine ⟨_,rfl,_,rfl,e,dx,tv,w,rfl,he,hd3,?_⟩
        refine hI 4 _ _ _ (.ref e) rfl ?_
        refine iteF ?_
        refine ⟨_,rfl,e,dx,tv,true,he,⟨_,rfl,e,dx,tv,true,he,⟨z2,fun p hp => ?_⟩,.inr (.inl ⟨_,rfl,k2⟩)⟩,.inl ⟨_,rfl,k1⟩⟩
        have he4:upd H3 p (.tup [.bl true,.bl true]) e=some (.ext (xeD e (cl c') dx tv)) := by rw [upd_ne (ne_of_none he hp)];exact he
        refine ⟨w,rfl,.ref p,rfl,.ref e,rfl,z3,fun p2 hp2 => ?_⟩
        have he5:upd (upd H3 p (.tup [.bl true,.bl true])) p2 (.tup [.ref c1,.ref c2,.ref c3]) e=some (.ext (xeD e (cl c') dx tv)) := by rw [upd_ne (ne_of_none he4 hp2)];exact he4
        refine ⟨e,dx,tv,false,he5,⟨z4,fun p3 hp3 => ?_⟩,.inr (.inr ⟨p2,_,[.ref c1,.ref c2,.ref c3],rfl,upd_same,fun its vi => ?_,k3⟩)⟩
        · have s4 := s3.trans (Same.new (o := .tup [.bl true,.bl true]) hp)
          have s5 := s4.trans (Same.new (o := .tup [.ref c1,.ref c2,.ref c3]) hp2)
          have hA:∀ b,fx b→∃ o,H3 b=some o := fun b z => let ⟨o,e⟩ := hf b z;⟨o,s3 b o e⟩
          have hA5:∀ b,fx b→∃ o,upd (upd H3 p (.tup [.bl true,.bl true])) p2 (.tup [.ref c1,.ref c2,.ref c3]) b=some o := fun b z => let ⟨o,e⟩ := hf b z;⟨o,s5 b o e⟩
          refine k _ _ (s5.trans (Same.new hp3)) ⟨new_rpT hp3 (off_new hA5 hp3) (rps_cons rp_mk_str (rps_cons (rp_flat fl rp) (rps_cons ?_ (rps_cons rp_mk_bool rps_nil)))),fun z => by cases z⟩
          exact Rp.same (Offs.grow (Same.new hp2)) _ (new_rpT hp (off_new hA hp) (rps_cons rp_mk_bool (rps_cons rp_mk_bool rps_nil)))
        · cases vi with
          | cons r1 t =>
            cases t with
            | cons r2 t =>
              cases t with
              | cons r3 t =>
                cases t
                cases r1
                cases r2
                cases r3
                rfl
      · rw [if_neg hc] at hg
        cases hg
noncomputable def fSetI (f i:Nat) (gk:EFf) (fv:EF):SFf := fun env => match env[i]? with
  | some (.ac _) => (fv env).bind fun r => if flatD r.d=true then (gk env).bind fun x => (match x.2[i]?,x.1.d with
    | some (.ac (.list ds)),.int z => (ixN ds.length z).map fun j => .nx (x.2.set i (.ac (.list (ds.set j r.d))))
    | _,_ => none) else none
  | _ => none
theorem ssf_setIF {J:Nat→Prop} {f i:Nat} {tk tv:TE} {gk:EFf} {fv:EF} (h1:SEf f tk gk) (h2:SE tv fv):SSf J (tAsg tv (gSub (tVar i) tk rSetL)) (fSetI f i gk fv) := by
  intro fx H0 env σ H D h o e q
  unfold fSetI at e
  split at e
  · rename_i d0 ei0
    obtain ⟨r,er,e⟩ := qA.mp e
    split at e
    · rename_i fl
      obtain ⟨⟨k,v1⟩,ek,e⟩ := qA.mp e
      dsimp only at e
      split at e
      · rename_i ds z ei hz
        obtain ⟨j,ej,rfl⟩ := qG.mp e
        obtain ⟨a,g1,g2,g3,g4⟩ := h.ac i _ ei0
        refine h2 fx H0 env σ H h r er _ fun v H' s hv => ⟨_,g1,h1 fx H0 env σ H' (h.up s) k v1 ek _ fun u H2 m k2 n hk hn => ?_⟩
        have hr := hk.rp
        rw [hz] at hr
        cases rp_int hr
        obtain ⟨a',z1,_,_,z4⟩ := k2.ac i _ ei
        rw [g1] at z1
        cases z1
        obtain ⟨xs,hx,rx⟩ := z4
        refine ⟨a,xs,z,j,rfl,rfl,hx,by rw [← rx.length];exact ej,?_⟩
        exact q σ _ (k2.mut ei g1 ⟨_,upd_same,rx.setAt (rp_flat fl hv.rp) j⟩) fun _ _ => rfl
      · cases e
    · cases e
  · cases e
noncomputable def sPop2 (i j:Nat):SF := fun env => match env[j]? with
  | some (.ac (.list ds)) => ds.getLast?.bind fun a => ds.dropLast.getLast?.bind fun b => if flatD a=true∧flatD b=true then some (.nx ((env.set j (.ac (.list ds.dropLast.dropLast))).set i (.ac (.list [a,b])))) else none
  | _ => none
theorem EnvOk.popped {fx:Addr→Prop} {H0:Hp} {env:DEnv} {σ:St} {H:Hp} {j:Nat} {ds:List PyData} {a:PyData} (h:EnvOk fx H0 env σ H) (ej:env[j]?=some (.ac (.list ds))) (ea:ds.getLast?=some a) :
    ∃ p xs v,σ[j]?=some (some (.ref p))∧H p=some (.lst xs)∧xs[xs.length - 1]?=some v∧Rp (Offs (fun b => fx b∨own env σ b) H) a v∧EnvOk fx H0 (env.set j (.ac (.list ds.dropLast))) σ (upd H p (.lst xs.dropLast)) := by
  obtain ⟨p,g1,g2,g3,g4⟩ := h.ac j _ ej
  obtain ⟨xs,hx,rx⟩ := g4
  rw [List.getLast?_eq_getElem?] at ea
  obtain ⟨v,hv,rv⟩ := rx.get2 ea
  exact ⟨p,xs,v,g1,hx,by rw [← rx.length];exact hv,rv,h.mut ej g1 ⟨_,upd_same,rx.dropLast⟩⟩
theorem ssk_pop2 {J:Nat→Prop} {K:qB} {i j:Nat} (hJ:¬ J i):SSk J (tAsg (tLst (tCons (tBM0 K "list" rPop (tVar j)) (tCons (tBM0 K "list" rPop (tVar j)) tNil))) (gName i)) (sPop2 i j) := by
  intro fx H0 env σ H D h o e q
  unfold sPop2 at e
  split at e
  · rename_i ds ej
    obtain ⟨a,ea,e⟩ := qA.mp e
    obtain ⟨b,eb,e⟩ := qA.mp e
    split at e
    · rename_i fl
      cases e
      have hj:j<env.length := (qQ.mp ej).1
      obtain ⟨p,xs,v,g1,hx,hv,rv,h1⟩ := h.popped ej ea
      have ej1:(env.set j (.ac (.list ds.dropLast)))[j]?=some (.ac (.list ds.dropLast)) := by rw [qe hj]
      obtain ⟨p',ys,w,g1',hy,hw,rw',h2⟩ := h1.popped ej1 eb
      rw [g1] at g1'
      cases g1'
      rw [List.set_set] at h2
      refine ⟨_,g1,.inl ⟨rfl,_,SqL.of hx⟩,p,xs,v,rfl,rfl,hx,hv,_,g1,.inl ⟨rfl,_,SqL.of hy⟩,p,ys,w,rfl,rfl,hy,hw,(by show 2≤qM;rw [qAT];omega),fun l hl => ?_⟩
      have hA := h2.lims []
      have rs:Rps (Offs (lim fx (env.set j (.ac (.list ds.dropLast.dropLast))) σ []) (upd (upd H p (.lst xs.dropLast)) p (.lst ys.dropLast))) [a,b] [v,w] := rps_cons (rp_flat fl.1 rv) (rps_cons (rp_flat fl.2 rw') rps_nil)
      exact q _ _ (h2.put (r := ⟨.list [a,b],true,[]⟩) (Same.new hl) ⟨new_rp hl (off_new hA hl) rs,fun _ => ⟨l,rfl,hl,new_acc hl rs⟩⟩ i) fun k hk => qU fun z => hJ (by rw [z];exact hk)
    · cases e
  · cases e
noncomputable def DnX (P:Program) (w:World) (K:qB) (mg:Str→Option Value) (base:Heap) (x:Str) (ps:List Str) (k:Nat) (sp:Sp):Prop :=
  ∃ f fd,FnOk P w K mg base (CXE P w) k f fd ps sp∧mg x=some (.ref f)∧qV K (.ref f)=true∧Binds K fd ps []
section
variable {X:Cx}
theorem bpe_dnX {x:Str} {p pos:Pos} {e:Expr} {es:List Expr} {t:TA} {ps:List Str} {k:Nat} {sp:Sp} {E:XK} (D:DnX X.prog X.w X.K X.mg X.base x ps k sp) (hx:Passes (CXE X.prog X.w) X E) (hr:Room k X.A) (hg:Gl X x) (ha:Bx (PA X (e::es) t))
    (hdb:(x==("__debug__":Str))=false) (he:starEach (e::es) X.env=(false,eval e X.env)::starEach es X.env) (hpl:(backTo pos (starEach es X.env)).any (·.1)=false) :
    Bx (PE X (.Call (.Name x p) (e::es) [] pos) (tCall sp [] E t)) := by
  obtain ⟨f,fd,F,hm,hk,hb⟩ := D
  exact ⟨pe_call F hr hg hm hk hb .nil hx ha.out hdb he hpl⟩
noncomputable def XcOk (P:Program) (w:World) (K:qB) (mg:Str→Option Value) (base:Heap) (x:Str) (C:Addr):Prop :=
  ∃ f fd,XMk K C f∧FnOk P w K mg base CX0 1 f fd ["self", "at"] (spI C)∧Binds K fd ["self", "at"] []∧mg x=some (.ref C)∧PySem.W.findIn K (.ref C) "__class__" = some (some (.builtin "object.__class__"))∧PySem.W.exmOne K (.ref C) (.ref C)=some true
theorem bps_raise {E:XK} {C:Addr} {x:Str} {np cpos pos:Pos} {a:Expr} {te:TE} (M:XcOk X.prog X.w X.K X.mg X.base x C) (hr:Room 2 X.A) (hex:X.ex=[]) (hc:X.calm=true) (hx:Lvs X E) (hg:Gl X x) (ha:Bx (PE X a te))
    (hdb:(x==("__debug__":Str))=false) (he:starEach [a] X.env=[(false,eval a X.env)]):Bx (PS X (.Raise (some (.Call (.Name x np) [a] [] cpos)) none pos) (tRaise C E te)) := by
  obtain ⟨f,fd,M,F,hb,hm,_⟩ := M
  exact ⟨ps_raise M F hr hb hex hc hx hg hm ha.out hdb he⟩
end
theorem lvs_of {P:Program} {w:World} {K:qB} {mg:Str→Option Value} {base:Heap} {N:List Str} {qual:Str} {scope:Scope} {f:Addr} {cd:Value} {A:Around} {outer:List Env} {s:Shared} {H:Hp} {E:XK} (h0k:HOk P w H s.heap) :
    Lvs (cxOf (CXE P w) P w K mg base N qual scope f cd A outer s H E) (StX H E) := fun pins σ H1 s1 e C dx I F q => leaves I h0k F q
theorem kit_of {X:Cx} {pins:List (Addr×Obj)} {σ:St} {H:Hp} {s:Shared} {d:PyData} {x:V} {u:Value} (I:Inv X pins σ H s) (rx:RelV x u) (rp:Rp H d x):∃ Hh:Heap→Prop,PySem.W.KitX X.K u (.type (tyName d)) Hh∧Hh s.heap∧u≠.builtin "__main__.__loader__#opaque" := by
  cases d with
  | none => rw [rp_none rp] at rx;cases rx;exact ⟨_,qCF,True.intro,fun z => nomatch z⟩
  | bool b => rw [rp_bool rp] at rx;cases rx;exact ⟨_,qCG,True.intro,fun z => nomatch z⟩
  | int i => rw [rp_int rp] at rx;obtain ⟨t,rfl⟩ := rx;exact ⟨_,qCP,True.intro,fun z => nomatch z⟩
  | str y => rw [rp_str rp] at rx;obtain ⟨t,rfl⟩ := rx;exact ⟨_,qCO,True.intro,fun z => nomatch z⟩
  | list ds =>
    obtain ⟨a,xs,rfl,ha,_⟩ := rp_list rp
    cases rx
    obtain ⟨_,_,n,_,h1⟩ := (show ObjOk X.prog X.w H s.heap a (.lst xs) from I.hok a _ ha)
    exact ⟨_,qBU,⟨_,h1,rfl⟩,fun z => nomatch z⟩
  | tuple ds =>
    obtain ⟨a,xs,rfl,ha,_⟩ := rp_tuple rp
    cases rx
    obtain ⟨_,_,_,p⟩ := (show ObjOk X.prog X.w H s.heap a (.tup xs) from I.hok a _ ha)
    obtain ⟨o,h1,h2,_⟩ := p
    exact ⟨_,qB6,⟨o,h1,h2⟩,fun z => nomatch z⟩
  | dict ds =>
    obtain ⟨a,xs,rfl,ha,_⟩ := rp_dict rp
    cases rx
    obtain ⟨_,_,vs,_,p⟩ := (show ObjOk X.prog X.w H s.heap a (.dK xs) from I.hok a _ ha)
    obtain ⟨o,es,ep,h1,h2,_⟩ := p
    exact ⟨_,qBV,⟨o,h1,h2.1⟩,fun z => nomatch z⟩
noncomputable def rIsi2 (K:qB) (m n:String):List V→Hp→VK→Prop := fun xs H Q => ∃ x p d b,xs=[x,.ref p]∧H p=some (.tup [.ty m,.ty n])∧Rp H d x∧PySem.W.kitAny K (.type (tyName d)) [.type m,.type n]=some b∧Q (.bl b) H
theorem call_isi2 {X:Cx} {K:qB} (hK:X.K=K) {m n:String}:CallR X (.builtin "isinstance") (rIsi2 K m n) := by
  subst hK
  intro pins s σ H xs us Q I r h
  obtain ⟨x,p,d,b,rfl,hp,rp,kk,q⟩ := h
  obtain ⟨u1,u2,rfl,r1,r2⟩ := vals2 r
  cases r2
  obtain ⟨Hh,Z,hz,hne⟩ := kit_of I r1 rp
  obtain ⟨_,its,vi,op,hop,ho1,n',ho2⟩ := I.hok p _ hp
  have hi:its=[.type m,.type n] := by
    cases vi with
    | cons a t =>
      cases t with
      | cons b t =>
        cases t
        cases a
        cases b
        rfl
  subst hi
  obtain ⟨oc,od,odt,osl⟩ := op
  cases ho1
  cases ho2
  exact PySem.W.kia_tup Z I.kIn hz hop kk hne fun tk => ⟨.bl b,H,I.tok _,rfl,q⟩
noncomputable def eIsi2 (m n:String) (a:EF):EF := fun env => (a env).map fun x => ⟨.bool (isiB m x.d||isiB n x.d),false,[]⟩
theorem se_isi2 {K:qB} {m n:String} {te:TE} {f:EF} (h1:SE te f) (hk:∀ d,PySem.W.kitAny K (.type (tyName d)) [.type m,.type n]=some (isiB m d||isiB n d)) :
    SE (tCB (rIsi2 K m n) (tCons te (tCons (tTup (tCons (tC (.ty m)) (tCons (tC (.ty n)) tNil))) tNil))) (eIsi2 m n f) := by
  intro fx H0 env σ H h rr hr Q q
  unfold eIsi2 at hr
  obtain ⟨r,er,rfl⟩ := qG.mp hr
  refine h1 fx H0 env σ H h r er _ fun v H' s hv => ⟨by show 2≤qM;rw [qAT];omega,fun p hp => ?_⟩
  refine ⟨v,p,r.d,_,rfl,upd_same,Rp.same ((Offs.same _ _).trans (Same.new hp)) _ hv.rp,hk _,q _ _ (s.trans (Same.new hp)) ⟨rp_mk_bool,fun z => by cases z⟩⟩
theorem kit2_bs {K:qB}:∀ d,PySem.W.kitAny K (.type (tyName d)) [.type "bool",.type "str"]=some (isiB "bool" d||isiB "str" d) := by intro d;cases d<;>rfl
noncomputable def Itd (a:Addr) (o:Obj) (kvs:List (Key×V)):It :=
  ⟨fun i H => i<kvs.length∧H a=some (.frz o (.dK kvs)),fun i H x H' => H'=H∧∃ k v,kvs[i]?=some (k,v)∧x=kV k,fun i H => kvs.length≤i∧H a=some (.frz o (.dK kvs))⟩
theorem KV.at:∀ {kvs:List (Key×V)} {vs:List (Key×Value)} {i:Nat} {k:Key} {v:V},KV kvs vs→kvs[i]?=some (k,v)→∃ u,vs[i]?=some (k,u)
  | _,_,i,k,v,.nil,e => by simp at e
  | _,_,0,k,v,.cons h t,e => by
    simp at e
    subst e
    exact ⟨_,by rw [qAY,show k=_ from h.1]⟩
  | _,_,i+1,k,v,.cons h t,e => by
    obtain ⟨u,q⟩ := KV.at (i := i) (k := k) (v := v) t (by simpa using e)
    exact ⟨u,by simpa using q⟩
theorem frz_at {X:Cx} {pins:List (Addr×Obj)} {σ:St} {H:Hp} {s:Shared} {a:Addr} {o:Obj} {kvs:List (Key×V)} {es:Array DictEntry} {ep:Nat} (I:Inv X pins σ H s) (h:H a=some (.frz o (.dK kvs))) (hd:o.data=.dict es ep) :
    ∃ vs,KV kvs vs∧(a==sysModules)=false∧s.heap.DictAt (mixKind X.prog X.w) a vs ep := by
  obtain ⟨ho,_,hs,vs,kv,o',es',ep',ho',h1,h2,r⟩ := I.hok a _ h
  rw [ho] at ho'
  cases ho'
  rw [hd] at h2
  cases h2
  exact ⟨vs,kv,hs,o,es,ho,h1,hd,r⟩
theorem turn_dict {P:Program} {w:World} {K:qB} {tg:Expr} (a it:Addr) {o:Obj} {kvs:List (Key×V)} {es:Array DictEntry} {ep:Nat} (hd:o.data=.dict es ep):Turn P w K tg (Itd a o kvs) [it] it (fun i h => h.IsKeyIter it a i kvs.length ep) where
  mem := by simp
  obj := fun i h st b hb => by
    have e:b=it := by simpa using hb
    subst e
    obtain ⟨o,e,c,d⟩ := st
    exact ⟨o,e,fun v z => by rw [d] at z;cases z⟩
  keep := fun i h h' st k => by
    obtain ⟨o,e,r⟩ := st
    exact ⟨o,k it (by simp) o e,r⟩
  item := by
    intro X hP hw hK hc i pins s σ H E I hf st hg
    subst hP hw hK
    obtain ⟨hi,hfz⟩ := hg
    obtain ⟨vs,kv,_,hm⟩ := frz_at I hfz hd
    obtain ⟨f0,f1,f2,f3,f4,f5⟩ := hf it (by simp)
    obtain ⟨⟨k,v⟩,hk⟩:∃ p,kvs[i]?=some p := ⟨kvs[i],qF hi⟩
    obtain ⟨u,hu⟩ := KV.at kv hk
    rw [kv.length] at st
    refine wpAny_pyNext_dict_item st hm hu fun key h' ik st' sb => ?_
    have I1:Inv X pins σ H {s with heap := h'} := I.turned (t' := s.toks) (fun b o hb e => (sb.2 b hb).trans e) f0 f1 f3 f4 f5
    obtain ⟨o',e,c,d⟩ := id st'
    have rk:RelV (kV k) key := by
      rcases keyIs_shape (show keyIs k key=true from ik) with ⟨j,t,rfl,rfl⟩|⟨y,t,rfl,rfl⟩
      · exact ⟨t,rfl⟩
      · exact ⟨t,rfl⟩
    rw [← kv.length] at st'
    exact ⟨key,rfl,go_of (s := {s with heap := h'}) e c d (by decide) ⟨kV k,H,I1,rk,⟨rfl,k,v,hk,rfl⟩,st',fun b hb => (hf b hb).1⟩⟩
  done := by
    intro X hP hw hK hc i pins s σ H E I hf st hg
    subst hP hw hK
    obtain ⟨hi,hfz⟩ := hg
    obtain ⟨vs,kv,_,hm⟩ := frz_at I hfz hd
    obtain ⟨f0,f1,f2,f3,f4,f5⟩ := hf it (by simp)
    rw [kv.length] at st
    exact wpAny_pyNext_dict_end (I.ok.hd hc) st hm (List.getElem?_eq_none_iff.mpr (by rw [← kv.length];exact hi)) fun h' eb => ⟨rfl,I.turned (t' := s.toks) (fun b o hb e => eb b o hb e) f0 f1 f3 f4 f5⟩
  self := fun _ _ _ _ _ st h => wpAny_pyIter_keyiter st h
section
variable {X:Cx}
noncomputable def iDictF (tl:TE):TI := fun σ H R => tl σ H fun x H1 => ∃ a o kvs,x=.ref a∧H1 a=some (.frz o (.dK kvs))∧R (Itd a o kvs) H1
theorem pi_dictF {tg l:Expr} {tl:TE} (hl:PE X l tl):PI X tg l (iDictF tl) := by
  intro pins s σ H R I h
  refine thn (hl pins s σ H _ I h) fun v s1 ⟨x,H1,I1,r1,q1⟩ => ?_
  obtain ⟨a,o,kvs,e,hfz,q⟩ := q1
  subst e
  cases r1
  obtain ⟨ho,_,hs,vs,kv,o',es,ep,ho',h1,h2,r⟩ := I1.hok a _ hfz
  rw [ho] at ho'
  cases ho'
  refine wpAny_pyIter_dict hs (⟨o,es,ho,h1,h2,r⟩:s1.heap.DictAt (mixKind X.prog X.w) a vs ep) ?_
  refine ⟨s1.heap.objs.size,[s1.heap.objs.size],_,_,H1,rfl,I1.kept (t' := s1.toks) fun b o e => qE _ e,turn_dict a _ h2,⟨_,qAB _ rfl,rfl,by rw [kv.length];rfl⟩,fun b hb => ?_,q⟩
  have e:b=s1.heap.objs.size := by simpa using hb
  subst e
  exact I1.fpOk (qR _) (I1.hok.fresh (qR _))
noncomputable def tFrz (i:Nat) (t:TE):TE := fun σ H Q => ∃ a kvs,σ[i]?=some (some (.ref a))∧H a=some (.dK kvs)∧∀ o,t σ (upd H a (.frz o (.dK kvs))) fun v H' => H' a=some (.frz o (.dK kvs))∧Q v (upd H' a (.dK kvs))
theorem pe_frz {e:Expr} {t:TE} {i:Nat} (he:PE X e t):PE X e (tFrz i t) := by
  intro pins s σ H Q I h
  obtain ⟨a,kvs,_,ha,q⟩ := h
  obtain ⟨z,hs,vs,kv,o,es,ep,ho,r⟩ := I.hok a _ ha
  have n0:∀ ob u,X.H₀ a≠some (.frz ob u) := fun ob u y => by
    have := I.base.frzs a ob u y
    rw [ha] at this;cases this
  have go:∀ {H1 H2:Hp} {s1:Shared},Inv X pins σ H1 s1→(∀ b,b≠a→H2 b=H1 b)→(∃ u1,H1 a=some u1∧(∀ xs,u1≠.tup xs)∧(∀ ps,u1≠.tbl ps)∧(∀ y,u1≠.own y))→(∃ u,H2 a=some u∧ObjOk X.prog X.w H2 s1.heap a u)→Inv X pins σ H2 s1 := fun {H1 H2 s1} J oth ⟨u1,e1,t1,t2,t3⟩ ⟨u,eu,ou⟩ => by
    have e0:∀ b,H1 b=none→H2 b=none := fun b y => by
      by_cases hb:b=a
      · rw [hb,e1] at y;cases y
      · rw [oth b hb];exact y
    have tp:∀ b xs,H1 b=some (.tup xs)→H2 b=some (.tup xs) := fun b xs y => by
      by_cases hb:b=a
      · rw [hb,e1] at y;cases y;exact absurd rfl (t1 xs)
      · rw [oth b hb];exact y
    refine ⟨J.ok,J.os,J.bare,⟨J.base.keep,J.base.slot,fun b ob y n hx => e0 b (J.base.free b ob y n hx),J.base.there,fun b xs y => tp b xs (J.base.tups b xs y),fun b ob u' y => ?_,fun b ps y => ?_⟩,J.loc,J.cell,e0 _ J.free,fun y c ec => e0 _ (J.freeC y c ec),fun p hp => ?_,fun b w y => ?_,J.len⟩
    · by_cases hb:b=a
      · subst hb;exact absurd y (n0 ob u')
      · rw [oth b hb];exact J.base.frzs b ob u' y
    · obtain ⟨more,y'⟩ := J.base.tbls b ps y
      by_cases hb:b=a
      · subst hb;rw [e1] at y';cases y';exact absurd rfl (t2 _)
      · exact ⟨more,by rw [oth b hb];exact y'⟩
    · obtain ⟨p1,p2,p3⟩ := J.pin p hp
      exact ⟨p1,e0 _ p2,p3⟩
    · by_cases hb:b=a
      · subst hb;rw [eu] at y;cases y;exact ou
      · rw [oth b hb] at y
        refine (J.hok b w y).stay (fun c v _ q => q) (fun c y => ?_) (fun c xs y => tp c xs y)
        by_cases hc:c=a
        · rw [hc,e1] at y;cases y;exact absurd rfl (t3 b)
        · rw [oth c hc];exact y
  have I1:Inv X pins σ (upd H a (.frz o (.dK kvs))) s := go I (fun b hb => upd_ne hb) ⟨_,ha,(fun _ y => by cases y),(fun _ y => by cases y),(fun _ y => by cases y)⟩ ⟨_,upd_same,ho,z,hs,vs,kv,o,es,ep,ho,r⟩
  refine thn (he pins s σ _ _ I1 (q o)) fun u s1 ⟨v,H1,J,rv,hf,q1⟩ => ?_
  obtain ⟨ho1,ok1⟩ := J.hok a _ hf
  obtain ⟨z1,hs1,vs1,kv1,r1⟩ := ok1
  exact ⟨v,upd H1 a (.dK kvs),go (H2 := upd H1 a (.dK kvs)) J (fun b hb => upd_ne hb) ⟨_,hf,(fun _ y => by cases y),(fun _ y => by cases y),(fun _ y => by cases y)⟩ ⟨_,upd_same,z1,hs1,vs1,kv1,r1⟩,rv,q1⟩
theorem bpe_frz {e:Expr} {t:TE} {i:Nat} (he:Bx (PE X e t)):Bx (PE X e (tFrz i t)) := ⟨pe_frz he.out⟩
theorem bpi_dictF {tg l:Expr} {tl:TE} (hl:Bx (PE X l tl)):Bx (PI X tg l (iDictF tl)) := ⟨pi_dictF hl.out⟩
end
noncomputable def eKeysIn (i j:Nat):EF := fun env => match env[i]?,env[j]? with
  | some (.pl (.dict a)),some (.pl (.dict b)) => if a.length<100000 then (a.mapM fun p => keyD p.1).map fun ks => ⟨.list (ks.map fun k => .bool (b.any fun p => decide (keyD p.1=some k))),true,[]⟩ else none
  | _,_ => none
theorem keys_of {H:Hp}:∀ {kvs:List (PyData×PyData)} {ps:List (Key×V)} {ks:List Key},Rpd H kvs ps→(kvs.mapM fun p => keyD p.1)=some ks→ks=ps.map (·.1)
  | [],ps,ks,h,e => by
    unfold Rpd at h
    subst h
    simp at e
    subst e
    rfl
  | (k,d)::r,ps,ks,h,e => by
    unfold Rpd at h
    obtain ⟨k',v,vs,rfl,h0,h1,h2⟩ := h
    rw [List.mapM_cons] at e
    have h0':keyD (k,d).1=some k' := h0
    rw [h0'] at e
    obtain ⟨ks',e1,e2⟩ := qA.mp (show ((r.mapM fun p => keyD p.1).bind fun x => some (k'::x))=some ks from e)
    cases e2
    rw [keys_of h2 e1]
    rfl
theorem any_of {H:Hp} {k:Key}:∀ {kvs:List (PyData×PyData)} {ps:List (Key×V)},Rpd H kvs ps→(kvs.any fun p => decide (keyD p.1=some k))=(valV ps k).isSome
  | [],ps,h => by
    unfold Rpd at h
    subst h
    rfl
  | (k0,d)::r,ps,h => by
    unfold Rpd at h
    obtain ⟨k',v,vs,rfl,h0,h1,h2⟩ := h
    rw [qAS,any_of h2,h0]
    unfold valV
    rw [qAN]
    by_cases e:k'=k
    · simp [e]
    · simp [e]
theorem se_keysIn {i j:Nat} {own:List Str} (ho:own.length=1):SE (tFrz i (tComp1 (iDictF (tVar i)) (gName 0) tAll (tDIn (tVar 0) (tVar 1)) own [j])) (eKeysIn i j) := by
  intro fx H0 env σ H h rr hr Q q
  unfold eKeysIn at hr
  split at hr
  · rename_i a b ei ej
    split at hr
    · rename_i hl
      obtain ⟨ks,ek,rfl⟩ := qG.mp hr
      obtain ⟨va,sa,ra⟩ := h.pl i _ ei
      obtain ⟨vb,sb,rb⟩ := h.pl j _ ej
      obtain ⟨pa,psa,rfl,ha,rda⟩ := rp_dict ra
      obtain ⟨pb,psb,rfl,hb,rdb⟩ := rp_dict rb
      have hks := keys_of rda ek
      have ha := off_at ha
      have hb := off_at hb
      refine ⟨pa,psa,sa,ha,fun o => ⟨_,sa,pa,o,psa,rfl,upd_same,fun p hp => ?_⟩⟩
      have np:pa≠p := fun z => by rw [← z,upd_same] at hp;cases hp
      have hpH:H p=none := by rw [upd_ne (qAo np)] at hp;exact hp
      have nb:pb≠p := fun z => by rw [z,hpH] at hb;cases hb
      have rdB:∀ ys,Rd (upd (upd H pa (.frz o (.dK psa))) p (.lst ys)) pb (.dK psb) := fun ys => by
        by_cases e:pb=pa
        · subst e
          rw [ha] at hb
          cases hb
          exact .inr ⟨o,by rw [upd_ne np,upd_same]⟩
        · exact .inl (by rw [upd_ne nb,upd_ne e];exact hb)
      match own,ho with
      | [x0],_ =>
      have t1:(tau [x0] [j] σ)[1]?=some (some (.ref pb)) := by
        unfold tau
        show some (σ.getD j none)=_
        rw [qh,sb];rfl
      refine ⟨fun i' m σ' H' => m=psa.length - i'∧i'≤psa.length∧σ'.length=2∧σ'[1]?=some (some (.ref pb))∧H'=upd (upd H pa (.frz o (.dK psa))) p (.lst ((psa.take i').map fun kv => V.bl (valV psb kv.1).isSome)),⟨psa.length,rfl,qAZ _,rfl,t1,rfl⟩,?_⟩
      rintro i' m σ' H' ⟨rfl,hi,l2,s1,rfl⟩
      have hfz:upd (upd H pa (.frz o (.dK psa))) p (.lst ((psa.take i').map fun kv => V.bl (valV psb kv.1).isSome)) pa=some (.frz o (.dK psa)) := by rw [upd_ne np,upd_same]
      by_cases hlt:i'<psa.length
      · refine .inr ⟨⟨hlt,hfz⟩,fun σ'' H'' => i'+1≤psa.length∧σ''.length=2∧σ''[1]?=some (some (.ref pb))∧H''=upd (upd H pa (.frz o (.dK psa))) p (.lst ((psa.take (i'+1)).map fun kv => V.bl (valV psb kv.1).isSome)),?_,?_⟩
        · rintro σ'' H'' ⟨h1,h2,h3,h4⟩
          exact ⟨psa.length - (i'+1),by omega,rfl,h1,h2,h3,h4⟩
        · rintro x H'' ⟨rfl,k,v,hk,rfl⟩
          unfold gName tAll
          dsimp only
          rw [if_pos rfl]
          refine ⟨kV k,?_,.ref pb,?_,pb,valV psb k,rfl,.inl ⟨psb,k,rdB _,rfl,rfl⟩,_,upd_same,?_,hlt,?_,?_,?_⟩
          · rw [qe (by omega)]
          · rw [qU (by decide)];exact s1
          · rw [qD,qBG,Nat.min_eq_left (by omega)]
            exact size_lt (by have := rda.length;omega)
          · rw [qj];exact l2
          · rw [qU (by decide)];exact s1
          · rw [upd_upd]
            have:psa.take (i'+1)=psa.take i'++[(k,v)] := by rw [List.take_add_one,hk];rfl
            rw [this,qAG]
            rfl
      · have hi':i'=psa.length := by omega
        subst hi'
        refine .inl ⟨⟨qR _,hfz⟩,hfz,?_⟩
        rw [qBE]
        have hback:upd (upd (upd H pa (.frz o (.dK psa))) p (.lst (psa.map fun kv => V.bl (valV psb kv.1).isSome))) pa (.dK psa)=upd H p (.lst (psa.map fun kv => V.bl (valV psb kv.1).isSome)) := by
          funext c
          by_cases e1:c=pa
          · subst e1;rw [upd_same,upd_ne np,ha]
          · rw [upd_ne e1]
            by_cases e2:c=p
            · subst e2;rw [upd_same,upd_same]
            · rw [upd_ne e2,upd_ne e2,upd_ne e1]
        rw [hback]
        have hA := h.lims []
        have rs:Rps (Offs (lim fx env σ []) H) (ks.map fun k => PyData.bool (b.any fun p => decide (keyD p.1=some k))) (psa.map fun kv => V.bl (valV psb kv.1).isSome) := by
          rw [hks,qA3]
          have g:∀ l:List (Key×V),Rps (Offs (lim fx env σ []) H) (l.map ((fun k => PyData.bool (b.any fun p => decide (keyD p.1=some k))) ∘ fun x => x.1)) (l.map fun kv => V.bl (valV psb kv.1).isSome) := by
            intro l
            induction l with
            | nil => exact rps_nil
            | cons y l ih => exact rps_cons (by show Rp _ (.bool (b.any fun p => decide (keyD p.1=some y.1))) _;rw [any_of rdb];exact rp_mk_bool) ih
          exact g psa
        exact q _ _ (Same.new hpH) ⟨new_rp hpH (off_new hA hpH) rs,fun _ => ⟨p,rfl,hpH,new_acc hpH rs⟩⟩
    · cases hr
  · cases hr
end L2
namespace Bc
open PySem L2
noncomputable def F_check_kindsX:SFX := (xSeq (xOf (sSet 2 (eCall 1 G_names_of (aCons (eVar 0) aNil))))
    (xFor (iItems (eVar 1)) (gN 3)
    (xIf (tBool (eOp (inD true) (eVar 3) (eVar 2))) (xRaise "NoKind" (eVar 3)) (xOf sNil))))
noncomputable def G_check_kindsX:GFX := fnX 4 F_check_kindsX
noncomputable def F_is_within:SF := (sRet (eCB (anyD fun bs => bs.all id) (aCons (eKeysIn 0 1) aNil)))
noncomputable def G_is_within:GF := fnD 2 F_is_within
noncomputable def F_withinX:SFX := (xSeq (xCall 2 G_check_kindsX (aCons (eVar 0) (aCons (eOp addD (eCall 1 G_names_in (aCons (eVar 1) aNil)) (eCall 1 G_names_in (aCons (eVar 2) aNil))) aNil)))
    (xSeq (xOf (sSet 3 (eCall 1 G_roofs_of (aCons (eVar 0) aNil))))
    (xOf (sRet (eCall 2 G_is_within (aCons (eCall 2 G_roof_of (aCons (eVar 3) (aCons (eVar 1) aNil))) (aCons (eCall 2 G_roof_of (aCons (eVar 3) (aCons (eVar 2) aNil))) aNil)))))))
noncomputable def G_withinX:GFX := fnX 4 F_withinX
noncomputable def F_law_names_k23:SFf := (fSeq (fSet 2 (fOp ixD (fPure 0 (eLst (aCons (eC (.int 0)) (aCons (eC (.int 1)) (aCons (eC (.int 2)) (aCons (eC (.int 7)) aNil)))))) (fCallF 0 2 G_law_take (fCons (fPure 0 (eC (.int 4))) (fNil 0)))))
    (fSeq (fSet 3 (fCallF 0 2 G_law_take (fCons (fPure 0 (eC (.int 2))) (fNil 0))))
    (fSeq (fSet 4 (fCallF 0 2 G_law_take (fCons (fPure 0 (eC (.int 8))) (fNil 0))))
    (fSeq (fSet 5 (fCallF 0 2 G_law_take (fCons (fPure 0 (eC (.int 26))) (fNil 0))))
    (fSeq (fSet 6 (fOp ixD (fPure 0 (eLst (aCons (eC (.int 1)) (aCons (eC (.int 3)) (aCons (eC (.int 5)) (aCons (eC (.int 7)) (aCons (eC (.int 9)) (aCons (eC (.int 11)) (aCons (eC (.int 15)) (aCons (eC (.int 17)) (aCons (eC (.int 19)) (aCons (eC (.int 21)) (aCons (eC (.int 23)) (aCons (eC (.int 25)) aNil)))))))))))))) (fCallF 0 2 G_law_take (fCons (fPure 0 (eC (.int 12))) (fNil 0)))))
    (fSeq (fSet 7 (fCallF 0 2 G_law_letters (fCons (fPure 0 (eVar 2)) (fNil 0))))
    (fSeq (fS (sSet 8 (eLst aNil)))
    (fSeq (fFor (iRange1 (aCons (eVar 1) aNil)) (gN 9)
    (fSeq (fIfP (tBool (eOp eqD (eVar 3) (eC (.int 0)))) (fSet 7 (fCallF 0 2 G_law_letters (fCons (fCallF 0 2 G_law_take (fCons (fPure 0 (eOp addD (eVar 2) (eC (.int 1)))) (fNil 0))) (fNil 0)))) fNx)
    (fSeq (fS (sSet 10 (eOp ixD (eC (.str "abcdefghijklmnopqrstuvwxyz")) (eOp modD (eOp addD (eVar 5) (eOp mulD (eVar 6) (eVar 9))) (eC (.int 26))))))
    (fApp 8 (fPure 0 (eOp addD (eOp addD (eSl (eVar 7) pNone (pSome (eVar 4))) (eVar 10)) (eSl (eVar 7) (pSome (eVar 4)) pNone)))))))
    (fRetV 8)))))))))
noncomputable def G_law_names_k23:GE := fnF 11 F_law_names_k23
noncomputable def F_law_arm_k23:SFf := (fSeq (fS (sSet 2 (eLst aNil)))
    (fSeq (fForF (iRange1F (fCons (fOp addD (fPure 0 (eC (.int 1))) (fCallF 0 2 G_law_take (fCons (fPure 0 (eC (.int 4))) (fNil 0)))) (fNil 0))) (gN 3)
    (fSeq (fSet 4 (fOp ixD (fPure 0 (eVar 1)) (fCallF 0 2 G_law_take (fCons (fPure 0 (eCB lenD (aCons (eVar 1) aNil))) (fNil 0)))))
    (fIfP (tBool (eOp (inD true) (eVar 4) (eVar 2))) (fApp 2 (fPure 0 (eVar 4))) fNx)))
    (fSeq (fIf (gB (fOp eqD (fCallF 0 2 G_law_take (fCons (fPure 0 (eC (.int 3))) (fNil 0))) (fPure 0 (eC (.int 0))))) (fRetP (eIxV 2 (eC (.int 0)))) fNx)
    (fRetP (eCB tupleD (aCons (eVar 2) aNil))))))
noncomputable def G_law_arm_k23:GE := fnF 5 F_law_arm_k23
noncomputable def F_law_bent:SFf := (fSeq (fIfP (tTru (eIsi "tuple" (eVar 1))) (fSeq (fS (sSet 3 (eCB listD (aCons (eVar 1) aNil))))
    (fSeq (fSetI 0 3 (fCallF 0 2 G_law_take (fCons (fPure 0 (eCB lenD (aCons (eVar 3) aNil))) (fNil 0))) (eVar 2))
    (fRetP (eCB tupleD (aCons (eVar 3) aNil))))) fNx)
    (fRetV 2))
noncomputable def G_law_bent:GE := fnF 4 F_law_bent
noncomputable def G_law_found:GF := (foundD "NoKind" G_withinX)
theorem boot_abs:bootBuiltins "abs" = some (.builtin "abs") := by decide +kernel
theorem boot_all:bootBuiltins "all" = some (.builtin "all") := by decide +kernel
theorem boot_bool:bootBuiltins "bool" = some (.type "bool") := by decide +kernel
theorem boot_isinstance:bootBuiltins "isinstance" = some (.builtin "isinstance") := by decide +kernel
theorem boot_len:bootBuiltins "len" = some (.builtin "len") := by decide +kernel
theorem boot_list:bootBuiltins "list" = some (.type "list") := by decide +kernel
theorem boot_min:bootBuiltins "min" = some (.builtin "min") := by decide +kernel
theorem boot_str:bootBuiltins "str" = some (.type "str") := by decide +kernel
theorem boot_tuple:bootBuiltins "tuple" = some (.type "tuple") := by decide +kernel
noncomputable def top (i:Nat):Stmt := PySem.Challenge.pw_bestcalls_k23_arms_within_arms.main.body.getD i (.Pass ⟨0,0,0,0⟩)
structure Txt (mg:Str→Option Value):Prop where
  abs:mg "abs" = none
  all:mg "all" = none
  bool:mg "bool" = none
  isinstance:mg "isinstance" = none
  len:mg "len" = none
  list:mg "list" = none
  min:mg "min" = none
  range:mg "range" = none
  str:mg "str" = none
  tuple:mg "tuple" = none
noncomputable abbrev s_names_of:Stmt := top 7
noncomputable abbrev N_names_of:List Str := ["web"]
theorem nd_names_of:N_names_of.Nodup := by decide +kernel
theorem sc_names_of:FnScope N_names_of ["web"] (defScope s_names_of) := ⟨rfl,rfl,rfl,nd_names_of,rfl,by decide +kernel,by decide +kernel⟩
noncomputable abbrev s_names_in:Stmt := top 8
noncomputable abbrev N_names_in:List Str := ["arm"]
theorem nd_names_in:N_names_in.Nodup := by decide +kernel
theorem sc_names_in:FnScope N_names_in ["arm"] (defScope s_names_in) := ⟨rfl,rfl,rfl,nd_names_in,rfl,by decide +kernel,by decide +kernel⟩
noncomputable abbrev s_check_kinds:Stmt := top 9
noncomputable abbrev N_check_kinds:List Str := ["web", "names", "known", "name"]
theorem nd_check_kinds:N_check_kinds.Nodup := by decide +kernel
theorem sc_check_kinds:FnScope N_check_kinds ["web", "names"] (defScope s_check_kinds) := ⟨rfl,rfl,rfl,nd_check_kinds,rfl,by decide +kernel,by decide +kernel⟩
noncomputable abbrev s_roofs_of:Stmt := top 10
noncomputable abbrev N_roofs_of:List Str := ["web", "roofs", "name", "elders", "roof", "elder"]
theorem nd_roofs_of:N_roofs_of.Nodup := by decide +kernel
theorem sc_roofs_of:FnScope N_roofs_of ["web"] (defScope s_roofs_of) := ⟨rfl,rfl,rfl,nd_roofs_of,rfl,by decide +kernel,by decide +kernel⟩
noncomputable abbrev s_roof_of:Stmt := top 11
noncomputable abbrev N_roof_of:List Str := ["roofs", "arm", "roof", "name"]
theorem nd_roof_of:N_roof_of.Nodup := by decide +kernel
theorem sc_roof_of:FnScope N_roof_of ["roofs", "arm"] (defScope s_roof_of) := ⟨rfl,rfl,rfl,nd_roof_of,rfl,by decide +kernel,by decide +kernel⟩
noncomputable abbrev s_is_within:Stmt := top 13
noncomputable abbrev N_is_within:List Str := ["roof", "other_roof"]
theorem nd_is_within:N_is_within.Nodup := by decide +kernel
theorem sc_is_within:FnScope N_is_within ["roof", "other_roof"] (defScope s_is_within) := ⟨rfl,rfl,rfl,nd_is_within,rfl,by decide +kernel,by decide +kernel⟩
noncomputable abbrev s_within:Stmt := top 14
noncomputable abbrev N_within:List Str := ["web", "one", "other", "roofs"]
theorem nd_within:N_within.Nodup := by decide +kernel
theorem sc_within:FnScope N_within ["web", "one", "other"] (defScope s_within) := ⟨rfl,rfl,rfl,nd_within,rfl,by decide +kernel,by decide +kernel⟩
noncomputable abbrev s_law_feed:Stmt := top 16
noncomputable abbrev N_law_feed:List Str := ["_law_script", "_law_k", "_law_cell", "_law_great"]
theorem nd_law_feed:N_law_feed.Nodup := by decide +kernel
theorem sc_law_feed:FnScope N_law_feed ["_law_script", "_law_k"] (defScope s_law_feed) := ⟨rfl,rfl,rfl,nd_law_feed,rfl,by decide +kernel,by decide +kernel⟩
noncomputable abbrev s_law_take:Stmt := top 17
noncomputable abbrev N_law_take:List Str := ["_law_feed_here", "_law_many", "_law_digit", "_law_step", "_law_mixed"]
theorem nd_law_take:N_law_take.Nodup := by decide +kernel
theorem sc_law_take:FnScope N_law_take ["_law_feed_here", "_law_many"] (defScope s_law_take) := ⟨rfl,rfl,rfl,nd_law_take,rfl,by decide +kernel,by decide +kernel⟩
noncomputable abbrev s_law_letters:Stmt := top 18
noncomputable abbrev N_law_letters:List Str := ["_law_feed_here", "_law_many", "_law_word", "_law_k"]
theorem nd_law_letters:N_law_letters.Nodup := by decide +kernel
theorem sc_law_letters:FnScope N_law_letters ["_law_feed_here", "_law_many"] (defScope s_law_letters) := ⟨rfl,rfl,rfl,nd_law_letters,rfl,by decide +kernel,by decide +kernel⟩
noncomputable abbrev s_law_names:Stmt := top 19
noncomputable abbrev N_law_names:List Str := ["_law_feed_here", "_law_many", "_law_size", "_law_same", "_law_at", "_law_first", "_law_step", "_law_base", "_law_names_here", "_law_k", "_law_sign"]
theorem nd_law_names:N_law_names.Nodup := by decide +kernel
theorem sc_law_names:FnScope N_law_names ["_law_feed_here", "_law_many"] (defScope s_law_names) := ⟨rfl,rfl,rfl,nd_law_names,rfl,by decide +kernel,by decide +kernel⟩
noncomputable abbrev s_law_web:Stmt := top 20
noncomputable abbrev N_law_web:List Str := ["_law_feed_here", "_law_names_here", "_law_web_here", "_law_k", "_law_elders", "_law_j", "_law_name"]
theorem nd_law_web:N_law_web.Nodup := by decide +kernel
theorem sc_law_web:FnScope N_law_web ["_law_feed_here", "_law_names_here"] (defScope s_law_web) := ⟨rfl,rfl,rfl,nd_law_web,rfl,by decide +kernel,by decide +kernel⟩
noncomputable abbrev s_law_above:Stmt := top 21
noncomputable abbrev N_law_above:List Str := ["_law_web_here", "_law_table", "_law_name", "_law_elders", "_law_some", "_law_elder"]
theorem nd_law_above:N_law_above.Nodup := by decide +kernel
theorem sc_law_above:FnScope N_law_above ["_law_web_here"] (defScope s_law_above) := ⟨rfl,rfl,rfl,nd_law_above,rfl,by decide +kernel,by decide +kernel⟩
noncomputable abbrev s_law_reach:Stmt := top 22
noncomputable abbrev N_law_reach:List Str := ["_law_table", "_law_arm_here", "_law_some", "_law_name"]
theorem nd_law_reach:N_law_reach.Nodup := by decide +kernel
theorem sc_law_reach:FnScope N_law_reach ["_law_table", "_law_arm_here"] (defScope s_law_reach) := ⟨rfl,rfl,rfl,nd_law_reach,rfl,by decide +kernel,by decide +kernel⟩
noncomputable abbrev s_law_arm:Stmt := top 23
noncomputable abbrev N_law_arm:List Str := ["_law_feed_here", "_law_names_here", "_law_pick", "_law_j", "_law_name"]
theorem nd_law_arm:N_law_arm.Nodup := by decide +kernel
theorem sc_law_arm:FnScope N_law_arm ["_law_feed_here", "_law_names_here"] (defScope s_law_arm) := ⟨rfl,rfl,rfl,nd_law_arm,rfl,by decide +kernel,by decide +kernel⟩
noncomputable abbrev s_law_bent:Stmt := top 24
noncomputable abbrev N_law_bent:List Str := ["_law_feed_here", "_law_arm_here", "_law_stranger", "_law_some"]
theorem nd_law_bent:N_law_bent.Nodup := by decide +kernel
theorem sc_law_bent:FnScope N_law_bent ["_law_feed_here", "_law_arm_here", "_law_stranger"] (defScope s_law_bent) := ⟨rfl,rfl,rfl,nd_law_bent,rfl,by decide +kernel,by decide +kernel⟩
noncomputable abbrev s_law_pieces:Stmt := top 25
noncomputable abbrev N_law_pieces:List Str := ["_law_arm_here"]
theorem nd_law_pieces:N_law_pieces.Nodup := by decide +kernel
theorem sc_law_pieces:FnScope N_law_pieces ["_law_arm_here"] (defScope s_law_pieces) := ⟨rfl,rfl,rfl,nd_law_pieces,rfl,by decide +kernel,by decide +kernel⟩
noncomputable abbrev s_law_found:Stmt := top 26
noncomputable abbrev N_law_found:List Str := ["_law_web_here", "_law_one", "_law_other", "e", "_law_caught", "_law_at", "_law_found_here", "_law_kinds"]
theorem nd_law_found:N_law_found.Nodup := by decide +kernel
theorem sc_law_found:FnScope N_law_found ["_law_web_here", "_law_one", "_law_other"] (defScope s_law_found) := ⟨rfl,rfl,rfl,nd_law_found,rfl,by decide +kernel,by decide +kernel⟩
noncomputable abbrev s_law:Stmt := top 27
noncomputable abbrev N_law:List Str := ["_law_script", "_law_many", "_law_k", "_law_feed_here", "_law_names_here", "_law_strangers", "_law_web_here", "_law_table", "_law_turn", "_law_one", "_law_other", "_law_bent_here", "_law_wrong", "_law_due", "_law_high", "_law_found_here"]
theorem nd_law:N_law.Nodup := by decide +kernel
theorem sc_law:FnScope N_law ["_law_script"] (defScope s_law) := ⟨rfl,rfl,rfl,nd_law,rfl,by decide +kernel,by decide +kernel⟩
theorem nd_names_of_c1:(["name", "elders"]:List Str).Nodup := by decide +kernel
theorem nd_is_within_c1:(["name", "other_roof"]:List Str).Nodup := by decide +kernel
theorem nd_law_above_c1:(["_law_other", "_law_rest", "_law_some"]:List Str).Nodup := by decide +kernel
theorem nd_law_c1:(["_law_name", "_law_names_here"]:List Str).Nodup := by decide +kernel
theorem nd_law_c2:(["_law_name", "_law_high"]:List Str).Nodup := by decide +kernel
noncomputable abbrev Y_names_of (P:Program) (w:World) (K:qB) (mg:Str→Option Value) (base:Heap):Prop := Dn P w K mg base "names_of" ["web"] 1 (spD 1 G_names_of)
noncomputable abbrev Y_names_in (P:Program) (w:World) (K:qB) (mg:Str→Option Value) (base:Heap):Prop := Dn P w K mg base "names_in" ["arm"] 1 (spD 1 G_names_in)
noncomputable abbrev Y_check_kinds (P:Program) (w:World) (K:qB) (mg:Str→Option Value) (base:Heap) (cl:Str→Addr):Prop := DnX P w K mg base "check_kinds" ["web", "names"] 3 (spX cl 2 G_check_kindsX)
noncomputable abbrev Y_roofs_of (P:Program) (w:World) (K:qB) (mg:Str→Option Value) (base:Heap):Prop := Dn P w K mg base "roofs_of" ["web"] 1 (spD 1 G_roofs_of)
noncomputable abbrev Y_roof_of (P:Program) (w:World) (K:qB) (mg:Str→Option Value) (base:Heap):Prop := Dn P w K mg base "roof_of" ["roofs", "arm"] 2 (spD 2 G_roof_of)
noncomputable abbrev Y_is_within (P:Program) (w:World) (K:qB) (mg:Str→Option Value) (base:Heap):Prop := Dn P w K mg base "is_within" ["roof", "other_roof"] 1 (spD 2 G_is_within)
noncomputable abbrev Y_within (P:Program) (w:World) (K:qB) (mg:Str→Option Value) (base:Heap) (cl:Str→Addr):Prop := DnX P w K mg base "within" ["web", "one", "other"] 4 (spX cl 3 G_withinX)
noncomputable abbrev Y_law_feed (P:Program) (w:World) (K:qB) (mg:Str→Option Value) (base:Heap):Prop := Dn P w K mg base "_law_feed" ["_law_script", "_law_k"] 1 (spFeed K)
noncomputable abbrev Y_law_take (P:Program) (w:World) (K:qB) (mg:Str→Option Value) (base:Heap):Prop := Dn P w K mg base "_law_take" ["_law_feed_here", "_law_many"] 1 (spF 2 G_law_take)
noncomputable abbrev Y_law_letters (P:Program) (w:World) (K:qB) (mg:Str→Option Value) (base:Heap):Prop := Dn P w K mg base "_law_letters" ["_law_feed_here", "_law_many"] 2 (spF 2 G_law_letters)
noncomputable abbrev Y_law_names (P:Program) (w:World) (K:qB) (mg:Str→Option Value) (base:Heap):Prop := Dn P w K mg base "_law_names" ["_law_feed_here", "_law_many"] 3 (spF 2 G_law_names_k23)
noncomputable abbrev Y_law_web (P:Program) (w:World) (K:qB) (mg:Str→Option Value) (base:Heap):Prop := Dn P w K mg base "_law_web" ["_law_feed_here", "_law_names_here"] 2 (spF 2 G_law_web)
noncomputable abbrev Y_law_above (P:Program) (w:World) (K:qB) (mg:Str→Option Value) (base:Heap):Prop := Dn P w K mg base "_law_above" ["_law_web_here"] 1 (spD 1 G_law_above)
noncomputable abbrev Y_law_reach (P:Program) (w:World) (K:qB) (mg:Str→Option Value) (base:Heap):Prop := Dn P w K mg base "_law_reach" ["_law_table", "_law_arm_here"] 1 (spD 2 G_law_reach)
noncomputable abbrev Y_law_arm (P:Program) (w:World) (K:qB) (mg:Str→Option Value) (base:Heap):Prop := Dn P w K mg base "_law_arm" ["_law_feed_here", "_law_names_here"] 2 (spF 2 G_law_arm_k23)
noncomputable abbrev Y_law_bent (P:Program) (w:World) (K:qB) (mg:Str→Option Value) (base:Heap):Prop := Dn P w K mg base "_law_bent" ["_law_feed_here", "_law_arm_here", "_law_stranger"] 2 (spF 3 G_law_bent)
noncomputable abbrev Y_law_pieces (P:Program) (w:World) (K:qB) (mg:Str→Option Value) (base:Heap):Prop := Dn P w K mg base "_law_pieces" ["_law_arm_here"] 1 (spD 1 G_names_in)
noncomputable abbrev Y_law_found (P:Program) (w:World) (K:qB) (mg:Str→Option Value) (base:Heap):Prop := Dn P w K mg base "_law_found" ["_law_web_here", "_law_one", "_law_other"] 5 (spD 3 G_law_found)
section
variable {P:Program} {w:World} {K:qB} {mg:Str→Option Value} {base:Heap}
theorem ok_names_of {f:Addr} {fd:qt} (F:Fun K "names_of" "names_of" s_names_of f fd) (T:Txt mg)  : FnOk P w K mg base CX0 1 f fd ["web"] (spD 1 G_names_of) := by
  refine F.ok sc_names_of (fun vs H Q E h => spD_len h) (fun cdv A outer s H vs Q E hr h => ?_)
  have hu := hu_of hr
  apply Exists.intro
  apply And.intro
  · refine' Bx.out (bpss_one (bps_ret (bpe_comp1 (compOk_of (N' := ["name", "elders"]) (own := ["name", "elders"]) (fr := []) (by kernel_rfl)) rfl (bpi_seqK (K := K) rfl (bv 0)) ?hb1 (by intro _;rfl))))
    case hb1 => (intro cl C s H fp;refine' ⟨Bx.out (bpg_tupK (K := K) (n := 2) rfl rfl (bpgs_cons (bpg_name (i := 0) nd_names_of_c1 rfl (Or.inl rfl) (by first|exact .inl rfl|exact .inr rfl|assumption)) (bpgs_cons (bpg_name (i := 1) nd_names_of_c1 rfl (Or.inl rfl) (by first|exact .inl rfl|exact .inr rfl|assumption)) bpgs_nil (by rfl)) (by rfl)) (by rfl) (by rfl)),Bx.out bpf_nil,Bx.out (bv 0)⟩)
  exact fn_d (f := F_names_of) ((ss_ret (se_comp (si_seq (se_var 0)) (sg_tup (sgs_cons (sgs_cons sgs_nil))) (gx_tup (gxs_cons (by decide) (gxs_cons (by decide) gxs_nil))) st_all (se_var 0)))) h
theorem ok_names_in {f:Addr} {fd:qt} (F:Fun K "names_in" "names_in" s_names_in f fd) (T:Txt mg)  : FnOk P w K mg base CX0 1 f fd ["arm"] (spD 1 G_names_in) := by
  refine F.ok sc_names_in (fun vs H Q E h => spD_len h) (fun cdv A outer s H vs Q E hr h => ?_)
  have hu := hu_of hr
  apply Exists.intro
  apply And.intro
  · refine' Bx.out (bpss_cons (bps_if (bpt_truthK (K := K) rfl (bpe_callB (call_isiK (K := K) rfl) (by rfl) T.isinstance boot_isinstance (bpa_consF (bv 0) (bpa_consF (bpe_bltn (v := .ty "tuple") (by rfl) T.tuple boot_tuple rfl (by decide) (by decide)) bpa_nil (by rfl)) (by rfl)) (by decide) (by decide) (star_each (by rfl)) (by rfl)) (fun _ => rfl)) (bpss_one (bps_ret (bpe_callTy (call_listK (K := K) rfl) (by rfl) T.list boot_list (bpa_consF (bv 0) bpa_nil (by rfl)) (by decide) (by decide) (star_each (by rfl)) (by rfl)))) bpss_nil)
  (bpss_one (bps_ret (bpe_lst (bpa_consF (bv 0) bpa_nil (by rfl))))))
  exact fn_d (f := F_names_in) ((ss_seq (ss_if (st_tru (se_isi (se_var 0) kit_tuple)) (ss_ret (se_cb sc_list (sa_cons (se_var 0) sa_nil))) ss_nil) (ss_ret (se_lst (sa_cons (se_var 0) sa_nil))))) h
theorem ok_check_kinds {f:Addr} {fd:qt} {cl:Str→Addr} (F:Fun K "check_kinds" "check_kinds" s_check_kinds f fd) (T:Txt mg) (D_names_of:Y_names_of P w K mg base) (X_NoKind:XcOk P w K mg base "NoKind" (cl "NoKind")):FnOk P w K mg base (CXE P w) 3 f fd ["web", "names"] (spX cl 2 G_check_kindsX) := by
  refine fn_ofE F sc_check_kinds (fun vs H Q E h => spX_len h) (fun cdv A outer s H vs Q E hr h0k h => ?_)
  have hu := hu_of hr
  apply Exists.intro
  apply And.intro
  · refine' Bx.out (bpss_cons (bps_set (i := 2) nd_check_kinds rfl (Or.inl rfl) (bpe_dn D_names_of (hr.mono (by decide)) (by rfl) (bpa_consF (bv 0) bpa_nil (by rfl)) (by decide) (star_each (by rfl)) (by rfl)) (by rfl) (.inl rfl))
  (bpss_one (bps_for PassesOwn.leaving rfl (bpi_seqK (K := K) rfl (bv 1)) (bpg_name (i := 3) nd_check_kinds rfl (Or.inl rfl) (.inl rfl))
   (bpss_one (bps_if (bpt_cmpR (op_notInK (K := K) rfl) (bv 3) (bv 2) (by rfl)) (bpss_one (bps_raise (C := cl "NoKind") X_NoKind (hr.mono (by decide)) rfl rfl (lvs_of h0k) (by rfl) (bv 3) (by decide) (by rfl))) bpss_nil)) (by intro _;rfl))))
  exact fn_x (f := F_check_kindsX) ((ssx_seq (ssx_of (ss_set (se_call (sa_cons (se_var 0) sa_nil)))) (ssx_for (si_seq (se_var 1)) sg_name (ssx_if (st_t (se_op so_in (se_var 3) (se_var 2))) (ssx_raise (se_var 3)) (ssx_of ss_nil))))) h
theorem ok_roofs_of {f:Addr} {fd:qt} (F:Fun K "roofs_of" "roofs_of" s_roofs_of f fd) (T:Txt mg)  : FnOk P w K mg base CX0 1 f fd ["web"] (spD 1 G_roofs_of) := by
  refine F.ok sc_roofs_of (fun vs H Q E h => spD_len h) (fun cdv A outer s H vs Q E hr h => ?_)
  have hu := hu_of hr
  apply Exists.intro
  apply And.intro
  · refine' Bx.out (bpss_cons (bps_set (i := 1) nd_roofs_of rfl (Or.inl rfl) bpe_dnewK (by rfl) (.inl rfl))
  (bpss_cons (bps_for qz rfl (bpi_seqK (K := K) rfl (bv 0)) (bpg_tupK (K := K) (n := 2) rfl rfl (bpgs_cons (bpg_name (i := 2) nd_roofs_of rfl (Or.inl rfl) (.inl rfl)) (bpgs_cons (bpg_name (i := 3) nd_roofs_of rfl (Or.inl rfl) (.inl rfl)) bpgs_nil (by rfl)) (by rfl)) (by rfl) (by rfl))
   (bpss_cons (bps_set (i := 4) nd_roofs_of rfl (Or.inl rfl) (bpe_disp (bpps_cons (bv 2) bpe_bl bpps_nil) rfl rfl (by simp) (by decide)) (by rfl) (.inl rfl))
  (bpss_cons (bps_for qz rfl (bpi_seqK (K := K) rfl (bv 3)) (bpg_name (i := 5) nd_roofs_of rfl (Or.inl rfl) (.inl rfl))
   (bpss_one (bps_expr (bpe_bmK (K := K) rfl qBt qBp qBo mt_update (bv 4) (bpa_consF (bpe_dget hu (bv 1) (bv 5) (fun _ _ => rfl)) bpa_nil (by rfl)) (by rfl) (by rfl) (by rfl) (star_each (by rfl)) (by rfl)) (by rfl))) (by intro _;rfl))
  (bpss_one (bps_dput hu (bv 1) (bv 2) (bv 4) rfl)))) (by intro _;rfl))
  (bpss_one (bps_ret (bv 1)))))
  exact fn_d (f := F_roofs_of) ((ss_seq (ss_set se_dnew) (ss_seq (ss_for (si_seq (se_var 0)) (sg_tup (sgs_cons (sgs_cons sgs_nil))) (ss_seq (ss_set (se_d1 (se_var 2) (se_c fun _ => rp_mk_bool))) (ss_seq (ss_for (si_seq (se_var 3)) sg_name (ss_upd (se_dgetv (se_var 5)))) (ss_put (se_var 2) (se_var 4))))) ss_retv))) h
theorem ok_roof_of {f:Addr} {fd:qt} (F:Fun K "roof_of" "roof_of" s_roof_of f fd) (T:Txt mg) (D_names_in:Y_names_in P w K mg base):FnOk P w K mg base CX0 2 f fd ["roofs", "arm"] (spD 2 G_roof_of) := by
  refine F.ok sc_roof_of (fun vs H Q E h => spD_len h) (fun cdv A outer s H vs Q E hr h => ?_)
  have hu := hu_of hr
  apply Exists.intro
  apply And.intro
  · refine' Bx.out (bpss_cons (bps_set (i := 2) nd_roof_of rfl (Or.inl rfl) bpe_dnewK (by rfl) (.inl rfl))
  (bpss_cons (bps_for qz rfl (bpi_seqK (K := K) rfl (bpe_dn D_names_in (hr.mono (by decide)) (by rfl) (bpa_consF (bv 1) bpa_nil (by rfl)) (by decide) (star_each (by rfl)) (by rfl))) (bpg_name (i := 3) nd_roof_of rfl (Or.inl rfl) (.inl rfl))
   (bpss_one (bps_expr (bpe_bmK (K := K) rfl qBt qBp qBo mt_update (bv 2) (bpa_consF (bpe_dget hu (bv 0) (bv 3) (fun _ _ => rfl)) bpa_nil (by rfl)) (by rfl) (by rfl) (by rfl) (star_each (by rfl)) (by rfl)) (by rfl))) (by intro _;rfl))
  (bpss_one (bps_ret (bv 2)))))
  exact fn_d (f := F_roof_of) ((ss_seq (ss_set se_dnew) (ss_seq (ss_for (si_seq (se_call (sa_cons (se_var 1) sa_nil))) sg_name (ss_upd (se_dgetv (se_var 3)))) ss_retv))) h
theorem ok_is_within {f:Addr} {fd:qt} (F:Fun K "is_within" "is_within" s_is_within f fd) (T:Txt mg)  : FnOk P w K mg base CX0 1 f fd ["roof", "other_roof"] (spD 2 G_is_within) := by
  refine F.ok sc_is_within (fun vs H Q E h => spD_len h) (fun cdv A outer s H vs Q E hr h => ?_)
  have hu := hu_of hr
  apply Exists.intro
  apply And.intro
  · refine' Bx.out (bpss_one (bps_ret (bpe_callB (call_allK (K := K) rfl rfl) (by rfl) T.all boot_all (bpa_consF (bpe_frz (i := 0) (bpe_comp1 (compOk_of (N' := ["name", "other_roof"]) (own := ["name"]) (fr := [1]) (by kernel_rfl)) rfl (bpi_dictF (bv 0)) ?hb1 (by intro _;rfl))) bpa_nil (by rfl)) (by decide) (by decide) (star_each (by rfl)) (by rfl))))
    case hb1 => (intro cl C s H fp;refine' ⟨Bx.out (bpg_name (i := 0) nd_is_within_c1 rfl (Or.inl rfl) (by first|exact .inl rfl|exact .inr rfl|assumption)),Bx.out bpf_nil,Bx.out (bpe_cmp (bpc_din hu (bv 0) (bv 1)) (by rfl))⟩)
  exact fn_d (f := F_is_within) ((ss_ret (se_cb sc_any (sa_cons (se_keysIn rfl) sa_nil)))) h
theorem ok_within {f:Addr} {fd:qt} {cl:Str→Addr} (F:Fun K "within" "within" s_within f fd) (T:Txt mg) (D_check_kinds:Y_check_kinds P w K mg base cl) (D_is_within:Y_is_within P w K mg base) (D_names_in:Y_names_in P w K mg base) (D_roof_of:Y_roof_of P w K mg base) (D_roofs_of:Y_roofs_of P w K mg base):FnOk P w K mg base (CXE P w) 4 f fd ["web", "one", "other"] (spX cl 3 G_withinX) := by
  refine fn_ofE F sc_within (fun vs H Q E h => spX_len h) (fun cdv A outer s H vs Q E hr h0k h => ?_)
  have hu := hu_of hr
  apply Exists.intro
  apply And.intro
  · refine' Bx.out (bpss_cons (bps_expr (bpe_dnX D_check_kinds (passesE h0k) (hr.mono (by decide)) (by rfl) (bpa_consF (bv 0) (bpa_consF (bpe_op (op_addUK (K := K) rfl) (bpe_dn D_names_in (hr.mono (by decide)) (by rfl) (bpa_consF (bv 1) bpa_nil (by rfl)) (by decide) (star_each (by rfl)) (by rfl)) (bpe_dn D_names_in (hr.mono (by decide)) (by rfl) (bpa_consF (bv 2) bpa_nil (by rfl)) (by decide) (star_each (by rfl)) (by rfl))) bpa_nil (by rfl)) (by rfl)) (by decide) (star_each (by rfl)) (by rfl)) (by rfl))
  (bpss_cons (bps_set (i := 3) nd_within rfl (Or.inl rfl) (bpe_dn D_roofs_of (hr.mono (by decide)) (by rfl) (bpa_consF (bv 0) bpa_nil (by rfl)) (by decide) (star_each (by rfl)) (by rfl)) (by rfl) (.inl rfl))
  (bpss_one (bps_ret (bpe_dn D_is_within (hr.mono (by decide)) (by rfl) (bpa_consF (bpe_dn D_roof_of (hr.mono (by decide)) (by rfl) (bpa_consF (bv 3) (bpa_consF (bv 1) bpa_nil (by rfl)) (by rfl)) (by decide) (star_each (by rfl)) (by rfl)) (bpa_consF (bpe_dn D_roof_of (hr.mono (by decide)) (by rfl) (bpa_consF (bv 3) (bpa_consF (bv 2) bpa_nil (by rfl)) (by rfl)) (by decide) (star_each (by rfl)) (by rfl)) bpa_nil (by rfl)) (by rfl)) (by decide) (star_each (by rfl)) (by rfl))))))
  exact fn_x (f := F_withinX) ((ssx_seq (ssx_call (sa_cons (se_var 0) (sa_cons (se_op so_add (se_call (sa_cons (se_var 1) sa_nil)) (se_call (sa_cons (se_var 2) sa_nil))) sa_nil))) (ssx_seq (ssx_of (ss_set (se_call (sa_cons (se_var 0) sa_nil)))) (ssx_of (ss_ret (se_call (sa_cons (se_call (sa_cons (se_var 3) (sa_cons (se_var 1) sa_nil))) (sa_cons (se_call (sa_cons (se_var 3) (sa_cons (se_var 2) sa_nil))) sa_nil)))))))) h
theorem ok_law_feed {f:Addr} {fd:qt} (F:Fun K "_law_feed" "_law_feed" s_law_feed f fd) (T:Txt mg):FnOk P w K mg base CX0 1 f fd ["_law_script", "_law_k"] (spFeed K) := by
  refine F.ok sc_law_feed (fun vs H Q E h => by obtain ⟨a,ns,z,rfl,_⟩ := h;rfl) (fun cdv A outer s H vs Q E hr h => ?_)
  have hu := hu_of hr
  apply Exists.intro
  apply And.intro
  · refine' Bx.out (bpss_cons (bps_set (i := 2) nd_law_feed rfl (Or.inl rfl) bpe_int (by rfl) (.inl rfl))
  (bpss_cons (bps_if (bpt_cmpR op_lt (bv 1) (bpe_callB (call_lenK (K := K) rfl) (by rfl) T.len boot_len (bpa_consF (bv 0) bpa_nil (by rfl)) (by decide) (by decide) (star_each (by rfl)) (by rfl)) (nomark _)) (bpss_one (bps_set (i := 2) nd_law_feed rfl (Or.inl rfl) (bpe_ix (ix_UK (K := K) rfl) (bv 0) (bv 1) (fun _ _ => rfl)) (by rfl) (.inl rfl))) bpss_nil)
  (bpss_cons (bps_set (i := 3) nd_law_feed rfl (Or.inl rfl) (bpe_callB call_abs (by rfl) T.abs boot_abs (bpa_consF (bv 2) bpa_nil (by rfl)) (by decide) (by decide) (star_each (by rfl)) (by rfl)) (by rfl) (.inl rfl))
  (bpss_cons (bps_if (bpt_cmpR op_lt (bv 3) (bpe_op op_pow bpe_int bpe_int) (nomark _)) (bpss_one (bps_set (i := 3) nd_law_feed rfl (Or.inl rfl) bpe_int (by rfl) (.inl rfl))) bpss_nil)
  (bpss_one (bps_ret (bpe_lst (bpa_consF (bv 3) (bpa_consF (bpe_op op_mod (bpe_op (op_addUK (K := K) rfl) (bpe_op (op_addUK (K := K) rfl) (bpe_op op_mulU (bpe_op op_mod (bv 2) bpe_int) bpe_int) (bpe_op op_mulU bpe_int (bv 1))) bpe_int) bpe_int) (bpa_consF bpe_int bpa_nil (by rfl)) (by rfl)) (by rfl)))))))))
  exact fn_feed rfl (F := F_law_feed) (fun ns => (ssg_seq rfl (ssg_of (ssf_of (ssk_set (se_c fun _ => rp_mk_int) (by decide)))) (ssg_seq rfl (ssg_cell (by decide)) (ssg_seq rfl (ssg_of (ssf_of (ssk_set (se_cb sc_abs (sa_cons (se_var 2) sa_nil)) (by decide)))) (ssg_seq rfl (ssg_of (ssf_ifp (st_t (se_op so_lt (se_var 3) (se_op so_pow (se_c fun _ => rp_mk_int) (se_c fun _ => rp_mk_int)))) (ssf_of (ssk_set (se_c fun _ => rp_mk_int) (by decide))) ssf_nil)) (ssg_of (ssf_retp (se_lst (sa_cons (se_var 3) (sa_cons (se_op so_mod (se_op so_add (se_op so_add (se_op so_mul (se_op so_mod (se_var 2) (se_c fun _ => rp_mk_int)) (se_c fun _ => rp_mk_int)) (se_op so_mul (se_c fun _ => rp_mk_int) (se_var 1))) (se_c fun _ => rp_mk_int)) (se_c fun _ => rp_mk_int)) (sa_cons (se_c fun _ => rp_mk_int) sa_nil))))))))))) feed_ok h
theorem ok_law_take {f:Addr} {fd:qt} (F:Fun K "_law_take" "_law_take" s_law_take f fd) (T:Txt mg)  : FnOk P w K mg base CX0 1 f fd ["_law_feed_here", "_law_many"] (spF 2 G_law_take) := by
  refine F.ok sc_law_take (fun vs H Q E h => spF_len h) (fun cdv A outer s H vs Q E hr h => ?_)
  have hu := hu_of hr
  apply Exists.intro
  apply And.intro
  · refine' Bx.out (bpss_cons (bps_if (bpt_cmpR op_gt (bpe_ix (ix_UK (K := K) rfl) (bv 0) bpe_int (fun _ _ => rfl)) bpe_int (nomark _)) (bpss_cons (bps_set (i := 2) nd_law_take rfl (Or.inl rfl) (bpe_op op_mod (bpe_ix (ix_UK (K := K) rfl) (bv 0) bpe_int (fun _ _ => rfl)) (bv 1)) (by rfl) (.inl rfl))
  (bpss_cons (bps_setI (bv 0) bpe_int (bpe_op op_fdiv (bpe_ix (ix_UK (K := K) rfl) (bv 0) bpe_int (fun _ _ => rfl)) (bv 1)) (by intro _;rfl) (by rfl) (by rfl) (by rfl))
  (bpss_one (bps_ret (bv 2))))) bpss_nil)
  (bpss_cons (bps_set (i := 3) nd_law_take rfl (Or.inl rfl) (bpe_op (op_addUK (K := K) rfl) (bpe_ix (ix_UK (K := K) rfl) (bv 0) bpe_int (fun _ _ => rfl)) bpe_int) (by rfl) (.inl rfl))
  (bpss_cons (bps_setI (bv 0) bpe_int (bv 3) (by intro _;rfl) (by rfl) (by rfl) (by rfl))
  (bpss_cons (bps_set (i := 4) nd_law_take rfl (Or.inl rfl) (bpe_op op_mod (bpe_op (op_addUK (K := K) rfl) (bpe_op (op_addUK (K := K) rfl) (bpe_ix (ix_UK (K := K) rfl) (bv 0) bpe_int (fun _ _ => rfl)) (bpe_op op_mulU (bpe_op op_mulU bpe_int (bv 3)) (bv 3))) (bpe_op op_mulU bpe_int (bv 3))) bpe_int) (by rfl) (.inl rfl))
  (bpss_cons (bps_set (i := 4) nd_law_take rfl (Or.inl rfl) (bpe_op op_mod (bpe_op (op_addUK (K := K) rfl) (bpe_op (op_addUK (K := K) rfl) (bpe_op op_mulU (bv 4) (bv 4)) (bpe_op op_mulU bpe_int (bv 4))) (bv 3)) bpe_int) (by rfl) (.inl rfl))
  (bpss_cons (bps_set (i := 4) nd_law_take rfl (Or.inl rfl) (bpe_op op_mod (bpe_op (op_addUK (K := K) rfl) (bpe_op op_mulU (bv 4) (bv 4)) (bpe_op op_mulU bpe_int (bv 4))) bpe_int) (by rfl) (.inl rfl))
  (bpss_one (bps_ret (bpe_op op_mod (bpe_op op_fdiv (bv 4) bpe_int) (bv 1))))))))))
  exact fn_f (by decide) (F := F_law_take) ((ssf_seq (ssf_ifp (st_t (se_op so_gt (se_ixv (se_c fun _ => rp_mk_int)) (se_c fun _ => rp_mk_int))) (ssf_seq (ssf_of (ssk_set (se_op so_mod (se_ixv (se_c fun _ => rp_mk_int)) (se_var 1)) (by decide))) (ssf_seq (ssf_of (ssk_setI (se_c fun _ => rp_mk_int) (se_op so_fdiv (se_ixv (se_c fun _ => rp_mk_int)) (se_var 1)))) ssf_retv)) ssf_nil) (ssf_seq (ssf_of (ssk_set (se_op so_add (se_ixv (se_c fun _ => rp_mk_int)) (se_c fun _ => rp_mk_int)) (by decide))) (ssf_seq (ssf_of (ssk_setI (se_c fun _ => rp_mk_int) (se_var 3))) (ssf_seq (ssf_of (ssk_set (se_op so_mod (se_op so_add (se_op so_add (se_ixv (se_c fun _ => rp_mk_int)) (se_op so_mul (se_op so_mul (se_c fun _ => rp_mk_int) (se_var 3)) (se_var 3))) (se_op so_mul (se_c fun _ => rp_mk_int) (se_var 3))) (se_c fun _ => rp_mk_int)) (by decide))) (ssf_seq (ssf_of (ssk_set (se_op so_mod (se_op so_add (se_op so_add (se_op so_mul (se_var 4) (se_var 4)) (se_op so_mul (se_c fun _ => rp_mk_int) (se_var 4))) (se_var 3)) (se_c fun _ => rp_mk_int)) (by decide))) (ssf_seq (ssf_of (ssk_set (se_op so_mod (se_op so_add (se_op so_mul (se_var 4) (se_var 4)) (se_op so_mul (se_c fun _ => rp_mk_int) (se_var 4))) (se_c fun _ => rp_mk_int)) (by decide))) (ssf_retp (se_op so_mod (se_op so_fdiv (se_var 4) (se_c fun _ => rp_mk_int)) (se_var 1)))))))))) h
theorem ok_law_letters {f:Addr} {fd:qt} (F:Fun K "_law_letters" "_law_letters" s_law_letters f fd) (T:Txt mg) (D_law_take:Y_law_take P w K mg base):FnOk P w K mg base CX0 2 f fd ["_law_feed_here", "_law_many"] (spF 2 G_law_letters) := by
  refine F.ok sc_law_letters (fun vs H Q E h => spF_len h) (fun cdv A outer s H vs Q E hr h => ?_)
  have hu := hu_of hr
  apply Exists.intro
  apply And.intro
  · refine' Bx.out (bpss_cons (bps_set (i := 2) nd_law_letters rfl (Or.inl rfl) bpe_str (by rfl) (.inl rfl))
  (bpss_cons (bps_for qz rfl (bpi_range1 rfl T.range (bpa_consF (bv 1) bpa_nil (by rfl)) (by rfl)) (bpg_name (i := 3) nd_law_letters rfl (Or.inl rfl) (.inl rfl))
   (bpss_one (bps_set (i := 2) nd_law_letters rfl (Or.inl rfl) (bpe_op (op_addUK (K := K) rfl) (bv 2) (bpe_ix (ix_UK (K := K) rfl) bpe_str (bpe_dn D_law_take (hr.mono (by decide)) (by rfl) (bpa_consF (bv 0) (bpa_consF bpe_int bpa_nil (by rfl)) (by rfl)) (by decide) (star_each (by rfl)) (by rfl)) (fun _ _ => rfl))) (by rfl) (.inl rfl))) (by intro _;rfl))
  (bpss_one (bps_ret (bv 2)))))
  exact fn_f (by decide) (F := F_law_letters) ((ssf_seq (ssf_of (ssk_set (se_c fun _ => rp_mk_str) (by decide))) (ssf_seq (ssf_for (si_range1 (sa_cons (se_var 1) sa_nil)) (sgk_name (by decide)) (ssf_set (sef_op so_add (sef_pure (se_var 2)) (sef_op so_ix (sef_pure (se_c fun _ => rp_mk_str)) (sef_callF (saf_cons (sef_pure (se_c fun _ => rp_mk_int)) saf_nil)))) (by decide))) ssf_retv))) h
theorem ok_law_names {f:Addr} {fd:qt} (F:Fun K "_law_names" "_law_names" s_law_names f fd) (T:Txt mg) (D_law_letters:Y_law_letters P w K mg base) (D_law_take:Y_law_take P w K mg base):FnOk P w K mg base CX0 3 f fd ["_law_feed_here", "_law_many"] (spF 2 G_law_names_k23) := by
  refine F.ok sc_law_names (fun vs H Q E h => spF_len h) (fun cdv A outer s H vs Q E hr h => ?_)
  have hu := hu_of hr
  apply Exists.intro
  apply And.intro
  · refine' Bx.out (bpss_cons (bps_set (i := 2) nd_law_names rfl (Or.inl rfl) (bpe_ix (ix_UK (K := K) rfl) (bpe_lst (bpa_consF bpe_int (bpa_consF bpe_int (bpa_consF bpe_int (bpa_consF bpe_int bpa_nil (by rfl)) (by rfl)) (by rfl)) (by rfl))) (bpe_dn D_law_take (hr.mono (by decide)) (by rfl) (bpa_consF (bv 0) (bpa_consF bpe_int bpa_nil (by rfl)) (by rfl)) (by decide) (star_each (by rfl)) (by rfl)) (fun _ _ => rfl)) (by rfl) (.inl rfl))
  (bpss_cons (bps_set (i := 3) nd_law_names rfl (Or.inl rfl) (bpe_dn D_law_take (hr.mono (by decide)) (by rfl) (bpa_consF (bv 0) (bpa_consF bpe_int bpa_nil (by rfl)) (by rfl)) (by decide) (star_each (by rfl)) (by rfl)) (by rfl) (.inl rfl))
  (bpss_cons (bps_set (i := 4) nd_law_names rfl (Or.inl rfl) (bpe_dn D_law_take (hr.mono (by decide)) (by rfl) (bpa_consF (bv 0) (bpa_consF bpe_int bpa_nil (by rfl)) (by rfl)) (by decide) (star_each (by rfl)) (by rfl)) (by rfl) (.inl rfl))
  (bpss_cons (bps_set (i := 5) nd_law_names rfl (Or.inl rfl) (bpe_dn D_law_take (hr.mono (by decide)) (by rfl) (bpa_consF (bv 0) (bpa_consF bpe_int bpa_nil (by rfl)) (by rfl)) (by decide) (star_each (by rfl)) (by rfl)) (by rfl) (.inl rfl))
  (bpss_cons (bps_set (i := 6) nd_law_names rfl (Or.inl rfl) (bpe_ix (ix_UK (K := K) rfl) (bpe_lst (bpa_consF bpe_int (bpa_consF bpe_int (bpa_consF bpe_int (bpa_consF bpe_int (bpa_consF bpe_int (bpa_consF bpe_int (bpa_consF bpe_int (bpa_consF bpe_int (bpa_consF bpe_int (bpa_consF bpe_int (bpa_consF bpe_int (bpa_consF bpe_int bpa_nil (by rfl)) (by rfl)) (by rfl)) (by rfl)) (by rfl)) (by rfl)) (by rfl)) (by rfl)) (by rfl)) (by rfl)) (by rfl)) (by rfl))) (bpe_dn D_law_take (hr.mono (by decide)) (by rfl) (bpa_consF (bv 0) (bpa_consF bpe_int bpa_nil (by rfl)) (by rfl)) (by decide) (star_each (by rfl)) (by rfl)) (fun _ _ => rfl)) (by rfl) (.inl rfl))
  (bpss_cons (bps_set (i := 7) nd_law_names rfl (Or.inl rfl) (bpe_dn D_law_letters (hr.mono (by decide)) (by rfl) (bpa_consF (bv 0) (bpa_consF (bv 2) bpa_nil (by rfl)) (by rfl)) (by decide) (star_each (by rfl)) (by rfl)) (by rfl) (.inl rfl))
  (bpss_cons (bps_set (i := 8) nd_law_names rfl (Or.inl rfl) (bpe_lst bpa_nil) (by rfl) (.inl rfl))
  (bpss_cons (bps_for qz rfl (bpi_range1 rfl T.range (bpa_consF (bv 1) bpa_nil (by rfl)) (by rfl)) (bpg_name (i := 9) nd_law_names rfl (Or.inl rfl) (.inl rfl))
   (bpss_cons (bps_if (bpt_cmpR (op_eqA (K := K) rfl hr.units) (bv 3) bpe_int (nomark _)) (bpss_one (bps_set (i := 7) nd_law_names rfl (Or.inl rfl) (bpe_dn D_law_letters (hr.mono (by decide)) (by rfl) (bpa_consF (bv 0) (bpa_consF (bpe_dn D_law_take (hr.mono (by decide)) (by rfl) (bpa_consF (bv 0) (bpa_consF (bpe_op (op_addUK (K := K) rfl) (bv 2) bpe_int) bpa_nil (by rfl)) (by rfl)) (by decide) (star_each (by rfl)) (by rfl)) bpa_nil (by rfl)) (by rfl)) (by decide) (star_each (by rfl)) (by rfl)) (by rfl) (.inl rfl))) bpss_nil)
  (bpss_cons (bps_set (i := 10) nd_law_names rfl (Or.inl rfl) (bpe_ix (ix_UK (K := K) rfl) bpe_str (bpe_op op_mod (bpe_op (op_addUK (K := K) rfl) (bv 5) (bpe_op op_mulU (bv 6) (bv 9))) bpe_int) (fun _ _ => rfl)) (by rfl) (.inl rfl))
  (bpss_one (bps_expr (bpe_bmK (K := K) rfl qAR qAj qAi mt_append (bv 8) (bpa_consF (bpe_op (op_addUK (K := K) rfl) (bpe_op (op_addUK (K := K) rfl) (bpe_slice (sl_UK (K := K) rfl) (bv 7) bpo_none (bpo_some (bv 4))) (bv 10)) (bpe_slice (sl_UK (K := K) rfl) (bv 7) (bpo_some (bv 4)) bpo_none)) bpa_nil (by rfl)) (by rfl) (by rfl) (by rfl) (star_each (by rfl)) (by rfl)) (by rfl))))) (by intro _;rfl))
  (bpss_one (bps_ret (bv 8)))))))))))
  exact fn_f (by decide) (F := F_law_names_k23) ((ssf_seq (ssf_set (sef_op so_ix (sef_pure (se_lst (sa_cons (se_c fun _ => rp_mk_int) (sa_cons (se_c fun _ => rp_mk_int) (sa_cons (se_c fun _ => rp_mk_int) (sa_cons (se_c fun _ => rp_mk_int) sa_nil)))))) (sef_callF (saf_cons (sef_pure (se_c fun _ => rp_mk_int)) saf_nil))) (by decide)) (ssf_seq (ssf_set (sef_callF (saf_cons (sef_pure (se_c fun _ => rp_mk_int)) saf_nil)) (by decide)) (ssf_seq (ssf_set (sef_callF (saf_cons (sef_pure (se_c fun _ => rp_mk_int)) saf_nil)) (by decide)) (ssf_seq (ssf_set (sef_callF (saf_cons (sef_pure (se_c fun _ => rp_mk_int)) saf_nil)) (by decide)) (ssf_seq (ssf_set (sef_op so_ix (sef_pure (se_lst (sa_cons (se_c fun _ => rp_mk_int) (sa_cons (se_c fun _ => rp_mk_int) (sa_cons (se_c fun _ => rp_mk_int) (sa_cons (se_c fun _ => rp_mk_int) (sa_cons (se_c fun _ => rp_mk_int) (sa_cons (se_c fun _ => rp_mk_int) (sa_cons (se_c fun _ => rp_mk_int) (sa_cons (se_c fun _ => rp_mk_int) (sa_cons (se_c fun _ => rp_mk_int) (sa_cons (se_c fun _ => rp_mk_int) (sa_cons (se_c fun _ => rp_mk_int) (sa_cons (se_c fun _ => rp_mk_int) sa_nil)))))))))))))) (sef_callF (saf_cons (sef_pure (se_c fun _ => rp_mk_int)) saf_nil))) (by decide)) (ssf_seq (ssf_set (sef_callF (saf_cons (sef_pure (se_var 2)) saf_nil)) (by decide)) (ssf_seq (ssf_of (ssk_set (se_lst sa_nil) (by decide))) (ssf_seq (ssf_for (si_range1 (sa_cons (se_var 1) sa_nil)) (sgk_name (by decide)) (ssf_seq (ssf_ifp (st_t (se_op so_eq (se_var 3) (se_c fun _ => rp_mk_int))) (ssf_set (sef_callF (saf_cons (sef_callF (saf_cons (sef_pure (se_op so_add (se_var 2) (se_c fun _ => rp_mk_int))) saf_nil)) saf_nil)) (by decide)) ssf_nil) (ssf_seq (ssf_of (ssk_set (se_op so_ix (se_c fun _ => rp_mk_str) (se_op so_mod (se_op so_add (se_var 5) (se_op so_mul (se_var 6) (se_var 9))) (se_c fun _ => rp_mk_int))) (by decide))) (ssf_app (sef_pure (se_op so_add (se_op so_add (se_sl (se_var 7) sp_none (sp_some (se_var 4))) (se_var 10)) (se_sl (se_var 7) (sp_some (se_var 4)) sp_none))))))) ssf_retv))))))))) h
theorem ok_law_web {f:Addr} {fd:qt} (F:Fun K "_law_web" "_law_web" s_law_web f fd) (T:Txt mg) (D_law_take:Y_law_take P w K mg base):FnOk P w K mg base CX0 2 f fd ["_law_feed_here", "_law_names_here"] (spF 2 G_law_web) := by
  refine F.ok sc_law_web (fun vs H Q E h => spF_len h) (fun cdv A outer s H vs Q E hr h => ?_)
  have hu := hu_of hr
  apply Exists.intro
  apply And.intro
  · refine' Bx.out (bpss_cons (bps_set (i := 2) nd_law_web rfl (Or.inl rfl) (bpe_lst bpa_nil) (by rfl) (.inl rfl))
  (bpss_cons (bps_for qz rfl (bpi_range1 rfl T.range (bpa_consF (bpe_callB (call_lenK (K := K) rfl) (by rfl) T.len boot_len (bpa_consF (bv 1) bpa_nil (by rfl)) (by decide) (by decide) (star_each (by rfl)) (by rfl)) bpa_nil (by rfl)) (by rfl)) (bpg_name (i := 3) nd_law_web rfl (Or.inl rfl) (.inl rfl))
   (bpss_cons (bps_set (i := 4) nd_law_web rfl (Or.inl rfl) (bpe_lst bpa_nil) (by rfl) (.inl rfl))
  (bpss_cons (bps_for qz rfl (bpi_range1 rfl T.range (bpa_consF (bpe_callB (call_min2 rfl) (by rfl) T.min boot_min (bpa_consF (bv 3) (bpa_consF (bpe_dn D_law_take (hr.mono (by decide)) (by rfl) (bpa_consF (bv 0) (bpa_consF bpe_int bpa_nil (by rfl)) (by rfl)) (by decide) (star_each (by rfl)) (by rfl)) bpa_nil (by rfl)) (by rfl)) (by decide) (by decide) (star_each (by rfl)) (by rfl)) bpa_nil (by rfl)) (by rfl)) (bpg_name (i := 5) nd_law_web rfl (Or.inl rfl) (.inl rfl))
   (bpss_cons (bps_set (i := 6) nd_law_web rfl (Or.inl rfl) (bpe_ix (ix_UK (K := K) rfl) (bv 1) (bpe_dn D_law_take (hr.mono (by decide)) (by rfl) (bpa_consF (bv 0) (bpa_consF (bv 3) bpa_nil (by rfl)) (by rfl)) (by decide) (star_each (by rfl)) (by rfl)) (fun _ _ => rfl)) (by rfl) (.inl rfl))
  (bpss_one (bps_if (bpt_cmpR (op_notInK (K := K) rfl) (bv 6) (bv 4) (by rfl)) (bpss_one (bps_expr (bpe_bmK (K := K) rfl qAR qAj qAi mt_append (bv 4) (bpa_consF (bv 6) bpa_nil (by rfl)) (by rfl) (by rfl) (by rfl) (star_each (by rfl)) (by rfl)) (by rfl))) bpss_nil))) (by intro _;rfl))
  (bpss_one (bps_expr (bpe_bmK (K := K) rfl qAR qAj qAi mt_append (bv 2) (bpa_consF (bpe_tup (bpa_consF (bpe_ix (ix_UK (K := K) rfl) (bv 1) (bv 3) (fun _ _ => rfl)) (bpa_consF (bv 4) bpa_nil (by rfl)) (by rfl))) bpa_nil (by rfl)) (by rfl) (by rfl) (by rfl) (star_each (by rfl)) (by rfl)) (by rfl))))) (by intro _;rfl))
  (bpss_one (bps_ret (bv 2)))))
  exact fn_f (by decide) (F := F_law_web) ((ssf_seq (ssf_of (ssk_set (se_lst sa_nil) (by decide))) (ssf_seq (ssf_for (si_range1 (sa_cons (se_cb sc_len (sa_cons (se_var 1) sa_nil)) sa_nil)) (sgk_name (by decide)) (ssf_seq (ssf_of (ssk_set (se_lst sa_nil) (by decide))) (ssf_seq (ssf_forF (sif_range1 (saf_cons (sef_cb sc_min (saf_cons (sef_pure (se_var 3)) (saf_cons (sef_callF (saf_cons (sef_pure (se_c fun _ => rp_mk_int)) saf_nil)) saf_nil))) saf_nil)) (sgk_name (by decide)) (ssf_seq (ssf_set (sef_op so_ix (sef_pure (se_var 1)) (sef_callF (saf_cons (sef_pure (se_var 3)) saf_nil))) (by decide)) (ssf_ifp (st_t (se_op so_in (se_var 6) (se_var 4))) (ssf_app (sef_pure (se_var 6))) ssf_nil))) (ssf_app (sef_pure (se_tup (sa_cons (se_ixv (se_var 3)) (sa_cons (se_var 4) sa_nil)))))))) ssf_retv))) h
theorem ok_law_above {f:Addr} {fd:qt} (F:Fun K "_law_above" "_law_above" s_law_above f fd) (T:Txt mg)  : FnOk P w K mg base CX0 1 f fd ["_law_web_here"] (spD 1 G_law_above) := by
  refine F.ok sc_law_above (fun vs H Q E h => spD_len h) (fun cdv A outer s H vs Q E hr h => ?_)
  have hu := hu_of hr
  apply Exists.intro
  apply And.intro
  · refine' Bx.out (bpss_cons (bps_set (i := 1) nd_law_above rfl (Or.inl rfl) bpe_dnewK (by rfl) (.inl rfl))
  (bpss_cons (bps_for qz rfl (bpi_seqK (K := K) rfl (bv 0)) (bpg_tupK (K := K) (n := 2) rfl rfl (bpgs_cons (bpg_name (i := 2) nd_law_above rfl (Or.inl rfl) (.inl rfl)) (bpgs_cons (bpg_name (i := 3) nd_law_above rfl (Or.inl rfl) (.inl rfl)) bpgs_nil (by rfl)) (by rfl)) (by rfl) (by rfl))
   (bpss_cons (bps_set (i := 4) nd_law_above rfl (Or.inr rfl) (bpe_lst (bpa_consF (bv 2) bpa_nil (by rfl))) (by rfl) (.inl rfl))
  (bpss_cons (bps_for qz rfl (bpi_seqK (K := K) rfl (bv 3)) (bpg_name (i := 5) nd_law_above rfl (Or.inl rfl) (.inl rfl))
   (bpss_one (bps_set (i := 4) nd_law_above rfl (Or.inr rfl) (bpe_op (op_addUK (K := K) rfl) (bv 4) (bpe_dget hu (bv 1) (bv 5) (fun _ _ => rfl))) (by rfl) (.inl rfl))) (by intro _;rfl))
  (bpss_one (bps_dput hu (bv 1) (bv 2) (bpe_comp1 (compOk_of (N' := ["_law_other", "_law_rest", "_law_some"]) (own := ["_law_other", "_law_rest"]) (fr := [4]) (by kernel_rfl)) rfl (bpi_seqK (K := K) rfl (bv 0)) ?hb1 (by intro _;rfl)) rfl)))) (by intro _;rfl))
  (bpss_one (bps_ret (bv 1)))))
    case hb1 => (intro cl C s H fp;refine' ⟨Bx.out (bpg_tupK (K := K) (n := 2) rfl rfl (bpgs_cons (bpg_name (i := 0) nd_law_above_c1 rfl (Or.inl rfl) (by first|exact .inl rfl|exact .inr rfl|assumption)) (bpgs_cons (bpg_name (i := 1) nd_law_above_c1 rfl (Or.inl rfl) (by first|exact .inl rfl|exact .inr rfl|assumption)) bpgs_nil (by rfl)) (by rfl)) (by rfl) (by rfl)),Bx.out (bpf_one (bpt_cmpR (op_inK (K := K) rfl) (bv 0) (bv 2) (by rfl))),Bx.out (bv 0)⟩)
  exact fn_d (f := F_law_above) ((ss_seq (ss_set se_dnew) (ss_seq (ss_for (si_seq (se_var 0)) (sg_tup (sgs_cons (sgs_cons sgs_nil))) (ss_seq (ss_set (se_lst (sa_cons (se_var 2) sa_nil))) (ss_seq (ss_for (si_seq (se_var 3)) sg_name (ss_set (se_op so_add (se_var 4) (se_dgetv (se_var 5))))) (ss_put (se_var 2) (se_comp (si_seq (se_var 0)) (sg_tup (sgs_cons (sgs_cons sgs_nil))) (gx_tup (gxs_cons (by decide) (gxs_cons (by decide) gxs_nil))) (st_t (se_op so_in (se_var 0) (se_var 2))) (se_var 0)))))) ss_retv))) h
theorem ok_law_reach {f:Addr} {fd:qt} (F:Fun K "_law_reach" "_law_reach" s_law_reach f fd) (T:Txt mg)  : FnOk P w K mg base CX0 1 f fd ["_law_table", "_law_arm_here"] (spD 2 G_law_reach) := by
  refine F.ok sc_law_reach (fun vs H Q E h => spD_len h) (fun cdv A outer s H vs Q E hr h => ?_)
  have hu := hu_of hr
  apply Exists.intro
  apply And.intro
  · refine' Bx.out (bpss_cons (bps_if (bpt_truthK (K := K) rfl (bpe_callB (call_isiK (K := K) rfl) (by rfl) T.isinstance boot_isinstance (bpa_consF (bv 1) (bpa_consF (bpe_bltn (v := .ty "tuple") (by rfl) T.tuple boot_tuple rfl (by decide) (by decide)) bpa_nil (by rfl)) (by rfl)) (by decide) (by decide) (star_each (by rfl)) (by rfl)) (fun _ => rfl)) (bpss_cons (bps_set (i := 2) nd_law_reach rfl (Or.inl rfl) (bpe_lst bpa_nil) (by rfl) (.inl rfl))
  (bpss_cons (bps_for qz rfl (bpi_seqK (K := K) rfl (bv 1)) (bpg_name (i := 3) nd_law_reach rfl (Or.inl rfl) (.inl rfl))
   (bpss_one (bps_set (i := 2) nd_law_reach rfl (Or.inl rfl) (bpe_op (op_addUK (K := K) rfl) (bv 2) (bpe_dget hu (bv 0) (bv 3) (fun _ _ => rfl))) (by rfl) (.inl rfl))) (by intro _;rfl))
  (bpss_one (bps_ret (bv 2))))) bpss_nil)
  (bpss_one (bps_ret (bpe_dget hu (bv 0) (bv 1) (fun _ _ => rfl)))))
  exact fn_d (f := F_law_reach) ((ss_seq (ss_if (st_tru (se_isi (se_var 1) kit_tuple)) (ss_seq (ss_set (se_lst sa_nil)) (ss_seq (ss_for (si_seq (se_var 1)) sg_name (ss_set (se_op so_add (se_var 2) (se_dgetv (se_var 3))))) ss_retv)) ss_nil) (ss_ret (se_dgetv (se_var 1))))) h
theorem ok_law_arm {f:Addr} {fd:qt} (F:Fun K "_law_arm" "_law_arm" s_law_arm f fd) (T:Txt mg) (D_law_take:Y_law_take P w K mg base):FnOk P w K mg base CX0 2 f fd ["_law_feed_here", "_law_names_here"] (spF 2 G_law_arm_k23) := by
  refine F.ok sc_law_arm (fun vs H Q E h => spF_len h) (fun cdv A outer s H vs Q E hr h => ?_)
  have hu := hu_of hr
  apply Exists.intro
  apply And.intro
  · refine' Bx.out (bpss_cons (bps_set (i := 2) nd_law_arm rfl (Or.inl rfl) (bpe_lst bpa_nil) (by rfl) (.inl rfl))
  (bpss_cons (bps_for qz rfl (bpi_range1 rfl T.range (bpa_consF (bpe_op (op_addUK (K := K) rfl) bpe_int (bpe_dn D_law_take (hr.mono (by decide)) (by rfl) (bpa_consF (bv 0) (bpa_consF bpe_int bpa_nil (by rfl)) (by rfl)) (by decide) (star_each (by rfl)) (by rfl))) bpa_nil (by rfl)) (by rfl)) (bpg_name (i := 3) nd_law_arm rfl (Or.inl rfl) (.inl rfl))
   (bpss_cons (bps_set (i := 4) nd_law_arm rfl (Or.inl rfl) (bpe_ix (ix_UK (K := K) rfl) (bv 1) (bpe_dn D_law_take (hr.mono (by decide)) (by rfl) (bpa_consF (bv 0) (bpa_consF (bpe_callB (call_lenK (K := K) rfl) (by rfl) T.len boot_len (bpa_consF (bv 1) bpa_nil (by rfl)) (by decide) (by decide) (star_each (by rfl)) (by rfl)) bpa_nil (by rfl)) (by rfl)) (by decide) (star_each (by rfl)) (by rfl)) (fun _ _ => rfl)) (by rfl) (.inl rfl))
  (bpss_one (bps_if (bpt_cmpR (op_notInK (K := K) rfl) (bv 4) (bv 2) (by rfl)) (bpss_one (bps_expr (bpe_bmK (K := K) rfl qAR qAj qAi mt_append (bv 2) (bpa_consF (bv 4) bpa_nil (by rfl)) (by rfl) (by rfl) (by rfl) (star_each (by rfl)) (by rfl)) (by rfl))) bpss_nil))) (by intro _;rfl))
  (bpss_cons (bps_if (bpt_cmpR (op_eqA (K := K) rfl hr.units) (bpe_dn D_law_take (hr.mono (by decide)) (by rfl) (bpa_consF (bv 0) (bpa_consF bpe_int bpa_nil (by rfl)) (by rfl)) (by decide) (star_each (by rfl)) (by rfl)) bpe_int (nomark _)) (bpss_one (bps_ret (bpe_ix (ix_UK (K := K) rfl) (bv 2) bpe_int (fun _ _ => rfl)))) bpss_nil)
  (bpss_one (bps_ret (bpe_callTy (call_tupleK (K := K) rfl) (by rfl) T.tuple boot_tuple (bpa_consF (bv 2) bpa_nil (by rfl)) (by decide) (by decide) (star_each (by rfl)) (by rfl)))))))
  exact fn_f (by decide) (F := F_law_arm_k23) ((ssf_seq (ssf_of (ssk_set (se_lst sa_nil) (by decide))) (ssf_seq (ssf_forF (sif_range1 (saf_cons (sef_op so_add (sef_pure (se_c fun _ => rp_mk_int)) (sef_callF (saf_cons (sef_pure (se_c fun _ => rp_mk_int)) saf_nil))) saf_nil)) (sgk_name (by decide)) (ssf_seq (ssf_set (sef_op so_ix (sef_pure (se_var 1)) (sef_callF (saf_cons (sef_pure (se_cb sc_len (sa_cons (se_var 1) sa_nil))) saf_nil))) (by decide)) (ssf_ifp (st_t (se_op so_in (se_var 4) (se_var 2))) (ssf_app (sef_pure (se_var 4))) ssf_nil))) (ssf_seq (ssf_if (stf_t (sef_op so_eq (sef_callF (saf_cons (sef_pure (se_c fun _ => rp_mk_int)) saf_nil)) (sef_pure (se_c fun _ => rp_mk_int)))) (ssf_retp (se_ixv (se_c fun _ => rp_mk_int))) ssf_nil) (ssf_retp (se_cb sc_tuple (sa_cons (se_var 2) sa_nil))))))) h
theorem ok_law_bent {f:Addr} {fd:qt} (F:Fun K "_law_bent" "_law_bent" s_law_bent f fd) (T:Txt mg) (D_law_take:Y_law_take P w K mg base):FnOk P w K mg base CX0 2 f fd ["_law_feed_here", "_law_arm_here", "_law_stranger"] (spF 3 G_law_bent) := by
  refine F.ok sc_law_bent (fun vs H Q E h => spF_len h) (fun cdv A outer s H vs Q E hr h => ?_)
  have hu := hu_of hr
  apply Exists.intro
  apply And.intro
  · refine' Bx.out (bpss_cons (bps_if (bpt_truthK (K := K) rfl (bpe_callB (call_isiK (K := K) rfl) (by rfl) T.isinstance boot_isinstance (bpa_consF (bv 1) (bpa_consF (bpe_bltn (v := .ty "tuple") (by rfl) T.tuple boot_tuple rfl (by decide) (by decide)) bpa_nil (by rfl)) (by rfl)) (by decide) (by decide) (star_each (by rfl)) (by rfl)) (fun _ => rfl)) (bpss_cons (bps_set (i := 3) nd_law_bent rfl (Or.inl rfl) (bpe_callTy (call_listK (K := K) rfl) (by rfl) T.list boot_list (bpa_consF (bv 1) bpa_nil (by rfl)) (by decide) (by decide) (star_each (by rfl)) (by rfl)) (by rfl) (.inl rfl))
  (bpss_cons (bps_setI (bv 3) (bpe_dn D_law_take (hr.mono (by decide)) (by rfl) (bpa_consF (bv 0) (bpa_consF (bpe_callB (call_lenK (K := K) rfl) (by rfl) T.len boot_len (bpa_consF (bv 3) bpa_nil (by rfl)) (by decide) (by decide) (star_each (by rfl)) (by rfl)) bpa_nil (by rfl)) (by rfl)) (by decide) (star_each (by rfl)) (by rfl)) (bv 2) (by intro _;rfl) (by rfl) (by rfl) (by rfl))
  (bpss_one (bps_ret (bpe_callTy (call_tupleK (K := K) rfl) (by rfl) T.tuple boot_tuple (bpa_consF (bv 3) bpa_nil (by rfl)) (by decide) (by decide) (star_each (by rfl)) (by rfl)))))) bpss_nil)
  (bpss_one (bps_ret (bv 2))))
  exact fn_f (by decide) (F := F_law_bent) ((ssf_seq (ssf_ifp (st_tru (se_isi (se_var 1) kit_tuple)) (ssf_seq (ssf_of (ssk_set (se_cb sc_list (sa_cons (se_var 1) sa_nil)) (by decide))) (ssf_seq (ssf_setIF (sef_callF (saf_cons (sef_pure (se_cb sc_len (sa_cons (se_var 3) sa_nil))) saf_nil)) (se_var 2)) (ssf_retp (se_cb sc_tuple (sa_cons (se_var 3) sa_nil))))) ssf_nil) ssf_retv)) h
theorem ok_law_pieces {f:Addr} {fd:qt} (F:Fun K "_law_pieces" "_law_pieces" s_law_pieces f fd) (T:Txt mg)  : FnOk P w K mg base CX0 1 f fd ["_law_arm_here"] (spD 1 G_names_in) := by
  refine F.ok sc_law_pieces (fun vs H Q E h => spD_len h) (fun cdv A outer s H vs Q E hr h => ?_)
  have hu := hu_of hr
  apply Exists.intro
  apply And.intro
  · refine' Bx.out (bpss_cons (bps_if (bpt_truthK (K := K) rfl (bpe_callB (call_isiK (K := K) rfl) (by rfl) T.isinstance boot_isinstance (bpa_consF (bv 0) (bpa_consF (bpe_bltn (v := .ty "tuple") (by rfl) T.tuple boot_tuple rfl (by decide) (by decide)) bpa_nil (by rfl)) (by rfl)) (by decide) (by decide) (star_each (by rfl)) (by rfl)) (fun _ => rfl)) (bpss_one (bps_ret (bpe_callTy (call_listK (K := K) rfl) (by rfl) T.list boot_list (bpa_consF (bv 0) bpa_nil (by rfl)) (by decide) (by decide) (star_each (by rfl)) (by rfl)))) bpss_nil)
  (bpss_one (bps_ret (bpe_lst (bpa_consF (bv 0) bpa_nil (by rfl))))))
  exact fn_d (f := F_names_in) ((ss_seq (ss_if (st_tru (se_isi (se_var 0) kit_tuple)) (ss_ret (se_cb sc_list (sa_cons (se_var 0) sa_nil))) ss_nil) (ss_ret (se_lst (sa_cons (se_var 0) sa_nil))))) h
theorem ok_law_found {f:Addr} {fd:qt} {cl:Str→Addr} {c0 c1 c2 c3:Addr} (F:Fun K "_law_found" "_law_found" s_law_found f fd) (T:Txt mg) (D_within:Y_within P w K mg base cl) (X_NoKind:XcOk P w K mg base "NoKind" (cl "NoKind")) (m_CallError:mg "CallError" = some (.ref c0)) (m_NoBook:mg "NoBook" = some (.ref c1)) (m_NoCall:mg "NoCall" = some (.ref c2)) (m_NoWeb:mg "NoWeb" = some (.ref c3)) (hv:mg "ValueError" = none)
    (k1:PySem.W.kitOne K (.ref (cl "NoKind")) (.ref c0)=some true) (k2:PySem.W.kitOne K (.ref (cl "NoKind")) (.type "ValueError")=some true) (k3:PySem.W.kitAny K (.ref (cl "NoKind")) [.ref c1,.ref c2,.ref c3]=some false) :
    FnOk P w K mg base CX0 5 f fd ["_law_web_here", "_law_one", "_law_other"] (spD 3 G_law_found) := by
  refine F.ok sc_law_found (fun vs H Q E h => spD_len h) (fun cdv A outer s H vs Q E hr h => ?_)
  have hu := hu_of hr
  obtain ⟨f1,fd1,F1,hm1,hk1,hb1⟩ := D_within
  obtain ⟨f2,fd2,M2,F2,hb2,hm2,hc2,he2⟩ := X_NoKind
  refine ⟨tFound K (cl "NoKind") c0 c1 c2 c3 (spX cl 3 G_withinX) (fun te => tTest (tIsN te)),?_,fn_found (g := G_withinX) (fun i σ H Q v e q => ⟨v,e,_,rfl,q⟩) k1 k2 k3 h⟩
  refine pss_cons ?_ (pss_cons ?_ (pss_cons ?_ (pss_cons ?_ (pss_cons ?_ (pss_cons ?_ (pss_one ?_))))))
  · exact (ps_set (i := 4) nd_law_found rfl (Or.inl rfl) pe_non (by rfl) (.inl rfl))
  · exact (ps_set (i := 5) nd_law_found rfl (Or.inl rfl) pe_non (by rfl) (.inl rfl))
  · exact (ps_set (i := 6) nd_law_found rfl (Or.inl rfl) pe_non (by rfl) (.inl rfl))
  · exact ps_try F1 (hr.mono (by decide)) (by rfl) hm1 hk1 hb1 (pa_cons (pv 0) (pa_cons (pv 1) (pa_cons (pv 2) pa_nil))) nd_law_found rfl rfl rfl rfl rfl rfl (by rfl) hm2 he2 (fun e => pss_cons (ps_set (i := 4) nd_law_found rfl (Or.inl rfl) (pv 3) (by rfl) (.inl rfl)) (pss_one (ps_set (i := 5) nd_law_found rfl (Or.inl rfl) (pe_xat M2 (pv 3)) (by rfl) (.inl rfl))))
  · exact ps_if (Bx.out (bpt_cmp (bpc_isN (bv 4)) (by first|exact nobehind _ (by decide) (by decide)|rfl))) (pss_one (ps_ret (pe_tup (pa_cons pe_str (pa_cons (pv 6) pa_nil))))) pss_nil
  · exact ps_set (i := 7) nd_law_found rfl (Or.inl rfl) (pe_tup (pa_cons (pe_callB (call_isx M2 hc2) (by rfl) T.isinstance boot_isinstance (pa_cons (pv 4) (pa_cons (pe_gcls (by rfl) m_CallError) pa_nil))) (pa_cons (pe_callB (call_isx M2 hc2) (by rfl) T.isinstance boot_isinstance (pa_cons (pv 4) (pa_cons (pe_bltn (v := .ty "ValueError") (by rfl) hv boot_ValueError rfl) pa_nil))) pa_nil))) (by rfl) (.inl rfl)
  · exact ps_ret (pe_tup (pa_cons pe_str (pa_cons (pv 5) (pa_cons (pv 7) (pa_cons (pe_callB (call_isx M2 hc2) (by rfl) T.isinstance boot_isinstance (pa_cons (pv 4) (pa_cons (pe_tup (pa_cons (pe_gcls (by rfl) m_NoBook) (pa_cons (pe_gcls (by rfl) m_NoCall) (pa_cons (pe_gcls (by rfl) m_NoWeb) pa_nil)))) pa_nil))) pa_nil)))))
end
inductive Arm where
  | one (n:Str)
  | many (ns:List Str)
noncomputable def Arm.parts:Arm→List Str
  | .one n => [n]
  | .many ns => ns
noncomputable def armD:Arm→PyData
  | .one n => .str n
  | .many ns => .tuple (ns.map .str)
theorem g_names_in_arm (a:Arm):G_names_in [armD a]=some (strsD a.parts,true) := by
  cases a with
  | one n => rfl
  | many ns => rfl
noncomputable def upA (W:Web) (a:Arm):List Str := a.parts.foldl (fun ks n => (up W n).foldl insS ks) []
theorem mem_upA {W:Web} {a:Arm} {x:Str}:x∈upA W a↔∃ n∈a.parts,x∈up W n := by
  unfold upA
  have:∀ (l ks:List Str),x∈l.foldl (fun ks n => (up W n).foldl insS ks) ks↔x∈ks∨∃ n∈l,x∈up W n := by
    intro l
    induction l with
    | nil => intro ks;simp
    | cons n l ih => intro ks;rw [qAr,ih,mem_insSs];simp [or_assoc]
  rw [this];simp
theorem g_roof_arm {W:Web} (h:WebOk W) {a:Arm} (hk:∀ n∈a.parts,n∈nm W):G_roof_of [.dict (dS roofD (ups W)),armD a]=some (roofD (upA W a),true) := by
  have nd:∀ (l ks:List Str),ks.Nodup→(∀ x∈ks,x∈nm W)→(l.foldl (fun ks n => (up W n).foldl insS ks) ks).Nodup∧∀ x∈l.foldl (fun ks n => (up W n).foldl insS ks) ks,x∈nm W := by
    intro l
    induction l with
    | nil => intro ks h1 h2;exact ⟨h1,h2⟩
    | cons n l ih =>
      intro ks h1 h2
      refine ih _ (nd_insSs h1) fun x hx => ?_
      rcases mem_insSs.mp hx with z|z
      · exact h2 x z
      · exact up_sub h z
  obtain ⟨env',lp,s3,rfl⟩ := forL_runs (enc := PyData.str) (g := gN 3) (body := sUpd 2 (eDGetV 0 (eVar 3))) (l := a.parts) (env := [.pl (.dict (dS roofD (ups W))),.pl (armD a),.ac (roofD []),.no])
    (fun pre env => ∃ s3,env=[.pl (.dict (dS roofD (ups W))),.pl (armD a),.ac (roofD (pre.foldl (fun ks n => (up W n).foldl insS ks) [])),s3]) ⟨_,rfl⟩ (by
      rintro pre n post env hp ⟨s3,rfl⟩
      have hn:n∈nm W := hk n (by rw [← hp];simp)
      refine ⟨[.pl (.dict (dS roofD (ups W))),.pl (armD a),.ac (roofD (pre.foldl (fun ks n => (up W n).foldl insS ks) [])),.pl (.str n)],[.pl (.dict (dS roofD (ups W))),.pl (armD a),.ac (roofD ((pre++[n]).foldl (fun ks n => (up W n).foldl insS ks) [])),.pl (.str n)],rfl,.inl ?_,_,rfl⟩
      · have l1 := up_len h n
        obtain ⟨n1,n2⟩ := nd pre [] qBx (by simp)
        have l2 := nodup_sub _ _ n1 n2
        have l3 := nm_len h
        have lz:(roofL (pre.foldl (fun ks n => (up W n).foldl insS ks) [])).length+(roofL (up W n)).length≤100000 := by unfold roofL;rw [qD,qD];omega
        simp only [sUpd,roofD,eDGetV,eVar,qAq,qAY,qC,keyD,dget_dS,ups_lookup hn,qAw]
        rw [if_pos ⟨lz,by simp⟩,dmerge_roof,qBb]
        simp [frzs])
  exact fn_rt (env := [.pl (.dict (dS roofD (ups W))),.pl (armD a),.no,.no]) rfl (seq_nx rfl (seq_nx (for_list (call_is (n := 1) (rs := [⟨armD a,false,[]⟩]) rfl rfl (g_names_in_arm a)) lp) rfl))
theorem eqv_strs:∀ (a b:List Str),PyData.eqvAll (a.map .str) (b.map .str)=(a==b)
  | [],[] => rfl
  | [],_::_ => rfl
  | _::_,[] => rfl
  | x::a,y::b => by
    show (qAV (.str x) (.str y)&&PyData.eqvAll (a.map .str) (b.map .str))=_
    rw [eqv_strs a b]
    show ((x==y)&&(a==b))=_
    rfl
theorem e_addL {a b:EF} {env:DEnv} {x y:List Str} {f1 f2:Bool} {b1 b2:List Nat} (ha:a env=some ⟨strsD x,f1,b1⟩) (hb:b env=some ⟨strsD y,f2,b2⟩) (h:x.length+y.length≤100000):eOp addD a b env=some ⟨strsD (x++y),true,b1++b2⟩ := by
  unfold eOp
  rw [ha,hb]
  show ((if (x.map PyData.str).length+(y.map PyData.str).length≤100000 then some (PyData.list (x.map .str++y.map .str),true) else none).bind fun z => some (⟨z.1,z.2,bsOf z.1 (b1++b2)⟩:Val))=_
  rw [if_pos (by rw [qD,qD];exact h),← qAG]
  rfl
theorem e_gti {a b:EF} {env:DEnv} {i j:Int} (ha:a env=some (vi i)) (hb:b env=some (vi j)):eOp gtD a b env=some (vb (decide (j<i))) := by
  unfold eOp;rw [ha,hb];rfl
section
variable {A0 A2 A6 s8 s9:Sl} {ds:List PyData} {xs:List Str} {r:Int} {n at_:Nat}
end
noncomputable def Hd (d:PyData) (s:Sl):Prop := s=.pl d∨s=.ac d
theorem e_hd {env:DEnv} {i:Nat} {d:PyData} {s:Sl} (h:env[i]?=some s) (hs:Hd d s):∃ bs,eVar i env=some ⟨d,false,bs⟩ := by
  unfold eVar
  rw [h]
  rcases hs with rfl|rfl
  · exact ⟨_,rfl⟩
  · exact ⟨_,rfl⟩
section
variable {A0 A2 A6 s8 s9:Sl} {ds:List PyData} {xs:List Str} {r:Int} {n at_:Nat}
end
theorem fseq_nx {a b:SFf} {env e':DEnv} (h:a env=some (.nx e')):fSeq a b env=b e' := by unfold fSeq;rw [h];rfl
theorem fseq_rt {a b:SFf} {env e':DEnv} {d:PyData} {fr:Bool} (h:a env=some (.rt d fr e')):fSeq a b env=some (.rt d fr e') := by unfold fSeq;rw [h];rfl
theorem fs_nx {F:SF} {env e':DEnv} (h:F env=some (.nx e')):fS F env=some (.nx e') := by unfold fS;rw [h];rfl
theorem sset_pl {i:Nat} {e:EF} {env:DEnv} {d:PyData} (h:e env=some ⟨d,false,[]⟩):sSet i e env=some (.nx (env.set i (.pl d))) := by unfold sSet;rw [h];rfl
theorem fs_set {i:Nat} {e:EF} {env:DEnv} {d:PyData} (h:e env=some ⟨d,false,[]⟩):fS (sSet i e) env=some (.nx (env.set i (.pl d))) := fs_nx (sset_pl h)
theorem fset_pl {i:Nat} {g:EFf} {env e1:DEnv} {d:PyData} (h:g env=some (⟨d,false,[]⟩,e1)):fSet i g env=some (.nx (e1.set i (.pl d))) := by unfold fSet;rw [h];rfl
theorem fset_ac {i:Nat} {g:EFf} {env e1:DEnv} {d:PyData} (h:g env=some (⟨d,true,[]⟩,e1)):fSet i g env=some (.nx (e1.set i (.ac d))) := by unfold fSet;rw [h];rfl
theorem fpure_is {f:Nat} {e:EF} {env:DEnv} {d0:PyData} {r:Val} (h0:env[f]?=some (.ac d0)) (h:e env=some r) (hb:f∉r.bs):fPure f e env=some (r,env) := by
  unfold fPure;rw [h0];show (e env).bind _=_;rw [h,qC,if_pos hb]
theorem fpure_0 {f:Nat} {e:EF} {env:DEnv} {d0:PyData} {d:PyData} {fr:Bool} (h0:env[f]?=some (.ac d0)) (h:e env=some ⟨d,fr,[]⟩):fPure f e env=some (⟨d,fr,[]⟩,env) := fpure_is h0 h (by simp)
theorem fop_is {w:OF} {a b:EFf} {env e1 e2:DEnv} {x y:Val} {z:PyData} {fr:Bool} (ha:a env=some (x,e1)) (hb:b e1=some (y,e2)) (hw:w x.d y.d=some (z,fr)):fOp w a b env=some (⟨z,fr,bsOf z (x.bs++y.bs)⟩,e2) := by
  unfold fOp;rw [ha,qC,hb,qC,hw];rfl
theorem fifp_t {c:TF} {a b:SFf} {env:DEnv} (h:c env=some true):fIfP c a b env=a env := by unfold fIfP;rw [h];rfl
theorem fifp_f {c:TF} {a b:SFf} {env:DEnv} (h:c env=some false):fIfP c a b env=b env := by unfold fIfP;rw [h];rfl
theorem fif_is {c:TFf} {a b:SFf} {env e1:DEnv} {x:Bool} (h:c env=some (x,e1)):fIf c a b env=if x=true then a e1 else b e1 := by unfold fIf;rw [h];rfl
theorem ffor_is {f:IF'} {g:GT} {body:SFf} {env:DEnv} {ds:List PyData} {bs:List Nat} (h:f env=some (ds,bs)):fFor f g body env=forLF g body ds (frzs env bs) := by unfold fFor;rw [h];rfl
theorem fforF_is {f:IFf} {g:GT} {body:SFf} {env e1:DEnv} {ds:List PyData} {bs:List Nat} (h:f env=some (ds,bs,e1)):fForF f g body env=forLF g body ds (frzs e1 bs) := by unfold fForF;rw [h];rfl
theorem forLF_run {α:Type} {enc:α→PyData} {g:GT} {body:SFf} (I:List α→DEnv→Prop) (all:List α):∀ (l pre:List α) (env:DEnv),pre++l=all→I pre env →
    (∀ pre x post env,pre++x::post=all→I pre env→∃ e1 e2,g (enc x) env=some e1∧body e1=some (.nx e2)∧I (pre++[x]) e2)→∃ env',forLF g body (l.map enc) env=some (.nx env')∧I all env'
  | [],pre,env,hall,h0,hs => by
    rw [qAH] at hall
    subst hall
    exact ⟨env,rfl,h0⟩
  | x::l,pre,env,hall,h0,hs => by
    obtain ⟨e1,e2,h1,h2,h3⟩ := hs pre x l env hall h0
    obtain ⟨env',h4,h5⟩ := forLF_run I all l (pre++[x]) e2 (by rw [← hall];simp) h3 hs
    refine ⟨env',?_,h5⟩
    rw [qv]
    unfold forLF
    rw [h1,qC,h2,qC]
    exact h4
theorem forLF_runs {α:Type} {enc:α→PyData} {g:GT} {body:SFf} {l:List α} {env:DEnv} (I:List α→DEnv→Prop) (h0:I [] env) (hs:∀ pre x post env,pre++x::post=l→I pre env→∃ e1 e2,g (enc x) env=some e1∧body e1=some (.nx e2)∧I (pre++[x]) e2) :
    ∃ env',forLF g body (l.map enc) env=some (.nx env')∧I l env' := forLF_run I l l [] env rfl h0 hs
theorem forLF_range {g:GT} {body:SFf} {n:Nat} {env:DEnv} (I:Nat→DEnv→Prop) (h0:I 0 env) (hs:∀ k env,k<n→I k env→∃ e1 e2,g (.int (k:Int)) env=some e1∧body e1=some (.nx e2)∧I (k+1) e2) :
    ∃ env',forLF g body (rangeD 0 n) env=some (.nx env')∧I n env' := by
  rw [range_map]
  obtain ⟨env',h1,h2⟩ := forLF_runs (enc := fun (k:Nat) => PyData.int (k:Int)) (g := g) (body := body) (l := List.range n) (env := env) (fun pre e => I pre.length e) h0 fun pre x post e hp hI => by
    have hx:x=pre.length∧pre.length<n := by
      have hlen:pre.length<n := by
        have := congrArg List.length hp
        rw [qK,qf,qAt] at this
        omega
      have := congrArg (fun l => l[pre.length]?) hp
      rw [qg (qR _),Nat.sub_self,qCS hlen] at this
      exact ⟨qP this,hlen⟩
    obtain ⟨e1,e2,q1,q2,q3⟩ := hs pre.length e hx.2 hI
    exact ⟨e1,e2,by rw [hx.1];exact q1,q2,by rw [qK];exact q3⟩
  rw [qAt] at h2
  exact ⟨env',h1,h2⟩
noncomputable def Fok (d:PyData) (n:Nat):Prop := ∃ g m s:Int,d=.list [.int g,.int m,.int s]∧0≤g∧0≤m∧m<2 ^ 32∧0≤s∧s≤n
theorem Fok.mono {d:PyData} {n n':Nat} (h:Fok d n) (hn:n≤n'):Fok d n' := by
  obtain ⟨g,m,s,e,h1,h2,h3,h4,h5⟩ := h
  exact ⟨g,m,s,e,h1,h2,h3,h4,by omega⟩
theorem Fok.flat {d:PyData} {n:Nat} (h:Fok d n):flatL d=true := by
  obtain ⟨g,m,s,rfl,_⟩ := h
  rfl
theorem ret_v {env:DEnv} {i:Nat} {d:PyData} (h:env[i]?=some (.pl d)):fRetV i env=some (.rt d false env) := by unfold fRetV;rw [h]
theorem g_law_take {d:PyData} {n:Nat} {m:Int} (ok:Fok d n) (hn:n≤10 ^ 12) (m0:0<m) (m1:m<1073741824):∃ (r:Int) (d':PyData),G_law_take d [.int m]=some (.int r,false,d')∧0≤r∧r<m∧Fok d' (n+1) := by
  obtain ⟨g,mm,s,rfl,g0,mm0,mm1,s0,s1⟩ := ok
  have key:∀ (r:Int) (d':PyData) (env:DEnv),env[0]?=some (.ac d')→F_law_take [.ac (.list [.int g,.int mm,.int s]),.pl (.int m),.no,.no,.no]=some (.rt (.int r) false env)→G_law_take (.list [.int g,.int mm,.int s]) [.int m]=some (.int r,false,d') := fun r d' env he h => by
    unfold G_law_take fnF
    show (F_law_take [.ac (.list [.int g,.int mm,.int s]),.pl (.int m),.no,.no,.no]).bind _=_
    rw [h]
    show (match env[0]? with|some (.ac d1) => some (PyData.int r,false,d1)|_ => none)=_
    rw [he]
  by_cases hg:0<g
  · refine ⟨g % m,.list [.int (g / m),.int mm,.int s],key _ _ [.ac (.list [.int (g / m),.int mm,.int s]),.pl (.int m),.pl (.int (g % m)),.no,.no] rfl ?_,qAh _ (by omega),qAU _ m0,⟨g / m,mm,s,rfl,Int.ediv_nonneg g0 (by omega),mm0,mm1,s0,by omega⟩⟩
    unfold F_law_take
    have t:tBool (eOp gtD (eIxV 0 (eC (.int 0))) (eC (.int 0))) [.ac (.list [.int g,.int mm,.int s]),.pl (.int m),.no,.no,.no]=some true := t_bool (by rw [e_gti (i := g) (j := 0) (e_ixA (n := 0) rfl rfl rfl) rfl,decide_eq_true hg])
    have a1:sSet 2 (eOp modD (eIxV 0 (eC (.int 0))) (eVar 1)) [.ac (.list [.int g,.int mm,.int s]),.pl (.int m),.no,.no,.no]=some (.nx [.ac (.list [.int g,.int mm,.int s]),.pl (.int m),.pl (.int (g % m)),.no,.no]) := sset_pl (e_mod (e_ixA (n := 0) rfl rfl rfl) rfl m0)
    have a2:sSetI 0 (eC (.int 0)) (eOp fdivD (eIxV 0 (eC (.int 0))) (eVar 1)) [.ac (.list [.int g,.int mm,.int s]),.pl (.int m),.pl (.int (g % m)),.no,.no]=some (.nx [.ac (.list [.int (g / m),.int mm,.int s]),.pl (.int m),.pl (.int (g % m)),.no,.no]) := by
      unfold sSetI
      show (Option.bind (eOp fdivD (eIxV 0 (eC (.int 0))) (eVar 1) _) _)=_
      rw [e_fdiv (i := g) (j := m) (e_ixA (n := 0) rfl rfl rfl) rfl m0 m1]
      rfl
    refine fseq_rt ?_
    rw [fifp_t t,fseq_nx (fs_nx a1),fseq_nx (fs_nx a2)]
    exact ret_v rfl
  · have eg:g=0 := by omega
    subst eg
    have bs:(-(2:Int) ^ 64<s+1∧s+1<2 ^ 64) := by constructor<;>omega
    generalize h1:(mm+40692 * (s+1) * (s+1)+69621 * (s+1)) % 2147483647=x1
    have x10:0≤x1∧x1<2147483647 := by rw [← h1];exact ⟨qAh _ (by decide),qAU _ (by decide)⟩
    generalize h2:(x1 * x1+39373 * x1+(s+1)) % 2147483579=x2
    have x20:0≤x2∧x2<2147483579 := by rw [← h2];exact ⟨qAh _ (by decide),qAU _ (by decide)⟩
    generalize h3:(x2 * x2+16807 * x2) % 2147483549=x3
    have sm:∀ {x:Int},0≤x∧x<2147483647→-(2:Int) ^ 64<x∧x<2 ^ 64 := fun {x} h => by constructor<;>omega
    refine ⟨x3 / 64 % m,.list [.int 0,.int mm,.int (s+1)],key _ _ [.ac (.list [.int 0,.int mm,.int (s+1)]),.pl (.int m),.no,.pl (.int (s+1)),.pl (.int x3)] rfl ?_,qAh _ (by omega),qAU _ m0,⟨0,mm,s+1,rfl,by omega,mm0,mm1,by omega,by omega⟩⟩
    unfold F_law_take
    have t:tBool (eOp gtD (eIxV 0 (eC (.int 0))) (eC (.int 0))) [.ac (.list [.int 0,.int mm,.int s]),.pl (.int m),.no,.no,.no]=some false := t_bool (by rw [e_gti (i := 0) (j := 0) (e_ixA (n := 0) rfl rfl rfl) rfl];rfl)
    have a1:sSet 3 (eOp addD (eIxV 0 (eC (.int 2))) (eC (.int 1))) [.ac (.list [.int 0,.int mm,.int s]),.pl (.int m),.no,.no,.no]=some (.nx [.ac (.list [.int 0,.int mm,.int s]),.pl (.int m),.no,.pl (.int (s+1)),.no]) := sset_pl (e_add (e_ixA (n := 2) rfl rfl rfl) rfl)
    have a2:sSetI 0 (eC (.int 2)) (eVar 3) [.ac (.list [.int 0,.int mm,.int s]),.pl (.int m),.no,.pl (.int (s+1)),.no]=some (.nx [.ac (.list [.int 0,.int mm,.int (s+1)]),.pl (.int m),.no,.pl (.int (s+1)),.no]) := rfl
    have a3:sSet 4 (eOp modD (eOp addD (eOp addD (eIxV 0 (eC (.int 1))) (eOp mulD (eOp mulD (eC (.int 40692)) (eVar 3)) (eVar 3))) (eOp mulD (eC (.int 69621)) (eVar 3))) (eC (.int 2147483647))) [.ac (.list [.int 0,.int mm,.int (s+1)]),.pl (.int m),.no,.pl (.int (s+1)),.no]=some (.nx [.ac (.list [.int 0,.int mm,.int (s+1)]),.pl (.int m),.no,.pl (.int (s+1)),.pl (.int x1)]) := by
      rw [← h1]
      exact sset_pl (e_mod (e_add (e_add (e_ixA (n := 1) rfl rfl rfl) (e_mul (e_mul rfl rfl (.inr bs)) rfl (.inr bs))) (e_mul rfl rfl (.inr bs))) rfl (by decide))
    have a4:sSet 4 (eOp modD (eOp addD (eOp addD (eOp mulD (eVar 4) (eVar 4)) (eOp mulD (eC (.int 39373)) (eVar 4))) (eVar 3)) (eC (.int 2147483579))) [.ac (.list [.int 0,.int mm,.int (s+1)]),.pl (.int m),.no,.pl (.int (s+1)),.pl (.int x1)]=some (.nx [.ac (.list [.int 0,.int mm,.int (s+1)]),.pl (.int m),.no,.pl (.int (s+1)),.pl (.int x2)]) := by
      rw [← h2]
      exact sset_pl (e_mod (e_add (e_add (e_mul rfl rfl (.inr (sm x10))) (e_mul rfl rfl (.inr (sm x10)))) rfl) rfl (by decide))
    have a5:sSet 4 (eOp modD (eOp addD (eOp mulD (eVar 4) (eVar 4)) (eOp mulD (eC (.int 16807)) (eVar 4))) (eC (.int 2147483549))) [.ac (.list [.int 0,.int mm,.int (s+1)]),.pl (.int m),.no,.pl (.int (s+1)),.pl (.int x2)]=some (.nx [.ac (.list [.int 0,.int mm,.int (s+1)]),.pl (.int m),.no,.pl (.int (s+1)),.pl (.int x3)]) := by
      rw [← h3]
      have := sm (x := x2) ⟨x20.1,by omega⟩
      exact sset_pl (e_mod (e_add (e_mul rfl rfl (.inr this)) (e_mul rfl rfl (.inr this))) rfl (by decide))
    rw [fseq_nx (fifp_f t),fseq_nx (fs_nx a1),fseq_nx (fs_nx a2),fseq_nx (fs_nx a3),fseq_nx (fs_nx a4),fseq_nx (fs_nx a5)]
    unfold fRetP
    rw [e_mod (i := x3 / 64) (j := m) (e_fdiv (i := x3) (j := 64) rfl rfl (by decide) (by decide)) rfl m0]
    rfl
theorem fcallF_is {f n:Nat} {g:GE} {a:AFf} {env e1:DEnv} {d0 d1 d':PyData} {rs:List Val} {z:PyData} {fr:Bool} (h0:env[f]?=some (.ac d0)) (ha:a env=some (rs,e1)) (h1:e1[f]?=some (.ac d1)) (hl:rs.length+1=n) (hg:g d1 (datas rs)=some (z,fr,d')) (hf:flatL d'=true) :
    fCallF f n g a env=some (⟨z,fr,bsOf z (bss rs)⟩,(frzs e1 (bss rs)).set f (.ac d')) := by
  unfold fCallF
  rw [h0]
  show (a env).bind _=_
  rw [ha,qC]
  show (match e1[f]? with|some (.ac d0) => _|_ => none)=_
  rw [h1]
  show (if rs.length+1=n then _ else none)=_
  rw [if_pos hl,hg,qC,if_pos hf]
theorem fcons1 {f:Nat} {x:EFf} {env e1:DEnv} {r:Val} {d:PyData} (hx:x env=some (r,e1)) (h1:e1[f]?=some (.ac d)):fCons x (fNil f) env=some ([r],e1) := by
  unfold fCons
  rw [hx,qC]
  show (fNil f e1).map _=_
  unfold fNil
  rw [h1];rfl
theorem take_atF {f:Nat} {x:EFf} {env e1:DEnv} {d0 d:PyData} {n:Nat} {m:Int} (h0:env[f]?=some (.ac d0)) (hx:x env=some (vi m,e1)) (h1:e1[f]?=some (.ac d)) (ok:Fok d n) (hn:n≤10 ^ 12) (m0:0<m) (m1:m<1073741824) :
    ∃ (r:Int) (d':PyData),fCallF f 2 G_law_take (fCons x (fNil f)) env=some (vi r,e1.set f (.ac d'))∧0≤r∧r<m∧Fok d' (n+1) := by
  obtain ⟨r,d',q1,q2,q3,q4⟩ := g_law_take ok hn m0 m1
  exact ⟨r,d',fcallF_is h0 (fcons1 hx h1) h1 rfl q1 q4.flat,q2,q3,q4⟩
theorem take_at {f:Nat} {e:EF} {env:DEnv} {d:PyData} {n:Nat} {m:Int} (h0:env[f]?=some (.ac d)) (he:e env=some (vi m)) (ok:Fok d n) (hn:n≤10 ^ 12) (m0:0<m) (m1:m<1073741824) :
    ∃ (r:Int) (d':PyData),fCallF f 2 G_law_take (fCons (fPure f e) (fNil f)) env=some (vi r,env.set f (.ac d'))∧0≤r∧r<m∧Fok d' (n+1) := take_atF h0 (fpure_0 h0 he) h0 ok hn m0 m1
theorem i_range1 {e:EF} {env:DEnv} {n:Nat} (h:e env=some (vi (n:Int))) (hn:n<2 ^ 62):iRange1 (aCons e aNil) env=some (rangeD 0 n,[]) := by
  unfold iRange1
  rw [args1 h,qC]
  show (if -(2 ^ 62)≤(n:Int)∧(n:Int)<2 ^ 62 then some (rangeD 0 (n:Int).toNat,[]) else none)=_
  rw [if_pos ⟨by omega,by omega⟩,Int.toNat_natCast]
theorem idx_len (x:Str) (a b:Nat) (hb:b≤x.length):(((List.range (b - a)).map fun k => a+k).filterMap (x.cps[·]?)).length=b - a := by
  have:((List.range (b - a)).map fun k => a+k).filterMap (x.cps[·]?)=((List.range (b - a)).map fun k => a+k).map fun i => x.cps[i]?.getD 0 := by
    have g:∀ l:List Nat,(∀ i∈l,i<x.cps.size)→l.filterMap (x.cps[·]?)=l.map fun i => x.cps[i]?.getD 0 := by
      intro l
      induction l with
      | nil => intro _;rfl
      | cons i l ih =>
        intro h
        have hi := h i qm
        rw [qA1,qA5 hi,qv,ih fun j hj => h j (qO _ hj),qA5 hi]
        rfl
    refine g _ fun i hi => ?_
    obtain ⟨k,hk,rfl⟩ := qBK.mp hi
    have hk := qA7.mp hk
    have:x.length=x.cps.size := rfl
    omega
  rw [this,qD,qD,qAt]
theorem idx_pre (n a:Nat):Builtin.Str.strSliceIndices none (some (a:Int)) 1 n=(List.range (min a n - 0)).map fun k => 0+k := by
  unfold Builtin.Str.strSliceIndices sliceRange
  simp only [show (1:Int) > 0 by decide,if_true]
  rw [if_neg (show ¬ ((a:Int)<0) by omega)]
  have e:(max 0 (min (a:Int) (n:Int)))=((min a n:Nat):Int) := by omega
  rw [e]
  by_cases h:(0:Int)<((min a n:Nat):Int)
  · rw [if_pos h]
    have e2:((((min a n:Nat):Int) - 0+1 - 1) / 1).toNat=min a n - 0 := by rw [Int.ediv_one];omega
    rw [e2]
    exact qAm fun k _ => by omega
  · rw [if_neg h]
    have e2:min a n - 0=0 := by omega
    rw [e2];rfl
theorem idx_suf (n a:Nat):Builtin.Str.strSliceIndices (some (a:Int)) none 1 n=(List.range (n - min a n)).map fun k => min a n+k := by
  unfold Builtin.Str.strSliceIndices sliceRange
  simp only [show (1:Int) > 0 by decide,if_true]
  rw [if_neg (show ¬ ((a:Int)<0) by omega)]
  have e:(max 0 (min (a:Int) (n:Int)))=((min a n:Nat):Int) := by omega
  rw [e]
  by_cases h:((min a n:Nat):Int)<(n:Int)
  · rw [if_pos h]
    have e2:(((n:Int) - ((min a n:Nat):Int)+1 - 1) / 1).toNat=n - min a n := by rw [Int.ediv_one];omega
    rw [e2]
    exact qAm fun k _ => by omega
  · rw [if_neg h]
    have e2:n - min a n=0 := by omega
    rw [e2];rfl
theorem len_pre (x:Str) (a:Nat):(Txt.slice x none (some (a:Int))).length=min a x.length := by
  unfold Txt.slice
  rw [idx_pre]
  split
  · rename_i h
    rw [qq,beq_iff_eq,beq_iff_eq,qD,qAt] at h
    omega
  · show (List.filterMap _ _).toArray.size=_
    rw [qH,idx_len x 0 (min a x.length) (by omega)];omega
theorem len_suf (x:Str) (a:Nat):(Txt.slice x (some (a:Int)) none).length=x.length - min a x.length := by
  unfold Txt.slice
  rw [idx_suf]
  split
  · rename_i h
    rw [qq,beq_iff_eq,beq_iff_eq,qD,qAt] at h
    omega
  · show (List.filterMap _ _).toArray.size=_
    rw [qH,idx_len x (min a x.length) x.length (by omega)]
theorem len_cps (x:Str):x.cps.toList.length=x.length := rfl
noncomputable def nameF (b:Str) (a:Nat) (i:Int):Str := Txt.slice b none (some (a:Int))++ltr i++Txt.slice b (some (a:Int)) none
theorem nameF_inj {b c:Str} {a:Nat} {i j:Int} (hi:0≤i) (hj:0≤j) (h:nameF b a i=nameF c a j):i=j := by
  unfold nameF at h
  have l1:∀ k,(ltr k).length=1 := fun _ => rfl
  have hl := congrArg Str.length h
  rw [app_len,app_len,app_len,app_len,l1,l1,len_pre,len_pre,len_suf,len_suf] at hl
  have q := congrArg (fun x:Str => x.cps.toList) h
  simp only [app_list,qBc] at q
  have q2 := (List.append_inj q (by rw [len_cps,len_cps,len_pre,len_pre];omega)).2
  have q3 := (List.append_inj q2 (by rw [len_cps,len_cps];rfl)).1
  exact ltr_inj hi hj (by unfold ltr at q3 ⊢;congr 1;exact Array.toList_inj.mp q3)
theorem nameF_low {b:Str} {a:Nat} {i:Int} (h:Low b) (h0:0≤i) (h1:i<26):Low (nameF b a i) := ((h.slice _ _).app (Low.ltr h0 h1)).app (h.slice _ _)
theorem tab26F:∀ st∈([1,3,5,7,9,11,15,17,19,21,23,25]:List Nat),∀ a<16,∀ b<16,st * a % 26=st * b % 26→a=b := by decide +kernel
noncomputable def stepsF:List Nat := [1,3,5,7,9,11,15,17,19,21,23,25]
theorem step_injF {o:Int} {st:Nat} (hs:st∈stepsF) {a b:Nat} (ha:a<16) (hb:b<16) (h:(o+st * a) % 26=(o+st * b) % 26):a=b := by
  have h2 := Int.emod_add_cancel_left.mp h
  exact tab26F st hs a ha b hb (by exact_mod_cast h2)
theorem ix_abc {i:Int} (h0:0≤i) (h1:i<26):ixD (.str abc) (.int i)=some (.str (ltr i),false) := by
  show (if abc.length≤100000 then (atI abc.cps.toList i).map fun c => (PyData.str ⟨#[c]⟩,false) else none)=_
  rw [if_pos (by rw [abc_len];decide),abc_at h0 h1];rfl
theorem g_law_letters {d:PyData} {n m:Nat} (ok:Fok d n) (hn:n+100≤10 ^ 12) (hm:m≤8):∃ (w:Str) (d':PyData),G_law_letters d [.int (m:Int)]=some (.str w,false,d')∧w.length=m∧Low w∧Fok d' (n+m) := by
  have loop:∃ env',forLF (gN 3) (fSet 2 (fOp addD (fPure 0 (eVar 2)) (fOp ixD (fPure 0 (eC (.str abc))) (fCallF 0 2 G_law_take (fCons (fPure 0 (eC (.int 26))) (fNil 0)))))) (rangeD 0 m) [.ac d,.pl (.int (m:Int)),.pl (.str ""),.no]=some (.nx env') ∧
      ∃ (w:Str) (d':PyData) (s:Sl),env'=[.ac d',.pl (.int (m:Int)),.pl (.str w),s]∧w.length=m∧Low w∧Fok d' (n+m) := by
    refine forLF_range (fun k env => ∃ (w:Str) (d':PyData) (s:Sl),env=[.ac d',.pl (.int (m:Int)),.pl (.str w),s]∧w.length=k∧Low w∧Fok d' (n+k)) ⟨"",d,.no,rfl,rfl,(fun c hc => nomatch hc),ok⟩ ?_
    rintro k env hk ⟨w,d1,s,rfl,hw,lw,ok1⟩
    obtain ⟨r,d2,q1,q2,q3,q4⟩ := take_at (f := 0) (e := eC (.int 26)) (env := [.ac d1,.pl (.int (m:Int)),.pl (.str w),.pl (.int (k:Int))]) rfl rfl ok1 (by omega) (by decide) (by decide)
    refine ⟨_,[.ac d2,.pl (.int (m:Int)),.pl (.str (w++ltr r)),.pl (.int (k:Int))],rfl,?_,w++ltr r,d2,_,rfl,by rw [app_len,hw];rfl,lw.app (Low.ltr q2 q3),q4⟩
    have a1 := fop_is (fpure_0 (f := 0) (e := eC (.str abc)) (env := [.ac d1,.pl (.int (m:Int)),.pl (.str w),.pl (.int (k:Int))]) (d0 := d1) rfl rfl) q1 (ix_abc q2 q3)
    have a2 := fop_is (w := addD) (fpure_0 (f := 0) (e := eVar 2) (env := [.ac d1,.pl (.int (m:Int)),.pl (.str w),.pl (.int (k:Int))]) (d0 := d1) rfl rfl) a1 (z := .str (w++ltr r)) (fr := false) (by
      show (if w.length+(ltr r).length≤100000 then some (PyData.str (w++ltr r),false) else none)=_
      rw [if_pos (by rw [hw];show k+1≤100000;omega)])
    exact fset_pl a2
  obtain ⟨env',h1,w,d',s,rfl,h2,h3,h4⟩ := loop
  refine ⟨w,d',?_,h2,h3,h4⟩
  have run:F_law_letters [.ac d,.pl (.int (m:Int)),.no,.no]=some (.rt (.str w) false [.ac d',.pl (.int (m:Int)),.pl (.str w),s]) := by
    unfold F_law_letters
    rw [fseq_nx (fs_set (d := .str "") rfl)]
    have e:fFor (iRange1 (aCons (eVar 1) aNil)) (gN 3) (fSet 2 (fOp addD (fPure 0 (eVar 2)) (fOp ixD (fPure 0 (eC (.str "abcdefghijklmnopqrstuvwxyz"))) (fCallF 0 2 G_law_take (fCons (fPure 0 (eC (.int 26))) (fNil 0)))))) [.ac d,.pl (.int (m:Int)),.pl (.str ""),.no]=some (.nx [.ac d',.pl (.int (m:Int)),.pl (.str w),s]) := by
      rw [ffor_is (i_range1 (n := m) rfl (by omega))]
      exact h1
    exact (fseq_nx e).trans (ret_v rfl)
  unfold G_law_letters fnF
  show (F_law_letters [.ac d,.pl (.int (m:Int)),.no,.no]).bind _=_
  rw [run];rfl
theorem eop_is {w:OF} {a b:EF} {env:DEnv} {x y:Val} {z:PyData} {fr:Bool} (ha:a env=some x) (hb:b env=some y) (hw:w x.d y.d=some (z,fr)):eOp w a b env=some ⟨z,fr,bsOf z (x.bs++y.bs)⟩ := by
  unfold eOp;rw [ha,qC,hb,qC,hw];rfl
theorem fapp_is {i:Nat} {g:EFf} {env e1:DEnv} {ds:List PyData} {ds0:List PyData} {d:PyData} {fr:Bool} {bs:List Nat} (h0:env[i]?=some (.ac (.list ds0))) (hg:g env=some (⟨d,fr,bs⟩,e1)) (h1:e1[i]?=some (.ac (.list ds))) (hl:ds.length<100000) (hi:i∉bs) :
    fApp i g env=some (.nx ((frzs e1 bs).set i (.ac (.list (ds++[d]))))) := by
  unfold fApp
  rw [h0]
  show (g env).bind _=_
  rw [hg,qC]
  show (match e1[i]? with|some (.ac (.list es)) => _|_ => none)=_
  rw [h1]
  show (if ds.length<100000∧i∉bs then _ else none)=_
  rw [if_pos ⟨hl,hi⟩]
theorem at4 {r:Int} (h0:0≤r) (h1:r<4):∃ sz:Nat,ixD (.list [.int 0,.int 1,.int 2,.int 7]) (.int r)=some (.int (sz:Int),false)∧sz≤7 := by
  have:r=0∨r=1∨r=2∨r=3 := by omega
  rcases this with rfl|rfl|rfl|rfl
  · exact ⟨0,rfl,by decide⟩
  · exact ⟨1,rfl,by decide⟩
  · exact ⟨2,rfl,by decide⟩
  · exact ⟨7,rfl,by decide⟩
theorem ixD_map {α:Type} (f:α→PyData) {l:List α} {n:Nat} {x:α} (h:l[n]?=some x):ixD (.list (l.map f)) (.int (n:Int))=some (f x,false) := by
  show (atI (l.map f) (n:Int)).map _=_
  rw [at_map f h];rfl
theorem at12 {r:Int} (h0:0≤r) (h1:r<12):∃ st:Nat,ixD (.list [.int 1,.int 3,.int 5,.int 7,.int 9,.int 11,.int 15,.int 17,.int 19,.int 21,.int 23,.int 25]) (.int r)=some (.int (st:Int),false)∧st∈stepsF := by
  have hl:r.toNat<stepsF.length := by show r.toNat<12;omega
  have := ixD_map (fun (k:Nat) => PyData.int (k:Int)) (qF hl)
  rw [show ((r.toNat:Nat):Int)=r by omega] at this
  exact ⟨_,this,qBj hl⟩
section
variable {d:PyData} {n:Nat}
end
theorem in_test {neg:Bool} {i j:Nat} {env:DEnv} {x:Str} {xs:List Str} {s:Sl} (hi:env[i]?=some (.pl (.str x))) (hj:env[j]?=some s) (hs:Hd (strsD xs) s):tBool (eOp (inD neg) (eVar i) (eVar j)) env=some (if neg then !decide (x∈xs) else decide (x∈xs)) := by
  obtain ⟨bs,e⟩ := e_hd hj hs
  have ei:eVar i env=some (vs x) := by unfold eVar;rw [hi]
  exact t_bool (eop_is ei e (in_strs neg xs x))
theorem i_range1F {a:EFf} {f:Nat} {env e1:DEnv} {d:PyData} {n:Nat} (h:a env=some (vi (n:Int),e1)) (h1:e1[f]?=some (.ac d)) (hn:n<2 ^ 62):iRange1F (fCons a (fNil f)) env=some (rangeD 0 n,[],e1) := by
  unfold iRange1F
  rw [fcons1 h h1,qC]
  show (if -(2 ^ 62)≤(n:Int)∧(n:Int)<2 ^ 62 then some (rangeD 0 (n:Int).toNat,[],e1) else none)=_
  rw [if_pos ⟨by omega,by omega⟩,Int.toNat_natCast]
theorem fcons_is {a:EFf} {r:AFf} {env e1 e2:DEnv} {x:Val} {xs:List Val} (h:a env=some (x,e1)) (h2:r e1=some (xs,e2)):fCons a r env=some (x::xs,e2) := by
  unfold fCons;rw [h,qC];show (r e1).map _=_;rw [h2];rfl
theorem fnil_is {f:Nat} {env:DEnv} {d:PyData} (h:env[f]?=some (.ac d)):fNil f env=some ([],env) := by unfold fNil;rw [h]
theorem web_elders {xs:List Str} {k:Nat} {D2:Sl} (hk:0<k) (hkx:k<xs.length) (hx:xs.length≤12) (lo:∀ x∈xs,Low x) {m:Nat} (hm:m≤4) {d:PyData} {n:Nat} (ok:Fok d n) (hn:n+1000≤10 ^ 12) {s5 s6:Sl} :
    ∃ env',forLF (gN 5) (fSeq (fSet 6 (fOp ixD (fPure 0 (eVar 1)) (fCallF 0 2 G_law_take (fCons (fPure 0 (eVar 3)) (fNil 0)))))
      (fIfP (tBool (eOp (inD true) (eVar 6) (eVar 4))) (fApp 4 (fPure 0 (eVar 6))) fNx)) (rangeD 0 m) [.ac d,.pl (strsD xs),D2,.pl (.int (k:Int)),.ac (strsD []),s5,s6]=some (.nx env') ∧
      ∃ (es:List Str) (d':PyData) (s5 s6:Sl),env'=[.ac d',.pl (strsD xs),D2,.pl (.int (k:Int)),.ac (strsD es),s5,s6]∧(∀ e∈es,e∈xs.take k)∧es.length≤m∧Fok d' (n+m) := by
  refine forLF_range (fun j env => ∃ (es:List Str) (d':PyData) (s5 s6:Sl),env=[.ac d',.pl (strsD xs),D2,.pl (.int (k:Int)),.ac (strsD es),s5,s6]∧(∀ e∈es,e∈xs.take k)∧es.length≤j∧Fok d' (n+j)) ⟨[],d,s5,s6,rfl,(fun e he => nomatch he),qR _,ok⟩ ?_
  rintro j env hj ⟨es,d1,s5,s6,rfl,he,hl,ok1⟩
  obtain ⟨r,d2,q1,q2,q3,q4⟩ := take_at (f := 0) (e := eVar 3) (env := [.ac d1,.pl (strsD xs),D2,.pl (.int (k:Int)),.ac (strsD es),.pl (.int (j:Int)),s6]) rfl rfl ok1 (by omega) (by omega) (by omega)
  have hr:r.toNat<xs.length := by omega
  have ix := ixD_map PyData.str (qF hr)
  rw [show ((r.toNat:Nat):Int)=r by omega] at ix
  have hm:xs[r.toNat]∈xs.take k := qBy.mpr ⟨r.toNat,by omega,rfl⟩
  generalize xs[r.toNat]=w at ix hm
  have s1:fSet 6 (fOp ixD (fPure 0 (eVar 1)) (fCallF 0 2 G_law_take (fCons (fPure 0 (eVar 3)) (fNil 0)))) [.ac d1,.pl (strsD xs),D2,.pl (.int (k:Int)),.ac (strsD es),.pl (.int (j:Int)),s6]=some (.nx [.ac d2,.pl (strsD xs),D2,.pl (.int (k:Int)),.ac (strsD es),.pl (.int (j:Int)),.pl (.str w)]) :=
    fset_pl (fop_is (fpure_0 (f := 0) (e := eVar 1) (d0 := d1) (d := strsD xs) (fr := false) rfl rfl) q1 ix)
  have t := in_test (neg := true) (i := 6) (j := 4) (env := [.ac d2,.pl (strsD xs),D2,.pl (.int (k:Int)),.ac (strsD es),.pl (.int (j:Int)),.pl (.str w)]) (x := w) (xs := es) rfl rfl (.inr rfl)
  by_cases hin:w∈es
  · refine ⟨_,_,rfl,(fseq_nx s1).trans (fifp_f (by rw [t];simp [hin])),es,d2,_,_,rfl,he,by omega,q4⟩
  · refine ⟨_,[.ac d2,.pl (strsD xs),D2,.pl (.int (k:Int)),.ac (strsD (es++[w])),.pl (.int (j:Int)),.pl (.str w)],rfl,(fseq_nx s1).trans ((fifp_t (by rw [t];simp [hin])).trans ?_),es++[w],d2,_,_,rfl,fun e hm' => ?_,by rw [qK];simp;omega,q4⟩
    · rw [fapp_is rfl (fpure_0 (f := 0) (e := eVar 6) (d0 := d2) (d := .str w) (fr := false) rfl rfl) rfl (by rw [qD];omega) (by simp)]
      show some (OutF.nx [.ac d2,.pl (strsD xs),D2,.pl (.int (k:Int)),.ac (.list (es.map .str++[.str w])),.pl (.int (j:Int)),.pl (.str w)])=_
      unfold strsD
      rw [qAG];rfl
    · rcases qAA.mp hm' with z|z
      · exact he e z
      · rw [qAP.mp z];exact hm
theorem g_law_webF {d:PyData} {n:Nat} {xs:List Str} (ok:Fok d n) (hn:n+10000≤10 ^ 12) (hx:xs.length≤12) (nd:xs.Nodup) (lo:∀ x∈xs,Low x):∃ (W:Web) (d':PyData),G_law_web d [strsD xs]=some (webD W,true,d')∧nm W=xs∧WebOk W∧Fok d' (n+1000) := by
  have loop:∃ env',forLF (gN 3) (fSeq (fS (sSet 4 (eLst aNil)))
    (fSeq (fForF (iRange1F (fCons (fCB minD (fCons (fPure 0 (eVar 3)) (fCons (fCallF 0 2 G_law_take (fCons (fPure 0 (eC (.int 5))) (fNil 0))) (fNil 0)))) (fNil 0))) (gN 5)
    (fSeq (fSet 6 (fOp ixD (fPure 0 (eVar 1)) (fCallF 0 2 G_law_take (fCons (fPure 0 (eVar 3)) (fNil 0)))))
    (fIfP (tBool (eOp (inD true) (eVar 6) (eVar 4))) (fApp 4 (fPure 0 (eVar 6))) fNx)))
    (fApp 2 (fPure 0 (eTup (aCons (eIxV 1 (eVar 3)) (aCons (eVar 4) aNil))))))) (rangeD 0 xs.length) [.ac d,.pl (strsD xs),.ac (webD []),.no,.no,.no,.no]=some (.nx env') ∧
    ∃ (W:Web) (d':PyData) (s3 s4 s5 s6:Sl),env'=[.ac d',.pl (strsD xs),.ac (webD W),s3,s4,s5,s6]∧nm W=xs.take xs.length∧WebOk W∧Fok d' (n+10 * xs.length) := by
    refine forLF_range (fun k env => ∃ (W:Web) (d':PyData) (s3 s4 s5 s6:Sl),env=[.ac d',.pl (strsD xs),.ac (webD W),s3,s4,s5,s6]∧nm W=xs.take k∧WebOk W∧Fok d' (n+10 * k)) ⟨[],d,_,_,_,_,rfl,rfl,webOk_nil,ok⟩ ?_
    rintro k env hk ⟨W,d1,s3,s4,s5,s6,rfl,hW,wok,ok1⟩
    have Wl:W.length=k := by have := congrArg List.length hW;unfold nm at this;rw [qD,qBG] at this;omega
    have e0:fS (sSet 4 (eLst aNil)) [.ac d1,.pl (strsD xs),.ac (webD W),.pl (.int (k:Int)),s4,s5,s6]=some (.nx [.ac d1,.pl (strsD xs),.ac (webD W),.pl (.int (k:Int)),.ac (strsD []),s5,s6]) := rfl
    obtain ⟨t,d2,q1,q2,q3,q4⟩ := take_at (f := 0) (e := eC (.int 5)) (env := [.ac d1,.pl (strsD xs),.ac (webD W),.pl (.int (k:Int)),.ac (strsD []),s5,s6]) rfl rfl ok1 (by omega) (by decide) (by decide)
    have mn:∃ m:Nat,(if t<(k:Int) then t else (k:Int))=(m:Int)∧m≤4∧m≤k := by
      by_cases h:t<(k:Int)
      · exact ⟨t.toNat,by rw [if_pos h];omega,by omega,by omega⟩
      · exact ⟨k,by rw [if_neg h],by omega,qR _⟩
    obtain ⟨m,em,m4,mk⟩ := mn
    have e1:fCB minD (fCons (fPure 0 (eVar 3)) (fCons (fCallF 0 2 G_law_take (fCons (fPure 0 (eC (.int 5))) (fNil 0))) (fNil 0))) [.ac d1,.pl (strsD xs),.ac (webD W),.pl (.int (k:Int)),.ac (strsD []),s5,s6]=some (vi (m:Int),[.ac d2,.pl (strsD xs),.ac (webD W),.pl (.int (k:Int)),.ac (strsD []),s5,s6]) := by
      unfold fCB
      rw [fcons_is (fpure_0 (f := 0) (e := eVar 3) (d0 := d1) (d := .int (k:Int)) (fr := false) rfl rfl) (fcons_is q1 (fnil_is rfl)),qC]
      show ((some (PyData.int (if t<(k:Int) then t else (k:Int)),false)).bind _)=_
      rw [em];rfl
    have inner:∃ (es:List Str) (d3:PyData) (s5' s6':Sl),fForF (iRange1F (fCons (fCB minD (fCons (fPure 0 (eVar 3)) (fCons (fCallF 0 2 G_law_take (fCons (fPure 0 (eC (.int 5))) (fNil 0))) (fNil 0)))) (fNil 0))) (gN 5)
        (fSeq (fSet 6 (fOp ixD (fPure 0 (eVar 1)) (fCallF 0 2 G_law_take (fCons (fPure 0 (eVar 3)) (fNil 0)))))
        (fIfP (tBool (eOp (inD true) (eVar 6) (eVar 4))) (fApp 4 (fPure 0 (eVar 6))) fNx)) [.ac d1,.pl (strsD xs),.ac (webD W),.pl (.int (k:Int)),.ac (strsD []),s5,s6]=some (.nx [.ac d3,.pl (strsD xs),.ac (webD W),.pl (.int (k:Int)),.ac (strsD es),s5',s6'])∧(∀ e∈es,e∈xs.take k)∧es.length≤4∧Fok d3 (n+10 * k+9) := by
      rw [fforF_is (i_range1F (f := 0) e1 rfl (by omega))]
      by_cases h0:m=0
      · subst h0
        exact ⟨[],d2,_,_,rfl,(fun e he => nomatch he),by simp,q4.mono (by omega)⟩
      · obtain ⟨env',h1,es,d3,s5',s6',rfl,h2,h3,h4⟩ := web_elders (D2 := .ac (webD W)) (k := k) (by omega) hk hx lo m4 q4 (by omega) (s5 := s5) (s6 := s6)
        exact ⟨es,d3,s5',s6',h1,h2,by omega,h4.mono (by omega)⟩
    obtain ⟨es,d3,s5',s6',h1,h2,h3,h4⟩ := inner
    have hget:xs[k]?=some xs[k] := qF hk
    have e2:eTup (aCons (eIxV 1 (eVar 3)) (aCons (eVar 4) aNil)) [.ac d3,.pl (strsD xs),.ac (webD W),.pl (.int (k:Int)),.ac (strsD es),s5',s6']=some ⟨rowD (xs[k],es),false,[4]⟩ := by
      have ei:eIxV 1 (eVar 3) [.ac d3,.pl (strsD xs),.ac (webD W),.pl (.int (k:Int)),.ac (strsD es),s5',s6']=some (vs xs[k]) := e_ixV rfl rfl (by rw [qd,hget];rfl)
      unfold eTup aCons
      rw [ei];rfl
    refine ⟨_,[.ac d3,.pl (strsD xs),.ac (webD (W++[(xs[k],es)])),.pl (.int (k:Int)),.pl (strsD es),s5',s6'],rfl,(fseq_nx e0).trans ((fseq_nx h1).trans ?_),W++[(xs[k],es)],d3,_,_,_,_,rfl,?_,?_,h4.mono (by omega)⟩
    · rw [fapp_is rfl (fpure_is (f := 0) (d0 := d3) rfl e2 (show (0:Nat)∉[4] by decide)) rfl (by rw [qD];omega) (by decide)]
      show some (OutF.nx [.ac d3,.pl (strsD xs),.ac (.list (W.map rowD++[rowD (xs[k],es)])),.pl (.int (k:Int)),.pl (strsD es),s5',s6'])=_
      unfold webD
      rw [qAG];rfl
    · rw [nm_snoc,hW,List.take_succ,hget];rfl
    · refine webOk_add wok ?_ (by rw [hW];exact h2) h3 (by omega)
      rw [hW]
      intro z
      obtain ⟨i,hi,e⟩ := qBy.mp z
      have := nd_inj nd (i := i) (j := k) e
      omega
  obtain ⟨env',h1,W,d',s3,s4,s5,s6,rfl,h2,h3,h4⟩ := loop
  refine ⟨W,d',?_,by rw [h2,qBE],h3,h4.mono (by omega)⟩
  have run:F_law_web [.ac d,.pl (strsD xs),.no,.no,.no,.no,.no]=some (.rt (webD W) true [.ac d',.pl (strsD xs),.no,s3,s4,s5,s6]) := by
    unfold F_law_web
    refine (fseq_nx (show fS (sSet 2 (eLst aNil)) [.ac d,.pl (strsD xs),.no,.no,.no,.no,.no]=some (.nx [.ac d,.pl (strsD xs),.ac (webD []),.no,.no,.no,.no]) from rfl)).trans ?_
    have it:iRange1 (aCons (eCB lenD (aCons (eVar 1) aNil)) aNil) [.ac d,.pl (strsD xs),.ac (webD []),.no,.no,.no,.no]=some (rangeD 0 xs.length,[]) := i_range1 (by rw [e_lenL (ds := xs.map .str) (fr := false) (bs := []) rfl,qD]) (by omega)
    exact (fseq_nx ((ffor_is it).trans h1)).trans rfl
  unfold G_law_web fnF
  show (F_law_web [.ac d,.pl (strsD xs),.no,.no,.no,.no,.no]).bind _=_
  rw [run];rfl
noncomputable def tabW (W V:Web):List (Str×List Str) := V.map fun p => (p.1,hdg W p.1)
theorem tab_keys (W V:Web):(tabW W V).map (·.1)=nm V := by unfold tabW nm;rw [qA3];rfl
theorem tab_get {W:Web}:∀ {V:Web} {n:Str},n∈nm V→(tabW W V).lookup n=some (hdg W n)
  | [],n,h => by cases h
  | p::V,n,h => by
    show List.lookup n ((p.1,hdg W p.1)::tabW W V)=_
    rw [qo]
    by_cases e:n=p.1
    · subst e;rw [beq_self_eq_true]
    · rw [beq_eq_false_iff_ne.mpr e]
      exact tab_get (V := V) (by
        unfold nm at h ⊢
        rcases qy.mp h with z|z
        · exact absurd z e
        · exact z)
theorem g_law_above {W:Web} (h:WebOk W):G_law_above [webD W]=some (.dict (dS strsD (tabW W W)),true) := by
  have hl := h.len
  have outer:∃ env',forL (gT 2 (gsCons 2 (gsCons 3 gsNil))) (sSeq (sSet 4 (eLst (aCons (eVar 2) aNil)))
    (sSeq (sFor (iItems (eVar 3)) (gN 5)
    (sSet 4 (eOp addD (eVar 4) (eDGetV 1 (eVar 5)))))
    (sPut 1 (eVar 2) (eComp ["_law_other", "_law_rest"] [4] (iItems (eVar 0)) (gT 2 (gsCons 0 (gsCons 1 gsNil))) (tBool (eOp (inD false) (eVar 0) (eVar 2))) (eVar 0))))) (W.map rowD) [.pl (webD W),.ac (.dict (dS strsD (tabW W []))),.no,.no,.no,.no]=some (.nx env')∧∃ s2 s3 s4 s5,env'=[.pl (webD W),.ac (.dict (dS strsD (tabW W W))),s2,s3,s4,s5] := by
    refine forL_runs (fun pre env => ∃ s2 s3 s4 s5,env=[.pl (webD W),.ac (.dict (dS strsD (tabW W pre))),s2,s3,s4,s5]) ⟨_,_,_,_,rfl⟩ ?_
    rintro pre p post env hp ⟨s2,s3,s4,s5,rfl⟩
    have hV:WebOk (pre++[p]) := webOk_pre (post := post) (by rw [← take_pre hp];exact h)
    obtain ⟨hV',hn,hel,hfew⟩ := webOk_snoc hV
    have pm:(p.1,p.2)∈W := by rw [← hp];simp
    have e1:sSet 4 (eLst (aCons (eVar 2) aNil)) [.pl (webD W),.ac (.dict (dS strsD (tabW W pre))),.pl (.str p.1),.pl (strsD p.2),s4,s5]=some (.nx [.pl (webD W),.ac (.dict (dS strsD (tabW W pre))),.pl (.str p.1),.pl (strsD p.2),.ac (strsD [p.1]),s5]) := rfl
    have inner:∃ env',forL (gN 5) (sSet 4 (eOp addD (eVar 4) (eDGetV 1 (eVar 5)))) (p.2.map .str) [.pl (webD W),.ac (.dict (dS strsD (tabW W pre))),.pl (.str p.1),.pl (strsD p.2),.ac (strsD [p.1]),s5]=some (.nx env') ∧
        ∃ (ys:List Str) (s5:Sl),env'=[.pl (webD W),.ac (.dict (dS strsD (tabW W pre))),.pl (.str p.1),.pl (strsD p.2),.ac (strsD ys),s5]∧(∀ x,x∈ys↔x=p.1∨∃ e∈p.2,x∈hdg W e)∧ys.length≤1+12 * p.2.length := by
      refine forL_runs (fun es env => ∃ (ys:List Str) (s5:Sl),env=[.pl (webD W),.ac (.dict (dS strsD (tabW W pre))),.pl (.str p.1),.pl (strsD p.2),.ac (strsD ys),s5]∧(∀ x,x∈ys↔x=p.1∨∃ e∈es,x∈hdg W e)∧ys.length≤1+12 * es.length) ⟨[p.1],s5,rfl,fun x => by simp,by simp⟩ ?_
      rintro es e post env he ⟨ys,s5,rfl,hm,hy⟩
      have len := congrArg List.length he
      rw [qK,qf] at len
      have hh := hdg_len h (n := e)
      have gd:eDGetV 1 (eVar 5) [.pl (webD W),.ac (.dict (dS strsD (tabW W pre))),.pl (.str p.1),.pl (strsD p.2),.ac (strsD ys),.pl (.str e)]=some ⟨strsD (hdg W e),false,[]⟩ := by
        simp [eDGetV,eVar,keyD,dget_dS,tab_get (W := W) (V := pre) (n := e) (hel e (by rw [← he];simp))]
      refine ⟨_,_,rfl,.inl (set_is (e_addL (f1 := false) (b1 := [4]) rfl gd (by omega))),ys++hdg W e,.pl (.str e),rfl,fun x => ?_,by rw [qK,qK];simp;omega⟩
      rw [qAA,hm]
      constructor
      · rintro ((z|⟨e',z1,z2⟩)|z)
        · exact .inl z
        · exact .inr ⟨e',qi _ z1,z2⟩
        · exact .inr ⟨e,by simp,z⟩
      · rintro (z|⟨e',z1,z2⟩)
        · exact .inl (.inl z)
        · rcases qAA.mp z1 with z1|z1
          · exact .inl (.inr ⟨e',z1,z2⟩)
          · rw [qAP.mp z1] at z2;exact .inr z2
    obtain ⟨env1,q,ys,s5',rfl,hm,hy⟩ := inner
    have filt:(W.filter fun r => decide (r.1∈ys)).map (fun r => PyData.str r.1)=(hdg W p.1).map .str := by
      unfold hdg nm
      rw [List.filter_map,qA3]
      refine congrArg (fun l => List.map (fun r:Str×List Str => PyData.str r.1) l) (List.filter_congr fun r hr => ?_)
      refine decide_eq_decide.mpr ?_
      rw [hm,up_mem h pm]
      constructor
      · rintro (z|⟨e,z1,z2⟩)
        · exact .inl z
        · exact .inr ⟨e,z1,(mem_hdg h).mp z2⟩
      · rintro (z|⟨e,z1,z2⟩)
        · exact .inl z
        · exact .inr ⟨e,z1,(mem_hdg h).mpr z2⟩
    have c:compL (gT 2 (gsCons 0 (gsCons 1 gsNil))) (tBool (eOp (inD false) (eVar 0) (eVar 2))) (eVar 0) [.no,.no,.pl (strsD ys)] (W.map rowD)=some ((hdg W p.1).map .str) := by
      rw [← filt]
      exact compL_filter (enc := rowD) (out := fun r => PyData.str r.1) (fun r => decide (r.1∈ys)) fun r _ => ⟨[.pl (.str r.1),.pl (strsD r.2),.pl (strsD ys)],rfl,in_test (neg := false) (i := 0) (j := 2) (x := r.1) (xs := ys) rfl rfl (.inl rfl),fun _ => ⟨vs r.1,rfl,rfl⟩⟩
    have ec:eComp ["_law_other", "_law_rest"] [4] (iItems (eVar 0)) (gT 2 (gsCons 0 (gsCons 1 gsNil))) (tBool (eOp (inD false) (eVar 0) (eVar 2))) (eVar 0) [.pl (webD W),.ac (.dict (dS strsD (tabW W pre))),.pl (.str p.1),.pl (strsD p.2),.ac (strsD ys),s5']=some ⟨strsD (hdg W p.1),true,[]⟩ := by
      have := comp_is (own := ["_law_other", "_law_rest"]) (fr := [4]) (fi := iItems (eVar 0)) (env := [.pl (webD W),.ac (.dict (dS strsD (tabW W pre))),.pl (.str p.1),.pl (strsD p.2),.ac (strsD ys),s5']) (ds := W.map rowD) (bs := []) rfl (by rw [qD];omega) c
      rw [this,if_pos (flats_strs _)];rfl
    have lz:(dS strsD (tabW W pre)).length<100000 := by
      unfold dS tabW
      rw [qD,qD]
      have := hV'.len
      omega
    have pt:sPut 1 (eVar 2) (eComp ["_law_other", "_law_rest"] [4] (iItems (eVar 0)) (gT 2 (gsCons 0 (gsCons 1 gsNil))) (tBool (eOp (inD false) (eVar 0) (eVar 2))) (eVar 0)) [.pl (webD W),.ac (.dict (dS strsD (tabW W pre))),.pl (.str p.1),.pl (strsD p.2),.ac (strsD ys),s5']=some (.nx [.pl (webD W),.ac (.dict (dS strsD (tabW W (pre++[p])))),.pl (.str p.1),.pl (strsD p.2),.ac (strsD ys),s5']) := by
      unfold sPut
      show ((eComp ["_law_other", "_law_rest"] [4] (iItems (eVar 0)) (gT 2 (gsCons 0 (gsCons 1 gsNil))) (tBool (eOp (inD false) (eVar 0) (eVar 2))) (eVar 0) [.pl (webD W),.ac (.dict (dS strsD (tabW W pre))),.pl (.str p.1),.pl (strsD p.2),.ac (strsD ys),s5']).bind _)=_
      rw [ec]
      show (if (dS strsD (tabW W pre)).length<100000∧1∉([]:List Nat) then some (Out.nx [.pl (webD W),.ac (.dict (dputD (dS strsD (tabW W pre)) (.str p.1) (strsD (hdg W p.1)))),.pl (.str p.1),.pl (strsD p.2),.ac (strsD ys),s5']) else none)=_
      rw [if_pos ⟨lz,by simp⟩,dput_dS strsD (by rw [tab_keys];exact hn),show tabW W (pre++[p])=tabW W pre++[(p.1,hdg W p.1)] by unfold tabW;rw [qAG];rfl]
    exact ⟨_,_,rfl,.inl (seq_nx e1 (seq_nx (for_list rfl q) pt)),_,_,_,_,rfl⟩
  obtain ⟨env',hl',s2,s3,s4,s5,rfl⟩ := outer
  exact fn_rt (env := [.pl (webD W),.no,.no,.no,.no,.no]) rfl (seq_nx rfl (seq_nx (for_list rfl hl') rfl))
noncomputable def rchA (W:Web) (a:Arm):List Str := match a with
  | .one n => hdg W n
  | .many ns => ns.flatMap (hdg W)
theorem mem_rch {W:Web} (h:WebOk W) {a:Arm} {x:Str}:x∈rchA W a↔x∈upA W a := by
  rw [mem_upA]
  cases a with
  | one n => show x∈hdg W n↔∃ m∈[n],x∈up W m;rw [mem_hdg h];simp
  | many ns =>
    show x∈ns.flatMap (hdg W)↔∃ n∈ns,x∈up W n
    rw [qBF]
    exact exists_congr fun n => and_congr_right fun _ => mem_hdg h
theorem rch_len {W:Web} (h:WebOk W) {a:Arm} (ha:a.parts.length≤4):(rchA W a).length≤48 := by
  cases a with
  | one n => exact qAF (hdg_len h (n := n)) (by decide)
  | many ns =>
    have:∀ l:List Str,(l.flatMap (hdg W)).length≤12 * l.length := by
      intro l
      induction l with
      | nil => simp
      | cons n l ih =>
        rw [List.flatMap_cons,qK,qf]
        have := hdg_len h (n := n)
        omega
    have h1 := this ns
    have h2:ns.length≤4 := ha
    show (ns.flatMap (hdg W)).length≤48
    omega
theorem g_law_reach {W:Web} (h:WebOk W) {a:Arm} (ha:a.parts.length≤4) (hk:∀ n∈a.parts,n∈nm W):∃ fr,G_law_reach [.dict (dS strsD (tabW W W)),armD a]=some (strsD (rchA W a),fr) := by
  have gd:∀ (n:Str) (env:DEnv) (k:Nat),n∈nm W→env[0]?=some (.pl (.dict (dS strsD (tabW W W))))→env[k]?=some (.pl (.str n))→eDGetV 0 (eVar k) env=some ⟨strsD (hdg W n),false,[]⟩ := fun n env k hn h0 hk => by
    unfold eDGetV eVar
    rw [h0,hk]
    simp [keyD,dget_dS,tab_get (W := W) (V := W) hn]
  cases a with
  | one n =>
    have hn:n∈nm W := hk n (by show n∈[n];simp)
    refine ⟨false,fn_rt (env := [.pl (.dict (dS strsD (tabW W W))),.pl (.str n),.no,.no]) rfl ?_⟩
    unfold F_law_reach
    exact seq_nx (if_f rfl rfl) (ret_is (gd n _ 1 hn rfl rfl))
  | many ns =>
    have loop:∃ env',forL (gN 3) (sSet 2 (eOp addD (eVar 2) (eDGetV 0 (eVar 3)))) (ns.map .str) [.pl (.dict (dS strsD (tabW W W))),.pl (armD (.many ns)),.ac (strsD []),.no]=some (.nx env')∧∃ s,env'=[.pl (.dict (dS strsD (tabW W W))),.pl (armD (.many ns)),.ac (strsD (ns.flatMap (hdg W))),s] := by
      refine forL_runs (fun pre env => ∃ s,env=[.pl (.dict (dS strsD (tabW W W))),.pl (armD (.many ns)),.ac (strsD (pre.flatMap (hdg W))),s]) ⟨_,rfl⟩ ?_
      rintro pre n post env hp ⟨s,rfl⟩
      have hn:n∈nm W := hk n (by show n∈ns;rw [← hp];simp)
      have len := congrArg List.length hp
      rw [qK,qf] at len
      have hns:ns.length≤4 := ha
      have l1 := rch_len h (a := .many pre) (by show pre.length≤4;omega)
      have l1:(pre.flatMap (hdg W)).length≤48 := l1
      have l2 := hdg_len h (n := n)
      refine ⟨_,_,rfl,.inl (set_is (e_addL (f1 := false) (b1 := [2]) rfl (gd n _ 3 hn rfl rfl) (by omega))),.pl (.str n),?_⟩
      rw [show (pre++[n]).flatMap (hdg W)=pre.flatMap (hdg W)++hdg W n by simp]
      rfl
    obtain ⟨env',hl,s,rfl⟩ := loop
    refine ⟨true,fn_rt (env := [.pl (.dict (dS strsD (tabW W W))),.pl (armD (.many ns)),.no,.no]) rfl ?_⟩
    unfold F_law_reach
    exact seq_rt (if_t rfl (seq_nx rfl (seq_nx (for_tuple (ds := ns.map .str) (fr := false) (bs := []) rfl hl) rfl)))
theorem nameF_len {b:Str} {a:Nat} {i:Int} (h:b.length≤7):(nameF b a i).length≤8 := by
  unfold nameF
  have la:∀ x y:Str,(x++y).length=x.length+y.length := fun x y => by show (x.cps++y.cps).size=x.cps.size+y.cps.size;exact qBZ
  rw [la,la,len_pre,len_suf,show (ltr i).length=1 from rfl]
  omega
section
variable {d:PyData} {n:Nat}
theorem names_turn23 {m sz sm at_ fi st k:Nat} {b:Str} {xs:List Str} {s10:Sl} (ok:Fok d n) (hn:n+1000≤10 ^ 12) (hsz:sz≤7) (hst:st∈stepsF) (hfi:fi<26) (hb:Low b) (hbl:b.length≤7) (hxs:xs.length<1000) (hk:k<16) :
    ∃ (b':Str) (d':PyData),Low b'∧b'.length≤7∧Fok d' (n+10)∧(fSeq (fIfP (tBool (eOp eqD (eVar 3) (eC (.int 0)))) (fSet 7 (fCallF 0 2 G_law_letters (fCons (fCallF 0 2 G_law_take (fCons (fPure 0 (eOp addD (eVar 2) (eC (.int 1)))) (fNil 0))) (fNil 0)))) fNx)
    (fSeq (fS (sSet 10 (eOp ixD (eC (.str "abcdefghijklmnopqrstuvwxyz")) (eOp modD (eOp addD (eVar 5) (eOp mulD (eVar 6) (eVar 9))) (eC (.int 26))))))
    (fApp 8 (fPure 0 (eOp addD (eOp addD (eSl (eVar 7) pNone (pSome (eVar 4))) (eVar 10)) (eSl (eVar 7) (pSome (eVar 4)) pNone)))))) [.ac d,.pl (.int (m:Int)),.pl (.int (sz:Int)),.pl (.int (sm:Int)),.pl (.int (at_:Int)),.pl (.int (fi:Int)),.pl (.int (st:Int)),.pl (.str b),.ac (strsD xs),.pl (.int (k:Int)),s10] =
      some (.nx [.ac d',.pl (.int (m:Int)),.pl (.int (sz:Int)),.pl (.int (sm:Int)),.pl (.int (at_:Int)),.pl (.int (fi:Int)),.pl (.int (st:Int)),.pl (.str b'),.ac (strsD (xs++[nameF b' at_ (((fi:Int)+st * k) % 26)])),.pl (.int (k:Int)),.pl (.str (ltr (((fi:Int)+st * k) % 26)))]) := by
  have first:∃ (b':Str) (d':PyData),Low b'∧b'.length≤7∧Fok d' (n+10)∧fIfP (tBool (eOp eqD (eVar 3) (eC (.int 0)))) (fSet 7 (fCallF 0 2 G_law_letters (fCons (fCallF 0 2 G_law_take (fCons (fPure 0 (eOp addD (eVar 2) (eC (.int 1)))) (fNil 0))) (fNil 0)))) fNx [.ac d,.pl (.int (m:Int)),.pl (.int (sz:Int)),.pl (.int (sm:Int)),.pl (.int (at_:Int)),.pl (.int (fi:Int)),.pl (.int (st:Int)),.pl (.str b),.ac (strsD xs),.pl (.int (k:Int)),s10] =
      some (.nx [.ac d',.pl (.int (m:Int)),.pl (.int (sz:Int)),.pl (.int (sm:Int)),.pl (.int (at_:Int)),.pl (.int (fi:Int)),.pl (.int (st:Int)),.pl (.str b'),.ac (strsD xs),.pl (.int (k:Int)),s10]) := by
    have t:tBool (eOp eqD (eVar 3) (eC (.int 0))) [.ac d,.pl (.int (m:Int)),.pl (.int (sz:Int)),.pl (.int (sm:Int)),.pl (.int (at_:Int)),.pl (.int (fi:Int)),.pl (.int (st:Int)),.pl (.str b),.ac (strsD xs),.pl (.int (k:Int)),s10]=some ((sm:Int)==0) := t_bool (e_eqi rfl rfl)
    by_cases h:(sm:Int)=0
    · rw [fifp_t (by rw [t,h];rfl)]
      obtain ⟨r,d1,q1,q2,q3,q4⟩ := take_at (f := 0) (e := eOp addD (eVar 2) (eC (.int 1))) (env := [.ac d,.pl (.int (m:Int)),.pl (.int (sz:Int)),.pl (.int (sm:Int)),.pl (.int (at_:Int)),.pl (.int (fi:Int)),.pl (.int (st:Int)),.pl (.str b),.ac (strsD xs),.pl (.int (k:Int)),s10]) rfl (e_add rfl rfl) ok (by omega) (by omega) (by omega)
      obtain ⟨w,d2,p1,p2,p3,p4⟩ := g_law_letters (m := r.toNat) q4 (by omega) (by omega)
      rw [show ((r.toNat:Nat):Int)=r by omega] at p1
      exact ⟨w,d2,p3,by omega,p4.mono (by omega),fset_pl (fcallF_is rfl (fcons1 q1 rfl) rfl rfl p1 p4.flat)⟩
    · exact ⟨b,d,hb,hbl,ok.mono (by omega),by rw [fifp_f (by rw [t,beq_eq_false_iff_ne.mpr h])];rfl⟩
  obtain ⟨b',d',lb,bl,ok',h1⟩ := first
  refine ⟨b',d',lb,bl,ok',?_⟩
  have hst100:st≤25 := by
    have:∀ x∈stepsF,x≤25 := by decide
    exact this st hst
  have md:0≤((fi:Int)+st * k) % 26∧((fi:Int)+st * k) % 26<26 := ⟨qAh _ (by decide),qAU _ (by decide)⟩
  rw [fseq_nx h1]
  have h2:fS (sSet 10 (eOp ixD (eC (.str "abcdefghijklmnopqrstuvwxyz")) (eOp modD (eOp addD (eVar 5) (eOp mulD (eVar 6) (eVar 9))) (eC (.int 26))))) [.ac d',.pl (.int (m:Int)),.pl (.int (sz:Int)),.pl (.int (sm:Int)),.pl (.int (at_:Int)),.pl (.int (fi:Int)),.pl (.int (st:Int)),.pl (.str b'),.ac (strsD xs),.pl (.int (k:Int)),s10] =
      some (.nx [.ac d',.pl (.int (m:Int)),.pl (.int (sz:Int)),.pl (.int (sm:Int)),.pl (.int (at_:Int)),.pl (.int (fi:Int)),.pl (.int (st:Int)),.pl (.str b'),.ac (strsD xs),.pl (.int (k:Int)),.pl (.str (ltr (((fi:Int)+st * k) % 26)))]) := by
    refine fs_set (d := .str (ltr (((fi:Int)+st * k) % 26))) ?_
    exact eop_is (w := ixD) (x := ⟨.str abc,false,[]⟩) (y := vi (((fi:Int)+st * k) % 26)) rfl (e_mod (e_add rfl (e_mul rfl rfl (.inr ⟨by omega,by omega⟩))) rfl (by decide)) (ix_abc md.1 md.2)
  rw [fseq_nx h2]
  have z1 := Txt.slice_le b' none (some (at_:Int))
  have z2 := Txt.slice_le b' (some (at_:Int)) none
  have l1:∀ i,(ltr i).length=1 := fun _ => rfl
  have h3:eOp addD (eOp addD (eSl (eVar 7) pNone (pSome (eVar 4))) (eVar 10)) (eSl (eVar 7) (pSome (eVar 4)) pNone) [.ac d',.pl (.int (m:Int)),.pl (.int (sz:Int)),.pl (.int (sm:Int)),.pl (.int (at_:Int)),.pl (.int (fi:Int)),.pl (.int (st:Int)),.pl (.str b'),.ac (strsD xs),.pl (.int (k:Int)),.pl (.str (ltr (((fi:Int)+st * k) % 26)))]=some (vs (nameF b' at_ (((fi:Int)+st * k) % 26))) :=
    e_addS (e_addS (e_slS rfl rfl (p_some rfl) (by omega)) rfl (by rw [l1];omega)) (e_slS rfl (p_some rfl) rfl (by omega)) (by rw [app_len,l1];omega)
  rw [fapp_is rfl (fpure_0 (f := 0) (d0 := d') rfl h3) rfl (by rw [qD];omega) (by simp)]
  show some (OutF.nx [.ac d',.pl (.int (m:Int)),.pl (.int (sz:Int)),.pl (.int (sm:Int)),.pl (.int (at_:Int)),.pl (.int (fi:Int)),.pl (.int (st:Int)),.pl (.str b'),.ac (.list (xs.map .str++[.str (nameF b' at_ (((fi:Int)+st * k) % 26))])),.pl (.int (k:Int)),.pl (.str (ltr (((fi:Int)+st * k) % 26)))])=_
  unfold strsD
  rw [qAG]
  rfl
end
theorem g_law_names23 {d:PyData} {n m:Nat} (ok:Fok d n) (hn:n+10000≤10 ^ 12) (hm:m≤16):∃ (xs:List Str) (d':PyData),G_law_names_k23 d [.int (m:Int)]=some (strsD xs,true,d')∧xs.length=m∧xs.Nodup∧(∀ x∈xs,Low x∧x.length≤8)∧Fok d' (n+1000) := by
  obtain ⟨r1,d1,a1,a2,a3,a4⟩ := take_at (f := 0) (e := eC (.int 4)) (env := [.ac d,.pl (.int (m:Int)),.no,.no,.no,.no,.no,.no,.no,.no,.no]) rfl rfl ok (by omega) (by decide) (by decide)
  obtain ⟨sz,e1,hsz⟩ := at4 a2 a3
  have s1:fSet 2 (fOp ixD (fPure 0 (eLst (aCons (eC (.int 0)) (aCons (eC (.int 1)) (aCons (eC (.int 2)) (aCons (eC (.int 7)) aNil)))))) (fCallF 0 2 G_law_take (fCons (fPure 0 (eC (.int 4))) (fNil 0)))) [.ac d,.pl (.int (m:Int)),.no,.no,.no,.no,.no,.no,.no,.no,.no]=some (.nx [.ac d1,.pl (.int (m:Int)),.pl (.int (sz:Int)),.no,.no,.no,.no,.no,.no,.no,.no]) :=
    fset_pl (fop_is (fpure_0 (f := 0) (d0 := d) (d := .list [.int 0,.int 1,.int 2,.int 7]) (fr := true) rfl rfl) a1 e1)
  obtain ⟨r2,d2,b1,b2,b3,b4⟩ := take_at (f := 0) (e := eC (.int 2)) (env := [.ac d1,.pl (.int (m:Int)),.pl (.int (sz:Int)),.no,.no,.no,.no,.no,.no,.no,.no]) rfl rfl a4 (by omega) (by decide) (by decide)
  obtain ⟨r3,d3,c1,c2,c3,c4⟩ := take_at (f := 0) (e := eC (.int 8)) (env := [.ac d2,.pl (.int (m:Int)),.pl (.int (sz:Int)),.pl (.int r2),.no,.no,.no,.no,.no,.no,.no]) rfl rfl b4 (by omega) (by decide) (by decide)
  obtain ⟨r4,d4,f1,f2,f3,f4⟩ := take_at (f := 0) (e := eC (.int 26)) (env := [.ac d3,.pl (.int (m:Int)),.pl (.int (sz:Int)),.pl (.int r2),.pl (.int r3),.no,.no,.no,.no,.no,.no]) rfl rfl c4 (by omega) (by decide) (by decide)
  obtain ⟨r5,d5,g1,g2,g3,g4⟩ := take_at (f := 0) (e := eC (.int 12)) (env := [.ac d4,.pl (.int (m:Int)),.pl (.int (sz:Int)),.pl (.int r2),.pl (.int r3),.pl (.int r4),.no,.no,.no,.no,.no]) rfl rfl f4 (by omega) (by decide) (by decide)
  obtain ⟨st,e5,hst⟩ := at12 g2 g3
  have s5:fSet 6 (fOp ixD (fPure 0 (eLst (aCons (eC (.int 1)) (aCons (eC (.int 3)) (aCons (eC (.int 5)) (aCons (eC (.int 7)) (aCons (eC (.int 9)) (aCons (eC (.int 11)) (aCons (eC (.int 15)) (aCons (eC (.int 17)) (aCons (eC (.int 19)) (aCons (eC (.int 21)) (aCons (eC (.int 23)) (aCons (eC (.int 25)) aNil)))))))))))))) (fCallF 0 2 G_law_take (fCons (fPure 0 (eC (.int 12))) (fNil 0)))) [.ac d4,.pl (.int (m:Int)),.pl (.int (sz:Int)),.pl (.int r2),.pl (.int r3),.pl (.int r4),.no,.no,.no,.no,.no] =
      some (.nx [.ac d5,.pl (.int (m:Int)),.pl (.int (sz:Int)),.pl (.int r2),.pl (.int r3),.pl (.int r4),.pl (.int (st:Int)),.no,.no,.no,.no]) :=
    fset_pl (fop_is (fpure_0 (f := 0) (d0 := d4) (d := .list [.int 1,.int 3,.int 5,.int 7,.int 9,.int 11,.int 15,.int 17,.int 19,.int 21,.int 23,.int 25]) (fr := true) rfl rfl) g1 e5)
  obtain ⟨b,d6,p1,p2,p3,p4⟩ := g_law_letters (m := sz) g4 (by omega) (by omega)
  have s6:fSet 7 (fCallF 0 2 G_law_letters (fCons (fPure 0 (eVar 2)) (fNil 0))) [.ac d5,.pl (.int (m:Int)),.pl (.int (sz:Int)),.pl (.int r2),.pl (.int r3),.pl (.int r4),.pl (.int (st:Int)),.no,.no,.no,.no] =
      some (.nx [.ac d6,.pl (.int (m:Int)),.pl (.int (sz:Int)),.pl (.int r2),.pl (.int r3),.pl (.int r4),.pl (.int (st:Int)),.pl (.str b),.no,.no,.no]) :=
    fset_pl (fcallF_is rfl (fcons1 (fpure_0 (f := 0) (d0 := d5) rfl (d := .int (sz:Int)) (fr := false) rfl) rfl) rfl rfl p1 p4.flat)
  obtain ⟨sm,rfl⟩:∃ k:Nat,r2=(k:Int) := ⟨r2.toNat,by omega⟩
  obtain ⟨at_,rfl⟩:∃ k:Nat,r3=(k:Int) := ⟨r3.toNat,by omega⟩
  obtain ⟨fi,rfl⟩:∃ k:Nat,r4=(k:Int) := ⟨r4.toNat,by omega⟩
  have loop:∃ env',forLF (gN 9) (fSeq (fIfP (tBool (eOp eqD (eVar 3) (eC (.int 0)))) (fSet 7 (fCallF 0 2 G_law_letters (fCons (fCallF 0 2 G_law_take (fCons (fPure 0 (eOp addD (eVar 2) (eC (.int 1)))) (fNil 0))) (fNil 0)))) fNx)
    (fSeq (fS (sSet 10 (eOp ixD (eC (.str "abcdefghijklmnopqrstuvwxyz")) (eOp modD (eOp addD (eVar 5) (eOp mulD (eVar 6) (eVar 9))) (eC (.int 26))))))
    (fApp 8 (fPure 0 (eOp addD (eOp addD (eSl (eVar 7) pNone (pSome (eVar 4))) (eVar 10)) (eSl (eVar 7) (pSome (eVar 4)) pNone)))))) (rangeD 0 m) [.ac d6,.pl (.int (m:Int)),.pl (.int (sz:Int)),.pl (.int (sm:Int)),.pl (.int (at_:Int)),.pl (.int (fi:Int)),.pl (.int (st:Int)),.pl (.str b),.ac (strsD []),.no,.no]=some (.nx env') ∧
    ∃ (xs:List Str) (b:Str) (d':PyData) (s9 s10:Sl),env'=[.ac d',.pl (.int (m:Int)),.pl (.int (sz:Int)),.pl (.int (sm:Int)),.pl (.int (at_:Int)),.pl (.int (fi:Int)),.pl (.int (st:Int)),.pl (.str b),.ac (strsD xs),s9,s10]∧Low b∧b.length≤7∧xs.length=m∧(∀ i,i<m→∃ b':Str,(Low b'∧b'.length≤7)∧xs[i]?=some (nameF b' at_ (((fi:Int)+st * i) % 26)))∧Fok d' (n+20+10 * m) := by
    refine forLF_range (fun k env => ∃ (xs:List Str) (b:Str) (d':PyData) (s9 s10:Sl),env=[.ac d',.pl (.int (m:Int)),.pl (.int (sz:Int)),.pl (.int (sm:Int)),.pl (.int (at_:Int)),.pl (.int (fi:Int)),.pl (.int (st:Int)),.pl (.str b),.ac (strsD xs),s9,s10]∧Low b∧b.length≤7∧xs.length=k∧(∀ i,i<k→∃ b':Str,(Low b'∧b'.length≤7)∧xs[i]?=some (nameF b' at_ (((fi:Int)+st * i) % 26)))∧Fok d' (n+20+10 * k))
      ⟨[],b,d6,.no,.no,rfl,p3,by omega,rfl,fun i hi => by omega,p4.mono (by omega)⟩ ?_
    rintro k env hk ⟨xs,b0,d0,s9,s10,rfl,lb,bl,xl,xi,ok0⟩
    obtain ⟨b',d',q1,q2,q3,q4⟩ := names_turn23 (m := m) (sm := sm) (fi := fi) (at_ := at_) (k := k) (s10 := s10) ok0 (by omega) hsz hst (by omega) lb bl (xs := xs) (by omega) (by omega)
    refine ⟨_,_,rfl,q4,xs++[nameF b' at_ (((fi:Int)+st * k) % 26)],b',d',_,_,rfl,q1,q2,by rw [qK];simp [xl],fun i hi => ?_,q3.mono (by omega)⟩
    by_cases h:i<k
    · obtain ⟨b'',z1,z2⟩ := xi i h
      exact ⟨b'',z1,by rw [qk (by omega)];exact z2⟩
    · have:i=k := by omega
      subst this
      exact ⟨b',⟨q1,q2⟩,by rw [qg (by omega),xl,Nat.sub_self];rfl⟩
  obtain ⟨env1,hloop,xs,b2',d7,s9,s10,rfl,_,_,xl,xi,ok7⟩ := loop
  have md:∀ i:Nat,0≤((fi:Int)+st * i) % 26∧((fi:Int)+st * i) % 26<26 := fun i => ⟨qAh _ (by decide),qAU _ (by decide)⟩
  have xnd:xs.Nodup := by
    refine List.nodup_iff_pairwise_ne.mpr (qA6.mpr fun i j hi hj hij e => ?_)
    obtain ⟨b1,_,z1⟩ := xi i (by omega)
    obtain ⟨b2,_,z2⟩ := xi j (by omega)
    rw [qF hi] at z1
    rw [qF hj] at z2
    have := nameF_inj (md i).1 (md j).1 ((qP z1).symm.trans (e.trans (qP z2)))
    have := step_injF hst (a := i) (b := j) (by omega) (by omega) this
    omega
  have xlo:∀ x∈xs,Low x∧x.length≤8 := fun x hx => by
    obtain ⟨i,hi,rfl⟩ := List.mem_iff_getElem.mp hx
    obtain ⟨b1,z0,z1⟩ := xi i (by omega)
    rw [qF hi] at z1
    rw [qP z1]
    exact ⟨nameF_low z0.1 (md i).1 (md i).2,nameF_len z0.2⟩
  refine ⟨xs,d7,?_,xl,xnd,xlo,ok7.mono (by omega)⟩
  have run:F_law_names_k23 [.ac d,.pl (.int (m:Int)),.no,.no,.no,.no,.no,.no,.no,.no,.no]=some (.rt (strsD xs) true [.ac d7,.pl (.int (m:Int)),.pl (.int (sz:Int)),.pl (.int (sm:Int)),.pl (.int (at_:Int)),.pl (.int (fi:Int)),.pl (.int (st:Int)),.pl (.str b2'),.no,s9,s10]) := by
    unfold F_law_names_k23
    refine (fseq_nx s1).trans ((fseq_nx (fset_pl b1)).trans ((fseq_nx (fset_pl c1)).trans ((fseq_nx (fset_pl f1)).trans ?_)))
    refine (fseq_nx s5).trans ((fseq_nx s6).trans ?_)
    have s7:fS (sSet 8 (eLst aNil)) [.ac d6,.pl (.int (m:Int)),.pl (.int (sz:Int)),.pl (.int (sm:Int)),.pl (.int (at_:Int)),.pl (.int (fi:Int)),.pl (.int (st:Int)),.pl (.str b),.no,.no,.no]=some (.nx [.ac d6,.pl (.int (m:Int)),.pl (.int (sz:Int)),.pl (.int (sm:Int)),.pl (.int (at_:Int)),.pl (.int (fi:Int)),.pl (.int (st:Int)),.pl (.str b),.ac (strsD []),.no,.no]) := rfl
    refine (fseq_nx s7).trans ?_
    refine (fseq_nx ((ffor_is (i_range1 (n := m) rfl (by omega))).trans hloop)).trans ?_
    rfl
  unfold G_law_names_k23 fnF
  show (F_law_names_k23 [.ac d,.pl (.int (m:Int)),.no,.no,.no,.no,.no,.no,.no,.no,.no]).bind _=_
  rw [run];rfl
theorem strs_app (es:List Str) (w:Str):PyData.list (es.map .str++[.str w])=strsD (es++[w]) := by
  unfold strsD;rw [qAG];rfl
theorem g_law_arm23 {d:PyData} {n:Nat} {xs:List Str} (ok:Fok d n) (hn:n+1000≤10 ^ 12) (hx:0<xs.length) (hx12:xs.length≤12):∃ (a:Arm) (d':PyData),G_law_arm_k23 d [strsD xs]=some (armD a,false,d')∧(∀ m∈a.parts,m∈xs)∧a.parts.length≤4∧a.parts≠[]∧Fok d' (n+20) := by
  obtain ⟨r,d1,q1,q2,q3,q4⟩ := take_at (f := 0) (e := eC (.int 4)) (env := [.ac d,.pl (strsD xs),.ac (strsD []),.no,.no]) rfl rfl ok (by omega) (by decide) (by decide)
  obtain ⟨m,em⟩:∃ m:Nat,1+r=(m:Int) := ⟨(1+r).toNat,by omega⟩
  have a0 := fop_is (w := addD) (z := .int (1+r)) (fr := false) (fpure_0 (f := 0) (e := eC (.int 1)) (env := [.ac d,.pl (strsD xs),.ac (strsD []),.no,.no]) (d0 := d) (d := .int 1) (fr := false) rfl rfl) q1 rfl
  rw [em] at a0
  have loop:∃ env',forLF (gN 3) (fSeq (fSet 4 (fOp ixD (fPure 0 (eVar 1)) (fCallF 0 2 G_law_take (fCons (fPure 0 (eCB lenD (aCons (eVar 1) aNil))) (fNil 0)))))
    (fIfP (tBool (eOp (inD true) (eVar 4) (eVar 2))) (fApp 2 (fPure 0 (eVar 4))) fNx)) (rangeD 0 m) [.ac d1,.pl (strsD xs),.ac (strsD []),.no,.no]=some (.nx env') ∧
    ∃ (es:List Str) (d':PyData) (s3 s4:Sl),env'=[.ac d',.pl (strsD xs),.ac (strsD es),s3,s4]∧(∀ e∈es,e∈xs)∧es.length≤m∧(0<m→es≠[])∧Fok d' (n+1+2 * m) := by
    refine forLF_range (fun j env => ∃ (es:List Str) (d':PyData) (s3 s4:Sl),env=[.ac d',.pl (strsD xs),.ac (strsD es),s3,s4]∧(∀ e∈es,e∈xs)∧es.length≤j∧(0<j→es≠[])∧Fok d' (n+1+2 * j)) ⟨[],d1,_,_,rfl,(fun e he => nomatch he),qR _,fun z => absurd z (by decide),q4⟩ ?_
    rintro j env hj ⟨es,d2,s3,s4,rfl,h1,h2,h3,ok2⟩
    have len:∀ (d1:PyData) (K:PyData) (s3 s4:Sl),eCB lenD (aCons (eVar 1) aNil) [.ac d1,.pl (strsD xs),.ac K,s3,s4]=some (vi xs.length) := fun d1 K s3 s4 => by rw [e_lenL (ds := xs.map .str) (fr := false) (bs := []) rfl,qD]
    obtain ⟨t,d3,p1,p2,p3,p4⟩ := take_at (f := 0) (e := eCB lenD (aCons (eVar 1) aNil)) (env := [.ac d2,.pl (strsD xs),.ac (strsD es),.pl (.int (j:Int)),s4]) rfl (len _ _ _ _) ok2 (by omega) (by omega) (by omega)
    have hr:t.toNat<xs.length := by omega
    have ix := ixD_map PyData.str (qF hr)
    rw [show ((t.toNat:Nat):Int)=t by omega] at ix
    have hm:xs[t.toNat]∈xs := qBj hr
    generalize xs[t.toNat]=w at ix hm
    have s1:fSet 4 (fOp ixD (fPure 0 (eVar 1)) (fCallF 0 2 G_law_take (fCons (fPure 0 (eCB lenD (aCons (eVar 1) aNil))) (fNil 0)))) [.ac d2,.pl (strsD xs),.ac (strsD es),.pl (.int (j:Int)),s4]=some (.nx [.ac d3,.pl (strsD xs),.ac (strsD es),.pl (.int (j:Int)),.pl (.str w)]) :=
      fset_pl (fop_is (fpure_0 (f := 0) (e := eVar 1) (d0 := d2) (d := strsD xs) (fr := false) rfl rfl) p1 ix)
    have t := in_test (neg := true) (i := 4) (j := 2) (env := [.ac d3,.pl (strsD xs),.ac (strsD es),.pl (.int (j:Int)),.pl (.str w)]) (x := w) (xs := es) rfl rfl (.inr rfl)
    by_cases hin:w∈es
    · exact ⟨_,_,rfl,(fseq_nx s1).trans (fifp_f (by rw [t];simp [hin])),es,d3,_,_,rfl,h1,by omega,(fun _ z => by rw [z] at hin;cases hin),p4.mono (by omega)⟩
    · refine ⟨_,[.ac d3,.pl (strsD xs),.ac (strsD (es++[w])),.pl (.int (j:Int)),.pl (.str w)],rfl,(fseq_nx s1).trans ((fifp_t (by rw [t];simp [hin])).trans ?_),es++[w],d3,_,_,rfl,fun e hm' => ?_,by rw [qK];simp;omega,fun _ => by simp,p4.mono (by omega)⟩
      · rw [fapp_is rfl (fpure_0 (f := 0) (e := eVar 4) (d0 := d3) (d := .str w) (fr := false) rfl rfl) rfl (by rw [qD];omega) (by simp)]
        show some (OutF.nx [.ac d3,.pl (strsD xs),.ac (.list (es.map .str++[.str w])),.pl (.int (j:Int)),.pl (.str w)])=_
        rw [strs_app]
      · rcases qAA.mp hm' with z|z
        · exact h1 e z
        · rw [qAP.mp z];exact hm
  obtain ⟨env',hl,es,d2,s3,s4,rfl,h1,h2,h3,ok2⟩ := loop
  have hne := h3 (by omega)
  have head:F_law_arm_k23 [.ac d,.pl (strsD xs),.no,.no,.no]=(fSeq (fIf (gB (fOp eqD (fCallF 0 2 G_law_take (fCons (fPure 0 (eC (.int 3))) (fNil 0))) (fPure 0 (eC (.int 0))))) (fRetP (eIxV 2 (eC (.int 0)))) fNx)
    (fRetP (eCB tupleD (aCons (eVar 2) aNil)))) [.ac d2,.pl (strsD xs),.ac (strsD es),s3,s4] := by
    unfold F_law_arm_k23
    refine (fseq_nx (show fS (sSet 2 (eLst aNil)) [.ac d,.pl (strsD xs),.no,.no,.no]=some (.nx [.ac d,.pl (strsD xs),.ac (strsD []),.no,.no]) from rfl)).trans ?_
    exact fseq_nx ((fforF_is (i_range1F (f := 0) (d := d1) a0 rfl (by omega))).trans hl)
  have one:∀ d3:PyData,∃ x∈es,fRetP (eIxV 2 (eC (.int 0))) [.ac d3,.pl (strsD xs),.ac (strsD es),s3,s4]=some (.rt (.str x) false [.ac d3,.pl (strsD xs),.ac (strsD es),s3,s4]) := fun d3 => by
    obtain ⟨x,es',rfl⟩ := List.exists_cons_of_ne_nil hne
    refine ⟨x,by simp,?_⟩
    unfold fRetP
    rw [e_ixA (k := 2) (n := 0) (ds := (x::es').map .str) (d := .str x) rfl rfl rfl]
    rfl
  have many:∀ d3:PyData,∃ env',fRetP (eCB tupleD (aCons (eVar 2) aNil)) [.ac d3,.pl (strsD xs),.ac (strsD es),s3,s4]=some (.rt (armD (.many es)) false env')∧env'[0]?=some (.ac d3) := fun d3 => by
    refine ⟨_,rfl,?_⟩
    rfl
  have fin:∀ (a:Arm) (d3:PyData) (env':DEnv),F_law_arm_k23 [.ac d,.pl (strsD xs),.no,.no,.no]=some (.rt (armD a) false env')→env'[0]?=some (.ac d3)→G_law_arm_k23 d [strsD xs]=some (armD a,false,d3) := fun a d3 env' e e0 => by
    unfold G_law_arm_k23 fnF
    show (F_law_arm_k23 [.ac d,.pl (strsD xs),.no,.no,.no]).bind _=_
    rw [e]
    show (match env'[0]? with|some (.ac d1) => some (armD a,false,d1)|_ => none)=_
    rw [e0]
  obtain ⟨u,d3,o1,o2,o3,o4⟩ := take_at (f := 0) (e := eC (.int 3)) (env := [.ac d2,.pl (strsD xs),.ac (strsD es),s3,s4]) rfl rfl ok2 (by omega) (by decide) (by decide)
  have t2:gB (fOp eqD (fCallF 0 2 G_law_take (fCons (fPure 0 (eC (.int 3))) (fNil 0))) (fPure 0 (eC (.int 0)))) [.ac d2,.pl (strsD xs),.ac (strsD es),s3,s4]=some (u==0,[.ac d3,.pl (strsD xs),.ac (strsD es),s3,s4]) := by
    unfold gB
    rw [fop_is (w := eqD) o1 (fpure_0 (f := 0) (e := eC (.int 0)) (d0 := d3) (d := .int 0) (fr := false) rfl rfl) (z := .bool (u==0)) (fr := false) rfl]
    rfl
  by_cases hu:u=0
  · obtain ⟨x,hx,e⟩ := one d3
    refine ⟨.one x,d3,fin _ _ [.ac d3,.pl (strsD xs),.ac (strsD es),s3,s4] (head.trans (fseq_rt ?_)) rfl,fun m hm => ?_,by show 1≤4;decide,(List.cons_ne_nil x []),o4.mono (by omega)⟩
    · rw [fif_is t2,if_pos (by rw [hu];rfl)]
      exact e
    · rw [qAP.mp (show m∈[x] from hm)];exact h1 x hx
  · obtain ⟨env',e,e0⟩ := many d3
    refine ⟨.many es,d3,fin _ _ _ (head.trans ((fseq_nx (e' := [.ac d3,.pl (strsD xs),.ac (strsD es),s3,s4]) ?_).trans e)) e0,h1,by show es.length≤4;omega,hne,o4.mono (by omega)⟩
    rw [fif_is t2,if_neg (by simp [hu])]
    rfl
theorem keys_roof:∀ us:List Str,((roofL us).mapM fun p => keyD p.1)=some (us.map Sum.inr)
  | [] => rfl
  | u::us => by
    show ((roofL (u::us)).mapM fun p => keyD p.1)=_
    rw [show roofL (u::us)=(.str u,.bool true)::roofL us from rfl,List.mapM_cons]
    show ((roofL us).mapM fun p => keyD p.1).bind _=_
    rw [keys_roof us];rfl
theorem any_roof (x:Str):∀ vs:List Str,((roofL vs).any fun p => decide (keyD p.1=some (Sum.inr x)))=decide (x∈vs)
  | [] => rfl
  | v::vs => by
    rw [show roofL (v::vs)=(.str v,.bool true)::roofL vs from rfl,qAS,any_roof x vs]
    show (decide (some (Sum.inr v:Key)=some (Sum.inr x))||decide (x∈vs))=_
    by_cases h:v=x
    · subst h;simp
    · have h':¬ x=v := fun z => h z.symm
      simp [h,h']
theorem bools_of:∀ bs:List Bool,boolsD (bs.map .bool)=some bs
  | [] => rfl
  | b::bs => by
    show (boolsD (bs.map .bool)).map _=_
    rw [bools_of bs];rfl
theorem g_is_within {us vs:List Str} (hl:us.length<100000):G_is_within [roofD us,roofD vs]=some (.bool (us.all fun x => decide (x∈vs)),false) := by
  have e:eKeysIn 0 1 [.pl (roofD us),.pl (roofD vs)]=some ⟨.list ((us.map fun x => decide (x∈vs)).map .bool),true,[]⟩ := by
    show (if (roofL us).length<100000 then ((roofL us).mapM fun p => keyD p.1).map _ else none)=_
    rw [if_pos (by unfold roofL;rw [qD];exact hl),keys_roof,qAw,qA3,qA3]
    congr 3
    refine qAm fun x _ => ?_
    show PyData.bool ((roofL vs).any fun p => decide (keyD p.1=some (Sum.inr x)))=_
    rw [any_roof];rfl
  have f:F_is_within [.pl (roofD us),.pl (roofD vs)]=some (.rt (.bool (us.all fun x => decide (x∈vs))) false) := by
    unfold F_is_within sRet eCB
    rw [args1 e]
    show (((boolsD ((us.map fun x => decide (x∈vs)).map .bool)).map _).bind _).map _=_
    rw [bools_of]
    show some (Out.rt (.bool ((us.map fun x => decide (x∈vs)).all id)) false)=_
    rw [qCC];rfl
  unfold G_is_within fnD
  show (match F_is_within [.pl (roofD us),.pl (roofD vs)] with|some (.rt d fr) => some (d,fr)|some (.nx _) => some (.none,false)|_ => none)=_
  rw [f]
theorem repr_char:∀ c<128,∀ q∈[34,39],(Builtin.Str.reprChar q c).length≤4 := by decide +kernel
theorem repr_len {x:Str} (h:Low x) (hl:x.length≤8):(reprText x).length≤1000 := by
  have hq:reprQuote x∈[34,39] := by unfold reprQuote;split<;>simp
  have fold:∀ (l:List Nat) (a:Array Nat),(∀ c∈l,c<128)→(l.foldl (fun out c => out++(Builtin.Str.reprChar (reprQuote x) c).toArray) a).size≤a.size+4 * l.length := by
    intro l
    induction l with
    | nil => intro a _;simp
    | cons c l ih =>
      intro a hc
      rw [qAr]
      have h1 := ih (a++(Builtin.Str.reprChar (reprQuote x) c).toArray) fun c' hc' => hc c' (qO _ hc')
      have h2 := repr_char c (hc c (by simp)) _ hq
      rw [qBZ] at h1
      simp only [qH,qf] at h1 ⊢
      omega
  show ((x.cps.foldl (fun out c => out++(Builtin.Str.reprChar (reprQuote x) c).toArray) #[reprQuote x]).push (reprQuote x)).size≤1000
  rw [Array.size_push,← Array.foldl_toList]
  have h1 := fold x.cps.toList #[reprQuote x] fun c hc => h c (by first|exact hc|exact qCE.mp hc|exact Array.mem_toList.mp hc)
  have h2:x.cps.toList.length=x.length := rfl
  have h3:(#[reprQuote x]:Array Nat).size=1 := rfl
  omega
noncomputable def firstNo (W:Web) (ns:List Str):Option Str := ns.find? fun n => !decide (n∈nm W)
theorem kinds_loop {W:Web}:∀ (ns:List Str) (all:List Str) (s:Sl),(∀ x∈ns,x∉nm W→atD (.str x)=true)→∃ s',forLX (gN 3) (xIf (tBool (eOp (inD true) (eVar 3) (eVar 2))) (xRaise "NoKind" (eVar 3)) (xOf sNil)) (ns.map .str) [.pl (webD W),.pl (strsD all),.ac (strsD (nm W)),s] =
    (match firstNo W ns with|none => some (.ok (.nx [.pl (webD W),.pl (strsD all),.ac (strsD (nm W)),s']))|some x => some (.rx "NoKind" (.str x)))
  | [],all,s,_ => ⟨s,rfl⟩
  | n::ns,all,s,h => by
    have t := in_test (neg := true) (i := 3) (j := 2) (env := [.pl (webD W),.pl (strsD all),.ac (strsD (nm W)),.pl (.str n)]) (x := n) (xs := nm W) rfl rfl (.inr rfl)
    by_cases hm:n∈nm W
    · obtain ⟨s',e⟩ := kinds_loop ns all (.pl (.str n)) fun x hx => h x (qO _ hx)
      refine ⟨s',?_⟩
      have b:xIf (tBool (eOp (inD true) (eVar 3) (eVar 2))) (xRaise "NoKind" (eVar 3)) (xOf sNil) [.pl (webD W),.pl (strsD all),.ac (strsD (nm W)),.pl (.str n)]=some (.ok (.nx [.pl (webD W),.pl (strsD all),.ac (strsD (nm W)),.pl (.str n)])) := by
        unfold xIf
        rw [t,qC,if_neg (by simp [hm])]
        rfl
      have f:firstNo W (n::ns)=firstNo W ns := by unfold firstNo;rw [qAN];simp [hm]
      rw [f,← e]
      show ((xIf _ _ _ [.pl (webD W),.pl (strsD all),.ac (strsD (nm W)),.pl (.str n)]).bind _)=_
      rw [b];rfl
    · refine ⟨s,?_⟩
      have b:xIf (tBool (eOp (inD true) (eVar 3) (eVar 2))) (xRaise "NoKind" (eVar 3)) (xOf sNil) [.pl (webD W),.pl (strsD all),.ac (strsD (nm W)),.pl (.str n)]=some (.rx "NoKind" (.str n)) := by
        unfold xIf
        rw [t,qC,if_pos (by simp [hm])]
        show (if atD (.str n)=true then some (OutX.rx "NoKind" (.str n)) else none)=_
        rw [if_pos (h n (by simp) hm)]
      have f:firstNo W (n::ns)=some n := by unfold firstNo;rw [qAN];simp [hm]
      rw [f]
      show ((xIf _ _ _ [.pl (webD W),.pl (strsD all),.ac (strsD (nm W)),.pl (.str n)]).bind _)=_
      rw [b];rfl
theorem g_check_kindsX {W:Web} (hl:W.length<100000) {ns:List Str} (h:∀ x∈ns,x∉nm W→atD (.str x)=true):G_check_kindsX [webD W,strsD ns]=some (match firstNo W ns with|none => .ok .none false|some x => .rx "NoKind" (.str x)) := by
  obtain ⟨s',e⟩ := kinds_loop (W := W) ns ns .no h
  have f:F_check_kindsX [.pl (webD W),.pl (strsD ns),.no,.no]=forLX (gN 3) (xIf (tBool (eOp (inD true) (eVar 3) (eVar 2))) (xRaise "NoKind" (eVar 3)) (xOf sNil)) (ns.map .str) [.pl (webD W),.pl (strsD ns),.ac (strsD (nm W)),.no] := by
    unfold F_check_kindsX xSeq xOf
    rw [set_is (call_is (n := 1) (rs := [⟨webD W,false,[]⟩]) rfl rfl (g_names_of hl))]
    rfl
  unfold G_check_kindsX fnX
  show (match F_check_kindsX [.pl (webD W),.pl (strsD ns),.no,.no] with|some (.ok (.rt d fr)) => some (ResX.ok d fr)|some (.ok (.nx _)) => some (.ok .none false)|some (.rx c d) => some (.rx c d)|_ => none)=_
  rw [f,e]
  cases firstNo W ns<;>rfl
noncomputable def wthB (W:Web) (a b:Arm):Bool := (upA W a).all fun x => decide (x∈upA W b)
theorem insS_len (k:Str):∀ ks:List Str,(insS ks k).length≤ks.length+1 := fun ks => by
  unfold insS
  split
  · omega
  · rw [qK];simp
theorem ins_len:∀ (l ks:List Str),(l.foldl insS ks).length≤ks.length+l.length
  | [],ks => by simp
  | x::l,ks => by
    rw [qAr]
    have h1 := ins_len l (insS ks x)
    have h2 := insS_len x ks
    rw [qf];omega
theorem upA_len {W:Web} (h:WebOk W):∀ (ns:List Str) (ks:List Str),(ns.foldl (fun ks n => (up W n).foldl insS ks) ks).length≤ks.length+1000 * ns.length
  | [],ks => by simp
  | n::ns,ks => by
    rw [qAr]
    have h1 := upA_len h ns ((up W n).foldl insS ks)
    have h2 := ins_len (up W n) ks
    have h3 := up_len h n
    rw [qf];omega
theorem wth_rch {W:Web} (h:WebOk W) {a b:Arm}:wthB W a b=(rchA W a).all fun x => decide (x∈rchA W b) := by
  unfold wthB
  rw [qAW,qAI,qAI]
  constructor
  · intro q x hx
    have := of_decide_eq_true (q x ((mem_rch h).mp hx))
    exact decide_eq_true ((mem_rch h).mpr this)
  · intro q x hx
    have := of_decide_eq_true (q x ((mem_rch h).mpr hx))
    exact decide_eq_true ((mem_rch h).mp this)
theorem g_withinX {W:Web} (h:WebOk W) {a b:Arm} (ha:a.parts.length≤4) (hb:b.parts.length≤4) (hat:∀ x∈a.parts++b.parts,x∉nm W→atD (.str x)=true) :
    G_withinX [webD W,armD a,armD b]=some (match firstNo W (a.parts++b.parts) with|none => .ok (.bool (wthB W a b)) false|some x => .rx "NoKind" (.str x)) := by
  have hW:W.length<100000 := qBY h.len (by decide)
  have e1:eCall 1 G_names_in (aCons (eVar 1) aNil) [.pl (webD W),.pl (armD a),.pl (armD b),.no]=some ⟨strsD a.parts,true,[]⟩ := call_is (n := 1) (rs := [⟨armD a,false,[]⟩]) rfl rfl (g_names_in_arm a)
  have e2:eCall 1 G_names_in (aCons (eVar 2) aNil) [.pl (webD W),.pl (armD a),.pl (armD b),.no]=some ⟨strsD b.parts,true,[]⟩ := call_is (n := 1) (rs := [⟨armD b,false,[]⟩]) rfl rfl (g_names_in_arm b)
  have e3 := e_addL e1 e2 (by omega)
  have ck := g_check_kindsX hW hat
  have c:xCall 2 G_check_kindsX (aCons (eVar 0) (aCons (eOp addD (eCall 1 G_names_in (aCons (eVar 1) aNil)) (eCall 1 G_names_in (aCons (eVar 2) aNil))) aNil)) [.pl (webD W),.pl (armD a),.pl (armD b),.no] =
      some (match firstNo W (a.parts++b.parts) with|none => .ok (.nx [.pl (webD W),.pl (armD a),.pl (armD b),.no])|some x => .rx "NoKind" (.str x)) := by
    unfold xCall
    rw [args_cons (r := ⟨webD W,false,[]⟩) rfl (args1 e3)]
    show ((G_check_kindsX [webD W,strsD (a.parts++b.parts)]).map _)=_
    rw [ck]
    cases firstNo W (a.parts++b.parts)<;>rfl
  have fin:F_withinX [.pl (webD W),.pl (armD a),.pl (armD b),.no]=some (match firstNo W (a.parts++b.parts) with|none => .ok (.rt (.bool (wthB W a b)) false)|some x => .rx "NoKind" (.str x)) := by
    unfold F_withinX xSeq
    rw [c,qC]
    cases f:firstNo W (a.parts++b.parts) with
    | some x => rfl
    | none =>
      have all:∀ x∈a.parts++b.parts,x∈nm W := fun x hx => by
        have := List.find?_eq_none.mp f x hx
        simpa using this
      have r1 := g_roof_arm h (a := a) fun n hn => all n (qi _ hn)
      have r2 := g_roof_arm h (a := b) fun n hn => all n (qX _ hn)
      dsimp only
      unfold xOf
      rw [set_is (call_is (n := 1) (rs := [⟨webD W,false,[]⟩]) rfl rfl (g_roofs_of h))]
      show ((sRet _ [.pl (webD W),.pl (armD a),.pl (armD b),.ac (.dict (dS roofD (ups W)))]).map _)=_
      have q1:eCall 2 G_roof_of (aCons (eVar 3) (aCons (eVar 1) aNil)) [.pl (webD W),.pl (armD a),.pl (armD b),.ac (.dict (dS roofD (ups W)))]=some ⟨roofD (upA W a),true,bsOf (roofD (upA W a)) [3]⟩ := call_is (n := 2) (rs := [⟨.dict (dS roofD (ups W)),false,[3]⟩,⟨armD a,false,[]⟩]) rfl rfl r1
      have q2:eCall 2 G_roof_of (aCons (eVar 3) (aCons (eVar 2) aNil)) [.pl (webD W),.pl (armD a),.pl (armD b),.ac (.dict (dS roofD (ups W)))]=some ⟨roofD (upA W b),true,bsOf (roofD (upA W b)) [3]⟩ := call_is (n := 2) (rs := [⟨.dict (dS roofD (ups W)),false,[3]⟩,⟨armD b,false,[]⟩]) rfl rfl r2
      have ql:(upA W a).length<100000 := by
        have := upA_len h a.parts []
        unfold upA
        simp only [qA0] at this
        omega
      have q3 := call_is (n := 2) (g := G_is_within) (args_cons q1 (args1 q2)) rfl (g_is_within (vs := upA W b) ql)
      rw [ret_is q3]
      rfl
  unfold G_withinX fnX
  show (match F_withinX [.pl (webD W),.pl (armD a),.pl (armD b),.no] with|some (.ok (.rt d fr)) => some (ResX.ok d fr)|some (.ok (.nx _)) => some (.ok .none false)|some (.rx c d) => some (.rx c d)|_ => none)=_
  rw [fin]
  cases firstNo W (a.parts++b.parts)<;>rfl
theorem g_law_found {W:Web} (h:WebOk W) {a b:Arm} (ha:a.parts.length≤4) (hb:b.parts.length≤4) (hat:∀ x∈a.parts++b.parts,x∉nm W→atD (.str x)=true) :
    G_law_found [webD W,armD a,armD b]=some (match firstNo W (a.parts++b.parts) with|none => .tuple [.str "told",.bool (wthB W a b)]|some x => .tuple [.str "refused",.str x,.tuple [.bool true,.bool true],.bool false],false) := by
  unfold G_law_found foundD
  rw [g_withinX h ha hb hat,qC]
  cases firstNo W (a.parts++b.parts)<;>rfl
theorem g_law_bent {d:PyData} {n:Nat} (ok:Fok d n) (hn:n+100≤10 ^ 12) {a:Arm} (s:Str) (ha:a.parts.length≤4) (hne:a.parts≠[]):∃ (a':Arm) (d':PyData),G_law_bent d [armD a,.str s]=some (armD a',false,d')∧a'.parts.length≤4∧a'.parts≠[]∧(∀ x∈a'.parts,x∈a.parts∨x=s)∧Fok d' (n+1) := by
  cases a with
  | one m => exact ⟨.one s,d,rfl,by show 1≤4;decide,List.cons_ne_nil _ _,fun x hx => .inr (qAP.mp hx),ok.mono (by omega)⟩
  | many ns =>
    have hl:0<ns.length := List.length_pos_iff.mpr hne
    have ha:ns.length≤4 := ha
    obtain ⟨r,d1,q1,q2,q3,q4⟩ := take_at (f := 0) (e := eCB lenD (aCons (eVar 3) aNil)) (env := [.ac d,.pl (armD (.many ns)),.pl (.str s),.ac (strsD ns)]) (m := (ns.length:Int)) rfl (by rw [e_lenL (ds := ns.map .str) (fr := false) (bs := [3]) rfl,qD]) ok (by omega) (by omega) (by omega)
    refine ⟨.many (ns.set r.toNat s),d1,?_,by show (ns.set r.toNat s).length≤4;rw [qj];exact ha,fun z => ?_,fun x hx => ?_,q4⟩
    · have e1:ixN (ns.map PyData.str).length r=some r.toNat := by
        unfold ixN
        rw [qD,if_pos (by omega),if_pos (by omega)]
      have s1:fSetI 0 3 (fCallF 0 2 G_law_take (fCons (fPure 0 (eCB lenD (aCons (eVar 3) aNil))) (fNil 0))) (eVar 2) [.ac d,.pl (armD (.many ns)),.pl (.str s),.ac (strsD ns)]=some (.nx [.ac d1,.pl (armD (.many ns)),.pl (.str s),.ac (strsD (ns.set r.toNat s))]) := by
        unfold fSetI
        show ((fCallF 0 2 G_law_take (fCons (fPure 0 (eCB lenD (aCons (eVar 3) aNil))) (fNil 0)) [.ac d,.pl (armD (.many ns)),.pl (.str s),.ac (strsD ns)]).bind _)=_
        rw [q1,qC]
        show ((ixN (ns.map PyData.str).length r).map fun j => OutF.nx [.ac d1,.pl (armD (.many ns)),.pl (.str s),.ac (.list ((ns.map .str).set j (.str s)))])=_
        rw [e1]
        unfold strsD
        rw [List.map_set];rfl
      have f:F_law_bent [.ac d,.pl (armD (.many ns)),.pl (.str s),.no]=some (.rt (armD (.many (ns.set r.toNat s))) false [.ac d1,.pl (armD (.many ns)),.pl (.str s),.pl (strsD (ns.set r.toNat s))]) := by
        unfold F_law_bent
        refine fseq_rt ?_
        refine (fifp_t rfl).trans ?_
        refine (fseq_nx (show fS (sSet 3 (eCB listD (aCons (eVar 1) aNil))) [.ac d,.pl (armD (.many ns)),.pl (.str s),.no]=some (.nx [.ac d,.pl (armD (.many ns)),.pl (.str s),.ac (strsD ns)]) from rfl)).trans ?_
        exact (fseq_nx s1).trans rfl
      unfold G_law_bent fnF
      show (F_law_bent [.ac d,.pl (armD (.many ns)),.pl (.str s),.no]).bind _=_
      rw [f];rfl
    · have:(ns.set r.toNat s).length=0 := by rw [show ns.set r.toNat s=[] from z];rfl
      rw [qj] at this
      omega
    · rcases List.mem_or_eq_of_mem_set (show x∈ns.set r.toNat s from hx) with z|z
      · exact .inl z
      · exact .inr z
noncomputable abbrev en (W:Web) (z1 z2:Str) (A1 A2:Sl) (d:PyData) (s7 A8 t9 t10 t11 t12 t13 t14 t15:Sl):DEnv := [.no,A1,A2,.ac d,.pl (strsD (nm W)),.ac (strsD [z1,z2]),.pl (webD W),s7,A8,t9,t10,t11,t12,t13,t14,t15]
theorem bsOf_nil (d:PyData):bsOf d []=[] := by unfold bsOf;split<;>rfl
section
variable {W:Web} {z1 z2:Str} {A1 A2:Sl} {d:PyData} {n:Nat} {s7 A8 t9 t10 t11 t12 t13 t14 t15:Sl}
theorem st_arm9 (ok:Fok d n) (hn:n+1000≤10 ^ 12) (hx:0<(nm W).length) (hx12:(nm W).length≤12):∃ (a:Arm) (d':PyData),(fSet 9 (fCallF 3 2 G_law_arm_k23 (fCons (fPure 3 (eVar 4)) (fNil 3)))) (en W z1 z2 A1 A2 d s7 A8 t9 t10 t11 t12 t13 t14 t15)=some (.nx (en W z1 z2 A1 A2 d' s7 A8 (.pl (armD a)) t10 t11 t12 t13 t14 t15))∧(∀ m∈a.parts,m∈nm W)∧a.parts.length≤4∧a.parts≠[]∧Fok d' (n+20) := by
  obtain ⟨a,d',g,h1,h2,h3,h4⟩ := g_law_arm23 ok hn hx hx12
  have c := fcallF_is (f := 3) (n := 2) (g := G_law_arm_k23) (env := en W z1 z2 A1 A2 d s7 A8 t9 t10 t11 t12 t13 t14 t15) (d0 := d) (d1 := d) rfl (fcons1 (f := 3) (d := d) (fpure_0 (f := 3) (e := eVar 4) (d0 := d) (d := strsD (nm W)) (fr := false) rfl rfl) rfl) rfl rfl g h4.flat
  rw [show bss [(⟨strsD (nm W),false,[]⟩:Val)]=[] from rfl,bsOf_nil] at c
  exact ⟨a,d',(fset_pl c).trans rfl,h1,h2,h3,h4⟩
theorem st_arm10 (ok:Fok d n) (hn:n+1000≤10 ^ 12) (hx:0<(nm W).length) (hx12:(nm W).length≤12):∃ (a:Arm) (d':PyData),(fSet 10 (fCallF 3 2 G_law_arm_k23 (fCons (fPure 3 (eVar 4)) (fNil 3)))) (en W z1 z2 A1 A2 d s7 A8 t9 t10 t11 t12 t13 t14 t15)=some (.nx (en W z1 z2 A1 A2 d' s7 A8 t9 (.pl (armD a)) t11 t12 t13 t14 t15))∧(∀ m∈a.parts,m∈nm W)∧a.parts.length≤4∧a.parts≠[]∧Fok d' (n+20) := by
  obtain ⟨a,d',g,h1,h2,h3,h4⟩ := g_law_arm23 ok hn hx hx12
  have c := fcallF_is (f := 3) (n := 2) (g := G_law_arm_k23) (env := en W z1 z2 A1 A2 d s7 A8 t9 t10 t11 t12 t13 t14 t15) (d0 := d) (d1 := d) rfl (fcons1 (f := 3) (d := d) (fpure_0 (f := 3) (e := eVar 4) (d0 := d) (d := strsD (nm W)) (fr := false) rfl rfl) rfl) rfl rfl g h4.flat
  rw [show bss [(⟨strsD (nm W),false,[]⟩:Val)]=[] from rfl,bsOf_nil] at c
  exact ⟨a,d',(fset_pl c).trans rfl,h1,h2,h3,h4⟩
theorem st_str (ok:Fok d n) (hn:n+100≤10 ^ 12):∃ (s:Str) (d':PyData),(s=z1∨s=z2)∧fOp ixD (fPure 3 (eVar 5)) (fCallF 3 2 G_law_take (fCons (fPure 3 (eC (.int 2))) (fNil 3))) (en W z1 z2 A1 A2 d s7 A8 t9 t10 t11 t12 t13 t14 t15)=some (vs s,en W z1 z2 A1 A2 d' s7 A8 t9 t10 t11 t12 t13 t14 t15)∧Fok d' (n+1) := by
  obtain ⟨r,d',q1,q2,q3,q4⟩ := take_at (f := 3) (e := eC (.int 2)) (env := en W z1 z2 A1 A2 d s7 A8 t9 t10 t11 t12 t13 t14 t15) rfl rfl ok (by omega) (by decide) (by decide)
  have p := fpure_is (f := 3) (e := eVar 5) (env := en W z1 z2 A1 A2 d s7 A8 t9 t10 t11 t12 t13 t14 t15) (d0 := d) (r := ⟨strsD [z1,z2],false,[5]⟩) rfl rfl (show (3:Nat)∉[5] by decide)
  have:r=0∨r=1 := by omega
  rcases this with rfl|rfl
  · exact ⟨z1,d',.inl rfl,fop_is (w := ixD) (z := .str z1) (fr := false) p q1 rfl,q4⟩
  · exact ⟨z2,d',.inr rfl,fop_is (w := ixD) (z := .str z2) (fr := false) p q1 rfl,q4⟩
theorem st_bent9 {r:Int} {a:Arm} (ok:Fok d n) (hn:n+1000≤10 ^ 12) (ha:a.parts.length≤4) (hne:a.parts≠[]):∃ (a':Arm) (d':PyData),(fIfP (tOrF (tBool (eOp eqD (eVar 11) (eC (.int 0)))) (tBool (eOp eqD (eVar 11) (eC (.int 1))))) (fSet 9 (fCallF 3 3 G_law_bent (fCons (fPure 3 (eVar 9)) (fCons (fOp ixD (fPure 3 (eVar 5)) (fCallF 3 2 G_law_take (fCons (fPure 3 (eC (.int 2))) (fNil 3)))) (fNil 3))))) fNx) (en W z1 z2 A1 A2 d s7 A8 (.pl (armD a)) t10 (.pl (.int r)) t12 t13 t14 t15)=some (.nx (en W z1 z2 A1 A2 d' s7 A8 (.pl (armD a')) t10 (.pl (.int r)) t12 t13 t14 t15))∧(∀ x∈a'.parts,x∈a.parts∨x=z1∨x=z2)∧a'.parts.length≤4∧a'.parts≠[]∧Fok d' (n+20) := by
  have t:tOrF (tBool (eOp eqD (eVar 11) (eC (.int 0)))) (tBool (eOp eqD (eVar 11) (eC (.int 1)))) (en W z1 z2 A1 A2 d s7 A8 (.pl (armD a)) t10 (.pl (.int r)) t12 t13 t14 t15)=some ((r==0)||(r==1)) := by
    have t1:tBool (eOp eqD (eVar 11) (eC (.int 0))) (en W z1 z2 A1 A2 d s7 A8 (.pl (armD a)) t10 (.pl (.int r)) t12 t13 t14 t15)=some (r==0) := t_bool (e_eqi rfl rfl)
    have t2:tBool (eOp eqD (eVar 11) (eC (.int 1))) (en W z1 z2 A1 A2 d s7 A8 (.pl (armD a)) t10 (.pl (.int r)) t12 t13 t14 t15)=some (r==1) := t_bool (e_eqi rfl rfl)
    unfold tOrF
    rw [t1,t2,qC]
    cases (r==0)<;>rfl
  cases hb:((r==0)||(r==1)) with
  | false => exact ⟨a,d,(fifp_f (t.trans (by rw [hb]))).trans rfl,fun x hx => .inl hx,ha,hne,ok.mono (by omega)⟩
  | true =>
    obtain ⟨s,d1,hs,q1,ok1⟩ := st_str (W := W) (z1 := z1) (z2 := z2) (A1 := A1) (A2 := A2) (s7 := s7) (A8 := A8) (t9 := (.pl (armD a))) (t10 := t10) (t11 := .pl (.int r)) (t12 := t12) (t13 := t13) (t14 := t14) (t15 := t15) ok (by omega)
    obtain ⟨a',d2,g,h1,h2,h3,h4⟩ := g_law_bent ok1 (by omega) s ha hne
    have c := fcallF_is (f := 3) (n := 3) (g := G_law_bent) (env := en W z1 z2 A1 A2 d s7 A8 (.pl (armD a)) t10 (.pl (.int r)) t12 t13 t14 t15) (d0 := d) (d1 := d1) rfl (fcons_is (fpure_0 (f := 3) (e := eVar 9) (d0 := d) (d := armD a) (fr := false) rfl rfl) (fcons_is q1 (fnil_is (f := 3) (d := d1) rfl))) rfl rfl g h4.flat
    rw [show bss [(⟨armD a,false,[]⟩:Val),vs s]=[] from rfl,bsOf_nil] at c
    refine ⟨a',d2,(fifp_t (t.trans (by rw [hb]))).trans ((fset_pl c).trans rfl),fun x hx => ?_,h1,h2,h4.mono (by omega)⟩
    rcases h3 x hx with y|y
    · exact .inl y
    · rw [y];exact .inr hs
theorem st_bent10 {r:Int} {a:Arm} (ok:Fok d n) (hn:n+1000≤10 ^ 12) (ha:a.parts.length≤4) (hne:a.parts≠[]):∃ (a':Arm) (d':PyData),(fIfP (tOrF (tBool (eOp eqD (eVar 11) (eC (.int 1)))) (tBool (eOp eqD (eVar 11) (eC (.int 2))))) (fSet 10 (fCallF 3 3 G_law_bent (fCons (fPure 3 (eVar 10)) (fCons (fOp ixD (fPure 3 (eVar 5)) (fCallF 3 2 G_law_take (fCons (fPure 3 (eC (.int 2))) (fNil 3)))) (fNil 3))))) fNx) (en W z1 z2 A1 A2 d s7 A8 t9 (.pl (armD a)) (.pl (.int r)) t12 t13 t14 t15)=some (.nx (en W z1 z2 A1 A2 d' s7 A8 t9 (.pl (armD a')) (.pl (.int r)) t12 t13 t14 t15))∧(∀ x∈a'.parts,x∈a.parts∨x=z1∨x=z2)∧a'.parts.length≤4∧a'.parts≠[]∧Fok d' (n+20) := by
  have t:tOrF (tBool (eOp eqD (eVar 11) (eC (.int 1)))) (tBool (eOp eqD (eVar 11) (eC (.int 2)))) (en W z1 z2 A1 A2 d s7 A8 t9 (.pl (armD a)) (.pl (.int r)) t12 t13 t14 t15)=some ((r==1)||(r==2)) := by
    have t1:tBool (eOp eqD (eVar 11) (eC (.int 1))) (en W z1 z2 A1 A2 d s7 A8 t9 (.pl (armD a)) (.pl (.int r)) t12 t13 t14 t15)=some (r==1) := t_bool (e_eqi rfl rfl)
    have t2:tBool (eOp eqD (eVar 11) (eC (.int 2))) (en W z1 z2 A1 A2 d s7 A8 t9 (.pl (armD a)) (.pl (.int r)) t12 t13 t14 t15)=some (r==2) := t_bool (e_eqi rfl rfl)
    unfold tOrF
    rw [t1,t2,qC]
    cases (r==1)<;>rfl
  cases hb:((r==1)||(r==2)) with
  | false => exact ⟨a,d,(fifp_f (t.trans (by rw [hb]))).trans rfl,fun x hx => .inl hx,ha,hne,ok.mono (by omega)⟩
  | true =>
    obtain ⟨s,d1,hs,q1,ok1⟩ := st_str (W := W) (z1 := z1) (z2 := z2) (A1 := A1) (A2 := A2) (s7 := s7) (A8 := A8) (t9 := t9) (t10 := (.pl (armD a))) (t11 := .pl (.int r)) (t12 := t12) (t13 := t13) (t14 := t14) (t15 := t15) ok (by omega)
    obtain ⟨a',d2,g,h1,h2,h3,h4⟩ := g_law_bent ok1 (by omega) s ha hne
    have c := fcallF_is (f := 3) (n := 3) (g := G_law_bent) (env := en W z1 z2 A1 A2 d s7 A8 t9 (.pl (armD a)) (.pl (.int r)) t12 t13 t14 t15) (d0 := d) (d1 := d1) rfl (fcons_is (fpure_0 (f := 3) (e := eVar 10) (d0 := d) (d := armD a) (fr := false) rfl rfl) (fcons_is q1 (fnil_is (f := 3) (d := d1) rfl))) rfl rfl g h4.flat
    rw [show bss [(⟨armD a,false,[]⟩:Val),vs s]=[] from rfl,bsOf_nil] at c
    refine ⟨a',d2,(fifp_t (t.trans (by rw [hb]))).trans ((fset_pl c).trans rfl),fun x hx => ?_,h1,h2,h4.mono (by omega)⟩
    rcases h3 x hx with y|y
    · exact .inl y
    · rw [y];exact .inr hs
end
end Bc
namespace L2
open PySem PySem.Spec PyProof.Rows
end L2
namespace Bc
open PySem L2
theorem shaped_strs {xs:List Str} (h:∀ x∈xs,qAL x=true):qAX (strsD xs)=true := by
  obtain ⟨h1,h2⟩ := lay_strs xs h
  unfold qAX strsD
  rw [qq]
  refine ⟨h1,decide_eq_true ?_⟩
  show qBh (xs.map .str)+1≤64
  omega
theorem neS {d:PyData} (s:qAX d=true):neD d d=some (.bool false,false) := by
  unfold neD eqOk
  rw [s,if_pos (by simp),PySem.SeqAt.eqv_refl _ (qAc s)];rfl
theorem t_neS {a b:EF} {env:DEnv} {d:PyData} {f1 f2:Bool} {b1 b2:List Nat} (ha:a env=some ⟨d,f1,b1⟩) (hb:b env=some ⟨d,f2,b2⟩) (s:qAX d=true):tBool (eOp neD a b) env=some false := by
  refine t_bool ?_
  unfold eOp
  rw [ha,hb]
  show ((neD d d).bind fun z => some (⟨z.1,z.2,bsOf z.1 (b1++b2)⟩:Val))=_
  rw [neS s];rfl
noncomputable def wrongL (W:Web) (a b:Arm):List Str := (a.parts++b.parts).filter fun x => !decide (x∈nm W)
noncomputable def dueD (W:Web) (a b:Arm):PyData := match wrongL W a b with
  | [] => .tuple [.str "told",.bool (wthB W a b)]
  | x::_ => .tuple [.str "refused",.str x,.tuple [.bool true,.bool true],.bool false]
theorem first_wrong (W:Web) (a b:Arm):firstNo W (a.parts++b.parts)=(wrongL W a b).head? := by
  unfold firstNo wrongL
  generalize a.parts++b.parts=l
  induction l with
  | nil => rfl
  | cons x l ih =>
    rw [qAN,qBk]
    cases (!decide (x∈nm W)) with
    | true => rfl
    | false => exact ih
section
variable {W:Web} {z1 z2:Str} {A1 A2:Sl} {d:PyData} {s7 A8 t9 t10 t11 t12 t13 t14 t15:Sl} {a b:Arm}
theorem st_wrong (ha:a.parts.length≤4) (hb:b.parts.length≤4):(fS (sSet 12 (eComp ["_law_name"] [4] (iItems (eOp addD (eCall 1 G_names_in (aCons (eVar 9) aNil)) (eCall 1 G_names_in (aCons (eVar 10) aNil)))) (gN 0) (tBool (eOp (inD true) (eVar 0) (eVar 1))) (eVar 0)))) (en W z1 z2 A1 A2 d s7 A8 (.pl (armD a)) (.pl (armD b)) t11 t12 t13 t14 t15)=some (.nx (en W z1 z2 A1 A2 d s7 A8 (.pl (armD a)) (.pl (armD b)) t11 (.ac (strsD (wrongL W a b))) t13 t14 t15)) := by
  have e1:eCall 1 G_names_in (aCons (eVar 9) aNil) (en W z1 z2 A1 A2 d s7 A8 (.pl (armD a)) (.pl (armD b)) t11 t12 t13 t14 t15)=some ⟨strsD a.parts,true,[]⟩ := call_is (n := 1) (rs := [⟨armD a,false,[]⟩]) rfl rfl (g_names_in_arm a)
  have e2:eCall 1 G_names_in (aCons (eVar 10) aNil) (en W z1 z2 A1 A2 d s7 A8 (.pl (armD a)) (.pl (armD b)) t11 t12 t13 t14 t15)=some ⟨strsD b.parts,true,[]⟩ := call_is (n := 1) (rs := [⟨armD b,false,[]⟩]) rfl rfl (g_names_in_arm b)
  have e3 := e_addL e1 e2 (by omega)
  have it:iItems (eOp addD (eCall 1 G_names_in (aCons (eVar 9) aNil)) (eCall 1 G_names_in (aCons (eVar 10) aNil))) (en W z1 z2 A1 A2 d s7 A8 (.pl (armD a)) (.pl (armD b)) t11 t12 t13 t14 t15)=some ((a.parts++b.parts).map .str,[]) := by
    unfold iItems
    rw [e3];rfl
  have cm:compL (gN 0) (tBool (eOp (inD true) (eVar 0) (eVar 1))) (eVar 0) [.no,.pl (strsD (nm W))] ((a.parts++b.parts).map .str)=some ((wrongL W a b).map .str) :=
    compL_filter (enc := PyData.str) (out := PyData.str) (fun x => !decide (x∈nm W)) fun x _ => ⟨[.pl (.str x),.pl (strsD (nm W))],rfl,in_test (neg := true) (i := 0) (j := 1) rfl rfl (.inl rfl),fun _ => ⟨vs x,rfl,rfl⟩⟩
  refine fs_nx ((set_is (comp_is (own := ["_law_name"]) (fr := [4]) it (by rw [qD,qK];omega) cm)).trans ?_)
  rw [if_pos (flats_strs _)]
  rfl
theorem st_eq:tBool (eOp eqD (eVar 12) (eLst aNil)) (en W z1 z2 A1 A2 d s7 A8 t9 t10 t11 (.ac (strsD (wrongL W a b))) t13 t14 t15)=some (decide (wrongL W a b=[]))∨¬ (∀ x∈wrongL W a b,qAL x=true) := by
  by_cases q:∀ x∈wrongL W a b,qAL x=true
  · left
    refine t_bool ?_
    unfold eOp
    show ((eqD (strsD (wrongL W a b)) (strsD [])).bind _)=_
    unfold eqD eqOk
    rw [shaped_strs q,shaped_strs (xs := []) (fun x hx => nomatch hx),if_pos (by simp)]
    show some (⟨.bool (PyData.eqvAll ((wrongL W a b).map .str) (([]:List Str).map .str)),false,_⟩:Val)=_
    rw [eqv_strs]
    cases wrongL W a b<;>rfl
  · exact .inr q
theorem st_eq' (q:∀ x∈wrongL W a b,qAL x=true):tBool (eOp eqD (eVar 12) (eLst aNil)) (en W z1 z2 A1 A2 d s7 A8 t9 t10 t11 (.ac (strsD (wrongL W a b))) t13 t14 t15)=some (decide (wrongL W a b=[])) := st_eq.resolve_right fun z => z q
theorem st_due (h:WebOk W) (ha:a.parts.length≤4) (hb:b.parts.length≤4) (h7:Hd (.dict (dS strsD (tabW W W))) s7) (q:∀ x∈wrongL W a b,qAL x=true):∃ s7' s14:Sl,Hd (.dict (dS strsD (tabW W W))) s7'∧(fIfP (tBool (eOp eqD (eVar 12) (eLst aNil))) (fSeq (fS (sSet 14 (eCall 2 G_law_reach (aCons (eVar 7) (aCons (eVar 10) aNil)))))
    (fS (sSet 13 (eTup (aCons (eC (.str "told")) (aCons (eCB (anyD fun bs => bs.all id) (aCons (eComp ["_law_name"] [14] (iItems (eCall 2 G_law_reach (aCons (eVar 7) (aCons (eVar 9) aNil)))) (gN 0) tAllF (eOp (inD false) (eVar 0) (eVar 1))) aNil)) aNil)))))) (fS (sSet 13 (eTup (aCons (eC (.str "refused")) (aCons (eIxV 12 (eC (.int 0))) (aCons (eTup (aCons (eC (.bool true)) (aCons (eC (.bool true)) aNil))) (aCons (eC (.bool false)) aNil)))))))) (en W z1 z2 A1 A2 d s7 A8 (.pl (armD a)) (.pl (armD b)) t11 (.ac (strsD (wrongL W a b))) t13 t14 t15)=some (.nx (en W z1 z2 A1 A2 d s7' A8 (.pl (armD a)) (.pl (armD b)) t11 (.ac (strsD (wrongL W a b))) (.pl (dueD W a b)) s14 t15)) := by
  have t := st_eq' (W := W) (z1 := z1) (z2 := z2) (A1 := A1) (A2 := A2) (d := d) (s7 := s7) (A8 := A8) (t9 := .pl (armD a)) (t10 := .pl (armD b)) (t11 := t11) (t13 := t13) (t14 := t14) (t15 := t15) q
  cases hw:wrongL W a b with
  | cons x l =>
    rw [hw] at t
    refine ⟨s7,t14,h7,(fifp_f (t.trans rfl)).trans ?_⟩
    have e12 := e_ixA (k := 12) (n := 0) (b := eC (.int 0)) (env := en W z1 z2 A1 A2 d s7 A8 (.pl (armD a)) (.pl (armD b)) t11 (.ac (strsD (x::l))) t13 t14 t15) (ds := (x::l).map .str) (d := .str x) rfl rfl rfl
    unfold dueD
    rw [hw]
    refine fs_set ?_
    unfold eTup
    rw [args_cons (r := vs "refused") rfl (args_cons e12 (args_cons (r := ⟨.tuple [.bool true,.bool true],false,[]⟩) rfl (args1 (r := vb false) rfl)))]
    rfl
  | nil =>
    have all:∀ x∈a.parts++b.parts,x∈nm W := fun x hx => by
      have := List.filter_eq_nil_iff.mp hw x hx
      simpa using this
    obtain ⟨f1,r1⟩ := g_law_reach h hb fun n hn => all n (qX _ hn)
    obtain ⟨f2,r2⟩ := g_law_reach h ha fun n hn => all n (qi _ hn)
    have due:dueD W a b=.tuple [.str "told",.bool ((rchA W a).all fun x => decide (x∈rchA W b))] := by unfold dueD;rw [hw,wth_rch h]
    have main:∀ (s7' s14:Sl),Hd (.dict (dS strsD (tabW W W))) s7'→Hd (strsD (rchA W b)) s14→∃ s7'' s14':Sl,Hd (.dict (dS strsD (tabW W W))) s7''∧(fS (sSet 13 (eTup (aCons (eC (.str "told")) (aCons (eCB (anyD fun bs => bs.all id) (aCons (eComp ["_law_name"] [14] (iItems (eCall 2 G_law_reach (aCons (eVar 7) (aCons (eVar 9) aNil)))) (gN 0) tAllF (eOp (inD false) (eVar 0) (eVar 1))) aNil)) aNil))))) (en W z1 z2 A1 A2 d s7' A8 (.pl (armD a)) (.pl (armD b)) t11 (.ac (strsD [])) t13 s14 t15)=some (.nx (en W z1 z2 A1 A2 d s7'' A8 (.pl (armD a)) (.pl (armD b)) t11 (.ac (strsD [])) (.pl (dueD W a b)) s14' t15)) := by
      intro s7' s14 h7' h14
      obtain ⟨bs7,e7⟩ := e_hd (i := 7) (env := en W z1 z2 A1 A2 d s7' A8 (.pl (armD a)) (.pl (armD b)) t11 (.ac (strsD [])) t13 s14 t15) rfl h7'
      have c := call_is (n := 2) (g := G_law_reach) (args_cons e7 (args1 (a := eVar 9) (r := ⟨armD a,false,[]⟩) rfl)) rfl r2
      have it:∃ bs,iItems (eCall 2 G_law_reach (aCons (eVar 7) (aCons (eVar 9) aNil))) (en W z1 z2 A1 A2 d s7' A8 (.pl (armD a)) (.pl (armD b)) t11 (.ac (strsD [])) t13 s14 t15)=some ((rchA W a).map .str,bs) := by
        unfold iItems
        rw [c]
        exact ⟨_,rfl⟩
      obtain ⟨bsI,it⟩ := it
      have env2:envB ["_law_name"] [14] (en W z1 z2 A1 A2 d s7' A8 (.pl (armD a)) (.pl (armD b)) t11 (.ac (strsD [])) t13 s14 t15)=[.no,.pl (strsD (rchA W b))] := by
        rcases h14 with rfl|rfl<;>rfl
      have cm:compL (gN 0) tAllF (eOp (inD false) (eVar 0) (eVar 1)) (envB ["_law_name"] [14] (en W z1 z2 A1 A2 d s7' A8 (.pl (armD a)) (.pl (armD b)) t11 (.ac (strsD [])) t13 s14 t15)) ((rchA W a).map .str)=some ((rchA W a).map fun x => .bool (decide (x∈rchA W b))) := by
        rw [env2]
        exact compL_map fun x _ => ⟨[.pl (.str x),.pl (strsD (rchA W b))],rfl,rfl,_,eop_is (x := vs x) (y := ⟨strsD (rchA W b),false,[]⟩) rfl rfl (in_strs false _ x),rfl⟩
      have hl := rch_len h ha
      have e := e_all (f := fun x => decide (x∈rchA W b)) (comp_is (own := ["_law_name"]) (fr := [14]) it (by rw [qD];omega) cm)
      refine ⟨s7',s14,h7',fs_set ?_⟩
      rw [due]
      unfold eTup
      rw [args_cons (r := vs "told") rfl (args1 e)]
      rfl
    obtain ⟨bs7,e7⟩ := e_hd (i := 7) (env := en W z1 z2 A1 A2 d s7 A8 (.pl (armD a)) (.pl (armD b)) t11 (.ac (strsD [])) t13 t14 t15) rfl h7
    have c := call_is (n := 2) (g := G_law_reach) (args_cons e7 (args1 (a := eVar 10) (r := ⟨armD b,false,[]⟩) rfl)) rfl r1
    have s1:∃ s7' s14,Hd (.dict (dS strsD (tabW W W))) s7'∧Hd (strsD (rchA W b)) s14∧fS (sSet 14 (eCall 2 G_law_reach (aCons (eVar 7) (aCons (eVar 10) aNil)))) (en W z1 z2 A1 A2 d s7 A8 (.pl (armD a)) (.pl (armD b)) t11 (.ac (strsD [])) t13 t14 t15)=some (.nx (en W z1 z2 A1 A2 d s7' A8 (.pl (armD a)) (.pl (armD b)) t11 (.ac (strsD [])) t13 s14 t15)) := by
      rcases h7 with rfl|rfl
      · cases e7
        refine ⟨_,if f1=true then .ac (strsD (rchA W b)) else .pl (strsD (rchA W b)),.inl rfl,?_,fs_nx ((set_is c).trans ?_)⟩
        · cases f1
          · exact .inl rfl
          · exact .inr rfl
        · cases f1<;>rfl
      · cases e7
        refine ⟨.pl (.dict (dS strsD (tabW W W))),if f1=true then .ac (strsD (rchA W b)) else .pl (strsD (rchA W b)),.inl rfl,?_,fs_nx ((set_is c).trans ?_)⟩
        · cases f1
          · exact .inl rfl
          · exact .inr rfl
        · cases f1<;>rfl
    obtain ⟨s7',s14,h7',h14,s1⟩ := s1
    obtain ⟨s7'',s14',h7'',s2⟩ := main s7' s14 h7' h14
    rw [hw] at t
    refine ⟨s7'',s14',h7'',(fifp_t (t.trans rfl)).trans ?_⟩
    exact (fseq_nx s1).trans s2
end
theorem shaped_due {W:Web} {a b:Arm} (q:∀ x∈wrongL W a b,qAL x=true):qAX (dueD W a b)=true := by
  unfold dueD
  cases hw:wrongL W a b with
  | nil => cases wthB W a b<;>decide +kernel
  | cons x l =>
    have hx := q x (by rw [hw];simp)
    unfold qAX
    rw [qq]
    refine ⟨?_,rfl⟩
    show (qAL "refused" && (qAL x&&_))=true
    rw [hx];decide +kernel
section
variable {W:Web} {z1 z2:Str} {A1 A2:Sl} {d:PyData} {n:Nat} {s7 A8 t9 t10 t11 t12 t13 t14 t15:Sl}
theorem law_turn23 (h:WebOk W) (lo:∀ x∈nm W,Low x) (hne:0<(nm W).length) (l1:Low z1∧z1.length≤8) (l2:Low z2∧z2.length≤8) (ok:Fok d n) (hn:n+10000≤10 ^ 12) (h7:Hd (.dict (dS strsD (tabW W W))) s7):∃ (d':PyData) (s7' u9 u10 u11 u12 u13 u14 u15:Sl),Hd (.dict (dS strsD (tabW W W))) s7'∧Fok d' (n+200) ∧
    (fSeq (fSet 9 (fCallF 3 2 G_law_arm_k23 (fCons (fPure 3 (eVar 4)) (fNil 3))))
    (fSeq (fSet 10 (fCallF 3 2 G_law_arm_k23 (fCons (fPure 3 (eVar 4)) (fNil 3))))
    (fSeq (fSet 11 (fCallF 3 2 G_law_take (fCons (fPure 3 (eC (.int 10))) (fNil 3))))
    (fSeq (fIfP (tOrF (tBool (eOp eqD (eVar 11) (eC (.int 0)))) (tBool (eOp eqD (eVar 11) (eC (.int 1))))) (fSet 9 (fCallF 3 3 G_law_bent (fCons (fPure 3 (eVar 9)) (fCons (fOp ixD (fPure 3 (eVar 5)) (fCallF 3 2 G_law_take (fCons (fPure 3 (eC (.int 2))) (fNil 3)))) (fNil 3))))) fNx)
    (fSeq (fIfP (tOrF (tBool (eOp eqD (eVar 11) (eC (.int 1)))) (tBool (eOp eqD (eVar 11) (eC (.int 2))))) (fSet 10 (fCallF 3 3 G_law_bent (fCons (fPure 3 (eVar 10)) (fCons (fOp ixD (fPure 3 (eVar 5)) (fCallF 3 2 G_law_take (fCons (fPure 3 (eC (.int 2))) (fNil 3)))) (fNil 3))))) fNx)
    (fSeq (fS (sSet 12 (eComp ["_law_name"] [4] (iItems (eOp addD (eCall 1 G_names_in (aCons (eVar 9) aNil)) (eCall 1 G_names_in (aCons (eVar 10) aNil)))) (gN 0) (tBool (eOp (inD true) (eVar 0) (eVar 1))) (eVar 0))))
    (fSeq (fS (sSet 13 (eTup (aCons (eC (.str "refused")) (aCons (eC (.str "")) (aCons (eTup (aCons (eC (.bool true)) (aCons (eC (.bool true)) aNil))) (aCons (eC (.bool false)) aNil)))))))
    (fSeq (fIfP (tBool (eOp eqD (eVar 12) (eLst aNil))) (fSeq (fS (sSet 14 (eCall 2 G_law_reach (aCons (eVar 7) (aCons (eVar 10) aNil)))))
    (fS (sSet 13 (eTup (aCons (eC (.str "told")) (aCons (eCB (anyD fun bs => bs.all id) (aCons (eComp ["_law_name"] [14] (iItems (eCall 2 G_law_reach (aCons (eVar 7) (aCons (eVar 9) aNil)))) (gN 0) tAllF (eOp (inD false) (eVar 0) (eVar 1))) aNil)) aNil)))))) (fS (sSet 13 (eTup (aCons (eC (.str "refused")) (aCons (eIxV 12 (eC (.int 0))) (aCons (eTup (aCons (eC (.bool true)) (aCons (eC (.bool true)) aNil))) (aCons (eC (.bool false)) aNil))))))))
    (fSeq (fS (sSet 15 (eCall 3 G_law_found (aCons (eVar 6) (aCons (eVar 9) (aCons (eVar 10) aNil))))))
    (fSeq (fIfP (tOrF (tBool (eOp neD (eVar 15) (eVar 13))) (tNotF (tTru (eIsi2 "bool" "str" (eIxV 15 (eC (.int 1))))))) (fRetP (eC (.bool false))) fNx)
    (fIfP (tAndF (tBool (eOp eqD (eVar 12) (eLst aNil))) (tNotF (tTru (eIsi "bool" (eIxV 15 (eC (.int 1))))))) (fRetP (eC (.bool false))) fNx))))))))))) (en W z1 z2 A1 A2 d s7 A8 t9 t10 t11 t12 t13 t14 t15)=some (.nx (en W z1 z2 A1 A2 d' s7' A8 u9 u10 u11 u12 u13 u14 u15)) := by
  have h12 := nm_len h
  obtain ⟨a0,d1,e1,m1,la0,ne0,ok1⟩ := st_arm9 (W := W) (z1 := z1) (z2 := z2) (A1 := A1) (A2 := A2) (s7 := s7) (A8 := A8) (t9 := t9) (t10 := t10) (t11 := t11) (t12 := t12) (t13 := t13) (t14 := t14) (t15 := t15) ok (by omega) hne h12
  obtain ⟨b0,d2,e2,m2,lb0,nb0,ok2⟩ := st_arm10 (W := W) (z1 := z1) (z2 := z2) (A1 := A1) (A2 := A2) (s7 := s7) (A8 := A8) (t9 := .pl (armD a0)) (t10 := t10) (t11 := t11) (t12 := t12) (t13 := t13) (t14 := t14) (t15 := t15) ok1 (by omega) hne h12
  obtain ⟨r,d3,q1,_,_,ok3⟩ := take_at (f := 3) (e := eC (.int 10)) (env := en W z1 z2 A1 A2 d2 s7 A8 (.pl (armD a0)) (.pl (armD b0)) t11 t12 t13 t14 t15) rfl rfl ok2 (by omega) (by decide) (by decide)
  have e3 := fset_pl (i := 11) q1
  obtain ⟨a,d4,e4,ma,la,na,ok4⟩ := st_bent9 (W := W) (z1 := z1) (z2 := z2) (A1 := A1) (A2 := A2) (s7 := s7) (A8 := A8) (t10 := .pl (armD b0)) (r := r) (t12 := t12) (t13 := t13) (t14 := t14) (t15 := t15) ok3 (by omega) la0 ne0
  obtain ⟨b,d5,e5,mb,lb,nb,ok5⟩ := st_bent10 (W := W) (z1 := z1) (z2 := z2) (A1 := A1) (A2 := A2) (s7 := s7) (A8 := A8) (t9 := .pl (armD a)) (r := r) (t12 := t12) (t13 := t13) (t14 := t14) (t15 := t15) ok4 (by omega) lb0 nb0
  have part:∀ x∈a.parts++b.parts,x∉nm W→Low x∧x.length≤8 := fun x hx hm => by
    have:x∈nm W∨x=z1∨x=z2 := by
      rcases qAA.mp hx with y|y
      · rcases ma x y with z|z
        · exact .inl (m1 x z)
        · exact .inr z
      · rcases mb x y with z|z
        · exact .inl (m2 x z)
        · exact .inr z
    rcases this with z|rfl|rfl
    · exact absurd z hm
    · exact l1
    · exact l2
  have hat:∀ x∈a.parts++b.parts,x∉nm W→atD (.str x)=true := fun x hx hm => decide_eq_true (repr_len (part x hx hm).1 (part x hx hm).2)
  have q:∀ x∈wrongL W a b,qAL x=true := fun x hx => by
    obtain ⟨y1,y2⟩ := qAz.mp hx
    exact strOk_low (part x y1 (by simpa using y2)).1
  have e6 := st_wrong (W := W) (z1 := z1) (z2 := z2) (A1 := A1) (A2 := A2) (d := d5) (s7 := s7) (A8 := A8) (t11 := .pl (.int r)) (t12 := t12) (t13 := t13) (t14 := t14) (t15 := t15) la lb
  have e7:(fS (sSet 13 (eTup (aCons (eC (.str "refused")) (aCons (eC (.str "")) (aCons (eTup (aCons (eC (.bool true)) (aCons (eC (.bool true)) aNil))) (aCons (eC (.bool false)) aNil))))))) (en W z1 z2 A1 A2 d5 s7 A8 (.pl (armD a)) (.pl (armD b)) (.pl (.int r)) (.ac (strsD (wrongL W a b))) t13 t14 t15)=some (.nx (en W z1 z2 A1 A2 d5 s7 A8 (.pl (armD a)) (.pl (armD b)) (.pl (.int r)) (.ac (strsD (wrongL W a b))) (.pl (.tuple [.str "refused",.str "",.tuple [.bool true,.bool true],.bool false])) t14 t15)) := rfl
  obtain ⟨s7',s14,h7',e8⟩ := st_due (z1 := z1) (z2 := z2) (A1 := A1) (A2 := A2) (d := d5) (A8 := A8) (t11 := .pl (.int r)) (t13 := .pl (.tuple [.str "refused",.str "",.tuple [.bool true,.bool true],.bool false])) (t14 := t14) (t15 := t15) h la lb h7 q
  have fo:G_law_found [webD W,armD a,armD b]=some (dueD W a b,false) := by
    rw [g_law_found h la lb hat,first_wrong]
    unfold dueD
    cases wrongL W a b<;>rfl
  have e9:(fS (sSet 15 (eCall 3 G_law_found (aCons (eVar 6) (aCons (eVar 9) (aCons (eVar 10) aNil)))))) (en W z1 z2 A1 A2 d5 s7' A8 (.pl (armD a)) (.pl (armD b)) (.pl (.int r)) (.ac (strsD (wrongL W a b))) (.pl (dueD W a b)) s14 t15)=some (.nx (en W z1 z2 A1 A2 d5 s7' A8 (.pl (armD a)) (.pl (armD b)) (.pl (.int r)) (.ac (strsD (wrongL W a b))) (.pl (dueD W a b)) s14 (.pl (dueD W a b)))) := by
    have c := call_is (n := 3) (g := G_law_found) (f := aCons (eVar 6) (aCons (eVar 9) (aCons (eVar 10) aNil))) (env := en W z1 z2 A1 A2 d5 s7' A8 (.pl (armD a)) (.pl (armD b)) (.pl (.int r)) (.ac (strsD (wrongL W a b))) (.pl (dueD W a b)) s14 t15) (rs := [⟨webD W,false,[]⟩,⟨armD a,false,[]⟩,⟨armD b,false,[]⟩]) rfl rfl fo
    rw [show bss [(⟨webD W,false,[]⟩:Val),⟨armD a,false,[]⟩,⟨armD b,false,[]⟩]=[] from rfl,bsOf_nil] at c
    exact fs_set c
  have n1 := t_neS (a := eVar 15) (b := eVar 13) (env := en W z1 z2 A1 A2 d5 s7' A8 (.pl (armD a)) (.pl (armD b)) (.pl (.int r)) (.ac (strsD (wrongL W a b))) (.pl (dueD W a b)) s14 (.pl (dueD W a b))) (d := dueD W a b) rfl rfl (shaped_due q)
  have t12' := st_eq' (z1 := z1) (z2 := z2) (A1 := A1) (A2 := A2) (d := d5) (s7 := s7') (A8 := A8) (t9 := .pl (armD a)) (t10 := .pl (armD b)) (t11 := .pl (.int r)) (t13 := .pl (dueD W a b)) (t14 := s14) (t15 := .pl (dueD W a b)) q
  have k1:tOrF (tBool (eOp neD (eVar 15) (eVar 13))) (tNotF (tTru (eIsi2 "bool" "str" (eIxV 15 (eC (.int 1)))))) (en W z1 z2 A1 A2 d5 s7' A8 (.pl (armD a)) (.pl (armD b)) (.pl (.int r)) (.ac (strsD (wrongL W a b))) (.pl (dueD W a b)) s14 (.pl (dueD W a b)))=some false := by
    unfold tOrF
    rw [n1,qC,if_neg qI]
    unfold dueD
    cases wrongL W a b<;>rfl
  have k2:tAndF (tBool (eOp eqD (eVar 12) (eLst aNil))) (tNotF (tTru (eIsi "bool" (eIxV 15 (eC (.int 1)))))) (en W z1 z2 A1 A2 d5 s7' A8 (.pl (armD a)) (.pl (armD b)) (.pl (.int r)) (.ac (strsD (wrongL W a b))) (.pl (dueD W a b)) s14 (.pl (dueD W a b)))=some false := by
    unfold tAndF
    rw [t12',qC]
    unfold dueD
    cases wrongL W a b<;>rfl
  refine ⟨d5,s7',.pl (armD a),.pl (armD b),.pl (.int r),.ac (strsD (wrongL W a b)),.pl (dueD W a b),s14,.pl (dueD W a b),h7',ok5.mono (by omega),?_⟩
  refine (fseq_nx e1).trans ((fseq_nx e2).trans ((fseq_nx e3).trans ((fseq_nx e4).trans ((fseq_nx e5).trans ((fseq_nx e6).trans ((fseq_nx e7).trans ((fseq_nx e8).trans ((fseq_nx e9).trans ?_))))))))
  exact (fseq_nx ((fifp_f k1).trans rfl)).trans ((fifp_f k2).trans rfl)
end
theorem feed_fok (ns:List Int) (z:Int):Fok (.list (feedD ns z)) 0 := by
  refine ⟨_,_,0,rfl,?_,qAh _ (by decide),Int.lt_trans (qAU _ (by decide)) (by decide),Int.le_refl _,Int.le_refl _⟩
  have:∀ c:Int,0≤(if (if c<0 then -c else c)<10 ^ 18 then 0 else (if c<0 then -c else c)) := fun c => by
    by_cases h:c<0
    · rw [if_pos h];split<;>omega
    · rw [if_neg h];split<;>omega
  exact this _
noncomputable def F_law_k23 (ns:List Int):SFf := (fSeq (fMany 1 8 ns)
    (fSeq (fFor (iRange1 (aCons (eOp addD (eVar 1) (eC (.int 1))) aNil)) (gN 2)
    (fSeq (fFeed 3 2 ns)
    (fSeq (fIfP (tBool (eOp eqD (eVar 2) (eVar 1))) (fS (sSet 3 (eLst (aCons (eC (.int 0)) (aCons (eC (.int 0)) (aCons (eC (.int 0)) aNil)))))) fNx)
    (fSeq (fSet 4 (fCallF 3 2 G_law_names_k23 (fCons (fOp addD (fPure 3 (eC (.int 3))) (fCallF 3 2 G_law_take (fCons (fPure 3 (eC (.int 10))) (fNil 3)))) (fNil 3))))
    (fSeq (fS (sPop2 5 4))
    (fSeq (fSet 6 (fCallF 3 2 G_law_web (fCons (fPure 3 (eVar 4)) (fNil 3))))
    (fSeq (fS (sSet 7 (eCall 1 G_law_above (aCons (eVar 6) aNil))))
    (fFor (iRange1 (aCons (eC (.int 4)) aNil)) (gN 8)
    (fSeq (fSet 9 (fCallF 3 2 G_law_arm_k23 (fCons (fPure 3 (eVar 4)) (fNil 3))))
    (fSeq (fSet 10 (fCallF 3 2 G_law_arm_k23 (fCons (fPure 3 (eVar 4)) (fNil 3))))
    (fSeq (fSet 11 (fCallF 3 2 G_law_take (fCons (fPure 3 (eC (.int 10))) (fNil 3))))
    (fSeq (fIfP (tOrF (tBool (eOp eqD (eVar 11) (eC (.int 0)))) (tBool (eOp eqD (eVar 11) (eC (.int 1))))) (fSet 9 (fCallF 3 3 G_law_bent (fCons (fPure 3 (eVar 9)) (fCons (fOp ixD (fPure 3 (eVar 5)) (fCallF 3 2 G_law_take (fCons (fPure 3 (eC (.int 2))) (fNil 3)))) (fNil 3))))) fNx)
    (fSeq (fIfP (tOrF (tBool (eOp eqD (eVar 11) (eC (.int 1)))) (tBool (eOp eqD (eVar 11) (eC (.int 2))))) (fSet 10 (fCallF 3 3 G_law_bent (fCons (fPure 3 (eVar 10)) (fCons (fOp ixD (fPure 3 (eVar 5)) (fCallF 3 2 G_law_take (fCons (fPure 3 (eC (.int 2))) (fNil 3)))) (fNil 3))))) fNx)
    (fSeq (fS (sSet 12 (eComp ["_law_name"] [4] (iItems (eOp addD (eCall 1 G_names_in (aCons (eVar 9) aNil)) (eCall 1 G_names_in (aCons (eVar 10) aNil)))) (gN 0) (tBool (eOp (inD true) (eVar 0) (eVar 1))) (eVar 0))))
    (fSeq (fS (sSet 13 (eTup (aCons (eC (.str "refused")) (aCons (eC (.str "")) (aCons (eTup (aCons (eC (.bool true)) (aCons (eC (.bool true)) aNil))) (aCons (eC (.bool false)) aNil)))))))
    (fSeq (fIfP (tBool (eOp eqD (eVar 12) (eLst aNil))) (fSeq (fS (sSet 14 (eCall 2 G_law_reach (aCons (eVar 7) (aCons (eVar 10) aNil)))))
    (fS (sSet 13 (eTup (aCons (eC (.str "told")) (aCons (eCB (anyD fun bs => bs.all id) (aCons (eComp ["_law_name"] [14] (iItems (eCall 2 G_law_reach (aCons (eVar 7) (aCons (eVar 9) aNil)))) (gN 0) tAllF (eOp (inD false) (eVar 0) (eVar 1))) aNil)) aNil)))))) (fS (sSet 13 (eTup (aCons (eC (.str "refused")) (aCons (eIxV 12 (eC (.int 0))) (aCons (eTup (aCons (eC (.bool true)) (aCons (eC (.bool true)) aNil))) (aCons (eC (.bool false)) aNil))))))))
    (fSeq (fS (sSet 15 (eCall 3 G_law_found (aCons (eVar 6) (aCons (eVar 9) (aCons (eVar 10) aNil))))))
    (fSeq (fIfP (tOrF (tBool (eOp neD (eVar 15) (eVar 13))) (tNotF (tTru (eIsi2 "bool" "str" (eIxV 15 (eC (.int 1))))))) (fRetP (eC (.bool false))) fNx)
    (fIfP (tAndF (tBool (eOp eqD (eVar 12) (eLst aNil))) (tNotF (tTru (eIsi "bool" (eIxV 15 (eC (.int 1))))))) (fRetP (eC (.bool false))) fNx)))))))))))))))))))
    (fRetP (eC (.bool true)))))
theorem last2 {xs:List Str} (h:2≤xs.length):∃ (ys:List Str) (a b:Str),xs=ys++[b,a] := by
  obtain ⟨ys,a,rfl⟩:∃ ys a,xs=ys++[a] := ⟨xs.dropLast,xs.getLast (by intro z;rw [z] at h;simp at h),(qAx _).symm⟩
  obtain ⟨zs,b,rfl⟩:∃ zs b,ys=zs++[b] := ⟨ys.dropLast,ys.getLast (by intro z;rw [z] at h;simp at h),(qAx _).symm⟩
  exact ⟨zs,a,b,by simp⟩
theorem law_body23 (ns:List Int) {M k:Nat} (hk:k≤20) {s3 s4 s5 s6 s7 s8 s9 s10 s11 s12 s13 s14 s15:Sl}:∃ t3 t4 t5 t6 t7 t8 t9 t10 t11 t12 t13 t14 t15:Sl,(fSeq (fFeed 3 2 ns)
    (fSeq (fIfP (tBool (eOp eqD (eVar 2) (eVar 1))) (fS (sSet 3 (eLst (aCons (eC (.int 0)) (aCons (eC (.int 0)) (aCons (eC (.int 0)) aNil)))))) fNx)
    (fSeq (fSet 4 (fCallF 3 2 G_law_names_k23 (fCons (fOp addD (fPure 3 (eC (.int 3))) (fCallF 3 2 G_law_take (fCons (fPure 3 (eC (.int 10))) (fNil 3)))) (fNil 3))))
    (fSeq (fS (sPop2 5 4))
    (fSeq (fSet 6 (fCallF 3 2 G_law_web (fCons (fPure 3 (eVar 4)) (fNil 3))))
    (fSeq (fS (sSet 7 (eCall 1 G_law_above (aCons (eVar 6) aNil))))
    (fFor (iRange1 (aCons (eC (.int 4)) aNil)) (gN 8)
    (fSeq (fSet 9 (fCallF 3 2 G_law_arm_k23 (fCons (fPure 3 (eVar 4)) (fNil 3))))
    (fSeq (fSet 10 (fCallF 3 2 G_law_arm_k23 (fCons (fPure 3 (eVar 4)) (fNil 3))))
    (fSeq (fSet 11 (fCallF 3 2 G_law_take (fCons (fPure 3 (eC (.int 10))) (fNil 3))))
    (fSeq (fIfP (tOrF (tBool (eOp eqD (eVar 11) (eC (.int 0)))) (tBool (eOp eqD (eVar 11) (eC (.int 1))))) (fSet 9 (fCallF 3 3 G_law_bent (fCons (fPure 3 (eVar 9)) (fCons (fOp ixD (fPure 3 (eVar 5)) (fCallF 3 2 G_law_take (fCons (fPure 3 (eC (.int 2))) (fNil 3)))) (fNil 3))))) fNx)
    (fSeq (fIfP (tOrF (tBool (eOp eqD (eVar 11) (eC (.int 1)))) (tBool (eOp eqD (eVar 11) (eC (.int 2))))) (fSet 10 (fCallF 3 3 G_law_bent (fCons (fPure 3 (eVar 10)) (fCons (fOp ixD (fPure 3 (eVar 5)) (fCallF 3 2 G_law_take (fCons (fPure 3 (eC (.int 2))) (fNil 3)))) (fNil 3))))) fNx)
    (fSeq (fS (sSet 12 (eComp ["_law_name"] [4] (iItems (eOp addD (eCall 1 G_names_in (aCons (eVar 9) aNil)) (eCall 1 G_names_in (aCons (eVar 10) aNil)))) (gN 0) (tBool (eOp (inD true) (eVar 0) (eVar 1))) (eVar 0))))
    (fSeq (fS (sSet 13 (eTup (aCons (eC (.str "refused")) (aCons (eC (.str "")) (aCons (eTup (aCons (eC (.bool true)) (aCons (eC (.bool true)) aNil))) (aCons (eC (.bool false)) aNil)))))))
    (fSeq (fIfP (tBool (eOp eqD (eVar 12) (eLst aNil))) (fSeq (fS (sSet 14 (eCall 2 G_law_reach (aCons (eVar 7) (aCons (eVar 10) aNil)))))
    (fS (sSet 13 (eTup (aCons (eC (.str "told")) (aCons (eCB (anyD fun bs => bs.all id) (aCons (eComp ["_law_name"] [14] (iItems (eCall 2 G_law_reach (aCons (eVar 7) (aCons (eVar 9) aNil)))) (gN 0) tAllF (eOp (inD false) (eVar 0) (eVar 1))) aNil)) aNil)))))) (fS (sSet 13 (eTup (aCons (eC (.str "refused")) (aCons (eIxV 12 (eC (.int 0))) (aCons (eTup (aCons (eC (.bool true)) (aCons (eC (.bool true)) aNil))) (aCons (eC (.bool false)) aNil))))))))
    (fSeq (fS (sSet 15 (eCall 3 G_law_found (aCons (eVar 6) (aCons (eVar 9) (aCons (eVar 10) aNil))))))
    (fSeq (fIfP (tOrF (tBool (eOp neD (eVar 15) (eVar 13))) (tNotF (tTru (eIsi2 "bool" "str" (eIxV 15 (eC (.int 1))))))) (fRetP (eC (.bool false))) fNx)
    (fIfP (tAndF (tBool (eOp eqD (eVar 12) (eLst aNil))) (tNotF (tTru (eIsi "bool" (eIxV 15 (eC (.int 1))))))) (fRetP (eC (.bool false))) fNx)))))))))))))))))) [.no,.pl (.int (M:Int)),.pl (.int (k:Int)),s3,s4,s5,s6,s7,s8,s9,s10,s11,s12,s13,s14,s15]=some (.nx [.no,.pl (.int (M:Int)),.pl (.int (k:Int)),t3,t4,t5,t6,t7,t8,t9,t10,t11,t12,t13,t14,t15]) := by
  have h1:(fFeed 3 2 ns) [.no,.pl (.int (M:Int)),.pl (.int (k:Int)),s3,s4,s5,s6,s7,s8,s9,s10,s11,s12,s13,s14,s15]=some (.nx [.no,.pl (.int (M:Int)),.pl (.int (k:Int)),.ac (.list (feedD ns k)),s4,s5,s6,s7,s8,s9,s10,s11,s12,s13,s14,s15]) := by
    show (if 0≤(k:Int)∧(k:Int)≤1000 then some (OutF.nx [.no,.pl (.int (M:Int)),.pl (.int (k:Int)),.ac (.list (feedD ns k)),s4,s5,s6,s7,s8,s9,s10,s11,s12,s13,s14,s15]) else none)=_
    rw [if_pos ⟨by omega,by omega⟩]
  have h2:∃ d0,Fok d0 0∧(fIfP (tBool (eOp eqD (eVar 2) (eVar 1))) (fS (sSet 3 (eLst (aCons (eC (.int 0)) (aCons (eC (.int 0)) (aCons (eC (.int 0)) aNil)))))) fNx) [.no,.pl (.int (M:Int)),.pl (.int (k:Int)),.ac (.list (feedD ns k)),s4,s5,s6,s7,s8,s9,s10,s11,s12,s13,s14,s15]=some (.nx [.no,.pl (.int (M:Int)),.pl (.int (k:Int)),.ac d0,s4,s5,s6,s7,s8,s9,s10,s11,s12,s13,s14,s15]) := by
    have t:tBool (eOp eqD (eVar 2) (eVar 1)) [.no,.pl (.int (M:Int)),.pl (.int (k:Int)),.ac (.list (feedD ns k)),s4,s5,s6,s7,s8,s9,s10,s11,s12,s13,s14,s15]=some ((k:Int)==M) := t_bool (e_eqi rfl rfl)
    by_cases e:(k:Int)=M
    · exact ⟨.list [.int 0,.int 0,.int 0],⟨0,0,0,rfl,by decide,by decide,by decide,by decide,by decide⟩,(fifp_t (by rw [t,e,beq_self_eq_true])).trans rfl⟩
    · exact ⟨_,feed_fok ns k,(fifp_f (by rw [t,beq_eq_false_iff_ne.mpr e])).trans rfl⟩
  obtain ⟨d0,ok0,h2⟩ := h2
  obtain ⟨r2,d2,u1,u2,u3,ok2⟩ := take_at (f := 3) (e := eC (.int 10)) (env := [.no,.pl (.int (M:Int)),.pl (.int (k:Int)),.ac d0,s4,s5,s6,s7,s8,s9,s10,s11,s12,s13,s14,s15]) rfl rfl ok0 (by omega) (by decide) (by decide)
  obtain ⟨m,em⟩:∃ m:Nat,3+r2=(m:Int) := ⟨(3+r2).toNat,by omega⟩
  have a4 := fop_is (w := addD) (z := .int (3+r2)) (fr := false) (fpure_0 (f := 3) (e := eC (.int 3)) (env := [.no,.pl (.int (M:Int)),.pl (.int (k:Int)),.ac d0,s4,s5,s6,s7,s8,s9,s10,s11,s12,s13,s14,s15]) (d0 := d0) (d := .int 3) (fr := false) rfl rfl) u1 rfl
  rw [em] at a4
  obtain ⟨xs,d3,n1,n2,n3,n4,ok3⟩ := g_law_names23 (m := m) ok2 (by omega) (by omega)
  obtain ⟨ys,z1,z2,rfl⟩ := last2 (xs := xs) (by omega)
  have h4:(fSet 4 (fCallF 3 2 G_law_names_k23 (fCons (fOp addD (fPure 3 (eC (.int 3))) (fCallF 3 2 G_law_take (fCons (fPure 3 (eC (.int 10))) (fNil 3)))) (fNil 3)))) [.no,.pl (.int (M:Int)),.pl (.int (k:Int)),.ac d0,s4,s5,s6,s7,s8,s9,s10,s11,s12,s13,s14,s15]=some (.nx [.no,.pl (.int (M:Int)),.pl (.int (k:Int)),.ac d3,.ac (strsD (ys++[z2,z1])),s5,s6,s7,s8,s9,s10,s11,s12,s13,s14,s15]) :=
    fset_ac (fcallF_is (f := 3) (n := 2) (g := G_law_names_k23) (d0 := d0) (d1 := d2) rfl (fcons1 (f := 3) (d := d2) a4 rfl) rfl rfl n1 ok3.flat)
  have ly:ys.length+2=m := by rw [qK] at n2;simpa using n2
  have ndy:ys.Nodup := (qBa.mp n3).1
  have loy:∀ x∈ys,Low x := fun x hx => (n4 x (qi _ hx)).1
  have l1 := n4 z1 (by simp)
  have l2 := n4 z2 (by simp)
  have h5:(fS (sPop2 5 4)) [.no,.pl (.int (M:Int)),.pl (.int (k:Int)),.ac d3,.ac (strsD (ys++[z2,z1])),s5,s6,s7,s8,s9,s10,s11,s12,s13,s14,s15]=some (.nx [.no,.pl (.int (M:Int)),.pl (.int (k:Int)),.ac d3,.ac (strsD ys),.ac (strsD [z1,z2]),s6,s7,s8,s9,s10,s11,s12,s13,s14,s15]) := by
    refine fs_nx ?_
    have g1:((ys++[z2,z1]).map PyData.str).getLast?=some (.str z1) := by simp
    have g2:((ys++[z2,z1]).map PyData.str).dropLast=(ys++[z2]).map PyData.str := by
      rw [← List.map_dropLast,show ys++[z2,z1]=(ys++[z2])++[z1] by simp,qCK]
    have g3:((ys++[z2]).map PyData.str).getLast?=some (.str z2) := by simp
    have g4:((ys++[z2]).map PyData.str).dropLast=ys.map PyData.str := by rw [← List.map_dropLast,qCK]
    show ((((ys++[z2,z1]).map PyData.str).getLast?).bind fun a => (((ys++[z2,z1]).map PyData.str).dropLast.getLast?).bind fun b => if flatD a=true∧flatD b=true then some (Out.nx [.no,.pl (.int (M:Int)),.pl (.int (k:Int)),.ac d3,.ac (.list ((ys++[z2,z1]).map PyData.str).dropLast.dropLast),.ac (.list [a,b]),s6,s7,s8,s9,s10,s11,s12,s13,s14,s15]) else none)=_
    rw [g1,g2,g3,g4]
    rfl
  obtain ⟨W,d4,w1,w2,w3,ok4⟩ := g_law_webF (xs := ys) ok3 (by omega) (by omega) ndy loy
  subst w2
  have h6:(fSet 6 (fCallF 3 2 G_law_web (fCons (fPure 3 (eVar 4)) (fNil 3)))) [.no,.pl (.int (M:Int)),.pl (.int (k:Int)),.ac d3,.ac (strsD (nm W)),.ac (strsD [z1,z2]),s6,s7,s8,s9,s10,s11,s12,s13,s14,s15]=some (.nx [.no,.pl (.int (M:Int)),.pl (.int (k:Int)),.ac d4,.pl (strsD (nm W)),.ac (strsD [z1,z2]),.ac (webD W),s7,s8,s9,s10,s11,s12,s13,s14,s15]) := by
    have a5 := fcallF_is (f := 3) (n := 2) (g := G_law_web) (d0 := d3) (d1 := d3) rfl (fcons1 (f := 3) (d := d3) (fpure_is (f := 3) (e := eVar 4) (env := [.no,.pl (.int (M:Int)),.pl (.int (k:Int)),.ac d3,.ac (strsD (nm W)),.ac (strsD [z1,z2]),s6,s7,s8,s9,s10,s11,s12,s13,s14,s15]) (d0 := d3) (r := ⟨strsD (nm W),false,[4]⟩) rfl rfl (show (3:Nat)∉[4] by decide)) rfl) rfl rfl w1 ok4.flat
    unfold fSet
    rw [a5];rfl
  have h7:(fS (sSet 7 (eCall 1 G_law_above (aCons (eVar 6) aNil)))) [.no,.pl (.int (M:Int)),.pl (.int (k:Int)),.ac d4,.pl (strsD (nm W)),.ac (strsD [z1,z2]),.ac (webD W),s7,s8,s9,s10,s11,s12,s13,s14,s15]=some (.nx (en W z1 z2 (.pl (.int (M:Int))) (.pl (.int (k:Int))) d4 (.ac (.dict (dS strsD (tabW W W)))) s8 s9 s10 s11 s12 s13 s14 s15)) :=
    fs_nx ((set_is (call_is (n := 1) (rs := [⟨webD W,false,[6]⟩]) rfl rfl (g_law_above w3))).trans rfl)
  have hne:0<(nm W).length := by omega
  have loop := forLF_range (g := gN 8) (n := 4) (body := (fSeq (fSet 9 (fCallF 3 2 G_law_arm_k23 (fCons (fPure 3 (eVar 4)) (fNil 3))))
    (fSeq (fSet 10 (fCallF 3 2 G_law_arm_k23 (fCons (fPure 3 (eVar 4)) (fNil 3))))
    (fSeq (fSet 11 (fCallF 3 2 G_law_take (fCons (fPure 3 (eC (.int 10))) (fNil 3))))
    (fSeq (fIfP (tOrF (tBool (eOp eqD (eVar 11) (eC (.int 0)))) (tBool (eOp eqD (eVar 11) (eC (.int 1))))) (fSet 9 (fCallF 3 3 G_law_bent (fCons (fPure 3 (eVar 9)) (fCons (fOp ixD (fPure 3 (eVar 5)) (fCallF 3 2 G_law_take (fCons (fPure 3 (eC (.int 2))) (fNil 3)))) (fNil 3))))) fNx)
    (fSeq (fIfP (tOrF (tBool (eOp eqD (eVar 11) (eC (.int 1)))) (tBool (eOp eqD (eVar 11) (eC (.int 2))))) (fSet 10 (fCallF 3 3 G_law_bent (fCons (fPure 3 (eVar 10)) (fCons (fOp ixD (fPure 3 (eVar 5)) (fCallF 3 2 G_law_take (fCons (fPure 3 (eC (.int 2))) (fNil 3)))) (fNil 3))))) fNx)
    (fSeq (fS (sSet 12 (eComp ["_law_name"] [4] (iItems (eOp addD (eCall 1 G_names_in (aCons (eVar 9) aNil)) (eCall 1 G_names_in (aCons (eVar 10) aNil)))) (gN 0) (tBool (eOp (inD true) (eVar 0) (eVar 1))) (eVar 0))))
    (fSeq (fS (sSet 13 (eTup (aCons (eC (.str "refused")) (aCons (eC (.str "")) (aCons (eTup (aCons (eC (.bool true)) (aCons (eC (.bool true)) aNil))) (aCons (eC (.bool false)) aNil)))))))
    (fSeq (fIfP (tBool (eOp eqD (eVar 12) (eLst aNil))) (fSeq (fS (sSet 14 (eCall 2 G_law_reach (aCons (eVar 7) (aCons (eVar 10) aNil)))))
    (fS (sSet 13 (eTup (aCons (eC (.str "told")) (aCons (eCB (anyD fun bs => bs.all id) (aCons (eComp ["_law_name"] [14] (iItems (eCall 2 G_law_reach (aCons (eVar 7) (aCons (eVar 9) aNil)))) (gN 0) tAllF (eOp (inD false) (eVar 0) (eVar 1))) aNil)) aNil)))))) (fS (sSet 13 (eTup (aCons (eC (.str "refused")) (aCons (eIxV 12 (eC (.int 0))) (aCons (eTup (aCons (eC (.bool true)) (aCons (eC (.bool true)) aNil))) (aCons (eC (.bool false)) aNil))))))))
    (fSeq (fS (sSet 15 (eCall 3 G_law_found (aCons (eVar 6) (aCons (eVar 9) (aCons (eVar 10) aNil))))))
    (fSeq (fIfP (tOrF (tBool (eOp neD (eVar 15) (eVar 13))) (tNotF (tTru (eIsi2 "bool" "str" (eIxV 15 (eC (.int 1))))))) (fRetP (eC (.bool false))) fNx)
    (fIfP (tAndF (tBool (eOp eqD (eVar 12) (eLst aNil))) (tNotF (tTru (eIsi "bool" (eIxV 15 (eC (.int 1))))))) (fRetP (eC (.bool false))) fNx)))))))))))) (env := en W z1 z2 (.pl (.int (M:Int))) (.pl (.int (k:Int))) d4 (.ac (.dict (dS strsD (tabW W W)))) s8 s9 s10 s11 s12 s13 s14 s15)
    (fun j env => ∃ (d':PyData) (s7 t8 t9 t10 t11 t12 t13 t14 t15:Sl),env=en W z1 z2 (.pl (.int (M:Int))) (.pl (.int (k:Int))) d' s7 t8 t9 t10 t11 t12 t13 t14 t15∧Hd (.dict (dS strsD (tabW W W))) s7∧Fok d' (10000+200 * j)) ⟨d4,_,_,_,_,_,_,_,_,_,rfl,.inr rfl,ok4.mono (by omega)⟩ (by
      rintro j env hj ⟨d',s7,t8,t9,t10,t11,t12,t13,t14,t15,rfl,hd,ok'⟩
      obtain ⟨d6,s7',u9,u10,u11,u12,u13,u14,u15,q1,q2,q3⟩ := law_turn23 w3 loy hne l1 l2 ok' (by omega) (A1 := .pl (.int (M:Int))) (A2 := .pl (.int (k:Int))) (A8 := .pl (.int (j:Int))) (t9 := t9) (t10 := t10) (t11 := t11) (t12 := t12) (t13 := t13) (t14 := t14) (t15 := t15) hd
      exact ⟨_,_,rfl,q3,d6,s7',_,_,_,_,_,_,_,_,rfl,q1,q2.mono (by omega)⟩)
  obtain ⟨env',hl,d',s7',v8,v9,v10,v11,v12,v13,v14,v15,rfl,_,_⟩ := loop
  exact ⟨_,_,_,_,_,_,_,_,_,_,_,_,_,(fseq_nx h1).trans ((fseq_nx h2).trans ((fseq_nx h4).trans ((fseq_nx h5).trans ((fseq_nx h6).trans ((fseq_nx h7).trans ((ffor_is (i_range1 (n := 4) rfl (by decide))).trans hl))))))⟩
theorem pure_k23 (ns:List Int):∃ env',F_law_k23 ns (List.replicate 16 .no)=some (.rt (.bool true) false env') := by
  obtain ⟨M,eM,hM⟩:∃ M:Nat,(if (ns.length:Int)<8 then (ns.length:Int) else 8)=(M:Int)∧M≤8 := by
    by_cases h:(ns.length:Int)<8
    · exact ⟨ns.length,if_pos h,by omega⟩
    · exact ⟨8,if_neg h,by omega⟩
  have h1:fMany 1 8 ns (List.replicate 16 .no)=some (.nx [.no,.pl (.int (M:Int)),.no,.no,.no,.no,.no,.no,.no,.no,.no,.no,.no,.no,.no,.no]) := by
    unfold fMany
    rw [eM];rfl
  have it:iRange1 (aCons (eOp addD (eVar 1) (eC (.int 1))) aNil) [.no,.pl (.int (M:Int)),.no,.no,.no,.no,.no,.no,.no,.no,.no,.no,.no,.no,.no,.no]=some (rangeD 0 (M+1),[]) := i_range1 ((e_add (i := (M:Int)) (j := 1) rfl rfl).trans (by rw [Int.natCast_add];rfl)) (by omega)
  have loop := forLF_range (g := gN 2) (n := M+1) (body := _) (env := [.no,.pl (.int (M:Int)),.no,.no,.no,.no,.no,.no,.no,.no,.no,.no,.no,.no,.no,.no])
    (fun k env => ∃ s2 s3 s4 s5 s6 s7 s8 s9 s10 s11 s12 s13 s14 s15:Sl,env=[.no,.pl (.int (M:Int)),s2,s3,s4,s5,s6,s7,s8,s9,s10,s11,s12,s13,s14,s15]) ⟨_,_,_,_,_,_,_,_,_,_,_,_,_,_,rfl⟩ (by
      rintro k env hk ⟨s2,s3,s4,s5,s6,s7,s8,s9,s10,s11,s12,s13,s14,s15,rfl⟩
      obtain ⟨t3,t4,t5,t6,t7,t8,t9,t10,t11,t12,t13,t14,t15,e⟩ := law_body23 ns (M := M) (k := k) (by omega) (s3 := s3) (s4 := s4) (s5 := s5) (s6 := s6) (s7 := s7) (s8 := s8) (s9 := s9) (s10 := s10) (s11 := s11) (s12 := s12) (s13 := s13) (s14 := s14) (s15 := s15)
      exact ⟨_,_,rfl,e,_,_,_,_,_,_,_,_,_,_,_,_,_,_,rfl⟩)
  obtain ⟨env',hl,s2,s3,s4,s5,s6,s7,s8,s9,s10,s11,s12,s13,s14,s15,rfl⟩ := loop
  refine ⟨[.no,.pl (.int (M:Int)),s2,s3,s4,s5,s6,s7,s8,s9,s10,s11,s12,s13,s14,s15],?_⟩
  unfold F_law_k23
  exact (fseq_nx h1).trans ((fseq_nx ((ffor_is it).trans hl)).trans rfl)
end Bc
namespace L2
open PySem PySem.Spec PyProof.Rows
noncomputable def xcB (C:Addr) (cd:ClassData) (sl:Array (Option Value)):Bool := match cd.mro,sl.toList with
  | .ref C'::bm,[_,_,_,_,some (.builtin n),_] => C'==C&&!cd.hasDel&&cd.hasDict&&n == "ValueError.__new__" && bm.contains (.type "ValueError")&&bm.contains (.type "BaseException")&&!bm.contains (.type "AttributeError")&&!bm.contains (.type "NameError")&&refsThen bm
  | _,_ => false
theorem xc_of {K:qB} {C:Addr} {dd:Option Addr} {cd:ClassData} {sl:Array (Option Value)} (l:K.lookup C=some ⟨.type "type",dd,.cls cd,sl⟩) (h:xcB C cd sl=true):xcIn K C=true∧xcR K C=true := by
  unfold xcB at h
  unfold xcIn xcR
  rw [l]
  split at h
  · rename_i C' bm a0 a1 a2 a3 n a5 hm hs
    obtain ⟨nm,bs,mro,ns,qn,hd,sn,sub,ab,col,del⟩ := cd
    obtain ⟨sl⟩ := sl
    dsimp only at hm hs
    subst hm
    have hs:sl=[a0,a1,a2,a3,some (.builtin n),a5] := hs
    subst hs
    rw [qq] at h
    exact h
  · cases h
section
variable {K:qB} {C c:Addr}
theorem kitc_of {b:Bool} (h1:PySem.W.isClsIn K c=true) (h2:PySem.W.typeIn K (.ref c)=some (.type "type")) (h3:PySem.W.subIn K (.ref C) (.ref c)=some b):PySem.W.kitCls K (.ref C) (.ref c)=some b := by
  unfold PySem.W.kitCls
  dsimp only
  have h1:(PySem.W.clsIn K c).isSome=true := h1
  rw [if_pos (by rw [h1,h2];rfl)]
  exact h3
theorem kit1_t (h1:PySem.W.isClsIn K c=true) (h2:PySem.W.typeIn K (.ref c)=some (.type "type")) (h3:PySem.W.subIn K (.ref C) (.ref c)=some true):PySem.W.kitOne K (.ref C) (.ref c)=some true := by
  unfold PySem.W.kitOne
  split
  · rfl
  · exact kitc_of h1 h2 h3
theorem kit1_f (h0:PySem.W.subIn K (.ref C) (.ref C)=some true) (h1:PySem.W.isClsIn K c=true) (h2:PySem.W.typeIn K (.ref c)=some (.type "type")) (h3:PySem.W.subIn K (.ref C) (.ref c)=some false):PySem.W.kitOne K (.ref C) (.ref c)=some false := by
  unfold PySem.W.kitOne
  split
  · rename_i e
    have e:C=c := Value.ref.inj (beq_iff_eq.mp e)
    rw [← e,h0] at h3
    cases h3
  · exact kitc_of h1 h2 h3
theorem kit1_v (h3:PySem.W.subIn K (.ref C) (.type "ValueError")=some true):PySem.W.kitOne K (.ref C) (.type "ValueError")=some true := by
  unfold PySem.W.kitOne
  rw [if_neg (by intro e;cases beq_iff_eq.mp e)]
  unfold PySem.W.kitCls
  dsimp only
  rw [if_pos (show PySem.W.kitMeta "ValueError" = true by decide +kernel)]
  exact h3
theorem kit3_f {c1 c2 c3:Addr} (h1:PySem.W.kitOne K (.ref C) (.ref c1)=some false) (h2:PySem.W.kitOne K (.ref C) (.ref c2)=some false) (h3:PySem.W.kitOne K (.ref C) (.ref c3)=some false):PySem.W.kitAny K (.ref C) [.ref c1,.ref c2,.ref c3]=some false := by
  unfold PySem.W.kitAny
  rw [h1]
  dsimp only
  unfold PySem.W.kitAny
  rw [h2]
  dsimp only
  unfold PySem.W.kitAny
  rw [h3]
  rfl
theorem exm_of (hb:PySem.W.subIn K (.ref C) (.type "BaseException")=some true) (h1:PySem.W.isClsIn K C=true) (h2:PySem.W.typeIn K (.ref C)=some (.type "type")) (h3:PySem.W.subIn K (.ref C) (.ref C)=some true):PySem.W.exmOne K (.ref C) (.ref C)=some true := by
  unfold PySem.W.exmOne
  rw [hb,if_pos (by rfl)]
  exact kitc_of h1 h2 h3
end
end L2
namespace Bc
open PySem L2
section
variable {P:Program} {w:World} {K:qB} {mg:Str→Option Value} {base:Heap}
noncomputable def spLaw (K:qB):Sp := fun vs H Q _ => ∃ (a:Addr) (ns:List Int),vs=[.ref a]∧SqL K H a (ns.map V.int)∧∀ H',Q (.bl true) H'
theorem ok_law {f:Addr} {fd:qt} (F:Fun K "law" "law" s_law f fd) (T:Txt mg) (D_law_above:Y_law_above P w K mg base) (D_law_arm:Y_law_arm P w K mg base) (D_law_bent:Y_law_bent P w K mg base) (D_law_feed:Y_law_feed P w K mg base) (D_law_found:Y_law_found P w K mg base) (D_law_names:Y_law_names P w K mg base) (D_law_pieces:Y_law_pieces P w K mg base) (D_law_reach:Y_law_reach P w K mg base) (D_law_take:Y_law_take P w K mg base) (D_law_web:Y_law_web P w K mg base):FnOk P w K mg base CX0 6 f fd ["_law_script"] (spLaw K) := by
  refine F.ok sc_law (fun vs H Q E h => ?_) (fun cdv A outer s H vs Q E hr h => ?_)
  · obtain ⟨a,ns,rfl,_⟩ := h
    rfl
  · obtain ⟨a,ns,rfl,hS,k⟩ := h
    have hu := hu_of hr
    apply Exists.intro
    apply And.intro
    · refine' Bx.out (bpss_cons (bps_set (i := 1) nd_law rfl (Or.inl rfl) (bpe_callB (call_min2 rfl) (by rfl) T.min boot_min (bpa_consF bpe_int (bpa_consF (bpe_callB (call_lenK (K := K) rfl) (by rfl) T.len boot_len (bpa_consF (bv 0) bpa_nil (by rfl)) (by decide) (by decide) (star_each (by rfl)) (by rfl)) bpa_nil (by rfl)) (by rfl)) (by decide) (by decide) (star_each (by rfl)) (by rfl)) (by rfl) (.inl rfl))
  (bpss_cons (bps_for qz rfl (bpi_range1 rfl T.range (bpa_consF (bpe_op (op_addUK (K := K) rfl) (bv 1) bpe_int) bpa_nil (by rfl)) (by rfl)) (bpg_name (i := 2) nd_law rfl (Or.inl rfl) (.inl rfl))
   (bpss_cons (bps_set (i := 3) nd_law rfl (Or.inl rfl) (bpe_dn D_law_feed (hr.mono (by decide)) (by rfl) (bpa_consF (bv 0) (bpa_consF (bv 2) bpa_nil (by rfl)) (by rfl)) (by decide) (star_each (by rfl)) (by rfl)) (by rfl) (.inl rfl))
  (bpss_cons (bps_if (bpt_cmpR (op_eqA (K := K) rfl hr.units) (bv 2) (bv 1) (nomark _)) (bpss_one (bps_set (i := 3) nd_law rfl (Or.inl rfl) (bpe_lst (bpa_consF bpe_int (bpa_consF bpe_int (bpa_consF bpe_int bpa_nil (by rfl)) (by rfl)) (by rfl))) (by rfl) (.inl rfl))) bpss_nil)
  (bpss_cons (bps_set (i := 4) nd_law rfl (Or.inr rfl) (bpe_dn D_law_names (hr.mono (by decide)) (by rfl) (bpa_consF (bv 3) (bpa_consF (bpe_op (op_addUK (K := K) rfl) bpe_int (bpe_dn D_law_take (hr.mono (by decide)) (by rfl) (bpa_consF (bv 3) (bpa_consF bpe_int bpa_nil (by rfl)) (by rfl)) (by decide) (star_each (by rfl)) (by rfl))) bpa_nil (by rfl)) (by rfl)) (by decide) (star_each (by rfl)) (by rfl)) (by rfl) (.inl rfl))
  (bpss_cons (bps_set (i := 5) nd_law rfl (Or.inl rfl) (bpe_lst (bpa_consF (bpe_bm0K (K := K) rfl qAR qB3 qB2 mt_pop (bv 4) (by rfl) (by rfl)) (bpa_consF (bpe_bm0K (K := K) rfl qAR qB3 qB2 mt_pop (bv 4) (by rfl) (by rfl)) bpa_nil (by rfl)) (by rfl))) (by rfl) (.inl rfl))
  (bpss_cons (bps_set (i := 6) nd_law rfl (Or.inl rfl) (bpe_dn D_law_web (hr.mono (by decide)) (by rfl) (bpa_consF (bv 3) (bpa_consF (bv 4) bpa_nil (by rfl)) (by rfl)) (by decide) (star_each (by rfl)) (by rfl)) (by rfl) (.inl rfl))
  (bpss_cons (bps_set (i := 7) nd_law rfl (Or.inl rfl) (bpe_dn D_law_above (hr.mono (by decide)) (by rfl) (bpa_consF (bv 6) bpa_nil (by rfl)) (by decide) (star_each (by rfl)) (by rfl)) (by rfl) (.inl rfl))
  (bpss_one (bps_for qz rfl (bpi_range1 rfl T.range (bpa_consF bpe_int bpa_nil (by rfl)) (by rfl)) (bpg_name (i := 8) nd_law rfl (Or.inl rfl) (.inl rfl))
   (bpss_cons (bps_set (i := 9) nd_law rfl (Or.inl rfl) (bpe_dn D_law_arm (hr.mono (by decide)) (by rfl) (bpa_consF (bv 3) (bpa_consF (bv 4) bpa_nil (by rfl)) (by rfl)) (by decide) (star_each (by rfl)) (by rfl)) (by rfl) (.inl rfl))
  (bpss_cons (bps_set (i := 10) nd_law rfl (Or.inl rfl) (bpe_dn D_law_arm (hr.mono (by decide)) (by rfl) (bpa_consF (bv 3) (bpa_consF (bv 4) bpa_nil (by rfl)) (by rfl)) (by decide) (star_each (by rfl)) (by rfl)) (by rfl) (.inl rfl))
  (bpss_cons (bps_set (i := 11) nd_law rfl (Or.inl rfl) (bpe_dn D_law_take (hr.mono (by decide)) (by rfl) (bpa_consF (bv 3) (bpa_consF bpe_int bpa_nil (by rfl)) (by rfl)) (by decide) (star_each (by rfl)) (by rfl)) (by rfl) (.inl rfl))
  (bpss_cons (bps_if (bpw_or (bpt_cmpR (op_eqA (K := K) rfl hr.units) (bv 11) bpe_int (nomark _)) (bpw_or1 (bpt_cmpR (op_eqA (K := K) rfl hr.units) (bv 11) bpe_int (nomark _)))).pt (bpss_one (bps_set (i := 9) nd_law rfl (Or.inl rfl) (bpe_dn D_law_bent (hr.mono (by decide)) (by rfl) (bpa_consF (bv 3) (bpa_consF (bv 9) (bpa_consF (bpe_ix (ix_UK (K := K) rfl) (bv 5) (bpe_dn D_law_take (hr.mono (by decide)) (by rfl) (bpa_consF (bv 3) (bpa_consF bpe_int bpa_nil (by rfl)) (by rfl)) (by decide) (star_each (by rfl)) (by rfl)) (fun _ _ => rfl)) bpa_nil (by rfl)) (by rfl)) (by rfl)) (by decide) (star_each (by rfl)) (by rfl)) (by rfl) (.inl rfl))) bpss_nil)
  (bpss_cons (bps_if (bpw_or (bpt_cmpR (op_eqA (K := K) rfl hr.units) (bv 11) bpe_int (nomark _)) (bpw_or1 (bpt_cmpR (op_eqA (K := K) rfl hr.units) (bv 11) bpe_int (nomark _)))).pt (bpss_one (bps_set (i := 10) nd_law rfl (Or.inl rfl) (bpe_dn D_law_bent (hr.mono (by decide)) (by rfl) (bpa_consF (bv 3) (bpa_consF (bv 10) (bpa_consF (bpe_ix (ix_UK (K := K) rfl) (bv 5) (bpe_dn D_law_take (hr.mono (by decide)) (by rfl) (bpa_consF (bv 3) (bpa_consF bpe_int bpa_nil (by rfl)) (by rfl)) (by decide) (star_each (by rfl)) (by rfl)) (fun _ _ => rfl)) bpa_nil (by rfl)) (by rfl)) (by rfl)) (by decide) (star_each (by rfl)) (by rfl)) (by rfl) (.inl rfl))) bpss_nil)
  (bpss_cons (bps_comp1 (i := 12) (compOk_of (N' := ["_law_name", "_law_names_here"]) (own := ["_law_name"]) (fr := [4]) (by kernel_rfl)) rfl (bpi_seqK (K := K) rfl (bpe_op (op_addUK (K := K) rfl) (bpe_dn D_law_pieces (hr.mono (by decide)) (by rfl) (bpa_consF (bv 9) bpa_nil (by rfl)) (by decide) (star_each (by rfl)) (by rfl)) (bpe_dn D_law_pieces (hr.mono (by decide)) (by rfl) (bpa_consF (bv 10) bpa_nil (by rfl)) (by decide) (star_each (by rfl)) (by rfl)))) ?hb1 (by rfl) nd_law rfl rfl (by intro _;rfl))
  (bpss_cons (bps_set (i := 13) nd_law rfl (Or.inl rfl) (bpe_tup (bpa_consF bpe_str (bpa_consF bpe_str (bpa_consF (bpe_tup (bpa_consF bpe_bl (bpa_consF bpe_bl bpa_nil (by rfl)) (by rfl))) (bpa_consF bpe_bl bpa_nil (by rfl)) (by rfl)) (by rfl)) (by rfl))) (by rfl) (.inl rfl))
  (bpss_cons (bps_if (bpt_cmpR (op_eqA (K := K) rfl hr.units) (bv 12) (bpe_lst bpa_nil) (nomark _)) (bpss_cons (bps_set (i := 14) nd_law rfl (Or.inr rfl) (bpe_dn D_law_reach (hr.mono (by decide)) (by rfl) (bpa_consF (bv 7) (bpa_consF (bv 10) bpa_nil (by rfl)) (by rfl)) (by decide) (star_each (by rfl)) (by rfl)) (by rfl) (.inl rfl))
  (bpss_one (bps_set (i := 13) nd_law rfl (Or.inl rfl) (bpe_tup (bpa_consF bpe_str (bpa_consF (bpe_callB (call_allK (K := K) rfl rfl) (by rfl) T.all boot_all (bpa_consF (bpe_comp1 (compOk_of (N' := ["_law_name", "_law_high"]) (own := ["_law_name"]) (fr := [14]) (by kernel_rfl)) rfl (bpi_seqK (K := K) rfl (bpe_dn D_law_reach (hr.mono (by decide)) (by rfl) (bpa_consF (bv 7) (bpa_consF (bv 9) bpa_nil (by rfl)) (by rfl)) (by decide) (star_each (by rfl)) (by rfl))) ?hb2 (by intro _;rfl)) bpa_nil (by rfl)) (by decide) (by decide) (star_each (by rfl)) (by rfl)) bpa_nil (by rfl)) (by rfl))) (by rfl) (.inl rfl)))) (bpss_one (bps_set (i := 13) nd_law rfl (Or.inl rfl) (bpe_tup (bpa_consF bpe_str (bpa_consF (bpe_ix (ix_UK (K := K) rfl) (bv 12) bpe_int (fun _ _ => rfl)) (bpa_consF (bpe_tup (bpa_consF bpe_bl (bpa_consF bpe_bl bpa_nil (by rfl)) (by rfl))) (bpa_consF bpe_bl bpa_nil (by rfl)) (by rfl)) (by rfl)) (by rfl))) (by rfl) (.inl rfl))))
  (bpss_cons (bps_set (i := 15) nd_law rfl (Or.inl rfl) (bpe_dn D_law_found (hr.mono (by decide)) (by rfl) (bpa_consF (bv 6) (bpa_consF (bv 9) (bpa_consF (bv 10) bpa_nil (by rfl)) (by rfl)) (by rfl)) (by decide) (star_each (by rfl)) (by rfl)) (by rfl) (.inl rfl))
  (bpss_cons (bps_if (bpw_or (bpt_cmpR (op_neA (K := K) rfl hr.units) (bv 15) (bv 13) (nomark _)) (bpw_or1 (bpt_not (bpt_truthK (K := K) rfl (bpe_callB (call_isi2 (K := K) (m := "bool") (n := "str") rfl) (by rfl) T.isinstance boot_isinstance (bpa_consF (bpe_ix (ix_UK (K := K) rfl) (bv 15) bpe_int (fun _ _ => rfl)) (bpa_consF (bpe_tup (bpa_consF (bpe_bltn (v := .ty "bool") (by rfl) T.bool boot_bool rfl (by decide) (by decide)) (bpa_consF (bpe_bltn (v := .ty "str") (by rfl) T.str boot_str rfl (by decide) (by decide)) bpa_nil (by rfl)) (by rfl))) bpa_nil (by rfl)) (by rfl)) (by decide) (by decide) (star_each (by rfl)) (by rfl)) (fun _ => rfl))))).pt (bpss_one (bps_ret bpe_bl)) bpss_nil)
  (bpss_one (bps_if (bpw_and (bpt_cmpR (op_eqA (K := K) rfl hr.units) (bv 12) (bpe_lst bpa_nil) (nomark _)) (bpw_and1 (bpt_not (bpt_truthK (K := K) rfl (bpe_callB (call_isiK (K := K) rfl) (by rfl) T.isinstance boot_isinstance (bpa_consF (bpe_ix (ix_UK (K := K) rfl) (bv 15) bpe_int (fun _ _ => rfl)) (bpa_consF (bpe_bltn (v := .ty "bool") (by rfl) T.bool boot_bool rfl (by decide) (by decide)) bpa_nil (by rfl)) (by rfl)) (by decide) (by decide) (star_each (by rfl)) (by rfl)) (fun _ => rfl))))).pt (bpss_one (bps_ret bpe_bl)) bpss_nil)))))))))))) (by intro _;rfl))))))))) (by intro _;rfl))
  (bpss_one (bps_ret bpe_bl))))
      case hb1 => (intro cl C s H fp;refine' ⟨Bx.out (bpg_name (i := 0) nd_law_c1 rfl (Or.inl rfl) (by first|exact .inl rfl|exact .inr rfl|assumption)),Bx.out (bpf_one (bpt_cmpR (op_notInK (K := K) rfl) (bv 0) (bv 1) (by rfl))),Bx.out (bv 0)⟩)
      case hb2 => (intro cl C s H fp;refine' ⟨Bx.out (bpg_name (i := 0) nd_law_c2 rfl (Or.inl rfl) (by first|exact .inl rfl|exact .inr rfl|assumption)),Bx.out bpf_nil,Bx.out (bpe_cmpR (op_inK (K := K) rfl) (bv 0) (bv 1) (by rfl))⟩)
    exact law_endF (F := F_law_k23 ns) (n := 15) ((ssg_seq rfl (ssg_many (by decide)) (ssg_seq rfl (ssg_for rfl (si_range1 (sa_cons (se_op so_add (se_var 1) (se_c fun _ => rp_mk_int)) sa_nil)) (sgk_name (by decide)) (ssg_seq rfl (ssg_feed (by decide)) (ssg_seq rfl (ssg_of (ssf_ifp (st_t (se_op so_eq (se_var 2) (se_var 1))) (ssf_of (ssk_set (se_lst (sa_cons (se_c fun _ => rp_mk_int) (sa_cons (se_c fun _ => rp_mk_int) (sa_cons (se_c fun _ => rp_mk_int) sa_nil)))) (by decide))) ssf_nil)) (ssg_seq rfl (ssg_of (ssf_set (sef_callF (saf_cons (sef_op so_add (sef_pure (se_c fun _ => rp_mk_int)) (sef_callF (saf_cons (sef_pure (se_c fun _ => rp_mk_int)) saf_nil))) saf_nil)) (by decide))) (ssg_seq rfl (ssg_of (ssf_of (ssk_pop2 (by decide)))) (ssg_seq rfl (ssg_of (ssf_set (sef_callF (saf_cons (sef_pure (se_var 4)) saf_nil)) (by decide))) (ssg_seq rfl (ssg_of (ssf_of (ssk_set (se_call (sa_cons (se_var 6) sa_nil)) (by decide)))) (ssg_of (ssf_for (si_range1 (sa_cons (se_c fun _ => rp_mk_int) sa_nil)) (sgk_name (by decide)) (ssf_seq (ssf_set (sef_callF (saf_cons (sef_pure (se_var 4)) saf_nil)) (by decide)) (ssf_seq (ssf_set (sef_callF (saf_cons (sef_pure (se_var 4)) saf_nil)) (by decide)) (ssf_seq (ssf_set (sef_callF (saf_cons (sef_pure (se_c fun _ => rp_mk_int)) saf_nil)) (by decide)) (ssf_seq (ssf_ifp (st_or (st_t (se_op so_eq (se_var 11) (se_c fun _ => rp_mk_int))) (st_t (se_op so_eq (se_var 11) (se_c fun _ => rp_mk_int)))) (ssf_set (sef_callF (saf_cons (sef_pure (se_var 9)) (saf_cons (sef_op so_ix (sef_pure (se_var 5)) (sef_callF (saf_cons (sef_pure (se_c fun _ => rp_mk_int)) saf_nil))) saf_nil))) (by decide)) ssf_nil) (ssf_seq (ssf_ifp (st_or (st_t (se_op so_eq (se_var 11) (se_c fun _ => rp_mk_int))) (st_t (se_op so_eq (se_var 11) (se_c fun _ => rp_mk_int)))) (ssf_set (sef_callF (saf_cons (sef_pure (se_var 10)) (saf_cons (sef_op so_ix (sef_pure (se_var 5)) (sef_callF (saf_cons (sef_pure (se_c fun _ => rp_mk_int)) saf_nil))) saf_nil))) (by decide)) ssf_nil) (ssf_seq (ssf_of (ssk_set (se_comp (si_seq (se_op so_add (se_call (sa_cons (se_var 9) sa_nil)) (se_call (sa_cons (se_var 10) sa_nil)))) sg_name (gx_name (by decide)) (st_t (se_op so_in (se_var 0) (se_var 1))) (se_var 0)) (by decide))) (ssf_seq (ssf_of (ssk_set (se_tup (sa_cons (se_c fun _ => rp_mk_str) (sa_cons (se_c fun _ => rp_mk_str) (sa_cons (se_tup (sa_cons (se_c fun _ => rp_mk_bool) (sa_cons (se_c fun _ => rp_mk_bool) sa_nil))) (sa_cons (se_c fun _ => rp_mk_bool) sa_nil))))) (by decide))) (ssf_seq (ssf_ifp (st_t (se_op so_eq (se_var 12) (se_lst sa_nil))) (ssf_seq (ssf_of (ssk_set (se_call (sa_cons (se_var 7) (sa_cons (se_var 10) sa_nil))) (by decide))) (ssf_of (ssk_set (se_tup (sa_cons (se_c fun _ => rp_mk_str) (sa_cons (se_cb sc_any (sa_cons (se_comp (si_seq (se_call (sa_cons (se_var 7) (sa_cons (se_var 9) sa_nil)))) sg_name (gx_name (by decide)) st_all (se_op so_in (se_var 0) (se_var 1))) sa_nil)) sa_nil))) (by decide)))) (ssf_of (ssk_set (se_tup (sa_cons (se_c fun _ => rp_mk_str) (sa_cons (se_ixv (se_c fun _ => rp_mk_int)) (sa_cons (se_tup (sa_cons (se_c fun _ => rp_mk_bool) (sa_cons (se_c fun _ => rp_mk_bool) sa_nil))) (sa_cons (se_c fun _ => rp_mk_bool) sa_nil))))) (by decide)))) (ssf_seq (ssf_of (ssk_set (se_call (sa_cons (se_var 6) (sa_cons (se_var 9) (sa_cons (se_var 10) sa_nil)))) (by decide))) (ssf_seq (ssf_ifp (st_or (st_t (se_op so_ne (se_var 15) (se_var 13))) (st_not (st_tru (se_isi2 (se_ixv (se_c fun _ => rp_mk_int)) kit2_bs)))) (ssf_retp (se_c fun _ => rp_mk_bool)) ssf_nil) (ssf_ifp (st_and (st_t (se_op so_eq (se_var 12) (se_lst sa_nil))) (st_not (st_tru (se_isi (se_ixv (se_c fun _ => rp_mk_int)) kit_bool)))) (ssf_retp (se_c fun _ => rp_mk_bool)) ssf_nil)))))))))))))))))))) (ssg_of (ssf_retp (se_c fun _ => rp_mk_bool)))))) hS (pure_k23 ns) k
end
theorem us_s {us:List Value} {n:Nat} (h:us.length=n+1):∃ a t,us=a::t∧t.length=n := by
  cases us with
  | nil => cases h
  | cons a t => exact ⟨a,t,rfl,Nat.succ.inj h⟩
theorem us_1 {us:List Value} (h:us.length=1):∃ a0,us=[a0] := by
  obtain ⟨a,t,rfl,h2⟩ := us_s h
  cases qAp.mp h2
  exact ⟨a,rfl⟩
theorem us_2 {us:List Value} (h:us.length=2):∃ a0 a1,us=[a0,a1] := by
  obtain ⟨a0,t,rfl,h2⟩ := us_s h
  obtain ⟨a1,rfl⟩ := us_1 h2
  exact ⟨a0,a1,rfl⟩
theorem us_3 {us:List Value} (h:us.length=3):∃ a0 a1 a2,us=[a0,a1,a2] := by
  obtain ⟨a0,t,rfl,h2⟩ := us_s h
  obtain ⟨a1,a2,rfl⟩ := us_2 h2
  exact ⟨a0,a1,a2,rfl⟩
theorem all_mk {l:PySem.W.OpenLaw} {w:World} {K:qB} {h:Heap} {mg:Str→Option Value} {fa f1 f2 f3 f4 f5 f6 f7 f8 f9 f10 f11 f12 f13 f14 f15 f16 f17 f18 f19:Addr} (X:K.In h) (G:h.Ns qL mg) (hfa:mg "law" = some (.ref fa))
    {od1 an1 od2 an2 od3 an3 od4 an4 od5 an5 od6 an6 od7 an7 od8 an8 od9 an9 od10 an10 od11 an11 od12 an12 od13 an13 od14 an14 od15 an15 od16 an16 od17 an17 od18 an18 od19 an19:Option Addr} {sl1 sl2 sl3 sl4 sl5 sl6 sl7 sl8 sl9 sl10 sl11 sl12 sl13 sl14 sl15 sl16 sl17 sl18 sl19:Array (Option Value)} {oc1 kV1 dc1 pm1 cd1 ct1 oc2 kV2 dc2 pm2 cd2 ct2 oc3 kV3 dc3 pm3 cd3 ct3 oc4 kV4 dc4 pm4 cd4 ct4 oc5 kV5 dc5 pm5 cd5 ct5 oc6 kV6 dc6 pm6 cd6 ct6 oc7 kV7 dc7 pm7 cd7 ct7 oc8 kV8 dc8 pm8 cd8 ct8 oc9 kV9 dc9 pm9 cd9 ct9 oc10 kV10 dc10 pm10 cd10 ct10 oc11 kV11 dc11 pm11 cd11 ct11 oc12 kV12 dc12 pm12 cd12 ct12 oc13 kV13 dc13 pm13 cd13 ct13 oc14 kV14 dc14 pm14 cd14 ct14 oc15 kV15 dc15 pm15 cd15 ct15 oc16 kV16 dc16 pm16 cd16 ct16 oc17 kV17 dc17 pm17 cd17 ct17 oc18 kV18 dc18 pm18 cd18 ct18 oc19 kV19 dc19 pm19 cd19 ct19:Value}
    (a1:qT K qL "names_of" = some (some (.ref f1))) (l1:K.lookup f1=some ⟨oc1,od1,.func (qc "names_of" "names_of" (defArgs s_names_of) (defBody s_names_of) (defScope s_names_of) .none kV1 dc1 pm1 an1 cd1 ct1),sl1⟩) (c1:qa K cd1 "names_of" = true) (k1:qV K (.ref f1)=true)
    (a2:qT K qL "names_in" = some (some (.ref f2))) (l2:K.lookup f2=some ⟨oc2,od2,.func (qc "names_in" "names_in" (defArgs s_names_in) (defBody s_names_in) (defScope s_names_in) .none kV2 dc2 pm2 an2 cd2 ct2),sl2⟩) (c2:qa K cd2 "names_in" = true) (k2:qV K (.ref f2)=true)
    (a3:qT K qL "check_kinds" = some (some (.ref f3))) (l3:K.lookup f3=some ⟨oc3,od3,.func (qc "check_kinds" "check_kinds" (defArgs s_check_kinds) (defBody s_check_kinds) (defScope s_check_kinds) .none kV3 dc3 pm3 an3 cd3 ct3),sl3⟩) (c3:qa K cd3 "check_kinds" = true) (k3:qV K (.ref f3)=true)
    (a4:qT K qL "roofs_of" = some (some (.ref f4))) (l4:K.lookup f4=some ⟨oc4,od4,.func (qc "roofs_of" "roofs_of" (defArgs s_roofs_of) (defBody s_roofs_of) (defScope s_roofs_of) .none kV4 dc4 pm4 an4 cd4 ct4),sl4⟩) (c4:qa K cd4 "roofs_of" = true) (k4:qV K (.ref f4)=true)
    (a5:qT K qL "roof_of" = some (some (.ref f5))) (l5:K.lookup f5=some ⟨oc5,od5,.func (qc "roof_of" "roof_of" (defArgs s_roof_of) (defBody s_roof_of) (defScope s_roof_of) .none kV5 dc5 pm5 an5 cd5 ct5),sl5⟩) (c5:qa K cd5 "roof_of" = true) (k5:qV K (.ref f5)=true)
    (a6:qT K qL "is_within" = some (some (.ref f6))) (l6:K.lookup f6=some ⟨oc6,od6,.func (qc "is_within" "is_within" (defArgs s_is_within) (defBody s_is_within) (defScope s_is_within) .none kV6 dc6 pm6 an6 cd6 ct6),sl6⟩) (c6:qa K cd6 "is_within" = true) (k6:qV K (.ref f6)=true)
    (a7:qT K qL "within" = some (some (.ref f7))) (l7:K.lookup f7=some ⟨oc7,od7,.func (qc "within" "within" (defArgs s_within) (defBody s_within) (defScope s_within) .none kV7 dc7 pm7 an7 cd7 ct7),sl7⟩) (c7:qa K cd7 "within" = true) (k7:qV K (.ref f7)=true)
    (a8:qT K qL "_law_feed" = some (some (.ref f8))) (l8:K.lookup f8=some ⟨oc8,od8,.func (qc "_law_feed" "_law_feed" (defArgs s_law_feed) (defBody s_law_feed) (defScope s_law_feed) .none kV8 dc8 pm8 an8 cd8 ct8),sl8⟩) (c8:qa K cd8 "_law_feed" = true) (k8:qV K (.ref f8)=true)
    (a9:qT K qL "_law_take" = some (some (.ref f9))) (l9:K.lookup f9=some ⟨oc9,od9,.func (qc "_law_take" "_law_take" (defArgs s_law_take) (defBody s_law_take) (defScope s_law_take) .none kV9 dc9 pm9 an9 cd9 ct9),sl9⟩) (c9:qa K cd9 "_law_take" = true) (k9:qV K (.ref f9)=true)
    (a10:qT K qL "_law_letters" = some (some (.ref f10))) (l10:K.lookup f10=some ⟨oc10,od10,.func (qc "_law_letters" "_law_letters" (defArgs s_law_letters) (defBody s_law_letters) (defScope s_law_letters) .none kV10 dc10 pm10 an10 cd10 ct10),sl10⟩) (c10:qa K cd10 "_law_letters" = true) (k10:qV K (.ref f10)=true)
    (a11:qT K qL "_law_names" = some (some (.ref f11))) (l11:K.lookup f11=some ⟨oc11,od11,.func (qc "_law_names" "_law_names" (defArgs s_law_names) (defBody s_law_names) (defScope s_law_names) .none kV11 dc11 pm11 an11 cd11 ct11),sl11⟩) (c11:qa K cd11 "_law_names" = true) (k11:qV K (.ref f11)=true)
    (a12:qT K qL "_law_web" = some (some (.ref f12))) (l12:K.lookup f12=some ⟨oc12,od12,.func (qc "_law_web" "_law_web" (defArgs s_law_web) (defBody s_law_web) (defScope s_law_web) .none kV12 dc12 pm12 an12 cd12 ct12),sl12⟩) (c12:qa K cd12 "_law_web" = true) (k12:qV K (.ref f12)=true)
    (a13:qT K qL "_law_above" = some (some (.ref f13))) (l13:K.lookup f13=some ⟨oc13,od13,.func (qc "_law_above" "_law_above" (defArgs s_law_above) (defBody s_law_above) (defScope s_law_above) .none kV13 dc13 pm13 an13 cd13 ct13),sl13⟩) (c13:qa K cd13 "_law_above" = true) (k13:qV K (.ref f13)=true)
    (a14:qT K qL "_law_reach" = some (some (.ref f14))) (l14:K.lookup f14=some ⟨oc14,od14,.func (qc "_law_reach" "_law_reach" (defArgs s_law_reach) (defBody s_law_reach) (defScope s_law_reach) .none kV14 dc14 pm14 an14 cd14 ct14),sl14⟩) (c14:qa K cd14 "_law_reach" = true) (k14:qV K (.ref f14)=true)
    (a15:qT K qL "_law_arm" = some (some (.ref f15))) (l15:K.lookup f15=some ⟨oc15,od15,.func (qc "_law_arm" "_law_arm" (defArgs s_law_arm) (defBody s_law_arm) (defScope s_law_arm) .none kV15 dc15 pm15 an15 cd15 ct15),sl15⟩) (c15:qa K cd15 "_law_arm" = true) (k15:qV K (.ref f15)=true)
    (a16:qT K qL "_law_bent" = some (some (.ref f16))) (l16:K.lookup f16=some ⟨oc16,od16,.func (qc "_law_bent" "_law_bent" (defArgs s_law_bent) (defBody s_law_bent) (defScope s_law_bent) .none kV16 dc16 pm16 an16 cd16 ct16),sl16⟩) (c16:qa K cd16 "_law_bent" = true) (k16:qV K (.ref f16)=true)
    (a17:qT K qL "_law_pieces" = some (some (.ref f17))) (l17:K.lookup f17=some ⟨oc17,od17,.func (qc "_law_pieces" "_law_pieces" (defArgs s_law_pieces) (defBody s_law_pieces) (defScope s_law_pieces) .none kV17 dc17 pm17 an17 cd17 ct17),sl17⟩) (c17:qa K cd17 "_law_pieces" = true) (k17:qV K (.ref f17)=true)
    (a18:qT K qL "_law_found" = some (some (.ref f18))) (l18:K.lookup f18=some ⟨oc18,od18,.func (qc "_law_found" "_law_found" (defArgs s_law_found) (defBody s_law_found) (defScope s_law_found) .none kV18 dc18 pm18 an18 cd18 ct18),sl18⟩) (c18:qa K cd18 "_law_found" = true) (k18:qV K (.ref f18)=true)
    (a19:qT K qL "law" = some (some (.ref f19))) (l19:K.lookup f19=some ⟨oc19,od19,.func (qc "law" "law" (defArgs s_law) (defBody s_law) (defScope s_law) .none kV19 dc19 pm19 an19 cd19 ct19),sl19⟩) (c19:qa K cd19 "law" = true) (k19:qV K (.ref f19)=true)
    {C y0 y1 y2 y3 fI:Addr} {xoc xkV xdc xpm xcd xct:Value} {xod xan xdd:Option Addr} {xsl xsl2:Array (Option Value)} {xcdt:ClassData}
    (xa:qT K qL "NoKind" = some (some (.ref C))) (xa0:qT K qL "CallError" = some (some (.ref y0))) (xa1:qT K qL "NoBook" = some (some (.ref y1))) (xa2:qT K qL "NoCall" = some (some (.ref y2))) (xa3:qT K qL "NoWeb" = some (some (.ref y3))) (xz:qT K qL "ValueError" = some none)
    (xi:PySem.W.findIn K (.ref C) "__init__" = some (some (.ref fI))) (xl:K.lookup fI=some ⟨xoc,xod,.func (qc "__init__" "CallError.__init__" (defArgs (inClass (top 1) 0)) (defBody (inClass (top 1) 0)) (defScope (inClass (top 1) 0)) .none xkV xdc xpm xan xcd xct),xsl⟩) (xc:qa K xcd "CallError.__init__" = true) (xk:qV K (.ref fI)=true)
    (xlc:K.lookup C=some ⟨.type "type",xdd,.cls xcdt,xsl2⟩) (xb:xcB C xcdt xsl2=true) (xf:PySem.W.isFn K (.ref fI)=true) (xkp:qV K (.ref C)=true) (xsa:PySem.W.findIn K (.ref C) "__setattr__" = some (some (.builtin "object.__setattr__"))) (xat:PySem.W.findIn K (.ref C) "at" = some none) (xga:PySem.W.findIn K (.ref C) "__getattribute__" = some (some (.builtin "BaseException.__getattribute__"))) (xgh:PySem.W.findIn K (.ref C) "__getattr__" = some none) (xcl:PySem.W.findIn K (.ref C) "__class__" = some (some (.builtin "object.__class__")))
    (xs0:PySem.W.subIn K (.ref C) (.type "BaseException")=some true) (xs1:PySem.W.isClsIn K C=true) (xs2:PySem.W.typeIn K (.ref C)=some (.type "type")) (xs3:PySem.W.subIn K (.ref C) (.ref C)=some true) (xs4:PySem.W.subIn K (.ref C) (.type "ValueError")=some true) (xp0:PySem.W.isClsIn K y0=true) (xq0:PySem.W.typeIn K (.ref y0)=some (.type "type")) (xr0:PySem.W.subIn K (.ref C) (.ref y0)=some true) (xp1:PySem.W.isClsIn K y1=true) (xq1:PySem.W.typeIn K (.ref y1)=some (.type "type")) (xr1:PySem.W.subIn K (.ref C) (.ref y1)=some false) (xp2:PySem.W.isClsIn K y2=true) (xq2:PySem.W.typeIn K (.ref y2)=some (.type "type")) (xr2:PySem.W.subIn K (.ref C) (.ref y2)=some false) (xp3:PySem.W.isClsIn K y3=true) (xq3:PySem.W.typeIn K (.ref y3)=some (.type "type")) (xr3:PySem.W.subIn K (.ref C) (.ref y3)=some false)
    (z1:qT K qL "abs" = some none) (z2:qT K qL "all" = some none) (z3:qT K qL "bool" = some none) (z4:qT K qL "isinstance" = some none) (z5:qT K qL "len" = some none) (z6:qT K qL "list" = some none) (z7:qT K qL "min" = some none) (z8:qT K qL "range" = some none) (z9:qT K qL "str" = some none) (z10:qT K qL "tuple" = some none) :
    ∃ fd:qt,(∀ (s:Shared) (v:Value),BindsTo s fd ⟨[v],[]⟩ [("_law_script",v)])∧∀ base:Heap,K.In base→base.Ns qL mg→FnOk l.prog w K mg base CX0 6 fa fd ["_law_script"] (spLaw K) := by
  have e := hfa.symm.trans (qb X G a19)
  cases e
  have T:Txt mg := ⟨qw X G z1,qw X G z2,qw X G z3,qw X G z4,qw X G z5,qw X G z6,qw X G z7,qw X G z8,qw X G z9,qw X G z10⟩
  have F1 := fun_mk (st := s_names_of) l1 c1 k1
  have b1 := F1.binds (ps := ["web"]) fun _ _ _ _ _ _ us hl => by obtain ⟨_,rfl⟩ := us_1 hl;rfl
  have F2 := fun_mk (st := s_names_in) l2 c2 k2
  have b2 := F2.binds (ps := ["arm"]) fun _ _ _ _ _ _ us hl => by obtain ⟨_,rfl⟩ := us_1 hl;rfl
  have F3 := fun_mk (st := s_check_kinds) l3 c3 k3
  have b3 := F3.binds (ps := ["web", "names"]) fun _ _ _ _ _ _ us hl => by obtain ⟨_,_,rfl⟩ := us_2 hl;rfl
  have F4 := fun_mk (st := s_roofs_of) l4 c4 k4
  have b4 := F4.binds (ps := ["web"]) fun _ _ _ _ _ _ us hl => by obtain ⟨_,rfl⟩ := us_1 hl;rfl
  have F5 := fun_mk (st := s_roof_of) l5 c5 k5
  have b5 := F5.binds (ps := ["roofs", "arm"]) fun _ _ _ _ _ _ us hl => by obtain ⟨_,_,rfl⟩ := us_2 hl;rfl
  have F6 := fun_mk (st := s_is_within) l6 c6 k6
  have b6 := F6.binds (ps := ["roof", "other_roof"]) fun _ _ _ _ _ _ us hl => by obtain ⟨_,_,rfl⟩ := us_2 hl;rfl
  have F7 := fun_mk (st := s_within) l7 c7 k7
  have b7 := F7.binds (ps := ["web", "one", "other"]) fun _ _ _ _ _ _ us hl => by obtain ⟨_,_,_,rfl⟩ := us_3 hl;rfl
  have F8 := fun_mk (st := s_law_feed) l8 c8 k8
  have b8 := F8.binds (ps := ["_law_script", "_law_k"]) fun _ _ _ _ _ _ us hl => by obtain ⟨_,_,rfl⟩ := us_2 hl;rfl
  have F9 := fun_mk (st := s_law_take) l9 c9 k9
  have b9 := F9.binds (ps := ["_law_feed_here", "_law_many"]) fun _ _ _ _ _ _ us hl => by obtain ⟨_,_,rfl⟩ := us_2 hl;rfl
  have F10 := fun_mk (st := s_law_letters) l10 c10 k10
  have b10 := F10.binds (ps := ["_law_feed_here", "_law_many"]) fun _ _ _ _ _ _ us hl => by obtain ⟨_,_,rfl⟩ := us_2 hl;rfl
  have F11 := fun_mk (st := s_law_names) l11 c11 k11
  have b11 := F11.binds (ps := ["_law_feed_here", "_law_many"]) fun _ _ _ _ _ _ us hl => by obtain ⟨_,_,rfl⟩ := us_2 hl;rfl
  have F12 := fun_mk (st := s_law_web) l12 c12 k12
  have b12 := F12.binds (ps := ["_law_feed_here", "_law_names_here"]) fun _ _ _ _ _ _ us hl => by obtain ⟨_,_,rfl⟩ := us_2 hl;rfl
  have F13 := fun_mk (st := s_law_above) l13 c13 k13
  have b13 := F13.binds (ps := ["_law_web_here"]) fun _ _ _ _ _ _ us hl => by obtain ⟨_,rfl⟩ := us_1 hl;rfl
  have F14 := fun_mk (st := s_law_reach) l14 c14 k14
  have b14 := F14.binds (ps := ["_law_table", "_law_arm_here"]) fun _ _ _ _ _ _ us hl => by obtain ⟨_,_,rfl⟩ := us_2 hl;rfl
  have F15 := fun_mk (st := s_law_arm) l15 c15 k15
  have b15 := F15.binds (ps := ["_law_feed_here", "_law_names_here"]) fun _ _ _ _ _ _ us hl => by obtain ⟨_,_,rfl⟩ := us_2 hl;rfl
  have F16 := fun_mk (st := s_law_bent) l16 c16 k16
  have b16 := F16.binds (ps := ["_law_feed_here", "_law_arm_here", "_law_stranger"]) fun _ _ _ _ _ _ us hl => by obtain ⟨_,_,_,rfl⟩ := us_3 hl;rfl
  have F17 := fun_mk (st := s_law_pieces) l17 c17 k17
  have b17 := F17.binds (ps := ["_law_arm_here"]) fun _ _ _ _ _ _ us hl => by obtain ⟨_,rfl⟩ := us_1 hl;rfl
  have F18 := fun_mk (st := s_law_found) l18 c18 k18
  have b18 := F18.binds (ps := ["_law_web_here", "_law_one", "_law_other"]) fun _ _ _ _ _ _ us hl => by obtain ⟨_,_,_,rfl⟩ := us_3 hl;rfl
  have F19 := fun_mk (st := s_law) l19 c19 k19
  refine ⟨qc "law" "law" (defArgs s_law) (defBody s_law) (defScope s_law) .none kV19 dc19 pm19 an19 cd19 ct19,fun s v => .of_eq rfl,fun base _ _ => ?_⟩
  have XF := fun_mk (st := inClass (top 1) 0) xl xc xk
  have XM:XMk K C fI := ⟨(xc_of xlc xb).1,(xc_of xlc xb).2,xi,xf,xkp,xsa,xat,xga,xgh⟩
  have xv := qw X G xz
  have X_NoKind:XcOk l.prog w K mg base "NoKind" C := ⟨fI,_,XM,ok_init XF XM xv rfl rfl (by decide) (fun _ => ⟨_,rfl⟩),XF.binds (ps := ["self", "at"]) (fun _ _ _ _ _ _ us hl => by obtain ⟨_,_,rfl⟩ := us_2 hl;rfl),qb X G xa,xcl,exm_of xs0 xs1 xs2 xs3⟩
  have D_names_of:Y_names_of l.prog w K mg base := ⟨f1,_,ok_names_of F1 T , qb X G a1,k1,b1⟩
  have D_names_in:Y_names_in l.prog w K mg base := ⟨f2,_,ok_names_in F2 T , qb X G a2,k2,b2⟩
  have D_check_kinds:Y_check_kinds l.prog w K mg base (fun _ => C) := ⟨f3,_,ok_check_kinds (cl := fun _ => C) F3 T D_names_of X_NoKind,qb X G a3,k3,b3⟩
  have D_roofs_of:Y_roofs_of l.prog w K mg base := ⟨f4,_,ok_roofs_of F4 T , qb X G a4,k4,b4⟩
  have D_roof_of:Y_roof_of l.prog w K mg base := ⟨f5,_,ok_roof_of F5 T D_names_in,qb X G a5,k5,b5⟩
  have D_is_within:Y_is_within l.prog w K mg base := ⟨f6,_,ok_is_within F6 T , qb X G a6,k6,b6⟩
  have D_within:Y_within l.prog w K mg base (fun _ => C) := ⟨f7,_,ok_within (cl := fun _ => C) F7 T D_check_kinds D_is_within D_names_in D_roof_of D_roofs_of,qb X G a7,k7,b7⟩
  have D_law_feed:Y_law_feed l.prog w K mg base := ⟨f8,_,ok_law_feed F8 T , qb X G a8,k8,b8⟩
  have D_law_take:Y_law_take l.prog w K mg base := ⟨f9,_,ok_law_take F9 T , qb X G a9,k9,b9⟩
  have D_law_letters:Y_law_letters l.prog w K mg base := ⟨f10,_,ok_law_letters F10 T D_law_take,qb X G a10,k10,b10⟩
  have D_law_names:Y_law_names l.prog w K mg base := ⟨f11,_,ok_law_names F11 T D_law_letters D_law_take,qb X G a11,k11,b11⟩
  have D_law_web:Y_law_web l.prog w K mg base := ⟨f12,_,ok_law_web F12 T D_law_take,qb X G a12,k12,b12⟩
  have D_law_above:Y_law_above l.prog w K mg base := ⟨f13,_,ok_law_above F13 T , qb X G a13,k13,b13⟩
  have D_law_reach:Y_law_reach l.prog w K mg base := ⟨f14,_,ok_law_reach F14 T , qb X G a14,k14,b14⟩
  have D_law_arm:Y_law_arm l.prog w K mg base := ⟨f15,_,ok_law_arm F15 T D_law_take,qb X G a15,k15,b15⟩
  have D_law_bent:Y_law_bent l.prog w K mg base := ⟨f16,_,ok_law_bent F16 T D_law_take,qb X G a16,k16,b16⟩
  have D_law_pieces:Y_law_pieces l.prog w K mg base := ⟨f17,_,ok_law_pieces F17 T , qb X G a17,k17,b17⟩
  have D_law_found:Y_law_found l.prog w K mg base := ⟨f18,_,ok_law_found (cl := fun _ => C) F18 T D_within X_NoKind (qb X G xa0) (qb X G xa1) (qb X G xa2) (qb X G xa3) xv (kit1_t xp0 xq0 xr0) (kit1_v xs4) (kit3_f (kit1_f xs3 xp1 xq1 xr1) (kit1_f xs3 xp2 xq2 xr2) (kit1_f xs3 xp3 xq3 xr3)),qb X G a18,k18,b18⟩
  exact ok_law F19 T D_law_above D_law_arm D_law_bent D_law_feed D_law_found D_law_names D_law_pieces D_law_reach D_law_take D_law_web
theorem walk {l:PySem.W.OpenLaw} {q:Program} {loose:List Str} {XP:(Str→Option Value)→Heap→Prop} {YP:World→Heap→Prop} {d:DefRec} {K:Params→qB} (hn:l.most=some 63) (hdf:d.params.defaults=[])
    (hY:∀ (w:World) (h:Heap),YP w h→(K w.params).In h)
    (F:∀ (w:World) (mg:Str→Option Value) (fa:Addr) (h:Heap),(K w.params).In h→h.Ns qL mg→mg d.name=some (.ref fa) →
      ∃ fd:qt,(∀ (s:Shared) (u:Value),BindsTo s fd ⟨[u],[]⟩ [("_law_script",u)])∧∀ base:Heap,(K w.params).In base→base.Ns qL mg→FnOk l.prog w (K w.params) mg base CX0 6 fa fd ["_law_script"] (spLaw (K w.params))) :
    PySem.W.WalkO q loose XP YP l.row.toRowW d [] (fun f vs => PySem.call f vs) :=
  L2.walk_of (n := 63) (k := 6) (x := "_law_script") (CX := fun _ => CX0) (sp := fun w => spLaw (K w.params)) hn (by decide) hdf ⟨rfl,by decide,by decide⟩ hY F (fun _ _ a ns hl _ hS => ⟨a,ns,rfl,hS,fun _ => rfl⟩) fun _ _ _ _ _ z => z
end Bc
theorem PySem.W.Fast.te15629040577743561971:True:=trivial
noncomputable def PySem.W.Fast.tw10654458452493974738:PySem.Program:=PySem.Challenge.pw_bestcalls_k23_arms_within_arms
theorem PySem.W.Fast.te10654458452493974738:PySem.Challenge.pw_bestcalls_k23_arms_within_arms=PySem.W.Fast.tw10654458452493974738:=rfl
open PySem PySem.W PyProof.Rows
set_option maxRecDepth 100000 in
set_option maxHeartbeats 0 in
theorem PySem.Challenge.cw_bestcalls_k23_arms_within_arms_holds : PySem.Challenge.rw_bestcalls_k23_arms_within_arms.Holds := by
  w_on;o_law;k_head;(case hw => w_witness2)
  k_fill
  refine Bc.walk (l := PySem.Challenge.rw_bestcalls_k23_arms_within_arms) rfl rfl (fun w h Y => PySem.W.kIn_of Y) ?F
  case F =>
    intro w mg fa h KX G hmg
    refine' Bc.all_mk KX G hmg ?a1 ?l1 ?c1 ?k1 ?a2 ?l2 ?c2 ?k2 ?a3 ?l3 ?c3 ?k3 ?a4 ?l4 ?c4 ?k4 ?a5 ?l5 ?c5 ?k5 ?a6 ?l6 ?c6 ?k6 ?a7 ?l7 ?c7 ?k7 ?a8 ?l8 ?c8 ?k8 ?a9 ?l9 ?c9 ?k9 ?a10 ?l10 ?c10 ?k10 ?a11 ?l11 ?c11 ?k11 ?a12 ?l12 ?c12 ?k12 ?a13 ?l13 ?c13 ?k13 ?a14 ?l14 ?c14 ?k14 ?a15 ?l15 ?c15 ?k15 ?a16 ?l16 ?c16 ?k16 ?a17 ?l17 ?c17 ?k17 ?a18 ?l18 ?c18 ?k18 ?a19 ?l19 ?c19 ?k19 ?xa ?xa0 ?xa1 ?xa2 ?xa3 ?xz ?xi ?xl ?xc ?xk ?xlc ?xb ?xf ?xkp ?xsa ?xat ?xga ?xgh ?xcl ?xs0 ?xs1 ?xs2 ?xs3 ?xs4 ?xp0 ?xq0 ?xr0 ?xp1 ?xq1 ?xr1 ?xp2 ?xq2 ?xr2 ?xp3 ?xq3 ?xr3 ?z1 ?z2 ?z3 ?z4 ?z5 ?z6 ?z7 ?z8 ?z9 ?z10
    (case a1 => k_is)
    (case l1 => k_is)
    (case c1 => k_is)
    (case k1 => k_is)
    (case a2 => k_is)
    (case l2 => k_is)
    (case c2 => k_is)
    (case k2 => k_is)
    (case a3 => k_is)
    (case l3 => k_is)
    (case c3 => k_is)
    (case k3 => k_is)
    (case a4 => k_is)
    (case l4 => k_is)
    (case c4 => k_is)
    (case k4 => k_is)
    (case a5 => k_is)
    (case l5 => k_is)
    (case c5 => k_is)
    (case k5 => k_is)
    (case a6 => k_is)
    (case l6 => k_is)
    (case c6 => k_is)
    (case k6 => k_is)
    (case a7 => k_is)
    (case l7 => k_is)
    (case c7 => k_is)
    (case k7 => k_is)
    (case a8 => k_is)
    (case l8 => k_is)
    (case c8 => k_is)
    (case k8 => k_is)
    (case a9 => k_is)
    (case l9 => k_is)
    (case c9 => k_is)
    (case k9 => k_is)
    (case a10 => k_is)
    (case l10 => k_is)
    (case c10 => k_is)
    (case k10 => k_is)
    (case a11 => k_is)
    (case l11 => k_is)
    (case c11 => k_is)
    (case k11 => k_is)
    (case a12 => k_is)
    (case l12 => k_is)
    (case c12 => k_is)
    (case k12 => k_is)
    (case a13 => k_is)
    (case l13 => k_is)
    (case c13 => k_is)
    (case k13 => k_is)
    (case a14 => k_is)
    (case l14 => k_is)
    (case c14 => k_is)
    (case k14 => k_is)
    (case a15 => k_is)
    (case l15 => k_is)
    (case c15 => k_is)
    (case k15 => k_is)
    (case a16 => k_is)
    (case l16 => k_is)
    (case c16 => k_is)
    (case k16 => k_is)
    (case a17 => k_is)
    (case l17 => k_is)
    (case c17 => k_is)
    (case k17 => k_is)
    (case a18 => k_is)
    (case l18 => k_is)
    (case c18 => k_is)
    (case k18 => k_is)
    (case a19 => k_is)
    (case l19 => k_is)
    (case c19 => k_is)
    (case k19 => k_is)
    (case xa => k_is)
    (case xa0 => k_is)
    (case xa1 => k_is)
    (case xa2 => k_is)
    (case xa3 => k_is)
    (case xz => k_is)
    (case xi => k_is)
    (case xl => k_is)
    (case xc => k_is)
    (case xk => k_is)
    (case xlc => k_is)
    (case xb => rfl)
    (case xf => k_is)
    (case xkp => k_is)
    (case xsa => k_is)
    (case xat => k_is)
    (case xga => k_is)
    (case xgh => k_is)
    (case xcl => k_is)
    (case xs0 => k_is)
    (case xs1 => k_is)
    (case xs2 => k_is)
    (case xs3 => k_is)
    (case xs4 => k_is)
    (case xp0 => k_is)
    (case xq0 => k_is)
    (case xr0 => k_is)
    (case xp1 => k_is)
    (case xq1 => k_is)
    (case xr1 => k_is)
    (case xp2 => k_is)
    (case xq2 => k_is)
    (case xr2 => k_is)
    (case xp3 => k_is)
    (case xq3 => k_is)
    (case xr3 => k_is)
    (case z1 => k_is)
    (case z2 => k_is)
    (case z3 => k_is)
    (case z4 => k_is)
    (case z5 => k_is)
    (case z6 => k_is)
    (case z7 => k_is)
    (case z8 => k_is)
    (case z9 => k_is)
    (case z10 => k_is)
